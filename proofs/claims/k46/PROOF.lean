import PyProof.Rows.All
import Wide.All
import OpenK.AllK
import Wide.FinOn
import Lean
import PyProof.EqAt
import PyProof.EqKinds
import PyProof.TupleCall
import PyProof.ZipIter
import PyProof.EnumMake
import PyProof.ListRange
import KE.KDictList
import KE.LcSums
import KE.KTabLook
import PyProof.P3In
import KE.KIntText
import PyProof.StrLoop
import PyProof.StrWalks
import PyProof.StrCalls2
import PyProof.StrLawsTight
import PyProof.StrLawsChain
import KE.KDictLaws
import PyProof.DictCompW
import PyProof.DictWalks
import PyProof.DictItemsLoops
import PySem.Challenge.RW_lazyrails_k46_whole_size_of_the_rails
set_option Elab.async false
set_option linter.all false
set_option maxRecDepth 100000
open List (length_map mem_cons_of_mem mem_append_right mem_cons_self mem_cons getElem?_map map_append mem_singleton mem_append size_toArray getElem?_eq_getElem append_assoc map_cons mem_of_getElem? mem_append_left mem_map pairwise_append length_replicate length_append not_mem_nil length_cons mem_range append_nil length_take mem_map_of_mem lookup_cons getElem?_append_right getElem?_append_left length_singleton find?_cons map_map)
noncomputable section
namespace L2
open PySem PySem.Spec PyProof.Rows
theorem U.{u} {α:Sort u}{a:α}:a=a:=rfl
theorem O.{u} {α:Sort u}{a:α}:a=a:=rfl
theorem J.{u} {α:Sort u}{a:α}:a=a:=rfl
theorem F.{u} {α:Sort u}{a:α}:a=a:=rfl
theorem Z.{u} {α:Sort u}{a:α}:a=a:=rfl
noncomputable abbrev Key:=Sum Int Str
noncomputable def fq:Key->Value->Bool
 | .inl k,v=>Value.isInt k v
 | .inr x,v=>Value.isStrOf x v
noncomputable def keyH (w:World):Key->Int
 | .inl k=>hashInt k
 | .inr x=>hashStr w x
theorem aV:∀ {k:Key}{v:Value},fq k v=true->(∃ i t,k=Sum.inl i/\v=Value.int i t)∨(∃ x t,k=Sum.inr x/\v=Value.str x t)
 | .inl i,v,h=>by
  obtain⟨t,e⟩:=Value.isInt_shape (k:=i) (v:=v) h
  exact .inl ⟨i,t,U,e⟩
 | .inr x,v,h=>by
  obtain⟨t,e⟩:=Value.isStrOf_shape (x:=x) (v:=v) h
  exact .inr ⟨x,t,U,e⟩
theorem ji (i:Int) (t:Tok):fq (.inl i) (.int i t)=true:=by simp[fq,Value.isInt]
theorem jh (x:Str) (t:Tok):fq (.inr x) (.str x t)=true:=by simp[fq,Value.isStrOf]
theorem oJ (a b:Int):decide ((Sum.inl a:Key)=Sum.inl b)=(a == b):=by
 by_cases e:a=b
 ·subst e; simp
 ·have h:¬ (Sum.inl a:Key)=Sum.inl b:=fun q=>e (Sum.inl.inj q)
  rw[decide_eq_false h]
  exact(beq_eq_false_iff_ne.mpr e).symm
theorem oG (a b:Str):decide ((Sum.inr a:Key)=Sum.inr b)=decide (a=b):=by
 by_cases e:a=b
 ·subst e; simp
 ·have h:¬ (Sum.inr a:Key)=Sum.inr b:=fun q=>e (Sum.inr.inj q)
  rw[decide_eq_false h,decide_eq_false e]
theorem oI (a:Int) (b:Str):decide ((Sum.inl a:Key)=Sum.inr b)=false:=decide_eq_false (fun q=>nomatch q)
theorem oH (a:Str) (b:Int):decide ((Sum.inr a:Key)=Sum.inl b)=false:=decide_eq_false (fun q=>nomatch q)
noncomputable def ba (prog:Program) (w:World):PySem.KeyKind prog w Key where
 is:=fq
 hash:=keyH w
 inj:=fun v a b ha hb=>by
  rcases aV ha with ⟨i,t,rfl,rfl⟩ | ⟨x,t,rfl,rfl⟩
  ·rcases aV hb with ⟨j,u,rfl,e⟩ | ⟨y,u,rfl,e⟩
   ·injection e with e1 _; rw[e1]
   ·exact nomatch e
  ·rcases aV hb with ⟨j,u,rfl,e⟩ | ⟨y,u,rfl,e⟩
   ·exact nomatch e
   ·injection e with e1 _; rw[e1]
 byValue:=fun k v h=>by
  rcases aV h with ⟨i,t,rfl,rfl⟩ | ⟨x,t,rfl,rfl⟩ <;> rfl
 pyHash:=fun hv h=>by
  rcases aV hv with ⟨i,t,rfl,rfl⟩ | ⟨x,t,rfl,rfl⟩
  ·exact wpAny_pyHash_int h
  ·exact wpAny_pyHash_str h
 eqBool:=fun hu hv h=>by
  rcases aV hu with ⟨i,t,rfl,rfl⟩ | ⟨x,t,rfl,rfl⟩
  ·rcases aV hv with ⟨j,u,rfl,rfl⟩ | ⟨y,u,rfl,rfl⟩
   ·rw[oJ] at h; exact wpAny_eqBool_int h
   ·rw[oI] at h; exact SeqAt.EqAt.int_str i t y u _ _ _ _ h
  ·rcases aV hv with ⟨j,u,rfl,rfl⟩ | ⟨y,u,rfl,rfl⟩
   ·rw[oH] at h; exact SeqAt.EqAt.str_int x t j u _ _ _ _ h
   ·rw[oG] at h; exact wpAny_eqBool_str h
 «strs»:=fun k x t v h=>by
  rcases aV h with ⟨i,u,rfl,e⟩ | ⟨y,u,rfl,e⟩
  ·exact nomatch e
  ·injection e with e1 _
   subst e1
   cases v <;> rfl
theorem gH (prog:Program) (w:World) (i:Int) (t:Tok):(ba prog w).is (.inl i) (.int i t)=true:=ji i t
theorem gG (prog:Program) (w:World) (x:Str) (t:Tok):(ba prog w).is (.inr x) (.str x t)=true:=jh x t
inductive V where
 | non | bl (b:Bool) | int (i:Int) | str (x:Str) | byt (b:Array UInt8) | flt (b:UInt64) | ref (a:Addr) | ty (n:String)
 deriving DecidableEq
noncomputable def RelV:V->Value->Prop
 | .non,u=>u=Value.none
 | .bl b,u=>u=Value.bool b
 | .int i,u=>∃ t,u=Value.int i t
 | .str x,u=>∃ t,u=Value.str x t
 | .byt b,u=>∃ t,u=Value.bytes b t
 | .flt b,u=>∃ t,u=Value.float b t
 | .ref a,u=>u=Value.ref a
 | .ty n,u=>u=Value.type n
noncomputable abbrev Vals:List V->List Value->Prop:=Paired RelV
theorem Vals.length {xs:List V}{us:List Value} (r:Vals xs us):xs.length=us.length:=Paired.length r
theorem Vals.get:∀ {xs:List V}{us:List Value}{i:Nat}{x:V},Vals xs us->xs[i]?=some x->∃ u,us[i]?=some u/\RelV x u
 | _,_,_,_,.nil,e=>by simp at e
 | _,_,0,_,.cons r _,e=>by simp at e; subst e; exact⟨_,U,r⟩
 | _,_,i+1,x,.cons _ t,e=>by
  obtain⟨u,h1,h2⟩:=Vals.get (i:=i) (x:=x) t (by simpa using e)
  exact⟨u,by simpa using h1,h2⟩
theorem Vals.set {x:V}{u:Value} (r:RelV x u):∀ {xs:List V}{us:List Value} (i:Nat),Vals xs us->Vals (xs.set i x) (us.set i u)
 | _,_,_,.nil=>.nil
 | _,_,0,.cons _ t=>.cons r t
 | _,_,i+1,.cons q t=>.cons q (Vals.set r i t)
theorem Vals.append:∀ {xs ys:List V}{us ws:List Value},Vals xs us->Vals ys ws->Vals (xs++ys) (us++ws)
 | _,_,_,_,.nil,s=>s
 | _,_,_,_,.cons r t,s=>.cons r (Vals.append t s)
theorem Vals.take:∀ {xs:List V}{us:List Value} (n:Nat),Vals xs us->Vals (xs.take n) (us.take n)
 | _,_,0,_=>.nil
 | _,_,_+1,.nil=>.nil
 | _,_,n+1,.cons r t=>.cons r (Vals.take n t)
theorem Vals.drop:∀ {xs:List V}{us:List Value} (n:Nat),Vals xs us->Vals (xs.drop n) (us.drop n)
 | _,_,0,r=>r
 | _,_,_+1,.nil=>.nil
 | _,_,n+1,.cons _ t=>Vals.drop n t
noncomputable def RelO:Option V->Option Value->Prop
 | some v,some u=>RelV v u
 | none,none=>True
 | _,_=>False
noncomputable def KV {κ:Type}:List (κ×V)->List (κ×Value)->Prop:=Paired fun(p:κ×V) (q:κ×Value)=>p.1=q.1/\RelV p.2 q.2
noncomputable def kV:Key->V
 | .inl i=>.int i
 | .inr x=>.str x
inductive HO where
  | lst (xs:List V)
  | tup (xs:List V)
  | dK (kvs:List (Key×V)) | dT (kvs:List (List Key×V))
  | set (S:Int->Bool) (n:Nat)
  | ins (C dx:Addr) (fs:List (Str×V))
  | own (x:Addr)
  | xd (fs:List (Str×V))
  | met (f x:Addr)
  | rng (lo hi:Int)
  | frz (o:Obj) (u:HO)
  | tbl (ps:Array Value)
  | ext (φ:Heap->Prop)
noncomputable abbrev Hp:=Addr->Option HO
noncomputable def upd (H:Hp) (a:Addr) (o:HO):Hp:=fun b=>if b=a then some o else H b
theorem bw {H:Hp}{a:Addr}{o:HO}:upd H a o a=some o:=by unfold upd; rw[if_pos rfl]
theorem av {H:Hp}{a b:Addr}{o:HO} (h:b≠a):upd H a o b=H b:=by unfold upd; rw[if_neg h]
theorem kq {H:Hp}{a b:Addr}{o u:HO} (h:H a=some o) (h':H b=some u) (d:o≠u):a≠b:=by
 intro e; subst e; rw[h] at h'; exact d (Option.some.inj h')
theorem aY {H:Hp}{a b:Addr}{o:HO} (h:H a=some o) (h':H b=none):a≠b:=by
 intro e; subst e; rw[h] at h'; cases h'
section
variable (P:Program) (w:World)
noncomputable def ObjOk (H:Hp) (h:Heap) (a:Addr):HO->Prop
 | .lst xs=>xs.length<=sizeLine/\∃ (its:List Value) (n:Nat),Vals xs its/\h.get? a=some { cls:=.type "list",data:=.seq its.toArray n }
 | .tup xs=>xs.length<=sizeLine/\∃ its:List Value,Vals xs its/\IsTup h a its.toArray
 | .dK kvs=>kvs.length<=sizeLine/\(a == sysModules)=false/\∃ vs,KV kvs vs/\h.DictOf (ba P w) a vs
 | .dT kvs=>kvs.length<=sizeLine/\(a == sysModules)=false/\∃ xs:List (List Key×Addr×Value),
   Paired (fun(p:List Key×V) (q:List Key×Addr×Value)=>p.1=q.1/\H q.2.1=some (.tup (p.1.map kV))/\RelV p.2 q.2.2) kvs xs /\
   ∃ o es ep,h.get? a=some o/\o.ExactDict/\o.data=.dict es ep/\es.toList=xs.map (entryOfKey (tupleKind (ba P w)))/\(xs.map (·.1)).Nodup
 | .set S n=>h.SetOf (intKind P w) a S n
 | .ins C dx fs=>H dx=some (.own a)/\fs.length<=1000/\dx≠a/\h.get? a=some (PySem.W.instObj C dx) /\
   ∃ mA,h.Ns1 dx mA/\(∀ f,RelO (fs.lookup f) (mA f))/\PySem.Within mA (fs.map (·.1))
 | .own _=>∃ o,h.get? a=some o
 | .xd fs=>∃ mA,h.Ns1 a mA/\∀ f,RelO (fs.lookup f) (mA f)
 | .rng lo hi=>∃ t u v,h.get? a=some { cls:=.type "range",data:=.fields #[.int lo t,.int hi u,.int 1 v] }
 | .frz o u=>h.get? a=some o/\ObjOk H h a u
 | .tbl ps=>h.get? a=some { cls:=.none,data:=.fields ps }
 | .met f x=>h.get? a=some (PySem.W.methodObj (.ref f) (.ref x))
 | .ext φ=>φ h/\(∃ o,h.get? a=some o)/\∀ h1 h2:Heap,φ h1->(∀ o,h1.get? a=some o->h2.get? a=some o)->φ h2
noncomputable def HOk (H:Hp) (h:Heap):Prop:=∀ a o,H a=some o->ObjOk P w H h a o
end
section
variable {P:Program}{w:World}{H H':Hp}{h h':Heap}{a:Addr}{o:HO}
theorem ObjOk.lt (x:ObjOk P w H h a o):a<h.objs.size:=by
 cases o with
 | lst xs=>obtain⟨_,_,_,_,e⟩:=x; exact Heap.lt_size e
 | tup xs=>obtain⟨_,_,_,p⟩:=x; exact p.lt
 | dK kvs=>obtain⟨_,_,_,_,o,_,_,e,_⟩:=x; exact Heap.lt_size e
 | dT kvs=>obtain⟨_,_,_,_,o,_,_,e,_⟩:=x; exact Heap.lt_size e
 | set S n=>obtain⟨o,_,_,_,e,_⟩:=x; exact Heap.lt_size e
 | ins C dx fs=>obtain⟨_,_,_,e,_⟩:=x; exact Heap.lt_size e
 | own y=>obtain⟨_,e⟩:=x; exact Heap.lt_size e
 | xd fs=>obtain⟨_,⟨_,_,_,e,_⟩,_⟩:=x; exact Heap.lt_size e
 | rng lo hi=>obtain⟨_,_,_,e⟩:=x; exact Heap.lt_size e
 | frz ob u=>obtain⟨e,_⟩:=x; exact Heap.lt_size e
 | tbl ps=>exact Heap.lt_size (show h.get? a=some _ from x)
 | met f y=>exact Heap.lt_size (show h.get? a=some _ from x)
 | ext φ=>obtain⟨_,⟨_,e⟩,_⟩:=x; exact Heap.lt_size e
theorem Paired.mapP {α β:Type}{F G:α->β->Prop}:∀ {l₁:List α}{l₂:List β},Paired F l₁ l₂->(∀ a b,F a b->G a b)->Paired G l₁ l₂
 | _,_,.nil,_=>.nil
 | _,_,.cons r t,f=>.cons (f _ _ r) (Paired.mapP t f)
theorem ObjOk.stay (x:ObjOk P w H h a o) (k:∀ b u,(b=a∨H b=some (.own a))->h.get? b=some u->h'.get? b=some u)
  (ho:∀ b,H b=some (.own a)->H' b=some (.own a)) (ht:∀ b xs,H b=some (.tup xs)->H' b=some (.tup xs)):ObjOk P w H' h' a o:=by
 induction o with
 | lst xs=>obtain⟨z,its,n,r,e⟩:=x; exact⟨z,its,n,r,k _ _ (.inl rfl) e⟩
 | tup xs=>obtain⟨z,its,r,ob,e,c⟩:=x; exact⟨z,its,r,ob,k _ _ (.inl rfl) e,c⟩
 | dK kvs=>obtain⟨z,y,vs,r,ob,es,ep,e,c⟩:=x; exact⟨z,y,vs,r,ob,es,ep,k _ _ (.inl rfl) e,c⟩
 | dT kvs=>
  obtain⟨z,y,xs,r,ob,es,ep,e,c⟩:=x
  exact⟨z,y,xs,Paired.mapP r fun p q z=>⟨z.1,ht _ _ z.2.1,z.2.2⟩,ob,es,ep,k _ _ (.inl rfl) e,c⟩
 | set S n=>obtain⟨ob,es,ep,t,e,c⟩:=x; exact⟨ob,es,ep,t,k _ _ (.inl rfl) e,c⟩
 | ins C dx fs=>
  obtain⟨d,z,ne,e,mA,⟨od,es,ep,e2,c⟩,r⟩:=x
  exact⟨ho _ d,z,ne,k _ _ (.inl rfl) e,mA,⟨od,es,ep,k _ _ (.inr d) e2,c⟩,r⟩
 | own y=>obtain⟨ob,e⟩:=x; exact⟨ob,k _ _ (.inl rfl) e⟩
 | xd fs=>obtain⟨mA,⟨od,es,ep,e,c⟩,r⟩:=x; exact⟨mA,⟨od,es,ep,k _ _ (.inl rfl) e,c⟩,r⟩
 | rng lo hi=>obtain⟨t,u,v,e⟩:=x; exact⟨t,u,v,k _ _ (.inl rfl) e⟩
 | frz ob u ih=>obtain⟨e,q⟩:=x; exact⟨k _ _ (.inl rfl) e,ih q⟩
 | tbl ps=>
  have e:h.get? a=some { cls:=.none,data:=.fields ps }:=x
  show h'.get? a=some { cls:=.none,data:=.fields ps }
  exact k a _ (.inl rfl) e
 | met f y=>
  have e:h.get? a=some (PySem.W.methodObj (.ref f) (.ref y)):=x
  show h'.get? a=some (PySem.W.methodObj (.ref f) (.ref y))
  exact k a _ (.inl rfl) e
 | ext φ=>obtain⟨p,⟨o,e⟩,st⟩:=x; exact⟨st _ _ p fun o q=>k _ _ (.inl rfl) q,⟨o,k _ _ (.inl rfl) e⟩,st⟩
theorem HOk.lt (x:HOk P w H h) (e:H a=some o):a<h.objs.size:=(x a o e).lt
theorem HOk.fresh (x:HOk P w H h) (e:h.objs.size<=a):H a=none:=by
 cases q:H a with
 | none=>rfl
 | some u=>exact absurd (Nat.lt_of_lt_of_le (x.lt q) e) (Nat.lt_irrefl _)
theorem HOk.kept (x:HOk P w H h) (k:∀ b u,h.get? b=some u->h'.get? b=some u):HOk P w H h':=fun a o e=>
 (x a o e).stay (fun b u _ q=>k b u q) (fun _ q=>q) fun _ _ q=>q
theorem HOk.laid (x:HOk P w H h) (k:∀ b u,h.get? b=some u->h'.get? b=some u) (hp:h.objs.size<=a) (new:ObjOk P w (upd H a o) h' a o):HOk P w (upd H a o) h':=fun b u e=>by
 have hn:=x.fresh hp
 by_cases hb:b=a
 ·subst hb; rw[bw] at e; cases e; exact new
 ·rw[av hb] at e
  exact(x b u e).stay (fun c v _ q=>k c v q) (fun c q=>by rw[av (aY q hn)]; exact q) fun c xs q=>by rw[av (aY q hn)]; exact q
end
noncomputable def Rd (H:Hp) (a:Addr) (u:HO):Prop:=H a=some u∨∃ o,H a=some (.frz o u)
theorem Rd.ok {P:Program}{w:World}{H:Hp}{h:Heap}{a:Addr}{u:HO} (r:Rd H a u) (x:HOk P w H h):ObjOk P w H h a u:=by
 rcases r with r | ⟨o,r⟩
 ·exact x a u r
 ·obtain⟨_,q⟩:=x a _ r
  exact q
noncomputable def Mut:Option HO->Prop
 | some (.lst _)=>True
 | some (.dK _)=>True
 | some (.dT _)=>True
 | some (.set _ _)=>True
 | some (.ins _ _ _)=>True
 | some (.ext _)=>True
 | _=>False
section
variable {P:Program}{w:World}{H:Hp}{h h':Heap}{x e:Addr}{o':HO}
theorem HOk.write (ok:HOk P w H h) (mu:Mut (H x)) (he:e=x∨H e=some (.own x)) (k:∀ b u,b≠e->h.get? b=some u->h'.get? b=some u) (heo:∃ u,h'.get? e=some u)
  (new:ObjOk P w (upd H x o') h' x o'):HOk P w (upd H x o') h':=fun b u q=>by
 have nown:∀ c y,H c=some (.own y)->c≠x:=fun c y r z=>by subst z; rw[r] at mu; exact mu
 have ntup:∀ c xs,H c=some (.tup xs)->c≠x:=fun c xs r z=>by subst z; rw[r] at mu; exact mu
 by_cases hb:b=x
 ·subst hb; rw[bw] at q; cases q; exact new
 ·rw[av hb] at q
  by_cases hbe:b=e
  ·have q':H b=some (.own x):=by
    rcases he with z | z
    ·exact absurd (hbe.trans z) hb
    ·rw[hbe]; exact z
   rw[q] at q'; cases q'
   obtain⟨v,hv⟩:=heo
   exact⟨v,by rw[hbe]; exact hv⟩
  ·refine(ok b u q).stay (fun c v hc r=>k c v ?_ r) (fun c r=>by rw[av (nown c b r)]; exact r) fun c xs r=>by rw[av (ntup c xs r)]; exact r
   rcases hc with rfl | hc
   ·exact hbe
   ·rintro rfl
    rcases he with z | z
    ·exact nown c b hc z
    ·rw[hc] at z; cases z; exact hb rfl
end
structure Un (fs ex:List Addr) (H H':Hp) (h h':Heap):Prop where
 keep:∀ b o,h.get? b=some o->H b=none->b ∉ fs->b ∉ ex->h'.get? b=some o
 slot:∀ b o,h.get? b=some o->H b=none->b ∈ fs->b ∉ ex->∃ sl,h'.get? b=some { o with slots:=sl }
 free:∀ b o,h.get? b=some o->H b=none->b ∉ ex->H' b=none
 there:∀ b o,h.get? b=some o->b ∉ ex->∃ o',h'.get? b=some o'
 tups:∀ b xs,H b=some (.tup xs)->H' b=some (.tup xs)
 frzs:∀ b o u,H b=some (.frz o u)->H' b=some (.frz o u)
 tbls:∀ b ps,H b=some (.tbl ps)->∃ more,H' b=some (.tbl (ps++more))
section
variable {fs fs' ex ex':List Addr}{H H1 H2:Hp}{h h1 h2 h':Heap}{a x e:Addr}{o:HO}
theorem Un.any (u:Un fs ex H H1 h h1) {b:Addr}{ob:Obj} (q:h.get? b=some ob) (n:H b=none) (hx:b ∉ ex):∃ sl,h1.get? b=some { ob with slots:=sl }:=by
 by_cases hb:b ∈ fs
 ·exact u.slot b ob q n hb hx
 ·exact⟨ob.slots,u.keep b ob q n hb hx⟩
theorem Un.trans (a:Un fs ex H H1 h h1) (b:Un fs ex H1 H2 h1 h2):Un fs ex H H2 h h2 where
 keep:=fun c ob q n hc hx=>b.keep c ob (a.keep c ob q n hc hx) (a.free c ob q n hx) hc hx
 slot:=fun c ob q n hc hx=>by
  obtain⟨sl,e1⟩:=a.slot c ob q n hc hx
  obtain⟨sl',e2⟩:=b.slot c _ e1 (a.free c ob q n hx) hc hx
  exact⟨sl',e2⟩
 free:=fun c ob q n hx=>by
  obtain⟨o',e1⟩:=a.there c ob q hx
  exact b.free c o' e1 (a.free c ob q n hx) hx
 there:=fun c ob q hx=>by
  obtain⟨o',e1⟩:=a.there c ob q hx
  exact b.there c o' e1 hx
 tups:=fun c xs q=>b.tups c xs (a.tups c xs q)
 frzs:=fun c ob xs q=>b.frzs c ob xs (a.frzs c ob xs q)
 tbls:=fun c ps q=>by
  obtain⟨m1,e1⟩:=a.tbls c ps q
  obtain⟨m2,e2⟩:=b.tbls c _ e1
  exact⟨m1++m2,by rw[e2,Array.append_assoc]⟩
theorem Un.kept (k:∀ b u,h.get? b=some u->h'.get? b=some u):Un fs ex H H h h' :=
 ⟨fun b ob q _ _ _=>k b ob q,fun b ob q _ _ _=>⟨ob.slots,k b ob q⟩,fun _ _ _ n _=>n,fun b ob q _=>⟨ob,k b ob q⟩,fun _ _ q=>q,fun _ _ _ q=>q,fun _ ps q=>⟨#[],by rw[q]; simp⟩⟩
theorem Un.refl:Un fs ex H H h h:=Un.kept fun _ _ q=>q
theorem Un.laid (k:∀ b u,h.get? b=some u->h'.get? b=some u) (hp:h.objs.size<=a) (hn:H a=none):Un fs ex H (upd H a o) h h' where
 keep:=fun b u q _ _ _=>k b u q
 slot:=fun b u q _ _ _=>⟨u.slots,k b u q⟩
 free:=fun b u q n _=>by rw[av (Nat.ne_of_lt (Nat.lt_of_lt_of_le (Heap.lt_size q) hp))]; exact n
 there:=fun b u q _=>⟨u,k b u q⟩
 tups:=fun b xs q=>by rw[av (aY q hn)]; exact q
 frzs:=fun b u xs q=>by rw[av (aY q hn)]; exact q
 tbls:=fun b ps q=>⟨#[],by rw[av (aY q hn),q]; simp⟩
theorem Un.write (mu:Mut (H x)) (he:e=x∨H e=some (.own x)) (k:∀ b u,b≠e->h.get? b=some u->h'.get? b=some u) (heo:∃ u,h'.get? e=some u):Un fs ex H (upd H x o) h h':=by
 have hx:∀ b,H b=none->b≠x:=fun b n z=>by subst z; rw[n] at mu; exact mu
 have hb:∀ b,H b=none->b≠e:=fun b n z=>by
  subst z
  rcases he with r | r
  ·exact hx b n r
  ·rw[n] at r; cases r
 have hm:∀ b u,H b=some u->¬ Mut (some u)->b≠x:=fun b u q nm z=>by subst z; rw[q] at mu; exact nm mu
 refine⟨fun b u q n _ _=>k b u (hb b n) q,fun b u q n _ _=>⟨u.slots,k b u (hb b n) q⟩,fun b u q n _=>by rw[av (hx b n)]; exact n,fun b u q _=>?_,
  fun b xs q=>by rw[av (hm b _ q fun z=>z)]; exact q,fun b u xs q=>by rw[av (hm b _ q fun z=>z)]; exact q,fun b ps q=>⟨#[],by rw[av (hm b _ q fun z=>z),q]; simp⟩⟩
 by_cases hbe:b=e
 ·subst hbe; exact heo
 ·exact⟨u,k b u hbe q⟩
end
noncomputable def trk (h:Heap) (H:Hp):List Addr:=(List.range h.objs.size).filter fun a=>(H a).isSome
noncomputable def fU (h:Heap) (H:Hp):Heap:=PySem.W.hideAll h (trk h H)
theorem jm (h:Heap) (H:Hp):(fU h H).objs.size=h.objs.size:=PySem.W.hideAll_size _ _
theorem kD {h:Heap}{H:Hp}{b:Addr}{o:Obj} (e:h.get? b=some o) (n:H b=none):(fU h H).get? b=some o :=
 PySem.W.hideAll_get _ e fun hm=>by
  have q:(H b).isSome=true:=(List.mem_filter.mp hm).2
  rw[n] at q; simp at q
theorem lN {h:Heap}{H:Hp}{b:Addr}{o:Obj} (e:(fU h H).get? b=some o):h.get? b=some o/\H b=none:=by
 have e':h.get? b=some o:=PySem.W.of_hideAll (trk h H) e
 refine⟨e',?_⟩
 cases q:H b with
 | none=>rfl
 | some x=>
  have hm:b ∈ trk h H:=List.mem_filter.mpr ⟨mem_range.mpr (Heap.lt_size e'),by simp[q]⟩
  have z:(fU h H).get? b=none:=PySem.W.hideAll_none (trk h H) hm
  rw[z] at e; cases e
noncomputable def l6 (g h:Heap) (L:Addr):List (Addr×Obj):=(List.range h.objs.size).filterMap fun a=>if a=L∨(g.get? a).isSome=true then none else(h.get? a).map fun o=>(a,o)
noncomputable def rest (g h:Heap) (L d:Addr):List (Addr×Obj):=(l6 g h L).filter fun p=>decide (p.1≠d)
structure Mod (K:PySem.W.Frag) (mg:Str->Option Value) (base:Heap):Prop where
 kin:K.In base
 glob:base.Ns mainGlobals mg
 blt:∃ mb,base.Ns builtinsNs mb/\∀ x:Str,x ≠ "__name__" -> mb x=bootBuiltins x
 nolimit:base.NoLimit
structure Cx where
 prog:Program
 w:World
 K:PySem.W.Frag
 mg:Str->Option Value
 base:Heap
 A:Around
 N:List Str
 s₀:Shared
 H₀:Hp
 env:Env
 outer:List Env
 stack:List Env
 ex:List Addr
 fn:Str->Bool
 calm:Bool
 pn:List (Addr×Obj)
 xe:Value->Shared->Prop
noncomputable def frs (l:List Env):List Addr:=l.filterMap (·.frame)
noncomputable abbrev Cx.fs (X:Cx):List Addr:=frs X.outer
noncomputable def Vis (sc:Scope) (x:Str):Prop:=sc.names.lookup x=some .local∨sc.names.lookup x=some .cell∨sc.names.lookup x=some .free
noncomputable def Loc (sc:Scope) (x:Str):Prop:=sc.names.lookup x=some .local∨sc.names.lookup x=some .cell
noncomputable def Look (env:Env) (h:Heap) (m:Str->Option Value) (x:Str) (u:Value):Prop :=
 (env.kindOf x=some .local/\m x=some u)∨((env.kindOf x=some .cell∨env.kindOf x=some .free)/\∃ c,env.cells.lookup x=some c/\h.IsCell c (some u))
structure Cx.Ok (X:Cx):Prop where
 mod:Mod X.K X.mg X.base
 kind:X.env.scope.kind=.function
 glob:X.env.globals=mainGlobals
 blt:X.env.builtins=builtinsNs
 above:X.s₀.heap.objs.size<=X.env.locals
 inj:∀ x y c,X.env.cells.lookup x=some c->X.env.cells.lookup y=some c->x=y
 has:∀ x,(X.env.kindOf x=some .cell∨X.env.kindOf x=some .free)->∃ c,X.env.cells.lookup x=some c
 cab:∀ x c,X.fn x=true->X.env.cells.lookup x=some c->X.s₀.heap.objs.size<=c
 hd:X.calm=true->X.A.handled=none
 frames:X.A.frames=some X.stack
 stk:X.stack=X.outer∨(X.stack=X.env::X.outer/\X.env.frame=some X.env.locals)
 exf:∀ b ∈ X.ex,b≠X.env.locals/\∀ x c,X.env.cells.lookup x=some c->c≠b
 bs:∀ b o,X.base.get? b=some o->X.s₀.heap.get? b=some o/\X.H₀ b=none
 bsz:X.base.objs.size<=X.s₀.heap.objs.size
 noex:∀ b o,X.base.get? b=some o->b ∉ X.ex
 exfs:∀ b ∈ X.ex,b ∉ X.fs
 funs:X.s₀.heap.FunFrames X.base X.outer
 frf:∀ b ∈ X.fs,X.H₀ b=none
structure Inv (X:Cx) (pins:List (Addr×Obj)) (σ:List (Option V)) (H:Hp) (s:Shared):Prop where
 ok:X.Ok
 os:s.os=X.s₀.os
 bare:AllBare s.gens
 base:Un X.fs X.ex X.H₀ H X.s₀.heap s.heap
 loc:∃ m,s.heap.Ns X.env.locals m/\∀ (i:Nat) (x:Str) (v:V),X.N[i]?=some x->σ[i]?=some (some v)->Vis X.env.scope x->∃ u,RelV v u/\Look X.env s.heap m x u
 cell:∀ x c,X.env.cells.lookup x=some c->∃ v,s.heap.IsCell c v
 free:H X.env.locals=none
 freeC:∀ x c,X.env.cells.lookup x=some c->H c=none
 pin:∀ p ∈ X.pn++pins,s.heap.get? p.1=some p.2/\H p.1=none/\p.1≠X.env.locals/\p.1 ∉ X.fs/\∀ v,p.2.data≠.cell v
 hok:HOk X.prog X.w H s.heap
 len:σ.length=X.N.length
section
variable {X:Cx}{pins:List (Addr×Obj)}{σ:List (Option V)}{H H':Hp}{s:Shared}{h':Heap}
theorem Cx.Ok.nofr (ok:X.Ok) {b:Addr}{o:Obj} (e:X.base.get? b=some o):b ∉ X.fs:=fun hb=>by
 have:=(ok.funs.mem hb).1
 rw[e] at this; cases this
theorem Inv.bs (I:Inv X pins σ H s):∀ b o,X.base.get? b=some o->s.heap.get? b=some o/\H b=none:=fun b o e=>
 ⟨I.base.keep b o (I.ok.bs b o e).1 (I.ok.bs b o e).2 (I.ok.nofr e) (I.ok.noex b o e),I.base.free b o (I.ok.bs b o e).1 (I.ok.bs b o e).2 (I.ok.noex b o e)⟩
theorem Inv.bk (I:Inv X pins σ H s):∀ b o,X.base.get? b=some o->s.heap.get? b=some o:=fun b o e=>(I.bs b o e).1
theorem Inv.mod (I:Inv X pins σ H s):Mod X.K X.mg X.base:=I.ok.mod
theorem Inv.kIn (I:Inv X pins σ H s):X.K.In s.heap:=I.ok.mod.kin.keeps I.bk
theorem Inv.lt (I:Inv X pins σ H s):X.env.locals<s.heap.objs.size:=let ⟨_,hn,_⟩:=I.loc; hn.lt
theorem Inv.sz (I:Inv X pins σ H s):X.s₀.heap.objs.size<=s.heap.objs.size:=Nat.le_trans I.ok.above (Nat.le_of_lt I.lt)
theorem Inv.nofs (I:Inv X pins σ H s) {a:Addr} (h:s.heap.objs.size<=a):a ∉ X.fs:=fun hb=>by
 obtain⟨_,o,ho,_⟩:=I.ok.funs.mem hb
 exact absurd (Nat.lt_of_lt_of_le (Heap.lt_size ho) (Nat.le_trans I.sz h)) (Nat.lt_irrefl _)
theorem Inv.cne (I:Inv X pins σ H s):∀ x c,X.env.cells.lookup x=some c->c≠X.env.locals:=fun x c e z=>by
 obtain⟨v,o,ho,hd⟩:=I.cell x c e
 obtain⟨m,⟨o',es,ep,ho',hd',_⟩,_⟩:=I.loc
 rw[z,ho'] at ho; cases ho; rw[hd'] at hd; cases hd
theorem Inv.funs (I:Inv X pins σ H s):s.heap.FunFrames X.base X.outer:=by
 have all:∀ (l:List Env),(∀ b ∈ frs l,b ∈ X.fs)->X.s₀.heap.FunFrames X.base l->s.heap.FunFrames X.base l:=by
  intro l
  induction l with
  | nil=>intro _ _; trivial
  | cons env r ih=>
   intro hs hl
   obtain⟨hk,⟨L,o,hf,hn,ho,hd⟩,hr⟩:=hl
   have hL:L ∈ X.fs:=hs L (by unfold frs; rw[List.filterMap_cons,hf]; exact mem_cons_self)
   obtain⟨sl,e⟩:=I.base.slot L o ho (I.ok.frf L hL) hL fun z=>I.ok.exfs L z hL
   exact⟨hk,⟨L,_,hf,hn,e,hd⟩,ih (fun b hb=>hs b (by unfold frs; rw[List.filterMap_cons,hf]; exact mem_cons_of_mem _ hb)) hr⟩
 exact all X.outer (fun _ hb=>hb) I.ok.funs
theorem Inv.stack (I:Inv X pins σ H s):s.heap.FunFrames X.base X.stack:=by
 rcases I.ok.stk with e | ⟨e,hf⟩
 ·rw[e]; exact I.funs
 ·rw[e]
  obtain⟨m,hn,_⟩:=I.loc
  refine .cons (by rw[I.ok.kind]; decide) hf hn ?_ I.funs
  exact Heap.get?_none_of_le (Nat.le_trans I.ok.bsz I.ok.above)
theorem Inv.stkSub (I:Inv X pins σ H s):∀ b ∈ frs X.stack,b ∈ X.env.locals::X.fs:=fun b hb=>by
 rcases I.ok.stk with e | ⟨e,hf⟩
 ·rw[e] at hb; exact mem_cons_of_mem _ hb
 ·rw[e] at hb
  unfold frs at hb
  rw[List.filterMap_cons,hf] at hb
  exact hb
theorem Inv.stkFree (I:Inv X pins σ H s):∀ b ∈ frs X.stack,H b=none:=fun b hb=>by
 rcases mem_cons.mp (I.stkSub b hb) with e | hb
 ·rw[e]; exact I.free
 ·obtain⟨_,o,ho,_⟩:=I.ok.funs.mem hb
  exact I.base.free b o ho (I.ok.frf b hb) fun z=>I.ok.exfs b z hb
theorem Inv.step {g':Array GenState}{t':Nat}{d':Drawn}{ch:List Addr} (I:Inv X pins σ H s)
  (hch:∀ b ∈ ch,(b ∈ X.ex∨X.s₀.heap.objs.size<=b)/\b≠X.env.locals/\(∀ x c,X.env.cells.lookup x=some c->c≠b)/\∀ p ∈ X.pn++pins,p.1≠b)
  (keep:∀ b o,b≠X.env.locals->b ∉ X.fs->b ∉ ch->s.heap.get? b=some o->H b=none->h'.get? b=some o)
  (slot:∀ b o,b≠X.env.locals->b ∈ X.fs->b ∉ ch->s.heap.get? b=some o->H b=none->∃ sl,h'.get? b=some { o with slots:=sl }) (free:∀ b o,b ∉ ch->s.heap.get? b=some o->H b=none->H' b=none)
  (there:∀ b o,b ∉ ch->s.heap.get? b=some o->∃ o',h'.get? b=some o')
  (tups:∀ b xs,H b=some (.tup xs)->H' b=some (.tup xs)) (frzs:∀ b o u,H b=some (.frz o u)->H' b=some (.frz o u)) (tbls:∀ b ps,H b=some (.tbl ps)->∃ more,H' b=some (.tbl (ps++more)))
  (ns:∀ m,s.heap.Ns X.env.locals m->h'.Ns X.env.locals m) (hok:HOk X.prog X.w H' h') (hg:AllBare g') :
  Inv X pins σ H' { s with heap:=h',gens:=g',drawn:=d',toks:=t' }:=by
 have neL:∀ b o,X.s₀.heap.get? b=some o->b≠X.env.locals:=fun b o e=>Nat.ne_of_lt (Nat.lt_of_lt_of_le (Heap.lt_size e) I.ok.above)
 have neC:∀ b o,X.s₀.heap.get? b=some o->b ∉ X.ex->b ∉ ch:=fun b o e hx hb=>by
  rcases (hch b hb).1 with z | z
  ·exact hx z
  ·exact absurd (Nat.lt_of_lt_of_le (Heap.lt_size e) z) (Nat.lt_irrefl _)
 have cellK:∀ x c,X.env.cells.lookup x=some c->∀ v,s.heap.IsCell c v->h'.IsCell c v:=fun x c e v z_=>z_.elim fun o z_=>z_.elim fun ho hd=>by
  have nch:c ∉ ch:=fun z=>(hch c z).2.2.1 x c e rfl
  by_cases hc:c ∈ X.fs
  ·obtain⟨sl,q⟩:=slot c o (I.cne x c e) hc nch ho (I.freeC x c e)
   exact⟨_,q,hd⟩
  ·exact⟨o,keep c o (I.cne x c e) hc nch ho (I.freeC x c e),hd⟩
 refine⟨I.ok,I.os,hg,⟨fun b o e n hb hx=>?_,fun b o e n hb hx=>?_,fun b o e n hx=>?_,fun b o e hx=>?_,fun b xs e=>tups b xs (I.base.tups b xs e),fun b o xs e=>frzs b o xs (I.base.frzs b o xs e),fun b ps e=>?_⟩,?_,fun x c e=>?_,?_,fun x c e=>?_,fun p hp=>?_,hok,I.len⟩
 ·exact keep b o (neL b o e) hb (neC b o e hx) (I.base.keep b o e n hb hx) (I.base.free b o e n hx)
 ·obtain⟨sl,e1⟩:=I.base.slot b o e n hb hx
  obtain⟨sl',e2⟩:=slot b _ (neL b o e) hb (neC b o e hx) e1 (I.base.free b o e n hx)
  exact⟨sl',e2⟩
 ·obtain⟨o',e1⟩:=I.base.there b o e hx
  exact free b o' (neC b o e hx) e1 (I.base.free b o e n hx)
 ·obtain⟨o',e1⟩:=I.base.there b o e hx
  exact there b o' (neC b o e hx) e1
 ·obtain⟨m1,e1⟩:=I.base.tbls b ps e
  obtain⟨m2,e2⟩:=tbls b _ e1
  exact⟨m1++m2,by rw[e2,Array.append_assoc]⟩
 ·obtain⟨m,hn,hl⟩:=I.loc
  refine⟨m,ns m hn,fun i x v e1 e2 e3=>?_⟩
  obtain⟨u,r,l⟩:=hl i x v e1 e2 e3
  refine⟨u,r,?_⟩
  rcases l with l | ⟨k,c,e,z⟩
  ·exact .inl l
  ·exact .inr ⟨k,c,e,cellK x c e _ z⟩
 ·obtain⟨v,z⟩:=I.cell x c e
  exact⟨v,cellK x c e v z⟩
 ·obtain⟨m,⟨o,_,_,ho,_⟩,_⟩:=I.loc
  exact free _ o (fun z=>(hch _ z).2.1 rfl) ho I.free
 ·obtain⟨v,o,ho,hd⟩:=I.cell x c e
  exact free c o (fun z=>(hch c z).2.2.1 x c e rfl) ho (I.freeC x c e)
 ·obtain⟨e,n,ne,nf,d⟩:=I.pin p hp
  have nch:p.1 ∉ ch:=fun z=>(hch p.1 z).2.2.2 p hp rfl
  exact⟨keep p.1 p.2 ne nf nch e n,free p.1 p.2 nch e n,ne,nf,d⟩
theorem Inv.un {t':Nat} (I:Inv X pins σ H s) (u:Un X.fs [] H H' s.heap h') (hok:HOk X.prog X.w H' h'):Inv X pins σ H' { s with heap:=h',toks:=t' }:=by
 obtain⟨m,⟨o,es,ep,ho,r⟩,_⟩:=id I.loc
 obtain⟨sl,hL⟩:=u.any ho I.free (by simp)
 exact I.step (g':=s.gens) (d':=s.drawn) (ch:=[]) (fun _ z=>nomatch z) (fun b o _ hb _ e n=>u.keep b o e n hb (by simp)) (fun b o _ hb _ e n=>u.slot b o e n hb (by simp)) (fun b o _ e n=>u.free b o e n (by simp)) (fun b o _ e=>u.there b o e (by simp)) u.tups u.frzs u.tbls (fun m' hm=>by
  obtain⟨o',es',ep',ho',r'⟩:=hm
  rw[ho] at ho'; cases ho'
  exact⟨_,es',ep',hL,r'⟩) hok I.bare
theorem Inv.call {g':Array GenState}{t':Nat}{d':Drawn}{ch:List Addr} (I:Inv X pins σ H s) (u:Un (frs X.stack) ch H H' s.heap h') (hok:HOk X.prog X.w H' h') (hg:AllBare g')
  (hch:∀ b ∈ ch,(b ∈ X.ex∨X.s₀.heap.objs.size<=b)/\b≠X.env.locals/\(∀ x c,X.env.cells.lookup x=some c->c≠b)/\∀ p ∈ X.pn++pins,p.1≠b) :
  Inv X pins σ H' { s with heap:=h',gens:=g',drawn:=d',toks:=t' }:=by
 obtain⟨m,⟨o,es,ep,ho,r⟩,_⟩:=id I.loc
 obtain⟨sl,hL⟩:=u.any ho I.free fun z=>(hch _ z).2.1 rfl
 exact I.step (ch:=ch) hch (fun b o hL hb hc e n=>u.keep b o e n (fun z=>(mem_cons.mp (I.stkSub b z)).elim hL hb) hc) (fun b o _ _ hc e n=>u.any e n hc) (fun b o hc e n=>u.free b o e n hc) (fun b o hc e=>u.there b o e hc) u.tups u.frzs u.tbls (fun m' hm=>by
  obtain⟨o',es',ep',ho',r'⟩:=hm
  rw[ho] at ho'; cases ho'
  exact⟨_,es',ep',hL,r'⟩) hok hg
theorem Inv.turned {t':Nat}{it:Addr} (I:Inv X pins σ H s) (k:∀ b o,b≠it->s.heap.get? b=some o->h'.get? b=some o) (hn:H it=none) (hL:it≠X.env.locals)
  (h1:it ∈ X.ex∨X.s₀.heap.objs.size<=it) (h2:∀ x c,X.env.cells.lookup x=some c->c≠it) (h3:∀ p ∈ X.pn++pins,p.1≠it):Inv X pins σ H { s with heap:=h',toks:=t' }:=by
 have nit:∀ b u,H b=some u->b≠it:=fun b u e z=>by rw[z,hn] at e; cases e
 refine I.step (g':=s.gens) (d':=s.drawn) (ch:=[it]) (fun b hb=>?_) (fun b o _ _ hc e _=>k b o (fun z=>hc (by simp[z])) e) (fun b o _ _ hc e _=>⟨o.slots,k b o (fun z=>hc (by simp[z])) e⟩) (fun _ _ _ _ n=>n)
  (fun b o hc e=>⟨o,k b o (fun z=>hc (by simp[z])) e⟩) (fun _ _ e=>e) (fun _ _ _ e=>e) (fun b ps e=>⟨#[],by rw[e]; simp⟩) (fun m hm=>?_) (fun b u e=>?_) I.bare
 ·have e:b=it:=by simpa using hb
  subst e
  exact⟨h1,hL,h2,h3⟩
 ·obtain⟨o,es,ep,ho,r⟩:=hm
  exact⟨o,es,ep,k _ o (Ne.symm hL) ho,r⟩
 ·refine(I.hok b u e).stay (fun c v hc q=>k c v ?_ q) (fun _ q=>q) fun _ _ q=>q
  rcases hc with z | z
  ·rw[z]; exact nit b u e
  ·exact nit c _ z
theorem Inv.tok (I:Inv X pins σ H s) (t:Nat):Inv X pins σ H { s with toks:=t }:=I.un (h':=s.heap) (t':=t) Un.refl I.hok
theorem Inv.kept {t':Nat} (I:Inv X pins σ H s) (k:∀ b u,s.heap.get? b=some u->h'.get? b=some u):Inv X pins σ H { s with heap:=h',toks:=t' }:=I.un (Un.kept k) (I.hok.kept k)
theorem Inv.laid {a:Addr}{o:HO}{t':Nat} (I:Inv X pins σ H s) (k:∀ b u,s.heap.get? b=some u->h'.get? b=some u) (hp:s.heap.objs.size<=a) (new:ObjOk X.prog X.w (upd H a o) h' a o) :
  Inv X pins σ (upd H a o) { s with heap:=h',toks:=t' }:=I.un (Un.laid k hp (I.hok.fresh hp)) (I.hok.laid k hp new)
theorem Inv.write {x e:Addr}{o:HO}{t':Nat} (I:Inv X pins σ H s) (mu:Mut (H x)) (he:e=x∨H e=some (.own x)) (k:∀ b u,b≠e->s.heap.get? b=some u->h'.get? b=some u) (heo:∃ u,h'.get? e=some u)
  (new:ObjOk X.prog X.w (upd H x o) h' x o):Inv X pins σ (upd H x o) { s with heap:=h',toks:=t' }:=I.un (Un.write mu he k heo) (I.hok.write mu he k heo new)
theorem Inv.weak {σ':List (Option V)} (I:Inv X pins σ H s) (hl:σ'.length=σ.length) (w:∀ (i:Nat) v,σ'[i]?=some (some v)->σ[i]?=some (some v)):Inv X pins σ' H s :=
 ⟨I.ok,I.os,I.bare,I.base,let ⟨m,hn,hl'⟩:=I.loc; ⟨m,hn,fun i x v e1 e2 e3=>hl' i x v e1 (w i v e2) e3⟩,I.cell,I.free,I.freeC,I.pin,I.hok,hl.trans I.len⟩
theorem Inv.pins_of {pins':List (Addr×Obj)} (I:Inv X pins σ H s) (h:∀ p ∈ pins',s.heap.get? p.1=some p.2/\H p.1=none/\p.1≠X.env.locals/\p.1 ∉ X.fs/\∀ v,p.2.data≠.cell v):Inv X pins' σ H s :=
 ⟨I.ok,I.os,I.bare,I.base,I.loc,I.cell,I.free,I.freeC,fun p hp=>(mem_append.mp hp).elim (fun z=>I.pin p (mem_append_left _ z)) (h p),I.hok,I.len⟩
theorem gF {N:List Str} (hN:N.Nodup) {i j:Nat}{x:Str} (a:N[i]?=some x) (b:N[j]?=some x):i=j:=by
 obtain⟨h1,e1⟩:=List.getElem?_eq_some_iff.mp a
 obtain⟨h2,e2⟩:=List.getElem?_eq_some_iff.mp b
 exact(List.getElem_inj hN).mp (e1.trans e2.symm)
theorem iT {M:Model}{A:Around}{E:Value->Shared->Prop}{i:Nat}{x:Str}{v:V}{u:Value}{Q:Unit->Shared->Prop} (I:Inv X pins σ H s) (hN:X.N.Nodup) (hi:X.N[i]?=some x) (hx:Loc X.env.scope x) (r:RelV v u)
  (h:∀ s',Inv X pins (σ.set i (some v)) H s'->(∃ a,Heap.SameBut a s.heap s'.heap/\(a=X.env.locals∨X.env.cells.lookup x=some a))->Q () s') (hf:X.fn x=true∨X.env.scope.names.lookup x=some .local:=by first | exact .inl rfl | exact .inr rfl | assumption):wpAny M A (storeName X.env x u) Q E s:=by
 obtain⟨m,hn,hl⟩:=id I.loc
 have hcls:(X.env.scope.kind == .class || (X.env.scope.kind == .module && X.env.locals != X.env.globals)) = false:=by rw [I.ok.kind]; rfl
 have hiσ:i<σ.length:=by rw[I.len]; exact(List.getElem?_eq_some_iff.mp hi).1
 have cne:=I.cne
 have tracked:∀ {a:Addr}{h':Heap},(∃ o,s.heap.get? a=some o/\H a=none)->Heap.SameBut a s.heap h'->HOk X.prog X.w H h':=fun {a h'} ha hs b ob e=>by
  obtain⟨_,_,hfree⟩:=ha
  refine(I.hok b ob e).stay (fun c w' hc q=>(hs.2 c ?_).trans q) (fun _ q=>q) fun _ _ q=>q
  rintro rfl
  rcases hc with rfl | hc
  ·rw[hfree] at e; cases e
  ·rw[hfree] at hc; cases hc
 rcases hx with hk | hk
 ·refine wpAny_storeName_local hk hn (fun h' hn' hs=>?_) hcls
  obtain⟨oL,_,_,hoL,_⟩:=id hn
  refine h _ ⟨I.ok,I.os,I.bare,⟨fun b o e n hb hx=>?_,fun b o e n hb hx=>?_,I.base.free,fun b o e hx=>?_,I.base.tups,I.base.frzs,I.base.tbls⟩,⟨_,hn',fun j y v' e1 e2 e3=>?_⟩,fun y c e=>?_,I.free,I.freeC,fun p hp=>?_,tracked ⟨oL,hoL,I.free⟩ hs,by simpa using I.len⟩ ⟨_,hs,.inl rfl⟩
  ·exact(hs.2 b (Nat.ne_of_lt (Nat.lt_of_lt_of_le (Heap.lt_size e) I.ok.above))).trans (I.base.keep b o e n hb hx)
  ·obtain⟨sl,e1⟩:=I.base.slot b o e n hb hx
   exact⟨sl,(hs.2 b (Nat.ne_of_lt (Nat.lt_of_lt_of_le (Heap.lt_size e) I.ok.above))).trans e1⟩
  ·obtain⟨o',e1⟩:=I.base.there b o e hx
   exact⟨o',(hs.2 b (Nat.ne_of_lt (Nat.lt_of_lt_of_le (Heap.lt_size e) I.ok.above))).trans e1⟩
  ·by_cases hj:j=i
   ·subst hj
    rw[hi] at e1; cases e1
    rw[List.getElem?_set_self hiσ] at e2
    cases e2
    exact⟨u,r,.inl ⟨hk,by simp⟩⟩
   ·rw[List.getElem?_set_ne (Ne.symm hj)] at e2
    obtain⟨u',r',q⟩:=hl j y v' e1 e2 e3
    refine⟨u',r',?_⟩
    rcases q with ⟨k,e⟩ | ⟨k,c,e,z⟩
    ·refine .inl ⟨k,?_⟩
     have:y≠x:=fun e=>hj (gF hN e1 (e ▸ hi))
     simp[this,e]
    ·exact .inr ⟨k,c,e,z.sameBut hs (cne y c e)⟩
  ·obtain⟨w',z⟩:=I.cell y c e
   exact⟨w',z.sameBut hs (cne y c e)⟩
  ·obtain⟨e,n,ne,nf,d⟩:=I.pin p hp
   exact⟨(hs.2 p.1 ne).trans e,n,ne,nf,d⟩
 ·have hfn:X.fn x=true:=by
   rcases hf with z | z
   ·exact z
   ·rw[z] at hk; cases hk
  obtain⟨c,hc⟩:=I.ok.has x (.inl hk)
  obtain⟨w',z⟩:=I.cell x c hc
  refine wpAny_storeName_cell I.ok.kind hk hc z (fun h' hc' hs=>?_)
  obtain⟨oc,hoc,hocd⟩:=id z
  refine h { s with heap:=h' } ⟨I.ok,I.os,I.bare,⟨fun b o e n hb hx=>?_,fun b o e n hb hx=>?_,I.base.free,fun b o e hx=>?_,I.base.tups,I.base.frzs,I.base.tbls⟩,⟨m,hn.sameBut hs (Ne.symm (cne x c hc)),fun j y v' e1 e2 e3=>?_⟩,fun y c' e=>?_,I.free,I.freeC,fun p hp=>?_,tracked ⟨oc,hoc,I.freeC x c hc⟩ hs,by simpa using I.len⟩ ⟨c,hs,.inr hc⟩
  ·exact(hs.2 b (Nat.ne_of_lt (Nat.lt_of_lt_of_le (Heap.lt_size e) (I.ok.cab x c hfn hc)))).trans (I.base.keep b o e n hb hx)
  ·obtain⟨sl,e1⟩:=I.base.slot b o e n hb hx
   exact⟨sl,(hs.2 b (Nat.ne_of_lt (Nat.lt_of_lt_of_le (Heap.lt_size e) (I.ok.cab x c hfn hc)))).trans e1⟩
  ·obtain⟨o',e1⟩:=I.base.there b o e hx
   exact⟨o',(hs.2 b (Nat.ne_of_lt (Nat.lt_of_lt_of_le (Heap.lt_size e) (I.ok.cab x c hfn hc)))).trans e1⟩
  ·by_cases hj:j=i
   ·subst hj
    rw[hi] at e1; cases e1
    rw[List.getElem?_set_self hiσ] at e2
    cases e2
    exact⟨u,r,.inr ⟨.inl hk,c,hc,hc'⟩⟩
   ·rw[List.getElem?_set_ne (Ne.symm hj)] at e2
    obtain⟨u',r',q⟩:=hl j y v' e1 e2 e3
    refine⟨u',r',?_⟩
    rcases q with q | ⟨k,c',e,z'⟩
    ·exact .inl q
    ·refine .inr ⟨k,c',e,z'.sameBut hs ?_⟩
     rintro rfl
     exact hj (gF hN e1 (I.ok.inj _ _ _ e hc ▸ hi))
  ·by_cases hcc:c'=c
   ·subst hcc; exact⟨_,hc'⟩
   ·obtain⟨w2,z2⟩:=I.cell y c' e
    exact⟨w2,z2.sameBut hs hcc⟩
  ·obtain⟨e,n,ne,nf,d⟩:=I.pin p hp
   refine⟨(hs.2 p.1 ?_).trans e,n,ne,nf,d⟩
   intro q
   rw[q,hoc] at e
   have q':oc=p.2:=Option.some.inj e
   exact d w' (by rw[<- q']; exact hocd)
theorem gg {M:Model}{A:Around}{E:Value->Shared->Prop}{i:Nat}{x:Str}{v:V}{u:Value}{Q:Unit->Shared->Prop} (I:Inv X pins σ H s) (hN:X.N.Nodup) (hi:X.N[i]?=some x) (hx:Loc X.env.scope x) (r:RelV v u)
  (h:∀ s',Inv X pins (σ.set i (some v)) H s'->Q () s') (hf:X.fn x=true∨X.env.scope.names.lookup x=some .local:=by first | exact .inl rfl | exact .inr rfl | assumption):wpAny M A (storeName X.env x u) Q E s :=
 iT I hN hi hx r (fun s' I' _=>h s' I') hf
theorem Inv.call' {s':Shared}{ch:List Addr} (I:Inv X pins σ H s) (ho:s'.os=s.os) (u:Un (frs X.stack) ch H H' s.heap s'.heap) (hok:HOk X.prog X.w H' s'.heap) (hg:AllBare s'.gens)
  (hch:∀ b ∈ ch,(b ∈ X.ex∨X.s₀.heap.objs.size<=b)/\b≠X.env.locals/\(∀ x c,X.env.cells.lookup x=some c->c≠b)/\∀ p ∈ X.pn++pins,p.1≠b):Inv X pins σ H' s':=by
 obtain⟨h',g',d',t',o'⟩:=s'
 have e:o'=s.os:=ho
 subst e
 exact I.call (g':=g') (t':=t') (d':=d') u hok hg hch
end
noncomputable abbrev XK:=Value->Option Addr->Hp->Prop
noncomputable abbrev St:=List (Option V)
noncomputable abbrev VK:=V->Hp->Prop
noncomputable abbrev TE:=St->Hp->VK->Prop
noncomputable abbrev TT:=St->Hp->(Bool->Hp->Prop)->Prop
noncomputable abbrev TA:=St->Hp->(List V->Hp->Prop)->Prop
structure Ends where
 nx:St->Hp->Prop
 rt:VK
 bk:St->Hp->Prop:=fun _ _=>False
 ct:St->Hp->Prop:=fun _ _=>False
noncomputable abbrev TS:=Ends->St->Hp->Prop
noncomputable def EP (X:Cx) (pins:List (Addr×Obj)) (σ:St) (Q:VK) (u:Value) (s':Shared):Prop:=∃ v H',Inv X pins σ H' s'/\RelV v u/\Q v H'
noncomputable def TP (X:Cx) (pins:List (Addr×Obj)) (σ:St) (Q:Bool->Hp->Prop) (b:Bool) (s':Shared):Prop:=∃ H',Inv X pins σ H' s'/\Q b H'
noncomputable def AP (X:Cx) (pins:List (Addr×Obj)) (σ:St) (Q:List V->Hp->Prop) (us:List Value) (s':Shared):Prop:=∃ vs H',Inv X pins σ H' s'/\Vals vs us/\Q vs H'
noncomputable def SP (X:Cx) (pins:List (Addr×Obj)) (D:Ends) (f:Flow) (s':Shared):Prop :=
 match f with
 | .next=>∃ σ' H',Inv X pins σ' H' s'/\D.nx σ' H'
 | .brk=>∃ σ' H',Inv X pins σ' H' s'/\D.bk σ' H'
 | .cont=>∃ σ' H',Inv X pins σ' H' s'/\D.ct σ' H'
 | .ret u=>∃ v σ' H',Inv X pins σ' H' s'/\RelV v u/\D.rt v H'
noncomputable def PE (X:Cx) (e:Expr) (t:TE):Prop :=
 ∀ (pins:List (Addr×Obj)) (s:Shared) (σ:St) (H:Hp) (Q:VK),Inv X pins σ H s->t σ H Q->wpAny (model X.prog X.w) X.A (eval e X.env) (EP X pins σ Q) X.xe s
noncomputable def PT (X:Cx) (e:Expr) (t:TT):Prop :=
 ∀ (pins:List (Addr×Obj)) (s:Shared) (σ:St) (H:Hp) (Q:Bool->Hp->Prop),Inv X pins σ H s->t σ H Q->wpAny (model X.prog X.w) X.A (isTrue e X.env (eval e X.env)) (TP X pins σ Q) X.xe s
noncomputable def PW (X:Cx) (e:Expr) (t:TT):Prop :=
 ∀ (whole:Sem Value) (pins:List (Addr×Obj)) (s:Shared) (σ:St) (H:Hp) (Q:Bool->Hp->Prop),Inv X pins σ H s->t σ H Q->wpAny (model X.prog X.w) X.A (isTrue e X.env whole) (TP X pins σ Q) X.xe s
theorem PW.pt {X:Cx}{e:Expr}{t:TT} (h:PW X e t):PT X e t:=h _
noncomputable def PA (X:Cx) (es:List Expr) (t:TA):Prop :=
 ∀ (pos:Pos) (pins:List (Addr×Obj)) (s:Shared) (σ:St) (H:Hp) (Q:List V->Hp->Prop),Inv X pins σ H s->t σ H Q->wpAny (model X.prog X.w) X.A (spliced (backTo pos (starEach es X.env))) (AP X pins σ Q) X.xe s
noncomputable def PS (X:Cx) (st:Stmt) (t:TS):Prop :=
 ∀ (pins:List (Addr×Obj)) (s:Shared) (σ:St) (H:Hp) (D:Ends),Inv X pins σ H s->t D σ H->wpAny (model X.prog X.w) X.A (exec st X.env) (SP X pins D) X.xe s
noncomputable def PSs (X:Cx) (st:List Stmt) (t:TS):Prop :=
 ∀ (pins:List (Addr×Obj)) (s:Shared) (σ:St) (H:Hp) (D:Ends),Inv X pins σ H s->t D σ H->wpAny (model X.prog X.w) X.A (execs st X.env) (SP X pins D) X.xe s
theorem thn {α:Type}{t:Sem α}{Q Q':α->Shared->Prop}{M:Model}{A:Around}{E:Value->Shared->Prop}{s:Shared} (h:wpAny M A t Q E s) (hQ:∀ a s,Q a s->Q' a s):wpAny M A t Q' E s:=wpAny_mono h hQ fun _ _ x=>x
section
variable {X:Cx}
noncomputable def k8 (i:Nat):TE:=fun σ H Q=>∃ v,σ[i]?=some (some v)/\Q v H
noncomputable def tC (v:V):TE:=fun _ H Q=>Q v H
theorem nX {i:Nat}{x:Str}{pos:Pos} (hN:X.N[i]?=some x) (hv:Vis X.env.scope x) (hd:(x == ("__debug__" : Str))=false:=by decide) (hcd:(x == ("__classdict__" : Str))=false:=by decide):PE X (.Name x pos) (k8 i):=by
 intro pins s σ H Q I h
 obtain⟨v,e,h⟩:=h
 obtain⟨m,hn,hl⟩:=I.loc
 obtain⟨u,r,l⟩:=hl i x v hN e hv
 have fin:EP X pins σ Q u s:=⟨v,H,I,r,h⟩
 rcases l with ⟨hk,hm⟩ | ⟨hk,c,hc,hcell⟩
 ·exact wpAny_Name (wpAny_loadName_local I.ok.kind hk hn hm fin) hd
 ·rcases hk with hk | hk
  ·exact wpAny_Name (wpAny_loadName_cell I.ok.kind hk hc hcell fin) hd
  ·exact wpAny_Name (wpAny_loadName_free I.ok.kind hk hc hcell fin hcd) hd
theorem ag {i j pos}:PE X (.Constant (.int i) j pos) (tC (.int i)):=fun _ _ _ H _ I h=>wpAny_Constant_int ⟨.int i,H,I.tok _,⟨_,U⟩,h⟩
theorem g9 {j pos}:PE X (.Constant .none j pos) (tC .non):=fun _ _ _ H _ I h=>Constant_none ⟨.non,H,I,U,h⟩
theorem aF {x j pos}:PE X (.Constant (.str x) j pos) (tC (.str x)):=fun _ _ _ H _ I h=>Calls.Constant_str ⟨.str x,H,I.tok _,⟨_,U⟩,h⟩
noncomputable def Gl (X:Cx) (x:Str):Prop:=X.env.kindOf x=some .globalImplicit
theorem dw {E:Value->Shared->Prop}{pins:List (Addr×Obj)}{s:Shared}{σ:St}{H:Hp}{x:Str}{u:Value}{pos:Pos}{Q:Value->Shared->Prop} (I:Inv X pins σ H s) (hg:Gl X x) (hm:X.mg x=some u) (h:Q u s)
  (hd:(x == ("__debug__" : Str))=false:=by decide):wpAny (model X.prog X.w) X.A (eval (.Name x pos) X.env) Q E s :=
 Calls.Name_function_global I.ok.kind hg (Calls.loadGlobal_global (by rw[I.ok.glob]; exact I.mod.glob.keeps I.bk) hm h) hd
theorem cy {E:Value->Shared->Prop}{pins:List (Addr×Obj)}{s:Shared}{σ:St}{H:Hp}{x:Str}{u:Value}{pos:Pos}{Q:Value->Shared->Prop} (I:Inv X pins σ H s) (hg:Gl X x) (hm:X.mg x=none) (hv:bootBuiltins x=some u) (h:Q u s)
  (hn:x ≠ "__name__":=by decide) (hd:(x == ("__debug__" : Str))=false:=by decide):wpAny (model X.prog X.w) X.A (eval (.Name x pos) X.env) Q E s:=by
 obtain⟨mb,h1,h2⟩:=I.mod.blt
 exact Calls.Name_function_global I.ok.kind hg (Calls.loadGlobal_builtin (by rw[I.ok.glob]; exact I.mod.glob.keeps I.bk) hm (by rw[I.ok.blt]; exact h1.keeps I.bk) ((h2 x hn).trans hv) h) hd
theorem bQ {x:Str}{v:V}{u:Value}{pos:Pos} (hg:Gl X x) (hm:X.mg x=some u) (r:RelV v u) (hd:(x == ("__debug__" : Str))=false:=by decide):PE X (.Name x pos) (tC v) :=
 fun _ _ _ H _ I h=>dw I hg hm ⟨v,H,I,r,h⟩ hd
theorem lK {x:Str}{v:V}{u:Value}{pos:Pos} (hg:Gl X x) (hm:X.mg x=none) (hv:bootBuiltins x=some u) (r:RelV v u) (hn:x ≠ "__name__":=by decide) (hd:(x == ("__debug__" : Str))=false:=by decide):PE X (.Name x pos) (tC v) :=
 fun _ _ _ H _ I h=>cy I hg hm hv ⟨v,H,I,r,h⟩ hn hd
variable {a b:Expr}{ta tb:TE}{pos:Pos}
noncomputable def PC (X:Cx) (op:CmpOp) (a b:Expr) (t:TE):Prop :=
 ∀ (pins:List (Addr×Obj)) (s:Shared) (σ:St) (H:Hp) (Q:VK),Inv X pins σ H s->t σ H Q ->
  wpAny (model X.prog X.w) X.A (eval a X.env) (fun v s₁=>wpAny (model X.prog X.w) X.A (eval b X.env) (fun u s₂=>wpAny (model X.prog X.w) X.A (compareOp op v u) (EP X pins σ Q) X.xe s₂) X.xe s₁) X.xe s
noncomputable def tB (t:TE):TT:=fun σ H Q=>t σ H fun x H1=>∃ c,x=.bl c/\Q c H1
theorem jX {op:CmpOp}{t:TE} (h:PC X op a b t) (h1:behindInMarks op b=false:=by first | exact nobehind _ (by decide) (by decide) | rfl):PT X (.Compare a [op] [b] pos) (tB t):=by
 intro pins s σ H Q I hw
 refine wpAny_isTrue_Compare1 (thn (h pins s σ H _ I hw) fun v s1 h1=>thn h1 fun u s2 h2=>thn h2 fun c s3 z_=>z_.elim fun x z_=>z_.elim fun H1 z_=>z_.elim fun I1 z_=>z_.elim fun r1 q1=>?_) h1
 obtain⟨d,rfl,q⟩:=q1
 cases r1
 exact wpAny_truthy_bool ⟨H1,I1,q⟩
theorem jW {e:Expr}{t:TE} (h:PE X e t) (he:∀ whole,isTrue e X.env whole=(do let v <- whole; standAt e.pos; holding [v] (truthy v)):=by intro _; rfl):PT X e (tB t):=by
 intro pins s σ H Q I hw
 refine isTrue_plain (thn (h pins s σ H _ I hw) fun v s1 z_=>z_.elim fun x z_=>z_.elim fun H1 z_=>z_.elim fun I1 z_=>z_.elim fun r1 q1=>?_) (he _)
 obtain⟨d,rfl,q⟩:=q1
 cases r1
 exact wpAny_truthy_bool ⟨H1,I1,q⟩
variable {tA tB':TT}{rest:List Expr}
noncomputable def tAnd (t u:TT):TT:=fun σ H Q=>t σ H fun c H1=>if c=true then u σ H1 Q else Q false H1
noncomputable def tOr (t u:TT):TT:=fun σ H Q=>t σ H fun c H1=>if c=true then Q true H1 else u σ H1 Q
noncomputable def tNot (t:TT):TT:=fun σ H Q=>t σ H fun c H1=>Q (!c) H1
theorem cq (ha:PT X a tA):PW X (.BoolOp .And [a] pos) tA:=by
 intro wh pins s σ H Q I h
 refine isTrue_and (thn (ha pins s σ H Q I h) fun c s1 e=>?_)
 cases c with
 | true=>exact isTrue_and_nil e
 | false=>exact e
theorem b9 (ha:PT X a tA):PW X (.BoolOp .Or [a] pos) tA:=by
 intro wh pins s σ H Q I h
 refine isTrue_or (thn (ha pins s σ H Q I h) fun c s1 e=>?_)
 cases c with
 | false=>exact isTrue_or_nil e
 | true=>exact e
theorem bZ (ha:PT X a tA) (hb:PW X (.BoolOp .And (b::rest) pos) tB'):PW X (.BoolOp .And (a::b::rest) pos) (tAnd tA tB'):=by
 intro wh pins s σ H Q I h
 refine isTrue_and (thn (ha pins s σ H _ I h) fun c s1 z_=>z_.elim fun H1 z_=>z_.elim fun I1 q1=>?_)
 cases c with
 | true=>exact hb wh pins s1 σ H1 Q I1 q1
 | false=>exact⟨H1,I1,q1⟩
theorem da (ha:PT X a tA) (hb:PW X (.BoolOp .Or (b::rest) pos) tB'):PW X (.BoolOp .Or (a::b::rest) pos) (tOr tA tB'):=by
 intro wh pins s σ H Q I h
 refine isTrue_or (thn (ha pins s σ H _ I h) fun c s1 z_=>z_.elim fun H1 z_=>z_.elim fun I1 q1=>?_)
 cases c with
 | true=>exact⟨H1,I1,q1⟩
 | false=>exact hb wh pins s1 σ H1 Q I1 q1
theorem fM (ha:PT X a tA):PT X (.UnaryOp .Not a pos) (tNot tA):=by
 intro pins s σ H Q I h
 exact isTrue_not (ha pins s σ H (fun c H1=>Q (!c) H1) I h)
noncomputable def tAndV (ta tb:TE):TE:=fun σ H Q=>ta σ H fun x H1=>∃ c,x=.bl c/\if c=true then tb σ H1 Q else Q (.bl false) H1
theorem nY {op} {t:TE} (h:PE X a t):PE X (.BoolOp op [a] pos) t:=fun pins s σ H Q I hw=>BoolOp_one (h pins s σ H Q I hw)
theorem n6 (ha:PE X a ta) (hb:PE X (.BoolOp .And (b::rest) pos) tb):PE X (.BoolOp .And (a::b::rest) pos) (tAndV ta tb):=by
 intro pins s σ H Q I h
 refine BoolOp_and (thn (ha pins s σ H _ I h) fun v s1 z_=>z_.elim fun x z_=>z_.elim fun H1 z_=>z_.elim fun I1 z_=>z_.elim fun r1 q1=>?_)
 obtain⟨c,rfl,q1⟩:=q1
 cases r1
 refine wpAny_truthy_bool ?_
 cases c with
 | true=>exact hb pins s1 σ H1 Q I1 q1
 | false=>exact⟨.bl false,H1,I1,U,q1⟩
noncomputable def tIf (t:TT) (ta tb:TE):TE:=fun σ H Q=>t σ H fun c H1=>if c=true then ta σ H1 Q else tb σ H1 Q
theorem j8 {c:Expr} (hc:PT X c tA) (ha:PE X a ta) (hb:PE X b tb):PE X (.IfExp c a b pos) (tIf tA ta tb):=by
 intro pins s σ H Q I h
 refine wpAny_IfExp (thn (hc pins s σ H _ I h) fun d s1 z_=>z_.elim fun H1 z_=>z_.elim fun I1 q1=>?_)
 cases d with
 | true=>exact ha pins s1 σ H1 Q I1 q1
 | false=>exact hb pins s1 σ H1 Q I1 q1
end
noncomputable def SqL (K:PySem.W.Frag) (H:Hp) (a:Addr) (xs:List V):Prop :=
 Rd H a (.lst xs) ∨
  ∃ (o:Obj) (its:Array Value) (n:Nat),K.lookup a=some o/\o.cls=.type "list" /\ o.dict=none/\o.data=.seq its n/\its.size<=sizeLine/\Vals xs its.toList
noncomputable def SqT (K:PySem.W.Frag) (H:Hp) (a:Addr) (xs:List V):Prop :=
 Rd H a (.tup xs) ∨
  ∃ (o:Obj) (its:Array Value) (n:Nat),K.lookup a=some o/\o.cls=.type "tuple" /\ o.data=.seq its n/\its.size<=sizeLine/\Vals xs its.toList
noncomputable def absV:Value->Option V
 | .none=>some .non
 | .bool b=>some (.bl b)
 | .int i _=>some (.int i)
 | .str x _=>some (.str x)
 | .bytes b _=>some (.byt b)
 | .float b _=>some (.flt b)
 | .ref a=>some (.ref a)
 | .type n=>some (.ty n)
 | _=>none
theorem RelV.abs {x:V}{u:Value} (r:RelV x u):absV u=some x:=by
 cases x with
 | non=>cases r; rfl
 | bl _=>cases r; rfl
 | int _=>obtain⟨t,rfl⟩:=r; rfl
 | str _=>obtain⟨t,rfl⟩:=r; rfl
 | byt _=>obtain⟨t,rfl⟩:=r; rfl
 | flt _=>obtain⟨t,rfl⟩:=r; rfl
 | ref _=>cases r; rfl
 | ty _=>cases r; rfl
theorem RelV.inj {x y:V}{u:Value} (r:RelV x u) (q:RelV y u):x=y:=Option.some.inj (r.abs.symm.trans q.abs)
theorem Vals.inj:∀ {xs ys:List V}{us:List Value},Vals xs us->Vals ys us->xs=ys
 | _,_,_,.nil,.nil=>rfl
 | _,_,_,.cons r t,.cons r' t'=>by rw[r.inj r',Vals.inj t t']
section
variable {X:Cx}{pins:List (Addr×Obj)}{σ:St}{H:Hp}{s:Shared}{a:Addr}{xs ys:List V}
theorem SqL.of {K:PySem.W.Frag} (h:H a=some (.lst xs)):SqL K H a xs:=.inl (.inl h)
theorem SqT.of {K:PySem.W.Frag} (h:H a=some (.tup xs)):SqT K H a xs:=.inl (.inl h)
theorem Inv.list (I:Inv X pins σ H s) (h:SqL X.K H a xs):∃ its:List Value,Vals xs its/\PlainL s.heap a its.toArray/\xs.length<=sizeLine:=by
 rcases h with h | ⟨o,its,n,hk,hc,hd,hs,hz,r⟩
 ·obtain⟨z,its,n,r,e⟩:=h.ok I.hok
  exact⟨its,r,⟨_,n,e,U,U,U⟩,z⟩
 ·refine⟨its.toList,r,⟨o,n,I.kIn a o hk,hc,hd,by simpa using hs⟩,?_⟩
  have e:=r.length
  simp only[Array.length_toList] at e
  omega
theorem Inv.tuple (I:Inv X pins σ H s) (h:SqT X.K H a xs):∃ its:List Value,Vals xs its/\IsTup s.heap a its.toArray/\xs.length<=sizeLine:=by
 rcases h with h | ⟨o,its,n,hk,hc,hs,hz,r⟩
 ·obtain⟨z,its,r,p⟩:=h.ok I.hok
  exact⟨its,r,p,z⟩
 ·refine⟨its.toList,r,⟨o,I.kIn a o hk,hc,n,by simpa using hs⟩,?_⟩
  have e:=r.length
  simp only[Array.length_toList] at e
  omega
theorem Inv.list_inj (I:Inv X pins σ H s) (h:SqL X.K H a xs) (h':SqL X.K H a ys):xs=ys:=by
 obtain⟨its,r,⟨o,n,e,_,_,d⟩,_⟩:=I.list h
 obtain⟨its',r',⟨o',n',e',_,_,d'⟩,_⟩:=I.list h'
 rw[e] at e'; cases e'
 rw[d] at d'
 injection d' with d1 _
 have:its=its':=by simpa using congrArg Array.toList d1
 subst this
 exact r.inj r'
theorem Inv.tuple_inj (I:Inv X pins σ H s) (h:SqT X.K H a xs) (h':SqT X.K H a ys):xs=ys:=by
 obtain⟨its,r,⟨o,e,_,n,d⟩,_⟩:=I.tuple h
 obtain⟨its',r',⟨o',e',_,n',d'⟩,_⟩:=I.tuple h'
 rw[e] at e'; cases e'
 rw[d] at d'
 injection d' with d1 _
 have:its=its':=by simpa using congrArg Array.toList d1
 subst this
 exact r.inj r'
end
noncomputable abbrev Cx.wish (X:Cx) (E:Value->Shared->Prop):Cx:={ X with xe:=E }
noncomputable abbrev Cx.nox (X:Cx):Cx:=X.wish fun _ _=>False
theorem Cx.Ok.wish {X:Cx} (ok:X.Ok) (E:Value->Shared->Prop):(X.wish E).Ok :=
 ⟨ok.mod,ok.kind,ok.glob,ok.blt,ok.above,ok.inj,ok.has,ok.cab,ok.hd,ok.frames,ok.stk,ok.exf,ok.bs,ok.bsz,ok.noex,ok.exfs,ok.funs,ok.frf⟩
theorem Cx.Ok.unwish {X:Cx}{E:Value->Shared->Prop} (ok:(X.wish E).Ok):X.Ok :=
 ⟨ok.mod,ok.kind,ok.glob,ok.blt,ok.above,ok.inj,ok.has,ok.cab,ok.hd,ok.frames,ok.stk,ok.exf,ok.bs,ok.bsz,ok.noex,ok.exfs,ok.funs,ok.frf⟩
section
variable {X:Cx}{pins:List (Addr×Obj)}{σ:St}{H:Hp}{s:Shared}{E:Value->Shared->Prop}
theorem Inv.wish (I:Inv X pins σ H s) (E:Value->Shared->Prop):Inv (X.wish E) pins σ H s:=⟨I.ok.wish E,I.os,I.bare,I.base,I.loc,I.cell,I.free,I.freeC,I.pin,I.hok,I.len⟩
theorem Inv.unwish (I:Inv (X.wish E) pins σ H s):Inv X pins σ H s:=⟨I.ok.unwish,I.os,I.bare,I.base,I.loc,I.cell,I.free,I.freeC,I.pin,I.hok,I.len⟩
theorem SP.unwish {D:Ends}{f:Flow}{s':Shared} (h:SP (X.wish E) pins D f s'):SP X pins D f s':=by
 cases f with
 | next=>obtain⟨σ',H',I,q⟩:=h; exact⟨σ',H',I.unwish,q⟩
 | brk=>obtain⟨σ',H',I,q⟩:=h; exact⟨σ',H',I.unwish,q⟩
 | cont=>obtain⟨σ',H',I,q⟩:=h; exact⟨σ',H',I.unwish,q⟩
 | ret u=>obtain⟨v,σ',H',I,r,q⟩:=h; exact⟨v,σ',H',I.unwish,r,q⟩
theorem PSs.nox {st:List Stmt}{t:TS} (h:PSs X.nox st t):PSs X st t:=fun pins s σ H D I hw=>
 wpAny_mono (h pins s σ H D (I.wish _) hw) (fun _ _ q=>q.unwish) fun _ _ z=>False.elim z
end
section
variable {X:Cx}{st:Stmt}{rest:List Stmt}{t u:TS}{e:Expr}{te:TE}{pos:Pos}
noncomputable def my:TS:=fun D σ H=>D.nx σ H
noncomputable def jB (t u:TS):TS:=fun D σ H=>t { D with nx:=u D } σ H
theorem au:PSs X [] my:=fun _ _ σ H _ I h=>wpAny_execs_nil ⟨σ,H,I,h⟩
theorem ae (h1:PS X st t) (h2:PSs X rest u):PSs X (st::rest) (jB t u):=by
 intro pins s σ H D I h
 refine wpAny_execs_cons (thn (h1 pins s σ H { D with nx:=u D } I h) fun f s1 q=>?_)
 cases f with
 | next=>
  obtain⟨σ',H',I',q⟩:=q
  exact h2 pins s1 σ' H' D I' q
 | ret v=>exact q
 | brk=>exact q
 | cont=>exact q
theorem ah (h1:PS X st t):PSs X [st] t:=by
 intro pins s σ H D I h
 refine wpAny_execs_cons (thn (h1 pins s σ H D I h) fun f s1 q=>?_)
 cases f with
 | next=>exact wpAny_execs_nil q
 | ret v=>exact q
 | brk=>exact q
 | cont=>exact q
theorem Inv.quiet {pins:List (Addr×Obj)}{σ:St}{H:Hp}{s:Shared} (I:Inv X pins σ H s):interactive X.env=false:=by simp[interactive,I.ok.kind]
noncomputable def mD (te:TE):TS:=fun D σ H=>te σ H fun _ H1=>D.nx σ H1
theorem ak (he:PE X e te) (hs:swapsWith e none pos.line X.env=pure false:=by rfl):PS X (.Expr e pos) (mD te):=by
 intro pins s σ H D I h
 exact wpAny_Expr_any (thn (he pins s σ H _ I h) fun v s1 z_=>z_.elim fun x z_=>z_.elim fun H1 z_=>z_.elim fun I1 z_=>z_.elim fun r1 q1=>⟨σ,H1,I1,q1⟩) I.quiet hs
noncomputable def oZ (te:TE):TS:=fun D σ H=>te σ H D.rt
theorem aH (he:PE X e te):PS X (.Return (some e) pos) (oZ te):=by
 intro pins s σ H D I h
 exact wpAny_Return_some (thn (he pins s σ H _ I h) fun v s1 z_=>z_.elim fun x z_=>z_.elim fun H1 z_=>z_.elim fun I1 z_=>z_.elim fun r1 q1=>⟨x,σ,H1,I1,r1,q1⟩)
noncomputable def tRetN:TS:=fun D _ H=>D.rt .non H
theorem iA:PS X (.Return none pos) tRetN:=fun _ _ σ H _ I h=>wpAny_Return_none ⟨.non,σ,H,I,U,h⟩
noncomputable def tIfS (c:TT) (t u:TS):TS:=fun D σ H=>c σ H fun b H1=>if b=true then t D σ H1 else u D σ H1
theorem aG {c:Expr}{a b:List Stmt}{tc:TT} (hc:PT X c tc) (ha:PSs X a t) (hb:PSs X b u):PS X (.If c a b pos) (tIfS tc t u):=by
 intro pins s σ H D I h
 refine wpAny_If (thn (hc pins s σ H _ I h) fun d s1 z_=>z_.elim fun H1 z_=>z_.elim fun I1 q1=>?_)
 cases d with
 | true=>exact ha pins s1 σ H1 D I1 q1
 | false=>exact hb pins s1 σ H1 D I1 q1
noncomputable def nv:TS:=fun _ _ _=>False
theorem aQ:PS X st nv:=fun _ _ _ _ _ _ h=>h.elim
end
noncomputable abbrev TG:=V->St->Hp->(St->Hp->Prop)->Prop
noncomputable abbrev TGs:=List V->St->Hp->(St->Hp->Prop)->Prop
noncomputable def PG (X:Cx) (target:Expr) (t:TG):Prop :=
 ∀ (pins:List (Addr×Obj)) (s:Shared) (σ:St) (H:Hp) (v:V) (u:Value) (Q:St->Hp->Prop),Inv X pins σ H s->RelV v u->t v σ H Q ->
  wpAny (model X.prog X.w) X.A (assign target X.env u) (fun _ s'=>∃ σ' H',Inv X pins σ' H' s'/\Q σ' H') X.xe s
noncomputable def PGs (X:Cx) (ts:List Expr) (t:TGs):Prop :=
 ∀ (pins:List (Addr×Obj)) (s:Shared) (σ:St) (H:Hp) (vs:List V) (us:List Value) (Q:St->Hp->Prop),Inv X pins σ H s->Vals vs us->t vs σ H Q ->
  wpAny (model X.prog X.w) X.A (assignInOrder ((assignEach ts X.env).map (·.2)) us) (fun _ s'=>∃ σ' H',Inv X pins σ' H' s'/\Q σ' H') X.xe s
noncomputable abbrev oW:=V->V->V->Hp->(Hp->Prop)->Prop
noncomputable def qg (X:Cx) (t:oW):Prop :=
 ∀ (pins:List (Addr×Obj)) (s:Shared) (σ:St) (H:Hp) (o i v:V) (ov iv u:Value) (Q:Hp->Prop),Inv X pins σ H s->RelV o ov->RelV i iv->RelV v u->t o i v H Q ->
  wpAny (model X.prog X.w) X.A (setItem ov iv u) (fun _ s'=>∃ H',Inv X pins σ H' s'/\Q H') X.xe s
section
variable {X:Cx}{pos:Pos}
noncomputable def d7 (i:Nat):TG:=fun v σ H Q=>Q (σ.set i (some v)) H
theorem am {i:Nat}{x:Str} (hN:X.N.Nodup) (hi:X.N[i]?=some x) (hx:Loc X.env.scope x) (hf:X.fn x=true∨X.env.scope.names.lookup x=some .local:=by first | exact .inl rfl | exact .inr rfl | assumption):PG X (.Name x pos) (d7 i):=by
 intro pins s σ H v u Q I r h
 exact wpAny_assign_Name (gg I hN hi hx r (fun s' I'=>⟨_,H,I',h⟩) hf)
noncomputable def gNil:TGs:=fun vs σ H Q=>vs=[]/\Q σ H
noncomputable def gCons (t:TG) (u:TGs):TGs:=fun vs σ H Q=>∃ v r,vs=v::r/\t v σ H fun σ' H'=>u r σ' H' Q
theorem bi:PGs X [] gNil:=by
 intro pins s σ H vs us Q I r h
 obtain⟨e,h⟩:=h
 subst e
 cases r
 exact assignInOrder_nil ⟨σ,H,I,h⟩
theorem ax {e:Expr}{es:List Expr}{t:TG}{u:TGs} (h1:PG X e t) (h2:PGs X es u)
  (hs:(assignEach (e::es) X.env).map (·.2)=assign e X.env::(assignEach es X.env).map (·.2):=by rfl):PGs X (e::es) (gCons t u):=by
 intro pins s σ H vs us Q I r h
 obtain⟨v,vr,e1,h⟩:=h
 subst e1
 cases r with
 | cons r rr=>
  rw[hs]
  refine assignInOrder_cons (thn (h1 pins s σ H _ _ _ I r h) fun _ s1 z_=>z_.elim fun σ1 z_=>z_.elim fun H1 z_=>z_.elim fun I1 q1=>?_)
  exact h2 pins s1 σ1 H1 _ _ Q I1 rr q1
noncomputable def gTup (K:PySem.W.Frag) (n:Nat) (t:TGs):TG:=fun v σ H Q=>∃ a xs,v=.ref a/\SqT K H a xs/\xs.length=n/\t xs σ H Q
theorem bt {es:List Expr}{k:Nat}{t:TGs}{n:Nat} (hc:X.calm=true) (h:PGs X es t)
  (hn:(assignEach es X.env).length=n:=by rfl) (hst:(assignEach es X.env).findIdx? (·.1)=none:=by rfl):PG X (.Tuple es k pos) (gTup X.K n t):=by
 intro pins s σ H v u Q I r hw
 obtain⟨a,xs,e1,hq,hl,hw⟩:=hw
 subst e1
 cases r
 obtain⟨its,rv,ht,hz⟩:=I.tuple hq
 refine assign_Tuple_tuple (I.ok.hd hc) ht (by simp[hn,<- hl,rv.length]) hst fun h' hx=>?_
 have I1:Inv X pins σ H { s with heap:=h' }:=I.kept (t':=s.toks) fun b o e=>hx b o (Nat.ne_of_lt (Heap.lt_size e)) e
 exact h pins _ σ H xs _ Q I1 (by simpa using rv) hw
noncomputable def gSub (to ti:TE) (t:oW):TG:=fun v σ H Q=>to σ H fun o H1=>ti σ H1 fun i H2=>t o i v H2 fun H3=>Q σ H3
theorem nV {o i:Expr}{to ti:TE}{t:oW} (ho:PE X o to) (hi:PE X i ti) (hs:qg X t)
  (ha:∀ v,assign (.Subscript o i pos) X.env v=(do
   let ov <- holding [v] (eval o X.env)
   let iv <- holding [v,ov] (eval i X.env)
   standAt pos
   holding [v,ov,iv] (setItem ov iv v)
   release [v,ov,iv] []):=by intro _; rfl):PG X (.Subscript o i pos) (gSub to ti t):=by
 intro pins s σ H v u Q I r h
 rw[ha]
 refine wpAny_bind (wpAny_holding (thn (ho pins s σ H _ I h) fun ov s1 z_=>z_.elim fun x z_=>z_.elim fun H1 z_=>z_.elim fun I1 z_=>z_.elim fun r1 q1=>?_))
 refine wpAny_bind (wpAny_holding (thn (hi pins s1 σ H1 _ I1 q1) fun iv s2 z_=>z_.elim fun y z_=>z_.elim fun H2 z_=>z_.elim fun I2 z_=>z_.elim fun r2 q2=>?_))
 refine wpAny_bind (wpAny_standAt (wpAny_bind (wpAny_holding (thn (hs pins s2 σ H2 x y v ov iv u _ I2 r1 r2 r q2) fun _ s3 z_=>z_.elim fun H3 z_=>z_.elim fun I3 q3=>?_))))
 exact wpAny_release ⟨σ,H3,I3,q3⟩
noncomputable def lg (te:TE) (g:TG):TS:=fun D σ H=>te σ H fun x H1=>g x σ H1 D.nx
theorem cc {tg e:Expr}{te:TE}{g:TG} (he:PE X e te) (hg:PG X tg g) (hs:swapsWithSole [tg] e pos.line X.env=pure false:=by rfl) (hw:swappedStores [tg] e X.env=pure none:=by rfl)
  (h1:(assignEach [tg] X.env).map (·.2)=[assign tg X.env]:=by rfl):PS X (.Assign [tg] e pos) (lg te g):=by
 intro pins s σ H D I h
 refine wpAny_Assign_stores (thn (he pins s σ H _ I h) fun v s1 z_=>z_.elim fun x z_=>z_.elim fun H1 z_=>z_.elim fun I1 z_=>z_.elim fun r1 q1=>?_) hs hw
 rw[h1]
 exact thn (hg pins s1 σ H1 x v _ I1 r1 q1) fun _ s2 q=>q
theorem ar {i:Nat}{x:Str}{e:Expr}{te:TE}{pos':Pos} (hN:X.N.Nodup) (hi:X.N[i]?=some x) (hx:Loc X.env.scope x) (he:PE X e te) (hs:swapsWith e (some (.Name x pos')) pos.line X.env=pure false:=by rfl) (hf:X.fn x=true∨X.env.scope.names.lookup x=some .local:=by first | exact .inl rfl | exact .inr rfl | assumption) :
  PS X (.Assign [.Name x pos'] e pos) (lg te (d7 i)):=by
 intro pins s σ H D I h
 refine wpAny_Assign_Name (thn (he pins s σ H _ I h) fun v s1 z_=>z_.elim fun y z_=>z_.elim fun H1 z_=>z_.elim fun I1 z_=>z_.elim fun r1 q1=>?_) hs
 exact gg I1 hN hi hx r1 (fun s2 I2=>⟨_,H1,I2,q1⟩) hf
end
section
variable {X:Cx}{pos:Pos}
noncomputable def jA (c:TT) (tb:TS):TS:=fun D σ H=>∃ W:Nat->St->Hp->Prop,(∃ m,W m σ H)/\∀ m σ H,W m σ H ->
 c σ H fun b H1=>if b=true then ∃ N:St->Hp->Prop,(∀ σ' H',N σ' H'->∃ m',m'<m/\W m' σ' H')/\tb { D with nx:=N,ct:=N,bk:=D.nx } σ H1 else D.nx σ H1
theorem dP {c:Expr}{body:List Stmt}{tc:TT}{tb:TS} (hp:PassesOwn (model X.prog X.w) X.A X.env X.xe) (hc:PT X c tc) (hb:PSs X body tb):PS X (.While c body [] pos) (jA tc tb):=by
 intro pins s σ H D I h
 obtain⟨W,⟨m0,w0⟩,turn⟩:=h
 refine wpAny_While (codeAny_whileLoop (fun n s'=>∃ σ' H',Inv X pins σ' H' s'/\W n σ' H') ?_ m0 ⟨σ,H,I,w0⟩)
 rintro n s1 ⟨σ1,H1,I1,w1⟩
 refine wpAny_passesOwn hp (thn (hc pins s1 σ1 H1 _ I1 (turn n σ1 H1 w1)) fun b s2 z_=>z_.elim fun H2 z_=>z_.elim fun I2 q2=>?_)
 cases b with
 | true=>
  obtain⟨N,hN,q2⟩:=q2
  rw[if_pos rfl]
  refine wpAny_passesOwn hp (thn (hb pins s2 σ1 H2 _ I2 q2) fun f s3 q3=>?_)
  cases f with
  | next=>
   obtain⟨σ3,H3,I3,n3⟩:=q3
   obtain⟨m',hm,w3⟩:=hN σ3 H3 n3
   exact⟨m',hm,σ3,H3,I3,w3⟩
  | cont=>
   obtain⟨σ3,H3,I3,n3⟩:=q3
   obtain⟨m',hm,w3⟩:=hN σ3 H3 n3
   exact⟨m',hm,σ3,H3,I3,w3⟩
  | brk=>exact q3
  | ret v=>exact q3
 | false=>
  rw[if_neg Bool.false_ne_true]
  exact wpAny_execs_nil ⟨σ1,H2,I2,q2⟩
end
structure It where
 go:Nat->Hp->Prop
 yld:Nat->Hp->V->Hp->Prop
 stop:Nat->Hp->Prop
noncomputable def ck (X:Cx) (pins:List (Addr×Obj)) (H:Hp) (b:Addr):Prop :=
 H b=none/\b≠X.env.locals/\b ∉ X.fs/\(b ∈ X.ex∨X.s₀.heap.objs.size<=b)/\(∀ x c,X.env.cells.lookup x=some c->c≠b)/\∀ p ∈ X.pn++pins,p.1≠b
theorem Inv.fpOk {X:Cx}{pins:List (Addr×Obj)}{σ:St}{H H':Hp}{s:Shared}{b:Addr} (I:Inv X pins σ H s) (hb:s.heap.objs.size<=b) (hn:H' b=none):ck X pins H' b:=by
 refine⟨hn,Nat.ne_of_gt (Nat.lt_of_lt_of_le I.lt hb),I.nofs hb,.inr (Nat.le_trans I.sz hb),fun x c e z=>?_,fun p hp z=>?_⟩
 ·obtain⟨v,q⟩:=I.cell x c e
  exact absurd (Nat.lt_of_lt_of_le q.lt (by rw[z]; exact hb)) (Nat.lt_irrefl _)
 ·exact absurd (Nat.lt_of_lt_of_le (Heap.lt_size (I.pin p hp).1) (by rw[z]; exact hb)) (Nat.lt_irrefl _)
structure Turn (P:Program) (w:World) (K:PySem.W.Frag) (tg:Expr) (J:It) (fp:List Addr) (it:Addr) (tn:Nat->Heap->Prop):Prop where
 mem:it ∈ fp
 obj:∀ i h,tn i h->∀ b ∈ fp,∃ o,h.get? b=some o/\∀ v,o.data≠.cell v
 keep:∀ i h h',tn i h->(∀ b ∈ fp,∀ o,h.get? b=some o->h'.get? b=some o)->tn i h'
 item:∀ (X:Cx),X.prog=P->X.w=w->X.K=K->X.calm=true->∀ (i:Nat) (pins:List (Addr×Obj)) (s:Shared) (σ:St) (H:Hp) (E:Value->Shared->Prop),Inv X pins σ H s->(∀ b ∈ fp,ck X pins H b)->tn i s.heap->J.go i H ->
  wpAny (model P w) X.A (pyNext (.ref it)) (fun r s1=>∃ u,r=some u /\
   wpAny (model P w) X.A (letOwnedTupleGo tg (.ref it) u) (fun _ s2=>∃ x H',Inv X pins σ H' s2/\RelV x u/\J.yld i H x H'/\tn (i+1) s2.heap/\∀ b ∈ fp,H' b=none) E s1) E s
 done:∀ (X:Cx),X.prog=P->X.w=w->X.K=K->X.calm=true->∀ (i:Nat) (pins:List (Addr×Obj)) (s:Shared) (σ:St) (H:Hp) (E:Value->Shared->Prop),Inv X pins σ H s->(∀ b ∈ fp,ck X pins H b)->tn i s.heap->J.stop i H ->
  wpAny (model P w) X.A (pyNext (.ref it)) (fun r s1=>r=none/\Inv X pins σ H s1) E s
 self:∀ (A:Around) (i:Nat) (s:Shared) (Q:Value->Shared->Prop) (E:Value->Shared->Prop),tn i s.heap->Q (.ref it) s->wpAny (model P w) A (pyIter (.ref it)) Q E s
noncomputable abbrev TI:=St->Hp->(It->Hp->Prop)->Prop
noncomputable def PIE (X:Cx) (pins:List (Addr×Obj)) (σ:St) (tg:Expr) (R:It->Hp->Prop) (itv:Value) (s2:Shared):Prop :=
 ∃ (it:Addr) (fp:List Addr) (tn:Nat->Heap->Prop) (J:It) (H':Hp),itv=.ref it/\Inv X pins σ H' s2/\Turn X.prog X.w X.K tg J fp it tn/\tn 0 s2.heap/\(∀ b ∈ fp,ck X pins H' b)/\R J H'
noncomputable def PI (X:Cx) (tg iter:Expr) (wi:TI):Prop :=
 ∀ (pins:List (Addr×Obj)) (s:Shared) (σ:St) (H:Hp) (R:It->Hp->Prop),Inv X pins σ H s->wi σ H R ->
  wpAny (model X.prog X.w) X.A (eval iter X.env) (fun v s1=>wpAny (model X.prog X.w) X.A (pyIter v) (PIE X pins σ tg R) X.xe s1) X.xe s
theorem kF {M : Model}{A : Around}{E : Value->Shared->Prop}{s : Shared}{tg : Expr}{it : Addr}{u : Value}{o : Obj}{n : String}{vs : Array Value}{Q : Unit->Shared->Prop} (ho : s.heap.get? it=some o) (hc : o.cls=.type n) (hd : o.data=.fields vs)
    (hn : ["enumerate", "zip", "dict_itemiterator", "dict_reverseitemiterator", "odict_iterator", "itertools.zip_longest", "itertools.pairwise"].contains n=false) (hQ : Q () s) : wpAny M A (letOwnedTupleGo tg (.ref it) u) Q E s := by
  unfold letOwnedTupleGo
  cases tg <;> first
    | exact wpAny_pure hQ
    | (cases u <;> first
        | exact wpAny_pure hQ
        | (refine wpAny_bind (wpAny_load ho ?_)
           rw[hc, hd]
           show wpAny M A (if (["enumerate", "zip", "dict_itemiterator", "dict_reverseitemiterator", "odict_iterator", "itertools.zip_longest", "itertools.pairwise"].contains n && vs[0]? == some (rawInt _))=true then _ else _) Q E s
           rw[if_neg (by intro h; rw[hn, Bool.false_and] at h; cases h)]
           exact wpAny_pure hQ))
noncomputable def Itl (K:PySem.W.Frag) (a:Addr):It :=
 ⟨fun i H=>∃ xs x,SqL K H a xs/\xs[i]?=some x,fun i H x H'=>H'=H/\∀ xs,SqL K H a xs->xs[i]?=some x,fun i H=>∃ xs,SqL K H a xs/\xs.length<=i⟩
noncomputable def Itt (K:PySem.W.Frag) (a:Addr):It :=
 ⟨fun i H=>∃ xs x,SqT K H a xs/\xs[i]?=some x,fun i H x H'=>H'=H/\∀ xs,SqT K H a xs->xs[i]?=some x,fun i H=>∃ xs,SqT K H a xs/\xs.length<=i⟩
noncomputable def Itr (lo:Int) (n:Nat):It:=⟨fun i _=>i<n,fun i H x H'=>H'=H/\x=.int (lo+i),fun i _=>n<=i⟩
theorem iQ {P:Program}{w:World}{K:PySem.W.Frag}{tg:Expr} (a it:Addr):Turn P w K tg (Itl K a) [it] it (fun i h=>h.IsListIter it a i) where
 mem:=by simp
 obj:=fun i h st b hb=>by
  have e:b=it:=by simpa using hb
  subst e
  obtain⟨o,e,c,d⟩:=st
  exact⟨o,e,fun v z=>by rw[d] at z; cases z⟩
 keep:=fun i h h' st k=>st.at fun o e=>k it (by simp) o e
 item:=by
  intro X hP hw hK hc i pins s σ H E I hf st hg
  subst hP hw hK
  obtain⟨xs,x,hq,hx⟩:=hg
  obtain⟨its,rv,p,hz⟩:=I.list hq
  obtain⟨u,hu,ru⟩:=rv.get hx
  obtain⟨f0,f1,f2,f3,f4,f5⟩:=hf it (by simp)
  refine wpAny_pyNext_list_item st p.isList (x:=u) (by simpa using hu) fun h' st' sb=>?_
  have I1:Inv X pins σ H { s with heap:=h' }:=I.turned (t':=s.toks) (fun b o hb e=>(sb.2 b hb).trans e) f0 f1 f3 f4 f5
  obtain⟨o,e,c,d⟩:=id st'
  exact⟨u,U,kF (s:={ s with heap:=h' }) e c d (by decide) ⟨x,H,I1,ru,⟨U,fun ys hy=>by rw[I.list_inj hy hq]; exact hx⟩,st',fun b hb=>(hf b hb).1⟩⟩
 done:=by
  intro X hP hw hK hc i pins s σ H E I hf st hg
  subst hP hw hK
  obtain⟨xs,hq,hx⟩:=hg
  obtain⟨its,rv,p,hz⟩:=I.list hq
  obtain⟨f0,f1,f2,f3,f4,f5⟩:=hf it (by simp)
  have hl:=rv.length
  exact wpAny_pyNext_list_end (I.ok.hd hc) st p.isList (by simp; omega) fun h' eb=>⟨U,I.turned (t':=s.toks) (fun b o hb e=>eb b o hb e) f0 f1 f3 f4 f5⟩
 self:=fun _ _ _ _ _ st h=>wpAny_pyIter_listiter st h
theorem gT {P:Program}{w:World}{K:PySem.W.Frag}{tg:Expr} (a it:Addr):Turn P w K tg (Itt K a) [it] it (fun i h=>h.IsTupleIter it a i) where
 mem:=by simp
 obj:=fun i h st b hb=>by
  have e:b=it:=by simpa using hb
  subst e
  obtain⟨o,e,c,d⟩:=st
  exact⟨o,e,fun v z=>by rw[d] at z; cases z⟩
 keep:=fun i h h' st k=>st.at fun o e=>k it (by simp) o e
 item:=by
  intro X hP hw hK hc i pins s σ H E I hf st hg
  subst hP hw hK
  obtain⟨xs,x,hq,hx⟩:=hg
  obtain⟨its,rv,p,hz⟩:=I.tuple hq
  obtain⟨u,hu,ru⟩:=rv.get hx
  obtain⟨f0,f1,f2,f3,f4,f5⟩:=hf it (by simp)
  refine wpAny_pyNext_tuple_item st (show s.heap.IsTuple a its.toArray from p) (x:=u) (by simpa using hu) fun h' st' sb=>?_
  have I1:Inv X pins σ H { s with heap:=h' }:=I.turned (t':=s.toks) (fun b o hb e=>(sb.2 b hb).trans e) f0 f1 f3 f4 f5
  obtain⟨o,e,c,d⟩:=id st'
  exact⟨u,U,kF (s:={ s with heap:=h' }) e c d (by decide) ⟨x,H,I1,ru,⟨U,fun ys hy=>by rw[I.tuple_inj hy hq]; exact hx⟩,st',fun b hb=>(hf b hb).1⟩⟩
 done:=by
  intro X hP hw hK hc i pins s σ H E I hf st hg
  subst hP hw hK
  obtain⟨xs,hq,hx⟩:=hg
  obtain⟨its,rv,p,hz⟩:=I.tuple hq
  obtain⟨f0,f1,f2,f3,f4,f5⟩:=hf it (by simp)
  have hl:=rv.length
  exact wpAny_pyNext_tuple_end (I.ok.hd hc) st (show s.heap.IsTuple a its.toArray from p) (by simp; omega) fun h' eb=>⟨U,I.turned (t':=s.toks) (fun b o hb e=>eb b o hb e) f0 f1 f3 f4 f5⟩
 self:=fun _ _ _ _ _ st h=>wpAny_pyIter_tupleiter st h
theorem gU {P:Program}{w:World}{K:PySem.W.Frag}{tg:Expr} (it:Addr) (lo:Int) (n:Nat):Turn P w K tg (Itr lo n) [it] it (fun i h=>IsRangeIter h it (lo+(i:Nat)*1) ((n:Int) - (i:Nat)) 1) where
 mem:=by simp
 obj:=fun i h st b hb=>by
  have e:b=it:=by simpa using hb
  subst e
  exact⟨_,st,fun v z=>by
   have z':Data.fields _=Data.cell v:=z
   cases z'⟩
 keep:=fun i h h' st k=>k it (by simp) _ st
 item:=by
  intro X hP hw hK hc i pins s σ H E I hf st hg
  subst hP hw hK
  obtain⟨f0,f1,f2,f3,f4,f5⟩:=hf it (by simp)
  have W:=Walks.range (prog:=X.prog) (w:=X.w) (I.ok.hd hc) it lo 1 n
  refine W.item i s _ _ hg st fun v h' tk hv st' kk=>?_
  obtain⟨t,rfl⟩:=hv
  have I1:Inv X pins σ H { s with heap:=h',toks:=tk }:=I.turned (fun b o hb e=>kk b o (by simpa using hb) e) f0 f1 f3 f4 f5
  refine⟨_,U,kF (s:={ s with heap:=h',toks:=tk }) (n := "range_iterator") st' rfl rfl (by decide) ⟨.int (lo+i),H,I1,⟨t,?_⟩,⟨U,U⟩,st',fun b hb=>(hf b hb).1⟩⟩
  rw[Int.mul_one]
 done:=by
  intro X hP hw hK hc i pins s σ H E I hf st hg
  subst hP hw hK
  obtain⟨f0,f1,f2,f3,f4,f5⟩:=hf it (by simp)
  exact wpAny_pyNext_range_end (I.ok.hd hc) st (by have:n<=i:=hg; omega) fun h' eb=>⟨U,I.turned (t':=s.toks) (fun b o hb e=>eb b o hb e) f0 f1 f3 f4 f5⟩
 self:=fun _ _ _ _ _ st h=>wpAny_pyIter_rangeiter st h
section
variable {X:Cx}{tg:Expr}
noncomputable def iList (K:PySem.W.Frag) (tl:TE):TI:=fun σ H R=>tl σ H fun x H1=>∃ a,x=.ref a/\(∃ xs,SqL K H1 a xs)/\R (Itl K a) H1
noncomputable def iTup (K:PySem.W.Frag) (tl:TE):TI:=fun σ H R=>tl σ H fun x H1=>∃ a,x=.ref a/\(∃ xs,SqT K H1 a xs)/\R (Itt K a) H1
theorem bq {l:Expr}{tl:TE} (hl:PE X l tl):PI X tg l (iList X.K tl):=by
 intro pins s σ H R I h
 refine thn (hl pins s σ H _ I h) fun v s1 z_=>z_.elim fun x z_=>z_.elim fun H1 z_=>z_.elim fun I1 z_=>z_.elim fun r1 q1=>?_
 obtain⟨a,e,⟨xs,hq⟩,q⟩:=q1
 subst e
 cases r1
 obtain⟨its,rv,p,hz⟩:=I1.list hq
 refine wpAny_pyIter_list p.isList ?_
 refine⟨s1.heap.objs.size,[s1.heap.objs.size],_,_,H1,U,I1.kept (t':=s1.toks) fun b o e=>Heap.get?_push_of_some _ e,iQ a _,⟨_,Heap.get?_push_size _ rfl,U,U⟩,fun b hb=>?_,q⟩
 have e:b=s1.heap.objs.size:=by simpa using hb
 subst e
 exact I1.fpOk (Nat.le_refl _) (I1.hok.fresh (Nat.le_refl _))
theorem nU {l:Expr}{tl:TE} (hl:PE X l tl):PI X tg l (iTup X.K tl):=by
 intro pins s σ H R I h
 refine thn (hl pins s σ H _ I h) fun v s1 z_=>z_.elim fun x z_=>z_.elim fun H1 z_=>z_.elim fun I1 z_=>z_.elim fun r1 q1=>?_
 obtain⟨a,e,⟨xs,hq⟩,q⟩:=q1
 subst e
 cases r1
 obtain⟨its,rv,p,hz⟩:=I1.tuple hq
 refine wpAny_pyIter_tuple (show s1.heap.IsTuple a its.toArray from p) ?_
 refine⟨s1.heap.objs.size,[s1.heap.objs.size],_,_,H1,U,I1.kept (t':=s1.toks) fun b o e=>Heap.get?_push_of_some _ e,gT a _,⟨_,Heap.get?_push_size _ rfl,U,U⟩,fun b hb=>?_,q⟩
 have e:b=s1.heap.objs.size:=by simpa using hb
 subst e
 exact I1.fpOk (Nat.le_refl _) (I1.hok.fresh (Nat.le_refl _))
theorem jV {pins:List (Addr×Obj)}{σ:St}{H:Hp}{s:Shared}{R:It->Hp->Prop}{E:Value->Shared->Prop}{lo hi:Int}{t u v:Tok}{tk:Nat} (I:Inv X pins σ H s) (h1:-(2 ^ 62)<=lo) (h2:lo<2 ^ 62) (h3:-(2 ^ 62)<=hi) (h4:hi<2 ^ 62)
  (q:R (Itr lo (hi - lo).toNat) H):wpAny (model X.prog X.w) X.A (pyIter (.ref s.heap.objs.size)) (PIE X pins σ tg R) E { s with heap:=s.heap.push { cls:=.type "range",data:=.fields #[.int lo t,.int hi u,.int 1 v] },toks:=tk }:=by
 refine wpAny_pyIter_range (IsRange.new ..) (small_one h1 h2 h3 h4) ?_
 have I1:Inv X pins σ H { s with heap:=s.heap.push { cls:=.type "range",data:=.fields #[.int lo t,.int hi u,.int 1 v] },toks:=tk }:=I.kept fun b o e=>Heap.get?_push_of_some _ e
 refine⟨(s.heap.push { cls:=.type "range",data:=.fields #[.int lo t,.int hi u,.int 1 v] }).objs.size,[(s.heap.push { cls:=.type "range",data:=.fields #[.int lo t,.int hi u,.int 1 v] }).objs.size],_,_,H,U,
  I1.kept (t':=tk) fun b o e=>Heap.get?_push_of_some _ e,gU _ lo (hi - lo).toNat,?_,fun b hb=>?_,q⟩
 ·have e1:lo+((0:Nat):Int)*1=lo:=by simp
  have e2:(((hi - lo).toNat:Nat):Int) - ((0:Nat):Int)=Builtin.Range.rangeSize lo hi 1:=by rw[rangeSize_one]; split <;> omega
  show IsRangeIter _ _ (lo+((0:Nat):Int)*1) ((((hi - lo).toNat:Nat):Int) - ((0:Nat):Int)) 1
  rw[e1,e2]
  exact Heap.get?_push_size _ rfl
 ·have e:b=(s.heap.push { cls:=.type "range",data:=.fields #[.int lo t,.int hi u,.int 1 v] }).objs.size:=by simpa using hb
  subst e
  exact I1.fpOk (Nat.le_refl _) (I1.hok.fresh (Nat.le_refl _))
noncomputable def iRng1 (ta:TA):TI:=fun σ H R=>ta σ H fun vs H1=>∃ j:Int,vs=[.int j]/\-(2 ^ 62)<=j/\j<2 ^ 62/\R (Itr 0 j.toNat) H1
theorem a9 {a:Expr}{ta:TA}{p pos:Pos} (hg:Gl X "range") (hm:X.mg "range" = none) (ha:PA X [a] ta) (hs:starEach [a] X.env=[(false,eval a X.env)]:=by rfl):PI X tg (.Call (.Name "range" p) [a] [] pos) (iRng1 ta):=by
 intro pins s σ H R I h
 refine Call_ (cy I hg hm boot_range (PyProof.Rows.callWith_type1 (thn (ha pos pins s σ H _ I h) fun us s1 z_=>z_.elim fun vs z_=>z_.elim fun H1 z_=>z_.elim fun I1 z_=>z_.elim fun r1 q1=>?_) hs rfl))
 obtain⟨j,e,q1,q2,q⟩:=q1
 subst e
 cases r1 with
 | cons r rr=>
  cases rr
  obtain⟨t,rfl⟩:=r
  exact call_range_1 (jV I1 (by omega) (by omega) q1 q2 (by simpa using q))
noncomputable def tFor (wi:TI) (g:TG) (tb:TS):TS:=fun D σ H=>wi σ H fun J H1=>∃ W:Nat->Nat->St->Hp->Prop,(∃ m,W 0 m σ H1)/\∀ i m σ H,W i m σ H ->
 (J.stop i H/\D.nx σ H)∨(J.go i H/\∃ N:St->Hp->Prop,(∀ σ' H',N σ' H'->∃ m',m'<m/\W (i+1) m' σ' H')/\∀ x H',J.yld i H x H'->g x σ H' fun σ2 H2=>tb { D with nx:=N,ct:=N,bk:=D.nx } σ2 H2)
noncomputable def cU (fp:List Addr) (h:Heap):List (Addr×Obj):=fp.filterMap fun b=>(h.get? b).map fun o=>(b,o)
theorem bu {fp:List Addr}{h:Heap}{b:Addr}{o:Obj} (hb:b ∈ fp) (e:h.get? b=some o):(b,o) ∈ cU fp h:=List.mem_filterMap.mpr ⟨b,hb,by rw[e]; rfl⟩
theorem jf {fp:List Addr}{h:Heap}{p:Addr×Obj} (hp:p ∈ cU fp h):p.1 ∈ fp/\h.get? p.1=some p.2:=by
 obtain⟨b,hb,e⟩:=List.mem_filterMap.mp hp
 cases q:h.get? b with
 | none=>rw[q] at e; cases e
 | some o=>
  rw[q] at e
  have e':(b,o)=p:=Option.some.inj e
  subst e'
  exact⟨hb,q⟩
theorem Inv.pinned {pins:List (Addr×Obj)}{σ:St}{H:Hp}{s:Shared}{fp:List Addr} (I:Inv X pins σ H s) (hf:∀ b ∈ fp,ck X pins H b) (ho:∀ b ∈ fp,∃ o,s.heap.get? b=some o/\∀ v,o.data≠.cell v):Inv X (pins++cU fp s.heap) σ H s :=
 I.pins_of fun p hp=>(mem_append.mp hp).elim (fun z=>I.pin p (mem_append_right _ z)) fun z=>by
  obtain⟨hb,e⟩:=jf z
  obtain⟨f0,f1,f2,_⟩:=hf p.1 hb
  obtain⟨o,e',d⟩:=ho p.1 hb
  rw[e] at e'; cases e'
  exact⟨e,f0,f1,f2,d⟩
theorem Inv.unpinned {pins pl:List (Addr×Obj)}{σ:St}{H:Hp}{s:Shared} (I:Inv X (pins++pl) σ H s):Inv X pins σ H s:=I.pins_of fun p hp=>I.pin p (mem_append_right _ (mem_append_left _ hp))
theorem aX {iter:Expr}{body:List Stmt}{wi:TI}{g:TG}{tb:TS}{pos:Pos} (hp:PassesOwn (model X.prog X.w) X.A X.env X.xe) (hc:X.calm=true) (hi:PI X tg iter wi) (hg:PG X tg g) (hb:PSs X body tb)
  (hs:∀ x,foldedSetIterable iter X.env x=pure x:=by intro _; rfl):PS X (.For tg iter body [] pos) (tFor wi g tb):=by
 intro pins s σ H D I h
 refine wpAny_For (thn (hi pins s σ H _ I h) fun v s1 h1=>thn h1 fun itv s2 h2=>?_) hs
 obtain⟨it,fp,tn,J,H2,e,I2,T,st2,f2,W,⟨m0,w0⟩,turn⟩:=h2
 subst e
 have stat:∀ {H':Hp},(∀ b ∈ fp,H' b=none)->∀ b ∈ fp,ck X pins H' b:=fun hn b hb=>⟨hn b hb,(f2 b hb).2⟩
 refine codeAny_forLoop_any (fun n s'=>∃ i σ' H',Inv X pins σ' H' s'/\tn i s'.heap/\(∀ b ∈ fp,H' b=none)/\W i n σ' H') ?_ m0 ⟨0,σ,H2,I2,st2,fun b hb=>(f2 b hb).1,w0⟩
 rintro n s3 ⟨i,σ3,H3,I3,st3,fr3,w3⟩
 rcases turn i n σ3 H3 w3 with ⟨stop,qn⟩ | ⟨go,N,hN,step⟩
 ·refine wpAny_passesOwn hp (thn (T.done X rfl rfl rfl hc i pins s3 σ3 H3 X.xe I3 (stat fr3) st3 stop) fun r s4 ⟨hr,I4⟩=>?_)
  subst hr
  exact wpAny_execs_nil ⟨σ3,H3,I4,qn⟩
 ·refine wpAny_passesOwn hp (thn (T.item X rfl rfl rfl hc i pins s3 σ3 H3 X.xe I3 (stat fr3) st3 go) fun r s4 z_=>z_.elim fun u z_=>z_.elim fun hr h4=>?_)
  subst hr
  refine wpAny_passesOwn hp (thn h4 fun _ s5 z_=>z_.elim fun x z_=>z_.elim fun H5 z_=>z_.elim fun I5 z_=>z_.elim fun r5 z_=>z_.elim fun y5 z_=>z_.elim fun st5 fr5=>?_)
  have I5':=I5.pinned (stat fr5) (T.obj _ _ st5)
  refine wpAny_passesOwn hp (thn (hg _ s5 σ3 H5 x u _ I5' r5 (step x H5 y5)) fun _ s6 z_=>z_.elim fun σ6 z_=>z_.elim fun H6 z_=>z_.elim fun I6 q6=>?_)
  refine wpAny_passesOwn hp (thn (hb _ s6 σ6 H6 _ I6 q6) fun f s7 q7=>?_)
  have again:∀ {σ7:St}{H7:Hp},Inv X (pins++cU fp s5.heap) σ7 H7 s7->N σ7 H7->∃ m,m<n/\∃ i σ' H',Inv X pins σ' H' s7/\tn i s7.heap/\(∀ b ∈ fp,H' b=none)/\W i m σ' H':=fun {σ7 H7} I7 n7=>by
   obtain⟨m',hm,w7⟩:=hN σ7 H7 n7
   refine⟨m',hm,i+1,σ7,H7,I7.unpinned,T.keep _ _ _ st5 fun b hb o e=>(I7.pin (b,o) (mem_append_right _ (mem_append_right _ (bu hb e)))).1,fun b hb=>?_,w7⟩
   obtain⟨o,e,d⟩:=T.obj _ _ st5 b hb
   exact(I7.pin (b,o) (mem_append_right _ (mem_append_right _ (bu hb e)))).2.1
  cases f with
  | next=>obtain⟨σ7,H7,I7,n7⟩:=q7; exact again I7 n7
  | cont=>obtain⟨σ7,H7,I7,n7⟩:=q7; exact again I7 n7
  | brk=>obtain⟨σ7,H7,I7,q7⟩:=q7; exact⟨σ7,H7,I7.unpinned,q7⟩
  | ret v=>obtain⟨x7,σ7,H7,I7,r7,q7⟩:=q7; exact⟨x7,σ7,H7,I7.unpinned,r7,q7⟩
end
theorem bO {K:PySem.W.Frag}{a:Addr}{xs:List V}{g:TG}{tb:TS}{D:Ends}{σ:St}{H:Hp} (Pv:Nat->St->Hp->Prop) (h0:Pv 0 σ H) (hl:∀ i σ H,i<=xs.length->Pv i σ H->SqL K H a xs)
  (hs:∀ i x σ H,xs[i]?=some x->Pv i σ H->g x σ H fun σ2 H2=>tb { D with nx:=Pv (i+1),ct:=Pv (i+1),bk:=D.nx } σ2 H2) (hd:∀ σ H,Pv xs.length σ H->D.nx σ H) :
  ∃ W:Nat->Nat->St->Hp->Prop,(∃ m,W 0 m σ H)/\∀ i m σ H,W i m σ H ->
   ((Itl K a).stop i H/\D.nx σ H)∨((Itl K a).go i H/\∃ N:St->Hp->Prop,(∀ σ' H',N σ' H'->∃ m',m'<m/\W (i+1) m' σ' H')/\∀ x H',(Itl K a).yld i H x H'->g x σ H' fun σ2 H2=>tb { D with nx:=N,ct:=N,bk:=D.nx } σ2 H2):=by
 refine⟨fun i m σ H=>m=xs.length - i/\i<=xs.length/\Pv i σ H,⟨xs.length,by simp,Nat.zero_le _,h0⟩,?_⟩
 rintro i m σ H ⟨rfl,hi,p⟩
 have q:=hl i σ H hi p
 by_cases hlt:i<xs.length
 ·refine .inr ⟨⟨xs,xs[i],q,by simp[hlt]⟩,Pv (i+1),fun σ' H' p'=>⟨xs.length - (i+1),by omega,U,hlt,p'⟩,fun x H' y=>?_⟩
  obtain⟨e,y⟩:=y
  subst e
  exact hs i x σ _ (y xs q) p
 ·have e:i=xs.length:=by omega
  subst e
  exact .inl ⟨⟨xs,q,Nat.le_refl _⟩,hd σ H p⟩
theorem lU {K:PySem.W.Frag}{a:Addr}{xs:List V}{g:TG}{tb:TS}{D:Ends}{σ:St}{H:Hp} (Pv:Nat->St->Hp->Prop) (h0:Pv 0 σ H) (hl:∀ i σ H,i<=xs.length->Pv i σ H->SqT K H a xs)
  (hs:∀ i x σ H,xs[i]?=some x->Pv i σ H->g x σ H fun σ2 H2=>tb { D with nx:=Pv (i+1),ct:=Pv (i+1),bk:=D.nx } σ2 H2) (hd:∀ σ H,Pv xs.length σ H->D.nx σ H) :
  ∃ W:Nat->Nat->St->Hp->Prop,(∃ m,W 0 m σ H)/\∀ i m σ H,W i m σ H ->
   ((Itt K a).stop i H/\D.nx σ H)∨((Itt K a).go i H/\∃ N:St->Hp->Prop,(∀ σ' H',N σ' H'->∃ m',m'<m/\W (i+1) m' σ' H')/\∀ x H',(Itt K a).yld i H x H'->g x σ H' fun σ2 H2=>tb { D with nx:=N,ct:=N,bk:=D.nx } σ2 H2):=by
 refine⟨fun i m σ H=>m=xs.length - i/\i<=xs.length/\Pv i σ H,⟨xs.length,by simp,Nat.zero_le _,h0⟩,?_⟩
 rintro i m σ H ⟨rfl,hi,p⟩
 have q:=hl i σ H hi p
 by_cases hlt:i<xs.length
 ·refine .inr ⟨⟨xs,xs[i],q,by simp[hlt]⟩,Pv (i+1),fun σ' H' p'=>⟨xs.length - (i+1),by omega,U,hlt,p'⟩,fun x H' y=>?_⟩
  obtain⟨e,y⟩:=y
  subst e
  exact hs i x σ _ (y xs q) p
 ·have e:i=xs.length:=by omega
  subst e
  exact .inl ⟨⟨xs,q,Nat.le_refl _⟩,hd σ H p⟩
theorem bv {lo:Int}{n:Nat}{g:TG}{tb:TS}{D:Ends}{σ:St}{H:Hp} (Pv:Nat->St->Hp->Prop) (h0:Pv 0 σ H)
  (hs:∀ i σ H,i<n->Pv i σ H->g (.int (lo+i)) σ H fun σ2 H2=>tb { D with nx:=Pv (i+1),ct:=Pv (i+1),bk:=D.nx } σ2 H2) (hd:∀ σ H,Pv n σ H->D.nx σ H) :
  ∃ W:Nat->Nat->St->Hp->Prop,(∃ m,W 0 m σ H)/\∀ i m σ H,W i m σ H ->
   ((Itr lo n).stop i H/\D.nx σ H)∨((Itr lo n).go i H/\∃ N:St->Hp->Prop,(∀ σ' H',N σ' H'->∃ m',m'<m/\W (i+1) m' σ' H')/\∀ x H',(Itr lo n).yld i H x H'->g x σ H' fun σ2 H2=>tb { D with nx:=N,ct:=N,bk:=D.nx } σ2 H2):=by
 refine⟨fun i m σ H=>m=n - i/\i<=n/\Pv i σ H,⟨n,by simp,Nat.zero_le _,h0⟩,?_⟩
 rintro i m σ H ⟨rfl,hi,p⟩
 by_cases hlt:i<n
 ·refine .inr ⟨hlt,Pv (i+1),fun σ' H' p'=>⟨n - (i+1),by omega,U,hlt,p'⟩,fun x H' y=>?_⟩
  obtain⟨e,y⟩:=y
  subst e y
  exact hs i σ _ hlt p
 ·have e:i=n:=by omega
  subst e
  exact .inl ⟨Nat.le_refl _,hd σ H p⟩
theorem jv {c:TT}{tb:TS}{D:Ends}{σ:St}{H:Hp} (Pv:St->Hp->Prop) (μ:St->Hp->Nat) (h0:Pv σ H)
  (hs:∀ σ H,Pv σ H->c σ H fun b H1=>if b=true then tb { D with nx:=fun σ' H'=>Pv σ' H'/\μ σ' H'<μ σ H,ct:=fun σ' H'=>Pv σ' H'/\μ σ' H'<μ σ H,bk:=D.nx } σ H1 else D.nx σ H1)
  (mono:∀ σ H Q Q',(∀ b H1,Q b H1->Q' b H1)->c σ H Q->c σ H Q'):jA c tb D σ H:=by
 refine⟨fun m σ H=>m=μ σ H/\Pv σ H,⟨_,U,h0⟩,?_⟩
 rintro m σ H ⟨rfl,p⟩
 refine mono σ H _ _ (fun b H1 q=>?_) (hs σ H p)
 cases b with
 | true=>exact⟨_,fun σ' H' ⟨p',l⟩=>⟨_,l,U,p'⟩,q⟩
 | false=>exact q
noncomputable abbrev R2:=V->V->Hp->VK->Prop
noncomputable def OpR (X:Cx) (f:Value->Value->Sem Value) (r:R2):Prop :=
 ∀ (pins:List (Addr×Obj)) (s:Shared) (σ:St) (H:Hp) (x y:V) (v u:Value) (Q:VK),Inv X pins σ H s->RelV x v->RelV y u->r x y H Q ->
  wpAny (model X.prog X.w) X.A (f v u) (EP X pins σ Q) X.xe s
noncomputable def UnR (X:Cx) (f:Value->Sem Value) (r:V->Hp->VK->Prop):Prop :=
 ∀ (pins:List (Addr×Obj)) (s:Shared) (σ:St) (H:Hp) (x:V) (v:Value) (Q:VK),Inv X pins σ H s->RelV x v->r x H Q ->
  wpAny (model X.prog X.w) X.A (f v) (EP X pins σ Q) X.xe s
noncomputable def cm (X:Cx) (f:Value) (r:List V->Hp->VK->Prop):Prop :=
 ∀ (pins:List (Addr×Obj)) (s:Shared) (σ:St) (H:Hp) (xs:List V) (us:List Value) (Q:VK),Inv X pins σ H s->Vals xs us->r xs H Q ->
  wpAny (model X.prog X.w) X.A (call f us) (EP X pins σ Q) X.xe s
noncomputable def TruR (X:Cx) (r:V->Hp->(Bool->Hp->Prop)->Prop):Prop :=
 ∀ (pins:List (Addr×Obj)) (s:Shared) (σ:St) (H:Hp) (x:V) (v:Value) (Q:Bool->Hp->Prop),Inv X pins σ H s->RelV x v->r x H Q ->
  wpAny (model X.prog X.w) X.A (truthy v) (TP X pins σ Q) X.xe s
noncomputable def tOp (r:R2) (ta tb:TE):TE:=fun σ H Q=>ta σ H fun x H1=>tb σ H1 fun y H2=>r x y H2 Q
noncomputable def tUn (r:V->Hp->VK->Prop) (ta:TE):TE:=fun σ H Q=>ta σ H fun x H1=>r x H1 Q
noncomputable def rI (C:Int->Int->Prop) (g:Int->Int->V):R2:=fun x y H Q=>∃ i j,x=.int i/\y=.int j/\C i j/\Q (g i j) H
noncomputable def rI0 (g:Int->Int->V):R2:=fun x y H Q=>∃ i j,x=.int i/\y=.int j/\Q (g i j) H
noncomputable def rU (g:Int->V):V->Hp->VK->Prop:=fun x H Q=>∃ i,x=.int i/\Q (g i) H
section
variable {X:Cx}{a b c:Expr}{ta tb tc:TE}{pos:Pos}
theorem oQ (ha:PE X a ta) (hb:PE X b tb) {pins:List (Addr×Obj)}{s:Shared}{σ:St}{H:Hp}{R:V->V->Hp->Prop} (I:Inv X pins σ H s)
  (h:ta σ H fun x H1=>tb σ H1 fun y H2=>R x y H2) {Q:Value->Shared->Prop}{f:Value->Value->Sem Value}
  (hf:∀ v u s2 x y H2,Inv X pins σ H2 s2->RelV x v->RelV y u->R x y H2->wpAny (model X.prog X.w) X.A (f v u) Q X.xe s2) :
  wpAny (model X.prog X.w) X.A (eval a X.env) (fun v s₁=>wpAny (model X.prog X.w) X.A (eval b X.env) (fun u s₂=>wpAny (model X.prog X.w) X.A (f v u) Q X.xe s₂) X.xe s₁) X.xe s:=by
 refine thn (ha pins s σ H _ I h) fun v s1 z_=>z_.elim fun x z_=>z_.elim fun H1 z_=>z_.elim fun I1 z_=>z_.elim fun r1 q1=>?_
 refine thn (hb pins s1 σ H1 _ I1 q1) fun u s2 z_=>z_.elim fun y z_=>z_.elim fun H2 z_=>z_.elim fun I2 z_=>z_.elim fun r2 q2=>?_
 exact hf v u s2 x y H2 I2 r1 r2 q2
theorem ao {op:Operator}{r:R2} (ho:OpR X (binaryOp op) r) (ha:PE X a ta) (hb:PE X b tb):PE X (.BinOp a op b pos) (tOp r ta tb):=by
 intro pins s σ H Q I h
 exact wpAny_BinOp (oQ ha hb I h fun v u s2 x y H2 I2 rx ry q=>ho pins s2 σ H2 x y v u Q I2 rx ry q)
theorem j6 {op:UnaryOp}{r:V->Hp->VK->Prop} (ho:UnR X (unaryOp op) r) (ha:PE X a ta):PE X (.UnaryOp op a pos) (tUn r ta):=by
 intro pins s σ H Q I h
 exact UnaryOp_ (thn (ha pins s σ H _ I h) fun v s1 z_=>z_.elim fun x z_=>z_.elim fun H1 z_=>z_.elim fun I1 z_=>z_.elim fun r1 q1=>ho pins s1 σ H1 x v Q I1 r1 q1)
theorem opI {f:Value->Value->Sem Value}{C:Int->Int->Prop}{g:Int->Int->Int}
  (rule:∀ (i j:Int) (t u:Tok) (s:Shared) (Q:Value->Shared->Prop) (E:Value->Shared->Prop),C i j->Q (.int (g i j) s.toks) { s with toks:=s.toks+1 }->wpAny (model X.prog X.w) X.A (f (.int i t) (.int j u)) Q E s) :
  OpR X f (rI C fun i j=>.int (g i j)):=by
 intro pins s σ H x y v u Q I rx ry h
 obtain⟨i,j,rfl,rfl,hc,q⟩:=h
 obtain⟨t,rfl⟩:=rx
 obtain⟨t',rfl⟩:=ry
 exact rule i j t t' s _ _ hc ⟨.int (g i j),H,I.tok _,⟨_,U⟩,q⟩
theorem pW {f:Value->Value->Sem Value}{g:Int->Int->Int}
  (rule:∀ (i j:Int) (t u:Tok) (s:Shared) (Q:Value->Shared->Prop) (E:Value->Shared->Prop),Q (.int (g i j) s.toks) { s with toks:=s.toks+1 }->wpAny (model X.prog X.w) X.A (f (.int i t) (.int j u)) Q E s) :
  OpR X f (rI0 fun i j=>.int (g i j)):=by
 intro pins s σ H x y v u Q I rx ry h
 obtain⟨i,j,rfl,rfl,q⟩:=h
 obtain⟨t,rfl⟩:=rx
 obtain⟨t',rfl⟩:=ry
 exact rule i j t t' s _ _ ⟨.int (g i j),H,I.tok _,⟨_,U⟩,q⟩
theorem lM {f:Value->Value->Sem Value}{g:Int->Int->Bool}
  (rule:∀ (i j:Int) (t u:Tok) (s:Shared) (Q:Value->Shared->Prop) (E:Value->Shared->Prop),Q (.bool (g i j)) s->wpAny (model X.prog X.w) X.A (f (.int i t) (.int j u)) Q E s) :
  OpR X f (rI0 fun i j=>.bl (g i j)):=by
 intro pins s σ H x y v u Q I rx ry h
 obtain⟨i,j,rfl,rfl,q⟩:=h
 obtain⟨t,rfl⟩:=rx
 obtain⟨t',rfl⟩:=ry
 exact rule i j t t' s _ _ ⟨.bl (g i j),H,I,U,q⟩
noncomputable def CDiv (i j:Int):Prop:=0<j/\j<1073741824
noncomputable def CPow (i j:Int):Prop:=0<=j/\j<=1000000/\i.natAbs<2 ^ 64
noncomputable def CMul (i j:Int):Prop:=(-(2 ^ 64)<i/\i<2 ^ 64)∨(-(2 ^ 64)<j/\j<2 ^ 64)
theorem CMul.ok {i j:Int} (h:CMul i j):IntMulOk i j:=by
 rcases h with ⟨h1,h2⟩ | ⟨h1,h2⟩
 ·exact .of_left (intBits_le_64 h1 h2)
 ·exact .of_right (intBits_le_64 h1 h2)
theorem aJ:OpR X (binaryOp .Add) (rI0 fun i j=>.int (i+j)):=pW fun _ _ _ _ _ _ _ q=>add_int q
theorem og:OpR X (binaryOp .Sub) (rI0 fun i j=>.int (i - j)):=pW fun _ _ _ _ _ _ _ q=>sub_int q
theorem b4:OpR X (binaryOp .Mult) (rI CMul fun i j=>.int (i*j)):=opI fun _ _ _ _ _ _ _ hc q=>mul_int q hc.ok
theorem bJ:OpR X (binaryOp .FloorDiv) (rI CDiv fun i j=>.int (i / j)):=opI fun i j _ _ _ _ _ hc q=>by
 have h1:(0:Int)<j:=hc.1
 have h2:j<1073741824:=hc.2
 exact floordiv_int (by omega) (by rw[Int.fdiv_eq_ediv_of_nonneg i (by omega)]; exact q) (.inl (PyProof.noPylong_small (by omega)))
theorem aN:OpR X (binaryOp .Mod) (rI (fun _ j=>0<j) fun i j=>.int (i % j)):=opI fun i j _ _ _ _ _ hc q=>by
 have h1:(0:Int)<j:=hc
 exact mod_int' (by omega) (by rw[Int.fmod_eq_emod_of_nonneg i (by omega)]; exact q)
theorem oh:OpR X (binaryOp .Pow) (rI CPow fun i j=>.int (i ^ j.toNat)):=opI fun _ _ _ _ _ _ _ hc q=>pow_int_small hc.1 hc.2.1 hc.2.2 q
theorem unI {f:Value->Sem Value}{g:Int->Int}
  (rule:∀ (i:Int) (t:Tok) (s:Shared) (Q:Value->Shared->Prop) (E:Value->Shared->Prop),Q (.int (g i) s.toks) { s with toks:=s.toks+1 }->wpAny (model X.prog X.w) X.A (f (.int i t)) Q E s) :
  UnR X f (rU fun i=>.int (g i)):=by
 intro pins s σ H x v Q I rx h
 obtain⟨i,rfl,q⟩:=h
 obtain⟨t,rfl⟩:=rx
 exact rule i t s _ _ ⟨.int (g i),H,I.tok _,⟨_,U⟩,q⟩
theorem gR:UnR X (unaryOp .USub) (rU fun i=>.int (-i)):=unI fun _ _ _ _ _ q=>neg_int q
end
noncomputable def o0:V->V->Bool
 | .non,.non=>true | .non,.int _=>true | .int _,.non=>true | .non,.bl _=>true | .bl _,.non=>true | .non,.str _=>true | .str _,.non=>true
 | .int _,.int _=>true | .bl _,.bl _=>true | .str _,.str _=>true | .byt _,.byt _=>true
 | .int _,.str _=>true | .str _,.int _=>true | .bl _,.str _=>true | .str _,.bl _=>true
 | _,_=>false
noncomputable def rEq:R2:=fun x y H Q=>o0 x y=true/\Q (.bl (decide (x=y))) H
noncomputable def rNe:R2:=fun x y H Q=>o0 x y=true/\Q (.bl (!decide (x=y))) H
theorem iK {i j:Int}:decide (V.int i=V.int j)=(i == j):=by
 rw[Bool.eq_iff_iff]
 simp
theorem kO {i j:Bool}:decide (V.bl i=V.bl j)=(i == j):=by
 rw[Bool.eq_iff_iff]
 simp
theorem sne (a b:Str) (h:¬ (V.str a=V.str b):=by decide +kernel):decide (V.str a=V.str b)=false:=decide_eq_false h
theorem iJ {i j:Str}:decide (V.str i=V.str j)=(i == j):=by
 rw[Bool.eq_iff_iff]
 simp
theorem iL {i j:Array UInt8}:decide (V.byt i=V.byt j)=(i.toList == j.toList):=by
 rw[Bool.eq_iff_iff]
 cases i
 cases j
 simp
section
variable {X:Cx}{a b c:Expr}{ta tb tc:TE}{pos:Pos}
theorem aL {pins:List (Addr×Obj)}{σ:St}{H:Hp}{s:Shared}{Q:VK}{k k':Bool} (I:Inv X pins σ H s) (q:Q (.bl k) H) (e:k=k'):EP X pins σ Q (.bool k') s:=by
 subst e
 exact⟨.bl k,H,I,U,q⟩
theorem bp:OpR X (compareOp .Eq) rEq:=by
 intro pins s σ H x y v u Q I rx ry h
 obtain⟨hs,q⟩:=h
 cases x with
 | non=>
  cases rx
  cases y with
  | non=>cases ry; exact PySem.EqNone.eq_none_none (aL I q (by simp))
  | bl j=>cases ry; exact PySem.EqNone.eq_none_bool (aL I q (by simp))
  | int j=>obtain⟨t',rfl⟩:=ry; exact PySem.EqNone.eq_none_int (aL I q (by simp))
  | str j=>obtain⟨t',rfl⟩:=ry; exact PySem.EqNone.eq_none_str (aL I q (by simp))
  | _=>exact absurd (show false=true from hs) Bool.false_ne_true
 | bl i=>
  cases rx
  cases y with
  | non=>cases ry; exact PySem.EqNone.eq_bool_none (aL I q (by simp))
  | bl j=>cases ry; exact eq_bool (aL I q kO)
  | str j=>obtain⟨t',rfl⟩:=ry; exact PySem.EqMixed.eq_bool_str (aL I q (by simp))
  | _=>exact absurd (show false=true from hs) Bool.false_ne_true
 | int i=>
  obtain⟨t,rfl⟩:=rx
  cases y with
  | non=>cases ry; exact PySem.EqNone.eq_int_none (aL I q (by simp))
  | int j=>obtain⟨t',rfl⟩:=ry; exact eq_int (aL I q iK)
  | str j=>obtain⟨t',rfl⟩:=ry; exact PySem.EqMixed.eq_int_str (aL I q (by simp))
  | _=>exact absurd (show false=true from hs) Bool.false_ne_true
 | str i=>
  obtain⟨t,rfl⟩:=rx
  cases y with
  | non=>cases ry; exact PySem.EqNone.eq_str_none (aL I q (by simp))
  | bl j=>cases ry; exact PySem.EqMixed.eq_str_bool (aL I q (by simp))
  | int j=>obtain⟨t',rfl⟩:=ry; exact PySem.EqMixed.eq_str_int (aL I q (by simp))
  | str j=>obtain⟨t',rfl⟩:=ry; exact eq_str (aL I q iJ)
  | _=>exact absurd (show false=true from hs) Bool.false_ne_true
 | byt i=>
  obtain⟨t,rfl⟩:=rx
  cases y with
  | byt j=>obtain⟨t',rfl⟩:=ry; exact PySem.W.eq_bytes (aL I q iL)
  | _=>exact absurd (show false=true from hs) Bool.false_ne_true
 | _=>cases y <;> exact absurd (show false=true from hs) Bool.false_ne_true
theorem mU:OpR X (compareOp .NotEq) rNe:=by
 intro pins s σ H x y v u Q I rx ry h
 obtain⟨hs,q⟩:=h
 cases x with
 | non=>
  cases rx
  cases y with
  | non=>cases ry; exact PySem.EqNone.ne_none_none (aL I q (by simp))
  | bl j=>cases ry; exact PySem.EqNone.ne_none_bool (aL I q (by simp))
  | int j=>obtain⟨t',rfl⟩:=ry; exact PySem.EqNone.ne_none_int (aL I q (by simp))
  | str j=>obtain⟨t',rfl⟩:=ry; exact PySem.EqNone.ne_none_str (aL I q (by simp))
  | _=>exact absurd (show false=true from hs) Bool.false_ne_true
 | bl i=>
  cases rx
  cases y with
  | non=>cases ry; exact PySem.EqNone.ne_bool_none (aL I q (by simp))
  | bl j=>cases ry; exact ne_bool (aL I q (congrArg not kO))
  | str j=>obtain⟨t',rfl⟩:=ry; exact PySem.EqMixed.ne_bool_str (aL I q (by simp))
  | _=>exact absurd (show false=true from hs) Bool.false_ne_true
 | int i=>
  obtain⟨t,rfl⟩:=rx
  cases y with
  | non=>cases ry; exact PySem.EqNone.ne_int_none (aL I q (by simp))
  | int j=>obtain⟨t',rfl⟩:=ry; exact ne_int (aL I q (congrArg not iK))
  | str j=>obtain⟨t',rfl⟩:=ry; exact PySem.EqMixed.ne_int_str (aL I q (by simp))
  | _=>exact absurd (show false=true from hs) Bool.false_ne_true
 | str i=>
  obtain⟨t,rfl⟩:=rx
  cases y with
  | non=>cases ry; exact PySem.EqNone.ne_str_none (aL I q (by simp))
  | bl j=>cases ry; exact PySem.EqMixed.ne_str_bool (aL I q (by simp))
  | int j=>obtain⟨t',rfl⟩:=ry; exact PySem.EqMixed.ne_str_int (aL I q (by simp))
  | str j=>obtain⟨t',rfl⟩:=ry; exact ne_str (aL I q (congrArg not iJ))
  | _=>exact absurd (show false=true from hs) Bool.false_ne_true
 | byt i=>
  obtain⟨t,rfl⟩:=rx
  cases y with
  | byt j=>obtain⟨t',rfl⟩:=ry; exact PySem.W.ne_bytes (aL I q (congrArg not iL))
  | _=>exact absurd (show false=true from hs) Bool.false_ne_true
 | _=>cases y <;> exact absurd (show false=true from hs) Bool.false_ne_true
theorem bF:OpR X (compareOp .Lt) (rI0 fun i j=>.bl (decide (i<j))):=lM fun _ _ _ _ _ _ _ q=>lt_int q
theorem mV:OpR X (compareOp .LtE) (rI0 fun i j=>.bl (decide (i<=j))):=lM fun _ _ _ _ _ _ _ q=>le_int q
theorem cf:OpR X (compareOp .Gt) (rI0 fun i j=>.bl (decide (j<i))):=lM fun _ _ _ _ _ _ _ q=>gt_int q
theorem fj:OpR X (compareOp .GtE) (rI0 fun i j=>.bl (decide (j<=i))):=lM fun _ _ _ _ _ _ _ q=>ge_int q
theorem oi : OpR X (compareOp .Is) (fun x y H Q=>y=.non/\Q (.bl (decide (x=.non))) H) := by
  intro pins s σ H x y v u Q I rx ry h
  obtain⟨rfl, q⟩ := h
  cases ry
  refine is_none_gen (aL I q ?_)
  cases x <;> first
    | (cases rx; rfl)
    | (obtain ⟨t, rfl⟩ := rx; rfl)
theorem lL : OpR X (compareOp .IsNot) (fun x y H Q=>y=.non/\Q (.bl (!decide (x=.non))) H) := by
  intro pins s σ H x y v u Q I rx ry h
  obtain⟨rfl, q⟩ := h
  cases ry
  refine isnot_none_gen (aL I q ?_)
  cases x <;> first
    | (cases rx; rfl)
    | (obtain ⟨t, rfl⟩ := rx; rfl)
theorem ap (b:Expr) {op:CmpOp} (h:op≠.In:=by decide) (h2:op≠.NotIn:=by decide):behindInMarks op b=false:=by
 have e1:(op == CmpOp.In)=false:=by cases op <;> first | rfl | exact absurd rfl h
 have e2:(op == CmpOp.NotIn)=false:=by cases op <;> first | rfl | exact absurd rfl h2
 cases b <;> simp[behindInMarks,e1,e2]
theorem iB {op:CmpOp}{r:R2} (ho:OpR X (compareOp op) r) (ha:PE X a ta) (hb:PE X b tb) (hm:behindInMarks op b=false):PE X (.Compare a [op] [b] pos) (tOp r ta tb):=by
 intro pins s σ H Q I h
 exact wpAny_Compare1 (oQ ha hb I h fun v u s2 x y H2 I2 rx ry q=>ho pins s2 σ H2 x y v u Q I2 rx ry q) hm
noncomputable def tTest (t:TE):TT:=fun σ H Q=>t σ H fun x H'=>∃ k,x=.bl k/\Q k H'
theorem aj {op:CmpOp}{r:R2} (ho:OpR X (compareOp op) r) (ha:PE X a ta) (hb:PE X b tb) (hm:behindInMarks op b=false):PT X (.Compare a [op] [b] pos) (tTest (tOp r ta tb)):=by
 intro pins s σ H Q I h
 refine wpAny_isTrue_Compare1 (thn (ha pins s σ H _ I h) fun v s1 z_=>z_.elim fun x z_=>z_.elim fun H1 z_=>z_.elim fun I1 z_=>z_.elim fun r1 q1=>thn (hb pins s1 σ H1 _ I1 q1) fun u s2 ⟨y,H2,I2,r2,q2⟩=>
  thn (ho pins s2 σ H2 x y v u _ I2 r1 r2 q2) fun c s3 z_=>z_.elim fun z z_=>z_.elim fun H3 z_=>z_.elim fun I3 z_=>z_.elim fun r3 z_=>z_.elim fun k z_=>z_.elim fun e q3=>?_) hm
 subst e
 cases r3
 exact wpAny_truthy_bool ⟨H3,I3,q3⟩
noncomputable def nC (r r':R2) (ta tb tc:TE):TE:=fun σ H Q=>ta σ H fun x H1=>tb σ H1 fun y H2=>r x y H2 fun z H3=>∃ k,z=.bl k /\
 (if k=true then tc σ H3 fun w' H4=>r' y w' H4 Q else Q (.bl false) H3)
theorem ka {op op':CmpOp}{r r':R2} (ho:OpR X (compareOp op) r) (ho':OpR X (compareOp op') r') (ha:PE X a ta) (hb:PE X b tb) (hc:PE X c tc)
  (hm:lastMarks [op,op'] [b,c]=false:=by with_unfolding_all rfl):PE X (.Compare a [op,op'] [b,c] pos) (nC r r' ta tb tc):=by
 intro pins s σ H Q I h
 refine Compare_chain (thn (ha pins s σ H _ I h) fun v s1 z_=>z_.elim fun x z_=>z_.elim fun H1 z_=>z_.elim fun I1 z_=>z_.elim fun r1 q1=>chain_link (thn (hb pins s1 σ H1 _ I1 q1) fun u s2 ⟨y,H2,I2,r2,q2⟩=>
  thn (ho pins s2 σ H2 x y v u _ I2 r1 r2 q2) fun d s3 z_=>z_.elim fun z z_=>z_.elim fun H3 z_=>z_.elim fun I3 z_=>z_.elim fun r3 z_=>z_.elim fun k z_=>z_.elim fun e q3=>?_)) hm
 subst e
 cases r3
 refine wpAny_truthy_bool ?_
 cases k with
 | false=>exact ite_ff ⟨.bl false,H3,I3,U,q3⟩
 | true=>exact ite_tt (chain_last (thn (hc pins s3 σ H3 _ I3 q3) fun w' s4 z_=>z_.elim fun z' z_=>z_.elim fun H4 z_=>z_.elim fun I4 z_=>z_.elim fun r4 q4=>ho' pins s4 σ H4 y z' u w' Q I4 r2 r4 q4))
noncomputable def qf (K:PySem.W.Frag) (x:V) (H:Hp) (k:Bool):Prop :=
 match x with
 | .non=>k=false
 | .bl b=>k=b
 | .int i=>k=(i != 0)
 | .str y=>y.length<=sizeLine/\k=((y.length:Int) != 0)
 | .byt y=>y.size<=sizeLine/\k=((y.size:Int) != 0)
 | .ref p=>(∃ xs,SqL K H p xs/\k = !xs.isEmpty)∨(∃ xs,SqT K H p xs/\k = !xs.isEmpty)∨∃ kvs,H p=some (.dK kvs)/\k = !kvs.isEmpty
 | _=>False
theorem hJ {κ:Type}{kvs:List (κ×V)}{vs:List (κ×Value)} (r:KV kvs vs):(!vs.isEmpty) = !kvs.isEmpty:=by
 cases r <;> rfl
theorem d4 {xs:List V}{its:List Value} (r:Vals xs its):(!its.toArray.isEmpty) = !xs.isEmpty:=by
 cases r <;> simp
theorem d3:(sizeLine:Nat)<2 ^ 63:=by rw[sizeLine_eq]; decide
theorem nt:TruR X (fun x H Q=>∃ k,qf X.K x H k/\Q k H):=by
 intro pins s σ H x v Q I rx h
 obtain⟨k,e,q⟩:=h
 have hl:=d3
 have hs:sizeLine=16777216:=sizeLine_eq
 cases x with
 | non=>
  cases rx
  have e':k=false:=e
  subst e'
  exact truthy_none ⟨H,I,q⟩
 | bl b=>
  cases rx
  have e':k=b:=e
  subst e'
  exact wpAny_truthy_bool ⟨H,I,q⟩
 | int i=>
  obtain⟨t,rfl⟩:=rx
  have e':k=(i != 0):=e
  subst e'
  exact PySem.P.truthy_int ⟨H,I,q⟩
 | str y=>
  obtain⟨t,rfl⟩:=rx
  obtain⟨hy,e'⟩:y.length<=sizeLine/\k=((y.length:Int) != 0):=e
  subst e'
  exact PySem.P.truthy_str (by omega) ⟨H,I.tok _,q⟩
 | byt y=>
  obtain⟨t,rfl⟩:=rx
  obtain⟨hy,e'⟩:y.size<=sizeLine/\k=((y.size:Int) != 0):=e
  subst e'
  exact PySem.W.truthy_bytes (by omega) ⟨H,I.tok _,q⟩
 | ref p=>
  cases rx
  have e':(∃ xs,SqL X.K H p xs/\k = !xs.isEmpty)∨(∃ xs,SqT X.K H p xs/\k = !xs.isEmpty)∨∃ kvs,H p=some (.dK kvs)/\k = !kvs.isEmpty:=e
  rcases e' with ⟨xs,hx,e'⟩ | ⟨xs,hx,e'⟩ | ⟨kvs,hx,e'⟩
  ·subst e'
   obtain⟨its,r,pl,hz⟩:=I.list hx
   have hlen:=r.length
   exact wpAny_truthy_list pl.isList (by simp only[size_toArray]; omega) ⟨H,I.tok _,by rw[d4 r]; exact q⟩
  ·subst e'
   obtain⟨its,r,pl,hz⟩:=I.tuple hx
   have hlen:=r.length
   exact truthy_tuple pl (by simp only[size_toArray]; omega) ⟨H,I.tok _,by rw[d4 r]; exact q⟩
  ·subst e'
   obtain⟨hz,hS,vs,r,m⟩:kvs.length<=sizeLine/\(p == sysModules)=false/\∃ vs,KV kvs vs/\s.heap.DictOf (ba X.prog X.w) p vs:=I.hok p _ hx
   have hlen:kvs.length=vs.length:=Paired.length r
   exact wpAny_truthy_dict hS m (by omega) ⟨H,I.tok _,by rw[hJ r]; exact q⟩
 | _=>exact(show False from e).elim
theorem cE (ha:PE X a ta) (he:∀ whole,isTrue a X.env whole=(do let v <- whole; standAt a.pos; holding [v] (truthy v))) :
  PT X a (fun σ H Q=>ta σ H fun x H'=>∃ k,qf X.K x H' k/\Q k H'):=by
 intro pins s σ H Q I h
 exact isTrue_plain (thn (ha pins s σ H _ I h) fun v s1 z_=>z_.elim fun x z_=>z_.elim fun H1 z_=>z_.elim fun I1 z_=>z_.elim fun r1 q1=>nt pins s1 σ H1 x v Q I1 r1 q1) (he _)
theorem c7 {x:V}{us:List Value} (r:Vals [x] us):∃ u,us=[u]/\RelV x u:=by
 cases r with
 | cons r1 r2=>cases r2; exact⟨_,U,r1⟩
theorem ic {x y:V}{us:List Value} (r:Vals [x,y] us):∃ u w',us=[u,w']/\RelV x u/\RelV y w':=by
 cases r with
 | cons r1 r2=>
  cases r2 with
  | cons r3 r4=>cases r4; exact⟨_,_,U,r1,r3⟩
theorem kS:cm X (.builtin "abs") (fun xs H Q=>∃ i,xs=[.int i]/\Q (.int (if i<0 then -i else i)) H):=by
 intro pins s σ H xs us Q I r h
 obtain⟨i,rfl,q⟩:=h
 obtain⟨u,rfl,t,rfl⟩:=c7 r
 exact call_abs_int fun u tk=>⟨.int (if i<0 then -i else i),H,I.tok _,⟨_,U⟩,q⟩
theorem ju:cm X (.type "int") (fun xs H Q=>(∃ i,xs=[.int i]/\Q (.int i) H)∨∃ k,xs=[.bl k]/\Q (.int (if k then 1 else 0)) H):=by
 intro pins s σ H xs us Q I r h
 rcases h with ⟨i,rfl,q⟩ | ⟨k,rfl,q⟩
 ·obtain⟨u,rfl,t,rfl⟩:=c7 r
  exact call_int_int ⟨.int i,H,I,⟨_,U⟩,q⟩
 ·obtain⟨u,rfl,r1⟩:=c7 r
  cases r1
  exact call_int_bool ⟨.int (if k then 1 else 0),H,I.tok _,⟨_,U⟩,q⟩
end
structure ObjM (h:Heap) (x dx C:Addr) (mA:Str->Option Value):Prop where
 obj:h.get? x=some (PySem.W.instObj C dx)
 ns:h.Ns1 dx mA
 ne:dx≠x
theorem jg {h:Heap}{dx:Addr}{mA:Str->Option Value} (n:h.Ns1 dx mA):∃ od,h.get? dx=some od/\∀ name,PySem.W.lookIn name od=some (mA name):=by
 obtain⟨o,es,ep,ho,hd,hk,_,hm⟩:=n
 refine⟨o,ho,fun name=>?_⟩
 have e:=hm name
 unfold nsFind findBy at e
 rw[<- Array.find?_toList] at e
 unfold PySem.W.lookIn
 rw[hd]
 dsimp only
 split
 ·rename_i y q
  rw[q] at e
  exact congrArg some e
 ·rename_i q
  rw[q] at e
  have a:es.toList.any (·.refKey)=false:=by
   rw[List.any_eq_false]
   intro y hy
   obtain⟨z,t,hkey⟩:=hk y (Array.mem_toList_iff.mp hy)
   simp[DictEntry.refKey,hkey]
  have a':¬ es.toList.any (·.refKey)=true:=by rw[a]; exact Bool.false_ne_true
  rw[if_neg a']
  exact congrArg some e
theorem ObjM.look {h:Heap}{x dx C:Addr}{mA:Str->Option Value} (I:ObjM h x dx C mA):∃ od,PySem.W.InstAt h x (PySem.W.instObj C dx) C (some od)/\∀ name,PySem.W.lookIn name od=some (mA name) :=
 let ⟨od,ho,hl⟩:=jg I.ns
 ⟨od,⟨I.obj,U,U,ho⟩,hl⟩
section
variable {prog:Program}{w:World}{A:Around}{E:Value->Shared->Prop}{s:Shared}{K:PySem.W.Frag}{x dx C f:Addr}{mA:Str->Option Value}{name:Str}{v:Value}
theorem lR {expr:Bool}{Q:Value->Shared->Prop} (X:K.In s.heap) (I:ObjM s.heap x dx C mA) (hg:W.plainGet K C name=true) (hh:W.hasDictIn K C=true)
  (ha:W.findIn K (.ref C) name=some none) (hv:mA name=some v) (hv':PySem.W.handedIn v=true) (h:Q v { s with toks:=s.toks+1 }) :
  wpAny (model prog w) A (getAttr (.ref x) name expr) Q E s:=by
 obtain⟨od,J,hl⟩:=I.look
 exact PySem.W.get_value X J (PySem.W.plainGet_of hg).1 (PySem.W.findObj_own hh ha rfl (by rw[hl,hv])) hv' h
theorem kG {pl:Sem Bool}{Q:Value×List Value->Shared->Prop} (X:K.In s.heap) (I:ObjM s.heap x dx C mA) (hg:W.plainGet K C name=true)
  (hf:W.findIn K (.ref C) name=some (some (.ref f))) (ht:W.isFn K (.ref f)=true) (hv:mA name=none) (h:Q (.ref f,[.ref x]) s) :
  wpAny (model prog w) A (getMethod (.ref x) name pl) Q E s:=by
 obtain⟨od,J,hl⟩:=I.look
 exact PySem.W.method_fn X J (PySem.W.plainGet_of hg).1 (PySem.W.plainGet_of hg).2 hf (beq_iff_eq.mp ht) (by show(PySem.W.lookIn name od).map (·.isSome)=some false; rw[hl,hv]; rfl) h
theorem lx {ns:List Str}{Q:Unit->Shared->Prop} (X:K.In s.heap) (I:ObjM s.heap x dx C mA)
  (hs:W.findIn K (.ref C) "__setattr__" = some (some (.builtin "object.__setattr__"))) (hp:W.plainOver K C=true) (ht:PySem.W.takerIn K C name=some none) (hh:W.hasDictIn K C=true)
  (hw:PySem.Within mA ns) (hsz:ns.length<=sizeLine)
  (h:∀ h',ObjM h' x dx C (fun y=>if y=name then some v else mA y)->Heap.SameBut dx s.heap h'->Q () { s with heap:=h',toks:=s.toks+2 }) :
  wpAny (model prog w) A (setAttr (.ref x) name v) Q E s:=by
 obtain⟨od,J,hl⟩:=I.look
 refine PySem.W.set_plain X J hs (PySem.W.osa_open (s:={ s with toks:=s.toks+1 }) (r:=none) X J hp ht fun b=>?_)
 obtain⟨cd,hc,hd'⟩:=PySem.W.any_some hh
 have hx:s.heap.get? x=some ⟨.ref C,some dx,.plain,#[]⟩:=I.obj
 refine wpAny_bind (wpAny_pure (wpAny_bind (wpAny_bind (wpAny_loadPart hx (wpAny_bind (PySem.W.Looks.here (s:={ s with toks:=s.toks+1 }) (PySem.W.looks_clsIn X hc) ?_))))))
 rw[hd']
 refine wpAny_pure (a:=some dx) (wpAny_bind (wpAny_pure (wpAny_bind ?_)))
 refine wpAny_nsSet1 (s:={ s with toks:=s.toks+1 }) I.ns fun h' hn2 hs2=>?_
 obtain⟨oD,esD,epD,hoD,hdD,hcD⟩:=hn2.count (PySem.Within.cons name v hw)
 refine wpAny_bind (wpAny_lookBehind hoD (by rw[hdD]; exact pastItsLine_dict (Nat.le_trans hcD (by rw[length_cons]; omega))) ?_)
 exact wpAny_pure (h _ ⟨(hs2.2 _ (Ne.symm I.ne)).trans I.obj,hn2,I.ne⟩ hs2)
theorem kt {R:Result->Shared->Prop}{vs:List Value}{kw:List (Str×Value)} (X:K.In s.heap) (hm:W.makesIn K C=true)
  (hi:W.findIn K (.ref C) "__init__" = some (some (.ref f))) (hf:PySem.W.typeIn K (.ref f)=some (.type "function"))
  (h:codeAny (model prog w) (A.under (.builtin "type.__call__" ⟨.ref C::vs,kw⟩)) (.call (.ref f) ⟨.ref (s.heap.objs.size+1)::vs,kw⟩) (PySem.W.InitBack (s.heap.objs.size+1) R)
   { s with heap:=(s.heap.push PySem.W.emptyDict).push (PySem.W.instObj C s.heap.objs.size) }) :
  codeAny (model prog w) A (.call (.ref C) ⟨vs,kw⟩) R s:=by
 obtain⟨hh,g,d,t,os⟩:=s
 exact PySem.W.make_core (PySem.W.makes_of X hm) (PySem.W.looks_findIn X hi) (fun self=>PySem.W.bind_fn X self hf) (.inl rfl) h
end
noncomputable def aU (f : Str) (v : V) : List (Str×V)->List (Str×V)
  | []=>[(f, v)]
  | (g, x) :: r => if g = f then (g, v) :: r else (g, x) :: aU f v r
theorem df (f g : Str) (v : V) : ∀ fs : List (Str×V), (aU f v fs).lookup g=if g=f then some v else fs.lookup g
  | []=>by
    show List.lookup g [(f, v)]=_
    by_cases h : g=f
    · have hb : (g == f)=true := beq_iff_eq.mpr h
      simp only[List.lookup, hb, if_pos h]
    · have hb : (g == f)=false := beq_eq_false_iff_ne.mpr h
      simp only[List.lookup, hb, if_neg h]
  | (k, x) :: r => by
    have ih := df f g v r
    rw[show aU f v ((k, x)::r)=(if k=f then(k, v)::r else(k, x)::aU f v r) from rfl]
    by_cases hk : k=f
    · rw[if_pos hk]
      by_cases h : g=k
      · have hb : (g == k)=true := beq_iff_eq.mpr h
        simp only[List.lookup, hb, if_pos (h.trans hk)]
      · have hb : (g == k)=false := beq_eq_false_iff_ne.mpr h
        simp only[List.lookup, hb, if_neg (fun e : g=f=>h (e.trans hk.symm))]
    · rw[if_neg hk]
      by_cases h : g=k
      · have hb : (g == k)=true := beq_iff_eq.mpr h
        simp only[List.lookup, hb, if_neg (fun e : g=f=>hk (h.symm.trans e))]
      · have hb : (g == k)=false := beq_eq_false_iff_ne.mpr h
        simp only[List.lookup, hb]
        exact ih
theorem cW (f : Str) (v : V) : ∀ fs : List (Str×V), f ∈ (aU f v fs).map (·.1)/\∀ g, g ∈ fs.map (·.1)->g ∈ (aU f v fs).map (·.1)
  | []=>⟨by simp[aU], fun g h=>by simp at h⟩
  | (k, x) :: r => by
    obtain⟨i1, i2⟩ := cW f v r
    rw[show aU f v ((k, x)::r)=(if k=f then(k, v)::r else(k, x)::aU f v r) from rfl]
    by_cases hk : k=f
    · rw[if_pos hk]
      subst hk
      exact⟨by simp, fun g h=>by simpa using h⟩
    · rw[if_neg hk]
      refine⟨?_, fun g h=>?_⟩
      · rw[map_cons]
        exact mem_cons_of_mem _ i1
      · rw[map_cons] at h ⊢
        rcases mem_cons.mp h with e | e
        · exact mem_cons.mpr (.inl e)
        · exact mem_cons_of_mem _ (i2 g e)
theorem dg (f : Str) (v : V) : ∀ fs : List (Str×V), (aU f v fs).length<=fs.length+1
  | []=>by simp[aU]
  | (k, x) :: r => by
    have ih := dg f v r
    rw[show aU f v ((k, x)::r)=(if k=f then(k, v)::r else(k, x)::aU f v r) from rfl]
    by_cases hk : k=f
    · rw[if_pos hk, length_cons, length_cons]; omega
    · rw[if_neg hk, length_cons, length_cons]; omega
theorem RelO.some_of {v:V}{o:Option Value} (r:RelO (some v) o):∃ u,o=some u/\RelV v u:=by
 cases o with
 | none=>exact(show False from r).elim
 | some u=>exact⟨u,U,r⟩
theorem RelO.none_of {o:Option Value} (r:RelO none o):o=none:=by
 cases o with
 | none=>rfl
 | some u=>exact(show False from r).elim
theorem jn {v:V}{u:Value} (r:RelV v u):PySem.W.handedIn u=true:=by
 cases v with
 | non=>cases (show u=Value.none from r); rfl
 | bl b=>cases (show u=Value.bool b from r); rfl
 | int i=>obtain⟨t,e⟩:=(show ∃ t,u=Value.int i t from r); cases e; rfl
 | str x=>obtain⟨t,e⟩:=(show ∃ t,u=Value.str x t from r); cases e; rfl
 | byt b=>obtain⟨t,e⟩:=(show ∃ t,u=Value.bytes b t from r); cases e; rfl
 | flt b=>obtain⟨t,e⟩:=(show ∃ t,u=Value.float b t from r); cases e; rfl
 | ref a=>cases (show u=Value.ref a from r); rfl
 | ty n=>cases (show u=Value.type n from r); rfl
section
variable {P:Program}{w:World}{H H':Hp}{h h':Heap}{a C dx:Addr}{fs fs':List (Str×V)}
theorem dy (hok:HOk P w H h) (e:H a=some (.ins C dx fs)):∃ mA,ObjM h a dx C mA/\(∀ f,RelO (fs.lookup f) (mA f))/\PySem.Within mA (fs.map (·.1))/\fs.length<=1000/\H dx=some (.own a):=by
 obtain⟨d,z,ne,ob,mA,n,r,q⟩:=(show ObjOk P w H h a (.ins C dx fs) from hok a _ e)
 exact⟨mA,⟨ob,n,ne⟩,r,q,z,d⟩
end
structure Cls (K:PySem.W.Frag) (C:Addr):Prop where
 pg:W.plainGet K C Str.empty=true
 hd:W.hasDictIn K C=true
 po:W.plainOver K C=true
 sa:W.findIn K (.ref C) "__setattr__" = some (some (.builtin "object.__setattr__"))
theorem Cls.get {K:PySem.W.Frag}{C:Addr} (c:Cls K C) (f:Str):W.plainGet K C f=true:=c.pg
noncomputable def NoAttr (K:PySem.W.Frag) (C:Addr) (f:Str):Prop:=W.findIn K (.ref C) f=some none
theorem NoAttr.taker {K:PySem.W.Frag}{C:Addr}{f:Str} (n:NoAttr K C f):PySem.W.takerIn K C f=some none:=by
 unfold PySem.W.takerIn
 rw[show W.findIn K (.ref C) f=some none from n]
 rfl
structure Con (K:PySem.W.Frag) (C:Addr) (f:Str) (v:V) (u:Value):Prop where
 at_:W.findIn K (.ref C) f=some (some u)
 rel:RelV v u
 get:PySem.W.specialIn K u "__get__" = some none
 cp:PySem.W.copiedNames.contains f=false
structure Meth (K:PySem.W.Frag) (C:Addr) (m:Str) (f:Addr):Prop where
 at_:W.findIn K (.ref C) m=some (some (.ref f))
 fn:W.isFn K (.ref f)=true
 kp:W.keepIn K (.ref f)=true
section
variable {X:Cx}{pins:List (Addr×Obj)}{σ:St}{H:Hp}{s:Shared}{a C dx:Addr}{fs:List (Str×V)}{f:Str}{v:V}{A:Around}{E:Value->Shared->Prop}
theorem d6 {b:Bool}{Q:Value->Shared->Prop} (I:Inv X pins σ H s) (e:H a=some (.ins C dx fs)) (c:Cls X.K C) (n:NoAttr X.K C f) (l:fs.lookup f=some v)
  (h:∀ u s',Inv X pins σ H s'->RelV v u->Q u s'):wpAny (model X.prog X.w) A (getAttr (.ref a) f b) Q E s:=by
 obtain⟨mA,O,r,_,_,_⟩:=dy I.hok e
 obtain⟨u,hu,ru⟩:=RelO.some_of (v:=v) (o:=mA f) (by rw[<- l]; exact r f)
 exact lR I.kIn O (c.get f) c.hd n hu (jn ru) (h u _ (I.tok _) ru)
theorem cz {m:Str}{g:Addr}{pl:Sem Bool}{Q:Value×List Value->Shared->Prop} (I:Inv X pins σ H s) (e:H a=some (.ins C dx fs)) (c:Cls X.K C) (k:Meth X.K C m g) (l:fs.lookup m=none)
  (h:Q (.ref g,[.ref a]) s):wpAny (model X.prog X.w) A (getMethod (.ref a) m pl) Q E s:=by
 obtain⟨mA,O,r,_,_,_⟩:=dy I.hok e
 have hn:mA m=none:=RelO.none_of (by rw[<- l]; exact r m)
 exact kG I.kIn O (c.get m) k.at_ k.fn hn h
theorem dN {y:V}{u:Value}{Q:Unit->Shared->Prop} (I:Inv X pins σ H s) (e:H a=some (.ins C dx fs)) (c:Cls X.K C) (n:NoAttr X.K C f) (hl:fs.length<1000) (ry:RelV y u)
  (h:∀ s',Inv X pins σ (upd H a (.ins C dx (aU f y fs))) s'->Q () s'):wpAny (model X.prog X.w) A (setAttr (.ref a) f u) Q E s:=by
 obtain⟨mA,O,r,wi,_,ho⟩:=dy I.hok e
 have hz:(fs.map (·.1)).length<=sizeLine:=by rw[length_map,sizeLine_eq]; omega
 refine lx I.kIn O c.sa c.po n.taker c.hd wi hz fun h' O' sb=>h _ ?_
 have hd:∃ o,h'.get? dx=some o:=let ⟨o,_,_,e',_⟩:=O'.ns; ⟨o,e'⟩
 refine I.write (x:=a) (e:=dx) (by rw[e]; exact True.intro) (.inr ho) (fun b q hb z=>(sb.2 b hb).trans z) hd ?_
 refine⟨by rw[av O.ne]; exact ho,?_,O.ne,O'.obj,_,O'.ns,fun g=>?_,fun g hg=>?_⟩
 ·have:=dg f y fs; omega
 ·show RelO ((aU f y fs).lookup g) (if g=f then some u else mA g)
  rw[df]
  by_cases q:g=f
  ·rw[if_pos q,if_pos q]; exact ry
  ·rw[if_neg q,if_neg q]; exact r g
 ·by_cases q:g=f
  ·rw[q]; exact(cW f y fs).1
  ·refine(cW f y fs).2 g (wi g fun z=>hg ?_)
   show(if g=f then some u else mA g)=none
   rw[if_neg q]; exact z
theorem Inv.made (I:Inv X pins σ H s):Inv X pins σ (upd (upd H s.heap.objs.size (.own (s.heap.objs.size+1))) (s.heap.objs.size+1) (.ins C s.heap.objs.size []))
  { s with heap:=(s.heap.push PySem.W.emptyDict).push (PySem.W.instObj C s.heap.objs.size) }:=by
 have e1:(s.heap.push PySem.W.emptyDict).get? s.heap.objs.size=some PySem.W.emptyDict:=Heap.get?_push_size s.heap rfl
 have e2:((s.heap.push PySem.W.emptyDict).push (PySem.W.instObj C s.heap.objs.size)).get? (s.heap.objs.size+1)=some (PySem.W.instObj C s.heap.objs.size):=by
  have:=Heap.get?_push_size (s.heap.push PySem.W.emptyDict) (o:=PySem.W.instObj C s.heap.objs.size) rfl
  rwa [Heap.size_push] at this
 have e3:(s.heap.push PySem.W.emptyDict).Ns s.heap.objs.size (fun _=>none):=⟨PySem.W.emptyDict,#[],_,e1,U,(fun e he=>absurd he (by simp)),fun _=>rfl⟩
 have I1:=I.laid (a:=s.heap.objs.size) (o:=.own (s.heap.objs.size+1)) (h':=s.heap.push PySem.W.emptyDict) (t':=s.toks) (fun b u q=>Heap.get?_push_of_some _ q) (Nat.le_refl _) ⟨_,e1⟩
 refine I1.laid (a:=s.heap.objs.size+1) (o:=.ins C s.heap.objs.size []) (t':=s.toks) (fun b u q=>Heap.get?_push_of_some _ q) (Nat.le_of_eq (Heap.size_push _ _)) ?_
 have ne:s.heap.objs.size≠s.heap.objs.size+1:=Nat.ne_of_lt (Nat.lt_succ_self _)
 refine⟨by rw[av ne,bw],Nat.zero_le _,ne,e2,fun _=>none,(Heap.Ns1.of_empty e3).at fun o q=>Heap.get?_push_of_some _ q,fun _=>True.intro,fun y hy=>absurd rfl hy⟩
theorem l5 {prog:Program}{w:World}{env:Env}{e:Expr}{f:Str}{pos:Pos}{s:Shared}{Q:Value->Shared->Prop} (hb:attributeBase e f env (eval e env)=eval e env)
  (h:wpAny (model prog w) A (eval e env) (fun o s₁=>wpAny (model prog w) A (getAttr o f true) Q E s₁) E s):wpAny (model prog w) A (eval (.Attribute e f pos) env) Q E s :=
 Attribute_any_ h (by rw[arm_eval_Attribute,hb])
end
noncomputable def tFld (K:PySem.W.Frag) (ta:TE) (f:Str):TE:=fun σ H Q=>ta σ H fun x H1=>∃ a C dx fs v,x=.ref a/\H1 a=some (.ins C dx fs)/\Cls K C/\NoAttr K C f/\fs.lookup f=some v/\Q v H1
noncomputable def sFld (K:PySem.W.Frag) (ta tv:TE) (f:Str):TS:=fun D σ H=>tv σ H fun y H1=>ta σ H1 fun x H2=>∃ a C dx fs,x=.ref a/\H2 a=some (.ins C dx fs)/\Cls K C/\NoAttr K C f/\fs.length<1000 /\
 D.nx σ (upd H2 a (.ins C dx (aU f y fs)))
noncomputable def qh (X:Cx) (op:Operator) (rd:V->V->Hp->VK->Prop):Prop :=
 ∀ (pins:List (Addr×Obj)) (s:Shared) (σ:St) (H:Hp) (x y:V) (u v:Value) (Q:VK),Inv X pins σ H s->RelV x u->RelV y v->rd x y H Q->wpAny (model X.prog X.w) X.A (inplaceOp op u v) (EP X pins σ Q) X.xe s
noncomputable def lB (K:PySem.W.Frag) (ta tv:TE) (rd:V->V->Hp->VK->Prop) (f:Str):TS:=fun D σ H=>ta σ H fun x H1=>∃ a C dx fs v,x=.ref a/\H1 a=some (.ins C dx fs)/\Cls K C/\NoAttr K C f/\fs.lookup f=some v /\
 tv σ H1 fun y H2=>rd v y H2 fun z H3=>∃ dx' fs',H3 a=some (.ins C dx' fs')/\fs'.length<1000/\D.nx σ (upd H3 a (.ins C dx' (aU f z fs')))
section
variable {X:Cx}{o e value:Expr}{f:Str}{pos pos' tpos:Pos}{ta tv:TE}
theorem aD (he:PE X e ta) (hb:attributeBase e f X.env (eval e X.env)=eval e X.env):PE X (.Attribute e f pos) (tFld X.K ta f):=by
 intro pins s σ H Q I h
 refine l5 hb (thn (he pins s σ H _ I h) fun u s1 z_=>z_.elim fun x z_=>z_.elim fun H1 z_=>z_.elim fun I1 z_=>z_.elim fun rx z_=>z_.elim fun a z_=>z_.elim fun C z_=>z_.elim fun dx z_=>z_.elim fun fs z_=>z_.elim fun v z_=>z_.elim fun ex z_=>z_.elim fun ea z_=>z_.elim fun c z_=>z_.elim fun n z_=>z_.elim fun l q=>?_)
 subst ex
 obtain rfl:u=Value.ref a:=rx
 exact d6 I1 ea c n l fun u' s2 I2 ru=>⟨v,H1,I2,ru,q⟩
theorem aZ (ha:PE X o ta) (hv:PE X value tv) (hs:swapsWith value (some (.Attribute o f pos')) pos.line X.env=pure false):PS X (.Assign [.Attribute o f pos'] value pos) (sFld X.K ta tv f):=by
 intro pins s σ H D I h
 refine plainObj_wpAny_Assign_Attribute (thn (hv pins s σ H _ I h) fun u s1 z_=>z_.elim fun y z_=>z_.elim fun H1 z_=>z_.elim fun I1 z_=>z_.elim fun ry q=>thn (ha pins s1 σ H1 _ I1 q) fun ov s2 z_=>z_.elim fun x z_=>z_.elim fun H2 z_=>z_.elim fun I2 z_=>z_.elim fun rx z_=>z_.elim fun a z_=>z_.elim fun C z_=>z_.elim fun dx z_=>z_.elim fun fs z_=>z_.elim fun ex z_=>z_.elim fun ea z_=>z_.elim fun c z_=>z_.elim fun n z_=>z_.elim fun l q2=>?_) hs
 subst ex
 obtain rfl:ov=Value.ref a:=rx
 exact dN I2 ea c n l ry fun s3 I3=>⟨σ,_,I3,q2⟩
theorem iZ {op:Operator}{rd:V->V->Hp->VK->Prop} (ha:PE X o ta) (hv:PE X value tv) (hop:qh X op rd):PS X (.AugAssign (.Attribute o f tpos) op value pos) (lB X.K ta tv rd f):=by
 intro pins s σ H D I h
 refine wpAny_AugAssign_AttributeAny (thn (ha pins s σ H _ I h) fun ov s1 z_=>z_.elim fun x z_=>z_.elim fun H1 z_=>z_.elim fun I1 z_=>z_.elim fun rx z_=>z_.elim fun a z_=>z_.elim fun C z_=>z_.elim fun dx z_=>z_.elim fun fs z_=>z_.elim fun v z_=>z_.elim fun ex z_=>z_.elim fun ea z_=>z_.elim fun c z_=>z_.elim fun n z_=>z_.elim fun l q=>?_)
 subst ex
 obtain rfl:ov=Value.ref a:=rx
 refine d6 I1 ea c n l fun u s2 I2 ru=>thn (hv pins s2 σ H1 _ I2 q) fun w3 s3 z_=>z_.elim fun y z_=>z_.elim fun H2 z_=>z_.elim fun I3 z_=>z_.elim fun ry q3=>thn (hop pins s3 σ H2 v y u w3 _ I3 ru ry q3) fun w4 s4 z_=>z_.elim fun z z_=>z_.elim fun H3 z_=>z_.elim fun I4 z_=>z_.elim fun rz z_=>z_.elim fun dx' z_=>z_.elim fun fs' z_=>z_.elim fun ea' z_=>z_.elim fun l' q4=>?_
 exact dN I4 ea' c n l' rz fun s5 I5=>⟨σ,_,I5,q4⟩
noncomputable def rAdd:V->V->Hp->VK->Prop:=fun x y H Q=>∃ i j,x=.int i/\y=.int j/\Q (.int (i+j)) H
theorem oM:qh X .Add rAdd:=by
 rintro pins s σ H x y u v Q I rx ry ⟨i,j,rfl,rfl,q⟩
 obtain⟨t,rfl⟩:=(show ∃ t,u=Value.int i t from rx)
 obtain⟨t',rfl⟩:=(show ∃ t',v=Value.int j t' from ry)
 exact PyProof.Rows.iadd_int ⟨.int (i+j),H,I.tok _,⟨_,U⟩,q⟩
end
section
variable {X:Cx}{pins:List (Addr×Obj)}{σ:St}{H:Hp}{s:Shared}{A:Around}{E:Value->Shared->Prop}{Q:Value->Shared->Prop}{c:Value}{b:Bool}
inductive TyOf (K:PySem.W.Frag) (H:Hp):V->Value->Prop where
 | non:TyOf K H .non (.type "NoneType")
 | bl (x:Bool):TyOf K H (.bl x) (.type "bool")
 | int (i:Int):TyOf K H (.int i) (.type "int")
 | str (x:Str):TyOf K H (.str x) (.type "str")
 | flt (x:UInt64):TyOf K H (.flt x) (.type "float")
 | lst {a:Addr}{xs:List V} (e:H a=some (.lst xs)):TyOf K H (.ref a) (.type "list")
 | frz {a:Addr}{o:Obj}{xs:List V} (e:H a=some (.frz o (.lst xs))):TyOf K H (.ref a) (.type "list")
 | tup {a:Addr}{xs:List V} (e:H a=some (.tup xs)):TyOf K H (.ref a) (.type "tuple")
 | dK {a:Addr}{kvs:List (Key×V)} (e:H a=some (.dK kvs)):TyOf K H (.ref a) (.type "dict")
 | dT {a:Addr}{kvs:List (List Key×V)} (e:H a=some (.dT kvs)):TyOf K H (.ref a) (.type "dict")
 | ins {a C dx:Addr}{fs:List (Str×V)} (e:H a=some (.ins C dx fs)) (cl:Cls K C) (ha:W.findIn K (.ref C) "__class__" = some (some (.builtin "object.__class__")))
   (hn:PySem.W.specialIn K (.builtin "object.__class__") "__get__" = some (some (.builtin "getset_descriptor.__get__"))) (htk:PySem.W.takesIn K (.builtin "object.__class__")=some true)
   (hm:PySem.W.mroIn K C (.type "object")=some true):TyOf K H (.ref a) (.ref C)
theorem jj {x:V}{u t:Value} (I:Inv X pins σ H s) (rx:RelV x u) (ty:TyOf X.K H x t) (e:PySem.W.kitOne X.K t c=some b) (h:∀ tk,Q (.bool b) { s with toks:=tk }) :
  wpAny (model X.prog X.w) A (call (.builtin "isinstance") [u,c]) Q E s:=by
 cases ty with
 | non=>cases (show u=Value.none from rx); exact PySem.W.kia_one PySem.W.kitx_none I.kIn True.intro e (fun z=>nomatch z) h
 | bl y=>cases (show u=Value.bool y from rx); exact PySem.W.kia_one PySem.W.kitx_bool I.kIn True.intro e (fun z=>nomatch z) h
 | int i=>obtain⟨t,q⟩:=(show ∃ t,u=Value.int i t from rx); cases q; exact PySem.W.kia_one PySem.W.kitx_int I.kIn True.intro e (fun z=>nomatch z) h
 | str y=>obtain⟨t,q⟩:=(show ∃ t,u=Value.str y t from rx); cases q; exact PySem.W.kia_one PySem.W.kitx_str I.kIn True.intro e (fun z=>nomatch z) h
 | flt y=>obtain⟨t,q⟩:=(show ∃ t,u=Value.float y t from rx); cases q; exact PySem.W.kia_one PySem.W.kitx_float I.kIn True.intro e (fun z=>nomatch z) h
 | @lst a xs ea=>
  cases (show u=Value.ref a from rx)
  obtain⟨_,_,n,_,h1⟩:=(show ObjOk X.prog X.w H s.heap a (.lst xs) from I.hok a _ ea)
  exact PySem.W.kia_one PySem.W.kitx_list I.kIn ⟨_,h1,U⟩ e (fun z=>nomatch z) h
 | @frz a ob xs ea=>
  cases (show u=Value.ref a from rx)
  obtain⟨_,_,_,n,_,h1⟩:=(show ObjOk X.prog X.w H s.heap a (.frz ob (.lst xs)) from I.hok a _ ea)
  exact PySem.W.kia_one PySem.W.kitx_list I.kIn ⟨_,h1,U⟩ e (fun z=>nomatch z) h
 | @tup a xs ea=>
  cases (show u=Value.ref a from rx)
  obtain⟨_,_,_,p⟩:=(show ObjOk X.prog X.w H s.heap a (.tup xs) from I.hok a _ ea)
  obtain⟨o,h1,h2,_⟩:=p
  exact PySem.W.kia_one PySem.W.kitx_tuple I.kIn ⟨o,h1,h2⟩ e (fun z=>nomatch z) h
 | @dK a kvs ea=>
  cases (show u=Value.ref a from rx)
  obtain⟨_,_,vs,_,p⟩:=(show ObjOk X.prog X.w H s.heap a (.dK kvs) from I.hok a _ ea)
  obtain⟨o,es,ep,h1,h2,_⟩:=p
  exact PySem.W.kia_one PySem.W.kitx_dict I.kIn ⟨o,h1,h2.1⟩ e (fun z=>nomatch z) h
 | @dT a kvs ea=>
  cases (show u=Value.ref a from rx)
  obtain⟨_,_,xs,_,o,es,ep,h1,h2,_⟩:=(show ObjOk X.prog X.w H s.heap a (.dT kvs) from I.hok a _ ea)
  exact PySem.W.kia_one PySem.W.kitx_dict I.kIn ⟨o,h1,h2.1⟩ e (fun z=>nomatch z) h
 | @ins a C dx fs ea cl ha hn htk hm=>
  cases (show u=Value.ref a from rx)
  obtain⟨mA,O,_⟩:=dy I.hok ea
  obtain⟨od,J,_⟩:=O.look
  exact PySem.W.kia_one (PySem.W.kitx_own (cl.get _) cl.hd ha hn htk hm) I.kIn J e (fun z=>nomatch z) h
end
structure Room (k:Nat) (A:Around):Prop where
 hd:A.handled=none
 dp:A.depth+3*k+5<recursionLimit
 un:A.units+16*k+200<cLine
 gd:A.guards=some []
theorem Room.mono {j k:Nat}{A:Around} (r:Room k A) (h:j<=k):Room j A:=⟨r.hd,by have:=r.dp; omega,by have:=r.un; omega,r.gd⟩
theorem Room.deeper {k:Nat}{A:Around} (r:Room (k+1) A) (env:Env):Room k (A.deeper env) :=
 ⟨r.hd,by have:=r.dp; show A.depth+1+3*k+5<_; omega,by have:=r.un; show A.units+3+16*k+200<_; omega,r.gd⟩
theorem hG {A:Around}{C:Addr}{us:List Value}{kw:List (Str×Value)}:(A.under (.builtin "type.__call__" ⟨.ref C::us,kw⟩)).depth=A.depth+1:=by
 first | rfl | simp[Around.under,Code.weight,Code.isCreation,Code.isGuard,Code.isCaller,Code.frames,Code.isFrame,guardIds]
theorem hC {A:Around}{C:Addr}{us:List Value}{kw:List (Str×Value)}:(A.under (.builtin "type.__call__" ⟨.ref C::us,kw⟩)).units=A.units+1:=by
 first | rfl | simp[Around.under,Code.cUnits,Code.frames,Code.isFrame]
theorem gI {A:Around}{C:Addr}{us:List Value}{kw:List (Str×Value)}:(A.under (.builtin "type.__call__" ⟨.ref C::us,kw⟩)).guards=A.guards:=by
 cases h:A.guards with
 | none=>simp[Around.under,Code.guards,Code.isGuard,guardIds,pushGuards,h]
 | some l=>simp[Around.under,Code.guards,Code.isGuard,guardIds,pushGuards,h]
theorem Room.make {k:Nat}{A:Around} (r:Room (k+1) A) (C:Addr) (us:List Value) (kw:List (Str×Value)):Room k (A.under (.builtin "type.__call__" ⟨.ref C::us,kw⟩)) :=
 ⟨r.hd,by have:=r.dp; rw[hG]; omega,by have:=r.un; rw[hC]; omega,by rw[gI]; exact r.gd⟩
theorem Room.depth {k:Nat}{A:Around} (r:Room k A):A.depth<recursionLimit:=by have:=r.dp; omega
theorem Room.units {k:Nat}{A:Around} (r:Room k A):A.units+64<cLine:=by have:=r.un; omega
noncomputable def f9:TA:=fun _ H Q=>Q [] H
noncomputable def gf (ta:TE) (tr:TA):TA:=fun σ H Q=>ta σ H fun x H1=>tr σ H1 fun xs H2=>Q (x::xs) H2
section
variable {X:Cx}{e:Expr}{es:List Expr}{te:TE}{t:TA}{pos:Pos}
theorem af:PA X [] f9:=fun _ _ _ _ H Q I h=>Calls.spliced_nil ⟨[],H,I,.nil,h⟩
theorem aa (ha:PE X e te) (hr:PA X es t) (hs:starEach (e::es) X.env=(false,eval e X.env)::starEach es X.env:=by rfl):PA X (e::es) (gf te t):=by
 intro pos pins s σ H Q I h
 rw[hs]
 show wpAny _ _ (spliced ((false,eval e X.env)::backTo pos (starEach es X.env))) _ _ s
 refine Calls.spliced_cons (thn (ha pins s σ H _ I h) fun u s1 z_=>z_.elim fun x z_=>z_.elim fun H1 z_=>z_.elim fun I1 z_=>z_.elim fun r1 q1=>?_)
 exact thn (hr pos pins s1 σ H1 _ I1 q1) fun us s2 z_=>z_.elim fun xs z_=>z_.elim fun H2 z_=>z_.elim fun I2 z_=>z_.elim fun r2 q2=>⟨x::xs,H2,I2,.cons r1 r2,q2⟩
noncomputable def tTup (t:TA):TE:=fun σ H Q=>t σ H fun xs H1=>xs.length<=sizeLine/\∀ p,H1 p=none->Q (.ref p) (upd H1 p (.tup xs))
noncomputable def tLst (t:TA):TE:=fun σ H Q=>t σ H fun xs H1=>xs.length<=sizeLine/\∀ p,H1 p=none->Q (.ref p) (upd H1 p (.lst xs))
theorem aq {x1} (h:PA X es t):PE X (.Tuple es x1 pos) (tTup t):=by
 intro pins s σ H Q I hq
 refine wpAny_Tuple_spliced (thn (h pos pins s σ H _ I hq) fun us s1 z_=>z_.elim fun xs z_=>z_.elim fun H1 z_=>z_.elim fun I1 z_=>z_.elim fun r z_=>z_.elim fun z q=>⟨by rw[<- r.length]; exact z,?_⟩)
 have hf:H1 s1.heap.objs.size=none:=I1.hok.fresh (Nat.le_refl _)
 refine⟨.ref s1.heap.objs.size,upd H1 s1.heap.objs.size (.tup xs),I1.laid (t':=s1.toks) (fun b u e=>Heap.get?_push_of_some _ e) (Nat.le_refl _) ?_,U,q _ hf⟩
 exact⟨z,us,r,⟨_,Heap.get?_push_size _ rfl,U,_,U⟩⟩
theorem aR (h:PA X es t):PE X (.List es pos) (tLst t):=by
 intro pins s σ H Q I hq
 refine wpAny_List_spliced (thn (h pos pins s σ H _ I hq) fun us s1 z_=>z_.elim fun xs z_=>z_.elim fun H1 z_=>z_.elim fun I1 z_=>z_.elim fun r z_=>z_.elim fun z q=>⟨by rw[<- r.length]; exact z,?_⟩)
 have hf:H1 s1.heap.objs.size=none:=I1.hok.fresh (Nat.le_refl _)
 refine⟨.ref s1.heap.objs.size,upd H1 s1.heap.objs.size (.lst xs),I1.laid (t':=s1.toks) (fun b u e=>Heap.get?_push_of_some _ e) (Nat.le_refl _) ?_,U,q _ hf⟩
 exact⟨z,us,0,r,Heap.get?_push_size _ rfl⟩
end
noncomputable abbrev Sp:=List V->Hp->VK->XK->Prop
noncomputable abbrev CXT:=List Env->Hp->Shared->XK->Value->Shared->Prop
structure Env0 (P:Program) (w:World) (K:PySem.W.Frag) (mg:Str->Option Value) (base:Heap) (A:Around) (outer:List Env) (s:Shared) (H:Hp):Prop where
 frames:A.frames=some outer
 mod:Mod K mg base
 bs:∀ b o,base.get? b=some o->s.heap.get? b=some o/\H b=none
 bsz:base.objs.size<=s.heap.objs.size
 funs:s.heap.FunFrames base outer
 frf:∀ b ∈ frs outer,H b=none
 hok:HOk P w H s.heap
 bare:AllBare s.gens
noncomputable def CE (outer:List Env) (P:Program) (w:World) (H:Hp) (s:Shared) (Q:VK) (u:Value) (s':Shared):Prop :=
 ∃ v H',s'.os=s.os/\AllBare s'.gens/\Un (frs outer) [] H H' s.heap s'.heap/\HOk P w H' s'.heap/\RelV v u/\Q v H'
noncomputable def CR (CX:CXT) (outer:List Env) (P:Program) (w:World) (H:Hp) (s:Shared) (Q:VK) (E:XK) (r:Result) (s':Shared):Prop :=
 match r with
 | .ok (.ret u)=>CE outer P w H s Q u s'
 | .ok _=>False
 | .error e=>CX outer H s E e s'
structure FnOk (P:Program) (w:World) (K:PySem.W.Frag) (mg:Str->Option Value) (base:Heap) (CX:CXT) (k:Nat) (f:Addr) (fd:FuncData) (ps:List Str) (sp:Sp):Prop where
 len:∀ vs H Q E,sp vs H Q E->vs.length=ps.length
 run:∀ (A:Around) (outer:List Env) (s:Shared) (H:Hp) (args:Args) (us:List Value) (vs:List V) (Q:VK) (E:XK),Room k A->Env0 P w K mg base A outer s H->BindsTo s fd args (ps.zip us)->Vals vs us->sp vs H Q E ->
  codeAny (model P w) A (.call (.ref f) args) (CR CX outer P w H s Q E) s
theorem Env0.make {P:Program}{w:World}{K:PySem.W.Frag}{mg:Str->Option Value}{base:Heap}{A:Around}{outer:List Env}{s:Shared}{H:Hp} (e:Env0 P w K mg base A outer s H) (C:Addr) (us:List Value) (kw:List (Str×Value)) :
  Env0 P w K mg base (A.under (.builtin "type.__call__" ⟨.ref C :: us,kw⟩)) outer s H:=⟨by first | exact e.frames | (simpa [Around.under,Code.envs,Code.isFrame,pushEnvs] using e.frames),e.mod,e.bs,e.bsz,e.funs,e.frf,e.hok,e.bare⟩
section
variable {X:Cx}{pins:List (Addr×Obj)}{σ:St}{H:Hp}{s s':Shared}
theorem Inv.env0 (I:Inv X pins σ H s):Env0 X.prog X.w X.K X.mg X.base X.A X.stack s H :=
 ⟨I.ok.frames,I.ok.mod,I.bs,Nat.le_trans I.ok.bsz I.sz,I.stack,I.stkFree,I.hok,I.bare⟩
theorem Inv.after {Q:VK}{u:Value} (I:Inv X pins σ H s) (h:CE X.stack X.prog X.w H s Q u s'):EP X pins σ Q u s':=by
 obtain⟨v,H',os,bare,un,hok,r,q⟩:=h
 obtain⟨hh,g,d,t,os'⟩:=s'
 obtain rfl:os'=s.os:=os
 exact⟨v,H',I.call (h':=hh) (g':=g) (d':=d) (t':=t) (ch:=[]) un hok bare (fun b z=>absurd z (by simp)),r,q⟩
end
noncomputable def mE (sp:Sp) (dvs:List V) (E:XK) (t:TA):TE:=fun σ H Q=>t σ H fun vs H1=>sp (vs++dvs) H1 Q E
noncomputable def jC (C:Addr) (m:Str) (sp:Sp) (dvs:List V) (E:XK) (ta:TE) (t:TA):TE:=fun σ H Q=>ta σ H fun x H1=>∃ a dx fs,x=.ref a/\H1 a=some (.ins C dx fs)/\fs.lookup m=none /\
 t σ H1 fun vs H2=>sp (x::(vs++dvs)) H2 Q E
noncomputable def mC (C:Addr) (sp:Sp) (dvs:List V) (E:XK) (t:TA):TE:=fun σ H Q=>t σ H fun vs H1=>∀ x dx,H1 x=none->H1 dx=none->dx≠x ->
 sp (.ref x::(vs++dvs)) (upd (upd H1 dx (.own x)) x (.ins C dx [])) (fun v H2=>v=.non/\Q (.ref x) H2) E
noncomputable def Binds (K:PySem.W.Frag) (fd:FuncData) (ps:List Str) (ds:List Value):Prop :=
 ∀ (s:Shared) (us:List Value),K.In s.heap->(us++ds).length=ps.length->BindsTo s fd ⟨us,[]⟩ (ps.zip (us++ds))
theorem Binds.all {K:PySem.W.Frag}{fd:FuncData}{ps:List Str} (h:∀ us:List Value,us.length=ps.length->bindArgs fd ⟨us,[]⟩=pure (ps.zip us)):Binds K fd ps []:=fun s us _ hl=>by
 rw[append_nil] at hl ⊢
 exact .of_eq (h us hl)
noncomputable def bV (CX:CXT) (X:Cx) (E:XK):Prop:=∀ (pins:List (Addr×Obj)) (σ:St) (H:Hp) (s:Shared) (e:Value) (s':Shared),Inv X pins σ H s->CX X.stack H s E e s'->X.xe e s'
section
variable {X:Cx}{CX:CXT}{k:Nat}{f C:Addr}{fd:FuncData}{ps:List Str}{sp:Sp}{dvs:List V}{ds:List Value}{E:XK}{x m:Str}{p pos apos:Pos}{e o:Expr}{es:List Expr}{ta:TE}{t:TA}
theorem gZ {pins:List (Addr×Obj)}{σ:St}{H:Hp}{s:Shared}{Q:VK}{us:List Value}{vs:List V} (F:FnOk X.prog X.w X.K X.mg X.base CX k f fd ps sp) (hr:Room k X.A) (hb:Binds X.K fd ps ds) (hd:Vals dvs ds) (hx:bV CX X E)
  (I:Inv X pins σ H s) (r:Vals vs us) (h:sp (vs++dvs) H Q E):wpAny (model X.prog X.w) X.A (call (.ref f) us) (EP X pins σ Q) X.xe s:=by
 have r2:Vals (vs++dvs) (us++ds):=r.append hd
 have hl:(us++ds).length=ps.length:=by rw[<- r2.length]; exact F.len _ _ _ _ h
 refine wpAny_call (codeAny_mono (F.run X.A X.stack s H ⟨us,[]⟩ (us++ds) (vs++dvs) Q E hr I.env0 (hb s us I.kIn hl) r2 h) fun r s' hq=>?_)
 cases r with
 | error e=>exact hx pins σ H s e s' I hq
 | ok fl=>
  cases fl with
  | ret u=>exact I.after hq
  | next=>exact False.elim hq
  | brk=>exact False.elim hq
  | cont=>exact False.elim hq
theorem lJ (F:FnOk X.prog X.w X.K X.mg X.base CX k f fd ps sp) (hr:Room k X.A) (hg:Gl X x) (hm:X.mg x=some (.ref f)) (hk:W.keepIn X.K (.ref f)=true) (hb:Binds X.K fd ps ds) (hd:Vals dvs ds) (hx:bV CX X E)
  (ha:PA X (e::es) t) (hdb:(x == ("__debug__" : Str))=false:=by decide) (he:starEach (e::es) X.env=(false,eval e X.env)::starEach es X.env:=by rfl) (hpl:(backTo pos (starEach es X.env)).any (·.1)=false:=by rfl) :
  PE X (.Call (.Name x p) (e::es) [] pos) (mE sp dvs E t):=by
 intro pins s σ H Q I h
 refine wpAny_Call_Name_kw (dw I hg hm ?_ hdb)
 refine PySem.W.callWith_K (h₀:=X.base) I.ok.mod.kin hk (thn (ha pos pins s σ H _ I h) fun us s1 z_=>z_.elim fun vs z_=>z_.elim fun H1 z_=>z_.elim fun I1 z_=>z_.elim fun r q=>⟨I1.kIn,?_⟩) he hpl
 exact gZ F hr hb hd hx I1 r q
theorem aA {pl:Sem Bool}{nr:Nat} (he:PE X o ta) (c:Cls X.K C) (hm:Meth X.K C m f) (F:FnOk X.prog X.w X.K X.mg X.base CX k f fd ps sp) (hr:Room nr X.A) (hb:Binds X.K fd ps ds) (hd:Vals dvs ds) (hx:bV CX X E) (ha:PA X (e::es) t)
  (hst:starEach (e::es) X.env=(false,eval e X.env)::starEach es X.env:=by rfl) (hpl:(backTo pos (starEach es X.env)).any (·.1)=false:=by rfl)
  (ht:eval (.Call (.Attribute o m apos) (e::es) [] pos) X.env=(do
   let ov <- eval o X.env
   standAt apos.atName
   let (f,first) <- holding [ov] (getMethod ov m pl)
   callWith pos f first (backTo pos (starEach (e::es) X.env)) (backToKw pos (keywordEach [] X.env))):=by rfl) (hj:k<=nr:=by decide) :
  PE X (.Call (.Attribute o m apos) (e::es) [] pos) (jC C m sp dvs E ta t):=by
 intro pins s σ H Q I h
 refine PySem.W.methodCall_KW (pl:=pl) (thn (he pins s σ H _ I h) fun u s1 z_=>z_.elim fun x z_=>z_.elim fun H1 z_=>z_.elim fun I1 z_=>z_.elim fun rx z_=>z_.elim fun a z_=>z_.elim fun dx z_=>z_.elim fun fs z_=>z_.elim fun ex z_=>z_.elim fun ea z_=>z_.elim fun l q=>?_) ht
 subst ex
 obtain rfl:u=Value.ref a:=rx
 refine cz I1 ea c hm l ?_
 refine PySem.W.callWith_K (first:=[.ref a]) (h₀:=X.base) I.ok.mod.kin hm.kp (thn (ha pos pins s1 σ H1 _ I1 q) fun us s2 z_=>z_.elim fun vs z_=>z_.elim fun H2 z_=>z_.elim fun I2 z_=>z_.elim fun r q2=>⟨I2.kIn,?_⟩) hst hpl
 exact gZ (us:=.ref a::us) (vs:=.ref a::vs) F (hr.mono hj) hb hd hx I2 (.cons rfl r) q2
theorem aS {pl:Sem Bool}{nr:Nat} (he:PE X o ta) (c:Cls X.K C) (hm:Meth X.K C m f) (F:FnOk X.prog X.w X.K X.mg X.base CX k f fd ps sp) (hr:Room nr X.A) (hb:Binds X.K fd ps ds) (hd:Vals dvs ds) (hx:bV CX X E)
  (ht:eval (.Call (.Attribute o m apos) [] [] pos) X.env=(do
   let ov <- eval o X.env
   standAt apos.atName
   let (f,first) <- holding [ov] (getMethod ov m pl)
   callWith pos f first (backTo pos (starEach [] X.env)) (backToKw pos (keywordEach [] X.env))):=by rfl) (hj:k<=nr:=by decide) :
  PE X (.Call (.Attribute o m apos) [] [] pos) (jC C m sp dvs E ta f9):=by
 intro pins s σ H Q I h
 refine PySem.W.methodCall_KW (pl:=pl) (thn (he pins s σ H _ I h) fun u s1 z_=>z_.elim fun x z_=>z_.elim fun H1 z_=>z_.elim fun I1 z_=>z_.elim fun rx z_=>z_.elim fun a z_=>z_.elim fun dx z_=>z_.elim fun fs z_=>z_.elim fun ex z_=>z_.elim fun ea z_=>z_.elim fun l q=>?_) ht
 subst ex
 obtain rfl:u=Value.ref a:=rx
 refine cz I1 ea c hm l ?_
 exact PySem.W.callWith_K0 (first:=[.ref a]) I1.kIn hm.kp (gZ (us:=[.ref a]) (vs:=[.ref a]) F (hr.mono hj) hb hd hx I1 (.cons rfl .nil) q)
structure Mk (K:PySem.W.Frag) (C f:Addr):Prop where
 makes:W.makesIn K C=true
 init:W.findIn K (.ref C) "__init__" = some (some (.ref f))
 fn:W.isFn K (.ref f)=true
 kp:W.keepIn K (.ref C)=true
theorem gs {pins:List (Addr×Obj)}{σ:St}{H:Hp}{s:Shared}{Q:VK}{us:List Value}{vs:List V} (M:Mk X.K C f) (F:FnOk X.prog X.w X.K X.mg X.base CX k f fd ps sp) (hr:Room (k+1) X.A) (hb:Binds X.K fd ps ds) (hd:Vals dvs ds)
  (hx:bV CX X E) (I:Inv X pins σ H s) (r:Vals vs us)
  (h:∀ x dx,H x=none->H dx=none->dx≠x->sp (.ref x::(vs++dvs)) (upd (upd H dx (.own x)) x (.ins C dx [])) (fun v H2=>v=.non/\Q (.ref x) H2) E) :
  wpAny (model X.prog X.w) X.A (call (.ref C) us) (EP X pins σ Q) X.xe s:=by
 have hq:=h (s.heap.objs.size+1) s.heap.objs.size (I.hok.fresh (Nat.le_succ _)) (I.hok.fresh (Nat.le_refl _)) (Nat.ne_of_lt (Nat.lt_succ_self _))
 have I2:=Inv.made (C:=C) I
 have r2:Vals (V.ref (s.heap.objs.size+1)::(vs++dvs)) (Value.ref (s.heap.objs.size+1)::(us++ds)):=.cons rfl (r.append hd)
 have hl:(Value.ref (s.heap.objs.size+1)::us++ds).length=ps.length:=by
  have e:=r2.length
  rw[F.len _ _ _ _ hq] at e
  exact e.symm
 refine wpAny_call (kt (f:=f) I.kIn M.makes M.init (beq_iff_eq.mp M.fn) (codeAny_mono (F.run _ X.stack _ _ ⟨Value.ref (s.heap.objs.size+1)::us,[]⟩ (Value.ref (s.heap.objs.size+1)::(us++ds)) _ _ E (hr.make C us [])
  (I2.env0.make C us []) (hb _ (Value.ref (s.heap.objs.size+1)::us) I2.kIn hl) r2 hq) fun r s' hq'=>?_))
 cases r with
 | error e=>exact hx pins σ _ _ e s' I2 hq'
 | ok fl=>
  cases fl with
  | ret u=>
   obtain⟨v,H',I3,rv,ev,q3⟩:=I2.after hq'
   subst ev
   exact⟨rv,⟨V.ref (s.heap.objs.size+1),H',I3,U,q3⟩⟩
  | next=>exact False.elim hq'
  | brk=>exact False.elim hq'
  | cont=>exact False.elim hq'
theorem fR (M:Mk X.K C f) (F:FnOk X.prog X.w X.K X.mg X.base CX k f fd ps sp) (hr:Room (k+1) X.A) (hg:Gl X x) (hm:X.mg x=some (.ref C)) (hb:Binds X.K fd ps ds) (hd:Vals dvs ds) (hx:bV CX X E)
  (ha:PA X (e::es) t) (hdb:(x == ("__debug__" : Str))=false:=by decide) (he:starEach (e::es) X.env=(false,eval e X.env)::starEach es X.env:=by rfl) (hpl:(backTo pos (starEach es X.env)).any (·.1)=false:=by rfl) :
  PE X (.Call (.Name x p) (e::es) [] pos) (mC C sp dvs E t):=by
 intro pins s σ H Q I h
 refine wpAny_Call_Name_kw (dw I hg hm ?_ hdb)
 refine PySem.W.callWith_K (h₀:=X.base) I.ok.mod.kin M.kp (thn (ha pos pins s σ H _ I h) fun us s1 z_=>z_.elim fun vs z_=>z_.elim fun H1 z_=>z_.elim fun I1 z_=>z_.elim fun r q=>⟨I1.kIn,?_⟩) he hpl
 exact gs M F hr hb hd hx I1 r q
theorem j7 (M:Mk X.K C f) (F:FnOk X.prog X.w X.K X.mg X.base CX k f fd ps sp) (hr:Room (k+1) X.A) (hg:Gl X x) (hm:X.mg x=some (.ref C)) (hb:Binds X.K fd ps ds) (hd:Vals dvs ds) (hx:bV CX X E)
  (hdb:(x == ("__debug__" : Str))=false:=by decide):PE X (.Call (.Name x p) [] [] pos) (mC C sp dvs E f9):=by
 intro pins s σ H Q I h
 refine wpAny_Call_Name_kw (dw I hg hm ?_ hdb)
 exact PySem.W.callWith_K0 I.kIn M.kp (gs (us:=[]) M F hr hb hd hx I .nil h)
end
noncomputable def PK (X:Cx) (kws:List Keyword) (t:TA):Prop :=
 ∀ (pos:Pos) (pins:List (Addr×Obj)) (s:Shared) (σ:St) (H:Hp) (Q:List V->Hp->Prop),Inv X pins σ H s->t σ H Q->wpAny (model X.prog X.w) X.A (evalAll ((backToKw pos (keywordEach kws X.env)).map (·.2))) (AP X pins σ Q) X.xe s
section
variable {X:Cx}{CX:CXT}{k:Nat}{f C:Addr}{fd:FuncData}{ps ks:List Str}{sp:Sp}{E:XK}{x m:Str}{p pos apos kpos:Pos}{e o:Expr}{es:List Expr}{kws:List Keyword}{te ta:TE}{t tk:TA}{nm:Option Str}
theorem g8:PK X [] f9:=fun _ _ _ _ H Q I h=>wpAny_evalAll_nil ⟨[],H,I,.nil,h⟩
theorem fO (ha:PE X e te) (hr:PK X kws t):PK X (⟨nm,e,kpos⟩::kws) (gf te t):=by
 intro pos pins s σ H Q I h
 show wpAny _ _ (evalAll ((do let v <- eval e X.env; standAt pos; pure v)::(backToKw pos (keywordEach kws X.env)).map (·.2))) _ _ s
 refine wpAny_evalAll_cons (wpAny_bind (thn (ha pins s σ H _ I h) fun u s1 z_=>z_.elim fun x z_=>z_.elim fun H1 z_=>z_.elim fun I1 z_=>z_.elim fun r1 q1=>wpAny_bind (wpAny_standAt (wpAny_pure ?_))))
 exact thn (hr pos pins s1 σ H1 _ I1 q1) fun us s2 z_=>z_.elim fun xs z_=>z_.elim fun H2 z_=>z_.elim fun I2 z_=>z_.elim fun r2 q2=>⟨x::xs,H2,I2,.cons r1 r2,q2⟩
structure KBinds (K:PySem.W.Frag) (fd:FuncData) (ps ks:List Str) (g:List Value->List Value->List Value) (gV:List V->List V->List V):Prop where
 to:∀ (s:Shared) (us ws:List Value),K.In s.heap->(g us ws).length=ps.length->BindsTo s fd ⟨us,ks.zip ws⟩ (ps.zip (g us ws))
 rel:∀ {vs:List V}{us:List Value}{zs:List V}{ws:List Value},Vals vs us->Vals zs ws->Vals (gV vs zs) (g us ws)
variable {g:List Value->List Value->List Value}{gV:List V->List V->List V}
theorem lD {pins:List (Addr×Obj)}{σ:St}{H:Hp}{s:Shared}{Q:VK}{us ws:List Value}{vs zs:List V} (F:FnOk X.prog X.w X.K X.mg X.base CX k f fd ps sp) (hr:Room k X.A) (hb:KBinds X.K fd ps ks g gV) (hx:bV CX X E)
  (I:Inv X pins σ H s) (r:Vals vs us) (rz:Vals zs ws) (h:sp (gV vs zs) H Q E):wpAny (model X.prog X.w) X.A (call (.ref f) us (ks.zip ws)) (EP X pins σ Q) X.xe s:=by
 have r2:=hb.rel r rz
 have hl:(g us ws).length=ps.length:=by rw[<- r2.length]; exact F.len _ _ _ _ h
 refine wpAny_call (codeAny_mono (F.run X.A X.stack s H ⟨us,ks.zip ws⟩ (g us ws) (gV vs zs) Q E hr I.env0 (hb.to s us ws I.kIn hl) r2 h) fun r s' hq=>?_)
 cases r with
 | error e=>exact hx pins σ H s e s' I hq
 | ok fl=>
  cases fl with
  | ret u=>exact I.after hq
  | next=>exact False.elim hq
  | brk=>exact False.elim hq
  | cont=>exact False.elim hq
end
structure FnScope (N P:List Str) (sc:Scope):Prop where
 kind:sc.kind=.function:=by rfl
 co:sc.isCoroutine=false:=by rfl
 gen:sc.isGenerator=false:=by rfl
 nd:N.Nodup:=by decide +kernel
 pre:N.take P.length=P:=by rfl
 par:∀ x ∈ P,sc.names.lookup x=some .local∨sc.names.lookup x=some .cell:=by decide +kernel
 nofree:∀ y ∈ sc.names,y.2≠.free:=by decide +kernel
theorem fE {kindOf : Str->Option NameKind}{x : Str} : ∀ {binds : List (Str×Value)}{m : Str->Option Value}, (∀ v, (x, v) ∉ binds)->bindL kindOf binds m x=m x
  | [], _, _=>rfl
  | (n, v) :: r, m, h => by
    unfold bindL
    rw[fE fun w hw=>h w (mem_cons_of_mem _ hw)]
    split
    · have : x≠n := by rintro rfl; exact h v mem_cons_self
      simp[this]
    · rfl
theorem fG {kindOf : Str->Option NameKind}{x : Str} : ∀ {binds : List (Str×Value)}{m : Str->Option Value}, (∀ v, (x, v) ∉ binds)->bindC kindOf binds m x=m x
  | [], _, _=>rfl
  | (n, v) :: r, m, h => by
    unfold bindC
    rw[fG fun w hw=>h w (mem_cons_of_mem _ hw)]
    split
    · rfl
    · have : x≠n := by rintro rfl; exact h v mem_cons_self
      simp[this]
theorem fF {kindOf:Str->Option NameKind}{x:Str}{v:Value}:∀ {P:List Str}{vs:List Value}{i:Nat}{m:Str->Option Value},P.Nodup->P[i]?=some x->vs[i]?=some v->kindOf x=some .local ->
  bindL kindOf (P.zip vs) m x=some v
 | [],_,_,_,_,h,_,_=>by simp at h
 | _::_,[],_,_,_,_,h,_=>by simp at h
 | p::P,w::vs,0,m,nd,h1,h2,hk=>by
  simp at h1 h2; subst h1; subst h2
  show bindL kindOf ((p,w)::P.zip vs) m p=_
  unfold bindL
  rw[fE fun v hv=>(List.nodup_cons.mp nd).1 (List.of_mem_zip hv).1,if_pos hk]
  simp
 | p::P,w::vs,i+1,m,nd,h1,h2,hk=>by
  show bindL kindOf ((p,w)::P.zip vs) m x=_
  unfold bindL
  exact fF (i:=i) (List.nodup_cons.mp nd).2 (by simpa using h1) (by simpa using h2) hk
theorem fH {kindOf:Str->Option NameKind}{x:Str}{v:Value}:∀ {P:List Str}{vs:List Value}{i:Nat}{m:Str->Option Value},P.Nodup->P[i]?=some x->vs[i]?=some v->kindOf x≠some .local ->
  bindC kindOf (P.zip vs) m x=some v
 | [],_,_,_,_,h,_,_=>by simp at h
 | _::_,[],_,_,_,_,h,_=>by simp at h
 | p::P,w::vs,0,m,nd,h1,h2,hk=>by
  simp at h1 h2; subst h1; subst h2
  show bindC kindOf ((p,w)::P.zip vs) m p=_
  unfold bindC
  rw[fG fun v hv=>(List.nodup_cons.mp nd).1 (List.of_mem_zip hv).1,if_neg hk]
  simp
 | p::P,w::vs,i+1,m,nd,h1,h2,hk=>by
  show bindC kindOf ((p,w)::P.zip vs) m x=_
  unfold bindC
  exact fH (i:=i) (List.nodup_cons.mp nd).2 (by simpa using h1) (by simpa using h2) hk
noncomputable def start (N:List Str) (vs:List V):St:=vs.map some++List.replicate (N.length - vs.length) none
noncomputable def js (CX:CXT) (P:Program) (w:World) (K:PySem.W.Frag) (mg:Str->Option Value) (base:Heap) (N:List Str) (qual:Str) (scope:Scope) (f:Addr) (cd:Value) (A:Around) (outer:List Env) (s:Shared) (H:Hp) (E:XK):Cx where
 prog:=P
 w:=w
 K:=K
 mg:=mg
 base:=base
 A:=A.deeper (envOfC qual scope s.heap.objs.size f cd)
 N:=N
 s₀:=s
 H₀:=H
 env:=envOfC qual scope s.heap.objs.size f cd
 outer:=outer
 stack:=envOfC qual scope s.heap.objs.size f cd::outer
 ex:=[]
 calm:=true
 fn:=fun _=>true
 pn:=[]
 xe:=fun e s'=>wpAny (model P w) (A.deeper (envOfC qual scope s.heap.objs.size f cd)) (leaving (envOfC qual scope s.heap.objs.size f cd) e) (fun _ s''=>CX outer H s E e s'') (fun e' s''=>CX outer H s E e' s'') s'
theorem gO {sc:Scope}{n:Nat}{x:Str} (h:sc.names.lookup x=some .cell):∃ c,(cellsFrom n sc.names []).lookup x=some c:=by
 have q:=PySem.W.cellsFrom_some sc.names n [] (.inl h)
 exact Option.isSome_iff_exists.mp q
theorem jk {CX:CXT}{P:Program}{w:World}{K:PySem.W.Frag}{mg:Str->Option Value}{base:Heap}{N ps:List Str}{qual:Str}{scope:Scope}{f:Addr}{cd:Value}{A:Around}{outer:List Env}{s s1:Shared}{H:Hp}{E:XK}{us:List Value}{vs:List V}
  (S:FnScope N ps scope) (hd:A.handled=none) (e0:Env0 P w K mg base A outer s H) (hl:vs.length=ps.length) (r:Vals vs us)
  (x:InCallC s s.heap.objs.size (bindL (envOfC qual scope s.heap.objs.size f cd).kindOf (ps.zip us) fun _=>none) (cellsFrom (s.heap.objs.size+1) scope.names []) (bindC (envOfC qual scope s.heap.objs.size f cd).kindOf (ps.zip us) fun _=>none) s1) :
  Inv (js CX P w K mg base N qual scope f cd A outer s H E) [] (start N vs) H s1:=by
 have hpl:ps.length<=N.length:=by have:=congrArg List.length S.pre; rw[length_take] at this; omega
 obtain⟨h1,tk,rfl,hk⟩:=x.done
 have noA:∀ b:Addr,b ∉ (js CX P w K mg base N qual scope f cd A outer s H E).ex:=fun b z=>absurd (show b ∈ ([]:List Addr) from z) (by simp)
 refine⟨⟨e0.mod,S.kind,U,U,Nat.le_refl _,fun y z c h1 h2=>?_,fun y hy=>?_,fun y c _ h=>?_,fun _=>hd,Around.frames_deeper e0.frames,.inr ⟨U,U⟩,fun b z=>absurd z (noA b),e0.bs,e0.bsz,fun b _ _=>noA b,fun b z=>absurd z (noA b),e0.funs,e0.frf⟩,
  rfl,e0.bare,Un.kept hk,⟨_,x.toInCall.ns,fun i y v h1 h2 h3=>?_⟩,fun y c h=>⟨_,x.cell y c h⟩,e0.hok.fresh (Nat.le_refl _),fun y c h=>?_,fun p hp=>absurd (show p ∈ ([]:List (Addr×Obj)) from hp) (by simp),e0.hok.kept hk,?_⟩
 ·exact name_of_addr x.apart (PySem.mem_of_lookup h1) (PySem.mem_of_lookup h2)
 ·have hy:scope.names.lookup y=some .cell∨scope.names.lookup y=some .free:=hy
  rcases hy with hy | hy
  ·exact gO hy
  ·exact absurd rfl (S.nofree _ (PySem.mem_of_lookup hy))
 ·exact Nat.le_of_lt (x.above y c (PySem.mem_of_lookup h))
 ·have hi:i<vs.length:=by
   unfold start at h2
   by_cases hi:i<vs.length
   ·exact hi
   ·rw[getElem?_append_right (by simpa using hi)] at h2
    rw[List.getElem?_replicate] at h2
    split at h2 <;> cases h2
  have ha:vs[i]?=some v:=by
   unfold start at h2
   rw[getElem?_append_left (by simpa using hi),getElem?_map] at h2
   cases e:vs[i]? with
   | none=>rw[e] at h2; cases h2
   | some a=>rw[e] at h2; cases h2; rfl
  obtain⟨u,hu,rv⟩:=r.get ha
  have hp:ps[i]?=some y:=by
   rw[<- S.pre,List.getElem?_take_of_lt (by omega)]; exact h1
  have ndP:ps.Nodup:=by rw[<- S.pre]; exact S.nd.sublist (List.take_sublist _ _)
  refine⟨u,rv,?_⟩
  rcases S.par y (mem_of_getElem? hp) with k | k
  ·exact .inl ⟨k,fF ndP hp hu k⟩
  ·obtain⟨c,e⟩:=gO (n:=s.heap.objs.size+1) k
   refine .inr ⟨.inl k,c,e,?_⟩
   have q:=x.cell y c e
   rw[fH ndP hp hu (by show scope.names.lookup y≠_; rw[k]; decide)] at q
   exact q
 ·exact e0.hok.fresh (Nat.le_of_lt (x.above y c (PySem.mem_of_lookup h)))
 ·unfold start
  show _=N.length
  rw[length_append,length_map,length_replicate]
  omega
theorem fn_of {CX:CXT}{P:Program}{w:World}{K:PySem.W.Frag}{mg:Str->Option Value}{base:Heap}{k:Nat}{f:Addr}{name qual:Str}{params:Arguments}{body:List Stmt}{scope:Scope}{dV kV doc pm cdv ct oc:Value}{an od:Option Addr}
  {osl:Array (Option Value)}{N ps:List Str}{sp:Sp} (lk:K.lookup f=some ⟨oc,od,.func (W.fnOf name qual params body scope dV kV doc pm an cdv ct),osl⟩) (hcd:W.codeIn K cdv qual=true) (S:FnScope N ps scope)
  (len:∀ vs H Q E,sp vs H Q E->vs.length=ps.length)
  (hbody:∀ (A:Around) (outer:List Env) (s:Shared) (H:Hp) (vs:List V) (Q:VK) (E:XK),Room k (A.deeper (envOfC qual scope s.heap.objs.size f cdv))->sp vs H Q E ->
   ∃ t,PSs (js CX P w K mg base N qual scope f cdv A outer s H E) body t/\t { nx:=fun _ H'=>Q .non H',rt:=Q } (start N vs) H) :
  FnOk P w K mg base CX (k+1) f (W.fnOf name qual params body scope dV kV doc pm an cdv ct) ps sp:=by
 refine⟨len,fun A outer s H args us vs Q E hr e0 hb r hsp=>?_⟩
 have hl:=len _ _ _ _ hsp
 have KX:K.In s.heap:=e0.mod.kin.keeps fun b o e=>(e0.bs b o e).1
 have lim:s.heap.NoLimit:=e0.mod.nolimit.keeps fun b o e=>(e0.bs b o e).1
 have hkind:∀ y ∈ ps.zip us,scope.names.lookup y.1=some .local∨(scope.names.lookup y.1=some .cell/\((cellsFrom (s.heap.objs.size+1) scope.names []).lookup y.1).isSome=true):=fun⟨n,v⟩ hy=>by
  rcases S.par n (List.of_mem_zip hy).1 with q | q
  ·exact .inl q
  ·exact .inr ⟨q,PySem.W.cellsFrom_some _ _ _ (.inl q)⟩
 refine codeAny_call_function hr.depth (KX _ _ lk) rfl S.co S.gen rfl (PySem.W.codeRec_of KX hcd) (hb _ _ _ _ ?_)
 refine wpAny_newFunctionEnv_cells S.kind hkind fun env he s1 x=>?_
 subst he
 refine⟨lim.keeps x.toInCall.keep,codeAny_func ?_⟩
 obtain⟨t,ht,hq⟩:=hbody A outer s H vs Q E (hr.deeper _) hsp
 have I:Inv (js CX P w K mg base N qual scope f cdv A outer s H E) [] (start N vs) H s1:=jk S hr.hd e0 hl r x
 refine wpAny_mono (ht [] s1 (start N vs) H _ I hq) (fun fl s' hs=>?_) fun e s' hs=>hs
 have fin:∀ {σ':St}{H':Hp}{v:V}{u:Value},Inv (js CX P w K mg base N qual scope f cdv A outer s H E) [] σ' H' s'->RelV v u->Q v H'->CE outer P w H s Q u s' :=
  fun {σ' H' v u} J rv q=>⟨v,H',J.os,J.bare,J.base,J.hok,rv,q⟩
 cases fl with
 | ret u=>
  obtain⟨v,σ',H',J,rv,q⟩:=hs
  exact fin J rv q
 | next=>
  obtain⟨σ',H',J,q⟩:=hs
  exact fin (v:=V.non) (u:=Value.none) J rfl q
 | brk=>
  obtain⟨_,_,_,q⟩:=hs
  exact False.elim q
 | cont=>
  obtain⟨_,_,_,q⟩:=hs
  exact False.elim q
section
variable {X:Cx}{x:Str}{p pos:Pos}{e:Expr}{es:List Expr}{t:TA}{id T:String}{r:List V->Hp->VK->Prop}
noncomputable def tCB (r:List V->Hp->VK->Prop) (t:TA):TE:=fun σ H Q=>t σ H fun vs H1=>r vs H1 Q
theorem aK (hc:cm X (.builtin id) r) (hg:Gl X x) (hm:X.mg x=none) (hv:bootBuiltins x=some (.builtin id)) (ha:PA X (e::es) t) (hn:x ≠ "__name__":=by decide) (hdb:(x == ("__debug__" : Str))=false:=by decide)
  (he:starEach (e::es) X.env=(false,eval e X.env)::starEach es X.env:=by rfl) (hpl:(backTo pos (starEach es X.env)).any (·.1)=false:=by rfl):PE X (.Call (.Name x p) (e::es) [] pos) (tCB r t):=by
 intro pins s σ H Q I h
 refine wpAny_Call_Name_kw (cy I hg hm hv ?_ hn hdb)
 exact PyProof.Rows.callWith_builtin1 (thn (ha pos pins s σ H _ I h) fun us s1 z_=>z_.elim fun vs z_=>z_.elim fun H1 z_=>z_.elim fun I1 z_=>z_.elim fun r1 q1=>hc pins s1 σ H1 vs us Q I1 r1 q1) he hpl
theorem aW (hc:cm X (.type T) r) (hg:Gl X x) (hm:X.mg x=none) (hv:bootBuiltins x=some (.type T)) (ha:PA X (e::es) t) (hn:x ≠ "__name__":=by decide) (hdb:(x == ("__debug__" : Str))=false:=by decide)
  (he:starEach (e::es) X.env=(false,eval e X.env)::starEach es X.env:=by rfl) (hpl:(backTo pos (starEach es X.env)).any (·.1)=false:=by rfl):PE X (.Call (.Name x p) (e::es) [] pos) (tCB r t):=by
 intro pins s σ H Q I h
 refine wpAny_Call_Name_kw (cy I hg hm hv ?_ hn hdb)
 exact PyProof.Rows.callWith_type1 (thn (ha pos pins s σ H _ I h) fun us s1 z_=>z_.elim fun vs z_=>z_.elim fun H1 z_=>z_.elim fun I1 z_=>z_.elim fun r1 q1=>hc pins s1 σ H1 vs us Q I1 r1 q1) he hpl
end
end L2
namespace L2
open PySem PySem.Spec PyProof.Rows
section
variable {κ:Type} [DecidableEq κ]
noncomputable def aM (kvs:List (κ×V)) (k:κ):Option V:=(kvs.find? fun kv=>decide (kv.1=k)).map (·.2)
noncomputable def aI (kvs:List (κ×V)) (k:κ) (v:V):List (κ×V) :=
 if (kvs.any fun kv=>decide (kv.1=k))=true then kvs.map (fun kv=>if kv.1=k then(kv.1,v) else kv) else kvs++[(k,v)]
noncomputable def dropK (kvs:List (κ×V)) (k:κ):List (κ×V):=kvs.filter fun kv=>decide (kv.1≠k)
theorem bg {p:κ×V}{r:List (κ×V)}{k:κ} (e:p.1=k):aM (p::r) k=some p.2:=by simp[aM,find?_cons,e]
theorem bh {p:κ×V}{r:List (κ×V)}{k:κ} (e:¬ p.1=k):aM (p::r) k=aM r k:=by simp[aM,find?_cons,e]
theorem b8 (k:κ):∀ kvs:List (κ×V),(kvs.any fun kv=>decide (kv.1=k))=(aM kvs k).isSome
 | []=>rfl
 | p::r=>by
  rw[List.any_cons]
  by_cases e:p.1=k
  ·simp only[bg e,decide_eq_true e,Bool.true_or,Option.isSome_some]
  ·rw[bh e,decide_eq_false e,Bool.false_or]; exact b8 k r
theorem f6 (k j:κ) (y:V):∀ kvs:List (κ×V),aM (kvs.map fun kv=>if kv.1=k then(kv.1,y) else kv) j=(aM kvs j).map fun x=>if j=k then y else x
 | []=>rfl
 | p::r=>by
  have ih:=f6 k j y r
  rw[map_cons]
  by_cases h:p.1=k
  ·rw[if_pos h]
   by_cases e:p.1=j
   ·rw[bg (p:=(p.1,y)) e,bg e,Option.map_some,if_pos (e.symm.trans h)]
   ·rw[bh (p:=(p.1,y)) e,bh e,ih]
  ·rw[if_neg h]
   by_cases e:p.1=j
   ·rw[bg (p:=p) e,bg e,Option.map_some,if_neg (fun z=>h (e.trans z))]
   ·rw[bh (p:=p) e,bh e,ih]
theorem fc (k j:κ) (y:V):∀ kvs:List (κ×V),aM kvs k=none->aM (kvs++[(k,y)]) j=if j=k then some y else aM kvs j
 | [],_=>by
  by_cases e:k=j
  ·rw[if_pos e.symm]; exact bg (p:=(k,y)) e
  ·rw[if_neg (fun z=>e z.symm)]; exact bh (p:=(k,y)) e
 | p::r,hn=>by
  rw[List.cons_append]
  have hk:¬ p.1=k:=fun z=>by rw[bg z] at hn; cases hn
  rw[bh hk] at hn
  have ih:=fc k j y r hn
  by_cases e:p.1=j
  ·rw[bg e,bg e,if_neg (fun z=>hk (e.trans z))]
  ·rw[bh e,bh e,ih]
theorem bo (kvs:List (κ×V)) (k j:κ) (y:V):aM (aI kvs k y) j=if j=k then some y else aM kvs j:=by
 unfold aI
 by_cases a:(kvs.any fun kv=>decide (kv.1=k))=true
 ·rw[if_pos a,f6]
  rw[b8] at a
  by_cases e:j=k
  ·obtain⟨x,hx⟩:=Option.isSome_iff_exists.mp a
   rw[if_pos e,e,hx,Option.map_some,if_pos rfl]
  ·rw[if_neg e]
   cases aM kvs j with
   | none=>rfl
   | some x=>rw[Option.map_some,if_neg e]
 ·rw[if_neg a]
  refine fc k j y kvs ?_
  rw[b8] at a
  cases q:aM kvs k with
  | none=>rfl
  | some x=>rw[q] at a; exact(a rfl).elim
theorem bb (kvs:List (κ×V)) (k:κ) (v:V):(aI kvs k v).length<=kvs.length+1:=by
 unfold aI
 split
 ·rw[length_map]; omega
 ·rw[length_append,length_cons,List.length_nil]; omega
theorem putK_new {kvs:List (κ×V)}{k:κ} (v:V) (h:aM kvs k=none):aI kvs k v=kvs++[(k,v)]:=by
 unfold aI
 rw[b8,h]
 exact if_neg (by decide)
theorem RelO.isSome_eq {o:Option V}{u:Option Value} (r:RelO o u):o.isSome=u.isSome:=by
 cases o with
 | none=>cases u with
  | none=>rfl
  | some _=>exact(show False from r).elim
 | some _=>cases u with
  | none=>exact(show False from r).elim
  | some _=>rfl
theorem KV.val {kvs:List (κ×V)}{vs:List (κ×Value)} (r:KV kvs vs) (k:κ):RelO (aM kvs k) (valueAt vs k):=by
 unfold KV at r
 induction r with
 | nil=>exact True.intro
 | @cons p q ps qs h t ih=>
  obtain⟨h1,h2⟩:=h
  by_cases e:p.1=k
  ·have e':q.1=k:=h1.symm.trans e
   have b:valueAt (q::qs) k=some q.2:=by simp[valueAt,find?_cons,e']
   rw[bg e,b]; exact h2
  ·have e':¬ q.1=k:=fun z=>e (h1.trans z)
   have b:valueAt (q::qs) k=valueAt qs k:=by simp[valueAt,find?_cons,e']
   rw[bh e,b]; exact ih
theorem KV.any {kvs:List (κ×V)}{vs:List (κ×Value)} (r:KV kvs vs) (k:κ):(kvs.any fun kv=>decide (kv.1=k))=vs.any fun kv=>decide (kv.1=k):=by
 unfold KV at r
 induction r with
 | nil=>rfl
 | cons h t ih=>rw[List.any_cons,List.any_cons,ih,h.1]
theorem KV.repl {kvs:List (κ×V)}{vs:List (κ×Value)} (r:KV kvs vs) (k:κ) {y:V}{u:Value} (ry:RelV y u) :
  KV (kvs.map fun kv=>if kv.1=k then(kv.1,y) else kv) (vs.map fun kv=>if kv.1=k then(kv.1,u) else kv):=by
 unfold KV at r ⊢
 induction r with
 | nil=>exact .nil
 | @cons p q ps qs h t ih=>
  rw[map_cons,map_cons]
  refine .cons ?_ ih
  obtain⟨h1,h2⟩:=h
  by_cases e:p.1=k
  ·rw[if_pos e,if_pos (h1.symm.trans e)]; exact⟨h1,ry⟩
  ·rw[if_neg e,if_neg (fun z=>e (h1.trans z))]; exact⟨h1,h2⟩
theorem KV.put {kvs:List (κ×V)}{vs:List (κ×Value)} (r:KV kvs vs) (k:κ) {y:V}{u:Value} (ry:RelV y u):KV (aI kvs k y) (stored vs k u):=by
 unfold aI stored
 rw[r.any k]
 by_cases e:(vs.any fun kv=>decide (kv.1=k))=true
 ·rw[if_pos e,if_pos e]; exact r.repl k ry
 ·rw[if_neg e,if_neg e]; exact Paired.snoc r ⟨U,ry⟩
theorem KV.keys {kvs:List (κ×V)}{vs:List (κ×Value)} (r:KV kvs vs):kvs.map (·.1)=vs.map (·.1):=by
 unfold KV at r
 induction r with
 | nil=>rfl
 | cons h t ih=>rw[map_cons,map_cons,ih,h.1]
theorem KV.length {kvs:List (κ×V)}{vs:List (κ×Value)} (r:KV kvs vs):kvs.length=vs.length:=Paired.length r
end
theorem gJ {P:Program}{w:World}{k:Key}{u:Value} (r:RelV (kV k) u):(ba P w).is k u=true:=by
 cases k with
 | inl i=>obtain⟨t,e⟩:=(show ∃ t,u=Value.int i t from r); subst e; exact gH P w i t
 | inr x=>obtain⟨t,e⟩:=(show ∃ t,u=Value.str x t from r); subst e; exact gG P w x t
theorem ft {P:Program}{w:World}:∀ {ks:List Key}{us:List Value},Vals (ks.map kV) us->ItemsAre (ba P w) ks us
 | [],_,r=>by rw[List.map_nil] at r; cases r; exact .nil
 | k::ks,_,r=>by
  rw[map_cons] at r
  cases r with
  | cons h t=>exact .cons (gJ h) (ft t)
noncomputable abbrev KT (H:Hp):List (List Key×V)->List (List Key×Addr×Value)->Prop:=Paired fun p q=>p.1=q.1/\H q.2.1=some (.tup (p.1.map kV))/\RelV p.2 q.2.2
theorem KT.val {H:Hp}{kvs:List (List Key×V)}{xs:List (List Key×Addr×Value)} (r:KT H kvs xs) (k:List Key):RelO (aM kvs k) ((atKey xs k).map (·.2)):=by
 induction r with
 | nil=>exact True.intro
 | @cons p q ps qs h t ih=>
  obtain⟨h1,_,h2⟩:=h
  by_cases e:p.1=k
  ·have e':q.1=k:=h1.symm.trans e
   have b:atKey (q::qs) k=some q.2:=by simp[atKey,find?_cons,e']
   rw[bg e,b]; exact h2
  ·have e':¬ q.1=k:=fun z=>e (h1.trans z)
   have b:atKey (q::qs) k=atKey qs k:=by simp[atKey,find?_cons,e']
   rw[bh e,b]; exact ih
theorem KT.repl {H:Hp}{kvs:List (List Key×V)}{xs:List (List Key×Addr×Value)} (r:KT H kvs xs) (k:List Key) {y:V}{u:Value} (ry:RelV y u) :
  KT H (kvs.map fun kv=>if kv.1=k then(kv.1,y) else kv) (xs.map (putAt k u)):=by
 induction r with
 | nil=>exact .nil
 | @cons p q ps qs h t ih=>
  rw[map_cons,map_cons]
  refine .cons ?_ ih
  obtain⟨h1,h2,h3⟩:=h
  unfold putAt
  by_cases e:p.1=k
  ·rw[if_pos e,if_pos (h1.symm.trans e)]; exact⟨h1,h2,ry⟩
  ·rw[if_neg e,if_neg (fun z=>e (h1.trans z))]; exact⟨h1,h2,h3⟩
theorem KT.put {H:Hp}{kvs:List (List Key×V)}{xs:List (List Key×Addr×Value)} (r:KT H kvs xs) (k:List Key) {b:Addr}{y:V}{u:Value} (hb:H b=some (.tup (k.map kV))) (ry:RelV y u) :
  KT H (aI kvs k y) (storedH xs k b u):=by
 have e:(kvs.any fun kv=>decide (kv.1=k))=(atKey xs k).isSome:=by
  rw[b8,(r.val k).isSome_eq,Option.isSome_map]
 unfold aI storedH
 rw[e]
 by_cases q:(atKey xs k).isSome=true
 ·rw[if_pos q,if_pos q]; exact r.repl k ry
 ·rw[if_neg q,if_neg q]; exact Paired.snoc r ⟨U,hb,ry⟩
theorem KT.keeps {H H':Hp}{kvs:List (List Key×V)}{xs:List (List Key×Addr×Value)} (r:KT H kvs xs) (ht:∀ b ys,H b=some (.tup ys)->H' b=some (.tup ys)):KT H' kvs xs :=
 Paired.mapP r fun _ _ z=>⟨z.1,ht _ _ z.2.1,z.2.2⟩
section
variable {P:Program}{w:World}{H:Hp}{h:Heap}{a:Addr}
theorem mR {u:HO} (ok:HOk P w H h) (e:Rd H a u):ObjOk P w H h a u:=e.ok ok
theorem eu {kvs:List (Key×V)} (ok:HOk P w H h) (e:Rd H a (.dK kvs)):kvs.length<=sizeLine/\(a == sysModules)=false/\∃ vs,KV kvs vs/\h.DictOf (ba P w) a vs :=
 show ObjOk P w H h a (.dK kvs) from mR ok e
theorem dk_of {kvs:List (Key×V)} (ok:HOk P w H h) (e:H a=some (.dK kvs)):kvs.length<=sizeLine/\(a == sysModules)=false/\∃ vs,KV kvs vs/\h.DictOf (ba P w) a vs:=eu ok (.inl e)
theorem cX {ks:List Key} (ok:HOk P w H h) (e:H a=some (.tup (ks.map kV))):(tupleKind (ba P w)).is h ks a:=by
 obtain⟨_,its,r,o,h1,h2,n,h3⟩:=(show ObjOk P w H h a (.tup (ks.map kV)) from ok a _ e)
 exact⟨o,its.toArray,n,h1,h2,h3,by simpa using ft r⟩
theorem fC {kvs:List (List Key×V)} (ok:HOk P w H h) (e:Rd H a (.dT kvs)):kvs.length<=sizeLine/\(a == sysModules)=false /\
  ∃ xs,KT H kvs xs/\h.DictOfH (tupleKind (ba P w)) a xs:=by
 obtain⟨z,y,xs,r,o,es,ep,h1,h2,h3,h4,h5⟩:=(show ObjOk P w H h a (.dT kvs) from mR ok e)
 refine⟨z,y,xs,r,o,es,ep,h1,h2,h3,h4,fun x hx=>?_,h5⟩
 have all:∀ {l:List (List Key×V)}{m:List (List Key×Addr×Value)},KT H l m->∀ x ∈ m,(tupleKind (ba P w)).is h x.1 x.2.1:=by
  intro l m q
  induction q with
  | nil=>intro x hx; exact nomatch hx
  | @cons p q ps qs hq t ih=>
   intro x hx
   rcases mem_cons.mp hx with e | hx
   ·subst e
    exact cX ok (by rw[<- hq.1]; exact hq.2.1)
   ·exact ih x hx
 exact all r x hx
theorem nj {kvs:List (List Key×V)} (ok:HOk P w H h) (e:H a=some (.dT kvs)):kvs.length<=sizeLine/\(a == sysModules)=false /\
  ∃ xs,KT H kvs xs/\h.DictOfH (tupleKind (ba P w)) a xs:=fC ok (.inl e)
end
noncomputable def DGet (H:Hp) (a:Addr) (y:V) (r:Option V):Prop :=
 (∃ kvs k,Rd H a (.dK kvs)/\y=kV k/\r=aM kvs k)∨∃ kvs k b,Rd H a (.dT kvs)/\y=.ref b/\H b=some (.tup (k.map kV))/\r=aM kvs k
noncomputable def DPut (H:Hp) (a:Addr) (y v:V) (H':Hp):Prop :=
 (∃ kvs k,H a=some (.dK kvs)/\y=kV k/\kvs.length<sizeLine/\H'=upd H a (.dK (aI kvs k v))) ∨
 ∃ kvs k b,H a=some (.dT kvs)/\y=.ref b/\H b=some (.tup (k.map kV))/\kvs.length<sizeLine/\H'=upd H a (.dT (aI kvs k v))
theorem DGet.k {H:Hp}{a:Addr}{kvs:List (Key×V)}{k:Key} (e:H a=some (.dK kvs)):DGet H a (kV k) (aM kvs k):=.inl ⟨kvs,k,.inl e,U,U⟩
theorem DGet.t {H:Hp}{a b:Addr}{kvs:List (List Key×V)}{k:List Key} (e:H a=some (.dT kvs)) (eb:H b=some (.tup (k.map kV))):DGet H a (.ref b) (aM kvs k):=.inr ⟨kvs,k,b,.inl e,U,eb,U⟩
theorem DPut.k {H:Hp}{a:Addr}{kvs:List (Key×V)}{k:Key}{v:V} (e:H a=some (.dK kvs)) (hl:kvs.length<sizeLine):DPut H a (kV k) v (upd H a (.dK (aI kvs k v))):=.inl ⟨kvs,k,e,U,hl,U⟩
theorem DPut.t {H:Hp}{a b:Addr}{kvs:List (List Key×V)}{k:List Key}{v:V} (e:H a=some (.dT kvs)) (eb:H b=some (.tup (k.map kV))) (hl:kvs.length<sizeLine) :
  DPut H a (.ref b) v (upd H a (.dT (aI kvs k v))):=.inr ⟨kvs,k,b,e,U,eb,hl,U⟩
section
variable {X:Cx}{pins:List (Addr×Obj)}{σ:St}{H:Hp}{s:Shared}{a:Addr}{y v:V}{u r:Value}{o:Option V}{A:Around}{E:Value->Shared->Prop}
theorem Inv.big (I:Inv X pins σ H s):sysModules<s.heap.objs.size:=by
 have h:mainGlobals<s.heap.objs.size:=(I.mod.glob.keeps I.bk).lt
 exact Nat.lt_trans (by decide) h
theorem jr {Q:Value->Shared->Prop} (hu:A.units+1<cLine) (I:Inv X pins σ H s) (g:DGet H a y (some v)) (ry:RelV y u) (h:∀ w' s',Inv X pins σ H s'->RelV v w'->Q w' s') :
  wpAny (model X.prog X.w) A (getItem (.ref a) u) Q E s:=by
 rcases g with ⟨kvs,k,e,ey,l⟩ | ⟨kvs,k,b,e,ey,eb,l⟩
 ·subst ey
  obtain⟨z,hd,vs,rel,dd⟩:=eu I.hok e
  obtain⟨w',hw,rw'⟩:=RelO.some_of (v:=v) (o:=valueAt vs k) (by rw[l]; exact rel.val k)
  exact wpAny_getItem_of (gJ ry) dd.mapOf hw (h w' _ (I.tok _) rw')
 ·subst ey
  cases (show u=Value.ref b from ry)
  obtain⟨z,hd,xs,rel,dd⟩:=fC I.hok e
  obtain⟨w',hw,rw'⟩:=RelO.some_of (v:=v) (o:=(atKey xs k).map (·.2)) (by rw[l]; exact rel.val k)
  obtain⟨p,hp,hp2⟩:=Option.map_eq_some_iff.mp hw
  refine wpAny_getItem_heap (tupleKind_room_in1 hu) (cX I.hok eb) dd hp ?_
  rw[hp2]
  exact h w' _ (I.tok _) rw'
theorem d_in {Q:Value->Shared->Prop} (hu:A.units+1<cLine) (I:Inv X pins σ H s) (g:DGet H a y o) (ry:RelV y u) (h:∀ s',Inv X pins σ H s'->Q (.bool o.isSome) s') :
  wpAny (model X.prog X.w) A (compareOp .In u (.ref a)) Q E s:=by
 rcases g with ⟨kvs,k,e,ey,l⟩ | ⟨kvs,k,b,e,ey,eb,l⟩
 ·subst ey
  obtain⟨z,hd,vs,rel,dd⟩:=eu I.hok e
  refine wpAny_in_of (gJ ry) hd dd.mapOf ?_
  rw[<- (rel.val k).isSome_eq,<- l]
  exact h _ (I.tok _)
 ·subst ey
  cases (show u=Value.ref b from ry)
  obtain⟨z,hd,xs,rel,dd⟩:=fC I.hok e
  refine wpAny_in_heap (tupleKind_room_in1 hu) (cX I.hok eb) hd dd ?_
  have q:=(rel.val k).isSome_eq
  rw[Option.isSome_map] at q
  rw[<- q,<- l]
  exact h _ (I.tok _)
theorem lW {Q:Value->Shared->Prop} (hu:A.units+1<cLine) (I:Inv X pins σ H s) (g:DGet H a y o) (ry:RelV y u) (h:∀ s',Inv X pins σ H s'->Q (.bool (!o.isSome)) s') :
  wpAny (model X.prog X.w) A (compareOp .NotIn u (.ref a)) Q E s:=by
 rcases g with ⟨kvs,k,e,ey,l⟩ | ⟨kvs,k,b,e,ey,eb,l⟩
 ·subst ey
  obtain⟨z,hd,vs,rel,dd⟩:=eu I.hok e
  refine wpAny_notIn_of (gJ ry) hd dd.mapOf ?_
  rw[<- (rel.val k).isSome_eq,<- l]
  exact h _ (I.tok _)
 ·subst ey
  cases (show u=Value.ref b from ry)
  obtain⟨z,hd,xs,rel,dd⟩:=fC I.hok e
  refine wpAny_notIn_heap (tupleKind_room_in1 hu) (cX I.hok eb) hd dd ?_
  have q:=(rel.val k).isSome_eq
  rw[Option.isSome_map] at q
  rw[<- q,<- l]
  exact h _ (I.tok _)
theorem fX {h':Heap}{t':Nat}{ob:HO} (I:Inv X pins σ H s) (mu:Mut (H a)) (hs:Heap.SameBut a s.heap h') (he:∃ q,h'.get? a=some q) (new:ObjOk X.prog X.w (upd H a ob) h' a ob) :
  Inv X pins σ (upd H a ob) { s with heap:=h',toks:=t' } :=
 I.write (x:=a) (e:=a) mu (.inl rfl) (fun b q hb z=>(hs.2 b hb).trans z) he new
theorem oO {P:Program}{w:World}{H':Hp}{h':Heap}{kvs:List (Key×V)}{vs:List (Key×Value)} (z:kvs.length<=sizeLine) (hd:(a == sysModules)=false) (rel:KV kvs vs) (dd:h'.DictOf (ba P w) a vs) :
  ObjOk P w H' h' a (.dK kvs):=⟨z,hd,vs,rel,dd⟩
theorem jq {H':Hp}{Q:Unit->Shared->Prop} (hu:A.units+1<cLine) (I:Inv X pins σ H s) (g:DPut H a y v H') (ry:RelV y u) (rv:RelV v r) (h:∀ s',Inv X pins σ H' s'->Q () s') :
  wpAny (model X.prog X.w) A (setItem (.ref a) u r) Q E s:=by
 rcases g with ⟨kvs,k,e,ey,l,eH⟩ | ⟨kvs,k,b,e,ey,eb,l,eH⟩
 ·subst ey eH
  obtain⟨z,hd,vs,rel,dd⟩:=dk_of I.hok e
  have hz:vs.length<=sizeLine:=by rw[<- rel.length]; exact z
  have hl:(aI kvs k v).length<=sizeLine:=by have:=bb kvs k v; omega
  refine wpAny_setItem_pairs (hsz:=hz) (gJ ry) dd fun h' dd' hs=>h _ ?_
  have he:∃ q,h'.get? a=some q:=let ⟨q,_,_,hq,_⟩:=dd'; ⟨q,hq⟩
  exact fX I (by rw[e]; exact True.intro) hs he (oO hl hd (rel.put k rv) dd')
 ·subst ey eH
  cases (show u=Value.ref b from ry)
  obtain⟨z,hd,xs,rel,dd⟩:=nj I.hok e
  have hz:xs.length<=sizeLine:=by rw[<- Paired.length rel]; exact z
  have hl:(aI kvs k v).length<=sizeLine:=by have:=bb kvs k v; omega
  refine wpAny_setItem_heap (hsz:=hz) (tupleKind_room_in1 hu) (cX I.hok eb) dd fun h' dd' hs=>h _ ?_
  obtain⟨q,es,ep,hq,h2,h3,h4,_,h5⟩:=dd'
  refine fX I (by rw[e]; exact True.intro) hs ⟨q,hq⟩ ⟨hl,hd,_,(rel.put k eb rv).keeps fun c ys ec=>?_,q,es,ep,hq,h2,h3,h4,h5⟩
  rw[av (kq ec e (fun z=>nomatch z))]
  exact ec
end
noncomputable def oX (i:Expr):Prop:=∀ ov iv,subscripted i false ov iv=operate [ov,iv] (getItem ov iv)
theorem ig {prog:Program}{w:World}{A:Around}{E:Value->Shared->Prop}{s:Shared}{env:Env}{value slice:Expr}{pos:Pos}{T id:String}{Q:Value->Shared->Prop}
  (hl:typeLookup (.type T) "__getitem__" = pure (some (.builtin id))) (hs:oX slice)
  (h:wpAny (model prog w) A (eval value env) (fun o s₁=>wpAny (model prog w) A (eval slice env) (fun i s₂=>s₂.TypeIs o T/\wpAny (model prog w) A (getItem o i) Q E s₂) E s₁) E s) :
  wpAny (model prog w) A (eval (.Subscript value slice pos) env) Q E s:=by
 refine Subscript_ (wpAny_mono h (fun o s₁ h₁=>wpAny_mono h₁ (fun i s₂ h₂=>?_) fun _ _ x=>x) fun _ _ x=>x)
 obtain⟨hT,h₂⟩:=h₂
 unfold subscriptTail
 refine wpAny_bind ?_
 rw[getitemInPython_of_ne hT.not_modules]
 refine wpAny_bind (wpAny_specialOf hT hl ?_)
 have fin:wpAny (model prog w) A (subscripted slice false o i) (fun r s₃=>wpAny (model prog w) A (letTemporaryGo value o r >>= fun _=>pure r) Q E s₃) E s₂:=by
  rw[hs o i]
  exact wpAny_operating (wpAny_mono h₂ (fun r s₃ h₃=>wpAny_bind (wpAny_letTemporaryGo (wpAny_pure h₃))) fun _ _ x=>x)
 first
  | exact wpAny_pure (wpAny_bind fin)
  | exact wpAny_bind (wpAny_pure (wpAny_bind fin))
  | exact wpAny_bind fin
theorem gN {X:Cx}{pins:List (Addr×Obj)}{σ:St}{H:Hp}{s:Shared}{a:Addr}{y:V}{o:Option V} (I:Inv X pins σ H s) (g:DGet H a y o):s.TypeIs (.ref a) "dict":=by
 rcases g with ⟨kvs,k,e,_,_⟩ | ⟨kvs,k,b,e,_,_,_⟩
 ·obtain⟨_,_,vs,_,dd⟩:=eu I.hok e
  exact dd.typeIs
 ·obtain⟨_,_,xs,_,dd⟩:=fC I.hok e
  exact dd.typeIs
noncomputable def tDGet (td ty:TE):TE:=fun σ H Q=>td σ H fun x H1=>ty σ H1 fun y H2=>∃ a v,x=.ref a/\DGet H2 a y (some v)/\Q v H2
noncomputable def tDIn (ty td:TE):TE:=fun σ H Q=>ty σ H fun y H1=>td σ H1 fun x H2=>∃ a o,x=.ref a/\DGet H2 a y o/\Q (.bl o.isSome) H2
noncomputable def lc (ty td:TE):TE:=fun σ H Q=>ty σ H fun y H1=>td σ H1 fun x H2=>∃ a o,x=.ref a/\DGet H2 a y o/\Q (.bl (!o.isSome)) H2
noncomputable def sDPut (td ty tv:TE):TS:=fun D σ H=>tv σ H fun v H1=>td σ H1 fun x H2=>ty σ H2 fun y H3=>∃ a H4,x=.ref a/\DPut H3 a y v H4/\D.nx σ H4
section
variable {X:Cx}{o i e value:Expr}{pos pos' tpos:Pos}{td ty tv:TE}
theorem lI (hu:X.A.units+1<cLine) (ho:PE X o td) (hi:PE X i ty) (hs:oX i:=by exact fun _ _=>rfl):PE X (.Subscript o i pos) (tDGet td ty):=by
 intro pins s σ H Q I h
 refine ig PySem.F.slot_dict_getitem.lookup hs (thn (ho pins s σ H _ I h) fun u s1 z_=>z_.elim fun x z_=>z_.elim fun H1 z_=>z_.elim fun I1 z_=>z_.elim fun rx q1=>thn (hi pins s1 σ H1 _ I1 q1) fun iv s2 z_=>z_.elim fun y z_=>z_.elim fun H2 z_=>z_.elim fun I2 z_=>z_.elim fun ry z_=>z_.elim fun a z_=>z_.elim fun v z_=>z_.elim fun ex z_=>z_.elim fun g q2=>?_)
 subst ex
 obtain rfl:u=Value.ref a:=rx
 exact⟨gN I2 g,jr hu I2 g ry fun w' s3 I3 rw'=>⟨v,H2,I3,rw',q2⟩⟩
theorem n9 (hu:X.A.units+1<cLine) (hi:PE X i ty) (ho:PE X o td):PC X .In i o (tDIn ty td):=by
 intro pins s σ H Q I h
 refine thn (hi pins s σ H _ I h) fun iv s1 z_=>z_.elim fun y z_=>z_.elim fun H1 z_=>z_.elim fun I1 z_=>z_.elim fun ry q1=>thn (ho pins s1 σ H1 _ I1 q1) fun u s2 z_=>z_.elim fun x z_=>z_.elim fun H2 z_=>z_.elim fun I2 z_=>z_.elim fun rx z_=>z_.elim fun a z_=>z_.elim fun ov z_=>z_.elim fun ex z_=>z_.elim fun g q2=>?_
 subst ex
 obtain rfl:u=Value.ref a:=rx
 exact d_in hu I2 g ry fun s3 I3=>⟨.bl ov.isSome,H2,I3,U,q2⟩
theorem jc (hu:X.A.units+1<cLine) (hi:PE X i ty) (ho:PE X o td):PC X .NotIn i o (lc ty td):=by
 intro pins s σ H Q I h
 refine thn (hi pins s σ H _ I h) fun iv s1 z_=>z_.elim fun y z_=>z_.elim fun H1 z_=>z_.elim fun I1 z_=>z_.elim fun ry q1=>thn (ho pins s1 σ H1 _ I1 q1) fun u s2 z_=>z_.elim fun x z_=>z_.elim fun H2 z_=>z_.elim fun I2 z_=>z_.elim fun rx z_=>z_.elim fun a z_=>z_.elim fun ov z_=>z_.elim fun ex z_=>z_.elim fun g q2=>?_
 subst ex
 obtain rfl:u=Value.ref a:=rx
 exact lW hu I2 g ry fun s3 I3=>⟨.bl (!ov.isSome),H2,I3,U,q2⟩
theorem cs (hu:X.A.units+1<cLine) (ho:PE X o td) (hi:PE X i ty) (hv:PE X value tv) (hs:swapsWith value (some (.Subscript o i pos')) pos.line X.env=pure false) :
  PS X (.Assign [.Subscript o i pos'] value pos) (sDPut td ty tv):=by
 intro pins s σ H D I h
 refine wpAny_Assign_Subscript (thn (hv pins s σ H _ I h) fun r s1 z_=>z_.elim fun v z_=>z_.elim fun H1 z_=>z_.elim fun I1 z_=>z_.elim fun rv q1=>thn (ho pins s1 σ H1 _ I1 q1) fun u s2 z_=>z_.elim fun x z_=>z_.elim fun H2 z_=>z_.elim fun I2 z_=>z_.elim fun rx q2=>thn (hi pins s2 σ H2 _ I2 q2) fun iv s3 z_=>z_.elim fun y z_=>z_.elim fun H3 z_=>z_.elim fun I3 z_=>z_.elim fun ry z_=>z_.elim fun a z_=>z_.elim fun H4 z_=>z_.elim fun ex z_=>z_.elim fun g q3=>?_) hs
 subst ex
 obtain rfl:u=Value.ref a:=rx
 exact jq hu I3 g ry rv fun s4 I4=>⟨σ,H4,I4,q3⟩
end
theorem kN {P:Program}{w:World}{H:Hp} (h:Heap) (hb:sysModules<h.objs.size):ObjOk P w H (h.push { cls:=.type "dict",data:=.dict #[] }) h.objs.size (.dK []) :=
 ⟨Nat.zero_le _,beq_eq_false_iff_ne.mpr (Ne.symm (Nat.ne_of_lt hb)),[],.nil,Heap.DictOf.new h⟩
theorem kM {P:Program}{w:World}{H:Hp} (h:Heap) (hb:sysModules<h.objs.size):ObjOk P w H (h.push { cls:=.type "dict",data:=.dict #[] }) h.objs.size (.dT []) :=
 ⟨Nat.zero_le _,beq_eq_false_iff_ne.mpr (Ne.symm (Nat.ne_of_lt hb)),[],.nil,_,#[],0,Heap.get?_push_size _ rfl,⟨U,U,U⟩,U,U,List.nodup_nil⟩
noncomputable def nB:TE:=fun _ H Q=>∀ p,H p=none->Q (.ref p) (upd H p (.dK []))
noncomputable def nA:TE:=fun _ H Q=>∀ p,H p=none->Q (.ref p) (upd H p (.dT []))
section
variable {X:Cx}{pos:Pos}
theorem dS:PE X (.Dict [] [] pos) nB:=fun pins s σ H Q I h=>
 wpAny_Dict_empty ⟨.ref s.heap.objs.size,_,I.laid (a:=s.heap.objs.size) (o:=.dK []) (t':=s.toks) (fun _ _ q=>Heap.get?_push_of_some _ q) (Nat.le_refl _) (kN s.heap I.big),U,h _ (I.hok.fresh (Nat.le_refl _))⟩
theorem dR:PE X (.Dict [] [] pos) nA:=fun pins s σ H Q I h=>
 wpAny_Dict_empty ⟨.ref s.heap.objs.size,_,I.laid (a:=s.heap.objs.size) (o:=.dT []) (t':=s.toks) (fun _ _ q=>Heap.get?_push_of_some _ q) (Nat.le_refl _) (kM s.heap I.big),U,h _ (I.hok.fresh (Nat.le_refl _))⟩
end
noncomputable def mergeK (kvs more:List (Key×V)):List (Key×V):=more.foldl (fun acc kv=>aI acc kv.1 kv.2) kvs
structure M1 (X:Cx) (o:Expr) (m:Str) (apos:Pos) (e:Expr) (cpos:Pos):Prop where
 base:attributeBase o m X.env (eval o X.env)=eval o X.env
 few:((backTo cpos (starEach [e] X.env)).all (fun x=>!x.1) && (backToKw cpos (keywordEach [] X.env)).all (fun x=>x.1.isSome)
  && decide (([e]:List Expr).length+([]:List Keyword).length+(if ([]:List Keyword).isEmpty then 0 else 1)<30))=true
 line:(apos.endLine == cpos.line)=true
 trees:backTo cpos (starEach [e] X.env)=[(false,eval e X.env)]
structure M2 (X:Cx) (o:Expr) (m:Str) (apos:Pos) (e f:Expr) (cpos:Pos):Prop where
 base:attributeBase o m X.env (eval o X.env)=eval o X.env
 few:((backTo cpos (starEach [e,f] X.env)).all (fun x=>!x.1) && (backToKw cpos (keywordEach [] X.env)).all (fun x=>x.1.isSome)
  && decide (([e,f]:List Expr).length+([]:List Keyword).length+(if ([]:List Keyword).isEmpty then 0 else 1)<30))=true
 line:(apos.endLine == cpos.line)=true
 trees:backTo cpos (starEach [e,f] X.env)=[(false,eval e X.env),(false,eval f X.env)]
noncomputable def IsD (H:Hp) (a:Addr):Prop:=(∃ kvs,Rd H a (.dK kvs))∨∃ kvs,Rd H a (.dT kvs)
theorem kC {X:Cx}{pins:List (Addr×Obj)}{σ:St}{H:Hp}{s:Shared}{a:Addr} (I:Inv X pins σ H s) (d:IsD H a) :
  s.TypeIs (.ref a) "dict" /\ (∀ b,Value.ref a=.ref b->∃ ob,s.heap.get? b=some ob/\ob.dict=none)/\(a == sysModules)=false:=by
 rcases d with ⟨kvs,e⟩ | ⟨kvs,e⟩
 ·obtain⟨_,hd,vs,_,dd⟩:=eu I.hok e
  refine⟨dd.typeIs,fun b q=>?_,hd⟩
  cases q
  obtain⟨ob,_,_,h1,h2,_⟩:=dd
  exact⟨ob,h1,h2.2.1⟩
 ·obtain⟨_,hd,xs,_,dd⟩:=fC I.hok e
  refine⟨dd.typeIs,fun b q=>?_,hd⟩
  cases q
  obtain⟨ob,_,_,h1,h2,_⟩:=dd
  exact⟨ob,h1,h2.2.1⟩
end L2
namespace HT
open PySem PyProof.Rows
section
open PySem.SeqAt
open PySem.AutoSeq1 (wpAny_loadPart')
open PySem.MeetsSeq PySem.MeetsSeq2 PySem.MeetsSeq3
end
section
variable {prog:Program}{w:World}{A:Around}{E:Value->Shared->Prop}{s:Shared}
noncomputable def sIx (n d:Nat):Option Int->Nat
 | none=>d
 | some v=>if v<0 then(v+(n:Int)).toNat else min v.toNat n
theorem nN (n d:Nat) (hd:d<=n) (o:Option Int):sIx n d o<=n:=by
 cases o with
 | none=>exact hd
 | some v=>
  show(if v<0 then(v+(n:Int)).toNat else min v.toNat n)<=n
  by_cases hv:v<0
  ·rw[if_pos hv]; omega
  ·rw[if_neg hv]; exact Nat.min_le_right _ _
theorem iM (v:Int) (n d:Nat):(if v<0 then max (v+(n:Int)) 0 else min v (n:Int))=((sIx n d (some v):Nat):Int):=by
 show(if v<0 then max (v+(n:Int)) 0 else min v (n:Int))=(((if v<0 then(v+(n:Int)).toNat else min v.toNat n):Nat):Int)
 by_cases hv:v<0
 ·simp only[if_pos hv]; omega
 ·simp only[if_neg hv]; omega
theorem hZ (lo hi:Option Int) (n:Nat):Builtin.Slice.sliceAdjust lo hi 1 (n:Int)=(((sIx n 0 lo:Nat):Int),((sIx n n hi:Nat):Int)):=by
 have h1:¬ ((1:Int)<0):=by omega
 unfold Builtin.Slice.sliceAdjust
 simp only[h1,if_false]
 refine Prod.ext ?_ ?_
 ·cases lo with
  | none=>rfl
  | some v=>exact iM v n 0
 ·cases hi with
  | none=>rfl
  | some v=>exact iM v n n
theorem g7 (i j:Nat):Builtin.Slice.slicePlaces (i:Int) (j:Int) 1=j - i:=by
 unfold Builtin.Slice.slicePlaces
 have h1:(1:Int) > 0:=by omega
 simp only[h1,if_true,Int.ediv_one]
 split <;> omega
theorem dL {v:Value}{o:Option Int}{Q:Option Int->Shared->Prop} (p:IsPart v o) (h:Q o s):wpAny (model prog w) A (Builtin.Slice.slicePartIndex v) Q E s:=by
 cases p with
 | none=>exact slicePart_none h
 | int i t=>exact slicePart_int h
theorem cS {sl:Addr}{vl vu:Value}{lo hi:Option Int}{n:Nat}{Q:Int×Int×Nat->Shared->Prop} (hs:s.heap.IsSliceOf sl vl vu .none) (pl:IsPart vl lo) (pu:IsPart vu hi)
  (h:Q (((sIx n 0 lo:Nat):Int),1,sIx n n hi - sIx n 0 lo) s):wpAny (model prog w) A (Builtin.Slice.sliceApplied (.ref sl) (pure (n:Int))) Q E s:=by
 obtain⟨os,hos,hcs,hds⟩:=id hs
 unfold Builtin.Slice.sliceApplied Builtin.Slice.sliceFields
 refine wpAny_bind (wpAny_bind (wpAny_field hos hds (x:=vl) rfl (wpAny_bind (wpAny_field hos hds (x:=vu) rfl (wpAny_bind (wpAny_field hos hds (x:=.none) rfl (wpAny_pure ?_)))))))
 refine wpAny_bind (slicePart_none ?_)
 show wpAny _ _ (if ((1:Int) == 0)=true then _ else _) _ _ s
 rw[if_neg (by decide)]
 refine wpAny_bind (dL pl (wpAny_bind (dL pu (wpAny_bind (wpAny_pure ?_)))))
 show wpAny _ _ (match Builtin.Slice.sliceAdjust lo hi 1 (n:Int) with | (lo,hi) => pure (lo,(1:Int),Builtin.Slice.slicePlaces lo hi 1)) _ _ s
 rw[hZ lo hi n]
 show wpAny _ _ (pure (((sIx n 0 lo:Nat):Int),(1:Int),Builtin.Slice.slicePlaces ((sIx n 0 lo:Nat):Int) ((sIx n n hi:Nat):Int) 1)) _ _ s
 rw[g7]
 exact wpAny_pure h
theorem jZ (xs:Array Value) (i k:Nat):((List.range k).filterMap fun(m:Nat)=>xs[((i:Int)+(m:Int)*1).toNat]?).toArray=((xs.toList.drop i).take k).toArray:=by
 have e:(fun(m:Nat)=>xs[((i:Int)+(m:Int)*1).toNat]?)=fun m=>xs[i+m]?:=by
  funext m
  have:((i:Int)+(m:Int)*1).toNat=i+m:=by omega
  rw[this]
 rw[e]
 have:=pick_run xs i k
 rw[List.filterMap_map] at this
 have e2:((fun x=>xs[x]?) ∘ fun x=>i+x)=fun m=>xs[i+m]?:=rfl
 rw[e2] at this
 rw[this]
theorem getItem_tuple_cut {t sl:Addr}{items:Array Value}{vl vu:Value}{lo hi:Option Int}{Q:Value->Shared->Prop} (ht:IsTup s.heap t items) (hs:s.heap.IsSliceOf sl vl vu .none) (pl:IsPart vl lo) (pu:IsPart vu hi)
  (hw:¬ (sIx items.size 0 lo=0/\sIx items.size items.size hi=items.size))
  (h:Q (.ref s.heap.objs.size) { s with heap:=s.heap.push { cls:=.type "tuple",data:=.seq ((items.toList.drop (sIx items.size 0 lo)).take (sIx items.size items.size hi - sIx items.size 0 lo)).toArray } })
  (hsz:items.size<=sizeLine):wpAny (model prog w) A (getItem (.ref t) (.ref sl)) Q E s:=by
 have htake:sizeOk (.seq ((items.toList.drop (sIx items.size 0 lo)).take (sIx items.size items.size hi - sIx items.size 0 lo)).toArray):=by
  show((items.toList.drop (sIx items.size 0 lo)).take (sIx items.size items.size hi - sIx items.size 0 lo)).toArray.size<=sizeLine
  rw[size_toArray,length_take,List.length_drop,Array.length_toList]
  omega
 have hj:sIx items.size items.size hi<=items.size:=nN _ _ (Nat.le_refl _) hi
 obtain⟨os,hos,hcs,hds⟩:=id hs
 have hTs:s.TypeIs (.ref sl) "slice":=⟨os,hos,hcs⟩
 unfold getItem
 try with_reducible refine wpAny_holding ?_
 first | refine wpAny_bind (wpAny_pure ?_) | skip
 refine wpAny_bind (wpAny_sequenceKey ht.typeIs (by decide) ?_)
 refine wpAny_bind (wpAny_callSpecial?_slot (name:=Str.ofString "__getitem__") ht.typeIs PyProof.Rows.slot_tuple_getitem
  (wpAny_call_entry PyProof.Rows.slot_tuple_getitem ht.typeIs entry_tuple_getitem ?_ (args_tuple_getitem _ _)))
 show wpAny _ _ (Builtin.Tuple.tupleItemsOf (.ref t) >>= _) _ _ s
 refine wpAny_bind (tupleItemsOf_ ht ?_)
 refine wpAny_bind (wpAny_typeOf hTs ?_)
 rw[if_pos (by decide)]
 refine wpAny_bind (cS hs pl pu ?_)
 have hno:¬ ((((sIx items.size 0 lo:Nat):Int) == 0 && (1:Int) == 1 && (sIx items.size items.size hi - sIx items.size 0 lo) == items.size)=true):=by
  intro q
  rw[Bool.and_eq_true,Bool.and_eq_true] at q
  have q1:((sIx items.size 0 lo:Nat):Int)=0:=eq_of_beq q.1.1
  have q2:sIx items.size items.size hi - sIx items.size 0 lo=items.size:=eq_of_beq q.2
  exact hw ⟨by omega,by omega⟩
 show wpAny _ _ (if (((sIx items.size 0 lo:Nat):Int) == 0 && (1:Int) == 1 && (sIx items.size items.size hi - sIx items.size 0 lo) == items.size)=true then _ else _) _ _ s
 rw[if_neg hno,jZ]
 first
  | exact wpAny_bind (m:=Builtin.Tuple.tupleExact _) (wpAny_newObj_type (wpAny_pure ⟨_,rfl,wpAny_pure h⟩) htake)
  | exact wpAny_bind (m:=Builtin.Tuple.tupleExact _) (wpAny_newObj_type (wpAny_bind (wpAny_pure (wpAny_pure ⟨_,rfl,wpAny_pure h⟩))) htake)
  | exact wpAny_bind (wpAny_bind (m:=Builtin.Tuple.tupleExact _) (wpAny_newObj_type (wpAny_pure (wpAny_pure ⟨_,rfl,wpAny_pure h⟩)) htake))
  | exact wpAny_bind (wpAny_bind (m:=Builtin.Tuple.tupleExact _) (wpAny_newObj_type (wpAny_pure ⟨_,rfl,wpAny_pure h⟩) htake))
end
end HT
namespace L2
open PySem PySem.Spec PyProof.Rows
noncomputable abbrev TO:=St->Hp->(Option Int->Hp->Prop)->Prop
noncomputable def PO (X:Cx) (e:Option Expr) (t:TO):Prop :=
 ∀ (pins:List (Addr×Obj)) (s:Shared) (σ:St) (H:Hp) (Q:Option Int->Hp->Prop),Inv X pins σ H s->t σ H Q ->
  wpAny (model X.prog X.w) X.A (evalPart e X.env) (fun u s'=>∃ o H',Inv X pins σ H' s'/\IsPart u o/\Q o H') X.xe s
noncomputable def k9:TO:=fun _ H Q=>Q none H
noncomputable def tPart (t:TE):TO:=fun σ H Q=>t σ H fun x H1=>∃ i,x=.int i/\Q (some i) H1
section
variable {X:Cx}{e:Expr}{te:TE}{lo hi:Option Expr}{tl th:TO}{pos p2:Pos}
theorem cG:PO X none k9:=by
 intro pins s σ H Q I h
 rw[evalPart_none]
 exact wpAny_pure ⟨none,H,I,.none,h⟩
theorem cF (h:PE X e te):PO X (some e) (tPart te):=by
 intro pins s σ H Q I hw
 rw[evalPart_some]
 refine thn (h pins s σ H _ I hw) fun u s1 z_=>z_.elim fun x z_=>z_.elim fun H1 z_=>z_.elim fun I1 z_=>z_.elim fun r1 q1=>?_
 obtain⟨i,rfl,q⟩:=q1
 obtain⟨t,rfl⟩:=r1
 exact⟨some i,H1,I1,.int i t,q⟩
noncomputable def SlR (X:Cx) (r:V->Option Int->Option Int->Hp->VK->Prop):Prop :=
 ∀ (pins:List (Addr×Obj)) (s:Shared) (σ:St) (H:Hp) (x:V) (v vl vu:Value) (lo hi:Option Int) (sl:Addr) (Q:VK),Inv X pins σ H s->RelV x v->s.heap.IsSliceOf sl vl vu .none->IsPart vl lo->IsPart vu hi->r x lo hi H Q ->
  ∃ T id,typeLookup (.type T) "__getitem__" = pure (some (.builtin id))/\s.TypeIs v T/\wpAny (model X.prog X.w) X.A (getItem v (.ref sl)) (EP X pins σ Q) X.xe s
noncomputable def tSl (r:V->Option Int->Option Int->Hp->VK->Prop) (te:TE) (tl th:TO):TE:=fun σ H Q=>te σ H fun x H1=>tl σ H1 fun l H2=>th σ H2 fun u H3=>r x l u H3 Q
theorem ce {r:V->Option Int->Option Int->Hp->VK->Prop} (hr:SlR X r) (he:PE X e te) (hl:PO X lo tl) (hu:PO X hi th):PE X (.Subscript e (.Slice lo hi none p2) pos) (tSl r te tl th):=by
 intro pins s σ H Q I h
 refine Subscript_ (thn (he pins s σ H _ I h) fun v s1 z_=>z_.elim fun x z_=>z_.elim fun H1 z_=>z_.elim fun I1 z_=>z_.elim fun r1 q1=>?_)
 refine wpAny_Slice (thn (hl pins s1 σ H1 _ I1 q1) fun vl s2 z_=>z_.elim fun l z_=>z_.elim fun H2 z_=>z_.elim fun I2 z_=>z_.elim fun pl q2=>thn (hu pins s2 σ H2 _ I2 q2) fun vu s3 z_=>z_.elim fun u z_=>z_.elim fun H3 z_=>z_.elim fun I3 z_=>z_.elim fun pu q3=>?_)
 rw[evalPart_none]
 refine wpAny_pure ?_
 have I4:Inv X pins σ H3 { s3 with heap:=s3.heap.push { cls:=.type "slice",data:=.fields #[vl,vu,.none] } }:=I3.kept (t':=s3.toks) fun b ob q=>Heap.get?_push_of_some _ q
 obtain⟨T,id,hT,ht,hg⟩:=hr pins { s3 with heap:=s3.heap.push { cls:=.type "slice",data:=.fields #[vl,vu,.none] } } σ H3 x v vl vu l u s3.heap.objs.size Q I4 r1 (Heap.IsSliceOf.new ..) pl pu q3
 show wpAny (model X.prog X.w) X.A (subscriptTail e (.Slice lo hi none p2) v (.ref s3.heap.objs.size)) (EP X pins σ Q) X.xe { s3 with heap:=s3.heap.push { cls:=.type "slice",data:=.fields #[vl,vu,.none] } }
 exact tail_any (ops:=[.ref s3.heap.objs.size,v]) ht hT hg (by with_unfolding_all rfl)
noncomputable def bU (xs:List V) (lo hi:Option Int):List V:=(xs.drop (HT.sIx xs.length 0 lo)).take (HT.sIx xs.length xs.length hi - HT.sIx xs.length 0 lo)
theorem dj (xs:List V) (lo hi:Option Int):(bU xs lo hi).length<=xs.length:=by
 unfold bU
 rw[length_take,List.length_drop]
 omega
noncomputable def rSlT (K:PySem.W.Frag):V->Option Int->Option Int->Hp->VK->Prop:=fun x lo hi H Q=>∃ a xs,x=.ref a/\SqT K H a xs /\
 ¬ (HT.sIx xs.length 0 lo=0/\HT.sIx xs.length xs.length hi=xs.length)/\∀ p,H p=none->Q (.ref p) (upd H p (.tup (bU xs lo hi)))
theorem nL:SlR X (rSlT X.K):=by
 intro pins s σ H x v vl vu lo hi sl Q I rx hs pl pu h
 obtain⟨a,xs,rfl,hx,hw,q⟩:=h
 cases rx
 obtain⟨its,r,ht,hz⟩:=I.tuple hx
 have hlen:its.toArray.size=xs.length:=by rw[size_toArray]; exact r.length.symm
 refine⟨"tuple",_,PyProof.Rows.slot_tuple_getitem.lookup,ht.typeIs,?_⟩
 refine HT.getItem_tuple_cut ht hs pl pu (by rw[hlen]; exact hw) ?_ (by rw[hlen]; exact hz)
 rw[hlen]
 refine⟨.ref s.heap.objs.size,_,I.laid (t':=s.toks) (o:=.tup (bU xs lo hi)) (fun b ob q=>Heap.get?_push_of_some _ q) (Nat.le_refl _) ?_,U,q _ (I.hok.fresh (Nat.le_refl _))⟩
 exact⟨Nat.le_trans (dj xs lo hi) hz,_,(r.drop (HT.sIx xs.length 0 lo)).take (HT.sIx xs.length xs.length hi - HT.sIx xs.length 0 lo),IsTup.new _ _⟩
end
noncomputable def ixN (n:Nat) (i:Int):Option Nat:=if 0<=i then(if i<n then some i.toNat else none) else if -(n:Int)<=i then some (i+n).toNat else none
noncomputable def atI {α:Type} (xs:List α) (i:Int):Option α:=(ixN xs.length i).bind fun j=>xs[j]?
theorem iG {n:Nat}{i:Int}{j:Nat} (h:ixN n i=some j):seqIndex? i n=some j/\j<n/\-(n:Int)<=i/\i<n:=by
 unfold ixN at h
 by_cases h0:0<=i
 ·rw[if_pos h0] at h
  by_cases h1:i<n
  ·rw[if_pos h1] at h
   have e:i.toNat=j:=Option.some.inj h
   exact⟨by rw[seqIndex_of h0 h1,e],by omega,by omega,h1⟩
  ·rw[if_neg h1] at h; cases h
 ·rw[if_neg h0] at h
  by_cases h1:-(n:Int)<=i
  ·rw[if_pos h1] at h
   have e:(i+n).toNat=j:=Option.some.inj h
   exact⟨by rw[seqIndex_neg (by omega) h1,e],by omega,h1,by omega⟩
  ·rw[if_neg h1] at h; cases h
theorem iO {α:Type}{xs:List α}{i:Int}{v:α} (h:atI xs i=some v):∃ j,seqIndex? i xs.length=some j/\xs[j]?=some v/\j<xs.length/\-(xs.length:Int)<=i/\i<xs.length:=by
 unfold atI at h
 cases e:ixN xs.length i with
 | none=>rw[e] at h; cases h
 | some j=>
  rw[e] at h
  obtain⟨h1,h2,h3,h4⟩:=iG e
  exact⟨j,h1,h,h2,h3,h4⟩
theorem aw {α:Type}{xs:List α}{j:Nat}{v:α} (h:xs[j]?=some v):atI xs (j:Int)=some v:=by
 have hj:j<xs.length:=(List.getElem?_eq_some_iff.mp h).1
 have e:ixN xs.length (j:Int)=some j:=by
  unfold ixN
  rw[if_pos (by omega),if_pos (by omega)]; simp
 unfold atI; rw[e]; exact h
theorem gQ {α:Type} (xs:List α) (v:α):atI (xs++[v]) (-1)=some v:=by
 have hl:(xs++[v]).length=xs.length+1:=by simp
 have e:ixN (xs++[v]).length (-1)=some xs.length:=by
  unfold ixN
  rw[hl,if_neg (by decide),if_pos (by omega)]
  congr 1
  omega
 unfold atI
 rw[e]
 show(xs++[v])[xs.length]?=some v
 simp
noncomputable def l8 (b:Expr):Prop:=∀ o i,subscripted b false o i=operate [o,i] (getItem o i)
noncomputable def IxR (X:Cx) (r:R2):Prop :=
 ∀ (value slice:Expr) (pins:List (Addr×Obj)) (s:Shared) (σ:St) (H:Hp) (x y:V) (v u:Value) (Q:VK),Inv X pins σ H s->RelV x v->RelV y u->r x y H Q ->
  subscripted slice false v u=operate [v,u] (getItem v u)->wpAny (model X.prog X.w) X.A (subscriptTail value slice v u) (EP X pins σ Q) X.xe s
noncomputable def MtR (X:Cx) (id:String) (r:V->List V->Hp->VK->Prop):Prop :=
 ∀ (pins:List (Addr×Obj)) (s:Shared) (σ:St) (H:Hp) (x:V) (xs:List V) (v:Value) (us:List Value) (Q:VK),Inv X pins σ H s->RelV x v->Vals xs us->r x xs H Q ->
  wpAny (model X.prog X.w) X.A (call (.builtin id) (v::us)) (EP X pins σ Q) X.xe s
section
variable {X:Cx}{a b:Expr}{ta tb:TE}{pos:Pos}
theorem aC {r:R2} (hr:IxR X r) (ha:PE X a ta) (hb:PE X b tb) (hs:l8 b:=by exact fun _ _=>rfl):PE X (.Subscript a b pos) (tOp r ta tb):=by
 intro pins s σ H Q I h
 exact Subscript_ (oQ ha hb I h fun v u s2 x y H2 I2 rx ry q=>hr a b pins s2 σ H2 x y v u Q I2 rx ry q (hs _ _))
noncomputable def pV (K:PySem.W.Frag):R2:=fun x y H Q=>∃ p xs i v,x=.ref p/\y=.int i/\SqL K H p xs/\atI xs i=some v/\Q v H
noncomputable def rIxT (K:PySem.W.Frag):R2:=fun x y H Q=>∃ p xs i v,x=.ref p/\y=.int i/\SqT K H p xs/\atI xs i=some v/\Q v H
theorem ay:IxR X (pV X.K):=by
 intro value slice pins s σ H x y v u Q I rx ry h hs
 obtain⟨p,xs,i,z,rfl,rfl,hq,he,q⟩:=h
 cases rx
 obtain⟨t,rfl⟩:=ry
 obtain⟨its,r,pl,hz⟩:=I.list hq
 obtain⟨j,h1,h2,h3,h4,h5⟩:=iO he
 obtain⟨w,ew,rw'⟩:=r.get h2
 have hl:=r.length
 have hn:=d3
 have fin:EP X pins σ Q w s:=⟨z,H,I,rw',q⟩
 by_cases h0:0<=i
 ·have hj:i.toNat=j:=by
   rw[seqIndex_of h0 h5] at h1
   exact Option.some.inj h1
  exact item_listR pl.isList h0 (by omega) (by rw[hj]; simpa using ew) fin hs
 ·have hj:(i+(its.toArray.size:Int)).toNat=j:=by
   rw[seqIndex_neg (by omega) h4] at h1
   rw[size_toArray,<- hl]
   exact Option.some.inj h1
  exact subscriptTail_builtinR (x:=w) pl.isList.typeIs slot_list_getitem.lookup
   (wpAny_getItem_list_neg (Q:=fun r s'=>r=w/\EP X pins σ Q r s') pl.isList (by omega) (by rw[size_toArray] <;> omega) (by omega) (by rw[hj]; simpa using ew) ⟨U,fin⟩) hs
theorem bf:IxR X (rIxT X.K):=by
 intro value slice pins s σ H x y v u Q I rx ry h hs
 obtain⟨p,xs,i,z,rfl,rfl,hq,he,q⟩:=h
 cases rx
 obtain⟨t,rfl⟩:=ry
 obtain⟨its,r,pl,hz⟩:=I.tuple hq
 obtain⟨j,h1,h2,h3,h4,h5⟩:=iO he
 obtain⟨w,ew,rw'⟩:=r.get h2
 have hl:=r.length
 have hn:=d3
 have fin:EP X pins σ Q w s:=⟨z,H,I,rw',q⟩
 exact subscriptTail_builtinR (x:=w) pl.typeIs slot_tuple_getitem.lookup
  (getItem_tuple (j:=j) (Q:=fun r s'=>r=w/\EP X pins σ Q r s') pl (by omega) (by omega) (by rw[size_toArray,<- hl]; exact h1) (by simpa using ew) ⟨U,fin⟩) hs
theorem hB (its:List Value) (n j:Nat) (u:Value):Obj.mapSeq (·.setIfInBounds j u) { cls:=.type "list",data:=.seq its.toArray n }={ cls:=.type "list",data:=.seq (its.set j u).toArray n }:=by
 simp[Obj.mapSeq]
theorem Inv.lst {pins:List (Addr×Obj)}{σ:St}{H:Hp}{s:Shared}{p:Addr}{xs:List V} (I:Inv X pins σ H s) (h:H p=some (.lst xs)) :
  ∃ (its:List Value) (n:Nat),Vals xs its/\s.heap.get? p=some { cls:=.type "list",data:=.seq its.toArray n }/\xs.length<=sizeLine:=by
 obtain⟨z,its,n,r,e⟩:=I.hok p _ h
 exact⟨its,n,r,e,z⟩
theorem Inv.lstUpd {pins:List (Addr×Obj)}{σ:St}{H:Hp}{s:Shared}{p:Addr}{xs ys:List V}{its its':List Value}{n n':Nat}{f:Obj->Obj} (I:Inv X pins σ H s) (h:H p=some (.lst xs))
  (ho:s.heap.get? p=some { cls:=.type "list",data:=.seq its.toArray n }) (hf:f { cls:=.type "list",data:=.seq its.toArray n }={ cls:=.type "list",data:=.seq its'.toArray n' }) (r:Vals ys its') (hz:ys.length<=sizeLine) (t:Nat) :
  Inv X pins σ (upd H p (.lst ys)) { s with heap:=s.heap.update p f,toks:=t }:=by
 have e:(s.heap.update p f).get? p=some { cls:=.type "list",data:=.seq its'.toArray n' }:=by
  rw[Heap.get?_update_self f ho (by rw[hf] <;> rfl),hf]
 refine I.write (x:=p) (e:=p) (by rw[h]; trivial) (.inl rfl) (fun b u hb q=>(Heap.get?_update_other _ _ (Ne.symm hb)).trans q) ⟨_,e⟩ ?_
 exact⟨hz,its',n',r,e⟩
noncomputable def rSetL:V->V->V->Hp->(Hp->Prop)->Prop:=fun o i v H Q=>∃ p xs k j,o=.ref p/\i=.int k/\H p=some (.lst xs)/\ixN xs.length k=some j/\Q (upd H p (.lst (xs.set j v)))
theorem jN:qg X rSetL:=by
 intro pins s σ H o i v ov iv u Q I ro ri rv h
 obtain⟨p,xs,k,j,rfl,rfl,hp,hj,q⟩:=h
 cases ro
 obtain⟨t,rfl⟩:=ri
 obtain⟨its,n,r,ho,hz⟩:=I.lst hp
 obtain⟨h1,h2,h3,h4⟩:=iG hj
 have hl:=r.length
 have hn:=d3
 have I':Inv X pins σ (upd H p (.lst (xs.set j v))) { s with heap:=s.heap.update p (Obj.mapSeq (·.setIfInBounds j u)) } :=
  I.lstUpd hp ho (hB its n j u) (r.set rv j) (by rw[List.length_set]; exact hz) s.toks
 by_cases h0:0<=k
 ·have hk:k.toNat=j:=by
   rw[seqIndex_of h0 h4] at h1
   exact Option.some.inj h1
  exact PySem.W.ki_setAt ho h0 (by omega) (by rw[size_toArray,<- hl]; exact h4) (by rw[hk]; exact⟨_,I',q⟩)
 ·have hk:(k+(its.toArray.size:Int)).toNat=j:=by
   rw[seqIndex_neg (by omega) h3] at h1
   rw[size_toArray,<- hl]
   exact Option.some.inj h1
  exact PySem.W.ki_setBack ho (by omega) (by rw[size_toArray,<- hl]; exact h3) (by omega) (by rw[hk]; exact⟨_,I',q⟩)
theorem fL (lo hi:Option Int) (n:Nat):(sliceBounds lo hi none n).1=((HT.sIx n 0 lo:Nat):Int)/\(sliceBounds lo hi none n).2.1=((HT.sIx n n hi:Nat):Int)/\(sliceBounds lo hi none n).2.2=1:=by
 refine⟨?_,?_,U⟩
 ·cases lo with
  | none=>simp[sliceBounds,HT.sIx]
  | some i=>
   simp only[sliceBounds,HT.sIx,Option.getD_none,show(1:Int) > 0 by decide,if_true]
   by_cases h:i<0
   ·simp only[h,if_true] <;> omega
   ·simp only[h,if_false] <;> omega
 ·cases hi with
  | none=>simp[sliceBounds,HT.sIx]
  | some i=>
   simp only[sliceBounds,HT.sIx,Option.getD_none,show(1:Int) > 0 by decide,if_true]
   by_cases h:i<0
   ·simp only[h,if_true] <;> omega
   ·simp only[h,if_false] <;> omega
theorem eU (its:List Value) (lo hi:Option Int):slicePick its.toArray lo hi none=((its.drop (HT.sIx its.length 0 lo)).take (HT.sIx its.length its.length hi - HT.sIx its.length 0 lo)).toArray:=by
 obtain⟨h1,h2,h3⟩:=fL lo hi its.toArray.size
 unfold slicePick
 rw[h1,h2,h3]
 simp only[sliceRange_one,pick_run,size_toArray] <;> rfl
noncomputable def rSlL (K:PySem.W.Frag):V->Option Int->Option Int->Hp->VK->Prop:=fun x lo hi H Q=>∃ a xs,x=.ref a/\SqL K H a xs/\∀ p,H p=none->Q (.ref p) (upd H p (.lst (bU xs lo hi)))
theorem dv:SlR X (rSlL X.K):=by
 intro pins s σ H x v vl vu lo hi sl Q I rx hs pl pu h
 obtain⟨a,xs,rfl,hx,q⟩:=h
 cases rx
 obtain⟨its,r,ht,hz⟩:=I.list hx
 have hlen:=r.length
 refine⟨"list",_,slot_list_getitem.lookup,ht.isList.typeIs,?_⟩
 refine wpAny_getItem_list_slice ht.isList hs pl pu .none (by simp) ?_ (by rw[size_toArray] <;> omega)
 rw[eU,<- hlen]
 refine⟨.ref s.heap.objs.size,_,I.laid (t':=s.toks) (o:=.lst (bU xs lo hi)) (fun b ob q=>Heap.get?_push_of_some _ q) (Nat.le_refl _) ?_,U,q _ (I.hok.fresh (Nat.le_refl _))⟩
 exact⟨Nat.le_trans (dj xs lo hi) hz,_,0,(r.drop (HT.sIx xs.length 0 lo)).take (HT.sIx xs.length xs.length hi - HT.sIx xs.length 0 lo),Heap.get?_push_size _ rfl⟩
noncomputable def di:V->Bool
 | .non=>true
 | .bl _=>true
 | .int _=>true
 | .str _=>true
 | _=>false
noncomputable def eqV:V->V->Bool
 | .non,.non=>true
 | .bl a,.bl b=>a == b
 | .bl a,.int b=>(if a then 1 else 0) == b
 | .int a,.bl b=>a == (if b then 1 else 0)
 | .int a,.int b=>a == b
 | .str a,.str b=>a == b
 | _,_=>false
theorem oN {A:Around}{s:Shared}{y x:V}{u v:Value} (ry:RelV y u) (rx:RelV x v) (fy:di y=true) (fx:di x=true):SeqAt.EqAt A s u v (eqV y x):=by
 cases y with
 | non=>
  cases ry
  cases x with
  | non=>cases rx; exact SeqAt.EqAt.same _
  | bl b=>cases rx; exact SeqAt.EqAt.none_bool b
  | int b=>obtain⟨t,rfl⟩:=rx; exact SeqAt.EqAt.none_int b t
  | str b=>obtain⟨t,rfl⟩:=rx; exact SeqAt.EqAt.none_str b t
  | _=>exact absurd (show false=true from fx) Bool.false_ne_true
 | bl a=>
  cases ry
  cases x with
  | non=>cases rx; exact SeqAt.EqAt.bool_none a
  | bl b=>cases rx; exact SeqAt.EqAt.bool_bool a b
  | int b=>obtain⟨t,rfl⟩:=rx; exact SeqAt.EqAt.bool_int a b t
  | str b=>obtain⟨t,rfl⟩:=rx; exact SeqAt.EqAt.bool_str a b t
  | _=>exact absurd (show false=true from fx) Bool.false_ne_true
 | int a=>
  obtain⟨t',rfl⟩:=ry
  cases x with
  | non=>cases rx; exact SeqAt.EqAt.int_none a t'
  | bl b=>cases rx; exact SeqAt.EqAt.int_bool a t' b
  | int b=>obtain⟨t,rfl⟩:=rx; exact SeqAt.EqAt.int_int a t' b t
  | str b=>obtain⟨t,rfl⟩:=rx; exact SeqAt.EqAt.int_str a t' b t
  | _=>exact absurd (show false=true from fx) Bool.false_ne_true
 | str a=>
  obtain⟨t',rfl⟩:=ry
  cases x with
  | non=>cases rx; exact SeqAt.EqAt.str_none a t'
  | bl b=>cases rx; exact SeqAt.EqAt.str_bool a t' b
  | int b=>obtain⟨t,rfl⟩:=rx; exact SeqAt.EqAt.str_int a t' b t
  | str b=>obtain⟨t,rfl⟩:=rx; exact SeqAt.EqAt.str_str a t' b t
  | _=>exact absurd (show false=true from fx) Bool.false_ne_true
 | _=>exact absurd (show false=true from fy) Bool.false_ne_true
noncomputable def eqU (x:V) (u:Value):Bool:=match u with
 | .none=>eqV .non x
 | .bool b=>eqV (.bl b) x
 | .int i _=>eqV (.int i) x
 | .str z _=>eqV (.str z) x
 | _=>false
theorem kJ {x y:V}{u:Value} (r:RelV y u) (f:di y=true):eqU x u=eqV y x:=by
 cases y with
 | non=>cases r; rfl
 | bl b=>cases r; rfl
 | int i=>obtain⟨t,rfl⟩:=r; rfl
 | str z=>obtain⟨t,rfl⟩:=r; rfl
 | _=>exact absurd (show false=true from f) Bool.false_ne_true
theorem cR {x:V}:∀ {xs:List V}{us:List Value},Vals xs us->xs.all di=true->us.any (eqU x)=xs.any fun y=>eqV y x
 | _,_,.nil,_=>rfl
 | y::xs,u::us,.cons r t,f=>by
  rw[List.all_cons,Bool.and_eq_true] at f
  rw[List.any_cons,List.any_cons,kJ r f.1,cR t f.2]
theorem ci {A:Around}{s:Shared}{x:V}{v:Value} (rx:RelV x v) (fx:di x=true):∀ {xs:List V}{us:List Value},Vals xs us->xs.all di=true->∀ u ∈ us,SeqAt.EqAt A s u v (eqU x u)
 | _,_,.nil,_=>fun u hu=>by cases hu
 | y::xs,u::us,.cons r t,f=>fun u' hu=>by
  rw[List.all_cons,Bool.and_eq_true] at f
  rcases mem_cons.mp hu with rfl | hu
  ·rw[kJ r f.1]; exact oN r rx f.1 fx
  ·exact ci rx fx t f.2 u' hu
noncomputable def inV (x:V) (xs:List V):Bool:=xs.any fun y=>eqV y x
noncomputable def rIn (K:PySem.W.Frag) (neg:Bool):R2:=fun x y H Q=>∃ p xs,y=.ref p/\(SqL K H p xs∨SqT K H p xs)/\di x=true/\xs.all di=true/\Q (.bl (if neg then !inV x xs else inV x xs)) H
theorem jd:OpR X (compareOp .In) (rIn X.K false):=by
 intro pins s σ H x y v u Q I rx ry h
 obtain⟨p,xs,rfl,hq,fx,fs,q⟩:=h
 cases ry
 rcases hq with hq | hq
 ·obtain⟨its,r,pl,hz⟩:=I.list hq
  refine SeqAt.in_listAt (eqU x) pl.isList (fun w hw=>ci rx fx r fs w (by simpa using hw)) ⟨.bl _,H,I,U,?_⟩
  rw[show its.toArray.any (eqU x)=its.any (eqU x) by simp,cR r fs]
  exact q
 ·obtain⟨its,r,pl,hz⟩:=I.tuple hq
  refine SeqAt.in_tupleAt (eqU x) pl (fun w hw=>ci rx fx r fs w (by simpa using hw)) ⟨.bl _,H,I,U,?_⟩
  rw[show its.toArray.any (eqU x)=its.any (eqU x) by simp,cR r fs]
  exact q
theorem cH:OpR X (compareOp .NotIn) (rIn X.K true):=by
 intro pins s σ H x y v u Q I rx ry h
 obtain⟨p,xs,rfl,hq,fx,fs,q⟩:=h
 cases ry
 rcases hq with hq | hq
 ·obtain⟨its,r,pl,hz⟩:=I.list hq
  refine SeqAt.notIn_listAt (eqU x) pl.isList (fun w hw=>ci rx fx r fs w (by simpa using hw)) ⟨.bl _,H,I,U,?_⟩
  rw[show its.toArray.any (eqU x)=its.any (eqU x) by simp,cR r fs]
  exact q
 ·obtain⟨its,r,pl,hz⟩:=I.tuple hq
  refine SeqAt.notIn_tupleAt (eqU x) pl (fun w hw=>ci rx fx r fs w (by simpa using hw)) ⟨.bl _,H,I,U,?_⟩
  rw[show its.toArray.any (eqU x)=its.any (eqU x) by simp,cR r fs]
  exact q
theorem az:cm X (.builtin "len") (fun xs H Q=>∃ p ys,xs=[.ref p]/\(SqL X.K H p ys∨SqT X.K H p ys)/\Q (.int ys.length) H):=by
 intro pins s σ H xs us Q I r h
 obtain⟨p,ys,rfl,hq,q⟩:=h
 obtain⟨u,rfl,rx⟩:=c7 r
 cases rx
 have hn:=d3
 rcases hq with hq | hq
 ·obtain⟨its,r',pl,hz⟩:=I.list hq
  have hlen:=r'.length
  exact Calls.call_len_list pl.isList (by simp only[size_toArray] <;> omega) ⟨.int ys.length,H,I.tok _,⟨s.toks+1,by rw[size_toArray,hlen]⟩,q⟩
 ·obtain⟨its,r',pl,hz⟩:=I.tuple hq
  have hlen:=r'.length
  exact len_tuple pl (by simp only[size_toArray] <;> omega) ⟨.int ys.length,H,I.tok _,⟨s.toks+1,by rw[size_toArray,hlen]⟩,q⟩
theorem bc:cm X (.type "list") (fun xs H Q=>∃ p ys,xs=[.ref p]/\(SqL X.K H p ys∨SqT X.K H p ys)/\∀ l,H l=none->Q (.ref l) (upd H l (.lst ys))):=by
 intro pins s σ H xs us Q I r h
 obtain⟨p,ys,rfl,hq,q⟩:=h
 obtain⟨u,rfl,rx⟩:=c7 r
 cases rx
 have fin:∀ (its:List Value),Vals ys its->ys.length<=sizeLine->∀ (h':Heap) (c':Nat),(∀ b o',s.heap.get? b=some o'->h'.get? b=some o') ->
   h'.get? s.heap.objs.size=some { cls:=.type "list",dict:=none,data:=.seq its.toArray c',slots:=#[] }->EP X pins σ Q (.ref s.heap.objs.size) { s with heap:=h' }:=fun its r' hz h' c' kp e=>
  ⟨.ref s.heap.objs.size,_,I.laid (t':=s.toks) kp (Nat.le_refl _) (show ObjOk X.prog X.w _ h' _ (.lst ys) from⟨hz,its,c',r',e⟩),U,q _ (I.hok.fresh (Nat.le_refl _))⟩
 rcases hq with hq | hq
 ·obtain⟨its,r',pl,hz⟩:=I.list hq
  have hlen:=r'.length
  obtain⟨o,ho,hc,n,hd⟩:=pl.isList
  exact call_list_seq p (.inl rfl) ho hc hd (fun h' c' kp e=>fin its r' hz h' c' kp e) (by simp only[size_toArray] <;> omega)
 ·obtain⟨its,r',pl,hz⟩:=I.tuple hq
  have hlen:=r'.length
  obtain⟨o,ho,hc,n,hd⟩:=pl
  exact call_list_seq p (.inr rfl) ho hc hd (fun h' c' kp e=>fin its r' hz h' c' kp e) (by simp only[size_toArray] <;> omega)
noncomputable def tyV (K:PySem.W.Frag) (T:String) (x:V) (H:Hp):Prop:=match x with
 | .str _=>T = "str"
 | .int _=>T = "int"
 | .ref p=>(T = "list" /\ ∃ xs,SqL K H p xs)∨(T = "tuple" /\ ∃ o,K.lookup p=some o/\o.cls=.type "tuple" /\ o.dict=none) ∨
   (T = "dict" /\ ((∃ kvs,H p=some (.dK kvs))∨∃ kvs,H p=some (.dT kvs)))∨(T = "set" /\ ∃ S n,H p=some (.set S n))
 | _=>False
theorem nq {pins:List (Addr×Obj)}{σ:St}{H:Hp}{s:Shared}{T:String}{x:V}{v:Value} (I:Inv X pins σ H s) (r:RelV x v) (ty:tyV X.K T x H) :
  s.TypeIs v T/\∀ a,v=.ref a->∃ ob,s.heap.get? a=some ob/\ob.dict=none:=by
 cases x with
 | str z=>
  obtain⟨t,rfl⟩:=r
  cases (show T = "str" from ty)
  exact⟨typeIs_str s z t,fun _ e=>nomatch e⟩
 | int i=>
  obtain⟨t,rfl⟩:=r
  cases (show T = "int" from ty)
  exact⟨typeIs_int s i t,fun _ e=>nomatch e⟩
 | ref p=>
  cases r
  rcases ty with ⟨rfl,xs,hq⟩ | ⟨rfl,o,hk,hc,hd⟩ | ⟨rfl,hk⟩ | ⟨rfl,S,n,hk⟩
  ·obtain⟨its,_,pl,_⟩:=I.list hq
   refine⟨pl.isList.typeIs,fun a e=>?_⟩
   cases e
   obtain⟨o,n,e,c,hd,_⟩:=pl
   exact⟨o,e,hd⟩
  ·refine⟨⟨o,I.kIn p o hk,hc⟩,fun a e=>?_⟩
   cases e
   exact⟨o,I.kIn _ o hk,hd⟩
  ·have z:∃ o,s.heap.get? p=some o/\o.ExactDict:=by
    rcases hk with ⟨kvs,hk⟩ | ⟨kvs,hk⟩
    ·obtain⟨_,_,_,_,o,_,_,e,ex,_⟩:=I.hok p _ hk
     exact⟨o,e,ex⟩
    ·obtain⟨_,_,_,_,o,_,_,e,ex,_⟩:=I.hok p _ hk
     exact⟨o,e,ex⟩
   obtain⟨o,e,ex⟩:=z
   refine⟨⟨o,e,ex.1⟩,fun a e2=>?_⟩
   cases e2
   exact⟨o,e,ex.2.1⟩
  ·obtain⟨o,_,_,_,e,ex,_⟩:=I.hok p _ hk
   refine⟨⟨o,e,ex.1⟩,fun a e2=>?_⟩
   cases e2
   exact⟨o,e,ex.2.1⟩
 | _=>exact False.elim ty
noncomputable def tBM (K:PySem.W.Frag) (T:String) (r:V->List V->Hp->VK->Prop) (to:TE) (t:TA):TE:=fun σ H Q=>to σ H fun x H1=>tyV K T x H1/\t σ H1 fun xs H2=>r x xs H2 Q
variable {o e:Expr}{es:List Expr}{to:TE}{t:TA}{name:Str}{apos cpos:Pos}{T id:String}{r:V->List V->Hp->VK->Prop}
theorem b6 (pa:PlainAttrs T) (slot:Slot T name id) (hty:typeOf (.builtin id)=pure (.type "method_descriptor")) (hm:MtR X id r) (ho:PE X o to) (ha:PA X (e::es) t)
  (hbase:attributeBase o name X.env (eval o X.env)=eval o X.env:=by rfl)
  (hfew:((backTo cpos (starEach (e::es) X.env)).all (fun x=>!x.1) && (backToKw cpos (keywordEach [] X.env)).all (fun x=>x.1.isSome)
   && decide ((e::es).length+([]:List Keyword).length+(if ([]:List Keyword).isEmpty then 0 else 1)<30))=true:=by rfl)
  (hline:(apos.endLine == cpos.line)=true:=by rfl) (hs:starEach (e::es) X.env=(false,eval e X.env)::starEach es X.env:=by rfl) (hplain:(backTo cpos (starEach es X.env)).any (·.1)=false:=by rfl) :
  PE X (.Call (.Attribute o name apos) (e::es) [] cpos) (tBM X.K T r to t):=by
 intro pins s σ H Q I h
 refine wpAny_Call_method_late hbase hfew hline rfl (thn (ho pins s σ H _ I h) fun v s1 z_=>z_.elim fun x z_=>z_.elim fun H1 z_=>z_.elim fun I1 z_=>z_.elim fun r1 z_=>z_.elim fun ty q1=>?_)
 obtain⟨h1,h2⟩:=nq I1 r1 ty
 refine⟨T,id,pa,slot,hty,h1,h2,?_⟩
 have hA:=ha cpos pins s1 σ H1 _ I1 q1
 rw[hs] at hA ⊢
 refine Calls.callWith_builtin (by show (false || (backTo cpos (starEach es X.env)).any (·.1)) = false; rw [hplain] <;> rfl) (Calls.evalArgs_plain ?_)
 exact thn hA fun us s2 z_=>z_.elim fun vs z_=>z_.elim fun H2 z_=>z_.elim fun I2 z_=>z_.elim fun r2 q2=>hm pins s2 σ H2 x vs v us Q I2 r1 r2 q2
/- xs.append(e),list.index on a module's tuple .. are MtR facts of 06m -/
end
end L2
namespace L2
open PySem PySem.Spec PyProof.Rows
noncomputable def MtM (X:Cx) (id:String) (r:V->List V->Hp->VK->Prop):Prop :=
 ∀ (pins:List (Addr×Obj)) (s:Shared) (σ:St) (H:Hp) (x:V) (xs:List V) (v:Value) (us:List Value) (Q:VK),Inv X pins σ H s->RelV x v->Vals xs us->r x xs H Q ->
  wpAny (model X.prog X.w) X.A (call (.builtin id) (v::us)) (EP X pins σ Q) X.xe s
theorem Vals.one:∀ {x:V}{us:List Value},Vals [x] us->∃ u,us=[u]/\RelV x u
 | _,_,.cons r .nil=>⟨_,U,r⟩
section
variable {X:Cx}{pins:List (Addr×Obj)}{σ:St}{H:Hp}{s:Shared}{l b:Addr}{xs ys zs:List V}
theorem Inv.lset {its its':List Value}{n:Nat}{f:Array Value->Array Value}{t':Nat} (I:Inv X pins σ H s) (hH:H l=some (.lst xs))
  (e:s.heap.get? l=some { cls:=.type "list",data:=.seq its.toArray n }) (hf:f its.toArray=its'.toArray) (hv:Vals ys its') (hz:ys.length<=sizeLine) :
  Inv X pins σ (upd H l (.lst ys)) { s with heap:=s.heap.update l (Obj.mapSeq f),toks:=t' }:=by
 have q:=PySem.IsL.update e f
 rw[hf] at q
 refine I.write (x:=l) (e:=l) (by rw[hH]; exact trivial) (.inl rfl) (fun b' u hb hu=>(Heap.get?_update_other s.heap (Obj.mapSeq f) (Ne.symm hb)).trans hu) ⟨_,q⟩ ?_
 exact⟨hz,its',_,hv,q⟩
theorem Inv.lstM (I:Inv X pins σ H s) (hH:H l=some (.lst xs)):xs.length<=sizeLine/\∃ (its:List Value) (n:Nat),Vals xs its/\xs.length=its.length/\s.heap.get? l=some { cls:=.type "list",data:=.seq its.toArray n }:=by
 obtain⟨z,its,n,r,e⟩:=I.hok l _ hH
 exact⟨z,its,n,r,r.length,e⟩
end
section
variable {X:Cx}
noncomputable def lG:V->List V->Hp->VK->Prop:=fun x vs H Q=>∃ l xs y,x=.ref l/\vs=[y]/\H l=some (.lst xs)/\xs.length<sizeLine/\Q .non (upd H l (.lst (xs++[y])))
theorem aT:MtM X "list.append" lG:=by
 intro pins s σ H x vs v us Q I rx rv h
 obtain⟨l,xs,y,rfl,rfl,hH,hz,q⟩:=h
 cases rx
 obtain⟨u,rfl,ru⟩:=rv.one
 obtain⟨z,its,n,r,hl,e⟩:=I.lstM hH
 refine call_meets F.slot_list_append ⟨_,e,U⟩ F.entry_list_append (F.args_list_append_2 _ _) (PySem.list_append l its.toArray n u (by rw[size_toArray]; omega)) ⟨e,?_⟩
 refine⟨.non,_,I.lset (its':=its++[u]) hH e (by simp) (r.append (.cons ru .nil)) ?_,U,q⟩
 rw[length_append,length_singleton]
 omega
end
end L2
namespace Att
open PySem PySem.W PySem.Calls PyProof.Rows
theorem du {P:Params}{h:Heap}:∀ (ns:List Int) (vs:List Value),WellAll P h vs (ns.map WData.int)->IntsAre vs ns:=by
 intro ns
 induction ns with
 | nil=>
  intro vs w
  rw[List.map_nil] at w
  cases w
  exact .nil
 | cons n ns ih=>
  intro vs w
  rw[map_cons] at w
  cases w with
  | cons a b=>
   cases a
   exact .cons _ _ (ih _ b)
theorem iY {l : OpenLaw}{n : Nat} (hn : l.most=some n) {P : Params}{h : Heap}{args : List WData}{vals : List Value}
    (hpre : l.row.toRowW.claim.pre args=true) (hwl : WellAll P h vals args) :
    ∃ a vs ns, vals=[Value.ref a]/\args=[WData.list (ns.map WData.int)]/\h.get? a=some { cls := .type "list", data := .seq vs.toArray }/\IntsAre vs ns/\ns.length<=n := by
  have hsh : WShape.hasAll [] args [.list .int]=true := (pre_splitW hpre).1
  have hc : l.pre.holds [] { args := args }=true := (pre_splitW hpre).2
  obtain⟨d, r, rfl, h1, h2⟩ := hasAllW_cons hsh
  obtain rfl := hasAllW_nil h2
  obtain⟨xs, rfl, h3⟩ := hasW_list h1
  obtain⟨ns, rfl⟩ := items_int h3
  have hlen : ns.length<=n := by
    unfold OpenLaw.pre at hc
    have h4 : (WTm.not (.lt (.lit (.int (n : Int))) (.len (.arg 0)))).holds [] { args := [.list (ns.map .int)] }=true := by
      have h4 := (holds_andW hc).1
      rw[hn] at h4
      exact h4
    have h5 := condW_of h4 (w_not (w_lt w_lit (w_len_list (w_arg rfl))))
    rw[length_map] at h5
    refine Nat.le_of_not_lt fun q=>?_
    have q' : (n : Int)<((ns.length : Nat) : Int) := by omega
    first
      | (rw [decide_eq_true q'] at h5; exact absurd h5 (by decide))
      | (simp at h5; omega)
  cases hwl with
  | cons w1 w2=>
    cases w2
    cases w1 with
    | list ho hall=>exact⟨_, _, ns, rfl, rfl, ho, du ns _ hall, hlen⟩
theorem ja (l:OpenLaw) (args:List WData):l.row.toRowW.claim.post args (.bool true) args=true :=
 postW_of (r:=l.row.toRowW) (X:=(true == true))
  (show WShape.has [] (.bool true) .bool=true by first | rfl | decide | simp[WShape.has,WShape.arms,WShape.armsAll])
  (show(WTm.eq .res (.lit (.bool true))).value [] { args:=args,res:=some (.bool true),after:=args }=some (.bool (true == true)) from w_eq_bool (w_res rfl) w_lit) rfl
theorem attach_call {l:OpenLaw}{n:Nat}{q:Program}{loose:List Str}{XP:(Str->Option Value)->Heap->Prop}{YP:World->Heap->Prop}{d:DefRec}
  (hn:l.most=some n) (hdf:d.params.defaults=[])
  (call:∀ (w:World) (s₀ s₁:Shared) (mg mb:Str->Option Value) (fa:Addr) (o:Obj) (pm cd doc:Value) (a:Addr) (vs:List Value) (ns:List Int),
   Ground q loose [] XP w s₀ mg mb s₁.heap->YP w s₁.heap ->
   s₁.heap.get? fa=some o->o.data=.func (docDef d.name d.params d.body d.scope pm cd doc)->s₁.heap.CodeRec cd d.name->mg d.name=some (.ref fa) ->
   s₁.heap.get? a=some { cls:=.type "list",data:=.seq vs.toArray }->IntsAre vs ns->ns.length<=n->s₁.gens = #[] ->
   codeAny (model l.prog w) callerA (.call (.ref fa) ⟨[.ref a],[]⟩) (fun r s'=>r=.ok (.ret (.bool true))/\OldK s₁.heap s'.heap/\s'.os=s₁.os/\AllBare s'.gens) s₁) :
  WalkO q loose XP YP l.row.toRowW d [] (fun f vs=>PySem.call f vs):=by
 intro w s₀ s₁ mg mb G Y fa o pm cd doc dV kV ho hd hcd hD hmg hg args vals as hpre hlay hrd hwl hlo
 obtain rfl:dV=.none:=Dflts.none hD hdf
 obtain rfl:kV=.none:=Dflts.noKw hD
 obtain⟨a,vs,ns,rfl,rfl,hobj,hints,hlen⟩:=iY hn hpre hwl
 refine enter_call (codeAny_mono (call w s₀ s₁ mg mb fa o pm cd doc a vs ns G Y ho (fd_plain hd) hcd hmg hobj hints hlen hg) fun r s' hq=>?_)
 obtain⟨rfl,h2,h3,h4⟩:=hq
 exact⟨.inl ⟨.bool true,.bool true,[],rfl,fun _=>rfl,.bool true,ja l _,fun _=>⟨List.Pairwise.nil,fun _ hm=>(nomatch hm)⟩⟩,h2,h3,h4⟩
section
variable {prog:Program}{w:World}{A:Around}{E:Value->Shared->Prop}{s:Shared}{K:Frag}
noncomputable def ledger (h:Heap) (L d:Addr):List (Addr×Obj):=(List.range h.objs.size).filterMap fun a=>if a=L∨a=d then none else(h.get? a).map fun o=>(a,o)
end
end Att
namespace L2
open PySem PySem.Spec PyProof.Rows
theorem eZ:∀ {vs:List Value}{ns:List Int},IntsAre vs ns->Vals (ns.map V.int) vs
 | _,_,.nil=>.nil
 | _,_,.cons n t h=>.cons ⟨t,U⟩ (eZ h)
noncomputable def l9 (H:Hp):Prop:=∀ b,H b=none∨∃ o xs,H b=some (.frz o (.lst xs))
theorem ky {P:Program}{w:World}{K:PySem.W.Frag}{mg mb:Str->Option Value}{CX:CXT}{k:Nat}{fa a:Addr}{fd:FuncData}{x:Str}{sp:Sp}{s₁:Shared}{vs:List Value}{ns:List Int}
  (KX:K.In s₁.heap) (hns:s₁.heap.Ns mainGlobals mg) (hb:s₁.heap.Ns builtinsNs mb) (hbb:∀ x:Str,x ≠ "__name__" -> mb x=bootBuiltins x) (hlim:s₁.heap.NoLimit) (hg:s₁.gens = #[])
  (ha:s₁.heap.get? a=some { cls:=.type "list",data:=.seq vs.toArray }) (hi:IntsAre vs ns) (hl:ns.length<=sizeLine) (hr:Room k callerA)
  (F:∀ base:Heap,K.In base->base.Ns mainGlobals mg->FnOk P w K mg base CX k fa fd [x] sp) (hbind:∀ (s:Shared) (u:Value),BindsTo s fd ⟨[u],[]⟩ [(x,u)])
  (hsp:∀ H:Hp,l9 H->SqL K H a (ns.map V.int)->sp [.ref a] H (fun v _=>v=.bl true) fun _ _ _=>False)
  (hCX:∀ H e s',CX [] H s₁ (fun _ _ _=>False) e s'->False) :
  codeAny (model P w) callerA (.call (.ref fa) ⟨[.ref a],[]⟩) (fun r s'=>r=.ok (.ret (.bool true))/\OldK s₁.heap s'.heap/\s'.os=s₁.os/\AllBare s'.gens) s₁:=by
 have rv:=eZ hi
 have lenV:=hi.length
 have core:∀ H:Hp,l9 H->SqL K H a (ns.map V.int)->HOk P w H s₁.heap->(∀ b,H b≠none->b=a)->(H a≠none->K.lookup a=none) ->
   codeAny (model P w) callerA (.call (.ref fa) ⟨[.ref a],[]⟩) (fun r s'=>r=.ok (.ret (.bool true))/\OldK s₁.heap s'.heap/\s'.os=s₁.os/\AllBare s'.gens) s₁:=by
  intro H hO hS hok hA hK
  have base_of:∀ {b:Addr}{o:Obj},s₁.heap.get? b=some o->H b=none->(fU s₁.heap H).get? b=some o:=fun e n=>kD e n
  have noA:∀ {b:Addr}{o:Obj}{es:Array DictEntry}{ep:Nat},s₁.heap.get? b=some o->o.data=.dict es ep->H b=none:=fun {b o es ep} e d=>by
   cases q:H b with
   | none=>rfl
   | some u=>
    have e':b=a:=hA b (by rw[q]; simp)
    subst e'
    rw[ha] at e; cases e
    have d':Data.seq vs.toArray _=Data.dict es ep:=d
    cases d'
  have nsK:∀ {b:Addr}{m:Str->Option Value},s₁.heap.Ns b m->(fU s₁.heap H).Ns b m:=fun {b m} ⟨o,es,ep,e,d,r⟩=>⟨o,es,ep,base_of e (noA e d),d,r⟩
  have hKb:K.In (fU s₁.heap H):=fun b o e=>base_of (KX b o e) (by
   cases q:H b with
   | none=>rfl
   | some u=>
    have e':b=a:=hA b (by rw[q]; simp)
    subst e'
    rw[hK (by rw[q]; simp)] at e; cases e)
  have hM:Mod K mg (fU s₁.heap H):=⟨hKb,nsK hns,⟨mb,nsK hb,hbb⟩,let ⟨mc,h1,h2⟩:=hlim; ⟨mc,nsK h1,h2⟩⟩
  have e0:Env0 P w K mg (fU s₁.heap H) callerA [] s₁ H:=⟨U,hM,fun b o e=>lN e,Nat.le_of_eq (jm _ _),trivial,fun b hb=>absurd (show b ∈ ([]:List Addr) from hb) (by simp),hok,.of_eq hg⟩
  refine codeAny_mono ((F _ hKb (nsK hns)).run callerA [] s₁ H ⟨[.ref a],[]⟩ [.ref a] [.ref a] _ _ hr e0 (hbind s₁ (.ref a)) (.cons rfl .nil) (hsp H hO hS)) fun r s' h=>?_
  cases r with
  | error e=>exact(hCX H e s' h).elim
  | ok fl=>
   cases fl with
   | next=>exact False.elim h
   | brk=>exact False.elim h
   | cont=>exact False.elim h
   | ret u=>
    obtain⟨v,H',os,bare,un,hok',r',q⟩:=h
    have q':v=.bl true:=q
    subst q'
    obtain rfl:u=Value.bool true:=r'
    refine⟨U,OldK.of_keep fun b o e=>?_,os,bare⟩
    cases q:H b with
    | none=>exact un.keep b o e q (by intro z; exact absurd (show b ∈ ([]:List Addr) from z) (by simp)) (by simp)
    | some u=>
     rcases hO b with z | ⟨ob,xs,z⟩
     ·rw[q] at z; cases z
     ·have z2:=un.frzs b ob _ z
      obtain⟨e1,_⟩:=hok b _ z
      obtain⟨e2,_⟩:=hok' b _ z2
      rw[e] at e1; cases e1
      exact e2
 cases hk:K.lookup a with
 | some o=>
  have e:=KX a o hk
  rw[ha] at e
  cases e
  refine core (fun _=>none) (fun _=>.inl rfl) (.inr ⟨_,vs.toArray,_,hk,U,U,U,by rw[size_toArray,lenV]; exact hl,by simpa using rv⟩) (fun b u z=>by have z':(none:Option HO)=some u:=z; cases z') (fun b z=>absurd rfl z) fun z=>absurd rfl z
 | none=>
  refine core (fun b=>if b=a then some (.frz { cls:=.type "list",data:=.seq vs.toArray } (.lst (ns.map V.int))) else none) (fun b=>?_) (.inl (.inr ⟨{ cls:=.type "list",data:=.seq vs.toArray },if_pos rfl⟩)) (fun b u z=>?_) (fun b z=>?_) fun _=>hk
  ·by_cases hb:b=a
   ·exact .inr ⟨_,_,if_pos hb⟩
   ·exact .inl (if_neg hb)
  ·by_cases hb:b=a
   ·have z':=(if_pos hb).symm.trans z
    cases z'
    subst hb
    exact⟨ha,by rw[length_map]; exact hl,vs,_,rv,ha⟩
   ·have z':=(if_neg hb).symm.trans z
    cases z'
  ·by_cases hb:b=a
   ·exact hb
   ·exact absurd (if_neg hb) z
noncomputable abbrev KOf {K:PySem.W.Frag}{h:Heap} (_:K.In h):PySem.W.Frag:=K
theorem k7 {l:PySem.W.OpenLaw}{n k:Nat}{q:Program}{loose:List Str}{XP:(Str->Option Value)->Heap->Prop}{YP:World->Heap->Prop}{d:DefRec}{K:Params->PySem.W.Frag}{CX:World->CXT}{sp:World->Sp}{x:Str}
  (hn:l.most=some n) (hn2:n<=sizeLine) (hdf:d.params.defaults=[]) (hr:Room k callerA)
  (hY:∀ (w:World) (h:Heap),YP w h->(K w.params).In h)
  (F:∀ (w:World) (mg:Str->Option Value) (fa:Addr) (h:Heap),(K w.params).In h->h.Ns mainGlobals mg->mg d.name=some (.ref fa) ->
   ∃ fd:FuncData,(∀ (s:Shared) (u:Value),BindsTo s fd ⟨[u],[]⟩ [(x,u)]) /\
    ∀ base:Heap,(K w.params).In base->base.Ns mainGlobals mg->FnOk l.prog w (K w.params) mg base (CX w) k fa fd [x] (sp w))
  (hsp:∀ (w:World) (H:Hp) (a:Addr) (ns:List Int),ns.length<=n->l9 H->SqL (K w.params) H a (ns.map V.int)->sp w [.ref a] H (fun v _=>v=.bl true) fun _ _ _=>False)
  (hCX:∀ (w:World) (H:Hp) (s:Shared) (e:Value) (s':Shared),CX w [] H s (fun _ _ _=>False) e s'->False) :
  PySem.W.WalkO q loose XP YP l.row.toRowW d [] (fun f vs=>PySem.call f vs):=by
 refine Att.attach_call hn hdf fun w s₀ s₁ mg mb fa o pm cd doc a vs ns G Y ho hd hcd hmg hobj hints hlen hg=>?_
 have KX:=hY w _ Y
 obtain⟨fd,hb,hF⟩:=F w mg fa _ KX G.T.g hmg
 exact ky KX G.T.g G.T.b G.T.builtins G.T.nolimit hg hobj hints (Nat.le_trans hlen hn2) hr hF hb (fun H hO hS=>hsp w H a ns hlen hO hS) fun H e s'=>hCX w H s₁ e s'
theorem walk_ofK {l:PySem.W.OpenLaw}{n k:Nat}{q:Program}{loose:List Str}{XP:(Str->Option Value)->Heap->Prop}{YP:World->Heap->Prop}{d:DefRec}{K:Params->PySem.W.Frag}{CX:CXT}{sp:PySem.W.Frag->Sp}{x:Str}
  (hn:l.most=some n) (hn2:n<=sizeLine) (hdf:d.params.defaults=[]) (hr:Room k callerA)
  (hY:∀ (w:World) (h:Heap),YP w h->(K w.params).In h)
  (F:∀ (w:World) (mg:Str->Option Value) (fa:Addr) (h:Heap),(K w.params).In h->h.Ns mainGlobals mg->mg d.name=some (.ref fa) ->
   ∃ fd:FuncData,(∀ (s:Shared) (u:Value),BindsTo s fd ⟨[u],[]⟩ [(x,u)]) /\
    ∀ base:Heap,(K w.params).In base->base.Ns mainGlobals mg->FnOk l.prog w (K w.params) mg base CX k fa fd [x] (sp (K w.params)))
  (hsp:∀ (K:PySem.W.Frag) (H:Hp) (a:Addr) (ns:List Int),ns.length<=n->l9 H->SqL K H a (ns.map V.int)->sp K [.ref a] H (fun v _=>v=.bl true) fun _ _ _=>False)
  (hCX:∀ (H:Hp) (s:Shared) (e:Value) (s':Shared),CX [] H s (fun _ _ _=>False) e s'->False) :
  PySem.W.WalkO q loose XP YP l.row.toRowW d [] (fun f vs=>PySem.call f vs) :=
 k7 (K:=K) (CX:=fun _=>CX) (sp:=fun w=>sp (K w.params)) hn hn2 hdf hr hY F (fun w H a ns h1 h2 h3=>hsp (K w.params) H a ns h1 h2 h3) fun _ H s e s'=>hCX H s e s'
noncomputable def aO (s:Stmt) (j:Nat):Stmt:=match s with
 | .ClassDef _ _ _ body _ _ _ _ _ _ _=>body.getD j (.Pass ⟨0,0,0,0⟩)
 | _=>.Pass ⟨0,0,0,0⟩
noncomputable def bB (s:Stmt):Arguments:=match s with
 | .FunctionDef _ a _ _ _ _ _ _ _ _=>a
 | _=>{ posonlyargs:=[],args:=[],vararg:=none,kwonlyargs:=[],kw_defaults:=[],kwarg:=none,defaults:=[] }
noncomputable def br (s:Stmt):List Stmt:=match s with
 | .FunctionDef _ _ b _ _ _ _ _ _ _=>b
 | _=>[]
noncomputable def ai (s:Stmt):Scope:=match s with
 | .FunctionDef _ _ _ _ _ _ sc _ _ _=>sc
 | _=>{ kind:=.function,names:=[],isGenerator:=false,isCoroutine:=false }
noncomputable abbrev CX0:CXT:=fun _ _ _ _ _ _=>False
noncomputable abbrev E0:XK:=fun _ _ _=>False
theorem aB {X:Cx}:bV CX0 X E0:=fun _ _ _ _ _ _ _ h=>h.elim
theorem pcl {X:Cx}{k n:Nat}{f:Addr}{fd:FuncData}{ps:List Str}{sp:Sp}{x:Str}{p pos:Pos}{e:Expr}{es:List Expr}{t:TA} (F:FnOk X.prog X.w X.K X.mg X.base CX0 k f fd ps sp) (hr:Room n X.A) (hm:X.mg x=some (.ref f)) (hk:PySem.W.keepIn X.K (.ref f)=true) (hb:Binds X.K fd ps []) (ha:PA X (e::es) t) (hg:Gl X x:=by rfl) (hj:k<=n:=by decide) (hdb:(x==("__debug__":Str))=false:=by decide) (he:starEach (e::es) X.env=(false,eval e X.env)::starEach es X.env:=by rfl) (hpl:(backTo pos (starEach es X.env)).any (·.1)=false:=by rfl):PE X (.Call (.Name x p) (e::es) [] pos) (mE sp [] E0 t):=lJ F (hr.mono hj) hg hm hk hb .nil aB ha hdb he hpl
structure Fun (K:PySem.W.Frag) (x qual:Str) (st:Stmt) (f:Addr) (fd:FuncData):Prop where
 ex:∃ (oc:Value) (od:Option Addr) (kV doc pm:Value) (an:Option Addr) (cdv ct:Value) (osl:Array (Option Value)),
  fd=W.fnOf x qual (bB st) (br st) (ai st) .none kV doc pm an cdv ct/\K.lookup f=some ⟨oc,od,.func fd,osl⟩/\W.codeIn K cdv qual=true
 kp:W.keepIn K (.ref f)=true
theorem fA {A:Around}{k:Nat} (hr:Room k A):A.units+1<cLine:=Nat.lt_of_le_of_lt (Nat.add_le_add_left (by decide:1<=64) _) hr.units
section
variable {X:Cx}
theorem pv (i:Nat) {x:Str}{pos:Pos} (hN:X.N[i]?=some x:=by rfl) (hv:Vis X.env.scope x:=by first | exact Or.inl rfl | exact Or.inr (Or.inl rfl) | exact Or.inr (Or.inr rfl)) (hd:(x == ("__debug__" : Str))=false:=by decide)
  (hcd:(x == ("__classdict__" : Str))=false:=by decide):PE X (.Name x pos) (k8 i):=nX hN hv hd hcd
end
theorem cZ {A B:Prop} (h:B):if false=true then A else B:=by
 rw[if_neg Bool.false_ne_true]
 exact h
theorem fT {A B:Prop} (h:A):if true=true then A else B:=by
 rw[if_pos rfl]
 exact h
theorem oK {c A B:Prop} [Decidable c] (h1:c->A) (h2:¬ c->B):if c then A else B:=by
 by_cases h:c
 ·rw[if_pos h]
  exact h1 h
 ·rw[if_neg h]
  exact h2 h
noncomputable def Same (H H':Hp):Prop:=∀ b o,H b=some o->H' b=some o
theorem Same.trans {H H1 H2:Hp} (a:Same H H1) (b:Same H1 H2):Same H H2:=fun c o h=>b c o (a c o h)
theorem Same.seq {K:PySem.W.Frag}{H H':Hp}{a:Addr}{xs:List V} (e:Same H H') (h:SqL K H a xs):SqL K H' a xs:=by
 rcases h with (h | ⟨o,h⟩) | h
 ·exact .inl (.inl (e _ _ h))
 ·exact .inl (.inr ⟨o,e _ _ h⟩)
 ·exact .inr h
noncomputable abbrev Kn:=List (Addr×HO)
structure Has (H:Hp) (L:Kn):Prop where
 nd:(L.map (·.1)).Nodup
 at_:∀ x ∈ L,H x.1=some x.2
namespace Has
variable {H H':Hp}{L L' X Y R:Kn}{a p:Addr}{o o':HO}{x y:Addr×HO}
theorem nil:Has H []:=⟨List.nodup_nil,fun _ h=>nomatch h⟩
theorem get (h:Has H L) (i:Nat) (e:L[i]?=some (a,o)):H a=some o:=h.at_ (a,o) (mem_of_getElem? e)
theorem alloc (h:Has H L) (hp:H p=none) (o:HO):Has (upd H p o) ((p,o)::L):=by
 have ne:∀ x ∈ L,x.1≠p:=fun x hx e=>by
  have:=h.at_ x hx
  rw[e,hp] at this; cases this
 refine⟨?_,fun x hx=>?_⟩
 ·rw[map_cons,List.nodup_cons]
  refine⟨fun m=>?_,h.nd⟩
  obtain⟨x,hx,e⟩:=mem_map.mp m
  exact ne x hx e
 ·rcases mem_cons.mp hx with rfl | hx
  ·exact bw
  ·rw[av (ne x hx)]; exact h.at_ x hx
theorem sub (h:Has H L) (s:L'.Sublist L):Has H L':=⟨h.nd.sublist (s.map _),fun x hx=>h.at_ x (s.subset hx)⟩
theorem perm (h:Has H L) (s:L.Perm L'):Has H L':=⟨(s.map _).nodup_iff.mp h.nd,fun x hx=>h.at_ x (s.mem_iff.mpr hx)⟩
theorem tail (h:Has H (x::L)):Has H L:=h.sub (List.sublist_cons_self _ _)
theorem swap2 (h:Has H (x::y::L)):Has H (y::x::L):=h.perm (List.Perm.swap _ _ _)
theorem comm (h:Has H (X++(Y++R))):Has H (Y++(X++R)):=h.perm (by rw[<- append_assoc,<- append_assoc]; exact List.perm_append_comm.append_right R)
theorem db:∀ (L:Kn) (i:Nat),L[i]?=some (a,o)->(L.set i (a,o')).map (·.1)=L.map (·.1)
 | [],i,e=>by simp at e
 | x::L,0,e=>by simp at e; subst e; rfl
 | x::L,i+1,e=>by
  simp only[List.set_cons_succ,map_cons]
  rw[db L i (by simpa using e)]
theorem puti (h:Has H L) (i:Nat) (e:L[i]?=some (a,o)) (o':HO):Has (upd H a o') (L.set i (a,o')):=by
 have hi:i<L.length:=(List.getElem?_eq_some_iff.mp e).1
 refine⟨by rw[db (o':=o') L i e]; exact h.nd,fun x hx=>?_⟩
 obtain⟨j,hj⟩:=List.getElem?_of_mem hx
 by_cases hij:j=i
 ·subst hij
  rw[List.getElem?_set_self hi] at hj
  cases hj
  exact bw
 ·rw[List.getElem?_set_ne (Ne.symm hij)] at hj
  have hx':x ∈ L:=mem_of_getElem? hj
  have:x.1≠a:=fun z=>by
   have e1:(L.map (·.1))[i]?=some a:=by rw[getElem?_map,e]; rfl
   have e2:(L.map (·.1))[j]?=some a:=by rw[getElem?_map,hj,<- z]; rfl
   obtain⟨l1,q1⟩:=List.getElem?_eq_some_iff.mp e1
   obtain⟨l2,q2⟩:=List.getElem?_eq_some_iff.mp e2
   exact hij ((List.getElem_inj h.nd).mp (q2.trans q1.symm))
  rw[av this]
  exact h.at_ x hx'
end Has
section
variable {X:Cx}
theorem kR:cm X (.builtin "isinstance") (fun xs H Q=>∃ x T t b,xs=[x,.ty T]/\TyOf X.K H x t/\PySem.W.kitOne X.K t (.type T)=some b/\Q (.bl b) H):=by
 intro pins s σ H xs us Q I r h
 obtain⟨x,T,t,b,rfl,ty,e,q⟩:=h
 obtain⟨u1,u2,rfl,r1,r2⟩:=ic r
 cases (show u2=Value.type T from r2)
 exact jj I r1 ty e fun tk=>⟨.bl b,H,I.tok _,U,q⟩
end
theorem SqL.alloc {K:PySem.W.Frag}{H:Hp}{a p:Addr}{xs:List V}{o:HO} (h:SqL K H a xs) (hp:H p=none):SqL K (upd H p o) a xs :=
 Same.seq (fun b u e=>by rw[av (aY e hp)]; exact e) h
theorem cP (xs:List V) (n:Int) (h0:0<=n):bU xs none (some n)=xs.take n.toNat:=by
 show((xs.drop 0).take ((if n<0 then(n+(xs.length:Int)).toNat else min n.toNat xs.length) - 0))=_
 rw[if_neg (by omega),List.drop_zero,Nat.sub_zero]
 by_cases hl:n.toNat<=xs.length
 ·rw[Nat.min_eq_left hl]
 ·rw[Nat.min_eq_right (by omega),List.take_of_length_le (Nat.le_refl _),List.take_of_length_le (by omega)]
theorem sizeOk {n:Nat} (h:n<=1000000):n<sizeLine:=Nat.lt_of_le_of_lt h (by decide)
end L2
namespace L2
theorem ifF {b:Bool}{A B:Prop} (e:b=false) (h:B):if b=true then A else B:=by subst e; exact cZ h
theorem ifT {b:Bool}{A B:Prop} (e:b=true) (h:A):if b=true then A else B:=by subst e; exact fT h
theorem if2 {b:Bool}{A B:Prop} (h1:b=true->A) (h2:b=false->B):if b=true then A else B:=by
 cases b
 ·exact cZ (h2 rfl)
 ·exact fT (h1 rfl)
theorem ifd {c:Prop} [Decidable c] {A B:Prop} (h1:c->A) (h2:¬ c->B):if decide c=true then A else B:=by
 by_cases h:c
 ·exact ifT (decide_eq_true h) (h1 h)
 ·exact ifF (decide_eq_false h) (h2 h)
theorem ifdn {c:Prop} [Decidable c] {A B:Prop} (h1:¬ c->A) (h2:c->B):if (!decide c)=true then A else B:=by
 by_cases h:c
 ·exact ifF (by simp[h]) (h2 h)
 ·exact ifT (by simp[h]) (h1 h)
end L2
set_option Elab.async false
set_option linter.all false
set_option maxRecDepth 100000
namespace L2
open PySem PySem.Spec PyProof.Rows
noncomputable def cj (cells : List (Str×Addr)) : List (Str×NameKind)->List (Str×Addr)->List (Str×Addr)
  | [], acc=>acc
  | (n, k) :: r, acc => if k == .free then cj cells r ((n, (cells.lookup n).getD 0) :: acc) else cj cells r acc
theorem eG (scope : Scope) (env : Env) (h : ∀ y ∈ scope.names, y.2=.free->∃ c, env.cells.lookup y.1=some c) : closureFor scope env=pure (cj env.cells scope.names []) := by
  unfold closureFor
  have all : ∀ (l : List (Str×NameKind)) (acc : List (Str×Addr)), (∀ y ∈ l, y.2=.free->∃ c, env.cells.lookup y.1=some c) ->
      (forIn l acc fun x r=>match x with
        | (name, kind) => if (kind == .free) = true then do let a <- cellOf env name; pure (ForInStep.yield ((name, a) :: r)) else pure (ForInStep.yield r)) = (pure (cj env.cells l acc) : Sem _) := by
    intro l
    induction l with
    | nil=>intro acc _; rfl
    | cons y l ih=>
      obtain⟨n, k⟩ := y
      intro acc hl
      rw[List.forIn_cons]
      by_cases hk : (k == NameKind.free)=true
      · obtain⟨c, hc⟩ := hl (n, k) mem_cons_self (by simpa using hk)
        have e : cellOf env n=pure c := by unfold cellOf; rw[hc]
        simp only[hk, if_true, e, pure_bind, cj, hc, Option.getD_some]
        exact ih _ fun y hy=>hl y (mem_cons_of_mem _ hy)
      · simp only[hk, if_false, pure_bind, cj]
        exact ih _ fun y hy=>hl y (mem_cons_of_mem _ hy)
  have := all scope.names [] h
  simp only[this, pure_bind]
theorem cQ {cells : List (Str×Addr)}{x : Str}{c : Addr} : ∀ (l : List (Str×NameKind)) (acc : List (Str×Addr)), (∀ y ∈ l, y.2=.free->∃ c, cells.lookup y.1=some c) ->
    (∀ y d, acc.lookup y=some d->cells.lookup y=some d)->(cj cells l acc).lookup x=some c->cells.lookup x=some c
  | [], acc, _, ha, h=>ha x c h
  | (n, k) :: r, acc, hl, ha, h => by
    unfold cj at h
    split at h
    · rename_i hk
      obtain⟨d, hd⟩ := hl (n, k) mem_cons_self (by simpa using hk)
      refine cQ r _ (fun y hy=>hl y (mem_cons_of_mem _ hy)) (fun y e he=>?_) h
      rw[lookup_cons] at he
      split at he
      · rename_i hyn
        have : y=n := by simpa using hyn
        subst this
        cases he
        rw[hd]; rfl
      · exact ha y e he
    · exact cQ r _ (fun y hy=>hl y (mem_cons_of_mem _ hy)) ha h
theorem eI {cells : List (Str×Addr)}{x : Str} : ∀ (l : List (Str×NameKind)) (acc : List (Str×Addr)), (∃ c, acc.lookup x=some c)->∃ c, (cj cells l acc).lookup x=some c
  | [], acc, h=>h
  | (n, k) :: r, acc, h => by
    unfold cj
    split
    · refine eI r _ ?_
      rw[lookup_cons]
      split
      · exact⟨_, rfl⟩
      · exact h
    · exact eI r _ h
theorem bX {cells : List (Str×Addr)}{x : Str} : ∀ (l : List (Str×NameKind)) (acc : List (Str×Addr)), (x, NameKind.free) ∈ l->∃ c, (cj cells l acc).lookup x=some c
  | [], _, h=>nomatch h
  | (n, k) :: r, acc, h => by
    unfold cj
    rcases mem_cons.mp h with e | h
    · cases e
      rw[if_pos (by rfl)]
      exact eI r _ ⟨(cells.lookup x).getD 0, by rw[lookup_cons]; simp⟩
    · split
      · exact bX r _ h
      · exact bX r _ h
theorem bL {env : Env}{x : Str} : ∀ (l : List (Str×NameKind)), (∀ y ∈ l, y.2≠.cell) ->
    ((l.map fun(n, k)=>if (k == NameKind.free && env.scope.kind == .function && env.kindOf n == some .cell) then(n, NameKind.cell) else(n, k)).lookup x=some .cell ∨
     (l.map fun(n, k)=>if (k == NameKind.free && env.scope.kind == .function && env.kindOf n == some .cell) then(n, NameKind.cell) else(n, k)).lookup x=some .free)->(x, NameKind.free) ∈ l
  | [], _, h=>by simp at h
  | (n, k) :: r, hl, h => by
    have ih := bL (env := env) (x := x) r fun y hy=>hl y (mem_cons_of_mem _ hy)
    by_cases hc : (k == NameKind.free && env.scope.kind == .function && env.kindOf n == some .cell)=true
    · have hkf : k=.free := by
        rw[Bool.and_eq_true, Bool.and_eq_true] at hc
        simpa using hc.1.1
      subst hkf
      simp only[map_cons, hc, if_true, lookup_cons] at h
      cases hx : x == n with
      | true=>
        have : x=n := by simpa using hx
        subst this
        exact mem_cons_self
      | false=>
        simp only[hx] at h
        exact mem_cons_of_mem _ (ih h)
    · simp only[map_cons, if_neg hc, lookup_cons] at h
      cases hx : x == n with
      | true=>
        have : x=n := by simpa using hx
        subst this
        simp only[hx] at h
        rcases h with h | h
        · cases h
          exact absurd rfl (hl (x, .cell) mem_cons_self)
        · cases h
          exact mem_cons_self
      | false=>
        simp only[hx] at h
        exact mem_cons_of_mem _ (ih h)
noncomputable def PTs (X:Cx) (ifs:List Expr) (t:TT):Prop :=
 ∀ (pins:List (Addr×Obj)) (s:Shared) (σ:St) (H:Hp) (Q:Bool->Hp->Prop),Inv X pins σ H s->t σ H Q ->
  wpAny (model X.prog X.w) X.A (forIn ifs true fun c r=>if r=true then do let ok <- isTrue c X.env (eval c X.env); pure (ForInStep.yield ok) else pure (ForInStep.yield r)) (TP X pins σ Q) X.xe s
noncomputable def mv:TT:=fun _ H Q=>Q true H
theorem bI {X:Cx}:PTs X [] mv:=fun _ _ _ H _ I h=>wpAny_tests_nil ⟨H,I,h⟩
theorem dk {prog:Program}{w:World}{A:Around}{R:Result->Shared->Prop}{s:Shared}{elt target iter:Expr}{ifs:List Expr}{scope:Scope}{pos:Pos}{it acc:Value}{env:Env} (I:Nat->Shared->Prop)
  (turn:∀ n s,I n s->wpAny (model prog w) A (pyNext it) (fun r s₁=>match r with
   | none=>R (.ok .next) s₁
   | some v=>wpAny (model prog w) A (letOwnedTupleGo target it v) (fun _ s₀=>wpAny (model prog w) A (assign target env v) (fun _ s₂=>
     wpAny (model prog w) A (forIn ifs true fun c r=>if r=true then do let ok <- isTrue c env (eval c env); pure (ForInStep.yield ok) else pure (ForInStep.yield r)) (fun ok s₃=>
      if ok=true then wpAny (model prog w) A (eval elt env) (fun x s₄=>
       wpAny (model prog w) A (call (.builtin "list.append") [acc,x]) (fun _ s₅=>∃ m,m<n/\I m s₅) (fun _ _=>False) s₄) (fun _ _=>False) s₃
      else ∃ m,m<n/\I m s₃) (fun _ _=>False) s₂) (fun _ _=>False) s₀) (fun _ _=>False) s₁) (fun _ _=>False) s)
  (n:Nat) (h:I n s) :
  codeAny (model prog w) A (.compLoop (.ListComp elt [⟨target,iter,ifs,0⟩] scope pos) 0 it acc env) R s:=by
 have no:∀ {α:Type}{t:Sem α}{Q:α->Shared->Prop}{s:Shared}{E:Value->Shared->Prop},wpAny (model prog w) A t Q (fun _ _=>False) s->wpAny (model prog w) A t Q E s:=fun h=>wpAny_mono h (fun _ _ q=>q) fun _ _ z=>False.elim z
 refine codeAny_loop rfl I (fun n s hI=>?_) n h
 show wpAny _ A ((compTurn (.ListComp elt [⟨target,iter,ifs,0⟩] scope pos) 0 it acc env).onRaise (fun x=>do noteFrame x env; theTreesLotGoes x)) _ _ s
 refine wpAny_noted ?_
 rw[compTurn_list]
 refine wpAny_bind (wpAny_standAt (wpAny_bind (wpAny_mono (no (turn n s hI)) (fun r s₁ h₁=>?_) fun _ _ h'=>h')))
 cases r with
 | none=>exact wpAny_pure h₁
 | some v=>
  refine wpAny_bind (wpAny_mono (no h₁) (fun _ s₀ h₀=>?_) fun _ _ h'=>h')
  refine wpAny_bind (wpAny_mono (no h₀) (fun _ s₂ h₂=>wpAny_bind (wpAny_mono (no h₂) (fun ok s₃ h₃=>?_) fun _ _ h'=>h')) fun _ _ h'=>h')
  cases ok with
  | false=>exact wpAny_pure ⟨U,h₃⟩
  | true=>
   exact wpAny_bind (wpAny_bind (wpAny_mono (no h₃) (fun x s₄ h₄=>wpAny_bind (wpAny_mono (no h₄) (fun _ s₅ h₅=>wpAny_pure (wpAny_pure ⟨U,h₅⟩)) fun _ _ h'=>h')) fun _ _ h'=>h'))
noncomputable abbrev blk (X:Cx) (scope:Scope) (N':List Str) (C:Addr) (s₀:Shared) (H₀:Hp) (fp:List Addr) (pins:List (Addr×Obj)):Cx :=
 { X with N:=N',s₀:=s₀,H₀:=H₀,env:=compEnvC scope (cj X.env.cells scope.names []) C X.env,outer:=X.stack,stack:=X.stack,ex:=fp,fn:=fun _=>false,pn:=X.pn++pins,xe:=fun _ _=>False }
noncomputable def tLC (wi:TI) (k:Nat) (g:TG) (tc:TT) (te:TE):TE:=fun σ H Q=>wi σ H fun J H1=>∀ D,H1 D=none->∃ W:Nat->Nat->List V->Hp->Prop,(∃ m,W 0 m [] (upd H1 D (.lst [])))/\∀ i m ys H,W i m ys H->H D=some (.lst ys) /\
 ((J.stop i H/\Q (.ref D) H)∨(J.go i H/\∀ x H',J.yld i H x H'->g x (List.replicate k none++σ) H' fun σ2 H2=>σ2.drop k=σ/\tc σ2 H2 fun b H3=>
  if b=true then te σ2 H3 fun y H4=>ys.length<sizeLine/\H4 D=some (.lst ys)/\∃ m',m'<m/\W (i+1) m' (ys++[y]) (upd H4 D (.lst (ys++[y]))) else ∃ m',m'<m/\W (i+1) m' ys H3))
section
variable {X:Cx}
theorem fg {elt tg iter:Expr}{ifs:List Expr}{scope:Scope}{pos:Pos}{wi:TI}{k:Nat}{g:TG}{tc:TT}{te:TE} (N':List Str) (hc:X.calm=true) (hi:PI X tg iter wi)
  (hg:∀ C s₀ H₀ fp pins,PG (blk X scope N' C s₀ H₀ fp pins) tg g) (ht:∀ C s₀ H₀ fp pins,PTs (blk X scope N' C s₀ H₀ fp pins) ifs tc) (he:∀ C s₀ H₀ fp pins,PE (blk X scope N' C s₀ H₀ fp pins) elt te)
  (hk:scope.kind=.function) (hcell:∀ y ∈ scope.names,y.2≠.cell) (hnames:∀ y ∈ scope.names,y.2=.local->scope.names.lookup y.1=some .local)
  {esc:Scope} (hsc:X.env.scope=esc) (hfr':∀ y ∈ scope.names,y.2=.free->esc.names.lookup y.1=some .cell∨esc.names.lookup y.1=some .free)
  (hlen:N'.length=k+X.N.length)
  (hN:∀ (i:Nat) (x:Str),N'[i+k]?=some x->(x,NameKind.free) ∈ scope.names->X.N[i]?=some x)
  (hN2:∀ x ∈ N'.drop k,scope.names.lookup x≠some .local)
  (hs:∀ x,foldedSetIterable iter X.env x=pure x:=by intro _; rfl) :
  PE X (.ListComp elt [⟨tg,iter,ifs,0⟩] scope pos) (tLC wi k g tc te):=by
 intro pins s σ H Q I h
 have hfr:∀ y ∈ scope.names,y.2=.free->X.env.kindOf y.1=some .cell∨X.env.kindOf y.1=some .free:=fun y hy hf=>by
  show X.env.scope.names.lookup y.1=_∨X.env.scope.names.lookup y.1=_
  rw[hsc]; exact hfr' y hy hf
 have hcells:∀ y ∈ scope.names,y.2=.free->∃ c,X.env.cells.lookup y.1=some c:=fun y hy hf=>I.ok.has y.1 (hfr y hy hf)
 have hclos:=eG scope X.env hcells
 rw[eval_ListComp]
 refine wpAny_comprehension_free (use:=none) rfl hs hclos hk hnames (thn (hi pins s σ H _ I h) fun v s1 h1=>thn h1 fun itv s2 h2=>?_)
 obtain⟨it,fp,tn,J,H2,e,I2,T,st2,f2,R⟩:=h2
 subst e
 refine wpAny_newObj_type ?_
 have hD:H2 s2.heap.objs.size=none:=I2.hok.fresh (Nat.le_refl _)
 obtain⟨W,⟨m0,w0⟩,turn⟩:=R _ hD
 generalize eD:s2.heap.objs.size=D at *
 have I3:Inv X pins σ (upd H2 D (.lst [])) { s2 with heap:=s2.heap.push { cls:=.type "list",dict:=none,data:=.seq ([]:List Value).toArray } } :=
  I2.laid (a:=D) (o:=.lst []) (t':=s2.toks) (fun b u e=>Heap.get?_push_of_some _ e) (Nat.le_of_eq eD) ⟨Nat.zero_le _,[],0,.nil,by rw[<- eD]; exact Heap.get?_push_size _ rfl⟩
 generalize e3:({ s2 with heap:=s2.heap.push { cls:=.type "list",dict:=none,data:=.seq ([]:List Value).toArray } }:Shared)=s3 at *
 have st3:tn 0 s3.heap:=T.keep _ _ _ st2 fun b _ o e=>by rw[<- e3]; exact Heap.get?_push_of_some _ e
 have lt2:∀ b ∈ fp,b<s2.heap.objs.size:=fun b hb=>by
  obtain⟨o,e,_⟩:=T.obj _ _ st2 b hb
  exact Heap.lt_size e
 have neD:∀ b ∈ fp,b≠D:=fun b hb=>by
  have:=lt2 b hb
  rw[eD] at this
  exact Nat.ne_of_lt this
 have f3:∀ b ∈ fp,ck X pins (upd H2 D (.lst [])) b:=fun b hb=>⟨by rw[av (neD b hb)]; exact(f2 b hb).1,(f2 b hb).2⟩
 generalize upd H2 D (.lst [])=H3 at *
 refine wpAny_newFunctionEnv hcell (by intro y hy; simp at hy) (fun h₁ hns₁ hsb₁=>?_) hk
 try dsimp only at hns₁ hsb₁ ⊢
 have lt3:∀ b ∈ fp,b<s3.heap.objs.size:=fun b hb=>by
  obtain⟨o,e,_⟩:=T.obj _ _ st3 b hb
  exact Heap.lt_size e
 generalize eC:s3.heap.objs.size=C at *
 have kp:∀ b o,s3.heap.get? b=some o->h₁.get? b=some o:=fun b o e=>(hsb₁.2 b (by rw[<- eC]; exact Nat.ne_of_lt (Heap.lt_size e))).trans (Heap.get?_push_of_some _ e)
 have subC:∀ x c,(cj X.env.cells scope.names []).lookup x=some c->X.env.cells.lookup x=some c:=fun x c e=>cQ scope.names [] hcells (fun y d z=>by simp at z) e
 have hCnone:H3 C=none:=I3.hok.fresh (Nat.le_of_eq eC)
 have ok':(blk X scope N' C s3 H3 fp pins).Ok:={
  mod:=I3.ok.mod
  kind:=hk
  glob:=I3.ok.glob
  blt:=I3.ok.blt
  above:=Nat.le_of_eq eC
  inj:=fun x y c a b=>I3.ok.inj x y c (subC x c a) (subC y c b)
  has:=fun x hx=>bX scope.names [] (bL scope.names hcell hx)
  cab:=fun x c a _=>absurd a Bool.false_ne_true
  hd:=I3.ok.hd
  frames:=I3.ok.frames
  stk:=.inl rfl
  exf:=fun b hb=>⟨by have:=lt3 b hb; exact Nat.ne_of_lt this,fun x c e=>(f3 b hb).2.2.2.2.1 x c (subC x c e)⟩
  bs:=I3.bs
  bsz:=Nat.le_trans I3.ok.bsz I3.sz
  noex:=fun b o e hb=>by
   rcases (f3 b hb).2.2.2.1 with z | z
   ·exact I3.ok.noex b o e z
   ·exact absurd (Nat.lt_of_lt_of_le (Heap.lt_size e) (Nat.le_trans I3.ok.bsz z)) (Nat.lt_irrefl _)
  exfs:=fun b hb z=>by
   rcases mem_cons.mp (I3.stkSub b z) with e | e
   ·exact(f3 b hb).2.1 e
   ·exact(f3 b hb).2.2.1 e
  funs:=I3.stack
  frf:=I3.stkFree }
 have s4os:({ s3 with heap:=h₁,toks:=s3.toks+([]:List (Str×Value)).length }:Shared).os=s3.os:=rfl
 generalize e4:({ s3 with heap:=h₁,toks:=s3.toks+([]:List (Str×Value)).length }:Shared)=s4 at *
 have h4:s4.heap=h₁:=by rw[<- e4]
 have J4:Inv (blk X scope N' C s3 H3 fp pins) [] (List.replicate k none++σ) H3 s4:=by
  refine⟨ok',s4os,by rw[<- e4]; exact I3.bare,?_,⟨_,by rw[h4]; exact hns₁,fun i x v e1 e2 e5=>?_⟩,fun x c e=>?_,hCnone,fun x c e=>I3.freeC x c (subC x c e),fun p hp=>?_,?_,?_⟩
  ·rw[h4]; exact Un.kept kp
  ·have hik:¬ i<k:=fun hlt=>by
    rw[getElem?_append_left (by rw[length_replicate]; exact hlt),List.getElem?_replicate] at e2
    split at e2 <;> cases e2
   obtain⟨j,rfl⟩:∃ j,i=j+k:=⟨i - k,by omega⟩
   have e2':σ[j]?=some (some v):=by
    rw[getElem?_append_right (by rw[length_replicate]; omega),length_replicate] at e2
    have:j+k - k=j:=by omega
    rw[this] at e2; exact e2
   have nl:(relabel scope X.env).names.lookup x≠some .local:=fun z=>by
    have q:∀ (l:List (Str×NameKind)),(l.map fun(n,k)=>if (k == NameKind.free && X.env.scope.kind == .function && X.env.kindOf n == some .cell) then(n,NameKind.cell) else(n,k)).lookup x=some .local->l.lookup x=some .local:=by
     intro l
     induction l with
     | nil=>intro z; simp at z
     | cons y l ih=>
      obtain⟨n,kk⟩:=y
      intro z
      by_cases hcc:(kk == NameKind.free && X.env.scope.kind == .function && X.env.kindOf n == some .cell)=true
      ·simp only[map_cons,if_pos hcc,lookup_cons] at z ⊢
       cases hx:x == n with
       | true=>simp only[hx] at z; cases z
       | false=>simp only[hx] at z ⊢; exact ih z
      ·simp only[map_cons,if_neg hcc,lookup_cons] at z ⊢
       cases hx:x == n with
       | true=>simp only[hx] at z ⊢; exact z
       | false=>simp only[hx] at z ⊢; exact ih z
    exact hN2 x (mem_of_getElem? (i:=j) (by rw[List.getElem?_drop,Nat.add_comm]; exact e1)) (q _ z)
   have hcf:(relabel scope X.env).names.lookup x=some .cell∨(relabel scope X.env).names.lookup x=some .free:=by
    rcases e5 with z | z | z
    ·exact absurd z nl
    ·exact .inl z
    ·exact .inr z
   have hmem:(x,NameKind.free) ∈ scope.names:=bL scope.names hcell hcf
   have hx:=hN j x e1 hmem
   obtain⟨mo,_,hl⟩:=I3.loc
   have hkx:=hfr (x,.free) hmem rfl
   obtain⟨u,ru,lk⟩:=hl j x v hx e2' (by
    rcases hkx with z | z
    ·exact .inr (.inl z)
    ·exact .inr (.inr z))
   refine⟨u,ru,.inr ⟨hcf,?_⟩⟩
   rcases lk with ⟨z,_⟩ | ⟨_,c,hc1,hc2⟩
   ·rcases hkx with q | q
    ·rw[q] at z; cases z
    ·rw[q] at z; cases z
   ·obtain⟨c',hc'⟩:=bX (cells:=X.env.cells) scope.names [] hmem
    have:=subC x c' hc'
    rw[hc1] at this; cases this
    obtain⟨oc,h5,h6⟩:=hc2
    exact⟨c,hc',oc,by rw[h4]; exact kp _ _ h5,h6⟩
  ·obtain⟨v,oc,h5,h6⟩:=I3.cell x c (subC x c e)
   exact⟨v,oc,by rw[h4]; exact kp _ _ h5,h6⟩
  ·have hp':p ∈ X.pn++pins:=by simpa using hp
   obtain⟨a1,a2,a3,a4,a5⟩:=I3.pin p hp'
   refine⟨by rw[h4]; exact kp _ _ a1,a2,?_,fun z=>?_,a5⟩
   ·have:=Heap.lt_size a1
    rw[eC] at this
    exact Nat.ne_of_lt this
   ·rcases mem_cons.mp (I3.stkSub p.1 z) with q | q
    ·exact a3 q
    ·exact a4 q
  ·rw[h4]; exact I3.hok.kept kp
  ·rw[length_append,length_replicate,I3.len]; exact hlen.symm
 have stat:∀ {H':Hp},(∀ b ∈ fp,H' b=none)->∀ b ∈ fp,ck (blk X scope N' C s3 H3 fp pins) [] H' b:=fun hn b hb=>
  ⟨hn b hb,(ok'.exf b hb).1,ok'.exfs b hb,.inl hb,fun x c e=>(ok'.exf b hb).2 x c e,fun p hp=>(f3 b hb).2.2.2.2.2 p (by simpa using hp)⟩
 have fr4:∀ b ∈ fp,H3 b=none:=fun b hb=>(f3 b hb).1
 have st4:tn 0 s4.heap:=T.keep _ _ _ st3 fun b _ o e=>by rw[h4]; exact kp _ _ e
 have loop:codeAny (model X.prog X.w) X.A (.compLoop (.ListComp elt [⟨tg,iter,ifs,0⟩] scope pos) 0 (.ref it) (.ref D) (compEnvC scope (cj X.env.cells scope.names []) C X.env))
   (compPost (model X.prog X.w) X.A X.xe none (EP X pins σ Q) (.ref D) C) s4:=by
  refine dk (fun n s'=>∃ i ys H',Inv (blk X scope N' C s3 H3 fp pins) [] (List.replicate k none++σ) H' s'/\tn i s'.heap/\(∀ b ∈ fp,H' b=none)/\W i n ys H') ?_ m0 ⟨0,[],H3,J4,st4,fr4,w0⟩
  rintro n s5 ⟨i,ys,H5,I5,st5,fr5,w5⟩
  obtain⟨hDl,stp⟩:=turn i n ys H5 w5
  rcases stp with ⟨stop,qn⟩ | ⟨go,step⟩
  ·refine thn (T.done (blk X scope N' C s3 H3 fp pins) rfl rfl rfl hc i [] s5 _ H5 (fun _ _=>False) I5 (stat fr5) st5 stop) fun r s6 ⟨hr,I6⟩=>?_
   subst hr
   obtain⟨m6,ns6,_⟩:=id I6.loc
   refine⟨m6,ns6,fun h' hsb=>⟨.ref D,H5,?_,U,qn⟩⟩
   have hC5:H5 C=none:=I6.free
   have un6:Un (frs X.stack) fp H3 H5 s3.heap s6.heap:=I6.base
   have neC:∀ b o,s3.heap.get? b=some o->b≠C:=fun b o e=>by
    have:=Heap.lt_size e
    rw[eC] at this
    exact Nat.ne_of_lt this
   refine I3.call' (s':={ s6 with heap:=h' }) (ch:=fp) I6.os ⟨fun b o e a1 a2 a3=>?_,fun b o e a1 a2 a3=>?_,un6.free,fun b o e a3=>?_,un6.tups,un6.frzs,un6.tbls⟩ ?_ I6.bare (fun b hb=>?_)
   ·exact(hsb.2 b (neC b o e)).trans (un6.keep b o e a1 a2 a3)
   ·obtain⟨sl,z⟩:=un6.slot b o e a1 a2 a3
    exact⟨sl,(hsb.2 b (neC b o e)).trans z⟩
   ·obtain⟨o',z⟩:=un6.there b o e a3
    exact⟨o',(hsb.2 b (neC b o e)).trans z⟩
   ·intro b u e
    refine(I6.hok b u e).stay (fun c w' hcc q=>(hsb.2 c ?_).trans q) (fun _ q=>q) fun _ _ q=>q
    rintro rfl
    rcases hcc with z | z
    ·rw[z,e] at hC5; cases hC5
    ·rw[z] at hC5; cases hC5
   ·exact⟨(f3 b hb).2.2.2.1,(f3 b hb).2.1,(f3 b hb).2.2.2.2.1,(f3 b hb).2.2.2.2.2⟩
  ·refine thn (T.item (blk X scope N' C s3 H3 fp pins) rfl rfl rfl hc i [] s5 _ H5 (fun _ _=>False) I5 (stat fr5) st5 go) fun r s6 z_=>z_.elim fun u z_=>z_.elim fun hr h6=>?_
   subst hr
   refine thn h6 fun _ s7 z_=>z_.elim fun x z_=>z_.elim fun H7 z_=>z_.elim fun I7 z_=>z_.elim fun r7 z_=>z_.elim fun y7 z_=>z_.elim fun st7 fr7=>?_
   have I7':=I7.pinned (stat fr7) (T.obj _ _ st7)
   refine thn (hg C s3 H3 fp pins _ s7 _ H7 x u _ I7' r7 (step x H7 y7)) fun _ s8 z_=>z_.elim fun σ8 z_=>z_.elim fun H8 z_=>z_.elim fun I8 z_=>z_.elim fun d8 q8=>?_
   refine thn (ht C s3 H3 fp pins _ s8 σ8 H8 _ I8 q8) fun b s9 z_=>z_.elim fun H9 z_=>z_.elim fun I9 q9=>?_
   have kz:∀ (j:Nat) v,(List.replicate k none++σ)[j]?=some (some v)->σ8[j]?=some (some v):=fun j v e=>by
    have hik:¬ j<k:=fun hlt=>by
     rw[getElem?_append_left (by rw[length_replicate]; exact hlt),List.getElem?_replicate] at e
     split at e <;> cases e
    rw[getElem?_append_right (by rw[length_replicate]; omega),length_replicate,<- d8,List.getElem?_drop] at e
    have:k+(j - k)=j:=by omega
    rw[this] at e; exact e
   have again:∀ {Hz:Hp}{sz:Shared}{zs:List V}{m':Nat},Inv (blk X scope N' C s3 H3 fp pins) ([]++cU fp s7.heap) σ8 Hz sz->m'<n->W (i+1) m' zs Hz ->
     ∃ m,m<n/\∃ i ys H',Inv (blk X scope N' C s3 H3 fp pins) [] (List.replicate k none++σ) H' sz/\tn i sz.heap/\(∀ b ∈ fp,H' b=none)/\W i m ys H':=fun {Hz sz zs m'} Iz hm wz=>by
    refine⟨m',hm,i+1,zs,Hz,(Iz.unpinned).weak ?_ kz,T.keep _ _ _ st7 fun b hb o e=>(Iz.pin (b,o) (mem_append_right _ (mem_append_right _ (bu hb e)))).1,fun b hb=>?_,wz⟩
    ·rw[Iz.len]; exact I5.len
    ·obtain⟨o,e,d⟩:=T.obj _ _ st7 b hb
     exact(Iz.pin (b,o) (mem_append_right _ (mem_append_right _ (bu hb e)))).2.1
   cases b with
   | false=>
    obtain⟨m',hm,w9⟩:=(show ∃ m',m'<n/\W (i+1) m' ys H9 by simpa using q9)
    rw[if_neg Bool.false_ne_true]
    exact again I9 hm w9
   | true=>
    rw[if_pos rfl] at q9 ⊢
    refine thn (he C s3 H3 fp pins _ s9 σ8 H9 _ I9 q9) fun u9 s10 z_=>z_.elim fun y z_=>z_.elim fun H10 z_=>z_.elim fun I10 z_=>z_.elim fun r10 z_=>z_.elim fun hz z_=>z_.elim fun hD10 z_=>z_.elim fun m' z_=>z_.elim fun hm w10=>?_
    refine thn (aT (X:=blk X scope N' C s3 H3 fp pins) _ s10 σ8 H10 (.ref D) [y] (.ref D) [u9] (fun _ H'=>H'=upd H10 D (.lst (ys++[y]))) I10 rfl (.cons r10 .nil) ⟨D,ys,y,U,U,hD10,hz,U⟩) fun _ s11 z_=>z_.elim fun _ z_=>z_.elim fun H11 z_=>z_.elim fun I11 z_=>z_.elim fun _ e11=>?_
    subst e11
    exact again I11 hm w10
 exact codeAny_compStart_list loop (T.self _ 0 _ _ _ st4 loop)
end
section
variable {X:Cx}{pins:List (Addr×Obj)}{σ:St}{H:Hp}{s:Shared}{h':Heap}
theorem Inv.turnedL {t':Nat}{fp:List Addr} (I:Inv X pins σ H s) (k:∀ b o,b ∉ fp->s.heap.get? b=some o->h'.get? b=some o) (hf:∀ b ∈ fp,ck X pins H b):Inv X pins σ H { s with heap:=h',toks:=t' }:=by
 have nit:∀ b u,H b=some u->b ∉ fp:=fun b u e z=>by rw[(hf b z).1] at e; cases e
 refine I.step (g':=s.gens) (d':=s.drawn) (ch:=fp) (fun b hb=>⟨(hf b hb).2.2.2.1,(hf b hb).2.1,(hf b hb).2.2.2.2.1,(hf b hb).2.2.2.2.2⟩) (fun b o _ _ hc e _=>k b o hc e) (fun b o _ _ hc e _=>⟨o.slots,k b o hc e⟩) (fun _ _ _ _ n=>n)
  (fun b o hc e=>⟨o,k b o hc e⟩) (fun _ _ e=>e) (fun _ _ _ e=>e) (fun b ps e=>⟨#[],by rw[e]; simp⟩) (fun m hm=>?_) (fun b u e=>?_) I.bare
 ·obtain⟨o,es,ep,ho,r⟩:=hm
  exact⟨o,es,ep,k _ o (fun z=>(hf _ z).2.1 rfl) ho,r⟩
 ·refine(I.hok b u e).stay (fun c v hc q=>k c v ?_ q) (fun _ q=>q) fun _ _ q=>q
  rcases hc with z | z
  ·rw[z]; exact nit b u e
  ·exact nit c _ z
theorem Inv.track {p:Addr}{o:HO} (I:Inv X pins σ H s) (hp:X.s₀.heap.objs.size<=p) (hL:p≠X.env.locals) (hc:∀ x c,X.env.cells.lookup x=some c->c≠p) (hpin:∀ q ∈ X.pn++pins,q.1≠p) (hn:H p=none)
  (new:ObjOk X.prog X.w (upd H p o) s.heap p o):Inv X pins σ (upd H p o) s:=by
 refine⟨I.ok,I.os,I.bare,⟨I.base.keep,I.base.slot,fun b ob e n hx=>?_,I.base.there,fun b xs e=>?_,fun b ob u e=>?_,fun b ps e=>?_⟩,I.loc,I.cell,by rw[av (Ne.symm hL)]; exact I.free,fun x c e=>by rw[av (hc x c e)]; exact I.freeC x c e,fun q hq=>?_,fun b u e=>?_,I.len⟩
 ·rw[av (Nat.ne_of_lt (Nat.lt_of_lt_of_le (Heap.lt_size e) hp))]; exact I.base.free b ob e n hx
 ·have:=I.base.tups b xs e
  rw[av (aY this hn)]; exact this
 ·have:=I.base.frzs b ob u e
  rw[av (aY this hn)]; exact this
 ·obtain⟨more,e2⟩:=I.base.tbls b ps e
  exact⟨more,by rw[av (aY e2 hn)]; exact e2⟩
 ·obtain⟨a1,a2,a3,a4,a5⟩:=I.pin q hq
  exact⟨a1,by rw[av (hpin q hq)]; exact a2,a3,a4,a5⟩
 ·by_cases hb:b=p
  ·subst hb; rw[bw] at e; cases e; exact new
  ·rw[av hb] at e
   exact(I.hok b u e).stay (fun _ _ _ q=>q) (fun c q=>by rw[av (aY q hn)]; exact q) fun c xs q=>by rw[av (aY q hn)]; exact q
end
noncomputable def Itz (K:PySem.W.Frag) (a b:Addr):It :=
 ⟨fun i H=>∃ xs x ys y,SqL K H a xs/\xs[i]?=some x/\SqL K H b ys/\ys[i]?=some y,
  fun i H v H'=>∃ p x y,v=.ref p/\H p=none/\H'=upd H p (.tup [x,y])/\(∀ xs,SqL K H a xs->xs[i]?=some x)/\∀ ys,SqL K H b ys->ys[i]?=some y,
  fun i H=>∃ xs ys,SqL K H a xs/\SqL K H b ys/\(xs.length<=i∨ys.length<=i)⟩
theorem jz {P:Program}{w:World}{K:PySem.W.Frag}{es:List Expr} {x1} {pos:Pos} (a b z TI TO i1 i2:Addr):Turn P w K (.Tuple es x1 pos) (Itz K a b) [z,TI,TO,i1,i2] z
  (fun i h=>IsZip h z TI TO .none/\IsPair h TI (.ref i1) (.ref i2)/\(∃ u v,IsPair h TO u v)/\h.IsListIter i1 a i/\h.IsListIter i2 b i/\TI≠TO/\i1≠i2) where
 mem:=by simp
 obj:=fun i h ⟨hz,hTI,⟨u,v,hTO⟩,h1,h2,_⟩ c hc=>by
  simp only[mem_cons,not_mem_nil,or_false] at hc
  rcases hc with rfl | rfl | rfl | rfl | rfl
  ·exact⟨_,hz,fun v q=>by cases (show Data.fields _=Data.cell v from q)⟩
  ·exact⟨_,hTI,fun v q=>by cases (show Data.seq _ _=Data.cell v from q)⟩
  ·exact⟨_,hTO,fun v q=>by cases (show Data.seq _ _=Data.cell v from q)⟩
  ·obtain⟨o,e,_,d⟩:=h1
   exact⟨o,e,fun v q=>by rw[d] at q; cases q⟩
  ·obtain⟨o,e,_,d⟩:=h2
   exact⟨o,e,fun v q=>by rw[d] at q; cases q⟩
 keep:=fun i h h' ⟨hz,hTI,⟨u,v,hTO⟩,h1,h2,n1,n2⟩ k=>⟨k z (by simp) _ hz,k TI (by simp) _ hTI,⟨u,v,k TO (by simp) _ hTO⟩,h1.at fun o e=>k i1 (by simp) o e,h2.at fun o e=>k i2 (by simp) o e,n1,n2⟩
 item:=by
  intro X hP hw hK hc i pins s σ H E I hf ⟨hz,hTI,⟨u,v,hTO⟩,h1,h2,n1,n2⟩ hg
  subst hP hw hK
  obtain⟨xs,x,ys,y,hqa,hx,hqb,hy⟩:=hg
  obtain⟨its,rv,p,hsz⟩:=I.list hqa
  obtain⟨jts,rw',p',hsz'⟩:=I.list hqb
  obtain⟨ux,hux,rux⟩:=rv.get hx
  obtain⟨uy,huy,ruy⟩:=rw'.get hy
  have D:ZipApart z TI TO i1 i2 a b:=by
   obtain⟨oa,ea,ca,_,_⟩:=p.isList
   obtain⟨ob,eb,cb,_,_⟩:=p'.isList
   obtain⟨o1,e1,c1,_⟩:=h1
   obtain⟨o2,e2,c2,_⟩:=h2
   have dz:∀ {c:Addr}{o:Obj}{T:String},s.heap.get? c=some o->o.cls=.type T->T ≠ "zip" -> c≠z:=fun e q n r=>by
    rw[r,hz] at e; cases e; cases q; exact n rfl
   have dT:∀ {c d:Addr}{o q:Obj}{T U:String},s.heap.get? c=some o->o.cls=.type T->s.heap.get? d=some q->q.cls=.type U->T≠U->c≠d:=fun e1 c1 e2 c2 n r=>by
    subst r; rw[e1] at e2; cases e2; rw[c1] at c2; cases c2; exact n rfl
   exact⟨dz hTI rfl (by decide),dz hTO rfl (by decide),dz e1 c1 (by decide),dz e2 c2 (by decide),n1,dT hTI rfl e1 c1 (by decide),dT hTI rfl e2 c2 (by decide),dT hTO rfl e1 c1 (by decide),dT hTO rfl e2 c2 (by decide),n2,
    dz ea ca (by decide),dT ea ca hTO rfl (by decide),dT ea ca e1 c1 (by decide),dT ea ca e2 c2 (by decide),dz eb cb (by decide),dT eb cb hTO rfl (by decide),dT eb cb e1 c1 (by decide),dT eb cb e2 c2 (by decide)⟩
  refine wpAny_pyNext_zip_item D hz hTI hTO h1 h2 p.isList p'.isList (x:=ux) (y:=uy) (by simpa using hux) (by simpa using huy) fun h' a1 a2 a3 a4 a5 a6 hk=>?_
  refine⟨_,O,?_⟩
  refine wpAny_letOwnedTupleGo_zip (s:={ s with heap:=h' }) a1 fun h2' hz' hs'=>?_
  have lt:∀ b ∈ [z,TI,TO,i1,i2],b<s.heap.objs.size:=fun c hcm=>by
   simp only[mem_cons,not_mem_nil,or_false] at hcm
   rcases hcm with rfl | rfl | rfl | rfl | rfl
   ·exact Heap.lt_size hz
   ·exact Heap.lt_size hTI
   ·exact Heap.lt_size hTO
   ·obtain⟨o,e,_⟩:=h1; exact Heap.lt_size e
   ·obtain⟨o,e,_⟩:=h2; exact Heap.lt_size e
  have hTI2:IsPair h2' TI (.ref i1) (.ref i2):=hs'.extBut _ _ D.TIz (hk _ _ D.TIz D.TITO D.TIi1 D.TIi2 hTI)
  have hTO2:IsPair h2' TO ux uy:=hs'.extBut _ _ D.TOz a2
  have h12:h2'.IsListIter i1 a (i+1):=a3.extBut hs'.extBut D.i1z
  have h22:h2'.IsListIter i2 b (i+1):=a4.extBut hs'.extBut D.i2z
  have pz:s.heap.objs.size≠z:=Nat.ne_of_gt (Heap.lt_size hz)
  have hp2:IsPair h2' s.heap.objs.size ux uy:=hs'.extBut _ _ pz a5
  have kk:∀ c o,c ∉ [z,TI,TO,i1,i2]->s.heap.get? c=some o->h2'.get? c=some o:=fun c o hcm e=>by
   simp only[mem_cons,not_mem_nil,or_false,not_or] at hcm
   exact hs'.extBut _ _ hcm.1 (hk c o hcm.1 hcm.2.2.1 hcm.2.2.2.1 hcm.2.2.2.2 e)
  have I1:Inv X pins σ H { s with heap:=h2',toks:=s.toks }:=I.turnedL kk hf
  have fP:ck X pins H s.heap.objs.size:=I.fpOk (Nat.le_refl _) (I.hok.fresh (Nat.le_refl _))
  have I2:Inv X pins σ (upd H s.heap.objs.size (.tup [x,y])) { s with heap:=h2',toks:=s.toks }:=by
   refine I1.track I.sz (fP.2.1) fP.2.2.2.2.1 fP.2.2.2.2.2 fP.1 ?_
   exact⟨(show 2<=sizeLine by decide),[ux,uy],.cons rux (.cons ruy .nil),⟨_,hp2,O,_,O⟩⟩
  refine⟨.ref s.heap.objs.size,_,I2,O,⟨_,x,y,O,fP.1,O,fun zs hzs=>by rw[I.list_inj hzs hqa]; exact hx,fun zs hzs=>by rw[I.list_inj hzs hqb]; exact hy⟩,⟨hz',hTI2,⟨_,_,hTO2⟩,h12,h22,n1,n2⟩,fun c hcm=>?_⟩
  rw[av (Nat.ne_of_lt (lt c hcm))]
  exact(hf c hcm).1
 done:=by
  intro X hP hw hK hc i pins s σ H E I hf ⟨hz,hTI,⟨u,v,hTO⟩,h1,h2,n1,n2⟩ hg
  subst hP hw hK
  obtain⟨xs,ys,hqa,hqb,hend⟩:=hg
  obtain⟨its,rv,p,hsz⟩:=I.list hqa
  obtain⟨jts,rw',p',hsz'⟩:=I.list hqb
  have D:ZipApart z TI TO i1 i2 a b:=by
   obtain⟨oa,ea,ca,_,_⟩:=p.isList
   obtain⟨ob,eb,cb,_,_⟩:=p'.isList
   obtain⟨o1,e1,c1,_⟩:=h1
   obtain⟨o2,e2,c2,_⟩:=h2
   have dz:∀ {c:Addr}{o:Obj}{T:String},s.heap.get? c=some o->o.cls=.type T->T ≠ "zip" -> c≠z:=fun e q n r=>by
    rw[r,hz] at e; cases e; cases q; exact n rfl
   have dT:∀ {c d:Addr}{o q:Obj}{T U:String},s.heap.get? c=some o->o.cls=.type T->s.heap.get? d=some q->q.cls=.type U->T≠U->c≠d:=fun e1 c1 e2 c2 n r=>by
    subst r; rw[e1] at e2; cases e2; rw[c1] at c2; cases c2; exact n rfl
   exact⟨dz hTI rfl (by decide),dz hTO rfl (by decide),dz e1 c1 (by decide),dz e2 c2 (by decide),n1,dT hTI rfl e1 c1 (by decide),dT hTI rfl e2 c2 (by decide),dT hTO rfl e1 c1 (by decide),dT hTO rfl e2 c2 (by decide),n2,
    dz ea ca (by decide),dT ea ca hTO rfl (by decide),dT ea ca e1 c1 (by decide),dT ea ca e2 c2 (by decide),dz eb cb (by decide),dT eb cb hTO rfl (by decide),dT eb cb e1 c1 (by decide),dT eb cb e2 c2 (by decide)⟩
  have e1:=rv.length
  have e2:=rw'.length
  refine wpAny_pyNext_zip_end (I.ok.hd hc) D hz hTI hTO h1 h2 p.isList p'.isList (k1:=i) (k2:=i) (by
   rcases hend with h | h
   ·left; simp; omega
   ·right; simp; omega) fun h' hk=>⟨O,?_⟩
  exact I.turnedL (t':=s.toks) (fun c o hcm e=>by
   simp only[mem_cons,not_mem_nil,or_false,not_or] at hcm
   exact hk c o hcm.1 hcm.2.2.1 hcm.2.2.2.1 hcm.2.2.2.2 e) hf
 self:=fun _ _ _ _ _ st h=>wpAny_pyIter_zip st.1 h
section
variable {X:Cx}
noncomputable def iZip (K:PySem.W.Frag) (ta:TA):TI:=fun σ H R=>ta σ H fun vs H1=>∃ a b,vs=[.ref a,.ref b]/\(∃ xs,SqL K H1 a xs)/\(∃ ys,SqL K H1 b ys)/\R (Itz K a b) H1
theorem j3 {es:List Expr} {x1} {tpos:Pos}{e1 e2:Expr}{ta:TA}{p pos:Pos} (hg:Gl X "zip") (hm:X.mg "zip" = none) (ha:PA X [e1,e2] ta) (hs:starEach [e1,e2] X.env=[(false,eval e1 X.env),(false,eval e2 X.env)]:=by rfl) (hs2:starEach [e2] X.env=[(false,eval e2 X.env)]:=by rfl) :
  PI X (.Tuple es x1 tpos) (.Call (.Name "zip" p) [e1,e2] [] pos) (iZip X.K ta):=by
 intro pins s σ H R I h
 refine Call_ (cy I hg hm (by rfl) (PyProof.Rows.callWith_type1 (thn (ha pos pins s σ H _ I h) fun us s1 z_=>z_.elim fun vs z_=>z_.elim fun H1 z_=>z_.elim fun I1 z_=>z_.elim fun r1 q1=>?_) (by rw[hs,hs2]) (by rw[hs2]; rfl)))
 obtain⟨a,b,rfl,⟨xs,hqa⟩,⟨ys,hqb⟩,q⟩:=q1
 obtain⟨u1,u2,rfl,ru1,ru2⟩:=ic r1
 cases (show u1=Value.ref a from ru1)
 cases (show u2=Value.ref b from ru2)
 obtain⟨its,rv,pa,hsz⟩:=I1.list hqa
 obtain⟨jts,rw',pb,hsz'⟩:=I1.list hqb
 refine call_zip_2 pa.isList pb.isList fun h' hz hTI hTO h1 h2 hsize hk=>?_
 refine wpAny_pyIter_zip (s:={ s1 with heap:=h' }) hz ?_
 refine⟨_,_,_,_,H1,U,I1.kept (t':=s1.toks) hk,jz a b (s1.heap.objs.size+4) (s1.heap.objs.size+2) (s1.heap.objs.size+3) s1.heap.objs.size (s1.heap.objs.size+1),⟨hz,hTI,⟨_,_,hTO⟩,h1,h2,(fun z=>by have:s1.heap.objs.size+2=s1.heap.objs.size+3:=z; omega),(fun z=>by have:s1.heap.objs.size=s1.heap.objs.size+1:=z; omega)⟩,fun c hc=>?_,q⟩
 have hge:s1.heap.objs.size<=c:=by
  simp only[mem_cons,not_mem_nil,or_false] at hc
  rcases hc with h | h | h | h | h <;> (rw[h]; omega)
 exact I1.fpOk hge (I1.hok.fresh hge)
end
noncomputable def Ite (K:PySem.W.Frag) (a:Addr):It :=
 ⟨fun i H=>∃ xs x,SqL K H a xs/\xs[i]?=some x,
  fun i H v H'=>∃ p x,v=.ref p/\H p=none/\H'=upd H p (.tup [.int i,x])/\∀ xs,SqL K H a xs->xs[i]?=some x,
  fun i H=>∃ xs,SqL K H a xs/\xs.length<=i⟩
theorem iR {P:Program}{w:World}{K:PySem.W.Frag}{es:List Expr} {x1} {pos:Pos} (a e it:Addr):Turn P w K (.Tuple es x1 pos) (Ite K a) [e,it] e
  (fun i h=>(∃ old,IsEnum h e it i old)/\h.IsListIter it a i) where
 mem:=by simp
 obj:=fun i h ⟨⟨old,he⟩,h1⟩ c hc=>by
  simp only[mem_cons,not_mem_nil,or_false] at hc
  rcases hc with rfl | rfl
  ·exact⟨_,he,fun v q=>by cases (show Data.fields _=Data.cell v from q)⟩
  ·obtain⟨o,e,_,d⟩:=h1
   exact⟨o,e,fun v q=>by rw[d] at q; cases q⟩
 keep:=fun i h h' ⟨⟨old,he⟩,h1⟩ k=>⟨⟨old,k e (by simp) _ he⟩,h1.at fun o q=>k it (by simp) o q⟩
 item:=by
  intro X hP hw hK hc i pins s σ H E I hf ⟨⟨old,he⟩,h1⟩ hg
  subst hP hw hK
  obtain⟨xs,x,hqa,hx⟩:=hg
  obtain⟨its,rv,p,hsz⟩:=I.list hqa
  obtain⟨ux,hux,rux⟩:=rv.get hx
  have hne:e≠it:=fun z=>by
   obtain⟨o1,e1,c1,_⟩:=h1
   rw[<- z,he] at e1; cases e1
   exact absurd (show Value.type "enumerate" = Value.type "list_iterator" from c1) (by decide)
  refine wpAny_pyNext_enum_item he h1 p.isList (x:=ux) (by simpa using hux) hne fun h' a1 a3 a5 a6 hk=>?_
  refine⟨_,U,?_⟩
  refine wpAny_letOwnedTupleGo_enum (s:={ s with heap:=h',toks:=s.toks+1 }) a1 fun h2' hz' hs'=>?_
  have lt:∀ b ∈ [e,it],b<s.heap.objs.size:=fun c hcm=>by
   simp only[mem_cons,not_mem_nil,or_false] at hcm
   rcases hcm with rfl | rfl
   ·exact Heap.lt_size he
   ·obtain⟨o,q,_⟩:=h1; exact Heap.lt_size q
  have h12:h2'.IsListIter it a (i+1):=a3.extBut hs'.extBut (Ne.symm hne)
  have pz:s.heap.objs.size≠e:=Nat.ne_of_gt (Heap.lt_size he)
  have hp2:h2'.get? s.heap.objs.size=some { cls:=.type "tuple",data:=.seq #[.int i s.toks,ux] }:=hs'.extBut _ _ pz a5
  have kk:∀ c o,c ∉ [e,it]->s.heap.get? c=some o->h2'.get? c=some o:=fun c o hcm q=>by
   simp only[mem_cons,not_mem_nil,or_false,not_or] at hcm
   exact hs'.extBut _ _ hcm.1 (hk c o hcm.1 hcm.2 q)
  have I1:Inv X pins σ H { s with heap:=h2',toks:=s.toks+1 }:=I.turnedL kk hf
  have fP:ck X pins H s.heap.objs.size:=I.fpOk (Nat.le_refl _) (I.hok.fresh (Nat.le_refl _))
  have I2:Inv X pins σ (upd H s.heap.objs.size (.tup [.int i,x])) { s with heap:=h2',toks:=s.toks+1 }:=by
   refine I1.track I.sz (fP.2.1) fP.2.2.2.2.1 fP.2.2.2.2.2 fP.1 ?_
   exact⟨(show 2<=sizeLine by decide),[.int i s.toks,ux],.cons ⟨_,U⟩ (.cons rux .nil),⟨_,hp2,U,_,U⟩⟩
  refine⟨.ref s.heap.objs.size,_,I2,U,⟨_,x,U,fP.1,U,fun zs hzs=>by rw[I.list_inj hzs hqa]; exact hx⟩,⟨⟨_,hz'⟩,h12⟩,fun c hcm=>?_⟩
  rw[av (Nat.ne_of_lt (lt c hcm))]
  exact(hf c hcm).1
 done:=by
  intro X hP hw hK hc i pins s σ H E I hf ⟨⟨old,he⟩,h1⟩ hg
  subst hP hw hK
  obtain⟨xs,hqa,hend⟩:=hg
  obtain⟨its,rv,p,hsz⟩:=I.list hqa
  have e1:=rv.length
  refine wpAny_pyNext_enum_end (I.ok.hd hc) he h1 p.isList (i:=i) (by simp; omega) fun h' hk=>⟨U,?_⟩
  exact I.turnedL (t':=s.toks) (fun c o hcm q=>by
   simp only[mem_cons,not_mem_nil,or_false,not_or] at hcm
   exact hk c o hcm.2 q) hf
 self:=fun _ _ _ _ _ ⟨⟨_,st⟩,_⟩ h=>wpAny_pyIter_enum st h
section
variable {X:Cx}
noncomputable def iEnum (K:PySem.W.Frag) (ta:TA):TI:=fun σ H R=>ta σ H fun vs H1=>∃ a,vs=[.ref a]/\(∃ xs,SqL K H1 a xs)/\R (Ite K a) H1
theorem fQ {es:List Expr} {x1} {tpos:Pos}{e1:Expr}{ta:TA}{p pos:Pos} (hg:Gl X "enumerate") (hm:X.mg "enumerate" = none) (ha:PA X [e1] ta) (hs:starEach [e1] X.env=[(false,eval e1 X.env)]:=by rfl) :
  PI X (.Tuple es x1 tpos) (.Call (.Name "enumerate" p) [e1] [] pos) (iEnum X.K ta):=by
 intro pins s σ H R I h
 refine Call_ (cy I hg hm (by rfl) (PyProof.Rows.callWith_type1 (thn (ha pos pins s σ H _ I h) fun us s1 z_=>z_.elim fun vs z_=>z_.elim fun H1 z_=>z_.elim fun I1 z_=>z_.elim fun r1 q1=>?_) hs rfl))
 obtain⟨a,rfl,⟨xs,hqa⟩,q⟩:=q1
 obtain⟨u1,rfl,ru1⟩:=c7 r1
 cases (show u1=Value.ref a from ru1)
 obtain⟨its,rv,pa,hsz⟩:=I1.list hqa
 refine call_enumerate_list pa.isList fun h' hz h1 hsize hk=>?_
 refine wpAny_pyIter_enum (s:={ s1 with heap:=h' }) hz ?_
 refine⟨_,_,_,_,H1,U,I1.kept (t':=s1.toks) hk,iR a (s1.heap.objs.size+1) s1.heap.objs.size,⟨⟨_,hz⟩,h1⟩,fun c hc=>?_,q⟩
 have hge:s1.heap.objs.size<=c:=by
  simp only[mem_cons,not_mem_nil,or_false] at hc
  rcases hc with h | h <;> (rw[h]; omega)
 exact I1.fpOk hge (I1.hok.fresh hge)
end
theorem cu {P:Nat->Value->Prop}{acc:List Value}{xs:List V} (hl:acc.length=xs.length) (h:∀ (j:Nat) (v:Value),acc[j]?=some v->P j v) (hP:∀ (j:Nat) v x,P j v->xs[j]?=some x->RelV x v):Vals xs acc:=by
 induction xs generalizing acc P with
 | nil=>
  cases acc with
  | nil=>exact .nil
  | cons _ _=>simp at hl
 | cons x xs ih=>
  cases acc with
  | nil=>simp at hl
  | cons u acc=>
   refine .cons (hP 0 u x (h 0 u rfl) rfl) (ih (P:=fun j=>P (j+1)) (by simpa using hl) (fun j v e=>h (j+1) v (by simpa using e)) fun j v y p e=>hP (j+1) v y p (by simpa using e))
section
variable {X:Cx}
theorem fY (hc:X.calm=true):cm X (.type "list") (fun xs H Q=>∃ p kvs,xs=[.ref p]/\Rd H p (.dK kvs)/\∀ l,H l=none->Q (.ref l) (upd H l (.lst (kvs.map fun kv=>kV kv.1)))):=by
 intro pins s σ H xs us Q I r h
 obtain⟨p,kvs,rfl,hp,q⟩:=h
 obtain⟨u,rfl,ru⟩:=c7 r
 cases (show u=Value.ref p from ru)
 obtain⟨z,hd,vs,rel,o,es,ep,g1,g2,g3,g4,g5,g6⟩:=eu I.hok hp
 refine PySem.W.kdl_call (PySem.W.kdl_dict (knd:=ba X.prog X.w) (kvs:=vs) (ep:=ep) hd) (I.ok.hd hc) ⟨o,es,g1,g2,g3,g4,g5,g6⟩ (by rw[<- rel.length]; exact z) fun h' tk acc c hk hS hi=>?_
 refine⟨.ref s.heap.objs.size,_,I.laid hk (Nat.le_refl _) ?_,U,q _ (I.hok.fresh (Nat.le_refl _))⟩
 refine⟨by rw[length_map]; exact z,acc.toList,c,cu (P:=fun i v=>∃ k x,vs[i]?=some (k,x)/\(ba X.prog X.w).is k v=true) (by rw[length_map,Array.length_toList,hi.1,rel.length]) (fun i v e=>hi.2 i v (by simpa using e)) (fun i v x ⟨k,y,e1,e2⟩ ex=>?_),by simpa using hS⟩
 have hk1:(kvs.map (·.1))[i]?=some k:=by
  have:=rel.keys
  rw[this,getElem?_map,e1]; rfl
 rw[getElem?_map] at ex hk1
 cases hkv:kvs[i]? with
 | none=>rw[hkv] at ex; cases ex
 | some kv=>
  rw[hkv] at ex hk1
  cases ex
  have:kv.1=k:=by simpa using hk1
  subst this
  rcases aV (k:=kv.1) (v:=v) e2 with ⟨i,t,e3,e4⟩ | ⟨x,t,e3,e4⟩
  ·show RelV (kV kv.1) v
   rw[e3,e4]; exact⟨t,U⟩
  ·show RelV (kV kv.1) v
   rw[e3,e4]; exact⟨t,U⟩
end
theorem d5 (k:Str):∀ D:List (Str×PyData),KTD.inKeys k (D.map fun p=>(p.1,KTD.Dat.flat p.2))=(D.any fun p=>decide (k=p.1))
 | []=>rfl
 | p::D=>by rw[map_cons,List.any_cons,KTD.inKeys,d5 k D]
section
variable {X:Cx}
noncomputable abbrev l7 (K:PySem.W.Frag) (a:Addr) (D:List (Str×PyData)):Prop:=KTD.tabLook KTD.flatLooks (fun b=>K.lookup b) a D=true
theorem f8 {pins:List (Addr×Obj)}{σ:St}{H:Hp}{s:Shared}{a:Addr}{D:List (Str×PyData)} (I:Inv X pins σ H s) (T:l7 X.K a D):KTD.Here s.heap s.heap a (D.map fun p=>(p.1,KTD.Dat.flat p.2)) :=
 ⟨(KTD.tab_of_look (fun _ _ x=>KTD.flat_of_looks x) (fun b o e=>I.kIn b o e) T).text,fun _ _ e=>e⟩
theorem fh:OpR X (compareOp .NotIn) (fun x y H Q=>∃ k a D,x=V.str k/\y=V.ref a/\l7 X.K a D/\Q (.bl (!(D.any fun p=>decide (k=p.1)))) H):=by
 intro pins s σ H x y v u Q I rx ry h
 obtain⟨k,a,D,rfl,rfl,T,q⟩:=h
 obtain⟨t,rfl⟩:=(show ∃ t,v=Value.str k t from rx)
 cases (show u=Value.ref a from ry)
 refine KTD.notin_text (f8 I T) ⟨.bl (!KTD.inKeys k (D.map fun(p:Str×PyData)=>(p.1,KTD.Dat.flat p.2))),H,I.tok _,U,?_⟩
 rw[d5]; exact q
theorem ix_K:IxR X (fun x y H Q=>∃ k a D i,x=V.ref a/\y=V.str k/\l7 X.K a D/\D.lookup k=some (PyData.int i)/\(D.all fun p=>match p.2 with | .int _=>true | _=>false)=true/\Q (.int i) H):=by
 intro value slice pins s σ H x y v u Q I rx ry h hs
 obtain⟨k,a,D,i,rfl,rfl,T,e,hp,q⟩:=h
 cases (show v=Value.ref a from rx)
 obtain⟨t,rfl⟩:=(show ∃ t,u=Value.str k t from ry)
 have e1:∀ D:List (Str×PyData),(D.all fun p=>match p.2 with | .int _=>true | _=>false)=true->((D.map fun p=>(p.1,KTD.Dat.flat p.2)).all fun p=>KTD.plain p.2)=true:=fun D hD=>by
  rw[List.all_map]
  refine List.all_eq_true.mpr fun p hp'=>?_
  have:=List.all_eq_true.mp hD p hp'
  cases hq:p.2 <;> simp[hq] at this <;> simp[Function.comp,hq,KTD.plain]
 have e2:∀ D:List (Str×PyData),KTD.datumAt k (D.map fun p=>(p.1,KTD.Dat.flat p.2))=(D.lookup k).map KTD.Dat.flat:=fun D=>by
  induction D with
  | nil=>rfl
  | cons p D ih=>
   obtain⟨x,d⟩:=p
   rw[map_cons,KTD.datumAt,lookup_cons,ih]
   by_cases hk:k=x
   ·subst hk; simp
   ·have:(k == x)=false:=beq_eq_false_iff_ne.mpr hk
    simp[hk,this]
 have hT:=f8 I T
 have hat:KTD.datumAt k (D.map fun p=>(p.1,KTD.Dat.flat p.2))=some (KTD.Dat.flat (.int i)):=by rw[e2 D,e]; rfl
 have hmem:KTD.inKeys k (D.map fun p=>(p.1,KTD.Dat.flat p.2))=true:=by rw[<- KTD.isSome_datumAt,hat]; rfl
 refine subscriptTail_builtin_flat hT.typeIs slot_dict_getitem.lookup ?_ hs
 unfold getItem
 try with_reducible refine wpAny_holding ?_
 refine wpAny_bind (wpAny_sequenceKey hT.typeIs (by decide) ?_)
 refine wpAny_bind (wpAny_callSpecial?_slot (name:=Str.ofString "__getitem__") hT.typeIs slot_dict_getitem
  (wpAny_call_entry slot_dict_getitem hT.typeIs entry_dict_getitem ?_ (args_dict_getitem _ _)))
 show wpAny _ _ (dictGet a (.str k t) >>= _) _ _ s
 refine wpAny_bind (KTD.dictGet_text hT (fun d v ha hv=>wpAny_pure ⟨v,U,wpAny_pure ⟨KTD.notRef_of_plain (KTD.plain_at (e1 D hp) ha) hv,?_⟩⟩) fun hn=>absurd hn (KTD.at_of_mem hmem))
 rw[hat] at ha
 cases ha
 obtain⟨t',rfl⟩:∃ t,v=Value.int i t:=by
  exact PyProof.V.Flat.int_inv (show PyProof.V.Flat v (PyData.int i) from hv)
 exact⟨.int i,H,I.tok _,⟨_,U⟩,q⟩
end
structure FunG (K:PySem.W.Frag) (x qual:Str) (st:Stmt) (dV:Value) (f:Addr) (fd:FuncData):Prop where
 ex:∃ (oc:Value) (od:Option Addr) (kV doc pm:Value) (an:Option Addr) (cdv ct:Value) (osl:Array (Option Value)),
  fd=W.fnOf x qual (bB st) (br st) (ai st) dV kV doc pm an cdv ct/\K.lookup f=some ⟨oc,od,.func fd,osl⟩/\W.codeIn K cdv qual=true
 kp:W.keepIn K (.ref f)=true
section
variable {P:Program}{w:World}{K:PySem.W.Frag}{mg:Str->Option Value}{base:Heap}
theorem FunG.ok {x qual:Str}{st:Stmt}{dV:Value}{f:Addr}{fd:FuncData}{N ps:List Str}{k:Nat}{sp:Sp} (F:FunG K x qual st dV f fd) (S:FnScope N ps (ai st)) (len:∀ vs H Q E,sp vs H Q E->vs.length=ps.length)
  (hbody:∀ (cdv:Value) (A:Around) (outer:List Env) (s:Shared) (H:Hp) (vs:List V) (Q:VK) (E:XK),Room k (A.deeper (envOfC qual (ai st) s.heap.objs.size f cdv))->sp vs H Q E ->
   ∃ t,PSs (js CX0 P w K mg base N qual (ai st) f cdv A outer s H E).nox (br st) t/\t { nx:=fun _ H'=>Q .non H',rt:=Q } (start N vs) H):FnOk P w K mg base CX0 (k+1) f fd ps sp:=by
 obtain⟨oc,od,kV,doc,pm,an,cdv,ct,osl,rfl,lk,hcd⟩:=F.ex
 refine fn_of lk hcd S len fun A outer s H vs Q E hr hsp=>?_
 obtain⟨t,h,q⟩:=hbody cdv A outer s H vs Q E hr hsp
 exact⟨t,h.nox,q⟩
theorem FunG.binds {x qual:Str}{st:Stmt}{dV:Value}{f:Addr}{fd:FuncData}{ps:List Str} (F:FunG K x qual st dV f fd)
  (h:∀ (kV doc pm:Value) (an:Option Addr) (cdv ct:Value) (us:List Value),us.length=ps.length->bindArgs (W.fnOf x qual (bB st) (br st) (ai st) dV kV doc pm an cdv ct) ⟨us,[]⟩=pure (ps.zip us)):Binds K fd ps []:=by
 obtain⟨oc,od,kV,doc,pm,an,cdv,ct,osl,rfl,lk,hcd⟩:=F.ex
 exact .all (h kV doc pm an cdv ct)
theorem funG_mk {x qual:Str}{st:Stmt}{f:Addr}{oc:Value}{od an:Option Addr}{osl:Array (Option Value)}{dV kV doc pm cdv ct:Value} (l:K.lookup f=some ⟨oc,od,.func (W.fnOf x qual (bB st) (br st) (ai st) dV kV doc pm an cdv ct),osl⟩)
  (c:W.codeIn K cdv qual=true) (k:W.keepIn K (.ref f)=true):FunG K x qual st dV f (W.fnOf x qual (bB st) (br st) (ai st) dV kV doc pm an cdv ct):=⟨⟨oc,od,kV,doc,pm,an,cdv,ct,osl,U,l,c⟩,k⟩
end
section
variable {X:Cx}{K:PySem.W.Frag}
theorem kA (hK:X.K=K):IxR X (pV K):=by subst hK; exact ay
end
end L2
namespace L2
theorem bY {σ:St}{H:Hp}{A B:Hp->Prop} (h:A H):mv σ H (fun b H3=>if b=true then A H3 else B H3):=(fT h:if true=true then A H else B H)
end L2
namespace L2
open PySem PySem.Spec PyProof.Rows
section
variable {X:Cx}{CX:CXT}{k:Nat}{f C:Addr}{fd:FuncData}{ps ks:List Str}{sp:Sp}{E:XK}{x m:Str}{p pos apos kpos:Pos}{e o:Expr}{es:List Expr}{kws:List Keyword}{te ta:TE}{t tk:TA}
 {g:List Value->List Value->List Value}{gV:List V->List V->List V}
noncomputable def nw (C:Addr) (m:Str) (sp:Sp) (gV:List V->List V->List V) (E:XK) (ta:TE) (t tk:TA):TE:=fun σ H Q=>ta σ H fun x H1=>∃ a dx fs,x=.ref a/\H1 a=some (.ins C dx fs)/\fs.lookup m=none /\
 t σ H1 fun vs H2=>tk σ H2 fun zs H3=>sp (gV (x::vs) zs) H3 Q E
theorem dQ {pl:Sem Bool} (he:PE X o ta) (c:Cls X.K C) (hm:Meth X.K C m f) (F:FnOk X.prog X.w X.K X.mg X.base CX k f fd ps sp) (hr:Room k X.A) (hb:KBinds X.K fd ps ks g gV) (hx:bV CX X E) (ha:PA X (e::es) t) (hkw:PK X kws tk)
  (hall:(backToKw pos (keywordEach kws X.env)).all (·.1.isSome)=true:=by rfl) (hks:(backToKw pos (keywordEach kws X.env)).filterMap (·.1)=ks:=by rfl)
  (hst:starEach (e::es) X.env=(false,eval e X.env)::starEach es X.env:=by rfl)
  (hpl:((backTo pos (starEach (e :: es) X.env)).any (·.1) || (backToKw pos (keywordEach kws X.env)).any (·.1.isNone)) = false:=by rfl)
  (ht:eval (.Call (.Attribute o m apos) (e::es) kws pos) X.env=(do
   let ov <- eval o X.env
   standAt apos.atName
   let (f,first) <- holding [ov] (getMethod ov m pl)
   callWith pos f first (backTo pos (starEach (e::es) X.env)) (backToKw pos (keywordEach kws X.env))):=by rfl) :
  PE X (.Call (.Attribute o m apos) (e::es) kws pos) (nw C m sp gV E ta t tk):=by
 intro pins s σ H Q I h
 refine PySem.W.methodCall_KW (pl:=pl) (thn (he pins s σ H _ I h) fun u s1 z_=>z_.elim fun x z_=>z_.elim fun H1 z_=>z_.elim fun I1 z_=>z_.elim fun rx z_=>z_.elim fun a z_=>z_.elim fun dx z_=>z_.elim fun fs z_=>z_.elim fun ex z_=>z_.elim fun ea z_=>z_.elim fun l q=>?_) ht
 subst ex
 obtain rfl:u=Value.ref a:=rx
 refine cz I1 ea c hm l ?_
 refine PySem.W.callWith_KW (first:=[.ref a]) (h₀:=X.base) I.ok.mod.kin hm.kp hall (thn (ha pos pins s1 σ H1 _ I1 q) fun us s2 z_=>z_.elim fun vs z_=>z_.elim fun H2 z_=>z_.elim fun I2 z_=>z_.elim fun r q2=>?_) hpl hst
 refine thn (hkw pos pins s2 σ H2 _ I2 q2) fun ws s3 z_=>z_.elim fun zs z_=>z_.elim fun H3 z_=>z_.elim fun I3 z_=>z_.elim fun rz q3=>⟨I3.kIn,?_⟩
 rw[hks]
 exact lD F hr hb hx I3 (us:=.ref a::us) (vs:=.ref a::vs) (.cons rfl r) rz q3
end
end L2
namespace L2
theorem ifJ {b:Bool}{A B:Prop} (hA:b=true->B->A) (g:B):if b=true then A else B:=by
 cases b
 ·exact cZ g
 ·exact fT (hA rfl g)
end L2
set_option Elab.async false
set_option linter.all false
set_option maxRecDepth 100000
namespace L2
open PySem PySem.Spec PyProof.Rows
section
variable {X:Cx}{o i e:Expr}{td ty:TE}{tpos pos apos cpos:Pos}
theorem iC:OpR X (binaryOp .Add) (fun x y H Q=>∃ a b xs ys,x=.ref a/\y=.ref b/\SqL X.K H a xs/\SqL X.K H b ys/\xs.length+ys.length<=sizeLine/\∀ l,H l=none->Q (.ref l) (upd H l (.lst (xs++ys)))):=by
 intro pins s σ H x y u v Q I rx ry h
 obtain⟨a,b,xs,ys,rfl,rfl,ha,hb,hz,q⟩:=h
 cases (show u=Value.ref a from rx)
 cases (show v=Value.ref b from ry)
 obtain⟨ia,ra,⟨⟨cls,dd,data,sl⟩,n,ho,hc,_,hd⟩,_⟩:=I.list ha
 obtain⟨ib,rb,⟨⟨cls2,dd2,data2,sl2⟩,n2,ho2,hc2,_,hd2⟩,_⟩:=I.list hb
 simp only at hc hd hc2 hd2
 subst hc hd hc2 hd2
 have e:ia.toArray++ib.toArray=(ia++ib).toArray:=by simp
 have e1:=ra.length
 have e2:=rb.length
 refine concat_meets ⟨_,ho,U⟩ ⟨_,ho2,U⟩ noFill_list_add seq_list_add PySem.F.slot_list_add PySem.F.entry_list_add (PySem.F.args_list_add_2 _ _) (list_addW a b ia.toArray ib.toArray n n2 dd dd2 sl sl2 (by simp; omega)) ⟨ho,ho2,?_⟩
 rw[e]
 refine⟨.ref s.heap.objs.size,_,I.laid (a:=s.heap.objs.size) (o:=.lst (xs++ys)) (t':=s.toks) (fun _ _ q=>Heap.get?_push_of_some _ q) (Nat.le_refl _) ⟨by simpa using hz,ia++ib,0,ra.append rb,Heap.get?_push_size _ rfl⟩,U,q _ (I.hok.fresh (Nat.le_refl _))⟩
theorem dO {h:Heap}:∀ {ns:List Int}{vs:List Value},Vals (ns.map V.int) vs->ReadsAll h vs (ns.map PyData.int) []
 | [],_,r=>by cases r; exact .nil
 | n::ns,_,r=>by
  cases r with
  | cons r1 r2=>
   obtain⟨t,rfl⟩:=r1
   exact .cons (as:=[]) (.int _ t) (dO r2)
theorem ff {pins:List (Addr×Obj)}{s:Shared}{σ:St}{H:Hp}{a:Addr}{ns:List Int} (I:Inv X pins σ H s) (h:H a=some (.tup (ns.map V.int))):Reads s.heap (.ref a) (.tuple (ns.map PyData.int)) []:=by
 obtain⟨_,its,r,o,h1,h2,n,h3⟩:=(show ObjOk X.prog X.w H s.heap a (.tup (ns.map V.int)) from I.hok a _ h)
 exact reads_tuple_at h1 h2 h3 (by simpa using dO r)
theorem dM (ns:List Int):SeqAt.shaped (.tuple (ns.map PyData.int))=true:=by
 simp[SeqAt.shaped,PyData.canLay0,PyData.depth,PySem.W.ke_canLayAll0,PySem.W.ke_depthAll]
theorem jP (ns ms:List Int):PySem.Spec.same (.tuple (ns.map PyData.int)) (.tuple (ms.map PyData.int))=decide (ns=ms):=by
 simp only[PySem.Spec.same]; exact PySem.W.ke_sameAll ns ms
noncomputable def rTup (neg:Bool):R2:=fun x y H Q=>∃ (a b:Addr) (ns ms:List Int),x=.ref a/\y=.ref b/\H a=some (.tup (ns.map V.int))/\H b=some (.tup (ms.map V.int))/\Q (.bl (if neg then !decide (ns=ms) else decide (ns=ms))) H
theorem ie (ns:List Int):(Shape.tuples .int).has (.tuple (ns.map PyData.int))=true:=by
 simp only[Shape.has]
 induction ns with
 | nil=>rfl
 | cons n ns ih=>simp[Shape.hasAll,Shape.has] at ih ⊢; try exact ih
theorem oj (hu:X.A.units+64<cLine):OpR X (compareOp .Eq) (rTup false):=by
 intro pins s σ H x y u v Q I rx ry h
 obtain⟨a,b,ns,ms,rfl,rfl,ha,hb,q⟩:=h
 cases (show u=Value.ref a from rx)
 cases (show v=Value.ref b from ry)
 exact eq_dataH_same (ff I ha) (ff I hb) (dM _) (dM _) hu (SeqAt.noMix_of_shape (.tuples .int) rfl _ _ (ie ns) (ie ms)) (by rw[jP]; exact aL I q (by simp))
end
theorem d9 {K:PySem.W.Frag}{a:Addr}{xs:List V}{g:TG}{tb:TS}{D:Ends}{σ:St}{H:Hp} (Pv:Nat->St->Hp->Prop) (h0:Pv 0 σ H) (hl:∀ i σ H,i<=xs.length->Pv i σ H->SqL K H a xs)
  (hs:∀ i x σ H p,xs[i]?=some x->Pv i σ H->H p=none->g (.ref p) σ (upd H p (.tup [.int i,x])) fun σ2 H2=>tb { D with nx:=Pv (i+1),ct:=Pv (i+1),bk:=D.nx } σ2 H2) (hd:∀ σ H,Pv xs.length σ H->D.nx σ H) :
  ∃ W:Nat->Nat->St->Hp->Prop,(∃ m,W 0 m σ H)/\∀ i m σ H,W i m σ H ->
   ((Ite K a).stop i H/\D.nx σ H)∨((Ite K a).go i H/\∃ N:St->Hp->Prop,(∀ σ' H',N σ' H'->∃ m',m'<m/\W (i+1) m' σ' H')/\∀ x H',(Ite K a).yld i H x H'->g x σ H' fun σ2 H2=>tb { D with nx:=N,ct:=N,bk:=D.nx } σ2 H2):=by
 refine⟨fun i m σ H=>m=xs.length - i/\i<=xs.length/\Pv i σ H,⟨xs.length,by simp,Nat.zero_le _,h0⟩,?_⟩
 rintro i m σ H ⟨rfl,hi,p⟩
 have hq:=hl i σ H hi p
 by_cases hlt:i<xs.length
 ·refine .inr ⟨⟨xs,xs[i],hq,getElem?_eq_getElem hlt⟩,Pv (i+1),fun σ' H' p'=>⟨xs.length - (i+1),by omega,U,hlt,p'⟩,fun x H' y=>?_⟩
  obtain⟨b,z,rfl,hb,rfl,hz⟩:=y
  exact hs i z σ H b (hz xs hq) p hb
 ·have e:i=xs.length:=by omega
  subst e
  exact .inl ⟨⟨xs,hq,Nat.le_refl _⟩,hd σ H p⟩
section
variable {X:Cx}
theorem fN {ix:Nat}{nm:Str}{pos' spos:Pos}{elt tg iter:Expr}{ifs:List Expr}{scope:Scope}{pos:Pos}{wi:TI}{k:Nat}{g:TG}{tc:TT}{te:TE} (hNd:X.N.Nodup) (hix:X.N[ix]?=some nm) (hLx:Loc X.env.scope nm) (N':List Str) (hc:X.calm=true) (hi:PI X tg iter wi)
  (hg:∀ C s₀ H₀ fp pins,PG (blk X scope N' C s₀ H₀ fp pins) tg g) (ht:∀ C s₀ H₀ fp pins,PTs (blk X scope N' C s₀ H₀ fp pins) ifs tc) (he:∀ C s₀ H₀ fp pins,PE (blk X scope N' C s₀ H₀ fp pins) elt te)
  (hk:scope.kind=.function) (hcell:∀ y ∈ scope.names,y.2≠.cell) (hnames:∀ y ∈ scope.names,y.2=.local->scope.names.lookup y.1=some .local)
  {esc:Scope} (hsc:X.env.scope=esc) (hfr':∀ y ∈ scope.names,y.2=.free->esc.names.lookup y.1=some .cell∨esc.names.lookup y.1=some .free)
  (hlen:N'.length=k+X.N.length)
  (hN:∀ (i:Nat) (x:Str),N'[i+k]?=some x->(x,NameKind.free) ∈ scope.names->X.N[i]?=some x)
  (hN2:∀ x ∈ N'.drop k,scope.names.lookup x≠some .local)
  (hs:∀ x,foldedSetIterable iter X.env x=pure x:=by intro _; rfl)
  (hsw:swapsWith (.ListComp elt [⟨tg,iter,ifs,0⟩] scope pos) (some (.Name nm pos')) spos.line X.env=pure true:=by rfl)
  (hf:X.fn nm=true∨X.env.scope.names.lookup nm=some .local:=by first | exact .inl rfl | exact .inr rfl | assumption) :
  PS X (.Assign [.Name nm pos'] (.ListComp elt [⟨tg,iter,ifs,0⟩] scope pos) spos) (lg (tLC wi k g tc te) (d7 ix)):=by
 intro pins s σ H Dn I h
 have hfr:∀ y ∈ scope.names,y.2=.free->X.env.kindOf y.1=some .cell∨X.env.kindOf y.1=some .free:=fun y hy hf=>by
  show X.env.scope.names.lookup y.1=_∨X.env.scope.names.lookup y.1=_
  rw[hsc]; exact hfr' y hy hf
 have hcells:∀ y ∈ scope.names,y.2=.free->∃ c,X.env.cells.lookup y.1=some c:=fun y hy hf=>I.ok.has y.1 (hfr y hy hf)
 have hclos:=eG scope X.env hcells
 rw[exec_Assign_Name_used _ _ _ _ hsw]
 refine wpAny_bind (wpAny_standAt (wpAny_bind ?_))
 show wpAny _ X.A (do let _ <- comprehension (.ListComp elt [⟨tg,iter,ifs,0⟩] scope pos) scope X.env _ (newList []) false (eval iter X.env) (some (assign (.Name nm pos') X.env))) _ _ s
 refine wpAny_bind (wpAny_mono (wpAny_comprehension_free (Q:=fun _ s'=>SP X pins Dn .next s') (use:=some (assign (.Name nm pos') X.env)) rfl hs hclos hk hnames ?_) (fun _ s' hq=>wpAny_pure (wpAny_pure hq)) fun _ _ e=>e)
 refine(thn (hi pins s σ H _ I h) fun v s1 h1=>thn h1 fun itv s2 h2=>?_)
 obtain⟨it,fp,tn,J,H2,e,I2,T,st2,f2,R⟩:=h2
 subst e
 refine wpAny_newObj_type ?_
 have hD:H2 s2.heap.objs.size=none:=I2.hok.fresh (Nat.le_refl _)
 obtain⟨W,⟨m0,w0⟩,turn⟩:=R _ hD
 generalize eD:s2.heap.objs.size=D at *
 have I3:Inv X pins σ (upd H2 D (.lst [])) { s2 with heap:=s2.heap.push { cls:=.type "list",dict:=none,data:=.seq ([]:List Value).toArray } } :=
  I2.laid (a:=D) (o:=.lst []) (t':=s2.toks) (fun b u e=>Heap.get?_push_of_some _ e) (Nat.le_of_eq eD) ⟨Nat.zero_le _,[],0,.nil,by rw[<- eD]; exact Heap.get?_push_size _ rfl⟩
 generalize e3:({ s2 with heap:=s2.heap.push { cls:=.type "list",dict:=none,data:=.seq ([]:List Value).toArray } }:Shared)=s3 at *
 have st3:tn 0 s3.heap:=T.keep _ _ _ st2 fun b _ o e=>by rw[<- e3]; exact Heap.get?_push_of_some _ e
 have lt2:∀ b ∈ fp,b<s2.heap.objs.size:=fun b hb=>by
  obtain⟨o,e,_⟩:=T.obj _ _ st2 b hb
  exact Heap.lt_size e
 have neD:∀ b ∈ fp,b≠D:=fun b hb=>by
  have:=lt2 b hb
  rw[eD] at this
  exact Nat.ne_of_lt this
 have f3:∀ b ∈ fp,ck X pins (upd H2 D (.lst [])) b:=fun b hb=>⟨by rw[av (neD b hb)]; exact(f2 b hb).1,(f2 b hb).2⟩
 generalize upd H2 D (.lst [])=H3 at *
 refine wpAny_newFunctionEnv hcell (by intro y hy; simp at hy) (fun h₁ hns₁ hsb₁=>?_) hk
 try dsimp only at hns₁ hsb₁ ⊢
 have lt3:∀ b ∈ fp,b<s3.heap.objs.size:=fun b hb=>by
  obtain⟨o,e,_⟩:=T.obj _ _ st3 b hb
  exact Heap.lt_size e
 generalize eC:s3.heap.objs.size=C at *
 have kp:∀ b o,s3.heap.get? b=some o->h₁.get? b=some o:=fun b o e=>(hsb₁.2 b (by rw[<- eC]; exact Nat.ne_of_lt (Heap.lt_size e))).trans (Heap.get?_push_of_some _ e)
 have subC:∀ x c,(cj X.env.cells scope.names []).lookup x=some c->X.env.cells.lookup x=some c:=fun x c e=>cQ scope.names [] hcells (fun y d z=>by simp at z) e
 have hCnone:H3 C=none:=I3.hok.fresh (Nat.le_of_eq eC)
 have ok':(blk X scope N' C s3 H3 fp pins).Ok:={
  mod:=I3.ok.mod
  kind:=hk
  glob:=I3.ok.glob
  blt:=I3.ok.blt
  above:=Nat.le_of_eq eC
  inj:=fun x y c a b=>I3.ok.inj x y c (subC x c a) (subC y c b)
  has:=fun x hx=>bX scope.names [] (bL scope.names hcell hx)
  cab:=fun x c a _=>absurd a Bool.false_ne_true
  hd:=I3.ok.hd
  frames:=I3.ok.frames
  stk:=.inl rfl
  exf:=fun b hb=>⟨by have:=lt3 b hb; exact Nat.ne_of_lt this,fun x c e=>(f3 b hb).2.2.2.2.1 x c (subC x c e)⟩
  bs:=I3.bs
  bsz:=Nat.le_trans I3.ok.bsz I3.sz
  noex:=fun b o e hb=>by
   rcases (f3 b hb).2.2.2.1 with z | z
   ·exact I3.ok.noex b o e z
   ·exact absurd (Nat.lt_of_lt_of_le (Heap.lt_size e) (Nat.le_trans I3.ok.bsz z)) (Nat.lt_irrefl _)
  exfs:=fun b hb z=>by
   rcases mem_cons.mp (I3.stkSub b z) with e | e
   ·exact(f3 b hb).2.1 e
   ·exact(f3 b hb).2.2.1 e
  funs:=I3.stack
  frf:=I3.stkFree }
 have s4os:({ s3 with heap:=h₁,toks:=s3.toks+([]:List (Str×Value)).length }:Shared).os=s3.os:=rfl
 generalize e4:({ s3 with heap:=h₁,toks:=s3.toks+([]:List (Str×Value)).length }:Shared)=s4 at *
 have h4:s4.heap=h₁:=by rw[<- e4]
 have J4:Inv (blk X scope N' C s3 H3 fp pins) [] (List.replicate k none++σ) H3 s4:=by
  refine⟨ok',s4os,by rw[<- e4]; exact I3.bare,?_,⟨_,by rw[h4]; exact hns₁,fun i x v e1 e2 e5=>?_⟩,fun x c e=>?_,hCnone,fun x c e=>I3.freeC x c (subC x c e),fun p hp=>?_,?_,?_⟩
  ·rw[h4]; exact Un.kept kp
  ·have hik:¬ i<k:=fun hlt=>by
    rw[getElem?_append_left (by rw[length_replicate]; exact hlt),List.getElem?_replicate] at e2
    split at e2 <;> cases e2
   obtain⟨j,rfl⟩:∃ j,i=j+k:=⟨i - k,by omega⟩
   have e2':σ[j]?=some (some v):=by
    rw[getElem?_append_right (by rw[length_replicate]; omega),length_replicate] at e2
    have:j+k - k=j:=by omega
    rw[this] at e2; exact e2
   have nl:(relabel scope X.env).names.lookup x≠some .local:=fun z=>by
    have q:∀ (l:List (Str×NameKind)),(l.map fun(n,k)=>if (k == NameKind.free && X.env.scope.kind == .function && X.env.kindOf n == some .cell) then(n,NameKind.cell) else(n,k)).lookup x=some .local->l.lookup x=some .local:=by
     intro l
     induction l with
     | nil=>intro z; simp at z
     | cons y l ih=>
      obtain⟨n,kk⟩:=y
      intro z
      by_cases hcc:(kk == NameKind.free && X.env.scope.kind == .function && X.env.kindOf n == some .cell)=true
      ·simp only[map_cons,if_pos hcc,lookup_cons] at z ⊢
       cases hx:x == n with
       | true=>simp only[hx] at z; cases z
       | false=>simp only[hx] at z ⊢; exact ih z
      ·simp only[map_cons,if_neg hcc,lookup_cons] at z ⊢
       cases hx:x == n with
       | true=>simp only[hx] at z ⊢; exact z
       | false=>simp only[hx] at z ⊢; exact ih z
    exact hN2 x (mem_of_getElem? (i:=j) (by rw[List.getElem?_drop,Nat.add_comm]; exact e1)) (q _ z)
   have hcf:(relabel scope X.env).names.lookup x=some .cell∨(relabel scope X.env).names.lookup x=some .free:=by
    rcases e5 with z | z | z
    ·exact absurd z nl
    ·exact .inl z
    ·exact .inr z
   have hmem:(x,NameKind.free) ∈ scope.names:=bL scope.names hcell hcf
   have hx:=hN j x e1 hmem
   obtain⟨mo,_,hl⟩:=I3.loc
   have hkx:=hfr (x,.free) hmem rfl
   obtain⟨u,ru,lk⟩:=hl j x v hx e2' (by
    rcases hkx with z | z
    ·exact .inr (.inl z)
    ·exact .inr (.inr z))
   refine⟨u,ru,.inr ⟨hcf,?_⟩⟩
   rcases lk with ⟨z,_⟩ | ⟨_,c,hc1,hc2⟩
   ·rcases hkx with q | q
    ·rw[q] at z; cases z
    ·rw[q] at z; cases z
   ·obtain⟨c',hc'⟩:=bX (cells:=X.env.cells) scope.names [] hmem
    have:=subC x c' hc'
    rw[hc1] at this; cases this
    obtain⟨oc,h5,h6⟩:=hc2
    exact⟨c,hc',oc,by rw[h4]; exact kp _ _ h5,h6⟩
  ·obtain⟨v,oc,h5,h6⟩:=I3.cell x c (subC x c e)
   exact⟨v,oc,by rw[h4]; exact kp _ _ h5,h6⟩
  ·have hp':p ∈ X.pn++pins:=by simpa using hp
   obtain⟨a1,a2,a3,a4,a5⟩:=I3.pin p hp'
   refine⟨by rw[h4]; exact kp _ _ a1,a2,?_,fun z=>?_,a5⟩
   ·have:=Heap.lt_size a1
    rw[eC] at this
    exact Nat.ne_of_lt this
   ·rcases mem_cons.mp (I3.stkSub p.1 z) with q | q
    ·exact a3 q
    ·exact a4 q
  ·rw[h4]; exact I3.hok.kept kp
  ·rw[length_append,length_replicate,I3.len]; exact hlen.symm
 have stat:∀ {H':Hp},(∀ b ∈ fp,H' b=none)->∀ b ∈ fp,ck (blk X scope N' C s3 H3 fp pins) [] H' b:=fun hn b hb=>
  ⟨hn b hb,(ok'.exf b hb).1,ok'.exfs b hb,.inl hb,fun x c e=>(ok'.exf b hb).2 x c e,fun p hp=>(f3 b hb).2.2.2.2.2 p (by simpa using hp)⟩
 have fr4:∀ b ∈ fp,H3 b=none:=fun b hb=>(f3 b hb).1
 have st4:tn 0 s4.heap:=T.keep _ _ _ st3 fun b _ o e=>by rw[h4]; exact kp _ _ e
 have loop:codeAny (model X.prog X.w) X.A (.compLoop (.ListComp elt [⟨tg,iter,ifs,0⟩] scope pos) 0 (.ref it) (.ref D) (compEnvC scope (cj X.env.cells scope.names []) C X.env))
   (compPost (model X.prog X.w) X.A X.xe (some (assign (.Name nm pos') X.env)) (fun _ s'=>SP X pins Dn .next s') (.ref D) C) s4:=by
  refine dk (fun n s'=>∃ i ys H',Inv (blk X scope N' C s3 H3 fp pins) [] (List.replicate k none++σ) H' s'/\tn i s'.heap/\(∀ b ∈ fp,H' b=none)/\W i n ys H') ?_ m0 ⟨0,[],H3,J4,st4,fr4,w0⟩
  rintro n s5 ⟨i,ys,H5,I5,st5,fr5,w5⟩
  obtain⟨hDl,stp⟩:=turn i n ys H5 w5
  rcases stp with ⟨stop,qn⟩ | ⟨go,step⟩
  ·refine thn (T.done (blk X scope N' C s3 H3 fp pins) rfl rfl rfl hc i [] s5 _ H5 (fun _ _=>False) I5 (stat fr5) st5 stop) fun r s6 ⟨hr,I6⟩=>?_
   subst hr
   obtain⟨m6,ns6,_⟩:=id I6.loc
   have hC5:H5 C=none:=I6.free
   have un6:Un (frs X.stack) fp H3 H5 s3.heap s6.heap:=I6.base
   have IX:Inv X pins σ H5 s6:=by
    refine I3.call' (s':=s6) (ch:=fp) I6.os un6 I6.hok I6.bare (fun b hb=>?_)
    exact⟨(f3 b hb).2.2.2.1,(f3 b hb).2.1,(f3 b hb).2.2.2.2.1,(f3 b hb).2.2.2.2.2⟩
   have fpC:ck X pins H5 C:=I3.fpOk (Nat.le_of_eq eC) hC5
   obtain⟨oC,esC,epC,gC,dC,rC⟩:=ns6
   have IXp:=IX.pinned (fp:=[C]) (fun b hb=>by rw[mem_singleton.mp hb]; exact fpC) (fun b hb=>by rw[mem_singleton.mp hb]; exact⟨oC,gC,fun v z=>by rw[dC] at z; cases z⟩)
   have sto:=am (pos:=pos') hNd hix hLx hf _ s6 σ H5 (.ref D) (.ref D) (fun σ' H'=>σ'=σ.set ix (some (.ref D))/\H'=H5) IXp rfl ⟨U,U⟩
   show wpAny _ _ (assign (.Name nm pos') X.env (.ref D)) _ _ s6
   refine thn sto fun _ s7 z_=>z_.elim fun σ7 z_=>z_.elim fun H7 z_=>z_.elim fun I7 z_=>z_.elim fun e7 e7'=>?_
   subst e7 e7'
   have gC7:s7.heap.get? C=some oC:=(I7.pin (C,oC) (mem_append_right _ (mem_append_right _ (bu (mem_singleton.mpr rfl) gC)))).1
   refine⟨_,⟨oC,esC,epC,gC7,dC,rC⟩,fun h' hsb=>⟨σ.set ix (some (.ref D)),_,?_,qn⟩⟩
   refine(I7.unpinned).call' (s':={ s7 with heap:=h' }) (ch:=[C]) rfl ⟨fun b o e a1 a2 a3=>?_,fun b o e a1 a2 a3=>?_,fun _ _ _ n _=>n,fun b o e a3=>?_,fun _ _ q=>q,fun _ _ _ q=>q,fun _ ps q=>⟨#[],by rw[q]; simp⟩⟩ ?_ I7.bare (fun b hb=>?_)
   ·exact(hsb.2 b (fun z=>a3 (mem_singleton.mpr z))).trans e
   ·exact⟨o.slots,(hsb.2 b (fun z=>a3 (mem_singleton.mpr z))).trans e⟩
   ·exact⟨o,(hsb.2 b (fun z=>a3 (mem_singleton.mpr z))).trans e⟩
   ·intro b u e
    refine(I7.hok b u e).stay (fun c w' hcc q=>(hsb.2 c ?_).trans q) (fun _ q=>q) fun _ _ q=>q
    rintro rfl
    rcases hcc with z | z
    ·rw[z,e] at hC5; cases hC5
    ·rw[z] at hC5; cases hC5
   ·rw[mem_singleton.mp hb]
    exact⟨fpC.2.2.2.1,fpC.2.1,fpC.2.2.2.2.1,fpC.2.2.2.2.2⟩
  ·refine thn (T.item (blk X scope N' C s3 H3 fp pins) rfl rfl rfl hc i [] s5 _ H5 (fun _ _=>False) I5 (stat fr5) st5 go) fun r s6 z_=>z_.elim fun u z_=>z_.elim fun hr h6=>?_
   subst hr
   refine thn h6 fun _ s7 z_=>z_.elim fun x z_=>z_.elim fun H7 z_=>z_.elim fun I7 z_=>z_.elim fun r7 z_=>z_.elim fun y7 z_=>z_.elim fun st7 fr7=>?_
   have I7':=I7.pinned (stat fr7) (T.obj _ _ st7)
   refine thn (hg C s3 H3 fp pins _ s7 _ H7 x u _ I7' r7 (step x H7 y7)) fun _ s8 z_=>z_.elim fun σ8 z_=>z_.elim fun H8 z_=>z_.elim fun I8 z_=>z_.elim fun d8 q8=>?_
   refine thn (ht C s3 H3 fp pins _ s8 σ8 H8 _ I8 q8) fun b s9 z_=>z_.elim fun H9 z_=>z_.elim fun I9 q9=>?_
   have kz:∀ (j:Nat) v,(List.replicate k none++σ)[j]?=some (some v)->σ8[j]?=some (some v):=fun j v e=>by
    have hik:¬ j<k:=fun hlt=>by
     rw[getElem?_append_left (by rw[length_replicate]; exact hlt),List.getElem?_replicate] at e
     split at e <;> cases e
    rw[getElem?_append_right (by rw[length_replicate]; omega),length_replicate,<- d8,List.getElem?_drop] at e
    have:k+(j - k)=j:=by omega
    rw[this] at e; exact e
   have again:∀ {Hz:Hp}{sz:Shared}{zs:List V}{m':Nat},Inv (blk X scope N' C s3 H3 fp pins) ([]++cU fp s7.heap) σ8 Hz sz->m'<n->W (i+1) m' zs Hz ->
     ∃ m,m<n/\∃ i ys H',Inv (blk X scope N' C s3 H3 fp pins) [] (List.replicate k none++σ) H' sz/\tn i sz.heap/\(∀ b ∈ fp,H' b=none)/\W i m ys H':=fun {Hz sz zs m'} Iz hm wz=>by
    refine⟨m',hm,i+1,zs,Hz,(Iz.unpinned).weak ?_ kz,T.keep _ _ _ st7 fun b hb o e=>(Iz.pin (b,o) (mem_append_right _ (mem_append_right _ (bu hb e)))).1,fun b hb=>?_,wz⟩
    ·rw[Iz.len]; exact I5.len
    ·obtain⟨o,e,d⟩:=T.obj _ _ st7 b hb
     exact(Iz.pin (b,o) (mem_append_right _ (mem_append_right _ (bu hb e)))).2.1
   cases b with
   | false=>
    obtain⟨m',hm,w9⟩:=(show ∃ m',m'<n/\W (i+1) m' ys H9 by simpa using q9)
    rw[if_neg Bool.false_ne_true]
    exact again I9 hm w9
   | true=>
    rw[if_pos rfl] at q9 ⊢
    refine thn (he C s3 H3 fp pins _ s9 σ8 H9 _ I9 q9) fun u9 s10 z_=>z_.elim fun y z_=>z_.elim fun H10 z_=>z_.elim fun I10 z_=>z_.elim fun r10 z_=>z_.elim fun hz z_=>z_.elim fun hD10 z_=>z_.elim fun m' z_=>z_.elim fun hm w10=>?_
    refine thn (aT (X:=blk X scope N' C s3 H3 fp pins) _ s10 σ8 H10 (.ref D) [y] (.ref D) [u9] (fun _ H'=>H'=upd H10 D (.lst (ys++[y]))) I10 rfl (.cons r10 .nil) ⟨D,ys,y,U,U,hD10,hz,U⟩) fun _ s11 z_=>z_.elim fun _ z_=>z_.elim fun H11 z_=>z_.elim fun I11 z_=>z_.elim fun _ e11=>?_
    subst e11
    exact again I11 hm w10
 exact codeAny_compStart_list loop (T.self _ 0 _ _ _ st4 loop)
end
section
variable {prog:Program}{w:World}{A:Around}{E:Value->Shared->Prop}{s:Shared}
theorem bx {it l:Addr}{i:Nat}{items:Array Value}{x:Value}{Q:Value->Shared->Prop} (h1:s.heap.IsTupleIter it l i) (h2:s.heap.IsTuple l items) (h3:items[i]?=some x)
  (h:∀ h',h'.IsTupleIter it l (i+1)->Heap.SameBut it s.heap h'->Q x { s with heap:=h' }):wpAny (model prog w) A (Builtin.SmallTypes.nextOf (.ref it)) Q E s:=by
 obtain⟨o,e,c,d⟩:=h1
 obtain⟨ol,el,cl,n,dl⟩:=h2
 unfold Builtin.SmallTypes.nextOf
 refine wpAny_bind (wpAny_callSpecial?_slot (T := "tuple_iterator") ⟨o,e,c⟩ F.slot_tuple_iterator_next (wpAny_call_entry F.slot_tuple_iterator_next ⟨o,e,c⟩ F.entry_tuple_iterator_next ?_ (F.args_tuple_iterator_next_1 _)))
 unfold Builtin.«tuple_iterator.__next__»
 refine wpAny_bind (wpAny_of_eq (a:=(Value.ref it,[])) rfl ?_)
 refine wpAny_bind (wpAny_field (x:=.ref l) e d rfl ?_)
 rw[if_neg (show ¬ ((Value.ref l == Value.none)=true) from by simp)]
 refine wpAny_bind (wpAny_field (x:=.int (i:Int) 0) e d rfl ?_)
 refine wpAny_bind (wpAny_seqItems el dl ?_)
 dsimp only
 rw[Int.toNat_natCast,h3]
 refine wpAny_bind (wpAny_setField e d (by simp) ?_)
 refine wpAny_pure ⟨x,U,wpAny_pure (h _ ⟨_,Heap.get?_update_self _ e (Obj.isFreed_of_fields (Obj.data_mapFields d _)),(Obj.cls_mapFields _ _).trans c,Obj.data_mapFields d _⟩ (Heap.SameBut.update _ _ _))⟩
theorem bW {it l:Addr}{i:Nat}{items:Array Value}{Q:Value->Shared->Prop} (hh:A.handled=none) (h1:s.heap.IsTupleIter it l i) (h2:s.heap.IsTuple l items) (h3:items[i]?=none)
  (h:∀ h' e,Heap.ExtBut it s.heap h'->(∃ o,h'.get? e=some o/\o.cls=.type "StopIteration")->E (.ref e) { s with heap:=h' }):wpAny (model prog w) A (Builtin.SmallTypes.nextOf (.ref it)) Q E s:=by
 obtain⟨o,e,c,d⟩:=h1
 obtain⟨ol,el,cl,n,dl⟩:=h2
 unfold Builtin.SmallTypes.nextOf
 refine wpAny_bind (wpAny_callSpecial?_slot (T := "tuple_iterator") ⟨o,e,c⟩ F.slot_tuple_iterator_next (wpAny_call_entry F.slot_tuple_iterator_next ⟨o,e,c⟩ F.entry_tuple_iterator_next ?_ (F.args_tuple_iterator_next_1 _)))
 unfold Builtin.«tuple_iterator.__next__»
 refine wpAny_bind (wpAny_of_eq (a:=(Value.ref it,[])) rfl ?_)
 refine wpAny_bind (wpAny_field (x:=.ref l) e d rfl ?_)
 rw[if_neg (show ¬ ((Value.ref l == Value.none)=true) from by simp)]
 refine wpAny_bind (wpAny_field (x:=.int (i:Int) 0) e d rfl ?_)
 refine wpAny_bind (wpAny_seqItems el dl ?_)
 dsimp only
 rw[Int.toNat_natCast,h3]
 refine wpAny_bind (wpAny_rule ?_)
 refine wpAny_bind (wpAny_setField e d (by simp) ?_)
 unfold Builtin.SmallTypes.stopIteration
 refine wpAny_bind ?_
 unfold newExc
 refine wpAny_bind (wpAny_newTuple ?_ (by simp))
 refine wpAny_bind (wpAny_bind (wpAny_pure (wpAny_pure ?_)))
 refine wpAny_newObj_type ?_ (sizeOk_excFields _ _ _ _ _ _ _ _)
 unfold raiseNew
 refine wpAny_bind (wpAny_handled ?_)
 rw[show A.in1.handled=none from hh]
 refine wpAny_throw (h _ _ (fun b o hb eb=>?_) ⟨_,Heap.get?_push_size _ rfl,U⟩)
 exact Heap.get?_push_of_some _ (Heap.get?_push_of_some _ (((Heap.SameBut.update s.heap it _).2 b hb).trans eb))
theorem cA {h h':Heap}{a l:Addr}{xs:Array Value} (p:h.IsTuple l xs) (sb:Heap.SameBut a h h') (ne:l≠a):h'.IsTuple l xs:=by
 obtain⟨o,e,r⟩:=p
 exact⟨o,(sb.2 l ne).trans e,r⟩
theorem dD {z TI TO i1 i2 l1 l2:Addr}{k1 k2:Nat}{xs ys:Array Value}{x y a b:Value}{Q:Value->Shared->Prop} (D:ZipApart z TI TO i1 i2 l1 l2) (hz:IsZip s.heap z TI TO .none) (hTI:IsPair s.heap TI (.ref i1) (.ref i2)) (hTO:IsPair s.heap TO a b)
  (h1:s.heap.IsTupleIter i1 l1 k1) (h2:s.heap.IsTupleIter i2 l2 k2) (p1:s.heap.IsTuple l1 xs) (p2:s.heap.IsTuple l2 ys) (hx:xs[k1]?=some x) (hy:ys[k2]?=some y)
  (h:∀ h',IsZip h' z TI TO (rawInt s.heap.objs.size)->IsPair h' TO x y->h'.IsTupleIter i1 l1 (k1+1)->h'.IsTupleIter i2 l2 (k2+1)->IsPair h' s.heap.objs.size x y->h'.objs.size=s.heap.objs.size+1 ->
   (∀ c o,c≠z->c≠TO->c≠i1->c≠i2->s.heap.get? c=some o->h'.get? c=some o)->Q (.ref s.heap.objs.size) { s with heap:=h' }) :
  wpAny (model prog w) A (Builtin.«zip.__next__» { pos:=[.ref z] }) (fun fin s'=>∃ v,fin=Fin.done (.ret v)/\Q v s') E s:=by
 unfold Builtin.«zip.__next__»
 refine wpAny_bind (wpAny_of_eq (a:=(Value.ref z,[])) rfl ?_)
 dsimp only
 refine wpAny_bind (wpAny_field (x:=.bool false) hz rfl rfl ?_)
 refine wpAny_bind (wpAny_field (x:=.ref TI) hz rfl rfl ?_)
 refine wpAny_bind (wpAny_seqItems hTI rfl ?_)
 dsimp only
 rw[if_neg (by simp)]
 refine wpAny_bind ?_
 unfold Builtin.SmallTypes.ownedTupleIsFree
 refine wpAny_bind (wpAny_field (x:=.none) hz rfl rfl (wpAny_pure ?_))
 rw[if_pos rfl]
 refine wpAny_bind (wpAny_rule ?_)
 refine wpAny_bind (wpAny_field (x:=.ref TO) hz rfl rfl ?_)
 refine wpAny_bind (wpAny_setField_rec hz (by simp) fun h₁ hz₁ hs₁=>?_)
 refine wpAny_bind ?_
 show wpAny _ _ (forIn [(Value.ref i1,0),(Value.ref i2,1)] (none,()) _) _ _ _
 rw[List.forIn_cons]
 refine wpAny_bind ?_
 refine wpAny_bind (wpAny_onRaise ?_)
 have ne1:(Value.bool false == Value.bool true)=true->False:=by decide
 refine wpAny_bind (bx (h1.extBut hs₁.extBut D.i1z) (cA p1 hs₁ D.l1z) hx fun h₂ g1 sb2=>?_)
 refine wpAny_pure ?_
 have hTO2:IsPair h₂ TO a b:=(sb2.2 _ D.TOi1).trans ((hs₁.2 _ D.TOz).trans hTO)
 refine wpAny_bind (wpAny_seqItems hTO2 rfl ?_)
 refine wpAny_bind (wpAny_updateSeq_pair hTO2 fun h₃ e3 sb3=>?_)
 refine wpAny_bind (wpAny_letGo ?_)
 refine wpAny_pure ?_
 dsimp only
 have hTO3:IsPair h₃ TO x b:=e3
 rw[List.forIn_cons]
 refine wpAny_bind ?_
 refine wpAny_bind (wpAny_onRaise ?_)
 have h2b:h₃.IsTupleIter i2 l2 k2:=((h2.extBut hs₁.extBut D.i2z).extBut sb2.extBut D.i12.symm).extBut sb3.extBut D.TOi2.symm
 refine wpAny_bind (bx h2b (cA (cA (cA p2 hs₁ D.l2z) sb2 D.l2i1) sb3 D.l2TO) hy fun h₄ g2 sb4=>?_)
 refine wpAny_pure ?_
 have hTO4:IsPair h₄ TO x b:=(sb4.2 _ D.TOi2).trans hTO3
 refine wpAny_bind (wpAny_seqItems hTO4 rfl ?_)
 refine wpAny_bind (wpAny_updateSeq_pair hTO4 fun h₅ e5 sb5=>?_)
 refine wpAny_bind (wpAny_letGo ?_)
 refine wpAny_pure ?_
 dsimp only
 have hTO5:IsPair h₅ TO x y:=e5
 rw[List.forIn_nil]
 refine wpAny_pure ?_
 dsimp only
 refine wpAny_bind (wpAny_seqItems hTO5 rfl ?_)
 dsimp only
 refine wpAny_bind (wpAny_newTuple ?_ (by simp[sizeLine_eq]))
 have sz:h₅.objs.size=s.heap.objs.size:=sb5.1.trans (sb4.1.trans (sb3.1.trans (sb2.1.trans hs₁.1)))
 have hz5:h₅.get? z=some { cls:=.type "zip",data:=.fields #[Value.ellipsis,.bool false,.bool false,.ref TI,.ref TO] } :=
  (sb5.2 _ D.TOz.symm).trans ((sb4.2 _ D.i2z.symm).trans ((sb3.2 _ D.TOz.symm).trans ((sb2.2 _ D.i1z.symm).trans hz₁)))
 have hz6:(h₅.push { cls:=.type "tuple",data:=.seq #[x,y] }).get? z=some { cls:=.type "zip",data:=.fields #[Value.ellipsis,.bool false,.bool false,.ref TI,.ref TO] }:=Heap.get?_push_of_some _ hz5
 unfold Builtin.SmallTypes.ownedTupleHandOut
 refine wpAny_bind (wpAny_bind (wpAny_setField_rec hz6 (by simp) fun h₇ e7 sb7=>?_))
 refine wpAny_setField_rec (k:=1) e7 (by simp) fun h₈ e8 sb8=>?_
 refine wpAny_pure ⟨_,U,?_⟩
 have szz:z<s.heap.objs.size:=Heap.lt_size hz
 have nz:s.heap.objs.size≠z:=Nat.ne_of_gt szz
 have pz:∀ c,c≠z->h₈.get? c=(h₅.push { cls:=.type "tuple",data:=.seq #[x,y] }).get? c:=fun c hc=>(sb8.2 c hc).trans (sb7.2 c hc)
 have old:∀ c o,c≠z->h₅.get? c=some o->h₈.get? c=some o:=fun c o hc e=>(pz c hc).trans (Heap.get?_push_of_some _ e)
 rw[show({ s with heap:=h₅ }:Shared).heap.objs.size=s.heap.objs.size from sz] at e8 ⊢
 refine h h₈ ?_ (old _ _ D.TOz hTO5) ?_ ?_ ?_ ?_ ?_
 ·exact e8
 ·exact(g1.at fun o e=>old _ _ D.i1z ((sb5.2 _ D.TOi1.symm).trans ((sb4.2 _ D.i12).trans ((sb3.2 _ D.TOi1.symm).trans e))))
 ·exact(g2.at fun o e=>old _ _ D.i2z ((sb5.2 _ D.TOi2.symm).trans e))
 ·have e9:(h₅.push { cls:=.type "tuple",data:=.seq #[x,y] }).get? h₅.objs.size=some { cls:=.type "tuple",data:=.seq #[x,y] }:=Heap.get?_push_size _ rfl
  have sz':h₅.objs.size=s.heap.objs.size:=sz
  rw[sz'] at e9
  exact(pz _ nz).trans e9
 ·rw[sb8.1,sb7.1,Heap.size_push]
  exact congrArg (· + 1) (show h₅.objs.size=s.heap.objs.size from sz)
 ·intro c o c1 c2 c3 c4 e
  exact old c o c1 ((sb5.2 c c2).trans ((sb4.2 c c4).trans ((sb3.2 c c2).trans ((sb2.2 c c3).trans ((hs₁.2 c c1).trans e)))))
theorem cT {z TI TO i1 i2 l1 l2:Addr}{k1 k2:Nat}{xs ys:Array Value}{x y a b:Value}{Q:Option Value->Shared->Prop} (D:ZipApart z TI TO i1 i2 l1 l2) (hz:IsZip s.heap z TI TO .none) (hTI:IsPair s.heap TI (.ref i1) (.ref i2)) (hTO:IsPair s.heap TO a b)
  (h1:s.heap.IsTupleIter i1 l1 k1) (h2:s.heap.IsTupleIter i2 l2 k2) (p1:s.heap.IsTuple l1 xs) (p2:s.heap.IsTuple l2 ys) (hx:xs[k1]?=some x) (hy:ys[k2]?=some y)
  (h:∀ h',IsZip h' z TI TO (rawInt s.heap.objs.size)->IsPair h' TO x y->h'.IsTupleIter i1 l1 (k1+1)->h'.IsTupleIter i2 l2 (k2+1)->IsPair h' s.heap.objs.size x y->h'.objs.size=s.heap.objs.size+1 ->
   (∀ c o,c≠z->c≠TO->c≠i1->c≠i2->s.heap.get? c=some o->h'.get? c=some o)->Q (some (.ref s.heap.objs.size)) { s with heap:=h' }) :
  wpAny (model prog w) A (pyNext (.ref z)) Q E s:=by
 have tz:Shared.TypeIs s (.ref z) "zip":=⟨_,hz,U⟩
 unfold pyNext
 refine wpAny_bind (wpAny_attempt (wpAny_callSpecial?_slot tz F.slot_zip_next (wpAny_call_entry F.slot_zip_next tz F.entry_zip_next ?_ (F.args_zip_next_1 _))))
 refine dD D hz hTI hTO h1 h2 p1 p2 hx hy fun h' a1 a2 a3 a4 a5 a6 a7=>?_
 exact wpAny_pure (h h' a1 a2 a3 a4 a5 a6 a7)
theorem eO {z TI TO i1 i2 l1 l2:Addr}{k1 k2:Nat}{xs ys:Array Value}{a b:Value}{Q:PySem.Fin->Shared->Prop} (hh:A.handled=none) (D:ZipApart z TI TO i1 i2 l1 l2) (hz:IsZip s.heap z TI TO .none) (hTI:IsPair s.heap TI (.ref i1) (.ref i2)) (hTO:IsPair s.heap TO a b)
  (h1:s.heap.IsTupleIter i1 l1 k1) (h2:s.heap.IsTupleIter i2 l2 k2) (p1:s.heap.IsTuple l1 xs) (p2:s.heap.IsTuple l2 ys) (hxy:xs[k1]?=none∨ys[k2]?=none)
  (h:∀ h' e,(∀ c o,c≠z->c≠TO->c≠i1->c≠i2->s.heap.get? c=some o->h'.get? c=some o)->(∃ o,h'.get? e=some o/\o.cls=.type "StopIteration")->E (.ref e) { s with heap:=h' }) :
  wpAny (model prog w) A (Builtin.«zip.__next__» { pos:=[.ref z] }) Q E s:=by
 unfold Builtin.«zip.__next__»
 refine wpAny_bind (wpAny_of_eq (a:=(Value.ref z,[])) rfl ?_)
 dsimp only
 refine wpAny_bind (wpAny_field (x:=.bool false) hz rfl rfl ?_)
 refine wpAny_bind (wpAny_field (x:=.ref TI) hz rfl rfl ?_)
 refine wpAny_bind (wpAny_seqItems hTI rfl ?_)
 dsimp only
 rw[if_neg (by simp)]
 refine wpAny_bind ?_
 unfold Builtin.SmallTypes.ownedTupleIsFree
 refine wpAny_bind (wpAny_field (x:=.none) hz rfl rfl (wpAny_pure ?_))
 rw[if_pos rfl]
 refine wpAny_bind (wpAny_rule ?_)
 refine wpAny_bind (wpAny_field (x:=.ref TO) hz rfl rfl ?_)
 refine wpAny_bind (wpAny_setField_rec hz (by simp) fun h₁ hz₁ hs₁=>?_)
 refine wpAny_bind ?_
 show wpAny _ _ (forIn [(Value.ref i1,0),(Value.ref i2,1)] (none,()) _) _ _ _
 rw[List.forIn_cons]
 refine wpAny_bind ?_
 refine wpAny_bind (wpAny_onRaise ?_)
 have fin:∀ (g g':Heap) (e:Addr) (f0:Value),Heap.get? g z=some { cls:=.type "zip",data:=.fields #[f0,.bool false,.bool false,.ref TI,.ref TO] }->(∀ c o,c≠z->c≠TO->c≠i1->c≠i2->s.heap.get? c=some o->g.get? c=some o)->(∃ o,g.get? e=some o/\o.cls=.type "StopIteration") ->
   wpAny (model prog w) A (setField (.ref z) 0 .none) (fun _ s''=>E (.ref e) s'') E { s with heap:=g }:=fun g g' e f0 ez kk he=>by
  refine wpAny_setField_rec ez (by simp) fun g2 e2 sb2=>h g2 e (fun c o c1 c2 c3 c4 eo=>(sb2.2 c c1).trans (kk c o c1 c2 c3 c4 eo)) ?_
  obtain⟨o,eo,ec⟩:=he
  exact⟨o,(sb2.2 e (fun z'=>by rw[z',ez] at eo; cases eo; exact absurd (show Value.type "zip" = Value.type "StopIteration" from ec) (by decide +kernel))).trans eo,ec⟩
 cases hx:xs[k1]? with
 | none=>
  refine wpAny_bind (bW hh (h1.extBut hs₁.extBut D.i1z) (cA p1 hs₁ D.l1z) hx fun h₂ e sb2 he=>?_)
  exact fin h₂ h₂ e _ (sb2 _ _ D.i1z.symm hz₁) (fun c o c1 c2 c3 c4 eo=>sb2 _ _ c3 ((hs₁.2 c c1).trans eo)) he
 | some x=>
  have hy:ys[k2]?=none:=hxy.resolve_left (fun q=>by rw[hx] at q; cases q)
  refine wpAny_bind (bx (h1.extBut hs₁.extBut D.i1z) (cA p1 hs₁ D.l1z) hx fun h₂ g1 sb2=>?_)
  refine wpAny_pure ?_
  have hTO2:IsPair h₂ TO a b:=(sb2.2 _ D.TOi1).trans ((hs₁.2 _ D.TOz).trans hTO)
  refine wpAny_bind (wpAny_seqItems hTO2 rfl ?_)
  refine wpAny_bind (wpAny_updateSeq_pair hTO2 fun h₃ e3 sb3=>?_)
  refine wpAny_bind (wpAny_letGo ?_)
  refine wpAny_pure ?_
  dsimp only
  rw[List.forIn_cons]
  refine wpAny_bind ?_
  refine wpAny_bind (wpAny_onRaise ?_)
  have h2b:h₃.IsTupleIter i2 l2 k2:=((h2.extBut hs₁.extBut D.i2z).extBut sb2.extBut D.i12.symm).extBut sb3.extBut D.TOi2.symm
  refine wpAny_bind (bW hh h2b (cA (cA (cA p2 hs₁ D.l2z) sb2 D.l2i1) sb3 D.l2TO) hy fun h₄ e sb4 he=>?_)
  refine fin h₄ h₄ e _ (sb4 _ _ D.i2z.symm ((sb3.2 _ D.TOz.symm).trans ((sb2.2 _ D.i1z.symm).trans hz₁))) (fun c o c1 c2 c3 c4 eo=>sb4 _ _ c4 ((sb3.2 c c2).trans ((sb2.2 c c3).trans ((hs₁.2 c c1).trans eo)))) he
theorem dt {z TI TO i1 i2 l1 l2:Addr}{k1 k2:Nat}{xs ys:Array Value}{a b:Value}{Q:Option Value->Shared->Prop} (hh:A.handled=none) (D:ZipApart z TI TO i1 i2 l1 l2) (hz:IsZip s.heap z TI TO .none) (hTI:IsPair s.heap TI (.ref i1) (.ref i2)) (hTO:IsPair s.heap TO a b)
  (h1:s.heap.IsTupleIter i1 l1 k1) (h2:s.heap.IsTupleIter i2 l2 k2) (p1:s.heap.IsTuple l1 xs) (p2:s.heap.IsTuple l2 ys) (hxy:xs[k1]?=none∨ys[k2]?=none)
  (h:∀ h',(∀ c o,c≠z->c≠TO->c≠i1->c≠i2->s.heap.get? c=some o->h'.get? c=some o)->Q none { s with heap:=h' }) :
  wpAny (model prog w) A (pyNext (.ref z)) Q E s:=by
 have tz:Shared.TypeIs s (.ref z) "zip":=⟨_,hz,U⟩
 unfold pyNext
 refine wpAny_bind (wpAny_attempt (wpAny_callSpecial?_slot tz F.slot_zip_next (wpAny_call_entry F.slot_zip_next tz F.entry_zip_next ?_ (F.args_zip_next_1 _))))
 refine eO hh D hz hTI hTO h1 h2 p1 p2 hxy fun h' e kk he=>?_
 obtain⟨o,eo,ec⟩:=he
 refine wpAny_bind (wpAny_isInstance (T := "StopIteration") ⟨o,eo,ec⟩ isSubtype_stop ?_)
 rw[if_pos rfl]
 exact wpAny_pure (h h' kk)
theorem jt {l1 l2:Addr}{xs ys:Array Value}{Q:Value->Shared->Prop} (p1:s.heap.IsTuple l1 xs) (p2:s.heap.IsTuple l2 ys)
  (h:∀ h',IsZip h' (s.heap.objs.size+4) (s.heap.objs.size+2) (s.heap.objs.size+3) .none->IsPair h' (s.heap.objs.size+2) (.ref s.heap.objs.size) (.ref (s.heap.objs.size+1))->IsPair h' (s.heap.objs.size+3) .none .none ->
   h'.IsTupleIter s.heap.objs.size l1 0->h'.IsTupleIter (s.heap.objs.size+1) l2 0->h'.objs.size=s.heap.objs.size+5->(∀ c o,s.heap.get? c=some o->h'.get? c=some o)->Q (.ref (s.heap.objs.size+4)) { s with heap:=h' }) :
  wpAny (model prog w) A (call (.type "zip") [.ref l1,.ref l2]) Q E s:=by
 have hM:Meets (Builtin.«zip.__new__» { pos:=[.type "zip",.ref l1,.ref l2] }) (fun _ R s=>s.heap.IsTuple l1 xs/\s.heap.IsTuple l2 ys /\
   ∀ h',IsZip h' (s.heap.objs.size+4) (s.heap.objs.size+2) (s.heap.objs.size+3) .none->IsPair h' (s.heap.objs.size+2) (.ref s.heap.objs.size) (.ref (s.heap.objs.size+1))->IsPair h' (s.heap.objs.size+3) .none .none ->
   h'.IsTupleIter s.heap.objs.size l1 0->h'.IsTupleIter (s.heap.objs.size+1) l2 0->h'.objs.size=s.heap.objs.size+5->(∀ c o,s.heap.get? c=some o->h'.get? c=some o)->R (.ok (.ret (.ref (s.heap.objs.size+4)))) { s with heap:=h' }) :=
  .of_wp fun prog w A R s z_=>z_.elim fun q1 z_=>z_.elim fun q2 hq=>by
   unfold Builtin.«zip.__new__»
   refine wpAny_bind ?_
   unfold Builtin.SmallTypes.newClass
   refine wpAny_bind (wpAny_of_eq (a:=true) rfl ?_)
   rw[if_neg (by decide)]
   refine wpAny_bind (wpAny_of_eq (a:=true) sub_zip ?_)
   rw[if_neg (by decide)]
   refine wpAny_pure ?_
   dsimp only
   rw[if_neg (by decide)]
   refine wpAny_bind ?_
   unfold Builtin.SmallTypes.iterAll
   refine wpAny_bind ?_
   rw[List.forIn_cons]
   refine wpAny_bind (wpAny_bind (wpAny_holding (wpAny_pyIter_tuple q1 (wpAny_pure ?_))))
   dsimp only
   rw[List.forIn_cons]
   have q2':(s.heap.push { cls:=.type "tuple_iterator",data:=.fields #[.ref l1,.int 0 0] }).IsTuple l2 ys:=by
    obtain⟨o,e,r⟩:=q2
    exact⟨o,Heap.get?_push_of_some _ e,r⟩
   refine wpAny_bind (wpAny_bind (wpAny_holding (wpAny_pyIter_tuple q2' (wpAny_pure ?_))))
   dsimp only
   rw[List.forIn_nil]
   refine wpAny_pure (wpAny_pure ?_)
   refine wpAny_bind (wpAny_newTuple ?_ (by simp[sizeLine_eq]))
   refine wpAny_bind (wpAny_newTuple ?_ (by simp[sizeLine_eq]))
   refine wpAny_bind ?_
   unfold Builtin.SmallTypes.newRecord
   refine wpAny_newObj_type ?_ (by simp[PySem.sizeOk,Builtin.SmallTypes.ownedTupleFields,sizeLine_eq])
   refine wpAny_pure ⟨_,U,?_⟩
   have n1:(s.heap.push { cls:=.type "tuple_iterator",data:=.fields #[.ref l1,.int 0 0] }).objs.size=s.heap.objs.size+1:=Heap.size_push _ _
   have n2:((s.heap.push { cls:=.type "tuple_iterator",data:=.fields #[.ref l1,.int 0 0] }).push { cls:=.type "tuple_iterator",data:=.fields #[.ref l2,.int 0 0] }).objs.size=s.heap.objs.size+2:=by rw[Heap.size_push,n1]
   generalize hg1:s.heap.push { cls:=.type "tuple_iterator",data:=.fields #[.ref l1,.int 0 0] }=g1 at *
   generalize hg2:g1.push { cls:=.type "tuple_iterator",data:=.fields #[.ref l2,.int 0 0] }=g2 at *
   show R (.ok (.ret (.ref ((g2.push { cls:=.type "tuple",data:=.seq #[.ref s.heap.objs.size,.ref g1.objs.size] }).push { cls:=.type "tuple",data:=.seq #[.none,.none] }).objs.size))) { s with heap:=((g2.push { cls:=.type "tuple",data:=.seq #[.ref s.heap.objs.size,.ref g1.objs.size] }).push { cls:=.type "tuple",data:=.seq #[.none,.none] }).push { cls:=.type "zip",data:=.fields #[.none,.bool false,.bool false,.ref g2.objs.size,.ref (g2.push { cls:=.type "tuple",data:=.seq #[.ref s.heap.objs.size,.ref g1.objs.size] }).objs.size] } }
   have n3:(g2.push { cls:=.type "tuple",data:=.seq #[.ref s.heap.objs.size,.ref g1.objs.size] }).objs.size=s.heap.objs.size+3:=by rw[Heap.size_push,n2]
   have i1:g1.get? s.heap.objs.size=some { cls:=.type "tuple_iterator",data:=.fields #[.ref l1,.int 0 0] }:=by rw[<- hg1]; exact Heap.get?_push_size _ rfl
   have i2:g2.get? (s.heap.objs.size+1)=some { cls:=.type "tuple_iterator",data:=.fields #[.ref l2,.int 0 0] }:=by rw[<- hg2,<- n1]; exact Heap.get?_push_size _ rfl
   have i1':g2.get? s.heap.objs.size=some { cls:=.type "tuple_iterator",data:=.fields #[.ref l1,.int 0 0] }:=by rw[<- hg2]; exact Heap.get?_push_of_some _ i1
   have k2:∀ c o,s.heap.get? c=some o->g2.get? c=some o:=fun c o e=>by rw[<- hg2,<- hg1]; exact Heap.get?_push_of_some _ (Heap.get?_push_of_some _ e)
   rw[n1]
   rw[n1] at n3
   generalize hg3:g2.push { cls:=.type "tuple",data:=.seq #[.ref s.heap.objs.size,.ref (s.heap.objs.size+1)] }=g3 at *
   have i3:g3.get? (s.heap.objs.size+2)=some { cls:=.type "tuple",data:=.seq #[.ref s.heap.objs.size,.ref (s.heap.objs.size+1)] }:=by rw[<- hg3,<- n2]; exact Heap.get?_push_size _ rfl
   have k3:∀ c o,g2.get? c=some o->g3.get? c=some o:=fun c o e=>by rw[<- hg3]; exact Heap.get?_push_of_some _ e
   have n4:(g3.push { cls:=.type "tuple",data:=.seq #[.none,.none] }).objs.size=s.heap.objs.size+4:=by rw[Heap.size_push,n3]
   generalize hg4:g3.push { cls:=.type "tuple",data:=.seq #[.none,.none] }=g4 at *
   have i4:g4.get? (s.heap.objs.size+3)=some { cls:=.type "tuple",data:=.seq #[.none,.none] }:=by rw[<- hg4,<- n3]; exact Heap.get?_push_size _ rfl
   have k4:∀ c o,g3.get? c=some o->g4.get? c=some o:=fun c o e=>by rw[<- hg4]; exact Heap.get?_push_of_some _ e
   rw[n2,n3,n4]
   have k5:∀ c o,g4.get? c=some o->(g4.push { cls:=.type "zip",data:=.fields #[.none,.bool false,.bool false,.ref (s.heap.objs.size+2),.ref (s.heap.objs.size+3)] }).get? c=some o:=fun c o e=>Heap.get?_push_of_some _ e
   refine hq _ ?_ (k5 _ _ (k4 _ _ i3)) (k5 _ _ i4) ⟨_,k5 _ _ (k4 _ _ (k3 _ _ i1')),U,U⟩ ⟨_,k5 _ _ (k4 _ _ (k3 _ _ i2)),U,U⟩ ?_ (fun c o e=>k5 _ _ (k4 _ _ (k3 _ _ (k2 _ _ e))))
   ·show Heap.get? _ (s.heap.objs.size+4)=_
    rw[<- n4]; exact Heap.get?_push_size _ rfl
   ·rw[Heap.size_push,n4]
 refine callType_new F.called_zip (by decide) (F.typeCall_zip_2 _ _) (F.newCall_zip_2 _ _) (fun obj=>F.args_object_init_3 _ _ _) F.entry_zip_new hM ⟨p1,p2,fun h' a1 a2 a3 a4 a5 a6 a7=>?_⟩
 exact⟨⟨_,a1,U⟩,h h' a1 a2 a3 a4 a5 a6 a7⟩
end
theorem ij {X:Cx}{pins:List (Addr×Obj)}{σ:St}{H:Hp}{s:Shared}{a b:Addr}{xs:List V} (I:Inv X pins σ H s) (f:ck X pins H b) (q:SqT X.K H a xs):a≠b:=fun e=>by
 subst e
 rcases q with (q | ⟨o,q⟩) | ⟨o,its,n,hk,_⟩
 ·rw[f.1] at q; cases q
 ·rw[f.1] at q; cases q
 ·have hb:=I.ok.mod.kin a o hk
  rcases f.2.2.2.1 with hx | hx
  ·exact I.ok.noex a o hb hx
  ·exact absurd (Nat.lt_of_lt_of_le (Heap.lt_size hb) (Nat.le_trans I.ok.bsz hx)) (Nat.lt_irrefl _)
noncomputable def k6 (K:PySem.W.Frag) (a b:Addr):It :=
 ⟨fun i H=>∃ xs x ys y,SqT K H a xs/\xs[i]?=some x/\SqT K H b ys/\ys[i]?=some y,
  fun i H v H'=>∃ p x y,v=.ref p/\H p=none/\H'=upd H p (.tup [x,y])/\(∀ xs,SqT K H a xs->xs[i]?=some x)/\∀ ys,SqT K H b ys->ys[i]?=some y,
  fun i H=>∃ xs ys,SqT K H a xs/\SqT K H b ys/\(xs.length<=i∨ys.length<=i)⟩
theorem iP {P:Program}{w:World}{K:PySem.W.Frag}{es:List Expr} {x1} {pos:Pos} (a b z TI TO i1 i2:Addr):Turn P w K (.Tuple es x1 pos) (k6 K a b) [z,TI,TO,i1,i2] z
  (fun i h=>IsZip h z TI TO .none/\IsPair h TI (.ref i1) (.ref i2)/\(∃ u v,IsPair h TO u v)/\h.IsTupleIter i1 a i/\h.IsTupleIter i2 b i/\TI≠TO/\i1≠i2) where
 mem:=by simp
 obj:=fun i h ⟨hz,hTI,⟨u,v,hTO⟩,h1,h2,_⟩ c hc=>by
  simp only[mem_cons,not_mem_nil,or_false] at hc
  rcases hc with rfl | rfl | rfl | rfl | rfl
  ·exact⟨_,hz,fun v q=>by cases (show Data.fields _=Data.cell v from q)⟩
  ·exact⟨_,hTI,fun v q=>by cases (show Data.seq _ _=Data.cell v from q)⟩
  ·exact⟨_,hTO,fun v q=>by cases (show Data.seq _ _=Data.cell v from q)⟩
  ·obtain⟨o,e,_,d⟩:=h1
   exact⟨o,e,fun v q=>by rw[d] at q; cases q⟩
  ·obtain⟨o,e,_,d⟩:=h2
   exact⟨o,e,fun v q=>by rw[d] at q; cases q⟩
 keep:=fun i h h' ⟨hz,hTI,⟨u,v,hTO⟩,h1,h2,n1,n2⟩ k=>⟨k z (by simp) _ hz,k TI (by simp) _ hTI,⟨u,v,k TO (by simp) _ hTO⟩,h1.at fun o e=>k i1 (by simp) o e,h2.at fun o e=>k i2 (by simp) o e,n1,n2⟩
 item:=by
  intro X hP hw hK hc i pins s σ H E I hf ⟨hz,hTI,⟨u,v,hTO⟩,h1,h2,n1,n2⟩ hg
  subst hP hw hK
  obtain⟨xs,x,ys,y,hqa,hx,hqb,hy⟩:=hg
  obtain⟨its,rv,p,hsz⟩:=I.tuple hqa
  obtain⟨jts,rw',p',hsz'⟩:=I.tuple hqb
  obtain⟨ux,hux,rux⟩:=rv.get hx
  obtain⟨uy,huy,ruy⟩:=rw'.get hy
  have D:ZipApart z TI TO i1 i2 a b:=by
   obtain⟨oa,ea,ca,_,_⟩:=p
   obtain⟨ob,eb,cb,_,_⟩:=p'
   obtain⟨o1,e1,c1,_⟩:=h1
   obtain⟨o2,e2,c2,_⟩:=h2
   have dz:∀ {c:Addr}{o:Obj}{T:String},s.heap.get? c=some o->o.cls=.type T->T ≠ "zip" -> c≠z:=fun e q n r=>by
    rw[r,hz] at e; cases e; cases q; exact n rfl
   have dT:∀ {c d:Addr}{o q:Obj}{T U:String},s.heap.get? c=some o->o.cls=.type T->s.heap.get? d=some q->q.cls=.type U->T≠U->c≠d:=fun e1 c1 e2 c2 n r=>by
    subst r; rw[e1] at e2; cases e2; rw[c1] at c2; cases c2; exact n rfl
   exact⟨dz hTI rfl (by decide),dz hTO rfl (by decide),dz e1 c1 (by decide),dz e2 c2 (by decide),n1,dT hTI rfl e1 c1 (by decide),dT hTI rfl e2 c2 (by decide),dT hTO rfl e1 c1 (by decide),dT hTO rfl e2 c2 (by decide),n2,
    dz ea ca (by decide),ij I (hf TO (by simp)) hqa,dT ea ca e1 c1 (by decide),dT ea ca e2 c2 (by decide),dz eb cb (by decide),ij I (hf TO (by simp)) hqb,dT eb cb e1 c1 (by decide),dT eb cb e2 c2 (by decide)⟩
  refine cT D hz hTI hTO h1 h2 (show s.heap.IsTuple a its.toArray from p) (show s.heap.IsTuple b jts.toArray from p') (x:=ux) (y:=uy) (by simpa using hux) (by simpa using huy) fun h' a1 a2 a3 a4 a5 a6 hk=>?_
  refine⟨_,O,?_⟩
  refine wpAny_letOwnedTupleGo_zip (s:={ s with heap:=h' }) a1 fun h2' hz' hs'=>?_
  have lt:∀ b ∈ [z,TI,TO,i1,i2],b<s.heap.objs.size:=fun c hcm=>by
   simp only[mem_cons,not_mem_nil,or_false] at hcm
   rcases hcm with rfl | rfl | rfl | rfl | rfl
   ·exact Heap.lt_size hz
   ·exact Heap.lt_size hTI
   ·exact Heap.lt_size hTO
   ·obtain⟨o,e,_⟩:=h1; exact Heap.lt_size e
   ·obtain⟨o,e,_⟩:=h2; exact Heap.lt_size e
  have hTI2:IsPair h2' TI (.ref i1) (.ref i2):=hs'.extBut _ _ D.TIz (hk _ _ D.TIz D.TITO D.TIi1 D.TIi2 hTI)
  have hTO2:IsPair h2' TO ux uy:=hs'.extBut _ _ D.TOz a2
  have h12:h2'.IsTupleIter i1 a (i+1):=a3.extBut hs'.extBut D.i1z
  have h22:h2'.IsTupleIter i2 b (i+1):=a4.extBut hs'.extBut D.i2z
  have pz:s.heap.objs.size≠z:=Nat.ne_of_gt (Heap.lt_size hz)
  have hp2:IsPair h2' s.heap.objs.size ux uy:=hs'.extBut _ _ pz a5
  have kk:∀ c o,c ∉ [z,TI,TO,i1,i2]->s.heap.get? c=some o->h2'.get? c=some o:=fun c o hcm e=>by
   simp only[mem_cons,not_mem_nil,or_false,not_or] at hcm
   exact hs'.extBut _ _ hcm.1 (hk c o hcm.1 hcm.2.2.1 hcm.2.2.2.1 hcm.2.2.2.2 e)
  have I1:Inv X pins σ H { s with heap:=h2',toks:=s.toks }:=I.turnedL kk hf
  have fP:ck X pins H s.heap.objs.size:=I.fpOk (Nat.le_refl _) (I.hok.fresh (Nat.le_refl _))
  have I2:Inv X pins σ (upd H s.heap.objs.size (.tup [x,y])) { s with heap:=h2',toks:=s.toks }:=by
   refine I1.track I.sz (fP.2.1) fP.2.2.2.2.1 fP.2.2.2.2.2 fP.1 ?_
   exact⟨(show 2<=sizeLine by decide),[ux,uy],.cons rux (.cons ruy .nil),⟨_,hp2,O,_,O⟩⟩
  refine⟨.ref s.heap.objs.size,_,I2,O,⟨_,x,y,O,fP.1,O,fun zs hzs=>by rw[I.tuple_inj hzs hqa]; exact hx,fun zs hzs=>by rw[I.tuple_inj hzs hqb]; exact hy⟩,⟨hz',hTI2,⟨_,_,hTO2⟩,h12,h22,n1,n2⟩,fun c hcm=>?_⟩
  rw[av (Nat.ne_of_lt (lt c hcm))]
  exact(hf c hcm).1
 done:=by
  intro X hP hw hK hc i pins s σ H E I hf ⟨hz,hTI,⟨u,v,hTO⟩,h1,h2,n1,n2⟩ hg
  subst hP hw hK
  obtain⟨xs,ys,hqa,hqb,hend⟩:=hg
  obtain⟨its,rv,p,hsz⟩:=I.tuple hqa
  obtain⟨jts,rw',p',hsz'⟩:=I.tuple hqb
  have D:ZipApart z TI TO i1 i2 a b:=by
   obtain⟨oa,ea,ca,_,_⟩:=p
   obtain⟨ob,eb,cb,_,_⟩:=p'
   obtain⟨o1,e1,c1,_⟩:=h1
   obtain⟨o2,e2,c2,_⟩:=h2
   have dz:∀ {c:Addr}{o:Obj}{T:String},s.heap.get? c=some o->o.cls=.type T->T ≠ "zip" -> c≠z:=fun e q n r=>by
    rw[r,hz] at e; cases e; cases q; exact n rfl
   have dT:∀ {c d:Addr}{o q:Obj}{T U:String},s.heap.get? c=some o->o.cls=.type T->s.heap.get? d=some q->q.cls=.type U->T≠U->c≠d:=fun e1 c1 e2 c2 n r=>by
    subst r; rw[e1] at e2; cases e2; rw[c1] at c2; cases c2; exact n rfl
   exact⟨dz hTI rfl (by decide),dz hTO rfl (by decide),dz e1 c1 (by decide),dz e2 c2 (by decide),n1,dT hTI rfl e1 c1 (by decide),dT hTI rfl e2 c2 (by decide),dT hTO rfl e1 c1 (by decide),dT hTO rfl e2 c2 (by decide),n2,
    dz ea ca (by decide),ij I (hf TO (by simp)) hqa,dT ea ca e1 c1 (by decide),dT ea ca e2 c2 (by decide),dz eb cb (by decide),ij I (hf TO (by simp)) hqb,dT eb cb e1 c1 (by decide),dT eb cb e2 c2 (by decide)⟩
  have e1:=rv.length
  have e2:=rw'.length
  refine dt (I.ok.hd hc) D hz hTI hTO h1 h2 (show s.heap.IsTuple a its.toArray from p) (show s.heap.IsTuple b jts.toArray from p') (k1:=i) (k2:=i) (by
   rcases hend with h | h
   ·left; simp; omega
   ·right; simp; omega) fun h' hk=>⟨O,?_⟩
  exact I.turnedL (t':=s.toks) (fun c o hcm e=>by
   simp only[mem_cons,not_mem_nil,or_false,not_or] at hcm
   exact hk c o hcm.1 hcm.2.2.1 hcm.2.2.2.1 hcm.2.2.2.2 e) hf
 self:=fun _ _ _ _ _ st h=>wpAny_pyIter_zip st.1 h
section
variable {X:Cx}
noncomputable def iZipT (K:PySem.W.Frag) (ta:TA):TI:=fun σ H R=>ta σ H fun vs H1=>∃ a b,vs=[.ref a,.ref b]/\(∃ xs,SqT K H1 a xs)/\(∃ ys,SqT K H1 b ys)/\R (k6 K a b) H1
theorem j0 {es:List Expr} {x1} {tpos:Pos}{e1 e2:Expr}{ta:TA}{p pos:Pos} (hg:Gl X "zip") (hm:X.mg "zip" = none) (ha:PA X [e1,e2] ta) (hs:starEach [e1,e2] X.env=[(false,eval e1 X.env),(false,eval e2 X.env)]:=by rfl) (hs2:starEach [e2] X.env=[(false,eval e2 X.env)]:=by rfl) :
  PI X (.Tuple es x1 tpos) (.Call (.Name "zip" p) [e1,e2] [] pos) (iZipT X.K ta):=by
 intro pins s σ H R I h
 refine Call_ (cy I hg hm (by rfl) (PyProof.Rows.callWith_type1 (thn (ha pos pins s σ H _ I h) fun us s1 z_=>z_.elim fun vs z_=>z_.elim fun H1 z_=>z_.elim fun I1 z_=>z_.elim fun r1 q1=>?_) (by rw[hs,hs2]) (by rw[hs2]; rfl)))
 obtain⟨a,b,rfl,⟨xs,hqa⟩,⟨ys,hqb⟩,q⟩:=q1
 obtain⟨u1,u2,rfl,ru1,ru2⟩:=ic r1
 cases (show u1=Value.ref a from ru1)
 cases (show u2=Value.ref b from ru2)
 obtain⟨its,rv,pa,hsz⟩:=I1.tuple hqa
 obtain⟨jts,rw',pb,hsz'⟩:=I1.tuple hqb
 refine jt (show s1.heap.IsTuple a its.toArray from pa) (show s1.heap.IsTuple b jts.toArray from pb) fun h' hz hTI hTO h1 h2 hsize hk=>?_
 refine wpAny_pyIter_zip (s:={ s1 with heap:=h' }) hz ?_
 refine⟨_,_,_,_,H1,U,I1.kept (t':=s1.toks) hk,iP a b (s1.heap.objs.size+4) (s1.heap.objs.size+2) (s1.heap.objs.size+3) s1.heap.objs.size (s1.heap.objs.size+1),⟨hz,hTI,⟨_,_,hTO⟩,h1,h2,(fun z=>by have:s1.heap.objs.size+2=s1.heap.objs.size+3:=z; omega),(fun z=>by have:s1.heap.objs.size=s1.heap.objs.size+1:=z; omega)⟩,fun c hc=>?_,q⟩
 have hge:s1.heap.objs.size<=c:=by
  simp only[mem_cons,not_mem_nil,or_false] at hc
  rcases hc with h | h | h | h | h <;> (rw[h]; omega)
 exact I1.fpOk hge (I1.hok.fresh hge)
end
noncomputable def ii:List Value->List Str->Bool
 | [],[]=>true
 | .str x _::vs,y::ys=>(x == y) && ii vs ys
 | _,_=>false
noncomputable def dG (get:Addr->Option Obj) (ss:List Str) (v:Value):Bool :=
 match v with
 | .ref b=>(match get b with
  | some o=>(o.cls == .type "tuple") && (match o.data with | .seq its _=>ii its.toList ss | _=>false)
  | none=>false)
 | _=>false
noncomputable abbrev oV (K:PySem.W.Frag) (a:Addr) (D:List (Str×List Str)):Prop:=KTD.tabLook (dG fun b=>K.lookup b) (fun b=>K.lookup b) a D=true
theorem c9:∀ {vs:List Value}{ss:List Str},ii vs ss=true->KTD.Flats vs (ss.map PyData.str)
 | [],[],_=>.nil
 | .str x t::vs,y::ys,h=>by
  have h:((x == y) && ii vs ys)=true:=h
  rw[Bool.and_eq_true] at h
  have e:x=y:=by simpa using h.1
  subst e
  exact .cons (.str x t) (c9 h.2)
theorem eg:∀ {vs:List Value}{ss:List Str},KTD.Flats vs (ss.map PyData.str)->Vals (ss.map V.str) vs
 | _,[],h=>by cases h; exact .nil
 | _,y::ys,h=>by
  cases h with
  | cons f r=>exact .cons (PyProof.V.Flat.str_inv f) (eg r)
theorem fB:∀ {vs:List Value}{ds:List PyData},KTD.Flats vs ds->vs.length=ds.length
 | _,_,.nil=>rfl
 | _,_,.cons _ r=>by rw[length_cons,length_cons,fB r]
section
variable {X:Cx}{pins:List (Addr×Obj)}{σ:St}{H:Hp}{s:Shared}
noncomputable def dU (K:PySem.W.Frag) (h:Heap):Heap:=PySem.W.hideAll h ((List.range h.objs.size).filter fun b=>(K.lookup b).isNone)
theorem fk (kin:∀ a o,X.K.lookup a=some o->s.heap.get? a=some o) {a:Addr}{o:Obj} (h:X.K.lookup a=some o):(dU X.K s.heap).get? a=some o :=
 PySem.W.hideAll_get _ (kin a o h) fun hm=>by
  have:=(List.mem_filter.mp hm).2
  rw[h] at this; cases this
theorem kc {a:Addr}{o:Obj} (kin:∀ a o,X.K.lookup a=some o->s.heap.get? a=some o) (h:(dU X.K s.heap).get? a=some o):X.K.lookup a=some o:=by
 have h1:s.heap.get? a=some o:=PySem.W.of_hideAll _ h
 cases hk:X.K.lookup a with
 | some o'=>rw[kin a o' hk] at h1; exact h1
 | none=>
  have:(dU X.K s.heap).get? a=none:=PySem.W.hideAll_none _ (List.mem_filter.mpr ⟨mem_range.mpr (Heap.lt_size h1),by rw[hk]; rfl⟩)
  rw[h] at this; cases this
theorem ku (kin:∀ a o,X.K.lookup a=some o->s.heap.get? a=some o) (ss:List Str) (v:Value) (h:dG (fun b=>X.K.lookup b) ss v=true):KTD.Dat.At (dU X.K s.heap) (.tup (ss.map PyData.str)) v:=by
 unfold dG at h
 split at h
 ·rename_i b
  split at h
  ·rename_i o ho
   rw[Bool.and_eq_true] at h
   obtain⟨h1,h2⟩:=h
   split at h2
   ·rename_i its n hd
    exact⟨b,its.toList,U,⟨o,fk kin ho,by simpa using h1,n,by simpa using hd⟩,c9 h2⟩
   ·cases h2
  ·cases h
 ·cases h
theorem iS (I:Inv X pins σ H s) {a:Addr}{D:List (Str×List Str)} (T:oV X.K a D):KTD.Here (dU X.K s.heap) s.heap a (D.map fun p=>(p.1,KTD.Dat.tup (p.2.map PyData.str))):=by
 have kin:∀ a o,X.K.lookup a=some o->s.heap.get? a=some o:=fun b o e=>I.kIn b o e
 obtain⟨h1,o,es,ep,h2,h3,h4,h5⟩:=KTD.tab_of_look (h:=dU X.K s.heap) (R:=fun(d:List Str) v=>KTD.Dat.At (dU X.K s.heap) (.tup (d.map PyData.str)) v) (fun d v h=>ku kin d v h) (fun b o e=>fk kin e) T
 exact⟨⟨h1,o,es,ep,h2,h3,h4,h5.mono (f:=fun d:List Str=>KTD.Dat.tup (d.map PyData.str)) (fun d v h=>h)⟩,fun b o e=>PySem.W.of_hideAll _ e⟩
theorem fD (k : Str) : ∀ D : List (Str×List Str), KTD.datumAt k (D.map fun p=>(p.1, KTD.Dat.tup (p.2.map PyData.str)))=(D.lookup k).map fun ss=>KTD.Dat.tup (ss.map PyData.str)
  | []=>rfl
  | (x, d) :: D => by
    rw[map_cons, KTD.datumAt, lookup_cons, fD k D]
    by_cases hk : k=x
    · subst hk; simp
    · have : (k == x)=false := beq_eq_false_iff_ne.mpr hk
      simp[hk, this]
noncomputable def tIxT (td ty:TE) (K:PySem.W.Frag):TE:=fun σ H Q=>td σ H fun x H1=>ty σ H1 fun y H2=>∃ k a D ss,x=V.ref a/\y=V.str k/\oV K a D/\D.lookup k=some ss/\ss.length<=1000/\∀ b,(∀ H3,SqT K H3 b (ss.map V.str))->Q (.ref b) H2
theorem nZ {o i:Expr}{pos:Pos}{td ty:TE} (ho:PE X o td) (hi:PE X i ty) (hs:oX i):PE X (.Subscript o i pos) (tIxT td ty X.K):=by
 intro pins s σ H Q I h
 refine ig PySem.F.slot_dict_getitem.lookup hs (thn (ho pins s σ H _ I h) fun u s1 z_=>z_.elim fun x z_=>z_.elim fun H1 z_=>z_.elim fun I1 z_=>z_.elim fun rx q1=>thn (hi pins s1 σ H1 _ I1 q1) fun iv s2 z_=>z_.elim fun y z_=>z_.elim fun H2 z_=>z_.elim fun I2 z_=>z_.elim fun ry z_=>z_.elim fun k z_=>z_.elim fun a z_=>z_.elim fun D z_=>z_.elim fun ss z_=>z_.elim fun ex z_=>z_.elim fun ey z_=>z_.elim fun T z_=>z_.elim fun l z_=>z_.elim fun sb q2=>?_)
 subst ex ey
 obtain rfl:u=Value.ref a:=rx
 obtain⟨t,rfl⟩:=(show ∃ t,iv=Value.str k t from ry)
 have hT:=iS I2 T
 refine⟨hT.typeIs,?_⟩
 have hat:KTD.datumAt k (D.map fun p=>(p.1,KTD.Dat.tup (p.2.map PyData.str)))=some (KTD.Dat.tup (ss.map PyData.str)):=by rw[fD,l]; rfl
 have hmem:KTD.inKeys k (D.map fun p=>(p.1,KTD.Dat.tup (p.2.map PyData.str)))=true:=by rw[<- KTD.isSome_datumAt,hat]; rfl
 unfold getItem
 try with_reducible refine wpAny_holding ?_
 refine wpAny_bind (wpAny_sequenceKey hT.typeIs (by decide) ?_)
 refine wpAny_bind (wpAny_callSpecial?_slot (name:=Str.ofString "__getitem__") hT.typeIs slot_dict_getitem
  (wpAny_call_entry slot_dict_getitem hT.typeIs entry_dict_getitem ?_ (args_dict_getitem _ _)))
 show wpAny _ _ (dictGet a (.str k t) >>= _) _ _ s2
 refine wpAny_bind (KTD.dictGet_text hT (fun d v ha hv=>wpAny_pure ⟨v,U,wpAny_pure ?_⟩) fun hn=>absurd hn (KTD.at_of_mem hmem))
 rw[hat] at ha
 cases ha
 obtain⟨b,vs,rfl,⟨ob,e1,e2,n,e3⟩,fl⟩:=hv
 have lv:vs.length=ss.length:=by have:=fB fl; rw[length_map] at this; exact this
 exact⟨.ref b,H2,I2.tok _,U,q2 b fun _=>(.inr ⟨ob,vs.toArray,n,kc (fun b o e=>I2.kIn b o e) e1,e2,e3,by rw[size_toArray,lv]; exact Nat.le_of_lt (sizeOk (by omega)),by simpa using eg fl⟩)⟩
theorem kH {K:PySem.W.Frag}{a b:Addr}{xs ys:List V}{g:TG}{tb:TS}{D:Ends}{σ:St}{H:Hp} (hl:xs.length=ys.length) (Pv:Nat->St->Hp->Prop) (h0:Pv 0 σ H) (ha:∀ i σ H,i<=xs.length->Pv i σ H->SqT K H a xs/\SqT K H b ys)
  (hs:∀ i x y σ H p,xs[i]?=some x->ys[i]?=some y->Pv i σ H->H p=none->g (.ref p) σ (upd H p (.tup [x,y])) fun σ2 H2=>tb { D with nx:=Pv (i+1),ct:=Pv (i+1),bk:=D.nx } σ2 H2) (hd:∀ σ H,Pv xs.length σ H->D.nx σ H) :
  ∃ W:Nat->Nat->St->Hp->Prop,(∃ m,W 0 m σ H)/\∀ i m σ H,W i m σ H ->
   ((k6 K a b).stop i H/\D.nx σ H)∨((k6 K a b).go i H/\∃ N:St->Hp->Prop,(∀ σ' H',N σ' H'->∃ m',m'<m/\W (i+1) m' σ' H')/\∀ x H',(k6 K a b).yld i H x H'->g x σ H' fun σ2 H2=>tb { D with nx:=N,ct:=N,bk:=D.nx } σ2 H2):=by
 refine⟨fun i m σ H=>m=xs.length - i/\i<=xs.length/\Pv i σ H,⟨_,U,Nat.zero_le _,h0⟩,?_⟩
 rintro i m σ H ⟨rfl,hi,hp⟩
 obtain⟨qa,qb⟩:=ha i σ H hi hp
 by_cases c:i<xs.length
 ·refine .inr ⟨⟨xs,xs[i],ys,ys[i]'(by omega),qa,getElem?_eq_getElem c,qb,getElem?_eq_getElem (by omega)⟩,Pv (i+1),fun σ' H' h'=>⟨_,by omega,U,by omega,h'⟩,?_⟩
  rintro v H' ⟨p,x,y,rfl,hpn,rfl,hx,hy⟩
  exact hs i x y σ H p (hx _ qa) (hy _ qb) hp hpn
 ·have e:i=xs.length:=by omega
  subst e
  exact .inl ⟨⟨xs,ys,qa,qb,.inl (Nat.le_refl _)⟩,hd σ H hp⟩
end
section
variable {X:Cx}
theorem gP:cm X (.type "range") (fun xs H Q=>∃ i j:Int,xs=[.int i,.int j]/\∀ p,H p=none->Q (.ref p) (upd H p (.rng i j))):=by
 intro pins s σ H xs us Q I r h
 obtain⟨i,j,rfl,q⟩:=h
 obtain⟨u,u',rfl,⟨t,rfl⟩,⟨t',rfl⟩⟩:=ic r
 refine call_range_2 ⟨.ref s.heap.objs.size,_,I.laid (fun b o e=>Heap.get?_push_of_some _ e) (Nat.le_refl _) ?_,U,q _ (I.hok.fresh (Nat.le_refl _))⟩
 exact⟨_,_,_,Heap.get?_push_size _ rfl⟩
noncomputable def cv (lo:Int) (n:Nat):List V:=(List.range n).map fun(i:Nat)=>V.int (lo+(i:Int))
theorem bK (lo:Int) (n:Nat):(cv lo n).length=n:=by simp[cv]
theorem fu {lo:Int}{n i:Nat} (h:i<n):(cv lo n)[i]?=some (.int (lo+(i:Int))):=by simp[cv,h]
theorem eJ (hc:X.calm=true):cm X (.type "list") (fun xs H Q=>∃ p i j,xs=[.ref p]/\H p=some (.rng i j)/\0<=i/\i<=2 ^ 24/\0<=j/\j<=2 ^ 24/\∀ l,H l=none->Q (.ref l) (upd H l (.lst (cv i (j - i).toNat)))):=by
 intro pins s σ H xs us Q I r h
 obtain⟨p,i0,j,rfl,hp,h2,h3,h0,h1,q⟩:=h
 obtain⟨u,rfl,ru⟩:=c7 r
 cases (show u=Value.ref p from ru)
 obtain⟨t,u,v,e⟩:=(show ObjOk X.prog X.w H s.heap p (.rng i0 j) from I.hok p _ hp)
 have sz:((j - i0).toNat:Nat)<=sizeLine:=by rw[sizeLine_eq]; omega
 refine call_list_range (n:=(j - i0).toNat) (I.ok.hd hc) e (small_one (by omega) (by omega) (by omega) (by omega)) (by rw[rangeSize_one]; split <;> omega) (by omega) fun h' tk acc c hk hS hi=>?_
 refine⟨.ref s.heap.objs.size,_,I.laid hk (Nat.le_refl _) ?_,U,q _ (I.hok.fresh (Nat.le_refl _))⟩
 refine⟨by rw[bK]; exact sz,acc.toList,c,cu (P:=fun i v=>∃ t,v=.int (i0+i*1) t) (by rw[bK,Array.length_toList]; exact hi.1) (fun i v e=>hi.2 i v (by simpa using e)) (fun i v x ⟨t,e⟩ ex=>?_),by simpa using hS⟩
 subst e
 have hlt:i<(j - i0).toNat:=by
  have:=(List.getElem?_eq_some_iff.mp ex).1
  rw[bK] at this; exact this
 rw[fu hlt] at ex
 cases ex
 exact⟨t,by congr 1; omega⟩
end
mutual
noncomputable def DV (K:PySem.W.Frag) (H:Hp):PyData->V->Prop
 | .none,v=>v=.non
 | .bool b,v=>v=.bl b
 | .int i,v=>v=.int i
 | .str x,v=>v=.str x
 | .list ds,v=>∃ (a:Addr) (xs:List V),v=.ref a/\SqL K H a xs/\DVs K H ds xs
 | .tuple ds,v=>∃ (a:Addr) (xs:List V),v=.ref a/\SqT K H a xs/\DVs K H ds xs
 | .dict _,_=>False
noncomputable def DVs (K:PySem.W.Frag) (H:Hp):List PyData->List V->Prop
 | [],xs=>xs=[]
 | d::ds,xs=>∃ v r,xs=v::r/\DV K H d v/\DVs K H ds r
end
noncomputable def CXr (P:Program) (w:World):CXT:=fun outer H s E e s'=>∃ (a:Addr) (C a0:Value) (H':Hp) (B:Heap),e=.ref a/\Heap.FlyingW B outer a C a0 s'.heap/\s'.os=s.os/\AllBare s'.gens/\Un (frs outer) [] H H' s.heap s'.heap /\
 (∀ b o,s.heap.get? b=some o->H b=none->b ∉ frs outer->B.get? b=some o)/\(∀ b o,s.heap.get? b=some o->b ∉ frs outer->∃ o',B.get? b=some o')/\HOk P w H' B/\E C (some a) H'
noncomputable abbrev TJ:=Str->St->Hp->VK->Prop
end L2
set_option Elab.async false
set_option linter.all false
set_option maxRecDepth 100000
namespace L2
open PySem PySem.Spec PyProof.Rows PySem.Calls
noncomputable def ExcAt (x D:Addr) (h:Heap):Prop:=∃ o vs,h.get? x=some o/\o.cls=.ref D/\o.data=.fields vs
structure ExcCls (K:PySem.W.Frag) (D:Addr):Prop where
 ga:W.findIn K (.ref D) "__getattribute__" = some (some (.builtin "BaseException.__getattribute__"))
 gh:W.findIn K (.ref D) "__getattr__" = some none
 be:PySem.W.mroIn K D (.type "BaseException")=some true
 hd:W.hasDictIn K D=true
 at_:W.findIn K (.ref D) "__class__" = some (some (.builtin "object.__class__"))
 gt:PySem.W.specialIn K (.builtin "object.__class__") "__get__" = some (some (.builtin "getset_descriptor.__get__"))
 tk:PySem.W.takesIn K (.builtin "object.__class__")=some true
 ob:PySem.W.mroIn K D (.type "object")=some true
section
variable {K:PySem.W.Frag}{x D:Addr}
open PySem.W Builtin Builtin.ObjectAttr in
open PySem.W Builtin Builtin.ObjectAttr Builtin.Getset_descriptor in
open PySem.W Builtin Builtin.ObjectAttr in
open PySem.W Builtin Builtin.ObjectAttr in
open PySem.W Builtin Builtin.ObjectAttr in
end
end L2
set_option Elab.async false
set_option linter.all false
set_option maxRecDepth 100000
namespace L2
open PySem PySem.Spec PyProof.Rows
structure Flt (P:Program) (w:World) (outer:List Env) (H:Hp) (s:Shared) (H':Hp) (B h:Heap):Prop where
 stays:B.StaysIn h
 frames:h.FunFrames B outer
 slot:∀ b o,s.heap.get? b=some o->H b=none->b ∈ frs outer->∃ sl,h.get? b=some { o with slots:=sl }
 free:∀ b o,s.heap.get? b=some o->H b=none->H' b=none
 tups:∀ b xs,H b=some (.tup xs)->H' b=some (.tup xs)
 frzs:∀ b o u,H b=some (.frz o u)->H' b=some (.frz o u)
 tbls:∀ b ps,H b=some (.tbl ps)->∃ more,H' b=some (.tbl (ps++more))
 kb:∀ b o,s.heap.get? b=some o->H b=none->b ∉ frs outer->B.get? b=some o
 tb:∀ b o,s.heap.get? b=some o->b ∉ frs outer->∃ o',B.get? b=some o'
 hok:HOk P w H' B
noncomputable abbrev Cx.marked (X:Cx) (e:Addr):Cx:={ X with A:=X.A.mark (some (.ref e)),calm:=false,xe:=fun _ _=>False }
structure RoomQ (k:Nat) (A:Around):Prop where
 dp:A.depth+3*k+5<recursionLimit
 un:A.units+16*k+200<cLine
structure FnOkQ (P:Program) (w:World) (K:PySem.W.Frag) (mg:Str->Option Value) (base:Heap) (k:Nat) (f:Addr) (fd:FuncData) (ps:List Str) (sp:Sp):Prop where
 len:∀ vs H Q E,sp vs H Q E->vs.length=ps.length
 run:∀ (A:Around) (outer:List Env) (s:Shared) (H:Hp) (args:Args) (us:List Value) (vs:List V) (Q:VK) (E:XK),RoomQ k A->Env0 P w K mg base A outer s H->BindsTo s fd args (ps.zip us)->Vals vs us->sp vs H Q E ->
  codeAny (model P w) A (.call (.ref f) args) (CR CX0 outer P w H s Q E) s
structure Deed (P:Program) (w:World) (K:PySem.W.Frag) (mg:Str->Option Value) (base:Heap) (k:Nat) (s:Shared) (H:Hp) (outer:List Env) (g:Addr) (sp:Hp->VK->XK->Prop):Prop where
 fn:PySem.W.FnAt g s.heap
 un:H g=none
 nf:g ∉ frs outer
 run:∀ (A':Around) (outer':List Env) (s':Shared) (H':Hp) (Q:VK) (E:XK),Room k A'->Env0 P w K mg base A' outer' s' H' ->
  (∀ b o,s.heap.get? b=some o->H b=none->b ∉ frs outer->s'.heap.get? b=some o/\H' b=none)->(∀ b o u,H b=some (.frz o u)->H' b=some (.frz o u))->sp H' Q E->codeAny (model P w) A' (.call (.ref g) ⟨[],[]⟩) (CR (CXr P w) outer' P w H' s' Q E) s'
structure LamAt (h:Heap) (H:Hp) (fs:List Addr) (N:List Str) (σ:St) (qual:Str) (params:Arguments) (body:Expr) (scope:Scope) (cl:List (Str×Addr)) (g c':Addr):Prop where
 fn:∃ pm ctv,h.get? g=some (PySem.W.kla_obj "<lambda>" qual params body scope cl pm c' ctv)
 gn:H g=none/\g ∉ fs
 code:∃ o vs t,H c'=some (.frz o (.own 0))/\o.data=.fields vs/\vs[1]?=some (.str qual t)
 cells:∀ x c,cl.lookup x=some c->(∃ v,h.IsCell c v)/\H c=none/\c ∉ fs
 vals:∀ (i:Nat) (x:Str) (v:V),N[i]?=some x->σ[i]?=some (some v)->∃ u c,RelV v u/\cl.lookup x=some c/\h.IsCell c (some u)
structure RefOk (P:Program) (w:World) (K:PySem.W.Frag) (mg:Str->Option Value) (base:Heap) (k kd:Nat) (f:Addr) (rs:(Hp->VK->XK->Prop)->Hp->VK->Prop):Prop where
 run:∀ (A:Around) (outer:List Env) (s:Shared) (H:Hp) (g:Addr) (spD:Hp->VK->XK->Prop) (Q:VK),Room k A->Env0 P w K mg base A outer s H->Deed P w K mg base kd s H outer g spD->rs spD H Q ->
  codeAny (model P w) A (.call (.ref f) ⟨[.ref g],[]⟩) (CR CX0 outer P w H s Q E0) s
noncomputable def kY (i:Int):Prop:=i.natAbs.log2<1920
noncomputable def Asc (n:Nat) (y:Str):Prop:=y.length<=n/\∀ c ∈ y.cps.toList,c<128
structure Tb (L:Kn) (Pt:Addr) (qual:Str):Prop where
 ex:∃ ps:Array Value,(Pt,HO.tbl ps) ∈ L/\TriplesOk ps.toList/\∀ pos,codeAmong pos ps.toList=none∨∃ (c':Addr) (oc:Obj) (vs:Array Value) (t:Tok),codeAmong pos ps.toList=some (.ref c')/\(c',HO.frz oc (.own 0)) ∈ L/\oc.data=.fields vs/\vs[1]?=some (.str qual t)
noncomputable def SqB (b:Bool) (K:PySem.W.Frag) (H:Hp) (a:Addr) (xs:List V):Prop:=match b with | true=>SqL K H a xs | false=>SqT K H a xs
noncomputable def ItB (b:Bool) (K:PySem.W.Frag) (a:Addr):It:=match b with | true=>Itl K a | false=>Itt K a
noncomputable def nT (n:Int):Str:=Str.ofString (toString n)
end L2
set_option Elab.async false
set_option linter.all false
set_option maxRecDepth 100000
namespace L2
open PySem PySem.Spec PyProof.Rows
section
variable {X:Cx}{pins:List (Addr×Obj)}{σ:St}{H:Hp}{s:Shared}
theorem Inv.thaw {p:Addr}{ob:Obj}{u:HO} (I:Inv X pins σ H s) (e:H p=some (.frz ob u)) (hn:∀ o v,X.H₀ p≠some (.frz o v)) (hu:∀ xs,u≠.tup xs):Inv X pins σ (upd H p u) s:=by
 obtain⟨_,ok⟩:=(show s.heap.get? p=some ob/\ObjOk X.prog X.w H s.heap p u from I.hok p _ e)
 have np:∀ b,H b=none->b≠p:=fun b q z=>by rw[z,e] at q; cases q
 refine⟨I.ok,I.os,I.bare,⟨I.base.keep,I.base.slot,fun b ob e2 n hx=>?_,I.base.there,fun b xs e2=>?_,fun b ob2 u2 e2=>?_,fun b ps e2=>?_⟩,I.loc,I.cell,by rw[av (fun z=>np _ I.free z)]; exact I.free,fun x c q=>by rw[av (np c (I.freeC x c q))]; exact I.freeC x c q,fun q hq=>?_,fun b u2 e2=>?_,I.len⟩
 ·have:=I.base.free b ob e2 n hx
  rw[av (np b this)]; exact this
 ·have:=I.base.tups b xs e2
  rw[av (fun z=>by rw[z,e] at this; cases this)]; exact this
 ·have:=I.base.frzs b ob2 u2 e2
  rw[av (fun z=>by rw[z] at e2; exact hn _ _ e2)]; exact this
 ·obtain⟨more,e3⟩:=I.base.tbls b ps e2
  exact⟨more,by rw[av (fun z=>by rw[z,e] at e3; cases e3)]; exact e3⟩
 ·obtain⟨a1,a2,a3,a4,a5⟩:=I.pin q hq
  exact⟨a1,by rw[av (np _ a2)]; exact a2,a3,a4,a5⟩
 ·have own:∀ c y,H c=some (.own y)->upd H p u c=some (.own y):=fun c y q=>by rw[av (fun z=>by rw[z,e] at q; cases q)]; exact q
  have tup:∀ c xs,H c=some (.tup xs)->upd H p u c=some (.tup xs):=fun c xs q=>by rw[av (fun z=>by rw[z,e] at q; cases q)]; exact q
  by_cases hb:b=p
  ·subst hb; rw[bw] at e2; cases e2
   exact ok.stay (fun _ _ _ q=>q) (fun c q=>own c _ q) fun c xs q=>tup c xs q
  ·rw[av hb] at e2
   exact(I.hok b u2 e2).stay (fun _ _ _ q=>q) (fun c q=>own c _ q) fun c xs q=>tup c xs q
theorem Inv.unfrz {p:Addr}{u:HO} (I:Inv X pins σ H s) (e:H p=some u) (hu:∀ o v,u≠.frz o v):∀ o v,X.H₀ p≠some (.frz o v):=fun o v q=>by
 have:=I.base.frzs p o v q
 rw[e] at this
 cases this
 exact hu o v rfl
end
theorem et:entryFor table "dict_itemiterator.__iter__" = some Builtin.«dict_keyiterator.__iter__» :=
 entryFor_alias (id' := "dict_keyiterator.__iter__") (by kernel_rfl) rfl (by decide +kernel) (by kernel_rfl)
end L2
set_option Elab.async false
set_option linter.all false
set_option maxRecDepth 100000
set_option maxHeartbeats 4000000
namespace P
open PySem L2
noncomputable def top (i:Nat):Stmt:=PySem.Challenge.pw_lazyrails_k46_whole_size_of_the_rails.main.body.getD i (.Pass ⟨0,0,0,0⟩)
noncomputable abbrev mH:Stmt:=top 63
noncomputable abbrev iy:Stmt:=top 58
noncomputable abbrev jR:Stmt:=top 61
noncomputable abbrev iu:Stmt:=top 60
noncomputable abbrev mG:Stmt:=top 59
noncomputable abbrev gq:Stmt:=top 51
noncomputable abbrev o7:Stmt:=top 52
noncomputable abbrev pw:Stmt:=top 55
noncomputable abbrev mI:Stmt:=top 23
noncomputable abbrev iw:Stmt:=top 21
noncomputable abbrev pD:Stmt:=top 56
noncomputable abbrev mM:Stmt:=top 22
noncomputable abbrev mL:Stmt:=top 53
noncomputable abbrev o6:Stmt:=top 54
noncomputable abbrev iq:Stmt:=top 24
noncomputable abbrev mJ:Stmt:=top 45
noncomputable abbrev jQ:Stmt:=top 62
noncomputable abbrev pA:Stmt:=top 32
noncomputable abbrev pC:Stmt:=top 40
noncomputable abbrev py:Stmt:=top 33
noncomputable abbrev px:Stmt:=top 38
noncomputable abbrev pL:Stmt:=top 39
noncomputable abbrev pq:Stmt:=top 42
noncomputable abbrev pK:Stmt:=top 41
noncomputable abbrev pj:Stmt:=top 31
noncomputable abbrev mK:Stmt:=top 29
noncomputable abbrev mQ:Stmt:=top 30
noncomputable abbrev ph:Stmt:=aO (top 49) 0
noncomputable abbrev nM:Stmt:=aO (top 43) 0
noncomputable abbrev pU:Stmt:=aO (top 43) 6
noncomputable abbrev pG:Stmt:=aO (top 43) 3
noncomputable abbrev pS:Stmt:=aO (top 43) 7
noncomputable abbrev pR:Stmt:=aO (top 43) 8
noncomputable abbrev pT:Stmt:=aO (top 43) 9
noncomputable abbrev lA:Stmt:=aO (top 50) 0
noncomputable abbrev pf:Stmt:=aO (top 47) 0
noncomputable abbrev pB:Stmt:=aO (top 47) 12
noncomputable abbrev mP:Stmt:=aO (top 47) 7
noncomputable abbrev pQ:Stmt:=aO (top 47) 25
noncomputable abbrev pP:Stmt:=aO (top 47) 23
noncomputable abbrev pO:Stmt:=aO (top 47) 22
noncomputable abbrev pF:Stmt:=aO (top 47) 2
noncomputable abbrev pe:Stmt:=aO (top 49) 1
noncomputable abbrev pJ:Stmt:=aO (top 43) 1
noncomputable abbrev pN:Stmt:=aO (top 43) 2
noncomputable abbrev mO:Stmt:=aO (top 47) 1
noncomputable abbrev pM:Stmt:=aO (top 47) 24
noncomputable abbrev pE:Stmt:=aO (top 43) 4
noncomputable abbrev pc:Stmt:=aO (top 47) 4
noncomputable abbrev o8:Stmt:=aO (top 50) 1
noncomputable abbrev pI:Stmt:=aO (top 49) 4
noncomputable abbrev pH:Stmt:=aO (top 49) 3
set_option genInjectivity false in
set_option genSizeOf false in
structure Adr where
 f_law:Addr
 d_law:FuncData
 v_law:Value
 f_draws:Addr
 d_draws:FuncData
 f_J31:Addr
 d_J31:FuncData
 f_parts:Addr
 d_parts:FuncData
 f_row:Addr
 d_row:FuncData
 f_J41:Addr
 d_J41:FuncData
 f_Jy:Addr
 d_Jy:FuncData
 f_Jp:Addr
 d_Jp:FuncData
 f_fan:Addr
 d_fan:FuncData
 f_merge:Addr
 d_merge:FuncData
 f_Jj:Addr
 d_Jj:FuncData
 f_J51:Addr
 d_J51:FuncData
 f_J61:Addr
 d_J61:FuncData
 f_Jz:Addr
 d_Jz:FuncData
 f_tally:Addr
 d_tally:FuncData
 f_J81:Addr
 d_J81:FuncData
 f_J91:Addr
 d_J91:FuncData
 f_Jm:Addr
 d_Jm:FuncData
 f_Jk:Addr
 d_Jk:FuncData
 f_Jn:Addr
 d_Jn:FuncData
 f_Jo:Addr
 d_Jo:FuncData
 f_Ja:Addr
 d_Ja:FuncData
 f_Jq:Addr
 d_Jq:FuncData
 f_Jb:Addr
 d_Jb:FuncData
 f_Jr:Addr
 d_Jr:FuncData
 f_J71:Addr
 d_J71:FuncData
 f_J01:Addr
 d_J01:FuncData
 f_Js:Addr
 d_Js:FuncData
 f_Jf:Addr
 d_Jf:FuncData
 f_J0:Addr
 d_J0:FuncData
 f_Jg:Addr
 d_Jg:FuncData
 f_J2:Addr
 d_J2:FuncData
 f_J3:Addr
 d_J3:FuncData
 f_J1:Addr
 d_J1:FuncData
 f_Jt:Addr
 d_Jt:FuncData
 f_Ju:Addr
 d_Ju:FuncData
 f_Jl:Addr
 d_Jl:FuncData
 f_J11:Addr
 d_J11:FuncData
 f_J5:Addr
 d_J5:FuncData
 f_J6:Addr
 d_J6:FuncData
 f_J7:Addr
 d_J7:FuncData
 f_Jh:Addr
 d_Jh:FuncData
 v_Jh:Value
 f_Jv:Addr
 d_Jv:FuncData
 f_Jc:Addr
 d_Jc:FuncData
 f_J8:Addr
 d_J8:FuncData
 f_J21:Addr
 d_J21:FuncData
 v_J21:Value
 f_J9:Addr
 d_J9:FuncData
 f_Ji:Addr
 d_Ji:FuncData
 f_Jw:Addr
 d_Jw:FuncData
 f_Jx:Addr
 d_Jx:FuncData
 f_Jd:Addr
 d_Jd:FuncData
 f_Je:Addr
 d_Je:FuncData
 c_Laid:Addr
 c_Program:Addr
 c_Ways:Addr
 c_Yard:Addr
 u_ENDS:Value
 u_LAST_NOTE:Value
 u_LAST_WORDS:Value
 u_PARTS:Value
 u_POINTS:Value
 u_WIDEST:Value
structure Txt (K:PySem.W.Frag) (mg:Str->Option Value) (t:Adr):Prop where
 F_law:FunG K "law" "law" mH t.v_law t.f_law t.d_law
 F_draws:FunG K "_law_draws" "_law_draws" iy .none t.f_draws t.d_draws
 F_J31:FunG K "_law_program" "_law_program" jR .none t.f_J31 t.d_J31
 F_parts:FunG K "_law_parts" "_law_parts" iu .none t.f_parts t.d_parts
 F_row:FunG K "_law_row" "_law_row" mG .none t.f_row t.d_row
 F_J41:FunG K "lay_out" "lay_out" gq .none t.f_J41 t.d_J41
 F_Jy:FunG K "lay_ways" "lay_ways" o7 .none t.f_Jy t.d_Jy
 F_Jp:FunG K "lay_calls" "lay_calls" pw .none t.f_Jp t.d_Jp
 F_fan:FunG K "fan" "fan" mI .none t.f_fan t.d_fan
 F_merge:FunG K "merge" "merge" iw .none t.f_merge t.d_merge
 F_Jj:FunG K "lay_doorway" "lay_doorway" pD .none t.f_Jj t.d_Jj
 F_J51:FunG K "doorway" "doorway" mM .none t.f_J51 t.d_J51
 F_J61:FunG K "lay_row" "lay_row" mL .none t.f_J61 t.d_J61
 F_Jz:FunG K "lay_deed" "lay_deed" o6 .none t.f_Jz t.d_Jz
 F_tally:FunG K "tally" "tally" iq .none t.f_tally t.d_tally
 F_J81:FunG K "onward" "onward" mJ .none t.f_J81 t.d_J81
 F_J91:FunG K "_law_copied" "_law_copied" jQ .none t.f_J91 t.d_J91
 F_Jm:FunG K "check_side" "check_side" pA .none t.f_Jm t.d_Jm
 F_Jk:FunG K "check_width" "check_width" pC .none t.f_Jk t.d_Jk
 F_Jn:FunG K "check_note" "check_note" py .none t.f_Jn t.d_Jn
 F_Jo:FunG K "check_mark" "check_mark" px .none t.f_Jo t.d_Jo
 F_Ja:FunG K "check_counter" "check_counter" pL .none t.f_Ja t.d_Ja
 F_Jq:FunG K "check_row" "check_row" pq .none t.f_Jq t.d_Jq
 F_Jb:FunG K "check_stretch" "check_stretch" pK .none t.f_Jb t.d_Jb
 F_Jr:FunG K "check_end" "check_end" pj .none t.f_Jr t.d_Jr
 F_J71:FunG K "ends_of" "ends_of" mK .none t.f_J71 t.d_J71
 F_J01:FunG K "is_point" "is_point" mQ .none t.f_J01 t.d_J01
 F_Js:FunG K "__init__" "Laid.__init__" ph .none t.f_Js t.d_Js
 F_Jf:FunG K "__init__" "Program.__init__" nM .none t.f_Jf t.d_Jf
 F_J0:FunG K "check_beginning" "Program.check_beginning" pU .none t.f_J0 t.d_J0
 F_Jg:FunG K "many" "Program.many" pG .none t.f_Jg t.d_Jg
 F_J2:FunG K "check_rows" "Program.check_rows" pS .none t.f_J2 t.d_J2
 F_J3:FunG K "check_part" "Program.check_part" pR .none t.f_J3 t.d_J3
 F_J1:FunG K "check_called" "Program.check_called" pT .none t.f_J1 t.d_J1
 F_Jt:FunG K "__init__" "Ways.__init__" lA .none t.f_Jt t.d_Jt
 F_Ju:FunG K "__init__" "Yard.__init__" pf .none t.f_Ju t.d_Ju
 F_Jl:FunG K "pieces" "Yard.pieces" pB .none t.f_Jl t.d_Jl
 F_J11:FunG K "put" "Yard.put" mP .none t.f_J11 t.d_J11
 F_J5:FunG K "check_there" "Yard.check_there" pQ .none t.f_J5 t.d_J5
 F_J6:FunG K "check_piece" "Yard.check_piece" pP .none t.f_J6 t.d_J6
 F_J7:FunG K "end_trail" "Yard.end_trail" pO .none t.f_J7 t.d_J7
 F_Jh:FunG K "new_rod" "Yard.new_rod" pF t.v_Jh t.f_Jh t.d_Jh
 F_Jv:FunG K "door" "Laid.door" pe .none t.f_Jv t.d_Jv
 F_Jc:FunG K "marks" "Program.marks" pJ .none t.f_Jc t.d_Jc
 F_J8:FunG K "widths" "Program.widths" pN .none t.f_J8 t.d_J8
 F_J21:FunG K "lay" "Yard.lay" mO t.v_J21 t.f_J21 t.d_J21
 F_J9:FunG K "check_rod" "Yard.check_rod" pM .none t.f_J9 t.d_J9
 F_Ji:FunG K "rows" "Program.rows" pE .none t.f_Ji t.d_Ji
 F_Jw:FunG K "link" "Yard.link" pc .none t.f_Jw t.d_Jw
 F_Jx:FunG K "lead" "Ways.lead" o8 .none t.f_Jx t.d_Jx
 F_Jd:FunG K "bit_rods" "Laid.bit_rods" pI .none t.f_Jd t.d_Jd
 F_Je:FunG K "mark_rod" "Laid.mark_rod" pH .none t.f_Je t.d_Je
 m_law:mg "law" = some (.ref t.f_law)
 e_law:t.v_law=.none
 m_draws:mg "_law_draws" = some (.ref t.f_draws)
 m_J31:mg "_law_program" = some (.ref t.f_J31)
 m_parts:mg "_law_parts" = some (.ref t.f_parts)
 m_row:mg "_law_row" = some (.ref t.f_row)
 m_J41:mg "lay_out" = some (.ref t.f_J41)
 m_Jy:mg "lay_ways" = some (.ref t.f_Jy)
 m_Jp:mg "lay_calls" = some (.ref t.f_Jp)
 m_fan:mg "fan" = some (.ref t.f_fan)
 m_merge:mg "merge" = some (.ref t.f_merge)
 m_Jj:mg "lay_doorway" = some (.ref t.f_Jj)
 m_J51:mg "doorway" = some (.ref t.f_J51)
 m_J61:mg "lay_row" = some (.ref t.f_J61)
 m_Jz:mg "lay_deed" = some (.ref t.f_Jz)
 m_tally:mg "tally" = some (.ref t.f_tally)
 m_J81:mg "onward" = some (.ref t.f_J81)
 m_J91:mg "_law_copied" = some (.ref t.f_J91)
 m_Jm:mg "check_side" = some (.ref t.f_Jm)
 m_Jk:mg "check_width" = some (.ref t.f_Jk)
 m_Jn:mg "check_note" = some (.ref t.f_Jn)
 m_Jo:mg "check_mark" = some (.ref t.f_Jo)
 m_Ja:mg "check_counter" = some (.ref t.f_Ja)
 m_Jq:mg "check_row" = some (.ref t.f_Jq)
 m_Jb:mg "check_stretch" = some (.ref t.f_Jb)
 m_Jr:mg "check_end" = some (.ref t.f_Jr)
 m_J71:mg "ends_of" = some (.ref t.f_J71)
 m_J01:mg "is_point" = some (.ref t.f_J01)
 M_J0:Meth K t.c_Program "check_beginning" t.f_J0
 M_Jg:Meth K t.c_Program "many" t.f_Jg
 M_J2:Meth K t.c_Program "check_rows" t.f_J2
 M_J3:Meth K t.c_Program "check_part" t.f_J3
 M_J1:Meth K t.c_Program "check_called" t.f_J1
 M_Jl:Meth K t.c_Yard "pieces" t.f_Jl
 M_J11:Meth K t.c_Yard "put" t.f_J11
 M_J5:Meth K t.c_Yard "check_there" t.f_J5
 M_J6:Meth K t.c_Yard "check_piece" t.f_J6
 M_J7:Meth K t.c_Yard "end_trail" t.f_J7
 M_Jh:Meth K t.c_Yard "new_rod" t.f_Jh
 D_Jh:∃ (T:Addr) (od:Option Addr) (n:Nat) (sl:Array (Option Value)) (tk0:Tok),t.v_Jh=.ref T/\K.lookup T=some ⟨.type "tuple",od,.seq #[.int 1 tk0] n,sl⟩
 M_Jv:Meth K t.c_Laid "door" t.f_Jv
 M_Jc:Meth K t.c_Program "marks" t.f_Jc
 M_J8:Meth K t.c_Program "widths" t.f_J8
 M_J21:Meth K t.c_Yard "lay" t.f_J21
 D_J21:∃ (T:Addr) (od:Option Addr) (n:Nat) (sl:Array (Option Value)) (tk0:Tok),t.v_J21=.ref T/\K.lookup T=some ⟨.type "tuple",od,.seq #[.int 0 tk0,.none] n,sl⟩
 M_J9:Meth K t.c_Yard "check_rod" t.f_J9
 M_Ji:Meth K t.c_Program "rows" t.f_Ji
 M_Jw:Meth K t.c_Yard "link" t.f_Jw
 M_Jx:Meth K t.c_Ways "lead" t.f_Jx
 M_Jd:Meth K t.c_Laid "bit_rods" t.f_Jd
 M_Je:Meth K t.c_Laid "mark_rod" t.f_Je
 cl_Laid:Cls K t.c_Laid
 m_Laid:mg "Laid" = some (.ref t.c_Laid)
 mk_Laid:Mk K t.c_Laid t.f_Js
 n_Laid_yard:NoAttr K t.c_Laid "yard"
 n_Laid_doors:NoAttr K t.c_Laid "doors"
 n_Laid_mark_rods:NoAttr K t.c_Laid "mark_rods"
 n_Laid_counter_rods:NoAttr K t.c_Laid "counter_rods"
 n_Laid_rows_at:NoAttr K t.c_Laid "rows_at"
 cl_Program:Cls K t.c_Program
 m_Program:mg "Program" = some (.ref t.c_Program)
 mk_Program:Mk K t.c_Program t.f_Jf
 n_Program_mark_sides:NoAttr K t.c_Program "mark_sides"
 n_Program_counter_widths:NoAttr K t.c_Program "counter_widths"
 n_Program_stretches:NoAttr K t.c_Program "stretches"
 cl_Ways:Cls K t.c_Ways
 m_Ways:mg "Ways" = some (.ref t.c_Ways)
 mk_Ways:Mk K t.c_Ways t.f_Jt
 n_Ways_to_doors:NoAttr K t.c_Ways "to_doors"
 n_Ways_to_stretches:NoAttr K t.c_Ways "to_stretches"
 n_Ways_to_callers:NoAttr K t.c_Ways "to_callers"
 cl_Yard:Cls K t.c_Yard
 m_Yard:mg "Yard" = some (.ref t.c_Yard)
 mk_Yard:Mk K t.c_Yard t.f_Ju
 n_Yard_next_piece:NoAttr K t.c_Yard "next_piece"
 n_Yard_kinds:NoAttr K t.c_Yard "kinds"
 n_Yard_notes:NoAttr K t.c_Yard "notes"
 n_Yard_rods_under:NoAttr K t.c_Yard "rods_under"
 n_Yard_sides:NoAttr K t.c_Yard "sides"
 n_Yard_mates:NoAttr K t.c_Yard "mates"
 n_Yard_engine_end:NoAttr K t.c_Yard "engine_end"
 n_Yard_rung:NoAttr K t.c_Yard "rung"
 n_Yard_trail:NoAttr K t.c_Yard "trail"
 z_abs:mg "abs" = none
 z_enumerate:mg "enumerate" = none
 z_int:mg "int" = none
 z_isinstance:mg "isinstance" = none
 z_len:mg "len" = none
 z_list:mg "list" = none
 z_range:mg "range" = none
 z_zip:mg "zip" = none
 g_ENDS:mg "ENDS" = some t.u_ENDS
 x_ENDS:∃ a,t.u_ENDS=.ref a/\l7 K a [("line",.int 2),("bell",.int 2),("stop",.int 1),("still",.int 3),("lazy",.int 3),("turning",.int 3)]
 g_LAST_NOTE:mg "LAST_NOTE" = some t.u_LAST_NOTE
 r_LAST_NOTE:RelV (.int 9999) t.u_LAST_NOTE
 g_LAST_WORDS:mg "LAST_WORDS" = some t.u_LAST_WORDS
 x_LAST_WORDS:∃ (a:Addr) (o:Obj) (its:Array Value) (n:Nat),t.u_LAST_WORDS=.ref a/\K.lookup a=some o/\o.cls=.type "tuple" /\ o.data=.seq its n/\its.size<=sizeLine/\Vals [.str "ask",.str "go",.str "end"] its.toList
 g_PARTS:mg "PARTS" = some t.u_PARTS
 x_PARTS:∃ a,t.u_PARTS=.ref a/\oV K a [("bell",["note"]),("set",["mark","side"]),("ask",["mark","row","row"]),("bump",["counter","row"]),("go",["row"]),("call",["stretch"]),("end",[])]
 g_POINTS:mg "POINTS" = some t.u_POINTS
 x_POINTS:∃ (a:Addr) (o:Obj) (its:Array Value) (n:Nat),t.u_POINTS=.ref a/\K.lookup a=some o/\o.cls=.type "tuple" /\ o.data=.seq its n/\its.size<=sizeLine/\Vals [.str "still",.str "lazy",.str "turning"] its.toList
 g_WIDEST:mg "WIDEST" = some t.u_WIDEST
 r_WIDEST:RelV (.int 8) t.u_WIDEST
section
variable {K:PySem.W.Frag}{mg:Str->Option Value}{t:Adr}
theorem bi1 {x q:Str}{st:Stmt}{dV:Value}{f:Addr}{fd:FuncData}{a0:Str} (F:FunG K x q st dV f fd) (e:dV=.none:=by rfl) (h:∀ (kV doc pm:Value) (an:Option Addr) (cdv ct u0:Value),bindArgs (W.fnOf x q (bB st) (br st) (ai st) .none kV doc pm an cdv ct) ⟨[u0],[]⟩=pure [(a0,u0)]:=by intros; rfl):Binds K fd [a0] []:=by
 subst e
 exact F.binds fun kV doc pm an cdv ct us hl=>match us,hl with | [u0],_=>h kV doc pm an cdv ct u0
theorem bi2 {x q:Str}{st:Stmt}{dV:Value}{f:Addr}{fd:FuncData}{a0 a1:Str} (F:FunG K x q st dV f fd) (e:dV=.none:=by rfl) (h:∀ (kV doc pm:Value) (an:Option Addr) (cdv ct u0 u1:Value),bindArgs (W.fnOf x q (bB st) (br st) (ai st) .none kV doc pm an cdv ct) ⟨[u0,u1],[]⟩=pure [(a0,u0),(a1,u1)]:=by intros; rfl):Binds K fd [a0,a1] []:=by
 subst e
 exact F.binds fun kV doc pm an cdv ct us hl=>match us,hl with | [u0,u1],_=>h kV doc pm an cdv ct u0 u1
theorem bi3 {x q:Str}{st:Stmt}{dV:Value}{f:Addr}{fd:FuncData}{a0 a1 a2:Str} (F:FunG K x q st dV f fd) (e:dV=.none:=by rfl) (h:∀ (kV doc pm:Value) (an:Option Addr) (cdv ct u0 u1 u2:Value),bindArgs (W.fnOf x q (bB st) (br st) (ai st) .none kV doc pm an cdv ct) ⟨[u0,u1,u2],[]⟩=pure [(a0,u0),(a1,u1),(a2,u2)]:=by intros; rfl):Binds K fd [a0,a1,a2] []:=by
 subst e
 exact F.binds fun kV doc pm an cdv ct us hl=>match us,hl with | [u0,u1,u2],_=>h kV doc pm an cdv ct u0 u1 u2
theorem bi4 {x q:Str}{st:Stmt}{dV:Value}{f:Addr}{fd:FuncData}{a0 a1 a2 a3:Str} (F:FunG K x q st dV f fd) (e:dV=.none:=by rfl) (h:∀ (kV doc pm:Value) (an:Option Addr) (cdv ct u0 u1 u2 u3:Value),bindArgs (W.fnOf x q (bB st) (br st) (ai st) .none kV doc pm an cdv ct) ⟨[u0,u1,u2,u3],[]⟩=pure [(a0,u0),(a1,u1),(a2,u2),(a3,u3)]:=by intros; rfl):Binds K fd [a0,a1,a2,a3] []:=by
 subst e
 exact F.binds fun kV doc pm an cdv ct us hl=>match us,hl with | [u0,u1,u2,u3],_=>h kV doc pm an cdv ct u0 u1 u2 u3
theorem bi5 {x q:Str}{st:Stmt}{dV:Value}{f:Addr}{fd:FuncData}{a0 a1 a2 a3 a4:Str} (F:FunG K x q st dV f fd) (e:dV=.none:=by rfl) (h:∀ (kV doc pm:Value) (an:Option Addr) (cdv ct u0 u1 u2 u3 u4:Value),bindArgs (W.fnOf x q (bB st) (br st) (ai st) .none kV doc pm an cdv ct) ⟨[u0,u1,u2,u3,u4],[]⟩=pure [(a0,u0),(a1,u1),(a2,u2),(a3,u3),(a4,u4)]:=by intros; rfl):Binds K fd [a0,a1,a2,a3,a4] []:=by
 subst e
 exact F.binds fun kV doc pm an cdv ct us hl=>match us,hl with | [u0,u1,u2,u3,u4],_=>h kV doc pm an cdv ct u0 u1 u2 u3 u4
theorem bi7 {x q:Str}{st:Stmt}{dV:Value}{f:Addr}{fd:FuncData}{a0 a1 a2 a3 a4 a5 a6:Str} (F:FunG K x q st dV f fd) (e:dV=.none:=by rfl) (h:∀ (kV doc pm:Value) (an:Option Addr) (cdv ct u0 u1 u2 u3 u4 u5 u6:Value),bindArgs (W.fnOf x q (bB st) (br st) (ai st) .none kV doc pm an cdv ct) ⟨[u0,u1,u2,u3,u4,u5,u6],[]⟩=pure [(a0,u0),(a1,u1),(a2,u2),(a3,u3),(a4,u4),(a5,u5),(a6,u6)]:=by intros; rfl):Binds K fd [a0,a1,a2,a3,a4,a5,a6] []:=by
 subst e
 exact F.binds fun kV doc pm an cdv ct us hl=>match us,hl with | [u0,u1,u2,u3,u4,u5,u6],_=>h kV doc pm an cdv ct u0 u1 u2 u3 u4 u5 u6
@[elab_as_elim] theorem lx2 {motive:List Value->Prop} (h:∀ a b,motive [a,b]):∀ us:List Value,us.length=2->motive us
 | [_,_],_=>h _ _
theorem l0 (T:Txt K mg t):Binds K t.d_draws ["_law_script","_law_many"] []:=bi2 T.F_draws
theorem b_J31 (T:Txt K mg t):Binds K t.d_J31 ["_law_d"] []:=bi1 T.F_J31
theorem lZ (T:Txt K mg t):Binds K t.d_parts ["_law_d","_law_at","_law_marks","_law_counters"] []:=bi4 T.F_parts
theorem b_row (T:Txt K mg t):Binds K t.d_row ["_law_d","_law_k","_law_more","_law_many","_law_marks","_law_counters","_law_later"] []:=bi7 T.F_row
theorem b_J41 (T:Txt K mg t):Binds K t.d_J41 ["program"] []:=bi1 T.F_J41
theorem b_Jy (T:Txt K mg t):Binds K t.d_Jy ["laid","program"] []:=bi2 T.F_Jy
theorem b_Jp (T:Txt K mg t):Binds K t.d_Jp ["yard","ways","stretch"] []:=bi3 T.F_Jp
theorem b_fan (T:Txt K mg t):Binds K t.d_fan ["yard","many"] []:=bi2 T.F_fan
theorem dA (T:Txt K mg t):Binds K t.d_merge ["yard","outs","end"] []:=bi3 T.F_merge
theorem p9 (T:Txt K mg t):Binds K t.d_Jj ["yard","ways","end","place"] []:=bi4 T.F_Jj
theorem b_J51 (T:Txt K mg t):Binds K t.d_J51 ["yard"] []:=bi1 T.F_J51
theorem b_J61 (T:Txt K mg t):Binds K t.d_J61 ["laid","ways","row","stretch","number"] []:=bi5 T.F_J61
theorem b_Jz (T:Txt K mg t):Binds K t.d_Jz ["laid","row","out"] []:=bi3 T.F_Jz
theorem lY (T:Txt K mg t):Binds K t.d_tally ["yard","rods"] []:=bi2 T.F_tally
theorem b_J81 (T:Txt K mg t):Binds K t.d_J81 ["row","stretch","number"] []:=bi3 T.F_J81
theorem b_J91 (T:Txt K mg t):Binds K t.d_J91 ["_law_parts_here"] []:=bi1 T.F_J91
theorem oS (T:Txt K mg t):Binds K t.d_Jm ["side"] []:=bi1 T.F_Jm
theorem b_Jk (T:Txt K mg t):Binds K t.d_Jk ["width"] []:=bi1 T.F_Jk
theorem p0 (T:Txt K mg t):Binds K t.d_Jn ["note"] []:=bi1 T.F_Jn
theorem pZ (T:Txt K mg t):Binds K t.d_Jo ["mark","many"] []:=bi2 T.F_Jo
theorem qe (T:Txt K mg t):Binds K t.d_Ja ["counter","many"] []:=bi2 T.F_Ja
theorem pY (T:Txt K mg t):Binds K t.d_Jq ["row","many"] []:=bi2 T.F_Jq
theorem oT (T:Txt K mg t):Binds K t.d_Jb ["stretch","many"] []:=bi2 T.F_Jb
theorem b_Jr (T:Txt K mg t):Binds K t.d_Jr ["kind","end"] []:=bi2 T.F_Jr
theorem b_J71 (T:Txt K mg t):Binds K t.d_J71 ["kind"] []:=bi1 T.F_J71
theorem b_J01 (T:Txt K mg t):Binds K t.d_J01 ["kind"] []:=bi1 T.F_J01
theorem b_Js (T:Txt K mg t):Binds K t.d_Js ["self","yard","doors","mark_rods","counter_rods"] []:=bi5 T.F_Js
theorem b_Jf (T:Txt K mg t):Binds K t.d_Jf ["self","marks","widths","stretches"] []:=bi4 T.F_Jf
theorem b_J0 (T:Txt K mg t):Binds K t.d_J0 ["self"] []:=bi1 T.F_J0
theorem hX (T:Txt K mg t):Binds K t.d_Jg ["self"] []:=bi1 T.F_Jg
theorem b_J2 (T:Txt K mg t):Binds K t.d_J2 ["self","stretch"] []:=bi2 T.F_J2
theorem b_J3 (T:Txt K mg t):Binds K t.d_J3 ["self","part","number","stretch"] []:=bi4 T.F_J3
theorem b_J1 (T:Txt K mg t):Binds K t.d_J1 ["self","called","stretch"] []:=bi3 T.F_J1
theorem b_Jt (T:Txt K mg t):Binds K t.d_Jt ["self","many"] []:=bi2 T.F_Jt
theorem b_Ju (T:Txt K mg t):Binds K t.d_Ju ["self"] []:=bi1 T.F_Ju
theorem b_Jl (T:Txt K mg t):Binds K t.d_Jl ["self"] []:=bi1 T.F_Jl
theorem b_J11 (T:Txt K mg t):Binds K t.d_J11 ["self","end"] []:=bi2 T.F_J11
theorem oU (T:Txt K mg t):Binds K t.d_J5 ["self","end"] []:=bi2 T.F_J5
theorem b_J6 (T:Txt K mg t):Binds K t.d_J6 ["self","piece"] []:=bi2 T.F_J6
theorem l3 (T:Txt K mg t):Binds K t.d_J7 ["self"] []:=bi1 T.F_J7
theorem oR (T:Txt K mg t):Binds K t.d_Jv ["self","stretch","row"] []:=bi3 T.F_Jv
theorem b_Jc (T:Txt K mg t):Binds K t.d_Jc ["self"] []:=bi1 T.F_Jc
theorem b_J8 (T:Txt K mg t):Binds K t.d_J8 ["self"] []:=bi1 T.F_J8
theorem b_J9 (T:Txt K mg t):Binds K t.d_J9 ["self","rod"] []:=bi2 T.F_J9
theorem qc (T:Txt K mg t):Binds K t.d_Ji ["self","stretch"] []:=bi2 T.F_Ji
theorem eL (T:Txt K mg t):Binds K t.d_Jw ["self","one","other"] []:=bi3 T.F_Jw
theorem pX (T:Txt K mg t):Binds K t.d_Jx ["self","end","place"] []:=bi3 T.F_Jx
theorem b_Jd (T:Txt K mg t):Binds K t.d_Jd ["self","counter"] []:=bi2 T.F_Jd
theorem qd (T:Txt K mg t):Binds K t.d_Je ["self","mark"] []:=bi2 T.F_Je
theorem l4 (T:Txt K mg t):∃ ds:List Value,Vals [] ds/\Binds K t.d_Jh ["self","side"] ds:=by
 obtain⟨Td,od,n,sl,tk0,e1,e2⟩:=T.D_Jh
 obtain⟨oc,od2,kV,doc,pm,an,cdv,ct,osl,e3,lk,hcd⟩:=T.F_Jh.ex
 refine⟨[],.nil,fun s us X hl=>?_⟩
 have hl2:us.length=2:=by simpa using hl
 rw[e3,e1]
 match us,hl2 with
 | [_,_],_=>exact W.binds_K X rfl e2 rfl rfl rfl
theorem iN (T:Txt K mg t):∃ ds:List Value,Vals [.int 1] ds/\Binds K t.d_Jh ["self","side"] ds:=by
 obtain⟨Td,od,n,sl,tk0,e1,e2⟩:=T.D_Jh
 obtain⟨oc,od2,kV,doc,pm,an,cdv,ct,osl,e3,lk,hcd⟩:=T.F_Jh.ex
 refine⟨[.int 1 tk0],.cons ⟨_,U⟩ (.nil),fun s us X hl=>?_⟩
 have hl2:us.length=1:=by simpa using hl
 rw[e3,e1]
 match us,hl2 with
 | [_],_=>exact W.binds_K X rfl e2 rfl rfl rfl
theorem kU (T:Txt K mg t):∃ ds:List Value,Vals [.non] ds/\Binds K t.d_J21 ["self","kind","note","rod"] ds:=by
 obtain⟨Td,od,n,sl,tk0,e1,e2⟩:=T.D_J21
 obtain⟨oc,od2,kV,doc,pm,an,cdv,ct,osl,e3,lk,hcd⟩:=T.F_J21.ex
 refine⟨[.none],.cons rfl (.nil),fun s us X hl=>?_⟩
 have hl2:us.length=3:=by simpa using hl
 rw[e3,e1]
 match us,hl2 with
 | [_,_,_],_=>exact W.binds_K X rfl e2 rfl rfl rfl
theorem bP (T:Txt K mg t):∃ ds:List Value,Vals [.int 0,.non] ds/\Binds K t.d_J21 ["self","kind","note","rod"] ds:=by
 obtain⟨Td,od,n,sl,tk0,e1,e2⟩:=T.D_J21
 obtain⟨oc,od2,kV,doc,pm,an,cdv,ct,osl,e3,lk,hcd⟩:=T.F_J21.ex
 refine⟨[.int 0 tk0,.none],.cons ⟨_,U⟩ (.cons rfl (.nil)),fun s us X hl=>?_⟩
 have hl2:us.length=2:=by simpa using hl
 rw[e3,e1]
 match us,hl2 with
 | [_,_],_=>exact W.binds_K X rfl e2 rfl rfl rfl
noncomputable def cK:List V->List V->List V:=fun us ws=>if us.length=2/\ws.length=1 then us++[.int 0]++ws++[] else []
theorem bj (T:Txt K mg t):∃ g,KBinds K t.d_J21 ["self","kind","note","rod"] ["rod"] g cK:=by
 obtain⟨Td,od,n,sl,tk0,e1,e2⟩:=T.D_J21
 obtain⟨oc,od2,kV,doc,pm,an,cdv,ct,osl,e3,lk,hcd⟩:=T.F_J21.ex
 refine⟨fun us ws=>if us.length=2/\ws.length=1 then us++[.int 0 tk0]++ws++[] else [],⟨fun s us ws X hl=>?_,fun {vs us zs ws} r rz=>?_⟩⟩
 ·by_cases hc:us.length=2/\ws.length=1
  ·rw[if_pos hc]
   rw[e3,e1]
   match us,ws,hc with
   | [_,_],[_],_=>exact W.binds_K X rfl e2 rfl rfl rfl
  ·rw[if_neg hc] at hl
   cases hl
 ·have e4:=r.length
  have e5:=rz.length
  unfold cK
  by_cases hc:vs.length=2/\zs.length=1
  ·rw[if_pos hc,if_pos (by omega)]
   exact((r.append (show Vals [.int 0] [.int 0 tk0] from .cons ⟨_,U⟩ (.nil))).append rz).append (show Vals [] [] from .nil)
  ·rw[if_neg hc,if_neg (by omega)]
   exact .nil
end
noncomputable def Dr (ds:List Int):Prop:=∀ d ∈ ds,0<=d/\d<10 ^ 18
noncomputable def jJ (K:PySem.W.Frag):Sp:=fun vs H Q _=>∃ (a:Addr) (ns:List Int) (n:Int) (L:Kn),vs=[.ref a,.int n]/\SqL K H a (ns.map V.int)/\ns.length<=63/\0<=n/\n<=1000/\Has H L /\
 ∀ H' p ds,Has H' ((p,.lst (ds.map V.int))::L)->ds.length=n.toNat->Dr ds->Q (.ref p) H'
section
variable {P:Program}{w:World}{K:PySem.W.Frag}{mg:Str->Option Value}{base:Heap}{t:Adr}
theorem scD:FnScope ["_law_script","_law_many","_law_row_here","_law_base","_law_cell","_law_left","_law_turn"] ["_law_script","_law_many"] (ai iy):={}
theorem Dr.snoc {ds:List Int}{d:Int} (h:Dr ds) (h0:0<=d) (h1:d<10 ^ 18):Dr (ds++[d]):=fun x hx=>by
 rcases mem_append.mp hx with hx | hx
 ·exact h x hx
 ·have:x=d:=by simpa using hx
  subst this; exact⟨h0,h1⟩
theorem d0 (ds:List Int) (d:Int):ds.map V.int++[V.int d]=(ds++[d]).map V.int:=by simp
theorem kg (T:Txt K mg t):FnOk P w K mg base CX0 1 t.f_draws t.d_draws ["_law_script","_law_many"] (jJ K):=by
 refine T.F_draws.ok scD (fun vs H Q E h=>?_) (fun cdv A outer s H vs Q E hr h=>?_)
 ·obtain⟨_,_,_,_,rfl,_⟩:=h
  rfl
 ·obtain⟨a,ns,n,L,rfl,hS,hns,hn0,hn1,hL,k⟩:=h
  refine⟨_,(ae (ar (i:=2) scD.nd rfl (Or.inl rfl) (aR af))
   (ae (ar (i:=3) scD.nd rfl (Or.inl rfl) ag)
   (ae (aX PassesOwn.never rfl (bq (ce dv (pv 0) cG (cF ag))) (am (i:=4) scD.nd rfl (Or.inl rfl))
    (ae (ar (i:=5) scD.nd rfl (Or.inl rfl) (aK kS (by rfl) T.z_abs (by rfl) (aa (pv 4) af)))
     (ae (ar (i:=3) scD.nd rfl (Or.inl rfl) (ao aN (ao aJ (ao aJ (ao b4 (pv 3) ag) (pv 5)) (ao b4 ag (aW ju (by rfl) T.z_int (by rfl) (aa (iB bF (pv 4) ag (ap _)) af)))) ag))
     (ah (aG (aj bF (pv 5) (ao oh ag ag) (ap _))
      (ah (ak (b6 PySem.F.plainAttrs_list PySem.F.slot_list_append PySem.F.type_list_append aT (pv 2) (aa (pv 5) af))))
      (ah (aX PassesOwn.never rfl (a9 (by rfl) T.z_range (aa ag af)) (am (i:=6) scD.nd rfl (Or.inl rfl))
        (ah (aG (aj cf (pv 5) ag (ap _))
          (ae (ak (b6 PySem.F.plainAttrs_list PySem.F.slot_list_append PySem.F.type_list_append aT (pv 2) (aa (ao aN (pv 5) ag) af)))
           (ah (ar (i:=5) scD.nd rfl (Or.inl rfl) (ao bJ (pv 5) ag))))
          au)))))))))
   (ae (dP PassesOwn.never (aj bF (aK az (by rfl) T.z_len (by rfl) (aa (pv 2) af)) (pv 1) (ap _))
    (ae (ar (i:=3) scD.nd rfl (Or.inl rfl) (ao aN (ao aJ (ao b4 (pv 3) ag) ag) ag))
     (ah (ak (b6 PySem.F.plainAttrs_list PySem.F.slot_list_append PySem.F.type_list_append aT (pv 2) (aa (ao aN (ao bJ (ao b4 (pv 3) (pv 3)) ag) ag) af))))))
   (ah (aH (ce dv (pv 2) cG (cF (pv 1))))))))),?_⟩
  refine⟨by decide,fun r hr0=>?_⟩
  have h1:=hL.alloc hr0 (.lst [])
  have hS1:SqL K (upd H r (.lst [])) a (ns.map V.int):=hS.alloc hr0
  generalize upd H r (.lst [])=H1 at *
  refine⟨_,U,_,U,a,_,U,hS1,fun sl hsl=>?_⟩
  have h2:=h1.alloc hsl (.lst (bU (ns.map V.int) none (some 63)))
  generalize upd H1 sl (.lst (bU (ns.map V.int) none (some 63)))=H2 at *
  refine⟨sl,U,⟨_,SqL.of (h2.get 0 U)⟩,?_⟩
  refine bO (K:=K) (a:=sl) (xs:=bU (ns.map V.int) none (some 63)) (fun i σ H'=>∃ (row:List Int) (b:Int) (c l t:Option V),σ=[some (.ref a),some (.int n),some (.ref r),some (.int b),c,l,t] /\
   Has H' ((r,.lst (row.map V.int))::(sl,.lst (bU (ns.map V.int) none (some 63)))::L)/\row.length<=60*i/\Dr row/\0<=b/\b<2147483647)
   ⟨[],7,none,none,none,U,h2.swap2,Nat.zero_le _,(fun _ h=>nomatch h),by decide,by decide⟩ (fun i σ H' _ z_=>z_.elim fun row z_=>z_.elim fun b z_=>z_.elim fun c z_=>z_.elim fun l z_=>z_.elim fun t z_=>z_.elim fun _ z_=>z_.elim fun h _=>SqL.of (h.get 1 U)) ?_ ?_
  ·rintro i y σ H' hi ⟨row,b,c,l,t,rfl,h3,hlen,hd,b0,b1⟩
   have hi63:i<63:=by
    have h5:=(List.getElem?_eq_some_iff.mp hi).1
    rw[cP _ _ (by decide),length_take,length_map] at h5
    omega
   obtain⟨z,rfl⟩:∃ z,y=V.int z:=by
    rw[cP _ _ (by decide),List.getElem?_take_of_lt (by omega),getElem?_map] at hi
    cases e:ns[i]? with
    | none=>rw[e] at hi; cases hi
    | some z=>rw[e] at hi; exact⟨z,(Option.some.inj hi).symm⟩
   refine⟨_,U,_,U,?_⟩
   have hab:0<=(if z<0 then -z else z):=by split <;> omega
   generalize (if z<0 then -z else z)=left at *
   refine⟨_,U,_,_,U,U,.inl ⟨by omega,by omega⟩,_,U,_,_,U,U,_,U,_,_,U,U,.inr ⟨_,U,_,_,U,U,.inl ⟨by decide,by decide⟩,_,_,U,U,_,_,U,U,(show(0:Int)<2147483647 by decide),?_⟩⟩
   have hb0:=Int.emod_nonneg (b*48271+left+2*(if decide (z<0)=true then 1 else 0)) (show(2147483647:Int)≠0 by decide)
   have hb1:=Int.emod_lt_of_pos (b*48271+left+2*(if decide (z<0)=true then 1 else 0)) (show(0:Int)<2147483647 by decide)
   refine⟨_,U,_,_,U,U,⟨by decide,by decide,by decide⟩,_,_,U,U,_,U,?_⟩
   refine oK (fun hc=>?_) (fun hc=>?_)
   ·have hc':left<10 ^ 18:=of_decide_eq_true hc
    refine⟨_,U,.inl ⟨U,_,SqL.of (h3.get 0 U)⟩,_,U,r,_,_,U,U,h3.get 0 U,?_,?_⟩
    ·rw[length_map]
     exact sizeOk (by omega)
    ·refine⟨row++[left],_,_,_,_,U,?_,?_,hd.snoc hab hc',hb0,hb1⟩
     ·rw[<- d0]
      exact h3.puti 0 U _
     ·rw[length_append,length_singleton]; omega
   ·-- for turn in range(60)
    refine⟨_,U,by decide,by decide,bv (n:=60) (fun j σ H2=>∃ (row2:List Int) (l2:Int) (t2:Option V) (b2:Int),0<=b2/\b2<2147483647/\σ=[some (.ref a),some (.int n),some (.ref r),some (.int b2),some (.int z),some (.int l2),t2] /\
     Has H2 ((r,.lst (row2.map V.int))::(sl,.lst (bU (ns.map V.int) none (some 63)))::L)/\row2.length<=row.length+j/\Dr row2/\0<=l2) ⟨row,_,_,_,hb0,hb1,U,h3,Nat.le_add_right _ _,hd,hab⟩ ?_ ?_⟩
    ·rintro j σ H2 hj ⟨row2,l2,t2,b2,hb20,hb21,rfl,h4,hlen2,hd2,hl2⟩
     refine⟨_,U,_,_,U,U,_,U,?_⟩
     refine oK (fun hc2=>?_) (fun hc2=>?_)
     ·refine⟨_,U,.inl ⟨U,_,SqL.of (h4.get 0 U)⟩,_,U,_,_,U,U,(show(0:Int)<10007 by decide),r,_,_,U,U,h4.get 0 U,?_,?_⟩
      ·rw[length_map]
       exact sizeOk (by omega)
      ·refine⟨_,U,_,_,U,U,⟨by decide,by decide⟩,?_⟩
       refine⟨row2++[l2 % 10007],_,_,_,hb20,hb21,U,?_,?_,hd2.snoc (Int.emod_nonneg _ (by decide)) (Int.lt_trans (Int.emod_lt_of_pos _ (by decide)) (by decide)),Int.ediv_nonneg hl2 (by decide)⟩
       ·rw[<- d0]
        exact h4.puti 0 U _
       ·rw[length_append,length_singleton]; omega
     ·exact⟨row2,l2,_,b2,hb20,hb21,U,h4,by omega,hd2,hl2⟩
    ·rintro σ H2 ⟨row2,l2,t2,b2,hb20,hb21,rfl,h4,hlen2,hd2,hl2⟩
     exact⟨row2,b2,_,_,_,U,h4,by omega,hd2,hb20,hb21⟩
  ·rintro σ H' ⟨row,b,c,l,t,rfl,h3,hlen,hd,b0,b1⟩
   have hlx:(bU (ns.map V.int) none (some 63)).length<=63:=by
    rw[cP _ _ (by decide),length_take]; omega
   refine jv (fun σ H'=>∃ (row:List Int) (b:Int) (c l t:Option V),σ=[some (.ref a),some (.int n),some (.ref r),some (.int b),c,l,t]/\Has H' ((r,.lst (row.map V.int))::L)/\row.length<=4000/\Dr row/\0<=b/\b<2147483647)
    (fun σ H'=>match H' r with | some (.lst xs)=>n.toNat - xs.length | _=>0) ⟨row,b,c,l,t,U,h3.swap2.tail,by omega,hd,b0,b1⟩ ?_ ?_
   ·rintro σ H' ⟨row,b,c,l,t,rfl,h4,hlen,hd,b0,b1⟩
    refine⟨_,U,r,_,U,.inl (SqL.of (h4.get 0 U)),_,U,_,_,U,U,_,U,?_⟩
    rw[length_map]
    refine oK (fun hc=>?_) (fun hc=>?_)
    ·have hc':(row.length:Int)<n:=of_decide_eq_true hc
     refine⟨_,U,_,_,U,U,.inl ⟨by omega,by omega⟩,_,_,U,U,_,_,U,U,(show(0:Int)<2147483647 by decide),?_⟩
     have hb0:=Int.emod_nonneg (b*69621+12289) (show(2147483647:Int)≠0 by decide)
     have hb1:=Int.emod_lt_of_pos (b*69621+12289) (show(0:Int)<2147483647 by decide)
     refine⟨_,U,.inl ⟨U,_,SqL.of (h4.get 0 U)⟩,_,U,_,U,_,_,U,U,.inl ⟨?_,?_⟩,_,_,U,U,⟨by decide,by decide⟩,_,_,U,U,(show(0:Int)<10007 by decide),r,_,_,U,U,h4.get 0 U,?_,?_⟩
     ·show -(2 ^ 64)<(b*69621+12289) % 2147483647
      omega
     ·show(b*69621+12289) % 2147483647<2 ^ 64
      omega
     ·rw[length_map]
      exact sizeOk (by omega)
     ·have hq0:=Int.emod_nonneg ((b*69621+12289) % 2147483647*((b*69621+12289) % 2147483647) / 4099) (show(10007:Int)≠0 by decide)
      have hq1:=Int.emod_lt_of_pos ((b*69621+12289) % 2147483647*((b*69621+12289) % 2147483647) / 4099) (show(0:Int)<10007 by decide)
      refine⟨⟨row++[(b*69621+12289) % 2147483647*((b*69621+12289) % 2147483647) / 4099 % 10007],_,_,_,_,U,?_,?_,hd.snoc hq0 (Int.lt_trans hq1 (by decide)),hb0,hb1⟩,?_⟩
      ·rw[<- d0]
       exact h4.puti 0 U _
      ·rw[length_append,length_singleton]; omega
      ·have e1:H' r=some (.lst (row.map V.int)):=h4.get 0 rfl
       simp only[e1,bw,length_append,length_map,length_singleton]
       omega
    ·have hc':¬ (row.length:Int)<n:=fun z=>hc (decide_eq_true z)
     refine⟨_,U,_,U,_,U,r,_,U,SqL.of (h4.get 0 U),fun p hp=>?_⟩
     refine k _ p (row.take n.toNat) ?_ (by rw[length_take]; omega) (fun d hd'=>hd d (List.mem_of_mem_take hd'))
     have h5:=(h4.tail).alloc hp (.lst (bU (row.map V.int) none (some n)))
     rw[cP _ _ hn0,<- List.map_take] at h5 ⊢
     exact h5
   ·rintro σ H' Q1 Q2 hQ ⟨v,e,p,ys,e2,h,w',e3,i,j,e4,e5,c,e6,q⟩
    exact⟨v,e,p,ys,e2,h,w',e3,i,j,e4,e5,c,e6,hQ _ _ q⟩
end
inductive Kd where | line | bell | still | lazy | turning | stop
 deriving DecidableEq
noncomputable def Kd.str:Kd->Str
 | .line => "line" | .bell => "bell" | .still => "still" | .lazy => "lazy" | .turning => "turning" | .stop => "stop"
noncomputable def Kd.many:Kd->Int
 | .line=>2 | .bell=>2 | .still=>3 | .lazy=>3 | .turning=>3 | .stop=>1
noncomputable def Kd.point:Kd->Bool
 | .still=>true | .lazy=>true | .turning=>true | _=>false
noncomputable def endsD:List (Str×PyData):=[("line",.int 2),("bell",.int 2),("stop",.int 1),("still",.int 3),("lazy",.int 3),("turning",.int 3)]
theorem Kd.inEnds (k:Kd):(endsD.any fun p=>decide (k.str=p.1))=true:=by cases k <;> decide +kernel
theorem Kd.atEnds (k:Kd):endsD.lookup k.str=some (.int k.many):=by cases k <;> rfl
theorem jo:(endsD.all fun p=>match p.2 with | .int _=>true | _=>false)=true:=by decide +kernel
theorem Kd.inPoints (k:Kd):inV (.str k.str) [.str "still",.str "lazy",.str "turning"]=k.point:=by cases k <;> decide +kernel
theorem Kd.isBell (k:Kd):decide (V.str k.str=V.str "bell")=decide (k=.bell):=by cases k <;> decide +kernel
noncomputable def Kd.out (k:Kd) (e s:Int):V:=if k=.stop then .non else if k.point then(if e=0 then .int s else .int 0) else .int (1 - e)
noncomputable def Kd.side (k:Kd) (e s:Int):Int:=if k.point then(if e=0 then(if k=.turning then 3 - s else s) else(if k=.lazy then e else s)) else s
noncomputable def nH:Sp:=fun vs H Q _=>∃ k:Kd,vs=[.str k.str]/\Q (.int k.many) H
noncomputable def nK:Sp:=fun vs H Q _=>∃ k:Kd,vs=[.str k.str]/\Q (.bl k.point) H
noncomputable def sp_Jr:Sp:=fun vs H Q _=>∃ (k:Kd) (e:Int),vs=[.str k.str,.int e]/\0<=e/\e<k.many/\Q .non H
noncomputable def sp_Jm:Sp:=fun vs H Q _=>∃ s:Int,vs=[.int s]/\(s=1∨s=2)/\Q .non H
section
variable {P:Program}{w:World}{K:PySem.W.Frag}{mg:Str->Option Value}{base:Heap}{t:Adr}
theorem eF (i j:Int):decide (V.int i=V.int j)=decide (i=j):=by by_cases h:i=j <;> simp[h]
theorem scEo:FnScope ["kind"] ["kind"] (ai mK):={}
theorem ou (T:Txt K mg t):FnOk P w K mg base CX0 1 t.f_J71 t.d_J71 ["kind"] nH:=by
 refine T.F_J71.ok scEo (fun vs H Q E h=>?_) (fun cdv A outer s H vs Q E hr h=>?_)
 ·obtain⟨_,rfl,_⟩:=h
  rfl
 ·obtain⟨k,rfl,q⟩:=h
  obtain⟨aE,eE,hE⟩:=T.x_ENDS
  have T_r_ENDS:RelV (.ref aE) t.u_ENDS:=by rw[eE]; rfl
  refine⟨_,(ae (aG (aj fh (pv 0) (bQ (by rfl) T.g_ENDS T_r_ENDS) (by rfl))
    (ah aQ)
    au)
   (ah (aH (aC ix_K (bQ (by rfl) T.g_ENDS T_r_ENDS) (pv 0))))),?_⟩
  refine⟨_,U,_,aE,endsD,U,U,hE,_,U,?_⟩
  rw[k.inEnds]
  exact⟨_,U,_,aE,endsD,_,U,U,hE,k.atEnds,jo,q⟩
theorem scIp:FnScope ["kind"] ["kind"] (ai mQ):={}
theorem oE (T:Txt K mg t):FnOk P w K mg base CX0 1 t.f_J01 t.d_J01 ["kind"] nK:=by
 refine T.F_J01.ok scIp (fun vs H Q E h=>?_) (fun cdv A outer s H vs Q E hr h=>?_)
 ·obtain⟨_,rfl,_⟩:=h
  rfl
 ·obtain⟨k,rfl,q⟩:=h
  obtain⟨aE,eE,hE⟩:=T.x_ENDS
  have T_r_ENDS:RelV (.ref aE) t.u_ENDS:=by rw[eE]; rfl
  obtain⟨aP,oP,its,n,eP,h1,h2,h3,h4,h5⟩:=T.x_POINTS
  have T_r_POINTS:RelV (.ref aP) t.u_POINTS:=by rw[eP]; rfl
  refine⟨_,(ae (aG (aj fh (pv 0) (bQ (by rfl) T.g_ENDS T_r_ENDS) (by rfl))
    (ah aQ)
    au)
   (ah (aH (iB jd (pv 0) (bQ (by rfl) T.g_POINTS T_r_POINTS) (by rfl))))),?_⟩
  refine⟨_,U,_,aE,endsD,U,U,hE,_,U,?_⟩
  rw[k.inEnds]
  refine⟨_,U,aP,_,U,.inr (.inr ⟨oP,its,n,h1,h2,h3,h4,h5⟩),U,by decide,?_⟩
  rw[if_neg Bool.false_ne_true,k.inPoints]
  exact q
theorem scCe:FnScope ["kind","end","many"] ["kind","end"] (ai pj):={}
theorem ok_Jr (T:Txt K mg t):FnOk P w K mg base CX0 2 t.f_Jr t.d_Jr ["kind","end"] sp_Jr:=by
 refine T.F_Jr.ok scCe (fun vs H Q E h=>?_) (fun cdv A outer s H vs Q E hr h=>?_)
 ·obtain⟨_,_,rfl,_⟩:=h
  rfl
 ·obtain⟨k,e,rfl,e0,e1,q⟩:=h
  refine⟨_,(ae (ar (i:=2) scCe.nd rfl (Or.inl rfl) (pcl (ou T) hr T.m_J71 T.F_J71.kp (b_J71 T) (aa (pv 0) af)))
   (ah (aG (PW.pt (da (aj bF (pv 1) ag (ap _)) (b9 (aj fj (pv 1) (pv 2) (ap _)))))
    (ah aQ)
    au))),?_⟩
  refine⟨_,U,k,U,?_⟩
  refine⟨_,U,_,_,U,U,_,U,?_⟩
  refine ifF (decide_eq_false (by omega)) ?_
  refine⟨_,U,_,U,_,_,U,U,_,U,?_⟩
  exact ifF (decide_eq_false (by omega)) q
theorem scCs:FnScope ["side"] ["side"] (ai pA):={}
theorem ki (T:Txt K mg t):FnOk P w K mg base CX0 1 t.f_Jm t.d_Jm ["side"] sp_Jm:=by
 refine T.F_Jm.ok scCs (fun vs H Q E h=>?_) (fun cdv A outer s H vs Q E hr h=>?_)
 ·obtain⟨_,rfl,_⟩:=h
  rfl
 ·obtain⟨z,rfl,hz,q⟩:=h
  refine⟨_,(ah (aG (PW.pt (bZ (aj mU (pv 0) ag (ap _)) (cq (aj mU (pv 0) ag (ap _)))))
    (ah aQ)
    au)),?_⟩
  refine⟨_,U,U,_,U,?_⟩
  rw[eF]
  refine ifdn (fun hc=>?_) (fun hc=>cZ q)
  refine⟨_,U,U,_,U,?_⟩
  rw[eF]
  exact ifF (by simp; omega) q
end
structure YA where
 p:Addr
 dx:Addr
 tr:Addr
 k:Addr
 n:Addr
 r:Addr
 s:Addr
 m:Addr
 g:Addr
structure YR where
 next:Int
 kinds:List (Key×V)
 notes:List (Key×V)
 rods:List (Key×V)
 sides:List V
 mates:List (List Key×V)
 eng:V
 rung:List V
 trail:List V
noncomputable def fl (A:YA) (next:Int) (eng:V):List (Str×V) :=
 [("next_piece",.int next),("kinds",.ref A.k),("notes",.ref A.n),("rods_under",.ref A.r),("sides",.ref A.s),("mates",.ref A.m),("engine_end",eng),("rung",.ref A.g),("trail",.ref A.tr)]
noncomputable def yL (C:Addr) (A:YA) (y:YR):Kn :=
 [(A.tr,.lst y.trail),(A.p,.ins C A.dx (fl A y.next y.eng)),(A.dx,.own A.p),(A.k,.dK y.kinds),(A.n,.dK y.notes),(A.r,.dK y.rods),(A.s,.lst y.sides),(A.m,.dT y.mates),(A.g,.lst y.rung)]
noncomputable def y0:YR:=⟨0,[],[],[],[],[],.non,[],[]⟩
section
variable (A:YA) (next:Int) (eng:V)
theorem iI:(fl A next eng).lookup ("next_piece" : Str)=some (.int next):=by kernel_rfl
theorem cO:(fl A next eng).lookup ("kinds" : Str)=some (.ref A.k):=by kernel_rfl
theorem kI:(fl A next eng).lookup ("notes" : Str)=some (.ref A.n):=by kernel_rfl
theorem iH:(fl A next eng).lookup ("rods_under" : Str)=some (.ref A.r):=by kernel_rfl
theorem eh:(fl A next eng).lookup ("sides" : Str)=some (.ref A.s):=by kernel_rfl
theorem cL:(fl A next eng).lookup ("mates" : Str)=some (.ref A.m):=by kernel_rfl
theorem fW (q:Addr):aU "trail" (.ref q) (fl A next eng)=fl { A with tr:=q } next eng:=by kernel_rfl
theorem gL (n':Int):aU "next_piece" (.int n') (fl A next eng)=fl A n' eng:=by kernel_rfl
theorem hW (e':V):aU "engine_end" e' (fl A next eng)=fl A next e':=by kernel_rfl
end
theorem bT (A:YA) (next:Int) (eng:V):(fl A next eng).lookup ("lay" : Str)=none/\(fl A next eng).lookup ("new_rod" : Str)=none/\(fl A next eng).lookup ("throw" : Str)=none/\(fl A next eng).lookup ("rods" : Str)=none/\(fl A next eng).lookup ("rod" : Str)=none /\
  (fl A next eng).lookup ("side" : Str)=none/\(fl A next eng).lookup ("end_trail" : Str)=none/\(fl A next eng).lookup ("check_piece" : Str)=none/\(fl A next eng).lookup ("check_rod" : Str)=none :=
 ⟨by kernel_rfl,by kernel_rfl,by kernel_rfl,by kernel_rfl,by kernel_rfl,by kernel_rfl,by kernel_rfl,by kernel_rfl,by kernel_rfl⟩
noncomputable def lj (C:Addr):Sp:=fun vs H Q _=>∃ (p dx:Addr) (L:Kn),vs=[.ref p]/\Has H ((p,.ins C dx [])::(dx,.own p)::L)/\∀ H' A,A.p=p->Has H' (yL C A y0++L)->Q .non H'
noncomputable def cC (C:Addr):Sp:=fun vs H Q _=>∃ (A:YA) (y:YR) (L:Kn),vs=[.ref A.p]/\Has H (yL C A y++L)/\∀ H' q,Has H' (yL C { A with tr:=q } { y with trail:=[] }++L)->Q .non H'
theorem jl {H:Hp}{C p dx a1 a2 a3 a4 a5 a7 a8:Addr}{fs:List (Str×V)}{L:Kn} (h:Has H ((a8,.lst [])::(a7,.lst [])::(a5,.dT [])::(a4,.lst [])::(a3,.dK [])::(a2,.dK [])::(a1,.dK [])::(p,.ins C dx fs)::(dx,.own p)::L)) :
  Has H ([(a8,.lst []),(p,.ins C dx fs),(dx,.own p),(a1,.dK []),(a2,.dK []),(a3,.dK []),(a4,.lst []),(a5,.dT []),(a7,.lst [])]++L):=by
 refine h.perm ?_
 refine .cons _ ?_
 show List.Perm ([(a7,HO.lst []),(a5,.dT []),(a4,.lst []),(a3,.dK []),(a2,.dK []),(a1,.dK []),(p,.ins C dx fs),(dx,.own p)]++L) ([(p,.ins C dx fs),(dx,.own p),(a1,.dK []),(a2,.dK []),(a3,.dK []),(a4,.lst []),(a5,.dT []),(a7,.lst [])]++L)
 refine List.Perm.append_right L ?_
 have e:[(a7,HO.lst []),(a5,.dT []),(a4,.lst []),(a3,.dK []),(a2,.dK []),(a1,.dK []),(p,.ins C dx fs),(dx,.own p)]=[(a7,HO.lst []),(a5,.dT []),(a4,.lst []),(a3,.dK []),(a2,.dK []),(a1,.dK [])]++[(p,.ins C dx fs),(dx,.own p)]:=rfl
 rw[e]
 refine List.perm_append_comm.trans ?_
 refine .cons _ (.cons _ ?_)
 exact List.reverse_perm [(a1,HO.dK []),(a2,.dK []),(a3,.dK []),(a4,.lst []),(a5,.dT []),(a7,.lst [])]
section
variable {P:Program}{w:World}{K:PySem.W.Frag}{mg:Str->Option Value}{base:Heap}{t:Adr}
theorem scYi:FnScope ["self"] ["self"] (ai pf):={}
theorem ok_Ju (T:Txt K mg t):FnOk P w K mg base CX0 1 t.f_Ju t.d_Ju ["self"] (lj t.c_Yard):=by
 refine T.F_Ju.ok scYi (fun vs H Q E h=>?_) (fun cdv A outer s H vs Q E hr h=>?_)
 ·obtain⟨_,_,_,rfl,_⟩:=h
  rfl
 ·obtain⟨p,dx,L,rfl,hH,q⟩:=h
  refine⟨_,(ae (aZ (pv 0) ag rfl)
   (ae (aZ (pv 0) dS rfl)
   (ae (aZ (pv 0) dS rfl)
   (ae (aZ (pv 0) dS rfl)
   (ae (aZ (pv 0) (aR af) rfl)
   (ae (aZ (pv 0) dR rfl)
   (ae (aZ (pv 0) g9 rfl)
   (ae (aZ (pv 0) (aR af) rfl)
   (ah (aZ (pv 0) (aR af) rfl)))))))))),?_⟩
  refine⟨_,U,p,_,dx,_,U,hH.get 0 U,T.cl_Yard,T.n_Yard_next_piece,(show 0<1000 by decide),?_⟩
  have h1:=hH.puti 0 U (.ins t.c_Yard dx (aU ("next_piece" : Str) (V.int 0) ([]:List (Str×V))))
  rw[show aU ("next_piece" : Str) (V.int 0) ([]:List (Str×V))=([(("next_piece" : Str),V.int 0)]:List (Str×V)) from by kernel_rfl] at h1 ⊢
  generalize upd H p _=H1 at h1 ⊢
  intro a1 n1
  refine⟨_,U,p,_,dx,_,U,(h1.alloc n1 (.dK [])).get 1 U,T.cl_Yard,T.n_Yard_kinds,(show 1<1000 by decide),?_⟩
  have h2:=(h1.alloc n1 (.dK [])).puti 1 U (.ins t.c_Yard dx (aU ("kinds" : Str) (V.ref a1) ([(("next_piece" : Str),V.int 0)]:List (Str×V))))
  rw[show aU ("kinds" : Str) (V.ref a1) ([(("next_piece" : Str),V.int 0)]:List (Str×V))=([(("next_piece" : Str),V.int 0),(("kinds" : Str),V.ref a1)]:List (Str×V)) from by kernel_rfl] at h2 ⊢
  generalize upd (upd H1 a1 _) p _=H2 at h2 ⊢
  intro a2 n2
  refine⟨_,U,p,_,dx,_,U,(h2.alloc n2 (.dK [])).get 2 U,T.cl_Yard,T.n_Yard_notes,(show 2<1000 by decide),?_⟩
  have h3:=(h2.alloc n2 (.dK [])).puti 2 U (.ins t.c_Yard dx (aU ("notes" : Str) (V.ref a2) ([(("next_piece" : Str),V.int 0),(("kinds" : Str),V.ref a1)]:List (Str×V))))
  rw[show aU ("notes" : Str) (V.ref a2) ([(("next_piece" : Str),V.int 0),(("kinds" : Str),V.ref a1)]:List (Str×V))=([(("next_piece" : Str),V.int 0),(("kinds" : Str),V.ref a1),(("notes" : Str),V.ref a2)]:List (Str×V)) from by kernel_rfl] at h3 ⊢
  generalize upd (upd H2 a2 _) p _=H3 at h3 ⊢
  intro a3 n3
  refine⟨_,U,p,_,dx,_,U,(h3.alloc n3 (.dK [])).get 3 U,T.cl_Yard,T.n_Yard_rods_under,(show 3<1000 by decide),?_⟩
  have h4:=(h3.alloc n3 (.dK [])).puti 3 U (.ins t.c_Yard dx (aU ("rods_under" : Str) (V.ref a3) ([(("next_piece" : Str),V.int 0),(("kinds" : Str),V.ref a1),(("notes" : Str),V.ref a2)]:List (Str×V))))
  rw[show aU ("rods_under" : Str) (V.ref a3) ([(("next_piece" : Str),V.int 0),(("kinds" : Str),V.ref a1),(("notes" : Str),V.ref a2)]:List (Str×V))=([(("next_piece" : Str),V.int 0),(("kinds" : Str),V.ref a1),(("notes" : Str),V.ref a2),(("rods_under" : Str),V.ref a3)]:List (Str×V)) from by kernel_rfl] at h4 ⊢
  generalize upd (upd H3 a3 _) p _=H4 at h4 ⊢
  refine⟨by decide,fun a4 n4=>?_⟩
  refine⟨_,U,p,_,dx,_,U,(h4.alloc n4 (.lst [])).get 4 U,T.cl_Yard,T.n_Yard_sides,(show 4<1000 by decide),?_⟩
  have h5:=(h4.alloc n4 (.lst [])).puti 4 U (.ins t.c_Yard dx (aU ("sides" : Str) (V.ref a4) ([(("next_piece" : Str),V.int 0),(("kinds" : Str),V.ref a1),(("notes" : Str),V.ref a2),(("rods_under" : Str),V.ref a3)]:List (Str×V))))
  rw[show aU ("sides" : Str) (V.ref a4) ([(("next_piece" : Str),V.int 0),(("kinds" : Str),V.ref a1),(("notes" : Str),V.ref a2),(("rods_under" : Str),V.ref a3)]:List (Str×V))=([(("next_piece" : Str),V.int 0),(("kinds" : Str),V.ref a1),(("notes" : Str),V.ref a2),(("rods_under" : Str),V.ref a3),(("sides" : Str),V.ref a4)]:List (Str×V)) from by kernel_rfl] at h5 ⊢
  generalize upd (upd H4 a4 _) p _=H5 at h5 ⊢
  intro a5 n5
  refine⟨_,U,p,_,dx,_,U,(h5.alloc n5 (.dT [])).get 5 U,T.cl_Yard,T.n_Yard_mates,(show 5<1000 by decide),?_⟩
  have h6:=(h5.alloc n5 (.dT [])).puti 5 U (.ins t.c_Yard dx (aU ("mates" : Str) (V.ref a5) ([(("next_piece" : Str),V.int 0),(("kinds" : Str),V.ref a1),(("notes" : Str),V.ref a2),(("rods_under" : Str),V.ref a3),(("sides" : Str),V.ref a4)]:List (Str×V))))
  rw[show aU ("mates" : Str) (V.ref a5) ([(("next_piece" : Str),V.int 0),(("kinds" : Str),V.ref a1),(("notes" : Str),V.ref a2),(("rods_under" : Str),V.ref a3),(("sides" : Str),V.ref a4)]:List (Str×V))=([(("next_piece" : Str),V.int 0),(("kinds" : Str),V.ref a1),(("notes" : Str),V.ref a2),(("rods_under" : Str),V.ref a3),(("sides" : Str),V.ref a4),(("mates" : Str),V.ref a5)]:List (Str×V)) from by kernel_rfl] at h6 ⊢
  generalize upd (upd H5 a5 _) p _=H6 at h6 ⊢
  refine⟨_,U,p,_,dx,_,U,h6.get 5 U,T.cl_Yard,T.n_Yard_engine_end,(show 6<1000 by decide),?_⟩
  have h7:=h6.puti 5 U (.ins t.c_Yard dx (aU ("engine_end" : Str) (V.non) ([(("next_piece" : Str),V.int 0),(("kinds" : Str),V.ref a1),(("notes" : Str),V.ref a2),(("rods_under" : Str),V.ref a3),(("sides" : Str),V.ref a4),(("mates" : Str),V.ref a5)]:List (Str×V))))
  rw[show aU ("engine_end" : Str) (V.non) ([(("next_piece" : Str),V.int 0),(("kinds" : Str),V.ref a1),(("notes" : Str),V.ref a2),(("rods_under" : Str),V.ref a3),(("sides" : Str),V.ref a4),(("mates" : Str),V.ref a5)]:List (Str×V))=([(("next_piece" : Str),V.int 0),(("kinds" : Str),V.ref a1),(("notes" : Str),V.ref a2),(("rods_under" : Str),V.ref a3),(("sides" : Str),V.ref a4),(("mates" : Str),V.ref a5),(("engine_end" : Str),V.non)]:List (Str×V)) from by kernel_rfl] at h7 ⊢
  generalize upd H6 p _=H7 at h7 ⊢
  refine⟨by decide,fun a7 n7=>?_⟩
  refine⟨_,U,p,_,dx,_,U,(h7.alloc n7 (.lst [])).get 6 U,T.cl_Yard,T.n_Yard_rung,(show 7<1000 by decide),?_⟩
  have h8:=(h7.alloc n7 (.lst [])).puti 6 U (.ins t.c_Yard dx (aU ("rung" : Str) (V.ref a7) ([(("next_piece" : Str),V.int 0),(("kinds" : Str),V.ref a1),(("notes" : Str),V.ref a2),(("rods_under" : Str),V.ref a3),(("sides" : Str),V.ref a4),(("mates" : Str),V.ref a5),(("engine_end" : Str),V.non)]:List (Str×V))))
  rw[show aU ("rung" : Str) (V.ref a7) ([(("next_piece" : Str),V.int 0),(("kinds" : Str),V.ref a1),(("notes" : Str),V.ref a2),(("rods_under" : Str),V.ref a3),(("sides" : Str),V.ref a4),(("mates" : Str),V.ref a5),(("engine_end" : Str),V.non)]:List (Str×V))=([(("next_piece" : Str),V.int 0),(("kinds" : Str),V.ref a1),(("notes" : Str),V.ref a2),(("rods_under" : Str),V.ref a3),(("sides" : Str),V.ref a4),(("mates" : Str),V.ref a5),(("engine_end" : Str),V.non),(("rung" : Str),V.ref a7)]:List (Str×V)) from by kernel_rfl] at h8 ⊢
  generalize upd (upd H7 a7 _) p _=H8 at h8 ⊢
  refine⟨by decide,fun a8 n8=>?_⟩
  refine⟨_,U,p,_,dx,_,U,(h8.alloc n8 (.lst [])).get 7 U,T.cl_Yard,T.n_Yard_trail,(show 8<1000 by decide),?_⟩
  refine q _ ⟨p,dx,a8,a1,a2,a3,a4,a5,a7⟩ rfl ?_
  have h9:=(h8.alloc n8 (.lst [])).puti 7 U (.ins t.c_Yard dx (aU ("trail" : Str) (V.ref a8) ([(("next_piece" : Str),V.int 0),(("kinds" : Str),V.ref a1),(("notes" : Str),V.ref a2),(("rods_under" : Str),V.ref a3),(("sides" : Str),V.ref a4),(("mates" : Str),V.ref a5),(("engine_end" : Str),V.non),(("rung" : Str),V.ref a7)]:List (Str×V))))
  rw[show aU ("trail" : Str) (V.ref a8) ([(("next_piece" : Str),V.int 0),(("kinds" : Str),V.ref a1),(("notes" : Str),V.ref a2),(("rods_under" : Str),V.ref a3),(("sides" : Str),V.ref a4),(("mates" : Str),V.ref a5),(("engine_end" : Str),V.non),(("rung" : Str),V.ref a7)]:List (Str×V))=([(("next_piece" : Str),V.int 0),(("kinds" : Str),V.ref a1),(("notes" : Str),V.ref a2),(("rods_under" : Str),V.ref a3),(("sides" : Str),V.ref a4),(("mates" : Str),V.ref a5),(("engine_end" : Str),V.non),(("rung" : Str),V.ref a7),(("trail" : Str),V.ref a8)]:List (Str×V)) from by kernel_rfl] at h9 ⊢
  exact jl h9
end
noncomputable def bC (y:YR) (k:Kd) (note:Int) (rod:V):YR :=
 { y with next:=y.next+1,kinds:=aI y.kinds (Sum.inl y.next) (.str k.str),notes:=if k=.bell then aI y.notes (Sum.inl y.next) (.int note) else y.notes,rods:=if k.point then aI y.rods (Sum.inl y.next) (if rod=.non then .int y.sides.length else rod) else y.rods,sides:=if k.point/\rod=.non then y.sides++[.int 1] else y.sides,trail:=[] }
structure kY (y:YR):Prop where
 k:y.kinds.length<=10000
 n:y.notes.length<=10000
 r:y.rods.length<=10000
 s:y.sides.length<=10000
 m:y.mates.length<=30000
 g:y.rung.length<=300000
 t:y.trail.length<=300000
noncomputable def dJ (C:Addr):Sp:=fun vs H Q _=>∃ (A:YA) (y:YR) (L:Kn) (n:Int) (v:V),vs=[.ref A.p,.int n]/\Has H (yL C A y++L)/\aM y.kinds (Sum.inl n)=some v/\Q .non H
noncomputable def fK (C:Addr):Sp:=fun vs H Q _=>∃ (A:YA) (y:YR) (L:Kn) (r:Int),vs=[.ref A.p,.int r]/\Has H (yL C A y++L)/\0<=r/\r<y.sides.length/\Q .non H
noncomputable def sp_Jn:Sp:=fun vs H Q _=>∃ n:Int,vs=[.int n]/\0<=n/\n<=9999/\Q .non H
noncomputable def dH (C:Addr):Sp:=fun vs H Q _=>∃ (A:YA) (y:YR) (L:Kn) (s:Int),vs=[.ref A.p,.int s]/\Has H (yL C A y++L)/\(s=1∨s=2)/\y.sides.length<=10000 /\
 ∀ H' q,Has H' (yL C { A with tr:=q } { y with sides:=y.sides++[.int s],trail:=[] }++L)->Q (.int y.sides.length) H'
noncomputable def jI (C:Addr):Sp:=fun vs H Q _=>∃ (A:YA) (y:YR) (L:Kn) (k:Kd) (note:Int) (rod:V),vs=[.ref A.p,.str k.str,.int note,rod]/\Has H (yL C A y++L)/\kY y/\(k=.bell->0<=note/\note<=9999) /\
 (k.point=true->rod≠.non->∃ r:Int,rod=.int r/\0<=r/\r<y.sides.length)/\∀ H' q,Has H' (yL C { A with tr:=q } (bC y k note rod)++L)->Q (.int y.next) H'
section
variable {P:Program}{w:World}{K:PySem.W.Frag}{mg:Str->Option Value}{base:Heap}{t:Adr}
theorem scEt:FnScope ["self"] ["self"] (ai pO):={}
theorem iD (T:Txt K mg t):FnOk P w K mg base CX0 1 t.f_J7 t.d_J7 ["self"] (cC t.c_Yard):=by
 refine T.F_J7.ok scEt (fun vs H Q E h=>?_) (fun cdv A outer s H vs Q E hr h=>?_)
 ·obtain⟨_,_,_,rfl,_⟩:=h
  rfl
 ·obtain⟨A,y,L,rfl,hH,q⟩:=h
  refine⟨_,(ah (aZ (pv 0) (aR af) rfl)),?_⟩
  refine⟨by decide,fun a ha=>?_⟩
  have h1:=hH.alloc ha (.lst [])
  refine⟨_,U,A.p,_,A.dx,_,U,h1.get 2 U,T.cl_Yard,T.n_Yard_trail,(show 9<1000 by decide),?_⟩
  refine q _ a ?_
  rw[fW]
  have h2:=(h1.puti 2 U (.ins t.c_Yard A.dx (fl { A with tr:=a } y.next y.eng)))
  exact(h2.swap2).tail
theorem scCr:FnScope ["self","rod"] ["self","rod"] (ai pM):={}
theorem ok_J9 (T:Txt K mg t):FnOk P w K mg base CX0 1 t.f_J9 t.d_J9 ["self","rod"] (fK t.c_Yard):=by
 refine T.F_J9.ok scCr (fun vs H Q E h=>?_) (fun cdv A outer s H vs Q E hr h=>?_)
 ·obtain⟨_,_,_,_,rfl,_⟩:=h
  rfl
 ·obtain⟨A,y,L,r,rfl,hH,r0,r1,q⟩:=h
  refine⟨_,(ah (aG (PW.pt (da (aj bF (pv 1) ag (ap _)) (b9 (aj fj (pv 1) (aK az (by rfl) T.z_len (by rfl) (aa (aD (pv 0) rfl) af)) (ap _)))))
    (ah aQ)
    au)),?_⟩
  refine⟨_,U,_,_,U,U,_,U,ifF (decide_eq_false (by omega)) ?_⟩
  refine⟨_,U,_,U,A.p,_,A.dx,_,_,U,hH.get 1 U,T.cl_Yard,T.n_Yard_sides,eh _ _ _,A.s,_,U,.inl (SqL.of (hH.get 6 U)),_,_,U,U,_,U,?_⟩
  exact ifF (decide_eq_false (by omega)) q
theorem scCn:FnScope ["note"] ["note"] (ai py):={}
theorem mZ (T:Txt K mg t):FnOk P w K mg base CX0 1 t.f_Jn t.d_Jn ["note"] sp_Jn:=by
 refine T.F_Jn.ok scCn (fun vs H Q E h=>?_) (fun cdv A outer s H vs Q E hr h=>?_)
 ·obtain⟨_,rfl,_⟩:=h
  rfl
 ·obtain⟨n,rfl,n0,n1,q⟩:=h
  refine⟨_,(ah (aG (PW.pt (da (aj bF (pv 0) ag (ap _)) (b9 (aj cf (pv 0) (bQ (by rfl) T.g_LAST_NOTE T.r_LAST_NOTE) (ap _)))))
    (ah aQ)
    au)),?_⟩
  refine⟨_,U,_,_,U,U,_,U,ifF (decide_eq_false (by omega)) ?_⟩
  refine⟨_,U,_,_,U,U,_,U,ifF (decide_eq_false (by omega)) q⟩
theorem scCp:FnScope ["self","piece"] ["self","piece"] (ai pP):={}
theorem ok_J6 (T:Txt K mg t):FnOk P w K mg base CX0 1 t.f_J6 t.d_J6 ["self","piece"] (dJ t.c_Yard):=by
 refine T.F_J6.ok scCp (fun vs H Q E h=>?_) (fun cdv A outer s H vs Q E hr h=>?_)
 ·obtain⟨_,_,_,_,_,rfl,_⟩:=h
  rfl
 ·obtain⟨A,y,L,n,v,rfl,hH,hv,q⟩:=h
  have hu:=fA hr
  refine⟨_,(ah (aG (jX (jc hu (pv 1) (aD (pv 0) rfl)))
    (ah aQ)
    au)),?_⟩
  refine⟨_,U,_,U,A.p,_,A.dx,_,_,U,hH.get 1 U,T.cl_Yard,T.n_Yard_kinds,cO _ _ _,A.k,_,U,DGet.k (k:=Sum.inl n) (hH.get 3 U),_,U,?_⟩
  exact ifF (by rw[hv]; rfl) q
theorem scNr:FnScope ["self","side"] ["self","side"] (ai pF):={}
theorem kj (T:Txt K mg t):FnOk P w K mg base CX0 2 t.f_Jh t.d_Jh ["self","side"] (dH t.c_Yard):=by
 refine T.F_Jh.ok scNr (fun vs H Q E h=>?_) (fun cdv A outer s H vs Q E hr h=>?_)
 ·obtain⟨_,_,_,_,rfl,_⟩:=h
  rfl
 ·obtain⟨A,y,L,z,rfl,hH,hz,sm,q⟩:=h
  refine⟨_,(ae (ak (pcl (ki T) hr T.m_Jm T.F_Jm.kp (oS T) (aa (pv 1) af)))
   (ae (ak (b6 PySem.F.plainAttrs_list PySem.F.slot_list_append PySem.F.type_list_append aT (aD (pv 0) rfl) (aa (pv 1) af)))
   (ae (ak (aS (pv 0) T.cl_Yard T.M_J7 (iD T) hr (l3 T) .nil aB))
   (ah (aH (ao og (aK az (by rfl) T.z_len (by rfl) (aa (aD (pv 0) rfl) af)) ag)))))),?_⟩
  refine⟨_,U,z,U,hz,?_⟩
  refine⟨_,U,A.p,_,A.dx,_,_,U,hH.get 1 U,T.cl_Yard,T.n_Yard_sides,eh _ _ _,.inl ⟨U,_,SqL.of (hH.get 6 U)⟩,_,U,A.s,_,_,U,U,hH.get 6 U,sizeOk (by omega),?_⟩
  have h1:Has _ (yL t.c_Yard A { y with sides:=y.sides++[.int z] }++L):=hH.puti 6 U (.lst (y.sides++[.int z]))
  refine⟨_,U,A.p,A.dx,_,U,h1.get 1 U,(bT _ _ _).2.2.2.2.2.2.1,A,_,L,U,h1,fun H' a h2=>?_⟩
  refine⟨_,U,A.p,_,A.dx,_,_,U,h2.get 1 U,T.cl_Yard,T.n_Yard_sides,eh _ _ _,A.s,_,U,.inl (SqL.of (h2.get 6 U)),_,_,U,U,?_⟩
  have e:((y.sides++[V.int z]).length:Int) - 1=y.sides.length:=by rw[length_append,length_singleton]; omega
  show Q (.int (((y.sides++[V.int z]).length:Int) - 1)) H'
  rw[e]
  exact q H' a h2
theorem scLy:FnScope ["self","kind","note","rod","point","piece"] ["self","kind","note","rod"] (ai mO):={}
theorem bG (T:Txt K mg t):FnOk P w K mg base CX0 3 t.f_J21 t.d_J21 ["self","kind","note","rod"] (jI t.c_Yard):=by
 obtain⟨ds_nr,hd_Jh_1,hb_Jh_1⟩:=iN T
 refine T.F_J21.ok scLy (fun vs H Q E h=>?_) (fun cdv A outer s H vs Q E hr h=>?_)
 ·obtain⟨_,_,_,_,_,_,rfl,_⟩:=h
  rfl
 ·obtain⟨A,y,L,k,note,rod,rfl,hH,sm,hnote,hrod,q⟩:=h
  have hu:=fA hr
  refine⟨_,(ae (ar (i:=4) scLy.nd rfl (Or.inl rfl) (pcl (oE T) hr T.m_J01 T.F_J01.kp (b_J01 T) (aa (pv 1) af)))
   (ae (aG (aj bp (pv 1) aF (ap _))
    (ah (ak (pcl (mZ T) hr T.m_Jn T.F_Jn.kp (p0 T) (aa (pv 2) af))))
    au)
   (ae (aG (PW.pt (bZ (jW (pv 4)) (cq (aj lL (pv 3) g9 (ap _)))))
    (ah (ak (aA (pv 0) T.cl_Yard T.M_J9 (ok_J9 T) hr (b_J9 T) .nil aB (aa (pv 3) af))))
    au)
   (ae (ar (i:=5) scLy.nd rfl (Or.inl rfl) (aD (pv 0) rfl))
   (ae (iZ (pv 0) ag oM)
   (ae (cs hu (aD (pv 0) rfl) (pv 5) (pv 1) rfl)
   (ae (aG (aj bp (pv 1) aF (ap _))
    (ah (cs hu (aD (pv 0) rfl) (pv 5) (pv 2) rfl))
    au)
   (ae (aG (jW (pv 4))
    (ah (cs hu (aD (pv 0) rfl) (pv 5) (j8 (aj oi (pv 3) g9 (ap _)) (aS (pv 0) T.cl_Yard T.M_Jh (kj T) hr hb_Jh_1 hd_Jh_1 aB) (pv 3)) rfl))
    au)
   (ae (ak (aS (pv 0) T.cl_Yard T.M_J7 (iD T) hr (l3 T) .nil aB))
   (ah (aH (pv 5)))))))))))),?_⟩
  refine⟨_,U,k,U,?_⟩
  refine⟨_,U,U,_,U,ifJ (fun hc g=>?_) ?_⟩
  ·rw[k.isBell] at hc
   have hb:=hnote (of_decide_eq_true hc)
   exact⟨_,U,note,U,hb.1,hb.2,g⟩
  refine⟨_,U,_,U,?_⟩
  refine(fun(g:_)=>if2 (fun hp=>⟨_,U,U,_,U,ifJ (fun hc g'=>?a) g⟩) (fun hp=>cZ g)) ?b
  case a=>
   have hn:rod≠.non:=by simpa using hc
   obtain⟨r,rfl,r0,r1⟩:=hrod hp hn
   exact⟨_,U,A.p,A.dx,_,U,hH.get 1 U,(bT _ _ _).2.2.2.2.2.2.2.2,_,U,A,y,L,r,U,hH,r0,r1,g'⟩
  refine⟨_,U,A.p,_,A.dx,_,_,U,hH.get 1 U,T.cl_Yard,T.n_Yard_next_piece,iI _ _ _,?_⟩
  refine⟨_,U,A.p,_,A.dx,_,_,U,hH.get 1 U,T.cl_Yard,T.n_Yard_next_piece,iI _ _ _,_,_,U,U,_,_,hH.get 1 U,(show 9<1000 by decide),?_⟩
  rw[gL]
  have h1:Has _ (yL t.c_Yard A { y with next:=y.next+1 }++L):=hH.puti 1 U (.ins t.c_Yard A.dx (fl A (y.next+1) y.eng))
  generalize upd H A.p _=H1 at h1 ⊢
  refine⟨_,U,_,U,A.p,_,A.dx,_,_,U,h1.get 1 U,T.cl_Yard,T.n_Yard_kinds,cO _ _ _,_,U,A.k,_,U,DPut.k (k:=Sum.inl y.next) (h1.get 3 U) (sizeOk (show y.kinds.length<=1000000 by have:=sm.k; omega)),?_⟩
  have h2:Has _ (yL t.c_Yard A { y with next:=y.next+1,kinds:=aI y.kinds (Sum.inl y.next) (.str k.str) }++L):=h1.puti 3 U (.dK (aI y.kinds (Sum.inl y.next) (.str k.str)))
  generalize upd H1 A.k _=H2 at h2 ⊢
  refine⟨_,U,U,_,U,?_⟩
  rw[k.isBell]
  have fin:∀ (H3:Hp) (A3:YA) (y3:YR),A3.p=A.p->(∀ q,{ A3 with tr:=q }={ A with tr:=q })->{ y3 with trail:=[] }=bC y k note rod->Has H3 (yL t.c_Yard A3 y3++L) ->
    jB (mD (jC t.c_Yard "end_trail" (cC t.c_Yard) [] E0 (k8 0) f9)) (oZ (k8 5)) { nx:=fun _ H'=>Q .non H',rt:=Q } [some (.ref A.p),some (.str k.str),some (.int note),some rod,some (.bl k.point),some (.int y.next)] H3:=fun H3 A3 y3 e1 e2 e3 h3=>by
   have g1:=h3.get 1 rfl
   rw[e1] at g1
   refine⟨_,U,A.p,A3.dx,_,U,g1,(bT _ _ _).2.2.2.2.2.2.1,A3,y3,L,(by rw[e1]; rfl),h3,fun H4 a h4=>⟨_,U,?_⟩⟩
   rw[e2,e3] at h4
   exact q H4 a h4
  refine ifd (fun hb=>?_) (fun hb=>?_)
  ·subst hb
   refine⟨_,U,_,U,A.p,_,A.dx,_,_,U,h2.get 1 U,T.cl_Yard,T.n_Yard_notes,kI _ _ _,_,U,A.n,_,U,DPut.k (k:=Sum.inl y.next) (h2.get 4 U) (sizeOk (show y.notes.length<=1000000 by have:=sm.n; omega)),?_⟩
   have h3:Has _ (yL t.c_Yard A { y with next:=y.next+1,kinds:=aI y.kinds (Sum.inl y.next) (.str Kd.bell.str),notes:=aI y.notes (Sum.inl y.next) (.int note) }++L):=h2.puti 4 U (.dK (aI y.notes (Sum.inl y.next) (.int note)))
   refine⟨_,U,_,U,cZ ?_⟩
   exact fin _ A _ rfl (fun _=>rfl) rfl h3
  ·refine⟨_,U,_,U,if2 (fun hp=>?_) (fun hp=>?_)⟩
   ·refine⟨_,U,U,_,U,ifd (fun hn=>?_) (fun hn=>?_)⟩
    ·subst hn
     refine⟨_,U,A.p,A.dx,_,U,h2.get 1 U,(bT _ _ _).2.1,A,_,L,1,U,h2,.inl rfl,sm.s,fun H3 a h3=>?_⟩
     refine⟨_,U,A.p,_,A.dx,_,_,U,h3.get 1 U,T.cl_Yard,T.n_Yard_rods_under,iH _ _ _,_,U,A.r,_,U,DPut.k (k:=Sum.inl y.next) (h3.get 5 U) (sizeOk (show y.rods.length<=1000000 by have:=sm.r; omega)),?_⟩
     have h4:Has _ (yL t.c_Yard { A with tr:=a } { y with next:=y.next+1,kinds:=aI y.kinds (Sum.inl y.next) (.str k.str),rods:=aI y.rods (Sum.inl y.next) (.int y.sides.length),sides:=y.sides++[.int 1],trail:=[] }++L):=h3.puti 5 U (.dK (aI y.rods (Sum.inl y.next) (.int y.sides.length)))
     exact fin _ { A with tr:=a } _ rfl (fun _=>rfl) (by unfold bC; rw[if_neg hb,if_pos hp,if_pos rfl,if_pos ⟨hp,U⟩]) h4
    ·refine⟨_,U,_,U,A.p,_,A.dx,_,_,U,h2.get 1 U,T.cl_Yard,T.n_Yard_rods_under,iH _ _ _,_,U,A.r,_,U,DPut.k (k:=Sum.inl y.next) (h2.get 5 U) (sizeOk (show y.rods.length<=1000000 by have:=sm.r; omega)),?_⟩
     have h3:Has _ (yL t.c_Yard A { y with next:=y.next+1,kinds:=aI y.kinds (Sum.inl y.next) (.str k.str),rods:=aI y.rods (Sum.inl y.next) rod }++L):=h2.puti 5 U (.dK (aI y.rods (Sum.inl y.next) rod))
     exact fin _ A _ rfl (fun _=>rfl) (by unfold bC; rw[if_neg hb,if_pos hp,if_neg hn,if_neg (fun z=>hn z.2)]) h3
   ·exact fin _ A _ rfl (fun _=>rfl) (by unfold bC; rw[if_neg hb,if_neg (by rw[hp]; exact Bool.false_ne_true),if_neg (fun z=>by rw[hp] at z; exact Bool.false_ne_true z.1)]) h2
end
noncomputable abbrev kE (n e:Int):List Key:=[Sum.inl n,Sum.inl e]
theorem bS (A:YA) (next:Int) (eng:V):(fl A next eng).lookup ("check_there" : Str)=none/\(fl A next eng).lookup ("mate" : Str)=none/\(fl A next eng).lookup ("link" : Str)=none/\(fl A next eng).lookup ("unlink" : Str)=none :=
 ⟨by kernel_rfl,by kernel_rfl,by kernel_rfl,by kernel_rfl⟩
noncomputable def There (y:YR) (n e:Int):Prop:=∃ k:Kd,aM y.kinds (Sum.inl n)=some (.str k.str)/\0<=e/\e<k.many
noncomputable def dI (C:Addr):Sp:=fun vs H Q _=>∃ (A:YA) (y:YR) (L:Kn) (b:Addr) (n e:Int) (j:Nat),vs=[.ref A.p,.ref b]/\Has H (yL C A y++L)/\L[j]?=some (b,.tup [.int n,.int e])/\There y n e/\Q .non H
noncomputable def il (C:Addr):Sp:=fun vs H Q _=>∃ (A:YA) (y:YR) (L:Kn) (b1 b2:Addr) (n1 e1 n2 e2:Int) (j1 j2:Nat),vs=[.ref A.p,.ref b1,.ref b2]/\Has H (yL C A y++L)/\L[j1]?=some (b1,.tup [.int n1,.int e1])/\L[j2]?=some (b2,.tup [.int n2,.int e2]) /\
 There y n1 e1/\There y n2 e2/\¬ kE n1 e1=kE n2 e2/\aM y.mates (kE n1 e1)=none/\aM y.mates (kE n2 e2)=none/\y.mates.length<=30000 /\
 ∀ H' q,Has H' (yL C { A with tr:=q } { y with mates:=aI (aI y.mates (kE n1 e1) (.ref b2)) (kE n2 e2) (.ref b1),trail:=[] }++L)->Q .non H'
section
variable {P:Program}{w:World}{K:PySem.W.Frag}{mg:Str->Option Value}{base:Heap}{t:Adr}
theorem scCt:FnScope ["self","end","piece","place"] ["self","end"] (ai pQ):={}
theorem kn (T:Txt K mg t):FnOk P w K mg base CX0 3 t.f_J5 t.d_J5 ["self","end"] (dI t.c_Yard):=by
 refine T.F_J5.ok scCt (fun vs H Q E h=>?_) (fun cdv A outer s H vs Q E hr h=>?_)
 ·obtain⟨_,_,_,_,_,_,_,rfl,_⟩:=h
  rfl
 ·obtain⟨A,y,L,b,n,e,j,rfl,hH,hj,⟨k,hk,e0,e1⟩,q⟩:=h
  have hu:=fA hr
  refine⟨_,(ae (cc (pv 1) (bt rfl (ax (am (i:=2) scCt.nd rfl (Or.inl rfl)) (ax (am (i:=3) scCt.nd rfl (Or.inl rfl)) bi))))
   (ae (ak (aA (pv 0) T.cl_Yard T.M_J6 (ok_J6 T) hr (b_J6 T) .nil aB (aa (pv 2) af)))
   (ah (ak (pcl (ok_Jr T) hr T.m_Jr T.F_Jr.kp (b_Jr T) (aa (lI hu (aD (pv 0) rfl) (pv 2)) (aa (pv 3) af))))))),?_⟩
  have gb:=hH.get (j+9) (by simpa [yL] using hj)
  refine⟨_,U,b,_,U,SqT.of gb,U,_,_,U,_,_,U,U,?_⟩
  refine⟨_,U,A.p,A.dx,_,U,hH.get 1 U,(bT _ _ _).2.2.2.2.2.2.2.1,_,U,A,y,L,n,_,U,hH,hk,?_⟩
  refine⟨_,U,A.p,_,A.dx,_,_,U,hH.get 1 U,T.cl_Yard,T.n_Yard_kinds,cO _ _ _,_,U,A.k,_,U,?_,_,U,k,e,U,e0,e1,q⟩
  rw[<- hk]
  exact DGet.k (k:=Sum.inl n) (hH.get 3 U)
theorem scLk:FnScope ["self","one","other","end"] ["self","one","other"] (ai pc):={}
theorem cg (T:Txt K mg t):FnOk P w K mg base CX0 4 t.f_Jw t.d_Jw ["self","one","other"] (il t.c_Yard):=by
 refine T.F_Jw.ok scLk (fun vs H Q E h=>?_) (fun cdv A outer s H vs Q E hr h=>?_)
 ·obtain⟨_,_,_,_,_,_,_,_,_,_,_,rfl,_⟩:=h
  rfl
 ·obtain⟨A,y,L,b1,b2,n1,e1,n2,e2,j1,j2,rfl,hH,hj1,hj2,t1,t2,ne,v1,v2,hl,q⟩:=h
  have hu:=fA hr
  refine⟨_,(ae (ak (aA (pv 0) T.cl_Yard T.M_J5 (kn T) hr (oU T) .nil aB (aa (pv 1) af)))
   (ae (ak (aA (pv 0) T.cl_Yard T.M_J5 (kn T) hr (oU T) .nil aB (aa (pv 2) af)))
   (ae (aG (aj (oj hr.units) (pv 1) (pv 2) (ap _))
    (ah aQ)
    au)
   (ae (aX PassesOwn.never rfl (nU (aq (aa (pv 1) (aa (pv 2) af)))) (am (i:=3) scLk.nd rfl (Or.inl rfl))
    (ah (aG (jX (n9 hu (pv 3) (aD (pv 0) rfl)))
      (ah aQ)
      au)))
   (ae (cs hu (aD (pv 0) rfl) (pv 1) (pv 2) rfl)
   (ae (cs hu (aD (pv 0) rfl) (pv 2) (pv 1) rfl)
   (ah (ak (aS (pv 0) T.cl_Yard T.M_J7 (iD T) hr (l3 T) .nil aB))))))))),?_⟩
  have g1:=hH.get (j1+9) (by simpa [yL] using hj1)
  have g2:=hH.get (j2+9) (by simpa [yL] using hj2)
  refine⟨_,U,A.p,A.dx,_,U,hH.get 1 U,(bS _ _ _).1,_,U,A,y,L,b1,n1,e1,j1,U,hH,hj1,t1,?_⟩
  refine⟨_,U,A.p,A.dx,_,U,hH.get 1 U,(bS _ _ _).1,_,U,A,y,L,b2,n2,e2,j2,U,hH,hj2,t2,?_⟩
  have ne':¬ [n1,e1]=[n2,e2]:=fun z=>ne (by cases z; rfl)
  refine⟨_,U,_,U,b1,b2,[n1,e1],[n2,e2],U,U,g1,g2,_,U,ifF (decide_eq_false ne') ?_⟩
  refine⟨_,U,_,U,(show 2<=sizeLine by decide),fun p hp=>?_⟩
  have h1:=(hH.alloc hp (.tup [.ref b1,.ref b2]))
  generalize upd H p _=H1 at h1 ⊢
  refine⟨p,U,⟨_,SqT.of (h1.get 0 U)⟩,lU (xs:=[.ref b1,.ref b2]) (fun i σ H'=>H'=H1/\∃ o,σ=[some (.ref A.p),some (.ref b1),some (.ref b2),o]) ⟨U,_,U⟩ (fun i σ H' _ ⟨e,_⟩=>by rw[e]; exact SqT.of (h1.get 0 U)) ?_ ?_⟩
  ·rintro i x σ H' hx ⟨rfl,o,rfl⟩
   have k1:=h1.get (j1+10) (by simpa [yL] using hj1)
   have k2:=h1.get (j2+10) (by simpa [yL] using hj2)
   match i,hx with
   | 0,hx=>
    cases hx
    refine⟨_,U,_,U,A.p,_,A.dx,_,_,U,h1.get 2 U,T.cl_Yard,T.n_Yard_mates,cL _ _ _,A.m,_,U,DGet.t (k:=kE n1 e1) (h1.get 8 U) k1,_,U,ifF (by rw[v1]; rfl) ⟨U,_,U⟩⟩
   | 1,hx=>
    cases hx
    refine⟨_,U,_,U,A.p,_,A.dx,_,_,U,h1.get 2 U,T.cl_Yard,T.n_Yard_mates,cL _ _ _,A.m,_,U,DGet.t (k:=kE n2 e2) (h1.get 8 U) k2,_,U,ifF (by rw[v2]; rfl) ⟨U,_,U⟩⟩
  ·rintro σ H' ⟨rfl,o,rfl⟩
   have h2:=h1.tail
   have k1:=h2.get (j1+9) (by simpa [yL] using hj1)
   refine⟨_,U,_,U,A.p,_,A.dx,_,_,U,h2.get 1 U,T.cl_Yard,T.n_Yard_mates,cL _ _ _,_,U,A.m,_,U,DPut.t (k:=kE n1 e1) (h2.get 7 U) k1 (sizeOk (by omega)),?_⟩
   have h3:Has _ (yL t.c_Yard A { y with mates:=aI y.mates (kE n1 e1) (.ref b2) }++L):=h2.puti 7 U (.dT (aI y.mates (kE n1 e1) (.ref b2)))
   generalize upd H' A.m _=H3 at h3 ⊢
   have k2:=h3.get (j2+9) (by simpa [yL] using hj2)
   refine⟨_,U,_,U,A.p,_,A.dx,_,_,U,h3.get 1 U,T.cl_Yard,T.n_Yard_mates,cL _ _ _,_,U,A.m,_,U,DPut.t (k:=kE n2 e2) (h3.get 7 U) k2 (sizeOk (Nat.le_trans (bb _ _ _) (by omega))),?_⟩
   have h4:Has _ (yL t.c_Yard A { y with mates:=aI (aI y.mates (kE n1 e1) (.ref b2)) (kE n2 e2) (.ref b1) }++L):=h3.puti 7 U (.dT (aI (aI y.mates (kE n1 e1) (.ref b2)) (kE n2 e2) (.ref b1)))
   exact⟨_,U,A.p,A.dx,_,U,h4.get 1 U,(bT _ _ _).2.2.2.2.2.2.1,A,_,L,U,h4,fun H' a h2=>q H' a h2⟩
end
theorem ni (A:YA) (next:Int) (eng:V):(fl A next eng).lookup ("put" : Str)=none/\(fl A next eng).lookup ("off" : Str)=none/\(fl A next eng).lookup ("carry" : Str)=none/\(fl A next eng).lookup ("pieces" : Str)=none/\(fl A next eng).lookup ("kind" : Str)=none /\
  (fl A next eng).lookup ("note" : Str)=none/\(fl A next eng).lookup ("engine" : Str)=none/\(fl A next eng).lookup ("bells" : Str)=none/\(fl A next eng).lookup ("steps" : Str)=none :=
 ⟨by kernel_rfl,by kernel_rfl,by kernel_rfl,by kernel_rfl,by kernel_rfl,by kernel_rfl,by kernel_rfl,by kernel_rfl,by kernel_rfl⟩
noncomputable def nD (C:Addr):Sp:=fun vs H Q _=>∃ (A:YA) (y:YR) (L:Kn) (b:Addr) (n e:Int) (j:Nat),vs=[.ref A.p,.ref b]/\Has H (yL C A y++L)/\L[j]?=some (b,.tup [.int n,.int e])/\There y n e /\
 ∀ H' q,Has H' (yL C { A with tr:=q } { y with eng:=.ref b,trail:=[] }++L)->Q .non H'
noncomputable def iV (C:Addr):Sp:=fun vs H Q _=>∃ (A:YA) (y:YR) (L:Kn),vs=[.ref A.p]/\Has H (yL C A y++L)/\∀ H' l,Has H' ((l,.lst (y.kinds.map fun kv=>kV kv.1))::(yL C A y++L))->Q (.ref l) H'
section
variable {P:Program}{w:World}{K:PySem.W.Frag}{mg:Str->Option Value}{base:Heap}{t:Adr}
theorem scPu:FnScope ["self","end"] ["self","end"] (ai mP):={}
theorem oB (T:Txt K mg t):FnOk P w K mg base CX0 4 t.f_J11 t.d_J11 ["self","end"] (nD t.c_Yard):=by
 refine T.F_J11.ok scPu (fun vs H Q E h=>?_) (fun cdv A outer s H vs Q E hr h=>?_)
 ·obtain⟨_,_,_,_,_,_,_,rfl,_⟩:=h
  rfl
 ·obtain⟨A,y,L,b,n,e,j,rfl,hH,hj,th,q⟩:=h
  refine⟨_,(ae (ak (aA (pv 0) T.cl_Yard T.M_J5 (kn T) hr (oU T) .nil aB (aa (pv 1) af)))
   (ae (aZ (pv 0) (pv 1) rfl)
   (ah (ak (aS (pv 0) T.cl_Yard T.M_J7 (iD T) hr (l3 T) .nil aB))))),?_⟩
  refine⟨_,U,A.p,A.dx,_,U,hH.get 1 U,(bS _ _ _).1,_,U,A,y,L,b,n,e,j,U,hH,hj,th,?_⟩
  refine⟨_,U,_,U,A.p,_,A.dx,_,U,hH.get 1 U,T.cl_Yard,T.n_Yard_engine_end,(show 9<1000 by decide),?_⟩
  rw[hW]
  have h1:Has _ (yL t.c_Yard A { y with eng:=.ref b }++L):=hH.puti 1 U (.ins t.c_Yard A.dx (fl A y.next (.ref b)))
  exact⟨_,U,A.p,A.dx,_,U,h1.get 1 U,(bT _ _ _).2.2.2.2.2.2.1,A,_,L,U,h1,fun H' a h2=>q H' a h2⟩
theorem scPc:FnScope ["self"] ["self"] (ai pB):={}
theorem ok_Jl (T:Txt K mg t):FnOk P w K mg base CX0 1 t.f_Jl t.d_Jl ["self"] (iV t.c_Yard):=by
 refine T.F_Jl.ok scPc (fun vs H Q E h=>?_) (fun cdv A outer s H vs Q E hr h=>?_)
 ·obtain⟨_,_,_,rfl,_⟩:=h
  rfl
 ·obtain⟨A,y,L,rfl,hH,q⟩:=h
  refine⟨_,(ah (aH (aW (fY rfl) (by rfl) T.z_list (by rfl) (aa (aD (pv 0) rfl) af)))),?_⟩
  exact⟨_,U,A.p,_,A.dx,_,_,U,hH.get 1 U,T.cl_Yard,T.n_Yard_kinds,cO _ _ _,A.k,_,U,.inl (hH.get 3 U),fun l hl=>q _ l (hH.alloc hl _)⟩
end
structure PA where
 p:Addr
 dx:Addr
 m:Addr
 w:Addr
 s:Addr
noncomputable def pfl (A:PA):List (Str×V):=[("mark_sides",.ref A.m),("counter_widths",.ref A.w),("stretches",.ref A.s)]
theorem j5 (A:PA):(pfl A).lookup ("mark_sides" : Str)=some (.ref A.m):=by kernel_rfl
theorem j4 (A:PA):(pfl A).lookup ("counter_widths" : Str)=some (.ref A.w):=by kernel_rfl
theorem gD (A:PA):(pfl A).lookup ("stretches" : Str)=some (.ref A.s):=by kernel_rfl
theorem b5 (A:PA):(pfl A).lookup ("many" : Str)=none/\(pfl A).lookup ("marks" : Str)=none/\(pfl A).lookup ("widths" : Str)=none/\(pfl A).lookup ("row_at" : Str)=none/\(pfl A).lookup ("check_beginning" : Str)=none/\(pfl A).lookup ("check_rows" : Str)=none/\(pfl A).lookup ("check_part" : Str)=none :=
 ⟨by kernel_rfl,by kernel_rfl,by kernel_rfl,by kernel_rfl,by kernel_rfl,by kernel_rfl,by kernel_rfl⟩
theorem nW (A:PA):(pfl A).lookup ("check_called" : Str)=none:=by kernel_rfl
inductive Rw where
 | bell (n:Int)
 | set (m s:Int)
 | ask (m a b:Int)
 | bump (c r:Int)
 | go (r:Int)
 | call (s:Int)
 | fin
noncomputable def Rw.ws:Rw->Str
 | .bell _ => "bell"
 | .set _ _ => "set"
 | .ask _ _ _ => "ask"
 | .bump _ _ => "bump"
 | .go _ => "go"
 | .call _ => "call"
 | .fin => "end"
noncomputable def Rw.ns:Rw->List Int
 | .bell n=>[n]
 | .set m s=>[m,s]
 | .ask m a b=>[m,a,b]
 | .bump c r=>[c,r]
 | .go r=>[r]
 | .call s=>[s]
 | .fin=>[]
noncomputable def Rw.v (x:Rw):List V:=.str x.ws::x.ns.map V.int
noncomputable def Rw.ps:Rw->List Str
 | .bell _=>["note"]
 | .set _ _=>["mark","side"]
 | .ask _ _ _=>["mark","row","row"]
 | .bump _ _=>["counter","row"]
 | .go _=>["row"]
 | .call _=>["stretch"]
 | .fin=>[]
noncomputable def Rw.last:Rw->Bool
 | .ask _ _ _=>true
 | .go _=>true
 | .fin=>true
 | _=>false
noncomputable def Rw.ok (nm nc nr k ns:Nat):Rw->Prop
 | .bell n=>0<=n/\n<=9999
 | .set m s=>0<=m/\m<nm/\(s=1∨s=2)
 | .ask m a b=>0<=m/\m<nm/\0<=a/\a<nr/\0<=b/\b<nr
 | .bump c r=>0<=c/\c<nc/\0<=r/\r<nr
 | .go r=>0<=r/\r<nr
 | .call s=>(k:Int)<s/\s<ns
 | .fin=>True
theorem Rw.len (x:Rw):x.ps.length=x.ns.length:=by cases x <;> rfl
theorem Rw.psl (x:Rw):x.ps.length<=1000:=by cases x <;> simp[Rw.ps]
theorem Rw.nsl (x:Rw):x.ns.length+1<=4:=by cases x <;> simp[Rw.ns]
theorem Rw.lastIn:∀ (x:Rw),x.last=true->(!inV (.str x.ws) [.str "ask",.str "go",.str "end"])=false
 | .ask _ _ _,_=>(by decide +kernel:(!inV (.str ("ask" : Str)) [.str "ask",.str "go",.str "end"])=false)
 | .go _,_=>(by decide +kernel:(!inV (.str ("go" : Str)) [.str "ask",.str "go",.str "end"])=false)
 | .fin,_=>(by decide +kernel:(!inV (.str ("end" : Str)) [.str "ask",.str "go",.str "end"])=false)
 | .bell _,h=>nomatch h
 | .set _ _,h=>nomatch h
 | .bump _ _,h=>nomatch h
 | .call _,h=>nomatch h
theorem cutok {n:Nat} (h1:1<=n) (h2:n<=4):¬ (HT.sIx n 0 (some 1)=0/\HT.sIx n n none=n):=by
 match n with
 | 1=>decide
 | 2=>decide
 | 3=>decide
 | 4=>decide
noncomputable def partsD:List (Str×List Str):=[("bell",["note"]),("set",["mark","side"]),("ask",["mark","row","row"]),("bump",["counter","row"]),("go",["row"]),("call",["stretch"]),("end",[])]
theorem Rw.parts (x:Rw):partsD.lookup x.ws=some x.ps:=by cases x <;> rfl
noncomputable def rwV (rs:List (Addr×Rw)):List V:=rs.map fun x=>V.ref x.1
noncomputable abbrev Ss:=List (Addr×List (Addr×Rw))
noncomputable def ssV (ss:Ss):List V:=ss.map fun z=>V.ref z.1
noncomputable def kZ (nm nc nr k ns:Nat) (p:Str) (n:Int):Prop :=
 (p = "note" /\ 0<=n/\n<=9999)∨(p = "mark" /\ 0<=n/\n<nm)∨(p = "side" /\ (n=1∨n=2))∨(p = "counter" /\ 0<=n/\n<nc)∨(p = "row" /\ 0<=n/\n<nr)∨(p = "stretch" /\ (k:Int)<n/\n<ns)
theorem Rw.part {nm nc nr k ns:Nat}{x:Rw} (h:x.ok nm nc nr k ns) {i:Nat}{p:Str}{n:Int} (hp:x.ps[i]?=some p) (hn:x.ns[i]?=some n):kZ nm nc nr k ns p n:=by
 cases x with
 | bell k=>
  match i with
  | 0=>cases hp; cases hn; exact .inl ⟨U,h⟩
  | i+1=>cases hp
 | set m s=>
  match i with
  | 0=>cases hp; cases hn; exact .inr (.inl ⟨U,h.1,h.2.1⟩)
  | 1=>cases hp; cases hn; exact .inr (.inr (.inl ⟨U,h.2.2⟩))
  | i+2=>cases hp
 | ask m a b=>
  match i with
  | 0=>cases hp; cases hn; exact .inr (.inl ⟨U,h.1,h.2.1⟩)
  | 1=>cases hp; cases hn; exact .inr (.inr (.inr (.inr (.inl ⟨U,h.2.2.1,h.2.2.2.1⟩))))
  | 2=>cases hp; cases hn; exact .inr (.inr (.inr (.inr (.inl ⟨U,h.2.2.2.2.1,h.2.2.2.2.2⟩))))
  | i+3=>cases hp
 | bump c r=>
  match i with
  | 0=>cases hp; cases hn; exact .inr (.inr (.inr (.inl ⟨U,h.1,h.2.1⟩)))
  | 1=>cases hp; cases hn; exact .inr (.inr (.inr (.inr (.inl ⟨U,h.2.2.1,h.2.2.2⟩))))
  | i+2=>cases hp
 | go r=>
  match i with
  | 0=>cases hp; cases hn; exact .inr (.inr (.inr (.inr (.inl ⟨U,h.1,h.2⟩))))
  | i+1=>cases hp
 | call s=>
  match i with
  | 0=>cases hp; cases hn; exact .inr (.inr (.inr (.inr (.inr ⟨U,h.1,h.2⟩))))
  | i+1=>cases hp
 | fin=>cases hp
structure PIn (C:Addr) (A:PA) (ms ws:List Int) (ss:Ss) (L:Kn):Prop where
 p:(A.p,HO.ins C A.dx (pfl A)) ∈ L
 m:(A.m,HO.lst (ms.map V.int)) ∈ L
 w:(A.w,HO.lst (ws.map V.int)) ∈ L
 s:(A.s,HO.lst (ssV ss)) ∈ L
 l:∀ z ∈ ss,(z.1,HO.lst (rwV z.2)) ∈ L
 r:∀ z ∈ ss,∀ x ∈ z.2,(x.1,HO.tup x.2.v) ∈ L
structure PInN (C:Addr) (A:PA) (ms ws:List Int) (ss:Ss) (N:Kn):Prop where
 p:(A.p,HO.ins C A.dx (pfl A)) ∈ N
 m:(A.m,HO.lst (ms.map V.int)) ∈ N
 w:(A.w,HO.lst (ws.map V.int)) ∈ N
 s:(A.s,HO.lst (ssV ss)) ∈ N
 l:∀ z ∈ ss,(z.1,HO.lst (rwV z.2)) ∈ N
theorem PIn.mono {C:Addr}{A:PA}{ms ws:List Int}{ss:Ss}{L L':Kn} (h:PIn C A ms ws ss L) (s:∀ z ∈ L,z ∈ L'):PIn C A ms ws ss L' :=
 ⟨s _ h.p,s _ h.m,s _ h.w,s _ h.s,fun z hz=>s _ (h.l z hz),fun z hz x hx=>s _ (h.r z hz x hx)⟩
noncomputable def Good (nm nc:Nat) (ss:Ss):Prop:=∀ (k:Nat) z,ss[k]?=some z->(∀ x ∈ z.2,x.2.ok nm nc z.2.length k ss.length)/\∃ a y,z.2.getLast?=some (a,y)/\y.last=true
theorem cB {ss:Ss}{k:Nat}{z:Addr×List (Addr×Rw)} (h:ss[k]?=some z):(ssV ss)[k]?=some (.ref z.1):=by unfold ssV; rw[getElem?_map,h]; rfl
theorem lC {rs:List (Addr×Rw)}{k:Nat}{z:Addr×Rw} (h:rs[k]?=some z):(rwV rs)[k]?=some (.ref z.1):=by unfold rwV; rw[getElem?_map,h]; rfl
theorem Good.tr {nm nc:Nat}{ss ss':Ss} (e:ss'.map (·.2)=ss.map (·.2)) (h:Good nm nc ss):Good nm nc ss':=by
 intro k z hz
 have hl:ss'.length=ss.length:=by simpa using congrArg List.length e
 have e2:(ss.map (·.2))[k]?=some z.2:=by rw[<- e,getElem?_map,hz]; rfl
 rw[getElem?_map] at e2
 obtain⟨z',h1,h2⟩:=Option.map_eq_some_iff.mp e2
 have:=h k z' h1
 rw[h2] at this
 rw[hl]
 exact this
noncomputable def ip:Sp:=fun vs H Q _=>∃ (n:Int) (m:Nat),vs=[.int n,.int m]/\0<=n/\n<m/\Q .non H
noncomputable def sp_Jk:Sp:=fun vs H Q _=>∃ (n:Int),vs=[.int n]/\1<=n/\n<=8/\Q .non H
noncomputable def ik (C:Addr):Sp:=fun vs H Q _=>∃ (A:PA) (st:List V),vs=[.ref A.p]/\H A.p=some (.ins C A.dx (pfl A))/\H A.s=some (.lst st)/\Q (.int st.length) H
noncomputable def iU (C:Addr):Sp:=fun vs H Q _=>∃ (A:PA) (ms:List V) (L:Kn),vs=[.ref A.p]/\Has H L/\(A.p,HO.ins C A.dx (pfl A)) ∈ L/\(A.m,HO.lst ms) ∈ L/\∀ H' l,Has H' ((l,.lst ms)::L)->Q (.ref l) H'
noncomputable def gY (C:Addr):Sp:=fun vs H Q _=>∃ (A:PA) (ms:List V) (L:Kn),vs=[.ref A.p]/\Has H L/\(A.p,HO.ins C A.dx (pfl A)) ∈ L/\(A.w,HO.lst ms) ∈ L/\∀ H' l,Has H' ((l,.lst ms)::L)->Q (.ref l) H'
noncomputable def cx (C:Addr):Sp:=fun vs H Q _=>∃ (A:PA) (ms ws:List Int) (ss:Ss) (L:Kn),vs=[.ref A.p]/\Has H L/\PIn C A ms ws ss L/\(∀ x ∈ ms,x=1∨x=2)/\(∀ x ∈ ws,1<=x/\x<=8)/\ss≠[]/\Q .non H
noncomputable def dq (C:Addr):Sp:=fun vs H Q _=>∃ (A:PA) (ms ws:List Int) (ss:Ss) (L:Kn) (n:Int) (k:Nat),vs=[.ref A.p,.int n,.int k]/\Has H L/\PIn C A ms ws ss L/\(k:Int)<n/\n<ss.length/\Q .non H
noncomputable def eR (C:Addr):Sp:=fun vs H Q _=>∃ (A:PA) (ms ws:List Int) (ss:Ss) (L:Kn) (k:Nat) (p:Str) (n:Int) (z:Addr×List (Addr×Rw)),vs=[.ref A.p,.str p,.int n,.int k]/\Has H L/\PIn C A ms ws ss L/\ss[k]?=some z/\kZ ms.length ws.length z.2.length k ss.length p n/\Q .non H
noncomputable def eQ (C:Addr):Sp:=fun vs H Q _=>∃ (A:PA) (ms ws:List Int) (ss:Ss) (L:Kn) (k:Nat) (z:Addr×List (Addr×Rw)),vs=[.ref A.p,.int k]/\Has H L/\PIn C A ms ws ss L/\ss[k]?=some z/\(∀ x ∈ z.2,x.2.ok ms.length ws.length z.2.length k ss.length)/\(∃ a y,z.2.getLast?=some (a,y)/\y.last=true)/\∀ H',Has H' L->Q .non H'
noncomputable def jL (C:Addr):Sp:=fun vs H Q _=>∃ (p dx m0 w0 s0:Addr) (ms ws:List Int) (ss:Ss) (L:Kn),vs=[.ref p,.ref m0,.ref w0,.ref s0] /\
 Has H ((p,.ins C dx [])::(dx,.own p)::L)/\(m0,HO.lst (ms.map V.int)) ∈ L/\(w0,HO.lst (ws.map V.int)) ∈ L/\(s0,HO.lst (ssV ss)) ∈ L/\(∀ z ∈ ss,(z.1,HO.lst (rwV z.2)) ∈ L)/\(∀ z ∈ ss,∀ x ∈ z.2,(x.1,HO.tup x.2.v) ∈ L) /\
 (∀ x ∈ ms,x=1∨x=2)/\(∀ x ∈ ws,1<=x/\x<=8)/\ss≠[]/\ss.length<=1000/\Good ms.length ws.length ss /\
 ∀ H' A ss' N,A.p=p->ss'.map (·.2)=ss.map (·.2)->PInN C A ms ws ss' N->PIn C A ms ws ss' (N++L)->Has H' (N++L)->Q .non H'
section
variable {P:Program}{w:World}{K:PySem.W.Frag}{mg:Str->Option Value}{base:Heap}{t:Adr}
theorem scCm:FnScope ["mark","many"] ["mark","many"] (ai px):={}
theorem mY (T:Txt K mg t):FnOk P w K mg base CX0 1 t.f_Jo t.d_Jo ["mark","many"] ip:=by
 refine T.F_Jo.ok scCm (fun vs H Q E h=>?_) (fun cdv A outer s H vs Q E hr h=>?_)
 ·obtain⟨_,_,rfl,_⟩:=h
  rfl
 ·obtain⟨n,m,rfl,n0,n1,q⟩:=h
  refine⟨_,(ah (aG (PW.pt (da (aj bF (pv 0) ag (ap _)) (b9 (aj fj (pv 0) (pv 1) (ap _)))))
    (ah aQ)
    au)),?_⟩
  refine⟨_,U,_,_,U,U,_,U,ifF (decide_eq_false (by omega)) ?_⟩
  exact⟨_,U,_,U,_,_,U,U,_,U,ifF (decide_eq_false (by omega)) q⟩
theorem scCk:FnScope ["counter","many"] ["counter","many"] (ai pL):={}
theorem m8 (T:Txt K mg t):FnOk P w K mg base CX0 1 t.f_Ja t.d_Ja ["counter","many"] ip:=by
 refine T.F_Ja.ok scCk (fun vs H Q E h=>?_) (fun cdv A outer s H vs Q E hr h=>?_)
 ·obtain⟨_,_,rfl,_⟩:=h
  rfl
 ·obtain⟨n,m,rfl,n0,n1,q⟩:=h
  refine⟨_,(ah (aG (PW.pt (da (aj bF (pv 0) ag (ap _)) (b9 (aj fj (pv 0) (pv 1) (ap _)))))
    (ah aQ)
    au)),?_⟩
  refine⟨_,U,_,_,U,U,_,U,ifF (decide_eq_false (by omega)) ?_⟩
  exact⟨_,U,_,U,_,_,U,U,_,U,ifF (decide_eq_false (by omega)) q⟩
theorem scCw:FnScope ["row","many"] ["row","many"] (ai pq):={}
theorem mX (T:Txt K mg t):FnOk P w K mg base CX0 1 t.f_Jq t.d_Jq ["row","many"] ip:=by
 refine T.F_Jq.ok scCw (fun vs H Q E h=>?_) (fun cdv A outer s H vs Q E hr h=>?_)
 ·obtain⟨_,_,rfl,_⟩:=h
  rfl
 ·obtain⟨n,m,rfl,n0,n1,q⟩:=h
  refine⟨_,(ah (aG (PW.pt (da (aj bF (pv 0) ag (ap _)) (b9 (aj fj (pv 0) (pv 1) (ap _)))))
    (ah aQ)
    au)),?_⟩
  refine⟨_,U,_,_,U,U,_,U,ifF (decide_eq_false (by omega)) ?_⟩
  exact⟨_,U,_,U,_,_,U,U,_,U,ifF (decide_eq_false (by omega)) q⟩
theorem scCi:FnScope ["width"] ["width"] (ai pC):={}
theorem ok_Jk (T:Txt K mg t):FnOk P w K mg base CX0 1 t.f_Jk t.d_Jk ["width"] sp_Jk:=by
 refine T.F_Jk.ok scCi (fun vs H Q E h=>?_) (fun cdv A outer s H vs Q E hr h=>?_)
 ·obtain⟨_,rfl,_⟩:=h
  rfl
 ·obtain⟨n,rfl,n0,n1,q⟩:=h
  refine⟨_,(ah (aG (PW.pt (da (aj bF (pv 0) ag (ap _)) (b9 (aj cf (pv 0) (bQ (by rfl) T.g_WIDEST T.r_WIDEST) (ap _)))))
    (ah aQ)
    au)),?_⟩
  refine⟨_,U,_,_,U,U,_,U,ifF (decide_eq_false (by omega)) ?_⟩
  exact⟨_,U,_,_,U,U,_,U,ifF (decide_eq_false (by omega)) q⟩
theorem scCq:FnScope ["stretch","many"] ["stretch","many"] (ai pK):={}
theorem km (T:Txt K mg t):FnOk P w K mg base CX0 1 t.f_Jb t.d_Jb ["stretch","many"] ip:=by
 refine T.F_Jb.ok scCq (fun vs H Q E h=>?_) (fun cdv A outer s H vs Q E hr h=>?_)
 ·obtain⟨_,_,rfl,_⟩:=h
  rfl
 ·obtain⟨n,m,rfl,n0,n1,q⟩:=h
  refine⟨_,(ah (aG (PW.pt (da (aj bF (pv 0) ag (ap _)) (b9 (aj fj (pv 0) (pv 1) (ap _)))))
    (ah aQ)
    au)),?_⟩
  refine⟨_,U,_,_,U,U,_,U,ifF (decide_eq_false (by omega)) ?_⟩
  exact⟨_,U,_,U,_,_,U,U,_,U,ifF (decide_eq_false (by omega)) q⟩
theorem scPm:FnScope ["self"] ["self"] (ai pG):={}
theorem dW (T:Txt K mg t):FnOk P w K mg base CX0 1 t.f_Jg t.d_Jg ["self"] (ik t.c_Program):=by
 refine T.F_Jg.ok scPm (fun vs H Q E h=>?_) (fun cdv A outer s H vs Q E hr h=>?_)
 ·obtain⟨_,_,rfl,_⟩:=h
  rfl
 ·obtain⟨A,st,rfl,g1,g2,q⟩:=h
  refine⟨_,(ah (aH (aK az (by rfl) T.z_len (by rfl) (aa (aD (pv 0) rfl) af)))),?_⟩
  exact⟨_,U,A.p,_,A.dx,_,_,U,g1,T.cl_Program,T.n_Program_stretches,gD _,A.s,_,U,.inl (SqL.of g2),q⟩
theorem scPk:FnScope ["self"] ["self"] (ai pJ):={}
theorem ok_Jc (T:Txt K mg t):FnOk P w K mg base CX0 1 t.f_Jc t.d_Jc ["self"] (iU t.c_Program):=by
 refine T.F_Jc.ok scPk (fun vs H Q E h=>?_) (fun cdv A outer s H vs Q E hr h=>?_)
 ·obtain⟨_,_,_,rfl,_⟩:=h
  rfl
 ·obtain⟨A,ms,L,rfl,hH,m1,m2,q⟩:=h
  refine⟨_,(ah (aH (aW bc (by rfl) T.z_list (by rfl) (aa (aD (pv 0) rfl) af)))),?_⟩
  exact⟨_,U,A.p,_,A.dx,_,_,U,hH.at_ _ m1,T.cl_Program,T.n_Program_mark_sides,j5 _,A.m,_,U,.inl (SqL.of (hH.at_ _ m2)),fun l hl=>q _ l (hH.alloc hl _)⟩
theorem scPw:FnScope ["self"] ["self"] (ai pN):={}
theorem ok_J8 (T:Txt K mg t):FnOk P w K mg base CX0 1 t.f_J8 t.d_J8 ["self"] (gY t.c_Program):=by
 refine T.F_J8.ok scPw (fun vs H Q E h=>?_) (fun cdv A outer s H vs Q E hr h=>?_)
 ·obtain⟨_,_,_,rfl,_⟩:=h
  rfl
 ·obtain⟨A,ms,L,rfl,hH,m1,m2,q⟩:=h
  refine⟨_,(ah (aH (aW bc (by rfl) T.z_list (by rfl) (aa (aD (pv 0) rfl) af)))),?_⟩
  exact⟨_,U,A.p,_,A.dx,_,_,U,hH.at_ _ m1,T.cl_Program,T.n_Program_counter_widths,j4 _,A.w,_,U,.inl (SqL.of (hH.at_ _ m2)),fun l hl=>q _ l (hH.alloc hl _)⟩
theorem scCb:FnScope ["self","side","width"] ["self"] (ai pU):={}
theorem ok_J0 (T:Txt K mg t):FnOk P w K mg base CX0 2 t.f_J0 t.d_J0 ["self"] (cx t.c_Program):=by
 refine T.F_J0.ok scCb (fun vs H Q E h=>?_) (fun cdv A outer s H vs Q E hr h=>?_)
 ·obtain⟨_,_,_,_,_,rfl,_⟩:=h
  rfl
 ·obtain⟨A,ms,ws,ss,L,rfl,hH,pin,hm,hw,hst,q⟩:=h
  have hL:∀ {z:Addr×HO},z ∈ L->H z.1=some z.2:=fun m=>hH.at_ _ m
  refine⟨_,(ae (aX PassesOwn.never rfl (bq (aD (pv 0) rfl)) (am (i:=1) scCb.nd rfl (Or.inl rfl))
    (ah (ak (pcl (ki T) hr T.m_Jm T.F_Jm.kp (oS T) (aa (pv 1) af)))))
   (ae (aX PassesOwn.never rfl (bq (aD (pv 0) rfl)) (am (i:=2) scCb.nd rfl (Or.inl rfl))
    (ah (ak (pcl (ok_Jk T) hr T.m_Jk T.F_Jk.kp (b_Jk T) (aa (pv 2) af)))))
   (ah (aG (fM (cE (aD (pv 0) rfl) (by intro _; rfl)))
    (ah aQ)
    au)))),?_⟩
  refine⟨_,U,A.p,_,A.dx,_,_,U,hL pin.p,T.cl_Program,T.n_Program_mark_sides,j5 _,A.m,U,⟨_,SqL.of (hL pin.m)⟩,bO (xs:=ms.map V.int) (fun i σ H'=>∃ (o1 o2:Option V),σ=[some (.ref A.p),o1,o2]/\H'=H) ⟨_,_,U,U⟩ (fun i σ H' _ z_=>z_.elim fun _ z_=>z_.elim fun _ z_=>z_.elim fun _ e=>by rw[e]; exact SqL.of (hL pin.m)) ?_ ?_⟩
  ·rintro i x σ H' hx ⟨o1,o2,rfl,rfl⟩
   rw[getElem?_map] at hx
   obtain⟨n,hn,rfl⟩:=Option.map_eq_some_iff.mp hx
   exact⟨_,U,n,U,hm n (mem_of_getElem? hn),_,_,U,U⟩
  ·rintro σ H' ⟨o1,o2,rfl,rfl⟩
   refine⟨_,U,A.p,_,A.dx,_,_,U,hL pin.p,T.cl_Program,T.n_Program_counter_widths,j4 _,A.w,U,⟨_,SqL.of (hL pin.w)⟩,bO (xs:=ws.map V.int) (fun i σ H1=>∃ (o1 o2:Option V),σ=[some (.ref A.p),o1,o2]/\H1=H') ⟨_,_,U,U⟩ (fun i σ H1 _ z_=>z_.elim fun _ z_=>z_.elim fun _ z_=>z_.elim fun _ e=>by rw[e]; exact SqL.of (hL pin.w)) ?_ ?_⟩
   ·rintro i x σ H1 hx ⟨o1,o2,rfl,rfl⟩
    rw[getElem?_map] at hx
    obtain⟨n,hn,rfl⟩:=Option.map_eq_some_iff.mp hx
    have:=hw n (mem_of_getElem? hn)
    exact⟨_,U,n,U,this.1,this.2,_,_,U,U⟩
   ·rintro σ H1 ⟨o1,o2,rfl,rfl⟩
    refine⟨_,U,A.p,_,A.dx,_,_,U,hL pin.p,T.cl_Program,T.n_Program_stretches,gD _,true,.inl ⟨_,SqL.of (hL pin.s),?_⟩,cZ q⟩
    cases ss with
    | nil=>exact absurd rfl hst
    | cons a b=>rfl
theorem scCc:FnScope ["self","called","stretch"] ["self","called","stretch"] (ai pT):={}
theorem ok_J1 (T:Txt K mg t):FnOk P w K mg base CX0 2 t.f_J1 t.d_J1 ["self","called","stretch"] (dq t.c_Program):=by
 refine T.F_J1.ok scCc (fun vs H Q E h=>?_) (fun cdv A outer s H vs Q E hr h=>?_)
 ·obtain⟨_,_,_,_,_,_,_,rfl,_⟩:=h
  rfl
 ·obtain⟨A,ms,ws,ss,L,n,k,rfl,hH,pin,h0,h1,q⟩:=h
  have hL:∀ {z:Addr×HO},z ∈ L->H z.1=some z.2:=fun m=>hH.at_ _ m
  refine⟨_,(ae (ak (pcl (km T) hr T.m_Jb T.F_Jb.kp (oT T) (aa (pv 1) (aa (aS (pv 0) T.cl_Program T.M_Jg (dW T) hr (hX T) .nil aB) af))))
   (ah (aG (aj mV (pv 1) (pv 2) (ap _))
    (ah aQ)
    au))),?_⟩
  refine⟨_,U,_,U,A.p,A.dx,_,U,hL pin.p,(b5 _).1,A,_,U,hL pin.p,hL pin.s,n,_,U,by omega,(by unfold ssV; rw[length_map]; exact h1),?_⟩
  exact⟨_,U,_,U,_,_,U,U,_,U,ifF (decide_eq_false (by omega)) q⟩
end
theorem cw {X:Cx}{K:PySem.W.Frag} (hK:X.K=K):cm X (.type "list") (fun xs H Q=>∃ p ys,xs=[.ref p]/\(SqL K H p ys∨SqT K H p ys)/\∀ l,H l=none->Q (.ref l) (upd H l (.lst ys))):=by subst hK; exact bc
section
variable {P:Program}{w:World}{K:PySem.W.Frag}{mg:Str->Option Value}{base:Heap}{t:Adr}
theorem scPt:FnScope ["self","part","number","stretch"] ["self","part","number","stretch"] (ai pR):={}
theorem ok_J3 (T:Txt K mg t):FnOk P w K mg base CX0 3 t.f_J3 t.d_J3 ["self","part","number","stretch"] (eR t.c_Program):=by
 refine T.F_J3.ok scPt (fun vs H Q E h=>?_) (fun cdv A outer s H vs Q E hr h=>?_)
 ·obtain⟨_,_,_,_,_,_,_,_,_,rfl,_⟩:=h
  rfl
 ·obtain⟨A,ms,ws,ss,L,k,p,n,z,rfl,hH,pin,hz,hp,q⟩:=h
  have hL:∀ {z:Addr×HO},z ∈ L->H z.1=some z.2:=fun m=>hH.at_ _ m
  have hzm:=mem_of_getElem? hz
  refine⟨_,(ah (aG (aj bp (pv 1) aF (ap _))
    (ah (ak (pcl (mZ T) hr T.m_Jn T.F_Jn.kp (p0 T) (aa (pv 2) af))))
    (ah (aG (aj bp (pv 1) aF (ap _))
      (ah (ak (pcl (mY T) hr T.m_Jo T.F_Jo.kp (pZ T) (aa (pv 2) (aa (aK az (by rfl) T.z_len (by rfl) (aa (aD (pv 0) rfl) af)) af)))))
      (ah (aG (aj bp (pv 1) aF (ap _))
        (ah (ak (pcl (ki T) hr T.m_Jm T.F_Jm.kp (oS T) (aa (pv 2) af))))
        (ah (aG (aj bp (pv 1) aF (ap _))
          (ah (ak (pcl (m8 T) hr T.m_Ja T.F_Ja.kp (qe T) (aa (pv 2) (aa (aK az (by rfl) T.z_len (by rfl) (aa (aD (pv 0) rfl) af)) af)))))
          (ah (aG (aj bp (pv 1) aF (ap _))
            (ah (ak (pcl (mX T) hr T.m_Jq T.F_Jq.kp (pY T) (aa (pv 2) (aa (aK az (by rfl) T.z_len (by rfl) (aa (aC ay (aD (pv 0) rfl) (pv 3)) af)) af)))))
            (ah (ak (aA (pv 0) T.cl_Program T.M_J1 (ok_J1 T) hr (b_J1 T) .nil aB (aa (pv 2) (aa (pv 3) af))))))))))))))),?_⟩
  rcases hp with ⟨rfl,h0,h1⟩ | ⟨rfl,h0,h1⟩ | ⟨rfl,h0⟩ | ⟨rfl,h0,h1⟩ | ⟨rfl,h0,h1⟩ | ⟨rfl,h0,h1⟩
  ·refine⟨_,U,U,_,U,ifT (by decide +kernel) ?_⟩
   exact⟨_,U,n,U,h0,h1,q⟩
  ·refine⟨_,U,U,_,U,ifF (by decide +kernel) ?_⟩
   refine⟨_,U,U,_,U,ifT (by decide +kernel) ?_⟩
   exact⟨_,U,_,U,A.p,_,A.dx,_,_,U,hL pin.p,T.cl_Program,T.n_Program_mark_sides,j5 _,A.m,_,U,.inl (SqL.of (hL pin.m)),n,_,U,h0,(by rw[length_map]; exact h1),q⟩
  ·refine⟨_,U,U,_,U,ifF (by decide +kernel) ?_⟩
   refine⟨_,U,U,_,U,ifF (by decide +kernel) ?_⟩
   refine⟨_,U,U,_,U,ifT (by decide +kernel) ?_⟩
   exact⟨_,U,n,U,h0,q⟩
  ·refine⟨_,U,U,_,U,ifF (by decide +kernel) ?_⟩
   refine⟨_,U,U,_,U,ifF (by decide +kernel) ?_⟩
   refine⟨_,U,U,_,U,ifF (by decide +kernel) ?_⟩
   refine⟨_,U,U,_,U,ifT (by decide +kernel) ?_⟩
   exact⟨_,U,_,U,A.p,_,A.dx,_,_,U,hL pin.p,T.cl_Program,T.n_Program_counter_widths,j4 _,A.w,_,U,.inl (SqL.of (hL pin.w)),n,_,U,h0,(by rw[length_map]; exact h1),q⟩
  ·refine⟨_,U,U,_,U,ifF (by decide +kernel) ?_⟩
   refine⟨_,U,U,_,U,ifF (by decide +kernel) ?_⟩
   refine⟨_,U,U,_,U,ifF (by decide +kernel) ?_⟩
   refine⟨_,U,U,_,U,ifF (by decide +kernel) ?_⟩
   refine⟨_,U,U,_,U,ifT (by decide +kernel) ?_⟩
   exact⟨_,U,_,U,A.p,_,A.dx,_,_,U,hL pin.p,T.cl_Program,T.n_Program_stretches,gD _,_,U,A.s,_,_,_,U,U,SqL.of (hL pin.s),aw (cB hz),z.1,_,U,.inl (SqL.of (hL (pin.l z hzm))),n,_,U,h0,(by unfold rwV; rw[length_map]; exact h1),q⟩
  ·refine⟨_,U,U,_,U,ifF (by decide +kernel) ?_⟩
   refine⟨_,U,U,_,U,ifF (by decide +kernel) ?_⟩
   refine⟨_,U,U,_,U,ifF (by decide +kernel) ?_⟩
   refine⟨_,U,U,_,U,ifF (by decide +kernel) ?_⟩
   refine⟨_,U,U,_,U,ifF (by decide +kernel) ?_⟩
   exact⟨_,U,A.p,A.dx,_,U,hL pin.p,nW _,_,U,_,U,A,ms,ws,ss,L,n,k,U,hH,pin,h0,h1,q⟩
theorem scPr:FnScope ["self","stretch","rows","row","part","number"] ["self","stretch"] (ai pS):={}
theorem ok_J2 (T:Txt K mg t):FnOk P w K mg base CX0 4 t.f_J2 t.d_J2 ["self","stretch"] (eQ t.c_Program):=by
 refine T.F_J2.ok scPr (fun vs H Q E h=>?_) (fun cdv A outer s H vs Q E hr h=>?_)
 ·obtain⟨_,_,_,_,_,_,_,rfl,_⟩:=h
  rfl
 ·obtain⟨A,ms,ws,ss,L,k,z,rfl,hH,pin,hz,hok,⟨la,ly,hla,hlast⟩,q⟩:=h
  obtain⟨aE,eE,hE⟩:=T.x_PARTS
  have T_r_PARTS:RelV (.ref aE) t.u_PARTS:=by rw[eE]; rfl
  obtain⟨aP,oP,its,nn,eP,k1,k2,k3,k4,k5⟩:=T.x_LAST_WORDS
  have T_r_LAST_WORDS:RelV (.ref aP) t.u_LAST_WORDS:=by rw[eP]; rfl
  have hzm:=mem_of_getElem? hz
  refine⟨_,(ae (ar (i:=2) scPr.nd rfl (Or.inl rfl) (aC ay (aD (pv 0) rfl) (pv 1)))
   (ae (aG (fM (cE (pv 2) (by intro _; rfl)))
    (ah aQ)
    au)
   (ae (aX PassesOwn.never rfl (bq (pv 2)) (am (i:=3) scPr.nd rfl (Or.inl rfl))
    (ah (aX PassesOwn.never rfl (j0 (by rfl) T.z_zip (aa (nZ (bQ (by rfl) T.g_PARTS T_r_PARTS) (aC bf (pv 3) ag) (fun _ _=>rfl)) (aa (ce nL (pv 3) (cF ag) cG) af))) (bt rfl (ax (am (i:=4) scPr.nd rfl (Or.inl rfl)) (ax (am (i:=5) scPr.nd rfl (Or.inl rfl)) bi)))
      (ah (ak (aA (pv 0) T.cl_Program T.M_J3 (ok_J3 T) hr (b_J3 T) .nil aB (aa (pv 4) (aa (pv 5) (aa (pv 1) af)))))))))
   (ah (aG (aj cH (aC bf (aC ay (pv 2) (j6 gR ag) (fun _ _=>rfl)) ag) (bQ (by rfl) T.g_LAST_WORDS T_r_LAST_WORDS) (by rfl))
    (ah aQ)
    au))))),?_⟩
  have hL:∀ {H':Hp}{z:Addr×HO},Has H' L->z ∈ L->H' z.1=some z.2:=fun h m=>h.at_ _ m
  have hne:rwV z.2≠[]:=by
   intro e
   have:z.2=[]:=by simpa [rwV] using e
   rw[this] at hla
   cases hla
  refine⟨_,U,A.p,_,A.dx,_,_,U,hL hH pin.p,T.cl_Program,T.n_Program_stretches,gD _,_,U,A.s,_,_,_,U,U,SqL.of (hL hH pin.s),aw (cB hz),?_⟩
  refine⟨_,U,true,.inl ⟨_,SqL.of (hL hH (pin.l z hzm)),?_⟩,cZ ?_⟩
  ·cases e:rwV z.2 with
   | nil=>exact absurd e hne
   | cons a b=>rfl
  refine⟨_,U,z.1,U,⟨_,SqL.of (hL hH (pin.l z hzm))⟩,bO (xs:=rwV z.2) (fun i σ H'=>∃ (o1 o2 o3:Option V),σ=[some (.ref A.p),some (.int k),some (.ref z.1),o1,o2,o3]/\Has H' L) ⟨_,_,_,U,hH⟩ (fun i σ H' _ z_=>z_.elim fun _ z_=>z_.elim fun _ z_=>z_.elim fun _ z_=>z_.elim fun _ e=>SqL.of (hL e (pin.l z hzm))) ?_ ?_⟩
  ·rintro i x σ H' hx ⟨o1,o2,o3,rfl,h1⟩
   unfold rwV at hx
   rw[getElem?_map] at hx
   obtain⟨n,hn,rfl⟩:=Option.map_eq_some_iff.mp hx
   have hnm:=mem_of_getElem? hn
   have m2:=hok n hnm
   have g1:=hL h1 (pin.r z hzm n hnm)
   have hcut:bU (.str n.2.ws::n.2.ns.map V.int) (some 1) none=n.2.ns.map V.int:=by cases n.2 <;> rfl
   refine⟨_,U,n.1,_,_,_,U,U,SqT.of g1,aw (j:=0) rfl,_,aE,_,n.2.ps,U,U,hE,n.2.parts,n.2.psl,fun b hb=>?_⟩
   refine⟨_,U,_,U,n.1,_,U,SqT.of g1,?_,fun p hp=>?_⟩
   ·unfold Rw.v
    exact cutok (by rw[length_cons,length_map]; omega) (by rw[length_cons,length_map]; exact n.2.nsl)
   unfold Rw.v
   rw[hcut]
   have h2:=h1.alloc hp (.tup (n.2.ns.map V.int))
   refine⟨b,p,U,⟨_,hb _⟩,⟨_,SqT.of (h2.get 0 U)⟩,kH (xs:=n.2.ps.map V.str) (ys:=n.2.ns.map V.int) (by rw[length_map,length_map]; exact n.2.len) (fun i σ H'=>∃ (o2 o3:Option V),σ=[some (.ref A.p),some (.int k),some (.ref z.1),some (.ref n.1),o2,o3]/\Has H' ((p,.tup (n.2.ns.map V.int))::L)) ⟨_,_,U,h2⟩ (fun i σ H' _ z_=>z_.elim fun _ z_=>z_.elim fun _ z_=>z_.elim fun _ e=>⟨hb _,SqT.of (e.get 0 U)⟩) ?_ ?_⟩
   ·rintro j x y σ H3 p3 hx hy ⟨o4,o5,rfl,h3⟩ hp3
    rw[getElem?_map] at hx hy
    obtain⟨x,hx1,rfl⟩:=Option.map_eq_some_iff.mp hx
    obtain⟨y,hy1,rfl⟩:=Option.map_eq_some_iff.mp hy
    have h4:=h3.alloc hp3 (.tup [.str x,.int y])
    refine⟨p3,_,U,SqT.of (h4.get 0 U),U,_,_,U,_,_,U,U,?_⟩
    exact⟨_,U,A.p,A.dx,_,U,hL h4.tail.tail pin.p,(b5 _).2.2.2.2.2.2,_,U,_,U,_,U,A,ms,ws,ss,L,k,x,y,z,U,h4.tail.tail,pin,hz,Rw.part m2 hx1 hy1,_,_,U,h4.tail⟩
   ·rintro σ H3 ⟨o4,o5,rfl,h3⟩
    exact⟨_,_,_,U,h3.tail⟩
  ·rintro σ H' ⟨o1,o2,o3,rfl,h1⟩
   obtain⟨rs',ers⟩:=List.getLast?_eq_some_iff.mp hla
   have eV:rwV z.2=rwV rs'++[.ref la]:=by rw[ers]; unfold rwV; rw[map_append]; rfl
   have g1:=hL h1 (pin.l z hzm)
   have g2:=hL h1 (pin.r z hzm (la,ly) (by rw[ers]; simp))
   rw[eV] at g1
   exact⟨_,U,1,U,z.1,_,_,_,U,U,SqL.of g1,gQ _ _,la,_,_,_,U,U,SqT.of g2,aw (j:=0) rfl,aP,_,U,.inr (.inr ⟨oP,its,nn,k1,k2,k3,k4,k5⟩),U,U,_,U,ifF (ly.lastIn hlast) (q _ h1)⟩
theorem scPn:FnScope ["self","marks","widths","stretches","stretch"] ["self","marks","widths","stretches"] (ai nM):={}
theorem ok_Jf (T:Txt K mg t):FnOk P w K mg base CX0 5 t.f_Jf t.d_Jf ["self","marks","widths","stretches"] (jL t.c_Program):=by
 refine T.F_Jf.ok scPn (fun vs H Q E h=>?_) (fun cdv A outer s H vs Q E hr h=>?_)
 ·obtain⟨_,_,_,_,_,_,_,_,_,rfl,_⟩:=h
  rfl
 ·obtain⟨p,dx,m0,w0,s0,ms,ws,ss,L,rfl,hH,mm0,mw0,ms0,ml,mr,hms,hws,hne,hlen,hgood,q⟩:=h
  refine⟨_,(ae (aZ (pv 0) (aW bc (by rfl) T.z_list (by rfl) (aa (pv 1) af)) rfl)
   (ae (aZ (pv 0) (aW bc (by rfl) T.z_list (by rfl) (aa (pv 2) af)) rfl)
   (ae (aZ (pv 0) (fg (esc:=ai nM) (k:=1) ["rows","self","marks","widths","stretches","stretch"] rfl (bq (pv 3)) (fun _ _ _ _ _=>by exact(am (i:=0) (show List.Nodup (["rows","self","marks","widths","stretches","stretch"]:List Str) from by decide +kernel) rfl (Or.inl rfl))) (fun _ _ _ _ _=>by exact bI) (fun _ _ _ _ _=>by exact(aW (cw (K:=K) rfl) (by rfl) T.z_list (by rfl) (aa (pv 0) af))) rfl (by decide +kernel) (by decide +kernel) rfl (by decide +kernel) (by rfl) (fun _ _ h _=>h) (by decide +kernel)) rfl)
   (ae (ak (aS (pv 0) T.cl_Program T.M_J0 (ok_J0 T) hr (b_J0 T) .nil aB))
   (ah (aX PassesOwn.never rfl (a9 (by rfl) T.z_range (aa (aS (pv 0) T.cl_Program T.M_Jg (dW T) hr (hX T) .nil aB) af)) (am (i:=4) scPn.nd rfl (Or.inl rfl))
    (ah (ak (aA (pv 0) T.cl_Program T.M_J2 (ok_J2 T) hr (b_J2 T) .nil aB (aa (pv 4) af)))))))))),?_⟩
  refine⟨_,U,m0,_,U,.inl (SqL.of (hH.tail.tail.at_ _ mm0)),fun a1 ha1=>?_⟩
  have h1:=hH.alloc ha1 (.lst (ms.map V.int))
  refine⟨_,U,p,_,dx,_,U,h1.get 1 U,T.cl_Program,T.n_Program_mark_sides,(show 0<1000 by decide),?_⟩
  have h2:=h1.puti 1 U (.ins t.c_Program dx [("mark_sides",.ref a1)])
  refine⟨_,U,w0,_,U,.inl (SqL.of (h2.tail.tail.tail.at_ _ mw0)),fun a2 ha2=>?_⟩
  have h3:=h2.alloc ha2 (.lst (ws.map V.int))
  refine⟨_,U,p,_,dx,_,U,h3.get 2 U,T.cl_Program,T.n_Program_counter_widths,(show 1<1000 by decide),?_⟩
  have h4:=h3.puti 2 U (.ins t.c_Program dx [("mark_sides",.ref a1),("counter_widths",.ref a2)])
  refine⟨_,U,s0,U,⟨_,SqL.of (h4.tail.tail.tail.tail.at_ _ ms0)⟩,fun D hD=>?_⟩
  have inL:∀ {H':Hp}{N:Kn}{z c1 c2 c3 c4 c5:Addr×HO},Has H' (c1::(N++(c2::c3::c4::c5::L)))->z ∈ L->H' z.1=some z.2:=fun h m=>h.at_ _ (mem_cons_of_mem _ (mem_append_right _ (by simp[m])))
  refine⟨fun n m zs H'=>∃ (s1:Ss) (N:Kn),m=ss.length - n/\n<=ss.length/\s1.map (·.2)=(ss.take n).map (·.2)/\zs=ssV s1/\(∀ z ∈ s1,(z.1,HO.lst (rwV z.2)) ∈ N)/\Has H' ((D,.lst zs)::(N++((a2,.lst (ws.map V.int))::(a1,.lst (ms.map V.int))::(p,.ins t.c_Program dx [("mark_sides",.ref a1),("counter_widths",.ref a2)])::(dx,.own p)::L))),⟨_,[],[],U,Nat.zero_le _,U,U,by simp,h4.alloc hD _⟩,?_⟩
  rintro n m zs H5 ⟨s1,N,rfl,hn,es1,rfl,hN,h5⟩
  refine⟨h5.get 0 U,?_⟩
  have g0:=inL h5 ms0
  have ls1:s1.length=n:=by
   have:=congrArg List.length es1
   simp at this
   omega
  by_cases hlt:n<ss.length
  ·have hx0:(ssV ss)[n]?=some (.ref ss[n].1):=cB (getElem?_eq_getElem hlt)
   refine .inr ⟨⟨_,_,SqL.of g0,hx0⟩,?_⟩
   rintro x H6 ⟨rfl,hx⟩
   have e1:=hx _ (SqL.of g0)
   rw[hx0] at e1
   cases e1
   refine⟨U,bY ?_⟩
   refine⟨_,U,ss[n].1,_,U,.inl (SqL.of (inL h5 (ml _ (List.getElem_mem hlt)))),fun rl hrl=>?_⟩
   have h6:=h5.alloc hrl (.lst (rwV ss[n].2))
   refine⟨sizeOk (by unfold ssV; rw[length_map]; omega),h6.get 1 U,ss.length - (n+1),by omega,s1++[(rl,ss[n].2)],(rl,.lst (rwV ss[n].2))::N,U,hlt,?_,?_,?_,?_⟩
   ·rw[map_append,es1,List.take_succ,map_append,getElem?_eq_getElem hlt]
    rfl
   ·unfold ssV
    rw[map_append]
    rfl
   ·intro z hz
    rcases mem_append.mp hz with hz | hz
    ·exact mem_cons_of_mem _ (hN z hz)
    ·cases mem_singleton.mp hz
     exact mem_cons_self
   ·exact(h6.puti 1 U _).swap2
  ·have en:n=ss.length:=by omega
   rw[en,List.take_length] at es1
   refine .inl ⟨⟨_,SqL.of g0,by unfold ssV; rw[length_map]; omega⟩,?_⟩
   have h6:=Has.comm (X:=(D,HO.lst (ssV s1))::N) (Y:=[(a2,.lst (ws.map V.int)),(a1,.lst (ms.map V.int)),(p,.ins t.c_Program dx [("mark_sides",.ref a1),("counter_widths",.ref a2)]),(dx,.own p)]) h5
   refine⟨_,U,p,_,dx,_,U,h6.get 2 U,T.cl_Program,T.n_Program_stretches,(show 2<1000 by decide),?_⟩
   have h7:=h6.puti 2 U (.ins t.c_Program dx (pfl ⟨p,dx,a1,a2,D⟩))
   have ef:aU "stretches" (.ref D) [("mark_sides",.ref a1),("counter_widths",.ref a2)]=pfl ⟨p,dx,a1,a2,D⟩:=by kernel_rfl
   have h8:=h7
   rw[<- ef] at h8
   rw[ef] at h8 ⊢
   obtain⟨N2,eN2⟩:∃ N2:Kn,[(a2,HO.lst (ws.map V.int)),(a1,.lst (ms.map V.int)),(p,.ins t.c_Program dx (pfl ⟨p,dx,a1,a2,D⟩)),(dx,.own p)]++((D,HO.lst (ssV s1))::N)=N2:=⟨_,U⟩
   have h9:Has (upd H5 p (.ins t.c_Program dx (pfl ⟨p,dx,a1,a2,D⟩))) (N2++L):=by rw[<- eN2]; exact h7
   have pin:PIn t.c_Program ⟨p,dx,a1,a2,D⟩ ms ws s1 (N2++L):=by
    rw[<- eN2]
    refine⟨by simp,by simp,by simp,by simp,fun z hz=>?_,fun z hz x hx=>?_⟩
    ·exact mem_append_left _ (by simp[hN z hz])
    ·have:z.2 ∈ ss.map (·.2):=by rw[<- es1]; exact mem_map_of_mem hz
     obtain⟨z',h1,h2⟩:=mem_map.mp this
     exact mem_append_right _ (mr z' h1 x (by rw[h2]; exact hx))
   have pinN:PInN t.c_Program ⟨p,dx,a1,a2,D⟩ ms ws s1 N2:=by
    rw[<- eN2]
    exact⟨by simp,by simp,by simp,by simp,fun z hz=>by simp[hN z hz]⟩
   obtain⟨A,hA⟩:∃ A:PA,(⟨p,dx,a1,a2,D⟩:PA)=A:=⟨_,U⟩
   have hp:p=A.p:=by rw[<- hA]
   rw[hA] at pin pinN
   clear h7 h8 h6 h5
   generalize upd H5 p (.ins t.c_Program dx (pfl ⟨p,dx,a1,a2,D⟩))=H6 at h9 ⊢
   clear hA eN2
   subst hp
   have hL:∀ {H':Hp}{z:Addr×HO},Has H' (N2++L)->z ∈ N2++L->H' z.1=some z.2:=fun h m=>h.at_ _ m
   have lss:s1.length=ss.length:=by rw[ls1,en]
   refine⟨_,U,A.p,A.dx,_,U,hL h9 pin.p,(b5 _).2.2.2.2.1,A,ms,ws,s1,_,U,h9,pin,hms,hws,(by intro e; rw[e] at lss; exact hne (List.length_eq_zero_iff.mp lss.symm)),?_⟩
   refine⟨_,U,A.p,A.dx,_,U,hL h9 pin.p,(b5 _).1,A,_,U,hL h9 pin.p,hL h9 pin.s,_,U,(by omega),(by unfold ssV; rw[length_map]; omega),bv (fun i σ H'=>∃ (o:Option V),σ=[some (.ref A.p),some (.ref m0),some (.ref w0),some (.ref s0),o]/\Has H' (N2++L)) ⟨_,U,h9⟩ ?_ ?_⟩
   ·rintro i σ H1 hi ⟨o,rfl,h8⟩
    have hi:i<s1.length:=by
     have:i<((ssV s1).length:Int).toNat:=hi
     unfold ssV at this
     rw[length_map] at this
     omega
    have hz:=getElem?_eq_getElem hi
    have hg:=(hgood.tr es1) i _ hz
    rw[Int.zero_add]
    exact⟨_,U,A.p,A.dx,_,U,hL h8 pin.p,(b5 _).2.2.2.2.2.1,_,U,A,ms,ws,s1,_,i,_,U,h8,pin,hz,hg.1,hg.2,fun H2 h9=>⟨_,U,h9⟩⟩
   ·rintro σ H1 ⟨o,rfl,h8⟩
    exact q _ A s1 N2 rfl es1 pinN pin h8
end
theorem eK {α:Type}:∀ (L:List α) (i:Nat) (hi:i<L.length),L.Perm (L[i]::L.eraseIdx i)
 | x::L,0,_=>List.Perm.refl _
 | x::L,i+1,hi=>by
  have:=eK L i (by simpa using hi)
  simp only[List.getElem_cons_succ,List.eraseIdx_cons_succ]
  exact(this.cons x).trans (List.Perm.swap _ _ _)
theorem kT {H:Hp}{L:Kn} (h:Has H L) (i:Nat) {x:Addr×HO} (e:L[i]?=some x):Has H (x::L.eraseIdx i):=by
 obtain⟨hi,rfl⟩:=List.getElem?_eq_some_iff.mp e
 exact h.perm (eK L i hi)
theorem dh {H:Hp}{L L':Kn} (h:Has H L) (e:L=L'):Has H L':=e ▸ h
theorem sz {n:Nat} (h:n<=1000000):n<=sizeLine:=Nat.le_of_lt (sizeOk h)
theorem sz_ (n:Nat) (h:n<=1000000:=by decide):n<=sizeLine:=sz h
theorem kW {p q:Prop} [Decidable p] [Decidable q] {A B U:Prop} (h:(if decide q=true then A else B)->U) (h1:p->q->A) (h2:¬ (p/\q)->B):if decide p=true then U else(if false=true then A else B):=by
 by_cases hp:p
 ·refine ifT (decide_eq_true hp) (h ?_)
  by_cases hq:q
  ·exact ifT (decide_eq_true hq) (h1 hp hq)
  ·exact ifF (decide_eq_false hq) (h2 fun z=>hq z.2)
 ·exact ifF (decide_eq_false hp) (cZ (h2 fun z=>hp z.1))
theorem fZ {p q r:Prop} [Decidable p] [Decidable q] [Decidable r] {A B U U':Prop} (h:(if decide q=true then U' else(if false=true then A else B))->U) (h':(if decide r=true then A else B)->U') (h1:p->q->r->A) (h2:¬ (p/\q/\r)->B):if decide p=true then U else(if false=true then A else B):=by
 by_cases hp:p
 ·exact ifT (decide_eq_true hp) (h (kW h' (fun hq hr=>h1 hp hq hr) (fun z=>h2 fun w=>z w.2)))
 ·exact ifF (decide_eq_false hp) (cZ (h2 fun z=>hp z.1))
theorem dgI {ds:List Int} (j:Int) (h0:0<=j) (h1:j<ds.length):atI (ds.map V.int) j=some (.int (ds.getD j.toNat 0)):=by
 obtain⟨i,rfl⟩:=Int.eq_ofNat_of_zero_le h0
 exact aw (by
  rw[getElem?_map,getElem?_eq_getElem (show i<ds.length by omega)]
  simp[List.getD,getElem?_eq_getElem (show i<ds.length by omega)])
noncomputable def lh:Sp:=fun vs H Q _=>∃ (d lt:Addr) (ds:List Int) (k more:Int) (many nm nc st ns:Nat) (L:Kn),vs=[.ref d,.int k,.int more,.int many,.int nm,.int nc,.ref lt]/\Has H L/\(d,HO.lst (ds.map V.int)) ∈ L/\(lt,HO.lst (cv ((st:Int)+1) (ns - (st+1)))) ∈ L/\0<=k/\k+3<ds.length/\1<=many /\
 ∀ H' a (y:Rw),y.ok nm nc many st ns->Has H' ((a,.tup y.v)::L)->Q (.ref a) H'
noncomputable def nF:Sp:=fun vs H Q _=>∃ (s0:Addr) (ss:Ss) (L:Kn),vs=[.ref s0]/\Has H L/\(s0,HO.lst (ssV ss)) ∈ L/\(∀ z ∈ ss,(z.1,HO.lst (rwV z.2)) ∈ L)/\ss.length<=1000 /\
 ∀ H' D (s1:Ss) N,s1.map (·.2)=ss.map (·.2)->(∀ z ∈ s1,(z.1,HO.lst (rwV z.2)) ∈ N)->Has H' ((D,.lst (ssV s1))::(N++L))->Q (.ref D) H'
section
variable {P:Program}{w:World}{K:PySem.W.Frag}{mg:Str->Option Value}{base:Heap}{t:Adr}
theorem scCy:FnScope ["_law_parts_here"] ["_law_parts_here"] (ai jQ):={}
theorem or (T:Txt K mg t):FnOk P w K mg base CX0 1 t.f_J91 t.d_J91 ["_law_parts_here"] nF:=by
 refine T.F_J91.ok scCy (fun vs H Q E h=>?_) (fun cdv A outer s H vs Q E hr h=>?_)
 ·obtain⟨_,_,_,rfl,_⟩:=h
  rfl
 ·obtain⟨s0,ss,L,rfl,hH,ms0,ml,hlen,q⟩:=h
  refine⟨_,(ah (aH (fg (esc:=ai jQ) (k:=1) ["_law_rows","_law_parts_here"] rfl (bq (pv 0)) (fun _ _ _ _ _=>by exact(am (i:=0) (show List.Nodup (["_law_rows","_law_parts_here"]:List Str) from by decide +kernel) rfl (Or.inl rfl))) (fun _ _ _ _ _=>by exact bI) (fun _ _ _ _ _=>by exact(aW (cw (K:=K) rfl) (by rfl) T.z_list (by rfl) (aa (pv 0) af))) rfl (by decide +kernel) (by decide +kernel) rfl (by decide +kernel) (by rfl) (fun _ _ h _=>h) (by decide +kernel)))),?_⟩
  refine⟨_,U,s0,U,⟨_,SqL.of (hH.at_ _ ms0)⟩,fun D hD=>?_⟩
  have inL:∀ {H':Hp}{N:Kn}{z c1:Addr×HO},Has H' (c1::(N++L))->z ∈ L->H' z.1=some z.2:=fun h m=>h.at_ _ (mem_cons_of_mem _ (mem_append_right _ m))
  refine⟨fun n m zs H'=>∃ (s1:Ss) (N:Kn),m=ss.length - n/\n<=ss.length/\s1.map (·.2)=(ss.take n).map (·.2)/\zs=ssV s1/\(∀ z ∈ s1,(z.1,HO.lst (rwV z.2)) ∈ N)/\Has H' ((D,.lst zs)::(N++L)),⟨_,[],[],U,Nat.zero_le _,U,U,by simp,hH.alloc hD _⟩,?_⟩
  rintro n m zs H5 ⟨s1,N,rfl,hn,es1,rfl,hN,h5⟩
  refine⟨h5.get 0 U,?_⟩
  have g0:=inL h5 ms0
  have ls1:s1.length=n:=by
   have:=congrArg List.length es1
   simp at this
   omega
  by_cases hlt:n<ss.length
  ·have hx0:(ssV ss)[n]?=some (.ref ss[n].1):=cB (getElem?_eq_getElem hlt)
   refine .inr ⟨⟨_,_,SqL.of g0,hx0⟩,?_⟩
   rintro x H6 ⟨rfl,hx⟩
   have e1:=hx _ (SqL.of g0)
   rw[hx0] at e1
   cases e1
   refine⟨U,bY ?_⟩
   refine⟨_,U,ss[n].1,_,U,.inl (SqL.of (inL h5 (ml _ (List.getElem_mem hlt)))),fun rl hrl=>?_⟩
   have h6:=h5.alloc hrl (.lst (rwV ss[n].2))
   refine⟨sizeOk (by unfold ssV; rw[length_map]; omega),h6.get 1 U,ss.length - (n+1),by omega,s1++[(rl,ss[n].2)],(rl,.lst (rwV ss[n].2))::N,U,hlt,?_,?_,?_,?_⟩
   ·rw[map_append,es1,List.take_succ,map_append,getElem?_eq_getElem hlt]
    rfl
   ·unfold ssV
    rw[map_append]
    rfl
   ·intro z hz
    rcases mem_append.mp hz with hz | hz
    ·exact mem_cons_of_mem _ (hN z hz)
    ·cases mem_singleton.mp hz
     exact mem_cons_self
   ·exact(h6.puti 1 U _).swap2
  ·have en:n=ss.length:=by omega
   rw[en,List.take_length] at es1
   exact .inl ⟨⟨_,SqL.of g0,by unfold ssV; rw[length_map]; omega⟩,q _ D s1 N es1 hN h5⟩
theorem scLr:FnScope ["_law_d","_law_k","_law_more","_law_many","_law_marks","_law_counters","_law_later","_law_word","_law_one","_law_other"] ["_law_d","_law_k","_law_more","_law_many","_law_marks","_law_counters","_law_later"] (ai mG):={}
theorem oo (T:Txt K mg t):FnOk P w K mg base CX0 1 t.f_row t.d_row ["_law_d","_law_k","_law_more","_law_many","_law_marks","_law_counters","_law_later"] lh:=by
 refine T.F_row.ok scLr (fun vs H Q E h=>?_) (fun cdv A outer s H vs Q E hr h=>?_)
 ·obtain⟨_,_,_,_,_,_,_,_,_,_,_,rfl,_⟩:=h
  rfl
 ·obtain⟨d,lt,ds,k,more,many,nm,nc,st,ns,L,rfl,hH,md,mlt,k0,k1,hmany,q⟩:=h
  have gd:=hH.at_ _ md
  have gl:=hH.at_ _ mlt
  dsimp only at gd gl
  refine⟨_,(ae (ar (i:=7) scLr.nd rfl (Or.inl rfl) (ao aN (ao aJ (aC ay (pv 0) (pv 1)) (pv 2)) ag))
   (ae (ar (i:=8) scLr.nd rfl (Or.inl rfl) (ao aJ (aC ay (pv 0) (ao aJ (pv 1) ag)) (ao b4 ag (pv 2))))
   (ae (ar (i:=9) scLr.nd rfl (Or.inl rfl) (ao aJ (aC ay (pv 0) (ao aJ (pv 1) ag)) (ao b4 ag (pv 2))))
   (ae (aG (PW.pt (bZ (aj bp (pv 7) ag (ap _)) (cq (aj cf (pv 4) ag (ap _)))))
    (ah (aH (aq (aa aF (aa (ao aN (pv 8) (pv 4)) (aa (ao aJ ag (ao aN (pv 9) ag)) af))))))
    au)
   (ae (aG (PW.pt (bZ (aj bF (pv 7) ag (ap _)) (bZ (aj cf (pv 7) ag (ap _)) (cq (aj cf (pv 4) ag (ap _))))))
    (ah (aH (aq (aa aF (aa (ao aN (pv 8) (pv 4)) (aa (ao aN (pv 9) (pv 3)) (aa (ao aN (aC ay (pv 0) (ao aJ (pv 1) ag)) (pv 3)) af)))))))
    au)
   (ae (aG (PW.pt (bZ (aj bF (pv 7) ag (ap _)) (bZ (aj cf (pv 7) ag (ap _)) (cq (aj cf (pv 5) ag (ap _))))))
    (ah (aH (aq (aa aF (aa (ao aN (pv 8) (pv 5)) (aa (ao aN (pv 9) (pv 3)) af))))))
    au)
   (ae (aG (aj bp (pv 7) ag (ap _))
    (ah (aH (aq (aa aF (aa (ao aN (pv 8) (pv 3)) af)))))
    au)
   (ae (aG (PW.pt (bZ (aj bF (pv 7) ag (ap _)) (bZ (aj cf (pv 7) ag (ap _)) (cq (aj cf (aK az (by rfl) T.z_len (by rfl) (aa (pv 6) af)) ag (ap _))))))
    (ah (aH (aq (aa aF (aa (aC ay (pv 6) (ao aN (pv 8) (aK az (by rfl) T.z_len (by rfl) (aa (pv 6) af)))) af)))))
    au)
   (ae (aG (aj bp (pv 7) ag (ap _))
    (ah (aH (aq (aa aF af))))
    au)
   (ah (aH (aq (aa aF (aa (ao aN (pv 8) ag) af)))))))))))))),?_⟩
  rw[]
  refine⟨_,U,_,U,d,_,_,_,U,U,SqL.of gd,dgI k k0 (by omega),_,U,_,_,U,U,_,_,U,U,(show(0:Int)<10 by decide),?_⟩
  dsimp only[List.set]
  obtain⟨wd,ewd⟩:∃ wd,(ds.getD k.toNat 0+more) % 10=wd:=⟨_,U⟩
  rw[ewd]
  refine⟨_,U,_,U,_,_,U,U,d,_,_,_,U,U,SqL.of gd,dgI (k+1) (by omega) (by omega),_,U,_,_,U,U,.inl ⟨by decide,by decide⟩,_,_,U,U,?_⟩
  dsimp only[List.set]
  obtain⟨one,eone⟩:∃ one,ds.getD (k+1).toNat 0+7*more=one:=⟨_,U⟩
  rw[eone]
  refine⟨_,U,_,U,_,_,U,U,d,_,_,_,U,U,SqL.of gd,dgI (k+2) (by omega) (by omega),_,U,_,_,U,U,.inl ⟨by decide,by decide⟩,_,_,U,U,?_⟩
  dsimp only[List.set]
  obtain⟨oth,eoth⟩:∃ oth,ds.getD (k+2).toNat 0+5*more=oth:=⟨_,U⟩
  rw[eoth]
  have em:∀ (a b:Int),0<b->0<=a % b/\a % b<b:=fun a b hb=>⟨Int.emod_nonneg _ (by omega),Int.emod_lt_of_pos _ hb⟩
  have hm0:(0:Int)<many:=by omega
  refine⟨_,U,U,_,U,?_⟩
  rw[eF]
  refine kW (fun z=>⟨_,U,_,_,U,U,_,U,z⟩) (fun hw hp=>?_) (fun _=>?_)
  ·have hp:(0:Int)<nm:=by omega
   refine⟨_,U,_,U,_,_,U,U,hp,_,U,_,_,U,U,(show(0:Int)<2 by decide),_,_,U,U,(sz_ 3),fun a ha=>?_⟩
   have:=em one nm hp
   exact q _ a (.set (one % nm) (1+oth % 2)) ⟨this.1,this.2,by omega⟩ (hH.alloc ha _)
  refine⟨_,U,_,_,U,U,_,U,?_⟩
  refine fZ (fun z=>⟨_,U,_,_,U,U,_,U,z⟩) (fun z=>⟨_,U,_,_,U,U,_,U,z⟩) (fun _ _ hp=>?_) (fun _=>?_)
  ·have hp:(0:Int)<nm:=by omega
   refine⟨_,U,_,U,_,_,U,U,hp,_,U,_,U,_,_,U,U,hm0,_,U,_,U,_,_,U,U,d,_,_,_,U,U,SqL.of gd,dgI (k+3) (by omega) (by omega),_,U,_,_,U,U,hm0,(sz_ 4),fun a ha=>?_⟩
   have e1:=em one nm hp
   have e2:=em oth many hm0
   have e3:=em (ds.getD (k+3).toNat 0) many hm0
   exact q _ a (.ask (one % nm) (oth % many) (ds.getD (k+3).toNat 0 % many)) ⟨e1.1,e1.2,e2.1,e2.2,e3.1,e3.2⟩ (hH.alloc ha _)
  refine⟨_,U,_,_,U,U,_,U,?_⟩
  refine fZ (fun z=>⟨_,U,_,_,U,U,_,U,z⟩) (fun z=>⟨_,U,_,_,U,U,_,U,z⟩) (fun _ _ hp=>?_) (fun _=>?_)
  ·have hp:(0:Int)<nc:=by omega
   refine⟨_,U,_,U,_,_,U,U,hp,_,U,_,U,_,_,U,U,hm0,(sz_ 3),fun a ha=>?_⟩
   have e1:=em one nc hp
   have e2:=em oth many hm0
   exact q _ a (.bump (one % nc) (oth % many)) ⟨e1.1,e1.2,e2.1,e2.2⟩ (hH.alloc ha _)
  refine⟨_,U,U,_,U,?_⟩
  rw[eF]
  refine ifd (fun _=>?_) (fun _=>?_)
  ·refine⟨_,U,_,U,_,_,U,U,hm0,(sz_ 2),fun a ha=>?_⟩
   have e1:=em one many hm0
   exact q _ a (.go (one % many)) e1 (hH.alloc ha _)
  refine⟨_,U,_,_,U,U,_,U,?_⟩
  refine fZ (fun z=>⟨_,U,_,_,U,U,_,U,z⟩) (fun z=>⟨_,U,lt,_,U,.inl (SqL.of gl),_,_,U,U,_,U,z⟩) (fun _ _ hp=>?_) (fun _=>?_)
  ·have hl:(cv ((st:Int)+1) (ns - (st+1))).length=ns - (st+1):=bK _ _
   have hp:(0:Int)<((cv ((st:Int)+1) (ns - (st+1))).length:Int):=by omega
   have e1:=em one _ hp
   obtain⟨j,ej⟩:=Int.eq_ofNat_of_zero_le e1.1
   have hj:j<ns - (st+1):=by omega
   refine⟨_,U,_,U,_,U,lt,_,U,.inl (SqL.of gl),_,_,U,U,hp,lt,_,_,_,U,U,SqL.of gl,(by rw[ej]; exact aw (fu hj)),(sz_ 2),fun a ha=>?_⟩
   exact q _ a (.call ((st:Int)+1+(j:Int))) ⟨by omega,by omega⟩ (hH.alloc ha _)
  refine⟨_,U,U,_,U,?_⟩
  rw[eF]
  refine ifd (fun _=>?_) (fun _=>?_)
  ·refine⟨(sz_ 1),fun a ha=>?_⟩
   exact q _ a .fin trivial (hH.alloc ha _)
  refine⟨_,U,_,_,U,U,(show(0:Int)<10000 by decide),(sz_ 2),fun a ha=>?_⟩
  exact q _ a (.bell (one % 10000)) ⟨by omega,by omega⟩ (hH.alloc ha _)
end
theorem Rw.notLast:∀ (x:Rw),x.last=false->(!inV (.str x.ws) [.str "ask",.str "go",.str "end"])=true
 | .bell _,_=>(by decide +kernel:(!inV (.str ("bell" : Str)) [.str "ask",.str "go",.str "end"])=true)
 | .set _ _,_=>(by decide +kernel:(!inV (.str ("set" : Str)) [.str "ask",.str "go",.str "end"])=true)
 | .bump _ _,_=>(by decide +kernel:(!inV (.str ("bump" : Str)) [.str "ask",.str "go",.str "end"])=true)
 | .call _,_=>(by decide +kernel:(!inV (.str ("call" : Str)) [.str "ask",.str "go",.str "end"])=true)
 | .ask _ _ _,h=>nomatch h
 | .go _,h=>nomatch h
 | .fin,h=>nomatch h
theorem kB {n:Nat} (h:1<=n):ixN n (-1)=some (n - 1):=by
 unfold ixN
 rw[if_neg (by omega),if_pos (by omega)]
 congr 1
 omega
theorem jO {α:Type} (xs:List α) (a b:α):(xs++[a]).set ((xs++[a]).length - 1) b=xs++[b]:=by
 rw[length_append,length_singleton,Nat.add_sub_cancel,List.set_append_right _ _ (Nat.le_refl _),Nat.sub_self]
 rfl
noncomputable def oY (ss:Ss):Prop:=∃ M:Nat,ss.length*M<=120/\∀ z ∈ ss,z.2.length<=M
noncomputable def GoodU (nm nc S M:Nat) (ss:Ss):Prop:=∀ (k:Nat) z,ss[k]?=some z->(∀ x ∈ z.2,x.2.ok nm nc z.2.length k S)/\(∃ a y,z.2.getLast?=some (a,y)/\y.last=true)/\z.2.length<=M
noncomputable def jF:Sp:=fun vs H Q _=>∃ (d:Addr) (ds:List Int) (nm nc:Nat) (L:Kn),vs=[.ref d,.int 8,.int nm,.int nc]/\Has H L/\(d,HO.lst (ds.map V.int)) ∈ L/\340<=ds.length /\
 ∀ H' pl ss N,ss≠[]->ss.length<=40->Good nm nc ss->oY ss->(∀ z ∈ ss,(z.1,HO.lst (rwV z.2)) ∈ N)->(∀ z ∈ ss,∀ x ∈ z.2,(x.1,HO.tup x.2.v) ∈ N)->Has H' ((pl,.lst (ssV ss))::(N++L))->Q (.ref pl) H'
theorem GoodU.snoc {nm nc S M:Nat}{ss:Ss}{z:Addr×List (Addr×Rw)} (h:GoodU nm nc S M ss) (h1:∀ x ∈ z.2,x.2.ok nm nc z.2.length ss.length S) (h2:∃ a y,z.2.getLast?=some (a,y)/\y.last=true) (h3:z.2.length<=M):GoodU nm nc S M (ss++[z]):=by
 intro k y hy
 by_cases hk:k<ss.length
 ·rw[getElem?_append_left hk] at hy
  exact h k y hy
 ·rw[getElem?_append_right (by omega)] at hy
  cases hj:k - ss.length with
  | zero=>
   rw[hj] at hy
   cases hy
   have:k=ss.length:=by omega
   subst this
   exact⟨h1,h2,h3⟩
  | succ j=>rw[hj] at hy; simp at hy
section
variable {P:Program}{w:World}{K:PySem.W.Frag}{mg:Str->Option Value}{base:Heap}{t:Adr}
theorem scLp:FnScope ["_law_d","_law_at","_law_marks","_law_counters","_law_stretches","_law_low","_law_size","_law_parts_here","_law_slot","_law_stretch","_law_many","_law_rows","_law_row_here","_law_k"] ["_law_d","_law_at","_law_marks","_law_counters"] (ai iu):={}
theorem kf (T:Txt K mg t):FnOk P w K mg base CX0 2 t.f_parts t.d_parts ["_law_d","_law_at","_law_marks","_law_counters"] jF:=by
 refine T.F_parts.ok scLp (fun vs H Q E h=>?_) (fun cdv A outer s H vs Q E hr h=>?_)
 ·obtain⟨_,_,_,_,_,rfl,_⟩:=h
  rfl
 ·obtain⟨d,ds,nm,nc,L,rfl,hH,md,hds,q⟩:=h
  have gd:=hH.at_ _ md
  dsimp only at gd
  refine⟨_,(ae (cc (aC ay (aR (@aa _ _ _ _ _ (aq (aa (ao aJ ag (ao aN (aC ay (pv 0) (pv 1) (fun _ _=>rfl)) ag)) (aa ag (aa ag af)))) (@aa _ _ _ _ _ (aq (aa ag (aa ag (aa ag af)))) (@aa _ _ _ _ _ (aq (aa (ao aJ ag (ao aN (aC ay (pv 0) (pv 1) (fun _ _=>rfl)) ag)) (aa ag (aa ag af)))) (@aa _ _ _ _ _ (aq (aa ag (aa ag (aa ag af)))) (@aa _ _ _ _ _ (aq (aa ag (aa ag (aa ag af)))) (@aa _ _ _ _ _ (aq (aa (ao aJ ag (ao aN (aC ay (pv 0) (pv 1) (fun _ _=>rfl)) ag)) (aa ag (aa ag af)))) (@aa _ _ _ _ _ (aq (aa (ao aJ ag (ao aN (aC ay (pv 0) (pv 1) (fun _ _=>rfl)) ag)) (aa ag (aa ag af)))) (@aa _ _ _ _ _ (aq (aa (ao aJ ag (ao aN (aC ay (pv 0) (pv 1) (fun _ _=>rfl)) ag)) (aa ag (aa ag af)))) af (by rfl)) (by rfl)) (by rfl)) (by rfl)) (by rfl)) (by rfl)) (by rfl)) (by rfl))) (ao aN (ao bJ (aC ay (pv 0) (pv 1) (fun _ _=>rfl)) ag) ag)) (bt rfl (ax (am (i:=4) scLp.nd rfl (Or.inl rfl)) (ax (am (i:=5) scLp.nd rfl (Or.inl rfl)) (ax (am (i:=6) scLp.nd rfl (Or.inl rfl)) bi)))))
   (ae (ar (i:=7) scLp.nd rfl (Or.inl rfl) (aR af))
   (ae (ar (i:=8) scLp.nd rfl (Or.inl rfl) ag)
   (ae (aX PassesOwn.never rfl (a9 (by rfl) T.z_range (aa (pv 4) af)) (am (i:=9) scLp.nd rfl (Or.inl rfl))
    (ae (ar (i:=10) scLp.nd rfl (Or.inl rfl) (ao aJ (pv 5) (ao aN (ao aJ (aC ay (pv 0) (ao aJ (ao aJ (pv 1) ag) (ao aN (pv 9) ag))) (ao bJ (pv 9) ag)) (pv 6))))
     (ae (ar (i:=11) scLp.nd rfl (Or.inl rfl) (aR af))
     (ae (aX PassesOwn.never rfl (a9 (by rfl) T.z_range (aa (pv 10) af)) (am (i:=12) scLp.nd rfl (Or.inl rfl))
      (ae (ar (i:=13) scLp.nd rfl (Or.inl rfl) (ao aJ (ao aJ (pv 1) ag) (ao b4 ag (ao aN (pv 8) ag))))
       (ae (ak (b6 PySem.F.plainAttrs_list PySem.F.slot_list_append PySem.F.type_list_append aT (pv 11) (aa (pcl (oo T) hr T.m_row T.F_row.kp (b_row T) (aa (pv 0) (aa (pv 13) (aa (ao bJ (pv 8) ag) (aa (pv 10) (aa (pv 2) (aa (pv 3) (aa (aW (eJ rfl) (by rfl) T.z_list (by rfl) (aa (aW gP (by rfl) T.z_range (by rfl) (aa (ao aJ (pv 9) ag) (aa (pv 4) af))) af)) af)))))))) af)))
       (ah (ar (i:=8) scLp.nd rfl (Or.inl rfl) (ao aJ (pv 8) ag))))))
     (ae (aG (aj cH (aC bf (aC ay (pv 11) (j6 gR ag) (fun _ _=>rfl)) ag) (aq (aa aF (aa aF (aa aF af)))) (by rfl))
      (ah (cc (aq (aa aF af)) (nV (pv 11) (j6 gR ag) jN)))
      au)
     (ah (ak (b6 PySem.F.plainAttrs_list PySem.F.slot_list_append PySem.F.type_list_append aT (pv 7) (aa (pv 11) af)))))))))
   (ah (aH (pv 7))))))),?_⟩
  rw[]
  have a8:atI (ds.map V.int) 8=some (.int (ds.getD (8:Int).toNat 0)):=dgI 8 (by decide) (by omega)
  obtain⟨x8,ex8⟩:∃ x8,ds.getD (8:Int).toNat 0=x8:=⟨_,U⟩
  rw[ex8] at a8
  obtain⟨v4,ev4⟩:∃ v:Nat,1+x8 % 4=(v:Int):=Int.eq_ofNat_of_zero_le (by omega)
  obtain⟨v3,ev3⟩:∃ v:Nat,1+x8 % 3=(v:Int):=Int.eq_ofNat_of_zero_le (by omega)
  refine⟨_,U,_,U,d,_,_,_,U,U,SqL.of gd,a8,_,_,U,U,(show(0:Int)<4 by decide),_,_,U,U,(sz_ 3),fun p1 hp1=>?_⟩
  have h1:=hH.alloc hp1 (.tup [.int (1+x8 % 4),.int 1,.int 6])
  refine⟨(sz_ 3),fun p2 hp2=>?_⟩
  have h2:=h1.alloc hp2 (.tup [.int 8,.int 1,.int 10])
  have gd2:_=_:=h2.at_ _ (mem_cons_of_mem _ (mem_cons_of_mem _ md))
  dsimp only at gd2
  refine⟨_,U,_,U,d,_,_,_,U,U,SqL.of gd2,a8,_,_,U,U,(show(0:Int)<3 by decide),_,_,U,U,(sz_ 3),fun p3 hp3=>?_⟩
  have h3:=h2.alloc hp3 (.tup [.int (1+x8 % 3),.int 11,.int 30])
  refine⟨(sz_ 3),fun p4 hp4=>?_⟩
  have h4:=h3.alloc hp4 (.tup [.int 40,.int 1,.int 2])
  refine⟨(sz_ 3),fun p5 hp5=>?_⟩
  have h5:=h4.alloc hp5 (.tup [.int 1,.int 41,.int 60])
  have gd5:=h5.at_ _ (mem_cons_of_mem _ (mem_cons_of_mem _ (mem_cons_of_mem _ (mem_cons_of_mem _ (mem_cons_of_mem _ md)))))
  dsimp only at gd5
  refine⟨_,U,_,U,d,_,_,_,U,U,SqL.of gd5,a8,_,_,U,U,(show(0:Int)<4 by decide),_,_,U,U,(sz_ 3),fun p6 hp6=>?_⟩
  have h6:=h5.alloc hp6 (.tup [.int (1+x8 % 4),.int 1,.int 6])
  have gd6:=h6.at_ _ (mem_cons_of_mem _ (mem_cons_of_mem _ (mem_cons_of_mem _ (mem_cons_of_mem _ (mem_cons_of_mem _ (mem_cons_of_mem _ md))))))
  dsimp only at gd6
  refine⟨_,U,_,U,d,_,_,_,U,U,SqL.of gd6,a8,_,_,U,U,(show(0:Int)<4 by decide),_,_,U,U,(sz_ 3),fun p7 hp7=>?_⟩
  have h7:=h6.alloc hp7 (.tup [.int (1+x8 % 4),.int 1,.int 6])
  have gd7:=h7.at_ _ (mem_cons_of_mem _ (mem_cons_of_mem _ (mem_cons_of_mem _ (mem_cons_of_mem _ (mem_cons_of_mem _ (mem_cons_of_mem _ (mem_cons_of_mem _ md)))))))
  dsimp only at gd7
  refine⟨_,U,_,U,d,_,_,_,U,U,SqL.of gd7,a8,_,_,U,U,(show(0:Int)<4 by decide),_,_,U,U,(sz_ 3),fun p8 hp8=>?_⟩
  have h8:=h7.alloc hp8 (.tup [.int (1+x8 % 4),.int 1,.int 6])
  refine⟨(sz_ 8),fun lp hlp=>?_⟩
  have h9:=h8.alloc hlp (.lst [.ref p1,.ref p2,.ref p3,.ref p4,.ref p5,.ref p6,.ref p7,.ref p8])
  have h10:=h9.sub (List.sublist_append_right [(lp,HO.lst [.ref p1,.ref p2,.ref p3,.ref p4,.ref p5,.ref p6,.ref p7,.ref p8]),(p8,.tup [.int (1+x8 % 4),.int 1,.int 6]),(p7,.tup [.int (1+x8 % 4),.int 1,.int 6]),(p6,.tup [.int (1+x8 % 4),.int 1,.int 6]),(p5,.tup [.int 1,.int 41,.int 60]),(p4,.tup [.int 40,.int 1,.int 2]),(p3,.tup [.int (1+x8 % 3),.int 11,.int 30]),(p2,.tup [.int 8,.int 1,.int 10]),(p1,.tup [.int (1+x8 % 4),.int 1,.int 6])] L)
  dsimp only[List.set] at h9 h10 ⊢
  have gd9:=h10.at_ _ md
  dsimp only at gd9
  obtain⟨pi,S,lo,sz0,hat,hpi,hS1,hS2,hlo1,hlo2,hz1,hz2,hSM⟩:∃ (pi:Addr) (S lo sz0:Nat),atI [V.ref p1,.ref p2,.ref p3,.ref p4,.ref p5,.ref p6,.ref p7,.ref p8] (x8 / 4 % 8)=some (.ref pi)/\(pi,HO.tup [.int S,.int lo,.int sz0]) ∈ [(lp,HO.lst [.ref p1,.ref p2,.ref p3,.ref p4,.ref p5,.ref p6,.ref p7,.ref p8]),(p8,.tup [.int (1+x8 % 4),.int 1,.int 6]),(p7,.tup [.int (1+x8 % 4),.int 1,.int 6]),(p6,.tup [.int (1+x8 % 4),.int 1,.int 6]),(p5,.tup [.int 1,.int 41,.int 60]),(p4,.tup [.int 40,.int 1,.int 2]),(p3,.tup [.int (1+x8 % 3),.int 11,.int 30]),(p2,.tup [.int 8,.int 1,.int 10]),(p1,.tup [.int (1+x8 % 4),.int 1,.int 6])]++L/\1<=S/\S<=40/\1<=lo/\lo<=41/\1<=sz0/\sz0<=60/\S*(lo+sz0 - 1)<=120:=by
   rw[ev4,ev3]
   have c:x8 / 4 % 8=0∨x8 / 4 % 8=1∨x8 / 4 % 8=2∨x8 / 4 % 8=3∨x8 / 4 % 8=4∨x8 / 4 % 8=5∨x8 / 4 % 8=6∨x8 / 4 % 8=7:=by omega
   rcases c with c | c | c | c | c | c | c | c <;> rw[c]
   ·exact⟨p1,v4,1,6,U,by simp,by omega,by omega,by omega,by omega,by omega,by omega,by omega⟩
   ·exact⟨p2,8,1,10,U,by simp,by omega,by omega,by omega,by omega,by omega,by omega,by omega⟩
   ·exact⟨p3,v3,11,30,U,by simp,by omega,by omega,by omega,by omega,by omega,by omega,by omega⟩
   ·exact⟨p4,40,1,2,U,by simp,by omega,by omega,by omega,by omega,by omega,by omega,by omega⟩
   ·exact⟨p5,1,41,60,U,by simp,by omega,by omega,by omega,by omega,by omega,by omega,by omega⟩
   ·exact⟨p6,v4,1,6,U,by simp,by omega,by omega,by omega,by omega,by omega,by omega,by omega⟩
   ·exact⟨p7,v4,1,6,U,by simp,by omega,by omega,by omega,by omega,by omega,by omega,by omega⟩
   ·exact⟨p8,v4,1,6,U,by simp,by omega,by omega,by omega,by omega,by omega,by omega,by omega⟩
  refine⟨_,U,_,U,d,_,_,_,U,U,SqL.of gd9,a8,_,_,U,U,⟨by decide,by decide⟩,_,_,U,U,(show(0:Int)<8 by decide),lp,_,_,_,U,U,SqL.of (h9.get 0 U),hat,pi,_,U,SqT.of (h9.at_ _ hpi),U,_,_,U,_,_,U,_,_,U,U,?_⟩
  refine⟨(sz_ 0),fun pl hpl=>?_⟩
  have h11:=h10.alloc hpl (.lst [])
  clear h1 h2 h3 h4 h5 h6 h7 h8 h9 hpi hat gd2 gd5 gd6 gd7 gd9
  have em:∀ (a b:Int),0<b->0<=a % b/\a % b<b:=fun a b hb=>⟨Int.emod_nonneg _ (by omega),Int.emod_lt_of_pos _ hb⟩
  refine⟨_,U,_,U,by omega,by omega,bv (fun i σ H'=>∃ (o9 o10 o11 o12 o13:Option V) (slot:Int) (ss:Ss) (N:Kn),σ=[some (.ref d),some (.int 8),some (.int nm),some (.int nc),some (.int S),some (.int lo),some (.int sz0),some (.ref pl),some (.int slot),o9,o10,o11,o12,o13]/\ss.length=i/\GoodU nm nc S (lo+sz0 - 1) ss/\(∀ z ∈ ss,(z.1,HO.lst (rwV z.2)) ∈ N)/\(∀ z ∈ ss,∀ x ∈ z.2,(x.1,HO.tup x.2.v) ∈ N)/\Has H' ((pl,.lst (ssV ss))::(N++L))) ⟨none,none,none,none,none,0,[],[],U,U,(fun k z hz=>by simp at hz),by simp,by simp,h11⟩ ?_ ?_⟩
  ·clear h11 h10
   rintro i σ H2 hi ⟨o9,o10,o11,o12,o13,slot,ss,N,rfl,hl,hg,hz,hx,h2⟩
   have hi:i<S:=by omega
   rw[Int.zero_add]
   show jB _ _ _ _ _
   dsimp only[List.set]
   have inL:∀ {H':Hp}{z c1:Addr×HO}{N:Kn},Has H' (c1::(N++L))->z ∈ L->H' z.1=some z.2:=fun h m=>h.at_ _ (mem_cons_of_mem _ (mem_append_right _ m))
   have g2:=inL h2 md
   dsimp only at g2
   have i8:=em (i:Int) 8 (by decide)
   refine⟨_,U,_,U,_,U,_,_,U,U,_,U,_,_,U,U,(show(0:Int)<8 by decide),_,_,U,U,d,_,_,_,U,U,SqL.of g2,dgI (8+1+(i:Int) % 8) (by omega) (by omega),_,U,_,_,U,U,⟨by decide,by decide⟩,_,_,U,U,_,U,_,_,U,U,(show(0:Int)<sz0 by omega),_,_,U,U,?_⟩
   dsimp only[List.set]
   obtain⟨many,emany⟩:∃ many:Nat,(lo:Int)+(ds.getD (8+1+(i:Int) % 8).toNat 0+(i:Int) / 8) % sz0=(many:Int):=Int.eq_ofNat_of_zero_le (by have:=em (ds.getD (8+1+(i:Int) % 8).toNat 0+(i:Int) / 8) sz0 (by omega); omega)
   have hmany:1<=many/\many<=101/\many<=lo+sz0 - 1:=by have:=em (ds.getD (8+1+(i:Int) % 8).toNat 0+(i:Int) / 8) sz0 (by omega); omega
   rw[emany]
   refine⟨(sz_ 0),fun rl hrl=>?_⟩
   dsimp only[List.set]
   have h3:=h2.alloc hrl (.lst [])
   refine⟨_,U,_,U,by omega,by omega,bv (fun j σ H'=>∃ (o12 o13:Option V) (slot:Int) (rs:List (Addr×Rw)) (N':Kn),σ=[some (.ref d),some (.int 8),some (.int nm),some (.int nc),some (.int S),some (.int lo),some (.int sz0),some (.ref pl),some (.int slot),some (.int i),some (.int many),some (.ref rl),o12,o13]/\rs.length=j/\(∀ x ∈ rs,x.2.ok nm nc many i S)/\(∀ x ∈ rs,(x.1,HO.tup x.2.v) ∈ N')/\Has H' ((rl,.lst (rwV rs))::(N'++((pl,.lst (ssV ss))::(N++L))))) ⟨_,_,slot,[],[],U,U,by simp,by simp,h3⟩ ?_ ?_⟩
   ·clear h3
    rintro j σ H3 hj ⟨o12,o13,slot,rs,N',rfl,hrl2,hok,hin,h3⟩
    have hj:j<many:=by omega
    show jB _ _ _ _ _
    dsimp only[List.set]
    have s80:=em slot 80 (by decide)
    refine⟨_,U,_,_,U,U,_,U,_,_,U,U,(show(0:Int)<80 by decide),_,_,U,U,.inl ⟨by decide,by decide⟩,_,_,U,U,?_⟩
    dsimp only[List.set]
    refine⟨_,U,.inl ⟨U,_,SqL.of (h3.get 0 U)⟩,_,U,_,U,_,U,_,_,U,U,⟨by decide,by decide⟩,_,U,_,U,_,U,_,U,_,_,U,U,_,U,_,_,U,fun p hp=>?_⟩
    have h4:=h3.alloc hp (.rng ((i:Int)+1) S)
    refine⟨p,_,_,U,h4.get 0 U,by omega,by omega,by omega,by omega,fun lt hlt=>?_⟩
    have h5:=h4.alloc hlt (.lst (cv ((i:Int)+1) ((S:Int) - ((i:Int)+1)).toNat))
    refine⟨d,lt,ds,_,_,many,nm,nc,i,S,_,U,h5,mem_cons_of_mem _ (mem_cons_of_mem _ (mem_cons_of_mem _ (mem_append_right _ (mem_cons_of_mem _ (mem_append_right _ md))))),(by rw[show S - (i+1)=((S:Int) - ((i:Int)+1)).toNat by omega]; exact mem_cons_self),(by omega),(by omega),hmany.1,fun H6 a y hy h6=>?_⟩
    refine⟨rl,_,_,U,U,h6.get 3 U,sizeOk (by unfold rwV; rw[length_map]; omega),?_⟩
    have h7:=h6.puti 3 U (.lst (rwV rs++[.ref a]))
    have h8:=kT h7 3 rfl
    refine⟨_,U,_,_,U,U,?_⟩
    dsimp only[List.set]
    refine⟨_,_,slot+1,rs++[(a,y)],(a,.tup y.v)::(lt,.lst (cv ((i:Int)+1) ((S:Int) - ((i:Int)+1)).toNat))::(p,.rng ((i:Int)+1) S)::N',U,by simp[hrl2],?_,?_,?_⟩
    ·intro x hx
     rcases mem_append.mp hx with hx | hx
     ·exact hok x hx
     ·cases mem_singleton.mp hx
      exact hy
    ·intro x hx
     rcases mem_append.mp hx with hx | hx
     ·exact mem_cons_of_mem _ (mem_cons_of_mem _ (mem_cons_of_mem _ (hin x hx)))
     ·cases mem_singleton.mp hx
      exact mem_cons_self
    ·have e:rwV (rs++[(a,y)])=rwV rs++[.ref a]:=by unfold rwV; rw[map_append]; rfl
     rw[e]
     exact h8
   ·clear h3
    rintro σ H3 hP
    rw[Int.toNat_natCast] at hP
    obtain⟨o12,o13,slot,rs,N',rfl,hrl2,hok,hin,h3⟩:=hP
    have fin:∀ {H4:Hp} (rs1:List (Addr×Rw)) (N1:Kn),rs1.length=many->(∀ x ∈ rs1,x.2.ok nm nc many i S)->(∀ x ∈ rs1,(x.1,HO.tup x.2.v) ∈ N1)->(∃ a y,rs1.getLast?=some (a,y)/\y.last=true)->Has H4 ((rl,.lst (rwV rs1))::(N1++((pl,.lst (ssV ss))::(N++L)))) ->
      ∃ (N2:Kn),(∀ z ∈ ss++[(rl,rs1)],(z.1,HO.lst (rwV z.2)) ∈ N2)/\(∀ z ∈ ss++[(rl,rs1)],∀ x ∈ z.2,(x.1,HO.tup x.2.v) ∈ N2)/\GoodU nm nc S (lo+sz0 - 1) (ss++[(rl,rs1)])/\H4 pl=some (.lst (ssV ss))/\Has (upd H4 pl (.lst (ssV ss++[.ref rl]))) ((pl,.lst (ssV (ss++[(rl,rs1)])))::(N2++L)):=by
     intro H4 rs1 N1 l1 ok1 in1 la1 h4
     have h5:=Has.comm (X:=(rl,HO.lst (rwV rs1))::N1) (Y:=[(pl,HO.lst (ssV ss))]) h4
     have h6:=h5.puti 0 U (.lst (ssV ss++[.ref rl]))
     refine⟨((rl,HO.lst (rwV rs1))::N1)++N,?_,?_,hg.snoc (by rw[hl,l1]; exact ok1) la1 (by rw[l1]; exact hmany.2.2),h5.get 0 U,?_⟩
     ·intro z hz1
      rcases mem_append.mp hz1 with hz1 | hz1
      ·exact mem_append_right _ (hz z hz1)
      ·cases mem_singleton.mp hz1
       exact mem_append_left _ mem_cons_self
     ·intro z hz1 x hx1
      rcases mem_append.mp hz1 with hz1 | hz1
      ·exact mem_append_right _ (hx z hz1 x hx1)
      ·cases mem_singleton.mp hz1
       exact mem_append_left _ (mem_cons_of_mem _ (in1 x hx1))
     ·have e:ssV (ss++[(rl,rs1)])=ssV ss++[.ref rl]:=by unfold ssV; rw[map_append]; rfl
      rw[e,append_assoc]
      exact h6
    obtain⟨⟨la,ly⟩,hla⟩:∃ z,rs.getLast?=some z:=by
     cases e:rs.getLast? with
     | none=>rw[List.getLast?_eq_none_iff] at e; rw[e] at hrl2; simp at hrl2; omega
     | some z=>exact⟨z,U⟩
    obtain⟨rs',ers⟩:=List.getLast?_eq_some_iff.mp hla
    have eV:rwV rs=rwV rs'++[.ref la]:=by rw[ers]; unfold rwV; rw[map_append]; rfl
    have mla:(la,ly) ∈ rs:=by rw[ers]; simp
    have g1:=h3.get 0 rfl
    rw[eV] at g1
    have g2:=h3.at_ (la,_) (mem_cons_of_mem _ (mem_append_left _ (hin _ mla)))
    dsimp only at g2
    have lss:(ssV ss).length<=1000:=by unfold ssV; rw[length_map]; omega
    refine⟨_,U,1,U,rl,_,_,_,U,U,SqL.of g1,gQ _ _,la,_,_,_,U,U,SqT.of g2,aw (j:=0) rfl,(sz_ 3),fun wt hwt=>?_⟩
    have h4:=h3.alloc hwt (.tup [.str "ask",.str "go",.str "end"])
    refine⟨wt,_,U,.inr (SqT.of (h4.get 0 U)),U,U,_,U,?_⟩
    cases hlast:ly.last with
    | true=>
     refine ifF (ly.lastIn hlast) ?_
     obtain⟨N2,f1,f2,f3,f4,f5⟩:=fin rs N' hrl2 hok hin ⟨la,ly,hla,hlast⟩ h4.tail
     exact⟨_,U,.inl ⟨U,_,SqL.of f4⟩,_,U,pl,_,_,U,U,f4,sizeOk (by omega),_,_,_,_,_,slot,ss++[(rl,rs)],N2,U,by simp[hl],f3,f1,f2,f5⟩
    | false=>
     refine ifT (ly.notLast hlast) ?_
     refine⟨(sz_ 1),fun e he=>?_⟩
     have h5:=h4.alloc he (.tup (Rw.fin).v)
     have lrs:(rwV rs).length=many:=by unfold rwV; rw[length_map]; exact hrl2
     refine⟨_,U,1,U,rl,_,_,_,U,U,h5.get 2 U,kB (by omega),?_⟩
     have h6:=h5.puti 2 U (.lst ((rwV rs).set ((rwV rs).length - 1) (.ref e)))
     have eS:(rwV rs).set ((rwV rs).length - 1) (.ref e)=rwV (rs'++[(e,Rw.fin)]):=by
      rw[eV,jO]
      unfold rwV
      rw[map_append]
      rfl
     rw[eS] at h6
     rw[eS]
     have h7:=kT h6 2 rfl
     have l1:(rs'++[(e,Rw.fin)]).length=many:=by rw[<- hrl2,ers]; simp
     obtain⟨N2,f1,f2,f3,f4,f5⟩:=fin (rs'++[(e,Rw.fin)]) ((e,.tup (Rw.fin).v)::(wt,.tup [.str "ask",.str "go",.str "end"])::N') l1 (by
      intro x hx
      rcases mem_append.mp hx with hx | hx
      ·exact hok x (by rw[ers]; exact mem_append_left _ hx)
      ·cases mem_singleton.mp hx
       trivial) (by
      intro x hx
      rcases mem_append.mp hx with hx | hx
      ·exact mem_cons_of_mem _ (mem_cons_of_mem _ (hin x (by rw[ers]; exact mem_append_left _ hx)))
      ·cases mem_singleton.mp hx
       exact mem_cons_self) ⟨e,.fin,by simp,U⟩ h7
     exact⟨_,U,.inl ⟨U,_,SqL.of f4⟩,_,U,pl,_,_,U,U,f4,sizeOk (by omega),_,_,_,_,_,slot,ss++[(rl,rs'++[(e,Rw.fin)])],N2,U,by simp[hl],f3,f1,f2,f5⟩
  ·rintro σ H2 hP
   rw[Int.toNat_natCast] at hP
   obtain⟨o9,o10,o11,o12,o13,slot,ss,N,rfl,hl,hg,hz,hx,h2⟩:=hP
   exact⟨_,U,q _ pl ss N (by intro e; rw[e] at hl; simp at hl; omega) (by omega) (fun k z hk=>by rw[hl]; exact⟨(hg k z hk).1,(hg k z hk).2.1⟩) ⟨lo+sz0 - 1,by rw[hl]; exact hSM,fun z hz=>by obtain⟨k,hk⟩:=List.getElem?_of_mem hz; exact(hg k z hk).2.2⟩ hz hx h2⟩
end
noncomputable def nJ:Sp:=fun vs H Q _=>∃ (d:Addr) (ds:List Int) (L:Kn),vs=[.ref d]/\Has H L/\(d,HO.lst (ds.map V.int)) ∈ L/\340<=ds.length /\
 ∀ H' tp m w pl (ms ws:List Int) (ss:Ss) (N:Kn),(∀ x ∈ ms,x=1∨x=2)->(∀ x ∈ ws,1<=x/\x<=8)->ms.length<=30->ws.length<=30->ss≠[]->ss.length<=40->Good ms.length ws.length ss->oY ss->(∀ z ∈ ss,(z.1,HO.lst (rwV z.2)) ∈ N)->(∀ z ∈ ss,∀ x ∈ z.2,(x.1,HO.tup x.2.v) ∈ N) ->
  Has H' ((tp,.tup [.ref m,.ref w,.ref pl])::(pl,.lst (ssV ss))::(N++((w,.lst (ws.map V.int))::(m,.lst (ms.map V.int))::L)))->Q (.ref tp) H'
theorem nh {c:Bool}{v:V}{i:Nat}{D:Ends}{σ:St}{H:Hp} (h:∀ τ,(τ=σ.set i (some v)∨τ=σ)->D.nx τ H):if c=true then lg (tC v) (d7 i) D σ H else my D σ H:=by
 cases c
 ·exact cZ (h σ (.inr rfl))
 ·exact fT (h _ (.inl rfl))
section
variable {P:Program}{w:World}{K:PySem.W.Frag}{mg:Str->Option Value}{base:Heap}{t:Adr}
theorem scLg:FnScope ["_law_d","_law_many","_law_marks","_law_widths","_law_turn","_law_width"] ["_law_d"] (ai jR):={}
theorem oA (T:Txt K mg t):FnOk P w K mg base CX0 3 t.f_J31 t.d_J31 ["_law_d"] nJ:=by
 refine T.F_J31.ok scLg (fun vs H Q E h=>?_) (fun cdv A outer s H vs Q E hr h=>?_)
 ·obtain⟨_,_,_,rfl,_⟩:=h
  rfl
 ·obtain⟨d,ds,L,rfl,hH,md,hds,q⟩:=h
  have gd:=hH.at_ _ md
  dsimp only at gd
  refine⟨_,(ae (ar (i:=1) scLg.nd rfl (Or.inl rfl) (ao aN (aC ay (pv 0) ag) ag))
   (ae (aG (aj bp (ao aN (ao bJ (aC ay (pv 0) ag) ag) ag) ag (ap _))
    (ah (ar (i:=1) scLg.nd rfl (Or.inl rfl) ag))
    au)
   (ae (fN (ix:=2) scLg.nd rfl (Or.inl rfl) (esc:=ai jR) (k:=1) ["_law_turn","_law_d","_law_many","_law_marks","_law_widths","_law_turn'","_law_width"] rfl (a9 (by rfl) T.z_range (aa (pv 1) af)) (fun _ _ _ _ _=>by exact(am (i:=0) (show List.Nodup (["_law_turn","_law_d","_law_many","_law_marks","_law_widths","_law_turn'","_law_width"]:List Str) from by decide +kernel) rfl (Or.inl rfl))) (fun _ _ _ _ _=>by exact bI) (fun _ _ _ _ _=>by exact(ao aJ ag (ao aN (aC (kA (K:=K) rfl) (pv 1) (ao aJ ag (pv 0))) ag))) rfl (by decide +kernel) (by decide +kernel) rfl (by decide +kernel) (by rfl) (fun i y h hf=>by
    by_cases c:i=4
    ·subst c; cases h; exact absurd hf (by decide +kernel)
    ·have h2:(List.set (["_law_d","_law_many","_law_marks","_law_widths","_law_turn","_law_width"]:List Str) 4 "_law_turn'")[i]?=some y:=h
     rw[List.getElem?_set_ne (fun z=>c z.symm)] at h2; exact h2) (by decide +kernel))
   (ae (ar (i:=3) scLg.nd rfl (Or.inl rfl) (aR af))
   (ae (ar (i:=1) scLg.nd rfl (Or.inl rfl) (ao aN (aC ay (pv 0) ag) ag))
   (ae (aG (aj bp (ao aN (ao bJ (aC ay (pv 0) ag) ag) ag) ag (ap _))
    (ah (ar (i:=1) scLg.nd rfl (Or.inl rfl) ag))
    au)
   (ae (aX PassesOwn.never rfl (a9 (by rfl) T.z_range (aa (pv 1) af)) (am (i:=4) scLg.nd rfl (Or.inl rfl))
    (ae (ar (i:=5) scLg.nd rfl (Or.inl rfl) (ao aJ ag (ao aN (aC ay (pv 0) (ao aJ ag (pv 4))) ag)))
     (ae (aG (aj bp (ao aN (ao bJ (aC ay (pv 0) (ao aJ ag (pv 4))) ag) ag) ag (ap _))
      (ah (ar (i:=5) scLg.nd rfl (Or.inl rfl) (ao aJ ag (ao aN (ao bJ (aC ay (pv 0) (ao aJ ag (pv 4))) ag) ag))))
      au)
     (ah (ak (b6 PySem.F.plainAttrs_list PySem.F.slot_list_append PySem.F.type_list_append aT (pv 3) (aa (pv 5) af)))))))
   (ah (aH (aq (aa (pv 2) (aa (pv 3) (aa (pcl (kf T) hr T.m_parts T.F_parts.kp (lZ T) (aa (pv 0) (aa ag (aa (aK az (by rfl) T.z_len (by rfl) (aa (pv 2) af)) (aa (aK az (by rfl) T.z_len (by rfl) (aa (pv 3) af)) af))))) af))))))))))))),?_⟩
  rw[show L2.start ["_law_d","_law_many","_law_marks","_law_widths","_law_turn","_law_width"] [V.ref d]=([some (V.ref d),none,none,none,none,none]:St) from rfl]
  have a0:atI (ds.map V.int) 0=some (.int (ds.getD (0:Int).toNat 0)):=dgI 0 (by decide) (by omega)
  have a4:atI (ds.map V.int) 4=some (.int (ds.getD (4:Int).toNat 0)):=dgI 4 (by decide) (by omega)
  obtain⟨x0,ex0⟩:∃ x0,ds.getD (0:Int).toNat 0=x0:=⟨_,U⟩
  obtain⟨x4,ex4⟩:∃ x4,ds.getD (4:Int).toNat 0=x4:=⟨_,U⟩
  rw[ex0] at a0
  rw[ex4] at a4
  refine⟨_,U,d,_,_,_,U,U,SqL.of gd,a0,_,_,U,U,(show(0:Int)<4 by decide),?_⟩
  dsimp only[List.set]
  refine⟨_,U,d,_,_,_,U,U,SqL.of gd,a0,_,_,U,U,⟨by decide,by decide⟩,_,_,U,U,(show(0:Int)<11 by decide),U,_,U,?_⟩
  refine nh (fun τ hτ=>?_)
  obtain⟨n,hn,rfl⟩:∃ n:Nat,n<=30/\τ=[some (.ref d),some (.int n),none,none,none,none]:=by
   rcases hτ with rfl | rfl
   ·exact⟨30,Nat.le_refl _,U⟩
   ·exact⟨(x0 % 4).toNat,by omega,by rw[Int.toNat_of_nonneg (by omega)]; rfl⟩
  refine⟨_,U,_,U,by omega,by omega,fun D hD=>?_⟩
  refine⟨fun i m zs H'=>m=n - i/\i<=n/\∃ ms:List Int,zs=ms.map V.int/\ms.length=i/\(∀ x ∈ ms,x=1∨x=2)/\Has H' ((D,.lst zs)::L),⟨_,U,Nat.zero_le _,[],U,U,by simp,hH.alloc hD _⟩,?_⟩
  rintro i m zs H2 ⟨rfl,hi,ms,rfl,hml,hms,h2⟩
  refine⟨h2.get 0 U,?_⟩
  have g2:=h2.tail.at_ _ md
  dsimp only at g2
  by_cases hlt:i<n
  ·refine .inr ⟨(show i<(n:Int).toNat by omega),?_⟩
   rintro x H3 ⟨rfl,rfl⟩
   refine⟨U,bY ?_⟩
   refine⟨_,U,_,U,_,_,U,U,d,_,_,_,U,U,SqL.of g2,dgI (1+(0+(i:Int))) (by omega) (by omega),_,_,U,U,(show(0:Int)<2 by decide),_,_,U,U,?_⟩
   dsimp only
   obtain⟨v,ev⟩:∃ v,1+ds.getD (1+(0+(i:Int))).toNat 0 % 2=v:=⟨_,U⟩
   rw[ev]
   refine⟨sizeOk (by rw[length_map]; omega),h2.get 0 U,n - (i+1),by omega,U,hlt,ms++[v],by rw[map_append]; rfl,by simp[hml],?_,h2.puti 0 U _⟩
   intro x hx
   rcases mem_append.mp hx with hx | hx
   ·exact hms x hx
   ·cases mem_singleton.mp hx
    omega
  ·refine .inl ⟨(show(n:Int).toNat<=i by omega),?_⟩
   dsimp only[List.set]
   refine⟨(sz_ 0),fun wl hwl=>?_⟩
   have h3:=h2.alloc hwl (.lst [])
   have g3:=h3.tail.tail.at_ _ md
   dsimp only[List.set] at g3 ⊢
   refine⟨_,U,d,_,_,_,U,U,SqL.of g3,a4,_,_,U,U,(show(0:Int)<4 by decide),?_⟩
   dsimp only[List.set]
   refine⟨_,U,d,_,_,_,U,U,SqL.of g3,a4,_,_,U,U,⟨by decide,by decide⟩,_,_,U,U,(show(0:Int)<11 by decide),U,_,U,?_⟩
   refine nh (fun τ hτ=>?_)
   obtain⟨n2,hn2,rfl⟩:∃ n2:Nat,n2<=30/\τ=[some (.ref d),some (.int n2),some (.ref D),some (.ref wl),none,none]:=by
    rcases hτ with rfl | rfl
    ·exact⟨30,Nat.le_refl _,U⟩
    ·exact⟨(x4 % 4).toNat,by omega,by rw[Int.toNat_of_nonneg (by omega)]; rfl⟩
   refine⟨_,U,_,U,by omega,by omega,bv (fun j σ H'=>∃ (o4 o5:Option V) (ws:List Int),σ=[some (.ref d),some (.int n2),some (.ref D),some (.ref wl),o4,o5]/\ws.length=j/\(∀ x ∈ ws,1<=x/\x<=8)/\Has H' ((wl,.lst (ws.map V.int))::(D,.lst (ms.map V.int))::L)) ⟨_,_,[],U,U,by simp,h3⟩ ?_ ?_⟩
   ·clear h3
    rintro j σ H3 hj ⟨o4,o5,ws,rfl,hwl2,hws,h3⟩
    have hj:j<n2:=by omega
    have g3:=h3.tail.tail.at_ _ md
    dsimp only at g3
    rw[Int.zero_add]
    show jB _ _ _ _ _
    dsimp only[List.set]
    have a5:atI (ds.map V.int) (5+(j:Int))=some (.int (ds.getD (5+(j:Int)).toNat 0)):=dgI _ (by omega) (by omega)
    obtain⟨x5,ex5⟩:∃ x5,ds.getD (5+(j:Int)).toNat 0=x5:=⟨_,U⟩
    rw[ex5] at a5
    have fin:∀ (v:Int) (o4 o5:Option V),1<=v->v<=8->∃ (o4' o5':Option V) (ws':List Int),[some (V.ref d),some (.int n2),some (.ref D),some (.ref wl),o4,o5]=[some (V.ref d),some (.int n2),some (.ref D),some (.ref wl),o4',o5']/\ws'.length=j+1/\(∀ x ∈ ws',1<=x/\x<=8)/\Has (upd H3 wl (.lst (ws.map V.int++[.int v]))) ((wl,.lst (ws'.map V.int))::(D,.lst (ms.map V.int))::L):=by
     intro v o4 o5 v1 v8
     refine⟨o4,o5,ws++[v],U,by simp[hwl2],?_,?_⟩
     ·intro x hx
      rcases mem_append.mp hx with hx | hx
      ·exact hws x hx
      ·cases mem_singleton.mp hx
       exact⟨v1,v8⟩
     ·rw[map_append]
      exact h3.puti 0 U _
    refine⟨_,U,_,U,_,_,U,U,d,_,_,_,U,U,SqL.of g3,a5,_,_,U,U,(show(0:Int)<2 by decide),_,_,U,U,?_⟩
    dsimp only[List.set]
    refine⟨_,U,_,U,_,_,U,U,d,_,_,_,U,U,SqL.of g3,a5,_,_,U,U,⟨by decide,by decide⟩,_,_,U,U,(show(0:Int)<4 by decide),U,_,U,?_⟩
    refine if2 (fun _=>?_) (fun _=>?_)
    ·refine⟨_,U,_,U,_,_,U,U,d,_,_,_,U,U,SqL.of g3,a5,_,_,U,U,⟨by decide,by decide⟩,_,_,U,U,(show(0:Int)<8 by decide),_,_,U,U,?_⟩
     exact⟨_,U,.inl ⟨U,_,SqL.of (h3.get 0 U)⟩,_,U,wl,_,_,U,U,h3.get 0 U,sizeOk (by rw[length_map]; omega),fin (1+x5 / 8 % 8) _ _ (by omega) (by omega)⟩
    ·exact⟨_,U,.inl ⟨U,_,SqL.of (h3.get 0 U)⟩,_,U,wl,_,_,U,U,h3.get 0 U,sizeOk (by rw[length_map]; omega),fin (1+x5 % 2) _ _ (by omega) (by omega)⟩
   ·clear h3
    rintro σ H3 hP
    rw[Int.toNat_natCast] at hP
    obtain⟨o4,o5,ws,rfl,hwl2,hws,h3⟩:=hP
    refine⟨_,U,_,U,_,U,_,U,D,_,U,.inl (SqL.of (h3.get 1 U)),_,U,wl,_,U,.inl (SqL.of (h3.get 0 U)),d,ds,ms.length,ws.length,_,(by rw[length_map,length_map]; rfl),h3,mem_cons_of_mem _ (mem_cons_of_mem _ md),hds,fun H4 pl ss N k1 k2 k3 kL k4 k5 h4=>?_⟩
    refine⟨(sz_ 3),fun tp htp=>?_⟩
    exact q _ tp D wl pl ms ws ss N hms hws (by omega) (by omega) k1 k2 k3 kL k4 k5 (h4.alloc htp _)
end
noncomputable abbrev Pr:=Addr×Int×Int
noncomputable def prV (ps:List Pr):List V:=ps.map fun z=>.ref z.1
noncomputable def Rw.onw (k n:Int):Rw->List (Int×Int)
 | .ask _ a b=>[(k,a),(k,b)]
 | .bump _ r=>[(k,n+1),(k,r)]
 | .go r=>[(k,r)]
 | .call s=>[(s,0),(k,n+1)]
 | .fin=>[]
 | .bell _=>[(k,n+1)]
 | .set _ _=>[(k,n+1)]
noncomputable def PrK (ps:List Pr):Kn:=ps.map fun z=>(z.1,HO.tup [.int z.2.1,.int z.2.2])
noncomputable def nG:Sp:=fun vs H Q _=>∃ (r:Addr) (x:Rw) (k n:Int) (L:Kn),vs=[.ref r,.int k,.int n]/\Has H L/\(r,HO.tup x.v) ∈ L/\∀ H' l ps,ps.map (·.2)=x.onw k n->Has H' ((l,.lst (prV ps))::(PrK ps++L))->Q (.ref l) H'
section
variable {P:Program}{w:World}{K:PySem.W.Frag}{mg:Str->Option Value}{base:Heap}{t:Adr}
theorem scOn:FnScope ["row","stretch","number","word","behind"] ["row","stretch","number"] (ai mJ):={}
theorem ot (T:Txt K mg t):FnOk P w K mg base CX0 1 t.f_J81 t.d_J81 ["row","stretch","number"] nG:=by
 refine T.F_J81.ok scOn (fun vs H Q E h=>?_) (fun cdv A outer s H vs Q E hr h=>?_)
 ·obtain⟨_,_,_,_,_,rfl,_⟩:=h
  rfl
 ·obtain⟨r,x,k,n,L,rfl,hH,mr,q⟩:=h
  have gr:=hH.at_ _ mr
  dsimp only at gr
  refine⟨_,(ae (ar (i:=3) scOn.nd rfl (Or.inl rfl) (aC bf (pv 0) ag))
   (ae (ar (i:=4) scOn.nd rfl (Or.inl rfl) (aq (aa (pv 1) (aa (ao aJ (pv 2) ag) af))))
   (ae (aG (aj bp (pv 3) aF (ap _))
    (ah (aH (aR (@aa _ _ _ _ _ (aq (aa (pv 1) (aa (aC bf (pv 0) ag) af))) (@aa _ _ _ _ _ (aq (aa (pv 1) (aa (aC bf (pv 0) ag) af))) af (by rfl)) (by rfl)))))
    au)
   (ae (aG (aj bp (pv 3) aF (ap _))
    (ah (aH (aR (@aa _ _ _ _ _ (pv 4) (@aa _ _ _ _ _ (aq (aa (pv 1) (aa (aC bf (pv 0) ag) af))) af (by rfl)) (by rfl)))))
    au)
   (ae (aG (aj bp (pv 3) aF (ap _))
    (ah (aH (aR (@aa _ _ _ _ _ (aq (aa (pv 1) (aa (aC bf (pv 0) ag) af))) af (by rfl)))))
    au)
   (ae (aG (aj bp (pv 3) aF (ap _))
    (ah (aH (aR (@aa _ _ _ _ _ (aq (aa (aC bf (pv 0) ag) (aa ag af))) (@aa _ _ _ _ _ (pv 4) af (by rfl)) (by rfl)))))
    au)
   (ae (aG (aj bp (pv 3) aF (ap _))
    (ah (aH (aR af)))
    au)
   (ah (aH (aR (aa (pv 4) af))))))))))),?_⟩
  rw[]
  refine⟨_,U,r,_,_,_,U,U,SqT.of gr,aw (j:=0) rfl,?_⟩
  dsimp only[List.set]
  refine⟨_,U,_,U,_,_,U,U,(sz_ 2),fun b hb=>?_⟩
  dsimp only[List.set] at hb ⊢
  have h1:=hH.alloc hb (.tup [.int k,.int (n+1)])
  have gr1:=h1.at_ _ (mem_cons_of_mem _ mr)
  dsimp only at gr1
  cases x with
  | ask m c d=>
   refine⟨_,U,U,_,U,ifT (decide_eq_true rfl) ?_⟩
   refine⟨_,U,_,U,r,_,_,_,U,U,SqT.of gr1,aw (j:=2) rfl,(sz_ 2),fun p1 hp1=>?_⟩
   have h2:=h1.alloc hp1 (.tup [.int k,.int c])
   have gr2:=h2.at_ _ (mem_cons_of_mem _ (mem_cons_of_mem _ mr))
   dsimp only at gr2
   refine⟨_,U,_,U,r,_,_,_,U,U,SqT.of gr2,aw (j:=3) rfl,(sz_ 2),fun p2 hp2=>?_⟩
   have h3:=h2.alloc hp2 (.tup [.int k,.int d])
   refine⟨(sz_ 2),fun l hl=>?_⟩
   have h4:=h3.alloc hl (.lst [.ref p1,.ref p2])
   exact q _ l [(p1,k,c),(p2,k,d)] rfl ((h4.sub (.cons₂ _ (.cons₂ _ (.cons₂ _ (.cons _ (List.Sublist.refl _)))))).perm (.cons _ (.swap _ _ _)))
  | bump m c=>
   refine⟨_,U,U,_,U,ifF (sne "bump" "ask") ?_⟩
   refine⟨_,U,U,_,U,ifT (decide_eq_true rfl) ?_⟩
   refine⟨_,U,_,U,_,U,r,_,_,_,U,U,SqT.of gr1,aw (j:=2) rfl,(sz_ 2),fun p1 hp1=>?_⟩
   have h2:=h1.alloc hp1 (.tup [.int k,.int c])
   refine⟨(sz_ 2),fun l hl=>?_⟩
   have h3:=h2.alloc hl (.lst [.ref b,.ref p1])
   exact q _ l [(b,k,n+1),(p1,k,c)] rfl (h3.perm (.cons _ (.swap _ _ _)))
  | go c=>
   refine⟨_,U,U,_,U,ifF (sne "go" "ask") ?_⟩
   refine⟨_,U,U,_,U,ifF (sne "go" "bump") ?_⟩
   refine⟨_,U,U,_,U,ifT (decide_eq_true rfl) ?_⟩
   refine⟨_,U,_,U,r,_,_,_,U,U,SqT.of gr1,aw (j:=1) rfl,(sz_ 2),fun p1 hp1=>?_⟩
   have h2:=h1.alloc hp1 (.tup [.int k,.int c])
   refine⟨(sz_ 1),fun l hl=>?_⟩
   have h3:=h2.alloc hl (.lst [.ref p1])
   exact q _ l [(p1,k,c)] rfl (h3.sub (.cons₂ _ (.cons₂ _ (.cons _ (List.Sublist.refl _)))))
  | call c=>
   refine⟨_,U,U,_,U,ifF (sne "call" "ask") ?_⟩
   refine⟨_,U,U,_,U,ifF (sne "call" "bump") ?_⟩
   refine⟨_,U,U,_,U,ifF (sne "call" "go") ?_⟩
   refine⟨_,U,U,_,U,ifT (decide_eq_true rfl) ?_⟩
   refine⟨_,U,r,_,_,_,U,U,SqT.of gr1,aw (j:=1) rfl,(sz_ 2),fun p1 hp1=>?_⟩
   have h2:=h1.alloc hp1 (.tup [.int c,.int 0])
   refine⟨_,U,(sz_ 2),fun l hl=>?_⟩
   have h3:=h2.alloc hl (.lst [.ref p1,.ref b])
   exact q _ l [(p1,c,0),(b,k,n+1)] rfl h3
  | fin=>
   refine⟨_,U,U,_,U,ifF (sne "end" "ask") ?_⟩
   refine⟨_,U,U,_,U,ifF (sne "end" "bump") ?_⟩
   refine⟨_,U,U,_,U,ifF (sne "end" "go") ?_⟩
   refine⟨_,U,U,_,U,ifF (sne "end" "call") ?_⟩
   refine⟨_,U,U,_,U,ifT (decide_eq_true rfl) ?_⟩
   refine⟨(sz_ 0),fun l hl=>?_⟩
   have h3:=h1.alloc hl (.lst [])
   exact q _ l [] rfl (h3.sub (.cons₂ _ (.cons _ (List.Sublist.refl _))))
  | bell c=>
   refine⟨_,U,U,_,U,ifF (sne "bell" "ask") ?_⟩
   refine⟨_,U,U,_,U,ifF (sne "bell" "bump") ?_⟩
   refine⟨_,U,U,_,U,ifF (sne "bell" "go") ?_⟩
   refine⟨_,U,U,_,U,ifF (sne "bell" "call") ?_⟩
   refine⟨_,U,U,_,U,ifF (sne "bell" "end") ?_⟩
   refine⟨_,U,(sz_ 1),fun l hl=>?_⟩
   have h3:=h1.alloc hl (.lst [.ref b])
   exact q _ l [(b,k,n+1)] rfl h3
  | set c d=>
   refine⟨_,U,U,_,U,ifF (sne "set" "ask") ?_⟩
   refine⟨_,U,U,_,U,ifF (sne "set" "bump") ?_⟩
   refine⟨_,U,U,_,U,ifF (sne "set" "go") ?_⟩
   refine⟨_,U,U,_,U,ifF (sne "set" "call") ?_⟩
   refine⟨_,U,U,_,U,ifF (sne "set" "end") ?_⟩
   refine⟨_,U,(sz_ 1),fun l hl=>?_⟩
   have h3:=h1.alloc hl (.lst [.ref b])
   exact q _ l [(b,k,n+1)] rfl h3
end
noncomputable abbrev pK2 (z:Pr):Addr×HO:=(z.1,HO.tup [.int z.2.1,.int z.2.2])
noncomputable def Fr (y:YR) (x:Int×Int):Prop:=There y x.1 x.2/\aM y.mates (kE x.1 x.2)=none
noncomputable def Fre (y:YR):Prop:=∀ n:Int,y.next<=n->aM y.kinds (Sum.inl n)=none/\aM y.notes (Sum.inl n)=none/\aM y.rods (Sum.inl n)=none
structure Ld (y:YR) (N M R:Nat):Prop where
 nx:y.next=N
 kl:y.kinds.length=N
 fr:Fre y
 mt:∀ n e,(N:Int)<=n->aM y.mates (kE n e)=none
 nl:y.notes.length<=N
 rl:y.rods.length<=N
 sl:y.sides.length<=R+N
 ml:y.mates.length<=M
 g:y.rung=[]
 t:y.trail=[]
theorem Ld.small {y:YR}{N M R:Nat} (h:Ld y N M R) (hN:N<=9000) (hM:M<=30000) (hR:R<=1000):kY y:=by
 obtain⟨h1,h2,h3,h4,h5,h6,h7,h8,h9,h10⟩:=h
 exact⟨by omega,by omega,by omega,by omega,by omega,by rw[h9]; exact Nat.zero_le _,by rw[h10]; exact Nat.zero_le _⟩
theorem Ld.nil:Ld y0 0 0 0:=⟨U,U,fun _ _=>⟨U,U,U⟩,fun _ _ _=>rfl,Nat.le_refl _,Nat.le_refl _,Nat.le_refl _,Nat.le_refl _,U,U⟩
theorem Ld.lt {y:YR}{N M R:Nat} (h:Ld y N M R) {n e:Int} (t:There y n e):n<N:=by
 obtain⟨k,hk,_⟩:=t
 by_cases c:n<N
 ·exact c
 ·rw[(h.fr n (by rw[h.nx]; omega)).1] at hk
  cases hk
theorem fS {i n:Int} (h:¬ i=n):¬ (Sum.inl i:Key)=Sum.inl n:=fun e=>h (Sum.inl.inj e)
theorem cY {n e n' e':Int} (h:kE n e=kE n' e'):(n,e)=(n',e'):=by
 injection h with h1 h2
 injection h2 with h2 _
 injection h1 with h1
 injection h2 with h2
 rw[h1,h2]
theorem lH {κ:Type} [DecidableEq κ] {kvs:List (κ×V)}{k:κ}{v:V} (h:aM kvs k=none):(aI kvs k v).length=kvs.length+1:=by
 rw[L2.putK_new v h,length_append,length_singleton]
theorem Ld.lay {y:YR}{N M R:Nat} (h:Ld y N M R) (k:Kd) (note:Int) (rod:V):Ld (bC y k note rod) (N+1) M R:=by
 have hk:=h.kl; have h1:=h.nl; have h2:=h.rl; have h3:=h.sl
 refine⟨?_,?_,fun n hn=>?_,fun n e hn=>h.mt n e (by omega),?_,?_,?_,h.ml,h.g,U⟩
 ·show y.next+1=_; rw[h.nx]; rfl
 ·show(aI y.kinds (Sum.inl y.next) (.str k.str)).length=_
  rw[lH (h.fr _ (Int.le_refl _)).1,hk]
 ·have hn:y.next+1<=n:=hn
  obtain⟨a,b,c⟩:=h.fr n (by omega)
  have ne:¬ n=y.next:=by omega
  refine⟨?_,?_,?_⟩
  ·show aM (aI y.kinds (Sum.inl y.next) (.str k.str)) _=none
   rw[bo,if_neg (fS ne)]; exact a
  ·show aM (if k=.bell then aI y.notes (Sum.inl y.next) (.int note) else y.notes) _=none
   split
   ·rw[bo,if_neg (fS ne)]; exact b
   ·exact b
  ·show aM (if k.point=true then aI y.rods (Sum.inl y.next) (if rod=.non then .int y.sides.length else rod) else y.rods) _=none
   split
   ·rw[bo,if_neg (fS ne)]; exact c
   ·exact c
 ·show(if k=.bell then aI y.notes (Sum.inl y.next) (.int note) else y.notes).length<=_
  have:=bb y.notes (Sum.inl y.next) (.int note)
  split <;> omega
 ·show(if k.point=true then aI y.rods (Sum.inl y.next) (if rod=.non then .int y.sides.length else rod) else y.rods).length<=_
  have:=bb y.rods (Sum.inl y.next) (if rod=.non then .int y.sides.length else rod)
  split <;> omega
 ·show(if k.point=true/\rod=.non then y.sides++[.int 1] else y.sides).length<=_
  split
  ·rw[length_append,length_singleton]; omega
  ·omega
theorem Fr.lay {y:YR}{N M R:Nat} (h:Ld y N M R) (k:Kd) (note:Int) (rod:V) {x:Int×Int} (f:Fr y x):Fr (bC y k note rod) x:=by
 have lt:=h.lt f.1
 obtain⟨⟨k',hk,e⟩,m⟩:=f
 refine⟨⟨k',?_,e⟩,m⟩
 show aM (aI y.kinds (Sum.inl y.next) (.str k.str)) _=_
 rw[bo,if_neg (fS (by rw[h.nx]; omega))]
 exact hk
theorem Fr.new {y:YR}{N M R:Nat} (h:Ld y N M R) (k:Kd) (note:Int) (rod:V) {e:Int} (e0:0<=e) (e1:e<k.many):Fr (bC y k note rod) ((N:Int),e):=by
 refine⟨⟨k,?_,e0,e1⟩,h.mt _ _ (Int.le_refl _)⟩
 show aM (aI y.kinds (Sum.inl y.next) (.str k.str)) _=_
 rw[bo,if_pos (by rw[h.nx])]
noncomputable def cV (y:YR) (a b:Pr):YR:={ y with mates:=aI (aI y.mates (kE a.2.1 a.2.2) (.ref b.1)) (kE b.2.1 b.2.2) (.ref a.1),trail:=[] }
theorem Ld.link {y:YR}{N M R:Nat} (h:Ld y N M R) {a b:Pr} (fa:Fr y a.2) (fb:Fr y b.2):Ld (cV y a b) N (M+2) R:=by
 have la:=h.lt fa.1; have lb:=h.lt fb.1
 refine⟨h.nx,h.kl,h.fr,fun n e hn=>?_,h.nl,h.rl,h.sl,?_,h.g,U⟩
 ·show aM (aI (aI y.mates (kE a.2.1 a.2.2) (.ref b.1)) (kE b.2.1 b.2.2) (.ref a.1)) _=none
  rw[bo,if_neg (fun c=>by cases cY c; omega),bo,if_neg (fun c=>by cases cY c; omega)]
  exact h.mt n e hn
 ·show(aI (aI y.mates (kE a.2.1 a.2.2) (.ref b.1)) (kE b.2.1 b.2.2) (.ref a.1)).length<=_
  have a1:=bb y.mates (kE a.2.1 a.2.2) (.ref b.1)
  have a2:=bb (aI y.mates (kE a.2.1 a.2.2) (.ref b.1)) (kE b.2.1 b.2.2) (.ref a.1)
  have:=h.ml
  omega
theorem Fr.link {y:YR}{a b:Pr}{x:Int×Int} (f:Fr y x) (ha:x≠a.2) (hb:x≠b.2):Fr (cV y a b) x:=by
 refine⟨f.1,?_⟩
 show aM (aI (aI y.mates (kE a.2.1 a.2.2) (.ref b.1)) (kE b.2.1 b.2.2) (.ref a.1)) _=none
 rw[bo,if_neg (fun c=>hb (cY c)),bo,if_neg (fun c=>ha (cY c))]
 exact f.2
theorem Fr.ne {y:YR}{N M R:Nat} (h:Ld y N M R) {x:Int×Int} (f:Fr y x) {e:Int}:x≠((N:Int),e):=fun c=>by
 have:=h.lt f.1
 rw[c] at this
 exact absurd this (Int.lt_irrefl _)
structure Up (y y':YR):Prop where
 k:∀ n v,aM y.kinds n=some v->aM y'.kinds n=some v
 n:∀ n v,aM y.notes n=some v->aM y'.notes n=some v
 r:∀ n v,aM y.rods n=some v->aM y'.rods n=some v
 m:∀ n v,aM y.mates n=some v->aM y'.mates n=some v
 s:y.sides <+: y'.sides
 e:y'.eng=y.eng
theorem Up.refl (y:YR):Up y y:=⟨fun _ _ h=>h,fun _ _ h=>h,fun _ _ h=>h,fun _ _ h=>h,List.prefix_refl _,U⟩
theorem Up.trans {a b c:YR} (h:Up a b) (g:Up b c):Up a c:=⟨fun n v x=>g.k n v (h.k n v x),fun n v x=>g.n n v (h.n n v x),fun n v x=>g.r n v (h.r n v x),fun n v x=>g.m n v (h.m n v x),h.s.trans g.s,g.e.trans h.e⟩
theorem Up.sl {y y':YR} (h:Up y y'):y.sides.length<=y'.sides.length:=h.s.length_le
theorem Ld.up {y:YR}{N M R:Nat} (h:Ld y N M R) (k:Kd) (note:Int) (rod:V):Up y (bC y k note rod):=by
 obtain⟨f1,f2,f3⟩:=h.fr y.next (Int.le_refl _)
 have pk:∀ {kvs:List (Key×V)}{x:V}{n:Key}{v:V},aM kvs (Sum.inl y.next)=none->aM kvs n=some v->aM (aI kvs (Sum.inl y.next) x) n=some v:=fun {kvs x n v} a b=>by
  rw[bo,if_neg (fun c=>by rw[c,a] at b; cases b)]; exact b
 refine⟨fun n v hv=>pk f1 hv,fun n v hv=>?_,fun n v hv=>?_,fun _ _ h=>h,?_,U⟩
 ·show aM (if k=.bell then aI y.notes (Sum.inl y.next) (.int note) else y.notes) _=_
  split
  ·exact pk f2 hv
  ·exact hv
 ·show aM (if k.point=true then aI y.rods (Sum.inl y.next) (if rod=.non then .int y.sides.length else rod) else y.rods) _=_
  split
  ·exact pk f3 hv
  ·exact hv
 ·show y.sides <+: (if k.point=true/\rod=.non then y.sides++[.int 1] else y.sides)
  split
  ·exact List.prefix_append _ _
  ·exact List.prefix_refl _
theorem Up.link {y:YR}{a b:Pr} (fa:Fr y a.2) (fb:Fr y b.2):Up y (cV y a b):=by
 refine⟨fun _ _ h=>h,fun _ _ h=>h,fun _ _ h=>h,fun n v hv=>?_,List.prefix_refl _,U⟩
 show aM (aI (aI y.mates (kE a.2.1 a.2.2) (.ref b.1)) (kE b.2.1 b.2.2) (.ref a.1)) n=_
 rw[bo,if_neg (fun c=>by rw[c,fb.2] at hv; cases hv),bo,if_neg (fun c=>by rw[c,fa.2] at hv; cases hv)]
 exact hv
noncomputable def YIn (C:Addr) (H:Hp) (p:Addr) (y:YR) (L:Kn):Prop:=∃ A:YA,A.p=p/\Has H (yL C A y++L)
section
variable {C:Addr}{H:Hp}{p:Addr}{y:YR}{L:Kn}{N M R:Nat}{Q:V->Hp->Prop}
theorem YIn.at_ (Y:YIn C H p y L) {z:Addr×HO} (m:z ∈ L):H z.1=some z.2:=by
 obtain⟨A,_,h⟩:=Y
 exact h.at_ _ (mem_append_right _ m)
theorem YIn.obj (Y:YIn C H p y L):∃ A:YA,H p=some (.ins C A.dx (fl A y.next y.eng)):=by
 obtain⟨A,rfl,h⟩:=Y
 exact⟨A,h.get 1 U⟩
theorem YIn.alloc (Y:YIn C H p y L) {a:Addr} (n:H a=none) (o:HO):YIn C (upd H a o) p y ((a,o)::L):=by
 obtain⟨A,e,h⟩:=Y
 exact⟨A,e,(h.alloc n o).perm (List.perm_middle (l₁:=yL C A y) (l₂:=L)).symm⟩
theorem YIn.perm {L':Kn} (Y:YIn C H p y L) (e:L.Perm L'):YIn C H p y L':=by
 obtain⟨A,e1,h⟩:=Y
 exact⟨A,e1,h.perm (List.Perm.append_left _ e)⟩
theorem YIn.sub {L':Kn} (Y:YIn C H p y L) (e:L'.Sublist L):YIn C H p y L':=by
 obtain⟨A,e1,h⟩:=Y
 exact⟨A,e1,h.sub (List.Sublist.append (List.Sublist.refl _) e)⟩
theorem YIn.put0 {a:Addr}{o:HO} (Y:YIn C H p y ((a,o)::L)) (o':HO):YIn C (upd H a o') p y ((a,o')::L):=by
 obtain⟨A,e,h⟩:=Y
 exact⟨A,e,((h.perm (List.perm_middle (l₁:=yL C A y) (l₂:=L))).puti 0 U o').perm (List.perm_middle (l₁:=yL C A y) (l₂:=L)).symm⟩
theorem cut2 (a b:V) (r:List V):bU (a::b::r) (some 2) none=r:=by
 unfold bU HT.sIx
 simp
theorem tn0 {σ:St}{H:Hp}{Q:List V->Hp->Prop} (h:Q [] H):f9 σ H Q:=h
theorem tc1 {c:V}{σ:St}{H:Hp}{Q:List V->Hp->Prop} (h:Q [c] H):gf (tC c) f9 σ H Q:=h
theorem bH (Y:YIn C H p y L) (D:Ld y N M R) (b:N<=9000/\M<=30000/\R<=1000) (k:Kd) (note:Int) (rod:V) (hn:k=.bell->0<=note/\note<=9999)
  (hr:k.point=true->rod≠.non->∃ r:Int,rod=.int r/\0<=r/\r<y.sides.length) (q:∀ H',YIn C H' p (bC y k note rod) L->Q (.int N) H'):jI C [.ref p,.str k.str,.int note,rod] H Q E0:=by
 obtain⟨A,rfl,h⟩:=Y
 refine⟨A,y,L,k,note,rod,U,h,D.small b.1 b.2.1 b.2.2,hn,hr,fun H' tr h'=>?_⟩
 rw[D.nx]
 exact q H' ⟨{ A with tr:=tr },U,h'⟩
theorem bA (Y:YIn C H p y L) (D:Ld y N M R) (hM:M<=30000) {a b:Pr} (ma:pK2 a ∈ L) (mb:pK2 b ∈ L) (fa:Fr y a.2) (fb:Fr y b.2) (ne:a.2≠b.2) (q:∀ H',YIn C H' p (cV y a b) L->Q .non H') :
  il C [.ref p,.ref a.1,.ref b.1] H Q E0:=by
 obtain⟨A,rfl,h⟩:=Y
 obtain⟨j1,e1⟩:=List.getElem?_of_mem ma
 obtain⟨j2,e2⟩:=List.getElem?_of_mem mb
 exact⟨A,y,L,a.1,b.1,a.2.1,a.2.2,b.2.1,b.2.2,j1,j2,U,h,e1,e2,fa.1,fb.1,fun c=>ne (cY c),fa.2,fb.2,Nat.le_trans D.ml hM,fun H' tr h'=>q H' ⟨{ A with tr:=tr },U,h'⟩⟩
end
noncomputable def gi (C:Addr):Sp:=fun vs H Q _=>∃ (p:Addr) (y:YR) (L:Kn) (lo:Addr) (zs:List Pr) (z:Pr) (N M R:Nat),vs=[.ref p,.ref lo,.ref z.1]/\YIn C H p y L/\(lo,HO.lst (prV zs)) ∈ L/\(∀ x ∈ zs,pK2 x ∈ L)/\pK2 z ∈ L /\
 Ld y N M R/\(zs.map (·.2)).Nodup/\z.2 ∉ zs.map (·.2)/\(∀ x ∈ zs,Fr y x.2)/\Fr y z.2/\N+zs.length<=8000/\M+4*zs.length<=29000/\R<=1000 /\
 ∀ H' y' Nw M',Ld y' (N+(zs.length - 1)) M' R->M'<=M+4*zs.length->Up y y'->(∀ x,Fr y x->x ∉ zs.map (·.2)->x≠z.2->Fr y' x)->YIn C H' p y' (Nw++L)->Q .non H'
section
variable {P:Program}{w:World}{K:PySem.W.Frag}{mg:Str->Option Value}{base:Heap}{t:Adr}
theorem scMe:FnScope ["yard","outs","end","waiting","point"] ["yard","outs","end"] (ai iw):={}
theorem cI (T:Txt K mg t):FnOk P w K mg base CX0 5 t.f_merge t.d_merge ["yard","outs","end"] (gi t.c_Yard):=by
 obtain⟨ds_l2,hd_J21_2,hb_J21_2⟩:=bP T
 refine T.F_merge.ok scMe (fun vs H Q E h=>?_) (fun cdv A outer s H vs Q E hr h=>?_)
 ·obtain⟨_,_,_,_,_,_,_,_,_,rfl,_⟩:=h
  rfl
 ·obtain⟨p,y,L,lo,zs,z,N,M,R,rfl,Y,mlo,mzs,mz,D,nd,nz,fz,fe,bN,bM,bR,q⟩:=h
  refine⟨_,(ae (aG (fM (cE (pv 1) (by intro _; rfl)))
    (ah iA)
    au)
   (ae (ar (i:=3) scMe.nd rfl (Or.inl rfl) (aW bc (by rfl) T.z_list (by rfl) (aa (pv 1) af)))
   (ae (dP PassesOwn.never (aj cf (aK az (by rfl) T.z_len (by rfl) (aa (pv 3) af)) ag (ap _))
    (ae (ar (i:=4) scMe.nd rfl (Or.inl rfl) (aA (pv 0) T.cl_Yard T.M_J21 (bG T) hr hb_J21_2 hd_J21_2 aB (aa aF af)))
     (ae (ak (aA (pv 0) T.cl_Yard T.M_Jw (cg T) hr (eL T) .nil aB (@aa _ _ _ _ _ (aC ay (pv 3) ag) (@aa _ _ _ _ _ (aq (aa (pv 4) (aa ag af))) af (by rfl)) (by rfl))))
     (ae (ak (aA (pv 0) T.cl_Yard T.M_Jw (cg T) hr (eL T) .nil aB (@aa _ _ _ _ _ (aC ay (pv 3) ag) (@aa _ _ _ _ _ (aq (aa (pv 4) (aa ag af))) af (by rfl)) (by rfl))))
     (ah (ar (i:=3) scMe.nd rfl (Or.inl rfl) (ao iC (ce dv (pv 3) (cF ag) cG) (aR (@aa _ _ _ _ _ (aq (aa (pv 4) (aa ag af))) af (by rfl))))))))))
   (ah (ak (aA (pv 0) T.cl_Yard T.M_Jw (cg T) hr (eL T) .nil aB (aa (aC ay (pv 3) ag) (aa (pv 2) af)))))))),?_⟩
  rw[show L2.start ["yard","outs","end","waiting","point"] [V.ref p,V.ref lo,V.ref z.1]=([some (V.ref p),some (V.ref lo),some (V.ref z.1),none,none]:St) from rfl]
  cases zs with
  | nil=>
   refine⟨_,U,false,.inl ⟨_,SqL.of (Y.at_ mlo),U⟩,fT ?_⟩
   exact q _ y [] M D (by omega) (Up.refl _) (fun x h _ _=>h) Y
  | cons z0 zr=>
  refine⟨_,U,true,.inl ⟨_,SqL.of (Y.at_ mlo),U⟩,cZ ?_⟩
  refine⟨_,U,lo,_,U,.inl (SqL.of (Y.at_ mlo)),fun wl hwl=>?_⟩
  dsimp only[List.set]
  refine⟨fun m σ H'=>∃ (y':YR) (Nw:Kn) (wl:Addr) (ws:List Pr) (N' M':Nat) (o:Option V),m=ws.length/\σ=[some (.ref p),some (.ref lo),some (.ref z.1),some (.ref wl),o]/\YIn t.c_Yard H' p y' ((wl,.lst (prV ws))::(Nw++L))/\ws≠[]/\(∀ x ∈ ws,pK2 x ∈ Nw++L) /\
   Ld y' N' M' R/\N'+ws.length=N+(z0::zr).length/\M'+4*ws.length=M+4*(z0::zr).length/\(ws.map (·.2)).Nodup/\z.2 ∉ ws.map (·.2)/\(∀ x ∈ ws,Fr y' x.2)/\Fr y' z.2/\(∀ x,Fr y x->x ∉ (z0::zr).map (·.2)->x≠z.2->Fr y' x/\x ∉ ws.map (·.2))/\Up y y',
   ⟨_,y,[],wl,z0::zr,N,M,none,U,U,Y.alloc hwl _,(fun c=>nomatch c),mzs,D,U,U,nd,nz,fz,fe,fun x h1 h2 _=>⟨h1,h2⟩,Up.refl _⟩,?_⟩
  rintro m σ H1 ⟨y1,Nw,wl,ws,N1,M1,o,rfl,rfl,Y1,hne,mws,D1,eN,eM,nd1,nz1,fw,fe1,old,up⟩
  have gw:=Y1.at_ mem_cons_self
  refine⟨_,U,wl,_,U,.inl (SqL.of gw),_,_,U,U,_,U,?_⟩
  have lw:(prV ws).length=ws.length:=by unfold prV; rw[length_map]
  match ws,hne with
  | [a],_=>
   refine ifF (decide_eq_false (by rw[lw]; simp)) ?_
   obtain⟨A1,gy⟩:=Y1.obj
   refine⟨_,U,p,A1.dx,_,U,gy,(bS _ _ _).2.2.1,_,U,wl,_,_,_,U,U,SqL.of gw,aw (j:=0) rfl,_,U,?_⟩
   have fa:=fw a mem_cons_self
   have ne:a.2≠z.2:=fun c=>nz1 (by rw[<- c]; exact mem_cons_self)
   refine bA Y1 D1 (by simp at eM bM; omega) (mem_cons_of_mem _ (mws a mem_cons_self)) (mem_cons_of_mem _ (mem_append_right _ mz)) fa fe1 ne (fun H2 Y2=>?_)
   have D2:=D1.link fa fe1
   have e:N1=N+((z0::zr).length - 1):=by simp at eN ⊢; omega
   rw[e] at D2
   refine q H2 _ ((wl,.lst (prV [a]))::Nw) _ D2 (by simp at eM ⊢; omega) (up.trans (Up.link fa fe1)) (fun x h1 h2 h3=>?_) Y2
   obtain⟨h4,h5⟩:=old x h1 h2 h3
   exact h4.link (fun c=>h5 (by rw[c]; exact mem_cons_self)) h3
  | a::b::r,_=>
   refine ifT (decide_eq_true (by rw[lw]; simp; omega)) ?_
   refine⟨_,fun σ' H' h=>h,?_⟩
   obtain⟨A1,gy⟩:=Y1.obj
   simp only[length_cons] at eN eM bN bM
   refine⟨_,U,p,A1.dx,_,U,gy,(bT _ _ _).1,?_⟩
   refine tc1 ?_
   refine bH Y1 D1 ⟨by omega,by omega,bR⟩ .still 0 .non (fun c=>nomatch c) (fun _ c=>absurd rfl c) (fun H2 Y2=>?_)
   have D2:=D1.lay .still 0 .non
   have fa:=(fw a mem_cons_self).lay D1 .still 0 .non
   have fb:=(fw b (mem_cons_of_mem _ mem_cons_self)).lay D1 .still 0 .non
   have f0:Fr _ ((N1:Int),0):=Fr.new D1 .still 0 .non (Int.le_refl _) (by decide)
   have f1:Fr _ ((N1:Int),1):=Fr.new D1 .still 0 .non (by decide) (by decide)
   have f2:Fr _ ((N1:Int),2):=Fr.new D1 .still 0 .non (by decide) (by decide)
   have no:∀ x e,Fr y1 x->x≠((N1:Int),e):=fun x e h=>h.ne D1
   have old2:∀ x,Fr y1 x->Fr (bC y1 .still 0 .non) x:=fun x h=>h.lay D1 .still 0 .non
   have up2:=up.trans (D1.up .still 0 .non)
   obtain⟨y2,ey2⟩:∃ y2,bC y1 .still 0 .non=y2:=⟨_,U⟩
   rw[ey2] at up2 Y2 D2 fa fb f0 f1 f2 old2
   have mw:∀ x ∈ a::b::r,pK2 x ∈ (wl,HO.lst (prV (a::b::r)))::(Nw++L):=fun x hx=>mem_cons_of_mem _ (mws x hx)
   have ab:a.2≠b.2:=fun c=>(List.nodup_cons.mp nd1).1 (by show a.2 ∈ _; rw[c]; exact mem_cons_self)
   have na:=no _ 1 (fw a mem_cons_self)
   have n01:∀ i j:Int,i≠j->((N1:Int),i)≠((N1:Int),j):=fun i j h c=>h (by injection c)
   have ra:a.2 ∉ r.map (·.2):=fun h=>(List.nodup_cons.mp nd1).1 (mem_cons_of_mem _ h)
   have nd2:=(List.nodup_cons.mp nd1).2
   have rb:b.2 ∉ r.map (·.2):=(List.nodup_cons.mp nd2).1
   dsimp only[List.set]
   obtain⟨A2,gy2⟩:=Y2.obj
   have gw2:=Y2.at_ mem_cons_self
   refine⟨_,U,p,A2.dx,_,U,gy2,(bS _ _ _).2.2.1,_,U,wl,_,_,_,U,U,SqL.of gw2,aw (j:=0) rfl,_,U,(show 2<=sizeLine by decide),fun b1 hb1=>?_⟩
   have Y3:=Y2.alloc hb1 (.tup [.int N1,.int 1])
   refine tn0 ?_
   refine bA (b:=(b1,(N1:Int),1)) Y3 D2 (by omega) (mem_cons_of_mem _ (mw a mem_cons_self)) mem_cons_self fa f1 na (fun H4 Y4=>?_)
   have D4:=D2.link (b:=(b1,(N1:Int),1)) fa f1
   have fb4:=fb.link (a:=a) (b:=(b1,(N1:Int),1)) (fun c=>ab c.symm) (no _ 1 (fw b (mem_cons_of_mem _ mem_cons_self)))
   have f24:=f2.link (a:=a) (b:=(b1,(N1:Int),1)) (fun c=>no _ 2 (fw a mem_cons_self) c.symm) (n01 _ _ (by decide))
   have f04:=f0.link (a:=a) (b:=(b1,(N1:Int),1)) (fun c=>no _ 0 (fw a mem_cons_self) c.symm) (n01 _ _ (by decide))
   have old4:∀ x,Fr y1 x->x≠a.2->Fr (cV y2 a (b1,(N1:Int),1)) x:=fun x h1 h2=>(old2 x h1).link h2 (no x 1 h1)
   have up4:=up2.trans (Up.link (b:=(b1,(N1:Int),1)) fa f1)
   obtain⟨y4,ey4⟩:∃ y4,cV y2 a (b1,(N1:Int),1)=y4:=⟨_,U⟩
   rw[ey4] at up4 Y4 D4 fb4 f24 f04 old4
   obtain⟨A4,gy4⟩:=Y4.obj
   have gw4:=Y4.at_ (mem_cons_of_mem _ mem_cons_self)
   refine⟨_,U,p,A4.dx,_,U,gy4,(bS _ _ _).2.2.1,_,U,wl,_,_,_,U,U,SqL.of gw4,aw (j:=1) rfl,_,U,(show 2<=sizeLine by decide),fun b2 hb2=>?_⟩
   have Y5:=Y4.alloc hb2 (.tup [.int N1,.int 2])
   refine tn0 ?_
   refine bA (b:=(b2,(N1:Int),2)) Y5 D4 (by omega) (mem_cons_of_mem _ (mem_cons_of_mem _ (mw b (mem_cons_of_mem _ mem_cons_self)))) mem_cons_self fb4 f24 (no _ 2 (fw b (mem_cons_of_mem _ mem_cons_self))) (fun H6 Y6=>?_)
   have D6:=D4.link (b:=(b2,(N1:Int),2)) fb4 f24
   have f06:=f04.link (a:=b) (b:=(b2,(N1:Int),2)) (fun c=>no _ 0 (fw b (mem_cons_of_mem _ mem_cons_self)) c.symm) (n01 _ _ (by decide))
   have old6:∀ x,Fr y1 x->x≠a.2->x≠b.2->Fr (cV y4 b (b2,(N1:Int),2)) x:=fun x h1 h2 h3=>(old4 x h1 h2).link h3 (no x 2 h1)
   have up6:=up4.trans (Up.link (b:=(b2,(N1:Int),2)) fb4 f24)
   obtain⟨y6,ey6⟩:∃ y6,cV y4 b (b2,(N1:Int),2)=y6:=⟨_,U⟩
   rw[ey6] at up6 Y6 D6 f06 old6
   have gw6:=Y6.at_ (mem_cons_of_mem _ (mem_cons_of_mem _ mem_cons_self))
   refine⟨_,U,_,U,wl,_,U,SqL.of gw6,fun c1 hc1=>?_⟩
   have e2:bU (prV (a::b::r)) (some 2) none=prV r:=cut2 _ _ _
   rw[e2]
   have Y7:=Y6.alloc hc1 (.lst (prV r))
   refine⟨_,U,(show 2<=sizeLine by decide),fun b3 hb3=>?_⟩
   have Y8:=Y7.alloc hb3 (.tup [.int N1,.int 0])
   refine⟨(sz_ 1),fun c2 hc2=>?_⟩
   have Y9:=Y8.alloc hc2 (.lst [.ref b3])
   refine⟨c1,c2,_,_,U,U,SqL.of (Y9.at_ (mem_cons_of_mem _ (mem_cons_of_mem _ mem_cons_self))),SqL.of (Y9.at_ mem_cons_self),sz (show _<=1000000 by unfold prV; rw[length_map,length_singleton]; omega),fun w2 hw2=>?_⟩
   have Y10:=Y9.alloc hw2 (.lst (prV r++[.ref b3]))
   have er:prV r++[.ref b3]=prV (r++[(b3,(N1:Int),0)]):=by unfold prV; rw[map_append]; rfl
   have em:(r++[(b3,(N1:Int),0)]).map (fun x:Pr=>x.2)=r.map (·.2)++[((N1:Int),0)]:=by rw[map_append]; rfl
   have n0r:((N1:Int),0) ∉ r.map (·.2):=fun h=>by
    obtain⟨x,hx,e⟩:=mem_map.mp h
    exact no x.2 0 (fw x (mem_cons_of_mem _ (mem_cons_of_mem _ hx))) e
   rw[er] at Y10 ⊢
   refine⟨(r++[(b3,(N1:Int),0)]).length,by simp,y6,(c2,.lst [.ref b3])::(b3,.tup [.int N1,.int 0])::(c1,.lst (prV r))::(b2,.tup [.int N1,.int 2])::(b1,.tup [.int N1,.int 1])::(wl,.lst (prV (a::b::r)))::Nw,w2,r++[(b3,(N1:Int),0)],N1+1,M1+2+2,_,U,U,Y10,?_,?_,D6,by simp at eN ⊢; omega,by simp at eM ⊢; omega,?_,?_,?_,?_,?_,up6⟩
   ·exact fun c=>by simp at c
   ·intro x hx
    rcases mem_append.mp hx with hx | hx
    ·simp only[List.cons_append]
     exact mem_cons_of_mem _ (mem_cons_of_mem _ (mem_cons_of_mem _ (mem_cons_of_mem _ (mem_cons_of_mem _ (mem_cons_of_mem _ (mws x (mem_cons_of_mem _ (mem_cons_of_mem _ hx))))))))
    ·cases mem_singleton.mp hx
     exact mem_append_left _ (mem_cons_of_mem _ mem_cons_self)
   ·rw[em]
    exact List.nodup_append.mpr ⟨(List.nodup_cons.mp nd2).2,by simp,fun x hx y hy e=>n0r (by rw[<- mem_singleton.mp hy,<- e]; exact hx)⟩
   ·rw[em]
    intro h
    rcases mem_append.mp h with h | h
    ·exact nz1 (mem_cons_of_mem _ (mem_cons_of_mem _ h))
    ·exact no _ 0 fe1 (mem_singleton.mp h)
   ·intro x hx
    rcases mem_append.mp hx with hx | hx
    ·have:=mem_map_of_mem (f:=fun x:Pr=>x.2) hx
     exact old6 _ (fw x (mem_cons_of_mem _ (mem_cons_of_mem _ hx))) (fun c=>ra (by rw[<- c]; exact this)) (fun c=>rb (by rw[<- c]; exact this))
    ·cases mem_singleton.mp hx
     exact f06
   ·exact old6 _ fe1 (fun c=>nz1 (by rw[c]; exact mem_cons_self)) (fun c=>nz1 (by rw[c]; exact mem_cons_of_mem _ mem_cons_self))
   ·intro x h1 h2 h3
    obtain⟨h4,h5⟩:=old x h1 h2 h3
    refine⟨old6 x h4 (fun c=>h5 (by rw[c]; exact mem_cons_self)) (fun c=>h5 (by rw[c]; exact mem_cons_of_mem _ mem_cons_self)),?_⟩
    rw[em]
    intro h
    rcases mem_append.mp h with h | h
    ·exact h5 (mem_cons_of_mem _ (mem_cons_of_mem _ h))
    ·exact no _ 0 h4 (mem_singleton.mp h)
end
noncomputable def nI (C:Addr):Sp:=fun vs H Q _=>∃ (p:Addr) (y:YR) (L:Kn) (N M R:Nat),vs=[.ref p]/\YIn C H p y L/\Ld y N M R/\N<=8000/\M<=29000/\R<=1000 /\
 ∀ H' tp b0 b2 b1,YIn C H' p (bC y .still 0 .non) ((tp,.tup [.ref b0,.ref b2,.ref b1])::pK2 (b1,(N:Int),1)::pK2 (b2,(N:Int),2)::pK2 (b0,(N:Int),0)::L)->Q (.ref tp) H'
noncomputable def nE (C:Addr):Sp:=fun vs H Q _=>∃ (p:Addr) (y:YR) (L:Kn) (N M R m:Nat),vs=[.ref p,.int m]/\YIn C H p y L/\Ld y N M R/\1<=m/\N+m<=8000/\M+2*m<=29000/\R<=1000 /\
 ∀ H' y' Nw tp b0 lv (zs:List Pr) M',zs.length=m->Ld y' (N+m) M' R->M'<=M+2*m->Up y y'->(∀ x,Fr y x->Fr y' x)->Fr y' ((N:Int),0)->((N:Int),0) ∉ zs.map (·.2)->(zs.map (·.2)).Nodup->(∀ x ∈ zs,Fr y' x.2/\(N:Int)<=x.2.1/\pK2 x ∈ Nw)->pK2 (b0,(N:Int),0) ∈ Nw ->
  YIn C H' p y' ((tp,.tup [.ref b0,.ref lv])::(lv,.lst (prV zs))::(Nw++L))->Q (.ref tp) H'
noncomputable def jD (C:Addr):Sp:=fun vs H Q _=>∃ (p:Addr) (y:YR) (L:Kn) (rl:Addr) (rs:List Int) (N M R:Nat),vs=[.ref p,.ref rl]/\YIn C H p y L/\(rl,HO.lst (rs.map V.int)) ∈ L/\(∀ r ∈ rs,0<=r/\r<y.sides.length)/\rs≠[]/\Ld y N M R/\N+2*rs.length<=7000/\M+6*rs.length<=28000/\R<=1000 /\
 ∀ H' y' Nw tp (a b c:Pr) M',Ld y' (N+(2*rs.length+1)) M' R->M'<=M+6*rs.length->Up y y'->(∀ x,Fr y x->Fr y' x)->Fr y' a.2->Fr y' b.2->Fr y' c.2->a.2≠b.2->a.2≠c.2->b.2≠c.2->(N:Int)<=a.2.1->(N:Int)<=b.2.1->(N:Int)<=c.2.1->pK2 a ∈ Nw->pK2 b ∈ Nw->pK2 c ∈ Nw ->
  YIn C H' p y' ((tp,.tup [.ref a.1,.ref b.1,.ref c.1])::(Nw++L))->Q (.ref tp) H'
theorem cut1 (a:V) (r:List V):bU (a::r) (some 1) none=r:=by
 unfold bU HT.sIx
 simp
theorem dY {N:Int}{i j:Int} (h:i≠j):(N,i)≠(N,j):=fun c=>h (by injection c)
section
variable {P:Program}{w:World}{K:PySem.W.Frag}{mg:Str->Option Value}{base:Heap}{t:Adr}
theorem scDw:FnScope ["yard","point"] ["yard"] (ai mM):={}
theorem oy (T:Txt K mg t):FnOk P w K mg base CX0 5 t.f_J51 t.d_J51 ["yard"] (nI t.c_Yard):=by
 obtain⟨ds_l2,hd_J21_2,hb_J21_2⟩:=bP T
 refine T.F_J51.ok scDw (fun vs H Q E h=>?_) (fun cdv A outer s H vs Q E hr h=>?_)
 ·obtain⟨_,_,_,_,_,_,rfl,_⟩:=h
  rfl
 ·obtain⟨p,y,L,N,M,R,rfl,Y,D,bN,bM,bR,q⟩:=h
  refine⟨_,(ae (ar (i:=1) scDw.nd rfl (Or.inl rfl) (aA (pv 0) T.cl_Yard T.M_J21 (bG T) hr hb_J21_2 hd_J21_2 aB (aa aF af)))
   (ah (aH (aq (@aa _ _ _ _ _ (aq (aa (pv 1) (aa ag af))) (@aa _ _ _ _ _ (aq (aa (pv 1) (aa ag af))) (@aa _ _ _ _ _ (aq (aa (pv 1) (aa ag af))) af (by rfl)) (by rfl)) (by rfl)))))),?_⟩
  rw[show L2.start ["yard","point"] [V.ref p]=([some (V.ref p),none]:St) from rfl]
  obtain⟨A1,gy⟩:=Y.obj
  refine⟨_,U,p,A1.dx,_,U,gy,(bT _ _ _).1,?_⟩
  refine tc1 ?_
  refine bH Y D ⟨by omega,by omega,bR⟩ .still 0 .non (fun c=>nomatch c) (fun _ c=>absurd rfl c) (fun H2 Y2=>?_)
  dsimp only[List.set]
  refine⟨_,U,(show 2<=sizeLine by decide),fun b0 hb0=>?_⟩
  have Y3:=Y2.alloc hb0 (.tup [.int N,.int 0])
  refine⟨_,U,(show 2<=sizeLine by decide),fun b2 hb2=>?_⟩
  have Y4:=Y3.alloc hb2 (.tup [.int N,.int 2])
  refine⟨_,U,(show 2<=sizeLine by decide),fun b1 hb1=>?_⟩
  have Y5:=Y4.alloc hb1 (.tup [.int N,.int 1])
  refine⟨(show 3<=sizeLine by decide),fun tp htp=>?_⟩
  exact q _ tp b0 b2 b1 (Y5.alloc htp _)
theorem scFn:FnScope ["yard","many","line","leaves","point"] ["yard","many"] (ai mI):={}
theorem oq (T:Txt K mg t):FnOk P w K mg base CX0 5 t.f_fan t.d_fan ["yard","many"] (nE t.c_Yard):=by
 obtain⟨ds_l2,hd_J21_2,hb_J21_2⟩:=bP T
 refine T.F_fan.ok scFn (fun vs H Q E h=>?_) (fun cdv A outer s H vs Q E hr h=>?_)
 ·obtain⟨_,_,_,_,_,_,_,rfl,_⟩:=h
  rfl
 ·obtain⟨p,y,L,N,M,R,m,rfl,Y,D,hm,bN,bM,bR,q⟩:=h
  refine⟨_,(ae (aG (aj bF (pv 1) ag (ap _))
    (ah aQ)
    au)
   (ae (ar (i:=2) scFn.nd rfl (Or.inl rfl) (aA (pv 0) T.cl_Yard T.M_J21 (bG T) hr hb_J21_2 hd_J21_2 aB (aa aF af)))
   (ae (ar (i:=3) scFn.nd rfl (Or.inl rfl) (aR (@aa _ _ _ _ _ (aq (aa (pv 2) (aa ag af))) af (by rfl))))
   (ae (dP PassesOwn.never (aj bF (aK az (by rfl) T.z_len (by rfl) (aa (pv 3) af)) (pv 1) (ap _))
    (ae (ar (i:=4) scFn.nd rfl (Or.inl rfl) (aA (pv 0) T.cl_Yard T.M_J21 (bG T) hr hb_J21_2 hd_J21_2 aB (aa aF af)))
     (ae (ak (aA (pv 0) T.cl_Yard T.M_Jw (cg T) hr (eL T) .nil aB (@aa _ _ _ _ _ (aC ay (pv 3) ag) (@aa _ _ _ _ _ (aq (aa (pv 4) (aa ag af))) af (by rfl)) (by rfl))))
     (ah (ar (i:=3) scFn.nd rfl (Or.inl rfl) (ao iC (ce dv (pv 3) (cF ag) cG) (aR (@aa _ _ _ _ _ (aq (aa (pv 4) (aa ag af))) (@aa _ _ _ _ _ (aq (aa (pv 4) (aa ag af))) af (by rfl)) (by rfl)))))))))
   (ah (aH (aq (@aa _ _ _ _ _ (aq (aa (pv 2) (aa ag af))) (@aa _ _ _ _ _ (pv 3) af (by rfl)) (by rfl))))))))),?_⟩
  rw[show L2.start ["yard","many","line","leaves","point"] [V.ref p,V.int m]=([some (V.ref p),some (V.int m),none,none,none]:St) from rfl]
  refine⟨_,U,_,_,U,U,_,U,ifF (decide_eq_false (by omega)) ?_⟩
  obtain⟨A1,gy⟩:=Y.obj
  refine⟨_,U,p,A1.dx,_,U,gy,(bT _ _ _).1,?_⟩
  refine tc1 ?_
  refine bH Y D ⟨by omega,by omega,bR⟩ .line 0 .non (fun c=>nomatch c) (fun _ c=>absurd rfl c) (fun H2 Y2=>?_)
  dsimp only[List.set]
  refine⟨_,U,(show 2<=sizeLine by decide),fun b1 hb1=>?_⟩
  have Y3:=Y2.alloc hb1 (.tup [.int N,.int 1])
  refine⟨(sz_ 1),fun lv hlv=>?_⟩
  have Y4:=Y3.alloc hlv (.lst (prV [(b1,(N:Int),1)]))
  dsimp only[List.set]
  have f0:Fr _ ((N:Int),0):=Fr.new D .line 0 .non (Int.le_refl _) (by decide)
  have f1:Fr _ ((N:Int),1):=Fr.new D .line 0 .non (by decide) (by decide)
  refine⟨fun k σ H'=>∃ (y':YR) (Nw:Kn) (lv:Addr) (zs:List Pr) (M':Nat) (o:Option V),k=m - zs.length/\σ=[some (.ref p),some (.int m),some (.int N),some (.ref lv),o]/\YIn t.c_Yard H' p y' ((lv,.lst (prV zs))::(Nw++L))/\1<=zs.length/\zs.length<=m /\
   Ld y' (N+zs.length) M' R/\M'<=M+2*zs.length/\Up y y'/\(∀ x,Fr y x->Fr y' x)/\Fr y' ((N:Int),0)/\((N:Int),0) ∉ zs.map (·.2)/\(zs.map (·.2)).Nodup/\(∀ x ∈ zs,Fr y' x.2/\(N:Int)<=x.2.1/\pK2 x ∈ Nw),
   ⟨_,_,[pK2 (b1,(N:Int),1)],lv,[(b1,(N:Int),1)],M,none,U,U,Y4,Nat.le_refl _,hm,D.lay .line 0 .non,by omega,D.up .line 0 .non,fun x h=>h.lay D .line 0 .non,f0,fun h=>dY (by decide) (mem_singleton.mp h),by simp,fun x hx=>by cases mem_singleton.mp hx; exact⟨f1,Int.le_refl _,mem_cons_self⟩⟩,?_⟩
  rintro k σ H1 ⟨y1,Nw,lv,zs,M1,o,rfl,rfl,Y1,h1,h2,D1,bM1,up,old,f0,n0,nd,fz⟩
  have gw:=Y1.at_ mem_cons_self
  have lw:(prV zs).length=zs.length:=by unfold prV; rw[length_map]
  refine⟨_,U,lv,_,U,.inl (SqL.of gw),_,U,_,_,U,U,_,U,?_⟩
  rw[lw]
  refine ifd (fun hc=>?_) (fun hc=>?_)
  ·refine⟨_,fun σ' H' h=>h,?_⟩
   match zs,h1 with
   | a::r,_=>
   simp only[length_cons] at h2 D1 bM1 hc
   obtain⟨A1,gy⟩:=Y1.obj
   refine⟨_,U,p,A1.dx,_,U,gy,(bT _ _ _).1,?_⟩
   refine tc1 ?_
   refine bH Y1 D1 ⟨by omega,by omega,bR⟩ .lazy 0 .non (fun c=>nomatch c) (fun _ c=>absurd rfl c) (fun H2 Y2=>?_)
   obtain⟨n,en⟩:∃ n:Nat,N+(r.length+1)=n:=⟨_,U⟩
   rw[en] at D1 ⊢
   have no:∀ x e,Fr y1 x->x≠((n:Int),e):=fun x e h=>h.ne D1
   have D2:=D1.lay .lazy 0 .non
   obtain⟨fa,na,ma⟩:=fz a mem_cons_self
   have fa2:=fa.lay D1 .lazy 0 .non
   have g0:Fr _ ((n:Int),0):=Fr.new D1 .lazy 0 .non (Int.le_refl _) (by decide)
   have g1:Fr _ ((n:Int),1):=Fr.new D1 .lazy 0 .non (by decide) (by decide)
   have g2:Fr _ ((n:Int),2):=Fr.new D1 .lazy 0 .non (by decide) (by decide)
   have old2:∀ x,Fr y1 x->Fr (bC y1 .lazy 0 .non) x:=fun x h=>h.lay D1 .lazy 0 .non
   have up2:=up.trans (D1.up .lazy 0 .non)
   obtain⟨y2,ey2⟩:∃ y2,bC y1 .lazy 0 .non=y2:=⟨_,U⟩
   rw[ey2] at up2 Y2 D2 fa2 g0 g1 g2 old2
   dsimp only[List.set]
   obtain⟨A2,gy2⟩:=Y2.obj
   refine⟨_,U,p,A2.dx,_,U,gy2,(bS _ _ _).2.2.1,_,U,lv,_,_,_,U,U,SqL.of (Y2.at_ mem_cons_self),aw (j:=0) rfl,_,U,(show 2<=sizeLine by decide),fun c0 hc0=>?_⟩
   have Y3:=Y2.alloc hc0 (.tup [.int n,.int 0])
   refine tn0 ?_
   refine bA (b:=(c0,(n:Int),0)) Y3 D2 (by omega) (mem_cons_of_mem _ (mem_cons_of_mem _ (mem_append_left _ ma))) mem_cons_self fa2 g0 (no _ _ fa) (fun H4 Y4=>?_)
   have D4:=D2.link (b:=(c0,(n:Int),0)) fa2 g0
   have g14:=g1.link (a:=a) (b:=(c0,(n:Int),0)) (fun c=>no _ 1 fa c.symm) (dY (by decide))
   have g24:=g2.link (a:=a) (b:=(c0,(n:Int),0)) (fun c=>no _ 2 fa c.symm) (dY (by decide))
   have old4:∀ x,Fr y1 x->x≠a.2->Fr (cV y2 a (c0,(n:Int),0)) x:=fun x h1 h2=>(old2 x h1).link h2 (no x 0 h1)
   have up4:=up2.trans (Up.link (b:=(c0,(n:Int),0)) fa2 g0)
   obtain⟨y4,ey4⟩:∃ y4,cV y2 a (c0,(n:Int),0)=y4:=⟨_,U⟩
   rw[ey4] at up4 Y4 D4 g14 g24 old4
   refine⟨_,U,_,U,lv,_,U,SqL.of (Y4.at_ (mem_cons_of_mem _ mem_cons_self)),fun d1 hd1=>?_⟩
   have e2:bU (prV (a::r)) (some 1) none=prV r:=cut1 _ _
   rw[e2]
   have Y5:=Y4.alloc hd1 (.lst (prV r))
   refine⟨_,U,(show 2<=sizeLine by decide),fun c1 hc1=>?_⟩
   have Y6:=Y5.alloc hc1 (.tup [.int n,.int 1])
   refine⟨_,U,(show 2<=sizeLine by decide),fun c2 hc2=>?_⟩
   have Y7:=Y6.alloc hc2 (.tup [.int n,.int 2])
   refine⟨(sz_ 2),fun d2 hd2=>?_⟩
   have Y8:=Y7.alloc hd2 (.lst [.ref c1,.ref c2])
   refine⟨d1,d2,_,_,U,U,SqL.of (Y8.at_ (mem_cons_of_mem _ (mem_cons_of_mem _ (mem_cons_of_mem _ mem_cons_self)))),SqL.of (Y8.at_ mem_cons_self),sz (show _<=1000000 by unfold prV; rw[length_map,length_cons,length_singleton]; omega),fun w2 hw2=>?_⟩
   have Y9:=Y8.alloc hw2 (.lst (prV r++[.ref c1,.ref c2]))
   have er:prV r++[.ref c1,.ref c2]=prV (r++[(c1,(n:Int),1),(c2,(n:Int),2)]):=by unfold prV; rw[map_append]; rfl
   have em:(r++[(c1,(n:Int),1),(c2,(n:Int),2)]).map (fun x:Pr=>x.2)=r.map (·.2)++[((n:Int),1),((n:Int),2)]:=by rw[map_append]; rfl
   have nr:∀ e:Int,((n:Int),e) ∉ r.map (·.2):=fun e h=>by
    obtain⟨x,hx,e'⟩:=mem_map.mp h
    exact no x.2 e (fz x (mem_cons_of_mem _ hx)).1 e'
   have nd':=List.nodup_cons.mp nd
   rw[er] at Y9 ⊢
   refine⟨m - (r++[(c1,(n:Int),1),(c2,(n:Int),2)]).length,by simp; omega,y4,(d2,.lst [.ref c1,.ref c2])::(c2,.tup [.int n,.int 2])::(c1,.tup [.int n,.int 1])::(d1,.lst (prV r))::(c0,.tup [.int n,.int 0])::(lv,.lst (prV (a::r)))::Nw,w2,r++[(c1,(n:Int),1),(c2,(n:Int),2)],M1+2,_,U,U,Y9,by simp,by simp; omega,?_,by simp; omega,up4,fun x hx=>?_,?_,?_,?_,?_⟩
   ·have:N+(r++[(c1,(n:Int),1),(c2,(n:Int),2)]).length=n+1:=by simp; omega
    rw[this]
    exact D4
   ·exact old4 x (old x hx) (fun c=>by have:=D.lt hx.1; rw[c] at this; omega)
   ·exact old4 _ f0 (fun c=>n0 (by rw[c]; exact mem_cons_self))
   ·rw[em]
    intro h
    rcases mem_append.mp h with h | h
    ·exact n0 (mem_cons_of_mem _ h)
    ·rcases mem_cons.mp h with h | h
     ·exact no _ _ f0 h
     ·exact no _ _ f0 (mem_singleton.mp h)
   ·rw[em]
    refine List.nodup_append.mpr ⟨nd'.2,by simp,fun x hx z hz e=>?_⟩
    rw[e] at hx
    rcases mem_cons.mp hz with h | h
    ·exact nr 1 (by rw[<- h]; exact hx)
    ·exact nr 2 (by rw[<- mem_singleton.mp h]; exact hx)
   ·intro x hx
    rcases mem_append.mp hx with hx | hx
    ·obtain⟨x1,x2,x3⟩:=fz x (mem_cons_of_mem _ hx)
     exact⟨old4 _ x1 (fun c=>nd'.1 (by show a.2 ∈ _; rw[<- c]; exact mem_map_of_mem (f:=fun x:Pr=>x.2) hx)),x2,mem_cons_of_mem _ (mem_cons_of_mem _ (mem_cons_of_mem _ (mem_cons_of_mem _ (mem_cons_of_mem _ (mem_cons_of_mem _ x3)))))⟩
    ·rcases mem_cons.mp hx with h | h
     ·rw[h]; exact⟨g14,by show(N:Int)<=n; omega,mem_cons_of_mem _ (mem_cons_of_mem _ mem_cons_self)⟩
     ·rw[mem_singleton.mp h]; exact⟨g24,by show(N:Int)<=n; omega,mem_cons_of_mem _ mem_cons_self⟩
  ·have e:zs.length=m:=by omega
   rw[e] at D1 bM1
   refine⟨_,U,(show 2<=sizeLine by decide),fun b0 hb0=>?_⟩
   have Y2:=Y1.alloc hb0 (.tup [.int N,.int 0])
   refine⟨_,U,(show 2<=sizeLine by decide),fun tp htp=>?_⟩
   have Y3:=Y2.alloc htp (.tup [.ref b0,.ref lv])
   exact q _ y1 (pK2 (b0,(N:Int),0)::Nw) tp b0 lv zs M1 e D1 bM1 up old f0 n0 nd (fun x hx=>⟨(fz x hx).1,(fz x hx).2.1,mem_cons_of_mem _ (fz x hx).2.2⟩) mem_cons_self (Y3.perm (.cons _ (.swap _ _ _)))
theorem scTy:FnScope ["yard","rods","entry","over","arms","rod","point","leave"] ["yard","rods"] (ai iq):={}
theorem ke (T:Txt K mg t):FnOk P w K mg base CX0 6 t.f_tally t.d_tally ["yard","rods"] (jD t.c_Yard):=by
 obtain⟨ds_l2,hd_J21_2,hb_J21_2⟩:=bP T
 obtain⟨g_lay,bj⟩:=bj T
 refine T.F_tally.ok scTy (fun vs H Q E h=>?_) (fun cdv A outer s H vs Q E hr h=>?_)
 ·obtain⟨_,_,_,_,_,_,_,_,rfl,_⟩:=h
  rfl
 ·obtain⟨p,y,L,rl,rs,N,M,R,rfl,Y,mrl,hrs,hne,D,bN,bM,bR,q⟩:=h
  refine⟨_,(ae (ar (i:=2) scTy.nd rfl (Or.inl rfl) (aA (pv 0) T.cl_Yard T.M_J21 (bG T) hr hb_J21_2 hd_J21_2 aB (aa aF af)))
   (ae (ar (i:=3) scTy.nd rfl (Or.inl rfl) (aq (aa (pv 2) (aa ag af))))
   (ae (ar (i:=4) scTy.nd rfl (Or.inl rfl) (aR af))
   (ae (aX PassesOwn.never rfl (bq (pv 1)) (am (i:=5) scTy.nd rfl (Or.inl rfl))
    (ae (ar (i:=6) scTy.nd rfl (Or.inl rfl) (dQ (pv 0) T.cl_Yard T.M_J21 (bG T) (hr.mono (by decide)) bj aB (aa aF af) (fO (pv 5) g8)))
     (ae (ak (aA (pv 0) T.cl_Yard T.M_Jw (cg T) hr (eL T) .nil aB (@aa _ _ _ _ _ (pv 3) (@aa _ _ _ _ _ (aq (aa (pv 6) (aa ag af))) af (by rfl)) (by rfl))))
     (ae (ak (b6 PySem.F.plainAttrs_list PySem.F.slot_list_append PySem.F.type_list_append aT (pv 4) (@aa _ _ _ _ _ (aq (aa (pv 6) (aa ag af))) af (by rfl))))
     (ah (ar (i:=3) scTy.nd rfl (Or.inl rfl) (aq (aa (pv 6) (aa ag af)))))))))
   (ae (ar (i:=7) scTy.nd rfl (Or.inl rfl) (aA (pv 0) T.cl_Yard T.M_J21 (bG T) hr hb_J21_2 hd_J21_2 aB (aa aF af)))
   (ae (ak (pcl (cI T) hr T.m_merge T.F_merge.kp (dA T) (@aa _ _ _ _ _ (pv 0) (@aa _ _ _ _ _ (pv 4) (@aa _ _ _ _ _ (aq (aa (pv 7) (aa ag af))) af (by rfl)) (by rfl)) (by rfl))))
   (ah (aH (aq (@aa _ _ _ _ _ (aq (aa (pv 2) (aa ag af))) (@aa _ _ _ _ _ (aq (aa (pv 7) (aa ag af))) (@aa _ _ _ _ _ (pv 3) af (by rfl)) (by rfl)) (by rfl))))))))))),?_⟩
  rw[show L2.start ["yard","rods","entry","over","arms","rod","point","leave"] [V.ref p,V.ref rl]=([some (V.ref p),some (V.ref rl),none,none,none,none,none,none]:St) from rfl]
  obtain⟨A1,gy⟩:=Y.obj
  refine⟨_,U,p,A1.dx,_,U,gy,(bT _ _ _).1,?_⟩
  refine tc1 ?_
  refine bH Y D ⟨by omega,by omega,bR⟩ .line 0 .non (fun c=>nomatch c) (fun _ c=>absurd rfl c) (fun H2 Y2=>?_)
  have D2:=D.lay .line 0 .non
  have up2:=D.up .line 0 .non
  have f0:Fr _ ((N:Int),0):=Fr.new D .line 0 .non (Int.le_refl _) (by decide)
  have f1:Fr _ ((N:Int),1):=Fr.new D .line 0 .non (by decide) (by decide)
  have old2:∀ x,Fr y x->Fr (bC y .line 0 .non) x:=fun x h=>h.lay D .line 0 .non
  obtain⟨y2,ey2⟩:∃ y2,bC y .line 0 .non=y2:=⟨_,U⟩
  rw[ey2] at up2 Y2 D2 f0 f1 old2
  dsimp only[List.set]
  refine⟨_,U,(show 2<=sizeLine by decide),fun b1 hb1=>?_⟩
  have Y3:=Y2.alloc hb1 (.tup [.int N,.int 1])
  dsimp only[List.set]
  refine⟨by decide,fun al hal=>?_⟩
  have Y4:=Y3.alloc hal (.lst (prV []))
  dsimp only[List.set]
  have lr:(rs.map V.int).length=rs.length:=by rw[length_map]
  refine⟨_,U,rl,U,⟨_,SqL.of (Y4.at_ (mem_cons_of_mem _ (mem_cons_of_mem _ mrl)))⟩,bO (xs:=rs.map V.int) (fun i σ H'=>∃ (y':YR) (Nw:Kn) (o:Pr) (zs:List Pr) (M':Nat) (o1 o2 o3:Option V),σ=[some (.ref p),some (.ref rl),some (.int N),some (.ref o.1),some (.ref al),o1,o2,o3]/\YIn t.c_Yard H' p y' ((al,.lst (prV zs))::(Nw++L)) /\
   i<=rs.length/\zs.length=i/\Ld y' (N+1+i) M' R/\M'=M+2*i/\Up y y'/\(∀ x,Fr y x->Fr y' x)/\Fr y' ((N:Int),0)/\Fr y' o.2/\(N:Int)<=o.2.1/\o.2.2≠0/\pK2 o ∈ Nw/\o.2 ∉ zs.map (·.2)/\(zs.map (·.2)).Nodup/\(∀ x ∈ zs,Fr y' x.2/\(N:Int)<x.2.1/\pK2 x ∈ Nw))
   ⟨y2,[pK2 (b1,(N:Int),1)],(b1,(N:Int),1),[],M,_,_,_,U,Y4,Nat.zero_le _,U,D2,U,up2,old2,f0,f1,Int.le_refl _,(fun c=>by cases c),mem_cons_self,(fun h=>nomatch h),List.nodup_nil,fun x hx=>nomatch hx⟩
   (fun i σ H' _ z_=>z_.elim fun y' z_=>z_.elim fun Nw z_=>z_.elim fun o z_=>z_.elim fun zs z_=>z_.elim fun M' z_=>z_.elim fun o1 z_=>z_.elim fun o2 z_=>z_.elim fun o3 z_=>z_.elim fun _ z_=>z_.elim fun Y' _=>SqL.of (Y'.at_ (mem_cons_of_mem _ (mem_append_right _ mrl)))) ?_ ?_⟩
  ·rintro i x σ H1 hx ⟨y1,Nw,o,zs,M1,o1,o2,o3,rfl,Y1,hi,hzl,D1,rfl,up,old,f0,fo,no1,oe,mo,noz,nd,fz⟩
   rw[getElem?_map] at hx
   obtain⟨r,hr0,rfl⟩:=Option.map_eq_some_iff.mp hx
   have hil:i<rs.length:=(List.getElem?_eq_some_iff.mp hr0).1
   have hrb:=hrs r (mem_of_getElem? hr0)
   have us:=up.sl
   obtain⟨A1,gy⟩:=Y1.obj
   obtain⟨n,en⟩:∃ n:Nat,N+1+i=n:=⟨_,U⟩
   rw[en] at D1
   have no:∀ x e,Fr y1 x->x≠((n:Int),e):=fun x e h=>h.ne D1
   refine⟨_,U,p,A1.dx,_,U,gy,(bT _ _ _).1,?_⟩
   refine tc1 ?_
   refine⟨_,U,?_⟩
   refine tn0 ?_
   refine bH Y1 D1 ⟨by omega,by omega,bR⟩ .turning 0 (.int r) (fun c=>nomatch c) (fun _ _=>⟨r,U,by omega,by omega⟩) (fun H2 Y2=>?_)
   have D2:=D1.lay .turning 0 (.int r)
   have up2:=up.trans (D1.up .turning 0 (.int r))
   have fo2:=fo.lay D1 .turning 0 (.int r)
   have g0:Fr _ ((n:Int),0):=Fr.new D1 .turning 0 (.int r) (Int.le_refl _) (by decide)
   have g1:Fr _ ((n:Int),1):=Fr.new D1 .turning 0 (.int r) (by decide) (by decide)
   have g2:Fr _ ((n:Int),2):=Fr.new D1 .turning 0 (.int r) (by decide) (by decide)
   have old2:∀ x,Fr y1 x->Fr (bC y1 .turning 0 (.int r)) x:=fun x h=>h.lay D1 .turning 0 (.int r)
   obtain⟨y2,ey2⟩:∃ y2,bC y1 .turning 0 (.int r)=y2:=⟨_,U⟩
   rw[ey2] at up2 Y2 D2 fo2 g0 g1 g2 old2
   dsimp only[List.set]
   obtain⟨A2,gy2⟩:=Y2.obj
   refine⟨_,U,p,A2.dx,_,U,gy2,(bS _ _ _).2.2.1,_,U,_,U,(show 2<=sizeLine by decide),fun c0 hc0=>?_⟩
   have Y3:=Y2.alloc hc0 (.tup [.int n,.int 0])
   refine tn0 ?_
   refine bA (a:=o) (b:=(c0,(n:Int),0)) Y3 D2 (by omega) (mem_cons_of_mem _ (mem_cons_of_mem _ (mem_append_left _ mo))) mem_cons_self fo2 g0 (no _ _ fo) (fun H4 Y4=>?_)
   have D4:=D2.link (a:=o) (b:=(c0,(n:Int),0)) fo2 g0
   have g14:=g1.link (a:=o) (b:=(c0,(n:Int),0)) (fun c=>no _ 1 fo c.symm) (dY (by decide))
   have g24:=g2.link (a:=o) (b:=(c0,(n:Int),0)) (fun c=>no _ 2 fo c.symm) (dY (by decide))
   have old4:∀ x,Fr y1 x->x≠o.2->Fr (cV y2 o (c0,(n:Int),0)) x:=fun x h1 h2=>(old2 x h1).link h2 (no x 0 h1)
   have up4:=up2.trans (Up.link (a:=o) (b:=(c0,(n:Int),0)) fo2 g0)
   obtain⟨y4,ey4⟩:∃ y4,cV y2 o (c0,(n:Int),0)=y4:=⟨_,U⟩
   rw[ey4] at up4 Y4 D4 g14 g24 old4
   refine⟨_,U,.inl ⟨U,_,SqL.of (Y4.at_ (mem_cons_of_mem _ mem_cons_self))⟩,_,U,(show 2<=sizeLine by decide),fun c1 hc1=>?_⟩
   have Y5:=Y4.alloc hc1 (.tup [.int n,.int 1])
   refine tn0 ?_
   have lz:(prV zs).length=zs.length:=by unfold prV; rw[length_map]
   refine⟨al,_,_,U,U,Y5.at_ (mem_cons_of_mem _ (mem_cons_of_mem _ mem_cons_self)),sizeOk (by rw[lz]; omega),?_⟩
   have er:prV zs++[.ref c1]=prV (zs++[(c1,(n:Int),1)]):=by unfold prV; rw[map_append]; rfl
   rw[er]
   have Y6:=(Y5.perm (List.Perm.trans (.cons _ (.swap _ _ _)) (.swap _ _ _))).put0 (.lst (prV (zs++[(c1,(n:Int),1)])))
   refine⟨_,U,(show 2<=sizeLine by decide),fun c2 hc2=>?_⟩
   have Y7:=Y6.alloc hc2 (.tup [.int n,.int 2])
   dsimp only[List.set]
   have nr:∀ e:Int,((n:Int),e) ∉ zs.map (·.2):=fun e h=>by
    obtain⟨x,hx,e'⟩:=mem_map.mp h
    exact no x.2 e (fz x hx).1 e'
   have em:(zs++[(c1,(n:Int),1)]).map (fun x:Pr=>x.2)=zs.map (·.2)++[((n:Int),1)]:=by rw[map_append]; rfl
   refine⟨y4,(c2,.tup [.int n,.int 2])::(c1,.tup [.int n,.int 1])::(c0,.tup [.int n,.int 0])::Nw,(c2,(n:Int),2),zs++[(c1,(n:Int),1)],M+2*i+2,_,_,_,U,Y7.perm (.swap _ _ _),hil,by simp[hzl],?_,by omega,up4,fun x hx=>?_,?_,g24,by show(N:Int)<=n; omega,(fun c=>by cases c),mem_cons_self,?_,?_,?_⟩
   ·have:N+1+(i+1)=n+1:=by omega
    rw[this]
    exact D4
   ·exact old4 x (old x hx) (fun c=>by have:=D.lt hx.1; rw[c] at this; omega)
   ·exact old4 _ f0 (fun c=>oe (by rw[<- c]))
   ·rw[em]
    intro h
    rcases mem_append.mp h with h | h
    ·exact nr 2 h
    ·exact dY (by decide) (mem_singleton.mp h)
   ·rw[em]
    refine List.nodup_append.mpr ⟨nd,by simp,fun x hx z hz e=>?_⟩
    rw[e,mem_singleton.mp hz] at hx
    exact nr 1 hx
   ·intro x hx
    rcases mem_append.mp hx with hx | hx
    ·obtain⟨x1,x2,x3⟩:=fz x hx
     exact⟨old4 _ x1 (fun c=>noz (by rw[<- c]; exact mem_map_of_mem (f:=fun x:Pr=>x.2) hx)),x2,mem_cons_of_mem _ (mem_cons_of_mem _ (mem_cons_of_mem _ x3))⟩
    ·rw[mem_singleton.mp hx]
     exact⟨g14,by show(N:Int)<n; omega,mem_cons_of_mem _ mem_cons_self⟩
  ·rintro σ H1 ⟨y1,Nw,o,zs,M1,o1,o2,o3,rfl,Y1,hi,hzl,D1,rfl,up,old,f0,fo,no1,oe,mo,noz,nd,fz⟩
   rw[lr] at D1 hzl
   obtain⟨A1,gy⟩:=Y1.obj
   obtain⟨n,en⟩:∃ n:Nat,N+1+rs.length=n:=⟨_,U⟩
   rw[en] at D1
   have no:∀ x e,Fr y1 x->x≠((n:Int),e):=fun x e h=>h.ne D1
   refine⟨_,U,p,A1.dx,_,U,gy,(bT _ _ _).1,?_⟩
   refine tc1 ?_
   refine bH Y1 D1 ⟨by omega,by omega,bR⟩ .line 0 .non (fun c=>nomatch c) (fun _ c=>absurd rfl c) (fun H2 Y2=>?_)
   have D2:=D1.lay .line 0 .non
   have up2:=up.trans (D1.up .line 0 .non)
   have g0:Fr _ ((n:Int),0):=Fr.new D1 .line 0 .non (Int.le_refl _) (by decide)
   have g1:Fr _ ((n:Int),1):=Fr.new D1 .line 0 .non (by decide) (by decide)
   have old2:∀ x,Fr y1 x->Fr (bC y1 .line 0 .non) x:=fun x h=>h.lay D1 .line 0 .non
   obtain⟨y2,ey2⟩:∃ y2,bC y1 .line 0 .non=y2:=⟨_,U⟩
   rw[ey2] at up2 Y2 D2 g0 g1 old2
   dsimp only[List.set]
   refine⟨_,U,_,U,_,U,(show 2<=sizeLine by decide),fun c0 hc0=>?_⟩
   have Y3:=Y2.alloc hc0 (.tup [.int n,.int 0])
   refine tn0 ?_
   have nz:∀ e:Int,((n:Int),e) ∉ zs.map (·.2):=fun e h=>by
    obtain⟨x,hx,e'⟩:=mem_map.mp h
    exact no x.2 e (fz x hx).1 e'
   refine⟨p,y2,_,al,zs,(c0,(n:Int),0),n+1,M+2*rs.length,R,U,Y3,mem_cons_of_mem _ mem_cons_self,fun x hx=>mem_cons_of_mem _ (mem_cons_of_mem _ (mem_append_left _ (fz x hx).2.2)),mem_cons_self,D2,nd,nz 0,fun x hx=>old2 _ (fz x hx).1,g0,by omega,by omega,bR,fun H4 y4 N4 M4 D4 bM4 up4 old4 Y4=>?_⟩
   have zl:∀ x,x ∈ zs.map (·.2)->(N:Int)<x.1:=fun x hx=>by
    obtain⟨z,hz,rfl⟩:=mem_map.mp hx
    exact(fz z hz).2.1
   have k0:=old4 _ (old2 _ f0) (fun h=>absurd (zl _ h) (Int.lt_irrefl _)) (no _ _ f0)
   have k1:=old4 _ g1 (nz 1) (dY (by decide))
   have ko:=old4 _ (old2 _ fo) noz (no _ _ fo)
   have hrl:1<=rs.length:=by
    cases rs with
    | nil=>exact absurd rfl hne
    | cons=>exact Nat.succ_le_succ (Nat.zero_le _)
   refine⟨_,U,(show 2<=sizeLine by decide),fun e0 he0=>?_⟩
   have Y5:=Y4.alloc he0 (.tup [.int N,.int 0])
   refine⟨_,U,(show 2<=sizeLine by decide),fun e1 he1=>?_⟩
   have Y6:=Y5.alloc he1 (.tup [.int n,.int 1])
   refine⟨_,U,(show 3<=sizeLine by decide),fun tp htp=>?_⟩
   have Y7:=Y6.alloc htp (.tup [.ref e0,.ref e1,.ref o.1])
   have e:n+1+(zs.length - 1)=N+(2*rs.length+1):=by omega
   rw[e] at D4
   refine q _ y4 ((e1,.tup [.int n,.int 1])::(e0,.tup [.int N,.int 0])::(N4++((c0,.tup [.int n,.int 0])::(al,.lst (prV zs))::Nw))) tp (e0,(N:Int),0) (e1,(n:Int),1) o M4 D4 (by omega) (up2.trans up4) (fun x hx=>?_) k0 k1 ko (no _ _ f0) (fun c=>oe (by rw[<- c])) (fun c=>no _ _ fo c.symm) (Int.le_refl _) (by show(N:Int)<=n; omega) no1 (mem_cons_of_mem _ mem_cons_self) mem_cons_self ?_ ?_
   ·have h1:=D.lt hx.1
    exact old4 _ (old2 _ (old x hx)) (fun h=>by have:=zl _ h; omega) (no _ _ (old x hx))
   ·exact mem_cons_of_mem _ (mem_cons_of_mem _ (mem_append_right _ (mem_cons_of_mem _ (mem_cons_of_mem _ mo))))
   ·simpa only [List.cons_append,append_assoc] using Y7
end
end P
set_option Elab.async false
set_option linter.all false
set_option maxRecDepth 100000
namespace L2
open PySem PySem.Spec PyProof.Rows
section
variable {prog:Program}{w:World}{K:Type} [DecidableEq K] {knd:HeapKind prog w K}{A:Around}{E:Value->Shared->Prop}{s:Shared}{d a:Addr}{k:K}{xs:List (K×Addr×Value)}{v:Value}
theorem dr {Q:Value->Shared->Prop} (hu:knd.room A) (hkey:knd.is s.heap k a) (hm:s.heap.DictOfH knd d xs) (hsz:xs.length<=sizeLine)
  (h1:∀ p,atKey xs k=some p->Q p.2 { s with toks:=s.toks+knd.draws k })
  (h2:atKey xs k=none->∀ h',h'.DictOfH knd d (storedH xs k a v)->Heap.SameBut d s.heap h'->Q v { s with heap:=h',toks:=s.toks+knd.draws k }) :
  wpAny (model prog w) A (dictSetDefault d (.ref a) v) Q E s:=by
 obtain⟨o,es,ep,ho,hc,hd,he,his,hn⟩:=hm
 unfold dictSetDefault
 try with_reducible refine wpAny_holding ?_
 refine wpAny_bind (knd.pyHash hu hkey ?_)
 refine wpAny_bind (wpAny_dictFind_heap (s:={ s with toks:=s.toks+knd.draws k }) hu hkey ho hd he his hn ?_ ?_)
 ·intro hno
  have hnot:k ∉ xs.map (·.1):=not_mem_keys_of_get hno
  refine wpAny_bind (wpAny_rule (wpAny_bind (wpAny_updateDictKeys (hz:=by have e:=size_of_entries he; omega) (s:={ s with toks:=s.toks+knd.draws k }) ho hd (wpAny_pure (h2 (atKey_none_of_get hno) _ ⟨_,_,ep+1,Heap.get?_update_self _ ho (Obj.isFreed_of_dict (Obj.data_mapDictKeys hd _)),
   hc.mapDictKeys _,Obj.data_mapDictKeys hd _,?_,?_,?_⟩ (Heap.SameBut.update ..))))))
  ·rw[storedH_new (atKey_none_of_get hno)]
   simp[he,entryOfKey]
  ·rw[storedH_new (atKey_none_of_get hno)]
   intro x hx
   rcases mem_append.mp hx with hx | hx
   ·exact knd.keeps (his x hx) ho hd (Heap.SameBut.update ..)
   ·simp only[mem_singleton] at hx
    subst hx
    exact knd.keeps hkey ho hd (Heap.SameBut.update ..)
  ·rw[storedH_new (atKey_none_of_get hno)]
   rw[map_append,List.nodup_append]
   refine⟨hn,by simp,?_⟩
   intro x hx y hy
   simp only[map_cons,List.map_nil,mem_singleton] at hy
   subst hy
   exact fun e=>hnot (e ▸ hx)
 ·intro j p hj
  refine wpAny_bind (wpAny_dictEntries (s:={ s with toks:=s.toks+knd.draws k }) ho hd ?_)
  rw[entry_at he j,hj]
  exact wpAny_bind (wpAny_rule (wpAny_pure (h1 _ (atKey_of_get hn hj))))
theorem cJ (hd:(d == sysModules)=false) :
  MeetsIn prog w (Builtin.«dict.setdefault» ⟨[.ref d,.ref a,v],[]⟩) (fun A R s=>knd.room A.in1/\∃ k xs,knd.is s.heap k a/\s.heap.DictOfH knd d xs/\xs.length<=sizeLine /\
   (∀ p,atKey xs k=some p->R (.ok (.ret p.2)) { s with toks:=s.toks+knd.draws k }) /\
   (atKey xs k=none->∀ h',h'.DictOfH knd d (storedH xs k a v)->Heap.SameBut d s.heap h'->R (.ok (.ret v)) { s with heap:=h',toks:=s.toks+knd.draws k })) :=
 .of_wp fun A R s z_=>z_.elim fun hu z_=>z_.elim fun k z_=>z_.elim fun xs z_=>z_.elim fun hkey z_=>z_.elim fun hm z_=>z_.elim fun hsz z_=>z_.elim fun h1 h2=>by
  unfold Builtin.«dict.setdefault»
  refine wpAny_bind ?_
  unfold Builtin.Dict.keyAndDefault
  refine wpAny_bind (wpAny_notOrdered_dict hm.typeIs ?_)
  show wpAny _ _ (pure (d,Value.ref a,some v)) _ _ s
  refine wpAny_pure ?_
  show wpAny _ _ (if (d == sysModules)=true then _ else(dictSetDefault d (.ref a) v >>= _)) _ _ s
  rw[if_neg (by rw[hd]; exact Bool.false_ne_true)]
  exact wpAny_bind (dr hu hkey hm hsz (fun p hp=>wpAny_pure ⟨p.2,U,h1 p hp⟩) fun hn h' hm' hs'=>wpAny_pure ⟨v,U,h2 hn h' hm' hs'⟩)
end
section
variable {X:Cx}{pins:List (Addr×Obj)}{σ:St}{H:Hp}{s:Shared}{a b:Addr}{kvs:List (List Key×V)}{k:List Key}{r:Value}{z:V}{A:Around}{E:Value->Shared->Prop}
theorem jp {Q:Value->Shared->Prop} (hu:A.units+1<cLine) (I:Inv X pins σ H s) (e:H a=some (.dT kvs)) (eb:H b=some (.tup (k.map kV))) (rz:RelV z r) (hl:kvs.length<sizeLine)
  (h1:∀ v,aM kvs k=some v->∀ w' s',Inv X pins σ H s'->RelV v w'->Q w' s')
  (h2:aM kvs k=none->∀ s',Inv X pins σ (upd H a (.dT (aI kvs k z))) s'->Q r s'):wpAny (model X.prog X.w) A (call (.builtin "dict.setdefault") [.ref a,.ref b,r]) Q E s:=by
 obtain⟨zz,hd,xs,rel,dd⟩:=nj I.hok e
 have hz:xs.length<=sizeLine:=by rw[<- Paired.length rel]; exact zz
 have hv:=rel.val k
 refine call_meetsIn PySem.F.slot_dict_setdefault dd.typeIs PySem.F.entry_dict_setdefault (PySem.F.args_dict_setdefault_3 _ _ _) (cJ hd) ⟨tupleKind_room_in1 hu,k,xs,cX I.hok eb,dd,hz,fun p hp=>?_,fun hn h' dd' hs=>?_⟩
 ·rw[hp] at hv
  cases e2:aM kvs k with
  | none=>rw[e2] at hv; exact(show False from hv).elim
  | some x=>rw[e2] at hv; exact h1 x e2 p.2 _ (I.tok _) hv
 ·rw[hn] at hv
  cases e2:aM kvs k with
  | some x=>rw[e2] at hv; exact(show False from hv).elim
  | none=>
   have hl2:(aI kvs k z).length<=sizeLine:=by have:=bb kvs k z; omega
   obtain⟨q,es,ep,hq,g2,g3,g4,_,g5⟩:=dd'
   refine h2 e2 _ (fX I (by rw[e]; exact True.intro) hs ⟨q,hq⟩ ⟨hl2,hd,_,(rel.put k eb rz).keeps fun c ys ec=>?_,q,es,ep,hq,g2,g3,g4,g5⟩)
   rw[av (kq ec e (fun z=>nomatch z))]
   exact ec
end
noncomputable def ny (td ty tx:TE):TE:=fun σ H Q=>td σ H fun x H1=>∃ a,x=.ref a/\IsD H1 a/\ty σ H1 fun y H2=>tx σ H2 fun z H3=>∃ b kvs k,y=.ref b/\H3 a=some (.dT kvs)/\H3 b=some (.tup (k.map kV))/\kvs.length<sizeLine /\
 (∀ v,aM kvs k=some v->Q v H3)/\(aM kvs k=none->Q z (upd H3 a (.dT (aI kvs k z))))
theorem j9 {X:Cx}{o e f:Expr}{apos cpos:Pos}{td ty tx:TE} (hu:X.A.units+1<cLine) (ho:PE X o td) (he:PE X e ty) (hf:PE X f tx) (m:M2 X o "setdefault" apos e f cpos):PE X (.Call (.Attribute o "setdefault" apos) [e,f] [] cpos) (ny td ty tx):=by
 intro pins s σ H Q I h
 refine wpAny_Call_method m.base m.few m.line PySem.F.plainAttrs_dict PySem.F.slot_dict_setdefault PySem.F.type_dict_setdefault (thn (ho pins s σ H _ I h) fun u s1 z_=>z_.elim fun x z_=>z_.elim fun H1 z_=>z_.elim fun I1 z_=>z_.elim fun rx z_=>z_.elim fun a z_=>z_.elim fun ex z_=>z_.elim fun d q1=>?_)
 subst ex
 obtain rfl:u=Value.ref a:=rx
 obtain⟨t1,t2,_⟩:=kC I1 d
 refine⟨t1,t2,?_⟩
 rw[m.trees]
 refine Calls.callWith_builtin rfl (Calls.evalArgs_plain (Calls.spliced_cons (thn (he pins s1 σ H1 _ I1 q1) fun iv s2 ⟨y,H2,I2,ry,q2⟩=>
  Calls.spliced_cons (thn (hf pins s2 σ H2 _ I2 q2) fun fv s3 z_=>z_.elim fun z z_=>z_.elim fun H3 z_=>z_.elim fun I3 z_=>z_.elim fun rz z_=>z_.elim fun b z_=>z_.elim fun kvs z_=>z_.elim fun k z_=>z_.elim fun ey z_=>z_.elim fun e3 z_=>z_.elim fun eb z_=>z_.elim fun hl z_=>z_.elim fun qa qb=>Calls.spliced_nil ?_))))
 subst ey
 obtain rfl:iv=Value.ref b:=ry
 exact jp hu I3 e3 eb rz hl (fun v hv w' s4 I4 rw'=>⟨_,H3,I4,rw',qa v hv⟩) (fun hn s4 I4=>⟨_,_,I4,rz,qb hn⟩)
end L2
set_option Elab.async false
set_option linter.all false
set_option maxRecDepth 100000
namespace L2.It
open PySem
noncomputable def En (h:Heap) (d:Addr) (es:Array DictEntry) (ep:Nat):Prop:=∃ o,h.get? d=some o/\o.ExactDict/\o.data=.dict es ep
section
variable {prog:Program}{w:World}{A:Around}{E:Value->Shared->Prop}{s:Shared}{d it v:Addr}{es:Array DictEntry}{ep i:Nat}{x1 x2:Value}
theorem En.ty (h:En s.heap d es ep):s.TypeIs (.ref d) "dict":=let ⟨o,e,c,_⟩:=h; ⟨o,e,c.1⟩
theorem En.to {h h':Heap} (x:En h d es ep) (k:∀ o,h.get? d=some o->h'.get? d=some o):En h' d es ep:=let ⟨o,e,r⟩:=x; ⟨o,k o e,r⟩
theorem view (lo:(d == sysModules)=false):MeetsIn prog w (Builtin.«dict.items» ⟨[.ref d],[]⟩) (fun _ R s=>(∃ es ep,En s.heap d es ep) /\
   R (.ok (.ret (.ref s.heap.objs.size))) { s with heap:=s.heap.push { cls:=.type "dict_items",data:=.fields #[.ref d] } }) :=
 .of_wp fun A R s ⟨⟨es,ep,g⟩,h⟩=>by
  unfold Builtin.«dict.items» Builtin.Dict.noArgs
  refine wpAny_bind (wpAny_bind (wpAny_notOrdered_dict g.ty (show wpAny _ _ (pure d) _ _ s from wpAny_pure (show wpAny _ _ (Builtin.Dict.showsAll d >>= _) _ _ s from ?_))))
  unfold Builtin.Dict.showsAll
  rw[lo,if_neg Bool.false_ne_true]
  exact wpAny_bind (wpAny_pure (wpAny_bind (wpAny_newObj_type (wpAny_pure ⟨_,rfl,h⟩))))
theorem iter {Q:Value->Shared->Prop} (hv:s.heap.IsItemsView v d) (g:En s.heap d es ep)
  (q:Q (.ref s.heap.objs.size) { s with heap:=s.heap.push { cls:=.type "dict_itemiterator",data:=.fields #[.none,.bool false,.ref d,.int 0 0,.int es.size 0,.int ep 0,.none,.none] } }):wpAny (model prog w) A (pyIter (.ref v)) Q E s:=by
 have ty:=hv.typeIs
 obtain⟨ov,a1,_,a3⟩:=hv
 obtain⟨o,b1,_,b3⟩:=g
 refine wpAny_pyIter_slot ty F.slot_dict_items_iter (wpAny_call_entry F.slot_dict_items_iter ty F.entry_dict_items_iter ?body (F.args_dict_items_iter_1 _))
 case body=>
  unfold Builtin.«dict_items.__iter__» Builtin.Dict_items.dictOf Builtin.Dict_items.newIterator
  refine wpAny_bind (wpAny_pure (wpAny_bind (wpAny_bind (wpAny_field a1 a3 (x:=.ref d) rfl (wpAny_pure (wpAny_bind (wpAny_bind (wpAny_dictEntries b1 b3 (wpAny_bind (wpAny_dictEpoch b1 b3 ?_))))))))))
  simp only[show Builtin.Dict_items.ownsTuple "dict_itemiterator" = true from by decide,if_true]
  refine wpAny_newObj_type (wpAny_pure ⟨_,rfl,"dict_itemiterator",_,⟨_,Heap.get?_push_size _ rfl,rfl⟩,F.slot_dict_itemiterator_next.lookup,?_⟩) (by simp[PySem.sizeOk,Builtin.Dict_items.ownedTupleFields,sizeLine_eq])
  simpa [rawInt,Builtin.Dict_items.ownedTupleFields] using q
theorem item {Q:Option Value->Shared->Prop} (hit:IsItemIter s.heap it d i es.size ep x1 x2) (g:En s.heap d es ep) (hi:i<es.size)
  (q:∀ h',IsItemIterOut h' it d (i+1) es.size ep es[i].key es[i].val s.heap.objs.size->h'.get? s.heap.objs.size=some { cls:=.type "tuple",data:=.seq #[es[i].key,es[i].val] } ->
   (∀ b o,b≠it->s.heap.get? b=some o->h'.get? b=some o)->Q (some (.ref s.heap.objs.size)) { s with heap:=h' }):wpAny (model prog w) A (pyNext (.ref it)) Q E s:=by
 have ty:s.TypeIs (.ref it) "dict_itemiterator":=⟨_,hit,rfl⟩
 have ow:Builtin.Dict_items.ownsTuple "dict_itemiterator" = true:=by decide
 have lt:it<s.heap.objs.size:=Heap.lt_size hit
 obtain⟨o,b1,_,b3⟩:=g
 unfold pyNext
 refine wpAny_bind (wpAny_attempt (wpAny_callSpecial?_slot (name:=Str.ofString "__next__") ty F.slot_dict_itemiterator_next (wpAny_call_entry F.slot_dict_itemiterator_next ty F.entry_dict_itemiterator_next ?body (F.args_dict_itemiterator_next_1 _))))
 case body=>
  refine wpAny_bind (wpAny_pure (wpAny_bind (wpAny_bind (wpAny_bind (wpAny_typeNameOfWhole_itemiter ty (wpAny_pure (wpAny_bind (wpAny_fieldsOf hit rfl ?_))))))))
  simp only[ow,if_true]
  refine(show wpAny _ _ (if (Value.ref d == Value.none)=true then _ else _) _ _ s from ?_)
  rw[if_neg (show ¬ ((Value.ref d == Value.none)=true) from nofun)]
  refine wpAny_bind (wpAny_pure (wpAny_bind (wpAny_dictEntries b1 b3 ?_)))
  rw[if_neg (by simp)]
  refine wpAny_bind (wpAny_pure (wpAny_bind (wpAny_dictEpoch b1 b3 ?_)))
  rw[if_neg (by simp)]
  refine wpAny_pure ?_
  simp only[show ¬ ((i:Int)<0) from by omega,if_false,Int.toNat_natCast,Array.getElem?_eq_getElem hi]
  refine wpAny_bind (wpAny_bind (wpAny_typeNameOfWhole_itemiter ty (wpAny_pure (wpAny_bind (wpAny_isOneOf_itemiter ty ?_)))))
  refine(show wpAny _ _ (setField (.ref it) 3 (rawInt ((i:Int)+1)) >>= _) _ _ s from wpAny_bind (wpAny_setField_rec hit (by simp) fun h1 e1 s1=>?_))
  have e1':IsItemIter h1 it d (i+1) es.size ep x1 x2:=by
   unfold IsItemIter
   rw[show((i+1:Nat):Int)=(i:Int)+1 from by omega]
   simpa [rawInt] using e1
  have t1:Shared.TypeIs { s with heap:=h1 } (.ref it) "dict_itemiterator":=⟨_,e1',rfl⟩
  refine wpAny_bind (wpAny_holding (wpAny_bind (wpAny_isOneOf_itemiter t1 (wpAny_bind (wpAny_isOneOf_itemiter t1 ?_)))))
  refine(show wpAny _ _ (Builtin.Dict_items.pairFromOwner (.ref it) 6 es[i].key es[i].val) _ _ { s with heap:=h1 } from ?_)
  unfold Builtin.Dict_items.pairFromOwner
  refine wpAny_bind (wpAny_newTuple ?_)
  obtain⟨h2,eh2⟩:∃ h2,h1.push { cls:=.type "tuple",data:=.seq #[es[i].key,es[i].val] }=h2:=⟨_,rfl⟩
  have sz1:h1.objs.size=s.heap.objs.size:=s1.1
  have e2:IsItemIter h2 it d (i+1) es.size ep x1 x2:=by rw[<- eh2]; exact Heap.get?_push_of_some _ e1'
  have tp2:h2.get? s.heap.objs.size=some { cls:=.type "tuple",data:=.seq #[es[i].key,es[i].val] }:=by rw[<- eh2,<- sz1]; exact Heap.get?_push_size _ rfl
  have k2:∀ b o,b≠it->s.heap.get? b=some o->h2.get? b=some o:=fun b o hb e=>by rw[<- eh2]; exact Heap.get?_push_of_some _ (s1.extBut b o hb e)
  rw[eh2,sz1]
  refine(show wpAny _ _ (Builtin.Dict_items.ownedTupleIsFree (.ref it) >>= _) _ _ { s with heap:=h2 } from ?_)
  unfold Builtin.Dict_items.ownedTupleIsFree
  refine wpAny_bind (wpAny_bind (wpAny_field e2 rfl (x:=.none) rfl (wpAny_pure ?_)))
  simp only[if_true]
  refine wpAny_bind (wpAny_field e2 rfl (x:=x1) rfl (wpAny_bind (wpAny_field e2 rfl (x:=x2) rfl (wpAny_bind (wpAny_setField_rec e2 (by simp) fun h3 e3 s3=>?_)))))
  have e3':IsItemIter h3 it d (i+1) es.size ep es[i].key x2:=e3
  refine wpAny_bind (wpAny_setField_rec e3' (by simp) fun h4 e4 s4=>?_)
  have e4':IsItemIter h4 it d (i+1) es.size ep es[i].key es[i].val:=e4
  refine wpAny_bind (wpAny_setField_rec e4' (by simp) fun h5 e5 s5=>?_)
  have e5':IsItemIterOut h5 it d (i+1) es.size ep es[i].key es[i].val s.heap.objs.size:=e5
  refine wpAny_bind (wpAny_setField_rec e5' (by simp) fun h6 e6 s6=>?_)
  have up:∀ b o,b≠it->h2.get? b=some o->h6.get? b=some o:=fun b o hb e=>s6.extBut b o hb (s5.extBut b o hb (s4.extBut b o hb (s3.extBut b o hb e)))
  exact wpAny_bind (wpAny_letGo (wpAny_pure (wpAny_pure ⟨_,rfl,wpAny_pure (q h6 e6 (up _ _ (Nat.ne_of_gt lt) tp2) fun b o hb e=>up b o hb (k2 b o hb e))⟩)))
theorem done {Q:Option Value->Shared->Prop} (hh:A.handled=none) (hit:IsItemIter s.heap it d i es.size ep x1 x2) (g:En s.heap d es ep) (hi:es.size<=i) (q:∀ h',Heap.ExtBut it s.heap h'->Q none { s with heap:=h' }):wpAny (model prog w) A (pyNext (.ref it)) Q E s:=by
 have ty:s.TypeIs (.ref it) "dict_itemiterator":=⟨_,hit,rfl⟩
 have ow:Builtin.Dict_items.ownsTuple "dict_itemiterator" = true:=by decide
 obtain⟨o,b1,_,b3⟩:=g
 unfold pyNext
 refine wpAny_bind (wpAny_attempt (wpAny_callSpecial?_slot (name:=Str.ofString "__next__") ty F.slot_dict_itemiterator_next (wpAny_call_entry F.slot_dict_itemiterator_next ty F.entry_dict_itemiterator_next ?body (F.args_dict_itemiterator_next_1 _))))
 case body=>
  refine wpAny_bind (wpAny_pure (wpAny_bind (wpAny_bind (wpAny_bind (wpAny_typeNameOfWhole_itemiter ty (wpAny_pure (wpAny_bind (wpAny_fieldsOf hit rfl ?_))))))))
  simp only[ow,if_true]
  refine(show wpAny _ _ (if (Value.ref d == Value.none)=true then _ else _) _ _ s from ?_)
  rw[if_neg (show ¬ ((Value.ref d == Value.none)=true) from nofun)]
  refine wpAny_bind (wpAny_pure (wpAny_bind (wpAny_dictEntries b1 b3 ?_)))
  rw[if_neg (by simp)]
  refine wpAny_bind (wpAny_pure (wpAny_bind (wpAny_dictEpoch b1 b3 ?_)))
  rw[if_neg (by simp)]
  refine wpAny_pure ?_
  simp only[show ¬ ((i:Int)<0) from by omega,if_false,Int.toNat_natCast,Array.getElem?_eq_none hi]
  refine wpAny_bind (wpAny_bind (wpAny_typeNameOfWhole_itemiter ty (wpAny_pure ?_)))
  refine(show wpAny _ _ (setField (.ref it) 2 .none >>= _) _ _ s from wpAny_bind (wpAny_setField hit rfl (by simp) (show wpAny _ _ (newExc (.type "StopIteration") [] >>= _) _ _ _ from wpAny_bind ?_)))
  simp only[newExc,newTuple]
  refine wpAny_bind (wpAny_newObj_type (wpAny_bind (m:=firstArgMember _ _) (wpAny_of_eq (a:=Value.none) rfl (wpAny_newObj_type ?_ (by size_fits)))) (by size_fits))
  simp only[raiseNew]
  refine wpAny_bind (wpAny_handled ?_)
  rw[show A.in1.handled=none from hh]
  refine wpAny_bind (wpAny_pure (wpAny_throw ?_))
  refine wpAny_bind (wpAny_isInstance (T := "StopIteration") (b:=true) (by exact⟨_,Heap.get?_push_size _ rfl,rfl⟩) isSubtype_stop (wpAny_pure (q _ (((Heap.SameBut.update ..).extBut.push _).push _))))
end
end L2.It
namespace L2
open PySem PySem.Spec PyProof.Rows
theorem kK {P:Program}{w:World}{H:Hp}{h:Heap}{d:Addr}{o:Obj}{kvs:List (List Key×V)}{es:Array DictEntry}{ep:Nat} (ok:HOk P w H h) (e:H d=some (.frz o (.dT kvs))) (hep:o.data=.dict es ep) :
  h.get? d=some o/\It.En h d es ep/\es.size=kvs.length/\∀ i kv,kvs[i]?=some kv->∃ hi:i<es.size,∃ a,es[i].key=.ref a/\H a=some (.tup (kv.1.map kV))/\RelV kv.2 es[i].val:=by
 obtain⟨e1,z,lo,zs,pr,o',es',ep',g1,g2,g3,g4,g5⟩:=(show h.get? d=some o/\ObjOk P w H h d (.dT kvs) from ok d _ e)
 rw[e1] at g1
 cases g1
 rw[hep] at g3
 cases g3
 have pg:∀ {l:List (List Key×V)}{m:List (List Key×Addr×Value)},Paired (fun(p:List Key×V) (q:List Key×Addr×Value)=>p.1=q.1/\H q.2.1=some (.tup (p.1.map kV))/\RelV p.2 q.2.2) l m->∀ (i:Nat) x,l[i]?=some x->∃ y,m[i]?=some y/\H y.2.1=some (.tup (x.1.map kV))/\RelV x.2 y.2.2:=by
  intro l m r
  induction r with
  | nil=>intro i x hx; simp at hx
  | cons hr _ ih=>
   intro i x hx
   cases i with
   | zero=>cases hx; exact⟨_,U,hr.2⟩
   | succ i=>exact ih i x hx
 refine⟨e1,⟨o,e1,g2,hep⟩,by rw[<- Array.length_toList,g4,length_map,<- pr.length],fun i kv hk=>?_⟩
 obtain⟨y,hy,hy1,hy2⟩:=pg pr i kv hk
 have e5:es.toList[i]?=some (entryOfKey (tupleKind (ba P w)) y):=by rw[g4,getElem?_map,hy]; rfl
 rw[Array.getElem?_toList] at e5
 obtain⟨hi,e6⟩:=Array.getElem?_eq_some_iff.mp e5
 exact⟨hi,y.2.1,by rw[e6]; rfl,hy1,by rw[e6]; exact hy2⟩
theorem Inv.freezeT {X:Cx}{pins:List (Addr×Obj)}{σ:St}{H:Hp}{s:Shared}{d:Addr}{kvs:List (List Key×V)} (I:Inv X pins σ H s) (e:H d=some (.dT kvs)):∃ o es ep,s.heap.get? d=some o/\o.data=.dict es ep/\(d == sysModules)=false/\Inv X pins σ (upd H d (.frz o (.dT kvs))) s:=by
 obtain⟨z,lo,zs,pr,o,es,ep,g1,g2,g3,g4,g5⟩:=(show ObjOk X.prog X.w H s.heap d (.dT kvs) from I.hok d _ e)
 refine⟨o,es,ep,g1,g3,lo,I.write (x:=d) (e:=d) (t':=s.toks) (h':=s.heap) (by rw[e]; exact True.intro) (.inl rfl) (fun _ _ _ q=>q) ⟨o,g1⟩ ⟨g1,z,lo,zs,Paired.mapP pr fun p q r=>⟨r.1,?_,r.2.2⟩,o,es,ep,g1,g2,g3,g4,g5⟩⟩
 rw[av (kq r.2.1 e (fun z=>nomatch z))]
 exact r.2.1
noncomputable def nu (t:TS):TS:=fun D σ H=>∃ (d:Addr) (kvs:List (List Key×V)),H d=some (.dT kvs) /\
 t { nx:=fun σ' H'=>∃ o,H' d=some (.frz o (.dT kvs))/\D.nx σ' (upd H' d (.dT kvs)),rt:=fun v H'=>∃ o,H' d=some (.frz o (.dT kvs))/\D.rt v (upd H' d (.dT kvs)),bk:=fun σ' H'=>∃ o,H' d=some (.frz o (.dT kvs))/\D.bk σ' (upd H' d (.dT kvs)),ct:=fun σ' H'=>∃ o,H' d=some (.frz o (.dT kvs))/\D.ct σ' (upd H' d (.dT kvs)) } σ H
theorem jY {X:Cx}{st:Stmt}{t:TS} (h:PS X st t):PS X st (nu t):=by
 intro pins s σ H D I q
 obtain⟨d,kvs,e,q⟩:=q
 have hn:=I.unfrz e (fun _ _ z=>nomatch z)
 have hu:∀ xs,HO.dT kvs≠.tup xs:=fun _ z=>nomatch z
 refine thn (h pins s σ H _ I q) fun f s1 h1=>?_
 cases f with
 | ret u=>obtain⟨v,σ1,H1,I1,r1,o,e1,q1⟩:=h1; exact⟨v,σ1,_,I1.thaw e1 hn hu,r1,q1⟩
 | next=>obtain⟨σ1,H1,I1,o,e1,q1⟩:=h1; exact⟨σ1,_,I1.thaw e1 hn hu,q1⟩
 | brk=>obtain⟨σ1,H1,I1,o,e1,q1⟩:=h1; exact⟨σ1,_,I1.thaw e1 hn hu,q1⟩
 | cont=>obtain⟨σ1,H1,I1,o,e1,q1⟩:=h1; exact⟨σ1,_,I1.thaw e1 hn hu,q1⟩
noncomputable def Itj (d:Addr) (o:Obj) (kvs:List (List Key×V)):It :=
 ⟨fun i H=>H d=some (.frz o (.dT kvs))/\i<kvs.length,fun i H x H'=>∃ p a kv,x=.ref p/\H p=none/\H'=upd H p (.tup [.ref a,kv.2])/\kvs[i]?=some kv/\H a=some (.tup (kv.1.map kV)),fun i H=>H d=some (.frz o (.dT kvs))/\kvs.length<=i⟩
theorem f7 {P:Program}{w:World}{K:PySem.W.Frag}{es:List Expr} {x1} {pos:Pos} (d it:Addr) (o:Obj) (kvs:List (List Key×V)) (ds:Array DictEntry) (ep:Nat) (hep:o.data=.dict ds ep) :
  Turn P w K (.Tuple es x1 pos) (Itj d o kvs) [it] it (fun i h=>∃ a b,IsItemIter h it d i ds.size ep a b) where
 mem:=by simp
 obj:=fun i h st b hb=>by
  obtain rfl:b=it:=by simpa using hb
  obtain⟨_,_,e⟩:=st
  exact⟨_,e,fun v z=>by cases (show Data.fields _=Data.cell v from z)⟩
 keep:=fun i h h' st k=>by
  obtain⟨a,b,e⟩:=st
  exact⟨a,b,k it (by simp) _ e⟩
 item:=by
  intro X hP hw hK hc i pins s σ H E I hf st hg
  subst hP hw hK
  obtain⟨e,hi⟩:=hg
  obtain⟨e1,g,sz,gt⟩:=kK I.hok e hep
  obtain⟨hi',a,hka,hta,hva⟩:=gt i _ (getElem?_eq_getElem hi)
  obtain⟨oa,ob,st0⟩:=st
  refine It.item st0 g hi' fun h' a1 a5 kp=>⟨_,U,?_⟩
  refine wpAny_letOwnedTupleGo_items (s:={ s with heap:=h' }) a1 fun h2 st2 sb=>?_
  have pz:s.heap.objs.size≠it:=Nat.ne_of_gt (Heap.lt_size st0)
  have kk:∀ c q,c ∉ [it]->s.heap.get? c=some q->h2.get? c=some q:=fun c q hcm z=>by
   have hc':c≠it:=by simpa using hcm
   exact sb.extBut _ _ hc' (kp c q hc' z)
  have fP:ck X pins H s.heap.objs.size:=I.fpOk (Nat.le_refl _) (I.hok.fresh (Nat.le_refl _))
  have hp2:h2.get? s.heap.objs.size=some { cls:=.type "tuple",data:=.seq #[ds[i].key,ds[i].val] }:=sb.extBut _ _ pz a5
  have I2:Inv X pins σ (upd H s.heap.objs.size (.tup [.ref a,kvs[i].2])) { s with heap:=h2,toks:=s.toks } :=
   (I.turnedL kk hf).track I.sz (fP.2.1) fP.2.2.2.2.1 fP.2.2.2.2.2 fP.1 ⟨(show 2<=sizeLine by decide),[ds[i].key,ds[i].val],.cons (by rw[hka]; rfl) (.cons hva .nil),⟨_,hp2,U,_,U⟩⟩
  refine⟨.ref s.heap.objs.size,_,I2,U,⟨_,a,kvs[i],U,fP.1,U,getElem?_eq_getElem hi,hta⟩,⟨_,_,st2⟩,fun c hcm=>?_⟩
  obtain rfl:c=it:=by simpa using hcm
  rw[av (Ne.symm pz)]
  exact(hf c hcm).1
 done:=by
  intro X hP hw hK hc i pins s σ H E I hf st hg
  subst hP hw hK
  obtain⟨e,hi⟩:=hg
  obtain⟨e1,g,sz,gt⟩:=kK I.hok e hep
  obtain⟨f0,f1,f2,f3,f4,f5⟩:=hf it (by simp)
  obtain⟨oa,ob,st0⟩:=st
  exact It.done (I.ok.hd hc) st0 g (by omega) fun h' eb=>⟨U,I.turned (t':=s.toks) (fun b o hb e=>eb b o hb e) f0 f1 f3 f4 f5⟩
 self:=fun A _ s Q E ⟨oa,ob,st⟩ h=>by
  have hT:s.TypeIs (.ref it) "dict_itemiterator":=⟨_,st,U⟩
  exact wpAny_pyIter_slot hT PySem.F.slot_dict_itemiterator_iter (wpAny_call_entry PySem.F.slot_dict_itemiterator_iter hT et (show wpAny _ _ (ret (.ref it)) _ _ s from wpAny_pure ⟨_,U,"dict_itemiterator",_,hT,F.slot_dict_itemiterator_next.lookup,h⟩) (PySem.F.args_dict_itemiterator_iter_1 _))
noncomputable def lQ (td:TE):TI:=fun σ H R=>td σ H fun x H1=>∃ d kvs,x=.ref d/\H1 d=some (.dT kvs)/\∀ o,R (Itj d o kvs) (upd H1 d (.frz o (.dT kvs)))
theorem jb {X:Cx}{es:List Expr} {x1} {tpos apos cpos:Pos}{l:Expr}{tl:TE} (hl:PE X l tl) (hb:attributeBase l "items" X.env (eval l X.env)=eval l X.env:=by rfl) (hline:(apos.endLine == cpos.line)=true:=by rfl):PI X (.Tuple es x1 tpos) (.Call (.Attribute l "items" apos) [] [] cpos) (lQ tl):=by
 intro pins s σ H R I h
 refine wpAny_Call_method (T := "dict") (id := "dict.items") hb rfl hline F.plainAttrs_dict F.slot_dict_items F.type_dict_items (thn (hl pins s σ H _ I h) fun v s1 z_=>z_.elim fun x z_=>z_.elim fun H1 z_=>z_.elim fun I1 z_=>z_.elim fun r1 q1=>?_)
 obtain⟨d,kvs,e,ed,q⟩:=q1
 subst e
 cases r1
 obtain⟨t1,t2,_⟩:=kC I1 (.inr ⟨kvs,.inl ed⟩)
 obtain⟨o,ds,ep,eo,hep,lo,I2⟩:=I1.freezeT ed
 have fz:upd H1 d (.frz o (.dT kvs)) d=some (.frz o (.dT kvs)):=bw ..
 obtain⟨_,g,sz,_⟩:=kK I2.hok fz hep
 refine⟨t1,t2,?_⟩
 refine(show wpAny _ _ (callWith cpos (.builtin "dict.items") [.ref d] [] []) _ _ s1 from method_meetsIn F.slot_dict_items F.entry_dict_items rfl (PySem.evalArgs_none ⟨U,g.ty,F.args_dict_items_1 _,_,It.view lo,⟨_,_,g⟩,?_⟩))
 obtain⟨h2,eh2⟩:∃ h2,s1.heap.push { cls:=.type "dict_items",data:=.fields #[.ref d] }=h2:=⟨_,U⟩
 have sz2:h2.objs.size=s1.heap.objs.size+1:=by rw[<- eh2]; exact Heap.size_push ..
 have k2:∀ b o,s1.heap.get? b=some o->h2.get? b=some o:=fun b o e=>by rw[<- eh2]; exact Heap.get?_push_of_some _ e
 have hv:h2.IsItemsView s1.heap.objs.size d:=by rw[<- eh2]; exact⟨_,Heap.get?_push_size _ rfl,U,U⟩
 rw[eh2]
 refine It.iter (s:={ s1 with heap:=h2 }) hv (g.to fun o e=>k2 d o e) ?_
 have ld:d<s1.heap.objs.size:=Heap.lt_size eo
 have hge:s1.heap.objs.size<=h2.objs.size:=by rw[sz2]; exact Nat.le_succ _
 have hne:h2.objs.size≠d:=Nat.ne_of_gt (Nat.lt_of_lt_of_le ld hge)
 refine⟨h2.objs.size,[h2.objs.size],_,_,_,U,I2.kept (t':=s1.toks) fun b o e=>Heap.get?_push_of_some _ (k2 b o e),f7 d _ o kvs ds ep hep,⟨_,_,Heap.get?_push_size _ rfl⟩,fun b hb=>?_,q o⟩
 obtain rfl:b=h2.objs.size:=by simpa using hb
 refine I1.fpOk hge ?_
 rw[av hne]
 exact I1.hok.fresh hge
theorem hU {d:Addr}{o:Obj}{kvs:List (List Key×V)}{g:TG}{tb:TS}{D:Ends}{σ:St}{H:Hp} (Pv:Nat->St->Hp->Prop) (h0:Pv 0 σ H) (hl:∀ i σ H,i<=kvs.length->Pv i σ H->H d=some (.frz o (.dT kvs)))
  (hs:∀ i kv pp a σ H,kvs[i]?=some kv->H pp=none->H a=some (.tup (kv.1.map kV))->Pv i σ H->g (.ref pp) σ (upd H pp (.tup [.ref a,kv.2])) fun σ2 H2=>tb { D with nx:=Pv (i+1),ct:=Pv (i+1),bk:=D.nx } σ2 H2) (hd:∀ σ H,Pv kvs.length σ H->D.nx σ H) :
  ∃ W:Nat->Nat->St->Hp->Prop,(∃ m,W 0 m σ H)/\∀ i m σ H,W i m σ H ->
   ((Itj d o kvs).stop i H/\D.nx σ H)∨((Itj d o kvs).go i H/\∃ N:St->Hp->Prop,(∀ σ' H',N σ' H'->∃ m',m'<m/\W (i+1) m' σ' H')/\∀ x H',(Itj d o kvs).yld i H x H'->g x σ H' fun σ2 H2=>tb { D with nx:=N,ct:=N,bk:=D.nx } σ2 H2):=by
 refine⟨fun i m σ H=>m=kvs.length - i/\i<=kvs.length/\Pv i σ H,⟨kvs.length,by simp,Nat.zero_le _,h0⟩,?_⟩
 rintro i m σ H ⟨rfl,hi,p⟩
 have q:=hl i σ H hi p
 by_cases hlt:i<kvs.length
 ·refine .inr ⟨⟨q,hlt⟩,Pv (i+1),fun σ' H' p'=>⟨kvs.length - (i+1),by omega,U,hlt,p'⟩,fun x H' y=>?_⟩
  obtain⟨pp,a,kv,ex,hn,e,hk,ha⟩:=y
  subst e ex
  exact hs i kv pp a σ _ hk hn ha p
 ·have e:i=kvs.length:=by omega
  subst e
  exact .inl ⟨⟨q,Nat.le_refl _⟩,hd σ H p⟩
end L2
set_option Elab.async false
set_option linter.all false
set_option maxRecDepth 100000
set_option maxHeartbeats 4000000
namespace P
open PySem L2
noncomputable def msS:Setoid Kn:=⟨List.Perm,⟨List.Perm.refl,List.Perm.symm,List.Perm.trans⟩⟩
noncomputable def Ms:Type:=Quotient msS
noncomputable def Ms.mk (l:Kn):Ms:=Quotient.mk msS l
noncomputable def Ms.one (z:Addr×HO):Ms:=Ms.mk [z]
noncomputable def Ms.zero:Ms:=Ms.mk []
noncomputable def Ms.add:Ms->Ms->Ms:=Quotient.lift₂ (s₁:=msS) (s₂:=msS) (fun x y=>Ms.mk (x++y)) (fun _ _ _ _ h1 h2=>Quotient.sound (s:=msS) (List.Perm.append h1 h2))
theorem Ms.app (a b:Kn):Ms.mk (a++b)=(Ms.mk a).add (Ms.mk b):=rfl
theorem Ms.cons (z:Addr×HO) (b:Kn):Ms.mk (z::b)=(Ms.one z).add (Ms.mk b):=rfl
theorem Ms.nil:Ms.mk []=Ms.zero:=rfl
theorem Ms.zl (a:Ms):Ms.zero.add a=a:=by
 induction a using Quotient.ind with | _ x=>rfl
theorem Ms.zr (a:Ms):a.add Ms.zero=a:=by
 induction a using Quotient.ind with | _ x=>exact congrArg Ms.mk (append_nil x)
instance:Std.Associative Ms.add:=⟨fun a b c=>by
 induction a using Quotient.ind with | _ x=>induction b using Quotient.ind with | _ y=>induction c using Quotient.ind with | _ z=>exact congrArg Ms.mk (append_assoc x y z)⟩
instance:Std.Commutative Ms.add:=⟨fun a b=>by
 induction a using Quotient.ind with | _ x=>induction b using Quotient.ind with | _ y=>exact Quotient.sound (s:=msS) (List.perm_append_comm (l₁:=x) (l₂:=y))⟩
theorem Ms.perm {a b:Kn} (h:Ms.mk a=Ms.mk b):a.Perm b:=Quotient.exact h
theorem Has.ac {H:Hp}{a b:Kn} (h:Has H a) (e:Ms.mk a=Ms.mk b):Has H b:=h.perm (Ms.perm e)
noncomputable def Al (y:YR) (l:List (Int×Int)):Prop:=l.Nodup/\∀ x ∈ l,Fr y x
theorem Al.perm {y:YR}{l l':List (Int×Int)} (h:Al y l) (p:l.Perm l'):Al y l':=⟨p.nodup_iff.mp h.1,fun x hx=>h.2 x (p.mem_iff.mpr hx)⟩
theorem Al.sub {y:YR}{l l':List (Int×Int)} (h:Al y l) (p:l'.Sublist l):Al y l':=⟨h.1.sublist p,fun x hx=>h.2 x (p.subset hx)⟩
theorem Al.tail {y:YR}{a:Int×Int}{l:List (Int×Int)} (h:Al y (a::l)):Al y l:=h.sub (List.sublist_cons_self _ _)
theorem Al.lay2 {y:YR}{N M R:Nat} (h:Ld y N M R) {l:List (Int×Int)} (g:Al y l) (k:Kd) (note:Int) (rod:V) (hk:k.many=2):Al (bC y k note rod) (((N:Int),0)::((N:Int),1)::l):=by
 refine⟨List.nodup_cons.mpr ⟨fun c=>?_,List.nodup_cons.mpr ⟨fun c=>(g.2 _ c).ne h rfl,g.1⟩⟩,fun x hx=>?_⟩
 ·rcases mem_cons.mp c with c | c
  ·exact dY (by decide) c
  ·exact(g.2 _ c).ne h rfl
 ·rcases mem_cons.mp hx with rfl | hx
  ·exact Fr.new h k note rod (Int.le_refl _) (by rw[hk]; decide)
  ·rcases mem_cons.mp hx with rfl | hx
   ·exact Fr.new h k note rod (by decide) (by rw[hk]; decide)
   ·exact(g.2 x hx).lay h k note rod
theorem Al.lay3 {y:YR}{N M R:Nat} (h:Ld y N M R) {l:List (Int×Int)} (g:Al y l) (k:Kd) (note:Int) (rod:V) (hk:k.many=3):Al (bC y k note rod) (((N:Int),0)::((N:Int),1)::((N:Int),2)::l):=by
 have n0:∀ e:Int,((N:Int),e) ∉ l:=fun e c=>(g.2 _ c).ne h rfl
 refine⟨List.nodup_cons.mpr ⟨fun c=>?_,List.nodup_cons.mpr ⟨fun c=>?_,List.nodup_cons.mpr ⟨n0 2,g.1⟩⟩⟩,fun x hx=>?_⟩
 ·rcases mem_cons.mp c with c | c
  ·exact dY (by decide) c
  ·rcases mem_cons.mp c with c | c
   ·exact dY (by decide) c
   ·exact n0 0 c
 ·rcases mem_cons.mp c with c | c
  ·exact dY (by decide) c
  ·exact n0 1 c
 ·rcases mem_cons.mp hx with rfl | hx
  ·exact Fr.new h k note rod (Int.le_refl _) (by rw[hk]; decide)
  ·rcases mem_cons.mp hx with rfl | hx
   ·exact Fr.new h k note rod (by decide) (by rw[hk]; decide)
   ·rcases mem_cons.mp hx with rfl | hx
    ·exact Fr.new h k note rod (by decide) (by rw[hk]; decide)
    ·exact(g.2 x hx).lay h k note rod
theorem Al.link {y:YR}{a b:Pr}{l:List (Int×Int)} (g:Al y (a.2::b.2::l)):Al (cV y a b) l:=by
 obtain⟨n1,n2⟩:=List.nodup_cons.mp g.1
 obtain⟨n3,n4⟩:=List.nodup_cons.mp n2
 exact⟨n4,fun x hx=>(g.2 x (mem_cons_of_mem _ (mem_cons_of_mem _ hx))).link (fun c=>n1 (by rw[<- c]; exact mem_cons_of_mem _ hx)) (fun c=>n3 (by rw[<- c]; exact hx))⟩
theorem Al.ne {y:YR}{a b:Int×Int}{l:List (Int×Int)} (g:Al y (a::b::l)):a≠b:=fun c=>(List.nodup_cons.mp g.1).1 (by rw[c]; exact mem_cons_self)
structure WS where
 p:Addr
 dx:Addr
 td:Addr
 ts:Addr
 tc:Addr
 D:List ((Int×Int)×Addr×List Pr)
 S:List (Addr×List (Addr×Pr×Pr))
 T:List (Addr×List Pr)
noncomputable def wfl (W:WS):List (Str×V):=[("to_doors",.ref W.td),("to_stretches",.ref W.ts),("to_callers",.ref W.tc)]
noncomputable abbrev dkv (D:List ((Int×Int)×Addr×List Pr)):List (List Key×V):=D.map fun z=>(kE z.1.1 z.1.2,V.ref z.2.1)
noncomputable abbrev wD (D:List ((Int×Int)×Addr×List Pr)):Kn:=D.map fun z=>(z.2.1,HO.lst (prV z.2.2))
noncomputable abbrev wS (S:List (Addr×List (Addr×Pr×Pr))):Kn:=S.map fun z=>(z.1,HO.lst (z.2.map fun c=>V.ref c.1))
noncomputable abbrev wT (T:List (Addr×List Pr)):Kn:=T.map fun z=>(z.1,HO.lst (prV z.2))
noncomputable abbrev w5 (C:Addr) (W:WS):Kn:=[(W.p,.ins C W.dx (wfl W)),(W.dx,.own W.p),(W.td,.dT (dkv W.D)),(W.ts,.lst (W.S.map fun z=>V.ref z.1)),(W.tc,.lst (W.T.map fun z=>V.ref z.1))]
noncomputable def wL (C:Addr) (W:WS):Kn:=w5 C W++(wD W.D++(wS W.S++wT W.T))
theorem mi (W:WS):(wfl W).lookup ("to_doors" : Str)=some (.ref W.td):=by kernel_rfl
theorem mf (W:WS):(wfl W).lookup ("to_stretches" : Str)=some (.ref W.ts):=by kernel_rfl
theorem jw (W:WS):(wfl W).lookup ("to_callers" : Str)=some (.ref W.tc):=by kernel_rfl
theorem mh (W:WS):(wfl W).lookup ("lead" : Str)=none:=by kernel_rfl
noncomputable def dE (D:List ((Int×Int)×Addr×List Pr)):List (Int×Int):=D.flatMap fun z=>z.2.2.map (·.2)
noncomputable def sE (S:List (Addr×List (Addr×Pr×Pr))):List (Int×Int):=S.flatMap fun z=>z.2.map fun c=>c.2.1.2
noncomputable def tE (T:List (Addr×List Pr)):List (Int×Int):=T.flatMap fun z=>z.2.map (·.2)
noncomputable def WS.pend (W:WS):List (Int×Int):=dE W.D++(sE W.S++tE W.T)
noncomputable def WS.dn (W:WS):Nat:=(dE W.D).length
noncomputable def WS.sn (W:WS):Nat:=(sE W.S).length
noncomputable def WS.tn (W:WS):Nat:=(tE W.T).length
structure WOk (W:WS) (L:Kn) (Pl:Int×Int->Prop):Prop where
 kd:(W.D.map (·.1)).Nodup
 ne:∀ z ∈ W.D,z.2.2≠[]
 pd:∀ z ∈ W.D,Pl z.1
 eD:∀ z ∈ W.D,∀ x ∈ z.2.2,pK2 x ∈ L
 eS:∀ z ∈ W.S,∀ c ∈ z.2,(c.1,HO.tup [.ref c.2.1.1,.ref c.2.2.1]) ∈ L/\pK2 c.2.1 ∈ L/\pK2 c.2.2 ∈ L/\Pl c.2.2.2
 eT:∀ z ∈ W.T,∀ x ∈ z.2,pK2 x ∈ L
theorem WOk.mono {W:WS}{L L':Kn}{Pl:Int×Int->Prop} (h:WOk W L Pl) (s:∀ z ∈ L,z ∈ L'):WOk W L' Pl :=
 ⟨h.kd,h.ne,h.pd,fun z hz x hx=>s _ (h.eD z hz x hx),fun z hz c hc=>⟨s _ (h.eS z hz c hc).1,s _ (h.eS z hz c hc).2.1,s _ (h.eS z hz c hc).2.2.1,(h.eS z hz c hc).2.2.2⟩,fun z hz x hx=>s _ (h.eT z hz x hx)⟩
theorem kQ:∀ {D:List ((Int×Int)×Addr×List Pr)},(∀ z ∈ D,z.2.2≠[])->D.length<=(dE D).length
 | [],_=>Nat.le_refl _
 | z::r,h=>by
  have h1:=kQ (D:=r) fun x hx=>h x (mem_cons_of_mem _ hx)
  have h2:0<z.2.2.length:=List.length_pos_iff.mpr (h z mem_cons_self)
  unfold dE at h1 ⊢
  rw[List.flatMap_cons,length_append,length_map,length_cons]
  omega
theorem hV {α β:Type}{f:α->List β}{l:List α}{i:Nat}{z:α} (h:l[i]?=some z):(f z).length<=(l.flatMap f).length:=by
 have:=mem_of_getElem? h
 obtain⟨a,b,rfl⟩:=List.append_of_mem this
 rw[List.flatMap_append,List.flatMap_cons,length_append,length_append]
 omega
theorem fV {α β:Type}{f:α->List β}{l:List α}{i:Nat}{z z':α}{x:β} (h:l[i]?=some z) (e:f z'=f z++[x]):((l.set i z').flatMap f).Perm (x::l.flatMap f):=by
 induction l generalizing i with
 | nil=>cases h
 | cons a r ih=>
  cases i with
  | zero=>
   cases h
   rw[List.set_cons_zero,List.flatMap_cons,List.flatMap_cons,e,append_assoc]
   exact List.perm_middle
  | succ i=>
   rw[List.set_cons_succ,List.flatMap_cons,List.flatMap_cons]
   exact(List.Perm.append_left _ (ih h)).trans List.perm_middle
theorem YIn.of {C:Addr}{H:Hp}{A:YA}{y:YR}{X L:Kn} (h:Has H (X++(yL C A y++L))):YIn C H A.p y (X++L) :=
 ⟨A,U,h.perm (by rw[<- append_assoc,<- append_assoc]; exact List.Perm.append_right _ List.perm_append_comm)⟩
noncomputable def jK (C:Addr):Sp:=fun vs H Q _=>∃ (p dx:Addr) (L:Kn) (m:Nat),vs=[.ref p,.int m]/\Has H ((p,.ins C dx [])::(dx,.own p)::L)/\m<=1000 /\
 ∀ H' (W:WS),W.p=p->W.D=[]->W.S.length=m->W.T.length=m->(∀ z ∈ W.S,z.2=[])->(∀ z ∈ W.T,z.2=[])->Has H' (wL C W++L)->Q .non H'
noncomputable def inD (D:List ((Int×Int)×Addr×List Pr)) (pl:Int×Int) (x:Pr):Prop:=∃ z ∈ D,z.1=pl/\x ∈ z.2.2
structure Led (D D':List ((Int×Int)×Addr×List Pr)) (e:Pr) (pl:Int×Int):Prop where
 pm:(dE D').Perm (e.2::dE D)
 kd:(D'.map (·.1)).Nodup
 ne:∀ z ∈ D',z.2.2≠[]
 pk:∀ z ∈ D',z.1=pl∨z.1 ∈ D.map (·.1)
 io:∀ q x,inD D' q x↔inD D q x∨(q=pl/\x=e)
noncomputable def im (C:Addr):Sp:=fun vs H Q _=>∃ (W:WS) (L:Kn) (e:Pr) (b:Addr) (pl:Int×Int),vs=[.ref W.p,.ref e.1,.ref b]/\Has H (wL C W++L)/\pK2 (b,pl) ∈ L/\(W.D.map (·.1)).Nodup/\(∀ z ∈ W.D,z.2.2≠[])/\W.dn<=5000 /\
 ∀ H' D',Led W.D D' e pl->Has H' (wL C { W with D:=D' }++L)->Q .non H'
theorem Led.new {D:List ((Int×Int)×Addr×List Pr)}{e:Pr}{pl:Int×Int}{l:Addr} (kd:(D.map (·.1)).Nodup) (ne:∀ z ∈ D,z.2.2≠[]) (h:pl ∉ D.map (·.1)):Led D (D++[(pl,l,[e])]) e pl:=by
 refine⟨?_,?_,fun z hz=>?_,fun z hz=>?_,fun q x=>⟨fun⟨z,hz,h1,h2⟩=>?_,fun h=>?_⟩⟩
 ·unfold dE
  rw[List.flatMap_append]
  exact List.perm_append_comm
 ·rw[map_append]
  exact List.nodup_append.mpr ⟨kd,by simp,fun x hx y hy c=>h ((show y=pl by simpa using hy) ▸ c ▸ hx)⟩
 ·rcases mem_append.mp hz with hz | hz
  ·exact ne z hz
  ·rw[mem_singleton.mp hz]; simp
 ·rcases mem_append.mp hz with hz | hz
  ·exact .inr (mem_map_of_mem hz)
  ·rw[mem_singleton.mp hz]; exact .inl rfl
 ·rcases mem_append.mp hz with hz | hz
  ·exact .inl ⟨z,hz,h1,h2⟩
  ·rw[mem_singleton.mp hz] at h1 h2
   exact .inr ⟨h1.symm,by simpa using h2⟩
 ·rcases h with ⟨z,hz,h1,h2⟩ | ⟨rfl,rfl⟩
  ·exact⟨z,mem_append_left _ hz,h1,h2⟩
  ·exact⟨_,mem_append_right _ mem_cons_self,U,by simp⟩
theorem Led.old {D:List ((Int×Int)×Addr×List Pr)}{e:Pr}{i:Nat}{z:(Int×Int)×Addr×List Pr} (kd:(D.map (·.1)).Nodup) (ne:∀ z ∈ D,z.2.2≠[]) (h:D[i]?=some z):Led D (D.set i (z.1,z.2.1,z.2.2++[e])) e z.1:=by
 have hi:=(List.getElem?_eq_some_iff.mp h).1
 have hm:=mem_of_getElem? h
 have ek:(D.set i (z.1,z.2.1,z.2.2++[e])).map (·.1)=D.map (·.1):=by
  rw[List.map_set]
  refine List.ext_getElem? fun j=>?_
  rw[List.getElem?_set]
  split
  ·rename_i c
   subst c
   rw[if_pos (by rw[length_map]; exact hi),getElem?_map,h]; rfl
  ·rfl
 refine⟨fV h (by rw[map_append]; rfl),by rw[ek]; exact kd,fun x hx=>?_,fun x hx=>?_,fun q x=>⟨fun⟨u,hu,h1,h2⟩=>?_,fun g=>?_⟩⟩
 ·rcases List.mem_or_eq_of_mem_set hx with hx | rfl
  ·exact ne x hx
  ·simp
 ·exact .inr (by rw[<- ek]; exact mem_map_of_mem hx)
 ·rcases List.mem_or_eq_of_mem_set hu with hu | rfl
  ·exact .inl ⟨u,hu,h1,h2⟩
  ·rcases mem_append.mp h2 with h2 | h2
   ·exact .inl ⟨z,hm,h1,h2⟩
   ·exact .inr ⟨h1.symm,mem_singleton.mp h2⟩
 ·have new:(z.1,z.2.1,z.2.2++[e]) ∈ D.set i (z.1,z.2.1,z.2.2++[e]):=List.mem_iff_getElem?.mpr ⟨i,by rw[List.getElem?_set,if_pos rfl,if_pos hi]⟩
  rcases g with ⟨u,hu,h1,h2⟩ | ⟨rfl,rfl⟩
  ·obtain⟨j,hj⟩:=List.mem_iff_getElem?.mp hu
   by_cases c:i=j
   ·subst c
    rw[h] at hj
    cases hj
    exact⟨_,new,h1,mem_append_left _ h2⟩
   ·exact⟨u,List.mem_iff_getElem?.mpr ⟨j,by rw[List.getElem?_set,if_neg c]; exact hj⟩,h1,h2⟩
  ·exact⟨_,new,U,by simp⟩
theorem fJ {D:List ((Int×Int)×Addr×List Pr)}{pl:Int×Int} (h:aM (dkv D) (kE pl.1 pl.2)=none):pl ∉ D.map (·.1):=fun c=>by
 induction D with
 | nil=>cases c
 | cons z r ih=>
  by_cases e:kE z.1.1 z.1.2=kE pl.1 pl.2
  ·have h:aM ((kE z.1.1 z.1.2,V.ref z.2.1)::dkv r) (kE pl.1 pl.2)=none:=h
   rw[bg e] at h; cases h
  ·have h:aM ((kE z.1.1 z.1.2,V.ref z.2.1)::dkv r) (kE pl.1 pl.2)=none:=h
   rw[bh e] at h
   rcases mem_cons.mp c with c | c
   ·exact e (by rw[c])
   ·exact ih h c
theorem fI {D:List ((Int×Int)×Addr×List Pr)}{pl:Int×Int}{v:V} (h:aM (dkv D) (kE pl.1 pl.2)=some v):∃ (i:Nat) (z:(Int×Int)×Addr×List Pr),D[i]?=some z/\z.1=pl/\v=.ref z.2.1:=by
 induction D with
 | nil=>cases h
 | cons z r ih=>
  by_cases e:kE z.1.1 z.1.2=kE pl.1 pl.2
  ·have h:aM ((kE z.1.1 z.1.2,V.ref z.2.1)::dkv r) (kE pl.1 pl.2)=some v:=h
   rw[bg e] at h; cases h
   exact⟨0,z,U,cY e,U⟩
  ·have h:aM ((kE z.1.1 z.1.2,V.ref z.2.1)::dkv r) (kE pl.1 pl.2)=some v:=h
   rw[bh e] at h
   obtain⟨i,u,h1,h2,h3⟩:=ih h
   exact⟨i+1,u,h1,h2,h3⟩
theorem spl {α:Type}{l:List α}{i:Nat}{z:α} (h:l[i]?=some z):∃ a b,l=a++z::b/\∀ z',l.set i z'=a++z'::b:=by
 induction l generalizing i with
 | nil=>cases h
 | cons x r ih=>
  cases i with
  | zero=>cases h; exact⟨[],r,U,fun _=>rfl⟩
  | succ i=>
   obtain⟨a,b,e,f⟩:=ih h
   exact⟨x::a,b,by rw[e]; rfl,fun z'=>by rw[List.set_cons_succ,f]; rfl⟩
theorem hmid {H:Hp}{X Y:Kn}{a:Addr}{o:HO} (h:Has H (X++(a,o)::Y)) (o':HO):Has (upd H a o') (X++(a,o')::Y) :=
 ((h.perm List.perm_middle).puti 0 U o').perm List.perm_middle.symm
theorem lV {D a b:List ((Int×Int)×Addr×List Pr)}{z z':(Int×Int)×Addr×List Pr} (e:D=a++z::b) (e1:z'.1=z.1) (e2:z'.2.1=z.2.1):dkv (a++z'::b)=dkv D:=by
 rw[e]
 show(a++z'::b).map _=(a++z::b).map _
 rw[map_append,map_append,map_cons,map_cons,e1,e2]
section
variable {P:Program}{w:World}{K:PySem.W.Frag}{mg:Str->Option Value}{base:Heap}{t:Adr}
theorem scWl:FnScope ["self","end","place"] ["self","end","place"] (ai o8):={}
theorem mW (T:Txt K mg t):FnOk P w K mg base CX0 1 t.f_Jx t.d_Jx ["self","end","place"] (im t.c_Ways):=by
 refine T.F_Jx.ok scWl (fun vs H Q E h=>?_) (fun cdv A outer s H vs Q E hr h=>?_)
 ·obtain⟨_,_,_,_,_,rfl,_⟩:=h
  rfl
 ·obtain⟨W,L,e,b,pl,rfl,hH,mb,kd,ne,bd,q⟩:=h
  have hu:=fA hr
  refine⟨_,(ah (ak (b6 PySem.F.plainAttrs_list PySem.F.slot_list_append PySem.F.type_list_append aT (j9 hu (aD (pv 0) rfl) (pv 2) (aR af) ⟨U,U,U,U⟩) (aa (pv 1) af)))),?_⟩
  rw[show L2.start ["self","end","place"] [V.ref W.p,V.ref e.1,V.ref b]=([some (V.ref W.p),some (V.ref e.1),some (V.ref b)]:St) from rfl]
  refine⟨_,U,W.p,_,W.dx,_,_,U,hH.get 0 U,T.cl_Ways,T.n_Ways_to_doors,mi _,W.td,U,.inr ⟨_,.inl (hH.get 2 U)⟩,_,U,by decide,fun l hl=>?_⟩
  have h1:=hH.alloc hl (.lst [])
  have dl:=Nat.le_trans (kQ ne) bd
  have gb:=h1.at_ _ (mem_cons_of_mem _ (mem_append_right _ mb))
  refine⟨b,_,kE pl.1 pl.2,U,h1.get 3 U,gb,sizeOk (by show(W.D.map _).length<=1000000; rw[length_map]; omega),fun v hv=>?_,fun hn=>?_⟩
  ·obtain⟨i,z,hz,rfl,rfl⟩:=fI hv
   have gz:=h1.at_ (z.2.1,HO.lst (prV z.2.2)) (mem_cons_of_mem _ (mem_append_left _ (mem_append_right _ (mem_append_left _ (mem_map_of_mem (f:=fun z:(Int×Int)×Addr×List Pr=>(z.2.1,HO.lst (prV z.2.2))) (mem_of_getElem? hz))))))
   have lz:(prV z.2.2).length<=5000:=by
    have:=hV (f:=fun z:(Int×Int)×Addr×List Pr=>z.2.2.map (·.2)) hz
    rw[length_map] at this
    unfold prV
    rw[length_map]
    exact Nat.le_trans this bd
   refine⟨.inl ⟨U,_,SqL.of gz⟩,_,U,z.2.1,_,_,U,U,gz,sizeOk (by omega),?_⟩
   have er:prV z.2.2++[.ref e.1]=prV (z.2.2++[e]):=by unfold prV; rw[map_append]; rfl
   rw[er]
   refine q _ _ (Led.old kd ne hz) ?_
   obtain⟨d1,d2,eD,eS⟩:=spl hz
   rw[eS]
   have h2:=dh h1.tail (show wL t.c_Ways W++L=(w5 t.c_Ways W++wD d1)++(z.2.1,HO.lst (prV z.2.2))::(wD d2++(wS W.S++(wT W.T++L))) by
    unfold wL
    rw[show wD W.D=wD d1++(z.2.1,HO.lst (prV z.2.2))::wD d2 by rw[eD]; show(d1++z::d2).map _=_; rw[map_append,map_cons]]
    simp only[append_assoc,List.cons_append])
   have h3:=hmid h2 (.lst (prV (z.2.2++[e])))
   unfold wL
   have e5:w5 t.c_Ways { W with D:=d1++(z.1,z.2.1,z.2.2++[e])::d2 }=w5 t.c_Ways W:=by
    show [_,_,(W.td,HO.dT (dkv (d1++(z.1,z.2.1,z.2.2++[e])::d2))),_,_]=_
    rw[lV (z':=(z.1,z.2.1,z.2.2++[e])) eD rfl rfl]
    rfl
   rw[e5,show wD (d1++(z.1,z.2.1,z.2.2++[e])::d2)=wD d1++(z.2.1,HO.lst (prV (z.2.2++[e])))::wD d2 by show(d1++(z.1,z.2.1,z.2.2++[e])::d2).map _=_; rw[map_append,map_cons]]
   simpa only [append_assoc,List.cons_append] using h3
  ·have np:=fJ hn
   have h2:=h1.puti 3 U (.dT (aI (dkv W.D) (kE pl.1 pl.2) (.ref l)))
   refine⟨.inl ⟨U,_,SqL.of (h2.get 0 U)⟩,_,U,l,_,_,U,U,h2.get 0 U,sizeOk (by decide),?_⟩
   refine q _ _ (Led.new (l:=l) kd ne np) ?_
   have h3:=h2.puti 0 U (.lst (prV [e]))
   unfold wL
   have e5:w5 t.c_Ways { W with D:=W.D++[(pl,l,[e])] }=[(W.p,.ins t.c_Ways W.dx (wfl W)),(W.dx,.own W.p),(W.td,.dT (aI (dkv W.D) (kE pl.1 pl.2) (.ref l))),(W.ts,.lst (W.S.map fun z=>V.ref z.1)),(W.tc,.lst (W.T.map fun z=>V.ref z.1))]:=by
    rw[L2.putK_new _ hn]
    show [_,_,(W.td,HO.dT (dkv (W.D++[(pl,l,[e])]))),_,_]=_
    rw[show dkv (W.D++[(pl,l,[e])])=dkv W.D++[(kE pl.1 pl.2,.ref l)] by show(W.D++[(pl,l,[e])]).map _=_; rw[map_append]; rfl]
    rfl
   rw[e5,show wD (W.D++[(pl,l,[e])])=wD W.D++[(l,HO.lst (prV [e]))] by show(W.D++[(pl,l,[e])]).map _=_; rw[map_append]; rfl]
   have h4:=dh h3 (show _=(l,HO.lst (prV [e]))::(([(W.p,HO.ins t.c_Ways W.dx (wfl W)),(W.dx,.own W.p),(W.td,.dT (aI (dkv W.D) (kE pl.1 pl.2) (.ref l))),(W.ts,.lst (W.S.map fun z=>V.ref z.1)),(W.tc,.lst (W.T.map fun z=>V.ref z.1))]++wD W.D)++((wS W.S++wT W.T)++L)) by
    show(l,HO.lst (prV [e]))::([(W.p,HO.ins t.c_Ways W.dx (wfl W)),(W.dx,.own W.p),(W.td,.dT (aI (dkv W.D) (kE pl.1 pl.2) (.ref l))),(W.ts,.lst (W.S.map fun z=>V.ref z.1)),(W.tc,.lst (W.T.map fun z=>V.ref z.1))]++(wD W.D++(wS W.S++wT W.T))++L)=_
    simp only[append_assoc,List.cons_append,List.nil_append])
   have h5:=h4.perm (List.perm_middle (l₁:=([(W.p,HO.ins t.c_Ways W.dx (wfl W)),(W.dx,.own W.p),(W.td,.dT (aI (dkv W.D) (kE pl.1 pl.2) (.ref l))),(W.ts,.lst (W.S.map fun z=>V.ref z.1)),(W.tc,.lst (W.T.map fun z=>V.ref z.1))]++wD W.D)) (l₂:=(wS W.S++wT W.T)++L)).symm
   refine dh h5 ?_
   simp only[append_assoc,List.cons_append,List.nil_append]
end
theorem kX {α:Type}{P:α->Prop}{l:List α}{x:α} (h:∀ z ∈ l,P z) (hx:P x):∀ z ∈ l++[x],P z:=fun z hz=>by
 rcases mem_append.mp hz with hz | hz
 ·exact h z hz
 ·rw[mem_singleton.mp hz]; exact hx
section
variable {P:Program}{w:World}{K:PySem.W.Frag}{mg:Str->Option Value}{base:Heap}{t:Adr}
theorem scWi:FnScope ["self","many"] ["self","many"] (ai lA):={}
theorem ok_Jt (T:Txt K mg t):FnOk P w K mg base CX0 1 t.f_Jt t.d_Jt ["self","many"] (jK t.c_Ways):=by
 refine T.F_Jt.ok scWi (fun vs H Q E h=>?_) (fun cdv A outer s H vs Q E hr h=>?_)
 ·obtain⟨_,_,_,_,rfl,_⟩:=h
  rfl
 ·obtain⟨p,dx,L,m,rfl,hH,bm,q⟩:=h
  refine⟨_,(ae (aZ (pv 0) dR rfl)
   (ae (aZ (pv 0) (fg (esc:=ai lA) (k:=1) ["stretch","self","many"] rfl (a9 (by rfl) T.z_range (aa (pv 1) af)) (fun _ _ _ _ _=>by exact(am (i:=0) (show List.Nodup (["stretch","self","many"]:List Str) from by decide +kernel) rfl (Or.inl rfl))) (fun _ _ _ _ _=>by exact bI) (fun _ _ _ _ _=>by exact(aR af)) rfl (by decide +kernel) (by decide +kernel) rfl (by decide +kernel) (by rfl) (fun _ _ h _=>h) (by decide +kernel)) rfl)
   (ah (aZ (pv 0) (fg (esc:=ai lA) (k:=1) ["stretch","self","many"] rfl (a9 (by rfl) T.z_range (aa (pv 1) af)) (fun _ _ _ _ _=>by exact(am (i:=0) (show List.Nodup (["stretch","self","many"]:List Str) from by decide +kernel) rfl (Or.inl rfl))) (fun _ _ _ _ _=>by exact bI) (fun _ _ _ _ _=>by exact(aR af)) rfl (by decide +kernel) (by decide +kernel) rfl (by decide +kernel) (by rfl) (fun _ _ h _=>h) (by decide +kernel)) rfl)))),?_⟩
  rw[show L2.start ["self","many"] [V.ref p,V.int m]=([some (V.ref p),some (V.int m)]:St) from rfl]
  intro td htd
  have h1:=hH.alloc htd (.dT [])
  refine⟨_,U,p,_,dx,_,U,h1.get 1 U,T.cl_Ways,T.n_Ways_to_doors,(show 0<1000 by decide),?_⟩
  have h2:=h1.puti 1 U (.ins t.c_Ways dx [("to_doors",.ref td)])
  refine⟨_,U,_,U,by omega,by omega,fun ts hts=>?_⟩
  refine⟨fun i k zs H'=>k=m - i/\i<=m/\∃ S:List (Addr×List (Addr×Pr×Pr)),zs=S.map (fun z=>V.ref z.1)/\S.length=i/\(∀ z ∈ S,z.2=[])/\Has H' ((ts,.lst zs)::(wS S++((td,.dT [])::(p,.ins t.c_Ways dx [("to_doors",.ref td)])::(dx,.own p)::L))),⟨_,U,Nat.zero_le _,[],U,U,by simp,h2.alloc hts _⟩,?_⟩
  rintro i k zs H3 ⟨rfl,hi,S,rfl,hSl,hS,h3⟩
  refine⟨h3.get 0 U,?_⟩
  by_cases hlt:i<m
  ·refine .inr ⟨(show i<(m:Int).toNat by omega),?_⟩
   rintro x H4 ⟨rfl,rfl⟩
   refine⟨U,bY ?_⟩
   refine⟨by decide,fun l hl=>?_⟩
   have h4:=h3.alloc hl (.lst [])
   refine⟨sizeOk (by rw[length_map]; omega),h4.get 1 U,m - (i+1),by omega,U,hlt,S++[(l,[])],by rw[map_append]; rfl,by simp[hSl],kX hS rfl,?_⟩
   have h5:=h4.puti 1 U (.lst (S.map (fun z=>V.ref z.1)++[.ref l]))
   refine dh ((h5.swap2).perm (.cons _ (List.perm_middle (l₁:=wS S) (l₂:=(td,HO.dT [])::(p,.ins t.c_Ways dx [("to_doors",.ref td)])::(dx,.own p)::L)).symm)) ?_
   rw[show wS (S++[(l,[])])=wS S++[(l,HO.lst [])] by show(S++[(l,[])]).map _=_; rw[map_append]; rfl]
   simp only[append_assoc,List.cons_append,List.nil_append]
  ·have ei:i=m:=by omega
   refine .inl ⟨(show(m:Int).toNat<=i by omega),?_⟩
   dsimp only[List.set]
   have h4:=h3.perm (List.perm_append_comm (l₁:=(ts,HO.lst (S.map fun z:Addr×List (Addr×Pr×Pr)=>V.ref z.1))::wS S) (l₂:=(td,HO.dT [])::(p,.ins t.c_Ways dx [("to_doors",.ref td)])::(dx,.own p)::L))
   refine⟨_,U,p,_,dx,_,U,h4.get 1 U,T.cl_Ways,T.n_Ways_to_stretches,(show 1<1000 by decide),?_⟩
   have h5:=h4.puti 1 U (.ins t.c_Ways dx [("to_doors",.ref td),("to_stretches",.ref ts)])
   refine⟨_,U,_,U,by omega,by omega,fun tc htc=>?_⟩
   obtain⟨L2,eL2⟩:∃ L2:Kn,(td,HO.dT [])::(p,.ins t.c_Ways dx [("to_doors",.ref td),("to_stretches",.ref ts)])::(dx,.own p)::(L++((ts,HO.lst (S.map fun z:Addr×List (Addr×Pr×Pr)=>V.ref z.1))::wS S))=L2:=⟨_,U⟩
   have h6:=dh h5 eL2
   refine⟨fun i k zs H'=>k=m - i/\i<=m/\∃ S:List (Addr×List Pr),zs=S.map (fun z=>V.ref z.1)/\S.length=i/\(∀ z ∈ S,z.2=[])/\Has H' ((tc,.lst zs)::(wT S++L2)),⟨_,U,Nat.zero_le _,[],U,U,by simp,h6.alloc htc _⟩,?_⟩
   clear h3 h4 h5 h6 hlt
   rintro j k zs H3 ⟨rfl,hj,T',rfl,hTl,hT,h3⟩
   refine⟨h3.get 0 U,?_⟩
   by_cases hlt:j<m
   ·refine .inr ⟨(show j<(m:Int).toNat by omega),?_⟩
    rintro x H4 ⟨rfl,rfl⟩
    refine⟨U,bY ?_⟩
    refine⟨by decide,fun l hl=>?_⟩
    have h4:=h3.alloc hl (.lst [])
    refine⟨sizeOk (by rw[length_map]; omega),h4.get 1 U,m - (j+1),by omega,U,hlt,T'++[(l,[])],by rw[map_append]; rfl,by simp[hTl],kX hT rfl,?_⟩
    have h5:=h4.puti 1 U (.lst (T'.map (fun z=>V.ref z.1)++[.ref l]))
    refine dh ((h5.swap2).perm (.cons _ (List.perm_middle (l₁:=wT T') (l₂:=L2)).symm)) ?_
    rw[show wT (T'++[(l,[])])=wT T'++[(l,HO.lst (prV []))] by show(T'++[(l,[])]).map _=_; rw[map_append]; rfl]
    simp only[append_assoc,List.cons_append,List.nil_append]
    rfl
   ·refine .inl ⟨(show(m:Int).toNat<=j by omega),?_⟩
    dsimp only[List.set]
    have ej:j=m:=by omega
    have h4:=h3.perm (List.perm_append_comm (l₁:=(tc,HO.lst (T'.map fun z:Addr×List Pr=>V.ref z.1))::wT T') (l₂:=L2))
    rw[<- eL2] at h4
    refine⟨_,U,p,_,dx,_,U,h4.get 1 U,T.cl_Ways,T.n_Ways_to_callers,(show 2<1000 by decide),?_⟩
    have h5:=h4.puti 1 U (.ins t.c_Ways dx (wfl ⟨p,dx,td,ts,tc,[],S,T'⟩))
    refine q _ ⟨p,dx,td,ts,tc,[],S,T'⟩ rfl rfl (by show S.length=m; omega) (by show T'.length=m; omega) hS hT ?_
    refine Has.ac h5 ?_
    simp only[List.cons_append,List.set_cons_succ,List.set_cons_zero,wL,wD,List.map_nil,Ms.app,Ms.cons,Ms.nil,Ms.zl,Ms.zr]
    ac_rfl
end
structure LA where
 p:Addr
 dx:Addr
 y:Addr
 d:Addr
 m:Addr
 c:Addr
 r:Addr
noncomputable def lfl (A:LA):List (Str×V):=[("yard",.ref A.y),("doors",.ref A.d),("mark_rods",.ref A.m),("counter_rods",.ref A.c),("rows_at",.ref A.r)]
theorem iE (A:LA):(lfl A).lookup ("yard" : Str)=some (.ref A.y):=by kernel_rfl
theorem kx (A:LA):(lfl A).lookup ("doors" : Str)=some (.ref A.d):=by kernel_rfl
theorem m9 (A:LA):(lfl A).lookup ("mark_rods" : Str)=some (.ref A.m):=by kernel_rfl
theorem ng (A:LA):(lfl A).lookup ("counter_rods" : Str)=some (.ref A.c):=by kernel_rfl
theorem lfl_r (A:LA):(lfl A).lookup ("rows_at" : Str)=some (.ref A.r):=by kernel_rfl
theorem fm (A:LA):(lfl A).lookup ("door" : Str)=none/\(lfl A).lookup ("mark_rod" : Str)=none/\(lfl A).lookup ("bit_rods" : Str)=none:=⟨by kernel_rfl,by kernel_rfl,by kernel_rfl⟩
noncomputable abbrev dsV (ds:List (Addr×List Pr)):List V:=ds.map fun z=>V.ref z.1
noncomputable abbrev crV (cr:List (Addr×List Int)):List V:=cr.map fun z=>V.ref z.1
structure LIn (C:Addr) (A:LA) (ds:List (Addr×List Pr)) (mr:List Int) (cr:List (Addr×List Int)) (L:Kn):Prop where
 p:(A.p,HO.ins C A.dx (lfl A)) ∈ L
 d:(A.d,HO.lst (dsV ds)) ∈ L
 dl:∀ z ∈ ds,(z.1,HO.lst (prV z.2)) ∈ L
 de:∀ z ∈ ds,∀ x ∈ z.2,pK2 x ∈ L
 m:(A.m,HO.lst (mr.map V.int)) ∈ L
 c:(A.c,HO.lst (crV cr)) ∈ L
 cl:∀ z ∈ cr,(z.1,HO.lst (z.2.map V.int)) ∈ L
theorem LIn.mono {C:Addr}{A:LA}{ds:List (Addr×List Pr)}{mr:List Int}{cr:List (Addr×List Int)}{L L':Kn} (h:LIn C A ds mr cr L) (s:∀ z ∈ L,z ∈ L'):LIn C A ds mr cr L' :=
 ⟨s _ h.p,s _ h.d,fun z hz=>s _ (h.dl z hz),fun z hz x hx=>s _ (h.de z hz x hx),s _ h.m,s _ h.c,fun z hz=>s _ (h.cl z hz)⟩
noncomputable def jM (C:Addr):Sp:=fun vs H Q _=>∃ (p dx y d m c:Addr) (ds:List (Addr×List Pr)) (mr:List Int) (cr:List (Addr×List Int)) (L:Kn),vs=[.ref p,.ref y,.ref d,.ref m,.ref c]/\Has H ((p,.ins C dx [])::(dx,.own p)::L) /\
 (d,HO.lst (dsV ds)) ∈ L/\(∀ z ∈ ds,(z.1,HO.lst (prV z.2)) ∈ L)/\(∀ z ∈ ds,∀ x ∈ z.2,pK2 x ∈ L)/\(m,HO.lst (mr.map V.int)) ∈ L/\(c,HO.lst (crV cr)) ∈ L/\(∀ z ∈ cr,(z.1,HO.lst (z.2.map V.int)) ∈ L)/\ds.length<=1000/\(∀ z ∈ ds,z.2.length<=500) /\
 ∀ H' A N,A.p=p->A.y=y->A.d=d->A.m=m->A.c=c->(A.p,HO.ins C A.dx (lfl A)) ∈ N->Has H' (N++L)->Q .non H'
noncomputable def ln (C:Addr):Sp:=fun vs H Q _=>∃ (A:LA) (ds:List (Addr×List Pr)) (mr:List Int) (cr:List (Addr×List Int)) (L:Kn) (k r:Nat) (z:Addr×List Pr) (x:Pr),vs=[.ref A.p,.int k,.int r]/\(∀ z ∈ L,H z.1=some z.2)/\LIn C A ds mr cr L/\ds[k]?=some z/\z.2[r]?=some x/\Q (.ref x.1) H
noncomputable def gj (C:Addr):Sp:=fun vs H Q _=>∃ (A:LA) (ds:List (Addr×List Pr)) (mr:List Int) (cr:List (Addr×List Int)) (L:Kn) (k:Nat) (r:Int),vs=[.ref A.p,.int k]/\(∀ z ∈ L,H z.1=some z.2)/\LIn C A ds mr cr L/\mr[k]?=some r/\Q (.int r) H
noncomputable def gk (C:Addr):Sp:=fun vs H Q _=>∃ (A:LA) (ds:List (Addr×List Pr)) (mr:List Int) (cr:List (Addr×List Int)) (L:Kn) (k:Nat) (z:Addr×List Int),vs=[.ref A.p,.int k]/\(∀ z ∈ L,H z.1=some z.2)/\LIn C A ds mr cr L/\cr[k]?=some z/\∀ l,H l=none->Q (.ref l) (upd H l (.lst (z.2.map V.int)))
section
variable {P:Program}{w:World}{K:PySem.W.Frag}{mg:Str->Option Value}{base:Heap}{t:Adr}
theorem scLd:FnScope ["self","stretch","row"] ["self","stretch","row"] (ai pe):={}
theorem kh (T:Txt K mg t):FnOk P w K mg base CX0 2 t.f_Jv t.d_Jv ["self","stretch","row"] (ln t.c_Laid):=by
 refine T.F_Jv.ok scLd (fun vs H Q E h=>?_) (fun cdv A outer s H vs Q E hr h=>?_)
 ·obtain⟨_,_,_,_,_,_,_,_,_,rfl,_⟩:=h
  rfl
 ·obtain⟨A,ds,mr,cr,L,k,r,z,x,rfl,hL,lin,hz,hx,q⟩:=h
  have hk:k<ds.length:=(List.getElem?_eq_some_iff.mp hz).1
  have hr':r<z.2.length:=(List.getElem?_eq_some_iff.mp hx).1
  have gd:=hL _ lin.d
  have gz:=hL _ (lin.dl z (mem_of_getElem? hz))
  have gp:=hL _ lin.p
  have ed:(dsV ds)[k]?=some (.ref z.1):=by show(ds.map _)[k]?=_; rw[getElem?_map,hz]; rfl
  have ex:(prV z.2)[r]?=some (.ref x.1):=by unfold prV; rw[getElem?_map,hx]; rfl
  refine⟨_,(ae (ak (pcl (km T) hr T.m_Jb T.F_Jb.kp (oT T) (aa (pv 1) (aa (aK az (by rfl) T.z_len (by rfl) (aa (aD (pv 0) rfl) af)) af))))
   (ae (ak (pcl (mX T) hr T.m_Jq T.F_Jq.kp (pY T) (aa (pv 2) (aa (aK az (by rfl) T.z_len (by rfl) (aa (aC ay (aD (pv 0) rfl) (pv 1)) af)) af))))
   (ah (aH (aC ay (aC ay (aD (pv 0) rfl) (pv 1) (fun _ _=>rfl)) (pv 2)))))),?_⟩
  rw[show L2.start ["self","stretch","row"] [V.ref A.p,V.int k,V.int r]=([some (V.ref A.p),some (V.int k),some (V.int r)]:St) from rfl]
  refine⟨_,U,_,U,A.p,_,A.dx,_,_,U,gp,T.cl_Laid,T.n_Laid_doors,kx _,A.d,_,U,.inl (SqL.of gd),k,_,U,by omega,(by show(k:Int)<((ds.map _).length:Nat); rw[length_map]; omega),?_⟩
  refine⟨_,U,_,U,A.p,_,A.dx,_,_,U,gp,T.cl_Laid,T.n_Laid_doors,kx _,_,U,A.d,_,_,_,U,U,SqL.of gd,aw ed,z.1,_,U,.inl (SqL.of gz),r,_,U,by omega,(by unfold prV; rw[length_map]; omega),?_⟩
  exact⟨_,U,A.p,_,A.dx,_,_,U,gp,T.cl_Laid,T.n_Laid_doors,kx _,_,U,A.d,_,_,_,U,U,SqL.of gd,aw ed,_,U,z.1,_,_,_,U,U,SqL.of gz,aw ex,q⟩
theorem scLm:FnScope ["self","mark"] ["self","mark"] (ai pH):={}
theorem m7 (T:Txt K mg t):FnOk P w K mg base CX0 2 t.f_Je t.d_Je ["self","mark"] (gj t.c_Laid):=by
 refine T.F_Je.ok scLm (fun vs H Q E h=>?_) (fun cdv A outer s H vs Q E hr h=>?_)
 ·obtain⟨_,_,_,_,_,_,_,rfl,_⟩:=h
  rfl
 ·obtain⟨A,ds,mr,cr,L,k,r,rfl,hL,lin,hk,q⟩:=h
  have hk':k<mr.length:=(List.getElem?_eq_some_iff.mp hk).1
  have gm:=hL _ lin.m
  have gp:=hL _ lin.p
  have em:(mr.map V.int)[k]?=some (.int r):=by rw[getElem?_map,hk]; rfl
  refine⟨_,(ae (ak (pcl (mY T) hr T.m_Jo T.F_Jo.kp (pZ T) (aa (pv 1) (aa (aK az (by rfl) T.z_len (by rfl) (aa (aD (pv 0) rfl) af)) af))))
   (ah (aH (aC ay (aD (pv 0) rfl) (pv 1))))),?_⟩
  rw[show L2.start ["self","mark"] [V.ref A.p,V.int k]=([some (V.ref A.p),some (V.int k)]:St) from rfl]
  refine⟨_,U,_,U,A.p,_,A.dx,_,_,U,gp,T.cl_Laid,T.n_Laid_mark_rods,m9 _,A.m,_,U,.inl (SqL.of gm),k,_,U,by omega,(by rw[length_map]; omega),?_⟩
  exact⟨_,U,A.p,_,A.dx,_,_,U,gp,T.cl_Laid,T.n_Laid_mark_rods,m9 _,_,U,A.m,_,_,_,U,U,SqL.of gm,aw em,q⟩
theorem scLb:FnScope ["self","counter"] ["self","counter"] (ai pI):={}
theorem ok_Jd (T:Txt K mg t):FnOk P w K mg base CX0 2 t.f_Jd t.d_Jd ["self","counter"] (gk t.c_Laid):=by
 refine T.F_Jd.ok scLb (fun vs H Q E h=>?_) (fun cdv A outer s H vs Q E hr h=>?_)
 ·obtain⟨_,_,_,_,_,_,_,rfl,_⟩:=h
  rfl
 ·obtain⟨A,ds,mr,cr,L,k,z,rfl,hL,lin,hk,q⟩:=h
  have hk':k<cr.length:=(List.getElem?_eq_some_iff.mp hk).1
  have gc:=hL _ lin.c
  have gp:=hL _ lin.p
  have gz:=hL _ (lin.cl z (mem_of_getElem? hk))
  have em:(crV cr)[k]?=some (.ref z.1):=by show(cr.map _)[k]?=_; rw[getElem?_map,hk]; rfl
  refine⟨_,(ae (ak (pcl (m8 T) hr T.m_Ja T.F_Ja.kp (qe T) (aa (pv 1) (aa (aK az (by rfl) T.z_len (by rfl) (aa (aD (pv 0) rfl) af)) af))))
   (ah (aH (aW bc (by rfl) T.z_list (by rfl) (aa (aC ay (aD (pv 0) rfl) (pv 1)) af))))),?_⟩
  rw[show L2.start ["self","counter"] [V.ref A.p,V.int k]=([some (V.ref A.p),some (V.int k)]:St) from rfl]
  refine⟨_,U,_,U,A.p,_,A.dx,_,_,U,gp,T.cl_Laid,T.n_Laid_counter_rods,ng _,A.c,_,U,.inl (SqL.of gc),k,_,U,by omega,(by show(k:Int)<((cr.map _).length:Nat); rw[length_map]; omega),?_⟩
  exact⟨_,U,A.p,_,A.dx,_,_,U,gp,T.cl_Laid,T.n_Laid_counter_rods,ng _,_,U,A.c,_,_,_,U,U,SqL.of gc,aw em,z.1,_,U,.inl (SqL.of gz),fun l hl=>q l hl⟩
end
section
variable {P:Program}{w:World}{K:PySem.W.Frag}{mg:Str->Option Value}{base:Heap}{t:Adr}
theorem scLi:FnScope ["self","yard","doors","mark_rods","counter_rods","stretch","ends","row","end"] ["self","yard","doors","mark_rods","counter_rods"] (ai ph):={}
theorem ok_Js (T:Txt K mg t):FnOk P w K mg base CX0 1 t.f_Js t.d_Js ["self","yard","doors","mark_rods","counter_rods"] (jM t.c_Laid):=by
 refine T.F_Js.ok scLi (fun vs H Q E h=>?_) (fun cdv A outer s H vs Q E hr h=>?_)
 ·obtain⟨_,_,_,_,_,_,_,_,_,_,rfl,_⟩:=h
  rfl
 ·obtain⟨p,dx,y,d,m,c,ds,mr,cr,L,rfl,hH,md,mdl,mde,mm,mc,mcl,bd,bz,q⟩:=h
  have hu:=fA hr
  refine⟨_,(ae (aZ (pv 0) (pv 1) rfl)
   (ae (aZ (pv 0) (pv 2) rfl)
   (ae (aZ (pv 0) (pv 3) rfl)
   (ae (aZ (pv 0) (pv 4) rfl)
   (ae (aZ (pv 0) dR rfl)
   (ah (aX PassesOwn.never rfl (fQ (by rfl) T.z_enumerate (aa (pv 2) af)) (bt rfl (ax (am (i:=5) scLi.nd rfl (Or.inl rfl)) (ax (am (i:=6) scLi.nd rfl (Or.inl rfl)) bi)))
    (ah (aX PassesOwn.never rfl (fQ (by rfl) T.z_enumerate (aa (pv 6) af)) (bt rfl (ax (am (i:=7) scLi.nd rfl (Or.inl rfl)) (ax (am (i:=8) scLi.nd rfl (Or.inl rfl)) bi)))
      (ah (cs hu (aD (pv 0) rfl) (pv 8) (aq (aa (pv 5) (aa (pv 7) af))) rfl))))))))))),?_⟩
  rw[show L2.start ["self","yard","doors","mark_rods","counter_rods","stretch","ends","row","end"] [V.ref p,V.ref y,V.ref d,V.ref m,V.ref c]=([some (V.ref p),some (V.ref y),some (V.ref d),some (V.ref m),some (V.ref c),none,none,none,none]:St) from rfl]
  refine⟨_,U,_,U,p,_,dx,_,U,hH.get 0 U,T.cl_Laid,T.n_Laid_yard,(show 0<1000 by decide),?_⟩
  have h1:=hH.puti 0 U (.ins t.c_Laid dx (aU ("yard" : Str) (.ref y) ([]:List (Str×V))))
  rw[show aU ("yard" : Str) (.ref y) ([]:List (Str×V))=([("yard",.ref y)]:List (Str×V)) from by kernel_rfl] at h1 ⊢
  generalize upd H p _=H1 at h1 ⊢
  refine⟨_,U,_,U,p,_,dx,_,U,h1.get 0 U,T.cl_Laid,T.n_Laid_doors,(show 1<1000 by decide),?_⟩
  have h2:=h1.puti 0 U (.ins t.c_Laid dx (aU ("doors" : Str) (.ref d) ([("yard",.ref y)]:List (Str×V))))
  rw[show aU ("doors" : Str) (.ref d) ([("yard",.ref y)]:List (Str×V))=([("yard",.ref y),("doors",.ref d)]:List (Str×V)) from by kernel_rfl] at h2 ⊢
  generalize upd H1 p _=H2 at h2 ⊢
  refine⟨_,U,_,U,p,_,dx,_,U,h2.get 0 U,T.cl_Laid,T.n_Laid_mark_rods,(show 2<1000 by decide),?_⟩
  have h3:=h2.puti 0 U (.ins t.c_Laid dx (aU ("mark_rods" : Str) (.ref m) ([("yard",.ref y),("doors",.ref d)]:List (Str×V))))
  rw[show aU ("mark_rods" : Str) (.ref m) ([("yard",.ref y),("doors",.ref d)]:List (Str×V))=([("yard",.ref y),("doors",.ref d),("mark_rods",.ref m)]:List (Str×V)) from by kernel_rfl] at h3 ⊢
  generalize upd H2 p _=H3 at h3 ⊢
  refine⟨_,U,_,U,p,_,dx,_,U,h3.get 0 U,T.cl_Laid,T.n_Laid_counter_rods,(show 3<1000 by decide),?_⟩
  have h4:=h3.puti 0 U (.ins t.c_Laid dx (aU ("counter_rods" : Str) (.ref c) ([("yard",.ref y),("doors",.ref d),("mark_rods",.ref m)]:List (Str×V))))
  rw[show aU ("counter_rods" : Str) (.ref c) ([("yard",.ref y),("doors",.ref d),("mark_rods",.ref m)]:List (Str×V))=([("yard",.ref y),("doors",.ref d),("mark_rods",.ref m),("counter_rods",.ref c)]:List (Str×V)) from by kernel_rfl] at h4 ⊢
  generalize upd H3 p _=H4 at h4 ⊢
  intro r hr0
  have h5:=h4.alloc hr0 (.dT [])
  refine⟨_,U,p,_,dx,_,U,h5.get 1 U,T.cl_Laid,T.n_Laid_rows_at,(show 4<1000 by decide),?_⟩
  have h6:=h5.puti 1 U (.ins t.c_Laid dx (aU ("rows_at" : Str) (.ref r) ([("yard",.ref y),("doors",.ref d),("mark_rods",.ref m),("counter_rods",.ref c)]:List (Str×V))))
  rw[show aU ("rows_at" : Str) (.ref r) ([("yard",.ref y),("doors",.ref d),("mark_rods",.ref m),("counter_rods",.ref c)]:List (Str×V))=lfl ⟨p,dx,y,d,m,c,r⟩ from by kernel_rfl] at h6 ⊢
  generalize upd (upd H4 r _) p _=H6 at h6 ⊢
  obtain⟨B,eB⟩:∃ B:LA,(⟨p,dx,y,d,m,c,r⟩:LA)=B:=⟨_,U⟩
  obtain rfl:B.p=p:=by rw[<- eB]
  obtain rfl:B.dx=dx:=by rw[<- eB]
  obtain rfl:B.y=y:=by rw[<- eB]
  obtain rfl:B.d=d:=by rw[<- eB]
  obtain rfl:B.m=m:=by rw[<- eB]
  obtain rfl:B.c=c:=by rw[<- eB]
  obtain rfl:B.r=r:=by rw[<- eB]
  rw[eB] at h6
  clear hH h1 h2 h3 h4 h5 eB
  have h7:Has H6 ((B.r,.dT [])::(B.p,.ins t.c_Laid B.dx (lfl B))::(B.dx,.own B.p)::([]++L)):=h6
  have hsub:∀ {N:Kn}{c1 c2 c3 z:Addr×HO},z ∈ L->z ∈ c1::c2::c3::(N++L):=fun h=>mem_cons_of_mem _ (mem_cons_of_mem _ (mem_cons_of_mem _ (mem_append_right _ h)))
  have ld:(dsV ds).length=ds.length:=length_map ..
  refine⟨_,U,B.d,U,⟨_,SqL.of (h7.at_ _ (hsub md))⟩,d9 (xs:=dsV ds) (fun i σ H'=>∃ (kvs:List (List Key×V)) (Nw:Kn) (o1 o2 o3 o4:Option V),σ=[some (.ref B.p),some (.ref B.y),some (.ref B.d),some (.ref B.m),some (.ref B.c),o1,o2,o3,o4] /\
   Has H' ((B.r,.dT kvs)::(B.p,.ins t.c_Laid B.dx (lfl B))::(B.dx,.own B.p)::(Nw++L))/\kvs.length<=500*i) ⟨[],[],_,_,_,_,U,h7,Nat.zero_le _⟩ (fun i σ H' _ z_=>z_.elim fun kvs z_=>z_.elim fun Nw z_=>z_.elim fun _ z_=>z_.elim fun _ z_=>z_.elim fun _ z_=>z_.elim fun _ z_=>z_.elim fun _ z_=>z_.elim fun h8 _=>SqL.of (h8.at_ _ (hsub md))) ?_ ?_⟩
  ·rintro i x σ H1 tp hx ⟨kvs,Nw,o1,o2,o3,o4,rfl,h8,bk⟩ htp
   have hx:(ds.map fun z=>V.ref z.1)[i]?=some x:=hx
   rw[getElem?_map] at hx
   obtain⟨z,hz,rfl⟩:=Option.map_eq_some_iff.mp hx
   have hzm:=mem_of_getElem? hz
   have hi:i<ds.length:=(List.getElem?_eq_some_iff.mp hz).1
   have h9:=h8.alloc htp (.tup [.int i,.ref z.1])
   refine⟨tp,_,U,SqT.of (h9.get 0 U),U,_,_,U,_,_,U,U,?_⟩
   dsimp only[List.set]
   have h10:=h9.tail
   have lz:(prV z.2).length=z.2.length:=by unfold prV; rw[length_map]
   refine⟨_,U,z.1,U,⟨_,SqL.of (h10.at_ _ (hsub (mdl z hzm)))⟩,d9 (xs:=prV z.2) (fun j σ H'=>∃ (kvs:List (List Key×V)) (Nw:Kn) (o3 o4:Option V),σ=[some (.ref B.p),some (.ref B.y),some (.ref B.d),some (.ref B.m),some (.ref B.c),some (.int i),some (.ref z.1),o3,o4] /\
    Has H' ((B.r,.dT kvs)::(B.p,.ins t.c_Laid B.dx (lfl B))::(B.dx,.own B.p)::(Nw++L))/\kvs.length<=500*i+j) ⟨kvs,Nw,_,_,U,h10,bk⟩ (fun j σ H' _ z_=>z_.elim fun kvs z_=>z_.elim fun Nw z_=>z_.elim fun _ z_=>z_.elim fun _ z_=>z_.elim fun _ z_=>z_.elim fun h8 _=>SqL.of (h8.at_ _ (hsub (mdl z hzm)))) ?_ ?_⟩
   ·clear h8 h9 h10 bk
    rintro j x σ H2 tp2 hx ⟨kvs,Nw,o3,o4,rfl,h8,bk⟩ htp2
    unfold prV at hx
    rw[getElem?_map] at hx
    obtain⟨e,he,rfl⟩:=Option.map_eq_some_iff.mp hx
    have hj:j<z.2.length:=(List.getElem?_eq_some_iff.mp he).1
    have h9:=h8.alloc htp2 (.tup [.int j,.ref e.1])
    refine⟨tp2,_,U,SqT.of (h9.get 0 U),U,_,_,U,_,_,U,U,?_⟩
    dsimp only[List.set]
    have h10:=h9.tail
    refine⟨_,U,_,U,(show 2<=sizeLine by decide),fun a ha=>?_⟩
    have h11:=h10.alloc ha (.tup [.int i,.int j])
    have ge:=h11.at_ _ (mem_cons_of_mem _ (hsub (mde z hzm e (mem_of_getElem? he))))
    have bz':=bz z hzm
    refine⟨_,U,B.p,_,B.dx,_,_,U,h11.get 2 U,T.cl_Laid,T.n_Laid_rows_at,lfl_r _,_,U,B.r,_,U,DPut.t (k:=kE e.2.1 e.2.2) (h11.get 1 U) ge (sizeOk (by omega)),?_⟩
    have h12:=h11.puti 1 U (.dT (aI kvs (kE e.2.1 e.2.2) (.ref a)))
    refine⟨aI kvs (kE e.2.1 e.2.2) (.ref a),(a,.tup [.int i,.int j])::Nw,_,_,U,?_,by have:=bb kvs (kE e.2.1 e.2.2) (.ref a); omega⟩
    refine Has.ac h12 ?_
    simp only[List.set_cons_succ,List.set_cons_zero,List.cons_append,Ms.app,Ms.cons]
    ac_rfl
   ·rintro σ H2 ⟨kvs,Nw,o3,o4,rfl,h8,bk⟩
    have:=bz z hzm
    exact⟨kvs,Nw,_,_,_,_,U,h8,by omega⟩
  ·rintro σ H1 ⟨kvs,Nw,o1,o2,o3,o4,rfl,h8,bk⟩
   exact q _ B ((B.r,.dT kvs)::(B.p,.ins t.c_Laid B.dx (lfl B))::(B.dx,.own B.p)::Nw) rfl rfl rfl rfl rfl (mem_cons_of_mem _ mem_cons_self) h8
end
noncomputable def Rw.dc (cr:List (Addr×List Int)):Rw->Nat
 | .bell _=>1
 | .set _ _=>1
 | .ask _ _ _=>1
 | .bump c _=>2*((cr[c.toNat]?).map (fun z=>z.2.length)).getD 0+1
 | .go _=>0
 | .call _=>0
 | .fin=>0
noncomputable def Rw.outs:Rw->Nat
 | .bell _=>1
 | .set _ _=>1
 | .ask _ _ _=>2
 | .bump _ _=>2
 | .go _=>1
 | .call _=>0
 | .fin=>0
noncomputable def Rw.deedy:Rw->Bool
 | .call _=>false
 | .fin=>false
 | _=>true
structure ROk (mr:List Int) (cr:List (Addr×List Int)) (n:Nat):Prop where
 m:∀ r ∈ mr,0<=r/\r<n
 c:∀ z ∈ cr,∀ r ∈ z.2,0<=r/\r<n
 n:∀ z ∈ cr,z.2≠[]/\z.2.length<=8
theorem ROk.up {mr:List Int}{cr:List (Addr×List Int)}{y y':YR} (h:ROk mr cr y.sides.length) (u:Up y y'):ROk mr cr y'.sides.length :=
 ⟨fun r hr=>⟨(h.m r hr).1,by have:=(h.m r hr).2; have:=u.sl; omega⟩,fun z hz r hr=>⟨(h.c z hz r hr).1,by have:=(h.c z hz r hr).2; have:=u.sl; omega⟩,h.n⟩
noncomputable def lq (Cy Cl:Addr):Sp:=fun vs H Q _=>∃ (p:Addr) (y:YR) (L:Kn) (A:LA) (ds:List (Addr×List Pr)) (mr:List Int) (cr:List (Addr×List Int)) (a:Addr) (x:Rw) (out:Pr) (N M R nr k ns:Nat) (G:List (Int×Int)),vs=[.ref A.p,.ref a,.ref out.1]/\A.y=p/\YIn Cy H p y L/\LIn Cl A ds mr cr L/\(a,HO.tup x.v) ∈ L/\pK2 out ∈ L /\
 Ld y N M R/\Al y (out.2::G)/\x.ok mr.length cr.length nr k ns/\x.deedy=true/\ROk mr cr y.sides.length/\N<=6000/\M<=25000/\R<=1000 /\
 ∀ H' y' Nw l (zs:List Pr) N' M',Ld y' N' M' R->N'<=N+x.dc cr->M'<=M+50->Up y y'->Al y' (zs.map (·.2)++G)->zs.length=x.outs->(∀ z ∈ zs,pK2 z ∈ Nw∨z=out)->YIn Cy H' p y' ((l,.lst (prV zs))::(Nw++L))->Q (.ref l) H'
theorem b7 {C:Addr}{H:Hp}{p:Addr}{y:YR}{L L':Kn} (Y:YIn C H p y L) (e:L=L'):YIn C H p y L':=e ▸ Y
theorem perm3 {α:Type}{a b c:α}{l:List α}:(a::b::c::l).Perm (c::a::b::l):=(List.Perm.cons a (.swap c b l)).trans (.swap c a _)
section
variable {P:Program}{w:World}{K:PySem.W.Frag}{mg:Str->Option Value}{base:Heap}{t:Adr}
theorem scDd:FnScope ["laid","row","out","yard","word","bell","point","into","done","around"] ["laid","row","out"] (ai o6):={}
theorem ok_Jz (T:Txt K mg t):FnOk P w K mg base CX0 7 t.f_Jz t.d_Jz ["laid","row","out"] (lq t.c_Yard t.c_Laid):=by
 obtain⟨ds_l2,hd_J21_2,hb_J21_2⟩:=bP T
 obtain⟨ds_l3,hd_J21_3,hb_J21_3⟩:=kU T
 obtain⟨g_lay,bj⟩:=bj T
 refine T.F_Jz.ok scDd (fun vs H Q E h=>?_) (fun cdv A outer s H vs Q E hr h=>?_)
 ·obtain⟨_,_,_,_,_,_,_,_,_,_,_,_,_,_,_,_,_,rfl,_⟩:=h
  rfl
 ·obtain⟨p,y,L,B,ds,mr,cr,a,x,out,N,M,R,nr,k,ns,G,rfl,eY,Y,lin,mx,mo,D,al,xok,xd,rok,bN,bM,bR,q⟩:=h
  refine⟨_,(ae (ar (i:=3) scDd.nd rfl (Or.inl rfl) (aD (pv 0) rfl))
   (ae (ar (i:=4) scDd.nd rfl (Or.inl rfl) (aC bf (pv 1) ag))
   (ae (aG (aj bp (pv 4) aF (ap _))
    (ae (ar (i:=5) scDd.nd rfl (Or.inl rfl) (aA (pv 3) T.cl_Yard T.M_J21 (bG T) hr hb_J21_3 hd_J21_3 aB (aa aF (aa (aC bf (pv 1) ag) af))))
     (ae (ak (aA (pv 3) T.cl_Yard T.M_Jw (cg T) hr (eL T) .nil aB (@aa _ _ _ _ _ (pv 2) (@aa _ _ _ _ _ (aq (aa (pv 5) (aa ag af))) af (by rfl)) (by rfl))))
     (ah (aH (aR (@aa _ _ _ _ _ (aq (aa (pv 5) (aa ag af))) af (by rfl)))))))
    au)
   (ae (aG (aj bp (pv 4) aF (ap _))
    (ae (ar (i:=6) scDd.nd rfl (Or.inl rfl) (dQ (pv 3) T.cl_Yard T.M_J21 (bG T) (hr.mono (by decide)) bj aB (aa aF af) (fO (aA (pv 0) T.cl_Laid T.M_Je (m7 T) hr (qd T) .nil aB (aa (aC bf (pv 1) ag) af)) g8)))
     (ae (ak (aA (pv 3) T.cl_Yard T.M_Jw (cg T) hr (eL T) .nil aB (@aa _ _ _ _ _ (pv 2) (@aa _ _ _ _ _ (aq (aa (pv 6) (aa (aC bf (pv 1) ag) af))) af (by rfl)) (by rfl))))
     (ah (aH (aR (@aa _ _ _ _ _ (aq (aa (pv 6) (aa ag af))) af (by rfl)))))))
    au)
   (ae (aG (aj bp (pv 4) aF (ap _))
    (ae (ar (i:=6) scDd.nd rfl (Or.inl rfl) (dQ (pv 3) T.cl_Yard T.M_J21 (bG T) (hr.mono (by decide)) bj aB (aa aF af) (fO (aA (pv 0) T.cl_Laid T.M_Je (m7 T) hr (qd T) .nil aB (aa (aC bf (pv 1) ag) af)) g8)))
     (ae (ak (aA (pv 3) T.cl_Yard T.M_Jw (cg T) hr (eL T) .nil aB (@aa _ _ _ _ _ (pv 2) (@aa _ _ _ _ _ (aq (aa (pv 6) (aa ag af))) af (by rfl)) (by rfl))))
     (ah (aH (aR (@aa _ _ _ _ _ (aq (aa (pv 6) (aa ag af))) (@aa _ _ _ _ _ (aq (aa (pv 6) (aa ag af))) af (by rfl)) (by rfl)))))))
    au)
   (ae (aG (aj bp (pv 4) aF (ap _))
    (ae (cc (pcl (ke T) hr T.m_tally T.F_tally.kp (lY T) (aa (pv 3) (aa (aA (pv 0) T.cl_Laid T.M_Jd (ok_Jd T) hr (b_Jd T) .nil aB (aa (aC bf (pv 1) ag) af)) af))) (bt rfl (ax (am (i:=7) scDd.nd rfl (Or.inl rfl)) (ax (am (i:=8) scDd.nd rfl (Or.inl rfl)) (ax (am (i:=9) scDd.nd rfl (Or.inl rfl)) bi)))))
     (ae (ak (aA (pv 3) T.cl_Yard T.M_Jw (cg T) hr (eL T) .nil aB (aa (pv 2) (aa (pv 7) af))))
     (ah (aH (aR (aa (pv 8) (aa (pv 9) af)))))))
    au)
   (ah (aH (aR (aa (pv 2) af)))))))))),?_⟩
  rw[show L2.start ["laid","row","out","yard","word","bell","point","into","done","around"] [V.ref B.p,V.ref a,V.ref out.1]=([some (V.ref B.p),some (V.ref a),some (V.ref out.1),none,none,none,none,none,none,none]:St) from rfl]
  have gB:=Y.at_ lin.p
  have ga:=Y.at_ mx
  subst eY
  refine⟨_,U,B.p,_,B.dx,_,_,U,gB,T.cl_Laid,T.n_Laid_yard,iE _,?_⟩
  dsimp only[List.set]
  refine⟨_,U,a,_,_,_,U,U,SqT.of ga,aw (j:=0) rfl,?_⟩
  dsimp only[List.set]
  have fo:Fr y out.2:=al.2 _ mem_cons_self
  have gal:=al.tail
  cases x with
  | call s=>cases xd
  | fin=>cases xd
  | go r=>
   refine⟨_,U,U,_,U,ifF (sne "go" "bell") ?_⟩
   refine⟨_,U,U,_,U,ifF (sne "go" "set") ?_⟩
   refine⟨_,U,U,_,U,ifF (sne "go" "ask") ?_⟩
   refine⟨_,U,U,_,U,ifF (sne "go" "bump") ?_⟩
   refine⟨_,U,(sz_ 1),fun l hl=>?_⟩
   exact q _ y [] l [out] N M D (Nat.le_refl _) (by omega) (Up.refl _) al rfl (fun z hz=>.inr (mem_singleton.mp hz)) (Y.alloc hl _)
  | bell n=>
   refine⟨_,U,U,_,U,ifT (decide_eq_true rfl) ?_⟩
   obtain⟨A1,gy⟩:=Y.obj
   refine⟨_,U,B.y,A1.dx,_,U,gy,(bT _ _ _).1,_,U,a,_,_,_,U,U,SqT.of ga,aw (j:=1) rfl,?_⟩
   refine tn0 ?_
   refine bH Y D ⟨by omega,by omega,bR⟩ .bell n .non (fun _=>xok) (fun c=>nomatch c) (fun H2 Y2=>?_)
   have D2:=D.lay .bell n .non
   have al2:=al.lay2 D .bell n .non rfl
   have up2:=D.up .bell n .non
   dsimp only[List.set]
   obtain⟨A2,gy2⟩:=Y2.obj
   refine⟨_,U,B.y,A2.dx,_,U,gy2,(bS _ _ _).2.2.1,_,U,_,U,(show 2<=sizeLine by decide),fun c0 hc0=>?_⟩
   have Y3:=Y2.alloc hc0 (.tup [.int N,.int 0])
   refine tn0 ?_
   have al3:=al2.perm (perm3 (a:=((N:Int),0)) (b:=((N:Int),1)))
   have f0:=al2.2 _ mem_cons_self
   have fo2:=al3.2 _ mem_cons_self
   refine bA (a:=out) (b:=(c0,(N:Int),0)) Y3 D2 (by omega) (mem_cons_of_mem _ mo) mem_cons_self fo2 f0 al3.ne (fun H4 Y4=>?_)
   have D4:=D2.link (a:=out) (b:=(c0,(N:Int),0)) fo2 f0
   have al4:=Al.link (a:=out) (b:=(c0,(N:Int),0)) al3
   have up4:=up2.trans (Up.link (a:=out) (b:=(c0,(N:Int),0)) fo2 f0)
   refine⟨_,U,(show 2<=sizeLine by decide),fun c1 hc1=>?_⟩
   have Y5:=Y4.alloc hc1 (.tup [.int N,.int 1])
   refine⟨(sz_ 1),fun l hl=>?_⟩
   exact q _ _ [(c1,.tup [.int N,.int 1]),(c0,.tup [.int N,.int 0])] l [(c1,(N:Int),1)] _ _ D4 (Nat.le_refl _) (by omega) up4 al4 rfl (fun z hz=>by rw[mem_singleton.mp hz]; exact .inl mem_cons_self) (Y5.alloc hl _)
  | set m sd=>
   refine⟨_,U,U,_,U,ifF (sne "set" "bell") ?_⟩
   refine⟨_,U,U,_,U,ifT (decide_eq_true rfl) ?_⟩
   obtain⟨m0,m1,hsd⟩:=xok
   obtain⟨mn,rfl⟩:=Int.eq_ofNat_of_zero_le m0
   have hmn:mn<mr.length:=by omega
   have hmr:=getElem?_eq_getElem hmn
   have rb:=rok.m _ (List.getElem_mem hmn)
   obtain⟨A1,gy⟩:=Y.obj
   refine⟨_,U,B.y,A1.dx,_,U,gy,(bT _ _ _).1,?_⟩
   refine tc1 ?_
   refine⟨_,U,B.p,B.dx,_,U,gB,(fm _).2.1,_,U,a,_,_,_,U,U,SqT.of ga,aw (j:=1) rfl,?_⟩
   refine tn0 ?_
   refine⟨B,ds,mr,cr,L,mn,mr[mn],U,fun z hz=>Y.at_ hz,lin,hmr,?_⟩
   refine tn0 ?_
   refine bH Y D ⟨by omega,by omega,bR⟩ .lazy 0 (.int mr[mn]) (fun c=>nomatch c) (fun _ _=>⟨_,U,rb.1,rb.2⟩) (fun H2 Y2=>?_)
   have D2:=D.lay .lazy 0 (.int mr[mn])
   have al2:=al.lay3 D .lazy 0 (.int mr[mn]) rfl
   have up2:=D.up .lazy 0 (.int mr[mn])
   have ga2:=Y2.at_ mx
   dsimp only[List.set]
   obtain⟨A2,gy2⟩:=Y2.obj
   refine⟨_,U,B.y,A2.dx,_,U,gy2,(bS _ _ _).2.2.1,_,U,_,U,_,U,a,_,_,_,U,U,SqT.of ga2,aw (j:=2) rfl,(show 2<=sizeLine by decide),fun c0 hc0=>?_⟩
   have Y3:=Y2.alloc hc0 (.tup [.int N,.int sd])
   refine tn0 ?_
   have al3:Al (bC y .lazy 0 (.int mr[mn])) (out.2::((N:Int),sd)::((N:Int),0)::G):=by
    rcases hsd with rfl | rfl
    ·exact(al2.sub (l':=((N:Int),0)::((N:Int),1)::out.2::G) (.cons₂ _ (.cons₂ _ (.cons _ (List.Sublist.refl _))))).perm (perm3.trans (.cons _ (.swap _ _ _)))
    ·exact(al2.sub (l':=((N:Int),0)::((N:Int),2)::out.2::G) (.cons₂ _ (.cons _ (.cons₂ _ (List.Sublist.refl _))))).perm (perm3.trans (.cons _ (.swap _ _ _)))
   have fo2:=al3.2 _ mem_cons_self
   have fs:=al3.2 _ (mem_cons_of_mem _ mem_cons_self)
   refine bA (a:=out) (b:=(c0,(N:Int),sd)) Y3 D2 (by omega) (mem_cons_of_mem _ mo) mem_cons_self fo2 fs al3.ne (fun H4 Y4=>?_)
   have D4:=D2.link (a:=out) (b:=(c0,(N:Int),sd)) fo2 fs
   have al4:=Al.link (a:=out) (b:=(c0,(N:Int),sd)) al3
   have up4:=up2.trans (Up.link (a:=out) (b:=(c0,(N:Int),sd)) fo2 fs)
   refine⟨_,U,(show 2<=sizeLine by decide),fun c1 hc1=>?_⟩
   have Y5:=Y4.alloc hc1 (.tup [.int N,.int 0])
   refine⟨(sz_ 1),fun l hl=>?_⟩
   exact q _ _ [(c1,.tup [.int N,.int 0]),(c0,.tup [.int N,.int sd])] l [(c1,(N:Int),0)] _ _ D4 (Nat.le_refl _) (by omega) up4 al4 rfl (fun z hz=>by rw[mem_singleton.mp hz]; exact .inl mem_cons_self) (Y5.alloc hl _)
  | ask m r1 r2=>
   refine⟨_,U,U,_,U,ifF (sne "ask" "bell") ?_⟩
   refine⟨_,U,U,_,U,ifF (sne "ask" "set") ?_⟩
   refine⟨_,U,U,_,U,ifT (decide_eq_true rfl) ?_⟩
   obtain⟨m0,m1,_⟩:=xok
   obtain⟨mn,rfl⟩:=Int.eq_ofNat_of_zero_le m0
   have hmn:mn<mr.length:=by omega
   have hmr:=getElem?_eq_getElem hmn
   have rb:=rok.m _ (List.getElem_mem hmn)
   obtain⟨A1,gy⟩:=Y.obj
   refine⟨_,U,B.y,A1.dx,_,U,gy,(bT _ _ _).1,?_⟩
   refine tc1 ?_
   refine⟨_,U,B.p,B.dx,_,U,gB,(fm _).2.1,_,U,a,_,_,_,U,U,SqT.of ga,aw (j:=1) rfl,?_⟩
   refine tn0 ?_
   refine⟨B,ds,mr,cr,L,mn,mr[mn],U,fun z hz=>Y.at_ hz,lin,hmr,?_⟩
   refine tn0 ?_
   refine bH Y D ⟨by omega,by omega,bR⟩ .still 0 (.int mr[mn]) (fun c=>nomatch c) (fun _ _=>⟨_,U,rb.1,rb.2⟩) (fun H2 Y2=>?_)
   have D2:=D.lay .still 0 (.int mr[mn])
   have al2:=al.lay3 D .still 0 (.int mr[mn]) rfl
   have up2:=D.up .still 0 (.int mr[mn])
   dsimp only[List.set]
   obtain⟨A2,gy2⟩:=Y2.obj
   refine⟨_,U,B.y,A2.dx,_,U,gy2,(bS _ _ _).2.2.1,_,U,_,U,(show 2<=sizeLine by decide),fun c0 hc0=>?_⟩
   have Y3:=Y2.alloc hc0 (.tup [.int N,.int 0])
   refine tn0 ?_
   have al3:Al (bC y .still 0 (.int mr[mn])) (out.2::((N:Int),0)::((N:Int),1)::((N:Int),2)::G):=al2.perm ((List.Perm.cons _ perm3).trans (.swap _ _ _))
   have fo2:=al3.2 _ mem_cons_self
   have fs:=al3.2 _ (mem_cons_of_mem _ mem_cons_self)
   refine bA (a:=out) (b:=(c0,(N:Int),0)) Y3 D2 (by omega) (mem_cons_of_mem _ mo) mem_cons_self fo2 fs al3.ne (fun H4 Y4=>?_)
   have D4:=D2.link (a:=out) (b:=(c0,(N:Int),0)) fo2 fs
   have al4:=Al.link (a:=out) (b:=(c0,(N:Int),0)) al3
   have up4:=up2.trans (Up.link (a:=out) (b:=(c0,(N:Int),0)) fo2 fs)
   refine⟨_,U,(show 2<=sizeLine by decide),fun c1 hc1=>?_⟩
   have Y5:=Y4.alloc hc1 (.tup [.int N,.int 1])
   refine⟨_,U,(show 2<=sizeLine by decide),fun c2 hc2=>?_⟩
   have Y6:=Y5.alloc hc2 (.tup [.int N,.int 2])
   refine⟨(sz_ 2),fun l hl=>?_⟩
   refine q _ _ [(c2,.tup [.int N,.int 2]),(c1,.tup [.int N,.int 1]),(c0,.tup [.int N,.int 0])] l [(c1,(N:Int),1),(c2,(N:Int),2)] _ _ D4 (Nat.le_refl _) (by omega) up4 al4 rfl (fun z hz=>?_) (Y6.alloc hl _)
   rcases mem_cons.mp hz with rfl | hz
   ·exact .inl (mem_cons_of_mem _ mem_cons_self)
   ·rw[mem_singleton.mp hz]; exact .inl mem_cons_self
  | bump c r=>
   refine⟨_,U,U,_,U,ifF (sne "bump" "bell") ?_⟩
   refine⟨_,U,U,_,U,ifF (sne "bump" "set") ?_⟩
   refine⟨_,U,U,_,U,ifF (sne "bump" "ask") ?_⟩
   refine⟨_,U,U,_,U,ifT (decide_eq_true rfl) ?_⟩
   obtain⟨m0,m1,_⟩:=xok
   obtain⟨cn,rfl⟩:=Int.eq_ofNat_of_zero_le m0
   have hcn:cn<cr.length:=by omega
   have hcr:=getElem?_eq_getElem hcn
   have hcm:=List.getElem_mem hcn
   have rb:=rok.c _ hcm
   obtain⟨rne,rl8⟩:=rok.n _ hcm
   have edc:(Rw.bump (cn:Int) r).dc cr=2*cr[cn].2.length+1:=by
    show 2*((cr[((cn:Int)).toNat]?).map (fun z=>z.2.length)).getD 0+1=_
    rw[Int.toNat_natCast,hcr]; rfl
   refine⟨_,U,_,U,B.p,B.dx,_,U,gB,(fm _).2.2,_,U,a,_,_,_,U,U,SqT.of ga,aw (j:=1) rfl,?_⟩
   refine tn0 ?_
   refine⟨B,ds,mr,cr,L,cn,cr[cn],U,fun z hz=>Y.at_ hz,lin,hcr,fun rl hrl=>?_⟩
   have Y1:=Y.alloc hrl (.lst (cr[cn].2.map V.int))
   refine tn0 ?_
   refine⟨B.y,y,_,rl,cr[cn].2,N,M,R,U,Y1,mem_cons_self,rb,rne,D,by omega,by omega,bR,fun H2 y2 Nw tp e0 e1 e2 M2 D2 bM2 up2 old2 f0 f1 f2 n01 n02 n12 b0 b1 b2 k0 k1 k2 Y2=>?_⟩
   refine⟨tp,_,U,SqT.of (Y2.at_ mem_cons_self),U,_,_,U,_,_,U,_,_,U,U,?_⟩
   dsimp only[List.set]
   obtain⟨A2,gy2⟩:=Y2.obj
   have hold:∀ x ∈ out.2::G,x.1<(N:Int):=fun x hx=>D.lt (al.2 x hx).1
   have al2:Al y2 (out.2::e0.2::e1.2::e2.2::G):=by
    have no:∀ (e:Pr),(N:Int)<=e.2.1->e.2 ∉ out.2::G:=fun e he c=>by have:=hold _ c; omega
    have a0:=List.nodup_cons.mp al.1
    refine⟨List.nodup_cons.mpr ⟨fun c=>?_,List.nodup_cons.mpr ⟨fun c=>?_,List.nodup_cons.mpr ⟨fun c=>?_,List.nodup_cons.mpr ⟨fun c=>no e2 b2 (mem_cons_of_mem _ c),a0.2⟩⟩⟩⟩,fun x hx=>?_⟩
    ·rcases mem_cons.mp c with c | c
     ·exact no e0 b0 (by rw[<- c]; exact mem_cons_self)
     ·rcases mem_cons.mp c with c | c
      ·exact no e1 b1 (by rw[<- c]; exact mem_cons_self)
      ·rcases mem_cons.mp c with c | c
       ·exact no e2 b2 (by rw[<- c]; exact mem_cons_self)
       ·exact a0.1 c
    ·rcases mem_cons.mp c with c | c
     ·exact n01 c
     ·rcases mem_cons.mp c with c | c
      ·exact n02 c
      ·exact no e0 b0 (mem_cons_of_mem _ c)
    ·rcases mem_cons.mp c with c | c
     ·exact n12 c
     ·exact no e1 b1 (mem_cons_of_mem _ c)
    ·rcases mem_cons.mp hx with rfl | hx
     ·exact old2 _ fo
     ·rcases mem_cons.mp hx with rfl | hx
      ·exact f0
      ·rcases mem_cons.mp hx with rfl | hx
       ·exact f1
       ·rcases mem_cons.mp hx with rfl | hx
        ·exact f2
        ·exact old2 _ (gal.2 x hx)
   have fo2:=al2.2 _ mem_cons_self
   refine⟨_,U,B.y,A2.dx,_,U,gy2,(bS _ _ _).2.2.1,_,U,_,U,?_⟩
   refine tn0 ?_
   refine bA (a:=out) (b:=e0) Y2 D2 (by omega) (mem_cons_of_mem _ (mem_append_right _ (mem_cons_of_mem _ mo))) (mem_cons_of_mem _ (mem_append_left _ k0)) fo2 f0 al2.ne (fun H4 Y4=>?_)
   have D4:=D2.link (a:=out) (b:=e0) fo2 f0
   have al4:=Al.link (a:=out) (b:=e0) al2
   have up4:=up2.trans (Up.link (a:=out) (b:=e0) fo2 f0)
   refine⟨_,U,_,U,(sz_ 2),fun l hl=>?_⟩
   have Y5:=Y4.alloc hl (.lst (prV [e1,e2]))
   refine q _ _ ((tp,.tup [.ref e0.1,.ref e1.1,.ref e2.1])::(Nw++[(rl,.lst (cr[cn].2.map V.int))])) l [e1,e2] _ _ D4 (by rw[edc]; exact Nat.le_refl _) (by omega) up4 al4 rfl (fun z hz=>?_) ?_
   ·rcases mem_cons.mp hz with rfl | hz
    ·exact .inl (mem_cons_of_mem _ (mem_append_left _ k1))
    ·rw[mem_singleton.mp hz]; exact .inl (mem_cons_of_mem _ (mem_append_left _ k2))
   ·exact b7 Y5 (by simp only[List.cons_append,append_assoc,List.nil_append])
end
theorem YIn.ac {C:Addr}{H:Hp}{p:Addr}{y:YR}{L L':Kn} (Y:YIn C H p y L) (e:Ms.mk L=Ms.mk L'):YIn C H p y L':=Y.perm (Ms.perm e)
theorem YIn.mid {C:Addr}{H:Hp}{p:Addr}{y:YR}{X Y:Kn}{a:Addr}{o:HO} (h:YIn C H p y (X++(a,o)::Y)) (o':HO):YIn C (upd H a o') p y (X++(a,o')::Y) :=
 ((h.perm List.perm_middle).put0 o').perm List.perm_middle.symm
theorem wL_S {C:Addr}{W:WS}{i:Nat}{z z':Addr×List (Addr×Pr×Pr)} (h:W.S[i]?=some z) (e:z'.1=z.1):∃ X Y,wL C W=X++(z.1,HO.lst (z.2.map fun c=>V.ref c.1))::Y/\wL C { W with S:=W.S.set i z' }=X++(z.1,HO.lst (z'.2.map fun c=>V.ref c.1))::Y:=by
 obtain⟨a,b,e1,e2⟩:=spl h
 have er:(W.S.set i z').map (fun z=>V.ref z.1)=W.S.map (fun z=>V.ref z.1):=by rw[e2,e1,map_append,map_append,map_cons,map_cons,e]
 refine⟨w5 C W++(wD W.D++wS a),wS b++wT W.T,?_,?_⟩
 ·unfold wL
  rw[show wS W.S=wS a++(z.1,HO.lst (z.2.map fun c=>V.ref c.1))::wS b by rw[e1]; show(a++z::b).map _=_; rw[map_append,map_cons]]
  simp only[append_assoc,List.cons_append]
 ·unfold wL
  rw[show w5 C { W with S:=W.S.set i z' }=w5 C W by show [_,_,_,(W.ts,HO.lst ((W.S.set i z').map fun z=>V.ref z.1)),_]=_; rw[er]; rfl]
  rw[show wS (W.S.set i z')=wS a++(z.1,HO.lst (z'.2.map fun c=>V.ref c.1))::wS b by rw[e2]; show(a++z'::b).map _=_; rw[map_append,map_cons,e]]
  simp only[append_assoc,List.cons_append]
theorem wL_T {C:Addr}{W:WS}{i:Nat}{z z':Addr×List Pr} (h:W.T[i]?=some z) (e:z'.1=z.1):∃ X Y,wL C W=X++(z.1,HO.lst (prV z.2))::Y/\wL C { W with T:=W.T.set i z' }=X++(z.1,HO.lst (prV z'.2))::Y:=by
 obtain⟨a,b,e1,e2⟩:=spl h
 have er:(W.T.set i z').map (fun z=>V.ref z.1)=W.T.map (fun z=>V.ref z.1):=by rw[e2,e1,map_append,map_append,map_cons,map_cons,e]
 refine⟨w5 C W++(wD W.D++(wS W.S++wT a)),wT b,?_,?_⟩
 ·unfold wL
  rw[show wT W.T=wT a++(z.1,HO.lst (prV z.2))::wT b by rw[e1]; show(a++z::b).map _=_; rw[map_append,map_cons]]
  simp only[append_assoc]
 ·unfold wL
  rw[show w5 C { W with T:=W.T.set i z' }=w5 C W by show [_,_,_,_,(W.tc,HO.lst ((W.T.set i z').map fun z=>V.ref z.1))]=_; rw[er]; rfl]
  rw[show wT (W.T.set i z')=wT a++(z.1,HO.lst (prV z'.2))::wT b by rw[e2]; show(a++z'::b).map _=_; rw[map_append,map_cons,e]]
  simp only[append_assoc]
theorem iF {Cy Cw:Addr}{H:Hp}{p:Addr}{y:YR}{W:WS}{L:Kn}{Q:V->Hp->Prop}{e:Pr}{b wp:Addr}{pl:Int×Int} (ew:W.p=wp) (Y:YIn Cy H p y (wL Cw W++L)) (mb:pK2 (b,pl) ∈ L) (kd:(W.D.map (·.1)).Nodup) (ne:∀ z ∈ W.D,z.2.2≠[]) (bd:W.dn<=5000)
  (q:∀ H' D',Led W.D D' e pl->YIn Cy H' p y (wL Cw { W with D:=D' }++L)->Q .non H'):im Cw [.ref wp,.ref e.1,.ref b] H Q E0:=by
 subst ew
 obtain⟨A,rfl,h⟩:=Y
 have ac:∀ {a b c:Kn},Ms.mk (a++(b++c))=Ms.mk (b++(a++c)):=fun {a b c}=>by
  simp only[Ms.app]
  ac_rfl
 exact⟨W,yL Cy A y++L,e,b,pl,U,Has.ac h ac,mem_append_right _ mb,kd,ne,bd,fun H' D' ld h'=>q H' D' ld ⟨A,U,Has.ac h' ac⟩⟩
theorem WOk.led {W:WS}{L:Kn}{Pl:Int×Int->Prop}{D':List ((Int×Int)×Addr×List Pr)}{e:Pr}{pl:Int×Int} (h:WOk W L Pl) (l:Led W.D D' e pl) (hp:Pl pl) (he:pK2 e ∈ L):WOk { W with D:=D' } L Pl:=by
 refine⟨l.kd,l.ne,fun z hz=>?_,fun z hz x hx=>?_,h.eS,h.eT⟩
 ·rcases l.pk z hz with e | e
  ·rw[e]; exact hp
  ·obtain⟨u,hu,e⟩:=mem_map.mp e
   rw[<- e]; exact h.pd u hu
 ·rcases (l.io z.1 x).mp ⟨z,hz,rfl,hx⟩ with ⟨u,hu,_,hx⟩ | ⟨_,rfl⟩
  ·exact h.eD u hu x hx
  ·exact he
theorem WS.pendD (W:WS) {D':List ((Int×Int)×Addr×List Pr)}{x:Int×Int} (h:(dE D').Perm (x::dE W.D)):(WS.pend { W with D:=D' }).Perm (x::W.pend):=List.Perm.append_right _ h
theorem WS.pendS (W:WS) {S':List (Addr×List (Addr×Pr×Pr))}{x:Int×Int} (h:(sE S').Perm (x::sE W.S)):(WS.pend { W with S:=S' }).Perm (x::W.pend):=(List.Perm.append_left _ (List.Perm.append_right _ h)).trans List.perm_middle
theorem WS.pendT (W:WS) {T':List (Addr×List Pr)}{x:Int×Int} (h:(tE T').Perm (x::tE W.T)):(WS.pend { W with T:=T' }).Perm (x::W.pend):=(List.Perm.append_left _ (List.Perm.append_left _ h)).trans ((List.Perm.append_left _ List.perm_middle).trans List.perm_middle)
noncomputable def Rw.rc (cr:List (Addr×List Int)):Rw->Nat
 | .call _=>3
 | .fin=>1
 | x=>x.dc cr+x.outs
noncomputable def WS.cN (W:WS):Nat:=W.dn+3*W.sn+W.tn
noncomputable def WS.cM (W:WS):Nat:=4*W.dn+12*W.sn+4*W.tn
noncomputable def iX (Cy Cl Cw:Addr):Sp:=fun vs H Q _=>∃ (p:Addr) (y:YR) (L:Kn) (A:LA) (ds:List (Addr×List Pr)) (mr:List Int) (cr:List (Addr×List Int)) (W:WS) (a:Addr) (x:Rw) (k r:Nat) (z:Addr×List Pr) (e:Pr) (N M R nr:Nat) (G:List (Int×Int)) (Pl:Int×Int->Prop),
 vs=[.ref A.p,.ref W.p,.ref a,.int k,.int r]/\A.y=p/\YIn Cy H p y (wL Cw W++L)/\LIn Cl A ds mr cr L/\(a,HO.tup x.v) ∈ L/\ds[k]?=some z/\z.2[r]?=some e/\Ld y N M R/\Al y (W.pend++((e.2.1,1)::G))/\x.ok mr.length cr.length nr k W.S.length/\ROk mr cr y.sides.length/\WOk W L Pl/\k<W.T.length /\
 (∀ q ∈ x.onw k r,Pl q)/\N+W.cN<=4900/\M+W.cM<=20000/\R<=1000 /\
 ∀ H' y' Nw W' N' M',W'.p=W.p->W'.S.length=W.S.length->W'.T.length=W.T.length->Ld y' N' M' R->N'+W'.cN<=N+W.cN+x.rc cr->M'+W'.cM<=M+W.cM+60->Up y y'->Al y' (W'.pend++G)->WOk W' (Nw++L) Pl->YIn Cy H' p y' (wL Cw W'++(Nw++L))->Q .non H'
theorem gK {K:PySem.W.Frag}{a b:Addr}{xs ys:List V}{g:TG}{tb:TS}{D:Ends}{σ:St}{H:Hp} (hl:xs.length=ys.length) (Pv:Nat->St->Hp->Prop) (h0:Pv 0 σ H) (ha:∀ i σ H,i<=xs.length->Pv i σ H->SqL K H a xs/\SqL K H b ys)
  (hs:∀ i x y σ H p,xs[i]?=some x->ys[i]?=some y->Pv i σ H->H p=none->g (.ref p) σ (upd H p (.tup [x,y])) fun σ2 H2=>tb { D with nx:=Pv (i+1),ct:=Pv (i+1),bk:=D.nx } σ2 H2) (hd:∀ σ H,Pv xs.length σ H->D.nx σ H) :
  ∃ W:Nat->Nat->St->Hp->Prop,(∃ m,W 0 m σ H)/\∀ i m σ H,W i m σ H ->
   ((Itz K a b).stop i H/\D.nx σ H)∨((Itz K a b).go i H/\∃ N:St->Hp->Prop,(∀ σ' H',N σ' H'->∃ m',m'<m/\W (i+1) m' σ' H')/\∀ x H',(Itz K a b).yld i H x H'->g x σ H' fun σ2 H2=>tb { D with nx:=N,ct:=N,bk:=D.nx } σ2 H2):=by
 refine⟨fun i m σ H=>m=xs.length - i/\i<=xs.length/\Pv i σ H,⟨_,U,Nat.zero_le _,h0⟩,?_⟩
 rintro i m σ H ⟨rfl,hi,hp⟩
 obtain⟨qa,qb⟩:=ha i σ H hi hp
 by_cases c:i<xs.length
 ·refine .inr ⟨⟨xs,xs[i],ys,ys[i]'(by omega),qa,getElem?_eq_getElem c,qb,getElem?_eq_getElem (by omega)⟩,Pv (i+1),fun σ' H' h'=>⟨_,by omega,U,by omega,h'⟩,?_⟩
  rintro v H' ⟨p,x,y,rfl,hpn,rfl,hx,hy⟩
  exact hs i x y σ H p (hx _ qa) (hy _ qb) hp hpn
 ·have e:i=xs.length:=by omega
  subst e
  exact .inl ⟨⟨xs,ys,qa,qb,.inl (Nat.le_refl _)⟩,hd σ H hp⟩
theorem Rw.outs_onw {x:Rw} (h:x.deedy=true) (k n:Int):(x.onw k n).length=x.outs:=by cases x <;> first | rfl | cases h
theorem Rw.nce:∀ {x:Rw},x.deedy=true->¬ (V.str x.ws=V.str ("call" : Str))/\¬ (V.str x.ws=V.str ("end" : Str))
 | .bell _,_=>⟨(show ¬ (V.str ("bell" : Str)=V.str ("call" : Str)) by decide +kernel),(show ¬ (V.str ("bell" : Str)=V.str ("end" : Str)) by decide +kernel)⟩
 | .set _ _,_=>⟨(show ¬ (V.str ("set" : Str)=V.str ("call" : Str)) by decide +kernel),(show ¬ (V.str ("set" : Str)=V.str ("end" : Str)) by decide +kernel)⟩
 | .ask _ _ _,_=>⟨(show ¬ (V.str ("ask" : Str)=V.str ("call" : Str)) by decide +kernel),(show ¬ (V.str ("ask" : Str)=V.str ("end" : Str)) by decide +kernel)⟩
 | .bump _ _,_=>⟨(show ¬ (V.str ("bump" : Str)=V.str ("call" : Str)) by decide +kernel),(show ¬ (V.str ("bump" : Str)=V.str ("end" : Str)) by decide +kernel)⟩
 | .go _,_=>⟨(show ¬ (V.str ("go" : Str)=V.str ("call" : Str)) by decide +kernel),(show ¬ (V.str ("go" : Str)=V.str ("end" : Str)) by decide +kernel)⟩
section
variable {P:Program}{w:World}{K:PySem.W.Frag}{mg:Str->Option Value}{base:Heap}{t:Adr}
theorem scLw:FnScope ["laid","ways","row","stretch","number","out","end","place"] ["laid","ways","row","stretch","number"] (ai mL):={}
theorem ox (T:Txt K mg t):FnOk P w K mg base CX0 8 t.f_J61 t.d_J61 ["laid","ways","row","stretch","number"] (iX t.c_Yard t.c_Laid t.c_Ways):=by
 refine T.F_J61.ok scLw (fun vs H Q E h=>?_) (fun cdv A outer s H vs Q E hr h=>?_)
 ·obtain⟨_,_,_,_,_,_,_,_,_,_,_,_,_,_,_,_,_,_,_,_,rfl,_⟩:=h
  rfl
 ·obtain⟨p,y,L,B,ds,mr,cr,W,a,x,k,r,z,e,N,M,R,nr,G,Pl,rfl,eY,Y,lin,mx,hz,he,D,al,xok,rok,wok,hk,hpl,bN,bM,bR,q⟩:=h
  refine⟨_,(ae (ar (i:=5) scLw.nd rfl (Or.inl rfl) (aq (aa (aC bf (aA (pv 0) T.cl_Laid T.M_Jv (kh T) hr (oR T) .nil aB (aa (pv 3) (aa (pv 4) af))) ag) (aa ag af))))
   (ah (aG (aj bp (aC bf (pv 2) ag) aF (ap _))
    (ah (ak (b6 PySem.F.plainAttrs_list PySem.F.slot_list_append PySem.F.type_list_append aT (aC ay (aD (pv 1) rfl) (aC bf (pv 2) ag (fun _ _=>rfl))) (@aa _ _ _ _ _ (aq (@aa _ _ _ _ _ (pv 5) (@aa _ _ _ _ _ (aq (aa (pv 3) (aa (ao aJ (pv 4) ag) af))) af (by rfl)) (by rfl))) af (by rfl)))))
    (ah (aG (aj bp (aC bf (pv 2) ag) aF (ap _))
      (ah (ak (b6 PySem.F.plainAttrs_list PySem.F.slot_list_append PySem.F.type_list_append aT (aC ay (aD (pv 1) rfl) (pv 3)) (aa (pv 5) af))))
      (ah (aX PassesOwn.never rfl (j3 (by rfl) T.z_zip (aa (pcl (ok_Jz T) hr T.m_Jz T.F_Jz.kp (b_Jz T) (aa (pv 0) (aa (pv 2) (aa (pv 5) af)))) (aa (pcl (ot T) hr T.m_J81 T.F_J81.kp (b_J81 T) (aa (pv 2) (aa (pv 3) (aa (pv 4) af)))) af))) (bt rfl (ax (am (i:=6) scLw.nd rfl (Or.inl rfl)) (ax (am (i:=7) scLw.nd rfl (Or.inl rfl)) bi)))
        (ah (ak (aA (pv 1) T.cl_Ways T.M_Jx (mW T) hr (pX T) .nil aB (aa (pv 6) (aa (pv 7) af)))))))))))),?_⟩
  rw[show L2.start ["laid","ways","row","stretch","number","out","end","place"] [V.ref B.p,V.ref W.p,V.ref a,V.int k,V.int r]=([some (V.ref B.p),some (V.ref W.p),some (V.ref a),some (V.int k),some (V.int r),none,none,none]:St) from rfl]
  have inL:∀ {v:Addr×HO},v ∈ L->v ∈ wL t.c_Ways W++L:=fun h=>mem_append_right _ h
  have gB:=Y.at_ (inL lin.p)
  have hzm:=mem_of_getElem? hz
  have ge:=Y.at_ (inL (lin.de z hzm e (mem_of_getElem? he)))
  refine⟨_,U,B.p,B.dx,_,U,gB,(fm _).1,_,U,_,U,?_⟩
  refine tn0 ?_
  refine⟨B,ds,mr,cr,L,k,r,z,e,U,fun v hv=>Y.at_ (inL hv),lin,hz,he,?_⟩
  refine⟨e.1,_,_,_,U,U,SqT.of ge,aw (j:=0) rfl,(show 2<=sizeLine by decide),fun o ho=>?_⟩
  dsimp only[List.set]
  have Y1:=(Y.alloc ho (.tup [.int e.2.1,.int 1])).perm (List.perm_middle (l₁:=wL t.c_Ways W) (l₂:=L)).symm
  have ga:=Y1.at_ (mem_append_right _ (mem_cons_of_mem _ mx))
  have gw:H W.p=some (.ins t.c_Ways W.dx (wfl W)):=Y.at_ (z:=(W.p,.ins t.c_Ways W.dx (wfl W))) (mem_append_left _ mem_cons_self)
  have gW:=Y1.at_ (z:=(W.p,.ins t.c_Ways W.dx (wfl W))) (mem_append_left _ mem_cons_self)
  have lin1:=lin.mono (fun v hv=>mem_cons_of_mem (o,HO.tup [.int e.2.1,.int 1]) hv)
  have wok1:=wok.mono (fun v hv=>mem_cons_of_mem (o,HO.tup [.int e.2.1,.int 1]) hv)
  generalize upd H o _=H1 at Y1 ga gW ⊢
  have wp:Al y ((e.2.1,1)::(W.pend++G)):=al.perm List.perm_middle
  refine⟨_,U,a,_,_,_,U,U,SqT.of ga,aw (j:=0) rfl,U,_,U,?_⟩
  by_cases hd:x.deedy=true
  ·obtain⟨hc,hf⟩:=Rw.nce hd
   refine ifF (decide_eq_false hc) ?_
   refine⟨_,U,a,_,_,_,U,U,SqT.of ga,aw (j:=0) rfl,U,_,U,ifF (decide_eq_false hf) ?_⟩
   refine⟨_,U,_,U,_,U,?_⟩
   refine tn0 ?_
   refine⟨p,y,_,B,ds,mr,cr,a,x,(o,e.2.1,1),N,M,R,nr,k,W.S.length,W.pend++G,U,eY,Y1,lin1.mono (fun v hv=>mem_append_right _ hv),mem_append_right _ (mem_cons_of_mem _ mx),mem_append_right _ mem_cons_self,D,wp,xok,hd,rok,by omega,by omega,bR,fun H2 y2 N2 l zs N' M' D2 bN2 bM2 up2 al2 lz mz Y2=>?_⟩
   have gr:(a,HO.tup x.v) ∈ (l,HO.lst (prV zs))::(N2++(wL t.c_Ways W++(o,HO.tup [.int e.2.1,.int 1])::L)):=mem_cons_of_mem _ (mem_append_right _ (mem_append_right _ (mem_cons_of_mem _ mx)))
   refine⟨_,U,_,U,_,U,?_⟩
   refine tn0 ?_
   obtain⟨A2,eA2,h2⟩:=Y2
   refine⟨a,x,k,r,_,U,h2,mem_append_right _ gr,fun H3 l2 ps eps h3=>?_⟩
   refine tn0 ?_
   subst eA2
   obtain⟨L3,eL3⟩:∃ L3:Kn,(l2,HO.lst (prV ps))::(l,HO.lst (prV zs))::(PrK ps++(N2++((o,HO.tup [.int e.2.1,.int 1])::L)))=L3:=⟨_,U⟩
   have Y3:YIn t.c_Yard H3 A2.p y2 (wL t.c_Ways W++L3):=by
    refine⟨A2,U,Has.ac h3 ?_⟩
    rw[<- eL3]
    simp only[Ms.app,Ms.cons]
    ac_rfl
   clear h2 h3
   have toL3:∀ v ∈ L,v ∈ L3:=fun v hv=>by rw[<- eL3]; exact mem_cons_of_mem _ (mem_cons_of_mem _ (mem_append_right _ (mem_append_right _ (mem_cons_of_mem _ hv))))
   have ml2:(l2,HO.lst (prV ps)) ∈ L3:=by rw[<- eL3]; exact mem_cons_self
   have ml:(l,HO.lst (prV zs)) ∈ L3:=by rw[<- eL3]; exact mem_cons_of_mem _ mem_cons_self
   have mps:∀ v ∈ ps,pK2 v ∈ L3:=fun v hv=>by rw[<- eL3]; exact mem_cons_of_mem _ (mem_cons_of_mem _ (mem_append_left _ (mem_map_of_mem (f:=fun z:Pr=>(z.1,HO.tup [.int z.2.1,.int z.2.2])) hv)))
   have mzs:∀ v ∈ zs,pK2 v ∈ L3:=fun v hv=>by
    rw[<- eL3]
    rcases mz v hv with h | rfl
    ·exact mem_cons_of_mem _ (mem_cons_of_mem _ (mem_append_right _ (mem_append_left _ h)))
    ·exact mem_cons_of_mem _ (mem_cons_of_mem _ (mem_append_right _ (mem_append_right _ mem_cons_self)))
   have lps:ps.length=zs.length:=by rw[lz,<- Rw.outs_onw hd (k:Int) (r:Int),<- eps,length_map]
   have lpv:∀ l:List Pr,(prV l).length=l.length:=fun l=>by unfold prV; rw[length_map]
   have o2:x.outs<=2:=by cases x <;> simp only[Rw.outs] <;> decide
   refine⟨l,l2,U,⟨_,SqL.of (Y3.at_ (mem_append_right _ ml))⟩,⟨_,SqL.of (Y3.at_ (mem_append_right _ ml2))⟩,gK (xs:=prV zs) (ys:=prV ps) (by rw[lpv,lpv,lps]) (fun j σ H'=>∃ (W':WS) (u1 u2:Option V),σ=[some (.ref B.p),some (.ref W.p),some (.ref a),some (.int k),some (.int r),some (.ref o),u1,u2]/\W'.p=W.p/\W'.S=W.S/\W'.T=W.T /\
    YIn t.c_Yard H' A2.p y2 (wL t.c_Ways W'++L3)/\WOk W' L3 Pl/\W'.dn=W.dn+j/\Al y2 (W'.pend++((zs.drop j).map (·.2)++G))) ⟨W,_,_,U,U,U,U,Y3,wok.mono toL3,U,?_⟩ (fun j σ H' _ z_=>z_.elim fun W' z_=>z_.elim fun u1 z_=>z_.elim fun u2 z_=>z_.elim fun _ z_=>z_.elim fun _ z_=>z_.elim fun _ z_=>z_.elim fun _ z_=>z_.elim fun Y' _=>⟨SqL.of (Y'.at_ (mem_append_right _ ml)),SqL.of (Y'.at_ (mem_append_right _ ml2))⟩) ?_ ?_⟩
   ·refine al2.perm ?_
    rw[<- append_assoc,<- append_assoc]
    exact List.Perm.append_right _ List.perm_append_comm
   ·rintro j v1 v2 σ H4 tp hv1 hv2 ⟨W',u1,u2,rfl,e1,e2,e3,Y4,wok4,dn4,al4⟩ htp
    unfold prV at hv1 hv2
    rw[getElem?_map] at hv1 hv2
    obtain⟨d,hd1,rfl⟩:=Option.map_eq_some_iff.mp hv1
    obtain⟨pl,hp1,rfl⟩:=Option.map_eq_some_iff.mp hv2
    have hj:j<zs.length:=(List.getElem?_eq_some_iff.mp hd1).1
    have Y5:=Y4.alloc htp (.tup [.ref d.1,.ref pl.1])
    refine⟨tp,_,U,SqT.of (Y5.at_ mem_cons_self),U,_,_,U,_,_,U,U,?_⟩
    dsimp only[List.set]
    have Y6:=Y5.sub (List.sublist_cons_self _ _)
    have gW':=Y6.at_ (z:=(W'.p,.ins t.c_Ways W'.dx (wfl W'))) (mem_append_left _ mem_cons_self)
    rw[e1] at gW'
    refine⟨_,U,W.p,W'.dx,_,U,gW',mh _,_,U,_,U,?_⟩
    refine tn0 ?_
    have hpm:pl.2 ∈ x.onw k r:=by rw[<- eps]; exact mem_map_of_mem (f:=fun z:Pr=>z.2) (mem_of_getElem? hp1)
    have bdn:W'.dn<=5000:=by rw[dn4]; unfold WS.cN at bN; omega
    refine iF (b:=pl.1) (pl:=pl.2) e1 Y6 (mps pl (mem_of_getElem? hp1)) wok4.kd wok4.ne bdn (fun H7 D' ld Y7=>?_)
    have hdm:=mem_of_getElem? hd1
    refine⟨{ W' with D:=D' },_,_,U,e1,e2,e3,Y7,wok4.led ld (hpl _ hpm) (mzs d hdm),?_,?_⟩
    ·have:=ld.pm.length_eq
     rw[length_cons] at this
     show(dE D').length=_
     rw[this]
     have h:(dE W'.D).length=W.dn+j:=dn4
     omega
    ·refine al4.perm ?_
     have edr:zs.drop j=d::zs.drop (j+1):=by rw[List.drop_eq_getElem_cons hj,(List.getElem?_eq_some_iff.mp hd1).2]
     rw[edr,map_cons,List.cons_append]
     exact List.perm_middle.trans (List.Perm.append_right _ (W'.pendD ld.pm).symm)
   ·rintro σ H4 ⟨W',u1,u2,rfl,e1,e2,e3,Y4,wok4,dn4,al4⟩
    rw[lpv] at dn4 al4
    rw[List.drop_length,List.map_nil,List.nil_append] at al4
    have er:x.rc cr=x.dc cr+x.outs:=by cases x <;> first | rfl | cases hd
    refine q H4 y2 ((l2,HO.lst (prV ps))::(l,HO.lst (prV zs))::(PrK ps++(N2++[(o,HO.tup [.int e.2.1,.int 1])]))) W' N' M' e1 (by rw[e2]) (by rw[e3]) D2 ?_ ?_ up2 al4 ?_ ?_
    ·unfold WS.cN
     rw[er,dn4,show W'.sn=W.sn by unfold WS.sn; rw[e2],show W'.tn=W.tn by unfold WS.tn; rw[e3]]
     omega
    ·unfold WS.cM
     rw[dn4,show W'.sn=W.sn by unfold WS.sn; rw[e2],show W'.tn=W.tn by unfold WS.tn; rw[e3]]
     omega
    ·refine wok4.mono fun v hv=>?_
     rw[<- eL3] at hv
     simpa only [List.cons_append,append_assoc,List.nil_append] using hv
    ·refine b7 Y4 ?_
     rw[<- eL3]
     simp only[List.cons_append,append_assoc,List.nil_append]
  ·cases x with
   | bell _=>exact absurd rfl hd
   | set _ _=>exact absurd rfl hd
   | ask _ _ _=>exact absurd rfl hd
   | bump _ _=>exact absurd rfl hd
   | go _=>exact absurd rfl hd
   | call s=>
    refine ifT (decide_eq_true rfl) ?_
    obtain⟨s0,s1⟩:=xok
    obtain⟨sn,rfl⟩:=Int.eq_ofNat_of_zero_le (show 0<=s by omega)
    have hsn:sn<W.S.length:=by omega
    have hS:=getElem?_eq_getElem hsn
    obtain⟨zS,ezS⟩:∃ zS,W.S[sn]=zS:=⟨_,U⟩
    rw[ezS] at hS
    have gts:=Y1.at_ (z:=(W.ts,HO.lst (W.S.map fun z=>V.ref z.1))) (mem_append_left _ (by unfold wL; simp))
    have gz:=Y1.at_ (z:=(zS.1,HO.lst (zS.2.map fun c=>V.ref c.1))) (mem_append_left _ (by
     unfold wL
     exact mem_append_right _ (mem_append_right _ (mem_append_left _ (mem_map_of_mem (f:=fun z:Addr×List (Addr×Pr×Pr)=>(z.1,HO.lst (z.2.map fun c=>V.ref c.1))) (mem_of_getElem? hS))))))
    have eS:(W.S.map fun z=>V.ref z.1)[sn]?=some (.ref zS.1):=by rw[getElem?_map,hS]; rfl
    have lS:(zS.2.map fun c=>c.2.1.2).length<=W.sn:=hV (f:=fun z:Addr×List (Addr×Pr×Pr)=>z.2.map fun c=>c.2.1.2) hS
    refine⟨_,U,W.p,_,W.dx,_,_,U,gW,T.cl_Ways,T.n_Ways_to_stretches,mf _,_,U,a,_,_,_,U,U,SqT.of ga,aw (j:=1) rfl,W.ts,_,_,_,U,U,SqL.of gts,aw eS,.inl ⟨U,_,SqL.of gz⟩,_,U,_,U,_,U,_,_,U,U,(show 2<=sizeLine by decide),fun b hb=>?_⟩
    have Y2:=Y1.alloc hb (.tup [.int k,.int (r+1)])
    refine⟨(show 2<=sizeLine by decide),fun c hc=>?_⟩
    have Y3:=Y2.alloc hc (.tup [.ref o,.ref b])
    refine tn0 ?_
    have gz3:=Y3.at_ (z:=(zS.1,HO.lst (zS.2.map fun c=>V.ref c.1))) (mem_cons_of_mem _ (mem_cons_of_mem _ (mem_append_left _ (by
     unfold wL
     exact mem_append_right _ (mem_append_right _ (mem_append_left _ (mem_map_of_mem (f:=fun z:Addr×List (Addr×Pr×Pr)=>(z.1,HO.lst (z.2.map fun c=>V.ref c.1))) (mem_of_getElem? hS))))))))
    refine⟨zS.1,_,_,U,U,gz3,sizeOk (by rw[length_map] at lS ⊢; unfold WS.cN at bN; omega),?_⟩
    obtain⟨z',ez'⟩:∃ z':Addr×List (Addr×Pr×Pr),(zS.1,zS.2++[(c,(o,e.2.1,1),(b,(k:Int),(r:Int)+1))])=z':=⟨_,U⟩
    obtain⟨X,X2,eX,eX'⟩:=wL_S (C:=t.c_Ways) (z':=z') hS (by rw[<- ez'])
    have ev:zS.2.map (fun c=>V.ref c.1)++[.ref c]=z'.2.map (fun c=>V.ref c.1):=by rw[<- ez',map_append]; rfl
    rw[ev]
    have Y4:YIn t.c_Yard _ p y (X++(zS.1,HO.lst (zS.2.map fun c=>V.ref c.1))::(X2++((c,.tup [.ref o,.ref b])::(b,.tup [.int k,.int (r+1)])::(o,.tup [.int e.2.1,.int 1])::L))):=Y3.ac (by rw[eX]; simp only[Ms.app,Ms.cons]; ac_rfl)
    have Y5:=Y4.mid (.lst (z'.2.map fun c=>V.ref c.1))
    have pm:(sE (W.S.set sn z')).Perm ((e.2.1,1)::sE W.S):=by
     unfold sE
     exact fV (z':=z') (x:=(e.2.1,1)) hS (by rw[<- ez',map_append]; rfl)
    have esn:(WS.sn { W with S:=W.S.set sn z' })=W.sn+1:=by
     have:=pm.length_eq
     rw[length_cons] at this
     exact this
    refine q _ y [(c,.tup [.ref o,.ref b]),(b,.tup [.int k,.int (r+1)]),(o,.tup [.int e.2.1,.int 1])] { W with S:=W.S.set sn z' } N M rfl (List.length_set ..) rfl D ?_ ?_ (Up.refl _) ?_ ?_ ?_
    ·show N+(W.dn+3*WS.sn { W with S:=W.S.set sn z' }+W.tn)<=N+(W.dn+3*W.sn+W.tn)+3
     rw[esn]; omega
    ·show M+(4*W.dn+12*WS.sn { W with S:=W.S.set sn z' }+4*W.tn)<=M+(4*W.dn+12*W.sn+4*W.tn)+60
     rw[esn]; omega
    ·exact wp.perm (List.Perm.append_right G (W.pendS pm).symm)
    ·have up:∀ v ∈ L,v ∈ [(c,HO.tup [.ref o,.ref b]),(b,.tup [.int k,.int (r+1)]),(o,.tup [.int e.2.1,.int 1])]++L:=fun v hv=>mem_append_right _ hv
     have w0:=wok.mono up
     refine⟨w0.kd,w0.ne,w0.pd,w0.eD,fun u hu v hv=>?_,w0.eT⟩
     rcases List.mem_or_eq_of_mem_set hu with hu | rfl
     ·exact w0.eS u hu v hv
     ·rw[<- ez'] at hv
      rcases mem_append.mp hv with hv | hv
      ·exact w0.eS _ (mem_of_getElem? hS) v hv
      ·rw[mem_singleton.mp hv]
       exact⟨mem_append_left _ mem_cons_self,mem_append_left _ (mem_cons_of_mem _ (mem_cons_of_mem _ mem_cons_self)),mem_append_left _ (mem_cons_of_mem _ mem_cons_self),hpl _ (mem_cons_of_mem _ mem_cons_self)⟩
    ·refine b7 Y5 ?_
     rw[eX']
     simp only[append_assoc,List.cons_append,List.nil_append]
   | fin=>
    refine ifF (sne "end" "call") ?_
    refine⟨_,U,a,_,_,_,U,U,SqT.of ga,aw (j:=0) rfl,U,_,U,ifT (decide_eq_true rfl) ?_⟩
    have hT:=getElem?_eq_getElem hk
    obtain⟨zT,ezT⟩:∃ zT,W.T[k]=zT:=⟨_,U⟩
    rw[ezT] at hT
    have gts:=Y1.at_ (z:=(W.tc,HO.lst (W.T.map fun z=>V.ref z.1))) (mem_append_left _ (by unfold wL; simp))
    have gz:=Y1.at_ (z:=(zT.1,HO.lst (prV zT.2))) (mem_append_left _ (by
     unfold wL
     exact mem_append_right _ (mem_append_right _ (mem_append_right _ (mem_map_of_mem (f:=fun z:Addr×List Pr=>(z.1,HO.lst (prV z.2))) (mem_of_getElem? hT))))))
    have lT:(zT.2.map (·.2)).length<=W.tn:=hV (f:=fun z:Addr×List Pr=>z.2.map (·.2)) hT
    have eT:(W.T.map fun z=>V.ref z.1)[k]?=some (.ref zT.1):=by rw[getElem?_map,hT]; rfl
    refine⟨_,U,W.p,_,W.dx,_,_,U,gW,T.cl_Ways,T.n_Ways_to_callers,jw _,_,U,W.tc,_,_,_,U,U,SqL.of gts,aw eT,.inl ⟨U,_,SqL.of gz⟩,_,U,?_⟩
    refine tn0 ?_
    refine⟨zT.1,_,_,U,U,gz,sizeOk (by unfold prV; rw[length_map] at lT ⊢; unfold WS.cN at bN; omega),?_⟩
    obtain⟨z',ez'⟩:∃ z':Addr×List Pr,(zT.1,zT.2++[(o,e.2.1,1)])=z':=⟨_,U⟩
    obtain⟨X,X2,eX,eX'⟩:=wL_T (C:=t.c_Ways) (z':=z') hT (by rw[<- ez'])
    have ev:prV zT.2++[.ref o]=prV z'.2:=by rw[<- ez']; unfold prV; rw[map_append]; rfl
    rw[ev]
    have Y4:YIn t.c_Yard _ p y (X++(zT.1,HO.lst (prV zT.2))::(X2++((o,.tup [.int e.2.1,.int 1])::L))):=b7 Y1 (by rw[eX]; simp only[append_assoc,List.cons_append])
    have Y5:=Y4.mid (.lst (prV z'.2))
    have pm:(tE (W.T.set k z')).Perm ((e.2.1,1)::tE W.T):=by
     unfold tE
     exact fV (z':=z') (x:=(e.2.1,1)) hT (by rw[<- ez',map_append]; rfl)
    have etn:(WS.tn { W with T:=W.T.set k z' })=W.tn+1:=by
     have:=pm.length_eq
     rw[length_cons] at this
     exact this
    refine q _ y [(o,.tup [.int e.2.1,.int 1])] { W with T:=W.T.set k z' } N M rfl rfl (List.length_set ..) D ?_ ?_ (Up.refl _) ?_ ?_ ?_
    ·show N+(W.dn+3*W.sn+WS.tn { W with T:=W.T.set k z' })<=N+(W.dn+3*W.sn+W.tn)+1
     rw[etn]; omega
    ·show M+(4*W.dn+12*W.sn+4*WS.tn { W with T:=W.T.set k z' })<=M+(4*W.dn+12*W.sn+4*W.tn)+60
     rw[etn]; omega
    ·exact wp.perm (List.Perm.append_right G (W.pendT pm).symm)
    ·have w0:=wok.mono (fun v (hv:v ∈ L)=>(mem_append_right [(o,HO.tup [.int e.2.1,.int 1])] hv))
     refine⟨w0.kd,w0.ne,w0.pd,w0.eD,w0.eS,fun u hu v hv=>?_⟩
     rcases List.mem_or_eq_of_mem_set hu with hu | rfl
     ·exact w0.eT u hu v hv
     ·rw[<- ez'] at hv
      rcases mem_append.mp hv with hv | hv
      ·exact w0.eT _ (mem_of_getElem? hT) v hv
      ·rw[mem_singleton.mp hv]
       exact mem_append_left _ mem_cons_self
    ·refine b7 Y5 ?_
     rw[eX']
     simp only[append_assoc,List.cons_append,List.nil_append]
end
noncomputable def jH (Cy Cw:Addr):Sp:=fun vs H Q _=>∃ (p:Addr) (y:YR) (L:Kn) (W:WS) (e:Pr) (b:Addr) (pl:Int×Int) (N M R:Nat) (G:List (Int×Int)) (Pl:Int×Int->Prop),vs=[.ref p,.ref W.p,.ref e.1,.ref b]/\YIn Cy H p y (wL Cw W++L)/\pK2 e ∈ L/\pK2 (b,pl) ∈ L /\
 Ld y N M R/\Al y (e.2::(dE W.D++G))/\WOk W L Pl/\Pl pl/\N<=7000/\M<=28000/\R<=1000/\W.dn<=5000 /\
 ∀ H' y' Nw D' (i:Pr),Ld y' (N+1) (M+2) R->Up y y'->(dE D').length=W.dn+1->Al y' (i.2::(dE D'++G))->WOk { W with D:=D' } (Nw++L) Pl->pK2 i ∈ Nw->YIn Cy H' p y' (wL Cw { W with D:=D' }++(Nw++L))->Q (.ref i.1) H'
section
variable {P:Program}{w:World}{K:PySem.W.Frag}{mg:Str->Option Value}{base:Heap}{t:Adr}
theorem scLo:FnScope ["yard","ways","end","place","both","inward","outward"] ["yard","ways","end","place"] (ai pD):={}
theorem m4 (T:Txt K mg t):FnOk P w K mg base CX0 6 t.f_Jj t.d_Jj ["yard","ways","end","place"] (jH t.c_Yard t.c_Ways):=by
 refine T.F_Jj.ok scLo (fun vs H Q E h=>?_) (fun cdv A outer s H vs Q E hr h=>?_)
 ·obtain⟨_,_,_,_,_,_,_,_,_,_,_,_,rfl,_⟩:=h
  rfl
 ·obtain⟨p,y,L,W,e,b,pl,N,M,R,G,Pl,rfl,Y,me,mb,D,al,wok,hpl,bN,bM,bR,bD,q⟩:=h
  refine⟨_,(ae (cc (pcl (oy T) hr T.m_J51 T.F_J51.kp (b_J51 T) (aa (pv 0) af)) (bt rfl (ax (am (i:=4) scLo.nd rfl (Or.inl rfl)) (ax (am (i:=5) scLo.nd rfl (Or.inl rfl)) (ax (am (i:=6) scLo.nd rfl (Or.inl rfl)) bi)))))
   (ae (ak (aA (pv 0) T.cl_Yard T.M_Jw (cg T) hr (eL T) .nil aB (aa (pv 4) (aa (pv 2) af))))
   (ae (ak (aA (pv 1) T.cl_Ways T.M_Jx (mW T) hr (pX T) .nil aB (aa (pv 6) (aa (pv 3) af))))
   (ah (aH (pv 5)))))),?_⟩
  rw[show L2.start ["yard","ways","end","place","both","inward","outward"] [V.ref p,V.ref W.p,V.ref e.1,V.ref b]=([some (V.ref p),some (V.ref W.p),some (V.ref e.1),some (V.ref b),none,none,none]:St) from rfl]
  refine⟨_,U,?_⟩
  refine tn0 ?_
  refine⟨p,y,_,N,M,R,U,Y,D,by omega,by omega,bR,fun H2 tp b0 b2 b1 Y2=>?_⟩
  refine⟨tp,_,U,SqT.of (Y2.at_ mem_cons_self),U,_,_,U,_,_,U,_,_,U,U,?_⟩
  dsimp only[List.set]
  have al2:=al.lay3 D .still 0 .non rfl
  have D2:=D.lay .still 0 .non
  have up2:=D.up .still 0 .non
  obtain⟨y2,ey2⟩:∃ y2,bC y .still 0 .non=y2:=⟨_,U⟩
  rw[ey2] at Y2 al2 D2 up2
  obtain⟨L2,eL2⟩:∃ L2:Kn,(tp,HO.tup [.ref b0,.ref b2,.ref b1])::pK2 (b1,(N:Int),1)::pK2 (b2,(N:Int),2)::pK2 (b0,(N:Int),0)::L=L2:=⟨_,U⟩
  have toL2:∀ v ∈ L,v ∈ L2:=fun v hv=>by rw[<- eL2]; exact mem_cons_of_mem _ (mem_cons_of_mem _ (mem_cons_of_mem _ (mem_cons_of_mem _ hv)))
  have Y3:YIn t.c_Yard H2 p y2 (wL t.c_Ways W++L2):=Y2.ac (by rw[<- eL2]; simp only[Ms.app,Ms.cons]; ac_rfl)
  have m0:pK2 (b0,(N:Int),0) ∈ L2:=by rw[<- eL2]; exact mem_cons_of_mem _ (mem_cons_of_mem _ (mem_cons_of_mem _ mem_cons_self))
  have m1:pK2 (b1,(N:Int),1) ∈ L2:=by rw[<- eL2]; exact mem_cons_of_mem _ mem_cons_self
  obtain⟨A3,gy⟩:=Y3.obj
  refine⟨_,U,p,A3.dx,_,U,gy,(bS _ _ _).2.2.1,_,U,_,U,?_⟩
  refine tn0 ?_
  have al3:Al y2 (((N:Int),0)::e.2::((N:Int),2)::((N:Int),1)::(dE W.D++G)):=al2.perm (.cons _ (perm3.trans (.cons _ (.swap _ _ _))))
  have f0:=al3.2 _ mem_cons_self
  have fe:=al3.2 _ (mem_cons_of_mem _ mem_cons_self)
  refine bA (a:=(b0,(N:Int),0)) (b:=e) Y3 D2 (by omega) (mem_append_right _ m0) (mem_append_right _ (toL2 _ me)) f0 fe al3.ne (fun H4 Y4=>?_)
  have D4:=D2.link (a:=(b0,(N:Int),0)) (b:=e) f0 fe
  have al4:=Al.link (a:=(b0,(N:Int),0)) (b:=e) al3
  have up4:=up2.trans (Up.link (a:=(b0,(N:Int),0)) (b:=e) f0 fe)
  have gW:=Y4.at_ (z:=(W.p,.ins t.c_Ways W.dx (wfl W))) (mem_append_left _ mem_cons_self)
  refine⟨_,U,W.p,W.dx,_,U,gW,mh _,_,U,_,U,?_⟩
  refine tn0 ?_
  refine iF (e:=(b1,(N:Int),1)) (b:=b) (pl:=pl) rfl Y4 (toL2 _ mb) wok.kd wok.ne bD (fun H5 D' ld Y5=>?_)
  refine⟨_,U,?_⟩
  refine q H5 _ [(tp,HO.tup [.ref b0,.ref b2,.ref b1]),pK2 (b1,(N:Int),1),pK2 (b2,(N:Int),2),pK2 (b0,(N:Int),0)] D' (b2,(N:Int),2) D4 up4 ?_ ?_ ?_ ?_ ?_
  ·rw[ld.pm.length_eq]; rfl
  ·exact al4.perm (.cons _ (List.Perm.append_right G ld.pm.symm))
  ·exact((wok.mono toL2).led ld hpl m1).mono (fun v hv=>by rw[<- eL2] at hv; exact hv)
  ·exact mem_cons_of_mem _ (mem_cons_of_mem _ mem_cons_self)
  ·exact b7 Y5 (by rw[<- eL2]; rfl)
end
theorem apc {α:Type}{a b c:List α}:(a++(b++c)).Perm (b++(a++c)):=by
 rw[<- append_assoc a b c,<- append_assoc b a c]
 exact List.Perm.append_right _ List.perm_append_comm
theorem Al.lay1 {y:YR}{N M R:Nat} (h:Ld y N M R) {l:List (Int×Int)} (g:Al y l) (k:Kd) (note:Int) (rod:V) (hk:k.many=1):Al (bC y k note rod) (((N:Int),0)::l):=by
 refine⟨List.nodup_cons.mpr ⟨fun c=>(g.2 _ c).ne h rfl,g.1⟩,fun x hx=>?_⟩
 rcases mem_cons.mp hx with rfl | hx
 ·exact Fr.new h k note rod (Int.le_refl _) (by rw[hk]; decide)
 ·exact(g.2 x hx).lay h k note rod
theorem dZ {C:Addr}{H:Hp}{p lo:Addr}{y:YR}{L:Kn}{zs:List Pr}{z:Pr}{N M R:Nat}{G:List (Int×Int)}{Q:V->Hp->Prop} (Y:YIn C H p y L) (ml:(lo,HO.lst (prV zs)) ∈ L) (mzs:∀ x ∈ zs,pK2 x ∈ L) (mz:pK2 z ∈ L) (D:Ld y N M R) (al:Al y (z.2::(zs.map (·.2)++G)))
  (bN:N+zs.length<=8000) (bM:M+4*zs.length<=29000) (bR:R<=1000) (q:∀ H' y' Nw M',Ld y' (N+(zs.length - 1)) M' R->M'<=M+4*zs.length->Up y y'->Al y' G->YIn C H' p y' (Nw++L)->Q .non H'):gi C [.ref p,.ref lo,.ref z.1] H Q E0:=by
 obtain⟨n1,n2⟩:=List.nodup_cons.mp al.1
 have n3:=List.nodup_append.mp n2
 refine⟨p,y,L,lo,zs,z,N,M,R,U,Y,ml,mzs,mz,D,n3.1,fun c=>n1 (mem_append_left _ c),fun x hx=>al.2 _ (mem_cons_of_mem _ (mem_append_left _ (mem_map_of_mem (f:=fun x:Pr=>x.2) hx))),al.2 _ mem_cons_self,bN,bM,bR,fun H' y' Nw M' D' bM' up old Y'=>q H' y' Nw M' D' bM' up ?_ Y'⟩
 exact⟨n3.2.1,fun x hx=>old x (al.2 _ (mem_cons_of_mem _ (mem_append_right _ hx))) (fun c=>n3.2.2 x c x hx rfl) (fun c=>n1 (by rw[<- c]; exact mem_append_right _ hx))⟩
theorem Al.fan {y y2:YR}{N M R:Nat} (D:Ld y N M R) {l:List (Int×Int)}{zs:List Pr} (g:Al y l) (old:∀ x,Fr y x->Fr y2 x) (f0:Fr y2 ((N:Int),0)) (n0:((N:Int),0) ∉ zs.map (·.2)) (nd:(zs.map (·.2)).Nodup) (fz:∀ x ∈ zs,Fr y2 x.2/\(N:Int)<=x.2.1):Al y2 (((N:Int),0)::(zs.map (·.2)++l)):=by
 have lt:∀ x ∈ l,x.1<(N:Int):=fun x hx=>D.lt (g.2 x hx).1
 refine⟨List.nodup_cons.mpr ⟨fun c=>?_,List.nodup_append.mpr ⟨nd,g.1,fun a ha b hb e=>?_⟩⟩,fun x hx=>?_⟩
 ·rcases mem_append.mp c with c | c
  ·exact n0 c
  ·exact absurd (lt _ c) (Int.lt_irrefl _)
 ·obtain⟨u,hu,rfl⟩:=mem_map.mp ha
  have h1:=(fz u hu).2
  have h2:=lt b hb
  rw[<- e] at h2
  omega
 ·rcases mem_cons.mp hx with rfl | hx
  ·exact f0
  ·rcases mem_append.mp hx with hx | hx
   ·obtain⟨u,hu,rfl⟩:=mem_map.mp hx
    exact(fz u hu).1
   ·exact old x (g.2 x hx)
noncomputable def iW (Cy Cw:Addr):Sp:=fun vs H Q _=>∃ (p:Addr) (y:YR) (L:Kn) (W:WS) (k:Nat) (zS:Addr×List (Addr×Pr×Pr)) (zT:Addr×List Pr) (N M R:Nat) (G:List (Int×Int)) (Pl:Int×Int->Prop),vs=[.ref p,.ref W.p,.int k]/\YIn Cy H p y (wL Cw W++L)/\W.S[k]?=some zS/\W.T[k]?=some zT /\
 Ld y N M R/\Al y (dE W.D++(zS.2.map (fun c=>c.2.1.2)++(zT.2.map (·.2)++G)))/\WOk W L Pl/\Pl ((k:Int),0)/\N+W.dn+3*zS.2.length+zT.2.length<=4800/\M+4*W.dn+12*zS.2.length+4*zT.2.length<=20000/\R<=1000 /\
 ∀ H' y' Nw D' N' M',Ld y' N' M' R->N'+(dE D').length<=N+W.dn+3*zS.2.length+zT.2.length+2->M'+4*(dE D').length<=M+4*W.dn+12*zS.2.length+4*zT.2.length+10->Up y y'->Al y' (dE D'++G)->WOk { W with D:=D' } (Nw++L) Pl->YIn Cy H' p y' (wL Cw { W with D:=D' }++(Nw++L))->Q .non H'
theorem jy {C:Addr}{W:WS}{k:Nat}{z:Addr×List (Addr×Pr×Pr)} (h:W.S[k]?=some z):(z.1,HO.lst (z.2.map fun c=>V.ref c.1)) ∈ wL C W:=by
 unfold wL
 exact mem_append_right _ (mem_append_right _ (mem_append_left _ (mem_map_of_mem (f:=fun z:Addr×List (Addr×Pr×Pr)=>(z.1,HO.lst (z.2.map fun c=>V.ref c.1))) (mem_of_getElem? h))))
theorem mq {C:Addr}{W:WS}{k:Nat}{z:Addr×List Pr} (h:W.T[k]?=some z):(z.1,HO.lst (prV z.2)) ∈ wL C W:=by
 unfold wL
 exact mem_append_right _ (mem_append_right _ (mem_append_right _ (mem_map_of_mem (f:=fun z:Addr×List Pr=>(z.1,HO.lst (prV z.2))) (mem_of_getElem? h))))
theorem nk {C:Addr}{W:WS}:(W.ts,HO.lst (W.S.map fun z=>V.ref z.1)) ∈ wL C W:=by unfold wL; simp
theorem jx {C:Addr}{W:WS}:(W.tc,HO.lst (W.T.map fun z=>V.ref z.1)) ∈ wL C W:=by unfold wL; simp
theorem mj {C:Addr}{W:WS}:(W.p,HO.ins C W.dx (wfl W)) ∈ wL C W:=mem_cons_self
section
variable {P:Program}{w:World}{K:PySem.W.Frag}{mg:Str->Option Value}{base:Heap}{t:Adr}
theorem scLk2:FnScope ["yard","ways","stretch","calls","root","leaves","leaf","out","behind"] ["yard","ways","stretch"] (ai pw):={}
theorem ok_Jp (T:Txt K mg t):FnOk P w K mg base CX0 7 t.f_Jp t.d_Jp ["yard","ways","stretch"] (iW t.c_Yard t.c_Ways):=by
 obtain⟨ds_l2,hd_J21_2,hb_J21_2⟩:=bP T
 refine T.F_Jp.ok scLk2 (fun vs H Q E h=>?_) (fun cdv A outer s H vs Q E hr h=>?_)
 ·obtain⟨_,_,_,_,_,_,_,_,_,_,_,_,rfl,_⟩:=h
  rfl
 ·obtain⟨p,y,L,W,k,zS,zT,N,M,R,G,Pl,rfl,Y,hS,hT,D,al,wok,hpl,bN,bM,bR,q⟩:=h
  refine⟨_,(ae (ar (i:=3) scLk2.nd rfl (Or.inl rfl) (aC ay (aD (pv 1) rfl) (pv 2)))
   (ae (aG (fM (cE (pv 3) (by intro _; rfl)))
    (ae (ak (pcl (cI T) hr T.m_merge T.F_merge.kp (dA T) (@aa _ _ _ _ _ (pv 0) (@aa _ _ _ _ _ (aC ay (aD (pv 1) rfl) (pv 2)) (@aa _ _ _ _ _ (aq (aa (aA (pv 0) T.cl_Yard T.M_J21 (bG T) hr hb_J21_2 hd_J21_2 aB (aa aF af)) (aa ag af))) af (by rfl)) (by rfl)) (by rfl))))
     (ah iA))
    au)
   (ae (cc (pcl (oq T) hr T.m_fan T.F_fan.kp (b_fan T) (aa (pv 0) (aa (aK az (by rfl) T.z_len (by rfl) (aa (pv 3) af)) af))) (bt rfl (ax (am (i:=4) scLk2.nd rfl (Or.inl rfl)) (ax (am (i:=5) scLk2.nd rfl (Or.inl rfl)) bi))))
   (ae (ak (pcl (cI T) hr T.m_merge T.F_merge.kp (dA T) (aa (pv 0) (aa (aC ay (aD (pv 1) rfl) (pv 2)) (aa (pcl (m4 T) hr T.m_Jj T.F_Jj.kp (p9 T) (@aa _ _ _ _ _ (pv 0) (@aa _ _ _ _ _ (pv 1) (@aa _ _ _ _ _ (pv 4) (@aa _ _ _ _ _ (aq (aa (pv 2) (aa ag af))) af (by rfl)) (by rfl)) (by rfl)) (by rfl))) af)))))
   (ah (aX PassesOwn.never rfl (j3 (by rfl) T.z_zip (aa (pv 5) (aa (pv 3) af))) (bt rfl (ax (am (i:=6) scLk2.nd rfl (Or.inl rfl)) (ax (bt rfl (ax (am (i:=7) scLk2.nd rfl (Or.inl rfl)) (ax (am (i:=8) scLk2.nd rfl (Or.inl rfl)) bi))) bi)))
    (ah (ak (aA (pv 0) T.cl_Yard T.M_Jw (cg T) hr (eL T) .nil aB (aa (pv 7) (aa (pcl (m4 T) hr T.m_Jj T.F_Jj.kp (p9 T) (aa (pv 0) (aa (pv 1) (aa (pv 6) (aa (pv 8) af))))) af))))))))))),?_⟩
  rw[show L2.start ["yard","ways","stretch","calls","root","leaves","leaf","out","behind"] [V.ref p,V.ref W.p,V.int k]=([some (V.ref p),some (V.ref W.p),some (V.int k),none,none,none,none,none,none]:St) from rfl]
  have gW:=Y.at_ (mem_append_left _ mj)
  have eS:(W.S.map fun z=>V.ref z.1)[k]?=some (.ref zS.1):=by rw[getElem?_map,hS]; rfl
  have eT:(W.T.map fun z=>V.ref z.1)[k]?=some (.ref zT.1):=by rw[getElem?_map,hT]; rfl
  have mT:∀ x ∈ zT.2,pK2 x ∈ L:=fun x hx=>wok.eT zT (mem_of_getElem? hT) x hx
  have mS:=fun c hc=>wok.eS zS (mem_of_getElem? hS) c hc
  refine⟨_,U,W.p,_,W.dx,_,_,U,gW,T.cl_Ways,T.n_Ways_to_stretches,mf _,_,U,W.ts,_,_,_,U,U,SqL.of (Y.at_ (mem_append_left _ nk)),aw eS,?_⟩
  dsimp only[List.set]
  have gS:=Y.at_ (mem_append_left _ (jy hS))
  have lS:(zS.2.map fun c=>V.ref c.1).length=zS.2.length:=length_map ..
  by_cases hc:zS.2=[]
  ·refine⟨_,U,false,.inl ⟨_,SqL.of gS,by rw[hc]; rfl⟩,fT ?_⟩
   rw[hc,List.map_nil,List.nil_append] at al
   refine⟨_,U,_,U,W.p,_,W.dx,_,_,U,gW,T.cl_Ways,T.n_Ways_to_callers,jw _,_,U,W.tc,_,_,_,U,U,SqL.of (Y.at_ (mem_append_left _ jx)),aw eT,?_⟩
   obtain⟨A1,gy⟩:=Y.obj
   refine⟨_,U,p,A1.dx,_,U,gy,(bT _ _ _).1,?_⟩
   refine tc1 ?_
   refine bH Y D ⟨by omega,by omega,bR⟩ .stop 0 .non (fun c=>nomatch c) (fun c=>nomatch c) (fun H2 Y2=>?_)
   have D2:=D.lay .stop 0 .non
   have al2:=al.lay1 D .stop 0 .non rfl
   have up2:=D.up .stop 0 .non
   refine⟨(show 2<=sizeLine by decide),fun c0 hc0=>?_⟩
   have Y3:=Y2.alloc hc0 (.tup [.int N,.int 0])
   refine tn0 ?_
   refine dZ (z:=(c0,(N:Int),0)) (zs:=zT.2) (G:=dE W.D++G) Y3 (mem_cons_of_mem _ (mem_append_left _ (mq hT))) (fun x hx=>mem_cons_of_mem _ (mem_append_right _ (mT x hx))) mem_cons_self D2 (al2.perm (.cons _ ?_)) (by omega) (by omega) bR (fun H4 y4 N4 M4 D4 bM4 up4 al4 Y4=>?_)
   ·rw[<- append_assoc,<- append_assoc]
    exact List.Perm.append_right _ List.perm_append_comm
   refine q H4 y4 (N4++[(c0,.tup [.int N,.int 0])]) W.D _ M4 D4 ?_ ?_ (up2.trans up4) al4 (wok.mono fun v hv=>mem_append_right _ hv) (Y4.ac (by simp only[Ms.app,Ms.cons,Ms.nil,Ms.zr]; ac_rfl))
   ·show N+1+(zT.2.length - 1)+W.dn<=_; rw[hc,List.length_nil]; omega
   ·show M4+4*W.dn<=_; rw[hc,List.length_nil]; omega
  ·refine⟨_,U,true,.inl ⟨_,SqL.of gS,?_⟩,cZ ?_⟩
   ·cases e:zS.2 with
    | nil=>exact absurd e hc
    | cons=>rfl
   have c1:1<=zS.2.length:=by
    cases e:zS.2 with
    | nil=>exact absurd e hc
    | cons=>exact Nat.succ_le_succ (Nat.zero_le _)
   refine⟨_,U,_,U,zS.1,_,U,.inl (SqL.of gS),?_⟩
   refine tn0 ?_
   rw[lS]
   refine⟨p,y,_,N,M,R,zS.2.length,U,Y,D,c1,by omega,by omega,bR,fun H2 y2 N2 tp b0 lv zs M2 lz D2 bM2 up2 old2 f0 n0 nd2 fz m0 Y2=>?_⟩
   refine⟨tp,_,U,SqT.of (Y2.at_ mem_cons_self),U,_,_,U,_,_,U,U,?_⟩
   dsimp only[List.set]
   have al2:=Al.fan D al old2 f0 n0 nd2 (fun x hx=>⟨(fz x hx).1,(fz x hx).2.1⟩)
   have gW2:=Y2.at_ (mem_cons_of_mem _ (mem_cons_of_mem _ (mem_append_right _ (mem_append_left _ mj))))
   have gtc2:=Y2.at_ (mem_cons_of_mem _ (mem_cons_of_mem _ (mem_append_right _ (mem_append_left _ jx))))
   refine⟨_,U,_,U,W.p,_,W.dx,_,_,U,gW2,T.cl_Ways,T.n_Ways_to_callers,jw _,_,U,W.tc,_,_,_,U,U,SqL.of gtc2,aw eT,_,U,_,U,_,U,_,U,(show 2<=sizeLine by decide),fun bk hbk=>?_⟩
   obtain⟨L2,eL2⟩:∃ L2:Kn,(bk,HO.tup [.int k,.int 0])::(tp,HO.tup [.ref b0,.ref lv])::(lv,HO.lst (prV zs))::(N2++L)=L2:=⟨_,U⟩
   have toL2:∀ v ∈ L,v ∈ L2:=fun v hv=>by rw[<- eL2]; exact mem_cons_of_mem _ (mem_cons_of_mem _ (mem_cons_of_mem _ (mem_append_right _ hv)))
   have nL2:∀ v ∈ N2,v ∈ L2:=fun v hv=>by rw[<- eL2]; exact mem_cons_of_mem _ (mem_cons_of_mem _ (mem_cons_of_mem _ (mem_append_left _ hv)))
   have mbk:pK2 (bk,((k:Int),0)) ∈ L2:=by rw[<- eL2]; exact mem_cons_self
   have mlv:(lv,HO.lst (prV zs)) ∈ L2:=by rw[<- eL2]; exact mem_cons_of_mem _ (mem_cons_of_mem _ mem_cons_self)
   have Y3:YIn t.c_Yard _ p y2 (wL t.c_Ways W++L2):=(Y2.alloc hbk (.tup [.int k,.int 0])).ac (by rw[<- eL2]; simp only[Ms.app,Ms.cons]; ac_rfl)
   refine tn0 ?_
   refine⟨p,y2,L2,W,(b0,(N:Int),0),bk,((k:Int),0),N+zS.2.length,M2,R,zs.map (·.2)++(zS.2.map (fun c=>c.2.1.2)++(zT.2.map (·.2)++G)),Pl,U,Y3,nL2 _ m0,mbk,D2,al2.perm (.cons _ ?_),wok.mono toL2,hpl,by omega,by omega,bR,by omega,fun H4 y4 N4 D4 i4 Ld4 up4 dn4 al4 wok4 mi4 Y4=>?_⟩
   ·exact apc
   refine tn0 ?_
   refine dZ (z:=i4) (zs:=zT.2) (G:=dE D4++(zs.map (·.2)++(zS.2.map (fun c=>c.2.1.2)++G))) Y4 (mem_append_left _ (mq (W:={ W with D:=D4 }) hT)) (fun x hx=>mem_append_right _ (mem_append_right _ (toL2 _ (mT x hx)))) (mem_append_right _ (mem_append_left _ mi4)) Ld4 (al4.perm (.cons _ ?_)) (by omega) (by omega) bR (fun H5 y5 N5 M5 D5 bM5 up5 al5 Y5=>?_)
   ·have e:∀ a b c d g:List (Int×Int),(a++(b++(c++(d++g)))).Perm (d++(a++(b++(c++g)))):=fun a b c d g=>by
     have h1:(a++(b++(c++(d++g))))=(a++b++c)++(d++g):=by simp only[append_assoc]
     have h2:d++(a++(b++(c++g)))=d++((a++b++c)++g):=by simp only[append_assoc]
     rw[h1,h2,<- append_assoc,<- append_assoc]
     exact List.Perm.append_right _ List.perm_append_comm
    exact e _ _ _ _ _
   obtain⟨Nb,eNb⟩:∃ Nb:Nat,N+zS.2.length+1+(zT.2.length - 1)=Nb:=⟨_,U⟩
   rw[eNb] at D5
   have lpv:∀ l:List Pr,(prV l).length=l.length:=fun l=>by unfold prV; rw[length_map]
   obtain⟨Lw,eLw⟩:∃ Lw:Kn,N5++(N4++L2)=Lw:=⟨_,U⟩
   have toLw:∀ v ∈ L2,v ∈ Lw:=fun v hv=>by rw[<- eLw]; exact mem_append_right _ (mem_append_right _ hv)
   have Y6:YIn t.c_Yard H5 p y5 (wL t.c_Ways { W with D:=D4 }++([]++Lw)):=Y5.ac (by rw[<- eLw]; simp only[Ms.app,Ms.nil,Ms.zl]; ac_rfl)
   have wok6:WOk { W with D:=D4 } ([]++Lw) Pl:=wok4.mono fun v hv=>by rw[<- eLw]; exact mem_append_right _ (mem_append_right _ hv)
   have up6:=(up2.trans up4).trans up5
   refine⟨_,U,_,U,?_⟩
   refine tn0 ?_
   refine⟨lv,zS.1,U,⟨_,SqL.of (Y6.at_ (mem_append_right _ (toLw _ mlv)))⟩,⟨_,SqL.of (Y6.at_ (mem_append_left _ (jy (W:={ W with D:=D4 }) hS)))⟩,gK (xs:=prV zs) (ys:=zS.2.map fun c=>V.ref c.1) (by rw[lpv,lS,lz]) (fun j σ H'=>∃ (y':YR) (D':List ((Int×Int)×Addr×List Pr)) (Nj:Kn) (M':Nat) (u1 u2 u3:Option V),σ=[some (.ref p),some (.ref W.p),some (.int k),some (.ref zS.1),some (.ref b0),some (.ref lv),u1,u2,u3] /\
    Ld y' (Nb+j) M' R/\M'<=M5+4*j/\(dE D').length=W.dn+1+j/\Up y y'/\Al y' (dE D'++((zs.drop j).map (·.2)++((zS.2.drop j).map (fun c=>c.2.1.2)++G)))/\WOk { W with D:=D' } (Nj++Lw) Pl/\YIn t.c_Yard H' p y' (wL t.c_Ways { W with D:=D' }++(Nj++Lw)))
    ⟨y5,D4,[],M5,_,_,_,U,D5,Nat.le_refl _,dn4,up6,al5,wok6,Y6⟩ (fun j σ H' _ z_=>z_.elim fun y' z_=>z_.elim fun D' z_=>z_.elim fun Nj z_=>z_.elim fun M' z_=>z_.elim fun u1 z_=>z_.elim fun u2 z_=>z_.elim fun u3 z_=>z_.elim fun _ z_=>z_.elim fun _ z_=>z_.elim fun _ z_=>z_.elim fun _ z_=>z_.elim fun _ z_=>z_.elim fun _ z_=>z_.elim fun _ Y'=>⟨SqL.of (Y'.at_ (mem_append_right _ (mem_append_right _ (toLw _ mlv)))),SqL.of (Y'.at_ (mem_append_left _ (jy (W:={ W with D:=D' }) hS)))⟩) ?_ ?_⟩
   ·clear Y6 wok6 up6 D5 al5 Y5
    rintro j v1 v2 σ H6 tp2 hv1 hv2 ⟨y6,D6,Nj,M6,u1,u2,u3,rfl,Ld6,bM6,dn6,up6,al6,wok6,Y6⟩ htp2
    unfold prV at hv1
    rw[getElem?_map] at hv1 hv2
    obtain⟨lf,hl1,rfl⟩:=Option.map_eq_some_iff.mp hv1
    obtain⟨c,hc1,rfl⟩:=Option.map_eq_some_iff.mp hv2
    have hj:j<zs.length:=(List.getElem?_eq_some_iff.mp hl1).1
    have hj2:j<zS.2.length:=(List.getElem?_eq_some_iff.mp hc1).1
    obtain⟨mc1,mc2,mc3,hcp⟩:=mS c (mem_of_getElem? hc1)
    have Y7:=Y6.alloc htp2 (.tup [.ref lf.1,.ref c.1])
    have gc:=Y7.at_ (mem_cons_of_mem _ (mem_append_right _ (mem_append_right _ (toLw _ (toL2 _ mc1)))))
    refine⟨tp2,_,U,SqT.of (Y7.at_ mem_cons_self),U,_,_,U,_,_,U,?_⟩
    refine⟨c.1,_,U,SqT.of gc,U,_,_,U,_,_,U,U,U,?_⟩
    dsimp only[List.set]
    have Y8:=Y7.sub (List.sublist_cons_self _ _)
    have edz:zs.drop j=lf::zs.drop (j+1):=by rw[List.drop_eq_getElem_cons hj,(List.getElem?_eq_some_iff.mp hl1).2]
    have eds:zS.2.drop j=c::zS.2.drop (j+1):=by rw[List.drop_eq_getElem_cons hj2,(List.getElem?_eq_some_iff.mp hc1).2]
    rw[edz,eds,map_cons,map_cons,List.cons_append,List.cons_append] at al6
    obtain⟨A8,gy8⟩:=Y8.obj
    refine⟨_,U,p,A8.dx,_,U,gy8,(bS _ _ _).2.2.1,_,U,_,U,_,U,_,U,_,U,?_⟩
    refine tn0 ?_
    have mlf:pK2 lf ∈ Nj++Lw:=mem_append_right _ (toLw _ (nL2 _ (fz lf (mem_of_getElem? hl1)).2.2))
    refine⟨p,y6,Nj++Lw,{ W with D:=D6 },lf,c.2.2.1,c.2.2.2,Nb+j,M6,R,c.2.1.2::((zs.drop (j+1)).map (·.2)++((zS.2.drop (j+1)).map (fun c=>c.2.1.2)++G)),Pl,U,Y8,mlf,mem_append_right _ (toLw _ (toL2 _ mc3)),Ld6,al6.perm ?_,wok6,hcp,by omega,by omega,bR,by show(dE D6).length<=5000; omega,fun H9 y9 N9 D9 i9 Ld9 up9 dn9 al9 wok9 mi9 Y9=>?_⟩
    ·refine List.perm_middle.trans (.cons _ (List.Perm.append_left _ ?_))
     exact List.perm_middle
    refine tn0 ?_
    have al9':Al y9 (c.2.1.2::i9.2::(dE D9++((zs.drop (j+1)).map (·.2)++((zS.2.drop (j+1)).map (fun c=>c.2.1.2)++G)))):=al9.perm ((List.Perm.cons _ List.perm_middle).trans (.swap _ _ _))
    have fo:=al9'.2 _ mem_cons_self
    have fi:=al9'.2 _ (mem_cons_of_mem _ mem_cons_self)
    refine bA (a:=c.2.1) (b:=i9) Y9 Ld9 (by omega) (mem_append_right _ (mem_append_right _ (mem_append_right _ (toLw _ (toL2 _ mc2))))) (mem_append_right _ (mem_append_left _ mi9)) fo fi al9'.ne (fun H10 Y10=>?_)
    refine⟨_,D9,N9++Nj,M6+2+2,_,_,_,U,Ld9.link fo fi,by omega,by rw[dn9]; show(dE D6).length+1=_; omega,(up6.trans up9).trans (Up.link fo fi),Al.link al9',?_,?_⟩
    ·rw[append_assoc]; exact wok9
    ·rw[append_assoc]; exact Y10
   ·clear Y6 wok6 up6 D5 al5 Y5
    rintro σ H6 ⟨y6,D6,Nj,M6,u1,u2,u3,rfl,Ld6,bM6,dn6,up6,al6,wok6,Y6⟩
    rw[lpv] at Ld6 bM6 dn6 al6
    rw[List.drop_length,lz,List.drop_length,List.map_nil,List.map_nil,List.nil_append,List.nil_append] at al6
    have e:Nj++Lw=(Nj++(N5++(N4++[(bk,HO.tup [.int k,.int 0]),(tp,HO.tup [.ref b0,.ref lv]),(lv,HO.lst (prV zs))]))++N2)++L:=by
     rw[<- eLw,<- eL2]
     simp only[append_assoc,List.cons_append,List.nil_append]
    refine q H6 y6 _ D6 _ M6 Ld6 (by omega) (by omega) up6 al6 (by rw[<- e]; exact wok6) (by rw[<- e]; exact Y6)
end
theorem gE (A:PA):(pfl A).lookup ("rows" : Str)=none:=by kernel_rfl
noncomputable def jE (C:Addr):Sp:=fun vs H Q _=>∃ (A:PA) (ms ws:List Int) (ss:Ss) (L:Kn) (k:Nat) (z:Addr×List (Addr×Rw)),vs=[.ref A.p,.int k]/\Has H L/\PIn C A ms ws ss L/\ss[k]?=some z/\∀ H' l,Has H' ((l,.lst (rwV z.2))::L)->Q (.ref l) H'
section
variable {P:Program}{w:World}{K:PySem.W.Frag}{mg:Str->Option Value}{base:Heap}{t:Adr}
theorem scPs:FnScope ["self","stretch"] ["self","stretch"] (ai pE):={}
theorem m5 (T:Txt K mg t):FnOk P w K mg base CX0 2 t.f_Ji t.d_Ji ["self","stretch"] (jE t.c_Program):=by
 refine T.F_Ji.ok scPs (fun vs H Q E h=>?_) (fun cdv A outer s H vs Q E hr h=>?_)
 ·obtain⟨_,_,_,_,_,_,_,rfl,_⟩:=h
  rfl
 ·obtain⟨A,ms,ws,ss,L,k,z,rfl,hH,pin,hz,q⟩:=h
  have hL:∀ {z:Addr×HO},z ∈ L->H z.1=some z.2:=fun m=>hH.at_ _ m
  have hk:k<ss.length:=(List.getElem?_eq_some_iff.mp hz).1
  refine⟨_,(ae (ak (pcl (km T) hr T.m_Jb T.F_Jb.kp (oT T) (aa (pv 1) (aa (aS (pv 0) T.cl_Program T.M_Jg (dW T) hr (hX T) .nil aB) af))))
   (ah (aH (aW bc (by rfl) T.z_list (by rfl) (aa (aC ay (aD (pv 0) rfl) (pv 1)) af))))),?_⟩
  refine⟨_,U,_,U,A.p,A.dx,_,U,hL pin.p,(b5 _).1,A,_,U,hL pin.p,hL pin.s,k,_,U,by omega,(by unfold ssV; rw[length_map]; omega),?_⟩
  exact⟨_,U,A.p,_,A.dx,_,_,U,hL pin.p,T.cl_Program,T.n_Program_stretches,gD _,_,U,A.s,_,_,_,U,U,SqL.of (hL pin.s),aw (cB hz),z.1,_,U,.inl (SqL.of (hL (pin.l z (mem_of_getElem? hz)))),fun l hl=>q _ l (hH.alloc hl _)⟩
end
noncomputable def dF (ds:List (Addr×List Pr)):List (Int×Int):=ds.flatMap fun z=>z.2.map (·.2)
noncomputable def dB (ds:List (Addr×List Pr)):List (Int×Int):=ds.flatMap fun z=>z.2.map fun e=>(e.2.1,1)
noncomputable def c6 (ds:List (Addr×List Pr)) (q:Int×Int):Prop:=∃ (k r:Nat) (z:Addr×List Pr) (e:Pr),q=((k:Int),(r:Int))/\ds[k]?=some z/\z.2[r]?=some e
noncomputable def rcs (cr:List (Addr×List Int)) (rs:List (Addr×Rw)):Nat:=(rs.map fun x=>x.2.rc cr).sum
noncomputable def rct (cr:List (Addr×List Int)) (ss:Ss):Nat:=(ss.map fun z=>rcs cr z.2).sum
noncomputable def rln (ss:Ss):Nat:=(ss.map fun z=>z.2.length).sum
noncomputable def DMt (ds:List (Addr×List Pr)) (ss:Ss):Prop:=ds.map (fun z=>z.2.length)=ss.map (fun z=>z.2.length)
theorem DMt.get {ds:List (Addr×List Pr)}{ss:Ss} (h:DMt ds ss) {k:Nat}{z:Addr×List (Addr×Rw)} (hz:ss[k]?=some z):∃ u,ds[k]?=some u/\u.2.length=z.2.length:=by
 have e:(ds.map fun z=>z.2.length)[k]?=some z.2.length:=by rw[h,getElem?_map,hz]; rfl
 rw[getElem?_map] at e
 obtain⟨u,h1,h2⟩:=Option.map_eq_some_iff.mp e
 exact⟨u,h1,h2⟩
theorem DMt.len {ds:List (Addr×List Pr)}{ss:Ss} (h:DMt ds ss):ds.length=ss.length:=by simpa using congrArg List.length h
theorem DMt.pl {ds:List (Addr×List Pr)}{ss:Ss} (h:DMt ds ss) {k r:Nat}{z:Addr×List (Addr×Rw)} (hz:ss[k]?=some z) (hr:r<z.2.length):c6 ds ((k:Int),(r:Int)):=by
 obtain⟨u,h1,h2⟩:=h.get hz
 exact⟨k,r,u,u.2[r]'(by omega),U,h1,getElem?_eq_getElem (by omega)⟩
theorem bE {α:Type}{l:List α}{k:Nat}{z:α} (h:l[k]?=some z):l.take (k+1)=l.take k++[z]:=by rw[List.take_succ,h]; rfl
theorem gu {cr:List (Addr×List Int)}{ss:Ss}{k:Nat}{z:Addr×List (Addr×Rw)} (h:ss[k]?=some z):rct cr (ss.take (k+1))=rct cr (ss.take k)+rcs cr z.2:=by
 unfold rct
 rw[bE h,map_append,List.sum_append]
 simp
theorem cD {ss:Ss}{k:Nat}{z:Addr×List (Addr×Rw)} (h:ss[k]?=some z):rln (ss.take (k+1))=rln (ss.take k)+z.2.length:=by
 unfold rln
 rw[bE h,map_append,List.sum_append]
 simp
theorem gv {cr:List (Addr×List Int)}{rs:List (Addr×Rw)}{r:Nat}{x:Addr×Rw} (h:rs[r]?=some x):rcs cr (rs.take (r+1))=rcs cr (rs.take r)+x.2.rc cr:=by
 unfold rcs
 rw[bE h,map_append,List.sum_append]
 simp
theorem gX {l:List Nat}{m:List Nat} (h:l.Sublist m):l.sum<=m.sum:=by
 induction h with
 | slnil=>exact Nat.le_refl _
 | cons a _ ih=>rw[List.sum_cons]; omega
 | cons_cons a _ ih=>rw[List.sum_cons,List.sum_cons]; omega
theorem nP {cr:List (Addr×List Int)}{ss:Ss} (k:Nat):rct cr (ss.take k)<=rct cr ss:=gX ((List.take_sublist k ss).map _)
theorem jT {ss:Ss} (k:Nat):rln (ss.take k)<=rln ss:=gX ((List.take_sublist k ss).map _)
theorem nR {cr:List (Addr×List Int)}{rs:List (Addr×Rw)} (k:Nat):rcs cr (rs.take k)<=rcs cr rs:=gX ((List.take_sublist k rs).map _)
theorem kP:∀ {ds:List (Addr×List Pr)}{k r k' r':Nat}{z z':Addr×List Pr}{e e':Pr},(dF ds).Nodup->ds[k]?=some z->z.2[r]?=some e->ds[k']?=some z'->z'.2[r']?=some e'->e.2=e'.2->k=k'/\r=r'
 | [],k,_,_,_,_,_,_,_,_,h,_,_,_,_=>by simp at h
 | u::ds,k,r,k',r',z,z',e,e',nd,h1,h2,h3,h4,he=>by
  have nd:(u.2.map (·.2)++dF ds).Nodup:=nd
  obtain⟨n1,n2,n3⟩:=List.nodup_append.mp nd
  have out:∀ {j s:Nat}{v:Addr×List Pr}{g:Pr},ds[j]?=some v->v.2[s]?=some g->g.2 ∈ dF ds:=fun hv hg=>List.mem_flatMap.mpr ⟨_,mem_of_getElem? hv,mem_map_of_mem (f:=fun x:Pr=>x.2) (mem_of_getElem? hg)⟩
  cases k with
  | zero=>
   cases h1
   cases k' with
   | zero=>
    cases h3
    refine⟨U,?_⟩
    have hr:r<(u.2.map (fun x:Pr=>x.2)).length:=by rw[length_map]; exact(List.getElem?_eq_some_iff.mp h2).1
    refine(List.getElem?_inj hr n1).mp ?_
    rw[getElem?_map,getElem?_map,h2,h4]
    exact congrArg some he
   | succ k'=>exact absurd he (n3 _ (mem_map_of_mem (f:=fun x:Pr=>x.2) (mem_of_getElem? h2)) _ (out h3 h4))
  | succ k=>
   cases k' with
   | zero=>
    cases h3
    exact absurd he.symm (n3 _ (mem_map_of_mem (f:=fun x:Pr=>x.2) (mem_of_getElem? h4)) _ (out h1 h2))
   | succ k'=>
    obtain⟨a,b⟩:=kP n2 h1 h2 h3 h4 he
    exact⟨by rw[a],b⟩
theorem gM {ds:List (Addr×List Pr)} (nf:(dF ds).Nodup):∀ {D:List ((Int×Int)×Addr×List Pr)},(D.map (·.1)).Nodup->(∀ z ∈ D,c6 ds z.1)->∃ es:List Pr,es.length=D.length/\(es.map (·.2)).Nodup/\(∀ x ∈ es,x.2 ∈ dF ds) /\
  ∀ (i:Nat) z,D[i]?=some z->∃ (k r:Nat) (u:Addr×List Pr) (e:Pr),z.1=((k:Int),(r:Int))/\ds[k]?=some u/\u.2[r]?=some e/\es[i]?=some e
 | [],_,_=>⟨[],U,List.nodup_nil,fun x hx=>(nomatch hx),fun i z h=>by simp at h⟩
 | w::D,nd,pl=>by
  obtain⟨n1,n2⟩:=List.nodup_cons.mp nd
  obtain⟨es,le,ne,me,ge⟩:=gM nf n2 fun z hz=>pl z (mem_cons_of_mem _ hz)
  obtain⟨k,r,u,e,e1,h1,h2⟩:=pl w mem_cons_self
  have mF:e.2 ∈ dF ds:=List.mem_flatMap.mpr ⟨u,mem_of_getElem? h1,mem_map_of_mem (f:=fun x:Pr=>x.2) (mem_of_getElem? h2)⟩
  refine⟨e::es,by rw[length_cons,length_cons,le],List.nodup_cons.mpr ⟨fun c=>?_,ne⟩,fun x hx=>?_,fun i z h=>?_⟩
  ·obtain⟨x,hx,ex⟩:=mem_map.mp c
   obtain⟨i,hi⟩:=List.mem_iff_getElem?.mp hx
   have hil:i<D.length:=by rw[<- le]; exact(List.getElem?_eq_some_iff.mp hi).1
   obtain⟨k',r',u',e',e1',h1',h2',h3'⟩:=ge i _ (getElem?_eq_getElem hil)
   rw[hi] at h3'
   cases h3'
   obtain⟨a,b⟩:=kP nf h1 h2 h1' h2' ex.symm
   refine n1 (mem_map.mpr ⟨_,List.getElem_mem hil,?_⟩)
   show _=w.1
   rw[e1',e1,a,b]
  ·rcases mem_cons.mp hx with rfl | hx
   ·exact mF
   ·exact me x hx
  ·cases i with
   | zero=>cases h; exact⟨k,r,u,e,e1,h1,h2,U⟩
   | succ i=>exact ge i z h
theorem om {ds:List (Addr×List Pr)}{ss:Ss}{nm nc:Nat} (dm:DMt ds ss) (good:Good nm nc ss) {k r:Nat}{z:Addr×List (Addr×Rw)}{x:Addr×Rw} (hz:ss[k]?=some z) (hx:z.2[r]?=some x):∀ q ∈ x.2.onw k r,c6 ds q:=by
 obtain⟨ok,la,ly,hla,hlast⟩:=good k z hz
 have hr:r<z.2.length:=(List.getElem?_eq_some_iff.mp hx).1
 have xok:=ok x (mem_of_getElem? hx)
 have nl:x.2.last=false->c6 ds ((k:Int),(r:Int)+1):=fun h=>by
  have:r+1<z.2.length:=by
   rcases Nat.lt_or_ge (r+1) z.2.length with c | c
   ·exact c
   ·exfalso
    rw[List.getLast?_eq_getElem?,show z.2.length - 1=r by omega,hx] at hla
    cases hla
    rw[h] at hlast
    cases hlast
  exact dm.pl hz this
 have ir:∀ {a:Int},0<=a->a<z.2.length->c6 ds ((k:Int),a):=fun {a} h0 h1=>by
  obtain⟨n,rfl⟩:=Int.eq_ofNat_of_zero_le h0
  exact dm.pl hz (by omega)
 obtain⟨xa,xr⟩:=x
 cases xr with
 | bell n=>intro q hq; rw[mem_singleton.mp hq]; exact nl rfl
 | set m s=>intro q hq; rw[mem_singleton.mp hq]; exact nl rfl
 | ask m a b=>
  intro q hq
  rcases mem_cons.mp hq with rfl | hq
  ·exact ir xok.2.2.1 xok.2.2.2.1
  ·rw[mem_singleton.mp hq]; exact ir xok.2.2.2.2.1 xok.2.2.2.2.2
 | bump c a=>
  intro q hq
  rcases mem_cons.mp hq with rfl | hq
  ·exact nl rfl
  ·rw[mem_singleton.mp hq]; exact ir xok.2.2.1 xok.2.2.2
 | go a=>intro q hq; rw[mem_singleton.mp hq]; exact ir xok.1 xok.2
 | call s=>
  intro q hq
  rcases mem_cons.mp hq with rfl | hq
  ·obtain⟨s0,s1⟩:=xok
   obtain⟨n,rfl⟩:=Int.eq_ofNat_of_zero_le (show 0<=s by omega)
   have hn:n<ss.length:=by omega
   obtain⟨_,a',y',h',_⟩:=good n _ (getElem?_eq_getElem hn)
   refine dm.pl (r:=0) (getElem?_eq_getElem hn) ?_
   cases e:ss[n].2 with
   | nil=>rw[e] at h'; cases h'
   | cons=>exact Nat.succ_pos _
  ·rw[mem_singleton.mp hq]; exact nl rfl
 | fin=>intro q hq; cases hq
noncomputable def jG (Cy Cl Cp:Addr):Sp:=fun vs H Q _=>∃ (p:Addr) (y:YR) (L:Kn) (A:LA) (B:PA) (ds:List (Addr×List Pr)) (mr:List Int) (cr:List (Addr×List Int)) (ms ws:List Int) (ss:Ss) (N M R:Nat),vs=[.ref A.p,.ref B.p]/\A.y=p/\YIn Cy H p y L/\LIn Cl A ds mr cr L/\PIn Cp B ms ws ss L /\
 Good mr.length cr.length ss/\DMt ds ss/\Ld y N M R/\Al y (dF ds++dB ds)/\ROk mr cr y.sides.length/\ss.length<=100/\N+rct cr ss+2*ss.length<=4500/\M+60*rln ss+10*ss.length<=18000/\R<=1000 /\
 ∀ H' y' Nw N' M',Ld y' N' M' R->N'<=N+rct cr ss+2*ss.length->Up y y'->YIn Cy H' p y' (Nw++L)->Q .non H'
section
variable {P:Program}{w:World}{K:PySem.W.Frag}{mg:Str->Option Value}{base:Heap}{t:Adr}
theorem scLy2:FnScope ["laid","program","ways","stretch","number","row","place","outs"] ["laid","program"] (ai o7):={}
theorem ok_Jy (T:Txt K mg t):FnOk P w K mg base CX0 9 t.f_Jy t.d_Jy ["laid","program"] (jG t.c_Yard t.c_Laid t.c_Program):=by
 refine T.F_Jy.ok scLy2 (fun vs H Q E h=>?_) (fun cdv A outer s H vs Q E hr h=>?_)
 ·obtain⟨_,_,_,_,_,_,_,_,_,_,_,_,_,_,rfl,_⟩:=h
  rfl
 ·obtain⟨p,y,L,A',B,ds,mr,cr,ms,ws,ss,N,M,R,rfl,eY,Y,lin,pin,good,dm,D,al,rok,bs,bN,bM,bR,q⟩:=h
  subst eY
  refine⟨_,(ae (ar (i:=2) scLy2.nd rfl (Or.inl rfl) (fR T.mk_Ways (ok_Jt T) (hr.mono (by decide)) (by rfl) T.m_Ways (b_Jt T) .nil aB (aa (aS (pv 1) T.cl_Program T.M_Jg (dW T) hr (hX T) .nil aB) af)))
   (ae (aX PassesOwn.never rfl (a9 (by rfl) T.z_range (aa (aS (pv 1) T.cl_Program T.M_Jg (dW T) hr (hX T) .nil aB) af)) (am (i:=3) scLy2.nd rfl (Or.inl rfl))
    (ah (aX PassesOwn.never rfl (fQ (by rfl) T.z_enumerate (aa (aA (pv 1) T.cl_Program T.M_Ji (m5 T) hr (qc T) .nil aB (aa (pv 3) af)) af)) (bt rfl (ax (am (i:=4) scLy2.nd rfl (Or.inl rfl)) (ax (am (i:=5) scLy2.nd rfl (Or.inl rfl)) bi)))
      (ah (ak (pcl (ox T) hr T.m_J61 T.F_J61.kp (b_J61 T) (aa (pv 0) (aa (pv 2) (aa (pv 5) (aa (pv 3) (aa (pv 4) af)))))))))))
   (ae (aX PassesOwn.never rfl (a9 (by rfl) T.z_range (aa (aS (pv 1) T.cl_Program T.M_Jg (dW T) hr (hX T) .nil aB) af)) (am (i:=3) scLy2.nd rfl (Or.inl rfl))
    (ah (ak (pcl (ok_Jp T) hr T.m_Jp T.F_Jp.kp (b_Jp T) (aa (aD (pv 0) rfl) (aa (pv 2) (aa (pv 3) af)))))))
   (ah (jY (aX PassesOwn.never rfl (jb (aD (pv 2) rfl)) (bt rfl (ax (am (i:=6) scLy2.nd rfl (Or.inl rfl)) (ax (am (i:=7) scLy2.nd rfl (Or.inl rfl)) bi)))
    (ae (cc (pv 6) (bt rfl (ax (am (i:=3) scLy2.nd rfl (Or.inl rfl)) (ax (am (i:=4) scLy2.nd rfl (Or.inl rfl)) bi))))
     (ah (ak (pcl (cI T) hr T.m_merge T.F_merge.kp (dA T) (aa (aD (pv 0) rfl) (aa (pv 7) (aa (aA (pv 0) T.cl_Laid T.M_Jv (kh T) hr (oR T) .nil aB (aa (pv 3) (aa (pv 4) af))) af))))))))))))),?_⟩
  rw[show L2.start ["laid","program","ways","stretch","number","row","place","outs"] [V.ref A'.p,V.ref B.p]=([some (V.ref A'.p),some (V.ref B.p),none,none,none,none,none,none]:St) from rfl]
  have lss:(ssV ss).length=ss.length:=by unfold ssV; rw[length_map]
  have many:∀ {H':Hp}{Q':V->Hp->Prop},(∀ v ∈ L,H' v.1=some v.2)->Q' (.int ss.length) H'->ik t.c_Program [.ref B.p] H' Q' E0:=fun {H' Q'} hL hq=>⟨B,_,U,hL _ pin.p,hL _ pin.s,by rw[lss]; exact hq⟩
  refine⟨_,U,B.p,B.dx,_,U,Y.at_ pin.p,(b5 _).1,?_⟩
  refine tn0 ?_
  refine many (fun v hv=>Y.at_ hv) ?_
  refine tn0 ?_
  intro wp dx h1 h2 h3
  obtain⟨Ay,eAy,hY⟩:=Y
  refine⟨wp,dx,yL t.c_Yard Ay y++L,ss.length,U,(hY.alloc h2 _).alloc ?_ _,by omega,fun H2 W eW eD eSl eTl hS hT h4=>?_⟩
  ·rw[av (Ne.symm h3)]; exact h1
  refine⟨U,?_⟩
  dsimp only[d7,List.set]
  have Y1:YIn t.c_Yard H2 A'.y y (wL t.c_Ways W++([]++L)):=eAy ▸ YIn.of h4
  clear hY h4 h1 h2 h3
  have inL:∀ {W:WS}{Nw:Kn}{v:Addr×HO},v ∈ L->v ∈ wL t.c_Ways W++(Nw++L):=fun h=>mem_append_right _ (mem_append_right _ h)
  have nS:sE W.S=[]:=by
   unfold sE
   rw[List.flatMap_eq_nil_iff]
   intro z hz
   rw[hS z hz]; rfl
  have nT:tE W.T=[]:=by
   unfold tE
   rw[List.flatMap_eq_nil_iff]
   intro z hz
   rw[hT z hz]; rfl
  have wok1:WOk W ([]++L) (c6 ds):=⟨by rw[eD]; exact List.nodup_nil,by rw[eD]; exact(fun z hz=>(nomatch hz)),by rw[eD]; exact(fun z hz=>(nomatch hz)),by rw[eD]; exact(fun z hz=>(nomatch hz)),(fun z hz c hc=>by rw[hS z hz] at hc; exact(nomatch hc)),(fun z hz c hc=>by rw[hT z hz] at hc; exact(nomatch hc))⟩
  have pd1:W.pend=[]:=by unfold WS.pend; rw[eD,nS,nT]; rfl
  have c1:W.cN=0:=by unfold WS.cN WS.dn WS.sn WS.tn; rw[eD,nS,nT]; rfl
  have c2:W.cM=0:=by unfold WS.cM WS.dn WS.sn WS.tn; rw[eD,nS,nT]; rfl
  refine⟨_,U,B.p,B.dx,_,U,Y1.at_ (inL pin.p),(b5 _).1,?_⟩
  refine tn0 ?_
  refine many (fun v hv=>Y1.at_ (inL hv)) ?_
  refine tn0 ?_
  refine⟨_,U,by omega,by omega,bv (fun k σ H'=>∃ (y':YR) (W:WS) (Nw:Kn) (N' M':Nat) (o1 o2 o3 o4 o5:Option V),σ=[some (.ref A'.p),some (.ref B.p),some (.ref wp),o1,o2,o3,o4,o5]/\W.p=wp/\W.S.length=ss.length/\W.T.length=ss.length/\Ld y' N' M' R/\N'+W.cN<=N+rct cr (ss.take k)/\M'+W.cM<=M+60*rln (ss.take k)/\Up y y' /\
   Al y' (W.pend++(dB (ds.drop k)++dF ds))/\WOk W (Nw++L) (c6 ds)/\YIn t.c_Yard H' A'.y y' (wL t.c_Ways W++(Nw++L))) ⟨y,W,[],N,M,_,_,_,_,_,U,eW,eSl,eTl,D,by rw[c1]; exact Nat.le_refl _,by rw[c2]; exact Nat.le_refl _,Up.refl _,?_,wok1,Y1⟩ ?_ ?_⟩
  ·rw[pd1]
   exact al.perm List.perm_append_comm
  ·clear Y1 wok1 pd1 c1 c2 eW eD eSl eTl hS hT nS nT
   rintro k σ H3 hk ⟨y1,W,Nw,N1,M1,o1,o2,o3,o4,o5,rfl,eW,eSl,eTl,D1,bN1,bM1,up1,al1,wok1,Y1⟩
   have hkl:k<ss.length:=by omega
   have hz:=getElem?_eq_getElem hkl
   obtain⟨z,ez⟩:∃ z,ss[k]=z:=⟨_,U⟩
   rw[ez] at hz
   have hzm:=mem_of_getElem? hz
   obtain⟨u,hu,lu⟩:=dm.get hz
   have hkd:k<ds.length:=by rw[dm.len]; exact hkl
   have edr:ds.drop k=u::ds.drop (k+1):=by rw[List.drop_eq_getElem_cons hkd,(List.getElem?_eq_some_iff.mp hu).2]
   have edB:dB (ds.drop k)=u.2.map (fun e=>(e.2.1,1))++dB (ds.drop (k+1)):=by rw[edr]; rfl
   rw[edB] at al1
   have hge:=nP (cr:=cr) (ss:=ss) (k+1)
   have hgl:=jT (ss:=ss) (k+1)
   rw[gu hz] at hge
   rw[cD hz] at hgl
   dsimp only[List.set]
   rw[Int.zero_add]
   refine⟨_,U,B.p,B.dx,_,U,Y1.at_ (inL pin.p),gE _,_,U,?_⟩
   refine tn0 ?_
   obtain⟨A1,eA1,hY1⟩:=Y1
   refine⟨B,ms,ws,ss,_,k,z,U,hY1,pin.mono fun v hv=>mem_append_right _ (inL hv),hz,fun H4 l h4=>?_⟩
   refine tn0 ?_
   have Y2:YIn t.c_Yard H4 A'.y y1 (wL t.c_Ways W++(((l,HO.lst (rwV z.2))::Nw)++L)):=⟨A1,eA1,Has.ac h4 (by simp only[List.cons_append,Ms.app,Ms.cons]; ac_rfl)⟩
   have wok2:WOk W (((l,HO.lst (rwV z.2))::Nw)++L) (c6 ds):=wok1.mono fun v hv=>mem_cons_of_mem _ hv
   have lrw:(rwV z.2).length=z.2.length:=by unfold rwV; rw[length_map]
   refine⟨l,U,⟨_,SqL.of (Y2.at_ (mem_append_right _ mem_cons_self))⟩,d9 (xs:=rwV z.2) (fun r σ H'=>∃ (y':YR) (W:WS) (Nw:Kn) (N' M':Nat) (o2 o3 o4 o5:Option V),σ=[some (.ref A'.p),some (.ref B.p),some (.ref wp),some (.int k),o2,o3,o4,o5]/\W.p=wp/\W.S.length=ss.length/\W.T.length=ss.length/\Ld y' N' M' R/\N'+W.cN<=N+rct cr (ss.take k)+rcs cr (z.2.take r)/\M'+W.cM<=M+60*(rln (ss.take k)+r)/\Up y y' /\
    Al y' (W.pend++((u.2.drop r).map (fun e=>(e.2.1,1))++(dB (ds.drop (k+1))++dF ds)))/\WOk W (Nw++L) (c6 ds)/\(l,HO.lst (rwV z.2)) ∈ Nw/\YIn t.c_Yard H' A'.y y' (wL t.c_Ways W++(Nw++L)))
    ⟨y1,W,_,N1,M1,_,_,_,_,U,eW,eSl,eTl,D1,bN1,bM1,up1,by rw[List.drop_zero]; rw[append_assoc] at al1; exact al1,wok2,mem_cons_self,Y2⟩ (fun r σ H' _ z_=>z_.elim fun y' z_=>z_.elim fun W z_=>z_.elim fun Nw z_=>z_.elim fun N' z_=>z_.elim fun M' z_=>z_.elim fun _ z_=>z_.elim fun _ z_=>z_.elim fun _ z_=>z_.elim fun _ z_=>z_.elim fun _ z_=>z_.elim fun _ z_=>z_.elim fun _ z_=>z_.elim fun _ z_=>z_.elim fun _ z_=>z_.elim fun _ z_=>z_.elim fun _ z_=>z_.elim fun _ z_=>z_.elim fun _ z_=>z_.elim fun _ z_=>z_.elim fun ml Y'=>SqL.of (Y'.at_ (mem_append_right _ (mem_append_left _ ml)))) ?_ ?_⟩
   ·clear Y2 wok2 al1 up1 bN1 bM1 D1 eW eSl eTl wok1 hY1 h4
    rintro r v σ H5 tp hv ⟨y2,W,Nw,N2,M2,o2,o3,o4,o5,rfl,eW,eSl,eTl,D2,bN2,bM2,up2,al2,wok2,ml,Y2⟩ htp
    unfold rwV at hv
    rw[getElem?_map] at hv
    obtain⟨x,hx,rfl⟩:=Option.map_eq_some_iff.mp hv
    have hr:r<z.2.length:=(List.getElem?_eq_some_iff.mp hx).1
    have Y3:=Y2.alloc htp (.tup [.int r,.ref x.1])
    refine⟨tp,_,U,SqT.of (Y3.at_ mem_cons_self),U,_,_,U,_,_,U,U,?_⟩
    dsimp only[List.set]
    have Y4:=Y3.sub (List.sublist_cons_self _ _)
    have hru:r<u.2.length:=by omega
    have he:=getElem?_eq_getElem hru
    obtain⟨e,ee⟩:∃ e,u.2[r]=e:=⟨_,U⟩
    rw[ee] at he
    have edu:u.2.drop r=e::u.2.drop (r+1):=by rw[List.drop_eq_getElem_cons hru,ee]
    rw[edu,map_cons,List.cons_append] at al2
    have hcs:=nR (cr:=cr) (rs:=z.2) (r+1)
    rw[gv hx] at hcs
    have xok:=(good k z hz).1 x (mem_of_getElem? hx)
    rw[<- eSl] at xok
    refine⟨_,U,_,U,_,U,_,U,_,U,?_⟩
    refine tn0 ?_
    subst eW
    refine⟨A'.y,y2,Nw++L,A',ds,mr,cr,W,x.1,x.2,k,r,u,e,N2,M2,R,z.2.length,(u.2.drop (r+1)).map (fun e=>(e.2.1,1))++(dB (ds.drop (k+1))++dF ds),c6 ds,U,U,Y4,lin.mono fun v hv=>mem_append_right _ hv,mem_append_right _ (pin.r z hzm x (mem_of_getElem? hx)),hu,he,D2,al2,xok,rok.up up2,wok2,by omega,om dm good hz hx,by omega,by omega,bR,fun H6 y6 N6 W6 N6' M6' e6 eS6 eT6 D6 bN6 bM6 up6 al6 wok6 Y6=>?_⟩
    refine⟨y6,W6,N6++Nw,N6',M6',_,_,_,_,U,e6,by omega,by omega,D6,by rw[gv hx]; omega,by omega,up2.trans up6,al6,by rw[append_assoc]; exact wok6,mem_append_right _ ml,by rw[append_assoc]; exact Y6⟩
   ·rintro σ H5 ⟨y2,W,Nw,N2,M2,o2,o3,o4,o5,rfl,eW,eSl,eTl,D2,bN2,bM2,up2,al2,wok2,ml,Y2⟩
    rw[lrw] at bN2 bM2 al2
    rw[<- lu,List.drop_length,List.map_nil,List.nil_append] at al2
    rw[List.take_length] at bN2
    exact⟨y2,W,Nw,N2,M2,_,_,_,_,_,U,eW,eSl,eTl,D2,by rw[gu hz]; omega,by rw[cD hz]; omega,up2,al2,wok2,Y2⟩
  ·clear Y1 wok1 pd1 c1 c2 eW eD eSl eTl hS hT nS nT
   rintro σ H3 ⟨y1,W,Nw,N1,M1,o1,o2,o3,o4,o5,rfl,eW,eSl,eTl,D1,bN1,bM1,up1,al1,wok1,Y1⟩
   rw[Int.toNat_natCast] at bN1 bM1 al1
   rw[<- dm.len,List.drop_length] at al1
   rw[List.take_length] at bN1 bM1
   have al1:Al y1 (dE W.D++(sE W.S++(tE W.T++dF ds))):=by
    have h:W.pend++(dB []++dF ds)=dE W.D++(sE W.S++(tE W.T++dF ds)):=by
     unfold WS.pend
     rw[show dB []=[] from rfl,List.nil_append,append_assoc,append_assoc]
    rw[<- h]; exact al1
   refine⟨_,U,B.p,B.dx,_,U,Y1.at_ (inL pin.p),(b5 _).1,?_⟩
   refine tn0 ?_
   refine many (fun v hv=>Y1.at_ (inL hv)) ?_
   refine tn0 ?_
   refine⟨_,U,by omega,by omega,bv (fun k σ H'=>∃ (y':YR) (D':List ((Int×Int)×Addr×List Pr)) (Nw:Kn) (N' M':Nat) (o1 o2 o3 o4 o5:Option V),σ=[some (.ref A'.p),some (.ref B.p),some (.ref wp),o1,o2,o3,o4,o5]/\Ld y' N' M' R/\N'+((dE D').length+3*(sE (W.S.drop k)).length+(tE (W.T.drop k)).length)<=N+rct cr ss+2*k/\M'+(4*(dE D').length+12*(sE (W.S.drop k)).length+4*(tE (W.T.drop k)).length)<=M+60*rln ss+10*k/\Up y y' /\
    Al y' (dE D'++(sE (W.S.drop k)++(tE (W.T.drop k)++dF ds)))/\WOk { W with D:=D' } (Nw++L) (c6 ds)/\YIn t.c_Yard H' A'.y y' (wL t.c_Ways { W with D:=D' }++(Nw++L))) ⟨y1,W.D,Nw,N1,M1,_,_,_,_,_,U,D1,bN1,bM1,up1,al1,wok1,Y1⟩ ?_ ?_⟩
   ·clear Y1 wok1 al1 D1 bN1 bM1 up1
    rintro k σ H4 hk ⟨y1,D',Nw,N1,M1,o1,o2,o3,o4,o5,rfl,D1,bN1,bM1,up1,al1,wok1,Y1⟩
    have hkl:k<ss.length:=by omega
    have hkS:k<W.S.length:=by omega
    have hkT:k<W.T.length:=by omega
    have hS:=getElem?_eq_getElem hkS
    have hT:=getElem?_eq_getElem hkT
    obtain⟨zS,ezS⟩:∃ z,W.S[k]=z:=⟨_,U⟩
    obtain⟨zT,ezT⟩:∃ z,W.T[k]=z:=⟨_,U⟩
    rw[ezS] at hS
    rw[ezT] at hT
    have eS:sE (W.S.drop k)=zS.2.map (fun c=>c.2.1.2)++sE (W.S.drop (k+1)):=by rw[List.drop_eq_getElem_cons hkS,ezS]; rfl
    have eT:tE (W.T.drop k)=zT.2.map (·.2)++tE (W.T.drop (k+1)):=by rw[List.drop_eq_getElem_cons hkT,ezT]; rfl
    rw[eS,eT,length_append,length_append,length_map,length_map] at bN1 bM1
    have al2:Al y1 (dE D'++(zS.2.map (fun c=>c.2.1.2)++(zT.2.map (·.2)++(sE (W.S.drop (k+1))++(tE (W.T.drop (k+1))++dF ds))))):=by
     refine al1.perm ?_
     rw[eS,eT,append_assoc,append_assoc]
     exact List.Perm.append_left _ (List.Perm.append_left _ apc)
    have hz:=getElem?_eq_getElem hkl
    have pl0:c6 ds ((k:Int),0):=by
     obtain⟨_,a',y',h',_⟩:=good k _ hz
     refine dm.pl (r:=0) hz ?_
     cases e:ss[k].2 with
     | nil=>rw[e] at h'; cases h'
     | cons=>exact Nat.succ_pos _
    dsimp only[List.set]
    rw[Int.zero_add]
    refine⟨_,U,A'.p,_,A'.dx,_,_,U,Y1.at_ (inL lin.p),T.cl_Laid,T.n_Laid_yard,iE _,_,U,_,U,?_⟩
    refine tn0 ?_
    subst eW
    refine⟨A'.y,y1,Nw++L,{ W with D:=D' },k,zS,zT,N1,M1,R,sE (W.S.drop (k+1))++(tE (W.T.drop (k+1))++dF ds),c6 ds,U,Y1,hS,hT,D1,al2,wok1,pl0,by show N1+(dE D').length+_+_<=_; omega,by show M1+4*(dE D').length+_+_<=_; omega,bR,fun H5 y5 N5 D5 N5' M5' Ld5 bN5 bM5 up5 al5 wok5 Y5=>?_⟩
    have bN5:N5'+(dE D5).length<=N1+(dE D').length+3*zS.2.length+zT.2.length+2:=bN5
    have bM5:M5'+4*(dE D5).length<=M1+4*(dE D').length+12*zS.2.length+4*zT.2.length+10:=bM5
    exact⟨y5,D5,N5++Nw,N5',M5',_,_,_,_,_,U,Ld5,by omega,by omega,up1.trans up5,al5,by rw[append_assoc]; exact wok5,by rw[append_assoc]; exact Y5⟩
   ·clear Y1 wok1 al1 D1 bN1 bM1 up1
    rintro σ H4 ⟨y1,D',Nw,N1,M1,o1,o2,o3,o4,o5,rfl,D1,bN1,bM1,up1,al1,wok1,Y1⟩
    rw[Int.toNat_natCast] at bN1 bM1 al1
    have eS:sE (W.S.drop ss.length)=[]:=by rw[<- eSl,List.drop_length]; rfl
    have eT:tE (W.T.drop ss.length)=[]:=by rw[<- eTl,List.drop_length]; rfl
    rw[eS,eT] at bN1 bM1 al1
    rw[List.nil_append,List.nil_append] at al1
    obtain⟨es,les,nes,mes,ges⟩:=gM (List.nodup_append.mp al1.1).2.1 wok1.kd wok1.pd
    have al2:Al y1 (dE D'++es.map (·.2)):=by
     obtain⟨n1,n2,n3⟩:=List.nodup_append.mp al1.1
     have ms':∀ x ∈ es.map (·.2),x ∈ dF ds:=fun x hx=>by
      obtain⟨u,hu,rfl⟩:=mem_map.mp hx
      exact mes u hu
     refine⟨List.nodup_append.mpr ⟨n1,nes,fun a ha b hb=>n3 a ha b (ms' b hb)⟩,fun x hx=>?_⟩
     rcases mem_append.mp hx with hx | hx
     ·exact al1.2 x (mem_append_left _ hx)
     ·exact al1.2 x (mem_append_right _ (ms' x hx))
    obtain⟨W2,eW2⟩:∃ W2:WS,{ W with D:=D' }=W2:=⟨_,U⟩
    have eD2:W2.D=D':=by rw[<- eW2]
    have ep2:W2.p=wp:=by rw[<- eW2]; exact eW
    rw[eW2] at Y1 wok1
    obtain⟨X2,eX2⟩:∃ X2:Kn,(W2.ts,HO.lst (W2.S.map fun z=>V.ref z.1))::(W2.tc,HO.lst (W2.T.map fun z=>V.ref z.1))::(wD W2.D++(wS W2.S++(wT W2.T++(Nw++L))))=X2:=⟨_,U⟩
    have eWL:wL t.c_Ways W2++(Nw++L)=[(W2.p,HO.ins t.c_Ways W2.dx (wfl W2)),(W2.dx,.own W2.p)]++(W2.td,HO.dT (dkv W2.D))::X2:=by
     rw[<- eX2]
     unfold wL
     simp only[append_assoc,List.cons_append,List.nil_append]
    have inX:∀ v ∈ Nw++L,v ∈ X2:=fun v hv=>by rw[<- eX2]; exact mem_cons_of_mem _ (mem_cons_of_mem _ (mem_append_right _ (mem_append_right _ (mem_append_right _ hv))))
    have inD':∀ z ∈ W2.D,(z.2.1,HO.lst (prV z.2.2)) ∈ X2:=fun z hz=>by rw[<- eX2]; exact mem_cons_of_mem _ (mem_cons_of_mem _ (mem_append_left _ (mem_map_of_mem (f:=fun z:(Int×Int)×Addr×List Pr=>(z.2.1,HO.lst (prV z.2.2))) hz)))
    have Y2:=b7 Y1 eWL
    have gtd:=Y2.at_ (mem_append_right _ mem_cons_self)
    have gp2:=Y2.at_ mem_cons_self
    rw[ep2] at gp2
    rw[<- eD2] at al2 bN1 bM1 les ges
    refine⟨W2.td,dkv W2.D,gtd,?_⟩
    have ldk:(dkv W2.D).length=W2.D.length:=length_map ..
    refine⟨_,U,wp,_,W2.dx,_,_,U,gp2,T.cl_Ways,T.n_Ways_to_doors,mi _,W2.td,_,U,gtd,fun ob=>?_⟩
    have Y3:=Y2.mid (.frz ob (.dT (dkv W2.D)))
    obtain⟨Lf,eLf⟩:∃ Lf:Kn,[(W2.p,HO.ins t.c_Ways W2.dx (wfl W2)),(W2.dx,.own W2.p)]++(W2.td,HO.frz ob (.dT (dkv W2.D)))::X2=Lf:=⟨_,U⟩
    have mfz:(W2.td,HO.frz ob (.dT (dkv W2.D))) ∈ Lf:=by rw[<- eLf]; exact mem_append_right _ mem_cons_self
    have inLf:∀ v ∈ X2,v ∈ Lf:=fun v hv=>by rw[<- eLf]; exact mem_append_right _ (mem_cons_of_mem _ hv)
    refine hU (fun i σ H'=>∃ (y':YR) (N2:Kn) (N' M':Nat) (o1 o2 o3 o4 o5:Option V),σ=[some (.ref A'.p),some (.ref B.p),some (.ref wp),o1,o2,o3,o4,o5]/\Ld y' N' M' R/\N'+(dE (W2.D.drop i)).length<=N+rct cr ss+2*ss.length/\M'+4*(dE (W2.D.drop i)).length<=M+60*rln ss+10*ss.length/\Up y y' /\
     Al y' (dE (W2.D.drop i)++(es.drop i).map (·.2))/\YIn t.c_Yard H' A'.y y' (N2++Lf)) ⟨y1,[],N1,M1,_,_,_,_,_,U,D1,by rw[List.drop_zero]; simpa using bN1,by rw[List.drop_zero]; simpa using bM1,up1,by rw[List.drop_zero,List.drop_zero]; exact al2,b7 Y3 eLf⟩ (fun i σ H' _ z_=>z_.elim fun y' z_=>z_.elim fun N2 z_=>z_.elim fun N' z_=>z_.elim fun M' z_=>z_.elim fun _ z_=>z_.elim fun _ z_=>z_.elim fun _ z_=>z_.elim fun _ z_=>z_.elim fun _ z_=>z_.elim fun _ z_=>z_.elim fun _ z_=>z_.elim fun _ z_=>z_.elim fun _ z_=>z_.elim fun _ z_=>z_.elim fun _ Y'=>Y'.at_ (mem_append_right _ mfz)) ?_ ?_
    ·clear Y1 Y2 Y3 gtd gp2 al1 al2 bN1 bM1 D1 up1
     rintro i kv pp a σ H5 hkv hpp ha ⟨y2,N2,N2',M2',o1,o2,o3,o4,o5,rfl,D2,bN2,bM2,up2,al2,Y2⟩
     have hkv:(W2.D.map fun z=>(kE z.1.1 z.1.2,V.ref z.2.1))[i]?=some kv:=hkv
     rw[getElem?_map] at hkv
     obtain⟨z,hz,rfl⟩:=Option.map_eq_some_iff.mp hkv
     have hi:i<W2.D.length:=(List.getElem?_eq_some_iff.mp hz).1
     have hzm:=mem_of_getElem? hz
     obtain⟨k,r,u,e,e1,hu,he,hes⟩:=ges i z hz
     have hie:i<es.length:=by rw[les]; exact hi
     have edD:W2.D.drop i=z::W2.D.drop (i+1):=by rw[List.drop_eq_getElem_cons hi,(List.getElem?_eq_some_iff.mp hz).2]
     have ede:es.drop i=e::es.drop (i+1):=by rw[List.drop_eq_getElem_cons hie,(List.getElem?_eq_some_iff.mp hes).2]
     have edE:dE (W2.D.drop i)=z.2.2.map (·.2)++dE (W2.D.drop (i+1)):=by rw[edD]; rfl
     rw[edE,length_append,length_map] at bN2 bM2
     rw[edE,ede,map_cons] at al2
     have Y3:=Y2.alloc hpp (.tup [.ref a,.ref z.2.1])
     have npp:a≠pp:=fun c=>by rw[c,hpp] at ha; cases ha
     refine⟨pp,_,U,SqT.of (Y3.at_ mem_cons_self),U,_,_,U,_,_,U,U,?_⟩
     dsimp only[List.set]
     have ga:upd H5 pp (.tup [.ref a,.ref z.2.1]) a=some (.tup [.int k,.int r]):=by
      rw[av npp,ha,e1]; rfl
     refine⟨_,U,a,_,U,SqT.of ga,U,_,_,U,_,_,U,U,?_⟩
     dsimp only[List.set]
     have Y4:=Y3.sub (List.sublist_cons_self _ _)
     have inA:∀ v ∈ L,v ∈ N2++Lf:=fun v hv=>mem_append_right _ (inLf _ (inX _ (mem_append_right _ hv)))
     have gA:=Y4.at_ (inA _ lin.p)
     refine⟨_,U,A'.p,_,A'.dx,_,_,U,gA,T.cl_Laid,T.n_Laid_yard,iE _,_,U,_,U,A'.p,A'.dx,_,U,gA,(fm _).1,_,U,_,U,?_⟩
     refine tn0 ?_
     refine⟨A',ds,mr,cr,L,k,r,u,e,U,fun v hv=>Y4.at_ (inA v hv),lin,hu,he,?_⟩
     refine tn0 ?_
     refine dZ (z:=e) (zs:=z.2.2) (G:=dE (W2.D.drop (i+1))++(es.drop (i+1)).map (·.2)) Y4 (mem_append_right _ (inLf _ (inD' z hzm))) (fun x hx=>mem_append_right _ (inLf _ (inX _ (wok1.eD z hzm x hx)))) (inA _ (lin.de u (mem_of_getElem? hu) e (mem_of_getElem? he))) D2 (al2.perm ?_) (by omega) (by omega) bR (fun H6 y6 N6 M6 D6 bM6 up6 al6 Y6=>?_)
     ·rw[append_assoc]
      exact(List.Perm.append_left _ List.perm_middle).trans List.perm_middle
     exact⟨y6,N6++N2,_,M6,_,_,_,_,_,U,D6,by omega,by omega,up2.trans up6,al6,by rw[append_assoc]; exact Y6⟩
    ·clear Y1 Y2 Y3 gtd gp2 al1 al2 bN1 bM1 D1 up1
     rintro σ H5 ⟨y2,N2,N2',M2',o1,o2,o3,o4,o5,rfl,D2,bN2,bM2,up2,al2,Y2⟩
     refine⟨ob,Y2.at_ (mem_append_right _ mfz),?_⟩
     have e3:N2++Lf=(N2++[(W2.p,HO.ins t.c_Ways W2.dx (wfl W2)),(W2.dx,.own W2.p)])++(W2.td,HO.frz ob (.dT (dkv W2.D)))::X2:=by rw[<- eLf,append_assoc]
     have Y3:=(b7 Y2 e3).mid (.dT (dkv W2.D))
     refine q _ y2 (N2++(wL t.c_Ways W2++Nw)) N2' M2' D2 (by omega) up2 (b7 Y3 ?_)
     rw[append_assoc,<- eWL]
     simp only[append_assoc]
end
noncomputable def li (Cy Cl Cp:Addr):Sp:=fun vs H Q _=>∃ (L:Kn) (B:PA) (ms ws:List Int) (ss:Ss),vs=[.ref B.p]/\Has H L/\PIn Cp B ms ws ss L/\Good ms.length ws.length ss/\(∀ x ∈ ms,x=1∨x=2)/\(∀ x ∈ ws,1<=x/\x<=8)/\ms.length<=30/\ws.length<=30/\ss≠[]/\ss.length<=40/\rln ss<=130 /\
 ∀ H' (A:LA) y Nw (cr:List (Addr×List Int)) N M R,Ld y N M R->0<N->cr.map (fun z=>(z.2.length:Int))=ws->N<=rln ss+rct cr ss+2*ss.length->(A.p,HO.ins Cl A.dx (lfl A)) ∈ Nw->YIn Cy H' A.y y (Nw++L)->Q (.ref A.p) H'
theorem tc2 {c d:V}{σ:St}{H:Hp}{Q:List V->Hp->Prop} (h:Q [c,d] H):gf (tC c) (gf (tC d) f9) σ H Q:=h
theorem dX {C:Addr}{H:Hp}{p:Addr}{y:YR}{L:Kn}{Q:V->Hp->Prop} (Y:YIn C H p y L) (s:Int) (hs:s=1∨s=2) (hl:y.sides.length<=10000) (q:∀ H',YIn C H' p { y with sides:=y.sides++[.int s],trail:=[] } L->Q (.int y.sides.length) H'):dH C [.ref p,.int s] H Q E0:=by
 obtain⟨A,rfl,h⟩:=Y
 exact⟨A,y,L,s,U,h,hs,hl,fun H' tr h'=>q H' ⟨{ A with tr:=tr },U,h'⟩⟩
theorem lP {l:List Nat}{x:Nat} (h:x ∈ l):x<=l.sum:=by
 induction l with
 | nil=>cases h
 | cons a r ih=>
  rw[List.sum_cons]
  rcases mem_cons.mp h with rfl | h
  ·omega
  ·have:=ih h; omega
noncomputable def rgI (n:Nat):List Int:=(List.range n).map fun j:Nat=>(j:Int)
theorem jU (n:Nat):rgI (n+1)=rgI n++[(n:Int)]:=by unfold rgI; rw[List.range_succ,map_append]; rfl
theorem iz (n:Nat):(rgI n).length=n:=by unfold rgI; rw[length_map,List.length_range]
theorem lF {n:Nat}{r:Int} (h:r ∈ rgI n):0<=r/\r<n:=by
 obtain⟨j,hj,rfl⟩:=mem_map.mp h
 have:=mem_range.mp hj
 omega
noncomputable def yS (sd:List V):YR:={ y0 with sides:=sd }
theorem yS_ld (sd:List V):Ld (yS sd) 0 0 sd.length:=⟨U,U,fun _ _=>⟨U,U,U⟩,fun _ _ _=>rfl,Nat.le_refl _,Nat.le_refl _,Nat.le_refl _,Nat.le_refl _,U,U⟩
theorem There.up {y y':YR} (u:Up y y') {n e:Int} (h:There y n e):There y' n e:=by
 obtain⟨k,hk,h0⟩:=h
 exact⟨k,u.k _ _ hk,h0⟩
theorem Ld.put {y:YR}{N M R:Nat} (h:Ld y N M R) (b:V):Ld { y with eng:=b,trail:=[] } N M R:=⟨h.nx,h.kl,h.fr,h.mt,h.nl,h.rl,h.sl,h.ml,h.g,U⟩
theorem Rw.rc_le {cr:List (Addr×List Int)} (h:∀ z ∈ cr,z.2.length<=8) (x:Rw):x.rc cr<=19:=by
 cases x with
 | bump c r=>
  show 2*((cr[c.toNat]?).map (fun z=>z.2.length)).getD 0+1+2<=19
  cases e:cr[c.toNat]? with
  | none=>simp
  | some z=>have:=h z (mem_of_getElem? e); simp; omega
 | bell _=>show 1+1<=19; decide
 | set _ _=>show 1+1<=19; decide
 | ask _ _ _=>show 1+2<=19; decide
 | go _=>show 0+1<=19; decide
 | call _=>show 3<=19; decide
 | fin=>show 1<=19; decide
theorem nQ {cr:List (Addr×List Int)} (h:∀ z ∈ cr,z.2.length<=8) (ss:Ss):rct cr ss<=19*rln ss:=by
 have h1:∀ rs:List (Addr×Rw),rcs cr rs<=19*rs.length:=fun rs=>by
  induction rs with
  | nil=>exact Nat.le_refl _
  | cons x r ih=>
   have:=Rw.rc_le h x.2
   have e:rcs cr (x::r)=x.2.rc cr+rcs cr r:=by unfold rcs; rw[map_cons,List.sum_cons]
   rw[e,length_cons]
   omega
 induction ss with
 | nil=>exact Nat.le_refl _
 | cons z r ih=>
  have:=h1 z.2
  have e1:rct cr (z::r)=rcs cr z.2+rct cr r:=by unfold rct; rw[map_cons,List.sum_cons]
  have e2:rln (z::r)=z.2.length+rln r:=by unfold rln; rw[map_cons,List.sum_cons]
  rw[e1,e2]
  omega
section
variable {P:Program}{w:World}{K:PySem.W.Frag}{mg:Str->Option Value}{base:Heap}{t:Adr}
theorem scOu:FnScope ["program","yard","mark_rods","counter_rods","doors","stretch","laid"] ["program"] (ai gq):={}
theorem oz (T:Txt K mg t):FnOk P w K mg base CX0 11 t.f_J41 t.d_J41 ["program"] (li t.c_Yard t.c_Laid t.c_Program):=by
 obtain⟨ds_l2,hd_J21_2,hb_J21_2⟩:=bP T
 obtain⟨ds_n2,hd_Jh_2,hb_Jh_2⟩:=l4 T
 obtain⟨ds_n1,hd_Jh_1,hb_Jh_1⟩:=iN T
 refine T.F_J41.ok scOu (fun vs H Q E h=>?_) (fun cdv A outer s H vs Q E hr h=>?_)
 ·obtain⟨_,_,_,_,_,rfl,_⟩:=h
  rfl
 ·obtain⟨L,B,ms,ws,ss,rfl,hH,pin,good,hms,hws,bms,bws,hne,bss,brl,q⟩:=h
  refine⟨_,(ae (ar (i:=1) scOu.nd rfl (Or.inr rfl) (j7 T.mk_Yard (ok_Ju T) (hr.mono (by decide)) (by rfl) T.m_Yard (b_Ju T) .nil aB))
   (ae (fN (ix:=2) scOu.nd rfl (Or.inl rfl) (esc:=ai gq) (k:=1) ["side","program","yard","mark_rods","counter_rods","doors","stretch","laid"] rfl (bq (aS (pv 0) T.cl_Program T.M_Jc (ok_Jc T) hr (b_Jc T) .nil aB)) (fun _ _ _ _ _=>by exact(am (i:=0) (show List.Nodup (["side","program","yard","mark_rods","counter_rods","doors","stretch","laid"]:List Str) from by decide +kernel) rfl (Or.inl rfl))) (fun _ _ _ _ _=>by exact bI) (fun _ _ _ _ _=>by exact(aA (pv 2) T.cl_Yard T.M_Jh (kj T) hr hb_Jh_2 hd_Jh_2 aB (aa (pv 0) af))) rfl (by decide +kernel) (by decide +kernel) rfl (by decide +kernel) (by rfl) (fun _ _ h _=>h) (by decide +kernel))
   (ae (fN (ix:=3) scOu.nd rfl (Or.inl rfl) (esc:=ai gq) (k:=1) ["width","program","yard","mark_rods","counter_rods","doors","stretch","laid"] rfl (bq (aS (pv 0) T.cl_Program T.M_J8 (ok_J8 T) hr (b_J8 T) .nil aB)) (fun _ _ _ _ _ => by exact (am (i:=0) (show List.Nodup (["width","program","yard","mark_rods","counter_rods","doors","stretch","laid"]:List Str) from by decide +kernel) rfl (Or.inl rfl))) (fun _ _ _ _ _ => by exact bI) (fun _ _ _ _ _ => by exact (fg (esc:=_) (k:=1) ["bit","width","program","yard","mark_rods","counter_rods","doors","stretch","laid"] rfl (a9 (by rfl) T.z_range (aa (pv 0) af)) (fun _ _ _ _ _ => by exact (am (i:=0) (show List.Nodup (["bit","width","program","yard","mark_rods","counter_rods","doors","stretch","laid"]:List Str) from by decide +kernel) rfl (Or.inl rfl))) (fun _ _ _ _ _ => by exact bI) (fun _ _ _ _ _ => by exact (aS (pv 3) T.cl_Yard T.M_Jh (kj T) hr hb_Jh_1 hd_Jh_1 aB)) rfl (by decide +kernel) (by decide +kernel) rfl (by intro y hy hf; rcases hy with _ | ⟨_,_ | ⟨_,_ | ⟨_,hy⟩⟩⟩ <;> first | (cases hf; done) | exact Or.inr rfl | exact Or.inl rfl | (cases hy; done)) (by rfl) (fun _ _ h _ => h) (by decide +kernel))) rfl (by decide +kernel) (by decide +kernel) rfl (by decide +kernel) (by rfl) (fun _ _ h _ => h) (by decide +kernel))
   (ae (ar (i:=4) scOu.nd rfl (Or.inl rfl) (aR af))
   (ae (aX PassesOwn.never rfl (a9 (by rfl) T.z_range (aa (aS (pv 0) T.cl_Program T.M_Jg (dW T) hr (hX T) .nil aB) af)) (am (i:=5) scOu.nd rfl (Or.inl rfl))
    (ah (ak (b6 PySem.F.plainAttrs_list PySem.F.slot_list_append PySem.F.type_list_append aT (pv 4) (aa (fg (esc:=ai gq) (k:=1) ["row","program","yard","mark_rods","counter_rods","doors","stretch","laid"] rfl (bq (aA (pv 0) T.cl_Program T.M_Ji (m5 T) hr (qc T) .nil aB (aa (pv 5) af))) (fun _ _ _ _ _=>by exact(am (i:=0) (show List.Nodup (["row","program","yard","mark_rods","counter_rods","doors","stretch","laid"]:List Str) from by decide +kernel) rfl (Or.inl rfl))) (fun _ _ _ _ _=>by exact bI) (fun _ _ _ _ _=>by exact(aq (aa (aA (pv 2) T.cl_Yard T.M_J21 (bG T) hr hb_J21_2 hd_J21_2 aB (aa aF af)) (aa ag af)))) rfl (by decide +kernel) (by decide +kernel) rfl (by decide +kernel) (by rfl) (fun _ _ h _=>h) (by decide +kernel)) af)))))
   (ae (ar (i:=6) scOu.nd rfl (Or.inl rfl) (fR T.mk_Laid (ok_Js T) (hr.mono (by decide)) (by rfl) T.m_Laid (b_Js T) .nil aB (aa (pv 1) (aa (pv 4) (aa (pv 2) (aa (pv 3) af))))))
   (ae (ak (pcl (ok_Jy T) hr T.m_Jy T.F_Jy.kp (b_Jy T) (aa (pv 6) (aa (pv 0) af))))
   (ae (ak (aA (pv 1) T.cl_Yard T.M_J11 (oB T) hr (b_J11 T) .nil aB (aa (aA (pv 6) T.cl_Laid T.M_Jv (kh T) hr (oR T) .nil aB (aa ag (aa ag af))) af)))
   (ah (aH (pv 6))))))))))),?_⟩
  rw[show L2.start ["program","yard","mark_rods","counter_rods","doors","stretch","laid"] [V.ref B.p]=([some (V.ref B.p),none,none,none,none,none,none]:St) from rfl]
  intro yp ydx hy1 hy2 hy3
  refine⟨yp,ydx,L,U,(hH.alloc hy2 _).alloc (by rw[av (Ne.symm hy3)]; exact hy1) _,fun H1 A1 eA1 h1=>⟨U,?_⟩⟩
  dsimp only[d7,List.set]
  have Y1:YIn t.c_Yard H1 yp (yS []) L:=⟨A1,eA1,h1⟩
  clear h1 hy1 hy2 hy3 hH
  refine⟨_,U,B.p,B.dx,_,U,Y1.at_ pin.p,(b5 _).2.1,?_⟩
  refine tn0 ?_
  obtain⟨A2,eA2,h2⟩:=Y1
  refine⟨B,_,_,U,h2,mem_append_right _ pin.p,mem_append_right _ pin.m,fun H3 lm h3=>?_⟩
  have Y3:YIn t.c_Yard H3 yp (yS []) ((lm,HO.lst (ms.map V.int))::L):=⟨A2,eA2,Has.ac h3 (by simp only[Ms.app,Ms.cons]; ac_rfl)⟩
  clear h2 h3 eA1 eA2
  refine⟨lm,U,⟨_,SqL.of (Y3.at_ mem_cons_self)⟩,fun mrl hmrl=>?_⟩
  obtain⟨L1,eL1⟩:∃ L1:Kn,(lm,HO.lst (ms.map V.int))::L=L1:=⟨_,U⟩
  have toL1:∀ v ∈ L,v ∈ L1:=fun v hv=>by rw[<- eL1]; exact mem_cons_of_mem _ hv
  have mlm:(lm,HO.lst (ms.map V.int)) ∈ L1:=by rw[<- eL1]; exact mem_cons_self
  rw[eL1] at Y3
  refine⟨fun i m zs H'=>m=ms.length - i/\i<=ms.length/\zs=((rgI i).map V.int)/\YIn t.c_Yard H' yp (yS ((ms.take i).map V.int)) ((mrl,.lst zs)::L1),⟨_,U,Nat.zero_le _,U,Y3.alloc hmrl _⟩,?_⟩
  clear Y3
  rintro i m zs H4 ⟨rfl,hi,rfl,Y4⟩
  refine⟨Y4.at_ mem_cons_self,?_⟩
  have glm:=Y4.at_ (mem_cons_of_mem _ mlm)
  by_cases hlt:i<ms.length
  ·have hx0:(ms.map V.int)[i]?=some (.int ms[i]):=by rw[getElem?_map,getElem?_eq_getElem hlt]; rfl
   refine .inr ⟨⟨_,_,SqL.of glm,hx0⟩,?_⟩
   rintro x H5 ⟨rfl,hx⟩
   have e1:=hx _ (SqL.of glm)
   rw[hx0] at e1
   cases e1
   refine⟨U,bY ?_⟩
   obtain⟨Ay,gy⟩:=Y4.obj
   have lt:((ms.take i).map V.int).length=i:=by rw[length_map,length_take]; omega
   refine⟨_,U,yp,Ay.dx,_,U,gy,(bT _ _ _).2.1,_,U,?_⟩
   refine tn0 ?_
   refine dX Y4 ms[i] (hms _ (List.getElem_mem hlt)) (by show((ms.take i).map V.int).length<=10000; omega) (fun H6 Y6=>?_)
   refine⟨sizeOk (by rw[length_map,iz]; omega),Y6.at_ mem_cons_self,ms.length - (i+1),by omega,U,hlt,?_,?_⟩
   ·rw[jU,map_append]
    show _++[V.int ((ms.take i).map V.int).length]=_
    rw[lt]; rfl
   ·have e2:({ (yS ((ms.take i).map V.int)) with sides:=(yS ((ms.take i).map V.int)).sides++[.int ms[i]],trail:=[] }:YR)=yS ((ms.take (i+1)).map V.int):=by
     rw[bE (getElem?_eq_getElem hlt),map_append]; rfl
    have Y7:=Y6.put0 (.lst (((rgI i).map V.int)++[V.int ((ms.take i).map V.int).length]))
    rw[<- e2]
    exact Y7
  ·refine .inl ⟨⟨_,SqL.of glm,by rw[length_map]; omega⟩,?_⟩
   have ei:i=ms.length:=by omega
   subst ei
   rw[List.take_length] at Y4
   dsimp only[List.set]
   obtain⟨L2,eL2⟩:∃ L2:Kn,(mrl,HO.lst ((rgI ms.length).map V.int))::L1=L2:=⟨_,U⟩
   have toL2:∀ v ∈ L,v ∈ L2:=fun v hv=>by rw[<- eL2]; exact mem_cons_of_mem _ (toL1 v hv)
   have mmr:(mrl,HO.lst ((rgI ms.length).map V.int)) ∈ L2:=by rw[<- eL2]; exact mem_cons_self
   rw[eL2] at Y4
   refine⟨_,U,B.p,B.dx,_,U,Y4.at_ (toL2 _ pin.p),(b5 _).2.2.1,?_⟩
   refine tn0 ?_
   obtain⟨A5,eA5,h5⟩:=Y4
   refine⟨B,_,_,U,h5,mem_append_right _ (toL2 _ pin.p),mem_append_right _ (toL2 _ pin.w),fun H6 lw h6=>?_⟩
   have Y6:YIn t.c_Yard H6 yp (yS (ms.map V.int)) ((lw,HO.lst (ws.map V.int))::L2):=⟨A5,eA5,Has.ac h6 (by simp only[Ms.app,Ms.cons]; ac_rfl)⟩
   clear h5 h6 eA5 glm hi hlt
   refine⟨lw,U,⟨_,SqL.of (Y6.at_ mem_cons_self)⟩,fun crl hcrl=>?_⟩
   obtain⟨L3,eL3⟩:∃ L3:Kn,(lw,HO.lst (ws.map V.int))::L2=L3:=⟨_,U⟩
   have toL3:∀ v ∈ L2,v ∈ L3:=fun v hv=>by rw[<- eL3]; exact mem_cons_of_mem _ hv
   have mlw:(lw,HO.lst (ws.map V.int)) ∈ L3:=by rw[<- eL3]; exact mem_cons_self
   rw[eL3] at Y6
   refine⟨fun i m zs H'=>m=ws.length - i/\i<=ws.length/\∃ (cr:List (Addr×List Int)) (n:Nat) (Nw:Kn),zs=crV cr/\cr.map (fun z=>(z.2.length:Int))=ws.take i/\(∀ z ∈ cr,∀ r ∈ z.2,0<=r/\r<((ms.length+n:Nat):Int))/\(∀ z ∈ cr,(z.1,HO.lst (z.2.map V.int)) ∈ Nw)/\n<=8*i/\YIn t.c_Yard H' yp (yS (ms.map V.int++List.replicate n (.int 1))) ((crl,.lst zs)::(Nw++L3)),⟨_,U,Nat.zero_le _,[],0,[],U,U,(fun z hz=>(nomatch hz)),(fun z hz=>(nomatch hz)),Nat.zero_le _,by rw[List.replicate_zero,append_nil]; exact Y6.alloc hcrl _⟩,?_⟩
   clear Y6
   rintro i m zs H7 ⟨rfl,hi,cr,n,Nw,rfl,ecr,hcr,mcr,bn,Y7⟩
   refine⟨Y7.at_ mem_cons_self,?_⟩
   have glw:=Y7.at_ (mem_cons_of_mem _ (mem_append_right _ mlw))
   by_cases hlt:i<ws.length
   ·have hx0:(ws.map V.int)[i]?=some (.int ws[i]):=by rw[getElem?_map,getElem?_eq_getElem hlt]; rfl
    refine .inr ⟨⟨_,_,SqL.of glw,hx0⟩,?_⟩
    rintro x H8 ⟨rfl,hx⟩
    have e1:=hx _ (SqL.of glw)
    rw[hx0] at e1
    cases e1
    obtain⟨w1,w2⟩:=hws _ (List.getElem_mem hlt)
    obtain⟨wn,ewn⟩:∃ wn:Nat,ws[i]=(wn:Int):=⟨ws[i].toNat,by omega⟩
    rw[ewn]
    refine⟨U,bY ?_⟩
    refine⟨_,U,_,U,by omega,by omega,fun D hD=>?_⟩
    refine⟨fun j m zs H'=>m=wn - j/\j<=wn/\∃ rs:List Int,zs=rs.map V.int/\rs.length=j/\(∀ r ∈ rs,0<=r/\r<((ms.length+(n+j):Nat):Int))/\YIn t.c_Yard H' yp (yS (ms.map V.int++List.replicate (n+j) (.int 1))) ((D,.lst zs)::((crl,.lst (crV cr))::(Nw++L3))),⟨_,U,Nat.zero_le _,[],U,U,(fun z hz=>(nomatch hz)),Y7.alloc hD _⟩,?_⟩
    rintro j m zs H9 ⟨rfl,hj,rs,rfl,lrs,hrs,Y9⟩
    refine⟨Y9.at_ mem_cons_self,?_⟩
    by_cases hjl:j<wn
    ·refine .inr ⟨(show j<(wn:Int).toNat by omega),?_⟩
     rintro x H10 ⟨rfl,rfl⟩
     refine⟨U,bY ?_⟩
     obtain⟨Ay,gy⟩:=Y9.obj
     have ls:(ms.map V.int++List.replicate (n+j) (V.int 1)).length=ms.length+(n+j):=by rw[length_append,length_map,length_replicate]
     refine⟨_,U,yp,Ay.dx,_,U,gy,(bT _ _ _).2.1,?_⟩
     refine tn0 ?_
     refine dX Y9 1 (.inl rfl) (by show(ms.map V.int++List.replicate (n+j) (V.int 1)).length<=10000; omega) (fun H11 Y11=>?_)
     refine⟨sizeOk (by rw[length_map]; omega),Y11.at_ mem_cons_self,wn - (j+1),by omega,U,hjl,rs++[((ms.length+(n+j):Nat):Int)],?_,by simp[lrs],?_,?_⟩
     ·rw[map_append]
      show _++[V.int (ms.map V.int++List.replicate (n+j) (V.int 1)).length]=_
      rw[ls]; rfl
     ·intro r hr
      rcases mem_append.mp hr with hr | hr
      ·have:=hrs r hr; omega
      ·rw[mem_singleton.mp hr]; omega
     ·have e2:({ (yS (ms.map V.int++List.replicate (n+j) (V.int 1))) with sides:=(yS (ms.map V.int++List.replicate (n+j) (V.int 1))).sides++[.int 1],trail:=[] }:YR)=yS (ms.map V.int++List.replicate (n+(j+1)) (V.int 1)):=by
       rw[<- Nat.add_assoc,List.replicate_succ',<- append_assoc]; rfl
      rw[<- e2]
      exact Y11.put0 _
    ·refine .inl ⟨(show(wn:Int).toNat<=j by omega),?_⟩
     have ej:j=wn:=by omega
     subst ej
     have lcr:(crV cr).length<=30:=by
      have:=congrArg List.length ecr
      rw[length_map,length_take] at this
      show(cr.map _).length<=30
      rw[length_map]; omega
     refine⟨sizeOk (by omega),Y9.at_ (mem_cons_of_mem _ mem_cons_self),ws.length - (i+1),by omega,U,hlt,cr++[(D,rs)],n+j,(D,.lst (rs.map V.int))::Nw,?_,?_,?_,?_,by omega,?_⟩
     ·show cr.map _++[V.ref D]=(cr++[(D,rs)]).map _
      rw[map_append]; rfl
     ·rw[map_append,ecr,bE (getElem?_eq_getElem hlt),ewn]
      show _++[((rs.length:Nat):Int)]=_
      rw[lrs]
     ·intro z hz r hr
      rcases mem_append.mp hz with hz | hz
      ·have:=hcr z hz r hr; omega
      ·rw[mem_singleton.mp hz] at hr
       exact hrs r hr
     ·intro z hz
      rcases mem_append.mp hz with hz | hz
      ·exact mem_cons_of_mem _ (mcr z hz)
      ·rw[mem_singleton.mp hz]; exact mem_cons_self
     ·exact((Y9.perm (.swap _ _ _)).put0 (.lst (crV cr++[.ref D])))
   ·refine .inl ⟨⟨_,SqL.of glw,by rw[length_map]; omega⟩,?_⟩
    have ei:i=ws.length:=by omega
    subst ei
    rw[List.take_length] at ecr
    dsimp only[List.set]
    have c8:∀ z ∈ cr,z.2.length<=8:=fun z hz=>by
     have h:(z.2.length:Int) ∈ ws:=by rw[<- ecr]; exact mem_map_of_mem (f:=fun z:Addr×List Int=>(z.2.length:Int)) hz
     have:=hws _ h
     omega
    have c1:∀ z ∈ cr,z.2≠[]:=fun z hz e=>by
     have h:(z.2.length:Int) ∈ ws:=by rw[<- ecr]; exact mem_map_of_mem (f:=fun z:Addr×List Int=>(z.2.length:Int)) hz
     have:=(hws _ h).1
     rw[e] at this
     simp at this
    have lcr:cr.length=ws.length:=by have:=congrArg List.length ecr; rwa [length_map] at this
    obtain⟨sd,esd⟩:∃ sd:List V,ms.map V.int++List.replicate n (V.int 1)=sd:=⟨_,U⟩
    have lsd:sd.length=ms.length+n:=by rw[<- esd,length_append,length_map,length_replicate]
    rw[esd] at Y7
    obtain⟨L4,eL4⟩:∃ L4:Kn,(crl,HO.lst (crV cr))::(Nw++L3)=L4:=⟨_,U⟩
    obtain⟨X4,eX4⟩:∃ X4:Kn,L4=X4++L:=⟨(crl,HO.lst (crV cr))::(Nw++[(lw,HO.lst (ws.map V.int)),(mrl,HO.lst ((rgI ms.length).map V.int)),(lm,HO.lst (ms.map V.int))]),by rw[<- eL4,<- eL3,<- eL2,<- eL1]; simp only[List.cons_append,append_assoc,List.nil_append]⟩
    have toL4:∀ v ∈ L,v ∈ L4:=fun v hv=>by rw[<- eL4]; exact mem_cons_of_mem _ (mem_append_right _ (toL3 _ (toL2 _ hv)))
    have mmr4:(mrl,HO.lst ((rgI ms.length).map V.int)) ∈ L4:=by rw[<- eL4]; exact mem_cons_of_mem _ (mem_append_right _ (toL3 _ mmr))
    have mcl4:(crl,HO.lst (crV cr)) ∈ L4:=by rw[<- eL4]; exact mem_cons_self
    have mcr4:∀ z ∈ cr,(z.1,HO.lst (z.2.map V.int)) ∈ L4:=fun z hz=>by rw[<- eL4]; exact mem_cons_of_mem _ (mem_append_left _ (mcr z hz))
    rw[eL4] at Y7
    refine⟨by decide,fun dl hdl=>?_⟩
    have Y8:=Y7.alloc hdl (.lst (dsV []))
    dsimp only[List.set]
    clear Y7 glw hi hlt mcr
    have lss:(ssV ss).length=ss.length:=by unfold ssV; rw[length_map]
    refine⟨_,U,B.p,B.dx,_,U,Y8.at_ (mem_cons_of_mem _ (toL4 _ pin.p)),(b5 _).1,?_⟩
    refine tn0 ?_
    refine⟨B,_,U,Y8.at_ (mem_cons_of_mem _ (toL4 _ pin.p)),Y8.at_ (mem_cons_of_mem _ (toL4 _ pin.s)),?_⟩
    rw[lss]
    refine tn0 ?_
    refine⟨_,U,by omega,by omega,bv (fun k σ H'=>∃ (y':YR) (ds:List (Addr×List Pr)) (Nw:Kn) (o1:Option V),σ=[some (.ref B.p),some (.ref yp),some (.ref mrl),some (.ref crl),some (.ref dl),o1,none]/\ds.map (fun z=>z.2.length)=(ss.take k).map (fun z=>z.2.length)/\Ld y' (rln (ss.take k)) 0 sd.length/\y'.sides=sd/\Up (yS sd) y' /\
     Al y' (dF ds++dB ds)/\(∀ z ∈ ds,(z.1,HO.lst (prV z.2)) ∈ Nw)/\(∀ z ∈ ds,∀ x ∈ z.2,pK2 x ∈ Nw)/\YIn t.c_Yard H' yp y' ((dl,.lst (dsV ds))::(Nw++L4))) ⟨yS sd,[],[],_,U,U,yS_ld sd,U,Up.refl _,⟨List.nodup_nil,fun x hx=>(nomatch hx)⟩,(fun z hz=>(nomatch hz)),(fun z hz=>(nomatch hz)),Y8⟩ ?_ ?_⟩
    ·clear Y8
     rintro k σ H9 hk ⟨y1,ds,Nw,o1,rfl,eds,D1,es1,up1,al1,mdl,mde,Y1⟩
     have hkl:k<ss.length:=by omega
     have hz:=getElem?_eq_getElem hkl
     obtain⟨z,ez⟩:∃ z,ss[k]=z:=⟨_,U⟩
     rw[ez] at hz
     have hgl:=jT (ss:=ss) (k+1)
     rw[cD hz] at hgl
     dsimp only[List.set]
     rw[Int.zero_add]
     have inB:∀ v ∈ L,v ∈ (dl,HO.lst (dsV ds))::(Nw++L4):=fun v hv=>mem_cons_of_mem _ (mem_append_right _ (toL4 v hv))
     refine⟨_,U,.inl ⟨U,_,SqL.of (Y1.at_ mem_cons_self)⟩,_,U,B.p,B.dx,_,U,Y1.at_ (inB _ pin.p),gE _,_,U,?_⟩
     refine tn0 ?_
     obtain⟨A2,eA2,h2⟩:=Y1
     refine⟨B,ms,ws,ss,_,k,z,U,h2,pin.mono fun v hv=>mem_append_right _ (inB v hv),hz,fun H3 l h3=>?_⟩
     have Y3:YIn t.c_Yard H3 yp y1 ((dl,HO.lst (dsV ds))::((l,HO.lst (rwV z.2))::(Nw++L4))):=⟨A2,eA2,Has.ac h3 (by simp only[Ms.app,Ms.cons]; ac_rfl)⟩
     clear h2 h3 eA2
     refine⟨l,U,⟨_,SqL.of (Y3.at_ (mem_cons_of_mem _ mem_cons_self))⟩,fun D hD=>?_⟩
     obtain⟨N0,eN0⟩:∃ N0:Nat,rln (ss.take k)=N0:=⟨_,U⟩
     rw[eN0] at D1 hgl
     have lrw:(rwV z.2).length=z.2.length:=by unfold rwV; rw[length_map]
     refine⟨fun j m zs H'=>m=z.2.length - j/\j<=z.2.length/\∃ (y':YR) (es:List Pr) (N2:Kn),zs=prV es/\es.length=j/\Ld y' (N0+j) 0 sd.length/\y'.sides=sd/\Up (yS sd) y'/\Al y' (es.map (·.2)++(es.map (fun e=>(e.2.1,1))++(dF ds++dB ds)))/\(∀ x ∈ es,pK2 x ∈ N2)/\YIn t.c_Yard H' yp y' ((D,.lst zs)::((dl,HO.lst (dsV ds))::(N2++((l,HO.lst (rwV z.2))::(Nw++L4))))),⟨_,U,Nat.zero_le _,y1,[],[],U,U,D1,es1,up1,al1,(fun z hz=>(nomatch hz)),Y3.alloc hD _⟩,?_⟩
     clear Y3 D1 es1 up1 al1
     rintro j m zs H4 ⟨rfl,hj,y4,es,N2,rfl,les,D4,es4,up4,al4,mes,Y4⟩
     refine⟨Y4.at_ mem_cons_self,?_⟩
     have gl:=Y4.at_ (z:=(l,HO.lst (rwV z.2))) (mem_cons_of_mem _ (mem_cons_of_mem _ (mem_append_right _ mem_cons_self)))
     have lpv:(prV es).length=es.length:=by unfold prV; rw[length_map]
     by_cases hlt:j<z.2.length
     ·have hx0:(rwV z.2)[j]?=some (.ref z.2[j].1):=lC (getElem?_eq_getElem hlt)
      refine .inr ⟨⟨_,_,SqL.of gl,hx0⟩,?_⟩
      rintro x H5 ⟨rfl,hx⟩
      refine⟨U,bY ?_⟩
      obtain⟨Ay,gy⟩:=Y4.obj
      refine⟨_,U,yp,Ay.dx,_,U,gy,(bT _ _ _).1,?_⟩
      refine tc1 ?_
      refine bH Y4 D4 ⟨by omega,by omega,by omega⟩ .line 0 .non (fun c=>nomatch c) (fun c=>nomatch c) (fun H6 Y6=>?_)
      have al6:=al4.lay2 D4 .line 0 .non rfl
      have D6:=D4.lay .line 0 .non
      have up6:=up4.trans (D4.up .line 0 .non)
      refine⟨(show 2<=sizeLine by decide),fun b hb=>?_⟩
      have Y7:=Y6.alloc hb (.tup [.int ((N0+j:Nat):Int),.int 0])
      refine⟨sizeOk (by rw[lpv]; omega),Y7.at_ (mem_cons_of_mem _ mem_cons_self),z.2.length - (j+1),by omega,U,hlt,_,es++[(b,((N0+j:Nat):Int),0)],(b,.tup [.int ((N0+j:Nat):Int),.int 0])::N2,?_,by simp[les],D6,es4,up6,?_,?_,?_⟩
      ·unfold prV; rw[map_append]; rfl
      ·refine al6.perm ?_
       rw[map_append,map_append]
       show List.Perm ((((N0+j:Nat):Int),0)::(((N0+j:Nat):Int),1)::_) ((es.map (·.2)++[(((N0+j:Nat):Int),0)])++((es.map (fun e=>(e.2.1,1))++[(((N0+j:Nat):Int),1)])++(dF ds++dB ds)))
       rw[append_assoc,append_assoc]
       refine((List.Perm.cons _ ?_).trans List.perm_middle.symm)
       refine(List.perm_middle (l₁:=es.map (fun x:Pr=>x.2))).symm.trans (List.Perm.append_left _ ?_)
       exact List.perm_middle.symm
      ·exact kX (fun x hx=>mem_cons_of_mem _ (mes x hx)) mem_cons_self
      ·exact((Y7.perm ((List.Perm.swap _ _ _).trans (.cons _ (.swap _ _ _)))).put0 _)
     ·refine .inl ⟨⟨_,SqL.of gl,by rw[lrw]; omega⟩,?_⟩
      have ej:j=z.2.length:=by omega
      have lds:(dsV ds).length<=40:=by
       have:=congrArg List.length eds
       rw[length_map,length_map,length_take] at this
       show(ds.map _).length<=40
       rw[length_map]; omega
      refine tn0 ?_
      refine⟨dl,_,_,U,U,Y4.at_ (mem_cons_of_mem _ mem_cons_self),sizeOk (by omega),?_⟩
      refine⟨y4,ds++[(D,es)],(D,.lst (prV es))::(N2++((l,HO.lst (rwV z.2))::Nw)),_,U,?_,?_,es4,up4,?_,?_,?_,?_⟩
      ·rw[map_append,eds,bE hz,map_append]
       show _++[es.length]=_++[z.2.length]
       rw[les,ej]
      ·rw[cD hz,eN0,<- ej]; exact D4
      ·refine al4.perm ?_
       have e1:dF (ds++[(D,es)])=dF ds++es.map (·.2):=by unfold dF; rw[List.flatMap_append]; simp
       have e2:dB (ds++[(D,es)])=dB ds++es.map (fun e=>(e.2.1,1)):=by unfold dB; rw[List.flatMap_append]; simp
       rw[e1,e2]
       generalize es.map (fun x:Pr=>x.2)=a
       generalize es.map (fun e:Pr=>(e.2.1,(1:Int)))=b
       generalize dF ds=c
       generalize dB ds=d
       rw[append_assoc]
       refine apc.trans ?_
       refine List.perm_append_comm.trans ?_
       rw[append_assoc,append_assoc]
       exact apc
      ·exact kX (fun z hz=>mem_cons_of_mem _ (mem_append_right _ (mem_cons_of_mem _ (mdl z hz)))) mem_cons_self
      ·exact kX (fun z hz x hx=>mem_cons_of_mem _ (mem_append_right _ (mem_cons_of_mem _ (mde z hz x hx)))) (fun x hx=>mem_cons_of_mem _ (mem_append_left _ (mes x hx)))
      ·have Y5:=(Y4.perm (.swap _ _ _)).put0 (.lst (dsV ds++[.ref D]))
       rw[show dsV (ds++[(D,es)])=dsV ds++[.ref D] by show(ds++[(D,es)]).map _=_; rw[map_append]; rfl]
       exact b7 Y5 (by simp only[List.cons_append,append_assoc])
    ·clear Y8
     rintro σ H9 ⟨y1,ds,Nw,o1,rfl,eds,D1,es1,up1,al1,mdl,mde,Y1⟩
     rw[Int.toNat_natCast,List.take_length] at eds D1
     have dm:DMt ds ss:=eds
     have hls:1<=ss.length:=by
      cases ss with
      | nil=>exact absurd rfl hne
      | cons=>exact Nat.succ_le_succ (Nat.zero_le _)
     refine⟨_,U,_,U,_,U,_,U,?_⟩
     refine tn0 ?_
     intro lp ldx hl1 hl2 hl3
     obtain⟨A2,eA2,h2⟩:=Y1
     have up':∀ v ∈ (dl,HO.lst (dsV ds))::(Nw++L4),v ∈ yL t.c_Yard A2 y1++((dl,HO.lst (dsV ds))::(Nw++L4)):=fun v hv=>mem_append_right _ hv
     have in4:∀ v ∈ L4,v ∈ (dl,HO.lst (dsV ds))::(Nw++L4):=fun v hv=>mem_cons_of_mem _ (mem_append_right _ hv)
     have inN:∀ v ∈ Nw,v ∈ (dl,HO.lst (dsV ds))::(Nw++L4):=fun v hv=>mem_cons_of_mem _ (mem_append_left _ hv)
     have rl1:∀ z ∈ ds,z.2.length<=500:=fun z hz=>by
      obtain⟨j,hj⟩:=List.mem_iff_getElem?.mp hz
      have e:(ss.map fun z=>z.2.length)[j]?=some z.2.length:=by rw[<- eds,getElem?_map,hj]; rfl
      have:z.2.length<=rln ss:=lP (mem_of_getElem? e)
      omega
     refine⟨lp,ldx,yp,dl,mrl,crl,ds,rgI ms.length,cr,_,U,(h2.alloc hl2 _).alloc (by rw[av (Ne.symm hl3)]; exact hl1) _,up' _ mem_cons_self,fun z hz=>up' _ (inN _ (mdl z hz)),fun z hz x hx=>up' _ (inN _ (mde z hz x hx)),up' _ (in4 _ mmr4),up' _ (in4 _ mcl4),fun z hz=>up' _ (in4 _ (mcr4 z hz)),by rw[dm.len]; omega,rl1,fun H3 A3 N3 eA3 e3y e3d e3m e3c mA3 h3=>⟨U,?_⟩⟩
     dsimp only[d7,List.set]
     subst eA3
     obtain⟨L5,eL5⟩:∃ L5:Kn,N3++((dl,HO.lst (dsV ds))::(Nw++L4))=L5:=⟨_,U⟩
     have to5:∀ v ∈ (dl,HO.lst (dsV ds))::(Nw++L4),v ∈ L5:=fun v hv=>by rw[<- eL5]; exact mem_append_right _ hv
     have mA5:(A3.p,HO.ins t.c_Laid A3.dx (lfl A3)) ∈ L5:=by rw[<- eL5]; exact mem_append_left _ mA3
     have Y5:YIn t.c_Yard H3 A3.y y1 L5:=⟨A2,by rw[eA2,e3y],Has.ac h3 (by rw[<- eL5]; simp only[Ms.app,Ms.cons]; ac_rfl)⟩
     have lin:LIn t.c_Laid A3 ds (rgI ms.length) cr L5:=⟨mA5,by rw[e3d]; exact to5 _ mem_cons_self,fun z hz=>to5 _ (inN _ (mdl z hz)),fun z hz x hx=>to5 _ (inN _ (mde z hz x hx)),by rw[e3m]; exact to5 _ (in4 _ mmr4),by rw[e3c]; exact to5 _ (in4 _ mcl4),fun z hz=>to5 _ (in4 _ (mcr4 z hz))⟩
     have pin5:PIn t.c_Program B ms ws ss L5:=pin.mono fun v hv=>to5 _ (in4 _ (toL4 v hv))
     have rok:ROk (rgI ms.length) cr y1.sides.length:=by
      rw[es1,lsd]
      exact⟨fun r hr=>by have:=lF hr; omega,hcr,fun z hz=>⟨c1 z hz,c8 z hz⟩⟩
     have good':Good (rgI ms.length).length cr.length ss:=by rw[iz,lcr]; exact good
     have brc:=nQ c8 ss
     clear h2 h3 hl1 hl2 hl3 up'
     refine⟨_,U,_,U,?_⟩
     refine tn0 ?_
     refine⟨A3.y,y1,L5,A3,B,ds,rgI ms.length,cr,ms,ws,ss,rln ss,0,sd.length,U,U,Y5,lin,pin5,good',dm,D1,al1,rok,by omega,by omega,by omega,by omega,fun H6 y6 N6 N6' M6' D6 bN6 up6 Y6=>?_⟩
     have h0:0<ss.length:=hls
     have hz0:=getElem?_eq_getElem h0
     obtain⟨u,hu,lu⟩:=dm.get hz0
     have hr0:0<ss[0].2.length:=by
      obtain⟨_,a',y',h',_⟩:=good 0 _ hz0
      cases e:ss[0].2 with
      | nil=>rw[e] at h'; cases h'
      | cons=>exact Nat.succ_pos _
     have he:=getElem?_eq_getElem (l:=u.2) (i:=0) (by omega)
     obtain⟨e,ee⟩:∃ e,u.2[0]'(by omega)=e:=⟨_,U⟩
     rw[ee] at he
     have hum:=mem_of_getElem? hu
     have hem:=mem_of_getElem? he
     have the:There y6 e.2.1 e.2.2:=(al1.2 e.2 (mem_append_left _ (List.mem_flatMap.mpr ⟨u,hum,mem_map_of_mem (f:=fun x:Pr=>x.2) hem⟩))).1.up up6
     have gA:=Y6.at_ (mem_append_right _ mA5)
     obtain⟨Ay,gy⟩:=Y6.obj
     rw[e3y] at gy
     refine⟨_,U,yp,Ay.dx,_,U,gy,(ni _ _ _).1,_,U,A3.p,A3.dx,_,U,gA,(fm _).1,?_⟩
     refine tc2 ?_
     refine⟨A3,ds,rgI ms.length,cr,L5,0,0,u,e,U,fun v hv=>Y6.at_ (mem_append_right _ hv),lin,hu,he,?_⟩
     refine tn0 ?_
     obtain⟨A7,eA7,h7⟩:=Y6
     have me7:pK2 e ∈ N6++L5:=mem_append_right _ (lin.de u hum e hem)
     obtain⟨je,hje⟩:=List.getElem?_of_mem me7
     refine⟨A7,y6,N6++L5,e.1,e.2.1,e.2.2,je,by rw[eA7,e3y]; rfl,h7,hje,the,fun H8 tr h8=>?_⟩
     refine⟨_,U,?_⟩
     have pos:0<N6':=by
      obtain⟨kk,hkk,_⟩:=the
      have h1:=D6.kl
      rcases Nat.eq_zero_or_pos N6' with c | c
      ·rw[c] at h1
       rw[List.length_eq_zero_iff.mp h1] at hkk
       cases hkk
      ·exact c
     refine q H8 A3 { y6 with eng:=.ref e.1,trail:=[] } (N6++(N3++((dl,HO.lst (dsV ds))::(Nw++X4)))) cr N6' M6' sd.length (D6.put _) pos ecr bN6 ?_ ?_
     ·exact mem_append_right _ (mem_append_left _ mA3)
     ·refine⟨{ A7 with tr:=tr },eA7,dh h8 ?_⟩
      rw[<- eL5,eX4]
      simp only[List.cons_append,append_assoc]
end
noncomputable def sp_law (K:PySem.W.Frag):Sp:=fun vs H Q _=>∃ (a:Addr) (ns:List Int),vs=[.ref a]/\SqL K H a (ns.map V.int)/\ns.length<=63/\∀ H',Q (.bl true) H'
theorem law_binds {K:PySem.W.Frag}{mg:Str->Option Value}{t:Adr} (T:Txt K mg t) (s:Shared) (u:Value):BindsTo s t.d_law ⟨[u],[]⟩ [("_law_script",u)]:=by
 obtain⟨oc,od,kV,doc,pm,an,cdv,ct,osl,e,lk,hcd⟩:=T.F_law.ex
 rw[e,T.e_law]
 exact .of_eq rfl
theorem law_start {K:PySem.W.Frag}{H:Hp}{a:Addr}{ns:List Int} (hl:ns.length<=63) (hS:SqL K H a (ns.map V.int)) {E:XK}:sp_law K [.ref a] H (fun v _=>v=.bl true) E:=⟨a,ns,U,hS,hl,fun _=>rfl⟩
theorem oF (K:PySem.W.Frag):W.kitOne K (.type "list") (.type "list")=some true:=by kernel_rfl
noncomputable def bm (ws:List Int):Rw->Int
 | .bump c _=>2*ws.getD c.toNat 0
 | _=>0
noncomputable def mr (ws:List Int) (rs:List (Addr×Rw)):Int:=(rs.map fun x=>bm ws x.2).sum
noncomputable def mst (ws:List Int) (ss:Ss):Int:=(ss.map fun z=>10+10*(z.2.length:Int)+mr ws z.2).sum
theorem lO {ws:List Int}{rs:List (Addr×Rw)}{r:Nat}{x:Addr×Rw} (h:rs[r]?=some x):mr ws (rs.take (r+1))=mr ws (rs.take r)+bm ws x.2:=by
 unfold mr
 rw[bE h,map_append,List.sum_append]
 simp
theorem kr {ws:List Int}{ss:Ss}{k:Nat}{z:Addr×List (Addr×Rw)} (h:ss[k]?=some z):mst ws (ss.take (k+1))=mst ws (ss.take k)+(10+10*(z.2.length:Int)+mr ws z.2):=by
 unfold mst
 rw[bE h,map_append,List.sum_append]
 simp
theorem rc_bm {cr:List (Addr×List Int)}{ws:List Int} (e:cr.map (fun z=>(z.2.length:Int))=ws) (x:Rw):(x.rc cr:Int)<=3+bm ws x:=by
 cases x with
 | bump c r=>
  show((2*((cr[c.toNat]?).map (fun z=>z.2.length)).getD 0+1+2:Nat):Int)<=3+2*ws.getD c.toNat 0
  have:ws.getD c.toNat 0=(((cr[c.toNat]?).map (fun z=>z.2.length)).getD 0:Nat):=by
   rw[<- e,List.getD_eq_getElem?_getD,getElem?_map]
   cases cr[c.toNat]? <;> rfl
  rw[this]
  omega
 | bell _=>show((1+1:Nat):Int)<=3+0; decide
 | set _ _=>show((1+1:Nat):Int)<=3+0; decide
 | ask _ _ _=>show((1+2:Nat):Int)<=3+0; decide
 | go _=>show((0+1:Nat):Int)<=3+0; decide
 | call _=>show((3:Nat):Int)<=3+0; decide
 | fin=>show((1:Nat):Int)<=3+0; decide
theorem lX {cr:List (Addr×List Int)}{ws:List Int} (e:cr.map (fun z=>(z.2.length:Int))=ws) (ss:Ss):((rln ss+rct cr ss+2*ss.length:Nat):Int)<=mst ws ss:=by
 have h1:∀ rs:List (Addr×Rw),(rcs cr rs:Int)<=3*(rs.length:Int)+mr ws rs:=fun rs=>by
  induction rs with
  | nil=>exact Int.le_refl _
  | cons x r ih=>
   have:=rc_bm e x.2
   have e1:rcs cr (x::r)=x.2.rc cr+rcs cr r:=by unfold rcs; rw[map_cons,List.sum_cons]
   have e2:mr ws (x::r)=bm ws x.2+mr ws r:=by unfold mr; rw[map_cons,List.sum_cons]
   rw[e1,e2,length_cons]
   omega
 induction ss with
 | nil=>exact Int.le_refl _
 | cons z r ih=>
  have:=h1 z.2
  have e1:rct cr (z::r)=rcs cr z.2+rct cr r:=by unfold rct; rw[map_cons,List.sum_cons]
  have e2:rln (z::r)=z.2.length+rln r:=by unfold rln; rw[map_cons,List.sum_cons]
  have e3:mst ws (z::r)=10+10*(z.2.length:Int)+mr ws z.2+mst ws r:=by unfold mst; rw[map_cons,List.sum_cons]
  rw[e1,e2,e3,length_cons]
  omega
theorem lE {ss:Ss} (h:oY ss):rln ss<=120:=by
 obtain⟨M,h1,h2⟩:=h
 have:∀ l:Ss,(∀ z ∈ l,z.2.length<=M)->rln l<=l.length*M:=fun l=>by
  induction l with
  | nil=>intro _; exact Nat.zero_le _
  | cons z r ih=>
   intro h
   have a:=ih fun x hx=>h x (mem_cons_of_mem _ hx)
   have b:=h z mem_cons_self
   have e2:rln (z::r)=z.2.length+rln r:=by unfold rln; rw[map_cons,List.sum_cons]
   rw[e2,length_cons,Nat.succ_mul]
   omega
 exact Nat.le_trans (this ss h2) h1
theorem jS {ss ss':Ss} (e:ss'.map (·.2)=ss.map (·.2)):rln ss'=rln ss:=by
 have h:∀ l:Ss,rln l=((l.map (·.2)).map List.length).sum:=fun l=>by unfold rln; rw[map_map]; rfl
 rw[h,h,e]
theorem nO {cr:List (Addr×List Int)}{ss ss':Ss} (e:ss'.map (·.2)=ss.map (·.2)):rct cr ss'=rct cr ss:=by
 have h:∀ l:Ss,rct cr l=((l.map (·.2)).map (rcs cr)).sum:=fun l=>by unfold rct; rw[map_map]; rfl
 rw[h,h,e]
section
variable {P:Program}{w:World}{K:PySem.W.Frag}{mg:Str->Option Value}{base:Heap}{t:Adr}
theorem scLa:FnScope ["_law_script","_law_d","_law_marks","_law_widths","_law_parts_here","_law_laid","_law_most","_law_rows","_law_deed","_law_pieces"] ["_law_script"] (ai mH):={}
theorem ok_law (T:Txt K mg t):FnOk P w K mg base CX0 15 t.f_law t.d_law ["_law_script"] (sp_law K):=by
 refine T.F_law.ok scLa (fun vs H Q E h=>?_) (fun cdv A outer s H vs Q E hr h=>?_)
 ·obtain⟨_,_,rfl,_⟩:=h
  rfl
 ·obtain⟨a,ns,rfl,hS,hns,q⟩:=h
  refine⟨_,(ae (ar (i:=1) scLa.nd rfl (Or.inl rfl) (pcl (kg T) hr T.m_draws T.F_draws.kp (l0 T) (aa (pv 0) (aa ag af))))
   (ae (cc (pcl (oA T) hr T.m_J31 T.F_J31.kp (b_J31 T) (aa (pv 1) af)) (bt rfl (ax (am (i:=2) scLa.nd rfl (Or.inl rfl)) (ax (am (i:=3) scLa.nd rfl (Or.inl rfl)) (ax (am (i:=4) scLa.nd rfl (Or.inl rfl)) bi)))))
   (ae (ar (i:=5) scLa.nd rfl (Or.inl rfl) (pcl (oz T) hr T.m_J41 T.F_J41.kp (b_J41 T) (aa (fR T.mk_Program (ok_Jf T) (hr.mono (by decide)) (by rfl) T.m_Program (b_Jf T) .nil aB (aa (pv 2) (aa (pv 3) (aa (pcl (or T) hr T.m_J91 T.F_J91.kp (b_J91 T) (aa (pv 4) af)) af)))) af)))
   (ae (ar (i:=6) scLa.nd rfl (Or.inl rfl) ag)
   (ae (aX PassesOwn.never rfl (bq (pv 4)) (am (i:=7) scLa.nd rfl (Or.inl rfl))
    (ae (ar (i:=6) scLa.nd rfl (Or.inl rfl) (ao aJ (ao aJ (pv 6) ag) (ao b4 ag (aK az (by rfl) T.z_len (by rfl) (aa (pv 7) af)))))
     (ah (aX PassesOwn.never rfl (bq (pv 7)) (am (i:=8) scLa.nd rfl (Or.inl rfl))
      (ah (aG (aj bp (aC bf (pv 8) ag) aF (ap _))
        (ah (ar (i:=6) scLa.nd rfl (Or.inl rfl) (ao aJ (pv 6) (ao b4 ag (aC ay (pv 3) (aC bf (pv 8) ag (fun _ _=>rfl)))))))
        au))))))
   (ae (ar (i:=9) scLa.nd rfl (Or.inl rfl) (aS (aD (pv 5) rfl) T.cl_Yard T.M_Jl (ok_Jl T) hr (b_Jl T) .nil aB))
   (ah (aH (n6 (aK kR (by rfl) T.z_isinstance (by rfl) (aa (pv 9) (aa (lK (v:=.ty "list") (by rfl) T.z_list (by rfl) rfl) af))) (nY (ka bF mV ag (aK az (by rfl) T.z_len (by rfl) (aa (pv 9) af)) (pv 6)))))))))))),?_⟩
  rw[show L2.start ["_law_script","_law_d","_law_marks","_law_widths","_law_parts_here","_law_laid","_law_most","_law_rows","_law_deed","_law_pieces"] [V.ref a]=([some (V.ref a),none,none,none,none,none,none,none,none,none]:St) from rfl]
  refine⟨_,U,a,ns,340,[],U,hS,hns,by decide,by decide,Has.nil,fun H1 d ds h1 hds hdr=>?_⟩
  dsimp only[List.set]
  have hds:ds.length=340:=hds
  refine⟨_,U,d,ds,_,U,h1,mem_cons_self,by omega,fun H3 tp m wl pl ms ws ss N i1 i2 i3 i4 i5 i6 hgood hlim i7 i8 h3=>?_⟩
  refine⟨tp,_,U,SqT.of (h3.get 0 U),U,_,_,U,_,_,U,_,_,U,U,?_⟩
  dsimp only[List.set]
  have h3':=h3.tail
  obtain⟨L2,eL2⟩:∃ L2:Kn,(pl,HO.lst (ssV ss))::(N++[(wl,HO.lst (ws.map V.int)),(m,HO.lst (ms.map V.int)),(d,HO.lst (ds.map V.int))])=L2:=⟨_,U⟩
  have hL2:=dh h3' eL2
  have mpl:(pl,HO.lst (ssV ss)) ∈ L2:=by rw[<- eL2]; exact mem_cons_self
  have mN:∀ z ∈ N,z ∈ L2:=fun z hz=>by rw[<- eL2]; exact mem_cons_of_mem _ (mem_append_left _ hz)
  have mwl:(wl,HO.lst (ws.map V.int)) ∈ L2:=by rw[<- eL2]; simp
  have mm:(m,HO.lst (ms.map V.int)) ∈ L2:=by rw[<- eL2]; simp
  clear eL2 h3' h3
  refine⟨_,U,_,U,_,U,pl,ss,L2,U,hL2,mpl,fun z hz=>mN _ (i7 z hz),by omega,fun H4 D s1 N1 es1 mN1 h4=>?_⟩
  have h4:=h4
  intro p dx hp hdx hne
  have h7:=(h4.alloc hdx (.own p)).alloc (by rw[av (Ne.symm hne)]; exact hp) (.ins t.c_Program dx [])
  have s1row:∀ z ∈ s1,∀ x ∈ z.2,(x.1,HO.tup x.2.v) ∈ L2:=by
   intro z hz x hx
   have:z.2 ∈ ss.map (·.2):=by rw[<- es1]; exact mem_map_of_mem hz
   obtain⟨z',e1,e2⟩:=mem_map.mp this
   exact mN _ (i8 z' e1 x (by rw[e2]; exact hx))
  have lsl:s1.length=ss.length:=by simpa using congrArg List.length es1
  have ne1:s1≠[]:=by intro e; rw[e] at lsl; exact i5 (List.length_eq_zero_iff.mp lsl.symm)
  refine⟨p,dx,m,wl,D,ms,ws,s1,_,U,h7,by simp[mm],by simp[mwl],by simp,fun z hz=>by simp[mN1 z hz],fun z hz x hx=>by simp[s1row z hz x hx],i1,i2,ne1,by omega,hgood.tr es1,fun H8 A ss' N2 eA es' pinN pin h8=>⟨U,?_⟩⟩
  subst eA
  clear h7 hp hdx hne pinN h4
  obtain⟨L3,eL3⟩:∃ L3:Kn,N2++((D,HO.lst (ssV s1))::(N1++L2))=L3:=⟨_,U⟩
  rw[eL3] at pin h8
  have m3:∀ z ∈ L2,z ∈ L3:=fun z hz=>by rw[<- eL3]; simp[hz]
  clear eL3
  have ess:ss'.map (·.2)=ss.map (·.2):=es'.trans es1
  have lss':ss'.length=ss.length:=by simpa using congrArg List.length ess
  have ne':ss'≠[]:=by intro e; rw[e] at lss'; exact i5 (List.length_eq_zero_iff.mp lss'.symm)
  have rl:=lE hlim
  refine tn0 ?_
  refine⟨L3,A,ms,ws,ss',U,h8,pin,hgood.tr ess,i1,i2,i3,i4,ne',by omega,by rw[jS ess]; omega,fun H9 B y9 N9 cr Nn Mm Rr D9 pos ecr bN mB Y9=>?_⟩
  rw[jS ess,nO ess,lss'] at bN
  have cl:=lX ecr ss
  dsimp only[List.set]
  have in9:∀ z ∈ L2,z ∈ N9++L3:=fun z hz=>mem_append_right _ (m3 z hz)
  refine⟨_,U,pl,U,⟨_,SqL.of (Y9.at_ (in9 _ mpl))⟩,bO (xs:=ssV ss) (fun k σ H'=>H'=H9/\∃ (o1 o2 o3:Option V),σ=[some (.ref a),some (.ref d),some (.ref m),some (.ref wl),some (.ref pl),some (.ref B.p),some (.int (mst ws (ss.take k))),o1,o2,o3]) ⟨U,_,_,_,U⟩ (fun k σ H' _ ⟨e,_⟩=>by rw[e]; exact SqL.of (Y9.at_ (in9 _ mpl))) ?_ ?_⟩
  ·rintro k x σ H' hx ⟨e,o1,o2,o3,rfl⟩
   subst e
   unfold ssV at hx
   rw[getElem?_map] at hx
   obtain⟨z,hz,rfl⟩:=Option.map_eq_some_iff.mp hx
   have hzm:=mem_of_getElem? hz
   have gz:=Y9.at_ (in9 _ (mN _ (i7 z hzm)))
   have lrw:(rwV z.2).length=z.2.length:=by unfold rwV; rw[length_map]
   dsimp only[List.set]
   refine⟨_,U,_,_,U,U,_,U,z.1,_,U,.inl (SqL.of gz),_,_,U,U,.inl ⟨by decide,by decide⟩,_,_,U,U,?_⟩
   dsimp only[List.set]
   rw[lrw]
   refine⟨_,U,z.1,U,⟨_,SqL.of gz⟩,bO (xs:=rwV z.2) (fun r σ H''=>H''=H'/\∃ (o2 o3:Option V),σ=[some (.ref a),some (.ref d),some (.ref m),some (.ref wl),some (.ref pl),some (.ref B.p),some (.int (mst ws (ss.take k)+10+10*(z.2.length:Int)+mr ws (z.2.take r))),some (.ref z.1),o2,o3]) ⟨U,o2,o3,?_⟩ (fun r σ H'' _ ⟨e,_⟩=>by rw[e]; exact SqL.of gz) ?_ ?_⟩
   ·rw[show mr ws (z.2.take 0)=0 from rfl,Int.add_zero]
    rfl
   ·rintro r x σ H'' hx ⟨e,o2,o3,rfl⟩
    subst e
    unfold rwV at hx
    rw[getElem?_map] at hx
    obtain⟨x,hx',rfl⟩:=Option.map_eq_some_iff.mp hx
    clear hx
    have hx:=hx'
    have hxm:=mem_of_getElem? hx
    have gx:=Y9.at_ (in9 _ (mN _ (i8 z hzm x hxm)))
    have xok:=(hgood k z hz).1 x hxm
    dsimp only[List.set]
    rw[lO hx]
    refine⟨_,U,x.1,_,_,_,U,U,SqT.of gx,aw (j:=0) rfl,U,_,U,?_⟩
    obtain⟨xa,xr⟩:=x
    by_cases hb:∃ c r,xr=.bump c r
    ·obtain⟨c,rr,rfl⟩:=hb
     refine ifT (decide_eq_true rfl) ?_
     obtain⟨c0,c1,_⟩:=xok
     obtain⟨cn,rfl⟩:=Int.eq_ofNat_of_zero_le c0
     have hcn:cn<ws.length:=by omega
     have hw0:(ws.map V.int)[cn]?=some (.int ws[cn]):=by rw[getElem?_map,getElem?_eq_getElem hcn]; rfl
     refine⟨_,U,_,U,_,U,xa,_,_,_,U,U,SqT.of gx,aw (j:=1) rfl,wl,_,_,_,U,U,SqL.of (Y9.at_ (in9 _ mwl)),aw hw0,_,_,U,U,.inl ⟨by decide,by decide⟩,_,_,U,U,?_⟩
     refine⟨U,some (.ref xa),o3,?_⟩
     dsimp only[List.set]
     rw[show bm ws (Rw.bump (cn:Int) rr)=2*ws[cn] by show 2*ws.getD ((cn:Int)).toNat 0=_; rw[Int.toNat_natCast,List.getD_eq_getElem?_getD,getElem?_eq_getElem hcn]; rfl,<- Int.add_assoc]
    ·have nb:¬ (V.str xr.ws=V.str ("bump" : Str))/\bm ws xr=0:=by
      cases xr with
      | bump c r=>exact absurd ⟨c,r,U⟩ hb
      | bell _=>exact⟨(show ¬ (V.str ("bell" : Str)=V.str ("bump" : Str)) by decide +kernel),U⟩
      | set _ _=>exact⟨(show ¬ (V.str ("set" : Str)=V.str ("bump" : Str)) by decide +kernel),U⟩
      | ask _ _ _=>exact⟨(show ¬ (V.str ("ask" : Str)=V.str ("bump" : Str)) by decide +kernel),U⟩
      | go _=>exact⟨(show ¬ (V.str ("go" : Str)=V.str ("bump" : Str)) by decide +kernel),U⟩
      | call _=>exact⟨(show ¬ (V.str ("call" : Str)=V.str ("bump" : Str)) by decide +kernel),U⟩
      | fin=>exact⟨(show ¬ (V.str ("end" : Str)=V.str ("bump" : Str)) by decide +kernel),U⟩
     refine ifF (decide_eq_false nb.1) ⟨U,some (.ref xa),o3,?_⟩
     rw[nb.2,Int.add_zero]
     rfl
   ·rintro σ H'' ⟨e,o2,o3,rfl⟩
    subst e
    refine⟨U,some (.ref z.1),o2,o3,?_⟩
    rw[lrw,List.take_length,kr hz,<- Int.add_assoc,<- Int.add_assoc]
  ·rintro σ H' ⟨rfl,o1,o2,o3,rfl⟩
   have lsv:(ssV ss).length=ss.length:=by unfold ssV; rw[length_map]
   rw[lsv,List.take_length]
   have gB:=Y9.at_ (mem_append_left _ mB)
   obtain⟨Ay,gy⟩:=Y9.obj
   refine⟨_,U,B.p,_,B.dx,_,_,U,gB,T.cl_Laid,T.n_Laid_yard,iE _,B.y,Ay.dx,_,U,gy,(ni _ _ _).2.2.2.1,?_⟩
   refine tn0 ?_
   obtain⟨A9,eA9,h9⟩:=Y9
   refine⟨A9,y9,N9++L3,by rw[eA9]; rfl,h9,fun H10 l h10=>?_⟩
   dsimp only[List.set]
   have gl:=h10.get 0 rfl
   have ll:(y9.kinds.map fun kv=>kV kv.1).length=Nn:=by rw[length_map]; exact D9.kl
   refine⟨_,U,_,_,_,_,U,.lst gl,oF K,_,U,?_⟩
   refine fT ?_
   refine⟨_,U,l,_,U,.inl (SqL.of gl),_,_,U,U,_,U,?_⟩
   rw[ll]
   rw[decide_eq_true (show(0:Int)<(Nn:Int) by omega)]
   refine fT ?_
   refine⟨_,U,_,_,U,U,?_⟩
   dsimp only
   rw[decide_eq_true (show(Nn:Int)<=mst ws ss by omega)]
   exact q _
end
noncomputable abbrev ad {A0 A3 A5 A7 A9 Ab Ad Af Ah Aj Al An Ap Ar At Av Ax Az A11 A13 A15 A17 A19 A1b A1d A1f A1h A1j A1l A1n A1p A1r A1t A1v A1x A1z A21 A23 A25 A27 A29 A2b A2e A2g A2i A2k A2n A2p A2r A2t A2v A2x A2z A30 A31 A32:Addr}{D1 D4 D6 D8 Da Dc De Dg Di Dk Dm Do Dq Ds Du Dw Dy D10 D12 D14 D16 D18 D1a D1c D1e D1g D1i D1k D1m D1o D1q D1s D1u D1w D1y D20 D22 D24 D26 D28 D2a D2c D2f D2h D2j D2l D2o D2q D2s D2u D2w D2y:FuncData}{V2 V2d V2m V33 V34 V35 V36 V37 V38:Value}:Adr:=⟨A0,D1,V2,A3,D4,A5,D6,A7,D8,A9,Da,Ab,Dc,Ad,De,Af,Dg,Ah,Di,Aj,Dk,Al,Dm,An,Do,Ap,Dq,Ar,Ds,At,Du,Av,Dw,Ax,Dy,Az,D10,A11,D12,A13,D14,A15,D16,A17,D18,A19,D1a,A1b,D1c,A1d,D1e,A1f,D1g,A1h,D1i,A1j,D1k,A1l,D1m,A1n,D1o,A1p,D1q,A1r,D1s,A1t,D1u,A1v,D1w,A1x,D1y,A1z,D20,A21,D22,A23,D24,A25,D26,A27,D28,A29,D2a,A2b,D2c,V2d,A2e,D2f,A2g,D2h,A2i,D2j,A2k,D2l,V2m,A2n,D2o,A2p,D2q,A2r,D2s,A2t,D2u,A2v,D2w,A2x,D2y,A2z,A30,A31,A32,V33,V34,V35,V36,V37,V38⟩
theorem dm_Jh {K:PySem.W.Frag}{v:Value}{T:Addr}{od:Option Addr}{n:Nat}{sl:Array (Option Value)}{tk0:Tok} (e:v=.ref T) (l:K.lookup T=some ⟨.type "tuple",od,.seq #[.int 1 tk0] n,sl⟩):∃ (T:Addr) (od:Option Addr) (n:Nat) (sl:Array (Option Value)) (tk0:Tok),v=.ref T/\K.lookup T=some ⟨.type "tuple",od,.seq #[.int 1 tk0] n,sl⟩:=⟨T,od,n,sl,tk0,e,l⟩
theorem dm_J21 {K:PySem.W.Frag}{v:Value}{T:Addr}{od:Option Addr}{n:Nat}{sl:Array (Option Value)}{tk0:Tok} (e:v=.ref T) (l:K.lookup T=some ⟨.type "tuple",od,.seq #[.int 0 tk0,.none] n,sl⟩):∃ (T:Addr) (od:Option Addr) (n:Nat) (sl:Array (Option Value)) (tk0:Tok),v=.ref T/\K.lookup T=some ⟨.type "tuple",od,.seq #[.int 0 tk0,.none] n,sl⟩:=⟨T,od,n,sl,tk0,e,l⟩
theorem tpm {K:PySem.W.Frag}{u:Value}{a:Addr}{od:Option Addr}{its:Array Value}{n:Nat}{sl:Array (Option Value)}{vs:List V} (y:u=.ref a) (l:K.lookup a=some ⟨.type "tuple",od,.seq its n,sl⟩) (s:its.size<=sizeLine) (v:Vals vs its.toList):∃ (a:Addr) (o:Obj) (its:Array Value) (n:Nat),u=.ref a/\K.lookup a=some o/\o.cls=.type "tuple" /\ o.data=.seq its n/\its.size<=sizeLine/\Vals vs its.toList:=⟨a,_,its,n,y,l,U,U,s,v⟩
end P
namespace PySem.W.Fast
noncomputable def tw11927236785187677811:=()
noncomputable def tw11874989791249655764:=()
noncomputable def tw13099415088351104468:=()
noncomputable def tw16106147033597196688:=()
noncomputable def tw2240460565012914257:=()
noncomputable def tw5659834276740287524:=()
noncomputable def tw3291248396399920835:=()
noncomputable def tw6893274330263863664:=()
noncomputable def tw3425058648015058122:=()
noncomputable def tw4835216632801806709:=()
noncomputable def tw17236005610769851167:=()
noncomputable def tw11981980523293617841:=()
noncomputable def tw3276708812823327087:=()
noncomputable def tw15402267319707727878:=()
noncomputable def tw5292368963002248837:=()
noncomputable def tw15670141561983404469:=()
noncomputable def tw4415233044903574092:=()
noncomputable def tw17696518233332105949:=()
noncomputable def tw9776664860679010003:=()
noncomputable def tw7574809577612892315:=()
noncomputable def tw18404445333477127262:=()
noncomputable def tw16550619652687016859:=()
noncomputable def tw14355975345279866633:=()
noncomputable def tw5166151241913784367:=()
noncomputable def tw2473881682165411024:=()
noncomputable def tw13390594216777619875:=()
noncomputable def tw4064437482139146068:=()
noncomputable def tw4448383575771947068:=()
noncomputable def tw8065228433710077595:=()
noncomputable def tw10958808475346413787:=()
noncomputable def tw15551093841855541654:=()
noncomputable def tw1657567002899916841:=()
noncomputable def tw10774033310122799695:=()
noncomputable def tw3298809904909863723:=()
noncomputable def tw17294773764291931152:=()
noncomputable def tw1464881237739664733:=()
noncomputable def tw6383261172889279025:=()
noncomputable def tw10583456174256692197:=()
noncomputable def tw5663159743366075142:=()
noncomputable def tw13715018845023645625:=()
noncomputable def tw11598664153832278328:=()
noncomputable def tw14149317155163880639:=()
noncomputable def tw9894337436561824444:=()
noncomputable def tw6693601296374766592:=()
noncomputable def tw12398102647283551175:=()
noncomputable def tw2442651236489662967:=()
noncomputable def tw6530736616299119322:=()
noncomputable def tw16755711433016976796:=()
noncomputable def tw4001108992885656205:=()
noncomputable def tw10398992713560411300:=()
noncomputable def tw10048838586758821446:=()
noncomputable def tw12591920690931973517:=()
noncomputable def tw4005842583863716651:=()
noncomputable def tw15401028812825254331:=()
noncomputable def tw14050540463741421585:=()
noncomputable def tw4398250612686665761:=()
noncomputable def tw7287989862086675647:=()
noncomputable def tw7234021947885699310:=()
noncomputable def tw15499359792387766112:=()
noncomputable def tw867142603759340897:=()
noncomputable def tw11910058119163377509:=()
noncomputable def tw583407750260124497:=()
noncomputable def tw836551803002654660:=()
noncomputable def tw7746974820922818626:=()
noncomputable def tw5651369893149564162:=()
noncomputable def tw4535125752214128277:=()
noncomputable def tw14499998364237869094:=()
noncomputable def tw17979148277749085129:=()
noncomputable def tw18430657815684775238:=()
noncomputable def tw5003879581063501851:=()
noncomputable def tw14935681496190201710:=()
noncomputable def tw2897366673182903550:=()
noncomputable def tw13583041442005331305:=()
noncomputable def tw4578190927427516096:=()
noncomputable def tw6824166944323373346:=()
noncomputable def tw17161843286717328757:=()
noncomputable def tw16061559144534208554:=()
noncomputable def tw12121316866945408374:=()
noncomputable def tw16431668436712089115:=()
noncomputable def tw7233591152129262354:=()
noncomputable def tw6567094991218697437:=()
noncomputable def tw5396965607015019439:=()
noncomputable def tw4973927762976579793:=()
noncomputable def tw4117581545222169692:=()
noncomputable def tw5433062179687272991:=()
noncomputable def tw4090449372545204494:=()
noncomputable def tw14116655283013597744:=()
noncomputable def tw218027048809581203:=()
noncomputable def tw10640175093423922570:=()
noncomputable def tw4342885926243026260:=()
noncomputable def tw13002909170155905974:=()
noncomputable def tw12411753435132476027:=()
noncomputable def tw11560605996891518702:=()
noncomputable def tw9057252387367907830:=()
noncomputable def tw17429075891424707686:=()
noncomputable def tw958009728311236377:=()
noncomputable def tw9378370007261228025:=()
noncomputable def tw3804566559323981395:=()
noncomputable def tw11353270427072363015:=()
noncomputable def tw560591488510019591:=()
noncomputable def tw6823394022928215246:=()
noncomputable def tw7137265449217529901:=()
noncomputable def tw16790394852126836215:=()
noncomputable def tw11131013877181863796:=()
noncomputable def tw6599183102828168169:=()
noncomputable def tw14550113954088214732:=()
noncomputable def tw16013623490837657913:=()
noncomputable def tw1437726114818328064:=()
noncomputable def tw3766784767442410712:=()
noncomputable def tw3413477039441254743:=()
noncomputable def tw9529347391746792626:=()
noncomputable def tw11458458033582004280:=()
noncomputable def tw13197386576616469805:=()
noncomputable def tw9121796489475088234:=()
noncomputable def tw5084415852389409028:=()
noncomputable def tw6490706327867565703:=()
noncomputable def tw15555042081463328126:=()
noncomputable def tw11640078392588661976:=()
noncomputable def tw14073609874365165318:=()
noncomputable def tw17273633041243226036:=()
noncomputable def tw12151847844912693366:=()
noncomputable def tw2475357349122508500:=()
noncomputable def tw7632957711844722554:=()
noncomputable def tw12884775151425352852:=()
noncomputable def tw13918130851940997794:=()
noncomputable def tw5107704456932117485:=()
noncomputable def tw7336963963459918005:=()
noncomputable def tw12917696543325209956:=()
noncomputable def tw15225104119614894079:=()
noncomputable def tw10644511044646481802:=()
noncomputable def tw9016324361345014917:=()
noncomputable def tw14329479431427209433:=()
noncomputable def tw6910307170476711716:=()
noncomputable def tw12124723258038717834:=()
noncomputable def tw1201854232243300590:=()
noncomputable def tw9684071163375069082:=()
noncomputable def tw15919547058320310550:=()
noncomputable def tw4974349883026054639:=()
noncomputable def tw2359615304811018789:=()
noncomputable def tw1289298708783834895:=()
noncomputable def tw16610354689033779023:=()
noncomputable def tw8166989164943155107:=()
noncomputable def tw10649084424919224474:=()
noncomputable def tw7677441638911498901:=()
noncomputable def tw14681385225585200578:=()
noncomputable def tw6538236368799576461:=()
noncomputable def tw12032226351391825248:=()
noncomputable def tw12584733429333473827:=()
noncomputable def tw18061851288397877652:=()
noncomputable def tw2289608180183077145:=()
noncomputable def tw15573886521021478932:=()
noncomputable def tw9205284131457411530:=()
noncomputable def tw7864919610127138127:=()
noncomputable def tw3880998696348934236:=()
noncomputable def tw2197427562837900842:=()
noncomputable def tw9720559114862487280:=()
noncomputable def tw6649021115598511018:=()
noncomputable def tw11881758550735264784:=()
noncomputable def tw8491653442673423050:=()
noncomputable def tw6169514664524108164:=()
noncomputable def tw5641581257385019901:=()
noncomputable def tw13956372008432530460:=()
noncomputable def tw8114644601619695090:=()
noncomputable def tw13458917809291538214:=()
noncomputable def tw4223135338744803119:=()
noncomputable def tw4302831205805180313:=()
noncomputable def tw11542471411623237994:=()
noncomputable def tw9017964229870359212:=()
noncomputable def tw1177745289193134882:=()
noncomputable def tw4420285659683457217:=()
noncomputable def tw10473711424698759625:=()
noncomputable def tw13379642775203823745:=()
noncomputable def tw5146407754648396056:=()
noncomputable def tw14862824329574411334:=()
noncomputable def tw16044768521303189134:=()
noncomputable def tw11969263739562312422:=()
noncomputable def tw14333229393460190571:=()
noncomputable def tw9083618358687953841:=()
noncomputable def tw14862629164937892642:=()
noncomputable def tw13046992510550683039:=()
noncomputable def tw3844754082608942401:=()
noncomputable def tw12104847763021757588:=()
noncomputable def tw14734319654334002071:=()
noncomputable def tw517458537574073181:=()
noncomputable def tw10149585260072970075:=()
noncomputable def tw9645726501317883008:=()
noncomputable def tw2604569172716504666:=()
noncomputable def tw7665392297486118928:=()
noncomputable def tw9577701950579065983:=()
noncomputable def tw4115738996955951280:=()
noncomputable def tw5981448249580049812:=()
noncomputable def tw12653826947876460670:=()
noncomputable def tw10043324052182894197:=()
noncomputable def tw13671749073021749360:=()
noncomputable def tw12174515657646887777:=()
noncomputable def tw10222956147084235749:=()
noncomputable def tw7482811026940077936:=()
noncomputable def tw2861095505001083561:=()
noncomputable def tw10797863914165635581:=()
noncomputable def tw8038931920429547973:=()
noncomputable def tw17405301180609117736:=()
noncomputable def tw9459274737993914535:=()
noncomputable def tw994594274943474073:=()
noncomputable def tw11123449529021887981:=()
noncomputable def tw6148402097689843939:=()
noncomputable def tw3045140697607303867:=()
noncomputable def tw15061911305144824289:=()
noncomputable def tw7673104894657814815:=()
noncomputable def tw15497302467046531874:=()
noncomputable def tw1055853305688831171:=()
noncomputable def tw2479305190410509546:=()
noncomputable def tw16071716800284007331:=()
noncomputable def tw9735238331696483093:=()
noncomputable def tw1678506227841168531:=()
noncomputable def tw7832046798858531362:=()
noncomputable def tw16853395365057727304:=()
noncomputable def tw3920355669435968113:=()
noncomputable def tw12013853345386961472:=()
noncomputable def tw13231421184378821397:=()
end PySem.W.Fast
end
open PySem PySem.W PyProof.Rows
set_option maxRecDepth 100000 in
set_option maxHeartbeats 0 in
theorem PySem.Challenge.cw_lazyrails_k46_whole_size_of_the_rails_holds : PySem.Challenge.rw_lazyrails_k46_whole_size_of_the_rails.Holds := by
 w_on; o_law; k_head; (case hw => w_witness2)
 k_fill
 refine L2.walk_ofK (l:=PySem.Challenge.rw_lazyrails_k46_whole_size_of_the_rails) (n:=63) (k:=15) (x := "_law_script") (CX:=L2.CX0) (sp:=P.sp_law) rfl (by decide) rfl ⟨rfl,by decide,by decide,rfl⟩ (fun w h Y => PySem.W.kIn_of Y) ?F ?S ?C
 case F =>
  intro w mg fa h KX G hmg
  have T:∃ t,P.Txt (L2.KOf KX) mg t:=by
   dsimp only [L2.KOf]
   refine' ⟨P.ad,P.Txt.mk ?z0 ?z1 ?z2 ?z3 ?z4 ?z5 ?z6 ?z7 ?z8 ?z9 ?za ?zb ?zc ?zd ?ze ?zf ?zg ?zh ?zi ?zj ?zk ?zl ?zm ?zn ?zo ?zp ?zq ?zr ?zs ?zt ?zu ?zv ?zw ?zx ?zy ?zz ?z10 ?z11 ?z12 ?z13 ?z14 ?z15 ?z16 ?z17 ?z18 ?z19 ?z1a ?z1b ?z1c ?z1d ?z1e ?z1f ?z1g ?z1h ?z1i ?z1j ?z1k ?z1l ?z1m ?z1n ?z1o ?z1p ?z1q ?z1r ?z1s ?z1t ?z1u ?z1v ?z1w ?z1x ?z1y ?z1z ?z20 ?z21 ?z22 ?z23 ?z24 ?z25 ?z26 ?z27 ?z28 ?z29 ?z2a ?z2b ?z2c ?z2d ?z2e ?z2f ?z2g ?z2h ?z2i ?z2j ?z2k ?z2l ?z2m ?z2n ?z2o ?z2p ?z2q ?z2r ?z2s ?z2t ?z2u ?z2v ?z2w ?z2x ?z2y ?z2z ?z30 ?z31 ?z32 ?z33 ?z34 ?z35 ?z36 ?z37 ?z38 ?z39 ?z3a ?z3b ?z3c ?z3d ?z3e ?z3f ?z3g ?z3h ?z3i ?z3j ?z3k ?z3l ?z3m ?z3n ?z3o ?z3p ?z3q ?z3r ?z3s ?z3t ?z3u ?z3v ?z3w ?z3x ?z3y ?z3z ?z40 ?z41 ?z42 ?z43 ?z44 ?z45 ?z46 ?z47 ?z48 ?z49 ?z4a⟩
   (case z2w|z34|z3a|z3g => dsimp only [P.ad]; refine PySem.W.mg_of KX G ?_; k_is)
   (case z2x|z35|z3b|z3h => dsimp only [P.ad]; apply L2.Mk.mk; k_is; k_is; k_is; k_is)
   (case z1g|z1i|z1j|z1k|z1l|z1m|z1n|z1o|z1p|z1q|z1r|z1s|z1t|z1u|z1v|z1w|z1x|z1y|z1z|z20|z21|z22|z23|z24|z25|z26|z27 => dsimp only [P.ad]; refine PySem.W.mg_of KX G ?_; k_is)
   (case z28|z29|z2a|z2b|z2c|z2d|z2e|z2f|z2g|z2h|z2i|z2k|z2l|z2m|z2n|z2p|z2q|z2r|z2s|z2t|z2u => dsimp only [P.ad]; apply L2.Meth.mk; k_is; k_is; k_is)
   (case z0|z1|z2|z3|z4|z5|z6|z7|z8|z9|za|zb|zc|zd|ze|zf|zg|zh|zi|zj|zk|zl|zm|zn|zo|zp|zq|zr|zs|zt|zu|zv|zw|zx|zy|zz|z10|z11|z12|z13|z14|z15|z16|z17|z18|z19|z1a|z1b|z1c|z1d|z1e|z1f => dsimp only [P.ad]; apply L2.funG_mk; k_is; k_is; k_is)
   (case z2y|z2z|z30|z31|z32|z36|z37|z38|z3c|z3d|z3e|z3i|z3j|z3k|z3l|z3m|z3n|z3o|z3p|z3q => dsimp only [L2.NoAttr,P.ad]; k_is)
   (case z2o => dsimp only [P.ad]; apply P.dm_J21 rfl; k_is)
   (case z2j => dsimp only [P.ad]; apply P.dm_Jh rfl; k_is)
   (case z3z|z41|z43|z45|z47|z49 => dsimp only [P.ad]; apply PySem.W.mg_of KX G; k_is)
   (case z2v|z33|z39|z3f => dsimp only [P.ad]; refine ⟨?_,?_,?_,?_⟩; k_is; k_is; k_is; k_is)
   (case z1h => exact rfl)
   (case z3r|z3s|z3t|z3u|z3v|z3w|z3x|z3y => refine PySem.W.mg_none_of KX G ?_; k_is)
   (case z44|z48 => dsimp only [P.ad]; apply P.tpm rfl; k_is; exact (show 3 <= PySem.sizeLine by decide); exact .cons ⟨_,rfl⟩ (.cons ⟨_,rfl⟩ (.cons ⟨_,rfl⟩ (.nil))))
   (case z40|z46 => dsimp only [P.ad]; exact ⟨_,rfl,by kernel_rfl⟩)
   (case z42|z4a => dsimp only [P.ad]; exact ⟨_,rfl⟩)
  obtain ⟨t,T⟩:=T
  have e0:=hmg.symm.trans T.m_law
  cases e0
  exact ⟨_,fun s u => P.law_binds T s u,fun base kb nb => P.ok_law T⟩
 case S => exact fun K H a ns hl hO hS => P.law_start hl hS
 case C => exact fun H s e s' z => z
