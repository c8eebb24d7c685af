import PyProof.Rows.All
import Wide.All
import OpenK.AllK
import Wide.FinOn
import Lean
import PyProof.EqAt
import PyProof.EqKinds
import PyProof.TupleCall
import PyProof.ZipIter
import PyProof.EnumMake
import PyProof.ListRange
import KE.KDictList
import KE.LcSums
import KE.KTabLook
import PyProof.P3In
import KE.KIntText
import PyProof.StrLoop
import PyProof.StrWalks
import PyProof.StrCalls2
import PyProof.StrLawsTight
import PyProof.StrLawsChain
import PyProof.Rows.SortShell
import KE.KSortTup
import PySem.SetTable
import PyProof.SetRoads
import PyProof.SetNew
import KE.KDictLaws
import PyProof.DictCompW
import PyProof.DictWalks
import PyProof.DictItemsLoops
import PySem.Challenge.RW_lazyrails_k40_whole_trimmed_reads_alike
set_option Elab.async false
set_option linter.all false
set_option maxRecDepth 100000
open List (length_map mem_cons_of_mem mem_append_right mem_cons_self mem_cons getElem?_map map_append mem_singleton mem_append size_toArray getElem?_eq_getElem append_assoc map_cons mem_of_getElem? mem_append_left mem_map pairwise_append length_replicate length_append not_mem_nil length_cons mem_range append_nil length_take mem_map_of_mem lookup_cons getElem?_append_right getElem?_append_left length_singleton find?_cons map_map)
noncomputable section
namespace L2
open PySem PySem.Spec PyProof.Rows
abbrev Key:=Sum Int Str
def keyIs:Key->Value->Bool
 | .inl k,v=>Value.isInt k v
 | .inr x,v=>Value.isStrOf x v
def keyH (w:World):Key->Int
 | .inl k=>hashInt k
 | .inr x=>hashStr w x
theorem keyIs_shape:∀ {k:Key}{v:Value},keyIs k v=true->(∃ i t,k=Sum.inl i/\v=Value.int i t)∨(∃ x t,k=Sum.inr x/\v=Value.str x t)
 | .inl i,v,h=>by
  obtain⟨t,e⟩:=Value.isInt_shape (k:=i) (v:=v) h
  exact .inl ⟨i,t,rfl,e⟩
 | .inr x,v,h=>by
  obtain⟨t,e⟩:=Value.isStrOf_shape (x:=x) (v:=v) h
  exact .inr ⟨x,t,rfl,e⟩
theorem keyIs_int (i:Int) (t:Tok):keyIs (.inl i) (.int i t)=true:=by simp[keyIs,Value.isInt]
theorem keyIs_str (x:Str) (t:Tok):keyIs (.inr x) (.str x t)=true:=by simp[keyIs,Value.isStrOf]
theorem key_ll (a b:Int):decide ((Sum.inl a:Key)=Sum.inl b)=(a == b):=by
 by_cases e:a=b
 ·subst e; simp
 ·have h:¬ (Sum.inl a:Key)=Sum.inl b:=fun q=>e (Sum.inl.inj q)
  rw[decide_eq_false h]
  exact(beq_eq_false_iff_ne.mpr e).symm
theorem key_rr (a b:Str):decide ((Sum.inr a:Key)=Sum.inr b)=decide (a=b):=by
 by_cases e:a=b
 ·subst e; simp
 ·have h:¬ (Sum.inr a:Key)=Sum.inr b:=fun q=>e (Sum.inr.inj q)
  rw[decide_eq_false h,decide_eq_false e]
theorem key_lr (a:Int) (b:Str):decide ((Sum.inl a:Key)=Sum.inr b)=false:=decide_eq_false (fun q=>nomatch q)
theorem key_rl (a:Str) (b:Int):decide ((Sum.inr a:Key)=Sum.inl b)=false:=decide_eq_false (fun q=>nomatch q)
def mixKind (prog:Program) (w:World):PySem.KeyKind prog w Key where
 is:=keyIs
 hash:=keyH w
 inj:=fun v a b ha hb=>by
  rcases keyIs_shape ha with ⟨i,t,rfl,rfl⟩ | ⟨x,t,rfl,rfl⟩
  ·rcases keyIs_shape hb with ⟨j,u,rfl,e⟩ | ⟨y,u,rfl,e⟩
   ·injection e with e1 _; rw[e1]
   ·exact nomatch e
  ·rcases keyIs_shape hb with ⟨j,u,rfl,e⟩ | ⟨y,u,rfl,e⟩
   ·exact nomatch e
   ·injection e with e1 _; rw[e1]
 byValue:=fun k v h=>by
  rcases keyIs_shape h with ⟨i,t,rfl,rfl⟩ | ⟨x,t,rfl,rfl⟩ <;> rfl
 pyHash:=fun hv h=>by
  rcases keyIs_shape hv with ⟨i,t,rfl,rfl⟩ | ⟨x,t,rfl,rfl⟩
  ·exact wpAny_pyHash_int h
  ·exact wpAny_pyHash_str h
 eqBool:=fun hu hv h=>by
  rcases keyIs_shape hu with ⟨i,t,rfl,rfl⟩ | ⟨x,t,rfl,rfl⟩
  ·rcases keyIs_shape hv with ⟨j,u,rfl,rfl⟩ | ⟨y,u,rfl,rfl⟩
   ·rw[key_ll] at h; exact wpAny_eqBool_int h
   ·rw[key_lr] at h; exact SeqAt.EqAt.int_str i t y u _ _ _ _ h
  ·rcases keyIs_shape hv with ⟨j,u,rfl,rfl⟩ | ⟨y,u,rfl,rfl⟩
   ·rw[key_rl] at h; exact SeqAt.EqAt.str_int x t j u _ _ _ _ h
   ·rw[key_rr] at h; exact wpAny_eqBool_str h
 «strs»:=fun k x t v h=>by
  rcases keyIs_shape h with ⟨i,u,rfl,e⟩ | ⟨y,u,rfl,e⟩
  ·exact nomatch e
  ·injection e with e1 _
   subst e1
   cases v <;> rfl
theorem mixKind_int (prog:Program) (w:World) (i:Int) (t:Tok):(mixKind prog w).is (.inl i) (.int i t)=true:=keyIs_int i t
theorem mixKind_str (prog:Program) (w:World) (x:Str) (t:Tok):(mixKind prog w).is (.inr x) (.str x t)=true:=keyIs_str x t
end L2
namespace L2
open PySem PySem.Spec PyProof.Rows
inductive V where
 | non | bl (b:Bool) | int (i:Int) | str (x:Str) | byt (b:Array UInt8) | flt (b:UInt64) | ref (a:Addr) | ty (n:String)
 deriving DecidableEq
def RelV:V->Value->Prop
 | .non,u=>u=Value.none
 | .bl b,u=>u=Value.bool b
 | .int i,u=>∃ t,u=Value.int i t
 | .str x,u=>∃ t,u=Value.str x t
 | .byt b,u=>∃ t,u=Value.bytes b t
 | .flt b,u=>∃ t,u=Value.float b t
 | .ref a,u=>u=Value.ref a
 | .ty n,u=>u=Value.type n
abbrev Vals:List V->List Value->Prop:=Paired RelV
theorem Vals.length {xs:List V}{us:List Value} (r:Vals xs us):xs.length=us.length:=Paired.length r
theorem Vals.get:∀ {xs:List V}{us:List Value}{i:Nat}{x:V},Vals xs us->xs[i]?=some x->∃ u,us[i]?=some u/\RelV x u
 | _,_,_,_,.nil,e=>by simp at e
 | _,_,0,_,.cons r _,e=>by simp at e; subst e; exact⟨_,rfl,r⟩
 | _,_,i+1,x,.cons _ t,e=>by
  obtain⟨u,h1,h2⟩:=Vals.get (i:=i) (x:=x) t (by simpa using e)
  exact⟨u,by simpa using h1,h2⟩
theorem Vals.set {x:V}{u:Value} (r:RelV x u):∀ {xs:List V}{us:List Value} (i:Nat),Vals xs us->Vals (xs.set i x) (us.set i u)
 | _,_,_,.nil=>.nil
 | _,_,0,.cons _ t=>.cons r t
 | _,_,i+1,.cons q t=>.cons q (Vals.set r i t)
theorem Vals.append:∀ {xs ys:List V}{us ws:List Value},Vals xs us->Vals ys ws->Vals (xs++ys) (us++ws)
 | _,_,_,_,.nil,s=>s
 | _,_,_,_,.cons r t,s=>.cons r (Vals.append t s)
theorem Vals.take:∀ {xs:List V}{us:List Value} (n:Nat),Vals xs us->Vals (xs.take n) (us.take n)
 | _,_,0,_=>.nil
 | _,_,_+1,.nil=>.nil
 | _,_,n+1,.cons r t=>.cons r (Vals.take n t)
theorem Vals.drop:∀ {xs:List V}{us:List Value} (n:Nat),Vals xs us->Vals (xs.drop n) (us.drop n)
 | _,_,0,r=>r
 | _,_,_+1,.nil=>.nil
 | _,_,n+1,.cons _ t=>Vals.drop n t
def RelO:Option V->Option Value->Prop
 | some v,some u=>RelV v u
 | none,none=>True
 | _,_=>False
def KV {κ:Type}:List (κ×V)->List (κ×Value)->Prop:=Paired fun(p:κ×V) (q:κ×Value)=>p.1=q.1/\RelV p.2 q.2
def kV:Key->V
 | .inl i=>.int i
 | .inr x=>.str x
inductive HO where
  | lst (xs:List V)
  | tup (xs:List V)
  | dK (kvs:List (Key×V)) | dT (kvs:List (List Key×V))
  | set (S:Int->Bool) (n:Nat)
  | ins (C dx:Addr) (fs:List (Str×V))
  | own (x:Addr)
  | xd (fs:List (Str×V))
  | met (f x:Addr)
  | rng (lo hi:Int)
  | frz (o:Obj) (u:HO)
  | tbl (ps:Array Value)
  | ext (φ:Heap->Prop)
abbrev Hp:=Addr->Option HO
def upd (H:Hp) (a:Addr) (o:HO):Hp:=fun b=>if b=a then some o else H b
theorem upd_same {H:Hp}{a:Addr}{o:HO}:upd H a o a=some o:=by unfold upd; rw[if_pos rfl]
theorem upd_ne {H:Hp}{a b:Addr}{o:HO} (h:b≠a):upd H a o b=H b:=by unfold upd; rw[if_neg h]
theorem ne_of_none {H:Hp}{a b:Addr}{o:HO} (h:H a=some o) (h':H b=none):a≠b:=by
 intro e; subst e; rw[h] at h'; cases h'
section
variable (P:Program) (w:World)
def ObjOk (H:Hp) (h:Heap) (a:Addr):HO->Prop
 | .lst xs=>xs.length<=sizeLine/\∃ (its:List Value) (n:Nat),Vals xs its/\h.get? a=some { cls:=.type "list",data:=.seq its.toArray n }
 | .tup xs=>xs.length<=sizeLine/\∃ its:List Value,Vals xs its/\IsTup h a its.toArray
 | .dK kvs=>kvs.length<=sizeLine/\(a == sysModules)=false/\∃ vs,KV kvs vs/\h.DictOf (mixKind P w) a vs
 | .dT kvs=>kvs.length<=sizeLine/\(a == sysModules)=false/\∃ xs:List (List Key×Addr×Value),
   Paired (fun(p:List Key×V) (q:List Key×Addr×Value)=>p.1=q.1/\H q.2.1=some (.tup (p.1.map kV))/\RelV p.2 q.2.2) kvs xs /\
   ∃ o es ep,h.get? a=some o/\o.ExactDict/\o.data=.dict es ep/\es.toList=xs.map (entryOfKey (tupleKind (mixKind P w)))/\(xs.map (·.1)).Nodup
 | .set S n=>h.SetOf (intKind P w) a S n
 | .ins C dx fs=>H dx=some (.own a)/\fs.length<=1000/\dx≠a/\h.get? a=some (PySem.W.instObj C dx) /\
   ∃ mA,h.Ns1 dx mA/\(∀ f,RelO (fs.lookup f) (mA f))/\PySem.Within mA (fs.map (·.1))
 | .own _=>∃ o,h.get? a=some o
 | .xd fs=>∃ mA,h.Ns1 a mA/\∀ f,RelO (fs.lookup f) (mA f)
 | .rng lo hi=>∃ t u v,h.get? a=some { cls:=.type "range",data:=.fields #[.int lo t,.int hi u,.int 1 v] }
 | .frz o u=>h.get? a=some o/\ObjOk H h a u
 | .tbl ps=>h.get? a=some { cls:=.none,data:=.fields ps }
 | .met f x=>h.get? a=some (PySem.W.methodObj (.ref f) (.ref x))
 | .ext φ=>φ h/\(∃ o,h.get? a=some o)/\∀ h1 h2:Heap,φ h1->(∀ o,h1.get? a=some o->h2.get? a=some o)->φ h2
def HOk (H:Hp) (h:Heap):Prop:=∀ a o,H a=some o->ObjOk P w H h a o
end
section
variable {P:Program}{w:World}{H H':Hp}{h h':Heap}{a:Addr}{o:HO}
theorem ObjOk.lt (x:ObjOk P w H h a o):a<h.objs.size:=by
 cases o with
 | lst xs=>obtain⟨_,_,_,_,e⟩:=x; exact Heap.lt_size e
 | tup xs=>obtain⟨_,_,_,p⟩:=x; exact p.lt
 | dK kvs=>obtain⟨_,_,_,_,o,_,_,e,_⟩:=x; exact Heap.lt_size e
 | dT kvs=>obtain⟨_,_,_,_,o,_,_,e,_⟩:=x; exact Heap.lt_size e
 | set S n=>obtain⟨o,_,_,_,e,_⟩:=x; exact Heap.lt_size e
 | ins C dx fs=>obtain⟨_,_,_,e,_⟩:=x; exact Heap.lt_size e
 | own y=>obtain⟨_,e⟩:=x; exact Heap.lt_size e
 | xd fs=>obtain⟨_,⟨_,_,_,e,_⟩,_⟩:=x; exact Heap.lt_size e
 | rng lo hi=>obtain⟨_,_,_,e⟩:=x; exact Heap.lt_size e
 | frz ob u=>obtain⟨e,_⟩:=x; exact Heap.lt_size e
 | tbl ps=>exact Heap.lt_size (show h.get? a=some _ from x)
 | met f y=>exact Heap.lt_size (show h.get? a=some _ from x)
 | ext φ=>obtain⟨_,⟨_,e⟩,_⟩:=x; exact Heap.lt_size e
theorem Paired.mapP {α β:Type}{F G:α->β->Prop}:∀ {l₁:List α}{l₂:List β},Paired F l₁ l₂->(∀ a b,F a b->G a b)->Paired G l₁ l₂
 | _,_,.nil,_=>.nil
 | _,_,.cons r t,f=>.cons (f _ _ r) (Paired.mapP t f)
theorem ObjOk.stay (x:ObjOk P w H h a o) (k:∀ b u,(b=a∨H b=some (.own a))->h.get? b=some u->h'.get? b=some u)
  (ho:∀ b,H b=some (.own a)->H' b=some (.own a)) (ht:∀ b xs,H b=some (.tup xs)->H' b=some (.tup xs)):ObjOk P w H' h' a o:=by
 induction o with
 | lst xs=>obtain⟨z,its,n,r,e⟩:=x; exact⟨z,its,n,r,k _ _ (.inl rfl) e⟩
 | tup xs=>obtain⟨z,its,r,ob,e,c⟩:=x; exact⟨z,its,r,ob,k _ _ (.inl rfl) e,c⟩
 | dK kvs=>obtain⟨z,y,vs,r,ob,es,ep,e,c⟩:=x; exact⟨z,y,vs,r,ob,es,ep,k _ _ (.inl rfl) e,c⟩
 | dT kvs=>
  obtain⟨z,y,xs,r,ob,es,ep,e,c⟩:=x
  exact⟨z,y,xs,Paired.mapP r fun p q z=>⟨z.1,ht _ _ z.2.1,z.2.2⟩,ob,es,ep,k _ _ (.inl rfl) e,c⟩
 | set S n=>obtain⟨ob,es,ep,t,e,c⟩:=x; exact⟨ob,es,ep,t,k _ _ (.inl rfl) e,c⟩
 | ins C dx fs=>
  obtain⟨d,z,ne,e,mA,⟨od,es,ep,e2,c⟩,r⟩:=x
  exact⟨ho _ d,z,ne,k _ _ (.inl rfl) e,mA,⟨od,es,ep,k _ _ (.inr d) e2,c⟩,r⟩
 | own y=>obtain⟨ob,e⟩:=x; exact⟨ob,k _ _ (.inl rfl) e⟩
 | xd fs=>obtain⟨mA,⟨od,es,ep,e,c⟩,r⟩:=x; exact⟨mA,⟨od,es,ep,k _ _ (.inl rfl) e,c⟩,r⟩
 | rng lo hi=>obtain⟨t,u,v,e⟩:=x; exact⟨t,u,v,k _ _ (.inl rfl) e⟩
 | frz ob u ih=>obtain⟨e,q⟩:=x; exact⟨k _ _ (.inl rfl) e,ih q⟩
 | tbl ps=>
  have e:h.get? a=some { cls:=.none,data:=.fields ps }:=x
  show h'.get? a=some { cls:=.none,data:=.fields ps }
  exact k a _ (.inl rfl) e
 | met f y=>
  have e:h.get? a=some (PySem.W.methodObj (.ref f) (.ref y)):=x
  show h'.get? a=some (PySem.W.methodObj (.ref f) (.ref y))
  exact k a _ (.inl rfl) e
 | ext φ=>obtain⟨p,⟨o,e⟩,st⟩:=x; exact⟨st _ _ p fun o q=>k _ _ (.inl rfl) q,⟨o,k _ _ (.inl rfl) e⟩,st⟩
theorem HOk.lt (x:HOk P w H h) (e:H a=some o):a<h.objs.size:=(x a o e).lt
theorem HOk.fresh (x:HOk P w H h) (e:h.objs.size<=a):H a=none:=by
 cases q:H a with
 | none=>rfl
 | some u=>exact absurd (Nat.lt_of_lt_of_le (x.lt q) e) (Nat.lt_irrefl _)
theorem HOk.kept (x:HOk P w H h) (k:∀ b u,h.get? b=some u->h'.get? b=some u):HOk P w H h':=fun a o e=>
 (x a o e).stay (fun b u _ q=>k b u q) (fun _ q=>q) fun _ _ q=>q
theorem HOk.laid (x:HOk P w H h) (k:∀ b u,h.get? b=some u->h'.get? b=some u) (hp:h.objs.size<=a) (new:ObjOk P w (upd H a o) h' a o):HOk P w (upd H a o) h':=fun b u e=>by
 have hn:=x.fresh hp
 by_cases hb:b=a
 ·subst hb; rw[upd_same] at e; cases e; exact new
 ·rw[upd_ne hb] at e
  exact(x b u e).stay (fun c v _ q=>k c v q) (fun c q=>by rw[upd_ne (ne_of_none q hn)]; exact q) fun c xs q=>by rw[upd_ne (ne_of_none q hn)]; exact q
end
def Rd (H:Hp) (a:Addr) (u:HO):Prop:=H a=some u∨∃ o,H a=some (.frz o u)
theorem Rd.ok {P:Program}{w:World}{H:Hp}{h:Heap}{a:Addr}{u:HO} (r:Rd H a u) (x:HOk P w H h):ObjOk P w H h a u:=by
 rcases r with r | ⟨o,r⟩
 ·exact x a u r
 ·obtain⟨_,q⟩:=x a _ r
  exact q
def Mut:Option HO->Prop
 | some (.lst _)=>True
 | some (.dK _)=>True
 | some (.dT _)=>True
 | some (.set _ _)=>True
 | some (.ins _ _ _)=>True
 | some (.ext _)=>True
 | _=>False
section
variable {P:Program}{w:World}{H:Hp}{h h':Heap}{x e:Addr}{o':HO}
theorem HOk.write (ok:HOk P w H h) (mu:Mut (H x)) (he:e=x∨H e=some (.own x)) (k:∀ b u,b≠e->h.get? b=some u->h'.get? b=some u) (heo:∃ u,h'.get? e=some u)
  (new:ObjOk P w (upd H x o') h' x o'):HOk P w (upd H x o') h':=fun b u q=>by
 have nown:∀ c y,H c=some (.own y)->c≠x:=fun c y r z=>by subst z; rw[r] at mu; exact mu
 have ntup:∀ c xs,H c=some (.tup xs)->c≠x:=fun c xs r z=>by subst z; rw[r] at mu; exact mu
 by_cases hb:b=x
 ·subst hb; rw[upd_same] at q; cases q; exact new
 ·rw[upd_ne hb] at q
  by_cases hbe:b=e
  ·have q':H b=some (.own x):=by
    rcases he with z | z
    ·exact absurd (hbe.trans z) hb
    ·rw[hbe]; exact z
   rw[q] at q'; cases q'
   obtain⟨v,hv⟩:=heo
   exact⟨v,by rw[hbe]; exact hv⟩
  ·refine(ok b u q).stay (fun c v hc r=>k c v ?_ r) (fun c r=>by rw[upd_ne (nown c b r)]; exact r) fun c xs r=>by rw[upd_ne (ntup c xs r)]; exact r
   rcases hc with rfl | hc
   ·exact hbe
   ·rintro rfl
    rcases he with z | z
    ·exact nown c b hc z
    ·rw[hc] at z; cases z; exact hb rfl
end
structure Un (fs ex:List Addr) (H H':Hp) (h h':Heap):Prop where
 keep:∀ b o,h.get? b=some o->H b=none->b ∉ fs->b ∉ ex->h'.get? b=some o
 slot:∀ b o,h.get? b=some o->H b=none->b ∈ fs->b ∉ ex->∃ sl,h'.get? b=some { o with slots:=sl }
 free:∀ b o,h.get? b=some o->H b=none->b ∉ ex->H' b=none
 there:∀ b o,h.get? b=some o->b ∉ ex->∃ o',h'.get? b=some o'
 tups:∀ b xs,H b=some (.tup xs)->H' b=some (.tup xs)
 frzs:∀ b o u,H b=some (.frz o u)->H' b=some (.frz o u)
 tbls:∀ b ps,H b=some (.tbl ps)->∃ more,H' b=some (.tbl (ps++more))
section
variable {fs fs' ex ex':List Addr}{H H1 H2:Hp}{h h1 h2 h':Heap}{a x e:Addr}{o:HO}
theorem Un.any (u:Un fs ex H H1 h h1) {b:Addr}{ob:Obj} (q:h.get? b=some ob) (n:H b=none) (hx:b ∉ ex):∃ sl,h1.get? b=some { ob with slots:=sl }:=by
 by_cases hb:b ∈ fs
 ·exact u.slot b ob q n hb hx
 ·exact⟨ob.slots,u.keep b ob q n hb hx⟩
theorem Un.kept (k:∀ b u,h.get? b=some u->h'.get? b=some u):Un fs ex H H h h' :=
 ⟨fun b ob q _ _ _=>k b ob q,fun b ob q _ _ _=>⟨ob.slots,k b ob q⟩,fun _ _ _ n _=>n,fun b ob q _=>⟨ob,k b ob q⟩,fun _ _ q=>q,fun _ _ _ q=>q,fun _ ps q=>⟨#[],by rw[q]; simp⟩⟩
theorem Un.refl:Un fs ex H H h h:=Un.kept fun _ _ q=>q
theorem Un.laid (k:∀ b u,h.get? b=some u->h'.get? b=some u) (hp:h.objs.size<=a) (hn:H a=none):Un fs ex H (upd H a o) h h' where
 keep:=fun b u q _ _ _=>k b u q
 slot:=fun b u q _ _ _=>⟨u.slots,k b u q⟩
 free:=fun b u q n _=>by rw[upd_ne (Nat.ne_of_lt (Nat.lt_of_lt_of_le (Heap.lt_size q) hp))]; exact n
 there:=fun b u q _=>⟨u,k b u q⟩
 tups:=fun b xs q=>by rw[upd_ne (ne_of_none q hn)]; exact q
 frzs:=fun b u xs q=>by rw[upd_ne (ne_of_none q hn)]; exact q
 tbls:=fun b ps q=>⟨#[],by rw[upd_ne (ne_of_none q hn),q]; simp⟩
theorem Un.write (mu:Mut (H x)) (he:e=x∨H e=some (.own x)) (k:∀ b u,b≠e->h.get? b=some u->h'.get? b=some u) (heo:∃ u,h'.get? e=some u):Un fs ex H (upd H x o) h h':=by
 have hx:∀ b,H b=none->b≠x:=fun b n z=>by subst z; rw[n] at mu; exact mu
 have hb:∀ b,H b=none->b≠e:=fun b n z=>by
  subst z
  rcases he with r | r
  ·exact hx b n r
  ·rw[n] at r; cases r
 have hm:∀ b u,H b=some u->¬ Mut (some u)->b≠x:=fun b u q nm z=>by subst z; rw[q] at mu; exact nm mu
 refine⟨fun b u q n _ _=>k b u (hb b n) q,fun b u q n _ _=>⟨u.slots,k b u (hb b n) q⟩,fun b u q n _=>by rw[upd_ne (hx b n)]; exact n,fun b u q _=>?_,
  fun b xs q=>by rw[upd_ne (hm b _ q fun z=>z)]; exact q,fun b u xs q=>by rw[upd_ne (hm b _ q fun z=>z)]; exact q,fun b ps q=>⟨#[],by rw[upd_ne (hm b _ q fun z=>z),q]; simp⟩⟩
 by_cases hbe:b=e
 ·subst hbe; exact heo
 ·exact⟨u,k b u hbe q⟩
end
def trk (h:Heap) (H:Hp):List Addr:=(List.range h.objs.size).filter fun a=>(H a).isSome
def hidT (h:Heap) (H:Hp):Heap:=PySem.W.hideAll h (trk h H)
theorem hidT_size (h:Heap) (H:Hp):(hidT h H).objs.size=h.objs.size:=PySem.W.hideAll_size _ _
theorem hidT_get {h:Heap}{H:Hp}{b:Addr}{o:Obj} (e:h.get? b=some o) (n:H b=none):(hidT h H).get? b=some o :=
 PySem.W.hideAll_get _ e fun hm=>by
  have q:(H b).isSome=true:=(List.mem_filter.mp hm).2
  rw[n] at q; simp at q
theorem of_hidT {h:Heap}{H:Hp}{b:Addr}{o:Obj} (e:(hidT h H).get? b=some o):h.get? b=some o/\H b=none:=by
 have e':h.get? b=some o:=PySem.W.of_hideAll (trk h H) e
 refine⟨e',?_⟩
 cases q:H b with
 | none=>rfl
 | some x=>
  have hm:b ∈ trk h H:=List.mem_filter.mpr ⟨mem_range.mpr (Heap.lt_size e'),by simp[q]⟩
  have z:(hidT h H).get? b=none:=PySem.W.hideAll_none (trk h H) hm
  rw[z] at e; cases e
def allNews (g h:Heap) (L:Addr):List (Addr×Obj):=(List.range h.objs.size).filterMap fun a=>if a=L∨(g.get? a).isSome=true then none else(h.get? a).map fun o=>(a,o)
def rest (g h:Heap) (L d:Addr):List (Addr×Obj):=(allNews g h L).filter fun p=>decide (p.1≠d)
end L2
namespace L2
open PySem PySem.Spec PyProof.Rows
structure Mod (K:PySem.W.Frag) (mg:Str->Option Value) (base:Heap):Prop where
 kin:K.In base
 glob:base.Ns mainGlobals mg
 blt:∃ mb,base.Ns builtinsNs mb/\∀ x:Str,x ≠ "__name__" -> mb x=bootBuiltins x
 nolimit:base.NoLimit
structure Cx where
 prog:Program
 w:World
 K:PySem.W.Frag
 mg:Str->Option Value
 base:Heap
 A:Around
 N:List Str
 s₀:Shared
 H₀:Hp
 env:Env
 outer:List Env
 stack:List Env
 ex:List Addr
 fn:Str->Bool
 calm:Bool
 pn:List (Addr×Obj)
 xe:Value->Shared->Prop
def frs (l:List Env):List Addr:=l.filterMap (·.frame)
abbrev Cx.fs (X:Cx):List Addr:=frs X.outer
def Vis (sc:Scope) (x:Str):Prop:=sc.names.lookup x=some .local∨sc.names.lookup x=some .cell∨sc.names.lookup x=some .free
def Loc (sc:Scope) (x:Str):Prop:=sc.names.lookup x=some .local∨sc.names.lookup x=some .cell
def Look (env:Env) (h:Heap) (m:Str->Option Value) (x:Str) (u:Value):Prop :=
 (env.kindOf x=some .local/\m x=some u)∨((env.kindOf x=some .cell∨env.kindOf x=some .free)/\∃ c,env.cells.lookup x=some c/\h.IsCell c (some u))
structure Cx.Ok (X:Cx):Prop where
 mod:Mod X.K X.mg X.base
 kind:X.env.scope.kind=.function
 glob:X.env.globals=mainGlobals
 blt:X.env.builtins=builtinsNs
 above:X.s₀.heap.objs.size<=X.env.locals
 inj:∀ x y c,X.env.cells.lookup x=some c->X.env.cells.lookup y=some c->x=y
 has:∀ x,(X.env.kindOf x=some .cell∨X.env.kindOf x=some .free)->∃ c,X.env.cells.lookup x=some c
 cab:∀ x c,X.fn x=true->X.env.cells.lookup x=some c->X.s₀.heap.objs.size<=c
 hd:X.calm=true->X.A.handled=none
 frames:X.A.frames=some X.stack
 stk:X.stack=X.outer∨(X.stack=X.env::X.outer/\X.env.frame=some X.env.locals)
 exf:∀ b ∈ X.ex,b≠X.env.locals/\∀ x c,X.env.cells.lookup x=some c->c≠b
 bs:∀ b o,X.base.get? b=some o->X.s₀.heap.get? b=some o/\X.H₀ b=none
 bsz:X.base.objs.size<=X.s₀.heap.objs.size
 noex:∀ b o,X.base.get? b=some o->b ∉ X.ex
 exfs:∀ b ∈ X.ex,b ∉ X.fs
 funs:X.s₀.heap.FunFrames X.base X.outer
 frf:∀ b ∈ X.fs,X.H₀ b=none
structure Inv (X:Cx) (pins:List (Addr×Obj)) (σ:List (Option V)) (H:Hp) (s:Shared):Prop where
 ok:X.Ok
 os:s.os=X.s₀.os
 bare:AllBare s.gens
 base:Un X.fs X.ex X.H₀ H X.s₀.heap s.heap
 loc:∃ m,s.heap.Ns X.env.locals m/\∀ (i:Nat) (x:Str) (v:V),X.N[i]?=some x->σ[i]?=some (some v)->Vis X.env.scope x->∃ u,RelV v u/\Look X.env s.heap m x u
 cell:∀ x c,X.env.cells.lookup x=some c->∃ v,s.heap.IsCell c v
 free:H X.env.locals=none
 freeC:∀ x c,X.env.cells.lookup x=some c->H c=none
 pin:∀ p ∈ X.pn++pins,s.heap.get? p.1=some p.2/\H p.1=none/\p.1≠X.env.locals/\p.1 ∉ X.fs/\∀ v,p.2.data≠.cell v
 hok:HOk X.prog X.w H s.heap
 len:σ.length=X.N.length
section
variable {X:Cx}{pins:List (Addr×Obj)}{σ:List (Option V)}{H H':Hp}{s:Shared}{h':Heap}
theorem Cx.Ok.nofr (ok:X.Ok) {b:Addr}{o:Obj} (e:X.base.get? b=some o):b ∉ X.fs:=fun hb=>by
 have:=(ok.funs.mem hb).1
 rw[e] at this; cases this
theorem Inv.bs (I:Inv X pins σ H s):∀ b o,X.base.get? b=some o->s.heap.get? b=some o/\H b=none:=fun b o e=>
 ⟨I.base.keep b o (I.ok.bs b o e).1 (I.ok.bs b o e).2 (I.ok.nofr e) (I.ok.noex b o e),I.base.free b o (I.ok.bs b o e).1 (I.ok.bs b o e).2 (I.ok.noex b o e)⟩
theorem Inv.bk (I:Inv X pins σ H s):∀ b o,X.base.get? b=some o->s.heap.get? b=some o:=fun b o e=>(I.bs b o e).1
theorem Inv.mod (I:Inv X pins σ H s):Mod X.K X.mg X.base:=I.ok.mod
theorem Inv.kIn (I:Inv X pins σ H s):X.K.In s.heap:=I.ok.mod.kin.keeps I.bk
theorem Inv.fr (I:Inv X pins σ H s):∃ m,Fr X.base X.env.locals s.heap m :=
 let ⟨m,hn,_⟩:=I.loc
 ⟨m,hn,I.bk,Nat.le_trans I.ok.bsz I.ok.above⟩
theorem Inv.lt (I:Inv X pins σ H s):X.env.locals<s.heap.objs.size:=let ⟨_,hn,_⟩:=I.loc; hn.lt
theorem Inv.sz (I:Inv X pins σ H s):X.s₀.heap.objs.size<=s.heap.objs.size:=Nat.le_trans I.ok.above (Nat.le_of_lt I.lt)
theorem Inv.nofs (I:Inv X pins σ H s) {a:Addr} (h:s.heap.objs.size<=a):a ∉ X.fs:=fun hb=>by
 obtain⟨_,o,ho,_⟩:=I.ok.funs.mem hb
 exact absurd (Nat.lt_of_lt_of_le (Heap.lt_size ho) (Nat.le_trans I.sz h)) (Nat.lt_irrefl _)
theorem Inv.cne (I:Inv X pins σ H s):∀ x c,X.env.cells.lookup x=some c->c≠X.env.locals:=fun x c e z=>by
 obtain⟨v,o,ho,hd⟩:=I.cell x c e
 obtain⟨m,⟨o',es,ep,ho',hd',_⟩,_⟩:=I.loc
 rw[z,ho'] at ho; cases ho; rw[hd'] at hd; cases hd
theorem Inv.funs (I:Inv X pins σ H s):s.heap.FunFrames X.base X.outer:=by
 have all:∀ (l:List Env),(∀ b ∈ frs l,b ∈ X.fs)->X.s₀.heap.FunFrames X.base l->s.heap.FunFrames X.base l:=by
  intro l
  induction l with
  | nil=>intro _ _; trivial
  | cons env r ih=>
   intro hs hl
   obtain⟨hk,⟨L,o,hf,hn,ho,hd⟩,hr⟩:=hl
   have hL:L ∈ X.fs:=hs L (by unfold frs; rw[List.filterMap_cons,hf]; exact mem_cons_self)
   obtain⟨sl,e⟩:=I.base.slot L o ho (I.ok.frf L hL) hL fun z=>I.ok.exfs L z hL
   exact⟨hk,⟨L,_,hf,hn,e,hd⟩,ih (fun b hb=>hs b (by unfold frs; rw[List.filterMap_cons,hf]; exact mem_cons_of_mem _ hb)) hr⟩
 exact all X.outer (fun _ hb=>hb) I.ok.funs
theorem Inv.stack (I:Inv X pins σ H s):s.heap.FunFrames X.base X.stack:=by
 rcases I.ok.stk with e | ⟨e,hf⟩
 ·rw[e]; exact I.funs
 ·rw[e]
  obtain⟨m,hn,_⟩:=I.loc
  refine .cons (by rw[I.ok.kind]; decide) hf hn ?_ I.funs
  exact Heap.get?_none_of_le (Nat.le_trans I.ok.bsz I.ok.above)
theorem Inv.stkSub (I:Inv X pins σ H s):∀ b ∈ frs X.stack,b ∈ X.env.locals::X.fs:=fun b hb=>by
 rcases I.ok.stk with e | ⟨e,hf⟩
 ·rw[e] at hb; exact mem_cons_of_mem _ hb
 ·rw[e] at hb
  unfold frs at hb
  rw[List.filterMap_cons,hf] at hb
  exact hb
theorem Inv.stkFree (I:Inv X pins σ H s):∀ b ∈ frs X.stack,H b=none:=fun b hb=>by
 rcases mem_cons.mp (I.stkSub b hb) with e | hb
 ·rw[e]; exact I.free
 ·obtain⟨_,o,ho,_⟩:=I.ok.funs.mem hb
  exact I.base.free b o ho (I.ok.frf b hb) fun z=>I.ok.exfs b z hb
theorem Inv.step {g':Array GenState}{t':Nat}{d':Drawn}{ch:List Addr} (I:Inv X pins σ H s)
  (hch:∀ b ∈ ch,(b ∈ X.ex∨X.s₀.heap.objs.size<=b)/\b≠X.env.locals/\(∀ x c,X.env.cells.lookup x=some c->c≠b)/\∀ p ∈ X.pn++pins,p.1≠b)
  (keep:∀ b o,b≠X.env.locals->b ∉ X.fs->b ∉ ch->s.heap.get? b=some o->H b=none->h'.get? b=some o)
  (slot:∀ b o,b≠X.env.locals->b ∈ X.fs->b ∉ ch->s.heap.get? b=some o->H b=none->∃ sl,h'.get? b=some { o with slots:=sl }) (free:∀ b o,b ∉ ch->s.heap.get? b=some o->H b=none->H' b=none)
  (there:∀ b o,b ∉ ch->s.heap.get? b=some o->∃ o',h'.get? b=some o')
  (tups:∀ b xs,H b=some (.tup xs)->H' b=some (.tup xs)) (frzs:∀ b o u,H b=some (.frz o u)->H' b=some (.frz o u)) (tbls:∀ b ps,H b=some (.tbl ps)->∃ more,H' b=some (.tbl (ps++more)))
  (ns:∀ m,s.heap.Ns X.env.locals m->h'.Ns X.env.locals m) (hok:HOk X.prog X.w H' h') (hg:AllBare g') :
  Inv X pins σ H' { s with heap:=h',gens:=g',drawn:=d',toks:=t' }:=by
 have neL:∀ b o,X.s₀.heap.get? b=some o->b≠X.env.locals:=fun b o e=>Nat.ne_of_lt (Nat.lt_of_lt_of_le (Heap.lt_size e) I.ok.above)
 have neC:∀ b o,X.s₀.heap.get? b=some o->b ∉ X.ex->b ∉ ch:=fun b o e hx hb=>by
  rcases (hch b hb).1 with z | z
  ·exact hx z
  ·exact absurd (Nat.lt_of_lt_of_le (Heap.lt_size e) z) (Nat.lt_irrefl _)
 have cellK:∀ x c,X.env.cells.lookup x=some c->∀ v,s.heap.IsCell c v->h'.IsCell c v:=fun x c e v ⟨o,ho,hd⟩=>by
  have nch:c ∉ ch:=fun z=>(hch c z).2.2.1 x c e rfl
  by_cases hc:c ∈ X.fs
  ·obtain⟨sl,q⟩:=slot c o (I.cne x c e) hc nch ho (I.freeC x c e)
   exact⟨_,q,hd⟩
  ·exact⟨o,keep c o (I.cne x c e) hc nch ho (I.freeC x c e),hd⟩
 refine⟨I.ok,I.os,hg,⟨fun b o e n hb hx=>?_,fun b o e n hb hx=>?_,fun b o e n hx=>?_,fun b o e hx=>?_,fun b xs e=>tups b xs (I.base.tups b xs e),fun b o xs e=>frzs b o xs (I.base.frzs b o xs e),fun b ps e=>?_⟩,?_,fun x c e=>?_,?_,fun x c e=>?_,fun p hp=>?_,hok,I.len⟩
 ·exact keep b o (neL b o e) hb (neC b o e hx) (I.base.keep b o e n hb hx) (I.base.free b o e n hx)
 ·obtain⟨sl,e1⟩:=I.base.slot b o e n hb hx
  obtain⟨sl',e2⟩:=slot b _ (neL b o e) hb (neC b o e hx) e1 (I.base.free b o e n hx)
  exact⟨sl',e2⟩
 ·obtain⟨o',e1⟩:=I.base.there b o e hx
  exact free b o' (neC b o e hx) e1 (I.base.free b o e n hx)
 ·obtain⟨o',e1⟩:=I.base.there b o e hx
  exact there b o' (neC b o e hx) e1
 ·obtain⟨m1,e1⟩:=I.base.tbls b ps e
  obtain⟨m2,e2⟩:=tbls b _ e1
  exact⟨m1++m2,by rw[e2,Array.append_assoc]⟩
 ·obtain⟨m,hn,hl⟩:=I.loc
  refine⟨m,ns m hn,fun i x v e1 e2 e3=>?_⟩
  obtain⟨u,r,l⟩:=hl i x v e1 e2 e3
  refine⟨u,r,?_⟩
  rcases l with l | ⟨k,c,e,z⟩
  ·exact .inl l
  ·exact .inr ⟨k,c,e,cellK x c e _ z⟩
 ·obtain⟨v,z⟩:=I.cell x c e
  exact⟨v,cellK x c e v z⟩
 ·obtain⟨m,⟨o,_,_,ho,_⟩,_⟩:=I.loc
  exact free _ o (fun z=>(hch _ z).2.1 rfl) ho I.free
 ·obtain⟨v,o,ho,hd⟩:=I.cell x c e
  exact free c o (fun z=>(hch c z).2.2.1 x c e rfl) ho (I.freeC x c e)
 ·obtain⟨e,n,ne,nf,d⟩:=I.pin p hp
  have nch:p.1 ∉ ch:=fun z=>(hch p.1 z).2.2.2 p hp rfl
  exact⟨keep p.1 p.2 ne nf nch e n,free p.1 p.2 nch e n,ne,nf,d⟩
theorem Inv.un {t':Nat} (I:Inv X pins σ H s) (u:Un X.fs [] H H' s.heap h') (hok:HOk X.prog X.w H' h'):Inv X pins σ H' { s with heap:=h',toks:=t' }:=by
 obtain⟨m,⟨o,es,ep,ho,r⟩,_⟩:=id I.loc
 obtain⟨sl,hL⟩:=u.any ho I.free (by simp)
 exact I.step (g':=s.gens) (d':=s.drawn) (ch:=[]) (fun _ z=>nomatch z) (fun b o _ hb _ e n=>u.keep b o e n hb (by simp)) (fun b o _ hb _ e n=>u.slot b o e n hb (by simp)) (fun b o _ e n=>u.free b o e n (by simp)) (fun b o _ e=>u.there b o e (by simp)) u.tups u.frzs u.tbls (fun m' hm=>by
  obtain⟨o',es',ep',ho',r'⟩:=hm
  rw[ho] at ho'; cases ho'
  exact⟨_,es',ep',hL,r'⟩) hok I.bare
theorem Inv.call {g':Array GenState}{t':Nat}{d':Drawn}{ch:List Addr} (I:Inv X pins σ H s) (u:Un (frs X.stack) ch H H' s.heap h') (hok:HOk X.prog X.w H' h') (hg:AllBare g')
  (hch:∀ b ∈ ch,(b ∈ X.ex∨X.s₀.heap.objs.size<=b)/\b≠X.env.locals/\(∀ x c,X.env.cells.lookup x=some c->c≠b)/\∀ p ∈ X.pn++pins,p.1≠b) :
  Inv X pins σ H' { s with heap:=h',gens:=g',drawn:=d',toks:=t' }:=by
 obtain⟨m,⟨o,es,ep,ho,r⟩,_⟩:=id I.loc
 obtain⟨sl,hL⟩:=u.any ho I.free fun z=>(hch _ z).2.1 rfl
 exact I.step (ch:=ch) hch (fun b o hL hb hc e n=>u.keep b o e n (fun z=>(mem_cons.mp (I.stkSub b z)).elim hL hb) hc) (fun b o _ _ hc e n=>u.any e n hc) (fun b o hc e n=>u.free b o e n hc) (fun b o hc e=>u.there b o e hc) u.tups u.frzs u.tbls (fun m' hm=>by
  obtain⟨o',es',ep',ho',r'⟩:=hm
  rw[ho] at ho'; cases ho'
  exact⟨_,es',ep',hL,r'⟩) hok hg
theorem Inv.turned {t':Nat}{it:Addr} (I:Inv X pins σ H s) (k:∀ b o,b≠it->s.heap.get? b=some o->h'.get? b=some o) (hn:H it=none) (hL:it≠X.env.locals)
  (h1:it ∈ X.ex∨X.s₀.heap.objs.size<=it) (h2:∀ x c,X.env.cells.lookup x=some c->c≠it) (h3:∀ p ∈ X.pn++pins,p.1≠it):Inv X pins σ H { s with heap:=h',toks:=t' }:=by
 have nit:∀ b u,H b=some u->b≠it:=fun b u e z=>by rw[z,hn] at e; cases e
 refine I.step (g':=s.gens) (d':=s.drawn) (ch:=[it]) (fun b hb=>?_) (fun b o _ _ hc e _=>k b o (fun z=>hc (by simp[z])) e) (fun b o _ _ hc e _=>⟨o.slots,k b o (fun z=>hc (by simp[z])) e⟩) (fun _ _ _ _ n=>n)
  (fun b o hc e=>⟨o,k b o (fun z=>hc (by simp[z])) e⟩) (fun _ _ e=>e) (fun _ _ _ e=>e) (fun b ps e=>⟨#[],by rw[e]; simp⟩) (fun m hm=>?_) (fun b u e=>?_) I.bare
 ·have e:b=it:=by simpa using hb
  subst e
  exact⟨h1,hL,h2,h3⟩
 ·obtain⟨o,es,ep,ho,r⟩:=hm
  exact⟨o,es,ep,k _ o (Ne.symm hL) ho,r⟩
 ·refine(I.hok b u e).stay (fun c v hc q=>k c v ?_ q) (fun _ q=>q) fun _ _ q=>q
  rcases hc with z | z
  ·rw[z]; exact nit b u e
  ·exact nit c _ z
theorem Inv.tok (I:Inv X pins σ H s) (t:Nat):Inv X pins σ H { s with toks:=t }:=I.un (h':=s.heap) (t':=t) Un.refl I.hok
theorem Inv.kept {t':Nat} (I:Inv X pins σ H s) (k:∀ b u,s.heap.get? b=some u->h'.get? b=some u):Inv X pins σ H { s with heap:=h',toks:=t' }:=I.un (Un.kept k) (I.hok.kept k)
theorem Inv.laid {a:Addr}{o:HO}{t':Nat} (I:Inv X pins σ H s) (k:∀ b u,s.heap.get? b=some u->h'.get? b=some u) (hp:s.heap.objs.size<=a) (new:ObjOk X.prog X.w (upd H a o) h' a o) :
  Inv X pins σ (upd H a o) { s with heap:=h',toks:=t' }:=I.un (Un.laid k hp (I.hok.fresh hp)) (I.hok.laid k hp new)
theorem Inv.write {x e:Addr}{o:HO}{t':Nat} (I:Inv X pins σ H s) (mu:Mut (H x)) (he:e=x∨H e=some (.own x)) (k:∀ b u,b≠e->s.heap.get? b=some u->h'.get? b=some u) (heo:∃ u,h'.get? e=some u)
  (new:ObjOk X.prog X.w (upd H x o) h' x o):Inv X pins σ (upd H x o) { s with heap:=h',toks:=t' }:=I.un (Un.write mu he k heo) (I.hok.write mu he k heo new)
theorem Inv.weak {σ':List (Option V)} (I:Inv X pins σ H s) (hl:σ'.length=σ.length) (w:∀ (i:Nat) v,σ'[i]?=some (some v)->σ[i]?=some (some v)):Inv X pins σ' H s :=
 ⟨I.ok,I.os,I.bare,I.base,let ⟨m,hn,hl'⟩:=I.loc; ⟨m,hn,fun i x v e1 e2 e3=>hl' i x v e1 (w i v e2) e3⟩,I.cell,I.free,I.freeC,I.pin,I.hok,hl.trans I.len⟩
theorem Inv.pins_of {pins':List (Addr×Obj)} (I:Inv X pins σ H s) (h:∀ p ∈ pins',s.heap.get? p.1=some p.2/\H p.1=none/\p.1≠X.env.locals/\p.1 ∉ X.fs/\∀ v,p.2.data≠.cell v):Inv X pins' σ H s :=
 ⟨I.ok,I.os,I.bare,I.base,I.loc,I.cell,I.free,I.freeC,fun p hp=>(mem_append.mp hp).elim (fun z=>I.pin p (mem_append_left _ z)) (h p),I.hok,I.len⟩
theorem nodup_ix {N:List Str} (hN:N.Nodup) {i j:Nat}{x:Str} (a:N[i]?=some x) (b:N[j]?=some x):i=j:=by
 obtain⟨h1,e1⟩:=List.getElem?_eq_some_iff.mp a
 obtain⟨h2,e2⟩:=List.getElem?_eq_some_iff.mp b
 exact(List.getElem_inj hN).mp (e1.trans e2.symm)
theorem store_ok2 {M:Model}{A:Around}{E:Value->Shared->Prop}{i:Nat}{x:Str}{v:V}{u:Value}{Q:Unit->Shared->Prop} (I:Inv X pins σ H s) (hN:X.N.Nodup) (hi:X.N[i]?=some x) (hx:Loc X.env.scope x) (r:RelV v u)
  (h:∀ s',Inv X pins (σ.set i (some v)) H s'->(∃ a,Heap.SameBut a s.heap s'.heap/\(a=X.env.locals∨X.env.cells.lookup x=some a))->Q () s') (hf:X.fn x=true∨X.env.scope.names.lookup x=some .local:=by first | exact .inl rfl | exact .inr rfl | assumption):wpAny M A (storeName X.env x u) Q E s:=by
 obtain⟨m,hn,hl⟩:=id I.loc
 have hcls:(X.env.scope.kind == .class || (X.env.scope.kind == .module && X.env.locals != X.env.globals)) = false:=by rw [I.ok.kind]; rfl
 have hiσ:i<σ.length:=by rw[I.len]; exact(List.getElem?_eq_some_iff.mp hi).1
 have cne:=I.cne
 have tracked:∀ {a:Addr}{h':Heap},(∃ o,s.heap.get? a=some o/\H a=none)->Heap.SameBut a s.heap h'->HOk X.prog X.w H h':=fun {a h'} ha hs b ob e=>by
  obtain⟨_,_,hfree⟩:=ha
  refine(I.hok b ob e).stay (fun c w' hc q=>(hs.2 c ?_).trans q) (fun _ q=>q) fun _ _ q=>q
  rintro rfl
  rcases hc with rfl | hc
  ·rw[hfree] at e; cases e
  ·rw[hfree] at hc; cases hc
 rcases hx with hk | hk
 ·refine wpAny_storeName_local hk hn (fun h' hn' hs=>?_) hcls
  obtain⟨oL,_,_,hoL,_⟩:=id hn
  refine h _ ⟨I.ok,I.os,I.bare,⟨fun b o e n hb hx=>?_,fun b o e n hb hx=>?_,I.base.free,fun b o e hx=>?_,I.base.tups,I.base.frzs,I.base.tbls⟩,⟨_,hn',fun j y v' e1 e2 e3=>?_⟩,fun y c e=>?_,I.free,I.freeC,fun p hp=>?_,tracked ⟨oL,hoL,I.free⟩ hs,by simpa using I.len⟩ ⟨_,hs,.inl rfl⟩
  ·exact(hs.2 b (Nat.ne_of_lt (Nat.lt_of_lt_of_le (Heap.lt_size e) I.ok.above))).trans (I.base.keep b o e n hb hx)
  ·obtain⟨sl,e1⟩:=I.base.slot b o e n hb hx
   exact⟨sl,(hs.2 b (Nat.ne_of_lt (Nat.lt_of_lt_of_le (Heap.lt_size e) I.ok.above))).trans e1⟩
  ·obtain⟨o',e1⟩:=I.base.there b o e hx
   exact⟨o',(hs.2 b (Nat.ne_of_lt (Nat.lt_of_lt_of_le (Heap.lt_size e) I.ok.above))).trans e1⟩
  ·by_cases hj:j=i
   ·subst hj
    rw[hi] at e1; cases e1
    rw[List.getElem?_set_self hiσ] at e2
    cases e2
    exact⟨u,r,.inl ⟨hk,by simp⟩⟩
   ·rw[List.getElem?_set_ne (Ne.symm hj)] at e2
    obtain⟨u',r',q⟩:=hl j y v' e1 e2 e3
    refine⟨u',r',?_⟩
    rcases q with ⟨k,e⟩ | ⟨k,c,e,z⟩
    ·refine .inl ⟨k,?_⟩
     have:y≠x:=fun e=>hj (nodup_ix hN e1 (e ▸ hi))
     simp[this,e]
    ·exact .inr ⟨k,c,e,z.sameBut hs (cne y c e)⟩
  ·obtain⟨w',z⟩:=I.cell y c e
   exact⟨w',z.sameBut hs (cne y c e)⟩
  ·obtain⟨e,n,ne,nf,d⟩:=I.pin p hp
   exact⟨(hs.2 p.1 ne).trans e,n,ne,nf,d⟩
 ·have hfn:X.fn x=true:=by
   rcases hf with z | z
   ·exact z
   ·rw[z] at hk; cases hk
  obtain⟨c,hc⟩:=I.ok.has x (.inl hk)
  obtain⟨w',z⟩:=I.cell x c hc
  refine wpAny_storeName_cell I.ok.kind hk hc z (fun h' hc' hs=>?_)
  obtain⟨oc,hoc,hocd⟩:=id z
  refine h { s with heap:=h' } ⟨I.ok,I.os,I.bare,⟨fun b o e n hb hx=>?_,fun b o e n hb hx=>?_,I.base.free,fun b o e hx=>?_,I.base.tups,I.base.frzs,I.base.tbls⟩,⟨m,hn.sameBut hs (Ne.symm (cne x c hc)),fun j y v' e1 e2 e3=>?_⟩,fun y c' e=>?_,I.free,I.freeC,fun p hp=>?_,tracked ⟨oc,hoc,I.freeC x c hc⟩ hs,by simpa using I.len⟩ ⟨c,hs,.inr hc⟩
  ·exact(hs.2 b (Nat.ne_of_lt (Nat.lt_of_lt_of_le (Heap.lt_size e) (I.ok.cab x c hfn hc)))).trans (I.base.keep b o e n hb hx)
  ·obtain⟨sl,e1⟩:=I.base.slot b o e n hb hx
   exact⟨sl,(hs.2 b (Nat.ne_of_lt (Nat.lt_of_lt_of_le (Heap.lt_size e) (I.ok.cab x c hfn hc)))).trans e1⟩
  ·obtain⟨o',e1⟩:=I.base.there b o e hx
   exact⟨o',(hs.2 b (Nat.ne_of_lt (Nat.lt_of_lt_of_le (Heap.lt_size e) (I.ok.cab x c hfn hc)))).trans e1⟩
  ·by_cases hj:j=i
   ·subst hj
    rw[hi] at e1; cases e1
    rw[List.getElem?_set_self hiσ] at e2
    cases e2
    exact⟨u,r,.inr ⟨.inl hk,c,hc,hc'⟩⟩
   ·rw[List.getElem?_set_ne (Ne.symm hj)] at e2
    obtain⟨u',r',q⟩:=hl j y v' e1 e2 e3
    refine⟨u',r',?_⟩
    rcases q with q | ⟨k,c',e,z'⟩
    ·exact .inl q
    ·refine .inr ⟨k,c',e,z'.sameBut hs ?_⟩
     rintro rfl
     exact hj (nodup_ix hN e1 (I.ok.inj _ _ _ e hc ▸ hi))
  ·by_cases hcc:c'=c
   ·subst hcc; exact⟨_,hc'⟩
   ·obtain⟨w2,z2⟩:=I.cell y c' e
    exact⟨w2,z2.sameBut hs hcc⟩
  ·obtain⟨e,n,ne,nf,d⟩:=I.pin p hp
   refine⟨(hs.2 p.1 ?_).trans e,n,ne,nf,d⟩
   intro q
   rw[q,hoc] at e
   have q':oc=p.2:=Option.some.inj e
   exact d w' (by rw[<- q']; exact hocd)
theorem store_ok {M:Model}{A:Around}{E:Value->Shared->Prop}{i:Nat}{x:Str}{v:V}{u:Value}{Q:Unit->Shared->Prop} (I:Inv X pins σ H s) (hN:X.N.Nodup) (hi:X.N[i]?=some x) (hx:Loc X.env.scope x) (r:RelV v u)
  (h:∀ s',Inv X pins (σ.set i (some v)) H s'->Q () s') (hf:X.fn x=true∨X.env.scope.names.lookup x=some .local:=by first | exact .inl rfl | exact .inr rfl | assumption):wpAny M A (storeName X.env x u) Q E s :=
 store_ok2 I hN hi hx r (fun s' I' _=>h s' I') hf
theorem Inv.call' {s':Shared}{ch:List Addr} (I:Inv X pins σ H s) (ho:s'.os=s.os) (u:Un (frs X.stack) ch H H' s.heap s'.heap) (hok:HOk X.prog X.w H' s'.heap) (hg:AllBare s'.gens)
  (hch:∀ b ∈ ch,(b ∈ X.ex∨X.s₀.heap.objs.size<=b)/\b≠X.env.locals/\(∀ x c,X.env.cells.lookup x=some c->c≠b)/\∀ p ∈ X.pn++pins,p.1≠b):Inv X pins σ H' s':=by
 obtain⟨h',g',d',t',o'⟩:=s'
 have e:o'=s.os:=ho
 subst e
 exact I.call (g':=g') (t':=t') (d':=d') u hok hg hch
end
abbrev XK:=Value->Option Addr->Hp->Prop
abbrev St:=List (Option V)
abbrev VK:=V->Hp->Prop
abbrev TE:=St->Hp->VK->Prop
abbrev TT:=St->Hp->(Bool->Hp->Prop)->Prop
abbrev TA:=St->Hp->(List V->Hp->Prop)->Prop
set_option genInjectivity false in
set_option genSizeOf false in
structure Ends where
 nx:St->Hp->Prop
 rt:VK
 bk:St->Hp->Prop:=fun _ _=>False
 ct:St->Hp->Prop:=fun _ _=>False
abbrev TS:=Ends->St->Hp->Prop
def EP (X:Cx) (pins:List (Addr×Obj)) (σ:St) (Q:VK) (u:Value) (s':Shared):Prop:=∃ v H',Inv X pins σ H' s'/\RelV v u/\Q v H'
def TP (X:Cx) (pins:List (Addr×Obj)) (σ:St) (Q:Bool->Hp->Prop) (b:Bool) (s':Shared):Prop:=∃ H',Inv X pins σ H' s'/\Q b H'
def AP (X:Cx) (pins:List (Addr×Obj)) (σ:St) (Q:List V->Hp->Prop) (us:List Value) (s':Shared):Prop:=∃ vs H',Inv X pins σ H' s'/\Vals vs us/\Q vs H'
def SP (X:Cx) (pins:List (Addr×Obj)) (D:Ends) (f:Flow) (s':Shared):Prop :=
 match f with
 | .next=>∃ σ' H',Inv X pins σ' H' s'/\D.nx σ' H'
 | .brk=>∃ σ' H',Inv X pins σ' H' s'/\D.bk σ' H'
 | .cont=>∃ σ' H',Inv X pins σ' H' s'/\D.ct σ' H'
 | .ret u=>∃ v σ' H',Inv X pins σ' H' s'/\RelV v u/\D.rt v H'
def PE (X:Cx) (e:Expr) (t:TE):Prop :=
 ∀ (pins:List (Addr×Obj)) (s:Shared) (σ:St) (H:Hp) (Q:VK),Inv X pins σ H s->t σ H Q->wpAny (model X.prog X.w) X.A (eval e X.env) (EP X pins σ Q) X.xe s
def PT (X:Cx) (e:Expr) (t:TT):Prop :=
 ∀ (pins:List (Addr×Obj)) (s:Shared) (σ:St) (H:Hp) (Q:Bool->Hp->Prop),Inv X pins σ H s->t σ H Q->wpAny (model X.prog X.w) X.A (isTrue e X.env (eval e X.env)) (TP X pins σ Q) X.xe s
def PW (X:Cx) (e:Expr) (t:TT):Prop :=
 ∀ (whole:Sem Value) (pins:List (Addr×Obj)) (s:Shared) (σ:St) (H:Hp) (Q:Bool->Hp->Prop),Inv X pins σ H s->t σ H Q->wpAny (model X.prog X.w) X.A (isTrue e X.env whole) (TP X pins σ Q) X.xe s
theorem PW.pt {X:Cx}{e:Expr}{t:TT} (h:PW X e t):PT X e t:=h _
def PA (X:Cx) (es:List Expr) (t:TA):Prop :=
 ∀ (pos:Pos) (pins:List (Addr×Obj)) (s:Shared) (σ:St) (H:Hp) (Q:List V->Hp->Prop),Inv X pins σ H s->t σ H Q->wpAny (model X.prog X.w) X.A (spliced (backTo pos (starEach es X.env))) (AP X pins σ Q) X.xe s
def PS (X:Cx) (st:Stmt) (t:TS):Prop :=
 ∀ (pins:List (Addr×Obj)) (s:Shared) (σ:St) (H:Hp) (D:Ends),Inv X pins σ H s->t D σ H->wpAny (model X.prog X.w) X.A (exec st X.env) (SP X pins D) X.xe s
def PSs (X:Cx) (st:List Stmt) (t:TS):Prop :=
 ∀ (pins:List (Addr×Obj)) (s:Shared) (σ:St) (H:Hp) (D:Ends),Inv X pins σ H s->t D σ H->wpAny (model X.prog X.w) X.A (execs st X.env) (SP X pins D) X.xe s
theorem thn {α:Type}{t:Sem α}{Q Q':α->Shared->Prop}{M:Model}{A:Around}{E:Value->Shared->Prop}{s:Shared} (h:wpAny M A t Q E s) (hQ:∀ a s,Q a s->Q' a s):wpAny M A t Q' E s:=wpAny_mono h hQ fun _ _ x=>x
end L2
namespace L2
open PySem PySem.Spec PyProof.Rows
section
variable {X:Cx}
def tVar (i:Nat):TE:=fun σ H Q=>∃ v,σ[i]?=some (some v)/\Q v H
def tC (v:V):TE:=fun _ H Q=>Q v H
theorem pe_var {i:Nat}{x:Str}{pos:Pos} (hN:X.N[i]?=some x) (hv:Vis X.env.scope x) (hd:(x == ("__debug__" : Str))=false:=by decide) (hcd:(x == ("__classdict__" : Str))=false:=by decide):PE X (.Name x pos) (tVar i):=by
 intro pins s σ H Q I h
 obtain⟨v,e,h⟩:=h
 obtain⟨m,hn,hl⟩:=I.loc
 obtain⟨u,r,l⟩:=hl i x v hN e hv
 have fin:EP X pins σ Q u s:=⟨v,H,I,r,h⟩
 rcases l with ⟨hk,hm⟩ | ⟨hk,c,hc,hcell⟩
 ·exact wpAny_Name (wpAny_loadName_local I.ok.kind hk hn hm fin) hd
 ·rcases hk with hk | hk
  ·exact wpAny_Name (wpAny_loadName_cell I.ok.kind hk hc hcell fin) hd
  ·exact wpAny_Name (wpAny_loadName_free I.ok.kind hk hc hcell fin hcd) hd
theorem pe_int {i j pos}:PE X (.Constant (.int i) j pos) (tC (.int i)):=fun _ _ _ H _ I h=>wpAny_Constant_int ⟨.int i,H,I.tok _,⟨_,rfl⟩,h⟩
theorem pe_bl {b j pos}:PE X (.Constant (.bool b) j pos) (tC (.bl b)):=fun _ _ _ H _ I h=>Constant_bool ⟨.bl b,H,I,rfl,h⟩
theorem pe_non {j pos}:PE X (.Constant .none j pos) (tC .non):=fun _ _ _ H _ I h=>Constant_none ⟨.non,H,I,rfl,h⟩
theorem pe_str {x j pos}:PE X (.Constant (.str x) j pos) (tC (.str x)):=fun _ _ _ H _ I h=>Calls.Constant_str ⟨.str x,H,I.tok _,⟨_,rfl⟩,h⟩
def Gl (X:Cx) (x:Str):Prop:=X.env.kindOf x=some .globalImplicit
theorem ld_glob {E:Value->Shared->Prop}{pins:List (Addr×Obj)}{s:Shared}{σ:St}{H:Hp}{x:Str}{u:Value}{pos:Pos}{Q:Value->Shared->Prop} (I:Inv X pins σ H s) (hg:Gl X x) (hm:X.mg x=some u) (h:Q u s)
  (hd:(x == ("__debug__" : Str))=false:=by decide):wpAny (model X.prog X.w) X.A (eval (.Name x pos) X.env) Q E s :=
 Calls.Name_function_global I.ok.kind hg (Calls.loadGlobal_global (by rw[I.ok.glob]; exact I.mod.glob.keeps I.bk) hm h) hd
theorem ld_blt {E:Value->Shared->Prop}{pins:List (Addr×Obj)}{s:Shared}{σ:St}{H:Hp}{x:Str}{u:Value}{pos:Pos}{Q:Value->Shared->Prop} (I:Inv X pins σ H s) (hg:Gl X x) (hm:X.mg x=none) (hv:bootBuiltins x=some u) (h:Q u s)
  (hn:x ≠ "__name__":=by decide) (hd:(x == ("__debug__" : Str))=false:=by decide):wpAny (model X.prog X.w) X.A (eval (.Name x pos) X.env) Q E s:=by
 obtain⟨mb,h1,h2⟩:=I.mod.blt
 exact Calls.Name_function_global I.ok.kind hg (Calls.loadGlobal_builtin (by rw[I.ok.glob]; exact I.mod.glob.keeps I.bk) hm (by rw[I.ok.blt]; exact h1.keeps I.bk) ((h2 x hn).trans hv) h) hd
theorem pe_glob {x:Str}{v:V}{u:Value}{pos:Pos} (hg:Gl X x) (hm:X.mg x=some u) (r:RelV v u) (hd:(x == ("__debug__" : Str))=false:=by decide):PE X (.Name x pos) (tC v) :=
 fun _ _ _ H _ I h=>ld_glob I hg hm ⟨v,H,I,r,h⟩ hd
theorem pe_bltn {x:Str}{v:V}{u:Value}{pos:Pos} (hg:Gl X x) (hm:X.mg x=none) (hv:bootBuiltins x=some u) (r:RelV v u) (hn:x ≠ "__name__":=by decide) (hd:(x == ("__debug__" : Str))=false:=by decide):PE X (.Name x pos) (tC v) :=
 fun _ _ _ H _ I h=>ld_blt I hg hm hv ⟨v,H,I,r,h⟩ hn hd
variable {a b:Expr}{ta tb:TE}{pos:Pos}
def tB (t:TE):TT:=fun σ H Q=>t σ H fun x H1=>∃ c,x=.bl c/\Q c H1
theorem pt_val {e:Expr}{t:TE} (h:PE X e t) (he:∀ whole,isTrue e X.env whole=(do let v <- whole; standAt e.pos; holding [v] (truthy v)):=by intro _; rfl):PT X e (tB t):=by
 intro pins s σ H Q I hw
 refine isTrue_plain (thn (h pins s σ H _ I hw) fun v s1 ⟨x,H1,I1,r1,q1⟩=>?_) (he _)
 obtain⟨d,rfl,q⟩:=q1
 cases r1
 exact wpAny_truthy_bool ⟨H1,I1,q⟩
variable {tA tB':TT}{rest:List Expr}
def tAnd (t u:TT):TT:=fun σ H Q=>t σ H fun c H1=>if c=true then u σ H1 Q else Q false H1
def tOr (t u:TT):TT:=fun σ H Q=>t σ H fun c H1=>if c=true then Q true H1 else u σ H1 Q
def tNot (t:TT):TT:=fun σ H Q=>t σ H fun c H1=>Q (!c) H1
theorem pw_and1 (ha:PT X a tA):PW X (.BoolOp .And [a] pos) tA:=by
 intro wh pins s σ H Q I h
 refine isTrue_and (thn (ha pins s σ H Q I h) fun c s1 e=>?_)
 cases c with
 | true=>exact isTrue_and_nil e
 | false=>exact e
theorem pw_or1 (ha:PT X a tA):PW X (.BoolOp .Or [a] pos) tA:=by
 intro wh pins s σ H Q I h
 refine isTrue_or (thn (ha pins s σ H Q I h) fun c s1 e=>?_)
 cases c with
 | false=>exact isTrue_or_nil e
 | true=>exact e
theorem pw_and (ha:PT X a tA) (hb:PW X (.BoolOp .And (b::rest) pos) tB'):PW X (.BoolOp .And (a::b::rest) pos) (tAnd tA tB'):=by
 intro wh pins s σ H Q I h
 refine isTrue_and (thn (ha pins s σ H _ I h) fun c s1 ⟨H1,I1,q1⟩=>?_)
 cases c with
 | true=>exact hb wh pins s1 σ H1 Q I1 q1
 | false=>exact⟨H1,I1,q1⟩
theorem pw_or (ha:PT X a tA) (hb:PW X (.BoolOp .Or (b::rest) pos) tB'):PW X (.BoolOp .Or (a::b::rest) pos) (tOr tA tB'):=by
 intro wh pins s σ H Q I h
 refine isTrue_or (thn (ha pins s σ H _ I h) fun c s1 ⟨H1,I1,q1⟩=>?_)
 cases c with
 | true=>exact⟨H1,I1,q1⟩
 | false=>exact hb wh pins s1 σ H1 Q I1 q1
theorem pt_not (ha:PT X a tA):PT X (.UnaryOp .Not a pos) (tNot tA):=by
 intro pins s σ H Q I h
 exact isTrue_not (ha pins s σ H (fun c H1=>Q (!c) H1) I h)
def tAndV (ta tb:TE):TE:=fun σ H Q=>ta σ H fun x H1=>∃ c,x=.bl c/\if c=true then tb σ H1 Q else Q (.bl false) H1
def tNotV (ta:TE):TE:=fun σ H Q=>ta σ H fun x H1=>∃ c,x=.bl c/\Q (.bl (!c)) H1
theorem pe_one {op}{t:TE} (h:PE X a t):PE X (.BoolOp op [a] pos) t:=fun pins s σ H Q I hw=>BoolOp_one (h pins s σ H Q I hw)
theorem pe_and (ha:PE X a ta) (hb:PE X (.BoolOp .And (b::rest) pos) tb):PE X (.BoolOp .And (a::b::rest) pos) (tAndV ta tb):=by
 intro pins s σ H Q I h
 refine BoolOp_and (thn (ha pins s σ H _ I h) fun v s1 ⟨x,H1,I1,r1,q1⟩=>?_)
 obtain⟨c,rfl,q1⟩:=q1
 cases r1
 refine wpAny_truthy_bool ?_
 cases c with
 | true=>exact hb pins s1 σ H1 Q I1 q1
 | false=>exact⟨.bl false,H1,I1,rfl,q1⟩
theorem pe_not (ha:PE X a ta):PE X (.UnaryOp .Not a pos) (tNotV ta):=by
 intro pins s σ H Q I h
 refine UnaryOp_ (thn (ha pins s σ H _ I h) fun v s1 ⟨x,H1,I1,r1,q1⟩=>?_)
 obtain⟨c,rfl,q1⟩:=q1
 cases r1
 exact not_of (wpAny_truthy_bool ⟨.bl (!c),H1,I1,rfl,q1⟩)
def tIf (t:TT) (ta tb:TE):TE:=fun σ H Q=>t σ H fun c H1=>if c=true then ta σ H1 Q else tb σ H1 Q
theorem pe_ifExp {c:Expr} (hc:PT X c tA) (ha:PE X a ta) (hb:PE X b tb):PE X (.IfExp c a b pos) (tIf tA ta tb):=by
 intro pins s σ H Q I h
 refine wpAny_IfExp (thn (hc pins s σ H _ I h) fun d s1 ⟨H1,I1,q1⟩=>?_)
 cases d with
 | true=>exact ha pins s1 σ H1 Q I1 q1
 | false=>exact hb pins s1 σ H1 Q I1 q1
end
end L2
namespace L2
open PySem PySem.Spec PyProof.Rows
def SqL (K:PySem.W.Frag) (H:Hp) (a:Addr) (xs:List V):Prop :=
 Rd H a (.lst xs) ∨
  ∃ (o:Obj) (its:Array Value) (n:Nat),K.lookup a=some o/\o.cls=.type "list" /\ o.dict=none/\o.data=.seq its n/\its.size<=sizeLine/\Vals xs its.toList
def SqT (K:PySem.W.Frag) (H:Hp) (a:Addr) (xs:List V):Prop :=
 Rd H a (.tup xs) ∨
  ∃ (o:Obj) (its:Array Value) (n:Nat),K.lookup a=some o/\o.cls=.type "tuple" /\ o.data=.seq its n/\its.size<=sizeLine/\Vals xs its.toList
def absV:Value->Option V
 | .none=>some .non
 | .bool b=>some (.bl b)
 | .int i _=>some (.int i)
 | .str x _=>some (.str x)
 | .bytes b _=>some (.byt b)
 | .float b _=>some (.flt b)
 | .ref a=>some (.ref a)
 | .type n=>some (.ty n)
 | _=>none
theorem RelV.abs {x:V}{u:Value} (r:RelV x u):absV u=some x:=by
 cases x with
 | non=>cases r; rfl
 | bl _=>cases r; rfl
 | int _=>obtain⟨t,rfl⟩:=r; rfl
 | str _=>obtain⟨t,rfl⟩:=r; rfl
 | byt _=>obtain⟨t,rfl⟩:=r; rfl
 | flt _=>obtain⟨t,rfl⟩:=r; rfl
 | ref _=>cases r; rfl
 | ty _=>cases r; rfl
theorem RelV.inj {x y:V}{u:Value} (r:RelV x u) (q:RelV y u):x=y:=Option.some.inj (r.abs.symm.trans q.abs)
theorem Vals.inj:∀ {xs ys:List V}{us:List Value},Vals xs us->Vals ys us->xs=ys
 | _,_,_,.nil,.nil=>rfl
 | _,_,_,.cons r t,.cons r' t'=>by rw[r.inj r',Vals.inj t t']
section
variable {X:Cx}{pins:List (Addr×Obj)}{σ:St}{H:Hp}{s:Shared}{a:Addr}{xs ys:List V}
theorem SqL.of {K:PySem.W.Frag} (h:H a=some (.lst xs)):SqL K H a xs:=.inl (.inl h)
theorem SqT.of {K:PySem.W.Frag} (h:H a=some (.tup xs)):SqT K H a xs:=.inl (.inl h)
theorem Inv.list (I:Inv X pins σ H s) (h:SqL X.K H a xs):∃ its:List Value,Vals xs its/\PlainL s.heap a its.toArray/\xs.length<=sizeLine:=by
 rcases h with h | ⟨o,its,n,hk,hc,hd,hs,hz,r⟩
 ·obtain⟨z,its,n,r,e⟩:=h.ok I.hok
  exact⟨its,r,⟨_,n,e,rfl,rfl,rfl⟩,z⟩
 ·refine⟨its.toList,r,⟨o,n,I.kIn a o hk,hc,hd,by simpa using hs⟩,?_⟩
  have e:=r.length
  simp only[Array.length_toList] at e
  omega
theorem Inv.tuple (I:Inv X pins σ H s) (h:SqT X.K H a xs):∃ its:List Value,Vals xs its/\IsTup s.heap a its.toArray/\xs.length<=sizeLine:=by
 rcases h with h | ⟨o,its,n,hk,hc,hs,hz,r⟩
 ·obtain⟨z,its,r,p⟩:=h.ok I.hok
  exact⟨its,r,p,z⟩
 ·refine⟨its.toList,r,⟨o,I.kIn a o hk,hc,n,by simpa using hs⟩,?_⟩
  have e:=r.length
  simp only[Array.length_toList] at e
  omega
theorem Inv.list_inj (I:Inv X pins σ H s) (h:SqL X.K H a xs) (h':SqL X.K H a ys):xs=ys:=by
 obtain⟨its,r,⟨o,n,e,_,_,d⟩,_⟩:=I.list h
 obtain⟨its',r',⟨o',n',e',_,_,d'⟩,_⟩:=I.list h'
 rw[e] at e'; cases e'
 rw[d] at d'
 injection d' with d1 _
 have:its=its':=by simpa using congrArg Array.toList d1
 subst this
 exact r.inj r'
theorem Inv.tuple_inj (I:Inv X pins σ H s) (h:SqT X.K H a xs) (h':SqT X.K H a ys):xs=ys:=by
 obtain⟨its,r,⟨o,e,_,n,d⟩,_⟩:=I.tuple h
 obtain⟨its',r',⟨o',e',_,n',d'⟩,_⟩:=I.tuple h'
 rw[e] at e'; cases e'
 rw[d] at d'
 injection d' with d1 _
 have:its=its':=by simpa using congrArg Array.toList d1
 subst this
 exact r.inj r'
end
abbrev Cx.wish (X:Cx) (E:Value->Shared->Prop):Cx:={ X with xe:=E }
abbrev Cx.nox (X:Cx):Cx:=X.wish fun _ _=>False
theorem Cx.Ok.wish {X:Cx} (ok:X.Ok) (E:Value->Shared->Prop):(X.wish E).Ok :=
 ⟨ok.mod,ok.kind,ok.glob,ok.blt,ok.above,ok.inj,ok.has,ok.cab,ok.hd,ok.frames,ok.stk,ok.exf,ok.bs,ok.bsz,ok.noex,ok.exfs,ok.funs,ok.frf⟩
theorem Cx.Ok.unwish {X:Cx}{E:Value->Shared->Prop} (ok:(X.wish E).Ok):X.Ok :=
 ⟨ok.mod,ok.kind,ok.glob,ok.blt,ok.above,ok.inj,ok.has,ok.cab,ok.hd,ok.frames,ok.stk,ok.exf,ok.bs,ok.bsz,ok.noex,ok.exfs,ok.funs,ok.frf⟩
section
variable {X:Cx}{pins:List (Addr×Obj)}{σ:St}{H:Hp}{s:Shared}{E:Value->Shared->Prop}
theorem Inv.wish (I:Inv X pins σ H s) (E:Value->Shared->Prop):Inv (X.wish E) pins σ H s:=⟨I.ok.wish E,I.os,I.bare,I.base,I.loc,I.cell,I.free,I.freeC,I.pin,I.hok,I.len⟩
theorem Inv.unwish (I:Inv (X.wish E) pins σ H s):Inv X pins σ H s:=⟨I.ok.unwish,I.os,I.bare,I.base,I.loc,I.cell,I.free,I.freeC,I.pin,I.hok,I.len⟩
theorem SP.unwish {D:Ends}{f:Flow}{s':Shared} (h:SP (X.wish E) pins D f s'):SP X pins D f s':=by
 cases f with
 | next=>obtain⟨σ',H',I,q⟩:=h; exact⟨σ',H',I.unwish,q⟩
 | brk=>obtain⟨σ',H',I,q⟩:=h; exact⟨σ',H',I.unwish,q⟩
 | cont=>obtain⟨σ',H',I,q⟩:=h; exact⟨σ',H',I.unwish,q⟩
 | ret u=>obtain⟨v,σ',H',I,r,q⟩:=h; exact⟨v,σ',H',I.unwish,r,q⟩
theorem PSs.nox {st:List Stmt}{t:TS} (h:PSs X.nox st t):PSs X st t:=fun pins s σ H D I hw=>
 wpAny_mono (h pins s σ H D (I.wish _) hw) (fun _ _ q=>q.unwish) fun _ _ z=>False.elim z
end
section
variable {X:Cx}{st:Stmt}{rest:List Stmt}{t u:TS}{e:Expr}{te:TE}{pos:Pos}
def tNext:TS:=fun D σ H=>D.nx σ H
def tSeq (t u:TS):TS:=fun D σ H=>t { D with nx:=u D } σ H
theorem pss_nil:PSs X [] tNext:=fun _ _ σ H _ I h=>wpAny_execs_nil ⟨σ,H,I,h⟩
theorem pss_cons (h1:PS X st t) (h2:PSs X rest u):PSs X (st::rest) (tSeq t u):=by
 intro pins s σ H D I h
 refine wpAny_execs_cons (thn (h1 pins s σ H { D with nx:=u D } I h) fun f s1 q=>?_)
 cases f with
 | next=>
  obtain⟨σ',H',I',q⟩:=q
  exact h2 pins s1 σ' H' D I' q
 | ret v=>exact q
 | brk=>exact q
 | cont=>exact q
theorem pss_one (h1:PS X st t):PSs X [st] t:=by
 intro pins s σ H D I h
 refine wpAny_execs_cons (thn (h1 pins s σ H D I h) fun f s1 q=>?_)
 cases f with
 | next=>exact wpAny_execs_nil q
 | ret v=>exact q
 | brk=>exact q
 | cont=>exact q
theorem Inv.quiet {pins:List (Addr×Obj)}{σ:St}{H:Hp}{s:Shared} (I:Inv X pins σ H s):interactive X.env=false:=by simp[interactive,I.ok.kind]
def tDrop (te:TE):TS:=fun D σ H=>te σ H fun _ H1=>D.nx σ H1
theorem ps_expr (he:PE X e te) (hs:swapsWith e none pos.line X.env=pure false:=by rfl):PS X (.Expr e pos) (tDrop te):=by
 intro pins s σ H D I h
 exact wpAny_Expr_any (thn (he pins s σ H _ I h) fun v s1 ⟨x,H1,I1,r1,q1⟩=>⟨σ,H1,I1,q1⟩) I.quiet hs
def tRet (te:TE):TS:=fun D σ H=>te σ H D.rt
theorem ps_ret (he:PE X e te):PS X (.Return (some e) pos) (tRet te):=by
 intro pins s σ H D I h
 exact wpAny_Return_some (thn (he pins s σ H _ I h) fun v s1 ⟨x,H1,I1,r1,q1⟩=>⟨x,σ,H1,I1,r1,q1⟩)
def tIfS (c:TT) (t u:TS):TS:=fun D σ H=>c σ H fun b H1=>if b=true then t D σ H1 else u D σ H1
theorem ps_if {c:Expr}{a b:List Stmt}{tc:TT} (hc:PT X c tc) (ha:PSs X a t) (hb:PSs X b u):PS X (.If c a b pos) (tIfS tc t u):=by
 intro pins s σ H D I h
 refine wpAny_If (thn (hc pins s σ H _ I h) fun d s1 ⟨H1,I1,q1⟩=>?_)
 cases d with
 | true=>exact ha pins s1 σ H1 D I1 q1
 | false=>exact hb pins s1 σ H1 D I1 q1
def tNever:TS:=fun _ _ _=>False
theorem ps_never:PS X st tNever:=fun _ _ _ _ _ _ h=>h.elim
end
abbrev TG:=V->St->Hp->(St->Hp->Prop)->Prop
abbrev TGs:=List V->St->Hp->(St->Hp->Prop)->Prop
def PG (X:Cx) (target:Expr) (t:TG):Prop :=
 ∀ (pins:List (Addr×Obj)) (s:Shared) (σ:St) (H:Hp) (v:V) (u:Value) (Q:St->Hp->Prop),Inv X pins σ H s->RelV v u->t v σ H Q ->
  wpAny (model X.prog X.w) X.A (assign target X.env u) (fun _ s'=>∃ σ' H',Inv X pins σ' H' s'/\Q σ' H') X.xe s
def PGs (X:Cx) (ts:List Expr) (t:TGs):Prop :=
 ∀ (pins:List (Addr×Obj)) (s:Shared) (σ:St) (H:Hp) (vs:List V) (us:List Value) (Q:St->Hp->Prop),Inv X pins σ H s->Vals vs us->t vs σ H Q ->
  wpAny (model X.prog X.w) X.A (assignInOrder ((assignEach ts X.env).map (·.2)) us) (fun _ s'=>∃ σ' H',Inv X pins σ' H' s'/\Q σ' H') X.xe s
abbrev TSet:=V->V->V->Hp->(Hp->Prop)->Prop
def PSet (X:Cx) (t:TSet):Prop :=
 ∀ (pins:List (Addr×Obj)) (s:Shared) (σ:St) (H:Hp) (o i v:V) (ov iv u:Value) (Q:Hp->Prop),Inv X pins σ H s->RelV o ov->RelV i iv->RelV v u->t o i v H Q ->
  wpAny (model X.prog X.w) X.A (setItem ov iv u) (fun _ s'=>∃ H',Inv X pins σ H' s'/\Q H') X.xe s
section
variable {X:Cx}{pos:Pos}
def gName (i:Nat):TG:=fun v σ H Q=>Q (σ.set i (some v)) H
theorem pg_name {i:Nat}{x:Str} (hN:X.N.Nodup) (hi:X.N[i]?=some x) (hx:Loc X.env.scope x) (hf:X.fn x=true∨X.env.scope.names.lookup x=some .local:=by first | exact .inl rfl | exact .inr rfl | assumption):PG X (.Name x pos) (gName i):=by
 intro pins s σ H v u Q I r h
 exact wpAny_assign_Name (store_ok I hN hi hx r (fun s' I'=>⟨_,H,I',h⟩) hf)
def gNil:TGs:=fun vs σ H Q=>vs=[]/\Q σ H
def gCons (t:TG) (u:TGs):TGs:=fun vs σ H Q=>∃ v r,vs=v::r/\t v σ H fun σ' H'=>u r σ' H' Q
theorem pgs_nil:PGs X [] gNil:=by
 intro pins s σ H vs us Q I r h
 obtain⟨e,h⟩:=h
 subst e
 cases r
 exact assignInOrder_nil ⟨σ,H,I,h⟩
theorem pgs_cons {e:Expr}{es:List Expr}{t:TG}{u:TGs} (h1:PG X e t) (h2:PGs X es u)
  (hs:(assignEach (e::es) X.env).map (·.2)=assign e X.env::(assignEach es X.env).map (·.2):=by rfl):PGs X (e::es) (gCons t u):=by
 intro pins s σ H vs us Q I r h
 obtain⟨v,vr,e1,h⟩:=h
 subst e1
 cases r with
 | cons r rr=>
  rw[hs]
  refine assignInOrder_cons (thn (h1 pins s σ H _ _ _ I r h) fun _ s1 ⟨σ1,H1,I1,q1⟩=>?_)
  exact h2 pins s1 σ1 H1 _ _ Q I1 rr q1
def gTup (K:PySem.W.Frag) (n:Nat) (t:TGs):TG:=fun v σ H Q=>∃ a xs,v=.ref a/\SqT K H a xs/\xs.length=n/\t xs σ H Q
theorem pg_tup {es:List Expr}{k:Nat}{t:TGs}{n:Nat} (hc:X.calm=true) (h:PGs X es t)
  (hn:(assignEach es X.env).length=n:=by rfl) (hst:(assignEach es X.env).findIdx? (·.1)=none:=by rfl):PG X (.Tuple es k pos) (gTup X.K n t):=by
 intro pins s σ H v u Q I r hw
 obtain⟨a,xs,e1,hq,hl,hw⟩:=hw
 subst e1
 cases r
 obtain⟨its,rv,ht,hz⟩:=I.tuple hq
 refine assign_Tuple_tuple (I.ok.hd hc) ht (by simp[hn,<- hl,rv.length]) hst fun h' hx=>?_
 have I1:Inv X pins σ H { s with heap:=h' }:=I.kept (t':=s.toks) fun b o e=>hx b o (Nat.ne_of_lt (Heap.lt_size e)) e
 exact h pins _ σ H xs _ Q I1 (by simpa using rv) hw
def gSub (to ti:TE) (t:TSet):TG:=fun v σ H Q=>to σ H fun o H1=>ti σ H1 fun i H2=>t o i v H2 fun H3=>Q σ H3
theorem pg_sub {o i:Expr}{to ti:TE}{t:TSet} (ho:PE X o to) (hi:PE X i ti) (hs:PSet X t)
  (ha:∀ v,assign (.Subscript o i pos) X.env v=(do
   let ov <- holding [v] (eval o X.env)
   let iv <- holding [v,ov] (eval i X.env)
   standAt pos
   holding [v,ov,iv] (setItem ov iv v)
   release [v,ov,iv] []):=by intro _; rfl):PG X (.Subscript o i pos) (gSub to ti t):=by
 intro pins s σ H v u Q I r h
 rw[ha]
 refine wpAny_bind (wpAny_holding (thn (ho pins s σ H _ I h) fun ov s1 ⟨x,H1,I1,r1,q1⟩=>?_))
 refine wpAny_bind (wpAny_holding (thn (hi pins s1 σ H1 _ I1 q1) fun iv s2 ⟨y,H2,I2,r2,q2⟩=>?_))
 refine wpAny_bind (wpAny_standAt (wpAny_bind (wpAny_holding (thn (hs pins s2 σ H2 x y v ov iv u _ I2 r1 r2 r q2) fun _ s3 ⟨H3,I3,q3⟩=>?_))))
 exact wpAny_release ⟨σ,H3,I3,q3⟩
def tAsg (te:TE) (g:TG):TS:=fun D σ H=>te σ H fun x H1=>g x σ H1 D.nx
theorem ps_asg {tg e:Expr}{te:TE}{g:TG} (he:PE X e te) (hg:PG X tg g) (hs:swapsWithSole [tg] e pos.line X.env=pure false:=by rfl) (hw:swappedStores [tg] e X.env=pure none:=by rfl)
  (h1:(assignEach [tg] X.env).map (·.2)=[assign tg X.env]:=by rfl):PS X (.Assign [tg] e pos) (tAsg te g):=by
 intro pins s σ H D I h
 refine wpAny_Assign_stores (thn (he pins s σ H _ I h) fun v s1 ⟨x,H1,I1,r1,q1⟩=>?_) hs hw
 rw[h1]
 exact thn (hg pins s1 σ H1 x v _ I1 r1 q1) fun _ s2 q=>q
theorem ps_set {i:Nat}{x:Str}{e:Expr}{te:TE}{pos':Pos} (hN:X.N.Nodup) (hi:X.N[i]?=some x) (hx:Loc X.env.scope x) (he:PE X e te) (hs:swapsWith e (some (.Name x pos')) pos.line X.env=pure false:=by rfl) (hf:X.fn x=true∨X.env.scope.names.lookup x=some .local:=by first | exact .inl rfl | exact .inr rfl | assumption) :
  PS X (.Assign [.Name x pos'] e pos) (tAsg te (gName i)):=by
 intro pins s σ H D I h
 refine wpAny_Assign_Name (thn (he pins s σ H _ I h) fun v s1 ⟨y,H1,I1,r1,q1⟩=>?_) hs
 exact store_ok I1 hN hi hx r1 (fun s2 I2=>⟨_,H1,I2,q1⟩) hf
end
section
variable {X:Cx}{pos:Pos}
def tWhile (c:TT) (tb:TS):TS:=fun D σ H=>∃ W:Nat->St->Hp->Prop,(∃ m,W m σ H)/\∀ m σ H,W m σ H ->
 c σ H fun b H1=>if b=true then ∃ N:St->Hp->Prop,(∀ σ' H',N σ' H'->∃ m',m'<m/\W m' σ' H')/\tb { D with nx:=N,ct:=N,bk:=D.nx } σ H1 else D.nx σ H1
theorem ps_while {c:Expr}{body:List Stmt}{tc:TT}{tb:TS} (hp:PassesOwn (model X.prog X.w) X.A X.env X.xe) (hc:PT X c tc) (hb:PSs X body tb):PS X (.While c body [] pos) (tWhile tc tb):=by
 intro pins s σ H D I h
 obtain⟨W,⟨m0,w0⟩,turn⟩:=h
 refine wpAny_While (codeAny_whileLoop (fun n s'=>∃ σ' H',Inv X pins σ' H' s'/\W n σ' H') ?_ m0 ⟨σ,H,I,w0⟩)
 rintro n s1 ⟨σ1,H1,I1,w1⟩
 refine wpAny_passesOwn hp (thn (hc pins s1 σ1 H1 _ I1 (turn n σ1 H1 w1)) fun b s2 ⟨H2,I2,q2⟩=>?_)
 cases b with
 | true=>
  obtain⟨N,hN,q2⟩:=q2
  rw[if_pos rfl]
  refine wpAny_passesOwn hp (thn (hb pins s2 σ1 H2 _ I2 q2) fun f s3 q3=>?_)
  cases f with
  | next=>
   obtain⟨σ3,H3,I3,n3⟩:=q3
   obtain⟨m',hm,w3⟩:=hN σ3 H3 n3
   exact⟨m',hm,σ3,H3,I3,w3⟩
  | cont=>
   obtain⟨σ3,H3,I3,n3⟩:=q3
   obtain⟨m',hm,w3⟩:=hN σ3 H3 n3
   exact⟨m',hm,σ3,H3,I3,w3⟩
  | brk=>exact q3
  | ret v=>exact q3
 | false=>
  rw[if_neg Bool.false_ne_true]
  exact wpAny_execs_nil ⟨σ1,H2,I2,q2⟩
end
set_option genInjectivity false in
set_option genSizeOf false in
structure It where
 go:Nat->Hp->Prop
 yld:Nat->Hp->V->Hp->Prop
 stop:Nat->Hp->Prop
def FpOk (X:Cx) (pins:List (Addr×Obj)) (H:Hp) (b:Addr):Prop :=
 H b=none/\b≠X.env.locals/\b ∉ X.fs/\(b ∈ X.ex∨X.s₀.heap.objs.size<=b)/\(∀ x c,X.env.cells.lookup x=some c->c≠b)/\∀ p ∈ X.pn++pins,p.1≠b
theorem Inv.fpOk {X:Cx}{pins:List (Addr×Obj)}{σ:St}{H H':Hp}{s:Shared}{b:Addr} (I:Inv X pins σ H s) (hb:s.heap.objs.size<=b) (hn:H' b=none):FpOk X pins H' b:=by
 refine⟨hn,Nat.ne_of_gt (Nat.lt_of_lt_of_le I.lt hb),I.nofs hb,.inr (Nat.le_trans I.sz hb),fun x c e z=>?_,fun p hp z=>?_⟩
 ·obtain⟨v,q⟩:=I.cell x c e
  exact absurd (Nat.lt_of_lt_of_le q.lt (by rw[z]; exact hb)) (Nat.lt_irrefl _)
 ·exact absurd (Nat.lt_of_lt_of_le (Heap.lt_size (I.pin p hp).1) (by rw[z]; exact hb)) (Nat.lt_irrefl _)
structure Turn (P:Program) (w:World) (K:PySem.W.Frag) (tg:Expr) (J:It) (fp:List Addr) (it:Addr) (tn:Nat->Heap->Prop):Prop where
 mem:it ∈ fp
 obj:∀ i h,tn i h->∀ b ∈ fp,∃ o,h.get? b=some o/\∀ v,o.data≠.cell v
 keep:∀ i h h',tn i h->(∀ b ∈ fp,∀ o,h.get? b=some o->h'.get? b=some o)->tn i h'
 item:∀ (X:Cx),X.prog=P->X.w=w->X.K=K->X.calm=true->∀ (i:Nat) (pins:List (Addr×Obj)) (s:Shared) (σ:St) (H:Hp) (E:Value->Shared->Prop),Inv X pins σ H s->(∀ b ∈ fp,FpOk X pins H b)->tn i s.heap->J.go i H ->
  wpAny (model P w) X.A (pyNext (.ref it)) (fun r s1=>∃ u,r=some u /\
   wpAny (model P w) X.A (letOwnedTupleGo tg (.ref it) u) (fun _ s2=>∃ x H',Inv X pins σ H' s2/\RelV x u/\J.yld i H x H'/\tn (i+1) s2.heap/\∀ b ∈ fp,H' b=none) E s1) E s
 done:∀ (X:Cx),X.prog=P->X.w=w->X.K=K->X.calm=true->∀ (i:Nat) (pins:List (Addr×Obj)) (s:Shared) (σ:St) (H:Hp) (E:Value->Shared->Prop),Inv X pins σ H s->(∀ b ∈ fp,FpOk X pins H b)->tn i s.heap->J.stop i H ->
  wpAny (model P w) X.A (pyNext (.ref it)) (fun r s1=>r=none/\Inv X pins σ H s1) E s
 self:∀ (A:Around) (i:Nat) (s:Shared) (Q:Value->Shared->Prop) (E:Value->Shared->Prop),tn i s.heap->Q (.ref it) s->wpAny (model P w) A (pyIter (.ref it)) Q E s
abbrev TI:=St->Hp->(It->Hp->Prop)->Prop
def PIE (X:Cx) (pins:List (Addr×Obj)) (σ:St) (tg:Expr) (R:It->Hp->Prop) (itv:Value) (s2:Shared):Prop :=
 ∃ (it:Addr) (fp:List Addr) (tn:Nat->Heap->Prop) (J:It) (H':Hp),itv=.ref it/\Inv X pins σ H' s2/\Turn X.prog X.w X.K tg J fp it tn/\tn 0 s2.heap/\(∀ b ∈ fp,FpOk X pins H' b)/\R J H'
def PI (X:Cx) (tg iter:Expr) (wi:TI):Prop :=
 ∀ (pins:List (Addr×Obj)) (s:Shared) (σ:St) (H:Hp) (R:It->Hp->Prop),Inv X pins σ H s->wi σ H R ->
  wpAny (model X.prog X.w) X.A (eval iter X.env) (fun v s1=>wpAny (model X.prog X.w) X.A (pyIter v) (PIE X pins σ tg R) X.xe s1) X.xe s
theorem go_of {M : Model}{A : Around}{E : Value->Shared->Prop}{s : Shared}{tg : Expr}{it : Addr}{u : Value}{o : Obj}{n : String}{vs : Array Value}{Q : Unit->Shared->Prop} (ho : s.heap.get? it=some o) (hc : o.cls=.type n) (hd : o.data=.fields vs)
    (hn : ["enumerate", "zip", "dict_itemiterator", "dict_reverseitemiterator", "odict_iterator", "itertools.zip_longest", "itertools.pairwise"].contains n=false) (hQ : Q () s) : wpAny M A (letOwnedTupleGo tg (.ref it) u) Q E s := by
  unfold letOwnedTupleGo
  cases tg <;> first
    | exact wpAny_pure hQ
    | (cases u <;> first
        | exact wpAny_pure hQ
        | (refine wpAny_bind (wpAny_load ho ?_)
           rw[hc, hd]
           show wpAny M A (if (["enumerate", "zip", "dict_itemiterator", "dict_reverseitemiterator", "odict_iterator", "itertools.zip_longest", "itertools.pairwise"].contains n && vs[0]? == some (rawInt _))=true then _ else _) Q E s
           rw[if_neg (by intro h; rw[hn, Bool.false_and] at h; cases h)]
           exact wpAny_pure hQ))
def Itl (K:PySem.W.Frag) (a:Addr):It :=
 ⟨fun i H=>∃ xs x,SqL K H a xs/\xs[i]?=some x,fun i H x H'=>H'=H/\∀ xs,SqL K H a xs->xs[i]?=some x,fun i H=>∃ xs,SqL K H a xs/\xs.length<=i⟩
def Itt (K:PySem.W.Frag) (a:Addr):It :=
 ⟨fun i H=>∃ xs x,SqT K H a xs/\xs[i]?=some x,fun i H x H'=>H'=H/\∀ xs,SqT K H a xs->xs[i]?=some x,fun i H=>∃ xs,SqT K H a xs/\xs.length<=i⟩
def Itr (lo:Int) (n:Nat):It:=⟨fun i _=>i<n,fun i H x H'=>H'=H/\x=.int (lo+i),fun i _=>n<=i⟩
theorem turn_list {P:Program}{w:World}{K:PySem.W.Frag}{tg:Expr} (a it:Addr):Turn P w K tg (Itl K a) [it] it (fun i h=>h.IsListIter it a i) where
 mem:=by simp
 obj:=fun i h st b hb=>by
  have e:b=it:=by simpa using hb
  subst e
  obtain⟨o,e,c,d⟩:=st
  exact⟨o,e,fun v z=>by rw[d] at z; cases z⟩
 keep:=fun i h h' st k=>st.at fun o e=>k it (by simp) o e
 item:=by
  intro X hP hw hK hc i pins s σ H E I hf st hg
  subst hP hw hK
  obtain⟨xs,x,hq,hx⟩:=hg
  obtain⟨its,rv,p,hz⟩:=I.list hq
  obtain⟨u,hu,ru⟩:=rv.get hx
  obtain⟨f0,f1,f2,f3,f4,f5⟩:=hf it (by simp)
  refine wpAny_pyNext_list_item st p.isList (x:=u) (by simpa using hu) fun h' st' sb=>?_
  have I1:Inv X pins σ H { s with heap:=h' }:=I.turned (t':=s.toks) (fun b o hb e=>(sb.2 b hb).trans e) f0 f1 f3 f4 f5
  obtain⟨o,e,c,d⟩:=id st'
  exact⟨u,rfl,go_of (s:={ s with heap:=h' }) e c d (by decide) ⟨x,H,I1,ru,⟨rfl,fun ys hy=>by rw[I.list_inj hy hq]; exact hx⟩,st',fun b hb=>(hf b hb).1⟩⟩
 done:=by
  intro X hP hw hK hc i pins s σ H E I hf st hg
  subst hP hw hK
  obtain⟨xs,hq,hx⟩:=hg
  obtain⟨its,rv,p,hz⟩:=I.list hq
  obtain⟨f0,f1,f2,f3,f4,f5⟩:=hf it (by simp)
  have hl:=rv.length
  exact wpAny_pyNext_list_end (I.ok.hd hc) st p.isList (by simp; omega) fun h' eb=>⟨rfl,I.turned (t':=s.toks) (fun b o hb e=>eb b o hb e) f0 f1 f3 f4 f5⟩
 self:=fun _ _ _ _ _ st h=>wpAny_pyIter_listiter st h
theorem turn_range {P:Program}{w:World}{K:PySem.W.Frag}{tg:Expr} (it:Addr) (lo:Int) (n:Nat):Turn P w K tg (Itr lo n) [it] it (fun i h=>IsRangeIter h it (lo+(i:Nat)*1) ((n:Int) - (i:Nat)) 1) where
 mem:=by simp
 obj:=fun i h st b hb=>by
  have e:b=it:=by simpa using hb
  subst e
  exact⟨_,st,fun v z=>by
   have z':Data.fields _=Data.cell v:=z
   cases z'⟩
 keep:=fun i h h' st k=>k it (by simp) _ st
 item:=by
  intro X hP hw hK hc i pins s σ H E I hf st hg
  subst hP hw hK
  obtain⟨f0,f1,f2,f3,f4,f5⟩:=hf it (by simp)
  have W:=Walks.range (prog:=X.prog) (w:=X.w) (I.ok.hd hc) it lo 1 n
  refine W.item i s _ _ hg st fun v h' tk hv st' kk=>?_
  obtain⟨t,rfl⟩:=hv
  have I1:Inv X pins σ H { s with heap:=h',toks:=tk }:=I.turned (fun b o hb e=>kk b o (by simpa using hb) e) f0 f1 f3 f4 f5
  refine⟨_,rfl,go_of (s:={ s with heap:=h',toks:=tk }) (n := "range_iterator") st' rfl rfl (by decide) ⟨.int (lo+i),H,I1,⟨t,?_⟩,⟨rfl,rfl⟩,st',fun b hb=>(hf b hb).1⟩⟩
  rw[Int.mul_one]
 done:=by
  intro X hP hw hK hc i pins s σ H E I hf st hg
  subst hP hw hK
  obtain⟨f0,f1,f2,f3,f4,f5⟩:=hf it (by simp)
  exact wpAny_pyNext_range_end (I.ok.hd hc) st (by have:n<=i:=hg; omega) fun h' eb=>⟨rfl,I.turned (t':=s.toks) (fun b o hb e=>eb b o hb e) f0 f1 f3 f4 f5⟩
 self:=fun _ _ _ _ _ st h=>wpAny_pyIter_rangeiter st h
end L2
namespace L2
open PySem PySem.Spec PyProof.Rows
section
variable {X:Cx}{tg:Expr}
def iList (K:PySem.W.Frag) (tl:TE):TI:=fun σ H R=>tl σ H fun x H1=>∃ a,x=.ref a/\(∃ xs,SqL K H1 a xs)/\R (Itl K a) H1
theorem pi_list {l:Expr}{tl:TE} (hl:PE X l tl):PI X tg l (iList X.K tl):=by
 intro pins s σ H R I h
 refine thn (hl pins s σ H _ I h) fun v s1 ⟨x,H1,I1,r1,q1⟩=>?_
 obtain⟨a,e,⟨xs,hq⟩,q⟩:=q1
 subst e
 cases r1
 obtain⟨its,rv,p,hz⟩:=I1.list hq
 refine wpAny_pyIter_list p.isList ?_
 refine⟨s1.heap.objs.size,[s1.heap.objs.size],_,_,H1,rfl,I1.kept (t':=s1.toks) fun b o e=>Heap.get?_push_of_some _ e,turn_list a _,⟨_,Heap.get?_push_size _ rfl,rfl,rfl⟩,fun b hb=>?_,q⟩
 have e:b=s1.heap.objs.size:=by simpa using hb
 subst e
 exact I1.fpOk (Nat.le_refl _) (I1.hok.fresh (Nat.le_refl _))
theorem range_it {pins:List (Addr×Obj)}{σ:St}{H:Hp}{s:Shared}{R:It->Hp->Prop}{E:Value->Shared->Prop}{lo hi:Int}{t u v:Tok}{tk:Nat} (I:Inv X pins σ H s) (h1:-(2 ^ 62)<=lo) (h2:lo<2 ^ 62) (h3:-(2 ^ 62)<=hi) (h4:hi<2 ^ 62)
  (q:R (Itr lo (hi - lo).toNat) H):wpAny (model X.prog X.w) X.A (pyIter (.ref s.heap.objs.size)) (PIE X pins σ tg R) E { s with heap:=s.heap.push { cls:=.type "range",data:=.fields #[.int lo t,.int hi u,.int 1 v] },toks:=tk }:=by
 refine wpAny_pyIter_range (IsRange.new ..) (small_one h1 h2 h3 h4) ?_
 have I1:Inv X pins σ H { s with heap:=s.heap.push { cls:=.type "range",data:=.fields #[.int lo t,.int hi u,.int 1 v] },toks:=tk }:=I.kept fun b o e=>Heap.get?_push_of_some _ e
 refine⟨(s.heap.push { cls:=.type "range",data:=.fields #[.int lo t,.int hi u,.int 1 v] }).objs.size,[(s.heap.push { cls:=.type "range",data:=.fields #[.int lo t,.int hi u,.int 1 v] }).objs.size],_,_,H,rfl,
  I1.kept (t':=tk) fun b o e=>Heap.get?_push_of_some _ e,turn_range _ lo (hi - lo).toNat,?_,fun b hb=>?_,q⟩
 ·have e1:lo+((0:Nat):Int)*1=lo:=by simp
  have e2:(((hi - lo).toNat:Nat):Int) - ((0:Nat):Int)=Builtin.Range.rangeSize lo hi 1:=by rw[rangeSize_one]; split <;> omega
  show IsRangeIter _ _ (lo+((0:Nat):Int)*1) ((((hi - lo).toNat:Nat):Int) - ((0:Nat):Int)) 1
  rw[e1,e2]
  exact Heap.get?_push_size _ rfl
 ·have e:b=(s.heap.push { cls:=.type "range",data:=.fields #[.int lo t,.int hi u,.int 1 v] }).objs.size:=by simpa using hb
  subst e
  exact I1.fpOk (Nat.le_refl _) (I1.hok.fresh (Nat.le_refl _))
def iRng1 (ta:TA):TI:=fun σ H R=>ta σ H fun vs H1=>∃ j:Int,vs=[.int j]/\-(2 ^ 62)<=j/\j<2 ^ 62/\R (Itr 0 j.toNat) H1
theorem pi_range1 {a:Expr}{ta:TA}{p pos:Pos} (hg:Gl X "range") (hm:X.mg "range" = none) (ha:PA X [a] ta) (hs:starEach [a] X.env=[(false,eval a X.env)]:=by rfl):PI X tg (.Call (.Name "range" p) [a] [] pos) (iRng1 ta):=by
 intro pins s σ H R I h
 refine Call_ (ld_blt I hg hm boot_range (PyProof.Rows.callWith_type1 (thn (ha pos pins s σ H _ I h) fun us s1 ⟨vs,H1,I1,r1,q1⟩=>?_) hs rfl))
 obtain⟨j,e,q1,q2,q⟩:=q1
 subst e
 cases r1 with
 | cons r rr=>
  cases rr
  obtain⟨t,rfl⟩:=r
  exact call_range_1 (range_it I1 (by omega) (by omega) q1 q2 (by simpa using q))
def tFor (wi:TI) (g:TG) (tb:TS):TS:=fun D σ H=>wi σ H fun J H1=>∃ W:Nat->Nat->St->Hp->Prop,(∃ m,W 0 m σ H1)/\∀ i m σ H,W i m σ H ->
 (J.stop i H/\D.nx σ H)∨(J.go i H/\∃ N:St->Hp->Prop,(∀ σ' H',N σ' H'->∃ m',m'<m/\W (i+1) m' σ' H')/\∀ x H',J.yld i H x H'->g x σ H' fun σ2 H2=>tb { D with nx:=N,ct:=N,bk:=D.nx } σ2 H2)
def pinsAt (fp:List Addr) (h:Heap):List (Addr×Obj):=fp.filterMap fun b=>(h.get? b).map fun o=>(b,o)
theorem mem_pinsAt {fp:List Addr}{h:Heap}{b:Addr}{o:Obj} (hb:b ∈ fp) (e:h.get? b=some o):(b,o) ∈ pinsAt fp h:=List.mem_filterMap.mpr ⟨b,hb,by rw[e]; rfl⟩
theorem of_pinsAt {fp:List Addr}{h:Heap}{p:Addr×Obj} (hp:p ∈ pinsAt fp h):p.1 ∈ fp/\h.get? p.1=some p.2:=by
 obtain⟨b,hb,e⟩:=List.mem_filterMap.mp hp
 cases q:h.get? b with
 | none=>rw[q] at e; cases e
 | some o=>
  rw[q] at e
  have e':(b,o)=p:=Option.some.inj e
  subst e'
  exact⟨hb,q⟩
theorem Inv.pinned {pins:List (Addr×Obj)}{σ:St}{H:Hp}{s:Shared}{fp:List Addr} (I:Inv X pins σ H s) (hf:∀ b ∈ fp,FpOk X pins H b) (ho:∀ b ∈ fp,∃ o,s.heap.get? b=some o/\∀ v,o.data≠.cell v):Inv X (pins++pinsAt fp s.heap) σ H s :=
 I.pins_of fun p hp=>(mem_append.mp hp).elim (fun z=>I.pin p (mem_append_right _ z)) fun z=>by
  obtain⟨hb,e⟩:=of_pinsAt z
  obtain⟨f0,f1,f2,_⟩:=hf p.1 hb
  obtain⟨o,e',d⟩:=ho p.1 hb
  rw[e] at e'; cases e'
  exact⟨e,f0,f1,f2,d⟩
theorem Inv.unpinned {pins pl:List (Addr×Obj)}{σ:St}{H:Hp}{s:Shared} (I:Inv X (pins++pl) σ H s):Inv X pins σ H s:=I.pins_of fun p hp=>I.pin p (mem_append_right _ (mem_append_left _ hp))
theorem ps_for {iter:Expr}{body:List Stmt}{wi:TI}{g:TG}{tb:TS}{pos:Pos} (hp:PassesOwn (model X.prog X.w) X.A X.env X.xe) (hc:X.calm=true) (hi:PI X tg iter wi) (hg:PG X tg g) (hb:PSs X body tb)
  (hs:∀ x,foldedSetIterable iter X.env x=pure x:=by intro _; rfl):PS X (.For tg iter body [] pos) (tFor wi g tb):=by
 intro pins s σ H D I h
 refine wpAny_For (thn (hi pins s σ H _ I h) fun v s1 h1=>thn h1 fun itv s2 h2=>?_) hs
 obtain⟨it,fp,tn,J,H2,e,I2,T,st2,f2,W,⟨m0,w0⟩,turn⟩:=h2
 subst e
 have stat:∀ {H':Hp},(∀ b ∈ fp,H' b=none)->∀ b ∈ fp,FpOk X pins H' b:=fun hn b hb=>⟨hn b hb,(f2 b hb).2⟩
 refine codeAny_forLoop_any (fun n s'=>∃ i σ' H',Inv X pins σ' H' s'/\tn i s'.heap/\(∀ b ∈ fp,H' b=none)/\W i n σ' H') ?_ m0 ⟨0,σ,H2,I2,st2,fun b hb=>(f2 b hb).1,w0⟩
 rintro n s3 ⟨i,σ3,H3,I3,st3,fr3,w3⟩
 rcases turn i n σ3 H3 w3 with ⟨stop,qn⟩ | ⟨go,N,hN,step⟩
 ·refine wpAny_passesOwn hp (thn (T.done X rfl rfl rfl hc i pins s3 σ3 H3 X.xe I3 (stat fr3) st3 stop) fun r s4 ⟨hr,I4⟩=>?_)
  subst hr
  exact wpAny_execs_nil ⟨σ3,H3,I4,qn⟩
 ·refine wpAny_passesOwn hp (thn (T.item X rfl rfl rfl hc i pins s3 σ3 H3 X.xe I3 (stat fr3) st3 go) fun r s4 ⟨u,hr,h4⟩=>?_)
  subst hr
  refine wpAny_passesOwn hp (thn h4 fun _ s5 ⟨x,H5,I5,r5,y5,st5,fr5⟩=>?_)
  have I5':=I5.pinned (stat fr5) (T.obj _ _ st5)
  refine wpAny_passesOwn hp (thn (hg _ s5 σ3 H5 x u _ I5' r5 (step x H5 y5)) fun _ s6 ⟨σ6,H6,I6,q6⟩=>?_)
  refine wpAny_passesOwn hp (thn (hb _ s6 σ6 H6 _ I6 q6) fun f s7 q7=>?_)
  have again:∀ {σ7:St}{H7:Hp},Inv X (pins++pinsAt fp s5.heap) σ7 H7 s7->N σ7 H7->∃ m,m<n/\∃ i σ' H',Inv X pins σ' H' s7/\tn i s7.heap/\(∀ b ∈ fp,H' b=none)/\W i m σ' H':=fun {σ7 H7} I7 n7=>by
   obtain⟨m',hm,w7⟩:=hN σ7 H7 n7
   refine⟨m',hm,i+1,σ7,H7,I7.unpinned,T.keep _ _ _ st5 fun b hb o e=>(I7.pin (b,o) (mem_append_right _ (mem_append_right _ (mem_pinsAt hb e)))).1,fun b hb=>?_,w7⟩
   obtain⟨o,e,d⟩:=T.obj _ _ st5 b hb
   exact(I7.pin (b,o) (mem_append_right _ (mem_append_right _ (mem_pinsAt hb e)))).2.1
  cases f with
  | next=>obtain⟨σ7,H7,I7,n7⟩:=q7; exact again I7 n7
  | cont=>obtain⟨σ7,H7,I7,n7⟩:=q7; exact again I7 n7
  | brk=>obtain⟨σ7,H7,I7,q7⟩:=q7; exact⟨σ7,H7,I7.unpinned,q7⟩
  | ret v=>obtain⟨x7,σ7,H7,I7,r7,q7⟩:=q7; exact⟨x7,σ7,H7,I7.unpinned,r7,q7⟩
end
theorem for_list {K:PySem.W.Frag}{a:Addr}{xs:List V}{g:TG}{tb:TS}{D:Ends}{σ:St}{H:Hp} (Pv:Nat->St->Hp->Prop) (h0:Pv 0 σ H) (hl:∀ i σ H,i<=xs.length->Pv i σ H->SqL K H a xs)
  (hs:∀ i x σ H,xs[i]?=some x->Pv i σ H->g x σ H fun σ2 H2=>tb { D with nx:=Pv (i+1),ct:=Pv (i+1),bk:=D.nx } σ2 H2) (hd:∀ σ H,Pv xs.length σ H->D.nx σ H) :
  ∃ W:Nat->Nat->St->Hp->Prop,(∃ m,W 0 m σ H)/\∀ i m σ H,W i m σ H ->
   ((Itl K a).stop i H/\D.nx σ H)∨((Itl K a).go i H/\∃ N:St->Hp->Prop,(∀ σ' H',N σ' H'->∃ m',m'<m/\W (i+1) m' σ' H')/\∀ x H',(Itl K a).yld i H x H'->g x σ H' fun σ2 H2=>tb { D with nx:=N,ct:=N,bk:=D.nx } σ2 H2):=by
 refine⟨fun i m σ H=>m=xs.length - i/\i<=xs.length/\Pv i σ H,⟨xs.length,by simp,Nat.zero_le _,h0⟩,?_⟩
 rintro i m σ H ⟨rfl,hi,p⟩
 have q:=hl i σ H hi p
 by_cases hlt:i<xs.length
 ·refine .inr ⟨⟨xs,xs[i],q,by simp[hlt]⟩,Pv (i+1),fun σ' H' p'=>⟨xs.length - (i+1),by omega,rfl,hlt,p'⟩,fun x H' y=>?_⟩
  obtain⟨e,y⟩:=y
  subst e
  exact hs i x σ _ (y xs q) p
 ·have e:i=xs.length:=by omega
  subst e
  exact .inl ⟨⟨xs,q,Nat.le_refl _⟩,hd σ H p⟩
theorem for_range {lo:Int}{n:Nat}{g:TG}{tb:TS}{D:Ends}{σ:St}{H:Hp} (Pv:Nat->St->Hp->Prop) (h0:Pv 0 σ H)
  (hs:∀ i σ H,i<n->Pv i σ H->g (.int (lo+i)) σ H fun σ2 H2=>tb { D with nx:=Pv (i+1),ct:=Pv (i+1),bk:=D.nx } σ2 H2) (hd:∀ σ H,Pv n σ H->D.nx σ H) :
  ∃ W:Nat->Nat->St->Hp->Prop,(∃ m,W 0 m σ H)/\∀ i m σ H,W i m σ H ->
   ((Itr lo n).stop i H/\D.nx σ H)∨((Itr lo n).go i H/\∃ N:St->Hp->Prop,(∀ σ' H',N σ' H'->∃ m',m'<m/\W (i+1) m' σ' H')/\∀ x H',(Itr lo n).yld i H x H'->g x σ H' fun σ2 H2=>tb { D with nx:=N,ct:=N,bk:=D.nx } σ2 H2):=by
 refine⟨fun i m σ H=>m=n - i/\i<=n/\Pv i σ H,⟨n,by simp,Nat.zero_le _,h0⟩,?_⟩
 rintro i m σ H ⟨rfl,hi,p⟩
 by_cases hlt:i<n
 ·refine .inr ⟨hlt,Pv (i+1),fun σ' H' p'=>⟨n - (i+1),by omega,rfl,hlt,p'⟩,fun x H' y=>?_⟩
  obtain⟨e,y⟩:=y
  subst e y
  exact hs i σ _ hlt p
 ·have e:i=n:=by omega
  subst e
  exact .inl ⟨Nat.le_refl _,hd σ H p⟩
theorem while_by {c:TT}{tb:TS}{D:Ends}{σ:St}{H:Hp} (Pv:St->Hp->Prop) (μ:St->Hp->Nat) (h0:Pv σ H)
  (hs:∀ σ H,Pv σ H->c σ H fun b H1=>if b=true then tb { D with nx:=fun σ' H'=>Pv σ' H'/\μ σ' H'<μ σ H,ct:=fun σ' H'=>Pv σ' H'/\μ σ' H'<μ σ H,bk:=D.nx } σ H1 else D.nx σ H1)
  (mono:∀ σ H Q Q',(∀ b H1,Q b H1->Q' b H1)->c σ H Q->c σ H Q'):tWhile c tb D σ H:=by
 refine⟨fun m σ H=>m=μ σ H/\Pv σ H,⟨_,rfl,h0⟩,?_⟩
 rintro m σ H ⟨rfl,p⟩
 refine mono σ H _ _ (fun b H1 q=>?_) (hs σ H p)
 cases b with
 | true=>exact⟨_,fun σ' H' ⟨p',l⟩=>⟨_,l,rfl,p'⟩,q⟩
 | false=>exact q
end L2
namespace L2
open PySem PySem.Spec PyProof.Rows
abbrev R2:=V->V->Hp->VK->Prop
def OpR (X:Cx) (f:Value->Value->Sem Value) (r:R2):Prop :=
 ∀ (pins:List (Addr×Obj)) (s:Shared) (σ:St) (H:Hp) (x y:V) (v u:Value) (Q:VK),Inv X pins σ H s->RelV x v->RelV y u->r x y H Q ->
  wpAny (model X.prog X.w) X.A (f v u) (EP X pins σ Q) X.xe s
def UnR (X:Cx) (f:Value->Sem Value) (r:V->Hp->VK->Prop):Prop :=
 ∀ (pins:List (Addr×Obj)) (s:Shared) (σ:St) (H:Hp) (x:V) (v:Value) (Q:VK),Inv X pins σ H s->RelV x v->r x H Q ->
  wpAny (model X.prog X.w) X.A (f v) (EP X pins σ Q) X.xe s
def CallR (X:Cx) (f:Value) (r:List V->Hp->VK->Prop):Prop :=
 ∀ (pins:List (Addr×Obj)) (s:Shared) (σ:St) (H:Hp) (xs:List V) (us:List Value) (Q:VK),Inv X pins σ H s->Vals xs us->r xs H Q ->
  wpAny (model X.prog X.w) X.A (call f us) (EP X pins σ Q) X.xe s
def TruR (X:Cx) (r:V->Hp->(Bool->Hp->Prop)->Prop):Prop :=
 ∀ (pins:List (Addr×Obj)) (s:Shared) (σ:St) (H:Hp) (x:V) (v:Value) (Q:Bool->Hp->Prop),Inv X pins σ H s->RelV x v->r x H Q ->
  wpAny (model X.prog X.w) X.A (truthy v) (TP X pins σ Q) X.xe s
def tOp (r:R2) (ta tb:TE):TE:=fun σ H Q=>ta σ H fun x H1=>tb σ H1 fun y H2=>r x y H2 Q
def tUn (r:V->Hp->VK->Prop) (ta:TE):TE:=fun σ H Q=>ta σ H fun x H1=>r x H1 Q
def rI (C:Int->Int->Prop) (g:Int->Int->V):R2:=fun x y H Q=>∃ i j,x=.int i/\y=.int j/\C i j/\Q (g i j) H
def rI0 (g:Int->Int->V):R2:=fun x y H Q=>∃ i j,x=.int i/\y=.int j/\Q (g i j) H
def rU (g:Int->V):V->Hp->VK->Prop:=fun x H Q=>∃ i,x=.int i/\Q (g i) H
section
variable {X:Cx}{a b c:Expr}{ta tb tc:TE}{pos:Pos}
theorem binT (ha:PE X a ta) (hb:PE X b tb) {pins:List (Addr×Obj)}{s:Shared}{σ:St}{H:Hp}{R:V->V->Hp->Prop} (I:Inv X pins σ H s)
  (h:ta σ H fun x H1=>tb σ H1 fun y H2=>R x y H2) {Q:Value->Shared->Prop}{f:Value->Value->Sem Value}
  (hf:∀ v u s2 x y H2,Inv X pins σ H2 s2->RelV x v->RelV y u->R x y H2->wpAny (model X.prog X.w) X.A (f v u) Q X.xe s2) :
  wpAny (model X.prog X.w) X.A (eval a X.env) (fun v s₁=>wpAny (model X.prog X.w) X.A (eval b X.env) (fun u s₂=>wpAny (model X.prog X.w) X.A (f v u) Q X.xe s₂) X.xe s₁) X.xe s:=by
 refine thn (ha pins s σ H _ I h) fun v s1 ⟨x,H1,I1,r1,q1⟩=>?_
 refine thn (hb pins s1 σ H1 _ I1 q1) fun u s2 ⟨y,H2,I2,r2,q2⟩=>?_
 exact hf v u s2 x y H2 I2 r1 r2 q2
theorem pe_op {op:Operator}{r:R2} (ho:OpR X (binaryOp op) r) (ha:PE X a ta) (hb:PE X b tb):PE X (.BinOp a op b pos) (tOp r ta tb):=by
 intro pins s σ H Q I h
 exact wpAny_BinOp (binT ha hb I h fun v u s2 x y H2 I2 rx ry q=>ho pins s2 σ H2 x y v u Q I2 rx ry q)
theorem pe_un {op:UnaryOp}{r:V->Hp->VK->Prop} (ho:UnR X (unaryOp op) r) (ha:PE X a ta):PE X (.UnaryOp op a pos) (tUn r ta):=by
 intro pins s σ H Q I h
 exact UnaryOp_ (thn (ha pins s σ H _ I h) fun v s1 ⟨x,H1,I1,r1,q1⟩=>ho pins s1 σ H1 x v Q I1 r1 q1)
theorem opI {f:Value->Value->Sem Value}{C:Int->Int->Prop}{g:Int->Int->Int}
  (rule:∀ (i j:Int) (t u:Tok) (s:Shared) (Q:Value->Shared->Prop) (E:Value->Shared->Prop),C i j->Q (.int (g i j) s.toks) { s with toks:=s.toks+1 }->wpAny (model X.prog X.w) X.A (f (.int i t) (.int j u)) Q E s) :
  OpR X f (rI C fun i j=>.int (g i j)):=by
 intro pins s σ H x y v u Q I rx ry h
 obtain⟨i,j,rfl,rfl,hc,q⟩:=h
 obtain⟨t,rfl⟩:=rx
 obtain⟨t',rfl⟩:=ry
 exact rule i j t t' s _ _ hc ⟨.int (g i j),H,I.tok _,⟨_,rfl⟩,q⟩
theorem opI0 {f:Value->Value->Sem Value}{g:Int->Int->Int}
  (rule:∀ (i j:Int) (t u:Tok) (s:Shared) (Q:Value->Shared->Prop) (E:Value->Shared->Prop),Q (.int (g i j) s.toks) { s with toks:=s.toks+1 }->wpAny (model X.prog X.w) X.A (f (.int i t) (.int j u)) Q E s) :
  OpR X f (rI0 fun i j=>.int (g i j)):=by
 intro pins s σ H x y v u Q I rx ry h
 obtain⟨i,j,rfl,rfl,q⟩:=h
 obtain⟨t,rfl⟩:=rx
 obtain⟨t',rfl⟩:=ry
 exact rule i j t t' s _ _ ⟨.int (g i j),H,I.tok _,⟨_,rfl⟩,q⟩
theorem opB0 {f:Value->Value->Sem Value}{g:Int->Int->Bool}
  (rule:∀ (i j:Int) (t u:Tok) (s:Shared) (Q:Value->Shared->Prop) (E:Value->Shared->Prop),Q (.bool (g i j)) s->wpAny (model X.prog X.w) X.A (f (.int i t) (.int j u)) Q E s) :
  OpR X f (rI0 fun i j=>.bl (g i j)):=by
 intro pins s σ H x y v u Q I rx ry h
 obtain⟨i,j,rfl,rfl,q⟩:=h
 obtain⟨t,rfl⟩:=rx
 obtain⟨t',rfl⟩:=ry
 exact rule i j t t' s _ _ ⟨.bl (g i j),H,I,rfl,q⟩
def CDiv (i j:Int):Prop:=0<j/\j<1073741824
def CPow (i j:Int):Prop:=0<=j/\j<=1000000/\i.natAbs<2 ^ 64
def CMul (i j:Int):Prop:=(-(2 ^ 64)<i/\i<2 ^ 64)∨(-(2 ^ 64)<j/\j<2 ^ 64)
theorem CMul.ok {i j:Int} (h:CMul i j):IntMulOk i j:=by
 rcases h with ⟨h1,h2⟩ | ⟨h1,h2⟩
 ·exact .of_left (intBits_le_64 h1 h2)
 ·exact .of_right (intBits_le_64 h1 h2)
theorem op_add:OpR X (binaryOp .Add) (rI0 fun i j=>.int (i+j)):=opI0 fun _ _ _ _ _ _ _ q=>add_int q
theorem op_sub:OpR X (binaryOp .Sub) (rI0 fun i j=>.int (i - j)):=opI0 fun _ _ _ _ _ _ _ q=>sub_int q
theorem op_mul:OpR X (binaryOp .Mult) (rI CMul fun i j=>.int (i*j)):=opI fun _ _ _ _ _ _ _ hc q=>mul_int q hc.ok
theorem op_fdiv:OpR X (binaryOp .FloorDiv) (rI CDiv fun i j=>.int (i / j)):=opI fun i j _ _ _ _ _ hc q=>by
 have h1:(0:Int)<j:=hc.1
 have h2:j<1073741824:=hc.2
 exact floordiv_int (by omega) (by rw[Int.fdiv_eq_ediv_of_nonneg i (by omega)]; exact q) (.inl (PyProof.noPylong_small (by omega)))
theorem op_mod:OpR X (binaryOp .Mod) (rI (fun _ j=>0<j) fun i j=>.int (i % j)):=opI fun i j _ _ _ _ _ hc q=>by
 have h1:(0:Int)<j:=hc
 exact mod_int' (by omega) (by rw[Int.fmod_eq_emod_of_nonneg i (by omega)]; exact q)
theorem op_pow:OpR X (binaryOp .Pow) (rI CPow fun i j=>.int (i ^ j.toNat)):=opI fun _ _ _ _ _ _ _ hc q=>pow_int_small hc.1 hc.2.1 hc.2.2 q
theorem op_shl:OpR X (binaryOp .LShift) (rI CPow fun i j=>.int (i*2 ^ j.toNat)):=opI fun _ _ _ _ _ _ _ hc q=>lshift_int_small hc.1 hc.2.1 hc.2.2 q
theorem unI {f:Value->Sem Value}{g:Int->Int}
  (rule:∀ (i:Int) (t:Tok) (s:Shared) (Q:Value->Shared->Prop) (E:Value->Shared->Prop),Q (.int (g i) s.toks) { s with toks:=s.toks+1 }->wpAny (model X.prog X.w) X.A (f (.int i t)) Q E s) :
  UnR X f (rU fun i=>.int (g i)):=by
 intro pins s σ H x v Q I rx h
 obtain⟨i,rfl,q⟩:=h
 obtain⟨t,rfl⟩:=rx
 exact rule i t s _ _ ⟨.int (g i),H,I.tok _,⟨_,rfl⟩,q⟩
theorem un_neg:UnR X (unaryOp .USub) (rU fun i=>.int (-i)):=unI fun _ _ _ _ _ q=>neg_int q
end
def scal:V->V->Bool
 | .non,.non=>true | .non,.int _=>true | .int _,.non=>true | .non,.bl _=>true | .bl _,.non=>true | .non,.str _=>true | .str _,.non=>true
 | .int _,.int _=>true | .bl _,.bl _=>true | .str _,.str _=>true | .byt _,.byt _=>true
 | .int _,.str _=>true | .str _,.int _=>true | .bl _,.str _=>true | .str _,.bl _=>true
 | _,_=>false
def rEq:R2:=fun x y H Q=>scal x y=true/\Q (.bl (decide (x=y))) H
def rNe:R2:=fun x y H Q=>scal x y=true/\Q (.bl (!decide (x=y))) H
theorem dec_int {i j:Int}:decide (V.int i=V.int j)=(i == j):=by
 rw[Bool.eq_iff_iff]
 simp
theorem dec_bl {i j:Bool}:decide (V.bl i=V.bl j)=(i == j):=by
 rw[Bool.eq_iff_iff]
 simp
theorem sne (a b:Str) (h:¬ (V.str a=V.str b):=by decide +kernel):decide (V.str a=V.str b)=false:=decide_eq_false h
theorem dec_str {i j:Str}:decide (V.str i=V.str j)=(i == j):=by
 rw[Bool.eq_iff_iff]
 simp
theorem dec_byt {i j:Array UInt8}:decide (V.byt i=V.byt j)=(i.toList == j.toList):=by
 rw[Bool.eq_iff_iff]
 cases i
 cases j
 simp
section
variable {X:Cx}{a b c:Expr}{ta tb tc:TE}{pos:Pos}
theorem fin_bl {pins:List (Addr×Obj)}{σ:St}{H:Hp}{s:Shared}{Q:VK}{k k':Bool} (I:Inv X pins σ H s) (q:Q (.bl k) H) (e:k=k'):EP X pins σ Q (.bool k') s:=by
 subst e
 exact⟨.bl k,H,I,rfl,q⟩
theorem op_eq:OpR X (compareOp .Eq) rEq:=by
 intro pins s σ H x y v u Q I rx ry h
 obtain⟨hs,q⟩:=h
 cases x with
 | non=>
  cases rx
  cases y with
  | non=>cases ry; exact PySem.EqNone.eq_none_none (fin_bl I q (by simp))
  | bl j=>cases ry; exact PySem.EqNone.eq_none_bool (fin_bl I q (by simp))
  | int j=>obtain⟨t',rfl⟩:=ry; exact PySem.EqNone.eq_none_int (fin_bl I q (by simp))
  | str j=>obtain⟨t',rfl⟩:=ry; exact PySem.EqNone.eq_none_str (fin_bl I q (by simp))
  | _=>exact absurd (show false=true from hs) Bool.false_ne_true
 | bl i=>
  cases rx
  cases y with
  | non=>cases ry; exact PySem.EqNone.eq_bool_none (fin_bl I q (by simp))
  | bl j=>cases ry; exact eq_bool (fin_bl I q dec_bl)
  | str j=>obtain⟨t',rfl⟩:=ry; exact PySem.EqMixed.eq_bool_str (fin_bl I q (by simp))
  | _=>exact absurd (show false=true from hs) Bool.false_ne_true
 | int i=>
  obtain⟨t,rfl⟩:=rx
  cases y with
  | non=>cases ry; exact PySem.EqNone.eq_int_none (fin_bl I q (by simp))
  | int j=>obtain⟨t',rfl⟩:=ry; exact eq_int (fin_bl I q dec_int)
  | str j=>obtain⟨t',rfl⟩:=ry; exact PySem.EqMixed.eq_int_str (fin_bl I q (by simp))
  | _=>exact absurd (show false=true from hs) Bool.false_ne_true
 | str i=>
  obtain⟨t,rfl⟩:=rx
  cases y with
  | non=>cases ry; exact PySem.EqNone.eq_str_none (fin_bl I q (by simp))
  | bl j=>cases ry; exact PySem.EqMixed.eq_str_bool (fin_bl I q (by simp))
  | int j=>obtain⟨t',rfl⟩:=ry; exact PySem.EqMixed.eq_str_int (fin_bl I q (by simp))
  | str j=>obtain⟨t',rfl⟩:=ry; exact eq_str (fin_bl I q dec_str)
  | _=>exact absurd (show false=true from hs) Bool.false_ne_true
 | byt i=>
  obtain⟨t,rfl⟩:=rx
  cases y with
  | byt j=>obtain⟨t',rfl⟩:=ry; exact PySem.W.eq_bytes (fin_bl I q dec_byt)
  | _=>exact absurd (show false=true from hs) Bool.false_ne_true
 | _=>cases y <;> exact absurd (show false=true from hs) Bool.false_ne_true
theorem op_ne:OpR X (compareOp .NotEq) rNe:=by
 intro pins s σ H x y v u Q I rx ry h
 obtain⟨hs,q⟩:=h
 cases x with
 | non=>
  cases rx
  cases y with
  | non=>cases ry; exact PySem.EqNone.ne_none_none (fin_bl I q (by simp))
  | bl j=>cases ry; exact PySem.EqNone.ne_none_bool (fin_bl I q (by simp))
  | int j=>obtain⟨t',rfl⟩:=ry; exact PySem.EqNone.ne_none_int (fin_bl I q (by simp))
  | str j=>obtain⟨t',rfl⟩:=ry; exact PySem.EqNone.ne_none_str (fin_bl I q (by simp))
  | _=>exact absurd (show false=true from hs) Bool.false_ne_true
 | bl i=>
  cases rx
  cases y with
  | non=>cases ry; exact PySem.EqNone.ne_bool_none (fin_bl I q (by simp))
  | bl j=>cases ry; exact ne_bool (fin_bl I q (congrArg not dec_bl))
  | str j=>obtain⟨t',rfl⟩:=ry; exact PySem.EqMixed.ne_bool_str (fin_bl I q (by simp))
  | _=>exact absurd (show false=true from hs) Bool.false_ne_true
 | int i=>
  obtain⟨t,rfl⟩:=rx
  cases y with
  | non=>cases ry; exact PySem.EqNone.ne_int_none (fin_bl I q (by simp))
  | int j=>obtain⟨t',rfl⟩:=ry; exact ne_int (fin_bl I q (congrArg not dec_int))
  | str j=>obtain⟨t',rfl⟩:=ry; exact PySem.EqMixed.ne_int_str (fin_bl I q (by simp))
  | _=>exact absurd (show false=true from hs) Bool.false_ne_true
 | str i=>
  obtain⟨t,rfl⟩:=rx
  cases y with
  | non=>cases ry; exact PySem.EqNone.ne_str_none (fin_bl I q (by simp))
  | bl j=>cases ry; exact PySem.EqMixed.ne_str_bool (fin_bl I q (by simp))
  | int j=>obtain⟨t',rfl⟩:=ry; exact PySem.EqMixed.ne_str_int (fin_bl I q (by simp))
  | str j=>obtain⟨t',rfl⟩:=ry; exact ne_str (fin_bl I q (congrArg not dec_str))
  | _=>exact absurd (show false=true from hs) Bool.false_ne_true
 | byt i=>
  obtain⟨t,rfl⟩:=rx
  cases y with
  | byt j=>obtain⟨t',rfl⟩:=ry; exact PySem.W.ne_bytes (fin_bl I q (congrArg not dec_byt))
  | _=>exact absurd (show false=true from hs) Bool.false_ne_true
 | _=>cases y <;> exact absurd (show false=true from hs) Bool.false_ne_true
theorem op_lt:OpR X (compareOp .Lt) (rI0 fun i j=>.bl (decide (i<j))):=opB0 fun _ _ _ _ _ _ _ q=>lt_int q
theorem op_le:OpR X (compareOp .LtE) (rI0 fun i j=>.bl (decide (i<=j))):=opB0 fun _ _ _ _ _ _ _ q=>le_int q
theorem op_gt:OpR X (compareOp .Gt) (rI0 fun i j=>.bl (decide (j<i))):=opB0 fun _ _ _ _ _ _ _ q=>gt_int q
theorem op_ge:OpR X (compareOp .GtE) (rI0 fun i j=>.bl (decide (j<=i))):=opB0 fun _ _ _ _ _ _ _ q=>ge_int q
theorem op_isN : OpR X (compareOp .Is) (fun x y H Q=>y=.non/\Q (.bl (decide (x=.non))) H) := by
  intro pins s σ H x y v u Q I rx ry h
  obtain⟨rfl, q⟩ := h
  cases ry
  refine is_none_gen (fin_bl I q ?_)
  cases x <;> first
    | (cases rx; rfl)
    | (obtain ⟨t, rfl⟩ := rx; rfl)
theorem op_notN : OpR X (compareOp .IsNot) (fun x y H Q=>y=.non/\Q (.bl (!decide (x=.non))) H) := by
  intro pins s σ H x y v u Q I rx ry h
  obtain⟨rfl, q⟩ := h
  cases ry
  refine isnot_none_gen (fin_bl I q ?_)
  cases x <;> first
    | (cases rx; rfl)
    | (obtain ⟨t, rfl⟩ := rx; rfl)
theorem nomark (b:Expr) {op:CmpOp} (h:op≠.In:=by decide) (h2:op≠.NotIn:=by decide):behindInMarks op b=false:=by
 have e1:(op == CmpOp.In)=false:=by cases op <;> first | rfl | exact absurd rfl h
 have e2:(op == CmpOp.NotIn)=false:=by cases op <;> first | rfl | exact absurd rfl h2
 cases b <;> simp[behindInMarks,e1,e2]
theorem pe_cmpR {op:CmpOp}{r:R2} (ho:OpR X (compareOp op) r) (ha:PE X a ta) (hb:PE X b tb) (hm:behindInMarks op b=false):PE X (.Compare a [op] [b] pos) (tOp r ta tb):=by
 intro pins s σ H Q I h
 exact wpAny_Compare1 (binT ha hb I h fun v u s2 x y H2 I2 rx ry q=>ho pins s2 σ H2 x y v u Q I2 rx ry q) hm
def tTest (t:TE):TT:=fun σ H Q=>t σ H fun x H'=>∃ k,x=.bl k/\Q k H'
theorem pt_cmpR {op:CmpOp}{r:R2} (ho:OpR X (compareOp op) r) (ha:PE X a ta) (hb:PE X b tb) (hm:behindInMarks op b=false):PT X (.Compare a [op] [b] pos) (tTest (tOp r ta tb)):=by
 intro pins s σ H Q I h
 refine wpAny_isTrue_Compare1 (thn (ha pins s σ H _ I h) fun v s1 ⟨x,H1,I1,r1,q1⟩=>thn (hb pins s1 σ H1 _ I1 q1) fun u s2 ⟨y,H2,I2,r2,q2⟩=>
  thn (ho pins s2 σ H2 x y v u _ I2 r1 r2 q2) fun c s3 ⟨z,H3,I3,r3,k,e,q3⟩=>?_) hm
 subst e
 cases r3
 exact wpAny_truthy_bool ⟨H3,I3,q3⟩
def TruV (K:PySem.W.Frag) (x:V) (H:Hp) (k:Bool):Prop :=
 match x with
 | .non=>k=false
 | .bl b=>k=b
 | .int i=>k=(i != 0)
 | .str y=>y.length<=sizeLine/\k=((y.length:Int) != 0)
 | .byt y=>y.size<=sizeLine/\k=((y.size:Int) != 0)
 | .ref p=>(∃ xs,SqL K H p xs/\k = !xs.isEmpty)∨(∃ xs,SqT K H p xs/\k = !xs.isEmpty)∨∃ kvs,H p=some (.dK kvs)/\k = !kvs.isEmpty
 | _=>False
theorem isEmpty_kv {κ:Type}{kvs:List (κ×V)}{vs:List (κ×Value)} (r:KV kvs vs):(!vs.isEmpty) = !kvs.isEmpty:=by
 cases r <;> rfl
theorem isEmpty_of {xs:List V}{its:List Value} (r:Vals xs its):(!its.toArray.isEmpty) = !xs.isEmpty:=by
 cases r <;> simp
theorem line63:(sizeLine:Nat)<2 ^ 63:=by rw[sizeLine_eq]; decide
theorem tru_ok:TruR X (fun x H Q=>∃ k,TruV X.K x H k/\Q k H):=by
 intro pins s σ H x v Q I rx h
 obtain⟨k,e,q⟩:=h
 have hl:=line63
 have hs:sizeLine=16777216:=sizeLine_eq
 cases x with
 | non=>
  cases rx
  have e':k=false:=e
  subst e'
  exact truthy_none ⟨H,I,q⟩
 | bl b=>
  cases rx
  have e':k=b:=e
  subst e'
  exact wpAny_truthy_bool ⟨H,I,q⟩
 | int i=>
  obtain⟨t,rfl⟩:=rx
  have e':k=(i != 0):=e
  subst e'
  exact PySem.P.truthy_int ⟨H,I,q⟩
 | str y=>
  obtain⟨t,rfl⟩:=rx
  obtain⟨hy,e'⟩:y.length<=sizeLine/\k=((y.length:Int) != 0):=e
  subst e'
  exact PySem.P.truthy_str (by omega) ⟨H,I.tok _,q⟩
 | byt y=>
  obtain⟨t,rfl⟩:=rx
  obtain⟨hy,e'⟩:y.size<=sizeLine/\k=((y.size:Int) != 0):=e
  subst e'
  exact PySem.W.truthy_bytes (by omega) ⟨H,I.tok _,q⟩
 | ref p=>
  cases rx
  have e':(∃ xs,SqL X.K H p xs/\k = !xs.isEmpty)∨(∃ xs,SqT X.K H p xs/\k = !xs.isEmpty)∨∃ kvs,H p=some (.dK kvs)/\k = !kvs.isEmpty:=e
  rcases e' with ⟨xs,hx,e'⟩ | ⟨xs,hx,e'⟩ | ⟨kvs,hx,e'⟩
  ·subst e'
   obtain⟨its,r,pl,hz⟩:=I.list hx
   have hlen:=r.length
   exact wpAny_truthy_list pl.isList (by simp only[size_toArray]; omega) ⟨H,I.tok _,by rw[isEmpty_of r]; exact q⟩
  ·subst e'
   obtain⟨its,r,pl,hz⟩:=I.tuple hx
   have hlen:=r.length
   exact truthy_tuple pl (by simp only[size_toArray]; omega) ⟨H,I.tok _,by rw[isEmpty_of r]; exact q⟩
  ·subst e'
   obtain⟨hz,hS,vs,r,m⟩:kvs.length<=sizeLine/\(p == sysModules)=false/\∃ vs,KV kvs vs/\s.heap.DictOf (mixKind X.prog X.w) p vs:=I.hok p _ hx
   have hlen:kvs.length=vs.length:=Paired.length r
   exact wpAny_truthy_dict hS m (by omega) ⟨H,I.tok _,by rw[isEmpty_kv r]; exact q⟩
 | _=>exact(show False from e).elim
theorem pt_truth (ha:PE X a ta) (he:∀ whole,isTrue a X.env whole=(do let v <- whole; standAt a.pos; holding [v] (truthy v))) :
  PT X a (fun σ H Q=>ta σ H fun x H'=>∃ k,TruV X.K x H' k/\Q k H'):=by
 intro pins s σ H Q I h
 exact isTrue_plain (thn (ha pins s σ H _ I h) fun v s1 ⟨x,H1,I1,r1,q1⟩=>tru_ok pins s1 σ H1 x v Q I1 r1 q1) (he _)
theorem vals1 {x:V}{us:List Value} (r:Vals [x] us):∃ u,us=[u]/\RelV x u:=by
 cases r with
 | cons r1 r2=>cases r2; exact⟨_,rfl,r1⟩
theorem vals2 {x y:V}{us:List Value} (r:Vals [x,y] us):∃ u w',us=[u,w']/\RelV x u/\RelV y w':=by
 cases r with
 | cons r1 r2=>
  cases r2 with
  | cons r3 r4=>cases r4; exact⟨_,_,rfl,r1,r3⟩
theorem call_abs:CallR X (.builtin "abs") (fun xs H Q=>∃ i,xs=[.int i]/\Q (.int (if i<0 then -i else i)) H):=by
 intro pins s σ H xs us Q I r h
 obtain⟨i,rfl,q⟩:=h
 obtain⟨u,rfl,t,rfl⟩:=vals1 r
 exact call_abs_int fun u tk=>⟨.int (if i<0 then -i else i),H,I.tok _,⟨_,rfl⟩,q⟩
theorem call_int1:CallR X (.type "int") (fun xs H Q=>(∃ i,xs=[.int i]/\Q (.int i) H)∨∃ k,xs=[.bl k]/\Q (.int (if k then 1 else 0)) H):=by
 intro pins s σ H xs us Q I r h
 rcases h with ⟨i,rfl,q⟩ | ⟨k,rfl,q⟩
 ·obtain⟨u,rfl,t,rfl⟩:=vals1 r
  exact call_int_int ⟨.int i,H,I,⟨_,rfl⟩,q⟩
 ·obtain⟨u,rfl,r1⟩:=vals1 r
  cases r1
  exact call_int_bool ⟨.int (if k then 1 else 0),H,I.tok _,⟨_,rfl⟩,q⟩
end
end L2
namespace L2
open PySem PySem.Spec PyProof.Rows
structure ObjM (h:Heap) (x dx C:Addr) (mA:Str->Option Value):Prop where
 obj:h.get? x=some (PySem.W.instObj C dx)
 ns:h.Ns1 dx mA
 ne:dx≠x
theorem lookIn_ns {h:Heap}{dx:Addr}{mA:Str->Option Value} (n:h.Ns1 dx mA):∃ od,h.get? dx=some od/\∀ name,PySem.W.lookIn name od=some (mA name):=by
 obtain⟨o,es,ep,ho,hd,hk,_,hm⟩:=n
 refine⟨o,ho,fun name=>?_⟩
 have e:=hm name
 unfold nsFind findBy at e
 rw[<- Array.find?_toList] at e
 unfold PySem.W.lookIn
 rw[hd]
 dsimp only
 split
 ·rename_i y q
  rw[q] at e
  exact congrArg some e
 ·rename_i q
  rw[q] at e
  have a:es.toList.any (·.refKey)=false:=by
   rw[List.any_eq_false]
   intro y hy
   obtain⟨z,t,hkey⟩:=hk y (Array.mem_toList_iff.mp hy)
   simp[DictEntry.refKey,hkey]
  have a':¬ es.toList.any (·.refKey)=true:=by rw[a]; exact Bool.false_ne_true
  rw[if_neg a']
  exact congrArg some e
theorem ObjM.look {h:Heap}{x dx C:Addr}{mA:Str->Option Value} (I:ObjM h x dx C mA):∃ od,PySem.W.InstAt h x (PySem.W.instObj C dx) C (some od)/\∀ name,PySem.W.lookIn name od=some (mA name) :=
 let ⟨od,ho,hl⟩:=lookIn_ns I.ns
 ⟨od,⟨I.obj,rfl,rfl,ho⟩,hl⟩
section
variable {prog:Program}{w:World}{A:Around}{E:Value->Shared->Prop}{s:Shared}{K:PySem.W.Frag}{x dx C f:Addr}{mA:Str->Option Value}{name:Str}{v:Value}
theorem get_map {expr:Bool}{Q:Value->Shared->Prop} (X:K.In s.heap) (I:ObjM s.heap x dx C mA) (hg:W.plainGet K C name=true) (hh:W.hasDictIn K C=true)
  (ha:W.findIn K (.ref C) name=some none) (hv:mA name=some v) (hv':PySem.W.handedIn v=true) (h:Q v { s with toks:=s.toks+1 }) :
  wpAny (model prog w) A (getAttr (.ref x) name expr) Q E s:=by
 obtain⟨od,J,hl⟩:=I.look
 exact PySem.W.get_value X J (PySem.W.plainGet_of hg).1 (PySem.W.findObj_own hh ha rfl (by rw[hl,hv])) hv' h
theorem get_meth {pl:Sem Bool}{Q:Value×List Value->Shared->Prop} (X:K.In s.heap) (I:ObjM s.heap x dx C mA) (hg:W.plainGet K C name=true)
  (hf:W.findIn K (.ref C) name=some (some (.ref f))) (ht:W.isFn K (.ref f)=true) (hv:mA name=none) (h:Q (.ref f,[.ref x]) s) :
  wpAny (model prog w) A (getMethod (.ref x) name pl) Q E s:=by
 obtain⟨od,J,hl⟩:=I.look
 exact PySem.W.method_fn X J (PySem.W.plainGet_of hg).1 (PySem.W.plainGet_of hg).2 hf (beq_iff_eq.mp ht) (by show(PySem.W.lookIn name od).map (·.isSome)=some false; rw[hl,hv]; rfl) h
theorem set_map {ns:List Str}{Q:Unit->Shared->Prop} (X:K.In s.heap) (I:ObjM s.heap x dx C mA)
  (hs:W.findIn K (.ref C) "__setattr__" = some (some (.builtin "object.__setattr__"))) (hp:W.plainOver K C=true) (ht:PySem.W.takerIn K C name=some none) (hh:W.hasDictIn K C=true)
  (hw:PySem.Within mA ns) (hsz:ns.length<=sizeLine)
  (h:∀ h',ObjM h' x dx C (fun y=>if y=name then some v else mA y)->Heap.SameBut dx s.heap h'->Q () { s with heap:=h',toks:=s.toks+2 }) :
  wpAny (model prog w) A (setAttr (.ref x) name v) Q E s:=by
 obtain⟨od,J,hl⟩:=I.look
 refine PySem.W.set_plain X J hs (PySem.W.osa_open (s:={ s with toks:=s.toks+1 }) (r:=none) X J hp ht fun b=>?_)
 obtain⟨cd,hc,hd'⟩:=PySem.W.any_some hh
 have hx:s.heap.get? x=some ⟨.ref C,some dx,.plain,#[]⟩:=I.obj
 refine wpAny_bind (wpAny_pure (wpAny_bind (wpAny_bind (wpAny_loadPart hx (wpAny_bind (PySem.W.Looks.here (s:={ s with toks:=s.toks+1 }) (PySem.W.looks_clsIn X hc) ?_))))))
 rw[hd']
 refine wpAny_pure (a:=some dx) (wpAny_bind (wpAny_pure (wpAny_bind ?_)))
 refine wpAny_nsSet1 (s:={ s with toks:=s.toks+1 }) I.ns fun h' hn2 hs2=>?_
 obtain⟨oD,esD,epD,hoD,hdD,hcD⟩:=hn2.count (PySem.Within.cons name v hw)
 refine wpAny_bind (wpAny_lookBehind hoD (by rw[hdD]; exact pastItsLine_dict (Nat.le_trans hcD (by rw[length_cons]; omega))) ?_)
 exact wpAny_pure (h _ ⟨(hs2.2 _ (Ne.symm I.ne)).trans I.obj,hn2,I.ne⟩ hs2)
theorem make_map {R:Result->Shared->Prop}{vs:List Value}{kw:List (Str×Value)} (X:K.In s.heap) (hm:W.makesIn K C=true)
  (hi:W.findIn K (.ref C) "__init__" = some (some (.ref f))) (hf:PySem.W.typeIn K (.ref f)=some (.type "function"))
  (h:codeAny (model prog w) (A.under (.builtin "type.__call__" ⟨.ref C::vs,kw⟩)) (.call (.ref f) ⟨.ref (s.heap.objs.size+1)::vs,kw⟩) (PySem.W.InitBack (s.heap.objs.size+1) R)
   { s with heap:=(s.heap.push PySem.W.emptyDict).push (PySem.W.instObj C s.heap.objs.size) }) :
  codeAny (model prog w) A (.call (.ref C) ⟨vs,kw⟩) R s:=by
 obtain⟨hh,g,d,t,os⟩:=s
 exact PySem.W.make_core (PySem.W.makes_of X hm) (PySem.W.looks_findIn X hi) (fun self=>PySem.W.bind_fn X self hf) (.inl rfl) h
end
def putF (f : Str) (v : V) : List (Str×V)->List (Str×V)
  | []=>[(f, v)]
  | (g, x) :: r => if g = f then (g, v) :: r else (g, x) :: putF f v r
theorem lookup_putF (f g : Str) (v : V) : ∀ fs : List (Str×V), (putF f v fs).lookup g=if g=f then some v else fs.lookup g
  | []=>by
    show List.lookup g [(f, v)]=_
    by_cases h : g=f
    · have hb : (g == f)=true := beq_iff_eq.mpr h
      simp only[List.lookup, hb, if_pos h]
    · have hb : (g == f)=false := beq_eq_false_iff_ne.mpr h
      simp only[List.lookup, hb, if_neg h]
  | (k, x) :: r => by
    have ih := lookup_putF f g v r
    rw[show putF f v ((k, x)::r)=(if k=f then(k, v)::r else(k, x)::putF f v r) from rfl]
    by_cases hk : k=f
    · rw[if_pos hk]
      by_cases h : g=k
      · have hb : (g == k)=true := beq_iff_eq.mpr h
        simp only[List.lookup, hb, if_pos (h.trans hk)]
      · have hb : (g == k)=false := beq_eq_false_iff_ne.mpr h
        simp only[List.lookup, hb, if_neg (fun e : g=f=>h (e.trans hk.symm))]
    · rw[if_neg hk]
      by_cases h : g=k
      · have hb : (g == k)=true := beq_iff_eq.mpr h
        simp only[List.lookup, hb, if_neg (fun e : g=f=>hk (h.symm.trans e))]
      · have hb : (g == k)=false := beq_eq_false_iff_ne.mpr h
        simp only[List.lookup, hb]
        exact ih
theorem keys_putF (f : Str) (v : V) : ∀ fs : List (Str×V), f ∈ (putF f v fs).map (·.1)/\∀ g, g ∈ fs.map (·.1)->g ∈ (putF f v fs).map (·.1)
  | []=>⟨by simp[putF], fun g h=>by simp at h⟩
  | (k, x) :: r => by
    obtain⟨i1, i2⟩ := keys_putF f v r
    rw[show putF f v ((k, x)::r)=(if k=f then(k, v)::r else(k, x)::putF f v r) from rfl]
    by_cases hk : k=f
    · rw[if_pos hk]
      subst hk
      exact⟨by simp, fun g h=>by simpa using h⟩
    · rw[if_neg hk]
      refine⟨?_, fun g h=>?_⟩
      · rw[map_cons]
        exact mem_cons_of_mem _ i1
      · rw[map_cons] at h ⊢
        rcases mem_cons.mp h with e | e
        · exact mem_cons.mpr (.inl e)
        · exact mem_cons_of_mem _ (i2 g e)
theorem length_putF (f : Str) (v : V) : ∀ fs : List (Str×V), (putF f v fs).length<=fs.length+1
  | []=>by simp[putF]
  | (k, x) :: r => by
    have ih := length_putF f v r
    rw[show putF f v ((k, x)::r)=(if k=f then(k, v)::r else(k, x)::putF f v r) from rfl]
    by_cases hk : k=f
    · rw[if_pos hk, length_cons, length_cons]; omega
    · rw[if_neg hk, length_cons, length_cons]; omega
theorem RelO.some_of {v:V}{o:Option Value} (r:RelO (some v) o):∃ u,o=some u/\RelV v u:=by
 cases o with
 | none=>exact(show False from r).elim
 | some u=>exact⟨u,rfl,r⟩
theorem RelO.none_of {o:Option Value} (r:RelO none o):o=none:=by
 cases o with
 | none=>rfl
 | some u=>exact(show False from r).elim
theorem handed_of {v:V}{u:Value} (r:RelV v u):PySem.W.handedIn u=true:=by
 cases v with
 | non=>cases (show u=Value.none from r); rfl
 | bl b=>cases (show u=Value.bool b from r); rfl
 | int i=>obtain⟨t,e⟩:=(show ∃ t,u=Value.int i t from r); cases e; rfl
 | str x=>obtain⟨t,e⟩:=(show ∃ t,u=Value.str x t from r); cases e; rfl
 | byt b=>obtain⟨t,e⟩:=(show ∃ t,u=Value.bytes b t from r); cases e; rfl
 | flt b=>obtain⟨t,e⟩:=(show ∃ t,u=Value.float b t from r); cases e; rfl
 | ref a=>cases (show u=Value.ref a from r); rfl
 | ty n=>cases (show u=Value.type n from r); rfl
section
variable {P:Program}{w:World}{H H':Hp}{h h':Heap}{a C dx:Addr}{fs fs':List (Str×V)}
theorem ins_get (hok:HOk P w H h) (e:H a=some (.ins C dx fs)):∃ mA,ObjM h a dx C mA/\(∀ f,RelO (fs.lookup f) (mA f))/\PySem.Within mA (fs.map (·.1))/\fs.length<=1000/\H dx=some (.own a):=by
 obtain⟨d,z,ne,ob,mA,n,r,q⟩:=(show ObjOk P w H h a (.ins C dx fs) from hok a _ e)
 exact⟨mA,⟨ob,n,ne⟩,r,q,z,d⟩
end
structure Cls (K:PySem.W.Frag) (C:Addr):Prop where
 pg:W.plainGet K C Str.empty=true
 hd:W.hasDictIn K C=true
 po:W.plainOver K C=true
 sa:W.findIn K (.ref C) "__setattr__" = some (some (.builtin "object.__setattr__"))
theorem Cls.get {K:PySem.W.Frag}{C:Addr} (c:Cls K C) (f:Str):W.plainGet K C f=true:=c.pg
def NoAttr (K:PySem.W.Frag) (C:Addr) (f:Str):Prop:=W.findIn K (.ref C) f=some none
theorem NoAttr.taker {K:PySem.W.Frag}{C:Addr}{f:Str} (n:NoAttr K C f):PySem.W.takerIn K C f=some none:=by
 unfold PySem.W.takerIn
 rw[show W.findIn K (.ref C) f=some none from n]
 rfl
structure Con (K:PySem.W.Frag) (C:Addr) (f:Str) (v:V) (u:Value):Prop where
 at_:W.findIn K (.ref C) f=some (some u)
 rel:RelV v u
 get:PySem.W.specialIn K u "__get__" = some none
 cp:PySem.W.copiedNames.contains f=false
structure Meth (K:PySem.W.Frag) (C:Addr) (m:Str) (f:Addr):Prop where
 at_:W.findIn K (.ref C) m=some (some (.ref f))
 fn:W.isFn K (.ref f)=true
 kp:W.keepIn K (.ref f)=true
section
variable {X:Cx}{pins:List (Addr×Obj)}{σ:St}{H:Hp}{s:Shared}{a C dx:Addr}{fs:List (Str×V)}{f:Str}{v:V}{A:Around}{E:Value->Shared->Prop}
theorem getattr_ok {b:Bool}{Q:Value->Shared->Prop} (I:Inv X pins σ H s) (e:H a=some (.ins C dx fs)) (c:Cls X.K C) (n:NoAttr X.K C f) (l:fs.lookup f=some v)
  (h:∀ u s',Inv X pins σ H s'->RelV v u->Q u s'):wpAny (model X.prog X.w) A (getAttr (.ref a) f b) Q E s:=by
 obtain⟨mA,O,r,_,_,_⟩:=ins_get I.hok e
 obtain⟨u,hu,ru⟩:=RelO.some_of (v:=v) (o:=mA f) (by rw[<- l]; exact r f)
 exact get_map I.kIn O (c.get f) c.hd n hu (handed_of ru) (h u _ (I.tok _) ru)
theorem getmeth_ok {m:Str}{g:Addr}{pl:Sem Bool}{Q:Value×List Value->Shared->Prop} (I:Inv X pins σ H s) (e:H a=some (.ins C dx fs)) (c:Cls X.K C) (k:Meth X.K C m g) (l:fs.lookup m=none)
  (h:Q (.ref g,[.ref a]) s):wpAny (model X.prog X.w) A (getMethod (.ref a) m pl) Q E s:=by
 obtain⟨mA,O,r,_,_,_⟩:=ins_get I.hok e
 have hn:mA m=none:=RelO.none_of (by rw[<- l]; exact r m)
 exact get_meth I.kIn O (c.get m) k.at_ k.fn hn h
theorem setattr_ok {y:V}{u:Value}{Q:Unit->Shared->Prop} (I:Inv X pins σ H s) (e:H a=some (.ins C dx fs)) (c:Cls X.K C) (n:NoAttr X.K C f) (hl:fs.length<1000) (ry:RelV y u)
  (h:∀ s',Inv X pins σ (upd H a (.ins C dx (putF f y fs))) s'->Q () s'):wpAny (model X.prog X.w) A (setAttr (.ref a) f u) Q E s:=by
 obtain⟨mA,O,r,wi,_,ho⟩:=ins_get I.hok e
 have hz:(fs.map (·.1)).length<=sizeLine:=by rw[length_map,sizeLine_eq]; omega
 refine set_map I.kIn O c.sa c.po n.taker c.hd wi hz fun h' O' sb=>h _ ?_
 have hd:∃ o,h'.get? dx=some o:=let ⟨o,_,_,e',_⟩:=O'.ns; ⟨o,e'⟩
 refine I.write (x:=a) (e:=dx) (by rw[e]; exact True.intro) (.inr ho) (fun b q hb z=>(sb.2 b hb).trans z) hd ?_
 refine⟨by rw[upd_ne O.ne]; exact ho,?_,O.ne,O'.obj,_,O'.ns,fun g=>?_,fun g hg=>?_⟩
 ·have:=length_putF f y fs; omega
 ·show RelO ((putF f y fs).lookup g) (if g=f then some u else mA g)
  rw[lookup_putF]
  by_cases q:g=f
  ·rw[if_pos q,if_pos q]; exact ry
  ·rw[if_neg q,if_neg q]; exact r g
 ·by_cases q:g=f
  ·rw[q]; exact(keys_putF f y fs).1
  ·refine(keys_putF f y fs).2 g (wi g fun z=>hg ?_)
   show(if g=f then some u else mA g)=none
   rw[if_neg q]; exact z
theorem Inv.made (I:Inv X pins σ H s):Inv X pins σ (upd (upd H s.heap.objs.size (.own (s.heap.objs.size+1))) (s.heap.objs.size+1) (.ins C s.heap.objs.size []))
  { s with heap:=(s.heap.push PySem.W.emptyDict).push (PySem.W.instObj C s.heap.objs.size) }:=by
 have e1:(s.heap.push PySem.W.emptyDict).get? s.heap.objs.size=some PySem.W.emptyDict:=Heap.get?_push_size s.heap rfl
 have e2:((s.heap.push PySem.W.emptyDict).push (PySem.W.instObj C s.heap.objs.size)).get? (s.heap.objs.size+1)=some (PySem.W.instObj C s.heap.objs.size):=by
  have:=Heap.get?_push_size (s.heap.push PySem.W.emptyDict) (o:=PySem.W.instObj C s.heap.objs.size) rfl
  rwa [Heap.size_push] at this
 have e3:(s.heap.push PySem.W.emptyDict).Ns s.heap.objs.size (fun _=>none):=⟨PySem.W.emptyDict,#[],_,e1,rfl,(fun e he=>absurd he (by simp)),fun _=>rfl⟩
 have I1:=I.laid (a:=s.heap.objs.size) (o:=.own (s.heap.objs.size+1)) (h':=s.heap.push PySem.W.emptyDict) (t':=s.toks) (fun b u q=>Heap.get?_push_of_some _ q) (Nat.le_refl _) ⟨_,e1⟩
 refine I1.laid (a:=s.heap.objs.size+1) (o:=.ins C s.heap.objs.size []) (t':=s.toks) (fun b u q=>Heap.get?_push_of_some _ q) (Nat.le_of_eq (Heap.size_push _ _)) ?_
 have ne:s.heap.objs.size≠s.heap.objs.size+1:=Nat.ne_of_lt (Nat.lt_succ_self _)
 refine⟨by rw[upd_ne ne,upd_same],Nat.zero_le _,ne,e2,fun _=>none,(Heap.Ns1.of_empty e3).at fun o q=>Heap.get?_push_of_some _ q,fun _=>True.intro,fun y hy=>absurd rfl hy⟩
theorem attr_of {prog:Program}{w:World}{env:Env}{e:Expr}{f:Str}{pos:Pos}{s:Shared}{Q:Value->Shared->Prop} (hb:attributeBase e f env (eval e env)=eval e env)
  (h:wpAny (model prog w) A (eval e env) (fun o s₁=>wpAny (model prog w) A (getAttr o f true) Q E s₁) E s):wpAny (model prog w) A (eval (.Attribute e f pos) env) Q E s :=
 Attribute_any_ h (by rw[arm_eval_Attribute,hb])
end
def tFld (K:PySem.W.Frag) (ta:TE) (f:Str):TE:=fun σ H Q=>ta σ H fun x H1=>∃ a C dx fs v,x=.ref a/\H1 a=some (.ins C dx fs)/\Cls K C/\NoAttr K C f/\fs.lookup f=some v/\Q v H1
def sFld (K:PySem.W.Frag) (ta tv:TE) (f:Str):TS:=fun D σ H=>tv σ H fun y H1=>ta σ H1 fun x H2=>∃ a C dx fs,x=.ref a/\H2 a=some (.ins C dx fs)/\Cls K C/\NoAttr K C f/\fs.length<1000 /\
 D.nx σ (upd H2 a (.ins C dx (putF f y fs)))
section
variable {X:Cx}{o e value:Expr}{f:Str}{pos pos' tpos:Pos}{ta tv:TE}
theorem pe_fld (he:PE X e ta) (hb:attributeBase e f X.env (eval e X.env)=eval e X.env):PE X (.Attribute e f pos) (tFld X.K ta f):=by
 intro pins s σ H Q I h
 refine attr_of hb (thn (he pins s σ H _ I h) fun u s1 ⟨x,H1,I1,rx,a,C,dx,fs,v,ex,ea,c,n,l,q⟩=>?_)
 subst ex
 obtain rfl:u=Value.ref a:=rx
 exact getattr_ok I1 ea c n l fun u' s2 I2 ru=>⟨v,H1,I2,ru,q⟩
theorem ps_fld (ha:PE X o ta) (hv:PE X value tv) (hs:swapsWith value (some (.Attribute o f pos')) pos.line X.env=pure false):PS X (.Assign [.Attribute o f pos'] value pos) (sFld X.K ta tv f):=by
 intro pins s σ H D I h
 refine plainObj_wpAny_Assign_Attribute (thn (hv pins s σ H _ I h) fun u s1 ⟨y,H1,I1,ry,q⟩=>thn (ha pins s1 σ H1 _ I1 q) fun ov s2 ⟨x,H2,I2,rx,a,C,dx,fs,ex,ea,c,n,l,q2⟩=>?_) hs
 subst ex
 obtain rfl:ov=Value.ref a:=rx
 exact setattr_ok I2 ea c n l ry fun s3 I3=>⟨σ,_,I3,q2⟩
end
section
variable {X:Cx}{pins:List (Addr×Obj)}{σ:St}{H:Hp}{s:Shared}{A:Around}{E:Value->Shared->Prop}{Q:Value->Shared->Prop}{c:Value}{b:Bool}
inductive TyOf (K:PySem.W.Frag) (H:Hp):V->Value->Prop where
 | non:TyOf K H .non (.type "NoneType")
 | bl (x:Bool):TyOf K H (.bl x) (.type "bool")
 | int (i:Int):TyOf K H (.int i) (.type "int")
 | str (x:Str):TyOf K H (.str x) (.type "str")
 | flt (x:UInt64):TyOf K H (.flt x) (.type "float")
 | lst {a:Addr}{xs:List V} (e:H a=some (.lst xs)):TyOf K H (.ref a) (.type "list")
 | frz {a:Addr}{o:Obj}{xs:List V} (e:H a=some (.frz o (.lst xs))):TyOf K H (.ref a) (.type "list")
 | tup {a:Addr}{xs:List V} (e:H a=some (.tup xs)):TyOf K H (.ref a) (.type "tuple")
 | dK {a:Addr}{kvs:List (Key×V)} (e:H a=some (.dK kvs)):TyOf K H (.ref a) (.type "dict")
 | dT {a:Addr}{kvs:List (List Key×V)} (e:H a=some (.dT kvs)):TyOf K H (.ref a) (.type "dict")
 | ins {a C dx:Addr}{fs:List (Str×V)} (e:H a=some (.ins C dx fs)) (cl:Cls K C) (ha:W.findIn K (.ref C) "__class__" = some (some (.builtin "object.__class__")))
   (hn:PySem.W.specialIn K (.builtin "object.__class__") "__get__" = some (some (.builtin "getset_descriptor.__get__"))) (htk:PySem.W.takesIn K (.builtin "object.__class__")=some true)
   (hm:PySem.W.mroIn K C (.type "object")=some true):TyOf K H (.ref a) (.ref C)
theorem isinst_ok {x:V}{u t:Value} (I:Inv X pins σ H s) (rx:RelV x u) (ty:TyOf X.K H x t) (e:PySem.W.kitOne X.K t c=some b) (h:∀ tk,Q (.bool b) { s with toks:=tk }) :
  wpAny (model X.prog X.w) A (call (.builtin "isinstance") [u,c]) Q E s:=by
 cases ty with
 | non=>cases (show u=Value.none from rx); exact PySem.W.kia_one PySem.W.kitx_none I.kIn True.intro e (fun z=>nomatch z) h
 | bl y=>cases (show u=Value.bool y from rx); exact PySem.W.kia_one PySem.W.kitx_bool I.kIn True.intro e (fun z=>nomatch z) h
 | int i=>obtain⟨t,q⟩:=(show ∃ t,u=Value.int i t from rx); cases q; exact PySem.W.kia_one PySem.W.kitx_int I.kIn True.intro e (fun z=>nomatch z) h
 | str y=>obtain⟨t,q⟩:=(show ∃ t,u=Value.str y t from rx); cases q; exact PySem.W.kia_one PySem.W.kitx_str I.kIn True.intro e (fun z=>nomatch z) h
 | flt y=>obtain⟨t,q⟩:=(show ∃ t,u=Value.float y t from rx); cases q; exact PySem.W.kia_one PySem.W.kitx_float I.kIn True.intro e (fun z=>nomatch z) h
 | @lst a xs ea=>
  cases (show u=Value.ref a from rx)
  obtain⟨_,_,n,_,h1⟩:=(show ObjOk X.prog X.w H s.heap a (.lst xs) from I.hok a _ ea)
  exact PySem.W.kia_one PySem.W.kitx_list I.kIn ⟨_,h1,rfl⟩ e (fun z=>nomatch z) h
 | @frz a ob xs ea=>
  cases (show u=Value.ref a from rx)
  obtain⟨_,_,_,n,_,h1⟩:=(show ObjOk X.prog X.w H s.heap a (.frz ob (.lst xs)) from I.hok a _ ea)
  exact PySem.W.kia_one PySem.W.kitx_list I.kIn ⟨_,h1,rfl⟩ e (fun z=>nomatch z) h
 | @tup a xs ea=>
  cases (show u=Value.ref a from rx)
  obtain⟨_,_,_,p⟩:=(show ObjOk X.prog X.w H s.heap a (.tup xs) from I.hok a _ ea)
  obtain⟨o,h1,h2,_⟩:=p
  exact PySem.W.kia_one PySem.W.kitx_tuple I.kIn ⟨o,h1,h2⟩ e (fun z=>nomatch z) h
 | @dK a kvs ea=>
  cases (show u=Value.ref a from rx)
  obtain⟨_,_,vs,_,p⟩:=(show ObjOk X.prog X.w H s.heap a (.dK kvs) from I.hok a _ ea)
  obtain⟨o,es,ep,h1,h2,_⟩:=p
  exact PySem.W.kia_one PySem.W.kitx_dict I.kIn ⟨o,h1,h2.1⟩ e (fun z=>nomatch z) h
 | @dT a kvs ea=>
  cases (show u=Value.ref a from rx)
  obtain⟨_,_,xs,_,o,es,ep,h1,h2,_⟩:=(show ObjOk X.prog X.w H s.heap a (.dT kvs) from I.hok a _ ea)
  exact PySem.W.kia_one PySem.W.kitx_dict I.kIn ⟨o,h1,h2.1⟩ e (fun z=>nomatch z) h
 | @ins a C dx fs ea cl ha hn htk hm=>
  cases (show u=Value.ref a from rx)
  obtain⟨mA,O,_⟩:=ins_get I.hok ea
  obtain⟨od,J,_⟩:=O.look
  exact PySem.W.kia_one (PySem.W.kitx_own (cl.get _) cl.hd ha hn htk hm) I.kIn J e (fun z=>nomatch z) h
end
end L2
namespace L2
open PySem PySem.Spec PyProof.Rows
structure Room (k:Nat) (A:Around):Prop where
 hd:A.handled=none
 dp:A.depth+3*k+5<recursionLimit
 un:A.units+16*k+200<cLine
 gd:A.guards=some []
theorem Room.mono {j k:Nat}{A:Around} (r:Room k A) (h:j<=k):Room j A:=⟨r.hd,by have:=r.dp; omega,by have:=r.un; omega,r.gd⟩
theorem Room.deeper {k:Nat}{A:Around} (r:Room (k+1) A) (env:Env):Room k (A.deeper env) :=
 ⟨r.hd,by have:=r.dp; show A.depth+1+3*k+5<_; omega,by have:=r.un; show A.units+3+16*k+200<_; omega,r.gd⟩
theorem make_depth {A:Around}{C:Addr}{us:List Value}{kw:List (Str×Value)}:(A.under (.builtin "type.__call__" ⟨.ref C::us,kw⟩)).depth=A.depth+1:=by
 first | rfl | simp[Around.under,Code.weight,Code.isCreation,Code.isGuard,Code.isCaller,Code.frames,Code.isFrame,guardIds]
theorem make_units {A:Around}{C:Addr}{us:List Value}{kw:List (Str×Value)}:(A.under (.builtin "type.__call__" ⟨.ref C::us,kw⟩)).units=A.units+1:=by
 first | rfl | simp[Around.under,Code.cUnits,Code.frames,Code.isFrame]
theorem make_guards {A:Around}{C:Addr}{us:List Value}{kw:List (Str×Value)}:(A.under (.builtin "type.__call__" ⟨.ref C::us,kw⟩)).guards=A.guards:=by
 cases h:A.guards with
 | none=>simp[Around.under,Code.guards,Code.isGuard,guardIds,pushGuards,h]
 | some l=>simp[Around.under,Code.guards,Code.isGuard,guardIds,pushGuards,h]
theorem Room.make {k:Nat}{A:Around} (r:Room (k+1) A) (C:Addr) (us:List Value) (kw:List (Str×Value)):Room k (A.under (.builtin "type.__call__" ⟨.ref C::us,kw⟩)) :=
 ⟨r.hd,by have:=r.dp; rw[make_depth]; omega,by have:=r.un; rw[make_units]; omega,by rw[make_guards]; exact r.gd⟩
theorem Room.depth {k:Nat}{A:Around} (r:Room k A):A.depth<recursionLimit:=by have:=r.dp; omega
theorem Room.units {k:Nat}{A:Around} (r:Room k A):A.units+64<cLine:=by have:=r.un; omega
def tNil:TA:=fun _ H Q=>Q [] H
def tCons (ta:TE) (tr:TA):TA:=fun σ H Q=>ta σ H fun x H1=>tr σ H1 fun xs H2=>Q (x::xs) H2
section
variable {X:Cx}{e:Expr}{es:List Expr}{te:TE}{t:TA}{pos:Pos}
theorem pa_nil:PA X [] tNil:=fun _ _ _ _ H Q I h=>Calls.spliced_nil ⟨[],H,I,.nil,h⟩
theorem pa_cons (ha:PE X e te) (hr:PA X es t) (hs:starEach (e::es) X.env=(false,eval e X.env)::starEach es X.env:=by rfl):PA X (e::es) (tCons te t):=by
 intro pos pins s σ H Q I h
 rw[hs]
 show wpAny _ _ (spliced ((false,eval e X.env)::backTo pos (starEach es X.env))) _ _ s
 refine Calls.spliced_cons (thn (ha pins s σ H _ I h) fun u s1 ⟨x,H1,I1,r1,q1⟩=>?_)
 exact thn (hr pos pins s1 σ H1 _ I1 q1) fun us s2 ⟨xs,H2,I2,r2,q2⟩=>⟨x::xs,H2,I2,.cons r1 r2,q2⟩
def tTup (t:TA):TE:=fun σ H Q=>t σ H fun xs H1=>xs.length<=sizeLine/\∀ p,H1 p=none->Q (.ref p) (upd H1 p (.tup xs))
def tLst (t:TA):TE:=fun σ H Q=>t σ H fun xs H1=>xs.length<=sizeLine/\∀ p,H1 p=none->Q (.ref p) (upd H1 p (.lst xs))
theorem pe_tup {x1} (h:PA X es t):PE X (.Tuple es x1 pos) (tTup t):=by
 intro pins s σ H Q I hq
 refine wpAny_Tuple_spliced (thn (h pos pins s σ H _ I hq) fun us s1 ⟨xs,H1,I1,r,z,q⟩=>⟨by rw[<- r.length]; exact z,?_⟩)
 have hf:H1 s1.heap.objs.size=none:=I1.hok.fresh (Nat.le_refl _)
 refine⟨.ref s1.heap.objs.size,upd H1 s1.heap.objs.size (.tup xs),I1.laid (t':=s1.toks) (fun b u e=>Heap.get?_push_of_some _ e) (Nat.le_refl _) ?_,rfl,q _ hf⟩
 exact⟨z,us,r,⟨_,Heap.get?_push_size _ rfl,rfl,_,rfl⟩⟩
theorem pe_lst (h:PA X es t):PE X (.List es pos) (tLst t):=by
 intro pins s σ H Q I hq
 refine wpAny_List_spliced (thn (h pos pins s σ H _ I hq) fun us s1 ⟨xs,H1,I1,r,z,q⟩=>⟨by rw[<- r.length]; exact z,?_⟩)
 have hf:H1 s1.heap.objs.size=none:=I1.hok.fresh (Nat.le_refl _)
 refine⟨.ref s1.heap.objs.size,upd H1 s1.heap.objs.size (.lst xs),I1.laid (t':=s1.toks) (fun b u e=>Heap.get?_push_of_some _ e) (Nat.le_refl _) ?_,rfl,q _ hf⟩
 exact⟨z,us,0,r,Heap.get?_push_size _ rfl⟩
end
abbrev Sp:=List V->Hp->VK->XK->Prop
abbrev CXT:=List Env->Hp->Shared->XK->Value->Shared->Prop
structure Env0 (P:Program) (w:World) (K:PySem.W.Frag) (mg:Str->Option Value) (base:Heap) (A:Around) (outer:List Env) (s:Shared) (H:Hp):Prop where
 frames:A.frames=some outer
 mod:Mod K mg base
 bs:∀ b o,base.get? b=some o->s.heap.get? b=some o/\H b=none
 bsz:base.objs.size<=s.heap.objs.size
 funs:s.heap.FunFrames base outer
 frf:∀ b ∈ frs outer,H b=none
 hok:HOk P w H s.heap
 bare:AllBare s.gens
def CE (outer:List Env) (P:Program) (w:World) (H:Hp) (s:Shared) (Q:VK) (u:Value) (s':Shared):Prop :=
 ∃ v H',s'.os=s.os/\AllBare s'.gens/\Un (frs outer) [] H H' s.heap s'.heap/\HOk P w H' s'.heap/\RelV v u/\Q v H'
def CR (CX:CXT) (outer:List Env) (P:Program) (w:World) (H:Hp) (s:Shared) (Q:VK) (E:XK) (r:Result) (s':Shared):Prop :=
 match r with
 | .ok (.ret u)=>CE outer P w H s Q u s'
 | .ok _=>False
 | .error e=>CX outer H s E e s'
structure FnOk (P:Program) (w:World) (K:PySem.W.Frag) (mg:Str->Option Value) (base:Heap) (CX:CXT) (k:Nat) (f:Addr) (fd:FuncData) (ps:List Str) (sp:Sp):Prop where
 len:∀ vs H Q E,sp vs H Q E->vs.length=ps.length
 run:∀ (A:Around) (outer:List Env) (s:Shared) (H:Hp) (args:Args) (us:List Value) (vs:List V) (Q:VK) (E:XK),Room k A->Env0 P w K mg base A outer s H->BindsTo s fd args (ps.zip us)->Vals vs us->sp vs H Q E ->
  codeAny (model P w) A (.call (.ref f) args) (CR CX outer P w H s Q E) s
theorem Env0.make {P:Program}{w:World}{K:PySem.W.Frag}{mg:Str->Option Value}{base:Heap}{A:Around}{outer:List Env}{s:Shared}{H:Hp} (e:Env0 P w K mg base A outer s H) (C:Addr) (us:List Value) (kw:List (Str×Value)) :
  Env0 P w K mg base (A.under (.builtin "type.__call__" ⟨.ref C :: us,kw⟩)) outer s H:=⟨by first | exact e.frames | (simpa [Around.under,Code.envs,Code.isFrame,pushEnvs] using e.frames),e.mod,e.bs,e.bsz,e.funs,e.frf,e.hok,e.bare⟩
section
variable {X:Cx}{pins:List (Addr×Obj)}{σ:St}{H:Hp}{s s':Shared}
theorem Inv.env0 (I:Inv X pins σ H s):Env0 X.prog X.w X.K X.mg X.base X.A X.stack s H :=
 ⟨I.ok.frames,I.ok.mod,I.bs,Nat.le_trans I.ok.bsz I.sz,I.stack,I.stkFree,I.hok,I.bare⟩
theorem Inv.after {Q:VK}{u:Value} (I:Inv X pins σ H s) (h:CE X.stack X.prog X.w H s Q u s'):EP X pins σ Q u s':=by
 obtain⟨v,H',os,bare,un,hok,r,q⟩:=h
 obtain⟨hh,g,d,t,os'⟩:=s'
 obtain rfl:os'=s.os:=os
 exact⟨v,H',I.call (h':=hh) (g':=g) (d':=d) (t':=t) (ch:=[]) un hok bare (fun b z=>absurd z (by simp)),r,q⟩
end
def tCall (sp:Sp) (dvs:List V) (E:XK) (t:TA):TE:=fun σ H Q=>t σ H fun vs H1=>sp (vs++dvs) H1 Q E
def tMeth (C:Addr) (m:Str) (sp:Sp) (dvs:List V) (E:XK) (ta:TE) (t:TA):TE:=fun σ H Q=>ta σ H fun x H1=>∃ a dx fs,x=.ref a/\H1 a=some (.ins C dx fs)/\fs.lookup m=none /\
 t σ H1 fun vs H2=>sp (x::(vs++dvs)) H2 Q E
def tMake (C:Addr) (sp:Sp) (dvs:List V) (E:XK) (t:TA):TE:=fun σ H Q=>t σ H fun vs H1=>∀ x dx,H1 x=none->H1 dx=none->dx≠x ->
 sp (.ref x::(vs++dvs)) (upd (upd H1 dx (.own x)) x (.ins C dx [])) (fun v H2=>v=.non/\Q (.ref x) H2) E
def Binds (K:PySem.W.Frag) (fd:FuncData) (ps:List Str) (ds:List Value):Prop :=
 ∀ (s:Shared) (us:List Value),K.In s.heap->(us++ds).length=ps.length->BindsTo s fd ⟨us,[]⟩ (ps.zip (us++ds))
theorem Binds.all {K:PySem.W.Frag}{fd:FuncData}{ps:List Str} (h:∀ us:List Value,us.length=ps.length->bindArgs fd ⟨us,[]⟩=pure (ps.zip us)):Binds K fd ps []:=fun s us _ hl=>by
 rw[append_nil] at hl ⊢
 exact .of_eq (h us hl)
def Passes (CX:CXT) (X:Cx) (E:XK):Prop:=∀ (pins:List (Addr×Obj)) (σ:St) (H:Hp) (s:Shared) (e:Value) (s':Shared),Inv X pins σ H s->CX X.stack H s E e s'->X.xe e s'
section
variable {X:Cx}{CX:CXT}{k:Nat}{f C:Addr}{fd:FuncData}{ps:List Str}{sp:Sp}{dvs:List V}{ds:List Value}{E:XK}{x m:Str}{p pos apos:Pos}{e o:Expr}{es:List Expr}{ta:TE}{t:TA}
theorem run_fn {pins:List (Addr×Obj)}{σ:St}{H:Hp}{s:Shared}{Q:VK}{us:List Value}{vs:List V} (F:FnOk X.prog X.w X.K X.mg X.base CX k f fd ps sp) (hr:Room k X.A) (hb:Binds X.K fd ps ds) (hd:Vals dvs ds) (hx:Passes CX X E)
  (I:Inv X pins σ H s) (r:Vals vs us) (h:sp (vs++dvs) H Q E):wpAny (model X.prog X.w) X.A (call (.ref f) us) (EP X pins σ Q) X.xe s:=by
 have r2:Vals (vs++dvs) (us++ds):=r.append hd
 have hl:(us++ds).length=ps.length:=by rw[<- r2.length]; exact F.len _ _ _ _ h
 refine wpAny_call (codeAny_mono (F.run X.A X.stack s H ⟨us,[]⟩ (us++ds) (vs++dvs) Q E hr I.env0 (hb s us I.kIn hl) r2 h) fun r s' hq=>?_)
 cases r with
 | error e=>exact hx pins σ H s e s' I hq
 | ok fl=>
  cases fl with
  | ret u=>exact I.after hq
  | next=>exact False.elim hq
  | brk=>exact False.elim hq
  | cont=>exact False.elim hq
theorem pe_call (F:FnOk X.prog X.w X.K X.mg X.base CX k f fd ps sp) (hr:Room k X.A) (hg:Gl X x) (hm:X.mg x=some (.ref f)) (hk:W.keepIn X.K (.ref f)=true) (hb:Binds X.K fd ps ds) (hd:Vals dvs ds) (hx:Passes CX X E)
  (ha:PA X (e::es) t) (hdb:(x == ("__debug__" : Str))=false:=by decide) (he:starEach (e::es) X.env=(false,eval e X.env)::starEach es X.env:=by rfl) (hpl:(backTo pos (starEach es X.env)).any (·.1)=false:=by rfl) :
  PE X (.Call (.Name x p) (e::es) [] pos) (tCall sp dvs E t):=by
 intro pins s σ H Q I h
 refine wpAny_Call_Name_kw (ld_glob I hg hm ?_ hdb)
 refine PySem.W.callWith_K (h₀:=X.base) I.ok.mod.kin hk (thn (ha pos pins s σ H _ I h) fun us s1 ⟨vs,H1,I1,r,q⟩=>⟨I1.kIn,?_⟩) he hpl
 exact run_fn F hr hb hd hx I1 r q
theorem pe_meth {pl:Sem Bool} (he:PE X o ta) (c:Cls X.K C) (hm:Meth X.K C m f) (F:FnOk X.prog X.w X.K X.mg X.base CX k f fd ps sp) (hr:Room k X.A) (hb:Binds X.K fd ps ds) (hd:Vals dvs ds) (hx:Passes CX X E) (ha:PA X (e::es) t)
  (hst:starEach (e::es) X.env=(false,eval e X.env)::starEach es X.env:=by rfl) (hpl:(backTo pos (starEach es X.env)).any (·.1)=false:=by rfl)
  (ht:eval (.Call (.Attribute o m apos) (e::es) [] pos) X.env=(do
   let ov <- eval o X.env
   standAt apos.atName
   let (f,first) <- holding [ov] (getMethod ov m pl)
   callWith pos f first (backTo pos (starEach (e::es) X.env)) (backToKw pos (keywordEach [] X.env))):=by rfl) :
  PE X (.Call (.Attribute o m apos) (e::es) [] pos) (tMeth C m sp dvs E ta t):=by
 intro pins s σ H Q I h
 refine PySem.W.methodCall_KW (pl:=pl) (thn (he pins s σ H _ I h) fun u s1 ⟨x,H1,I1,rx,a,dx,fs,ex,ea,l,q⟩=>?_) ht
 subst ex
 obtain rfl:u=Value.ref a:=rx
 refine getmeth_ok I1 ea c hm l ?_
 refine PySem.W.callWith_K (first:=[.ref a]) (h₀:=X.base) I.ok.mod.kin hm.kp (thn (ha pos pins s1 σ H1 _ I1 q) fun us s2 ⟨vs,H2,I2,r,q2⟩=>⟨I2.kIn,?_⟩) hst hpl
 exact run_fn (us:=.ref a::us) (vs:=.ref a::vs) F hr hb hd hx I2 (.cons rfl r) q2
theorem pe_meth0 {pl:Sem Bool} (he:PE X o ta) (c:Cls X.K C) (hm:Meth X.K C m f) (F:FnOk X.prog X.w X.K X.mg X.base CX k f fd ps sp) (hr:Room k X.A) (hb:Binds X.K fd ps ds) (hd:Vals dvs ds) (hx:Passes CX X E)
  (ht:eval (.Call (.Attribute o m apos) [] [] pos) X.env=(do
   let ov <- eval o X.env
   standAt apos.atName
   let (f,first) <- holding [ov] (getMethod ov m pl)
   callWith pos f first (backTo pos (starEach [] X.env)) (backToKw pos (keywordEach [] X.env))):=by rfl) :
  PE X (.Call (.Attribute o m apos) [] [] pos) (tMeth C m sp dvs E ta tNil):=by
 intro pins s σ H Q I h
 refine PySem.W.methodCall_KW (pl:=pl) (thn (he pins s σ H _ I h) fun u s1 ⟨x,H1,I1,rx,a,dx,fs,ex,ea,l,q⟩=>?_) ht
 subst ex
 obtain rfl:u=Value.ref a:=rx
 refine getmeth_ok I1 ea c hm l ?_
 exact PySem.W.callWith_K0 (first:=[.ref a]) I1.kIn hm.kp (run_fn (us:=[.ref a]) (vs:=[.ref a]) F hr hb hd hx I1 (.cons rfl .nil) q)
structure Mk (K:PySem.W.Frag) (C f:Addr):Prop where
 makes:W.makesIn K C=true
 init:W.findIn K (.ref C) "__init__" = some (some (.ref f))
 fn:W.isFn K (.ref f)=true
 kp:W.keepIn K (.ref C)=true
theorem run_make {pins:List (Addr×Obj)}{σ:St}{H:Hp}{s:Shared}{Q:VK}{us:List Value}{vs:List V} (M:Mk X.K C f) (F:FnOk X.prog X.w X.K X.mg X.base CX k f fd ps sp) (hr:Room (k+1) X.A) (hb:Binds X.K fd ps ds) (hd:Vals dvs ds)
  (hx:Passes CX X E) (I:Inv X pins σ H s) (r:Vals vs us)
  (h:∀ x dx,H x=none->H dx=none->dx≠x->sp (.ref x::(vs++dvs)) (upd (upd H dx (.own x)) x (.ins C dx [])) (fun v H2=>v=.non/\Q (.ref x) H2) E) :
  wpAny (model X.prog X.w) X.A (call (.ref C) us) (EP X pins σ Q) X.xe s:=by
 have hq:=h (s.heap.objs.size+1) s.heap.objs.size (I.hok.fresh (Nat.le_succ _)) (I.hok.fresh (Nat.le_refl _)) (Nat.ne_of_lt (Nat.lt_succ_self _))
 have I2:=Inv.made (C:=C) I
 have r2:Vals (V.ref (s.heap.objs.size+1)::(vs++dvs)) (Value.ref (s.heap.objs.size+1)::(us++ds)):=.cons rfl (r.append hd)
 have hl:(Value.ref (s.heap.objs.size+1)::us++ds).length=ps.length:=by
  have e:=r2.length
  rw[F.len _ _ _ _ hq] at e
  exact e.symm
 refine wpAny_call (make_map (f:=f) I.kIn M.makes M.init (beq_iff_eq.mp M.fn) (codeAny_mono (F.run _ X.stack _ _ ⟨Value.ref (s.heap.objs.size+1)::us,[]⟩ (Value.ref (s.heap.objs.size+1)::(us++ds)) _ _ E (hr.make C us [])
  (I2.env0.make C us []) (hb _ (Value.ref (s.heap.objs.size+1)::us) I2.kIn hl) r2 hq) fun r s' hq'=>?_))
 cases r with
 | error e=>exact hx pins σ _ _ e s' I2 hq'
 | ok fl=>
  cases fl with
  | ret u=>
   obtain⟨v,H',I3,rv,ev,q3⟩:=I2.after hq'
   subst ev
   exact⟨rv,⟨V.ref (s.heap.objs.size+1),H',I3,rfl,q3⟩⟩
  | next=>exact False.elim hq'
  | brk=>exact False.elim hq'
  | cont=>exact False.elim hq'
theorem pe_make (M:Mk X.K C f) (F:FnOk X.prog X.w X.K X.mg X.base CX k f fd ps sp) (hr:Room (k+1) X.A) (hg:Gl X x) (hm:X.mg x=some (.ref C)) (hb:Binds X.K fd ps ds) (hd:Vals dvs ds) (hx:Passes CX X E)
  (ha:PA X (e::es) t) (hdb:(x == ("__debug__" : Str))=false:=by decide) (he:starEach (e::es) X.env=(false,eval e X.env)::starEach es X.env:=by rfl) (hpl:(backTo pos (starEach es X.env)).any (·.1)=false:=by rfl) :
  PE X (.Call (.Name x p) (e::es) [] pos) (tMake C sp dvs E t):=by
 intro pins s σ H Q I h
 refine wpAny_Call_Name_kw (ld_glob I hg hm ?_ hdb)
 refine PySem.W.callWith_K (h₀:=X.base) I.ok.mod.kin M.kp (thn (ha pos pins s σ H _ I h) fun us s1 ⟨vs,H1,I1,r,q⟩=>⟨I1.kIn,?_⟩) he hpl
 exact run_make M F hr hb hd hx I1 r q
end
section
variable {X:Cx}{CX:CXT}{k:Nat}{f C:Addr}{fd:FuncData}{ps ks:List Str}{sp:Sp}{E:XK}{x m:Str}{p pos apos kpos:Pos}{e o:Expr}{es:List Expr}{kws:List Keyword}{te ta:TE}{t tk:TA}{nm:Option Str}
structure KBinds (K:PySem.W.Frag) (fd:FuncData) (ps ks:List Str) (g:List Value->List Value->List Value) (gV:List V->List V->List V):Prop where
 to:∀ (s:Shared) (us ws:List Value),K.In s.heap->(g us ws).length=ps.length->BindsTo s fd ⟨us,ks.zip ws⟩ (ps.zip (g us ws))
 rel:∀ {vs:List V}{us:List Value}{zs:List V}{ws:List Value},Vals vs us->Vals zs ws->Vals (gV vs zs) (g us ws)
variable {g:List Value->List Value->List Value}{gV:List V->List V->List V}
end
structure FnScope (N P:List Str) (sc:Scope):Prop where
 kind:sc.kind=.function
 co:sc.isCoroutine=false
 gen:sc.isGenerator=false
 nd:N.Nodup
 pre:N.take P.length=P
 par:∀ x ∈ P,sc.names.lookup x=some .local∨sc.names.lookup x=some .cell
 nofree:∀ y ∈ sc.names,y.2≠.free
theorem bindL_out {kindOf : Str->Option NameKind}{x : Str} : ∀ {binds : List (Str×Value)}{m : Str->Option Value}, (∀ v, (x, v) ∉ binds)->bindL kindOf binds m x=m x
  | [], _, _=>rfl
  | (n, v) :: r, m, h => by
    unfold bindL
    rw[bindL_out fun w hw=>h w (mem_cons_of_mem _ hw)]
    split
    · have : x≠n := by rintro rfl; exact h v mem_cons_self
      simp[this]
    · rfl
theorem bindC_out {kindOf : Str->Option NameKind}{x : Str} : ∀ {binds : List (Str×Value)}{m : Str->Option Value}, (∀ v, (x, v) ∉ binds)->bindC kindOf binds m x=m x
  | [], _, _=>rfl
  | (n, v) :: r, m, h => by
    unfold bindC
    rw[bindC_out fun w hw=>h w (mem_cons_of_mem _ hw)]
    split
    · rfl
    · have : x≠n := by rintro rfl; exact h v mem_cons_self
      simp[this]
theorem bindL_get {kindOf:Str->Option NameKind}{x:Str}{v:Value}:∀ {P:List Str}{vs:List Value}{i:Nat}{m:Str->Option Value},P.Nodup->P[i]?=some x->vs[i]?=some v->kindOf x=some .local ->
  bindL kindOf (P.zip vs) m x=some v
 | [],_,_,_,_,h,_,_=>by simp at h
 | _::_,[],_,_,_,_,h,_=>by simp at h
 | p::P,w::vs,0,m,nd,h1,h2,hk=>by
  simp at h1 h2; subst h1; subst h2
  show bindL kindOf ((p,w)::P.zip vs) m p=_
  unfold bindL
  rw[bindL_out fun v hv=>(List.nodup_cons.mp nd).1 (List.of_mem_zip hv).1,if_pos hk]
  simp
 | p::P,w::vs,i+1,m,nd,h1,h2,hk=>by
  show bindL kindOf ((p,w)::P.zip vs) m x=_
  unfold bindL
  exact bindL_get (i:=i) (List.nodup_cons.mp nd).2 (by simpa using h1) (by simpa using h2) hk
theorem bindC_get {kindOf:Str->Option NameKind}{x:Str}{v:Value}:∀ {P:List Str}{vs:List Value}{i:Nat}{m:Str->Option Value},P.Nodup->P[i]?=some x->vs[i]?=some v->kindOf x≠some .local ->
  bindC kindOf (P.zip vs) m x=some v
 | [],_,_,_,_,h,_,_=>by simp at h
 | _::_,[],_,_,_,_,h,_=>by simp at h
 | p::P,w::vs,0,m,nd,h1,h2,hk=>by
  simp at h1 h2; subst h1; subst h2
  show bindC kindOf ((p,w)::P.zip vs) m p=_
  unfold bindC
  rw[bindC_out fun v hv=>(List.nodup_cons.mp nd).1 (List.of_mem_zip hv).1,if_neg hk]
  simp
 | p::P,w::vs,i+1,m,nd,h1,h2,hk=>by
  show bindC kindOf ((p,w)::P.zip vs) m x=_
  unfold bindC
  exact bindC_get (i:=i) (List.nodup_cons.mp nd).2 (by simpa using h1) (by simpa using h2) hk
def start (N:List Str) (vs:List V):St:=vs.map some++List.replicate (N.length - vs.length) none
def cxOf (CX:CXT) (P:Program) (w:World) (K:PySem.W.Frag) (mg:Str->Option Value) (base:Heap) (N:List Str) (qual:Str) (scope:Scope) (f:Addr) (cd:Value) (A:Around) (outer:List Env) (s:Shared) (H:Hp) (E:XK):Cx where
 prog:=P
 w:=w
 K:=K
 mg:=mg
 base:=base
 A:=A.deeper (envOfC qual scope s.heap.objs.size f cd)
 N:=N
 s₀:=s
 H₀:=H
 env:=envOfC qual scope s.heap.objs.size f cd
 outer:=outer
 stack:=envOfC qual scope s.heap.objs.size f cd::outer
 ex:=[]
 calm:=true
 fn:=fun _=>true
 pn:=[]
 xe:=fun e s'=>wpAny (model P w) (A.deeper (envOfC qual scope s.heap.objs.size f cd)) (leaving (envOfC qual scope s.heap.objs.size f cd) e) (fun _ s''=>CX outer H s E e s'') (fun e' s''=>CX outer H s E e' s'') s'
theorem cell_has {sc:Scope}{n:Nat}{x:Str} (h:sc.names.lookup x=some .cell):∃ c,(cellsFrom n sc.names []).lookup x=some c:=by
 have q:=PySem.W.cellsFrom_some sc.names n [] (.inl h)
 exact Option.isSome_iff_exists.mp q
theorem inv_start {CX:CXT}{P:Program}{w:World}{K:PySem.W.Frag}{mg:Str->Option Value}{base:Heap}{N ps:List Str}{qual:Str}{scope:Scope}{f:Addr}{cd:Value}{A:Around}{outer:List Env}{s s1:Shared}{H:Hp}{E:XK}{us:List Value}{vs:List V}
  (S:FnScope N ps scope) (hd:A.handled=none) (e0:Env0 P w K mg base A outer s H) (hl:vs.length=ps.length) (r:Vals vs us)
  (x:InCallC s s.heap.objs.size (bindL (envOfC qual scope s.heap.objs.size f cd).kindOf (ps.zip us) fun _=>none) (cellsFrom (s.heap.objs.size+1) scope.names []) (bindC (envOfC qual scope s.heap.objs.size f cd).kindOf (ps.zip us) fun _=>none) s1) :
  Inv (cxOf CX P w K mg base N qual scope f cd A outer s H E) [] (start N vs) H s1:=by
 have hpl:ps.length<=N.length:=by have:=congrArg List.length S.pre; rw[length_take] at this; omega
 obtain⟨h1,tk,rfl,hk⟩:=x.done
 have noA:∀ b:Addr,b ∉ (cxOf CX P w K mg base N qual scope f cd A outer s H E).ex:=fun b z=>absurd (show b ∈ ([]:List Addr) from z) (by simp)
 refine⟨⟨e0.mod,S.kind,rfl,rfl,Nat.le_refl _,fun y z c h1 h2=>?_,fun y hy=>?_,fun y c _ h=>?_,fun _=>hd,Around.frames_deeper e0.frames,.inr ⟨rfl,rfl⟩,fun b z=>absurd z (noA b),e0.bs,e0.bsz,fun b _ _=>noA b,fun b z=>absurd z (noA b),e0.funs,e0.frf⟩,
  rfl,e0.bare,Un.kept hk,⟨_,x.toInCall.ns,fun i y v h1 h2 h3=>?_⟩,fun y c h=>⟨_,x.cell y c h⟩,e0.hok.fresh (Nat.le_refl _),fun y c h=>?_,fun p hp=>absurd (show p ∈ ([]:List (Addr×Obj)) from hp) (by simp),e0.hok.kept hk,?_⟩
 ·exact name_of_addr x.apart (PySem.mem_of_lookup h1) (PySem.mem_of_lookup h2)
 ·have hy:scope.names.lookup y=some .cell∨scope.names.lookup y=some .free:=hy
  rcases hy with hy | hy
  ·exact cell_has hy
  ·exact absurd rfl (S.nofree _ (PySem.mem_of_lookup hy))
 ·exact Nat.le_of_lt (x.above y c (PySem.mem_of_lookup h))
 ·have hi:i<vs.length:=by
   unfold start at h2
   by_cases hi:i<vs.length
   ·exact hi
   ·rw[getElem?_append_right (by simpa using hi)] at h2
    rw[List.getElem?_replicate] at h2
    split at h2 <;> cases h2
  have ha:vs[i]?=some v:=by
   unfold start at h2
   rw[getElem?_append_left (by simpa using hi),getElem?_map] at h2
   cases e:vs[i]? with
   | none=>rw[e] at h2; cases h2
   | some a=>rw[e] at h2; cases h2; rfl
  obtain⟨u,hu,rv⟩:=r.get ha
  have hp:ps[i]?=some y:=by
   rw[<- S.pre,List.getElem?_take_of_lt (by omega)]; exact h1
  have ndP:ps.Nodup:=by rw[<- S.pre]; exact S.nd.sublist (List.take_sublist _ _)
  refine⟨u,rv,?_⟩
  rcases S.par y (mem_of_getElem? hp) with k | k
  ·exact .inl ⟨k,bindL_get ndP hp hu k⟩
  ·obtain⟨c,e⟩:=cell_has (n:=s.heap.objs.size+1) k
   refine .inr ⟨.inl k,c,e,?_⟩
   have q:=x.cell y c e
   rw[bindC_get ndP hp hu (by show scope.names.lookup y≠_; rw[k]; decide)] at q
   exact q
 ·exact e0.hok.fresh (Nat.le_of_lt (x.above y c (PySem.mem_of_lookup h)))
 ·unfold start
  show _=N.length
  rw[length_append,length_map,length_replicate]
  omega
theorem fn_of {CX:CXT}{P:Program}{w:World}{K:PySem.W.Frag}{mg:Str->Option Value}{base:Heap}{k:Nat}{f:Addr}{name qual:Str}{params:Arguments}{body:List Stmt}{scope:Scope}{dV kV doc pm cdv ct oc:Value}{an od:Option Addr}
  {osl:Array (Option Value)}{N ps:List Str}{sp:Sp} (lk:K.lookup f=some ⟨oc,od,.func (W.fnOf name qual params body scope dV kV doc pm an cdv ct),osl⟩) (hcd:W.codeIn K cdv qual=true) (S:FnScope N ps scope)
  (len:∀ vs H Q E,sp vs H Q E->vs.length=ps.length)
  (hbody:∀ (A:Around) (outer:List Env) (s:Shared) (H:Hp) (vs:List V) (Q:VK) (E:XK),Room k (A.deeper (envOfC qual scope s.heap.objs.size f cdv))->sp vs H Q E ->
   ∃ t,PSs (cxOf CX P w K mg base N qual scope f cdv A outer s H E) body t/\t { nx:=fun _ H'=>Q .non H',rt:=Q } (start N vs) H) :
  FnOk P w K mg base CX (k+1) f (W.fnOf name qual params body scope dV kV doc pm an cdv ct) ps sp:=by
 refine⟨len,fun A outer s H args us vs Q E hr e0 hb r hsp=>?_⟩
 have hl:=len _ _ _ _ hsp
 have KX:K.In s.heap:=e0.mod.kin.keeps fun b o e=>(e0.bs b o e).1
 have lim:s.heap.NoLimit:=e0.mod.nolimit.keeps fun b o e=>(e0.bs b o e).1
 have hkind:∀ y ∈ ps.zip us,scope.names.lookup y.1=some .local∨(scope.names.lookup y.1=some .cell/\((cellsFrom (s.heap.objs.size+1) scope.names []).lookup y.1).isSome=true):=fun⟨n,v⟩ hy=>by
  rcases S.par n (List.of_mem_zip hy).1 with q | q
  ·exact .inl q
  ·exact .inr ⟨q,PySem.W.cellsFrom_some _ _ _ (.inl q)⟩
 refine codeAny_call_function hr.depth (KX _ _ lk) rfl S.co S.gen rfl (PySem.W.codeRec_of KX hcd) (hb _ _ _ _ ?_)
 refine wpAny_newFunctionEnv_cells S.kind hkind fun env he s1 x=>?_
 subst he
 refine⟨lim.keeps x.toInCall.keep,codeAny_func ?_⟩
 obtain⟨t,ht,hq⟩:=hbody A outer s H vs Q E (hr.deeper _) hsp
 have I:Inv (cxOf CX P w K mg base N qual scope f cdv A outer s H E) [] (start N vs) H s1:=inv_start S hr.hd e0 hl r x
 refine wpAny_mono (ht [] s1 (start N vs) H _ I hq) (fun fl s' hs=>?_) fun e s' hs=>hs
 have fin:∀ {σ':St}{H':Hp}{v:V}{u:Value},Inv (cxOf CX P w K mg base N qual scope f cdv A outer s H E) [] σ' H' s'->RelV v u->Q v H'->CE outer P w H s Q u s' :=
  fun {σ' H' v u} J rv q=>⟨v,H',J.os,J.bare,J.base,J.hok,rv,q⟩
 cases fl with
 | ret u=>
  obtain⟨v,σ',H',J,rv,q⟩:=hs
  exact fin J rv q
 | next=>
  obtain⟨σ',H',J,q⟩:=hs
  exact fin (v:=V.non) (u:=Value.none) J rfl q
 | brk=>
  obtain⟨_,_,_,q⟩:=hs
  exact False.elim q
 | cont=>
  obtain⟨_,_,_,q⟩:=hs
  exact False.elim q
end L2
namespace L2
open PySem PySem.Spec PyProof.Rows
section
variable {X:Cx}{x:Str}{p pos:Pos}{e:Expr}{es:List Expr}{t:TA}{id T:String}{r:List V->Hp->VK->Prop}
def tCB (r:List V->Hp->VK->Prop) (t:TA):TE:=fun σ H Q=>t σ H fun vs H1=>r vs H1 Q
theorem pe_callB (hc:CallR X (.builtin id) r) (hg:Gl X x) (hm:X.mg x=none) (hv:bootBuiltins x=some (.builtin id)) (ha:PA X (e::es) t) (hn:x ≠ "__name__":=by decide) (hdb:(x == ("__debug__" : Str))=false:=by decide)
  (he:starEach (e::es) X.env=(false,eval e X.env)::starEach es X.env:=by rfl) (hpl:(backTo pos (starEach es X.env)).any (·.1)=false:=by rfl):PE X (.Call (.Name x p) (e::es) [] pos) (tCB r t):=by
 intro pins s σ H Q I h
 refine wpAny_Call_Name_kw (ld_blt I hg hm hv ?_ hn hdb)
 exact PyProof.Rows.callWith_builtin1 (thn (ha pos pins s σ H _ I h) fun us s1 ⟨vs,H1,I1,r1,q1⟩=>hc pins s1 σ H1 vs us Q I1 r1 q1) he hpl
theorem pe_callTy (hc:CallR X (.type T) r) (hg:Gl X x) (hm:X.mg x=none) (hv:bootBuiltins x=some (.type T)) (ha:PA X (e::es) t) (hn:x ≠ "__name__":=by decide) (hdb:(x == ("__debug__" : Str))=false:=by decide)
  (he:starEach (e::es) X.env=(false,eval e X.env)::starEach es X.env:=by rfl) (hpl:(backTo pos (starEach es X.env)).any (·.1)=false:=by rfl):PE X (.Call (.Name x p) (e::es) [] pos) (tCB r t):=by
 intro pins s σ H Q I h
 refine wpAny_Call_Name_kw (ld_blt I hg hm hv ?_ hn hdb)
 exact PyProof.Rows.callWith_type1 (thn (ha pos pins s σ H _ I h) fun us s1 ⟨vs,H1,I1,r1,q1⟩=>hc pins s1 σ H1 vs us Q I1 r1 q1) he hpl
theorem pe_callTy0 (hc:CallR X (.type T) r) (hg:Gl X x) (hm:X.mg x=none) (hv:bootBuiltins x=some (.type T)) (hn:x ≠ "__name__":=by decide) (hdb:(x == ("__debug__" : Str))=false:=by decide) :
  PE X (.Call (.Name x p) [] [] pos) (tCB r tNil):=by
 intro pins s σ H Q I h
 refine wpAny_Call_Name_kw (ld_blt I hg hm hv ?_ hn hdb)
 exact PyProof.Rows.callWith_type0 (hc pins s σ H [] [] Q I .nil h)
end
end L2
namespace L2
open PySem PySem.Spec PyProof.Rows
section
variable {κ:Type} [DecidableEq κ]
def valV (kvs:List (κ×V)) (k:κ):Option V:=(kvs.find? fun kv=>decide (kv.1=k)).map (·.2)
def putK (kvs:List (κ×V)) (k:κ) (v:V):List (κ×V) :=
 if (kvs.any fun kv=>decide (kv.1=k))=true then kvs.map (fun kv=>if kv.1=k then(kv.1,v) else kv) else kvs++[(k,v)]
def dropK (kvs:List (κ×V)) (k:κ):List (κ×V):=kvs.filter fun kv=>decide (kv.1≠k)
theorem valV_pos {p:κ×V}{r:List (κ×V)}{k:κ} (e:p.1=k):valV (p::r) k=some p.2:=by simp[valV,find?_cons,e]
theorem valV_neg {p:κ×V}{r:List (κ×V)}{k:κ} (e:¬ p.1=k):valV (p::r) k=valV r k:=by simp[valV,find?_cons,e]
theorem length_putK (kvs:List (κ×V)) (k:κ) (v:V):(putK kvs k v).length<=kvs.length+1:=by
 unfold putK
 split
 ·rw[length_map]; omega
 ·rw[length_append,length_cons,List.length_nil]; omega
theorem KV.val {kvs:List (κ×V)}{vs:List (κ×Value)} (r:KV kvs vs) (k:κ):RelO (valV kvs k) (valueAt vs k):=by
 unfold KV at r
 induction r with
 | nil=>exact True.intro
 | @cons p q ps qs h t ih=>
  obtain⟨h1,h2⟩:=h
  by_cases e:p.1=k
  ·have e':q.1=k:=h1.symm.trans e
   have b:valueAt (q::qs) k=some q.2:=by simp[valueAt,find?_cons,e']
   rw[valV_pos e,b]; exact h2
  ·have e':¬ q.1=k:=fun z=>e (h1.trans z)
   have b:valueAt (q::qs) k=valueAt qs k:=by simp[valueAt,find?_cons,e']
   rw[valV_neg e,b]; exact ih
theorem KV.any {kvs:List (κ×V)}{vs:List (κ×Value)} (r:KV kvs vs) (k:κ):(kvs.any fun kv=>decide (kv.1=k))=vs.any fun kv=>decide (kv.1=k):=by
 unfold KV at r
 induction r with
 | nil=>rfl
 | cons h t ih=>rw[List.any_cons,List.any_cons,ih,h.1]
theorem KV.repl {kvs:List (κ×V)}{vs:List (κ×Value)} (r:KV kvs vs) (k:κ) {y:V}{u:Value} (ry:RelV y u) :
  KV (kvs.map fun kv=>if kv.1=k then(kv.1,y) else kv) (vs.map fun kv=>if kv.1=k then(kv.1,u) else kv):=by
 unfold KV at r ⊢
 induction r with
 | nil=>exact .nil
 | @cons p q ps qs h t ih=>
  rw[map_cons,map_cons]
  refine .cons ?_ ih
  obtain⟨h1,h2⟩:=h
  by_cases e:p.1=k
  ·rw[if_pos e,if_pos (h1.symm.trans e)]; exact⟨h1,ry⟩
  ·rw[if_neg e,if_neg (fun z=>e (h1.trans z))]; exact⟨h1,h2⟩
theorem KV.put {kvs:List (κ×V)}{vs:List (κ×Value)} (r:KV kvs vs) (k:κ) {y:V}{u:Value} (ry:RelV y u):KV (putK kvs k y) (stored vs k u):=by
 unfold putK stored
 rw[r.any k]
 by_cases e:(vs.any fun kv=>decide (kv.1=k))=true
 ·rw[if_pos e,if_pos e]; exact r.repl k ry
 ·rw[if_neg e,if_neg e]; exact Paired.snoc r ⟨rfl,ry⟩
theorem KV.keys {kvs:List (κ×V)}{vs:List (κ×Value)} (r:KV kvs vs):kvs.map (·.1)=vs.map (·.1):=by
 unfold KV at r
 induction r with
 | nil=>rfl
 | cons h t ih=>rw[map_cons,map_cons,ih,h.1]
theorem KV.length {kvs:List (κ×V)}{vs:List (κ×Value)} (r:KV kvs vs):kvs.length=vs.length:=Paired.length r
end
theorem kV_is {P:Program}{w:World}{k:Key}{u:Value} (r:RelV (kV k) u):(mixKind P w).is k u=true:=by
 cases k with
 | inl i=>obtain⟨t,e⟩:=(show ∃ t,u=Value.int i t from r); subst e; exact mixKind_int P w i t
 | inr x=>obtain⟨t,e⟩:=(show ∃ t,u=Value.str x t from r); subst e; exact mixKind_str P w x t
theorem items_are {P:Program}{w:World}:∀ {ks:List Key}{us:List Value},Vals (ks.map kV) us->ItemsAre (mixKind P w) ks us
 | [],_,r=>by rw[List.map_nil] at r; cases r; exact .nil
 | k::ks,_,r=>by
  rw[map_cons] at r
  cases r with
  | cons h t=>exact .cons (kV_is h) (items_are t)
abbrev KT (H:Hp):List (List Key×V)->List (List Key×Addr×Value)->Prop:=Paired fun p q=>p.1=q.1/\H q.2.1=some (.tup (p.1.map kV))/\RelV p.2 q.2.2
theorem KT.val {H:Hp}{kvs:List (List Key×V)}{xs:List (List Key×Addr×Value)} (r:KT H kvs xs) (k:List Key):RelO (valV kvs k) ((atKey xs k).map (·.2)):=by
 induction r with
 | nil=>exact True.intro
 | @cons p q ps qs h t ih=>
  obtain⟨h1,_,h2⟩:=h
  by_cases e:p.1=k
  ·have e':q.1=k:=h1.symm.trans e
   have b:atKey (q::qs) k=some q.2:=by simp[atKey,find?_cons,e']
   rw[valV_pos e,b]; exact h2
  ·have e':¬ q.1=k:=fun z=>e (h1.trans z)
   have b:atKey (q::qs) k=atKey qs k:=by simp[atKey,find?_cons,e']
   rw[valV_neg e,b]; exact ih
section
variable {P:Program}{w:World}{H:Hp}{h:Heap}{a:Addr}
theorem rd_of {u:HO} (ok:HOk P w H h) (e:Rd H a u):ObjOk P w H h a u:=e.ok ok
theorem dk_rd {kvs:List (Key×V)} (ok:HOk P w H h) (e:Rd H a (.dK kvs)):kvs.length<=sizeLine/\(a == sysModules)=false/\∃ vs,KV kvs vs/\h.DictOf (mixKind P w) a vs :=
 show ObjOk P w H h a (.dK kvs) from rd_of ok e
theorem dk_of {kvs:List (Key×V)} (ok:HOk P w H h) (e:H a=some (.dK kvs)):kvs.length<=sizeLine/\(a == sysModules)=false/\∃ vs,KV kvs vs/\h.DictOf (mixKind P w) a vs:=dk_rd ok (.inl e)
theorem key_of {ks:List Key} (ok:HOk P w H h) (e:H a=some (.tup (ks.map kV))):(tupleKind (mixKind P w)).is h ks a:=by
 obtain⟨_,its,r,o,h1,h2,n,h3⟩:=(show ObjOk P w H h a (.tup (ks.map kV)) from ok a _ e)
 exact⟨o,its.toArray,n,h1,h2,h3,by simpa using items_are r⟩
theorem dt_rd {kvs:List (List Key×V)} (ok:HOk P w H h) (e:Rd H a (.dT kvs)):kvs.length<=sizeLine/\(a == sysModules)=false /\
  ∃ xs,KT H kvs xs/\h.DictOfH (tupleKind (mixKind P w)) a xs:=by
 obtain⟨z,y,xs,r,o,es,ep,h1,h2,h3,h4,h5⟩:=(show ObjOk P w H h a (.dT kvs) from rd_of ok e)
 refine⟨z,y,xs,r,o,es,ep,h1,h2,h3,h4,fun x hx=>?_,h5⟩
 have all:∀ {l:List (List Key×V)}{m:List (List Key×Addr×Value)},KT H l m->∀ x ∈ m,(tupleKind (mixKind P w)).is h x.1 x.2.1:=by
  intro l m q
  induction q with
  | nil=>intro x hx; exact nomatch hx
  | @cons p q ps qs hq t ih=>
   intro x hx
   rcases mem_cons.mp hx with e | hx
   ·subst e
    exact key_of ok (by rw[<- hq.1]; exact hq.2.1)
   ·exact ih x hx
 exact all r x hx
end
def DGet (H:Hp) (a:Addr) (y:V) (r:Option V):Prop :=
 (∃ kvs k,Rd H a (.dK kvs)/\y=kV k/\r=valV kvs k)∨∃ kvs k b,Rd H a (.dT kvs)/\y=.ref b/\H b=some (.tup (k.map kV))/\r=valV kvs k
def DPut (H:Hp) (a:Addr) (y v:V) (H':Hp):Prop :=
 (∃ kvs k,H a=some (.dK kvs)/\y=kV k/\kvs.length<sizeLine/\H'=upd H a (.dK (putK kvs k v))) ∨
 ∃ kvs k b,H a=some (.dT kvs)/\y=.ref b/\H b=some (.tup (k.map kV))/\kvs.length<sizeLine/\H'=upd H a (.dT (putK kvs k v))
theorem DGet.k {H:Hp}{a:Addr}{kvs:List (Key×V)}{k:Key} (e:H a=some (.dK kvs)):DGet H a (kV k) (valV kvs k):=.inl ⟨kvs,k,.inl e,rfl,rfl⟩
section
variable {X:Cx}{pins:List (Addr×Obj)}{σ:St}{H:Hp}{s:Shared}{a:Addr}{y v:V}{u r:Value}{o:Option V}{A:Around}{E:Value->Shared->Prop}
theorem Inv.big (I:Inv X pins σ H s):sysModules<s.heap.objs.size:=by
 have h:mainGlobals<s.heap.objs.size:=(I.mod.glob.keeps I.bk).lt
 exact Nat.lt_trans (by decide) h
theorem d_getItem {Q:Value->Shared->Prop} (hu:A.units+1<cLine) (I:Inv X pins σ H s) (g:DGet H a y (some v)) (ry:RelV y u) (h:∀ w' s',Inv X pins σ H s'->RelV v w'->Q w' s') :
  wpAny (model X.prog X.w) A (getItem (.ref a) u) Q E s:=by
 rcases g with ⟨kvs,k,e,ey,l⟩ | ⟨kvs,k,b,e,ey,eb,l⟩
 ·subst ey
  obtain⟨z,hd,vs,rel,dd⟩:=dk_rd I.hok e
  obtain⟨w',hw,rw'⟩:=RelO.some_of (v:=v) (o:=valueAt vs k) (by rw[l]; exact rel.val k)
  exact wpAny_getItem_of (kV_is ry) dd.mapOf hw (h w' _ (I.tok _) rw')
 ·subst ey
  cases (show u=Value.ref b from ry)
  obtain⟨z,hd,xs,rel,dd⟩:=dt_rd I.hok e
  obtain⟨w',hw,rw'⟩:=RelO.some_of (v:=v) (o:=(atKey xs k).map (·.2)) (by rw[l]; exact rel.val k)
  obtain⟨p,hp,hp2⟩:=Option.map_eq_some_iff.mp hw
  refine wpAny_getItem_heap (tupleKind_room_in1 hu) (key_of I.hok eb) dd hp ?_
  rw[hp2]
  exact h w' _ (I.tok _) rw'
theorem d_write {h':Heap}{t':Nat}{ob:HO} (I:Inv X pins σ H s) (mu:Mut (H a)) (hs:Heap.SameBut a s.heap h') (he:∃ q,h'.get? a=some q) (new:ObjOk X.prog X.w (upd H a ob) h' a ob) :
  Inv X pins σ (upd H a ob) { s with heap:=h',toks:=t' } :=
 I.write (x:=a) (e:=a) mu (.inl rfl) (fun b q hb z=>(hs.2 b hb).trans z) he new
theorem dk_new {P:Program}{w:World}{H':Hp}{h':Heap}{kvs:List (Key×V)}{vs:List (Key×Value)} (z:kvs.length<=sizeLine) (hd:(a == sysModules)=false) (rel:KV kvs vs) (dd:h'.DictOf (mixKind P w) a vs) :
  ObjOk P w H' h' a (.dK kvs):=⟨z,hd,vs,rel,dd⟩
end
section
variable {X:Cx}{pins:List (Addr×Obj)}{σ:St}{H:Hp}{s:Shared}{a:Addr}{kvs:List (Key×V)}{k:Key}{u:Value}{A:Around}{E:Value->Shared->Prop}
end
def NoSl (i:Expr):Prop:=∀ ov iv,subscripted i false ov iv=operate [ov,iv] (getItem ov iv)
theorem subD_of {prog:Program}{w:World}{A:Around}{E:Value->Shared->Prop}{s:Shared}{env:Env}{value slice:Expr}{pos:Pos}{T id:String}{Q:Value->Shared->Prop}
  (hl:typeLookup (.type T) "__getitem__" = pure (some (.builtin id))) (hs:NoSl slice)
  (h:wpAny (model prog w) A (eval value env) (fun o s₁=>wpAny (model prog w) A (eval slice env) (fun i s₂=>s₂.TypeIs o T/\wpAny (model prog w) A (getItem o i) Q E s₂) E s₁) E s) :
  wpAny (model prog w) A (eval (.Subscript value slice pos) env) Q E s:=by
 refine Subscript_ (wpAny_mono h (fun o s₁ h₁=>wpAny_mono h₁ (fun i s₂ h₂=>?_) fun _ _ x=>x) fun _ _ x=>x)
 obtain⟨hT,h₂⟩:=h₂
 unfold subscriptTail
 refine wpAny_bind ?_
 rw[getitemInPython_of_ne hT.not_modules]
 refine wpAny_bind (wpAny_specialOf hT hl ?_)
 have fin:wpAny (model prog w) A (subscripted slice false o i) (fun r s₃=>wpAny (model prog w) A (letTemporaryGo value o r >>= fun _=>pure r) Q E s₃) E s₂:=by
  rw[hs o i]
  exact wpAny_operating (wpAny_mono h₂ (fun r s₃ h₃=>wpAny_bind (wpAny_letTemporaryGo (wpAny_pure h₃))) fun _ _ x=>x)
 first
  | exact wpAny_pure (wpAny_bind fin)
  | exact wpAny_bind (wpAny_pure (wpAny_bind fin))
  | exact wpAny_bind fin
theorem dict_typeIs {X:Cx}{pins:List (Addr×Obj)}{σ:St}{H:Hp}{s:Shared}{a:Addr}{y:V}{o:Option V} (I:Inv X pins σ H s) (g:DGet H a y o):s.TypeIs (.ref a) "dict":=by
 rcases g with ⟨kvs,k,e,_,_⟩ | ⟨kvs,k,b,e,_,_,_⟩
 ·obtain⟨_,_,vs,_,dd⟩:=dk_rd I.hok e
  exact dd.typeIs
 ·obtain⟨_,_,xs,_,dd⟩:=dt_rd I.hok e
  exact dd.typeIs
def tDGet (td ty:TE):TE:=fun σ H Q=>td σ H fun x H1=>ty σ H1 fun y H2=>∃ a v,x=.ref a/\DGet H2 a y (some v)/\Q v H2
section
variable {X:Cx}{o i e value:Expr}{pos pos' tpos:Pos}{td ty tv:TE}
theorem pe_dget (hu:X.A.units+1<cLine) (ho:PE X o td) (hi:PE X i ty) (hs:NoSl i):PE X (.Subscript o i pos) (tDGet td ty):=by
 intro pins s σ H Q I h
 refine subD_of PySem.F.slot_dict_getitem.lookup hs (thn (ho pins s σ H _ I h) fun u s1 ⟨x,H1,I1,rx,q1⟩=>thn (hi pins s1 σ H1 _ I1 q1) fun iv s2 ⟨y,H2,I2,ry,a,v,ex,g,q2⟩=>?_)
 subst ex
 obtain rfl:u=Value.ref a:=rx
 exact⟨dict_typeIs I2 g,d_getItem hu I2 g ry fun w' s3 I3 rw'=>⟨v,H2,I3,rw',q2⟩⟩
end
theorem dk_empty {P:Program}{w:World}{H:Hp} (h:Heap) (hb:sysModules<h.objs.size):ObjOk P w H (h.push { cls:=.type "dict",data:=.dict #[] }) h.objs.size (.dK []) :=
 ⟨Nat.zero_le _,beq_eq_false_iff_ne.mpr (Ne.symm (Nat.ne_of_lt hb)),[],.nil,Heap.DictOf.new h⟩
def tDNewK:TE:=fun _ H Q=>∀ p,H p=none->Q (.ref p) (upd H p (.dK []))
section
variable {X:Cx}{pos:Pos}
theorem pe_dnewK:PE X (.Dict [] [] pos) tDNewK:=fun pins s σ H Q I h=>
 wpAny_Dict_empty ⟨.ref s.heap.objs.size,_,I.laid (a:=s.heap.objs.size) (o:=.dK []) (t':=s.toks) (fun _ _ q=>Heap.get?_push_of_some _ q) (Nat.le_refl _) (dk_empty s.heap I.big),rfl,h _ (I.hok.fresh (Nat.le_refl _))⟩
end
def mergeK (kvs more:List (Key×V)):List (Key×V):=more.foldl (fun acc kv=>putK acc kv.1 kv.2) kvs
structure M1 (X:Cx) (o:Expr) (m:Str) (apos:Pos) (e:Expr) (cpos:Pos):Prop where
 base:attributeBase o m X.env (eval o X.env)=eval o X.env
 few:((backTo cpos (starEach [e] X.env)).all (fun x=>!x.1) && (backToKw cpos (keywordEach [] X.env)).all (fun x=>x.1.isSome)
  && decide (([e]:List Expr).length+([]:List Keyword).length+(if ([]:List Keyword).isEmpty then 0 else 1)<30))=true
 line:(apos.endLine == cpos.line)=true
 trees:backTo cpos (starEach [e] X.env)=[(false,eval e X.env)]
structure M2 (X:Cx) (o:Expr) (m:Str) (apos:Pos) (e f:Expr) (cpos:Pos):Prop where
 base:attributeBase o m X.env (eval o X.env)=eval o X.env
 few:((backTo cpos (starEach [e,f] X.env)).all (fun x=>!x.1) && (backToKw cpos (keywordEach [] X.env)).all (fun x=>x.1.isSome)
  && decide (([e,f]:List Expr).length+([]:List Keyword).length+(if ([]:List Keyword).isEmpty then 0 else 1)<30))=true
 line:(apos.endLine == cpos.line)=true
 trees:backTo cpos (starEach [e,f] X.env)=[(false,eval e X.env),(false,eval f X.env)]
def IsD (H:Hp) (a:Addr):Prop:=(∃ kvs,Rd H a (.dK kvs))∨∃ kvs,Rd H a (.dT kvs)
theorem isD_at {X:Cx}{pins:List (Addr×Obj)}{σ:St}{H:Hp}{s:Shared}{a:Addr} (I:Inv X pins σ H s) (d:IsD H a) :
  s.TypeIs (.ref a) "dict" /\ (∀ b,Value.ref a=.ref b->∃ ob,s.heap.get? b=some ob/\ob.dict=none)/\(a == sysModules)=false:=by
 rcases d with ⟨kvs,e⟩ | ⟨kvs,e⟩
 ·obtain⟨_,hd,vs,_,dd⟩:=dk_rd I.hok e
  refine⟨dd.typeIs,fun b q=>?_,hd⟩
  cases q
  obtain⟨ob,_,_,h1,h2,_⟩:=dd
  exact⟨ob,h1,h2.2.1⟩
 ·obtain⟨_,hd,xs,_,dd⟩:=dt_rd I.hok e
  refine⟨dd.typeIs,fun b q=>?_,hd⟩
  cases q
  obtain⟨ob,_,_,h1,h2,_⟩:=dd
  exact⟨ob,h1,h2.2.1⟩
section
variable {X:Cx}{pins:List (Addr×Obj)}{σ:St}{H:Hp}{s:Shared}{a:Addr}{y d:V}{u r:Value}{o:Option V}{A:Around}{E:Value->Shared->Prop}
end
section
variable {X:Cx}{o e f:Expr}{apos cpos:Pos}{td ty tx:TE}
end
section
variable {X:Cx}{pins:List (Addr×Obj)}{σ:St}{H:Hp}{s:Shared}{a:Addr}{kvs:List (Key×V)}{A:Around}{E:Value->Shared->Prop}
end
section
variable {X:Cx}{pins:List (Addr×Obj)}{σ:St}{H:Hp}{s:Shared}{a:Addr}{y:V}{u:Value}{A:Around}{E:Value->Shared->Prop}
end
end L2
namespace HT
open PySem PyProof.Rows
section
open PySem.SeqAt
open PySem.AutoSeq1 (wpAny_loadPart')
open PySem.MeetsSeq PySem.MeetsSeq2 PySem.MeetsSeq3
end
section
variable {prog:Program}{w:World}{A:Around}{E:Value->Shared->Prop}{s:Shared}
def sIx (n d:Nat):Option Int->Nat
 | none=>d
 | some v=>if v<0 then(v+(n:Int)).toNat else min v.toNat n
theorem sIx_le (n d:Nat) (hd:d<=n) (o:Option Int):sIx n d o<=n:=by
 cases o with
 | none=>exact hd
 | some v=>
  show(if v<0 then(v+(n:Int)).toNat else min v.toNat n)<=n
  by_cases hv:v<0
  ·rw[if_pos hv]; omega
  ·rw[if_neg hv]; exact Nat.min_le_right _ _
theorem clip_eq (v:Int) (n d:Nat):(if v<0 then max (v+(n:Int)) 0 else min v (n:Int))=((sIx n d (some v):Nat):Int):=by
 show(if v<0 then max (v+(n:Int)) 0 else min v (n:Int))=(((if v<0 then(v+(n:Int)).toNat else min v.toNat n):Nat):Int)
 by_cases hv:v<0
 ·simp only[if_pos hv]; omega
 ·simp only[if_neg hv]; omega
theorem adjust_gen (lo hi:Option Int) (n:Nat):Builtin.Slice.sliceAdjust lo hi 1 (n:Int)=(((sIx n 0 lo:Nat):Int),((sIx n n hi:Nat):Int)):=by
 have h1:¬ ((1:Int)<0):=by omega
 unfold Builtin.Slice.sliceAdjust
 simp only[h1,if_false]
 refine Prod.ext ?_ ?_
 ·cases lo with
  | none=>rfl
  | some v=>exact clip_eq v n 0
 ·cases hi with
  | none=>rfl
  | some v=>exact clip_eq v n n
theorem places_gen (i j:Nat):Builtin.Slice.slicePlaces (i:Int) (j:Int) 1=j - i:=by
 unfold Builtin.Slice.slicePlaces
 have h1:(1:Int) > 0:=by omega
 simp only[h1,if_true,Int.ediv_one]
 split <;> omega
theorem slicePart_ {v:Value}{o:Option Int}{Q:Option Int->Shared->Prop} (p:IsPart v o) (h:Q o s):wpAny (model prog w) A (Builtin.Slice.slicePartIndex v) Q E s:=by
 cases p with
 | none=>exact slicePart_none h
 | int i t=>exact slicePart_int h
theorem sliceApplied_gen {sl:Addr}{vl vu:Value}{lo hi:Option Int}{n:Nat}{Q:Int×Int×Nat->Shared->Prop} (hs:s.heap.IsSliceOf sl vl vu .none) (pl:IsPart vl lo) (pu:IsPart vu hi)
  (h:Q (((sIx n 0 lo:Nat):Int),1,sIx n n hi - sIx n 0 lo) s):wpAny (model prog w) A (Builtin.Slice.sliceApplied (.ref sl) (pure (n:Int))) Q E s:=by
 obtain⟨os,hos,hcs,hds⟩:=id hs
 unfold Builtin.Slice.sliceApplied Builtin.Slice.sliceFields
 refine wpAny_bind (wpAny_bind (wpAny_field hos hds (x:=vl) rfl (wpAny_bind (wpAny_field hos hds (x:=vu) rfl (wpAny_bind (wpAny_field hos hds (x:=.none) rfl (wpAny_pure ?_)))))))
 refine wpAny_bind (slicePart_none ?_)
 show wpAny _ _ (if ((1:Int) == 0)=true then _ else _) _ _ s
 rw[if_neg (by decide)]
 refine wpAny_bind (slicePart_ pl (wpAny_bind (slicePart_ pu (wpAny_bind (wpAny_pure ?_)))))
 show wpAny _ _ (match Builtin.Slice.sliceAdjust lo hi 1 (n:Int) with | (lo,hi) => pure (lo,(1:Int),Builtin.Slice.slicePlaces lo hi 1)) _ _ s
 rw[adjust_gen lo hi n]
 show wpAny _ _ (pure (((sIx n 0 lo:Nat):Int),(1:Int),Builtin.Slice.slicePlaces ((sIx n 0 lo:Nat):Int) ((sIx n n hi:Nat):Int) 1)) _ _ s
 rw[places_gen]
 exact wpAny_pure h
theorem pick_gen (xs:Array Value) (i k:Nat):((List.range k).filterMap fun(m:Nat)=>xs[((i:Int)+(m:Int)*1).toNat]?).toArray=((xs.toList.drop i).take k).toArray:=by
 have e:(fun(m:Nat)=>xs[((i:Int)+(m:Int)*1).toNat]?)=fun m=>xs[i+m]?:=by
  funext m
  have:((i:Int)+(m:Int)*1).toNat=i+m:=by omega
  rw[this]
 rw[e]
 have:=pick_run xs i k
 rw[List.filterMap_map] at this
 have e2:((fun x=>xs[x]?) ∘ fun x=>i+x)=fun m=>xs[i+m]?:=rfl
 rw[e2] at this
 rw[this]
theorem getItem_tuple_cut {t sl:Addr}{items:Array Value}{vl vu:Value}{lo hi:Option Int}{Q:Value->Shared->Prop} (ht:IsTup s.heap t items) (hs:s.heap.IsSliceOf sl vl vu .none) (pl:IsPart vl lo) (pu:IsPart vu hi)
  (hw:¬ (sIx items.size 0 lo=0/\sIx items.size items.size hi=items.size))
  (h:Q (.ref s.heap.objs.size) { s with heap:=s.heap.push { cls:=.type "tuple",data:=.seq ((items.toList.drop (sIx items.size 0 lo)).take (sIx items.size items.size hi - sIx items.size 0 lo)).toArray } })
  (hsz:items.size<=sizeLine):wpAny (model prog w) A (getItem (.ref t) (.ref sl)) Q E s:=by
 have htake:sizeOk (.seq ((items.toList.drop (sIx items.size 0 lo)).take (sIx items.size items.size hi - sIx items.size 0 lo)).toArray):=by
  show((items.toList.drop (sIx items.size 0 lo)).take (sIx items.size items.size hi - sIx items.size 0 lo)).toArray.size<=sizeLine
  rw[size_toArray,length_take,List.length_drop,Array.length_toList]
  omega
 have hj:sIx items.size items.size hi<=items.size:=sIx_le _ _ (Nat.le_refl _) hi
 obtain⟨os,hos,hcs,hds⟩:=id hs
 have hTs:s.TypeIs (.ref sl) "slice":=⟨os,hos,hcs⟩
 unfold getItem
 try with_reducible refine wpAny_holding ?_
 first | refine wpAny_bind (wpAny_pure ?_) | skip
 refine wpAny_bind (wpAny_sequenceKey ht.typeIs (by decide) ?_)
 refine wpAny_bind (wpAny_callSpecial?_slot (name:=Str.ofString "__getitem__") ht.typeIs PyProof.Rows.slot_tuple_getitem
  (wpAny_call_entry PyProof.Rows.slot_tuple_getitem ht.typeIs entry_tuple_getitem ?_ (args_tuple_getitem _ _)))
 show wpAny _ _ (Builtin.Tuple.tupleItemsOf (.ref t) >>= _) _ _ s
 refine wpAny_bind (tupleItemsOf_ ht ?_)
 refine wpAny_bind (wpAny_typeOf hTs ?_)
 rw[if_pos (by decide)]
 refine wpAny_bind (sliceApplied_gen hs pl pu ?_)
 have hno:¬ ((((sIx items.size 0 lo:Nat):Int) == 0 && (1:Int) == 1 && (sIx items.size items.size hi - sIx items.size 0 lo) == items.size)=true):=by
  intro q
  rw[Bool.and_eq_true,Bool.and_eq_true] at q
  have q1:((sIx items.size 0 lo:Nat):Int)=0:=eq_of_beq q.1.1
  have q2:sIx items.size items.size hi - sIx items.size 0 lo=items.size:=eq_of_beq q.2
  exact hw ⟨by omega,by omega⟩
 show wpAny _ _ (if (((sIx items.size 0 lo:Nat):Int) == 0 && (1:Int) == 1 && (sIx items.size items.size hi - sIx items.size 0 lo) == items.size)=true then _ else _) _ _ s
 rw[if_neg hno,pick_gen]
 first
  | exact wpAny_bind (m:=Builtin.Tuple.tupleExact _) (wpAny_newObj_type (wpAny_pure ⟨_,rfl,wpAny_pure h⟩) htake)
  | exact wpAny_bind (m:=Builtin.Tuple.tupleExact _) (wpAny_newObj_type (wpAny_bind (wpAny_pure (wpAny_pure ⟨_,rfl,wpAny_pure h⟩))) htake)
  | exact wpAny_bind (wpAny_bind (m:=Builtin.Tuple.tupleExact _) (wpAny_newObj_type (wpAny_pure (wpAny_pure ⟨_,rfl,wpAny_pure h⟩)) htake))
  | exact wpAny_bind (wpAny_bind (m:=Builtin.Tuple.tupleExact _) (wpAny_newObj_type (wpAny_pure ⟨_,rfl,wpAny_pure h⟩) htake))
end
end HT
namespace L2
open PySem PySem.Spec PyProof.Rows
abbrev TO:=St->Hp->(Option Int->Hp->Prop)->Prop
def PO (X:Cx) (e:Option Expr) (t:TO):Prop :=
 ∀ (pins:List (Addr×Obj)) (s:Shared) (σ:St) (H:Hp) (Q:Option Int->Hp->Prop),Inv X pins σ H s->t σ H Q ->
  wpAny (model X.prog X.w) X.A (evalPart e X.env) (fun u s'=>∃ o H',Inv X pins σ H' s'/\IsPart u o/\Q o H') X.xe s
def tNoPart:TO:=fun _ H Q=>Q none H
def tPart (t:TE):TO:=fun σ H Q=>t σ H fun x H1=>∃ i,x=.int i/\Q (some i) H1
section
variable {X:Cx}{e:Expr}{te:TE}{lo hi:Option Expr}{tl th:TO}{pos p2:Pos}
theorem po_none:PO X none tNoPart:=by
 intro pins s σ H Q I h
 rw[evalPart_none]
 exact wpAny_pure ⟨none,H,I,.none,h⟩
theorem po_some (h:PE X e te):PO X (some e) (tPart te):=by
 intro pins s σ H Q I hw
 rw[evalPart_some]
 refine thn (h pins s σ H _ I hw) fun u s1 ⟨x,H1,I1,r1,q1⟩=>?_
 obtain⟨i,rfl,q⟩:=q1
 obtain⟨t,rfl⟩:=r1
 exact⟨some i,H1,I1,.int i t,q⟩
def SlR (X:Cx) (r:V->Option Int->Option Int->Hp->VK->Prop):Prop :=
 ∀ (pins:List (Addr×Obj)) (s:Shared) (σ:St) (H:Hp) (x:V) (v vl vu:Value) (lo hi:Option Int) (sl:Addr) (Q:VK),Inv X pins σ H s->RelV x v->s.heap.IsSliceOf sl vl vu .none->IsPart vl lo->IsPart vu hi->r x lo hi H Q ->
  ∃ T id,typeLookup (.type T) "__getitem__" = pure (some (.builtin id))/\s.TypeIs v T/\wpAny (model X.prog X.w) X.A (getItem v (.ref sl)) (EP X pins σ Q) X.xe s
def tSl (r:V->Option Int->Option Int->Hp->VK->Prop) (te:TE) (tl th:TO):TE:=fun σ H Q=>te σ H fun x H1=>tl σ H1 fun l H2=>th σ H2 fun u H3=>r x l u H3 Q
theorem pe_slice {r:V->Option Int->Option Int->Hp->VK->Prop} (hr:SlR X r) (he:PE X e te) (hl:PO X lo tl) (hu:PO X hi th):PE X (.Subscript e (.Slice lo hi none p2) pos) (tSl r te tl th):=by
 intro pins s σ H Q I h
 refine Subscript_ (thn (he pins s σ H _ I h) fun v s1 ⟨x,H1,I1,r1,q1⟩=>?_)
 refine wpAny_Slice (thn (hl pins s1 σ H1 _ I1 q1) fun vl s2 ⟨l,H2,I2,pl,q2⟩=>thn (hu pins s2 σ H2 _ I2 q2) fun vu s3 ⟨u,H3,I3,pu,q3⟩=>?_)
 rw[evalPart_none]
 refine wpAny_pure ?_
 have I4:Inv X pins σ H3 { s3 with heap:=s3.heap.push { cls:=.type "slice",data:=.fields #[vl,vu,.none] } }:=I3.kept (t':=s3.toks) fun b ob q=>Heap.get?_push_of_some _ q
 obtain⟨T,id,hT,ht,hg⟩:=hr pins { s3 with heap:=s3.heap.push { cls:=.type "slice",data:=.fields #[vl,vu,.none] } } σ H3 x v vl vu l u s3.heap.objs.size Q I4 r1 (Heap.IsSliceOf.new ..) pl pu q3
 show wpAny (model X.prog X.w) X.A (subscriptTail e (.Slice lo hi none p2) v (.ref s3.heap.objs.size)) (EP X pins σ Q) X.xe { s3 with heap:=s3.heap.push { cls:=.type "slice",data:=.fields #[vl,vu,.none] } }
 exact tail_any (ops:=[.ref s3.heap.objs.size,v]) ht hT hg (by with_unfolding_all rfl)
def cutV (xs:List V) (lo hi:Option Int):List V:=(xs.drop (HT.sIx xs.length 0 lo)).take (HT.sIx xs.length xs.length hi - HT.sIx xs.length 0 lo)
theorem cutV_length (xs:List V) (lo hi:Option Int):(cutV xs lo hi).length<=xs.length:=by
 unfold cutV
 rw[length_take,List.length_drop]
 omega
def rSlT (K:PySem.W.Frag):V->Option Int->Option Int->Hp->VK->Prop:=fun x lo hi H Q=>∃ a xs,x=.ref a/\SqT K H a xs /\
 ¬ (HT.sIx xs.length 0 lo=0/\HT.sIx xs.length xs.length hi=xs.length)/\∀ p,H p=none->Q (.ref p) (upd H p (.tup (cutV xs lo hi)))
theorem sl_tup:SlR X (rSlT X.K):=by
 intro pins s σ H x v vl vu lo hi sl Q I rx hs pl pu h
 obtain⟨a,xs,rfl,hx,hw,q⟩:=h
 cases rx
 obtain⟨its,r,ht,hz⟩:=I.tuple hx
 have hlen:its.toArray.size=xs.length:=by rw[size_toArray]; exact r.length.symm
 refine⟨"tuple",_,PyProof.Rows.slot_tuple_getitem.lookup,ht.typeIs,?_⟩
 refine HT.getItem_tuple_cut ht hs pl pu (by rw[hlen]; exact hw) ?_ (by rw[hlen]; exact hz)
 rw[hlen]
 refine⟨.ref s.heap.objs.size,_,I.laid (t':=s.toks) (o:=.tup (cutV xs lo hi)) (fun b ob q=>Heap.get?_push_of_some _ q) (Nat.le_refl _) ?_,rfl,q _ (I.hok.fresh (Nat.le_refl _))⟩
 exact⟨Nat.le_trans (cutV_length xs lo hi) hz,_,(r.drop (HT.sIx xs.length 0 lo)).take (HT.sIx xs.length xs.length hi - HT.sIx xs.length 0 lo),IsTup.new _ _⟩
end
end L2
namespace L2
open PySem PySem.Spec PyProof.Rows
def ixN (n:Nat) (i:Int):Option Nat:=if 0<=i then(if i<n then some i.toNat else none) else if -(n:Int)<=i then some (i+n).toNat else none
def atI {α:Type} (xs:List α) (i:Int):Option α:=(ixN xs.length i).bind fun j=>xs[j]?
theorem ixN_seq {n:Nat}{i:Int}{j:Nat} (h:ixN n i=some j):seqIndex? i n=some j/\j<n/\-(n:Int)<=i/\i<n:=by
 unfold ixN at h
 by_cases h0:0<=i
 ·rw[if_pos h0] at h
  by_cases h1:i<n
  ·rw[if_pos h1] at h
   have e:i.toNat=j:=Option.some.inj h
   exact⟨by rw[seqIndex_of h0 h1,e],by omega,by omega,h1⟩
  ·rw[if_neg h1] at h; cases h
 ·rw[if_neg h0] at h
  by_cases h1:-(n:Int)<=i
  ·rw[if_pos h1] at h
   have e:(i+n).toNat=j:=Option.some.inj h
   exact⟨by rw[seqIndex_neg (by omega) h1,e],by omega,h1,by omega⟩
  ·rw[if_neg h1] at h; cases h
theorem atI_get {α:Type}{xs:List α}{i:Int}{v:α} (h:atI xs i=some v):∃ j,seqIndex? i xs.length=some j/\xs[j]?=some v/\j<xs.length/\-(xs.length:Int)<=i/\i<xs.length:=by
 unfold atI at h
 cases e:ixN xs.length i with
 | none=>rw[e] at h; cases h
 | some j=>
  rw[e] at h
  obtain⟨h1,h2,h3,h4⟩:=ixN_seq e
  exact⟨j,h1,h,h2,h3,h4⟩
theorem atI_nat {α:Type}{xs:List α}{j:Nat}{v:α} (h:xs[j]?=some v):atI xs (j:Int)=some v:=by
 have hj:j<xs.length:=(List.getElem?_eq_some_iff.mp h).1
 have e:ixN xs.length (j:Int)=some j:=by
  unfold ixN
  rw[if_pos (by omega),if_pos (by omega)]; simp
 unfold atI; rw[e]; exact h
theorem atI_last {α:Type} (xs:List α) (v:α):atI (xs++[v]) (-1)=some v:=by
 have hl:(xs++[v]).length=xs.length+1:=by simp
 have e:ixN (xs++[v]).length (-1)=some xs.length:=by
  unfold ixN
  rw[hl,if_neg (by decide),if_pos (by omega)]
  congr 1
  omega
 unfold atI
 rw[e]
 show(xs++[v])[xs.length]?=some v
 simp
def PlainIx (b:Expr):Prop:=∀ o i,subscripted b false o i=operate [o,i] (getItem o i)
def IxR (X:Cx) (r:R2):Prop :=
 ∀ (value slice:Expr) (pins:List (Addr×Obj)) (s:Shared) (σ:St) (H:Hp) (x y:V) (v u:Value) (Q:VK),Inv X pins σ H s->RelV x v->RelV y u->r x y H Q ->
  subscripted slice false v u=operate [v,u] (getItem v u)->wpAny (model X.prog X.w) X.A (subscriptTail value slice v u) (EP X pins σ Q) X.xe s
def MtR (X:Cx) (id:String) (r:V->List V->Hp->VK->Prop):Prop :=
 ∀ (pins:List (Addr×Obj)) (s:Shared) (σ:St) (H:Hp) (x:V) (xs:List V) (v:Value) (us:List Value) (Q:VK),Inv X pins σ H s->RelV x v->Vals xs us->r x xs H Q ->
  wpAny (model X.prog X.w) X.A (call (.builtin id) (v::us)) (EP X pins σ Q) X.xe s
section
variable {X:Cx}{a b:Expr}{ta tb:TE}{pos:Pos}
theorem pe_ix {r:R2} (hr:IxR X r) (ha:PE X a ta) (hb:PE X b tb) (hs:PlainIx b):PE X (.Subscript a b pos) (tOp r ta tb):=by
 intro pins s σ H Q I h
 exact Subscript_ (binT ha hb I h fun v u s2 x y H2 I2 rx ry q=>hr a b pins s2 σ H2 x y v u Q I2 rx ry q (hs _ _))
def rIxL (K:PySem.W.Frag):R2:=fun x y H Q=>∃ p xs i v,x=.ref p/\y=.int i/\SqL K H p xs/\atI xs i=some v/\Q v H
def rIxT (K:PySem.W.Frag):R2:=fun x y H Q=>∃ p xs i v,x=.ref p/\y=.int i/\SqT K H p xs/\atI xs i=some v/\Q v H
theorem ix_list:IxR X (rIxL X.K):=by
 intro value slice pins s σ H x y v u Q I rx ry h hs
 obtain⟨p,xs,i,z,rfl,rfl,hq,he,q⟩:=h
 cases rx
 obtain⟨t,rfl⟩:=ry
 obtain⟨its,r,pl,hz⟩:=I.list hq
 obtain⟨j,h1,h2,h3,h4,h5⟩:=atI_get he
 obtain⟨w,ew,rw'⟩:=r.get h2
 have hl:=r.length
 have hn:=line63
 have fin:EP X pins σ Q w s:=⟨z,H,I,rw',q⟩
 by_cases h0:0<=i
 ·have hj:i.toNat=j:=by
   rw[seqIndex_of h0 h5] at h1
   exact Option.some.inj h1
  exact item_listR pl.isList h0 (by omega) (by rw[hj]; simpa using ew) fin hs
 ·have hj:(i+(its.toArray.size:Int)).toNat=j:=by
   rw[seqIndex_neg (by omega) h4] at h1
   rw[size_toArray,<- hl]
   exact Option.some.inj h1
  exact subscriptTail_builtinR (x:=w) pl.isList.typeIs slot_list_getitem.lookup
   (wpAny_getItem_list_neg (Q:=fun r s'=>r=w/\EP X pins σ Q r s') pl.isList (by omega) (by rw[size_toArray] <;> omega) (by omega) (by rw[hj]; simpa using ew) ⟨rfl,fin⟩) hs
theorem ix_tup:IxR X (rIxT X.K):=by
 intro value slice pins s σ H x y v u Q I rx ry h hs
 obtain⟨p,xs,i,z,rfl,rfl,hq,he,q⟩:=h
 cases rx
 obtain⟨t,rfl⟩:=ry
 obtain⟨its,r,pl,hz⟩:=I.tuple hq
 obtain⟨j,h1,h2,h3,h4,h5⟩:=atI_get he
 obtain⟨w,ew,rw'⟩:=r.get h2
 have hl:=r.length
 have hn:=line63
 have fin:EP X pins σ Q w s:=⟨z,H,I,rw',q⟩
 exact subscriptTail_builtinR (x:=w) pl.typeIs slot_tuple_getitem.lookup
  (getItem_tuple (j:=j) (Q:=fun r s'=>r=w/\EP X pins σ Q r s') pl (by omega) (by omega) (by rw[size_toArray,<- hl]; exact h1) (by simpa using ew) ⟨rfl,fin⟩) hs
theorem mapSeq_set (its:List Value) (n j:Nat) (u:Value):Obj.mapSeq (·.setIfInBounds j u) { cls:=.type "list",data:=.seq its.toArray n }={ cls:=.type "list",data:=.seq (its.set j u).toArray n }:=by
 simp[Obj.mapSeq]
theorem Inv.lst {pins:List (Addr×Obj)}{σ:St}{H:Hp}{s:Shared}{p:Addr}{xs:List V} (I:Inv X pins σ H s) (h:H p=some (.lst xs)) :
  ∃ (its:List Value) (n:Nat),Vals xs its/\s.heap.get? p=some { cls:=.type "list",data:=.seq its.toArray n }/\xs.length<=sizeLine:=by
 obtain⟨z,its,n,r,e⟩:=I.hok p _ h
 exact⟨its,n,r,e,z⟩
theorem Inv.lstUpd {pins:List (Addr×Obj)}{σ:St}{H:Hp}{s:Shared}{p:Addr}{xs ys:List V}{its its':List Value}{n n':Nat}{f:Obj->Obj} (I:Inv X pins σ H s) (h:H p=some (.lst xs))
  (ho:s.heap.get? p=some { cls:=.type "list",data:=.seq its.toArray n }) (hf:f { cls:=.type "list",data:=.seq its.toArray n }={ cls:=.type "list",data:=.seq its'.toArray n' }) (r:Vals ys its') (hz:ys.length<=sizeLine) (t:Nat) :
  Inv X pins σ (upd H p (.lst ys)) { s with heap:=s.heap.update p f,toks:=t }:=by
 have e:(s.heap.update p f).get? p=some { cls:=.type "list",data:=.seq its'.toArray n' }:=by
  rw[Heap.get?_update_self f ho (by rw[hf] <;> rfl),hf]
 refine I.write (x:=p) (e:=p) (by rw[h]; trivial) (.inl rfl) (fun b u hb q=>(Heap.get?_update_other _ _ (Ne.symm hb)).trans q) ⟨_,e⟩ ?_
 exact⟨hz,its',n',r,e⟩
def rSetL:V->V->V->Hp->(Hp->Prop)->Prop:=fun o i v H Q=>∃ p xs k j,o=.ref p/\i=.int k/\H p=some (.lst xs)/\ixN xs.length k=some j/\Q (upd H p (.lst (xs.set j v)))
theorem set_list:PSet X rSetL:=by
 intro pins s σ H o i v ov iv u Q I ro ri rv h
 obtain⟨p,xs,k,j,rfl,rfl,hp,hj,q⟩:=h
 cases ro
 obtain⟨t,rfl⟩:=ri
 obtain⟨its,n,r,ho,hz⟩:=I.lst hp
 obtain⟨h1,h2,h3,h4⟩:=ixN_seq hj
 have hl:=r.length
 have hn:=line63
 have I':Inv X pins σ (upd H p (.lst (xs.set j v))) { s with heap:=s.heap.update p (Obj.mapSeq (·.setIfInBounds j u)) } :=
  I.lstUpd hp ho (mapSeq_set its n j u) (r.set rv j) (by rw[List.length_set]; exact hz) s.toks
 by_cases h0:0<=k
 ·have hk:k.toNat=j:=by
   rw[seqIndex_of h0 h4] at h1
   exact Option.some.inj h1
  exact PySem.W.ki_setAt ho h0 (by omega) (by rw[size_toArray,<- hl]; exact h4) (by rw[hk]; exact⟨_,I',q⟩)
 ·have hk:(k+(its.toArray.size:Int)).toNat=j:=by
   rw[seqIndex_neg (by omega) h3] at h1
   rw[size_toArray,<- hl]
   exact Option.some.inj h1
  exact PySem.W.ki_setBack ho (by omega) (by rw[size_toArray,<- hl]; exact h3) (by omega) (by rw[hk]; exact⟨_,I',q⟩)
theorem slice_bounds (lo hi:Option Int) (n:Nat):(sliceBounds lo hi none n).1=((HT.sIx n 0 lo:Nat):Int)/\(sliceBounds lo hi none n).2.1=((HT.sIx n n hi:Nat):Int)/\(sliceBounds lo hi none n).2.2=1:=by
 refine⟨?_,?_,rfl⟩
 ·cases lo with
  | none=>simp[sliceBounds,HT.sIx]
  | some i=>
   simp only[sliceBounds,HT.sIx,Option.getD_none,show(1:Int) > 0 by decide,if_true]
   by_cases h:i<0
   ·simp only[h,if_true] <;> omega
   ·simp only[h,if_false] <;> omega
 ·cases hi with
  | none=>simp[sliceBounds,HT.sIx]
  | some i=>
   simp only[sliceBounds,HT.sIx,Option.getD_none,show(1:Int) > 0 by decide,if_true]
   by_cases h:i<0
   ·simp only[h,if_true] <;> omega
   ·simp only[h,if_false] <;> omega
theorem slicePick_cut (its:List Value) (lo hi:Option Int):slicePick its.toArray lo hi none=((its.drop (HT.sIx its.length 0 lo)).take (HT.sIx its.length its.length hi - HT.sIx its.length 0 lo)).toArray:=by
 obtain⟨h1,h2,h3⟩:=slice_bounds lo hi its.toArray.size
 unfold slicePick
 rw[h1,h2,h3]
 simp only[sliceRange_one,pick_run,size_toArray] <;> rfl
def rSlL (K:PySem.W.Frag):V->Option Int->Option Int->Hp->VK->Prop:=fun x lo hi H Q=>∃ a xs,x=.ref a/\SqL K H a xs/\∀ p,H p=none->Q (.ref p) (upd H p (.lst (cutV xs lo hi)))
theorem sl_list:SlR X (rSlL X.K):=by
 intro pins s σ H x v vl vu lo hi sl Q I rx hs pl pu h
 obtain⟨a,xs,rfl,hx,q⟩:=h
 cases rx
 obtain⟨its,r,ht,hz⟩:=I.list hx
 have hlen:=r.length
 refine⟨"list",_,slot_list_getitem.lookup,ht.isList.typeIs,?_⟩
 refine wpAny_getItem_list_slice ht.isList hs pl pu .none (by simp) ?_ (by rw[size_toArray] <;> omega)
 rw[slicePick_cut,<- hlen]
 refine⟨.ref s.heap.objs.size,_,I.laid (t':=s.toks) (o:=.lst (cutV xs lo hi)) (fun b ob q=>Heap.get?_push_of_some _ q) (Nat.le_refl _) ?_,rfl,q _ (I.hok.fresh (Nat.le_refl _))⟩
 exact⟨Nat.le_trans (cutV_length xs lo hi) hz,_,0,(r.drop (HT.sIx xs.length 0 lo)).take (HT.sIx xs.length xs.length hi - HT.sIx xs.length 0 lo),Heap.get?_push_size _ rfl⟩
def flatV:V->Bool
 | .non=>true
 | .bl _=>true
 | .int _=>true
 | .str _=>true
 | _=>false
def eqV:V->V->Bool
 | .non,.non=>true
 | .bl a,.bl b=>a == b
 | .bl a,.int b=>(if a then 1 else 0) == b
 | .int a,.bl b=>a == (if b then 1 else 0)
 | .int a,.int b=>a == b
 | .str a,.str b=>a == b
 | _,_=>false
theorem eqAt_V {A:Around}{s:Shared}{y x:V}{u v:Value} (ry:RelV y u) (rx:RelV x v) (fy:flatV y=true) (fx:flatV x=true):SeqAt.EqAt A s u v (eqV y x):=by
 cases y with
 | non=>
  cases ry
  cases x with
  | non=>cases rx; exact SeqAt.EqAt.same _
  | bl b=>cases rx; exact SeqAt.EqAt.none_bool b
  | int b=>obtain⟨t,rfl⟩:=rx; exact SeqAt.EqAt.none_int b t
  | str b=>obtain⟨t,rfl⟩:=rx; exact SeqAt.EqAt.none_str b t
  | _=>exact absurd (show false=true from fx) Bool.false_ne_true
 | bl a=>
  cases ry
  cases x with
  | non=>cases rx; exact SeqAt.EqAt.bool_none a
  | bl b=>cases rx; exact SeqAt.EqAt.bool_bool a b
  | int b=>obtain⟨t,rfl⟩:=rx; exact SeqAt.EqAt.bool_int a b t
  | str b=>obtain⟨t,rfl⟩:=rx; exact SeqAt.EqAt.bool_str a b t
  | _=>exact absurd (show false=true from fx) Bool.false_ne_true
 | int a=>
  obtain⟨t',rfl⟩:=ry
  cases x with
  | non=>cases rx; exact SeqAt.EqAt.int_none a t'
  | bl b=>cases rx; exact SeqAt.EqAt.int_bool a t' b
  | int b=>obtain⟨t,rfl⟩:=rx; exact SeqAt.EqAt.int_int a t' b t
  | str b=>obtain⟨t,rfl⟩:=rx; exact SeqAt.EqAt.int_str a t' b t
  | _=>exact absurd (show false=true from fx) Bool.false_ne_true
 | str a=>
  obtain⟨t',rfl⟩:=ry
  cases x with
  | non=>cases rx; exact SeqAt.EqAt.str_none a t'
  | bl b=>cases rx; exact SeqAt.EqAt.str_bool a t' b
  | int b=>obtain⟨t,rfl⟩:=rx; exact SeqAt.EqAt.str_int a t' b t
  | str b=>obtain⟨t,rfl⟩:=rx; exact SeqAt.EqAt.str_str a t' b t
  | _=>exact absurd (show false=true from fx) Bool.false_ne_true
 | _=>exact absurd (show false=true from fy) Bool.false_ne_true
def eqU (x:V) (u:Value):Bool:=match u with
 | .none=>eqV .non x
 | .bool b=>eqV (.bl b) x
 | .int i _=>eqV (.int i) x
 | .str z _=>eqV (.str z) x
 | _=>false
theorem eqU_of {x y:V}{u:Value} (r:RelV y u) (f:flatV y=true):eqU x u=eqV y x:=by
 cases y with
 | non=>cases r; rfl
 | bl b=>cases r; rfl
 | int i=>obtain⟨t,rfl⟩:=r; rfl
 | str z=>obtain⟨t,rfl⟩:=r; rfl
 | _=>exact absurd (show false=true from f) Bool.false_ne_true
theorem any_eqU {x:V}:∀ {xs:List V}{us:List Value},Vals xs us->xs.all flatV=true->us.any (eqU x)=xs.any fun y=>eqV y x
 | _,_,.nil,_=>rfl
 | y::xs,u::us,.cons r t,f=>by
  rw[List.all_cons,Bool.and_eq_true] at f
  rw[List.any_cons,List.any_cons,eqU_of r f.1,any_eqU t f.2]
theorem mem_eqAt {A:Around}{s:Shared}{x:V}{v:Value} (rx:RelV x v) (fx:flatV x=true):∀ {xs:List V}{us:List Value},Vals xs us->xs.all flatV=true->∀ u ∈ us,SeqAt.EqAt A s u v (eqU x u)
 | _,_,.nil,_=>fun u hu=>by cases hu
 | y::xs,u::us,.cons r t,f=>fun u' hu=>by
  rw[List.all_cons,Bool.and_eq_true] at f
  rcases mem_cons.mp hu with rfl | hu
  ·rw[eqU_of r f.1]; exact eqAt_V r rx f.1 fx
  ·exact mem_eqAt rx fx t f.2 u' hu
def inV (x:V) (xs:List V):Bool:=xs.any fun y=>eqV y x
def rIn (K:PySem.W.Frag) (neg:Bool):R2:=fun x y H Q=>∃ p xs,y=.ref p/\(SqL K H p xs∨SqT K H p xs)/\flatV x=true/\xs.all flatV=true/\Q (.bl (if neg then !inV x xs else inV x xs)) H
theorem op_notIn_seq:OpR X (compareOp .NotIn) (rIn X.K true):=by
 intro pins s σ H x y v u Q I rx ry h
 obtain⟨p,xs,rfl,hq,fx,fs,q⟩:=h
 cases ry
 rcases hq with hq | hq
 ·obtain⟨its,r,pl,hz⟩:=I.list hq
  refine SeqAt.notIn_listAt (eqU x) pl.isList (fun w hw=>mem_eqAt rx fx r fs w (by simpa using hw)) ⟨.bl _,H,I,rfl,?_⟩
  rw[show its.toArray.any (eqU x)=its.any (eqU x) by simp,any_eqU r fs]
  exact q
 ·obtain⟨its,r,pl,hz⟩:=I.tuple hq
  refine SeqAt.notIn_tupleAt (eqU x) pl (fun w hw=>mem_eqAt rx fx r fs w (by simpa using hw)) ⟨.bl _,H,I,rfl,?_⟩
  rw[show its.toArray.any (eqU x)=its.any (eqU x) by simp,any_eqU r fs]
  exact q
theorem call_len_seq:CallR X (.builtin "len") (fun xs H Q=>∃ p ys,xs=[.ref p]/\(SqL X.K H p ys∨SqT X.K H p ys)/\Q (.int ys.length) H):=by
 intro pins s σ H xs us Q I r h
 obtain⟨p,ys,rfl,hq,q⟩:=h
 obtain⟨u,rfl,rx⟩:=vals1 r
 cases rx
 have hn:=line63
 rcases hq with hq | hq
 ·obtain⟨its,r',pl,hz⟩:=I.list hq
  have hlen:=r'.length
  exact Calls.call_len_list pl.isList (by simp only[size_toArray] <;> omega) ⟨.int ys.length,H,I.tok _,⟨s.toks+1,by rw[size_toArray,hlen]⟩,q⟩
 ·obtain⟨its,r',pl,hz⟩:=I.tuple hq
  have hlen:=r'.length
  exact len_tuple pl (by simp only[size_toArray] <;> omega) ⟨.int ys.length,H,I.tok _,⟨s.toks+1,by rw[size_toArray,hlen]⟩,q⟩
theorem call_list_of:CallR X (.type "list") (fun xs H Q=>∃ p ys,xs=[.ref p]/\(SqL X.K H p ys∨SqT X.K H p ys)/\∀ l,H l=none->Q (.ref l) (upd H l (.lst ys))):=by
 intro pins s σ H xs us Q I r h
 obtain⟨p,ys,rfl,hq,q⟩:=h
 obtain⟨u,rfl,rx⟩:=vals1 r
 cases rx
 have fin:∀ (its:List Value),Vals ys its->ys.length<=sizeLine->∀ (h':Heap) (c':Nat),(∀ b o',s.heap.get? b=some o'->h'.get? b=some o') ->
   h'.get? s.heap.objs.size=some { cls:=.type "list",dict:=none,data:=.seq its.toArray c',slots:=#[] }->EP X pins σ Q (.ref s.heap.objs.size) { s with heap:=h' }:=fun its r' hz h' c' kp e=>
  ⟨.ref s.heap.objs.size,_,I.laid (t':=s.toks) kp (Nat.le_refl _) (show ObjOk X.prog X.w _ h' _ (.lst ys) from⟨hz,its,c',r',e⟩),rfl,q _ (I.hok.fresh (Nat.le_refl _))⟩
 rcases hq with hq | hq
 ·obtain⟨its,r',pl,hz⟩:=I.list hq
  have hlen:=r'.length
  obtain⟨o,ho,hc,n,hd⟩:=pl.isList
  exact call_list_seq p (.inl rfl) ho hc hd (fun h' c' kp e=>fin its r' hz h' c' kp e) (by simp only[size_toArray] <;> omega)
 ·obtain⟨its,r',pl,hz⟩:=I.tuple hq
  have hlen:=r'.length
  obtain⟨o,ho,hc,n,hd⟩:=pl
  exact call_list_seq p (.inr rfl) ho hc hd (fun h' c' kp e=>fin its r' hz h' c' kp e) (by simp only[size_toArray] <;> omega)
def tyV (K:PySem.W.Frag) (T:String) (x:V) (H:Hp):Prop:=match x with
 | .str _=>T = "str"
 | .int _=>T = "int"
 | .ref p=>(T = "list" /\ ∃ xs,SqL K H p xs)∨(T = "tuple" /\ ∃ o,K.lookup p=some o/\o.cls=.type "tuple" /\ o.dict=none) ∨
   (T = "dict" /\ ((∃ kvs,H p=some (.dK kvs))∨∃ kvs,H p=some (.dT kvs)))∨(T = "set" /\ ∃ S n,H p=some (.set S n))
 | _=>False
theorem tyV_is {pins:List (Addr×Obj)}{σ:St}{H:Hp}{s:Shared}{T:String}{x:V}{v:Value} (I:Inv X pins σ H s) (r:RelV x v) (ty:tyV X.K T x H) :
  s.TypeIs v T/\∀ a,v=.ref a->∃ ob,s.heap.get? a=some ob/\ob.dict=none:=by
 cases x with
 | str z=>
  obtain⟨t,rfl⟩:=r
  cases (show T = "str" from ty)
  exact⟨typeIs_str s z t,fun _ e=>nomatch e⟩
 | int i=>
  obtain⟨t,rfl⟩:=r
  cases (show T = "int" from ty)
  exact⟨typeIs_int s i t,fun _ e=>nomatch e⟩
 | ref p=>
  cases r
  rcases ty with ⟨rfl,xs,hq⟩ | ⟨rfl,o,hk,hc,hd⟩ | ⟨rfl,hk⟩ | ⟨rfl,S,n,hk⟩
  ·obtain⟨its,_,pl,_⟩:=I.list hq
   refine⟨pl.isList.typeIs,fun a e=>?_⟩
   cases e
   obtain⟨o,n,e,c,hd,_⟩:=pl
   exact⟨o,e,hd⟩
  ·refine⟨⟨o,I.kIn p o hk,hc⟩,fun a e=>?_⟩
   cases e
   exact⟨o,I.kIn _ o hk,hd⟩
  ·have z:∃ o,s.heap.get? p=some o/\o.ExactDict:=by
    rcases hk with ⟨kvs,hk⟩ | ⟨kvs,hk⟩
    ·obtain⟨_,_,_,_,o,_,_,e,ex,_⟩:=I.hok p _ hk
     exact⟨o,e,ex⟩
    ·obtain⟨_,_,_,_,o,_,_,e,ex,_⟩:=I.hok p _ hk
     exact⟨o,e,ex⟩
   obtain⟨o,e,ex⟩:=z
   refine⟨⟨o,e,ex.1⟩,fun a e2=>?_⟩
   cases e2
   exact⟨o,e,ex.2.1⟩
  ·obtain⟨o,_,_,_,e,ex,_⟩:=I.hok p _ hk
   refine⟨⟨o,e,ex.1⟩,fun a e2=>?_⟩
   cases e2
   exact⟨o,e,ex.2.1⟩
 | _=>exact False.elim ty
def tBM0 (K:PySem.W.Frag) (T:String) (r:V->List V->Hp->VK->Prop) (to:TE):TE:=fun σ H Q=>to σ H fun x H1=>tyV K T x H1/\r x [] H1 Q
def tBM (K:PySem.W.Frag) (T:String) (r:V->List V->Hp->VK->Prop) (to:TE) (t:TA):TE:=fun σ H Q=>to σ H fun x H1=>tyV K T x H1/\t σ H1 fun xs H2=>r x xs H2 Q
variable {o e:Expr}{es:List Expr}{to:TE}{t:TA}{name:Str}{apos cpos:Pos}{T id:String}{r:V->List V->Hp->VK->Prop}
theorem pe_bm0 (pa:PlainAttrs T) (slot:Slot T name id) (hty:typeOf (.builtin id)=pure (.type "method_descriptor")) (hm:MtR X id r) (ho:PE X o to)
  (hbase:attributeBase o name X.env (eval o X.env)=eval o X.env:=by rfl) (hline:(apos.endLine == cpos.line)=true:=by rfl):PE X (.Call (.Attribute o name apos) [] [] cpos) (tBM0 X.K T r to):=by
 intro pins s σ H Q I h
 refine wpAny_Call_method0_late hbase hline (thn (ho pins s σ H _ I h) fun v s1 ⟨x,H1,I1,r1,ty,q1⟩=>?_)
 obtain⟨h1,h2⟩:=tyV_is I1 r1 ty
 exact⟨T,id,pa,slot,hty,h1,h2,Calls.callWith_builtin rfl (PySem.evalArgs_none (hm pins s1 σ H1 x [] v [] Q I1 r1 .nil q1))⟩
theorem pe_bm (pa:PlainAttrs T) (slot:Slot T name id) (hty:typeOf (.builtin id)=pure (.type "method_descriptor")) (hm:MtR X id r) (ho:PE X o to) (ha:PA X (e::es) t)
  (hbase:attributeBase o name X.env (eval o X.env)=eval o X.env:=by rfl)
  (hfew:((backTo cpos (starEach (e::es) X.env)).all (fun x=>!x.1) && (backToKw cpos (keywordEach [] X.env)).all (fun x=>x.1.isSome)
   && decide ((e::es).length+([]:List Keyword).length+(if ([]:List Keyword).isEmpty then 0 else 1)<30))=true:=by rfl)
  (hline:(apos.endLine == cpos.line)=true:=by rfl) (hs:starEach (e::es) X.env=(false,eval e X.env)::starEach es X.env:=by rfl) (hplain:(backTo cpos (starEach es X.env)).any (·.1)=false:=by rfl) :
  PE X (.Call (.Attribute o name apos) (e::es) [] cpos) (tBM X.K T r to t):=by
 intro pins s σ H Q I h
 refine wpAny_Call_method_late hbase hfew hline rfl (thn (ho pins s σ H _ I h) fun v s1 ⟨x,H1,I1,r1,ty,q1⟩=>?_)
 obtain⟨h1,h2⟩:=tyV_is I1 r1 ty
 refine⟨T,id,pa,slot,hty,h1,h2,?_⟩
 have hA:=ha cpos pins s1 σ H1 _ I1 q1
 rw[hs] at hA ⊢
 refine Calls.callWith_builtin (by show (false || (backTo cpos (starEach es X.env)).any (·.1)) = false; rw [hplain] <;> rfl) (Calls.evalArgs_plain ?_)
 exact thn hA fun us s2 ⟨vs,H2,I2,r2,q2⟩=>hm pins s2 σ H2 x vs v us Q I2 r1 r2 q2
/- xs.append(e),list.index on a module's tuple .. are MtR facts of 06m -/
end
end L2
namespace L2
open PySem PySem.Spec PyProof.Rows
def MtM (X:Cx) (id:String) (r:V->List V->Hp->VK->Prop):Prop :=
 ∀ (pins:List (Addr×Obj)) (s:Shared) (σ:St) (H:Hp) (x:V) (xs:List V) (v:Value) (us:List Value) (Q:VK),Inv X pins σ H s->RelV x v->Vals xs us->r x xs H Q ->
  wpAny (model X.prog X.w) X.A (call (.builtin id) (v::us)) (EP X pins σ Q) X.xe s
theorem Vals.one:∀ {x:V}{us:List Value},Vals [x] us->∃ u,us=[u]/\RelV x u
 | _,_,.cons r .nil=>⟨_,rfl,r⟩
theorem Vals.zero:∀ {us:List Value},Vals [] us->us=[]
 | _,.nil=>rfl
theorem Vals.dropLast {xs:List V}{us:List Value} (h:Vals xs us):Vals xs.dropLast us.dropLast:=by
 induction h with
 | nil=>exact .nil
 | cons r t ih=>
  cases t with
  | nil=>exact .nil
  | cons q t'=>exact .cons r ih
theorem erase_last {α:Type} (l:List α):l.eraseIdx (l.length - 1)=l.dropLast:=by
 induction l with
 | nil=>rfl
 | cons a r ih=>
  cases r with
  | nil=>rfl
  | cons b r=>
   have e:(a::b::r).length - 1=((b::r).length - 1)+1:=by
    have h1:(a::b::r).length=r.length+2:=rfl
    have h2:(b::r).length=r.length+1:=rfl
    omega
   rw[e,List.eraseIdx_cons_succ,ih]
   all_goals rfl
section
variable {X:Cx}{pins:List (Addr×Obj)}{σ:St}{H:Hp}{s:Shared}{l b:Addr}{xs ys zs:List V}
theorem Inv.lset {its its':List Value}{n:Nat}{f:Array Value->Array Value}{t':Nat} (I:Inv X pins σ H s) (hH:H l=some (.lst xs))
  (e:s.heap.get? l=some { cls:=.type "list",data:=.seq its.toArray n }) (hf:f its.toArray=its'.toArray) (hv:Vals ys its') (hz:ys.length<=sizeLine) :
  Inv X pins σ (upd H l (.lst ys)) { s with heap:=s.heap.update l (Obj.mapSeq f),toks:=t' }:=by
 have q:=PySem.IsL.update e f
 rw[hf] at q
 refine I.write (x:=l) (e:=l) (by rw[hH]; exact trivial) (.inl rfl) (fun b' u hb hu=>(Heap.get?_update_other s.heap (Obj.mapSeq f) (Ne.symm hb)).trans hu) ⟨_,q⟩ ?_
 exact⟨hz,its',_,hv,q⟩
theorem Inv.lstM (I:Inv X pins σ H s) (hH:H l=some (.lst xs)):xs.length<=sizeLine/\∃ (its:List Value) (n:Nat),Vals xs its/\xs.length=its.length/\s.heap.get? l=some { cls:=.type "list",data:=.seq its.toArray n }:=by
 obtain⟨z,its,n,r,e⟩:=I.hok l _ hH
 exact⟨z,its,n,r,r.length,e⟩
theorem notLongL {n:Nat} (h:n<=sizeLine):Builtin.List.listTooLong n=false:=by
 unfold Builtin.List.listTooLong
 exact decide_eq_false (by omega)
end
section
variable {X:Cx}
def rAppend:V->List V->Hp->VK->Prop:=fun x vs H Q=>∃ l xs y,x=.ref l/\vs=[y]/\H l=some (.lst xs)/\xs.length<sizeLine/\Q .non (upd H l (.lst (xs++[y])))
theorem mt_append:MtM X "list.append" rAppend:=by
 intro pins s σ H x vs v us Q I rx rv h
 obtain⟨l,xs,y,rfl,rfl,hH,hz,q⟩:=h
 cases rx
 obtain⟨u,rfl,ru⟩:=rv.one
 obtain⟨z,its,n,r,hl,e⟩:=I.lstM hH
 refine call_meets F.slot_list_append ⟨_,e,rfl⟩ F.entry_list_append (F.args_list_append_2 _ _) (PySem.list_append l its.toArray n u (by rw[size_toArray]; omega)) ⟨e,?_⟩
 refine⟨.non,_,I.lset (its':=its++[u]) hH e (by simp) (r.append (.cons ru .nil)) ?_,rfl,q⟩
 rw[length_append,length_singleton]
 omega
def rExtend:V->List V->Hp->VK->Prop:=fun x vs H Q=>∃ l b xs zs,x=.ref l/\vs=[.ref b]/\H l=some (.lst xs)/\H b=some (.lst zs)/\xs.length+zs.length<=sizeLine/\Q .non (upd H l (.lst (xs++zs)))
theorem mt_extend:MtM X "list.extend" rExtend:=by
 intro pins s σ H x vs v us Q I rx rv h
 obtain⟨l,b,xs,zs,rfl,rfl,hH,hB,hz,q⟩:=h
 cases rx
 obtain⟨u,rfl,ru⟩:=rv.one
 cases ru
 obtain⟨z,its,n,r,hl,e⟩:=I.lstM hH
 obtain⟨z2,its2,n2,r2,hl2,e2⟩:=I.lstM hB
 have hsz:its.toArray.size+its2.toArray.size<=sizeLine:=by rw[size_toArray,size_toArray]; omega
 have hlong:¬ (!its.toArray.isEmpty && Builtin.List.listTooLong (its.toArray.size+its2.toArray.size))=true:=by
  rw[notLongL hsz,Bool.and_false]
  exact Bool.false_ne_true
 refine call_meets F.slot_list_extend ⟨_,e,rfl⟩ F.entry_list_extend (F.args_list_extend_2 _ _)
  (AutoSeq1.list_extend_list_list_0 l its.toArray n b its2.toArray n2 hlong (by rw[size_toArray]; omega) (by omega)) ⟨e,e2,?_⟩
 refine⟨.non,_,I.lset (its':=its++its2) hH e (by simp) (r.append r2) ?_,rfl,q⟩
 rw[length_append]
 omega
def rPop:V->List V->Hp->VK->Prop:=fun x vs H Q=>∃ l xs y,x=.ref l/\vs=[]/\H l=some (.lst xs)/\xs[xs.length - 1]?=some y/\Q y (upd H l (.lst xs.dropLast))
theorem mt_pop:MtM X "list.pop" rPop:=by
 intro pins s σ H x vs v us Q I rx rv h
 obtain⟨l,xs,y,rfl,rfl,hH,hy,q⟩:=h
 cases rx
 have hus:=rv.zero
 subst hus
 obtain⟨z,its,n,r,hl,e⟩:=I.lstM hH
 obtain⟨u,hu,ru⟩:=r.get hy
 have hy':its.toArray[its.toArray.size - 1]?=some u:=by
  show its.toArray[its.length - 1]?=some u
  rw[<- Array.getElem?_toList,<- hl]
  exact hu
 refine call_meets F.slot_list_pop ⟨_,e,rfl⟩ F.entry_list_pop (F.args_list_pop_1 _) (MeetsSeq.list_pop_last l its.toArray n u hy' (by rw[size_toArray]; omega)) ⟨e,?_⟩
 refine⟨y,_,I.lset (its':=its.dropLast) hH e ?_ r.dropLast ?_,ru,q⟩
 ·show its.toArray.eraseIdxIfInBounds (its.toArray.size - 1)=its.dropLast.toArray
  rw[size_toArray,List.eraseIdxIfInBounds_toArray,erase_last]
 ·rw[List.length_dropLast]
  omega
end
section
variable {prog:Program}{w:World}{A:Around}{E:Value->Shared->Prop}{s:Shared}
end
section
variable {X:Cx}
end
end L2
namespace Att
open PySem PySem.W PySem.Calls PyProof.Rows
theorem ints_of_wellAll {P:Params}{h:Heap}:∀ (ns:List Int) (vs:List Value),WellAll P h vs (ns.map WData.int)->IntsAre vs ns:=by
 intro ns
 induction ns with
 | nil=>
  intro vs w
  rw[List.map_nil] at w
  cases w
  exact .nil
 | cons n ns ih=>
  intro vs w
  rw[map_cons] at w
  cases w with
  | cons a b=>
   cases a
   exact .cons _ _ (ih _ b)
theorem script_of {l : OpenLaw}{n : Nat} (hn : l.most=some n) {P : Params}{h : Heap}{args : List WData}{vals : List Value}
    (hpre : l.row.toRowW.claim.pre args=true) (hwl : WellAll P h vals args) :
    ∃ a vs ns, vals=[Value.ref a]/\args=[WData.list (ns.map WData.int)]/\h.get? a=some { cls := .type "list", data := .seq vs.toArray }/\IntsAre vs ns/\ns.length<=n := by
  have hsh : WShape.hasAll [] args [.list .int]=true := (pre_splitW hpre).1
  have hc : l.pre.holds [] { args := args }=true := (pre_splitW hpre).2
  obtain⟨d, r, rfl, h1, h2⟩ := hasAllW_cons hsh
  obtain rfl := hasAllW_nil h2
  obtain⟨xs, rfl, h3⟩ := hasW_list h1
  obtain⟨ns, rfl⟩ := items_int h3
  have hlen : ns.length<=n := by
    unfold OpenLaw.pre at hc
    have h4 : (WTm.not (.lt (.lit (.int (n : Int))) (.len (.arg 0)))).holds [] { args := [.list (ns.map .int)] }=true := by
      have h4 := (holds_andW hc).1
      rw[hn] at h4
      exact h4
    have h5 := condW_of h4 (w_not (w_lt w_lit (w_len_list (w_arg rfl))))
    rw[length_map] at h5
    refine Nat.le_of_not_lt fun q=>?_
    have q' : (n : Int)<((ns.length : Nat) : Int) := by omega
    first
      | (rw [decide_eq_true q'] at h5; exact absurd h5 (by decide))
      | (simp at h5; omega)
  cases hwl with
  | cons w1 w2=>
    cases w2
    cases w1 with
    | list ho hall=>exact⟨_, _, ns, rfl, rfl, ho, ints_of_wellAll ns _ hall, hlen⟩
theorem post_true (l:OpenLaw) (args:List WData):l.row.toRowW.claim.post args (.bool true) args=true :=
 postW_of (r:=l.row.toRowW) (X:=(true == true))
  (show WShape.has [] (.bool true) .bool=true by first | rfl | decide | simp[WShape.has,WShape.arms,WShape.armsAll])
  (show(WTm.eq .res (.lit (.bool true))).value [] { args:=args,res:=some (.bool true),after:=args }=some (.bool (true == true)) from w_eq_bool (w_res rfl) w_lit) rfl
theorem attach_call {l:OpenLaw}{n:Nat}{q:Program}{loose:List Str}{XP:(Str->Option Value)->Heap->Prop}{YP:World->Heap->Prop}{d:DefRec}
  (hn:l.most=some n) (hdf:d.params.defaults=[])
  (call:∀ (w:World) (s₀ s₁:Shared) (mg mb:Str->Option Value) (fa:Addr) (o:Obj) (pm cd doc:Value) (a:Addr) (vs:List Value) (ns:List Int),
   Ground q loose [] XP w s₀ mg mb s₁.heap->YP w s₁.heap ->
   s₁.heap.get? fa=some o->o.data=.func (docDef d.name d.params d.body d.scope pm cd doc)->s₁.heap.CodeRec cd d.name->mg d.name=some (.ref fa) ->
   s₁.heap.get? a=some { cls:=.type "list",data:=.seq vs.toArray }->IntsAre vs ns->ns.length<=n->s₁.gens = #[] ->
   codeAny (model l.prog w) callerA (.call (.ref fa) ⟨[.ref a],[]⟩) (fun r s'=>r=.ok (.ret (.bool true))/\OldK s₁.heap s'.heap/\s'.os=s₁.os/\AllBare s'.gens) s₁) :
  WalkO q loose XP YP l.row.toRowW d [] (fun f vs=>PySem.call f vs):=by
 intro w s₀ s₁ mg mb G Y fa o pm cd doc dV kV ho hd hcd hD hmg hg args vals as hpre hlay hrd hwl hlo
 obtain rfl:dV=.none:=Dflts.none hD hdf
 obtain rfl:kV=.none:=Dflts.noKw hD
 obtain⟨a,vs,ns,rfl,rfl,hobj,hints,hlen⟩:=script_of hn hpre hwl
 refine enter_call (codeAny_mono (call w s₀ s₁ mg mb fa o pm cd doc a vs ns G Y ho (fd_plain hd) hcd hmg hobj hints hlen hg) fun r s' hq=>?_)
 obtain⟨rfl,h2,h3,h4⟩:=hq
 exact⟨.inl ⟨.bool true,.bool true,[],rfl,fun _=>rfl,.bool true,post_true l _,fun _=>⟨List.Pairwise.nil,fun _ hm=>(nomatch hm)⟩⟩,h2,h3,h4⟩
section
variable {prog:Program}{w:World}{A:Around}{E:Value->Shared->Prop}{s:Shared}{K:Frag}
def ledger (h:Heap) (L d:Addr):List (Addr×Obj):=(List.range h.objs.size).filterMap fun a=>if a=L∨a=d then none else(h.get? a).map fun o=>(a,o)
end
end Att
namespace L2
open PySem PySem.Spec PyProof.Rows
theorem vals_ints:∀ {vs:List Value}{ns:List Int},IntsAre vs ns->Vals (ns.map V.int) vs
 | _,_,.nil=>.nil
 | _,_,.cons n t h=>.cons ⟨t,rfl⟩ (vals_ints h)
def Only (H:Hp):Prop:=∀ b,H b=none∨∃ o xs,H b=some (.frz o (.lst xs))
theorem law_call {P:Program}{w:World}{K:PySem.W.Frag}{mg mb:Str->Option Value}{CX:CXT}{k:Nat}{fa a:Addr}{fd:FuncData}{x:Str}{sp:Sp}{s₁:Shared}{vs:List Value}{ns:List Int}
  (KX:K.In s₁.heap) (hns:s₁.heap.Ns mainGlobals mg) (hb:s₁.heap.Ns builtinsNs mb) (hbb:∀ x:Str,x ≠ "__name__" -> mb x=bootBuiltins x) (hlim:s₁.heap.NoLimit) (hg:s₁.gens = #[])
  (ha:s₁.heap.get? a=some { cls:=.type "list",data:=.seq vs.toArray }) (hi:IntsAre vs ns) (hl:ns.length<=sizeLine) (hr:Room k callerA)
  (F:∀ base:Heap,K.In base->base.Ns mainGlobals mg->FnOk P w K mg base CX k fa fd [x] sp) (hbind:∀ (s:Shared) (u:Value),BindsTo s fd ⟨[u],[]⟩ [(x,u)])
  (hsp:∀ H:Hp,Only H->SqL K H a (ns.map V.int)->sp [.ref a] H (fun v _=>v=.bl true) fun _ _ _=>False)
  (hCX:∀ H e s',CX [] H s₁ (fun _ _ _=>False) e s'->False) :
  codeAny (model P w) callerA (.call (.ref fa) ⟨[.ref a],[]⟩) (fun r s'=>r=.ok (.ret (.bool true))/\OldK s₁.heap s'.heap/\s'.os=s₁.os/\AllBare s'.gens) s₁:=by
 have rv:=vals_ints hi
 have lenV:=hi.length
 have core:∀ H:Hp,Only H->SqL K H a (ns.map V.int)->HOk P w H s₁.heap->(∀ b,H b≠none->b=a)->(H a≠none->K.lookup a=none) ->
   codeAny (model P w) callerA (.call (.ref fa) ⟨[.ref a],[]⟩) (fun r s'=>r=.ok (.ret (.bool true))/\OldK s₁.heap s'.heap/\s'.os=s₁.os/\AllBare s'.gens) s₁:=by
  intro H hO hS hok hA hK
  have base_of:∀ {b:Addr}{o:Obj},s₁.heap.get? b=some o->H b=none->(hidT s₁.heap H).get? b=some o:=fun e n=>hidT_get e n
  have noA:∀ {b:Addr}{o:Obj}{es:Array DictEntry}{ep:Nat},s₁.heap.get? b=some o->o.data=.dict es ep->H b=none:=fun {b o es ep} e d=>by
   cases q:H b with
   | none=>rfl
   | some u=>
    have e':b=a:=hA b (by rw[q]; simp)
    subst e'
    rw[ha] at e; cases e
    have d':Data.seq vs.toArray _=Data.dict es ep:=d
    cases d'
  have nsK:∀ {b:Addr}{m:Str->Option Value},s₁.heap.Ns b m->(hidT s₁.heap H).Ns b m:=fun {b m} ⟨o,es,ep,e,d,r⟩=>⟨o,es,ep,base_of e (noA e d),d,r⟩
  have hKb:K.In (hidT s₁.heap H):=fun b o e=>base_of (KX b o e) (by
   cases q:H b with
   | none=>rfl
   | some u=>
    have e':b=a:=hA b (by rw[q]; simp)
    subst e'
    rw[hK (by rw[q]; simp)] at e; cases e)
  have hM:Mod K mg (hidT s₁.heap H):=⟨hKb,nsK hns,⟨mb,nsK hb,hbb⟩,let ⟨mc,h1,h2⟩:=hlim; ⟨mc,nsK h1,h2⟩⟩
  have e0:Env0 P w K mg (hidT s₁.heap H) callerA [] s₁ H:=⟨rfl,hM,fun b o e=>of_hidT e,Nat.le_of_eq (hidT_size _ _),trivial,fun b hb=>absurd (show b ∈ ([]:List Addr) from hb) (by simp),hok,.of_eq hg⟩
  refine codeAny_mono ((F _ hKb (nsK hns)).run callerA [] s₁ H ⟨[.ref a],[]⟩ [.ref a] [.ref a] _ _ hr e0 (hbind s₁ (.ref a)) (.cons rfl .nil) (hsp H hO hS)) fun r s' h=>?_
  cases r with
  | error e=>exact(hCX H e s' h).elim
  | ok fl=>
   cases fl with
   | next=>exact False.elim h
   | brk=>exact False.elim h
   | cont=>exact False.elim h
   | ret u=>
    obtain⟨v,H',os,bare,un,hok',r',q⟩:=h
    have q':v=.bl true:=q
    subst q'
    obtain rfl:u=Value.bool true:=r'
    refine⟨rfl,OldK.of_keep fun b o e=>?_,os,bare⟩
    cases q:H b with
    | none=>exact un.keep b o e q (by intro z; exact absurd (show b ∈ ([]:List Addr) from z) (by simp)) (by simp)
    | some u=>
     rcases hO b with z | ⟨ob,xs,z⟩
     ·rw[q] at z; cases z
     ·have z2:=un.frzs b ob _ z
      obtain⟨e1,_⟩:=hok b _ z
      obtain⟨e2,_⟩:=hok' b _ z2
      rw[e] at e1; cases e1
      exact e2
 cases hk:K.lookup a with
 | some o=>
  have e:=KX a o hk
  rw[ha] at e
  cases e
  refine core (fun _=>none) (fun _=>.inl rfl) (.inr ⟨_,vs.toArray,_,hk,rfl,rfl,rfl,by rw[size_toArray,lenV]; exact hl,by simpa using rv⟩) (fun b u z=>by have z':(none:Option HO)=some u:=z; cases z') (fun b z=>absurd rfl z) fun z=>absurd rfl z
 | none=>
  refine core (fun b=>if b=a then some (.frz { cls:=.type "list",data:=.seq vs.toArray } (.lst (ns.map V.int))) else none) (fun b=>?_) (.inl (.inr ⟨{ cls:=.type "list",data:=.seq vs.toArray },if_pos rfl⟩)) (fun b u z=>?_) (fun b z=>?_) fun _=>hk
  ·by_cases hb:b=a
   ·exact .inr ⟨_,_,if_pos hb⟩
   ·exact .inl (if_neg hb)
  ·by_cases hb:b=a
   ·have z':=(if_pos hb).symm.trans z
    cases z'
    subst hb
    exact⟨ha,by rw[length_map]; exact hl,vs,_,rv,ha⟩
   ·have z':=(if_neg hb).symm.trans z
    cases z'
  ·by_cases hb:b=a
   ·exact hb
   ·exact absurd (if_neg hb) z
end L2
namespace L2
open PySem PySem.Spec PyProof.Rows
abbrev KOf {K:PySem.W.Frag}{h:Heap} (_:K.In h):PySem.W.Frag:=K
theorem walk_of {l:PySem.W.OpenLaw}{n k:Nat}{q:Program}{loose:List Str}{XP:(Str->Option Value)->Heap->Prop}{YP:World->Heap->Prop}{d:DefRec}{K:Params->PySem.W.Frag}{CX:World->CXT}{sp:World->Sp}{x:Str}
  (hn:l.most=some n) (hn2:n<=sizeLine) (hdf:d.params.defaults=[]) (hr:Room k callerA)
  (hY:∀ (w:World) (h:Heap),YP w h->(K w.params).In h)
  (F:∀ (w:World) (mg:Str->Option Value) (fa:Addr) (h:Heap),(K w.params).In h->h.Ns mainGlobals mg->mg d.name=some (.ref fa) ->
   ∃ fd:FuncData,(∀ (s:Shared) (u:Value),BindsTo s fd ⟨[u],[]⟩ [(x,u)]) /\
    ∀ base:Heap,(K w.params).In base->base.Ns mainGlobals mg->FnOk l.prog w (K w.params) mg base (CX w) k fa fd [x] (sp w))
  (hsp:∀ (w:World) (H:Hp) (a:Addr) (ns:List Int),ns.length<=n->Only H->SqL (K w.params) H a (ns.map V.int)->sp w [.ref a] H (fun v _=>v=.bl true) fun _ _ _=>False)
  (hCX:∀ (w:World) (H:Hp) (s:Shared) (e:Value) (s':Shared),CX w [] H s (fun _ _ _=>False) e s'->False) :
  PySem.W.WalkO q loose XP YP l.row.toRowW d [] (fun f vs=>PySem.call f vs):=by
 refine Att.attach_call hn hdf fun w s₀ s₁ mg mb fa o pm cd doc a vs ns G Y ho hd hcd hmg hobj hints hlen hg=>?_
 have KX:=hY w _ Y
 obtain⟨fd,hb,hF⟩:=F w mg fa _ KX G.T.g hmg
 exact law_call KX G.T.g G.T.b G.T.builtins G.T.nolimit hg hobj hints (Nat.le_trans hlen hn2) hr hF hb (fun H hO hS=>hsp w H a ns hlen hO hS) fun H e s'=>hCX w H s₁ e s'
theorem walk_ofK {l:PySem.W.OpenLaw}{n k:Nat}{q:Program}{loose:List Str}{XP:(Str->Option Value)->Heap->Prop}{YP:World->Heap->Prop}{d:DefRec}{K:Params->PySem.W.Frag}{CX:CXT}{sp:PySem.W.Frag->Sp}{x:Str}
  (hn:l.most=some n) (hn2:n<=sizeLine) (hdf:d.params.defaults=[]) (hr:Room k callerA)
  (hY:∀ (w:World) (h:Heap),YP w h->(K w.params).In h)
  (F:∀ (w:World) (mg:Str->Option Value) (fa:Addr) (h:Heap),(K w.params).In h->h.Ns mainGlobals mg->mg d.name=some (.ref fa) ->
   ∃ fd:FuncData,(∀ (s:Shared) (u:Value),BindsTo s fd ⟨[u],[]⟩ [(x,u)]) /\
    ∀ base:Heap,(K w.params).In base->base.Ns mainGlobals mg->FnOk l.prog w (K w.params) mg base CX k fa fd [x] (sp (K w.params)))
  (hsp:∀ (K:PySem.W.Frag) (H:Hp) (a:Addr) (ns:List Int),ns.length<=n->Only H->SqL K H a (ns.map V.int)->sp K [.ref a] H (fun v _=>v=.bl true) fun _ _ _=>False)
  (hCX:∀ (H:Hp) (s:Shared) (e:Value) (s':Shared),CX [] H s (fun _ _ _=>False) e s'->False) :
  PySem.W.WalkO q loose XP YP l.row.toRowW d [] (fun f vs=>PySem.call f vs) :=
 walk_of (K:=K) (CX:=fun _=>CX) (sp:=fun w=>sp (K w.params)) hn hn2 hdf hr hY F (fun w H a ns h1 h2 h3=>hsp (K w.params) H a ns h1 h2 h3) fun _ H s e s'=>hCX H s e s'
end L2
namespace L2
open PySem PySem.Spec PyProof.Rows
def inClass (s:Stmt) (j:Nat):Stmt:=match s with
 | .ClassDef _ _ _ body _ _ _ _ _ _ _=>body.getD j (.Pass ⟨0,0,0,0⟩)
 | _=>.Pass ⟨0,0,0,0⟩
def defArgs (s:Stmt):Arguments:=match s with
 | .FunctionDef _ a _ _ _ _ _ _ _ _=>a
 | _=>{ posonlyargs:=[],args:=[],vararg:=none,kwonlyargs:=[],kw_defaults:=[],kwarg:=none,defaults:=[] }
def defBody (s:Stmt):List Stmt:=match s with
 | .FunctionDef _ _ b _ _ _ _ _ _ _=>b
 | _=>[]
def defScope (s:Stmt):Scope:=match s with
 | .FunctionDef _ _ _ _ _ _ sc _ _ _=>sc
 | _=>{ kind:=.function,names:=[],isGenerator:=false,isCoroutine:=false }
abbrev CX0:CXT:=fun _ _ _ _ _ _=>False
abbrev E0:XK:=fun _ _ _=>False
theorem pass0 {X:Cx}:Passes CX0 X E0:=fun _ _ _ _ _ _ _ h=>h.elim
structure Fun (K:PySem.W.Frag) (x qual:Str) (st:Stmt) (f:Addr) (fd:FuncData):Prop where
 ex:∃ (oc:Value) (od:Option Addr) (kV doc pm:Value) (an:Option Addr) (cdv ct:Value) (osl:Array (Option Value)),
  fd=W.fnOf x qual (defArgs st) (defBody st) (defScope st) .none kV doc pm an cdv ct/\K.lookup f=some ⟨oc,od,.func fd,osl⟩/\W.codeIn K cdv qual=true
 kp:W.keepIn K (.ref f)=true
section
variable {P:Program}{w:World}{K:PySem.W.Frag}{mg:Str->Option Value}{base:Heap}
end
section
variable {X:Cx}
theorem pv (i:Nat) {x:Str}{pos:Pos} (hN:X.N[i]?=some x:=by rfl) (hv:Vis X.env.scope x:=by first | exact Or.inl rfl | exact Or.inr (Or.inl rfl) | exact Or.inr (Or.inr rfl)) (hd:(x == ("__debug__" : Str))=false:=by decide)
  (hcd:(x == ("__classdict__" : Str))=false:=by decide):PE X (.Name x pos) (tVar i):=pe_var hN hv hd hcd
end
theorem iteF {A B:Prop} (h:B):if false=true then A else B:=by
 rw[if_neg Bool.false_ne_true]
 exact h
theorem iteT {A B:Prop} (h:A):if true=true then A else B:=by
 rw[if_pos rfl]
 exact h
theorem ite2 {c A B:Prop} [Decidable c] (h1:c->A) (h2:¬ c->B):if c then A else B:=by
 by_cases h:c
 ·rw[if_pos h]
  exact h1 h
 ·rw[if_neg h]
  exact h2 h
def Same (H H':Hp):Prop:=∀ b o,H b=some o->H' b=some o
theorem Same.seq {K:PySem.W.Frag}{H H':Hp}{a:Addr}{xs:List V} (e:Same H H') (h:SqL K H a xs):SqL K H' a xs:=by
 rcases h with (h | ⟨o,h⟩) | h
 ·exact .inl (.inl (e _ _ h))
 ·exact .inl (.inr ⟨o,e _ _ h⟩)
 ·exact .inr h
section
variable {κ:Type} [DecidableEq κ]
end
end L2
set_option Elab.async false
set_option linter.all false
set_option maxRecDepth 100000
namespace L2
open PySem PySem.Spec PyProof.Rows
abbrev Kn:=List (Addr×HO)
structure Has (H:Hp) (L:Kn):Prop where
 nd:(L.map (·.1)).Nodup
 at_:∀ x ∈ L,H x.1=some x.2
namespace Has
variable {H H':Hp}{L L' X Y R:Kn}{a p:Addr}{o o':HO}{x y:Addr×HO}
theorem nil:Has H []:=⟨List.nodup_nil,fun _ h=>nomatch h⟩
theorem get (h:Has H L) (i:Nat) (e:L[i]?=some (a,o)):H a=some o:=h.at_ (a,o) (mem_of_getElem? e)
theorem alloc (h:Has H L) (hp:H p=none) (o:HO):Has (upd H p o) ((p,o)::L):=by
 have ne:∀ x ∈ L,x.1≠p:=fun x hx e=>by
  have:=h.at_ x hx
  rw[e,hp] at this; cases this
 refine⟨?_,fun x hx=>?_⟩
 ·rw[map_cons,List.nodup_cons]
  refine⟨fun m=>?_,h.nd⟩
  obtain⟨x,hx,e⟩:=mem_map.mp m
  exact ne x hx e
 ·rcases mem_cons.mp hx with rfl | hx
  ·exact upd_same
  ·rw[upd_ne (ne x hx)]; exact h.at_ x hx
theorem sub (h:Has H L) (s:L'.Sublist L):Has H L':=⟨h.nd.sublist (s.map _),fun x hx=>h.at_ x (s.subset hx)⟩
theorem perm (h:Has H L) (s:L.Perm L'):Has H L':=⟨(s.map _).nodup_iff.mp h.nd,fun x hx=>h.at_ x (s.mem_iff.mpr hx)⟩
theorem tail (h:Has H (x::L)):Has H L:=h.sub (List.sublist_cons_self _ _)
theorem right (h:Has H (X++R)):Has H R:=h.sub (List.sublist_append_right _ _)
theorem swap2 (h:Has H (x::y::L)):Has H (y::x::L):=h.perm (List.Perm.swap _ _ _)
theorem comm (h:Has H (X++(Y++R))):Has H (Y++(X++R)):=h.perm (by rw[<- append_assoc,<- append_assoc]; exact List.perm_append_comm.append_right R)
theorem out (h:Has H (Y++(x::R))):Has H (x::(Y++R)):=h.perm List.perm_middle
theorem map_set_fst:∀ (L:Kn) (i:Nat),L[i]?=some (a,o)->(L.set i (a,o')).map (·.1)=L.map (·.1)
 | [],i,e=>by simp at e
 | x::L,0,e=>by simp at e; subst e; rfl
 | x::L,i+1,e=>by
  simp only[List.set_cons_succ,map_cons]
  rw[map_set_fst L i (by simpa using e)]
theorem puti (h:Has H L) (i:Nat) (e:L[i]?=some (a,o)) (o':HO):Has (upd H a o') (L.set i (a,o')):=by
 have hi:i<L.length:=(List.getElem?_eq_some_iff.mp e).1
 refine⟨by rw[map_set_fst (o':=o') L i e]; exact h.nd,fun x hx=>?_⟩
 obtain⟨j,hj⟩:=List.getElem?_of_mem hx
 by_cases hij:j=i
 ·subst hij
  rw[List.getElem?_set_self hi] at hj
  cases hj
  exact upd_same
 ·rw[List.getElem?_set_ne (Ne.symm hij)] at hj
  have hx':x ∈ L:=mem_of_getElem? hj
  have:x.1≠a:=fun z=>by
   have e1:(L.map (·.1))[i]?=some a:=by rw[getElem?_map,e]; rfl
   have e2:(L.map (·.1))[j]?=some a:=by rw[getElem?_map,hj,<- z]; rfl
   obtain⟨l1,q1⟩:=List.getElem?_eq_some_iff.mp e1
   obtain⟨l2,q2⟩:=List.getElem?_eq_some_iff.mp e2
   exact hij ((List.getElem_inj h.nd).mp (q2.trans q1.symm))
  rw[upd_ne this]
  exact h.at_ x hx'
end Has
section
variable {X:Cx}
theorem call_isi:CallR X (.builtin "isinstance") (fun xs H Q=>∃ x T t b,xs=[x,.ty T]/\TyOf X.K H x t/\PySem.W.kitOne X.K t (.type T)=some b/\Q (.bl b) H):=by
 intro pins s σ H xs us Q I r h
 obtain⟨x,T,t,b,rfl,ty,e,q⟩:=h
 obtain⟨u1,u2,rfl,r1,r2⟩:=vals2 r
 cases (show u2=Value.type T from r2)
 exact isinst_ok I r1 ty e fun tk=>⟨.bl b,H,I.tok _,rfl,q⟩
end
end L2
namespace L2
open PySem PySem.Spec PyProof.Rows
theorem SqL.alloc {K:PySem.W.Frag}{H:Hp}{a p:Addr}{xs:List V}{o:HO} (h:SqL K H a xs) (hp:H p=none):SqL K (upd H p o) a xs :=
 Same.seq (fun b u e=>by rw[upd_ne (ne_of_none e hp)]; exact e) h
theorem cut_take (xs:List V) (n:Int) (h0:0<=n):cutV xs none (some n)=xs.take n.toNat:=by
 show((xs.drop 0).take ((if n<0 then(n+(xs.length:Int)).toNat else min n.toNat xs.length) - 0))=_
 rw[if_neg (by omega),List.drop_zero,Nat.sub_zero]
 by_cases hl:n.toNat<=xs.length
 ·rw[Nat.min_eq_left hl]
 ·rw[Nat.min_eq_right (by omega),List.take_of_length_le (Nat.le_refl _),List.take_of_length_le (by omega)]
end L2
namespace L2
open PySem PySem.Spec PyProof.Rows
theorem sizeOk {n:Nat} (h:n<=1000000):n<sizeLine:=Nat.lt_of_le_of_lt h (by decide)
end L2
namespace L2
theorem ifF {b:Bool}{A B:Prop} (e:b=false) (h:B):if b=true then A else B:=by subst e; exact iteF h
theorem ifT {b:Bool}{A B:Prop} (e:b=true) (h:A):if b=true then A else B:=by subst e; exact iteT h
theorem if2 {b:Bool}{A B:Prop} (h1:b=true->A) (h2:b=false->B):if b=true then A else B:=by
 cases b
 ·exact iteF (h2 rfl)
 ·exact iteT (h1 rfl)
theorem ifd {c:Prop} [Decidable c] {A B:Prop} (h1:c->A) (h2:¬ c->B):if decide c=true then A else B:=by
 by_cases h:c
 ·exact ifT (decide_eq_true h) (h1 h)
 ·exact ifF (decide_eq_false h) (h2 h)
theorem ifdn {c:Prop} [Decidable c] {A B:Prop} (h1:¬ c->A) (h2:c->B):if (!decide c)=true then A else B:=by
 by_cases h:c
 ·exact ifF (by simp[h]) (h2 h)
 ·exact ifT (by simp[h]) (h1 h)
end L2
set_option Elab.async false
set_option linter.all false
set_option maxRecDepth 100000
namespace L2
open PySem PySem.Spec PyProof.Rows
def clOf (cells : List (Str×Addr)) : List (Str×NameKind)->List (Str×Addr)->List (Str×Addr)
  | [], acc=>acc
  | (n, k) :: r, acc => if k == .free then clOf cells r ((n, (cells.lookup n).getD 0) :: acc) else clOf cells r acc
theorem closure_eq (scope : Scope) (env : Env) (h : ∀ y ∈ scope.names, y.2=.free->∃ c, env.cells.lookup y.1=some c) : closureFor scope env=pure (clOf env.cells scope.names []) := by
  unfold closureFor
  have all : ∀ (l : List (Str×NameKind)) (acc : List (Str×Addr)), (∀ y ∈ l, y.2=.free->∃ c, env.cells.lookup y.1=some c) ->
      (forIn l acc fun x r=>match x with
        | (name, kind) => if (kind == .free) = true then do let a <- cellOf env name; pure (ForInStep.yield ((name, a) :: r)) else pure (ForInStep.yield r)) = (pure (clOf env.cells l acc) : Sem _) := by
    intro l
    induction l with
    | nil=>intro acc _; rfl
    | cons y l ih=>
      obtain⟨n, k⟩ := y
      intro acc hl
      rw[List.forIn_cons]
      by_cases hk : (k == NameKind.free)=true
      · obtain⟨c, hc⟩ := hl (n, k) mem_cons_self (by simpa using hk)
        have e : cellOf env n=pure c := by unfold cellOf; rw[hc]
        simp only[hk, if_true, e, pure_bind, clOf, hc, Option.getD_some]
        exact ih _ fun y hy=>hl y (mem_cons_of_mem _ hy)
      · simp only[hk, if_false, pure_bind, clOf]
        exact ih _ fun y hy=>hl y (mem_cons_of_mem _ hy)
  have := all scope.names [] h
  simp only[this, pure_bind]
theorem clOf_sub {cells : List (Str×Addr)}{x : Str}{c : Addr} : ∀ (l : List (Str×NameKind)) (acc : List (Str×Addr)), (∀ y ∈ l, y.2=.free->∃ c, cells.lookup y.1=some c) ->
    (∀ y d, acc.lookup y=some d->cells.lookup y=some d)->(clOf cells l acc).lookup x=some c->cells.lookup x=some c
  | [], acc, _, ha, h=>ha x c h
  | (n, k) :: r, acc, hl, ha, h => by
    unfold clOf at h
    split at h
    · rename_i hk
      obtain⟨d, hd⟩ := hl (n, k) mem_cons_self (by simpa using hk)
      refine clOf_sub r _ (fun y hy=>hl y (mem_cons_of_mem _ hy)) (fun y e he=>?_) h
      rw[lookup_cons] at he
      split at he
      · rename_i hyn
        have : y=n := by simpa using hyn
        subst this
        cases he
        rw[hd]; rfl
      · exact ha y e he
    · exact clOf_sub r _ (fun y hy=>hl y (mem_cons_of_mem _ hy)) ha h
theorem clOf_acc {cells : List (Str×Addr)}{x : Str} : ∀ (l : List (Str×NameKind)) (acc : List (Str×Addr)), (∃ c, acc.lookup x=some c)->∃ c, (clOf cells l acc).lookup x=some c
  | [], acc, h=>h
  | (n, k) :: r, acc, h => by
    unfold clOf
    split
    · refine clOf_acc r _ ?_
      rw[lookup_cons]
      split
      · exact⟨_, rfl⟩
      · exact h
    · exact clOf_acc r _ h
theorem clOf_has {cells : List (Str×Addr)}{x : Str} : ∀ (l : List (Str×NameKind)) (acc : List (Str×Addr)), (x, NameKind.free) ∈ l->∃ c, (clOf cells l acc).lookup x=some c
  | [], _, h=>nomatch h
  | (n, k) :: r, acc, h => by
    unfold clOf
    rcases mem_cons.mp h with e | h
    · cases e
      rw[if_pos (by rfl)]
      exact clOf_acc r _ ⟨(cells.lookup x).getD 0, by rw[lookup_cons]; simp⟩
    · split
      · exact clOf_has r _ h
      · exact clOf_has r _ h
theorem relabel_cf {env : Env}{x : Str} : ∀ (l : List (Str×NameKind)), (∀ y ∈ l, y.2≠.cell) ->
    ((l.map fun(n, k)=>if (k == NameKind.free && env.scope.kind == .function && env.kindOf n == some .cell) then(n, NameKind.cell) else(n, k)).lookup x=some .cell ∨
     (l.map fun(n, k)=>if (k == NameKind.free && env.scope.kind == .function && env.kindOf n == some .cell) then(n, NameKind.cell) else(n, k)).lookup x=some .free)->(x, NameKind.free) ∈ l
  | [], _, h=>by simp at h
  | (n, k) :: r, hl, h => by
    have ih := relabel_cf (env := env) (x := x) r fun y hy=>hl y (mem_cons_of_mem _ hy)
    by_cases hc : (k == NameKind.free && env.scope.kind == .function && env.kindOf n == some .cell)=true
    · have hkf : k=.free := by
        rw[Bool.and_eq_true, Bool.and_eq_true] at hc
        simpa using hc.1.1
      subst hkf
      simp only[map_cons, hc, if_true, lookup_cons] at h
      cases hx : x == n with
      | true=>
        have : x=n := by simpa using hx
        subst this
        exact mem_cons_self
      | false=>
        simp only[hx] at h
        exact mem_cons_of_mem _ (ih h)
    · simp only[map_cons, if_neg hc, lookup_cons] at h
      cases hx : x == n with
      | true=>
        have : x=n := by simpa using hx
        subst this
        simp only[hx] at h
        rcases h with h | h
        · cases h
          exact absurd rfl (hl (x, .cell) mem_cons_self)
        · cases h
          exact mem_cons_self
      | false=>
        simp only[hx] at h
        exact mem_cons_of_mem _ (ih h)
def PTs (X:Cx) (ifs:List Expr) (t:TT):Prop :=
 ∀ (pins:List (Addr×Obj)) (s:Shared) (σ:St) (H:Hp) (Q:Bool->Hp->Prop),Inv X pins σ H s->t σ H Q ->
  wpAny (model X.prog X.w) X.A (forIn ifs true fun c r=>if r=true then do let ok <- isTrue c X.env (eval c X.env); pure (ForInStep.yield ok) else pure (ForInStep.yield r)) (TP X pins σ Q) X.xe s
def tTrue:TT:=fun _ H Q=>Q true H
theorem pts_nil {X:Cx}:PTs X [] tTrue:=fun _ _ _ H _ I h=>wpAny_tests_nil ⟨H,I,h⟩
theorem compLoop_go {prog:Program}{w:World}{A:Around}{R:Result->Shared->Prop}{s:Shared}{elt target iter:Expr}{ifs:List Expr}{scope:Scope}{pos:Pos}{it acc:Value}{env:Env} (I:Nat->Shared->Prop)
  (turn:∀ n s,I n s->wpAny (model prog w) A (pyNext it) (fun r s₁=>match r with
   | none=>R (.ok .next) s₁
   | some v=>wpAny (model prog w) A (letOwnedTupleGo target it v) (fun _ s₀=>wpAny (model prog w) A (assign target env v) (fun _ s₂=>
     wpAny (model prog w) A (forIn ifs true fun c r=>if r=true then do let ok <- isTrue c env (eval c env); pure (ForInStep.yield ok) else pure (ForInStep.yield r)) (fun ok s₃=>
      if ok=true then wpAny (model prog w) A (eval elt env) (fun x s₄=>
       wpAny (model prog w) A (call (.builtin "list.append") [acc,x]) (fun _ s₅=>∃ m,m<n/\I m s₅) (fun _ _=>False) s₄) (fun _ _=>False) s₃
      else ∃ m,m<n/\I m s₃) (fun _ _=>False) s₂) (fun _ _=>False) s₀) (fun _ _=>False) s₁) (fun _ _=>False) s)
  (n:Nat) (h:I n s) :
  codeAny (model prog w) A (.compLoop (.ListComp elt [⟨target,iter,ifs,0⟩] scope pos) 0 it acc env) R s:=by
 have no:∀ {α:Type}{t:Sem α}{Q:α->Shared->Prop}{s:Shared}{E:Value->Shared->Prop},wpAny (model prog w) A t Q (fun _ _=>False) s->wpAny (model prog w) A t Q E s:=fun h=>wpAny_mono h (fun _ _ q=>q) fun _ _ z=>False.elim z
 refine codeAny_loop rfl I (fun n s hI=>?_) n h
 show wpAny _ A ((compTurn (.ListComp elt [⟨target,iter,ifs,0⟩] scope pos) 0 it acc env).onRaise (fun x=>do noteFrame x env; theTreesLotGoes x)) _ _ s
 refine wpAny_noted ?_
 rw[compTurn_list]
 refine wpAny_bind (wpAny_standAt (wpAny_bind (wpAny_mono (no (turn n s hI)) (fun r s₁ h₁=>?_) fun _ _ h'=>h')))
 cases r with
 | none=>exact wpAny_pure h₁
 | some v=>
  refine wpAny_bind (wpAny_mono (no h₁) (fun _ s₀ h₀=>?_) fun _ _ h'=>h')
  refine wpAny_bind (wpAny_mono (no h₀) (fun _ s₂ h₂=>wpAny_bind (wpAny_mono (no h₂) (fun ok s₃ h₃=>?_) fun _ _ h'=>h')) fun _ _ h'=>h')
  cases ok with
  | false=>exact wpAny_pure ⟨rfl,h₃⟩
  | true=>
   exact wpAny_bind (wpAny_bind (wpAny_mono (no h₃) (fun x s₄ h₄=>wpAny_bind (wpAny_mono (no h₄) (fun _ s₅ h₅=>wpAny_pure (wpAny_pure ⟨rfl,h₅⟩)) fun _ _ h'=>h')) fun _ _ h'=>h'))
end L2
set_option Elab.async false
set_option linter.all false
set_option maxRecDepth 100000
namespace L2
open PySem PySem.Spec PyProof.Rows
abbrev blk (X:Cx) (scope:Scope) (N':List Str) (C:Addr) (s₀:Shared) (H₀:Hp) (fp:List Addr) (pins:List (Addr×Obj)):Cx :=
 { X with N:=N',s₀:=s₀,H₀:=H₀,env:=compEnvC scope (clOf X.env.cells scope.names []) C X.env,outer:=X.stack,stack:=X.stack,ex:=fp,fn:=fun _=>false,pn:=X.pn++pins,xe:=fun _ _=>False }
def tLC (wi:TI) (k:Nat) (g:TG) (tc:TT) (te:TE):TE:=fun σ H Q=>wi σ H fun J H1=>∀ D,H1 D=none->∃ W:Nat->Nat->List V->Hp->Prop,(∃ m,W 0 m [] (upd H1 D (.lst [])))/\∀ i m ys H,W i m ys H->H D=some (.lst ys) /\
 ((J.stop i H/\Q (.ref D) H)∨(J.go i H/\∀ x H',J.yld i H x H'->g x (List.replicate k none++σ) H' fun σ2 H2=>σ2.drop k=σ/\tc σ2 H2 fun b H3=>
  if b=true then te σ2 H3 fun y H4=>ys.length<sizeLine/\H4 D=some (.lst ys)/\∃ m',m'<m/\W (i+1) m' (ys++[y]) (upd H4 D (.lst (ys++[y]))) else ∃ m',m'<m/\W (i+1) m' ys H3))
section
variable {X:Cx}
theorem pe_lc {elt tg iter:Expr}{ifs:List Expr}{scope:Scope}{pos:Pos}{wi:TI}{k:Nat}{g:TG}{tc:TT}{te:TE} (N':List Str) (hc:X.calm=true) (hi:PI X tg iter wi)
  (hg:∀ C s₀ H₀ fp pins,PG (blk X scope N' C s₀ H₀ fp pins) tg g) (ht:∀ C s₀ H₀ fp pins,PTs (blk X scope N' C s₀ H₀ fp pins) ifs tc) (he:∀ C s₀ H₀ fp pins,PE (blk X scope N' C s₀ H₀ fp pins) elt te)
  (hk:scope.kind=.function) (hcell:∀ y ∈ scope.names,y.2≠.cell) (hnames:∀ y ∈ scope.names,y.2=.local->scope.names.lookup y.1=some .local)
  {esc:Scope} (hsc:X.env.scope=esc) (hfr':∀ y ∈ scope.names,y.2=.free->esc.names.lookup y.1=some .cell∨esc.names.lookup y.1=some .free)
  (hlen:N'.length=k+X.N.length)
  (hN:∀ (i:Nat) (x:Str),N'[i+k]?=some x->(x,NameKind.free) ∈ scope.names->X.N[i]?=some x)
  (hN2:∀ x ∈ N'.drop k,scope.names.lookup x≠some .local)
  (hs:∀ x,foldedSetIterable iter X.env x=pure x:=by intro _; rfl) :
  PE X (.ListComp elt [⟨tg,iter,ifs,0⟩] scope pos) (tLC wi k g tc te):=by
 intro pins s σ H Q I h
 have hfr:∀ y ∈ scope.names,y.2=.free->X.env.kindOf y.1=some .cell∨X.env.kindOf y.1=some .free:=fun y hy hf=>by
  show X.env.scope.names.lookup y.1=_∨X.env.scope.names.lookup y.1=_
  rw[hsc]; exact hfr' y hy hf
 have hcells:∀ y ∈ scope.names,y.2=.free->∃ c,X.env.cells.lookup y.1=some c:=fun y hy hf=>I.ok.has y.1 (hfr y hy hf)
 have hclos:=closure_eq scope X.env hcells
 rw[eval_ListComp]
 refine wpAny_comprehension_free (use:=none) rfl hs hclos hk hnames (thn (hi pins s σ H _ I h) fun v s1 h1=>thn h1 fun itv s2 h2=>?_)
 obtain⟨it,fp,tn,J,H2,e,I2,T,st2,f2,R⟩:=h2
 subst e
 refine wpAny_newObj_type ?_
 have hD:H2 s2.heap.objs.size=none:=I2.hok.fresh (Nat.le_refl _)
 obtain⟨W,⟨m0,w0⟩,turn⟩:=R _ hD
 generalize eD:s2.heap.objs.size=D at *
 have I3:Inv X pins σ (upd H2 D (.lst [])) { s2 with heap:=s2.heap.push { cls:=.type "list",dict:=none,data:=.seq ([]:List Value).toArray } } :=
  I2.laid (a:=D) (o:=.lst []) (t':=s2.toks) (fun b u e=>Heap.get?_push_of_some _ e) (Nat.le_of_eq eD) ⟨Nat.zero_le _,[],0,.nil,by rw[<- eD]; exact Heap.get?_push_size _ rfl⟩
 generalize e3:({ s2 with heap:=s2.heap.push { cls:=.type "list",dict:=none,data:=.seq ([]:List Value).toArray } }:Shared)=s3 at *
 have st3:tn 0 s3.heap:=T.keep _ _ _ st2 fun b _ o e=>by rw[<- e3]; exact Heap.get?_push_of_some _ e
 have lt2:∀ b ∈ fp,b<s2.heap.objs.size:=fun b hb=>by
  obtain⟨o,e,_⟩:=T.obj _ _ st2 b hb
  exact Heap.lt_size e
 have neD:∀ b ∈ fp,b≠D:=fun b hb=>by
  have:=lt2 b hb
  rw[eD] at this
  exact Nat.ne_of_lt this
 have f3:∀ b ∈ fp,FpOk X pins (upd H2 D (.lst [])) b:=fun b hb=>⟨by rw[upd_ne (neD b hb)]; exact(f2 b hb).1,(f2 b hb).2⟩
 generalize upd H2 D (.lst [])=H3 at *
 refine wpAny_newFunctionEnv hcell (by intro y hy; simp at hy) (fun h₁ hns₁ hsb₁=>?_) hk
 try dsimp only at hns₁ hsb₁ ⊢
 have lt3:∀ b ∈ fp,b<s3.heap.objs.size:=fun b hb=>by
  obtain⟨o,e,_⟩:=T.obj _ _ st3 b hb
  exact Heap.lt_size e
 generalize eC:s3.heap.objs.size=C at *
 have kp:∀ b o,s3.heap.get? b=some o->h₁.get? b=some o:=fun b o e=>(hsb₁.2 b (by rw[<- eC]; exact Nat.ne_of_lt (Heap.lt_size e))).trans (Heap.get?_push_of_some _ e)
 have subC:∀ x c,(clOf X.env.cells scope.names []).lookup x=some c->X.env.cells.lookup x=some c:=fun x c e=>clOf_sub scope.names [] hcells (fun y d z=>by simp at z) e
 have hCnone:H3 C=none:=I3.hok.fresh (Nat.le_of_eq eC)
 have ok':(blk X scope N' C s3 H3 fp pins).Ok:={
  mod:=I3.ok.mod
  kind:=hk
  glob:=I3.ok.glob
  blt:=I3.ok.blt
  above:=Nat.le_of_eq eC
  inj:=fun x y c a b=>I3.ok.inj x y c (subC x c a) (subC y c b)
  has:=fun x hx=>clOf_has scope.names [] (relabel_cf scope.names hcell hx)
  cab:=fun x c a _=>absurd a Bool.false_ne_true
  hd:=I3.ok.hd
  frames:=I3.ok.frames
  stk:=.inl rfl
  exf:=fun b hb=>⟨by have:=lt3 b hb; exact Nat.ne_of_lt this,fun x c e=>(f3 b hb).2.2.2.2.1 x c (subC x c e)⟩
  bs:=I3.bs
  bsz:=Nat.le_trans I3.ok.bsz I3.sz
  noex:=fun b o e hb=>by
   rcases (f3 b hb).2.2.2.1 with z | z
   ·exact I3.ok.noex b o e z
   ·exact absurd (Nat.lt_of_lt_of_le (Heap.lt_size e) (Nat.le_trans I3.ok.bsz z)) (Nat.lt_irrefl _)
  exfs:=fun b hb z=>by
   rcases mem_cons.mp (I3.stkSub b z) with e | e
   ·exact(f3 b hb).2.1 e
   ·exact(f3 b hb).2.2.1 e
  funs:=I3.stack
  frf:=I3.stkFree }
 have s4os:({ s3 with heap:=h₁,toks:=s3.toks+([]:List (Str×Value)).length }:Shared).os=s3.os:=rfl
 generalize e4:({ s3 with heap:=h₁,toks:=s3.toks+([]:List (Str×Value)).length }:Shared)=s4 at *
 have h4:s4.heap=h₁:=by rw[<- e4]
 have J4:Inv (blk X scope N' C s3 H3 fp pins) [] (List.replicate k none++σ) H3 s4:=by
  refine⟨ok',s4os,by rw[<- e4]; exact I3.bare,?_,⟨_,by rw[h4]; exact hns₁,fun i x v e1 e2 e5=>?_⟩,fun x c e=>?_,hCnone,fun x c e=>I3.freeC x c (subC x c e),fun p hp=>?_,?_,?_⟩
  ·rw[h4]; exact Un.kept kp
  ·have hik:¬ i<k:=fun hlt=>by
    rw[getElem?_append_left (by rw[length_replicate]; exact hlt),List.getElem?_replicate] at e2
    split at e2 <;> cases e2
   obtain⟨j,rfl⟩:∃ j,i=j+k:=⟨i - k,by omega⟩
   have e2':σ[j]?=some (some v):=by
    rw[getElem?_append_right (by rw[length_replicate]; omega),length_replicate] at e2
    have:j+k - k=j:=by omega
    rw[this] at e2; exact e2
   have nl:(relabel scope X.env).names.lookup x≠some .local:=fun z=>by
    have q:∀ (l:List (Str×NameKind)),(l.map fun(n,k)=>if (k == NameKind.free && X.env.scope.kind == .function && X.env.kindOf n == some .cell) then(n,NameKind.cell) else(n,k)).lookup x=some .local->l.lookup x=some .local:=by
     intro l
     induction l with
     | nil=>intro z; simp at z
     | cons y l ih=>
      obtain⟨n,kk⟩:=y
      intro z
      by_cases hcc:(kk == NameKind.free && X.env.scope.kind == .function && X.env.kindOf n == some .cell)=true
      ·simp only[map_cons,if_pos hcc,lookup_cons] at z ⊢
       cases hx:x == n with
       | true=>simp only[hx] at z; cases z
       | false=>simp only[hx] at z ⊢; exact ih z
      ·simp only[map_cons,if_neg hcc,lookup_cons] at z ⊢
       cases hx:x == n with
       | true=>simp only[hx] at z ⊢; exact z
       | false=>simp only[hx] at z ⊢; exact ih z
    exact hN2 x (mem_of_getElem? (i:=j) (by rw[List.getElem?_drop,Nat.add_comm]; exact e1)) (q _ z)
   have hcf:(relabel scope X.env).names.lookup x=some .cell∨(relabel scope X.env).names.lookup x=some .free:=by
    rcases e5 with z | z | z
    ·exact absurd z nl
    ·exact .inl z
    ·exact .inr z
   have hmem:(x,NameKind.free) ∈ scope.names:=relabel_cf scope.names hcell hcf
   have hx:=hN j x e1 hmem
   obtain⟨mo,_,hl⟩:=I3.loc
   have hkx:=hfr (x,.free) hmem rfl
   obtain⟨u,ru,lk⟩:=hl j x v hx e2' (by
    rcases hkx with z | z
    ·exact .inr (.inl z)
    ·exact .inr (.inr z))
   refine⟨u,ru,.inr ⟨hcf,?_⟩⟩
   rcases lk with ⟨z,_⟩ | ⟨_,c,hc1,hc2⟩
   ·rcases hkx with q | q
    ·rw[q] at z; cases z
    ·rw[q] at z; cases z
   ·obtain⟨c',hc'⟩:=clOf_has (cells:=X.env.cells) scope.names [] hmem
    have:=subC x c' hc'
    rw[hc1] at this; cases this
    obtain⟨oc,h5,h6⟩:=hc2
    exact⟨c,hc',oc,by rw[h4]; exact kp _ _ h5,h6⟩
  ·obtain⟨v,oc,h5,h6⟩:=I3.cell x c (subC x c e)
   exact⟨v,oc,by rw[h4]; exact kp _ _ h5,h6⟩
  ·have hp':p ∈ X.pn++pins:=by simpa using hp
   obtain⟨a1,a2,a3,a4,a5⟩:=I3.pin p hp'
   refine⟨by rw[h4]; exact kp _ _ a1,a2,?_,fun z=>?_,a5⟩
   ·have:=Heap.lt_size a1
    rw[eC] at this
    exact Nat.ne_of_lt this
   ·rcases mem_cons.mp (I3.stkSub p.1 z) with q | q
    ·exact a3 q
    ·exact a4 q
  ·rw[h4]; exact I3.hok.kept kp
  ·rw[length_append,length_replicate,I3.len]; exact hlen.symm
 have stat:∀ {H':Hp},(∀ b ∈ fp,H' b=none)->∀ b ∈ fp,FpOk (blk X scope N' C s3 H3 fp pins) [] H' b:=fun hn b hb=>
  ⟨hn b hb,(ok'.exf b hb).1,ok'.exfs b hb,.inl hb,fun x c e=>(ok'.exf b hb).2 x c e,fun p hp=>(f3 b hb).2.2.2.2.2 p (by simpa using hp)⟩
 have fr4:∀ b ∈ fp,H3 b=none:=fun b hb=>(f3 b hb).1
 have st4:tn 0 s4.heap:=T.keep _ _ _ st3 fun b _ o e=>by rw[h4]; exact kp _ _ e
 have loop:codeAny (model X.prog X.w) X.A (.compLoop (.ListComp elt [⟨tg,iter,ifs,0⟩] scope pos) 0 (.ref it) (.ref D) (compEnvC scope (clOf X.env.cells scope.names []) C X.env))
   (compPost (model X.prog X.w) X.A X.xe none (EP X pins σ Q) (.ref D) C) s4:=by
  refine compLoop_go (fun n s'=>∃ i ys H',Inv (blk X scope N' C s3 H3 fp pins) [] (List.replicate k none++σ) H' s'/\tn i s'.heap/\(∀ b ∈ fp,H' b=none)/\W i n ys H') ?_ m0 ⟨0,[],H3,J4,st4,fr4,w0⟩
  rintro n s5 ⟨i,ys,H5,I5,st5,fr5,w5⟩
  obtain⟨hDl,stp⟩:=turn i n ys H5 w5
  rcases stp with ⟨stop,qn⟩ | ⟨go,step⟩
  ·refine thn (T.done (blk X scope N' C s3 H3 fp pins) rfl rfl rfl hc i [] s5 _ H5 (fun _ _=>False) I5 (stat fr5) st5 stop) fun r s6 ⟨hr,I6⟩=>?_
   subst hr
   obtain⟨m6,ns6,_⟩:=id I6.loc
   refine⟨m6,ns6,fun h' hsb=>⟨.ref D,H5,?_,rfl,qn⟩⟩
   have hC5:H5 C=none:=I6.free
   have un6:Un (frs X.stack) fp H3 H5 s3.heap s6.heap:=I6.base
   have neC:∀ b o,s3.heap.get? b=some o->b≠C:=fun b o e=>by
    have:=Heap.lt_size e
    rw[eC] at this
    exact Nat.ne_of_lt this
   refine I3.call' (s':={ s6 with heap:=h' }) (ch:=fp) I6.os ⟨fun b o e a1 a2 a3=>?_,fun b o e a1 a2 a3=>?_,un6.free,fun b o e a3=>?_,un6.tups,un6.frzs,un6.tbls⟩ ?_ I6.bare (fun b hb=>?_)
   ·exact(hsb.2 b (neC b o e)).trans (un6.keep b o e a1 a2 a3)
   ·obtain⟨sl,z⟩:=un6.slot b o e a1 a2 a3
    exact⟨sl,(hsb.2 b (neC b o e)).trans z⟩
   ·obtain⟨o',z⟩:=un6.there b o e a3
    exact⟨o',(hsb.2 b (neC b o e)).trans z⟩
   ·intro b u e
    refine(I6.hok b u e).stay (fun c w' hcc q=>(hsb.2 c ?_).trans q) (fun _ q=>q) fun _ _ q=>q
    rintro rfl
    rcases hcc with z | z
    ·rw[z,e] at hC5; cases hC5
    ·rw[z] at hC5; cases hC5
   ·exact⟨(f3 b hb).2.2.2.1,(f3 b hb).2.1,(f3 b hb).2.2.2.2.1,(f3 b hb).2.2.2.2.2⟩
  ·refine thn (T.item (blk X scope N' C s3 H3 fp pins) rfl rfl rfl hc i [] s5 _ H5 (fun _ _=>False) I5 (stat fr5) st5 go) fun r s6 ⟨u,hr,h6⟩=>?_
   subst hr
   refine thn h6 fun _ s7 ⟨x,H7,I7,r7,y7,st7,fr7⟩=>?_
   have I7':=I7.pinned (stat fr7) (T.obj _ _ st7)
   refine thn (hg C s3 H3 fp pins _ s7 _ H7 x u _ I7' r7 (step x H7 y7)) fun _ s8 ⟨σ8,H8,I8,d8,q8⟩=>?_
   refine thn (ht C s3 H3 fp pins _ s8 σ8 H8 _ I8 q8) fun b s9 ⟨H9,I9,q9⟩=>?_
   have kz:∀ (j:Nat) v,(List.replicate k none++σ)[j]?=some (some v)->σ8[j]?=some (some v):=fun j v e=>by
    have hik:¬ j<k:=fun hlt=>by
     rw[getElem?_append_left (by rw[length_replicate]; exact hlt),List.getElem?_replicate] at e
     split at e <;> cases e
    rw[getElem?_append_right (by rw[length_replicate]; omega),length_replicate,<- d8,List.getElem?_drop] at e
    have:k+(j - k)=j:=by omega
    rw[this] at e; exact e
   have again:∀ {Hz:Hp}{sz:Shared}{zs:List V}{m':Nat},Inv (blk X scope N' C s3 H3 fp pins) ([]++pinsAt fp s7.heap) σ8 Hz sz->m'<n->W (i+1) m' zs Hz ->
     ∃ m,m<n/\∃ i ys H',Inv (blk X scope N' C s3 H3 fp pins) [] (List.replicate k none++σ) H' sz/\tn i sz.heap/\(∀ b ∈ fp,H' b=none)/\W i m ys H':=fun {Hz sz zs m'} Iz hm wz=>by
    refine⟨m',hm,i+1,zs,Hz,(Iz.unpinned).weak ?_ kz,T.keep _ _ _ st7 fun b hb o e=>(Iz.pin (b,o) (mem_append_right _ (mem_append_right _ (mem_pinsAt hb e)))).1,fun b hb=>?_,wz⟩
    ·rw[Iz.len]; exact I5.len
    ·obtain⟨o,e,d⟩:=T.obj _ _ st7 b hb
     exact(Iz.pin (b,o) (mem_append_right _ (mem_append_right _ (mem_pinsAt hb e)))).2.1
   cases b with
   | false=>
    obtain⟨m',hm,w9⟩:=(show ∃ m',m'<n/\W (i+1) m' ys H9 by simpa using q9)
    rw[if_neg Bool.false_ne_true]
    exact again I9 hm w9
   | true=>
    rw[if_pos rfl] at q9 ⊢
    refine thn (he C s3 H3 fp pins _ s9 σ8 H9 _ I9 q9) fun u9 s10 ⟨y,H10,I10,r10,hz,hD10,m',hm,w10⟩=>?_
    refine thn (mt_append (X:=blk X scope N' C s3 H3 fp pins) _ s10 σ8 H10 (.ref D) [y] (.ref D) [u9] (fun _ H'=>H'=upd H10 D (.lst (ys++[y]))) I10 rfl (.cons r10 .nil) ⟨D,ys,y,rfl,rfl,hD10,hz,rfl⟩) fun _ s11 ⟨_,H11,I11,_,e11⟩=>?_
    subst e11
    exact again I11 hm w10
 exact codeAny_compStart_list loop (T.self _ 0 _ _ _ st4 loop)
end
end L2
set_option Elab.async false
set_option linter.all false
set_option maxRecDepth 100000
namespace L2
open PySem PySem.Spec PyProof.Rows
section
variable {X:Cx}{pins:List (Addr×Obj)}{σ:St}{H:Hp}{s:Shared}{h':Heap}
theorem Inv.turnedL {t':Nat}{fp:List Addr} (I:Inv X pins σ H s) (k:∀ b o,b ∉ fp->s.heap.get? b=some o->h'.get? b=some o) (hf:∀ b ∈ fp,FpOk X pins H b):Inv X pins σ H { s with heap:=h',toks:=t' }:=by
 have nit:∀ b u,H b=some u->b ∉ fp:=fun b u e z=>by rw[(hf b z).1] at e; cases e
 refine I.step (g':=s.gens) (d':=s.drawn) (ch:=fp) (fun b hb=>⟨(hf b hb).2.2.2.1,(hf b hb).2.1,(hf b hb).2.2.2.2.1,(hf b hb).2.2.2.2.2⟩) (fun b o _ _ hc e _=>k b o hc e) (fun b o _ _ hc e _=>⟨o.slots,k b o hc e⟩) (fun _ _ _ _ n=>n)
  (fun b o hc e=>⟨o,k b o hc e⟩) (fun _ _ e=>e) (fun _ _ _ e=>e) (fun b ps e=>⟨#[],by rw[e]; simp⟩) (fun m hm=>?_) (fun b u e=>?_) I.bare
 ·obtain⟨o,es,ep,ho,r⟩:=hm
  exact⟨o,es,ep,k _ o (fun z=>(hf _ z).2.1 rfl) ho,r⟩
 ·refine(I.hok b u e).stay (fun c v hc q=>k c v ?_ q) (fun _ q=>q) fun _ _ q=>q
  rcases hc with z | z
  ·rw[z]; exact nit b u e
  ·exact nit c _ z
theorem Inv.track {p:Addr}{o:HO} (I:Inv X pins σ H s) (hp:X.s₀.heap.objs.size<=p) (hL:p≠X.env.locals) (hc:∀ x c,X.env.cells.lookup x=some c->c≠p) (hpin:∀ q ∈ X.pn++pins,q.1≠p) (hn:H p=none)
  (new:ObjOk X.prog X.w (upd H p o) s.heap p o):Inv X pins σ (upd H p o) s:=by
 refine⟨I.ok,I.os,I.bare,⟨I.base.keep,I.base.slot,fun b ob e n hx=>?_,I.base.there,fun b xs e=>?_,fun b ob u e=>?_,fun b ps e=>?_⟩,I.loc,I.cell,by rw[upd_ne (Ne.symm hL)]; exact I.free,fun x c e=>by rw[upd_ne (hc x c e)]; exact I.freeC x c e,fun q hq=>?_,fun b u e=>?_,I.len⟩
 ·rw[upd_ne (Nat.ne_of_lt (Nat.lt_of_lt_of_le (Heap.lt_size e) hp))]; exact I.base.free b ob e n hx
 ·have:=I.base.tups b xs e
  rw[upd_ne (ne_of_none this hn)]; exact this
 ·have:=I.base.frzs b ob u e
  rw[upd_ne (ne_of_none this hn)]; exact this
 ·obtain⟨more,e2⟩:=I.base.tbls b ps e
  exact⟨more,by rw[upd_ne (ne_of_none e2 hn)]; exact e2⟩
 ·obtain⟨a1,a2,a3,a4,a5⟩:=I.pin q hq
  exact⟨a1,by rw[upd_ne (hpin q hq)]; exact a2,a3,a4,a5⟩
 ·by_cases hb:b=p
  ·subst hb; rw[upd_same] at e; cases e; exact new
  ·rw[upd_ne hb] at e
   exact(I.hok b u e).stay (fun _ _ _ q=>q) (fun c q=>by rw[upd_ne (ne_of_none q hn)]; exact q) fun c xs q=>by rw[upd_ne (ne_of_none q hn)]; exact q
end
def Itz (K:PySem.W.Frag) (a b:Addr):It :=
 ⟨fun i H=>∃ xs x ys y,SqL K H a xs/\xs[i]?=some x/\SqL K H b ys/\ys[i]?=some y,
  fun i H v H'=>∃ p x y,v=.ref p/\H p=none/\H'=upd H p (.tup [x,y])/\(∀ xs,SqL K H a xs->xs[i]?=some x)/\∀ ys,SqL K H b ys->ys[i]?=some y,
  fun i H=>∃ xs ys,SqL K H a xs/\SqL K H b ys/\(xs.length<=i∨ys.length<=i)⟩
theorem turn_zip {P:Program}{w:World}{K:PySem.W.Frag}{es:List Expr}{x1}{pos:Pos} (a b z TI TO i1 i2:Addr):Turn P w K (.Tuple es x1 pos) (Itz K a b) [z,TI,TO,i1,i2] z
  (fun i h=>IsZip h z TI TO .none/\IsPair h TI (.ref i1) (.ref i2)/\(∃ u v,IsPair h TO u v)/\h.IsListIter i1 a i/\h.IsListIter i2 b i/\TI≠TO/\i1≠i2) where
 mem:=by simp
 obj:=fun i h ⟨hz,hTI,⟨u,v,hTO⟩,h1,h2,_⟩ c hc=>by
  simp only[mem_cons,not_mem_nil,or_false] at hc
  rcases hc with rfl | rfl | rfl | rfl | rfl
  ·exact⟨_,hz,fun v q=>by cases (show Data.fields _=Data.cell v from q)⟩
  ·exact⟨_,hTI,fun v q=>by cases (show Data.seq _ _=Data.cell v from q)⟩
  ·exact⟨_,hTO,fun v q=>by cases (show Data.seq _ _=Data.cell v from q)⟩
  ·obtain⟨o,e,_,d⟩:=h1
   exact⟨o,e,fun v q=>by rw[d] at q; cases q⟩
  ·obtain⟨o,e,_,d⟩:=h2
   exact⟨o,e,fun v q=>by rw[d] at q; cases q⟩
 keep:=fun i h h' ⟨hz,hTI,⟨u,v,hTO⟩,h1,h2,n1,n2⟩ k=>⟨k z (by simp) _ hz,k TI (by simp) _ hTI,⟨u,v,k TO (by simp) _ hTO⟩,h1.at fun o e=>k i1 (by simp) o e,h2.at fun o e=>k i2 (by simp) o e,n1,n2⟩
 item:=by
  intro X hP hw hK hc i pins s σ H E I hf ⟨hz,hTI,⟨u,v,hTO⟩,h1,h2,n1,n2⟩ hg
  subst hP hw hK
  obtain⟨xs,x,ys,y,hqa,hx,hqb,hy⟩:=hg
  obtain⟨its,rv,p,hsz⟩:=I.list hqa
  obtain⟨jts,rw',p',hsz'⟩:=I.list hqb
  obtain⟨ux,hux,rux⟩:=rv.get hx
  obtain⟨uy,huy,ruy⟩:=rw'.get hy
  have D:ZipApart z TI TO i1 i2 a b:=by
   obtain⟨oa,ea,ca,_,_⟩:=p.isList
   obtain⟨ob,eb,cb,_,_⟩:=p'.isList
   obtain⟨o1,e1,c1,_⟩:=h1
   obtain⟨o2,e2,c2,_⟩:=h2
   have dz:∀ {c:Addr}{o:Obj}{T:String},s.heap.get? c=some o->o.cls=.type T->T ≠ "zip" -> c≠z:=fun e q n r=>by
    rw[r,hz] at e; cases e; cases q; exact n rfl
   have dT:∀ {c d:Addr}{o q:Obj}{T U:String},s.heap.get? c=some o->o.cls=.type T->s.heap.get? d=some q->q.cls=.type U->T≠U->c≠d:=fun e1 c1 e2 c2 n r=>by
    subst r; rw[e1] at e2; cases e2; rw[c1] at c2; cases c2; exact n rfl
   exact⟨dz hTI rfl (by decide),dz hTO rfl (by decide),dz e1 c1 (by decide),dz e2 c2 (by decide),n1,dT hTI rfl e1 c1 (by decide),dT hTI rfl e2 c2 (by decide),dT hTO rfl e1 c1 (by decide),dT hTO rfl e2 c2 (by decide),n2,
    dz ea ca (by decide),dT ea ca hTO rfl (by decide),dT ea ca e1 c1 (by decide),dT ea ca e2 c2 (by decide),dz eb cb (by decide),dT eb cb hTO rfl (by decide),dT eb cb e1 c1 (by decide),dT eb cb e2 c2 (by decide)⟩
  refine wpAny_pyNext_zip_item D hz hTI hTO h1 h2 p.isList p'.isList (x:=ux) (y:=uy) (by simpa using hux) (by simpa using huy) fun h' a1 a2 a3 a4 a5 a6 hk=>?_
  refine⟨_,rfl,?_⟩
  refine wpAny_letOwnedTupleGo_zip (s:={ s with heap:=h' }) a1 fun h2' hz' hs'=>?_
  have lt:∀ b ∈ [z,TI,TO,i1,i2],b<s.heap.objs.size:=fun c hcm=>by
   simp only[mem_cons,not_mem_nil,or_false] at hcm
   rcases hcm with rfl | rfl | rfl | rfl | rfl
   ·exact Heap.lt_size hz
   ·exact Heap.lt_size hTI
   ·exact Heap.lt_size hTO
   ·obtain⟨o,e,_⟩:=h1; exact Heap.lt_size e
   ·obtain⟨o,e,_⟩:=h2; exact Heap.lt_size e
  have hTI2:IsPair h2' TI (.ref i1) (.ref i2):=hs'.extBut _ _ D.TIz (hk _ _ D.TIz D.TITO D.TIi1 D.TIi2 hTI)
  have hTO2:IsPair h2' TO ux uy:=hs'.extBut _ _ D.TOz a2
  have h12:h2'.IsListIter i1 a (i+1):=a3.extBut hs'.extBut D.i1z
  have h22:h2'.IsListIter i2 b (i+1):=a4.extBut hs'.extBut D.i2z
  have pz:s.heap.objs.size≠z:=Nat.ne_of_gt (Heap.lt_size hz)
  have hp2:IsPair h2' s.heap.objs.size ux uy:=hs'.extBut _ _ pz a5
  have kk:∀ c o,c ∉ [z,TI,TO,i1,i2]->s.heap.get? c=some o->h2'.get? c=some o:=fun c o hcm e=>by
   simp only[mem_cons,not_mem_nil,or_false,not_or] at hcm
   exact hs'.extBut _ _ hcm.1 (hk c o hcm.1 hcm.2.2.1 hcm.2.2.2.1 hcm.2.2.2.2 e)
  have I1:Inv X pins σ H { s with heap:=h2',toks:=s.toks }:=I.turnedL kk hf
  have fP:FpOk X pins H s.heap.objs.size:=I.fpOk (Nat.le_refl _) (I.hok.fresh (Nat.le_refl _))
  have I2:Inv X pins σ (upd H s.heap.objs.size (.tup [x,y])) { s with heap:=h2',toks:=s.toks }:=by
   refine I1.track I.sz (fP.2.1) fP.2.2.2.2.1 fP.2.2.2.2.2 fP.1 ?_
   exact⟨(show 2<=sizeLine by decide),[ux,uy],.cons rux (.cons ruy .nil),⟨_,hp2,rfl,_,rfl⟩⟩
  refine⟨.ref s.heap.objs.size,_,I2,rfl,⟨_,x,y,rfl,fP.1,rfl,fun zs hzs=>by rw[I.list_inj hzs hqa]; exact hx,fun zs hzs=>by rw[I.list_inj hzs hqb]; exact hy⟩,⟨hz',hTI2,⟨_,_,hTO2⟩,h12,h22,n1,n2⟩,fun c hcm=>?_⟩
  rw[upd_ne (Nat.ne_of_lt (lt c hcm))]
  exact(hf c hcm).1
 done:=by
  intro X hP hw hK hc i pins s σ H E I hf ⟨hz,hTI,⟨u,v,hTO⟩,h1,h2,n1,n2⟩ hg
  subst hP hw hK
  obtain⟨xs,ys,hqa,hqb,hend⟩:=hg
  obtain⟨its,rv,p,hsz⟩:=I.list hqa
  obtain⟨jts,rw',p',hsz'⟩:=I.list hqb
  have D:ZipApart z TI TO i1 i2 a b:=by
   obtain⟨oa,ea,ca,_,_⟩:=p.isList
   obtain⟨ob,eb,cb,_,_⟩:=p'.isList
   obtain⟨o1,e1,c1,_⟩:=h1
   obtain⟨o2,e2,c2,_⟩:=h2
   have dz:∀ {c:Addr}{o:Obj}{T:String},s.heap.get? c=some o->o.cls=.type T->T ≠ "zip" -> c≠z:=fun e q n r=>by
    rw[r,hz] at e; cases e; cases q; exact n rfl
   have dT:∀ {c d:Addr}{o q:Obj}{T U:String},s.heap.get? c=some o->o.cls=.type T->s.heap.get? d=some q->q.cls=.type U->T≠U->c≠d:=fun e1 c1 e2 c2 n r=>by
    subst r; rw[e1] at e2; cases e2; rw[c1] at c2; cases c2; exact n rfl
   exact⟨dz hTI rfl (by decide),dz hTO rfl (by decide),dz e1 c1 (by decide),dz e2 c2 (by decide),n1,dT hTI rfl e1 c1 (by decide),dT hTI rfl e2 c2 (by decide),dT hTO rfl e1 c1 (by decide),dT hTO rfl e2 c2 (by decide),n2,
    dz ea ca (by decide),dT ea ca hTO rfl (by decide),dT ea ca e1 c1 (by decide),dT ea ca e2 c2 (by decide),dz eb cb (by decide),dT eb cb hTO rfl (by decide),dT eb cb e1 c1 (by decide),dT eb cb e2 c2 (by decide)⟩
  have e1:=rv.length
  have e2:=rw'.length
  refine wpAny_pyNext_zip_end (I.ok.hd hc) D hz hTI hTO h1 h2 p.isList p'.isList (k1:=i) (k2:=i) (by
   rcases hend with h | h
   ·left; simp; omega
   ·right; simp; omega) fun h' hk=>⟨rfl,?_⟩
  exact I.turnedL (t':=s.toks) (fun c o hcm e=>by
   simp only[mem_cons,not_mem_nil,or_false,not_or] at hcm
   exact hk c o hcm.1 hcm.2.2.1 hcm.2.2.2.1 hcm.2.2.2.2 e) hf
 self:=fun _ _ _ _ _ st h=>wpAny_pyIter_zip st.1 h
section
variable {X:Cx}
def iZip (K:PySem.W.Frag) (ta:TA):TI:=fun σ H R=>ta σ H fun vs H1=>∃ a b,vs=[.ref a,.ref b]/\(∃ xs,SqL K H1 a xs)/\(∃ ys,SqL K H1 b ys)/\R (Itz K a b) H1
theorem pi_zip {es:List Expr}{x1}{tpos:Pos}{e1 e2:Expr}{ta:TA}{p pos:Pos} (hg:Gl X "zip") (hm:X.mg "zip" = none) (ha:PA X [e1,e2] ta) (hs:starEach [e1,e2] X.env=[(false,eval e1 X.env),(false,eval e2 X.env)]:=by rfl) (hs2:starEach [e2] X.env=[(false,eval e2 X.env)]:=by rfl) :
  PI X (.Tuple es x1 tpos) (.Call (.Name "zip" p) [e1,e2] [] pos) (iZip X.K ta):=by
 intro pins s σ H R I h
 refine Call_ (ld_blt I hg hm (by rfl) (PyProof.Rows.callWith_type1 (thn (ha pos pins s σ H _ I h) fun us s1 ⟨vs,H1,I1,r1,q1⟩=>?_) (by rw[hs,hs2]) (by rw[hs2]; rfl)))
 obtain⟨a,b,rfl,⟨xs,hqa⟩,⟨ys,hqb⟩,q⟩:=q1
 obtain⟨u1,u2,rfl,ru1,ru2⟩:=vals2 r1
 cases (show u1=Value.ref a from ru1)
 cases (show u2=Value.ref b from ru2)
 obtain⟨its,rv,pa,hsz⟩:=I1.list hqa
 obtain⟨jts,rw',pb,hsz'⟩:=I1.list hqb
 refine call_zip_2 pa.isList pb.isList fun h' hz hTI hTO h1 h2 hsize hk=>?_
 refine wpAny_pyIter_zip (s:={ s1 with heap:=h' }) hz ?_
 refine⟨_,_,_,_,H1,rfl,I1.kept (t':=s1.toks) hk,turn_zip a b (s1.heap.objs.size+4) (s1.heap.objs.size+2) (s1.heap.objs.size+3) s1.heap.objs.size (s1.heap.objs.size+1),⟨hz,hTI,⟨_,_,hTO⟩,h1,h2,(fun z=>by have:s1.heap.objs.size+2=s1.heap.objs.size+3:=z; omega),(fun z=>by have:s1.heap.objs.size=s1.heap.objs.size+1:=z; omega)⟩,fun c hc=>?_,q⟩
 have hge:s1.heap.objs.size<=c:=by
  simp only[mem_cons,not_mem_nil,or_false] at hc
  rcases hc with h | h | h | h | h <;> (rw[h]; omega)
 exact I1.fpOk hge (I1.hok.fresh hge)
end
def Ite (K:PySem.W.Frag) (a:Addr):It :=
 ⟨fun i H=>∃ xs x,SqL K H a xs/\xs[i]?=some x,
  fun i H v H'=>∃ p x,v=.ref p/\H p=none/\H'=upd H p (.tup [.int i,x])/\∀ xs,SqL K H a xs->xs[i]?=some x,
  fun i H=>∃ xs,SqL K H a xs/\xs.length<=i⟩
theorem turn_enum {P:Program}{w:World}{K:PySem.W.Frag}{es:List Expr}{x1}{pos:Pos} (a e it:Addr):Turn P w K (.Tuple es x1 pos) (Ite K a) [e,it] e
  (fun i h=>(∃ old,IsEnum h e it i old)/\h.IsListIter it a i) where
 mem:=by simp
 obj:=fun i h ⟨⟨old,he⟩,h1⟩ c hc=>by
  simp only[mem_cons,not_mem_nil,or_false] at hc
  rcases hc with rfl | rfl
  ·exact⟨_,he,fun v q=>by cases (show Data.fields _=Data.cell v from q)⟩
  ·obtain⟨o,e,_,d⟩:=h1
   exact⟨o,e,fun v q=>by rw[d] at q; cases q⟩
 keep:=fun i h h' ⟨⟨old,he⟩,h1⟩ k=>⟨⟨old,k e (by simp) _ he⟩,h1.at fun o q=>k it (by simp) o q⟩
 item:=by
  intro X hP hw hK hc i pins s σ H E I hf ⟨⟨old,he⟩,h1⟩ hg
  subst hP hw hK
  obtain⟨xs,x,hqa,hx⟩:=hg
  obtain⟨its,rv,p,hsz⟩:=I.list hqa
  obtain⟨ux,hux,rux⟩:=rv.get hx
  have hne:e≠it:=fun z=>by
   obtain⟨o1,e1,c1,_⟩:=h1
   rw[<- z,he] at e1; cases e1
   exact absurd (show Value.type "enumerate" = Value.type "list_iterator" from c1) (by decide)
  refine wpAny_pyNext_enum_item he h1 p.isList (x:=ux) (by simpa using hux) hne fun h' a1 a3 a5 a6 hk=>?_
  refine⟨_,rfl,?_⟩
  refine wpAny_letOwnedTupleGo_enum (s:={ s with heap:=h',toks:=s.toks+1 }) a1 fun h2' hz' hs'=>?_
  have lt:∀ b ∈ [e,it],b<s.heap.objs.size:=fun c hcm=>by
   simp only[mem_cons,not_mem_nil,or_false] at hcm
   rcases hcm with rfl | rfl
   ·exact Heap.lt_size he
   ·obtain⟨o,q,_⟩:=h1; exact Heap.lt_size q
  have h12:h2'.IsListIter it a (i+1):=a3.extBut hs'.extBut (Ne.symm hne)
  have pz:s.heap.objs.size≠e:=Nat.ne_of_gt (Heap.lt_size he)
  have hp2:h2'.get? s.heap.objs.size=some { cls:=.type "tuple",data:=.seq #[.int i s.toks,ux] }:=hs'.extBut _ _ pz a5
  have kk:∀ c o,c ∉ [e,it]->s.heap.get? c=some o->h2'.get? c=some o:=fun c o hcm q=>by
   simp only[mem_cons,not_mem_nil,or_false,not_or] at hcm
   exact hs'.extBut _ _ hcm.1 (hk c o hcm.1 hcm.2 q)
  have I1:Inv X pins σ H { s with heap:=h2',toks:=s.toks+1 }:=I.turnedL kk hf
  have fP:FpOk X pins H s.heap.objs.size:=I.fpOk (Nat.le_refl _) (I.hok.fresh (Nat.le_refl _))
  have I2:Inv X pins σ (upd H s.heap.objs.size (.tup [.int i,x])) { s with heap:=h2',toks:=s.toks+1 }:=by
   refine I1.track I.sz (fP.2.1) fP.2.2.2.2.1 fP.2.2.2.2.2 fP.1 ?_
   exact⟨(show 2<=sizeLine by decide),[.int i s.toks,ux],.cons ⟨_,rfl⟩ (.cons rux .nil),⟨_,hp2,rfl,_,rfl⟩⟩
  refine⟨.ref s.heap.objs.size,_,I2,rfl,⟨_,x,rfl,fP.1,rfl,fun zs hzs=>by rw[I.list_inj hzs hqa]; exact hx⟩,⟨⟨_,hz'⟩,h12⟩,fun c hcm=>?_⟩
  rw[upd_ne (Nat.ne_of_lt (lt c hcm))]
  exact(hf c hcm).1
 done:=by
  intro X hP hw hK hc i pins s σ H E I hf ⟨⟨old,he⟩,h1⟩ hg
  subst hP hw hK
  obtain⟨xs,hqa,hend⟩:=hg
  obtain⟨its,rv,p,hsz⟩:=I.list hqa
  have e1:=rv.length
  refine wpAny_pyNext_enum_end (I.ok.hd hc) he h1 p.isList (i:=i) (by simp; omega) fun h' hk=>⟨rfl,?_⟩
  exact I.turnedL (t':=s.toks) (fun c o hcm q=>by
   simp only[mem_cons,not_mem_nil,or_false,not_or] at hcm
   exact hk c o hcm.2 q) hf
 self:=fun _ _ _ _ _ ⟨⟨_,st⟩,_⟩ h=>wpAny_pyIter_enum st h
section
variable {X:Cx}
def iEnum (K:PySem.W.Frag) (ta:TA):TI:=fun σ H R=>ta σ H fun vs H1=>∃ a,vs=[.ref a]/\(∃ xs,SqL K H1 a xs)/\R (Ite K a) H1
theorem pi_enum {es:List Expr}{x1}{tpos:Pos}{e1:Expr}{ta:TA}{p pos:Pos} (hg:Gl X "enumerate") (hm:X.mg "enumerate" = none) (ha:PA X [e1] ta) (hs:starEach [e1] X.env=[(false,eval e1 X.env)]:=by rfl) :
  PI X (.Tuple es x1 tpos) (.Call (.Name "enumerate" p) [e1] [] pos) (iEnum X.K ta):=by
 intro pins s σ H R I h
 refine Call_ (ld_blt I hg hm (by rfl) (PyProof.Rows.callWith_type1 (thn (ha pos pins s σ H _ I h) fun us s1 ⟨vs,H1,I1,r1,q1⟩=>?_) hs rfl))
 obtain⟨a,rfl,⟨xs,hqa⟩,q⟩:=q1
 obtain⟨u1,rfl,ru1⟩:=vals1 r1
 cases (show u1=Value.ref a from ru1)
 obtain⟨its,rv,pa,hsz⟩:=I1.list hqa
 refine call_enumerate_list pa.isList fun h' hz h1 hsize hk=>?_
 refine wpAny_pyIter_enum (s:={ s1 with heap:=h' }) hz ?_
 refine⟨_,_,_,_,H1,rfl,I1.kept (t':=s1.toks) hk,turn_enum a (s1.heap.objs.size+1) s1.heap.objs.size,⟨⟨_,hz⟩,h1⟩,fun c hc=>?_,q⟩
 have hge:s1.heap.objs.size<=c:=by
  simp only[mem_cons,not_mem_nil,or_false] at hc
  rcases hc with h | h <;> (rw[h]; omega)
 exact I1.fpOk hge (I1.hok.fresh hge)
end
end L2
set_option Elab.async false
set_option linter.all false
set_option maxRecDepth 100000
namespace L2
open PySem PySem.Spec PyProof.Rows
theorem vals_of_items {P:Nat->Value->Prop}{acc:List Value}{xs:List V} (hl:acc.length=xs.length) (h:∀ (j:Nat) (v:Value),acc[j]?=some v->P j v) (hP:∀ (j:Nat) v x,P j v->xs[j]?=some x->RelV x v):Vals xs acc:=by
 induction xs generalizing acc P with
 | nil=>
  cases acc with
  | nil=>exact .nil
  | cons _ _=>simp at hl
 | cons x xs ih=>
  cases acc with
  | nil=>simp at hl
  | cons u acc=>
   refine .cons (hP 0 u x (h 0 u rfl) rfl) (ih (P:=fun j=>P (j+1)) (by simpa using hl) (fun j v e=>h (j+1) v (by simpa using e)) fun j v y p e=>hP (j+1) v y p (by simpa using e))
section
variable {X:Cx}
theorem bools_of:∀ {bs:List Bool}{us:List Value},Vals (bs.map V.bl) us->LSm.BoolsAre us bs
 | [],_,.nil=>.nil
 | b::bs,_,.cons r t=>by
  obtain rfl:=(show _=Value.bool b from r)
  exact .cons b (bools_of t)
theorem call_all (hc:X.calm=true):CallR X (.builtin "all") (fun xs H Q=>∃ (a:Addr) (bs:List Bool),xs=[V.ref a]/\SqL X.K H a (bs.map V.bl)/\Q (.bl (bs.all id)) H):=by
 intro pins s σ H xs us Q I r h
 obtain⟨a,bs,rfl,hq,q⟩:=h
 obtain⟨u,rfl,ru⟩:=vals1 r
 cases (show u=Value.ref a from ru)
 obtain⟨its,rv,p,hz⟩:=I.list hq
 obtain⟨m,F⟩:=I.fr
 have hlt:a<s.heap.objs.size:=by obtain⟨_,e,_⟩:=p.isList; exact Heap.lt_size e
 have hb:=bools_of rv
 refine call_all_walk (wpAny_pyIter_list p.isList ?_)
 refine⟨s.heap.objs.size,[s.heap.objs.size,a],[s.heap.objs.size],its.toArray.size,_,_,fun i=>(bs[i]?).getD true,rfl,Walks.list (A:=X.A.in1) (I.ok.hd hc) _ a (Nat.ne_of_lt hlt) its.toArray,
  ⟨⟨_,Heap.get?_push_size _ rfl,rfl,rfl⟩,p.isList.push _⟩,fun i v s' Q' E' hP hQ=>?_,fun h' tk hk=>?_⟩
 ·obtain⟨b,e,rfl⟩:=hb.get i v (by simpa using hP)
  simp only[e,Option.getD_some] at hQ
  exact wpAny_truthy_bool hQ
 ·have e:((List.range its.toArray.size).all fun i=>(bs[i]?).getD true)=bs.all id:=by
   rw[size_toArray,hb.length]; exact LSm.range_all bs
  rw[e]
  exact⟨.bl (bs.all id),H,I.kept (LSm.kept_iter hk),rfl,q⟩
theorem call_list_dK (hc:X.calm=true):CallR X (.type "list") (fun xs H Q=>∃ p kvs,xs=[.ref p]/\Rd H p (.dK kvs)/\∀ l,H l=none->Q (.ref l) (upd H l (.lst (kvs.map fun kv=>kV kv.1)))):=by
 intro pins s σ H xs us Q I r h
 obtain⟨p,kvs,rfl,hp,q⟩:=h
 obtain⟨u,rfl,ru⟩:=vals1 r
 cases (show u=Value.ref p from ru)
 obtain⟨z,hd,vs,rel,o,es,ep,g1,g2,g3,g4,g5,g6⟩:=dk_rd I.hok hp
 refine PySem.W.kdl_call (PySem.W.kdl_dict (knd:=mixKind X.prog X.w) (kvs:=vs) (ep:=ep) hd) (I.ok.hd hc) ⟨o,es,g1,g2,g3,g4,g5,g6⟩ (by rw[<- rel.length]; exact z) fun h' tk acc c hk hS hi=>?_
 refine⟨.ref s.heap.objs.size,_,I.laid hk (Nat.le_refl _) ?_,rfl,q _ (I.hok.fresh (Nat.le_refl _))⟩
 refine⟨by rw[length_map]; exact z,acc.toList,c,vals_of_items (P:=fun i v=>∃ k x,vs[i]?=some (k,x)/\(mixKind X.prog X.w).is k v=true) (by rw[length_map,Array.length_toList,hi.1,rel.length]) (fun i v e=>hi.2 i v (by simpa using e)) (fun i v x ⟨k,y,e1,e2⟩ ex=>?_),by simpa using hS⟩
 have hk1:(kvs.map (·.1))[i]?=some k:=by
  have:=rel.keys
  rw[this,getElem?_map,e1]; rfl
 rw[getElem?_map] at ex hk1
 cases hkv:kvs[i]? with
 | none=>rw[hkv] at ex; cases ex
 | some kv=>
  rw[hkv] at ex hk1
  cases ex
  have:kv.1=k:=by simpa using hk1
  subst this
  rcases keyIs_shape (k:=kv.1) (v:=v) e2 with ⟨i,t,e3,e4⟩ | ⟨x,t,e3,e4⟩
  ·show RelV (kV kv.1) v
   rw[e3,e4]; exact⟨t,rfl⟩
  ·show RelV (kV kv.1) v
   rw[e3,e4]; exact⟨t,rfl⟩
end
end L2
set_option Elab.async false
set_option linter.all false
set_option maxRecDepth 100000
namespace L2
open PySem PySem.Spec PyProof.Rows
section
variable {X:Cx}
end
end L2
set_option Elab.async false
set_option linter.all false
set_option maxRecDepth 100000
namespace L2
open PySem PySem.Spec PyProof.Rows
structure FunG (K:PySem.W.Frag) (x qual:Str) (st:Stmt) (dV:Value) (f:Addr) (fd:FuncData):Prop where
 ex:∃ (oc:Value) (od:Option Addr) (kV doc pm:Value) (an:Option Addr) (cdv ct:Value) (osl:Array (Option Value)),
  fd=W.fnOf x qual (defArgs st) (defBody st) (defScope st) dV kV doc pm an cdv ct/\K.lookup f=some ⟨oc,od,.func fd,osl⟩/\W.codeIn K cdv qual=true
 kp:W.keepIn K (.ref f)=true
section
variable {P:Program}{w:World}{K:PySem.W.Frag}{mg:Str->Option Value}{base:Heap}
theorem FunG.ok {x qual:Str}{st:Stmt}{dV:Value}{f:Addr}{fd:FuncData}{N ps:List Str}{k:Nat}{sp:Sp} (F:FunG K x qual st dV f fd) (S:FnScope N ps (defScope st)) (len:∀ vs H Q E,sp vs H Q E->vs.length=ps.length)
  (hbody:∀ (cdv:Value) (A:Around) (outer:List Env) (s:Shared) (H:Hp) (vs:List V) (Q:VK) (E:XK),Room k (A.deeper (envOfC qual (defScope st) s.heap.objs.size f cdv))->sp vs H Q E ->
   ∃ t,PSs (cxOf CX0 P w K mg base N qual (defScope st) f cdv A outer s H E).nox (defBody st) t/\t { nx:=fun _ H'=>Q .non H',rt:=Q } (start N vs) H):FnOk P w K mg base CX0 (k+1) f fd ps sp:=by
 obtain⟨oc,od,kV,doc,pm,an,cdv,ct,osl,rfl,lk,hcd⟩:=F.ex
 refine fn_of lk hcd S len fun A outer s H vs Q E hr hsp=>?_
 obtain⟨t,h,q⟩:=hbody cdv A outer s H vs Q E hr hsp
 exact⟨t,h.nox,q⟩
theorem FunG.binds {x qual:Str}{st:Stmt}{dV:Value}{f:Addr}{fd:FuncData}{ps:List Str} (F:FunG K x qual st dV f fd)
  (h:∀ (kV doc pm:Value) (an:Option Addr) (cdv ct:Value) (us:List Value),us.length=ps.length->bindArgs (W.fnOf x qual (defArgs st) (defBody st) (defScope st) dV kV doc pm an cdv ct) ⟨us,[]⟩=pure (ps.zip us)):Binds K fd ps []:=by
 obtain⟨oc,od,kV,doc,pm,an,cdv,ct,osl,rfl,lk,hcd⟩:=F.ex
 exact .all (h kV doc pm an cdv ct)
theorem funG_mk {x qual:Str}{st:Stmt}{f:Addr}{oc:Value}{od an:Option Addr}{osl:Array (Option Value)}{dV kV doc pm cdv ct:Value} (l:K.lookup f=some ⟨oc,od,.func (W.fnOf x qual (defArgs st) (defBody st) (defScope st) dV kV doc pm an cdv ct),osl⟩)
  (c:W.codeIn K cdv qual=true) (k:W.keepIn K (.ref f)=true):FunG K x qual st dV f (W.fnOf x qual (defArgs st) (defBody st) (defScope st) dV kV doc pm an cdv ct):=⟨⟨oc,od,kV,doc,pm,an,cdv,ct,osl,rfl,l,c⟩,k⟩
end
end L2
set_option Elab.async false
set_option linter.all false
set_option maxRecDepth 100000
namespace L2
open PySem PySem.Spec PyProof.Rows
section
variable {X:Cx}{K:PySem.W.Frag}
theorem pg_tupK (hK:X.K=K) {es:List Expr}{k:Nat}{t:TGs}{n:Nat}{pos:Pos} (hc:X.calm=true) (h:PGs X es t)
  (hn:(assignEach es X.env).length=n:=by rfl) (hst:(assignEach es X.env).findIdx? (·.1)=none:=by rfl):PG X (.Tuple es k pos) (gTup K n t):=by
 subst hK; exact pg_tup hc h hn hst
theorem ix_listK (hK:X.K=K):IxR X (rIxL K):=by subst hK; exact ix_list
end
end L2
namespace L2
theorem tTrueT {σ:St}{H:Hp}{A B:Hp->Prop} (h:A H):tTrue σ H (fun b H3=>if b=true then A H3 else B H3):=(iteT h:if true=true then A H else B H)
end L2
namespace L2
open PySem PySem.Spec PyProof.Rows
section
variable {X:Cx}{CX:CXT}{k:Nat}{f C:Addr}{fd:FuncData}{ps ks:List Str}{sp:Sp}{E:XK}{x m:Str}{p pos apos kpos:Pos}{e o:Expr}{es:List Expr}{kws:List Keyword}{te ta:TE}{t tk:TA}
 {g:List Value->List Value->List Value}{gV:List V->List V->List V}
end
end L2
namespace L2
end L2
set_option Elab.async false
set_option linter.all false
set_option maxRecDepth 100000
namespace L2
open PySem PySem.Spec PyProof.Rows
section
variable {prog:Program}{w:World}{K:Type} [DecidableEq K] {knd:HeapKind prog w K}{A:Around}{E:Value->Shared->Prop}{s:Shared}{d a:Addr}{k:K}{xs:List (K×Addr×Value)}
end
end L2
namespace L2
open PySem PySem.Spec PyProof.Rows
section
variable {X:Cx}{pins:List (Addr×Obj)}{σ:St}{H:Hp}{s:Shared}{a b:Addr}{kvs:List (List Key×V)}{k:List Key}{u:Value}{A:Around}{E:Value->Shared->Prop}
end
section
variable {X:Cx}{o i e:Expr}{td ty:TE}{tpos pos apos cpos:Pos}
end
end L2
namespace L2
open PySem PySem.Spec PyProof.Rows
end L2
set_option Elab.async false
set_option linter.all false
set_option maxRecDepth 100000
namespace L2
open PySem PySem.Spec PyProof.Rows
section
variable {prog:Program}{w:World}{A:Around}{E:Value->Shared->Prop}{s:Shared}
end
section
variable {X:Cx}{pins:List (Addr×Obj)}{σ:St}{H:Hp}{s:Shared}{a:Addr}{y v:V}{u r:Value}{o:Option V}{A:Around}{E:Value->Shared->Prop}
end
end L2
set_option Elab.async false
set_option linter.all false
set_option maxRecDepth 100000
namespace L2
open PySem PySem.Spec PyProof.Rows
section
variable {X:Cx}
theorem ps_setC {ix:Nat}{nm:Str}{pos' spos:Pos}{elt tg iter:Expr}{ifs:List Expr}{scope:Scope}{pos:Pos}{wi:TI}{k:Nat}{g:TG}{tc:TT}{te:TE} (hNd:X.N.Nodup) (hix:X.N[ix]?=some nm) (hLx:Loc X.env.scope nm) (N':List Str) (hc:X.calm=true) (hi:PI X tg iter wi)
  (hg:∀ C s₀ H₀ fp pins,PG (blk X scope N' C s₀ H₀ fp pins) tg g) (ht:∀ C s₀ H₀ fp pins,PTs (blk X scope N' C s₀ H₀ fp pins) ifs tc) (he:∀ C s₀ H₀ fp pins,PE (blk X scope N' C s₀ H₀ fp pins) elt te)
  (hk:scope.kind=.function) (hcell:∀ y ∈ scope.names,y.2≠.cell) (hnames:∀ y ∈ scope.names,y.2=.local->scope.names.lookup y.1=some .local)
  {esc:Scope} (hsc:X.env.scope=esc) (hfr':∀ y ∈ scope.names,y.2=.free->esc.names.lookup y.1=some .cell∨esc.names.lookup y.1=some .free)
  (hlen:N'.length=k+X.N.length)
  (hN:∀ (i:Nat) (x:Str),N'[i+k]?=some x->(x,NameKind.free) ∈ scope.names->X.N[i]?=some x)
  (hN2:∀ x ∈ N'.drop k,scope.names.lookup x≠some .local)
  (hs:∀ x,foldedSetIterable iter X.env x=pure x:=by intro _; rfl)
  (hsw:swapsWith (.ListComp elt [⟨tg,iter,ifs,0⟩] scope pos) (some (.Name nm pos')) spos.line X.env=pure true:=by rfl)
  (hf:X.fn nm=true∨X.env.scope.names.lookup nm=some .local:=by first | exact .inl rfl | exact .inr rfl | assumption) :
  PS X (.Assign [.Name nm pos'] (.ListComp elt [⟨tg,iter,ifs,0⟩] scope pos) spos) (tAsg (tLC wi k g tc te) (gName ix)):=by
 intro pins s σ H Dn I h
 have hfr:∀ y ∈ scope.names,y.2=.free->X.env.kindOf y.1=some .cell∨X.env.kindOf y.1=some .free:=fun y hy hf=>by
  show X.env.scope.names.lookup y.1=_∨X.env.scope.names.lookup y.1=_
  rw[hsc]; exact hfr' y hy hf
 have hcells:∀ y ∈ scope.names,y.2=.free->∃ c,X.env.cells.lookup y.1=some c:=fun y hy hf=>I.ok.has y.1 (hfr y hy hf)
 have hclos:=closure_eq scope X.env hcells
 rw[exec_Assign_Name_used _ _ _ _ hsw]
 refine wpAny_bind (wpAny_standAt (wpAny_bind ?_))
 show wpAny _ X.A (do let _ <- comprehension (.ListComp elt [⟨tg,iter,ifs,0⟩] scope pos) scope X.env _ (newList []) false (eval iter X.env) (some (assign (.Name nm pos') X.env))) _ _ s
 refine wpAny_bind (wpAny_mono (wpAny_comprehension_free (Q:=fun _ s'=>SP X pins Dn .next s') (use:=some (assign (.Name nm pos') X.env)) rfl hs hclos hk hnames ?_) (fun _ s' hq=>wpAny_pure (wpAny_pure hq)) fun _ _ e=>e)
 refine(thn (hi pins s σ H _ I h) fun v s1 h1=>thn h1 fun itv s2 h2=>?_)
 obtain⟨it,fp,tn,J,H2,e,I2,T,st2,f2,R⟩:=h2
 subst e
 refine wpAny_newObj_type ?_
 have hD:H2 s2.heap.objs.size=none:=I2.hok.fresh (Nat.le_refl _)
 obtain⟨W,⟨m0,w0⟩,turn⟩:=R _ hD
 generalize eD:s2.heap.objs.size=D at *
 have I3:Inv X pins σ (upd H2 D (.lst [])) { s2 with heap:=s2.heap.push { cls:=.type "list",dict:=none,data:=.seq ([]:List Value).toArray } } :=
  I2.laid (a:=D) (o:=.lst []) (t':=s2.toks) (fun b u e=>Heap.get?_push_of_some _ e) (Nat.le_of_eq eD) ⟨Nat.zero_le _,[],0,.nil,by rw[<- eD]; exact Heap.get?_push_size _ rfl⟩
 generalize e3:({ s2 with heap:=s2.heap.push { cls:=.type "list",dict:=none,data:=.seq ([]:List Value).toArray } }:Shared)=s3 at *
 have st3:tn 0 s3.heap:=T.keep _ _ _ st2 fun b _ o e=>by rw[<- e3]; exact Heap.get?_push_of_some _ e
 have lt2:∀ b ∈ fp,b<s2.heap.objs.size:=fun b hb=>by
  obtain⟨o,e,_⟩:=T.obj _ _ st2 b hb
  exact Heap.lt_size e
 have neD:∀ b ∈ fp,b≠D:=fun b hb=>by
  have:=lt2 b hb
  rw[eD] at this
  exact Nat.ne_of_lt this
 have f3:∀ b ∈ fp,FpOk X pins (upd H2 D (.lst [])) b:=fun b hb=>⟨by rw[upd_ne (neD b hb)]; exact(f2 b hb).1,(f2 b hb).2⟩
 generalize upd H2 D (.lst [])=H3 at *
 refine wpAny_newFunctionEnv hcell (by intro y hy; simp at hy) (fun h₁ hns₁ hsb₁=>?_) hk
 try dsimp only at hns₁ hsb₁ ⊢
 have lt3:∀ b ∈ fp,b<s3.heap.objs.size:=fun b hb=>by
  obtain⟨o,e,_⟩:=T.obj _ _ st3 b hb
  exact Heap.lt_size e
 generalize eC:s3.heap.objs.size=C at *
 have kp:∀ b o,s3.heap.get? b=some o->h₁.get? b=some o:=fun b o e=>(hsb₁.2 b (by rw[<- eC]; exact Nat.ne_of_lt (Heap.lt_size e))).trans (Heap.get?_push_of_some _ e)
 have subC:∀ x c,(clOf X.env.cells scope.names []).lookup x=some c->X.env.cells.lookup x=some c:=fun x c e=>clOf_sub scope.names [] hcells (fun y d z=>by simp at z) e
 have hCnone:H3 C=none:=I3.hok.fresh (Nat.le_of_eq eC)
 have ok':(blk X scope N' C s3 H3 fp pins).Ok:={
  mod:=I3.ok.mod
  kind:=hk
  glob:=I3.ok.glob
  blt:=I3.ok.blt
  above:=Nat.le_of_eq eC
  inj:=fun x y c a b=>I3.ok.inj x y c (subC x c a) (subC y c b)
  has:=fun x hx=>clOf_has scope.names [] (relabel_cf scope.names hcell hx)
  cab:=fun x c a _=>absurd a Bool.false_ne_true
  hd:=I3.ok.hd
  frames:=I3.ok.frames
  stk:=.inl rfl
  exf:=fun b hb=>⟨by have:=lt3 b hb; exact Nat.ne_of_lt this,fun x c e=>(f3 b hb).2.2.2.2.1 x c (subC x c e)⟩
  bs:=I3.bs
  bsz:=Nat.le_trans I3.ok.bsz I3.sz
  noex:=fun b o e hb=>by
   rcases (f3 b hb).2.2.2.1 with z | z
   ·exact I3.ok.noex b o e z
   ·exact absurd (Nat.lt_of_lt_of_le (Heap.lt_size e) (Nat.le_trans I3.ok.bsz z)) (Nat.lt_irrefl _)
  exfs:=fun b hb z=>by
   rcases mem_cons.mp (I3.stkSub b z) with e | e
   ·exact(f3 b hb).2.1 e
   ·exact(f3 b hb).2.2.1 e
  funs:=I3.stack
  frf:=I3.stkFree }
 have s4os:({ s3 with heap:=h₁,toks:=s3.toks+([]:List (Str×Value)).length }:Shared).os=s3.os:=rfl
 generalize e4:({ s3 with heap:=h₁,toks:=s3.toks+([]:List (Str×Value)).length }:Shared)=s4 at *
 have h4:s4.heap=h₁:=by rw[<- e4]
 have J4:Inv (blk X scope N' C s3 H3 fp pins) [] (List.replicate k none++σ) H3 s4:=by
  refine⟨ok',s4os,by rw[<- e4]; exact I3.bare,?_,⟨_,by rw[h4]; exact hns₁,fun i x v e1 e2 e5=>?_⟩,fun x c e=>?_,hCnone,fun x c e=>I3.freeC x c (subC x c e),fun p hp=>?_,?_,?_⟩
  ·rw[h4]; exact Un.kept kp
  ·have hik:¬ i<k:=fun hlt=>by
    rw[getElem?_append_left (by rw[length_replicate]; exact hlt),List.getElem?_replicate] at e2
    split at e2 <;> cases e2
   obtain⟨j,rfl⟩:∃ j,i=j+k:=⟨i - k,by omega⟩
   have e2':σ[j]?=some (some v):=by
    rw[getElem?_append_right (by rw[length_replicate]; omega),length_replicate] at e2
    have:j+k - k=j:=by omega
    rw[this] at e2; exact e2
   have nl:(relabel scope X.env).names.lookup x≠some .local:=fun z=>by
    have q:∀ (l:List (Str×NameKind)),(l.map fun(n,k)=>if (k == NameKind.free && X.env.scope.kind == .function && X.env.kindOf n == some .cell) then(n,NameKind.cell) else(n,k)).lookup x=some .local->l.lookup x=some .local:=by
     intro l
     induction l with
     | nil=>intro z; simp at z
     | cons y l ih=>
      obtain⟨n,kk⟩:=y
      intro z
      by_cases hcc:(kk == NameKind.free && X.env.scope.kind == .function && X.env.kindOf n == some .cell)=true
      ·simp only[map_cons,if_pos hcc,lookup_cons] at z ⊢
       cases hx:x == n with
       | true=>simp only[hx] at z; cases z
       | false=>simp only[hx] at z ⊢; exact ih z
      ·simp only[map_cons,if_neg hcc,lookup_cons] at z ⊢
       cases hx:x == n with
       | true=>simp only[hx] at z ⊢; exact z
       | false=>simp only[hx] at z ⊢; exact ih z
    exact hN2 x (mem_of_getElem? (i:=j) (by rw[List.getElem?_drop,Nat.add_comm]; exact e1)) (q _ z)
   have hcf:(relabel scope X.env).names.lookup x=some .cell∨(relabel scope X.env).names.lookup x=some .free:=by
    rcases e5 with z | z | z
    ·exact absurd z nl
    ·exact .inl z
    ·exact .inr z
   have hmem:(x,NameKind.free) ∈ scope.names:=relabel_cf scope.names hcell hcf
   have hx:=hN j x e1 hmem
   obtain⟨mo,_,hl⟩:=I3.loc
   have hkx:=hfr (x,.free) hmem rfl
   obtain⟨u,ru,lk⟩:=hl j x v hx e2' (by
    rcases hkx with z | z
    ·exact .inr (.inl z)
    ·exact .inr (.inr z))
   refine⟨u,ru,.inr ⟨hcf,?_⟩⟩
   rcases lk with ⟨z,_⟩ | ⟨_,c,hc1,hc2⟩
   ·rcases hkx with q | q
    ·rw[q] at z; cases z
    ·rw[q] at z; cases z
   ·obtain⟨c',hc'⟩:=clOf_has (cells:=X.env.cells) scope.names [] hmem
    have:=subC x c' hc'
    rw[hc1] at this; cases this
    obtain⟨oc,h5,h6⟩:=hc2
    exact⟨c,hc',oc,by rw[h4]; exact kp _ _ h5,h6⟩
  ·obtain⟨v,oc,h5,h6⟩:=I3.cell x c (subC x c e)
   exact⟨v,oc,by rw[h4]; exact kp _ _ h5,h6⟩
  ·have hp':p ∈ X.pn++pins:=by simpa using hp
   obtain⟨a1,a2,a3,a4,a5⟩:=I3.pin p hp'
   refine⟨by rw[h4]; exact kp _ _ a1,a2,?_,fun z=>?_,a5⟩
   ·have:=Heap.lt_size a1
    rw[eC] at this
    exact Nat.ne_of_lt this
   ·rcases mem_cons.mp (I3.stkSub p.1 z) with q | q
    ·exact a3 q
    ·exact a4 q
  ·rw[h4]; exact I3.hok.kept kp
  ·rw[length_append,length_replicate,I3.len]; exact hlen.symm
 have stat:∀ {H':Hp},(∀ b ∈ fp,H' b=none)->∀ b ∈ fp,FpOk (blk X scope N' C s3 H3 fp pins) [] H' b:=fun hn b hb=>
  ⟨hn b hb,(ok'.exf b hb).1,ok'.exfs b hb,.inl hb,fun x c e=>(ok'.exf b hb).2 x c e,fun p hp=>(f3 b hb).2.2.2.2.2 p (by simpa using hp)⟩
 have fr4:∀ b ∈ fp,H3 b=none:=fun b hb=>(f3 b hb).1
 have st4:tn 0 s4.heap:=T.keep _ _ _ st3 fun b _ o e=>by rw[h4]; exact kp _ _ e
 have loop:codeAny (model X.prog X.w) X.A (.compLoop (.ListComp elt [⟨tg,iter,ifs,0⟩] scope pos) 0 (.ref it) (.ref D) (compEnvC scope (clOf X.env.cells scope.names []) C X.env))
   (compPost (model X.prog X.w) X.A X.xe (some (assign (.Name nm pos') X.env)) (fun _ s'=>SP X pins Dn .next s') (.ref D) C) s4:=by
  refine compLoop_go (fun n s'=>∃ i ys H',Inv (blk X scope N' C s3 H3 fp pins) [] (List.replicate k none++σ) H' s'/\tn i s'.heap/\(∀ b ∈ fp,H' b=none)/\W i n ys H') ?_ m0 ⟨0,[],H3,J4,st4,fr4,w0⟩
  rintro n s5 ⟨i,ys,H5,I5,st5,fr5,w5⟩
  obtain⟨hDl,stp⟩:=turn i n ys H5 w5
  rcases stp with ⟨stop,qn⟩ | ⟨go,step⟩
  ·refine thn (T.done (blk X scope N' C s3 H3 fp pins) rfl rfl rfl hc i [] s5 _ H5 (fun _ _=>False) I5 (stat fr5) st5 stop) fun r s6 ⟨hr,I6⟩=>?_
   subst hr
   obtain⟨m6,ns6,_⟩:=id I6.loc
   have hC5:H5 C=none:=I6.free
   have un6:Un (frs X.stack) fp H3 H5 s3.heap s6.heap:=I6.base
   have IX:Inv X pins σ H5 s6:=by
    refine I3.call' (s':=s6) (ch:=fp) I6.os un6 I6.hok I6.bare (fun b hb=>?_)
    exact⟨(f3 b hb).2.2.2.1,(f3 b hb).2.1,(f3 b hb).2.2.2.2.1,(f3 b hb).2.2.2.2.2⟩
   have fpC:FpOk X pins H5 C:=I3.fpOk (Nat.le_of_eq eC) hC5
   obtain⟨oC,esC,epC,gC,dC,rC⟩:=ns6
   have IXp:=IX.pinned (fp:=[C]) (fun b hb=>by rw[mem_singleton.mp hb]; exact fpC) (fun b hb=>by rw[mem_singleton.mp hb]; exact⟨oC,gC,fun v z=>by rw[dC] at z; cases z⟩)
   have sto:=pg_name (pos:=pos') hNd hix hLx hf _ s6 σ H5 (.ref D) (.ref D) (fun σ' H'=>σ'=σ.set ix (some (.ref D))/\H'=H5) IXp rfl ⟨rfl,rfl⟩
   show wpAny _ _ (assign (.Name nm pos') X.env (.ref D)) _ _ s6
   refine thn sto fun _ s7 ⟨σ7,H7,I7,e7,e7'⟩=>?_
   subst e7 e7'
   have gC7:s7.heap.get? C=some oC:=(I7.pin (C,oC) (mem_append_right _ (mem_append_right _ (mem_pinsAt (mem_singleton.mpr rfl) gC)))).1
   refine⟨_,⟨oC,esC,epC,gC7,dC,rC⟩,fun h' hsb=>⟨σ.set ix (some (.ref D)),_,?_,qn⟩⟩
   refine(I7.unpinned).call' (s':={ s7 with heap:=h' }) (ch:=[C]) rfl ⟨fun b o e a1 a2 a3=>?_,fun b o e a1 a2 a3=>?_,fun _ _ _ n _=>n,fun b o e a3=>?_,fun _ _ q=>q,fun _ _ _ q=>q,fun _ ps q=>⟨#[],by rw[q]; simp⟩⟩ ?_ I7.bare (fun b hb=>?_)
   ·exact(hsb.2 b (fun z=>a3 (mem_singleton.mpr z))).trans e
   ·exact⟨o.slots,(hsb.2 b (fun z=>a3 (mem_singleton.mpr z))).trans e⟩
   ·exact⟨o,(hsb.2 b (fun z=>a3 (mem_singleton.mpr z))).trans e⟩
   ·intro b u e
    refine(I7.hok b u e).stay (fun c w' hcc q=>(hsb.2 c ?_).trans q) (fun _ q=>q) fun _ _ q=>q
    rintro rfl
    rcases hcc with z | z
    ·rw[z,e] at hC5; cases hC5
    ·rw[z] at hC5; cases hC5
   ·rw[mem_singleton.mp hb]
    exact⟨fpC.2.2.2.1,fpC.2.1,fpC.2.2.2.2.1,fpC.2.2.2.2.2⟩
  ·refine thn (T.item (blk X scope N' C s3 H3 fp pins) rfl rfl rfl hc i [] s5 _ H5 (fun _ _=>False) I5 (stat fr5) st5 go) fun r s6 ⟨u,hr,h6⟩=>?_
   subst hr
   refine thn h6 fun _ s7 ⟨x,H7,I7,r7,y7,st7,fr7⟩=>?_
   have I7':=I7.pinned (stat fr7) (T.obj _ _ st7)
   refine thn (hg C s3 H3 fp pins _ s7 _ H7 x u _ I7' r7 (step x H7 y7)) fun _ s8 ⟨σ8,H8,I8,d8,q8⟩=>?_
   refine thn (ht C s3 H3 fp pins _ s8 σ8 H8 _ I8 q8) fun b s9 ⟨H9,I9,q9⟩=>?_
   have kz:∀ (j:Nat) v,(List.replicate k none++σ)[j]?=some (some v)->σ8[j]?=some (some v):=fun j v e=>by
    have hik:¬ j<k:=fun hlt=>by
     rw[getElem?_append_left (by rw[length_replicate]; exact hlt),List.getElem?_replicate] at e
     split at e <;> cases e
    rw[getElem?_append_right (by rw[length_replicate]; omega),length_replicate,<- d8,List.getElem?_drop] at e
    have:k+(j - k)=j:=by omega
    rw[this] at e; exact e
   have again:∀ {Hz:Hp}{sz:Shared}{zs:List V}{m':Nat},Inv (blk X scope N' C s3 H3 fp pins) ([]++pinsAt fp s7.heap) σ8 Hz sz->m'<n->W (i+1) m' zs Hz ->
     ∃ m,m<n/\∃ i ys H',Inv (blk X scope N' C s3 H3 fp pins) [] (List.replicate k none++σ) H' sz/\tn i sz.heap/\(∀ b ∈ fp,H' b=none)/\W i m ys H':=fun {Hz sz zs m'} Iz hm wz=>by
    refine⟨m',hm,i+1,zs,Hz,(Iz.unpinned).weak ?_ kz,T.keep _ _ _ st7 fun b hb o e=>(Iz.pin (b,o) (mem_append_right _ (mem_append_right _ (mem_pinsAt hb e)))).1,fun b hb=>?_,wz⟩
    ·rw[Iz.len]; exact I5.len
    ·obtain⟨o,e,d⟩:=T.obj _ _ st7 b hb
     exact(Iz.pin (b,o) (mem_append_right _ (mem_append_right _ (mem_pinsAt hb e)))).2.1
   cases b with
   | false=>
    obtain⟨m',hm,w9⟩:=(show ∃ m',m'<n/\W (i+1) m' ys H9 by simpa using q9)
    rw[if_neg Bool.false_ne_true]
    exact again I9 hm w9
   | true=>
    rw[if_pos rfl] at q9 ⊢
    refine thn (he C s3 H3 fp pins _ s9 σ8 H9 _ I9 q9) fun u9 s10 ⟨y,H10,I10,r10,hz,hD10,m',hm,w10⟩=>?_
    refine thn (mt_append (X:=blk X scope N' C s3 H3 fp pins) _ s10 σ8 H10 (.ref D) [y] (.ref D) [u9] (fun _ H'=>H'=upd H10 D (.lst (ys++[y]))) I10 rfl (.cons r10 .nil) ⟨D,ys,y,rfl,rfl,hD10,hz,rfl⟩) fun _ s11 ⟨_,H11,I11,_,e11⟩=>?_
    subst e11
    exact again I11 hm w10
 exact codeAny_compStart_list loop (T.self _ 0 _ _ _ st4 loop)
end
end L2
set_option Elab.async false
set_option linter.all false
set_option maxRecDepth 100000
namespace L2
open PySem PySem.Spec PyProof.Rows
section
variable {X:Cx}
end
section
variable {prog:Program}{w:World}{A:Around}{E:Value->Shared->Prop}{s:Shared}{K:Type} [DecidableEq K] {knd:PySem.KeyKind prog w K}
end
abbrev hashT (P:Program) (w:World) (k:List Key):Int:=(tupleKind (mixKind P w)).hash k
section
variable {X:Cx}
end
end L2
set_option Elab.async false
set_option linter.all false
set_option maxRecDepth 100000
namespace L2
open PySem PySem.Spec PyProof.Rows
section
variable {X:Cx}
end
end L2
set_option Elab.async false
set_option linter.all false
set_option maxRecDepth 100000
namespace L2
open PySem PySem.Spec PyProof.Rows
section
variable {prog:Program}{w:World}{A:Around}{E:Value->Shared->Prop}{s:Shared}
theorem nextOf_tuple_item {it l:Addr}{i:Nat}{items:Array Value}{x:Value}{Q:Value->Shared->Prop} (h1:s.heap.IsTupleIter it l i) (h2:s.heap.IsTuple l items) (h3:items[i]?=some x)
  (h:∀ h',h'.IsTupleIter it l (i+1)->Heap.SameBut it s.heap h'->Q x { s with heap:=h' }):wpAny (model prog w) A (Builtin.SmallTypes.nextOf (.ref it)) Q E s:=by
 obtain⟨o,e,c,d⟩:=h1
 obtain⟨ol,el,cl,n,dl⟩:=h2
 unfold Builtin.SmallTypes.nextOf
 refine wpAny_bind (wpAny_callSpecial?_slot (T := "tuple_iterator") ⟨o,e,c⟩ F.slot_tuple_iterator_next (wpAny_call_entry F.slot_tuple_iterator_next ⟨o,e,c⟩ F.entry_tuple_iterator_next ?_ (F.args_tuple_iterator_next_1 _)))
 unfold Builtin.«tuple_iterator.__next__»
 refine wpAny_bind (wpAny_of_eq (a:=(Value.ref it,[])) rfl ?_)
 refine wpAny_bind (wpAny_field (x:=.ref l) e d rfl ?_)
 rw[if_neg (show ¬ ((Value.ref l == Value.none)=true) from by simp)]
 refine wpAny_bind (wpAny_field (x:=.int (i:Int) 0) e d rfl ?_)
 refine wpAny_bind (wpAny_seqItems el dl ?_)
 dsimp only
 rw[Int.toNat_natCast,h3]
 refine wpAny_bind (wpAny_setField e d (by simp) ?_)
 refine wpAny_pure ⟨x,rfl,wpAny_pure (h _ ⟨_,Heap.get?_update_self _ e (Obj.isFreed_of_fields (Obj.data_mapFields d _)),(Obj.cls_mapFields _ _).trans c,Obj.data_mapFields d _⟩ (Heap.SameBut.update _ _ _))⟩
theorem nextOf_tuple_end {it l:Addr}{i:Nat}{items:Array Value}{Q:Value->Shared->Prop} (hh:A.handled=none) (h1:s.heap.IsTupleIter it l i) (h2:s.heap.IsTuple l items) (h3:items[i]?=none)
  (h:∀ h' e,Heap.ExtBut it s.heap h'->(∃ o,h'.get? e=some o/\o.cls=.type "StopIteration")->E (.ref e) { s with heap:=h' }):wpAny (model prog w) A (Builtin.SmallTypes.nextOf (.ref it)) Q E s:=by
 obtain⟨o,e,c,d⟩:=h1
 obtain⟨ol,el,cl,n,dl⟩:=h2
 unfold Builtin.SmallTypes.nextOf
 refine wpAny_bind (wpAny_callSpecial?_slot (T := "tuple_iterator") ⟨o,e,c⟩ F.slot_tuple_iterator_next (wpAny_call_entry F.slot_tuple_iterator_next ⟨o,e,c⟩ F.entry_tuple_iterator_next ?_ (F.args_tuple_iterator_next_1 _)))
 unfold Builtin.«tuple_iterator.__next__»
 refine wpAny_bind (wpAny_of_eq (a:=(Value.ref it,[])) rfl ?_)
 refine wpAny_bind (wpAny_field (x:=.ref l) e d rfl ?_)
 rw[if_neg (show ¬ ((Value.ref l == Value.none)=true) from by simp)]
 refine wpAny_bind (wpAny_field (x:=.int (i:Int) 0) e d rfl ?_)
 refine wpAny_bind (wpAny_seqItems el dl ?_)
 dsimp only
 rw[Int.toNat_natCast,h3]
 refine wpAny_bind (wpAny_rule ?_)
 refine wpAny_bind (wpAny_setField e d (by simp) ?_)
 unfold Builtin.SmallTypes.stopIteration
 refine wpAny_bind ?_
 unfold newExc
 refine wpAny_bind (wpAny_newTuple ?_ (by simp))
 refine wpAny_bind (wpAny_bind (wpAny_pure (wpAny_pure ?_)))
 refine wpAny_newObj_type ?_ (sizeOk_excFields _ _ _ _ _ _ _ _)
 unfold raiseNew
 refine wpAny_bind (wpAny_handled ?_)
 rw[show A.in1.handled=none from hh]
 refine wpAny_throw (h _ _ (fun b o hb eb=>?_) ⟨_,Heap.get?_push_size _ rfl,rfl⟩)
 exact Heap.get?_push_of_some _ (Heap.get?_push_of_some _ (((Heap.SameBut.update s.heap it _).2 b hb).trans eb))
theorem tupAt {h h':Heap}{a l:Addr}{xs:Array Value} (p:h.IsTuple l xs) (sb:Heap.SameBut a h h') (ne:l≠a):h'.IsTuple l xs:=by
 obtain⟨o,e,r⟩:=p
 exact⟨o,(sb.2 l ne).trans e,r⟩
theorem zipT_next_item {z TI TO i1 i2 l1 l2:Addr}{k1 k2:Nat}{xs ys:Array Value}{x y a b:Value}{Q:Value->Shared->Prop} (D:ZipApart z TI TO i1 i2 l1 l2) (hz:IsZip s.heap z TI TO .none) (hTI:IsPair s.heap TI (.ref i1) (.ref i2)) (hTO:IsPair s.heap TO a b)
  (h1:s.heap.IsTupleIter i1 l1 k1) (h2:s.heap.IsTupleIter i2 l2 k2) (p1:s.heap.IsTuple l1 xs) (p2:s.heap.IsTuple l2 ys) (hx:xs[k1]?=some x) (hy:ys[k2]?=some y)
  (h:∀ h',IsZip h' z TI TO (rawInt s.heap.objs.size)->IsPair h' TO x y->h'.IsTupleIter i1 l1 (k1+1)->h'.IsTupleIter i2 l2 (k2+1)->IsPair h' s.heap.objs.size x y->h'.objs.size=s.heap.objs.size+1 ->
   (∀ c o,c≠z->c≠TO->c≠i1->c≠i2->s.heap.get? c=some o->h'.get? c=some o)->Q (.ref s.heap.objs.size) { s with heap:=h' }) :
  wpAny (model prog w) A (Builtin.«zip.__next__» { pos:=[.ref z] }) (fun fin s'=>∃ v,fin=Fin.done (.ret v)/\Q v s') E s:=by
 unfold Builtin.«zip.__next__»
 refine wpAny_bind (wpAny_of_eq (a:=(Value.ref z,[])) rfl ?_)
 dsimp only
 refine wpAny_bind (wpAny_field (x:=.bool false) hz rfl rfl ?_)
 refine wpAny_bind (wpAny_field (x:=.ref TI) hz rfl rfl ?_)
 refine wpAny_bind (wpAny_seqItems hTI rfl ?_)
 dsimp only
 rw[if_neg (by simp)]
 refine wpAny_bind ?_
 unfold Builtin.SmallTypes.ownedTupleIsFree
 refine wpAny_bind (wpAny_field (x:=.none) hz rfl rfl (wpAny_pure ?_))
 rw[if_pos rfl]
 refine wpAny_bind (wpAny_rule ?_)
 refine wpAny_bind (wpAny_field (x:=.ref TO) hz rfl rfl ?_)
 refine wpAny_bind (wpAny_setField_rec hz (by simp) fun h₁ hz₁ hs₁=>?_)
 refine wpAny_bind ?_
 show wpAny _ _ (forIn [(Value.ref i1,0),(Value.ref i2,1)] (none,()) _) _ _ _
 rw[List.forIn_cons]
 refine wpAny_bind ?_
 refine wpAny_bind (wpAny_onRaise ?_)
 have ne1:(Value.bool false == Value.bool true)=true->False:=by decide
 refine wpAny_bind (nextOf_tuple_item (h1.extBut hs₁.extBut D.i1z) (tupAt p1 hs₁ D.l1z) hx fun h₂ g1 sb2=>?_)
 refine wpAny_pure ?_
 have hTO2:IsPair h₂ TO a b:=(sb2.2 _ D.TOi1).trans ((hs₁.2 _ D.TOz).trans hTO)
 refine wpAny_bind (wpAny_seqItems hTO2 rfl ?_)
 refine wpAny_bind (wpAny_updateSeq_pair hTO2 fun h₃ e3 sb3=>?_)
 refine wpAny_bind (wpAny_letGo ?_)
 refine wpAny_pure ?_
 dsimp only
 have hTO3:IsPair h₃ TO x b:=e3
 rw[List.forIn_cons]
 refine wpAny_bind ?_
 refine wpAny_bind (wpAny_onRaise ?_)
 have h2b:h₃.IsTupleIter i2 l2 k2:=((h2.extBut hs₁.extBut D.i2z).extBut sb2.extBut D.i12.symm).extBut sb3.extBut D.TOi2.symm
 refine wpAny_bind (nextOf_tuple_item h2b (tupAt (tupAt (tupAt p2 hs₁ D.l2z) sb2 D.l2i1) sb3 D.l2TO) hy fun h₄ g2 sb4=>?_)
 refine wpAny_pure ?_
 have hTO4:IsPair h₄ TO x b:=(sb4.2 _ D.TOi2).trans hTO3
 refine wpAny_bind (wpAny_seqItems hTO4 rfl ?_)
 refine wpAny_bind (wpAny_updateSeq_pair hTO4 fun h₅ e5 sb5=>?_)
 refine wpAny_bind (wpAny_letGo ?_)
 refine wpAny_pure ?_
 dsimp only
 have hTO5:IsPair h₅ TO x y:=e5
 rw[List.forIn_nil]
 refine wpAny_pure ?_
 dsimp only
 refine wpAny_bind (wpAny_seqItems hTO5 rfl ?_)
 dsimp only
 refine wpAny_bind (wpAny_newTuple ?_ (by simp[sizeLine_eq]))
 have sz:h₅.objs.size=s.heap.objs.size:=sb5.1.trans (sb4.1.trans (sb3.1.trans (sb2.1.trans hs₁.1)))
 have hz5:h₅.get? z=some { cls:=.type "zip",data:=.fields #[Value.ellipsis,.bool false,.bool false,.ref TI,.ref TO] } :=
  (sb5.2 _ D.TOz.symm).trans ((sb4.2 _ D.i2z.symm).trans ((sb3.2 _ D.TOz.symm).trans ((sb2.2 _ D.i1z.symm).trans hz₁)))
 have hz6:(h₅.push { cls:=.type "tuple",data:=.seq #[x,y] }).get? z=some { cls:=.type "zip",data:=.fields #[Value.ellipsis,.bool false,.bool false,.ref TI,.ref TO] }:=Heap.get?_push_of_some _ hz5
 unfold Builtin.SmallTypes.ownedTupleHandOut
 refine wpAny_bind (wpAny_bind (wpAny_setField_rec hz6 (by simp) fun h₇ e7 sb7=>?_))
 refine wpAny_setField_rec (k:=1) e7 (by simp) fun h₈ e8 sb8=>?_
 refine wpAny_pure ⟨_,rfl,?_⟩
 have szz:z<s.heap.objs.size:=Heap.lt_size hz
 have nz:s.heap.objs.size≠z:=Nat.ne_of_gt szz
 have pz:∀ c,c≠z->h₈.get? c=(h₅.push { cls:=.type "tuple",data:=.seq #[x,y] }).get? c:=fun c hc=>(sb8.2 c hc).trans (sb7.2 c hc)
 have old:∀ c o,c≠z->h₅.get? c=some o->h₈.get? c=some o:=fun c o hc e=>(pz c hc).trans (Heap.get?_push_of_some _ e)
 rw[show({ s with heap:=h₅ }:Shared).heap.objs.size=s.heap.objs.size from sz] at e8 ⊢
 refine h h₈ ?_ (old _ _ D.TOz hTO5) ?_ ?_ ?_ ?_ ?_
 ·exact e8
 ·exact(g1.at fun o e=>old _ _ D.i1z ((sb5.2 _ D.TOi1.symm).trans ((sb4.2 _ D.i12).trans ((sb3.2 _ D.TOi1.symm).trans e))))
 ·exact(g2.at fun o e=>old _ _ D.i2z ((sb5.2 _ D.TOi2.symm).trans e))
 ·have e9:(h₅.push { cls:=.type "tuple",data:=.seq #[x,y] }).get? h₅.objs.size=some { cls:=.type "tuple",data:=.seq #[x,y] }:=Heap.get?_push_size _ rfl
  have sz':h₅.objs.size=s.heap.objs.size:=sz
  rw[sz'] at e9
  exact(pz _ nz).trans e9
 ·rw[sb8.1,sb7.1,Heap.size_push]
  exact congrArg (· + 1) (show h₅.objs.size=s.heap.objs.size from sz)
 ·intro c o c1 c2 c3 c4 e
  exact old c o c1 ((sb5.2 c c2).trans ((sb4.2 c c4).trans ((sb3.2 c c2).trans ((sb2.2 c c3).trans ((hs₁.2 c c1).trans e)))))
theorem pyNext_zipT_item {z TI TO i1 i2 l1 l2:Addr}{k1 k2:Nat}{xs ys:Array Value}{x y a b:Value}{Q:Option Value->Shared->Prop} (D:ZipApart z TI TO i1 i2 l1 l2) (hz:IsZip s.heap z TI TO .none) (hTI:IsPair s.heap TI (.ref i1) (.ref i2)) (hTO:IsPair s.heap TO a b)
  (h1:s.heap.IsTupleIter i1 l1 k1) (h2:s.heap.IsTupleIter i2 l2 k2) (p1:s.heap.IsTuple l1 xs) (p2:s.heap.IsTuple l2 ys) (hx:xs[k1]?=some x) (hy:ys[k2]?=some y)
  (h:∀ h',IsZip h' z TI TO (rawInt s.heap.objs.size)->IsPair h' TO x y->h'.IsTupleIter i1 l1 (k1+1)->h'.IsTupleIter i2 l2 (k2+1)->IsPair h' s.heap.objs.size x y->h'.objs.size=s.heap.objs.size+1 ->
   (∀ c o,c≠z->c≠TO->c≠i1->c≠i2->s.heap.get? c=some o->h'.get? c=some o)->Q (some (.ref s.heap.objs.size)) { s with heap:=h' }) :
  wpAny (model prog w) A (pyNext (.ref z)) Q E s:=by
 have tz:Shared.TypeIs s (.ref z) "zip":=⟨_,hz,rfl⟩
 unfold pyNext
 refine wpAny_bind (wpAny_attempt (wpAny_callSpecial?_slot tz F.slot_zip_next (wpAny_call_entry F.slot_zip_next tz F.entry_zip_next ?_ (F.args_zip_next_1 _))))
 refine zipT_next_item D hz hTI hTO h1 h2 p1 p2 hx hy fun h' a1 a2 a3 a4 a5 a6 a7=>?_
 exact wpAny_pure (h h' a1 a2 a3 a4 a5 a6 a7)
theorem zipT_next_end {z TI TO i1 i2 l1 l2:Addr}{k1 k2:Nat}{xs ys:Array Value}{a b:Value}{Q:PySem.Fin->Shared->Prop} (hh:A.handled=none) (D:ZipApart z TI TO i1 i2 l1 l2) (hz:IsZip s.heap z TI TO .none) (hTI:IsPair s.heap TI (.ref i1) (.ref i2)) (hTO:IsPair s.heap TO a b)
  (h1:s.heap.IsTupleIter i1 l1 k1) (h2:s.heap.IsTupleIter i2 l2 k2) (p1:s.heap.IsTuple l1 xs) (p2:s.heap.IsTuple l2 ys) (hxy:xs[k1]?=none∨ys[k2]?=none)
  (h:∀ h' e,(∀ c o,c≠z->c≠TO->c≠i1->c≠i2->s.heap.get? c=some o->h'.get? c=some o)->(∃ o,h'.get? e=some o/\o.cls=.type "StopIteration")->E (.ref e) { s with heap:=h' }) :
  wpAny (model prog w) A (Builtin.«zip.__next__» { pos:=[.ref z] }) Q E s:=by
 unfold Builtin.«zip.__next__»
 refine wpAny_bind (wpAny_of_eq (a:=(Value.ref z,[])) rfl ?_)
 dsimp only
 refine wpAny_bind (wpAny_field (x:=.bool false) hz rfl rfl ?_)
 refine wpAny_bind (wpAny_field (x:=.ref TI) hz rfl rfl ?_)
 refine wpAny_bind (wpAny_seqItems hTI rfl ?_)
 dsimp only
 rw[if_neg (by simp)]
 refine wpAny_bind ?_
 unfold Builtin.SmallTypes.ownedTupleIsFree
 refine wpAny_bind (wpAny_field (x:=.none) hz rfl rfl (wpAny_pure ?_))
 rw[if_pos rfl]
 refine wpAny_bind (wpAny_rule ?_)
 refine wpAny_bind (wpAny_field (x:=.ref TO) hz rfl rfl ?_)
 refine wpAny_bind (wpAny_setField_rec hz (by simp) fun h₁ hz₁ hs₁=>?_)
 refine wpAny_bind ?_
 show wpAny _ _ (forIn [(Value.ref i1,0),(Value.ref i2,1)] (none,()) _) _ _ _
 rw[List.forIn_cons]
 refine wpAny_bind ?_
 refine wpAny_bind (wpAny_onRaise ?_)
 have fin:∀ (g g':Heap) (e:Addr) (f0:Value),Heap.get? g z=some { cls:=.type "zip",data:=.fields #[f0,.bool false,.bool false,.ref TI,.ref TO] }->(∀ c o,c≠z->c≠TO->c≠i1->c≠i2->s.heap.get? c=some o->g.get? c=some o)->(∃ o,g.get? e=some o/\o.cls=.type "StopIteration") ->
   wpAny (model prog w) A (setField (.ref z) 0 .none) (fun _ s''=>E (.ref e) s'') E { s with heap:=g }:=fun g g' e f0 ez kk he=>by
  refine wpAny_setField_rec ez (by simp) fun g2 e2 sb2=>h g2 e (fun c o c1 c2 c3 c4 eo=>(sb2.2 c c1).trans (kk c o c1 c2 c3 c4 eo)) ?_
  obtain⟨o,eo,ec⟩:=he
  exact⟨o,(sb2.2 e (fun z'=>by rw[z',ez] at eo; cases eo; exact absurd (show Value.type "zip" = Value.type "StopIteration" from ec) (by decide +kernel))).trans eo,ec⟩
 cases hx:xs[k1]? with
 | none=>
  refine wpAny_bind (nextOf_tuple_end hh (h1.extBut hs₁.extBut D.i1z) (tupAt p1 hs₁ D.l1z) hx fun h₂ e sb2 he=>?_)
  exact fin h₂ h₂ e _ (sb2 _ _ D.i1z.symm hz₁) (fun c o c1 c2 c3 c4 eo=>sb2 _ _ c3 ((hs₁.2 c c1).trans eo)) he
 | some x=>
  have hy:ys[k2]?=none:=hxy.resolve_left (fun q=>by rw[hx] at q; cases q)
  refine wpAny_bind (nextOf_tuple_item (h1.extBut hs₁.extBut D.i1z) (tupAt p1 hs₁ D.l1z) hx fun h₂ g1 sb2=>?_)
  refine wpAny_pure ?_
  have hTO2:IsPair h₂ TO a b:=(sb2.2 _ D.TOi1).trans ((hs₁.2 _ D.TOz).trans hTO)
  refine wpAny_bind (wpAny_seqItems hTO2 rfl ?_)
  refine wpAny_bind (wpAny_updateSeq_pair hTO2 fun h₃ e3 sb3=>?_)
  refine wpAny_bind (wpAny_letGo ?_)
  refine wpAny_pure ?_
  dsimp only
  rw[List.forIn_cons]
  refine wpAny_bind ?_
  refine wpAny_bind (wpAny_onRaise ?_)
  have h2b:h₃.IsTupleIter i2 l2 k2:=((h2.extBut hs₁.extBut D.i2z).extBut sb2.extBut D.i12.symm).extBut sb3.extBut D.TOi2.symm
  refine wpAny_bind (nextOf_tuple_end hh h2b (tupAt (tupAt (tupAt p2 hs₁ D.l2z) sb2 D.l2i1) sb3 D.l2TO) hy fun h₄ e sb4 he=>?_)
  refine fin h₄ h₄ e _ (sb4 _ _ D.i2z.symm ((sb3.2 _ D.TOz.symm).trans ((sb2.2 _ D.i1z.symm).trans hz₁))) (fun c o c1 c2 c3 c4 eo=>sb4 _ _ c4 ((sb3.2 c c2).trans ((sb2.2 c c3).trans ((hs₁.2 c c1).trans eo)))) he
theorem pyNext_zipT_end {z TI TO i1 i2 l1 l2:Addr}{k1 k2:Nat}{xs ys:Array Value}{a b:Value}{Q:Option Value->Shared->Prop} (hh:A.handled=none) (D:ZipApart z TI TO i1 i2 l1 l2) (hz:IsZip s.heap z TI TO .none) (hTI:IsPair s.heap TI (.ref i1) (.ref i2)) (hTO:IsPair s.heap TO a b)
  (h1:s.heap.IsTupleIter i1 l1 k1) (h2:s.heap.IsTupleIter i2 l2 k2) (p1:s.heap.IsTuple l1 xs) (p2:s.heap.IsTuple l2 ys) (hxy:xs[k1]?=none∨ys[k2]?=none)
  (h:∀ h',(∀ c o,c≠z->c≠TO->c≠i1->c≠i2->s.heap.get? c=some o->h'.get? c=some o)->Q none { s with heap:=h' }) :
  wpAny (model prog w) A (pyNext (.ref z)) Q E s:=by
 have tz:Shared.TypeIs s (.ref z) "zip":=⟨_,hz,rfl⟩
 unfold pyNext
 refine wpAny_bind (wpAny_attempt (wpAny_callSpecial?_slot tz F.slot_zip_next (wpAny_call_entry F.slot_zip_next tz F.entry_zip_next ?_ (F.args_zip_next_1 _))))
 refine zipT_next_end hh D hz hTI hTO h1 h2 p1 p2 hxy fun h' e kk he=>?_
 obtain⟨o,eo,ec⟩:=he
 refine wpAny_bind (wpAny_isInstance (T := "StopIteration") ⟨o,eo,ec⟩ isSubtype_stop ?_)
 rw[if_pos rfl]
 exact wpAny_pure (h h' kk)
theorem call_zipT {l1 l2:Addr}{xs ys:Array Value}{Q:Value->Shared->Prop} (p1:s.heap.IsTuple l1 xs) (p2:s.heap.IsTuple l2 ys)
  (h:∀ h',IsZip h' (s.heap.objs.size+4) (s.heap.objs.size+2) (s.heap.objs.size+3) .none->IsPair h' (s.heap.objs.size+2) (.ref s.heap.objs.size) (.ref (s.heap.objs.size+1))->IsPair h' (s.heap.objs.size+3) .none .none ->
   h'.IsTupleIter s.heap.objs.size l1 0->h'.IsTupleIter (s.heap.objs.size+1) l2 0->h'.objs.size=s.heap.objs.size+5->(∀ c o,s.heap.get? c=some o->h'.get? c=some o)->Q (.ref (s.heap.objs.size+4)) { s with heap:=h' }) :
  wpAny (model prog w) A (call (.type "zip") [.ref l1,.ref l2]) Q E s:=by
 have hM:Meets (Builtin.«zip.__new__» { pos:=[.type "zip",.ref l1,.ref l2] }) (fun _ R s=>s.heap.IsTuple l1 xs/\s.heap.IsTuple l2 ys /\
   ∀ h',IsZip h' (s.heap.objs.size+4) (s.heap.objs.size+2) (s.heap.objs.size+3) .none->IsPair h' (s.heap.objs.size+2) (.ref s.heap.objs.size) (.ref (s.heap.objs.size+1))->IsPair h' (s.heap.objs.size+3) .none .none ->
   h'.IsTupleIter s.heap.objs.size l1 0->h'.IsTupleIter (s.heap.objs.size+1) l2 0->h'.objs.size=s.heap.objs.size+5->(∀ c o,s.heap.get? c=some o->h'.get? c=some o)->R (.ok (.ret (.ref (s.heap.objs.size+4)))) { s with heap:=h' }) :=
  .of_wp fun prog w A R s ⟨q1,q2,hq⟩=>by
   unfold Builtin.«zip.__new__»
   refine wpAny_bind ?_
   unfold Builtin.SmallTypes.newClass
   refine wpAny_bind (wpAny_of_eq (a:=true) rfl ?_)
   rw[if_neg (by decide)]
   refine wpAny_bind (wpAny_of_eq (a:=true) sub_zip ?_)
   rw[if_neg (by decide)]
   refine wpAny_pure ?_
   dsimp only
   rw[if_neg (by decide)]
   refine wpAny_bind ?_
   unfold Builtin.SmallTypes.iterAll
   refine wpAny_bind ?_
   rw[List.forIn_cons]
   refine wpAny_bind (wpAny_bind (wpAny_holding (wpAny_pyIter_tuple q1 (wpAny_pure ?_))))
   dsimp only
   rw[List.forIn_cons]
   have q2':(s.heap.push { cls:=.type "tuple_iterator",data:=.fields #[.ref l1,.int 0 0] }).IsTuple l2 ys:=by
    obtain⟨o,e,r⟩:=q2
    exact⟨o,Heap.get?_push_of_some _ e,r⟩
   refine wpAny_bind (wpAny_bind (wpAny_holding (wpAny_pyIter_tuple q2' (wpAny_pure ?_))))
   dsimp only
   rw[List.forIn_nil]
   refine wpAny_pure (wpAny_pure ?_)
   refine wpAny_bind (wpAny_newTuple ?_ (by simp[sizeLine_eq]))
   refine wpAny_bind (wpAny_newTuple ?_ (by simp[sizeLine_eq]))
   refine wpAny_bind ?_
   unfold Builtin.SmallTypes.newRecord
   refine wpAny_newObj_type ?_ (by simp[PySem.sizeOk,Builtin.SmallTypes.ownedTupleFields,sizeLine_eq])
   refine wpAny_pure ⟨_,rfl,?_⟩
   have n1:(s.heap.push { cls:=.type "tuple_iterator",data:=.fields #[.ref l1,.int 0 0] }).objs.size=s.heap.objs.size+1:=Heap.size_push _ _
   have n2:((s.heap.push { cls:=.type "tuple_iterator",data:=.fields #[.ref l1,.int 0 0] }).push { cls:=.type "tuple_iterator",data:=.fields #[.ref l2,.int 0 0] }).objs.size=s.heap.objs.size+2:=by rw[Heap.size_push,n1]
   generalize hg1:s.heap.push { cls:=.type "tuple_iterator",data:=.fields #[.ref l1,.int 0 0] }=g1 at *
   generalize hg2:g1.push { cls:=.type "tuple_iterator",data:=.fields #[.ref l2,.int 0 0] }=g2 at *
   show R (.ok (.ret (.ref ((g2.push { cls:=.type "tuple",data:=.seq #[.ref s.heap.objs.size,.ref g1.objs.size] }).push { cls:=.type "tuple",data:=.seq #[.none,.none] }).objs.size))) { s with heap:=((g2.push { cls:=.type "tuple",data:=.seq #[.ref s.heap.objs.size,.ref g1.objs.size] }).push { cls:=.type "tuple",data:=.seq #[.none,.none] }).push { cls:=.type "zip",data:=.fields #[.none,.bool false,.bool false,.ref g2.objs.size,.ref (g2.push { cls:=.type "tuple",data:=.seq #[.ref s.heap.objs.size,.ref g1.objs.size] }).objs.size] } }
   have n3:(g2.push { cls:=.type "tuple",data:=.seq #[.ref s.heap.objs.size,.ref g1.objs.size] }).objs.size=s.heap.objs.size+3:=by rw[Heap.size_push,n2]
   have i1:g1.get? s.heap.objs.size=some { cls:=.type "tuple_iterator",data:=.fields #[.ref l1,.int 0 0] }:=by rw[<- hg1]; exact Heap.get?_push_size _ rfl
   have i2:g2.get? (s.heap.objs.size+1)=some { cls:=.type "tuple_iterator",data:=.fields #[.ref l2,.int 0 0] }:=by rw[<- hg2,<- n1]; exact Heap.get?_push_size _ rfl
   have i1':g2.get? s.heap.objs.size=some { cls:=.type "tuple_iterator",data:=.fields #[.ref l1,.int 0 0] }:=by rw[<- hg2]; exact Heap.get?_push_of_some _ i1
   have k2:∀ c o,s.heap.get? c=some o->g2.get? c=some o:=fun c o e=>by rw[<- hg2,<- hg1]; exact Heap.get?_push_of_some _ (Heap.get?_push_of_some _ e)
   rw[n1]
   rw[n1] at n3
   generalize hg3:g2.push { cls:=.type "tuple",data:=.seq #[.ref s.heap.objs.size,.ref (s.heap.objs.size+1)] }=g3 at *
   have i3:g3.get? (s.heap.objs.size+2)=some { cls:=.type "tuple",data:=.seq #[.ref s.heap.objs.size,.ref (s.heap.objs.size+1)] }:=by rw[<- hg3,<- n2]; exact Heap.get?_push_size _ rfl
   have k3:∀ c o,g2.get? c=some o->g3.get? c=some o:=fun c o e=>by rw[<- hg3]; exact Heap.get?_push_of_some _ e
   have n4:(g3.push { cls:=.type "tuple",data:=.seq #[.none,.none] }).objs.size=s.heap.objs.size+4:=by rw[Heap.size_push,n3]
   generalize hg4:g3.push { cls:=.type "tuple",data:=.seq #[.none,.none] }=g4 at *
   have i4:g4.get? (s.heap.objs.size+3)=some { cls:=.type "tuple",data:=.seq #[.none,.none] }:=by rw[<- hg4,<- n3]; exact Heap.get?_push_size _ rfl
   have k4:∀ c o,g3.get? c=some o->g4.get? c=some o:=fun c o e=>by rw[<- hg4]; exact Heap.get?_push_of_some _ e
   rw[n2,n3,n4]
   have k5:∀ c o,g4.get? c=some o->(g4.push { cls:=.type "zip",data:=.fields #[.none,.bool false,.bool false,.ref (s.heap.objs.size+2),.ref (s.heap.objs.size+3)] }).get? c=some o:=fun c o e=>Heap.get?_push_of_some _ e
   refine hq _ ?_ (k5 _ _ (k4 _ _ i3)) (k5 _ _ i4) ⟨_,k5 _ _ (k4 _ _ (k3 _ _ i1')),rfl,rfl⟩ ⟨_,k5 _ _ (k4 _ _ (k3 _ _ i2)),rfl,rfl⟩ ?_ (fun c o e=>k5 _ _ (k4 _ _ (k3 _ _ (k2 _ _ e))))
   ·show Heap.get? _ (s.heap.objs.size+4)=_
    rw[<- n4]; exact Heap.get?_push_size _ rfl
   ·rw[Heap.size_push,n4]
 refine callType_new F.called_zip (by decide) (F.typeCall_zip_2 _ _) (F.newCall_zip_2 _ _) (fun obj=>F.args_object_init_3 _ _ _) F.entry_zip_new hM ⟨p1,p2,fun h' a1 a2 a3 a4 a5 a6 a7=>?_⟩
 exact⟨⟨_,a1,rfl⟩,h h' a1 a2 a3 a4 a5 a6 a7⟩
end
end L2
namespace L2
open PySem PySem.Spec PyProof.Rows
theorem sq_ne {X:Cx}{pins:List (Addr×Obj)}{σ:St}{H:Hp}{s:Shared}{a b:Addr}{xs:List V} (I:Inv X pins σ H s) (f:FpOk X pins H b) (q:SqT X.K H a xs):a≠b:=fun e=>by
 subst e
 rcases q with (q | ⟨o,q⟩) | ⟨o,its,n,hk,_⟩
 ·rw[f.1] at q; cases q
 ·rw[f.1] at q; cases q
 ·have hb:=I.ok.mod.kin a o hk
  rcases f.2.2.2.1 with hx | hx
  ·exact I.ok.noex a o hb hx
  ·exact absurd (Nat.lt_of_lt_of_le (Heap.lt_size hb) (Nat.le_trans I.ok.bsz hx)) (Nat.lt_irrefl _)
def ItzT (K:PySem.W.Frag) (a b:Addr):It :=
 ⟨fun i H=>∃ xs x ys y,SqT K H a xs/\xs[i]?=some x/\SqT K H b ys/\ys[i]?=some y,
  fun i H v H'=>∃ p x y,v=.ref p/\H p=none/\H'=upd H p (.tup [x,y])/\(∀ xs,SqT K H a xs->xs[i]?=some x)/\∀ ys,SqT K H b ys->ys[i]?=some y,
  fun i H=>∃ xs ys,SqT K H a xs/\SqT K H b ys/\(xs.length<=i∨ys.length<=i)⟩
theorem turn_zipT {P:Program}{w:World}{K:PySem.W.Frag}{es:List Expr}{x1}{pos:Pos} (a b z TI TO i1 i2:Addr):Turn P w K (.Tuple es x1 pos) (ItzT K a b) [z,TI,TO,i1,i2] z
  (fun i h=>IsZip h z TI TO .none/\IsPair h TI (.ref i1) (.ref i2)/\(∃ u v,IsPair h TO u v)/\h.IsTupleIter i1 a i/\h.IsTupleIter i2 b i/\TI≠TO/\i1≠i2) where
 mem:=by simp
 obj:=fun i h ⟨hz,hTI,⟨u,v,hTO⟩,h1,h2,_⟩ c hc=>by
  simp only[mem_cons,not_mem_nil,or_false] at hc
  rcases hc with rfl | rfl | rfl | rfl | rfl
  ·exact⟨_,hz,fun v q=>by cases (show Data.fields _=Data.cell v from q)⟩
  ·exact⟨_,hTI,fun v q=>by cases (show Data.seq _ _=Data.cell v from q)⟩
  ·exact⟨_,hTO,fun v q=>by cases (show Data.seq _ _=Data.cell v from q)⟩
  ·obtain⟨o,e,_,d⟩:=h1
   exact⟨o,e,fun v q=>by rw[d] at q; cases q⟩
  ·obtain⟨o,e,_,d⟩:=h2
   exact⟨o,e,fun v q=>by rw[d] at q; cases q⟩
 keep:=fun i h h' ⟨hz,hTI,⟨u,v,hTO⟩,h1,h2,n1,n2⟩ k=>⟨k z (by simp) _ hz,k TI (by simp) _ hTI,⟨u,v,k TO (by simp) _ hTO⟩,h1.at fun o e=>k i1 (by simp) o e,h2.at fun o e=>k i2 (by simp) o e,n1,n2⟩
 item:=by
  intro X hP hw hK hc i pins s σ H E I hf ⟨hz,hTI,⟨u,v,hTO⟩,h1,h2,n1,n2⟩ hg
  subst hP hw hK
  obtain⟨xs,x,ys,y,hqa,hx,hqb,hy⟩:=hg
  obtain⟨its,rv,p,hsz⟩:=I.tuple hqa
  obtain⟨jts,rw',p',hsz'⟩:=I.tuple hqb
  obtain⟨ux,hux,rux⟩:=rv.get hx
  obtain⟨uy,huy,ruy⟩:=rw'.get hy
  have D:ZipApart z TI TO i1 i2 a b:=by
   obtain⟨oa,ea,ca,_,_⟩:=p
   obtain⟨ob,eb,cb,_,_⟩:=p'
   obtain⟨o1,e1,c1,_⟩:=h1
   obtain⟨o2,e2,c2,_⟩:=h2
   have dz:∀ {c:Addr}{o:Obj}{T:String},s.heap.get? c=some o->o.cls=.type T->T ≠ "zip" -> c≠z:=fun e q n r=>by
    rw[r,hz] at e; cases e; cases q; exact n rfl
   have dT:∀ {c d:Addr}{o q:Obj}{T U:String},s.heap.get? c=some o->o.cls=.type T->s.heap.get? d=some q->q.cls=.type U->T≠U->c≠d:=fun e1 c1 e2 c2 n r=>by
    subst r; rw[e1] at e2; cases e2; rw[c1] at c2; cases c2; exact n rfl
   exact⟨dz hTI rfl (by decide),dz hTO rfl (by decide),dz e1 c1 (by decide),dz e2 c2 (by decide),n1,dT hTI rfl e1 c1 (by decide),dT hTI rfl e2 c2 (by decide),dT hTO rfl e1 c1 (by decide),dT hTO rfl e2 c2 (by decide),n2,
    dz ea ca (by decide),sq_ne I (hf TO (by simp)) hqa,dT ea ca e1 c1 (by decide),dT ea ca e2 c2 (by decide),dz eb cb (by decide),sq_ne I (hf TO (by simp)) hqb,dT eb cb e1 c1 (by decide),dT eb cb e2 c2 (by decide)⟩
  refine pyNext_zipT_item D hz hTI hTO h1 h2 (show s.heap.IsTuple a its.toArray from p) (show s.heap.IsTuple b jts.toArray from p') (x:=ux) (y:=uy) (by simpa using hux) (by simpa using huy) fun h' a1 a2 a3 a4 a5 a6 hk=>?_
  refine⟨_,rfl,?_⟩
  refine wpAny_letOwnedTupleGo_zip (s:={ s with heap:=h' }) a1 fun h2' hz' hs'=>?_
  have lt:∀ b ∈ [z,TI,TO,i1,i2],b<s.heap.objs.size:=fun c hcm=>by
   simp only[mem_cons,not_mem_nil,or_false] at hcm
   rcases hcm with rfl | rfl | rfl | rfl | rfl
   ·exact Heap.lt_size hz
   ·exact Heap.lt_size hTI
   ·exact Heap.lt_size hTO
   ·obtain⟨o,e,_⟩:=h1; exact Heap.lt_size e
   ·obtain⟨o,e,_⟩:=h2; exact Heap.lt_size e
  have hTI2:IsPair h2' TI (.ref i1) (.ref i2):=hs'.extBut _ _ D.TIz (hk _ _ D.TIz D.TITO D.TIi1 D.TIi2 hTI)
  have hTO2:IsPair h2' TO ux uy:=hs'.extBut _ _ D.TOz a2
  have h12:h2'.IsTupleIter i1 a (i+1):=a3.extBut hs'.extBut D.i1z
  have h22:h2'.IsTupleIter i2 b (i+1):=a4.extBut hs'.extBut D.i2z
  have pz:s.heap.objs.size≠z:=Nat.ne_of_gt (Heap.lt_size hz)
  have hp2:IsPair h2' s.heap.objs.size ux uy:=hs'.extBut _ _ pz a5
  have kk:∀ c o,c ∉ [z,TI,TO,i1,i2]->s.heap.get? c=some o->h2'.get? c=some o:=fun c o hcm e=>by
   simp only[mem_cons,not_mem_nil,or_false,not_or] at hcm
   exact hs'.extBut _ _ hcm.1 (hk c o hcm.1 hcm.2.2.1 hcm.2.2.2.1 hcm.2.2.2.2 e)
  have I1:Inv X pins σ H { s with heap:=h2',toks:=s.toks }:=I.turnedL kk hf
  have fP:FpOk X pins H s.heap.objs.size:=I.fpOk (Nat.le_refl _) (I.hok.fresh (Nat.le_refl _))
  have I2:Inv X pins σ (upd H s.heap.objs.size (.tup [x,y])) { s with heap:=h2',toks:=s.toks }:=by
   refine I1.track I.sz (fP.2.1) fP.2.2.2.2.1 fP.2.2.2.2.2 fP.1 ?_
   exact⟨(show 2<=sizeLine by decide),[ux,uy],.cons rux (.cons ruy .nil),⟨_,hp2,rfl,_,rfl⟩⟩
  refine⟨.ref s.heap.objs.size,_,I2,rfl,⟨_,x,y,rfl,fP.1,rfl,fun zs hzs=>by rw[I.tuple_inj hzs hqa]; exact hx,fun zs hzs=>by rw[I.tuple_inj hzs hqb]; exact hy⟩,⟨hz',hTI2,⟨_,_,hTO2⟩,h12,h22,n1,n2⟩,fun c hcm=>?_⟩
  rw[upd_ne (Nat.ne_of_lt (lt c hcm))]
  exact(hf c hcm).1
 done:=by
  intro X hP hw hK hc i pins s σ H E I hf ⟨hz,hTI,⟨u,v,hTO⟩,h1,h2,n1,n2⟩ hg
  subst hP hw hK
  obtain⟨xs,ys,hqa,hqb,hend⟩:=hg
  obtain⟨its,rv,p,hsz⟩:=I.tuple hqa
  obtain⟨jts,rw',p',hsz'⟩:=I.tuple hqb
  have D:ZipApart z TI TO i1 i2 a b:=by
   obtain⟨oa,ea,ca,_,_⟩:=p
   obtain⟨ob,eb,cb,_,_⟩:=p'
   obtain⟨o1,e1,c1,_⟩:=h1
   obtain⟨o2,e2,c2,_⟩:=h2
   have dz:∀ {c:Addr}{o:Obj}{T:String},s.heap.get? c=some o->o.cls=.type T->T ≠ "zip" -> c≠z:=fun e q n r=>by
    rw[r,hz] at e; cases e; cases q; exact n rfl
   have dT:∀ {c d:Addr}{o q:Obj}{T U:String},s.heap.get? c=some o->o.cls=.type T->s.heap.get? d=some q->q.cls=.type U->T≠U->c≠d:=fun e1 c1 e2 c2 n r=>by
    subst r; rw[e1] at e2; cases e2; rw[c1] at c2; cases c2; exact n rfl
   exact⟨dz hTI rfl (by decide),dz hTO rfl (by decide),dz e1 c1 (by decide),dz e2 c2 (by decide),n1,dT hTI rfl e1 c1 (by decide),dT hTI rfl e2 c2 (by decide),dT hTO rfl e1 c1 (by decide),dT hTO rfl e2 c2 (by decide),n2,
    dz ea ca (by decide),sq_ne I (hf TO (by simp)) hqa,dT ea ca e1 c1 (by decide),dT ea ca e2 c2 (by decide),dz eb cb (by decide),sq_ne I (hf TO (by simp)) hqb,dT eb cb e1 c1 (by decide),dT eb cb e2 c2 (by decide)⟩
  have e1:=rv.length
  have e2:=rw'.length
  refine pyNext_zipT_end (I.ok.hd hc) D hz hTI hTO h1 h2 (show s.heap.IsTuple a its.toArray from p) (show s.heap.IsTuple b jts.toArray from p') (k1:=i) (k2:=i) (by
   rcases hend with h | h
   ·left; simp; omega
   ·right; simp; omega) fun h' hk=>⟨rfl,?_⟩
  exact I.turnedL (t':=s.toks) (fun c o hcm e=>by
   simp only[mem_cons,not_mem_nil,or_false,not_or] at hcm
   exact hk c o hcm.1 hcm.2.2.1 hcm.2.2.2.1 hcm.2.2.2.2 e) hf
 self:=fun _ _ _ _ _ st h=>wpAny_pyIter_zip st.1 h
section
variable {X:Cx}
def iZipT (K:PySem.W.Frag) (ta:TA):TI:=fun σ H R=>ta σ H fun vs H1=>∃ a b,vs=[.ref a,.ref b]/\(∃ xs,SqT K H1 a xs)/\(∃ ys,SqT K H1 b ys)/\R (ItzT K a b) H1
theorem pi_zipTT {es:List Expr}{x1}{tpos:Pos}{e1 e2:Expr}{ta:TA}{p pos:Pos} (hg:Gl X "zip") (hm:X.mg "zip" = none) (ha:PA X [e1,e2] ta) (hs:starEach [e1,e2] X.env=[(false,eval e1 X.env),(false,eval e2 X.env)]:=by rfl) (hs2:starEach [e2] X.env=[(false,eval e2 X.env)]:=by rfl) :
  PI X (.Tuple es x1 tpos) (.Call (.Name "zip" p) [e1,e2] [] pos) (iZipT X.K ta):=by
 intro pins s σ H R I h
 refine Call_ (ld_blt I hg hm (by rfl) (PyProof.Rows.callWith_type1 (thn (ha pos pins s σ H _ I h) fun us s1 ⟨vs,H1,I1,r1,q1⟩=>?_) (by rw[hs,hs2]) (by rw[hs2]; rfl)))
 obtain⟨a,b,rfl,⟨xs,hqa⟩,⟨ys,hqb⟩,q⟩:=q1
 obtain⟨u1,u2,rfl,ru1,ru2⟩:=vals2 r1
 cases (show u1=Value.ref a from ru1)
 cases (show u2=Value.ref b from ru2)
 obtain⟨its,rv,pa,hsz⟩:=I1.tuple hqa
 obtain⟨jts,rw',pb,hsz'⟩:=I1.tuple hqb
 refine call_zipT (show s1.heap.IsTuple a its.toArray from pa) (show s1.heap.IsTuple b jts.toArray from pb) fun h' hz hTI hTO h1 h2 hsize hk=>?_
 refine wpAny_pyIter_zip (s:={ s1 with heap:=h' }) hz ?_
 refine⟨_,_,_,_,H1,rfl,I1.kept (t':=s1.toks) hk,turn_zipT a b (s1.heap.objs.size+4) (s1.heap.objs.size+2) (s1.heap.objs.size+3) s1.heap.objs.size (s1.heap.objs.size+1),⟨hz,hTI,⟨_,_,hTO⟩,h1,h2,(fun z=>by have:s1.heap.objs.size+2=s1.heap.objs.size+3:=z; omega),(fun z=>by have:s1.heap.objs.size=s1.heap.objs.size+1:=z; omega)⟩,fun c hc=>?_,q⟩
 have hge:s1.heap.objs.size<=c:=by
  simp only[mem_cons,not_mem_nil,or_false] at hc
  rcases hc with h | h | h | h | h <;> (rw[h]; omega)
 exact I1.fpOk hge (I1.hok.fresh hge)
end
end L2
set_option Elab.async false
set_option linter.all false
set_option maxRecDepth 100000
namespace L2
open PySem PySem.Spec PyProof.Rows
def strsL:List Value->List Str->Bool
 | [],[]=>true
 | .str x _::vs,y::ys=>(x == y) && strsL vs ys
 | _,_=>false
def tupLooks (get:Addr->Option Obj) (ss:List Str) (v:Value):Bool :=
 match v with
 | .ref b=>(match get b with
  | some o=>(o.cls == .type "tuple") && (match o.data with | .seq its _=>strsL its.toList ss | _=>false)
  | none=>false)
 | _=>false
abbrev TabT (K:PySem.W.Frag) (a:Addr) (D:List (Str×List Str)):Prop:=KTD.tabLook (tupLooks fun b=>K.lookup b) (fun b=>K.lookup b) a D=true
theorem strsL_flats:∀ {vs:List Value}{ss:List Str},strsL vs ss=true->KTD.Flats vs (ss.map PyData.str)
 | [],[],_=>.nil
 | .str x t::vs,y::ys,h=>by
  have h:((x == y) && strsL vs ys)=true:=h
  rw[Bool.and_eq_true] at h
  have e:x=y:=by simpa using h.1
  subst e
  exact .cons (.str x t) (strsL_flats h.2)
theorem flats_vals:∀ {vs:List Value}{ss:List Str},KTD.Flats vs (ss.map PyData.str)->Vals (ss.map V.str) vs
 | _,[],h=>by cases h; exact .nil
 | _,y::ys,h=>by
  cases h with
  | cons f r=>exact .cons (PyProof.V.Flat.str_inv f) (flats_vals r)
theorem flats_len:∀ {vs:List Value}{ds:List PyData},KTD.Flats vs ds->vs.length=ds.length
 | _,_,.nil=>rfl
 | _,_,.cons _ r=>by rw[length_cons,length_cons,flats_len r]
section
variable {X:Cx}{pins:List (Addr×Obj)}{σ:St}{H:Hp}{s:Shared}
def onlyK (K:PySem.W.Frag) (h:Heap):Heap:=PySem.W.hideAll h ((List.range h.objs.size).filter fun b=>(K.lookup b).isNone)
theorem onlyK_get (kin:∀ a o,X.K.lookup a=some o->s.heap.get? a=some o) {a:Addr}{o:Obj} (h:X.K.lookup a=some o):(onlyK X.K s.heap).get? a=some o :=
 PySem.W.hideAll_get _ (kin a o h) fun hm=>by
  have:=(List.mem_filter.mp hm).2
  rw[h] at this; cases this
theorem onlyK_of {a:Addr}{o:Obj} (kin:∀ a o,X.K.lookup a=some o->s.heap.get? a=some o) (h:(onlyK X.K s.heap).get? a=some o):X.K.lookup a=some o:=by
 have h1:s.heap.get? a=some o:=PySem.W.of_hideAll _ h
 cases hk:X.K.lookup a with
 | some o'=>rw[kin a o' hk] at h1; exact h1
 | none=>
  have:(onlyK X.K s.heap).get? a=none:=PySem.W.hideAll_none _ (List.mem_filter.mpr ⟨mem_range.mpr (Heap.lt_size h1),by rw[hk]; rfl⟩)
  rw[h] at this; cases this
theorem looks_at (kin:∀ a o,X.K.lookup a=some o->s.heap.get? a=some o) (ss:List Str) (v:Value) (h:tupLooks (fun b=>X.K.lookup b) ss v=true):KTD.Dat.At (onlyK X.K s.heap) (.tup (ss.map PyData.str)) v:=by
 unfold tupLooks at h
 split at h
 ·rename_i b
  split at h
  ·rename_i o ho
   rw[Bool.and_eq_true] at h
   obtain⟨h1,h2⟩:=h
   split at h2
   ·rename_i its n hd
    exact⟨b,its.toList,rfl,⟨o,onlyK_get kin ho,by simpa using h1,n,by simpa using hd⟩,strsL_flats h2⟩
   ·cases h2
  ·cases h
 ·cases h
theorem tabT_here (I:Inv X pins σ H s) {a:Addr}{D:List (Str×List Str)} (T:TabT X.K a D):KTD.Here (onlyK X.K s.heap) s.heap a (D.map fun p=>(p.1,KTD.Dat.tup (p.2.map PyData.str))):=by
 have kin:∀ a o,X.K.lookup a=some o->s.heap.get? a=some o:=fun b o e=>I.kIn b o e
 obtain⟨h1,o,es,ep,h2,h3,h4,h5⟩:=KTD.tab_of_look (h:=onlyK X.K s.heap) (R:=fun(d:List Str) v=>KTD.Dat.At (onlyK X.K s.heap) (.tup (d.map PyData.str)) v) (fun d v h=>looks_at kin d v h) (fun b o e=>onlyK_get kin e) T
 exact⟨⟨h1,o,es,ep,h2,h3,h4,h5.mono (f:=fun d:List Str=>KTD.Dat.tup (d.map PyData.str)) (fun d v h=>h)⟩,fun b o e=>PySem.W.of_hideAll _ e⟩
theorem datumAt_T (k : Str) : ∀ D : List (Str×List Str), KTD.datumAt k (D.map fun p=>(p.1, KTD.Dat.tup (p.2.map PyData.str)))=(D.lookup k).map fun ss=>KTD.Dat.tup (ss.map PyData.str)
  | []=>rfl
  | (x, d) :: D => by
    rw[map_cons, KTD.datumAt, lookup_cons, datumAt_T k D]
    by_cases hk : k=x
    · subst hk; simp
    · have : (k == x)=false := beq_eq_false_iff_ne.mpr hk
      simp[hk, this]
def tIxT (td ty:TE) (K:PySem.W.Frag):TE:=fun σ H Q=>td σ H fun x H1=>ty σ H1 fun y H2=>∃ k a D ss,x=V.ref a/\y=V.str k/\TabT K a D/\D.lookup k=some ss/\ss.length<=1000/\∀ b,(∀ H3,SqT K H3 b (ss.map V.str))->Q (.ref b) H2
theorem pe_ixT {o i:Expr}{pos:Pos}{td ty:TE} (ho:PE X o td) (hi:PE X i ty) (hs:NoSl i):PE X (.Subscript o i pos) (tIxT td ty X.K):=by
 intro pins s σ H Q I h
 refine subD_of PySem.F.slot_dict_getitem.lookup hs (thn (ho pins s σ H _ I h) fun u s1 ⟨x,H1,I1,rx,q1⟩=>thn (hi pins s1 σ H1 _ I1 q1) fun iv s2 ⟨y,H2,I2,ry,k,a,D,ss,ex,ey,T,l,sb,q2⟩=>?_)
 subst ex ey
 obtain rfl:u=Value.ref a:=rx
 obtain⟨t,rfl⟩:=(show ∃ t,iv=Value.str k t from ry)
 have hT:=tabT_here I2 T
 refine⟨hT.typeIs,?_⟩
 have hat:KTD.datumAt k (D.map fun p=>(p.1,KTD.Dat.tup (p.2.map PyData.str)))=some (KTD.Dat.tup (ss.map PyData.str)):=by rw[datumAt_T,l]; rfl
 have hmem:KTD.inKeys k (D.map fun p=>(p.1,KTD.Dat.tup (p.2.map PyData.str)))=true:=by rw[<- KTD.isSome_datumAt,hat]; rfl
 unfold getItem
 try with_reducible refine wpAny_holding ?_
 refine wpAny_bind (wpAny_sequenceKey hT.typeIs (by decide) ?_)
 refine wpAny_bind (wpAny_callSpecial?_slot (name:=Str.ofString "__getitem__") hT.typeIs slot_dict_getitem
  (wpAny_call_entry slot_dict_getitem hT.typeIs entry_dict_getitem ?_ (args_dict_getitem _ _)))
 show wpAny _ _ (dictGet a (.str k t) >>= _) _ _ s2
 refine wpAny_bind (KTD.dictGet_text hT (fun d v ha hv=>wpAny_pure ⟨v,rfl,wpAny_pure ?_⟩) fun hn=>absurd hn (KTD.at_of_mem hmem))
 rw[hat] at ha
 cases ha
 obtain⟨b,vs,rfl,⟨ob,e1,e2,n,e3⟩,fl⟩:=hv
 have lv:vs.length=ss.length:=by have:=flats_len fl; rw[length_map] at this; exact this
 exact⟨.ref b,H2,I2.tok _,rfl,q2 b fun _=>(.inr ⟨ob,vs.toArray,n,onlyK_of (fun b o e=>I2.kIn b o e) e1,e2,e3,by rw[size_toArray,lv]; exact Nat.le_of_lt (sizeOk (by omega)),by simpa using flats_vals fl⟩)⟩
theorem for_zipT {K:PySem.W.Frag}{a b:Addr}{xs ys:List V}{g:TG}{tb:TS}{D:Ends}{σ:St}{H:Hp} (hl:xs.length=ys.length) (Pv:Nat->St->Hp->Prop) (h0:Pv 0 σ H) (ha:∀ i σ H,i<=xs.length->Pv i σ H->SqT K H a xs/\SqT K H b ys)
  (hs:∀ i x y σ H p,xs[i]?=some x->ys[i]?=some y->Pv i σ H->H p=none->g (.ref p) σ (upd H p (.tup [x,y])) fun σ2 H2=>tb { D with nx:=Pv (i+1),ct:=Pv (i+1),bk:=D.nx } σ2 H2) (hd:∀ σ H,Pv xs.length σ H->D.nx σ H) :
  ∃ W:Nat->Nat->St->Hp->Prop,(∃ m,W 0 m σ H)/\∀ i m σ H,W i m σ H ->
   ((ItzT K a b).stop i H/\D.nx σ H)∨((ItzT K a b).go i H/\∃ N:St->Hp->Prop,(∀ σ' H',N σ' H'->∃ m',m'<m/\W (i+1) m' σ' H')/\∀ x H',(ItzT K a b).yld i H x H'->g x σ H' fun σ2 H2=>tb { D with nx:=N,ct:=N,bk:=D.nx } σ2 H2):=by
 refine⟨fun i m σ H=>m=xs.length - i/\i<=xs.length/\Pv i σ H,⟨_,rfl,Nat.zero_le _,h0⟩,?_⟩
 rintro i m σ H ⟨rfl,hi,hp⟩
 obtain⟨qa,qb⟩:=ha i σ H hi hp
 by_cases c:i<xs.length
 ·refine .inr ⟨⟨xs,xs[i],ys,ys[i]'(by omega),qa,getElem?_eq_getElem c,qb,getElem?_eq_getElem (by omega)⟩,Pv (i+1),fun σ' H' h'=>⟨_,by omega,rfl,by omega,h'⟩,?_⟩
  rintro v H' ⟨p,x,y,rfl,hpn,rfl,hx,hy⟩
  exact hs i x y σ H p (hx _ qa) (hy _ qb) hp hpn
 ·have e:i=xs.length:=by omega
  subst e
  exact .inl ⟨⟨xs,ys,qa,qb,.inl (Nat.le_refl _)⟩,hd σ H hp⟩
end
end L2
set_option Elab.async false
set_option linter.all false
set_option maxRecDepth 100000
namespace L2
open PySem PySem.Spec PyProof.Rows
section
variable {X:Cx}
theorem call_range2:CallR X (.type "range") (fun xs H Q=>∃ i j:Int,xs=[.int i,.int j]/\∀ p,H p=none->Q (.ref p) (upd H p (.rng i j))):=by
 intro pins s σ H xs us Q I r h
 obtain⟨i,j,rfl,q⟩:=h
 obtain⟨u,u',rfl,⟨t,rfl⟩,⟨t',rfl⟩⟩:=vals2 r
 refine call_range_2 ⟨.ref s.heap.objs.size,_,I.laid (fun b o e=>Heap.get?_push_of_some _ e) (Nat.le_refl _) ?_,rfl,q _ (I.hok.fresh (Nat.le_refl _))⟩
 exact⟨_,_,_,Heap.get?_push_size _ rfl⟩
def intsF (lo:Int) (n:Nat):List V:=(List.range n).map fun(i:Nat)=>V.int (lo+(i:Int))
theorem intsF_length (lo:Int) (n:Nat):(intsF lo n).length=n:=by simp[intsF]
theorem intsF_get {lo:Int}{n i:Nat} (h:i<n):(intsF lo n)[i]?=some (.int (lo+(i:Int))):=by simp[intsF,h]
theorem call_list_rng2 (hc:X.calm=true):CallR X (.type "list") (fun xs H Q=>∃ p i j,xs=[.ref p]/\H p=some (.rng i j)/\0<=i/\i<=2 ^ 24/\0<=j/\j<=2 ^ 24/\∀ l,H l=none->Q (.ref l) (upd H l (.lst (intsF i (j - i).toNat)))):=by
 intro pins s σ H xs us Q I r h
 obtain⟨p,i0,j,rfl,hp,h2,h3,h0,h1,q⟩:=h
 obtain⟨u,rfl,ru⟩:=vals1 r
 cases (show u=Value.ref p from ru)
 obtain⟨t,u,v,e⟩:=(show ObjOk X.prog X.w H s.heap p (.rng i0 j) from I.hok p _ hp)
 have sz:((j - i0).toNat:Nat)<=sizeLine:=by rw[sizeLine_eq]; omega
 refine call_list_range (n:=(j - i0).toNat) (I.ok.hd hc) e (small_one (by omega) (by omega) (by omega) (by omega)) (by rw[rangeSize_one]; split <;> omega) (by omega) fun h' tk acc c hk hS hi=>?_
 refine⟨.ref s.heap.objs.size,_,I.laid hk (Nat.le_refl _) ?_,rfl,q _ (I.hok.fresh (Nat.le_refl _))⟩
 refine⟨by rw[intsF_length]; exact sz,acc.toList,c,vals_of_items (P:=fun i v=>∃ t,v=.int (i0+i*1) t) (by rw[intsF_length,Array.length_toList]; exact hi.1) (fun i v e=>hi.2 i v (by simpa using e)) (fun i v x ⟨t,e⟩ ex=>?_),by simpa using hS⟩
 subst e
 have hlt:i<(j - i0).toNat:=by
  have:=(List.getElem?_eq_some_iff.mp ex).1
  rw[intsF_length] at this; exact this
 rw[intsF_get hlt] at ex
 cases ex
 exact⟨t,by congr 1; omega⟩
end
end L2
set_option Elab.async false
set_option linter.all false
set_option maxRecDepth 100000
namespace L2
open PySem PySem.Spec PyProof.Rows
mutual
def DV (K:PySem.W.Frag) (H:Hp):PyData->V->Prop
 | .none,v=>v=.non
 | .bool b,v=>v=.bl b
 | .int i,v=>v=.int i
 | .str x,v=>v=.str x
 | .list ds,v=>∃ (a:Addr) (xs:List V),v=.ref a/\SqL K H a xs/\DVs K H ds xs
 | .tuple ds,v=>∃ (a:Addr) (xs:List V),v=.ref a/\SqT K H a xs/\DVs K H ds xs
 | .dict _,_=>False
def DVs (K:PySem.W.Frag) (H:Hp):List PyData->List V->Prop
 | [],xs=>xs=[]
 | d::ds,xs=>∃ v r,xs=v::r/\DV K H d v/\DVs K H ds r
end
section
variable {X:Cx}{pins:List (Addr×Obj)}{s:Shared}{σ:St}{H:Hp}
mutual
theorem DV.reads (I:Inv X pins σ H s):∀ (d:PyData) (v:V) (u:Value),DV X.K H d v->RelV v u->∃ as,Reads s.heap u d as
 | .none,v,u,h,r=>by
  unfold DV at h; subst h; cases (show u=Value.none from r); exact⟨[],.none⟩
 | .bool b,v,u,h,r=>by
  unfold DV at h; subst h; cases (show u=Value.bool b from r); exact⟨[],.bool b⟩
 | .int i,v,u,h,r=>by
  unfold DV at h; subst h; obtain⟨t,e⟩:=(show ∃ t,u=Value.int i t from r); subst e; exact⟨[],.int i t⟩
 | .str x,v,u,h,r=>by
  unfold DV at h; subst h; obtain⟨t,e⟩:=(show ∃ t,u=Value.str x t from r); subst e; exact⟨[],.str x t⟩
 | .list ds,v,u,h,r=>by
  unfold DV at h
  obtain⟨a,xs,rfl,hs,hd⟩:=h
  cases (show u=Value.ref a from r)
  obtain⟨its,r2,⟨o,n,e,c,d,dd⟩,hz⟩:=I.list hs
  obtain⟨as,ra⟩:=DVs.reads I ds xs its hd r2
  exact⟨a::as,.list e c dd (by simpa using ra)⟩
 | .tuple ds,v,u,h,r=>by
  unfold DV at h
  obtain⟨a,xs,rfl,hs,hd⟩:=h
  cases (show u=Value.ref a from r)
  obtain⟨its,r2,⟨o,e,c,n,dd⟩,hz⟩:=I.tuple hs
  obtain⟨as,ra⟩:=DVs.reads I ds xs its hd r2
  exact⟨as,.tuple e c dd (by simpa using ra)⟩
 | .dict _,v,u,h,r=>by unfold DV at h; exact h.elim
theorem DVs.reads (I:Inv X pins σ H s):∀ (ds:List PyData) (xs:List V) (us:List Value),DVs X.K H ds xs->Vals xs us->∃ as,ReadsAll s.heap us ds as
 | [],xs,us,h,r=>by
  unfold DVs at h; subst h; cases r; exact⟨[],.nil⟩
 | d::ds,xs,us,h,r=>by
  unfold DVs at h
  obtain⟨v,r',rfl,h1,h2⟩:=h
  cases r with
  | cons ru rs=>
   obtain⟨as,ra⟩:=DV.reads I d v _ h1 ru
   obtain⟨bs,rb⟩:=DVs.reads I ds r' _ h2 rs
   exact⟨as++bs,.cons ra rb⟩
end
end
theorem canLayAll_map {α:Type} (f:α->PyData):∀ (l:List α),(∀ x ∈ l,(f x).canLay0=true)->PyData.canLayAll0 (l.map f)=true
 | [],_=>rfl
 | x::l,h=>by
  rw[map_cons,PyData.canLayAll0,h x mem_cons_self,canLayAll_map f l fun y hy=>h y (mem_cons_of_mem _ hy)]; rfl
theorem depthAll_map {α:Type} (f:α->PyData) (n:Nat):∀ (l:List α),(∀ x ∈ l,(f x).depth<=n)->PyData.depthAll (l.map f)<=n
 | [],_=>Nat.zero_le _
 | x::l,h=>by
  rw[map_cons,PyData.depthAll]
  exact Nat.max_le.mpr ⟨h x mem_cons_self,depthAll_map f n l fun y hy=>h y (mem_cons_of_mem _ hy)⟩
theorem shaped_of {d:PyData} (h1:d.canLay0=true) (h2:d.depth<=64):SeqAt.shaped d=true:=by unfold SeqAt.shaped; rw[h1,decide_eq_true h2]; rfl
section
variable {X:Cx}
end
end L2
set_option Elab.async false
set_option linter.all false
set_option maxRecDepth 100000
namespace L2
open PySem PySem.Spec PyProof.Rows
def CXr (P:Program) (w:World):CXT:=fun outer H s E e s'=>∃ (a:Addr) (C a0:Value) (H':Hp) (B:Heap),e=.ref a/\Heap.FlyingW B outer a C a0 s'.heap/\s'.os=s.os/\AllBare s'.gens/\Un (frs outer) [] H H' s.heap s'.heap /\
 (∀ b o,s.heap.get? b=some o->H b=none->b ∉ frs outer->B.get? b=some o)/\(∀ b o,s.heap.get? b=some o->b ∉ frs outer->∃ o',B.get? b=some o')/\HOk P w H' B/\E C (some a) H'
section
variable {P:Program}{w:World}{K:PySem.W.Frag}{mg:Str->Option Value}{base:Heap}{N:List Str}{qual:Str}{scope:Scope}{f:Addr}{cd:Value}{A:Around}{outer:List Env}{s₀:Shared}{H₀:Hp}{E:XK}
end
end L2
namespace L2
open PySem PySem.Spec PyProof.Rows
section
variable {X:Cx}{E:XK}{C:Addr}{x:Str}{np cpos pos:Pos}{e₀:Expr}{t:TE}
end
section
variable {P:Program}{w:World}{K:PySem.W.Frag}{mg:Str->Option Value}{base:Heap}
end
end L2
namespace L2
open PySem PySem.Spec PyProof.Rows
abbrev TJ:=Str->St->Hp->VK->Prop
section
variable {X:Cx}{e v1 v2:Expr}{es:List Expr}{te:TE}{tr:TJ}{pos:Pos}
end
end L2
set_option Elab.async false
set_option linter.all false
set_option maxRecDepth 100000
namespace L2
open PySem PySem.Spec PyProof.Rows PySem.Calls
def ExcAt (x D:Addr) (h:Heap):Prop:=∃ o vs,h.get? x=some o/\o.cls=.ref D/\o.data=.fields vs
structure ExcCls (K:PySem.W.Frag) (D:Addr):Prop where
 ga:W.findIn K (.ref D) "__getattribute__" = some (some (.builtin "BaseException.__getattribute__"))
 gh:W.findIn K (.ref D) "__getattr__" = some none
 be:PySem.W.mroIn K D (.type "BaseException")=some true
 hd:W.hasDictIn K D=true
 at_:W.findIn K (.ref D) "__class__" = some (some (.builtin "object.__class__"))
 gt:PySem.W.specialIn K (.builtin "object.__class__") "__get__" = some (some (.builtin "getset_descriptor.__get__"))
 tk:PySem.W.takesIn K (.builtin "object.__class__")=some true
 ob:PySem.W.mroIn K D (.type "object")=some true
section
variable {K:PySem.W.Frag}{x D:Addr}
open PySem.W Builtin Builtin.ObjectAttr in
open PySem.W Builtin Builtin.ObjectAttr Builtin.Getset_descriptor in
open PySem.W Builtin Builtin.ObjectAttr in
open PySem.W Builtin Builtin.ObjectAttr in
open PySem.W Builtin Builtin.ObjectAttr in
end
end L2
set_option Elab.async false
set_option linter.all false
set_option maxRecDepth 100000
namespace L2
open PySem PySem.Spec PyProof.Rows
section
variable {P:Program}{w:World}{K:PySem.W.Frag}{mg:Str->Option Value}{base:Heap}{CX:CXT}{k:Nat}{f:Addr}{fd:FuncData}{ps:List Str}{sp sp':Sp}
end
structure Flt (P:Program) (w:World) (outer:List Env) (H:Hp) (s:Shared) (H':Hp) (B h:Heap):Prop where
 stays:B.StaysIn h
 frames:h.FunFrames B outer
 slot:∀ b o,s.heap.get? b=some o->H b=none->b ∈ frs outer->∃ sl,h.get? b=some { o with slots:=sl }
 free:∀ b o,s.heap.get? b=some o->H b=none->H' b=none
 tups:∀ b xs,H b=some (.tup xs)->H' b=some (.tup xs)
 frzs:∀ b o u,H b=some (.frz o u)->H' b=some (.frz o u)
 tbls:∀ b ps,H b=some (.tbl ps)->∃ more,H' b=some (.tbl (ps++more))
 kb:∀ b o,s.heap.get? b=some o->H b=none->b ∉ frs outer->B.get? b=some o
 tb:∀ b o,s.heap.get? b=some o->b ∉ frs outer->∃ o',B.get? b=some o'
 hok:HOk P w H' B
section
variable {P:Program}{w:World}{outer:List Env}{H H':Hp}{s:Shared}{B h h':Heap}
end
section
variable {X:Cx}{pins:List (Addr×Obj)}{σ:St}{H:Hp}{s:Shared}
end
abbrev Cx.marked (X:Cx) (e:Addr):Cx:={ X with A:=X.A.mark (some (.ref e)),calm:=false,xe:=fun _ _=>False }
structure RoomQ (k:Nat) (A:Around):Prop where
 dp:A.depth+3*k+5<recursionLimit
 un:A.units+16*k+200<cLine
structure FnOkQ (P:Program) (w:World) (K:PySem.W.Frag) (mg:Str->Option Value) (base:Heap) (k:Nat) (f:Addr) (fd:FuncData) (ps:List Str) (sp:Sp):Prop where
 len:∀ vs H Q E,sp vs H Q E->vs.length=ps.length
 run:∀ (A:Around) (outer:List Env) (s:Shared) (H:Hp) (args:Args) (us:List Value) (vs:List V) (Q:VK) (E:XK),RoomQ k A->Env0 P w K mg base A outer s H->BindsTo s fd args (ps.zip us)->Vals vs us->sp vs H Q E ->
  codeAny (model P w) A (.call (.ref f) args) (CR CX0 outer P w H s Q E) s
section
variable {X:Cx}{k:Nat}{f:Addr}{fd:FuncData}{ps:List Str}{sp:Sp}{x:Str}{p pos:Pos}{e:Expr}{es:List Expr}{t:TA}
end
end L2
set_option Elab.async false
set_option linter.all false
set_option maxRecDepth 100000
namespace L2
open PySem PySem.Spec PyProof.Rows
structure Deed (P:Program) (w:World) (K:PySem.W.Frag) (mg:Str->Option Value) (base:Heap) (k:Nat) (s:Shared) (H:Hp) (outer:List Env) (g:Addr) (sp:Hp->VK->XK->Prop):Prop where
 fn:PySem.W.FnAt g s.heap
 un:H g=none
 nf:g ∉ frs outer
 run:∀ (A':Around) (outer':List Env) (s':Shared) (H':Hp) (Q:VK) (E:XK),Room k A'->Env0 P w K mg base A' outer' s' H' ->
  (∀ b o,s.heap.get? b=some o->H b=none->b ∉ frs outer->s'.heap.get? b=some o/\H' b=none)->(∀ b o u,H b=some (.frz o u)->H' b=some (.frz o u))->sp H' Q E->codeAny (model P w) A' (.call (.ref g) ⟨[],[]⟩) (CR (CXr P w) outer' P w H' s' Q E) s'
end L2
set_option Elab.async false
set_option linter.all false
set_option maxRecDepth 100000
namespace L2
open PySem PySem.Spec PyProof.Rows
structure LamAt (h:Heap) (H:Hp) (fs:List Addr) (N:List Str) (σ:St) (qual:Str) (params:Arguments) (body:Expr) (scope:Scope) (cl:List (Str×Addr)) (g c':Addr):Prop where
 fn:∃ pm ctv,h.get? g=some (PySem.W.kla_obj "<lambda>" qual params body scope cl pm c' ctv)
 gn:H g=none/\g ∉ fs
 code:∃ o vs t,H c'=some (.frz o (.own 0))/\o.data=.fields vs/\vs[1]?=some (.str qual t)
 cells:∀ x c,cl.lookup x=some c->(∃ v,h.IsCell c v)/\H c=none/\c ∉ fs
 vals:∀ (i:Nat) (x:Str) (v:V),N[i]?=some x->σ[i]?=some (some v)->∃ u c,RelV v u/\cl.lookup x=some c/\h.IsCell c (some u)
end L2
set_option Elab.async false
set_option linter.all false
set_option maxRecDepth 100000
namespace L2
open PySem PySem.Spec PyProof.Rows
structure RefOk (P:Program) (w:World) (K:PySem.W.Frag) (mg:Str->Option Value) (base:Heap) (k kd:Nat) (f:Addr) (rs:(Hp->VK->XK->Prop)->Hp->VK->Prop):Prop where
 run:∀ (A:Around) (outer:List Env) (s:Shared) (H:Hp) (g:Addr) (spD:Hp->VK->XK->Prop) (Q:VK),Room k A->Env0 P w K mg base A outer s H->Deed P w K mg base kd s H outer g spD->rs spD H Q ->
  codeAny (model P w) A (.call (.ref f) ⟨[.ref g],[]⟩) (CR CX0 outer P w H s Q E0) s
section
variable {X:Cx}{pins:List (Addr×Obj)}{σ:St}{H:Hp}{s:Shared}{c Pt:Addr}{ps:Array Value}{params:Arguments}{body:Expr}{scope:Scope}{lpos:Pos}{clos:List (Str×Addr)}{Q:Value->Shared->Prop}{E:Value->Shared->Prop}
end
section
variable {X:Cx}{k kd:Nat}{f c Pt:Addr}{rs:(Hp->VK->XK->Prop)->Hp->VK->Prop}{x:Str}{p pos lpos:Pos}{params:Arguments}{body:Expr}{scope:Scope}{N':List Str}{tb:XK->TE}
end
end L2
set_option Elab.async false
set_option linter.all false
set_option maxRecDepth 100000
namespace L2
open PySem PySem.Spec PyProof.Rows
section
variable {P:Program}{w:World}{K:PySem.W.Frag}{mg:Str->Option Value}{base:Heap}
end
end L2
set_option Elab.async false
set_option linter.all false
set_option maxRecDepth 100000
namespace L2
open PySem PySem.Spec PyProof.Rows
section
variable {K:PySem.W.Frag}{C R:Addr}{Ds:List (Addr×Bool)}
end
section
variable {E:XK}{C:Addr}{D:Ends}{σ:St}{H:Hp}{x y:Str}{i j:Nat}{m n:Int}
end
end L2
set_option Elab.async false
set_option linter.all false
set_option maxRecDepth 100000
namespace L2
open PySem PySem.Spec PyProof.Rows
def Asc (n:Nat) (y:Str):Prop:=y.length<=n/\∀ c ∈ y.cps.toList,c<128
section
variable {X:Cx}
end
end L2
set_option Elab.async false
set_option linter.all false
set_option maxRecDepth 100000
namespace L2
open PySem PySem.Spec PyProof.Rows
def tCut (t:TS):TS:=fun D σ H=>∃ Pn:St->Hp->Prop,t { D with nx:=Pn } σ H/\∀ σ' H',Pn σ' H'->D.nx σ' H'
theorem ps_cut {X:Cx}{st:Stmt}{t:TS} (h:PS X st t):PS X st (tCut t):=by
 intro pins s σ H D I ⟨Pn,ht,hn⟩
 refine thn (h pins s σ H { D with nx:=Pn } I ht) fun f s1 q=>?_
 cases f with
 | next=>obtain⟨σ',H',I',q⟩:=q; exact⟨σ',H',I',hn _ _ q⟩
 | ret v=>exact q
 | brk=>exact q
 | cont=>exact q
section
variable {E:XK}{C:Addr}{D:Ends}{σ:St}{H:Hp}{x x1 y:Str}{i j:Nat}{m n:Int}
end
end L2
set_option Elab.async false
set_option linter.all false
set_option maxRecDepth 100000
namespace L2
open PySem PySem.Spec PyProof.Rows
structure Tb (L:Kn) (Pt:Addr) (qual:Str):Prop where
 ex:∃ ps:Array Value,(Pt,HO.tbl ps) ∈ L/\TriplesOk ps.toList/\∀ pos,codeAmong pos ps.toList=none∨∃ (c':Addr) (oc:Obj) (vs:Array Value) (t:Tok),codeAmong pos ps.toList=some (.ref c')/\(c',HO.frz oc (.own 0)) ∈ L/\oc.data=.fields vs/\vs[1]?=some (.str qual t)
section
variable {X:Cx}{e:Expr}{te:TE}{pos:Pos}
end
section
variable {E:XK}{C:Addr}{D:Ends}{σ:St}{H:Hp}{x x1 x2:Str}{i j:Nat}{m n:Int}{a:Addr}
end
end L2
set_option Elab.async false
set_option linter.all false
set_option maxRecDepth 100000
namespace L2
open PySem PySem.Spec PyProof.Rows
section
variable {X:Cx}{K:PySem.W.Frag}
def rInD (K:PySem.W.Frag) (neg:Bool):R2:=fun x y H Q=>∃ (d:PyData) (ds:List PyData),DV K H d x/\DV K H (.list ds) y/\SeqAt.shaped d=true/\SeqAt.shaped (.list ds)=true/\Q (.bl (if neg then !ds.any (fun y=>PyData.eqv y d) else ds.any (fun y=>PyData.eqv y d))) H
theorem shaped_two {d:PyData} (h:SeqAt.shaped d=true):d.canLay0=true/\d.depth<=64:=by
 unfold SeqAt.shaped at h
 rw[Bool.and_eq_true] at h
 exact⟨h.1,of_decide_eq_true h.2⟩
theorem op_notInD (hu:X.A.units+128<cLine):OpR X (compareOp .NotIn) (rInD X.K true):=by
 intro pins s σ H x y u v Q I rx ry h
 obtain⟨d,ds,hd,he,sd,se,q⟩:=h
 obtain⟨as,ra⟩:=DV.reads I d x u hd rx
 obtain⟨bs,rb⟩:=DV.reads I (.list ds) y v he ry
 have s1:=shaped_two sd
 have s2:=shaped_two se
 have hm:min (PyData.depthAll ds) d.depth<=64:=Nat.le_trans (Nat.min_le_right _ _) s1.2
 exact SeqAt.notIn_list_reads rb ra (by have:=s2.1; rw[PyData.canLay0] at this; exact this) s1.1 (by omega) (fin_bl I q (by simp))
end
theorem Room.units2 {k:Nat}{A:Around} (r:Room k A):A.units+128<cLine:=by have:=r.un; omega
end L2
namespace L2
open PySem PySem.Spec PyProof.Rows
section
variable {X:Cx}
end
end L2
namespace L2
open PySem PySem.Spec PyProof.Rows
end L2
namespace L2
open PySem PySem.Spec PyProof.Rows
def SqB (b:Bool) (K:PySem.W.Frag) (H:Hp) (a:Addr) (xs:List V):Prop:=match b with | true=>SqL K H a xs | false=>SqT K H a xs
def ItB (b:Bool) (K:PySem.W.Frag) (a:Addr):It:=match b with | true=>Itl K a | false=>Itt K a
end L2
namespace L2
open PySem PySem.Spec PyProof.Rows
end L2
set_option Elab.async false
set_option linter.all false
set_option maxRecDepth 100000
namespace L2
open PySem PySem.Spec PyProof.Rows
end L2
set_option Elab.async false
set_option linter.all false
set_option maxRecDepth 100000
namespace L2.So
open PySem PyProof.Rows
section
variable {M:Model}{A:Around}{E:Value->Shared->Prop}{s:Shared}{κ:SortKind}{g:Keyed->Int}{U:Keyed->Prop}
def Cmp (M:Model) (A:Around) (s:Shared) (κ:SortKind) (g:Keyed->Int) (U:Keyed->Prop):Prop :=
 ∀ x y,U x->U y->∀ Q:Bool->Prop,Q (decide (g x<g y))->wpAny M A (keyLt' κ x.1 y.1) (fun b s'=>s'=s/\Q b) (fun _ _=>False) s
def G (g:Keyed->Int) (xs:Array Keyed) (i:Nat):Int:=(xs[i]?.map g).getD 0
theorem G_congr {xs ys:Array Keyed}{i j:Nat} (h:xs[i]?=ys[j]?):G g xs i=G g ys j:=by unfold G; rw[h]
def Asc (g:Keyed->Int) (xs:Array Keyed) (lo hi:Nat):Prop:=∀ i j,lo<=i->i<j->j<hi->G g xs i<G g xs j
def All (U:Keyed->Prop) (xs:Array Keyed):Prop:=∀ (i:Nat) p,xs[i]?=some p->U p
def Dis (g:Keyed->Int) (xs:Array Keyed):Prop:=∀ i j,i<j->j<xs.size->G g xs i≠G g xs j
structure Stt (κ:SortKind) (g:Keyed->Int) (U:Keyed->Prop) (st:SortSt):Prop where
 k:kindOf st=κ
 f:failedOf st=none
 u:All U (arrOf st)
 d:Dis g (arrOf st)
theorem w_lt (hC:Cmp M A s κ g U) {st:SortSt}{x y:Keyed}{Q:Option Bool->SortSt->Prop} (hk:kindOf st=κ) (hx:U x) (hy:U y) (h:Q (some (decide (g x<g y))) st):wpS M A E s (lt' x y) Q st:=by
 rw[lt'_eq]
 refine wpS_bind (wpS_get ?_)
 rw[hk]
 refine wpS_bind (wpS_lift (wpAny_attempt (wpAny_mono (hC x y hx hy (fun b=>b=decide (g x<g y)) rfl) (fun b s' hb=>⟨hb.1,?_⟩) fun _ _ e=>e.elim)))
 obtain⟨_,rfl⟩:=hb
 exact wpS_pure h
theorem w_elem {arr:Array Keyed}{i:Nat}{p:Keyed}{Q:Keyed->SortSt->Prop}{st:SortSt} (e:arr[i]?=some p) (h:Q p st):wpS M A E s (elem' arr i) Q st:=by
 rw[elem'_eq,e]
 exact wpS_pure h
theorem at_ {xs:Array Keyed}{i:Nat} (h:i<xs.size):∃ p,xs[i]?=some p/\G g xs i=g p:=⟨xs[i],getElem?_pos xs i h,by unfold G; rw[getElem?_pos xs i h]; rfl⟩
theorem w_ltAt (hC:Cmp M A s κ g U) {st:SortSt}{i j:Nat}{Q:Option Bool->SortSt->Prop} (hs:Stt κ g U st) (hi:i<(arrOf st).size) (hj:j<(arrOf st).size) (h:Q (some (decide (G g (arrOf st) i<G g (arrOf st) j))) st):wpS M A E s (ltAt' i j) Q st:=by
 obtain⟨p,e1,e2⟩:=at_ (g:=g) hi
 obtain⟨q,e3,e4⟩:=at_ (g:=g) hj
 rw[e2,e4] at h
 rw[ltAt'_eq]
 refine wpS_bind (wpS_get ?_)
 exact wpS_bind (w_elem e1 (wpS_bind (w_elem e3 (w_lt hC hs.k (hs.u i p e1) (hs.u j q e3) h))))
theorem Dis.ne {xs:Array Keyed} (h:Dis g xs) {i j:Nat} (hi:i<xs.size) (hj:j<xs.size) (n:i≠j):G g xs i≠G g xs j:=by
 rcases Nat.lt_or_gt_of_ne n with h1 | h1
 ·exact h i j h1 hj
 ·exact(h j i h1 hi).symm
theorem Asc.snoc {xs:Array Keyed}{lo n:Nat} (h:Asc g xs lo (lo+n)) (h1:1<=n) (hlt:G g xs (lo+n - 1)<G g xs (lo+n)):Asc g xs lo (lo+n+1):=by
 intro i j hi hij hj
 by_cases e:j=lo+n
 ·subst e
  by_cases e2:i=lo+n - 1
  ·subst e2; exact hlt
  ·exact Int.lt_trans (h i (lo+n - 1) hi (by omega) (by omega)) hlt
 ·exact h i j hi hij (by omega)
def Desc (g:Keyed->Int) (xs:Array Keyed) (lo hi:Nat):Prop:=∀ i j,lo<=i->i<j->j<hi->G g xs j<G g xs i
theorem Desc.snoc {xs:Array Keyed}{lo n:Nat} (h:Desc g xs lo (lo+n)) (h1:1<=n) (hlt:G g xs (lo+n)<G g xs (lo+n - 1)):Desc g xs lo (lo+n+1):=by
 intro i j hi hij hj
 by_cases e:j=lo+n
 ·subst e
  by_cases e2:i=lo+n - 1
  ·subst e2; exact hlt
  ·exact Int.lt_trans hlt (h i (lo+n - 1) hi (by omega) (by omega))
 ·exact h i j hi hij (by omega)
structure Swp (st st':SortSt) (lo hi:Nat):Prop where
 k:kindOf st'=kindOf st
 p:pendingOf st'=pendingOf st
 m:gallopOf st'=gallopOf st
 f:failedOf st'=failedOf st
 e:(arrOf st').Perm (arrOf st)
 o:∀ k,k<lo∨hi<=k->(arrOf st')[k]?=(arrOf st)[k]?
theorem All.perm {xs ys:Array Keyed} (h:All U xs) (e:ys.Perm xs):All U ys:=by
 intro i p hp
 have hm:p ∈ ys.toList:=by rw[Array.mem_toList_iff]; exact Array.mem_of_getElem? hp
 have hm2:=(Array.perm_iff_toList_perm.mp e).mem_iff.mp hm
 rw[Array.mem_toList_iff] at hm2
 obtain⟨j,hj⟩:=Array.getElem?_of_mem hm2
 exact h j p hj
theorem dis_iff {xs:Array Keyed}:Dis g xs↔(xs.toList.map g).Nodup:=by
 unfold Dis List.Nodup
 rw[List.pairwise_iff_getElem]
 simp only[length_map,Array.length_toList,List.getElem_map,Array.getElem_toList]
 constructor
 ·intro h i j hi hj hij
  have:=h i j hij hj
  unfold G at this
  rw[getElem?_pos xs i hi,getElem?_pos xs j hj] at this
  exact this
 ·intro h i j hij hj
  unfold G
  rw[getElem?_pos xs i (by omega),getElem?_pos xs j hj]
  exact h i j (by omega) hj hij
theorem Dis.perm {xs ys:Array Keyed} (h:Dis g xs) (e:ys.Perm xs):Dis g ys:=by
 rw[dis_iff] at h ⊢
 exact(((Array.perm_iff_toList_perm.mp e).map g).nodup_iff).mpr h
theorem Swp.refl (st:SortSt) (lo hi:Nat):Swp st st lo hi:=⟨rfl,rfl,rfl,rfl,Array.Perm.refl _,fun _ _=>rfl⟩
theorem Swp.stt {st st':SortSt}{lo hi:Nat} (h:Swp st st' lo hi) (hs:Stt κ g U st):Stt κ g U st':=⟨h.k.trans hs.k,h.f.trans hs.f,hs.u.perm h.e,hs.d.perm h.e⟩
theorem Swp.size {st st':SortSt}{lo hi:Nat} (h:Swp st st' lo hi):(arrOf st').size=(arrOf st).size:=h.e.size_eq
theorem Swp.trans {a b c:SortSt}{lo hi:Nat} (h:Swp a b lo hi) (h':Swp b c lo hi):Swp a c lo hi:=⟨h'.k.trans h.k,h'.p.trans h.p,h'.m.trans h.m,h'.f.trans h.f,h'.e.trans h.e,fun k hk=>(h'.o k hk).trans (h.o k hk)⟩
theorem Swp.mono {a b:SortSt}{lo hi lo' hi':Nat} (h:Swp a b lo hi) (h1:lo'<=lo) (h2:hi<=hi'):Swp a b lo' hi':=⟨h.k,h.p,h.m,h.f,h.e,fun k hk=>h.o k (by omega)⟩
theorem swp_rev {st:SortSt}{lo hi:Nat} (h:hi<=(arrOf st).size):Swp st (setArr st (mirror (arrOf st) lo hi ((hi - lo) / 2))) lo hi :=
 ⟨rfl,rfl,rfl,rfl,mirror_perm _ _ _ _,fun k hk=>(getElem?_mirror_all h k).trans (if_neg (by omega))⟩
theorem rev_asc {xs:Array Keyed}{lo hi:Nat} (h:hi<=xs.size) (hd:Desc g xs lo hi):Asc g (mirror xs lo hi ((hi - lo) / 2)) lo hi:=by
 intro i j hi' hij hj
 have e1:(mirror xs lo hi ((hi - lo) / 2))[i]?=xs[lo+hi - 1 - i]?:=(getElem?_mirror_all h i).trans (if_pos (by omega))
 have e2:(mirror xs lo hi ((hi - lo) / 2))[j]?=xs[lo+hi - 1 - j]?:=(getElem?_mirror_all h j).trans (if_pos (by omega))
 rw[G_congr e1,G_congr e2]
 exact hd _ _ (by omega) (by omega) (by omega)
theorem w_run (hC:Cmp M A s κ g U) {st:SortSt}{lo m:Nat}{Q:Option Nat->SortSt->Prop} (hs:Stt κ g U st) (h1:1<=m) (hz:lo+m<=(arrOf st).size)
  (h:∀ n st',1<=n->n<=m->Swp st st' lo (lo+m)->Asc g (arrOf st') lo (lo+n)->Q (some n) st'):wpS M A E s (countRun' lo m) Q st:=by
 rw[countRun'_eq]
 refine wpS_bind (wpS_mono (wpS_forRange (I:=fun i c st'=>st'=st/\∃ n,c=(none,n)/\n=i/\Asc g (arrOf st) lo (lo+n))
  (Q:=fun c st'=>st'=st/\∃ n,c=(none,n)/\1<=n/\n<=m/\Asc g (arrOf st) lo (lo+n)/\(n<m->G g (arrOf st) (lo+n)<G g (arrOf st) (lo+n - 1))) ?s1 ?f1 ⟨rfl,1,rfl,rfl,fun i j _ _ _=>by omega⟩) ?p1)
 case f1=>
  rintro c st' ⟨rfl,n,rfl,rfl,ha⟩
  exact⟨rfl,_,rfl,by omega,by omega,ha,fun q=>by omega⟩
 case s1=>
  rintro i c st' hi1 hi2 ⟨rfl,n,rfl,rfl,ha⟩
  dsimp only
  refine wpS_bind (w_ltAt hC hs (by omega) (by omega) ?_)
  dsimp only
  by_cases hlt:G g (arrOf st') (lo+n)<G g (arrOf st') (lo+n - 1)
  ·rw[if_pos (decide_eq_true hlt)]
   exact wpS_pure ⟨rfl,n,rfl,hi1,by omega,ha,fun _=>hlt⟩
  ·rw[if_neg (by simpa using hlt)]
   refine wpS_pure ⟨rfl,n+1,rfl,rfl,?_⟩
   have:=hs.d.ne (i:=lo+n) (j:=lo+n - 1) (by omega) (by omega) (by omega)
   exact ha.snoc hi1 (by omega)
 case p1=>
  rintro c st' ⟨rfl,n,rfl,hn1,hn2,ha,hb⟩
  dsimp only
  by_cases e1:n=m
  ·rw[if_pos (by simpa using e1)]
   exact wpS_pure (h n st' hn1 hn2 (Swp.refl _ _ _) ha)
  rw[if_neg (by simpa using e1)]
  have hb:=hb (by omega)
  by_cases e2:n > 1
  ·rw[if_pos e2]
   refine wpS_bind (w_ltAt hC hs (by omega) (by omega) ?_)
   dsimp only
   rw[if_pos (decide_eq_true (ha lo (lo+n - 1) (Nat.le_refl _) (by omega) (by omega)))]
   exact wpS_pure (h n st' hn1 hn2 (Swp.refl _ _ _) ha)
  rw[if_neg e2]
  obtain rfl:n=1:=by omega
  refine wpS_bind (wpS_lift (wpAny_rule ⟨rfl,?_⟩))
  refine wpS_bind (wpS_mono (wpS_forRange (I:=fun i c st2=>st2=st'/\∃ n,c=(none,n,0)/\n=i/\Desc g (arrOf st') lo (lo+n))
   (Q:=fun c st2=>st2=st'/\∃ n,c=(none,n,0)/\2<=n/\n<=m/\Desc g (arrOf st') lo (lo+n)) ?s2 ?f2 ⟨rfl,2,rfl,rfl,?i2⟩) ?p2)
  case i2=>
   intro i j h1 h2 h3
   obtain rfl:i=lo:=by omega
   obtain rfl:j=i+1:=by omega
   exact hb
  case f2=>
   rintro c st2 ⟨rfl,n,rfl,rfl,hd⟩
   exact⟨rfl,_,rfl,by omega,by omega,hd⟩
  case s2=>
   rintro i c st2 hi1 hi2 ⟨rfl,n,rfl,rfl,hd⟩
   dsimp only
   refine wpS_bind (w_ltAt hC hs (by omega) (by omega) ?_)
   dsimp only
   by_cases hlt:G g (arrOf st2) (lo+n)<G g (arrOf st2) (lo+n - 1)
   ·rw[if_pos (decide_eq_true hlt),if_neg (by decide)]
    exact wpS_pure ⟨rfl,n+1,rfl,rfl,hd.snoc (by omega) hlt⟩
   ·rw[if_neg (by simpa using hlt)]
    refine wpS_bind (w_ltAt hC hs (by omega) (by omega) ?_)
    dsimp only
    have:=hs.d.ne (i:=lo+n) (j:=lo+n - 1) (by omega) (by omega) (by omega)
    rw[if_pos (decide_eq_true (by omega))]
    exact wpS_pure ⟨rfl,n,rfl,by omega,by omega,hd⟩
  case p2=>
   rintro c st2 ⟨rfl,n,rfl,hn1,hn2,hd⟩
   dsimp only
   rw[if_neg (by decide),reverseSlice'_eq]
   refine wpS_bind (wpS_modify ?_)
   have w1:=(swp_rev (st:=st2) (lo:=lo) (hi:=lo+n) (by omega)).mono (Nat.le_refl lo) (show lo+n<=lo+m by omega)
   have a1:=rev_asc (xs:=arrOf st2) (lo:=lo) (hi:=lo+n) (by omega) hd
   obtain⟨st3,e3⟩:∃ st3,setArr st2 (mirror (arrOf st2) lo (lo+n) ((lo+n - lo) / 2))=st3:=⟨_,rfl⟩
   have a1:Asc g (arrOf st3) lo (lo+n):=by rw[<- e3]; exact a1
   rw[e3] at w1 ⊢
   have hs3:=w1.stt hs
   have z3:=w1.size
   refine wpS_bind (wpS_mono (wpS_forRange (I:=fun i c st'=>st'=st3/\∃ n,c=(none,n)/\n=i/\Asc g (arrOf st3) lo (lo+n))
    (Q:=fun c st'=>st'=st3/\∃ n,c=(none,n)/\1<=n/\n<=m/\Asc g (arrOf st3) lo (lo+n)) ?s3 ?f3 ⟨rfl,n,rfl,rfl,a1⟩) ?p3)
   case f3=>
    rintro c st' ⟨rfl,n,rfl,rfl,ha⟩
    exact⟨rfl,_,rfl,by omega,by omega,ha⟩
   case s3=>
    rintro i c st' hi1 hi2 ⟨rfl,n,rfl,rfl,ha⟩
    dsimp only
    refine wpS_bind (w_ltAt hC hs3 (by omega) (by omega) ?_)
    dsimp only
    by_cases hlt:G g (arrOf st') (lo+n)<G g (arrOf st') (lo+n - 1)
    ·rw[if_pos (decide_eq_true hlt)]
     exact wpS_pure ⟨rfl,n,rfl,by omega,by omega,ha⟩
    ·rw[if_neg (by simpa using hlt)]
     refine wpS_pure ⟨rfl,n+1,rfl,rfl,?_⟩
     have:=hs3.d.ne (i:=lo+n) (j:=lo+n - 1) (by omega) (by omega) (by omega)
     exact ha.snoc (by omega) (by omega)
   case p3=>
    rintro c st' ⟨rfl,n,rfl,hn1,hn2,ha⟩
    exact wpS_pure (h n st' hn1 hn2 w1 ha)
theorem swp_bub {st:SortSt}{lo hi src d:Nat} (h1:lo<=src - d) (h2:src<hi) (h3:src<(arrOf st).size) (h4:d<=src):Swp st (setArr st (bubble (arrOf st) src d)) lo hi :=
 ⟨rfl,rfl,rfl,rfl,bubble_perm _ _ _,fun k hk=>by
  show(bubble (arrOf st) src d)[k]?=_
  rw[getElem?_bubble h3 d h4 k,if_neg (by omega),if_neg (by omega)]⟩
theorem w_bin (hC:Cmp M A s κ g U) {st:SortSt}{lo n ok:Nat}{Q:Bool->SortSt->Prop} (hs:Stt κ g U st) (hok:1<=ok) (hn:ok<=n) (hz:lo+n<=(arrOf st).size) (ha:Asc g (arrOf st) lo (lo+ok))
  (h:∀ st',Swp st st' lo (lo+n)->Asc g (arrOf st') lo (lo+n)->Q true st'):wpS M A E s (binarySort' lo n ok) Q st:=by
 rw[binarySort'_eq]
 refine wpS_bind (wpS_mono (wpS_forRange (I:=fun i c st'=>c=(none,())/\Swp st st' lo (lo+n)/\Asc g (arrOf st') lo (lo+i))
  (Q:=fun c st'=>c=(none,())/\Swp st st' lo (lo+n)/\Asc g (arrOf st') lo (lo+n)) ?s1 ?f1 ⟨rfl,Swp.refl _ _ _,?i1⟩) ?p1)
 case i1=>rw[Nat.max_eq_left hok]; exact ha
 case f1=>
  rintro c st' ⟨rfl,hw,ha⟩
  refine⟨rfl,hw,?_⟩
  rw[show max (max ok 1) n=n by omega] at ha
  exact ha
 case p1=>
  rintro c st' ⟨rfl,hw,ha⟩
  exact wpS_pure (h st' hw ha)
 case s1=>
  rintro k c st' hk1 hk2 ⟨rfl,hw,ha⟩
  have hs':=hw.stt hs
  have z:=hw.size
  refine wpS_bind (wpS_mono (wpS_forRange (I:=fun x c st2=>st2=st'/\∃ l r,c=(none,l,r)/\l<=r/\r<=k/\r - l<=k - x/\(∀ i,i<l->G g (arrOf st') (lo+i)<G g (arrOf st') (lo+k))/\(∀ i,r<=i->i<k->G g (arrOf st') (lo+k)<G g (arrOf st') (lo+i)))
   (Q:=fun c st2=>st2=st'/\∃ l r,c=(none,l,r)/\l<=k/\(∀ i,i<l->G g (arrOf st') (lo+i)<G g (arrOf st') (lo+k))/\(∀ i,l<=i->i<k->G g (arrOf st') (lo+k)<G g (arrOf st') (lo+i))) ?s2 ?f2 ⟨rfl,0,k,rfl,by omega,by omega,by omega,fun i hi=>by omega,fun i h1 h2=>by omega⟩) ?p2)
  case f2=>
   rintro c st2 ⟨rfl,l,r,rfl,h1,h2,h3,h4,h5⟩
   obtain rfl:l=r:=by omega
   exact⟨rfl,l,l,rfl,h2,h4,h5⟩
  case s2=>
   rintro x c st2 _ hx ⟨rfl,l,r,rfl,h1,h2,h3,h4,h5⟩
   dsimp only
   by_cases hge:l ≥ r
   ·rw[if_pos hge]
    obtain rfl:l=r:=by omega
    exact wpS_pure ⟨rfl,l,l,rfl,h2,h4,h5⟩
   ·rw[if_neg hge]
    refine wpS_bind (w_ltAt hC hs' (by omega) (by omega) ?_)
    dsimp only
    by_cases hlt:G g (arrOf st2) (lo+k)<G g (arrOf st2) (lo+(l+r) / 2)
    ·rw[if_pos (decide_eq_true hlt)]
     refine wpS_pure ⟨rfl,l,(l+r) / 2,rfl,by omega,by omega,by omega,h4,fun i h6 h7=>?_⟩
     by_cases e:i=(l+r) / 2
     ·subst e; exact hlt
     ·exact Int.lt_trans hlt (ha _ _ (by omega) (by omega) (by omega))
    ·rw[if_neg (by simpa using hlt)]
     refine wpS_pure ⟨rfl,(l+r) / 2+1,r,rfl,by omega,by omega,by omega,fun i h6=>?_,h5⟩
     have:=hs'.d.ne (i:=lo+k) (j:=lo+(l+r) / 2) (by omega) (by omega) (by omega)
     by_cases e:i=(l+r) / 2
     ·subst e; omega
     ·have:=ha (lo+i) (lo+(l+r) / 2) (by omega) (by omega) (by omega)
      omega
  case p2=>
   rintro c st2 ⟨rfl,l,r,rfl,hl,h4,h5⟩
   show wpS _ _ _ _ (do moveDown' (lo+k) (lo+l); pure (ForInStep.yield (none,()))) _ _
   rw[moveDown'_eq]
   have hb:=swp_bub (st:=st2) (lo:=lo) (hi:=lo+n) (src:=lo+k) (d:=lo+k - (lo+l)) (by omega) (by omega) (by omega) (by omega)
   refine wpS_bind (wpS_modify (wpS_pure ⟨rfl,hw.trans hb,?_⟩))
   have gb:=getElem?_bubble (xs:=arrOf st2) (src:=lo+k) (by omega) (lo+k - (lo+l)) (by omega)
   rw[show lo+k - (lo+k - (lo+l))=lo+l by omega] at gb
   intro i j hi hij hj
   show G g (bubble (arrOf st2) (lo+k) (lo+k - (lo+l))) i<G g (bubble (arrOf st2) (lo+k) (lo+k - (lo+l))) j
   have gi:=gb i
   have gj:=gb j
   by_cases i1:i=lo+l
   ·rw[if_pos i1] at gi
    rw[if_neg (by omega),if_pos (by omega)] at gj
    rw[G_congr gi,G_congr gj,show j - 1=lo+(j - 1 - lo) by omega]
    exact h5 _ (by omega) (by omega)
   ·rw[if_neg i1] at gi
    by_cases i2:lo+l<i/\i<=lo+k
    ·rw[if_pos i2] at gi
     rw[if_neg (by omega),if_pos (by omega)] at gj
     rw[G_congr gi,G_congr gj]
     exact ha _ _ (by omega) (by omega) (by omega)
    ·rw[if_neg i2] at gi
     rw[G_congr gi]
     by_cases j1:j=lo+l
     ·rw[if_pos j1] at gj
      rw[G_congr gj,show i=lo+(i - lo) by omega]
      exact h4 _ (by omega)
     ·rw[if_neg j1] at gj
      by_cases j2:lo+l<j/\j<=lo+k
      ·rw[if_pos j2] at gj
       rw[G_congr gj]
       exact ha _ _ (by omega) (by omega) (by omega)
      ·rw[if_neg j2] at gj
       rw[G_congr gj]
       exact ha _ _ (by omega) (by omega) (by omega)
def galP:Bool->Keyed->Array Keyed->Nat->Nat->Nat->StateT SortSt Sem (Option Nat):=sortPriv% PySem.Builtin.gallop
def beyP (left:Bool) (key:Keyed) (arr:Array Keyed) (base i:Nat):StateT SortSt Sem (Option Bool):=do
 let x <- elem' arr (base+i)
 if left then lt' x key else return (<- lt' key x).map (!·)
def finP (left:Bool) (key:Keyed) (arr:Array Keyed) (base n lo0 hi0:Nat):StateT SortSt Sem (Option Nat):=do
 let mut lo:=lo0
 let mut hi:=hi0
 for _ in [0:n] do
  if lo ≥ hi then break
  let m:=lo+(hi - lo) / 2
  let some b3 <- beyP left key arr base m | return none
  if b3 then lo:=m+1 else hi:=m
 return some hi
theorem galP_eq (left:Bool) (key:Keyed) (arr:Array Keyed) (base n hint:Nat):galP left key arr base n hint=(do
 let mut la:=0
 let mut of:=1
 let mut lo:=0
 let mut hi:=0
 let some b0 <- beyP left key arr base hint | return none
 if b0 then
  let mx:=n - hint
  for _ in [0:n] do
   if of ≥ mx then break
   let some b1 <- beyP left key arr base (hint+of) | return none
   if !b1 then break
   la:=of
   of:=2*of+1
  lo:=hint+la+1
  hi:=hint+min of mx
 else
  let mx:=hint+1
  for _ in [0:n] do
   if of ≥ mx then break
   let some b2 <- beyP left key arr base (hint - of) | return none
   if b2 then break
   la:=of
   of:=2*of+1
  lo:=hint+1 - min of mx
  hi:=hint - la
 finP left key arr base n lo hi):=rfl
def bey (g:Keyed->Int) (left:Bool) (key:Keyed) (arr:Array Keyed) (base i:Nat):Bool:=if left then decide (G g arr (base+i)<g key) else !decide (g key<G g arr (base+i))
theorem w_bey (hC:Cmp M A s κ g U) {st:SortSt}{left:Bool}{key:Keyed}{arr:Array Keyed}{base i:Nat}{Q:Option Bool->SortSt->Prop} (hk:kindOf st=κ) (hu:U key) (ha:All U arr) (hi:base+i<arr.size)
  (h:Q (some (bey g left key arr base i)) st):wpS M A E s (beyP left key arr base i) Q st:=by
 obtain⟨p,e1,e2⟩:=at_ (g:=g) hi
 unfold bey at h
 rw[e2] at h
 unfold beyP
 refine wpS_bind (w_elem e1 ?_)
 cases left with
 | true=>exact w_lt hC hk (ha _ _ e1) hu h
 | false=>exact wpS_bind (w_lt hC hk hu (ha _ _ e1) (wpS_pure h))
theorem w_gal (hC:Cmp M A s κ g U) {st:SortSt}{left:Bool}{key:Keyed}{arr:Array Keyed}{base n hint:Nat}{Q:Option Nat->SortSt->Prop} (hk:kindOf st=κ) (hu:U key) (ha:All U arr) (hz:base+n<=arr.size) (hh:hint<n)
  (hm:∀ i j,i<=j->j<n->bey g left key arr base j=true->bey g left key arr base i=true)
  (h:∀ k,k<=n->(∀ i,i<k->bey g left key arr base i=true)->(∀ i,k<=i->i<n->bey g left key arr base i=false)->Q (some k) st):wpS M A E s (galP left key arr base n hint) Q st:=by
 have hm':∀ i j,i<=j->j<n->bey g left key arr base i=false->bey g left key arr base j=false:=fun i j h1 h2 h3=>by
  cases e:bey g left key arr base j with
  | false=>rfl
  | true=>rw[hm i j h1 h2 e] at h3; cases h3
 have last:∀ lo hi,lo<=hi->hi<=n->(∀ i,i<lo->bey g left key arr base i=true)->(∀ i,hi<=i->i<n->bey g left key arr base i=false) ->
   wpS M A E s (finP left key arr base n lo hi) Q st:=by
  intro lo hi h1 h2 h3 h4
  unfold finP
  refine wpS_bind (wpS_mono (wpS_forRange (I:=fun x c st'=>st'=st/\∃ lo hi,c=(none,lo,hi)/\lo<=hi/\hi<=n/\hi - lo<=n - x/\(∀ i,i<lo->bey g left key arr base i=true)/\(∀ i,hi<=i->i<n->bey g left key arr base i=false))
   (Q:=fun c st'=>st'=st/\∃ lo hi,c=(none,lo,hi)/\hi<=n/\(∀ i,i<hi->bey g left key arr base i=true)/\(∀ i,hi<=i->i<n->bey g left key arr base i=false)) ?s2 ?f2 ⟨rfl,lo,hi,rfl,h1,h2,by omega,h3,h4⟩) ?p2)
  case f2=>
   rintro c st' ⟨rfl,lo,hi,rfl,h1,h2,h3,h4,h5⟩
   obtain rfl:lo=hi:=by omega
   exact⟨rfl,lo,lo,rfl,h2,h4,h5⟩
  case s2=>
   rintro x c st' _ hx ⟨rfl,lo,hi,rfl,h1,h2,h3,h4,h5⟩
   dsimp only
   by_cases hge:lo ≥ hi
   ·rw[if_pos hge]
    obtain rfl:lo=hi:=by omega
    exact wpS_pure ⟨rfl,lo,lo,rfl,h2,h4,h5⟩
   ·rw[if_neg hge]
    refine wpS_bind (w_bey hC hk hu ha (by omega) ?_)
    dsimp only
    cases e:bey g left key arr base (lo+(hi - lo) / 2) with
    | true=>
     rw[if_pos rfl]
     exact wpS_pure ⟨rfl,lo+(hi - lo) / 2+1,hi,rfl,by omega,by omega,by omega,fun i hi'=>hm i _ (by omega) (by omega) e,h5⟩
    | false=>
     rw[if_neg (by simp)]
     exact wpS_pure ⟨rfl,lo,lo+(hi - lo) / 2,rfl,by omega,by omega,by omega,h4,fun i h6 h7=>hm' _ i h6 h7 e⟩
  case p2=>
   rintro c st' ⟨rfl,lo,hi,rfl,h2,h4,h5⟩
   exact wpS_pure (h hi h2 h4 h5)
 rw[galP_eq]
 refine wpS_bind (w_bey hC hk hu ha (by omega) ?_)
 dsimp only
 cases e:bey g left key arr base hint with
 | true=>
  rw[if_pos rfl]
  refine wpS_bind (wpS_mono (wpS_forRange (I:=fun x c st'=>st'=st/\∃ la of,c=(none,la,of)/\x+1<=of/\la<of/\hint+la<n/\bey g left key arr base (hint+la)=true)
   (Q:=fun c st'=>st'=st/\∃ la of,c=(none,la,of)/\la<of/\hint+la<n/\bey g left key arr base (hint+la)=true/\(n - hint<=of∨bey g left key arr base (hint+of)=false)) ?s2 ?f2 ⟨rfl,0,1,rfl,by omega,by omega,by omega,e⟩) ?p2)
  case f2=>
   rintro c st' ⟨rfl,la,of,rfl,h1,h2,h3,h4⟩
   exact⟨rfl,la,of,rfl,h2,h3,h4,.inl (by omega)⟩
  case s2=>
   rintro x c st' _ hx ⟨rfl,la,of,rfl,h1,h2,h3,h4⟩
   dsimp only
   by_cases hge:of ≥ n - hint
   ·rw[if_pos hge]
    exact wpS_pure ⟨rfl,la,of,rfl,h2,h3,h4,.inl hge⟩
   ·rw[if_neg hge]
    refine wpS_bind (w_bey hC hk hu ha (by omega) ?_)
    dsimp only
    cases e:bey g left key arr base (hint+of) with
    | false=>
     rw[if_pos (show(!false)=true from rfl)]
     exact wpS_pure ⟨rfl,la,of,rfl,h2,h3,h4,.inr e⟩
    | true=>
     rw[if_neg (by simp)]
     exact wpS_pure ⟨rfl,of,2*of+1,rfl,by omega,by omega,by omega,e⟩
  case p2=>
   rintro c st' ⟨rfl,la,of,rfl,h2,h3,h4,h5⟩
   refine last (hint+la+1) (hint+min of (n - hint)) (by omega) (by omega) (fun i hi=>hm i _ (by omega) h3 h4) (fun i h6 h7=>?_)
   rcases h5 with h5 | h5
   ·omega
   ·exact hm' _ i (by omega) h7 h5
 | false=>
  rw[if_neg (by simp)]
  refine wpS_bind (wpS_mono (wpS_forRange (I:=fun x c st'=>st'=st/\∃ la of,c=(none,la,of)/\x+1<=of/\la<of/\la<=hint/\bey g left key arr base (hint - la)=false)
   (Q:=fun c st'=>st'=st/\∃ la of,c=(none,la,of)/\la<of/\la<=hint/\bey g left key arr base (hint - la)=false/\(hint+1<=of∨(of<=hint/\bey g left key arr base (hint - of)=true))) ?s3 ?f3 ⟨rfl,0,1,rfl,by omega,by omega,by omega,e⟩) ?p3)
  case f3=>
   rintro c st' ⟨rfl,la,of,rfl,h1,h2,h3,h4⟩
   exact⟨rfl,la,of,rfl,h2,h3,h4,.inl (by omega)⟩
  case s3=>
   rintro x c st' _ hx ⟨rfl,la,of,rfl,h1,h2,h3,h4⟩
   dsimp only
   by_cases hge:of ≥ hint+1
   ·rw[if_pos hge]
    exact wpS_pure ⟨rfl,la,of,rfl,h2,h3,h4,.inl hge⟩
   ·rw[if_neg hge]
    refine wpS_bind (w_bey hC hk hu ha (by omega) ?_)
    dsimp only
    cases e:bey g left key arr base (hint - of) with
    | true=>
     rw[if_pos rfl]
     exact wpS_pure ⟨rfl,la,of,rfl,h2,h3,h4,.inr ⟨by omega,e⟩⟩
    | false=>
     rw[if_neg (by simp)]
     exact wpS_pure ⟨rfl,of,2*of+1,rfl,by omega,by omega,by omega,e⟩
  case p3=>
   rintro c st' ⟨rfl,la,of,rfl,h2,h3,h4,h5⟩
   refine last (hint+1 - min of (hint+1)) (hint - la) (by omega) (by omega) (fun i hi=>?_) (fun i h6 h7=>hm' _ i h6 h7 h4)
   rcases h5 with h5 | ⟨h5,h6⟩
   ·omega
   ·exact hm i _ (by omega) (by omega) h6
def gmP (n:Nat):StateT SortSt Sem Unit:=(sortPriv% PySem.Builtin.setMinGallop) n
def mloP:Array Keyed->Array Keyed->StateT SortSt Sem (Array Keyed):=sortPriv% PySem.Builtin.mergeLo
theorem mloP_eq (a b:Array Keyed):mloP a b=(do
 (rule "list.sort.merge-lo")
 let tot:=a.size+b.size
 let mut out:Array Keyed:=#[<- elem' b 0]
 let mut ia:=0
 let mut ib:=1
 if ib == b.size then return (out++a.extract ia a.size++b.extract ib b.size)
 if ia+1 == a.size then return (out++b.extract ib b.size++a.extract ia a.size)
 let mut mg:=gallopOf (<- get)
 for _ in [0:tot] do
  let mut ac:=0
  let mut bc:=0
  for _ in [0:tot] do
   let some bw <- lt' (<- elem' b ib) (<- elem' a ia) | return (out++a.extract ia a.size++b.extract ib b.size)
   if bw then
    out:=out.push (<- elem' b ib); ib:=ib+1; bc:=bc+1; ac:=0
    if ib == b.size then return (out++a.extract ia a.size++b.extract ib b.size)
    if bc ≥ mg then break
   else
    out:=out.push (<- elem' a ia); ia:=ia+1; ac:=ac+1; bc:=0
    if ia+1 == a.size then return (out++b.extract ib b.size++a.extract ia a.size)
    if ac ≥ mg then break
  (rule "list.sort.gallop")
  mg:=mg+1
  for _ in [0:tot] do
   if mg > 1 then mg:=mg - 1
   gmP mg
   let some k <- galP false (<- elem' b ib) a ia (a.size - ia) 0 | return (out++a.extract ia a.size++b.extract ib b.size)
   ac:=k
   if k > 0 then
    out:=out++a.extract ia (ia+k); ia:=ia+k
    if ia+1 == a.size then return (out++b.extract ib b.size++a.extract ia a.size)
    if ia == a.size then return (out++a.extract ia a.size++b.extract ib b.size)
   out:=out.push (<- elem' b ib); ib:=ib+1
   if ib == b.size then return (out++a.extract ia a.size++b.extract ib b.size)
   let some k <- galP true (<- elem' a ia) b ib (b.size - ib) 0 | return (out++a.extract ia a.size++b.extract ib b.size)
   bc:=k
   if k > 0 then
    out:=out++b.extract ib (ib+k); ib:=ib+k
    if ib == b.size then return (out++a.extract ia a.size++b.extract ib b.size)
   out:=out.push (<- elem' a ia); ia:=ia+1
   if ia+1 == a.size then return (out++b.extract ib b.size++a.extract ia a.size)
   if ac<7 && bc<7 then break
  mg:=mg+1
  gmP mg
 unsupported "internal:list.sort.merge-bound"):=rfl
structure Sm (st st':SortSt):Prop where
 k:kindOf st'=kindOf st
 a:arrOf st'=arrOf st
 p:pendingOf st'=pendingOf st
 f:failedOf st'=failedOf st
theorem Sm.refl (st:SortSt):Sm st st:=⟨rfl,rfl,rfl,rfl⟩
theorem w_gm {st st0:SortSt}{n:Nat}{Q:Unit->SortSt->Prop} (h0:Sm st0 st) (h:∀ st',Sm st0 st'->Q () st'):wpS M A E s (gmP n) Q st :=
 wpS_modify (h _ ⟨h0.k,h0.a,h0.p,h0.f⟩)
def Srt (g:Keyed->Int) (l:List Keyed):Prop:=l.Pairwise fun x y=>g x<g y
structure Mg (g:Keyed->Int) (T O A B:List Keyed):Prop where
 p:(O++(A++B)).Perm T
 a:Srt g (O++A)
 b:Srt g (O++B)
theorem Mg.pa {T O X A B:List Keyed} (h:Mg g T O (X++A) B) (hx:∀ x ∈ X,∀ y ∈ B,g x<g y):Mg g T (O++X) A B:=by
 refine⟨by rw[append_assoc,<- append_assoc X A B]; exact h.p,by rw[append_assoc]; exact h.a,?_⟩
 have h1:=h.a
 have h2:=h.b
 unfold Srt at h1 h2 ⊢
 rw[pairwise_append] at h1 h2
 rw[append_assoc,pairwise_append,pairwise_append]
 refine⟨h1.1,⟨(pairwise_append.mp h1.2.1).1,h2.2.1,hx⟩,fun x hx' y hy=>?_⟩
 rcases mem_append.mp hy with hy | hy
 ·exact h1.2.2 x hx' y (mem_append_left _ hy)
 ·exact h2.2.2 x hx' y hy
theorem Mg.pb {T O X A B:List Keyed} (h:Mg g T O A (X++B)) (hx:∀ x ∈ X,∀ y ∈ A,g x<g y):Mg g T (O++X) A B:=by
 have h1:=h.a
 have h2:=h.b
 refine⟨?_,?_,by rw[append_assoc]; exact h.b⟩
 ·refine List.Perm.trans ?_ h.p
  rw[append_assoc]
  refine List.Perm.append_left O ?_
  rw[<- append_assoc,<- append_assoc]
  exact List.perm_append_comm.append_right B
 ·unfold Srt at h1 h2 ⊢
  rw[pairwise_append] at h1 h2
  rw[append_assoc,pairwise_append,pairwise_append]
  refine⟨h1.1,⟨(pairwise_append.mp h2.2.1).1,h1.2.1,hx⟩,fun x hx' y hy=>?_⟩
  rcases mem_append.mp hy with hy | hy
  ·exact h2.2.2 x hx' y (mem_append_left _ hy)
  ·exact h1.2.2 x hx' y hy
def dr (a:Array Keyed) (i:Nat):List Keyed:=a.toList.drop i
theorem dr_cons {a:Array Keyed}{i:Nat} (h:i<a.size):∃ p,a[i]?=some p/\dr a i=p::dr a (i+1):=by
 refine⟨a[i],getElem?_pos a i h,?_⟩
 unfold dr
 rw[List.drop_eq_getElem_cons (by rw[Array.length_toList]; exact h)]
 rfl
theorem dr_len (a:Array Keyed) (i:Nat):(dr a i).length=a.size - i:=by unfold dr; rw[List.length_drop,Array.length_toList]
theorem dr_end {a:Array Keyed}{i:Nat} (h:i=a.size):dr a i=[]:=by unfold dr; rw[h,<- Array.length_toList,List.drop_length]
theorem dr_mem {a:Array Keyed}{i:Nat}{p:Keyed} (h:p ∈ dr a i):∃ j,i<=j/\j<a.size/\a[j]?=some p:=by
 obtain⟨k,hk⟩:=List.getElem?_of_mem h
 unfold dr at hk
 rw[List.getElem?_drop] at hk
 rw[Array.getElem?_toList] at hk
 refine⟨i+k,by omega,?_,hk⟩
 by_cases h:i+k<a.size
 ·exact h
 ·rw[Array.getElem?_eq_none (by omega)] at hk; cases hk
theorem ex_list (a:Array Keyed) (i j:Nat):(a.extract i j).toList=(dr a i).take (j - i):=by
 unfold dr
 rw[Array.toList_extract,List.extract_eq_take_drop]
theorem ex_all (a:Array Keyed) (i:Nat):(a.extract i a.size).toList=dr a i:=by
 rw[ex_list,List.take_of_length_le (by rw[dr_len]; omega)]
theorem dr_split (a:Array Keyed) (i k:Nat):dr a i=(dr a i).take k++dr a (i+k):=by
 unfold dr
 rw[<- List.drop_drop,List.take_append_drop]
theorem G_at {a:Array Keyed}{i:Nat}{p:Keyed} (h:a[i]?=some p):G g a i=g p:=by unfold G; rw[h]; rfl
def Gd (g:Keyed->Int) (T:List Keyed) (R:Array Keyed):Prop:=R.toList.Perm T/\Srt g R.toList
theorem Mg.doneB {T:List Keyed}{out a b:Array Keyed}{ia ib:Nat} (h:Mg g T out.toList (dr a ia) (dr b ib)) (e:ib=b.size):Gd g T (out++a.extract ia a.size++b.extract ib b.size):=by
 unfold Gd
 rw[Array.toList_append,Array.toList_append,ex_all,ex_all,dr_end e,append_nil]
 have h1:=h.p
 rw[dr_end e,append_nil] at h1
 exact⟨h1,h.a⟩
theorem Mg.doneA {T:List Keyed}{out a b:Array Keyed}{ia ib:Nat} (h:Mg g T out.toList (dr a ia) (dr b ib)) (e:ia=a.size):Gd g T (out++a.extract ia a.size++b.extract ib b.size):=by
 unfold Gd
 rw[Array.toList_append,Array.toList_append,ex_all,ex_all,dr_end e,append_nil]
 have h1:=h.p
 rw[dr_end e,List.nil_append] at h1
 exact⟨h1,h.b⟩
theorem Mg.last {T:List Keyed}{out a b:Array Keyed}{ia ib:Nat} (h:Mg g T out.toList (dr a ia) (dr b ib)) (e:ia+1=a.size) (hl:∀ p ∈ dr a (a.size - 1),∀ q ∈ b.toList,g q<g p):Gd g T (out++b.extract ib b.size++a.extract ia a.size):=by
 unfold Gd
 rw[Array.toList_append,Array.toList_append,ex_all,ex_all,append_assoc]
 refine⟨(List.Perm.append_left _ List.perm_append_comm).trans h.p,?_⟩
 have h1:=h.a
 have h2:=h.b
 unfold Srt at h1 h2 ⊢
 rw[pairwise_append] at h1 h2
 rw[pairwise_append,pairwise_append]
 refine⟨h1.1,⟨h2.2.1,h1.2.1,fun x hx y hy=>hl y (by rw[<- e,Nat.add_sub_cancel]; exact hy) x (List.mem_of_mem_drop hx)⟩,fun x hx y hy=>?_⟩
 rcases mem_append.mp hy with hy | hy
 ·exact h2.2.2 x hx y hy
 ·exact h1.2.2 x hx y hy
theorem srt_of {a:Array Keyed} (h:Asc g a 0 a.size):Srt g a.toList:=by
 unfold Srt
 rw[List.pairwise_iff_getElem]
 intro i j hi hj hij
 rw[Array.length_toList] at hi hj
 have:=h i j (Nat.zero_le _) hij hj
 unfold G at this
 rw[getElem?_pos a i hi,getElem?_pos a j hj] at this
 simpa using this
theorem asc_of {a:Array Keyed} (h:Srt g a.toList):Asc g a 0 a.size:=by
 unfold Srt at h
 rw[List.pairwise_iff_getElem] at h
 intro i j _ hij hj
 have:=h i j (by rw[Array.length_toList]; omega) (by rw[Array.length_toList]; omega) hij
 unfold G
 rw[getElem?_pos a i (by omega),getElem?_pos a j hj]
 simpa using this
theorem Mg.nes {T O A B:List Keyed} (hd:(T.map g).Nodup) (h:Mg g T O A B) {a b:Keyed} (ha:a ∈ A) (hb:b ∈ B):g a≠g b:=by
 have h1:=((h.p.map g).nodup_iff).mpr hd
 rw[map_append,map_append] at h1
 have h2:=(List.nodup_append.mp h1).2.1
 exact(List.nodup_append.mp h2).2.2 (g a) (mem_map_of_mem ha) (g b) (mem_map_of_mem hb)
theorem dr_le {a:Array Keyed} (h:Asc g a 0 a.size) {i:Nat}{p:Keyed} (e:a[i]?=some p) {q:Keyed} (hq:q ∈ dr a i):g p<=g q:=by
 obtain⟨j,h1,h2,h3⟩:=dr_mem hq
 rw[<- G_at (g:=g) e,<- G_at (g:=g) h3]
 by_cases e:i=j
 ·subst e; exact Int.le_refl _
 ·exact Int.le_of_lt (h i j (Nat.zero_le _) (by omega) h2)
theorem dr_take_mem {a:Array Keyed}{i k:Nat}{p:Keyed} (h:p ∈ (dr a i).take k):∃ j,j<k/\i+j<a.size/\a[i+j]?=some p:=by
 obtain⟨n,hn⟩:=List.getElem?_of_mem h
 rw[List.getElem?_take] at hn
 split at hn
 ·unfold dr at hn
  rw[List.getElem?_drop,Array.getElem?_toList] at hn
  refine⟨n,by assumption,?_,hn⟩
  by_cases h:i+n<a.size
  ·exact h
  ·rw[Array.getElem?_eq_none (by omega)] at hn; cases hn
 ·cases hn
structure MI (g:Keyed->Int) (T:List Keyed) (a b out:Array Keyed) (ia ib:Nat):Prop where
 m:Mg g T out.toList (dr a ia) (dr b ib)
 ha:ia+1<a.size
 hb:ib<b.size
theorem Mg.push_b {T:List Keyed}{a b out:Array Keyed}{ia ib:Nat}{p q:Keyed} (h:Mg g T out.toList (dr a ia) (dr b ib)) (ha:Asc g a 0 a.size) (e1:a[ia]?=some p) (e2:b[ib]?=some q) (hlt:g q<g p):Mg g T (out.push q).toList (dr a ia) (dr b (ib+1)):=by
 obtain⟨q',e3,e4⟩:=dr_cons (a:=b) (i:=ib) (by by_cases h:ib<b.size; exact h; rw[Array.getElem?_eq_none (by omega)] at e2; cases e2)
 rw[e2] at e3
 cases e3
 rw[e4] at h
 rw[Array.toList_push]
 exact h.pb (X:=[q]) fun x hx y hy=>by cases mem_singleton.mp hx; exact Int.lt_of_lt_of_le hlt (dr_le ha e1 hy)
theorem Mg.push_a {T:List Keyed}{a b out:Array Keyed}{ia ib:Nat}{p q:Keyed} (h:Mg g T out.toList (dr a ia) (dr b ib)) (hb:Asc g b 0 b.size) (e1:a[ia]?=some p) (e2:b[ib]?=some q) (hlt:g p<g q):Mg g T (out.push p).toList (dr a (ia+1)) (dr b ib):=by
 obtain⟨q',e3,e4⟩:=dr_cons (a:=a) (i:=ia) (by by_cases h:ia<a.size; exact h; rw[Array.getElem?_eq_none (by omega)] at e1; cases e1)
 rw[e1] at e3
 cases e3
 rw[e4] at h
 rw[Array.toList_push]
 exact h.pa (X:=[p]) fun x hx y hy=>by cases mem_singleton.mp hx; exact Int.lt_of_lt_of_le hlt (dr_le hb e2 hy)
theorem Mg.bulk_a {T:List Keyed} (hd:(T.map g).Nodup) {a b out:Array Keyed}{ia ib k:Nat}{q:Keyed} (h:Mg g T out.toList (dr a ia) (dr b ib)) (hb:Asc g b 0 b.size) (e2:b[ib]?=some q)
  (hk:∀ i,i<k->bey g false q a ia i=true):Mg g T (out++a.extract ia (ia+k)).toList (dr a (ia+k)) (dr b ib):=by
 rw[Array.toList_append,ex_list,Nat.add_sub_cancel_left]
 have h':=h
 rw[dr_split a ia k] at h'
 refine h'.pa fun x hx y hy=>?_
 obtain⟨j,hj,hj2,e⟩:=dr_take_mem hx
 have h3:=hk j hj
 unfold bey at h3
 rw[G_at e] at h3
 simp at h3
 have hq:q ∈ dr b ib:=by
  obtain⟨q',e3,e4⟩:=dr_cons (a:=b) (i:=ib) (by by_cases h:ib<b.size; exact h; rw[Array.getElem?_eq_none (by omega)] at e2; cases e2)
  rw[e2] at e3
  cases e3
  rw[e4]
  exact mem_cons_self
 have h4:=h.nes hd (List.mem_of_mem_take hx) hq
 have h5:=dr_le hb e2 hy
 omega
theorem Mg.bulk_b {T:List Keyed}{a b out:Array Keyed}{ia ib k:Nat}{p:Keyed} (h:Mg g T out.toList (dr a ia) (dr b ib)) (ha:Asc g a 0 a.size) (e1:a[ia]?=some p)
  (hk:∀ i,i<k->bey g true p b ib i=true):Mg g T (out++b.extract ib (ib+k)).toList (dr a ia) (dr b (ib+k)):=by
 rw[Array.toList_append,ex_list,Nat.add_sub_cancel_left]
 have h':=h
 rw[dr_split b ib k] at h'
 refine h'.pb fun x hx y hy=>?_
 obtain⟨j,hj,hj2,e⟩:=dr_take_mem hx
 have h3:=hk j hj
 unfold bey at h3
 rw[G_at e] at h3
 simp at h3
 have h5:=dr_le ha e1 hy
 omega
theorem bey_mono {left:Bool}{key:Keyed}{arr:Array Keyed}{base n:Nat} (h:Asc g arr 0 arr.size) (hz:base+n<=arr.size):∀ i j,i<=j->j<n->bey g left key arr base j=true->bey g left key arr base i=true:=by
 intro i j hij hj hb
 have:G g arr (base+i)<=G g arr (base+j):=by
  by_cases e:i=j
  ·subst e; exact Int.le_refl _
  ·exact Int.le_of_lt (h _ _ (Nat.zero_le _) (by omega) (by omega))
 unfold bey at hb ⊢
 cases left with
 | true=>simp at hb ⊢; omega
 | false=>simp at hb ⊢; omega
theorem w_if {α:Type}{c:Prop} [Decidable c] {m1 m2:StateT SortSt Sem α}{Q:α->SortSt->Prop}{st:SortSt} (h1:wpS M A E s m1 Q st) (h2:wpS M A E s m2 Q st):wpS M A E s (if c then m1 else m2) Q st:=by
 split
 ·exact h1
 ·exact h2
theorem w_ifj {α:Type}{c:Prop} [Decidable c] {m1 m2 m3:StateT SortSt Sem α}{Q:α->SortSt->Prop}{st:SortSt} (h1:c->m1=m3) (h2:¬ c->m2=m3) (h:wpS M A E s m3 Q st):wpS M A E s (if c then m1 else m2) Q st:=by
 split
 ·rename_i x; rw[h1 x]; exact h
 ·rename_i x; rw[h2 x]; exact h
theorem w_if2 {α:Type}{c:Prop} [Decidable c] {F:Nat->StateT SortSt Sem α}{Q:α->SortSt->Prop}{st:SortSt} (y:Nat) (h:∀ n,wpS M A E s (F n) Q st):∀ x,wpS M A E s (if c then F x else F y) Q st:=by
 intro x
 split
 ·exact h x
 ·exact h y
theorem om9 {x y:Int} (h:x<=y) (n:x≠y):x<y:=by omega
theorem om5 {n t k:Nat} (e:n - t=k) (h:¬ k > 0) (l:t<=n):n=t:=by omega
theorem om6 {t:Nat} (h:¬ t=1) (h':¬ t=0):2<=t:=by omega
theorem om7 {n:Nat} (h:2<=n) (h':¬ n - 1=1):2<=n - 1:=by omega
theorem om8 {n m t u y r:Nat} (h:n+m+y<=r) (l:t<=n) (l2:u<=m - 1) (t1:1<=t) (m2:2<=m):t - 1+u+(y+1)<=r:=by omega
theorem om1 {A B i j i2 j2 k k2 y r:Nat} (h:A - i+(B - j)+y<=r) (e:i+k=i2) (e2:j+1+k2=j2) (l:i2<A) (l2:j<B):A - (i2+1)+(B - j2)+(y+1)<=r:=by omega
theorem om2 {A i i2 k:Nat} (h:k<=A - i) (e:i+k=i2) (n1:¬ i2+1=A) (n2:¬ i2=A) (l:i+1<A):i2+1<A:=by omega
theorem om3 {A i i2 k:Nat} (e:i+k=i2) (l:i2<A):k<A - i:=by omega
theorem om4 {A i i2 k:Nat} (h:k<=A - (i+1)) (e:i+1+k=i2) (n1:¬ i2=A) (l:i<A):i2<A:=by omega
theorem w_mlo (hC:Cmp M A s κ g U) {st st0:SortSt}{a b:Array Keyed}{T:List Keyed}{Q:Array Keyed->SortSt->Prop} (h0:Sm st0 st) (hk:kindOf st0=κ) (ua:All U a) (ub:All U b) (hd:(T.map g).Nodup) (hT:(a.toList++b.toList).Perm T)
  (sa:Asc g a 0 a.size) (sb:Asc g b 0 b.size) (ha:1<=a.size) (hb:1<=b.size) (h1:G g b 0<G g a 0) (hl:∀ p ∈ dr a (a.size - 1),∀ q ∈ b.toList,g q<g p)
  (h:∀ R st',Sm st0 st'->Gd g T R->Q R st'):wpS M A E s (mloP a b) Q st:=by
 rw[mloP_eq]
 refine wpS_bind (wpS_lift (wpAny_rule ⟨rfl,?_⟩))
 obtain⟨b0,eb0,_⟩:=dr_cons (a:=b) (i:=0) (by omega)
 obtain⟨a0,ea0,_⟩:=dr_cons (a:=a) (i:=0) (by omega)
 refine wpS_bind (w_elem eb0 ?_)
 dsimp only
 have m0:Mg g T (#[]:Array Keyed).toList (dr a 0) (dr b 0):=⟨hT,srt_of sa,srt_of sb⟩
 have m1:Mg g T (#[b0]:Array Keyed).toList (dr a 0) (dr b 1):=m0.push_b sa ea0 eb0 (by rw[<- G_at (g:=g) eb0,<- G_at (g:=g) ea0]; exact h1)
 by_cases c1:1=b.size
 ·rw[if_pos (by simpa using c1)]
  exact wpS_pure (h _ _ h0 (m1.doneB c1))
 rw[if_neg (by simpa using c1)]
 by_cases c2:0+1=a.size
 ·rw[if_pos (by simpa using c2)]
  exact wpS_pure (h _ _ h0 (m1.last c2 hl))
 rw[if_neg (by simpa using c2)]
 refine wpS_bind (wpS_get ?_)
 refine wpS_bind (wpS_mono (wpS_forRange (I:=fun x c st'=>Sm st0 st'/\∃ out ia ib mg,c=(none,out,ia,ib,mg)/\MI g T a b out ia ib/\(a.size - ia)+(b.size - ib)+x<=a.size+b.size)
  (Q:=fun c st'=>Sm st0 st'/\∃ R r,c=(some R,r)/\Gd g T R) ?so ?fo ⟨h0,_,0,1,_,rfl,⟨m1,by omega,by omega⟩,by omega⟩) ?po)
 case fo=>
  rintro c st' ⟨_,out,ia,ib,mg,_,hi,hm⟩
  have:=hi.ha
  exfalso
  omega
 case po=>
  rintro c st' ⟨hs,R,r,rfl,hg⟩
  exact wpS_pure (h _ _ hs hg)
 case so=>
  rintro x c st1 _ hx ⟨hs1,out,ia,ib,mg,rfl,hi,hm⟩
  dsimp only
  obtain⟨r0,er0⟩:∃ r0,(a.size - ia)+(b.size - ib)=r0:=⟨_,rfl⟩
  rw[er0] at hm
  refine wpS_bind (wpS_mono (wpS_forRange (I:=fun y c st'=>Sm st0 st'/\∃ out ia ib ac bc,c=(none,out,ia,ib,ac,bc)/\MI g T a b out ia ib/\(a.size - ia)+(b.size - ib)+y<=r0)
   (Q:=fun c st'=>Sm st0 st'/\((∃ R r,c=(some R,r)/\Gd g T R)∨∃ out ia ib ac bc,c=(none,out,ia,ib,ac,bc)/\MI g T a b out ia ib/\(a.size - ia)+(b.size - ib)+1<=r0)) ?s1 ?f1 ⟨hs1,_,ia,ib,_,_,rfl,hi,by omega⟩) ?p1)
  case f1=>
   rintro c st' ⟨_,out,ia,ib,ac,bc,_,hi,hm⟩
   have:=hi.ha
   exfalso
   omega
  case s1=>
   rintro y c st2 _ hy ⟨hs2,out,ia,ib,ac,bc,rfl,hi,hm2⟩
   dsimp only
   have i1:=hi.ha
   have i2:=hi.hb
   obtain⟨q,eq,_⟩:=dr_cons (a:=b) (i:=ib) (by omega)
   obtain⟨p,ep,epd⟩:=dr_cons (a:=a) (i:=ia) (by omega)
   refine wpS_bind (w_elem eq (wpS_bind (w_elem ep (wpS_bind (w_lt hC (hs2.k.trans hk) (ub _ _ eq) (ua _ _ ep) ?_)))))
   dsimp only
   by_cases hlt:g q<g p
   ·rw[if_pos (decide_eq_true hlt)]
    refine wpS_bind (w_elem eq ?_)
    have m2:=hi.m.push_b sa ep eq hlt
    by_cases c:ib+1=b.size
    ·rw[if_pos (by simpa using c)]
     exact wpS_pure ⟨hs2,.inl ⟨_,_,rfl,m2.doneB c⟩⟩
    ·rw[if_neg (by simpa using c)]
     split
     ·exact wpS_pure ⟨hs2,.inr ⟨_,_,_,_,_,rfl,⟨m2,i1,by omega⟩,by omega⟩⟩
     ·exact wpS_pure ⟨hs2,_,_,_,_,_,rfl,⟨m2,i1,by omega⟩,by omega⟩
   ·rw[if_neg (by simpa using hlt)]
    refine wpS_bind (w_elem ep ?_)
    have hne:=hi.m.nes hd (a:=p) (b:=q) (by rw[epd]; exact mem_cons_self) (by obtain⟨q',e3,e4⟩:=dr_cons (a:=b) (i:=ib) (by omega); rw[eq] at e3; cases e3; rw[e4]; exact mem_cons_self)
    have m2:=hi.m.push_a sb ep eq (by omega)
    by_cases c:ia+1+1=a.size
    ·rw[if_pos (by simpa using c)]
     exact wpS_pure ⟨hs2,.inl ⟨_,_,rfl,m2.last c hl⟩⟩
    ·rw[if_neg (by simpa using c)]
     split
     ·exact wpS_pure ⟨hs2,.inr ⟨_,_,_,_,_,rfl,⟨m2,by omega,i2⟩,by omega⟩⟩
     ·exact wpS_pure ⟨hs2,_,_,_,_,_,rfl,⟨m2,by omega,i2⟩,by omega⟩
  case p1=>
   rintro c st2 ⟨hs2,⟨R,r,rfl,hg⟩ | ⟨out,ia,ib,ac,bc,rfl,hi,hm2⟩⟩
   ·exact wpS_pure ⟨hs2,_,_,rfl,hg⟩
   dsimp only
   refine wpS_bind (wpS_lift (wpAny_rule ⟨rfl,?_⟩))
   obtain⟨r1,er1⟩:∃ r1,(a.size - ia)+(b.size - ib)=r1:=⟨_,rfl⟩
   rw[er1] at hm2
   refine wpS_bind (wpS_mono (wpS_forRange (I:=fun y c st'=>Sm st0 st'/\∃ out ia ib mg ac bc,c=(none,out,ia,ib,mg,ac,bc)/\MI g T a b out ia ib/\(a.size - ia)+(b.size - ib)+y<=r1)
    (Q:=fun c st'=>Sm st0 st'/\((∃ R r,c=(some R,r)/\Gd g T R)∨∃ out ia ib mg ac bc,c=(none,out,ia,ib,mg,ac,bc)/\MI g T a b out ia ib/\(a.size - ia)+(b.size - ib)<=r1)) ?s2 ?f2 ⟨hs2,_,ia,ib,_,_,_,rfl,hi,by omega⟩) ?p2)
   case f2=>
    rintro c st' ⟨_,out,ia,ib,mg,ac,bc,_,hi,hm⟩
    have:=hi.ha
    exfalso
    omega
   case p2=>
    rintro c st3 ⟨hs3,⟨R,r,rfl,hg⟩ | ⟨out,ia,ib,mg,ac,bc,rfl,hi,hm3⟩⟩
    ·exact wpS_pure ⟨hs3,_,_,rfl,hg⟩
    dsimp only
    exact wpS_bind (w_gm hs3 fun st4 hs4=>wpS_pure ⟨hs4,_,_,_,_,rfl,hi,by omega⟩)
   case s2=>
    rintro y c st3 _ hy ⟨hs3,out,ia,ib,mg,ac,bc,rfl,hi,hm3⟩
    dsimp only
    have i1:=hi.ha
    have i2:=hi.hb
    obtain⟨q,eq,eqd⟩:=dr_cons (a:=b) (i:=ib) (by omega)
    have hq:q ∈ dr b ib:=by rw[eqd]; exact mem_cons_self
    generalize mg - 1=mg1
    revert mg1
    refine w_if2 (c:=mg > 1) mg fun n=>?_
    refine wpS_bind (w_gm hs3 fun st4 hs4=>?_)
    refine wpS_bind (w_elem eq (wpS_bind (w_gal hC (hs4.k.trans hk) (ub _ _ eq) ua (by omega) (by omega) (bey_mono sa (by omega)) fun k hk1 hk2 hk3=>?_)))
    dsimp only
    have m2:=hi.m.bulk_a hd sb eq hk2
    obtain⟨o2,eo2⟩:∃ o2,out++a.extract ia (ia+k)=o2:=⟨_,rfl⟩
    obtain⟨ia2,eia2⟩:∃ ia2,ia+k=ia2:=⟨_,rfl⟩
    have ek:k=0->out=o2/\ia=ia2:=fun e=>by
     subst e
     refine⟨?_,eia2⟩
     rw[<- eo2]
     apply Array.toList_inj.mp
     rw[Array.toList_append,ex_list,Nat.add_zero,Nat.sub_self,List.take_zero,append_nil]
    rw[eia2] at m2 eo2
    rw[eo2] at m2
    by_cases cx:k > 0/\ia2+1=a.size
    ·rw[if_pos cx.1,eia2,eo2,if_pos (by simpa using cx.2)]
     exact wpS_pure ⟨hs4,.inl ⟨_,_,rfl,m2.last cx.2 hl⟩⟩
    by_cases cy:k > 0/\ia2=a.size
    ·rw[if_pos cy.1,eia2,eo2,if_neg (by simpa using fun e=>cx ⟨cy.1,e⟩),if_pos (by simpa using cy.2)]
     exact wpS_pure ⟨hs4,.inl ⟨_,_,rfl,m2.doneA cy.2⟩⟩
    have c:ia2+1<a.size:=by
     by_cases ck:k > 0
     ·exact om2 hk1 eia2 (fun e=>cx ⟨ck,e⟩) (fun e=>cy ⟨ck,e⟩) i1
     ·rw[<- (ek (Nat.eq_zero_of_not_pos ck)).2]; exact i1
    apply w_ifj
    ·intro ck
     rw[eia2,eo2,if_neg (by simpa using fun e=>cx ⟨ck,e⟩),if_neg (by simpa using fun e=>cy ⟨ck,e⟩)]
    ·intro ck
     obtain⟨e7,e8⟩:=ek (Nat.eq_zero_of_not_pos ck)
     rw[e7,e8]
    clear cx cy ek
    have c0:ia2<a.size:=Nat.lt_of_succ_lt c
    have hka:g q<g (a[ia2]'c0):=by
     have h3:=hk3 k (Nat.le_refl _) (om3 eia2 c0)
     unfold bey at h3
     rw[eia2,G_at (getElem?_pos a ia2 c0)] at h3
     simpa using h3
    obtain⟨p,ep,epd⟩:=dr_cons (a:=a) (i:=ia2) c0
    rw[getElem?_pos a ia2 c0] at ep
    have epp:=Option.some.inj ep
    rw[epp] at hka
    rw[<- getElem?_pos a ia2 c0] at ep
    refine wpS_bind (w_elem eq ?_)
    have m3:=m2.push_b sa ep eq hka
    by_cases c1:ib+1=b.size
    ·rw[if_pos (by simpa using c1)]
     exact wpS_pure ⟨hs4,.inl ⟨_,_,rfl,m3.doneB c1⟩⟩
    rw[if_neg (by simpa using c1)]
    refine wpS_bind (w_elem ep (wpS_bind (w_gal hC (hs4.k.trans hk) (ua _ _ ep) ub (by omega) (by omega) (bey_mono sb (by omega)) fun k2 hj1 hj2 hj3=>?_)))
    dsimp only
    have m4:=m3.bulk_b sa ep hj2
    obtain⟨o3,eo3⟩:∃ o3,o2.push q++b.extract (ib+1) (ib+1+k2)=o3:=⟨_,rfl⟩
    obtain⟨ib2,eib2⟩:∃ ib2,ib+1+k2=ib2:=⟨_,rfl⟩
    have ek2:k2=0->o2.push q=o3/\ib+1=ib2:=fun e=>by
     subst e
     refine⟨?_,eib2⟩
     rw[<- eo3]
     apply Array.toList_inj.mp
     rw[Array.toList_append,ex_list,Nat.add_zero,Nat.sub_self,List.take_zero,append_nil]
    rw[eib2] at m4 eo3
    rw[eo3] at m4
    by_cases c2:k2 > 0/\ib2=b.size
    ·rw[if_pos c2.1,eib2,eo3,if_pos (by simpa using c2.2)]
     exact wpS_pure ⟨hs4,.inl ⟨_,_,rfl,m4.doneB c2.2⟩⟩
    have hb2:ib2<b.size:=by
     by_cases ck:k2 > 0
     ·exact om4 hj1 eib2 (fun e=>c2 ⟨ck,e⟩) i2
     ·rw[<- (ek2 (Nat.eq_zero_of_not_pos ck)).2]; exact Nat.lt_of_le_of_ne i2 c1
    apply w_ifj
    ·intro ck2
     rw[eib2,eo3,if_neg (by simpa using fun e=>c2 ⟨ck2,e⟩)]
    ·intro ck2
     obtain⟨e5,e6⟩:=ek2 (Nat.eq_zero_of_not_pos ck2)
     rw[e5,e6]
    clear c2 ek2
    have nx:Mg g T (o3.push p).toList (dr a (ia2+1)) (dr b ib2):=by
     obtain⟨q2,eq2,eqd2⟩:=dr_cons (a:=b) (i:=ib2) hb2
     have h3:=hj3 k2 (Nat.le_refl _) (om3 eib2 hb2)
     unfold bey at h3
     rw[eib2,G_at eq2] at h3
     have hne:=m4.nes hd (a:=p) (b:=q2) (by rw[epd]; exact mem_cons_self) (by rw[eqd2]; exact mem_cons_self)
     simp at h3
     exact m4.push_a sb ep eq2 (om9 h3 hne)
    refine wpS_bind (w_elem ep ?_)
    by_cases c3:ia2+1+1=a.size
    ·rw[if_pos (by simpa using c3)]
     exact wpS_pure ⟨hs4,.inl ⟨_,_,rfl,nx.last c3 hl⟩⟩
    rw[if_neg (by simpa using c3)]
    have l3:ia2+1+1<a.size:=Nat.lt_of_le_of_ne c c3
    by_cases c4:(decide (k<7) && decide (k2<7))=true
    ·rw[if_pos c4]
     exact wpS_pure ⟨hs4,.inr ⟨_,_,_,_,_,_,rfl,⟨nx,l3,hb2⟩,Nat.le_trans (Nat.le_add_right _ _) (om1 hm3 eia2 eib2 c0 i2)⟩⟩
    ·rw[if_neg c4]
     exact wpS_pure ⟨hs4,_,_,_,_,_,_,rfl,⟨nx,l3,hb2⟩,om1 hm3 eia2 eib2 c0 i2⟩
def mhiP:Array Keyed->Array Keyed->StateT SortSt Sem (Array Keyed):=sortPriv% PySem.Builtin.mergeHi
theorem mhiP_eq (a b:Array Keyed):mhiP a b=(do
 (rule "list.sort.merge-hi")
 let tot:=a.size+b.size
 let mut na:=a.size - 1
 let mut nb:=b.size
 let mut out:Array Keyed:=#[<- elem' a na]
 if na == 0 then return (a.extract 0 na++b.extract 0 nb++out.reverse)
 if nb == 1 then return (b.extract 0 nb++a.extract 0 na++out.reverse)
 let mut mg:=gallopOf (<- get)
 for _ in [0:tot] do
  let mut ac:=0
  let mut bc:=0
  for _ in [0:tot] do
   let some aw <- lt' (<- elem' b (nb - 1)) (<- elem' a (na - 1)) | return (a.extract 0 na++b.extract 0 nb++out.reverse)
   if aw then
    na:=na - 1; out:=out.push (<- elem' a na); ac:=ac+1; bc:=0
    if na == 0 then return (a.extract 0 na++b.extract 0 nb++out.reverse)
    if ac ≥ mg then break
   else
    nb:=nb - 1; out:=out.push (<- elem' b nb); bc:=bc+1; ac:=0
    if nb == 1 then return (b.extract 0 nb++a.extract 0 na++out.reverse)
    if bc ≥ mg then break
  (rule "list.sort.gallop")
  mg:=mg+1
  for _ in [0:tot] do
   if mg > 1 then mg:=mg - 1
   gmP mg
   let some t1 <- galP false (<- elem' b (nb - 1)) a 0 na (na - 1) | return (a.extract 0 na++b.extract 0 nb++out.reverse)
   let k:=na - t1
   ac:=k
   if k > 0 then
    out:=out++(a.extract t1 na).reverse; na:=t1
    if na == 0 then return (a.extract 0 na++b.extract 0 nb++out.reverse)
   nb:=nb - 1; out:=out.push (<- elem' b nb)
   if nb == 1 then return (b.extract 0 nb++a.extract 0 na++out.reverse)
   let some t2 <- galP true (<- elem' a (na - 1)) b 0 nb (nb - 1) | return (a.extract 0 na++b.extract 0 nb++out.reverse)
   let k:=nb - t2
   bc:=k
   if k > 0 then
    out:=out++(b.extract t2 nb).reverse; nb:=t2
    if nb == 1 then return (b.extract 0 nb++a.extract 0 na++out.reverse)
    if nb == 0 then return (a.extract 0 na++b.extract 0 nb++out.reverse)
   na:=na - 1; out:=out.push (<- elem' a na)
   if na == 0 then return (a.extract 0 na++b.extract 0 nb++out.reverse)
   if ac<7 && bc<7 then break
  mg:=mg+1
  gmP mg
 unsupported "internal:list.sort.merge-bound"):=rfl
structure Mh (g:Keyed->Int) (T A B O:List Keyed):Prop where
 p:((A++B)++O).Perm T
 a:Srt g (A++O)
 b:Srt g (B++O)
theorem Mh.pa {T A X B O:List Keyed} (h:Mh g T (A++X) B O) (hx:∀ x ∈ X,∀ y ∈ B,g y<g x):Mh g T A B (X++O):=by
 have h1:=h.a
 have h2:=h.b
 refine⟨?_,by rw[<- append_assoc]; exact h.a,?_⟩
 ·refine List.Perm.trans ?_ h.p
  rw[<- append_assoc]
  refine List.Perm.append_right O ?_
  rw[append_assoc,append_assoc]
  exact List.Perm.append_left A List.perm_append_comm
 ·unfold Srt at h1 h2 ⊢
  rw[pairwise_append] at h1 h2
  rw[pairwise_append,pairwise_append]
  have h3:=pairwise_append.mp h1.1
  refine⟨h2.1,⟨h3.2.1,h1.2.1,fun x hx' y hy=>h1.2.2 x (mem_append_right _ hx') y hy⟩,fun y hy x hx'=>?_⟩
  rcases mem_append.mp hx' with hx' | hx'
  ·exact hx x hx' y hy
  ·exact h2.2.2 y hy x hx'
theorem Mh.pb {T A X B O:List Keyed} (h:Mh g T A (B++X) O) (hx:∀ x ∈ X,∀ y ∈ A,g y<g x):Mh g T A B (X++O):=by
 have h1:=h.a
 have h2:=h.b
 refine⟨?_,?_,by rw[<- append_assoc]; exact h.b⟩
 ·refine List.Perm.trans ?_ h.p
  rw[<- append_assoc,<- append_assoc]
 ·unfold Srt at h1 h2 ⊢
  rw[pairwise_append] at h1 h2
  rw[pairwise_append,pairwise_append]
  have h3:=pairwise_append.mp h2.1
  refine⟨h1.1,⟨h3.2.1,h2.2.1,fun x hx' y hy=>h2.2.2 x (mem_append_right _ hx') y hy⟩,fun y hy x hx'=>?_⟩
  rcases mem_append.mp hx' with hx' | hx'
  ·exact hx x hx' y hy
  ·exact h1.2.2 y hy x hx'
theorem Mh.nes {T A B O:List Keyed} (hd:(T.map g).Nodup) (h:Mh g T A B O) {a b:Keyed} (ha:a ∈ A) (hb:b ∈ B):g a≠g b:=by
 have h1:=((h.p.map g).nodup_iff).mpr hd
 rw[map_append,map_append] at h1
 have h2:=(List.nodup_append.mp h1).1
 exact(List.nodup_append.mp h2).2.2 (g a) (mem_map_of_mem ha) (g b) (mem_map_of_mem hb)
def tk (a:Array Keyed) (n:Nat):List Keyed:=a.toList.take n
theorem tk_snoc {a:Array Keyed}{n:Nat} (h1:1<=n) (h:n<=a.size):∃ p,a[n - 1]?=some p/\tk a n=tk a (n - 1)++[p]:=by
 refine⟨a[n - 1],getElem?_pos a (n - 1) (by omega),?_⟩
 unfold tk
 obtain⟨m,rfl⟩:∃ m,n=m+1:=⟨n - 1,by omega⟩
 simp only[Nat.add_sub_cancel]
 rw[List.take_succ,Array.getElem?_toList,getElem?_pos a m (by omega)]
 rfl
theorem tk_mem {a:Array Keyed}{n:Nat}{p:Keyed} (h:p ∈ tk a n):∃ j,j<n/\j<a.size/\a[j]?=some p:=by
 obtain⟨k,hk⟩:=List.getElem?_of_mem h
 unfold tk at hk
 rw[List.getElem?_take] at hk
 split at hk
 ·rw[Array.getElem?_toList] at hk
  refine⟨k,by assumption,?_,hk⟩
  by_cases h:k<a.size
  ·exact h
  ·rw[Array.getElem?_eq_none (by omega)] at hk; cases hk
 ·cases hk
theorem ex_tk (a:Array Keyed) (n:Nat):(a.extract 0 n).toList=tk a n:=by
 rw[ex_list]; unfold dr tk; rw[List.drop_zero,Nat.sub_zero]
theorem tk_split {a:Array Keyed}{i n:Nat} (h:i<=n):tk a n=tk a i++(a.extract i n).toList:=by
 rw[ex_list]
 unfold tk dr
 rw[<- List.drop_take]
 conv=>lhs; rw[<- List.take_append_drop i (a.toList.take n)]
 rw[List.take_take,Nat.min_eq_left h]
theorem tk_ge {a:Array Keyed} (h:Asc g a 0 a.size) {n:Nat}{p:Keyed} (hn:n<=a.size) (e:a[n - 1]?=some p) {q:Keyed} (hq:q ∈ tk a n):g q<=g p:=by
 obtain⟨j,h1,h2,h3⟩:=tk_mem hq
 rw[<- G_at (g:=g) e,<- G_at (g:=g) h3]
 by_cases e:j=n - 1
 ·subst e; exact Int.le_refl _
 ·exact Int.le_of_lt (h j (n - 1) (Nat.zero_le _) (by omega) (by omega))
def rv (out:Array Keyed):List Keyed:=out.toList.reverse
theorem rv_push (out:Array Keyed) (p:Keyed):rv (out.push p)=p::rv out:=by unfold rv; rw[Array.toList_push,List.reverse_append]; rfl
theorem rv_app (out x:Array Keyed):rv (out++x.reverse)=x.toList++rv out:=by unfold rv; rw[Array.toList_append,List.reverse_append,Array.toList_reverse,List.reverse_reverse]
theorem Mh.done_a {T:List Keyed}{out a b:Array Keyed}{na nb:Nat} (h:Mh g T (tk a na) (tk b nb) (rv out)) (e:na=0):Gd g T (a.extract 0 na++b.extract 0 nb++out.reverse):=by
 unfold Gd
 rw[Array.toList_append,Array.toList_append,ex_tk,ex_tk,Array.toList_reverse]
 have e2:tk a na=[]:=by unfold tk; rw[e,List.take_zero]
 have h1:=h.p
 rw[e2,List.nil_append] at h1 ⊢
 exact⟨h1,h.b⟩
theorem Mh.done_b {T:List Keyed}{out a b:Array Keyed}{na nb:Nat} (h:Mh g T (tk a na) (tk b nb) (rv out)) (e:nb=0):Gd g T (a.extract 0 na++b.extract 0 nb++out.reverse):=by
 unfold Gd
 rw[Array.toList_append,Array.toList_append,ex_tk,ex_tk,Array.toList_reverse]
 have e2:tk b nb=[]:=by unfold tk; rw[e,List.take_zero]
 have h1:=h.p
 rw[e2,append_nil] at h1 ⊢
 exact⟨h1,h.a⟩
theorem Mh.first {T:List Keyed}{out a b:Array Keyed}{na nb:Nat} (h:Mh g T (tk a na) (tk b nb) (rv out)) (e:nb=1) (hf:∀ p ∈ tk b 1,∀ q ∈ a.toList,g p<g q):Gd g T (b.extract 0 nb++a.extract 0 na++out.reverse):=by
 unfold Gd
 rw[Array.toList_append,Array.toList_append,ex_tk,ex_tk,Array.toList_reverse]
 refine⟨(List.Perm.append_right _ List.perm_append_comm).trans h.p,?_⟩
 have h1:=h.a
 have h2:=h.b
 unfold Srt at h1 h2 ⊢
 rw[append_assoc]
 rw[pairwise_append] at h1 h2
 rw[pairwise_append,pairwise_append]
 refine⟨h2.1,h1,fun x hx y hy=>?_⟩
 rcases mem_append.mp hy with hy | hy
 ·exact hf x (by rw[<- e]; exact hx) y (List.mem_of_mem_take hy)
 ·exact h2.2.2 x hx y hy
theorem Mh.push_a {T:List Keyed}{a b out:Array Keyed}{na nb:Nat}{p q:Keyed} (h:Mh g T (tk a na) (tk b nb) (rv out)) (hb:Asc g b 0 b.size) (h1:1<=na) (h2:na<=a.size) (h3:nb<=b.size) (e1:a[na - 1]?=some p) (e2:b[nb - 1]?=some q) (hlt:g q<g p):Mh g T (tk a (na - 1)) (tk b nb) (rv (out.push p)):=by
 obtain⟨p',e3,e4⟩:=tk_snoc h1 h2
 rw[e1] at e3
 cases e3
 rw[e4] at h
 rw[rv_push]
 exact h.pa (X:=[p]) fun x hx y hy=>by cases mem_singleton.mp hx; exact Int.lt_of_le_of_lt (tk_ge hb h3 e2 hy) hlt
theorem Mh.push_b {T:List Keyed}{a b out:Array Keyed}{na nb:Nat}{p q:Keyed} (h:Mh g T (tk a na) (tk b nb) (rv out)) (ha:Asc g a 0 a.size) (h1:1<=nb) (h2:nb<=b.size) (h3:na<=a.size) (e1:a[na - 1]?=some p) (e2:b[nb - 1]?=some q) (hlt:g p<g q):Mh g T (tk a na) (tk b (nb - 1)) (rv (out.push q)):=by
 obtain⟨p',e3,e4⟩:=tk_snoc h1 h2
 rw[e2] at e3
 cases e3
 rw[e4] at h
 rw[rv_push]
 exact h.pb (X:=[q]) fun x hx y hy=>by cases mem_singleton.mp hx; exact Int.lt_of_le_of_lt (tk_ge ha h3 e1 hy) hlt
theorem ex_mem {a:Array Keyed}{i n:Nat}{p:Keyed} (h:p ∈ (a.extract i n).toList):∃ j,i<=j/\j<n/\a[j]?=some p:=by
 rw[ex_list] at h
 obtain⟨j,h1,h2,h3⟩:=dr_take_mem h
 exact⟨i+j,by omega,by omega,h3⟩
theorem Mh.bulk_a {T:List Keyed}{a b out:Array Keyed}{na nb t:Nat}{q:Keyed} (h:Mh g T (tk a na) (tk b nb) (rv out)) (hb:Asc g b 0 b.size) (ht:t<=na) (h3:nb<=b.size) (e2:b[nb - 1]?=some q)
  (hk:∀ i,t<=i->i<na->bey g false q a 0 i=false):Mh g T (tk a t) (tk b nb) (rv (out++(a.extract t na).reverse)):=by
 rw[rv_app]
 rw[tk_split ht] at h
 refine h.pa fun x hx y hy=>?_
 obtain⟨j,h1,h2,e⟩:=ex_mem hx
 have h4:=hk j h1 h2
 unfold bey at h4
 rw[Nat.zero_add,G_at e] at h4
 simp at h4
 have h5:=tk_ge hb h3 e2 hy
 omega
theorem Mh.bulk_b {T:List Keyed} (hd:(T.map g).Nodup) {a b out:Array Keyed}{na nb t:Nat}{p:Keyed} (h:Mh g T (tk a na) (tk b nb) (rv out)) (ha:Asc g a 0 a.size) (ht:t<=nb) (h1:1<=na) (h3:na<=a.size) (e1:a[na - 1]?=some p)
  (hk:∀ i,t<=i->i<nb->bey g true p b 0 i=false):Mh g T (tk a na) (tk b t) (rv (out++(b.extract t nb).reverse)):=by
 rw[rv_app]
 have h':=h
 rw[tk_split (a:=b) ht] at h'
 refine h'.pb fun x hx y hy=>?_
 obtain⟨j,h6,h2,e⟩:=ex_mem hx
 have h4:=hk j h6 h2
 unfold bey at h4
 rw[Nat.zero_add,G_at e] at h4
 simp at h4
 obtain⟨p',e3,e4⟩:=tk_snoc h1 h3
 rw[e1] at e3
 cases e3
 have hne:=h'.nes hd (a:=p) (b:=x) (by rw[e4]; simp) (mem_append_right _ hx)
 have h5:=tk_ge ha h3 e1 hy
 omega
structure MHI (g:Keyed->Int) (T:List Keyed) (a b out:Array Keyed) (na nb:Nat):Prop where
 m:Mh g T (tk a na) (tk b nb) (rv out)
 a1:1<=na
 a2:na<=a.size
 b1:2<=nb
 b2:nb<=b.size
theorem w_mhi (hC:Cmp M A s κ g U) {st st0:SortSt}{a b:Array Keyed}{T:List Keyed}{Q:Array Keyed->SortSt->Prop} (h0:Sm st0 st) (hk:kindOf st0=κ) (ua:All U a) (ub:All U b) (hd:(T.map g).Nodup) (hT:(a.toList++b.toList).Perm T)
  (sa:Asc g a 0 a.size) (sb:Asc g b 0 b.size) (ha:1<=a.size) (hb:1<=b.size) (hl:G g b (b.size - 1)<G g a (a.size - 1)) (hf:∀ p ∈ tk b 1,∀ q ∈ a.toList,g p<g q)
  (h:∀ R st',Sm st0 st'->Gd g T R->Q R st'):wpS M A E s (mhiP a b) Q st:=by
 rw[mhiP_eq]
 refine wpS_bind (wpS_lift (wpAny_rule ⟨rfl,?_⟩))
 obtain⟨a0,ea0,_⟩:=tk_snoc (a:=a) (n:=a.size) (by omega) (Nat.le_refl _)
 obtain⟨b0,eb0,_⟩:=tk_snoc (a:=b) (n:=b.size) (by omega) (Nat.le_refl _)
 refine wpS_bind (w_elem ea0 ?_)
 dsimp only
 have m0:Mh g T (tk a a.size) (tk b b.size) (rv (#[]:Array Keyed)):=by
  unfold tk rv
  rw[List.take_of_length_le (by rw[Array.length_toList]; exact Nat.le_refl _),List.take_of_length_le (by rw[Array.length_toList]; exact Nat.le_refl _)]
  exact⟨by simpa using hT,by simpa using srt_of sa,by simpa using srt_of sb⟩
 have m1:Mh g T (tk a (a.size - 1)) (tk b b.size) (rv (#[a0]:Array Keyed)):=m0.push_a sb (by omega) (Nat.le_refl _) (Nat.le_refl _) ea0 eb0 (by rw[<- G_at (g:=g) eb0,<- G_at (g:=g) ea0]; exact hl)
 by_cases c1:a.size - 1=0
 ·rw[if_pos (by simpa using c1)]
  exact wpS_pure (h _ _ h0 (m1.done_a c1))
 rw[if_neg (by simpa using c1)]
 by_cases c2:b.size=1
 ·rw[if_pos (by simpa using c2)]
  exact wpS_pure (h _ _ h0 (m1.first c2 hf))
 rw[if_neg (by simpa using c2)]
 refine wpS_bind (wpS_get ?_)
 refine wpS_bind (wpS_mono (wpS_forRange (I:=fun x c st'=>Sm st0 st'/\∃ na nb out mg,c=(none,na,nb,out,mg)/\MHI g T a b out na nb/\na+nb+x<=a.size+b.size)
  (Q:=fun c st'=>Sm st0 st'/\∃ R r,c=(some R,r)/\Gd g T R) ?so ?fo ⟨h0,_,_,_,_,rfl,⟨m1,by omega,by omega,by omega,Nat.le_refl _⟩,by omega⟩) ?po)
 case fo=>
  rintro c st' ⟨_,na,nb,out,mg,_,hi,hm⟩
  have:=hi.a1
  exfalso
  omega
 case po=>
  rintro c st' ⟨hs,R,r,rfl,hg⟩
  exact wpS_pure (h _ _ hs hg)
 case so=>
  rintro x c st1 _ hx ⟨hs1,na,nb,out,mg,rfl,hi,hm⟩
  dsimp only
  obtain⟨r0,er0⟩:∃ r0,na+nb=r0:=⟨_,rfl⟩
  rw[er0] at hm
  refine wpS_bind (wpS_mono (wpS_forRange (I:=fun y c st'=>Sm st0 st'/\∃ na nb out ac bc,c=(none,na,nb,out,ac,bc)/\MHI g T a b out na nb/\na+nb+y<=r0)
   (Q:=fun c st'=>Sm st0 st'/\((∃ R r,c=(some R,r)/\Gd g T R)∨∃ na nb out ac bc,c=(none,na,nb,out,ac,bc)/\MHI g T a b out na nb/\na+nb+1<=r0)) ?s1 ?f1 ⟨hs1,_,_,_,_,_,rfl,hi,by omega⟩) ?p1)
  case f1=>
   rintro c st' ⟨_,na,nb,out,ac,bc,_,hi,hm⟩
   have:=hi.a1
   exfalso
   omega
  case s1=>
   rintro y c st2 _ hy ⟨hs2,na,nb,out,ac,bc,rfl,hi,hm2⟩
   dsimp only
   obtain⟨hm',i1,i2,i3,i4⟩:=hi
   obtain⟨p,ep,epd⟩:=tk_snoc (a:=a) (n:=na) i1 i2
   obtain⟨q,eq,eqd⟩:=tk_snoc (a:=b) (n:=nb) (by omega) i4
   refine wpS_bind (w_elem eq (wpS_bind (w_elem ep (wpS_bind (w_lt hC (hs2.k.trans hk) (ub _ _ eq) (ua _ _ ep) ?_)))))
   dsimp only
   by_cases hlt:g q<g p
   ·rw[if_pos (decide_eq_true hlt)]
    refine wpS_bind (w_elem ep ?_)
    have m2:=hm'.push_a sb i1 i2 i4 ep eq hlt
    by_cases c:na - 1=0
    ·rw[if_pos (by simpa using c)]
     exact wpS_pure ⟨hs2,.inl ⟨_,_,rfl,m2.done_a c⟩⟩
    ·rw[if_neg (by simpa using c)]
     split
     ·exact wpS_pure ⟨hs2,.inr ⟨_,_,_,_,_,rfl,⟨m2,by omega,by omega,i3,i4⟩,by omega⟩⟩
     ·exact wpS_pure ⟨hs2,_,_,_,_,_,rfl,⟨m2,by omega,by omega,i3,i4⟩,by omega⟩
   ·rw[if_neg (by simpa using hlt)]
    refine wpS_bind (w_elem eq ?_)
    have hne:=hm'.nes hd (a:=p) (b:=q) (by rw[epd]; simp) (by rw[eqd]; simp)
    have m2:=hm'.push_b sa (by omega) i4 i2 ep eq (by omega)
    by_cases c:nb - 1=1
    ·rw[if_pos (by simpa using c)]
     exact wpS_pure ⟨hs2,.inl ⟨_,_,rfl,m2.first c hf⟩⟩
    ·rw[if_neg (by simpa using c)]
     split
     ·exact wpS_pure ⟨hs2,.inr ⟨_,_,_,_,_,rfl,⟨m2,i1,i2,by omega,by omega⟩,by omega⟩⟩
     ·exact wpS_pure ⟨hs2,_,_,_,_,_,rfl,⟨m2,i1,i2,by omega,by omega⟩,by omega⟩
  case p1=>
   rintro c st2 ⟨hs2,⟨R,r,rfl,hg⟩ | ⟨na,nb,out,ac,bc,rfl,hi,hm2⟩⟩
   ·exact wpS_pure ⟨hs2,_,_,rfl,hg⟩
   dsimp only
   refine wpS_bind (wpS_lift (wpAny_rule ⟨rfl,?_⟩))
   obtain⟨r1,er1⟩:∃ r1,na+nb=r1:=⟨_,rfl⟩
   rw[er1] at hm2
   refine wpS_bind (wpS_mono (wpS_forRange (I:=fun y c st'=>Sm st0 st'/\∃ na nb out mg ac bc,c=(none,na,nb,out,mg,ac,bc)/\MHI g T a b out na nb/\na+nb+y<=r1)
    (Q:=fun c st'=>Sm st0 st'/\((∃ R r,c=(some R,r)/\Gd g T R)∨∃ na nb out mg ac bc,c=(none,na,nb,out,mg,ac,bc)/\MHI g T a b out na nb/\na+nb<=r1)) ?s2 ?f2 ⟨hs2,_,_,_,_,_,_,rfl,hi,by omega⟩) ?p2)
   case f2=>
    rintro c st' ⟨_,na,nb,out,mg,ac,bc,_,hi,hm⟩
    have:=hi.a1
    exfalso
    omega
   case p2=>
    rintro c st3 ⟨hs3,⟨R,r,rfl,hg⟩ | ⟨na,nb,out,mg,ac,bc,rfl,hi,hm3⟩⟩
    ·exact wpS_pure ⟨hs3,_,_,rfl,hg⟩
    dsimp only
    exact wpS_bind (w_gm hs3 fun st4 hs4=>wpS_pure ⟨hs4,_,_,_,_,rfl,hi,by omega⟩)
   case s2=>
    rintro y c st3 _ hy ⟨hs3,na,nb,out,mg,ac,bc,rfl,hi,hm3⟩
    dsimp only
    obtain⟨hm',i1,i2,i3,i4⟩:=hi
    obtain⟨q,eq,eqd⟩:=tk_snoc (a:=b) (n:=nb) (by omega) i4
    generalize mg - 1=mg1
    revert mg1
    refine w_if2 (c:=mg > 1) mg fun n=>?_
    clear er0 er1 hm hm2
    refine wpS_bind (w_gm hs3 fun st4 hs4=>?_)
    refine wpS_bind (w_elem eq (wpS_bind (w_gal hC (hs4.k.trans hk) (ub _ _ eq) ua (by omega) (by omega) (bey_mono sa (by omega)) fun t hk1 hk2 hk3=>?_)))
    dsimp only
    have m2:=hm'.bulk_a sb hk1 i4 eq hk3
    obtain⟨o2,eo2⟩:∃ o2,out++(a.extract t na).reverse=o2:=⟨_,rfl⟩
    rw[eo2] at m2
    obtain⟨k,ekk⟩:∃ k,na - t=k:=⟨_,rfl⟩
    rw[ekk]
    have ek:¬ k > 0->out=o2/\na=t:=fun e=>by
     obtain rfl:na=t:=om5 ekk e hk1
     refine⟨?_,rfl⟩
     rw[<- eo2]
     apply Array.toList_inj.mp
     rw[Array.toList_append,Array.toList_reverse,ex_list,Nat.sub_self,List.take_zero,List.reverse_nil,append_nil]
    by_cases cx:k > 0/\t=0
    ·rw[if_pos cx.1,eo2,if_pos (by simpa using cx.2)]
     exact wpS_pure ⟨hs4,.inl ⟨_,_,rfl,m2.done_a cx.2⟩⟩
    have t1:1<=t:=by
     by_cases ck:k > 0
     ·exact Nat.pos_of_ne_zero fun e=>cx ⟨ck,e⟩
     ·rw[<- (ek ck).2]; exact i1
    apply w_ifj
    ·intro ck
     rw[eo2,if_neg (by simpa using fun e=>cx ⟨ck,e⟩)]
    ·intro ck
     obtain⟨e7,e8⟩:=ek ck
     rw[e7,e8]
    clear cx ek
    have ta:t<=a.size:=Nat.le_trans hk1 i2
    obtain⟨p,ep,epd⟩:=tk_snoc (a:=a) (n:=t) t1 ta
    have hpq:g p<g q:=by
     have h3:=hk2 (t - 1) (Nat.sub_lt t1 Nat.one_pos)
     unfold bey at h3
     rw[Nat.zero_add,G_at ep] at h3
     have hne:=m2.nes hd (a:=p) (b:=q) (by rw[epd]; simp) (by rw[eqd]; simp)
     simp at h3
     exact om9 h3 hne
    refine wpS_bind (w_elem eq ?_)
    have m3:=m2.push_b sa (by omega) i4 ta ep eq hpq
    by_cases c1:nb - 1=1
    ·rw[if_pos (by simpa using c1)]
     exact wpS_pure ⟨hs4,.inl ⟨_,_,rfl,m3.first c1 hf⟩⟩
    rw[if_neg (by simpa using c1)]
    refine wpS_bind (w_elem ep (wpS_bind (w_gal hC (hs4.k.trans hk) (ua _ _ ep) ub (by omega) (by omega) (bey_mono sb (by omega)) fun t2 hj1 hj2 hj3=>?_)))
    dsimp only
    have m4:=m3.bulk_b hd sa hj1 (by omega) ta ep hj3
    obtain⟨o3,eo3⟩:∃ o3,o2.push q++(b.extract t2 (nb - 1)).reverse=o3:=⟨_,rfl⟩
    rw[eo3] at m4
    obtain⟨k2,ekk2⟩:∃ k,nb - 1 - t2=k:=⟨_,rfl⟩
    rw[ekk2]
    have ek2:¬ k2 > 0->o2.push q=o3/\nb - 1=t2:=fun e=>by
     obtain e2:nb - 1=t2:=om5 ekk2 e hj1
     refine⟨?_,e2⟩
     rw[<- eo3,e2]
     apply Array.toList_inj.mp
     rw[Array.toList_append,Array.toList_reverse,ex_list,Nat.sub_self,List.take_zero,List.reverse_nil,append_nil]
    by_cases c2:k2 > 0/\t2=1
    ·rw[if_pos c2.1,eo3,if_pos (by simpa using c2.2)]
     exact wpS_pure ⟨hs4,.inl ⟨_,_,rfl,m4.first c2.2 hf⟩⟩
    by_cases c2':k2 > 0/\t2=0
    ·rw[if_pos c2'.1,eo3,if_neg (by simpa using fun e=>c2 ⟨c2'.1,e⟩),if_pos (by simpa using c2'.2)]
     exact wpS_pure ⟨hs4,.inl ⟨_,_,rfl,m4.done_b c2'.2⟩⟩
    have l2:2<=t2:=by
     by_cases ck:k2 > 0
     ·exact om6 (fun e=>c2 ⟨ck,e⟩) (fun e=>c2' ⟨ck,e⟩)
     ·rw[<- (ek2 ck).2]; exact om7 i3 c1
    apply w_ifj
    ·intro ck2
     rw[eo3,if_neg (by simpa using fun e=>c2 ⟨ck2,e⟩),if_neg (by simpa using fun e=>c2' ⟨ck2,e⟩)]
    ·intro ck2
     obtain⟨e5,e6⟩:=ek2 ck2
     rw[e5,e6]
    clear c2 c2' ek2
    have nx:Mh g T (tk a (t - 1)) (tk b t2) (rv (o3.push p)):=by
     obtain⟨q2,eq2,eqd2⟩:=tk_snoc (a:=b) (n:=t2) (by omega) (by omega)
     have h3:=hj2 (t2 - 1) (by omega)
     unfold bey at h3
     rw[Nat.zero_add,G_at eq2] at h3
     simp at h3
     exact m4.push_a sb t1 ta (by omega) ep eq2 h3
    refine wpS_bind (w_elem ep ?_)
    by_cases c3:t - 1=0
    ·rw[if_pos (by simpa using c3)]
     exact wpS_pure ⟨hs4,.inl ⟨_,_,rfl,nx.done_a c3⟩⟩
    rw[if_neg (by simpa using c3)]
    have fin:MHI g T a b (o3.push p) (t - 1) t2:=⟨nx,by omega,by omega,by omega,by omega⟩
    refine w_if ?_ ?_
    ·exact wpS_pure ⟨hs4,.inr ⟨_,_,_,_,_,_,rfl,fin,Nat.le_trans (Nat.le_add_right _ _) (om8 hm3 hk1 hj1 t1 i3)⟩⟩
    ·exact wpS_pure ⟨hs4,_,_,_,_,_,_,rfl,fin,om8 hm3 hk1 hj1 t1 i3⟩
theorem matP_eq (i:Nat):mergeAt' i=(do
 let s0 <- get
 let (some (sa,na,pw),some (sb,nb,_)):=((pendingOf s0)[i]?,(pendingOf s0)[i+1]?) | unsupported "internal:list.sort.pending"
 set (setPending s0 (((pendingOf s0).setIfInBounds i (sa,na+nb,pw)).eraseIdxIfInBounds (i+1)))
 let some k <- galP false (<- elem' (arrOf s0) sb) (arrOf s0) sa na 0 | return false
 let (sa,na):=(sa+k,na - k)
 if na == 0 then return true
 let some nb <- galP true (<- elem' (arrOf s0) (sa+na - 1)) (arrOf s0) sb nb (nb - 1) | return false
 if nb == 0 then return true
 let x:=(arrOf s0).extract sa sb
 let y:=(arrOf s0).extract sb (sb+nb)
 let r <- if na<=nb then mloP x y else mhiP x y
 modify fun s1=>setArr s1 (r.toList.zipIdx.foldl (fun a (p,j)=>a.setIfInBounds (sa+j) p) (arrOf s1))
 return (failedOf (<- get)).isNone):=rfl
end
end L2.So
set_option Elab.async false
set_option linter.all false
set_option maxRecDepth 100000
namespace L2.So
open PySem PyProof.Rows
section
variable {M:Model}{A:Around}{E:Value->Shared->Prop}{s:Shared}{κ:SortKind}{g:Keyed->Int}{U:Keyed->Prop}
theorem w_set {x st:SortSt}{Q:PUnit->SortSt->Prop} (h:Q ⟨⟩ x):wpS M A E s (set x:StateT SortSt Sem PUnit) Q st:=by
 unfold wpS
 rw[StateT.run_set]
 exact wpAny_pure ⟨rfl,h⟩
theorem bey_mono2 {left:Bool}{key:Keyed}{arr:Array Keyed}{base n:Nat} (h:Asc g arr base (base+n)):∀ i j,i<=j->j<n->bey g left key arr base j=true->bey g left key arr base i=true:=by
 intro i j hij hj hb
 have:G g arr (base+i)<=G g arr (base+j):=by
  by_cases e:i=j
  ·subst e; exact Int.le_refl _
  ·exact Int.le_of_lt (h _ _ (by omega) (by omega) (by omega))
 unfold bey at hb ⊢
 cases left with
 | true=>simp at hb ⊢; omega
 | false=>simp at hb ⊢; omega
theorem wr_list (sa:Nat):∀ (l:List Keyed) (d:Nat) (xs:Array Keyed),sa+d+l.length<=xs.size ->
  ((l.zipIdx d).foldl (fun a (x:Keyed×Nat)=>a.setIfInBounds (sa+x.2) x.1) xs).toList=xs.toList.take (sa+d)++l++xs.toList.drop (sa+d+l.length)
 | [],d,xs,_=>by
  rw[List.zipIdx_nil,List.foldl_nil,append_nil,List.length_nil,Nat.add_zero,List.take_append_drop]
 | p::l,d,xs,h=>by
  rw[length_cons] at h
  rw[List.zipIdx_cons,List.foldl_cons,wr_list sa l (d+1) _ (by rw[Array.size_setIfInBounds]; omega)]
  rw[Array.toList_setIfInBounds]
  have hl:sa+d<xs.toList.length:=by rw[Array.length_toList]; omega
  have e1:(xs.toList.set (sa+d) p).take (sa+(d+1))=xs.toList.take (sa+d)++[p]:=by
   rw[show sa+(d+1)=sa+d+1 by omega,List.take_succ,List.getElem?_set_self hl,List.take_set_of_le (Nat.le_refl _)]
   rfl
  have e2:(xs.toList.set (sa+d) p).drop (sa+(d+1)+l.length)=xs.toList.drop (sa+d+(l.length+1)):=by
   rw[List.drop_set_of_lt (by omega)]
   congr 1
   omega
  dsimp only
  rw[e1,e2,length_cons]
  simp
theorem G_ex {xs:Array Keyed}{i n j:Nat} (h:i+j<n) (hn:n<=xs.size):G g (xs.extract i n) j=G g xs (i+j):=by
 apply G_congr
 rw[Array.getElem?_extract,if_pos (by omega)]
theorem sz_ex {xs:Array Keyed}{i n:Nat} (hn:n<=xs.size):(xs.extract i n).size=n - i:=by rw[Array.size_extract]; omega
theorem asc_ex {xs:Array Keyed}{i n:Nat} (hn:n<=xs.size) (h:Asc g xs i n):Asc g (xs.extract i n) 0 (xs.extract i n).size:=by
 intro a b _ hab hb
 rw[sz_ex hn] at hb
 rw[G_ex (by omega) hn,G_ex (by omega) hn]
 exact h _ _ (by omega) (by omega) (by omega)
theorem all_ex {xs:Array Keyed}{i n:Nat} (h:All U xs):All U (xs.extract i n):=by
 intro j p e
 rw[Array.getElem?_extract] at e
 split at e
 ·exact h _ _ e
 ·cases e
structure Fin (st st':SortSt) (g:Keyed->Int):Prop where
 e:(arrOf st').Perm (arrOf st)
 f:failedOf st'=none
 a:Asc g (arrOf st') 0 (arrOf st').size
theorem w_mat (hC:Cmp M A s κ g U) {st:SortSt}{n1 n2 pw x:Nat}{Q:Bool->SortSt->Prop} (hs:Stt κ g U st) (hp:pendingOf st = #[(0,n1,pw),(n1,n2,x)]) (h1:1<=n1) (h2:1<=n2) (hz:n1+n2=(arrOf st).size)
  (a1:Asc g (arrOf st) 0 n1) (a2:Asc g (arrOf st) n1 (n1+n2)) (h:∀ st',Fin st st' g->(pendingOf st').size=1->Q true st'):wpS M A E s (mergeAt' 0) Q st:=by
 rw[matP_eq]
 refine wpS_bind (wpS_get ?_)
 rw[hp]
 have e0:(#[(0,n1,pw),(n1,n2,x)]:Array (Nat×Nat×Nat))[0]?=some (0,n1,pw):=rfl
 have e1:(#[(0,n1,pw),(n1,n2,x)]:Array (Nat×Nat×Nat))[0+1]?=some (n1,n2,x):=rfl
 rw[e0,e1]
 dsimp only
 refine wpS_bind (w_set ?_)
 obtain⟨xs,ex⟩:∃ xs,arrOf st=xs:=⟨_,rfl⟩
 have hU:=hs.u
 have hD:=hs.d
 rw[ex] at hz a1 a2 hU hD ⊢
 obtain⟨st1,e1⟩:∃ st1,setPending st (((#[(0,n1,pw),(n1,n2,x)]:Array (Nat×Nat×Nat)).setIfInBounds 0 (0,n1+n2,pw)).eraseIdxIfInBounds (0+1))=st1:=⟨_,rfl⟩
 rw[e1]
 have k1:kindOf st1=κ:=by rw[<- e1]; exact hs.k
 have f1:failedOf st1=none:=by rw[<- e1]; exact hs.f
 have x1:arrOf st1=xs:=by rw[<- e1]; exact ex
 have p1:id ((pendingOf st1).size=1):=by
  rw[<- e1]
  show(((#[(0,n1,pw),(n1,n2,x)]:Array (Nat×Nat×Nat)).setIfInBounds 0 (0,n1+n2,pw)).eraseIdxIfInBounds (0+1)).size=1
  simp
 obtain⟨q,eq,eg⟩:=at_ (g:=g) (xs:=xs) (i:=n1) (by omega)
 refine wpS_bind (w_elem eq (wpS_bind (w_gal hC k1 (hU _ _ eq) hU (by omega) (by omega) (bey_mono2 (by rw[Nat.zero_add]; exact a1)) fun k hk1 hk2 hk3=>?_)))
 dsimp only
 have low:∀ i,i<k->G g xs i<G g xs n1:=fun i hi=>by
  have h3:=hk2 i hi
  unfold bey at h3
  rw[Nat.zero_add,<- eg] at h3
  simp at h3
  have:=hD.ne (i:=i) (j:=n1) (by omega) (by omega) (by omega)
  omega
 have high:∀ i,k<=i->i<n1->G g xs n1<G g xs i:=fun i hi hi2=>by
  have h3:=hk3 i hi hi2
  unfold bey at h3
  rw[Nat.zero_add,<- eg] at h3
  simpa using h3
 by_cases c:n1 - k=0
 ·rw[if_pos (by simpa using c)]
  refine wpS_pure (h _ ⟨by rw[x1,ex],f1,?_⟩ p1)
  rw[x1]
  intro i j _ hij hj
  by_cases c1:j<n1
  ·exact a1 i j (Nat.zero_le _) hij c1
  ·by_cases c2:i<n1
   ·have:=low i (by omega)
    by_cases c3:j=n1
    ·subst c3; exact this
    ·exact Int.lt_trans this (a2 n1 j (Nat.le_refl _) (by omega) (by omega))
   ·exact a2 i j (by omega) hij (by omega)
 rw[if_neg (by simpa using c)]
 rw[show 0+k+(n1 - k) - 1=n1 - 1 by omega,Nat.zero_add]
 obtain⟨p,ep,eg2⟩:=at_ (g:=g) (xs:=xs) (i:=n1 - 1) (by omega)
 refine wpS_bind (w_elem ep (wpS_bind (w_gal hC k1 (hU _ _ ep) hU (by omega) (by omega) (bey_mono2 a2) fun nb hj1 hj2 hj3=>?_)))
 dsimp only
 have low2:∀ i,n1<=i->i<n1+nb->G g xs i<G g xs (n1 - 1):=fun i hi hi2=>by
  have h3:=hj2 (i - n1) (by omega)
  unfold bey at h3
  rw[show n1+(i - n1)=i by omega,<- eg2] at h3
  simpa using h3
 have high2:∀ i,n1+nb<=i->i<n1+n2->G g xs (n1 - 1)<G g xs i:=fun i hi hi2=>by
  have h3:=hj3 (i - n1) (by omega) (by omega)
  unfold bey at h3
  rw[show n1+(i - n1)=i by omega,<- eg2] at h3
  simp at h3
  have:=hD.ne (i:=i) (j:=n1 - 1) (by omega) (by omega) (by omega)
  omega
 by_cases c2:nb=0
 ·have:=high2 n1 (by omega) (by omega)
  have:=high (n1 - 1) (by omega) (by omega)
  omega
 rw[if_neg (by simpa using c2)]
 clear eg eg2
 have hx:n1<=xs.size:=by omega
 have hy:n1+nb<=xs.size:=by omega
 have zx:=sz_ex (xs:=xs) (i:=k) hx
 have zy:=sz_ex (xs:=xs) (i:=n1) hy
 have ax:=asc_ex (xs:=xs) (i:=k) hx (fun i j h3 h4 h5=>a1 i j (Nat.zero_le _) h4 h5)
 have ay:=asc_ex (xs:=xs) (i:=n1) hy (fun i j h3 h4 h5=>a2 i j h3 h4 (by omega))
 have mx:∀ p ∈ (xs.extract k n1).toList,∃ j,k<=j/\j<n1/\G g xs j=g p:=fun p hp=>by
  obtain⟨j,h3,h4,h5⟩:=ex_mem hp
  exact⟨j,h3,h4,G_at h5⟩
 have my:∀ p ∈ (xs.extract n1 (n1+nb)).toList,∃ j,n1<=j/\j<n1+nb/\G g xs j=g p:=fun p hp=>by
  obtain⟨j,h3,h4,h5⟩:=ex_mem hp
  exact⟨j,h3,h4,G_at h5⟩
 obtain⟨T,eT⟩:∃ T,(xs.extract k n1).toList++(xs.extract n1 (n1+nb)).toList=T:=⟨_,rfl⟩
 have eTl:T=(dr xs k).take (n1+nb - k):=by
  rw[<- eT,ex_list,ex_list]
  unfold dr
  rw[show n1+nb - k=(n1 - k)+nb by omega,List.take_add,List.drop_drop,show k+(n1 - k)=n1 by omega,Nat.add_sub_cancel_left]
 have whole:xs.toList=xs.toList.take k++T++xs.toList.drop (n1+nb):=by
  rw[eTl]
  unfold dr
  conv=>lhs; rw[<- List.take_append_drop k xs.toList,<- List.take_append_drop (n1+nb - k) (xs.toList.drop k),List.drop_drop]
  rw[show k+(n1+nb - k)=n1+nb by omega,append_assoc]
 have lT:T.length=n1+nb - k:=by rw[<- eT,length_append,Array.length_toList,Array.length_toList,zx,zy]; omega
 have hdT:(T.map g).Nodup:=by
  have:=dis_iff.mp hD
  rw[whole,map_append,map_append] at this
  exact(List.nodup_append.mp (List.nodup_append.mp this).1).2.1
 have fin:∀ R st2,Sm st1 st2->Gd g T R->wpS M A E s (do
   modify fun s1=>setArr s1 (List.foldl (fun a (x:Keyed×Nat)=>a.setIfInBounds (k+x.snd) x.fst) (arrOf s1) R.toList.zipIdx)
   let z <- get
   pure (failedOf z).isNone) Q st2:=by
  intro R st2 hs2 hR
  refine wpS_bind (wpS_modify (wpS_bind (wpS_get (wpS_pure ?_))))
  have lR:R.toList.length=n1+nb - k:=by rw[hR.1.length_eq,lT]
  have hw:=wr_list k R.toList 0 (arrOf st2) (by rw[lR,hs2.a,x1]; omega)
  rw[Nat.add_zero,lR,hs2.a,x1,show k+(n1+nb - k)=n1+nb by omega] at hw
  have hf:failedOf st2=none:=by rw[hs2.f,f1]
  show Q (failedOf st2).isNone _
  rw[hf]
  refine h _ ⟨?_,hf,?_⟩ (by show(pendingOf st2).size=1; rw[hs2.p]; exact p1)
  ·rw[Array.perm_iff_toList_perm]
   show(List.foldl (fun a (x:Keyed×Nat)=>a.setIfInBounds (k+x.snd) x.fst) (arrOf st2) R.toList.zipIdx).toList.Perm (arrOf st).toList
   rw[hs2.a,x1,hw,ex]
   conv=>rhs; rw[whole]
   exact List.Perm.append_right _ (List.Perm.append_left _ hR.1)
  ·refine asc_of ?_
   show Srt g (List.foldl (fun a (x:Keyed×Nat)=>a.setIfInBounds (k+x.snd) x.fst) (arrOf st2) R.toList.zipIdx).toList
   rw[hs2.a,x1,hw]
   clear zx zy lT lR hw
   have mT:∀ t ∈ R.toList,(∃ j,k<=j/\j<n1/\G g xs j=g t)∨(∃ j,n1<=j/\j<n1+nb/\G g xs j=g t):=fun t ht=>by
    have:=hR.1.mem_iff.mp ht
    rw[<- eT] at this
    rcases mem_append.mp this with h3 | h3
    ·exact .inl (mx t h3)
    ·exact .inr (my t h3)
   have mP:∀ t ∈ xs.toList.take k,∃ j,j<k/\G g xs j=g t:=fun t ht=>by
    obtain⟨j,h3,h4,h5⟩:=tk_mem (a:=xs) (n:=k) ht
    exact⟨j,h3,G_at h5⟩
   have mS:∀ t ∈ xs.toList.drop (n1+nb),∃ j,n1+nb<=j/\j<n1+n2/\G g xs j=g t:=fun t ht=>by
    obtain⟨j,h3,h4,h5⟩:=dr_mem (a:=xs) (i:=n1+nb) ht
    exact⟨j,h3,by omega,G_at h5⟩
   unfold Srt
   rw[pairwise_append,pairwise_append]
   refine⟨⟨?_,hR.2,fun u hu t ht=>?_⟩,?_,fun t ht v hv=>?_⟩
   ·have:=srt_of (asc_ex (xs:=xs) (i:=0) (n:=k) (by omega) (fun i j h3 h4 h5=>a1 i j h3 h4 (by omega)))
    rw[ex_tk] at this
    exact this
   ·obtain⟨i,h3,h4⟩:=mP u hu
    have hl:=low i h3
    rw[<- h4]
    rcases mT t ht with ⟨j,h5,h6,h7⟩ | ⟨j,h5,h6,h7⟩
    ·rw[<- h7]; exact a1 i j (Nat.zero_le _) (by omega) h6
    ·rw[<- h7]
     by_cases e:j=n1
     ·subst e; exact hl
     ·exact Int.lt_trans hl (a2 n1 j (Nat.le_refl _) (by omega) (by omega))
   ·have:=srt_of (asc_ex (xs:=xs) (i:=n1+nb) (n:=xs.size) (Nat.le_refl _) (fun i j h3 h4 h5=>a2 i j (by omega) h4 (by omega)))
    rw[ex_all] at this
    exact this
   ·obtain⟨i,h3,h3',h4⟩:=mS v hv
    have hh:=high2 i h3 h3'
    rw[<- h4]
    rcases mem_append.mp ht with ht | ht
    ·obtain⟨j,h5,h6⟩:=mP t ht
     rw[<- h6]
     exact Int.lt_trans (low j h5) (a2 n1 i (Nat.le_refl _) (by omega) (by omega))
    ·rcases mT t ht with ⟨j,h5,h6,h7⟩ | ⟨j,h5,h6,h7⟩
     ·rw[<- h7]
      by_cases e:j=n1 - 1
      ·subst e; exact hh
      ·exact Int.lt_trans (a1 j (n1 - 1) (Nat.zero_le _) (by omega) (by omega)) hh
     ·rw[<- h7]; exact a2 j i h5 (by omega) h3'
 have hlast:∀ p ∈ dr (xs.extract k n1) ((xs.extract k n1).size - 1),∀ q ∈ (xs.extract n1 (n1+nb)).toList,g q<g p:=fun p hp q hq=>by
  obtain⟨j,h3,h4,h5⟩:=dr_mem hp
  obtain⟨i,h6,h7,h8⟩:=my q hq
  rw[<- G_at (g:=g) h5,G_ex (by omega) hx,<- h8,show k+j=n1 - 1 by omega]
  exact low2 i h6 h7
 have hfirst:∀ p ∈ tk (xs.extract n1 (n1+nb)) 1,∀ q ∈ (xs.extract k n1).toList,g p<g q:=fun p hp q hq=>by
  obtain⟨j,h3,h4,h5⟩:=tk_mem hp
  obtain⟨i,h6,h7,h8⟩:=mx q hq
  rw[<- G_at (g:=g) h5,G_ex (by omega) hy,<- h8,show n1+j=n1 by omega]
  exact high i h6 h7
 refine w_if ?_ ?_
 ·refine wpS_bind (w_mlo hC (Sm.refl st1) k1 (all_ex hU) (all_ex hU) hdT (by rw[eT]) ax ay (by omega) (by omega) ?_ hlast fin)
  rw[G_ex (by omega) hy,G_ex (by omega) hx]
  exact high _ (by omega) (by omega)
 ·refine wpS_bind (w_mhi hC (Sm.refl st1) k1 (all_ex hU) (all_ex hU) hdT (by rw[eT]) ax ay (by omega) (by omega) ?_ hfirst fin)
  rw[G_ex (by omega) hy,G_ex (by omega) hx,zx,zy,show k+(n1 - k - 1)=n1 - 1 by omega]
  exact low2 _ (by omega) (by omega)
structure One (st st':SortSt) (g:Keyed->Int) (n1:Nat):Prop where
 k:kindOf st'=kindOf st
 f:failedOf st'=failedOf st
 e:(arrOf st').Perm (arrOf st)
 p:pendingOf st' = #[(0,n1,0)]
 a:Asc g (arrOf st') 0 n1
structure Two (st st':SortSt) (g:Keyed->Int) (n1 pw n2:Nat):Prop where
 k:kindOf st'=kindOf st
 f:failedOf st'=failedOf st
 e:(arrOf st').Perm (arrOf st)
 p:pendingOf st' = #[(0,n1,pw),(n1,n2,0)]
 a:Asc g (arrOf st') 0 n1
 b:Asc g (arrOf st') n1 (n1+n2)
theorem mr_ok {n:Nat} (h2:2<=n) (h:n<128):1<=minRun' n n 0/\minRun' n n 0<=n/\n<=2*minRun' n n 0:=by
 obtain⟨m,rfl⟩:∃ m,n=m+2:=⟨n - 2,by omega⟩
 rw[minRun'_succ]
 by_cases h64:m+2<64
 ·rw[if_pos h64]; omega
 ·rw[if_neg h64,minRun'_succ,if_pos (by omega)]; omega
theorem w_sort (hC:Cmp M A s κ g U) {st:SortSt}{Q:Unit->SortSt->Prop} (hs:Stt κ g U st) (hp:pendingOf st = #[]) (h2:2<=(arrOf st).size) (h128:(arrOf st).size<128)
  (h:∀ st',Fin st st' g->Q () st'):wpS M A E s sortRuns' Q st:=by
 rw[sortRuns'_eq]
 refine wpS_bind (wpS_get ?_)
 obtain⟨n,en⟩:∃ n,(arrOf st).size=n:=⟨_,rfl⟩
 obtain⟨m1,m2,m3⟩:=mr_ok h2 h128
 rw[en] at m1 m2 m3 h2 ⊢
 obtain⟨mr,emr⟩:∃ mr,minRun' n n 0=mr:=⟨_,rfl⟩
 rw[emr] at m1 m2 m3
 dsimp only
 rw[emr]
 refine wpS_bind (wpS_mono (wpS_forRange (I:=fun x c st'=>(x=0/\c=(none,0)/\st'=st)∨(x=1/\∃ n1,c=(none,n1)/\1<=n1/\n1<=n/\n - n1<=mr/\One st st' g n1)∨(2<=x/\c=(none,n)/\∃ n1 pw n2,1<=n1/\1<=n2/\n1+n2=n/\Two st st' g n1 pw n2))
  (Q:=fun c st'=>c=(none,n)/\(One st st' g n∨∃ n1 pw n2,1<=n1/\1<=n2/\n1+n2=n/\Two st st' g n1 pw n2)) ?s1 ?f1 (.inl ⟨rfl,rfl,rfl⟩)) ?p1)
 case f1=>
  rintro c st' (⟨hx,_,_⟩ | ⟨hx,_⟩ | ⟨hx,hc,ht⟩)
  ·omega
  ·omega
  ·exact⟨hc,.inr ht⟩
 case s1=>
  rintro x c st' _ hx (⟨rfl,rfl,rfl⟩ | ⟨rfl,n1,rfl,i1,i2,i3,ho⟩ | ⟨hx2,rfl,n1,pw,n2,i1,i2,i3,ht⟩)
  ·dsimp only
   rw[if_neg (by omega)]
   refine wpS_bind (w_run hC hs (by omega) (by omega) fun m st2 r1 r2 r3 r4=>?_)
   dsimp only
   rw[Nat.zero_add] at r4
   have z2:=r3.size
   have pb2:(pendingOf st2).back?=none:=by rw[r3.p,hp]; rfl
   by_cases c:m<mr
   ·rw[if_pos c]
    refine wpS_bind (wpS_lift (wpAny_rule ⟨rfl,?_⟩))
    refine wpS_bind (w_bin hC (r3.stt hs) r1 (by omega) (by omega) (by rw[Nat.zero_add]; exact r4) fun st3 b1 b2=>?_)
    rw[if_neg (by simp)]
    refine wpS_bind (wpS_get ?_)
    have pb3:(pendingOf st3).back?=none:=by rw[b1.p]; exact pb2
    rw[pb3]
    dsimp only
    refine wpS_bind (wpS_modify (wpS_pure (.inr (.inl ⟨rfl,_,rfl,by omega,by omega,by omega,b1.k.trans r3.k,b1.f.trans r3.f,b1.e.trans r3.e,?_,?_⟩))))
    ·show(pendingOf st3).push _=_
     rw[b1.p,r3.p,hp,Nat.zero_add]
     rfl
    ·exact b2
   ·rw[if_neg c]
    refine wpS_bind (wpS_get ?_)
    rw[pb2]
    dsimp only
    refine wpS_bind (wpS_modify (wpS_pure (.inr (.inl ⟨rfl,_,rfl,by omega,by omega,by omega,r3.k,r3.f,r3.e,?_,?_⟩))))
    ·show(pendingOf st2).push _=_
     rw[r3.p,hp,Nat.zero_add]
     rfl
    ·show Asc g (arrOf st2) 0 (0+m)
     rw[Nat.zero_add]
     exact r4
  ·dsimp only
   have z1:=ho.e.size_eq
   have hs1:Stt κ g U st':=⟨ho.k.trans hs.k,ho.f.trans hs.f,hs.u.perm ho.e,hs.d.perm ho.e⟩
   by_cases c0:n1 ≥ n
   ·rw[if_pos c0]
    obtain rfl:n1=n:=by omega
    exact wpS_pure ⟨rfl,.inl ho⟩
   rw[if_neg c0]
   refine wpS_bind (w_run hC hs1 (by omega) (by omega) fun m st2 r1 r2 r3 r4=>?_)
   dsimp only
   have z2:=r3.size
   have low:∀ {st3:SortSt},Swp st' st3 n1 (n1+(n - n1))->Asc g (arrOf st3) 0 n1:=fun hw i j h5 h6 h7=>by
    rw[G_congr (hw.o i (.inl (by omega))),G_congr (hw.o j (.inl (by omega)))]
    exact ho.a i j h5 h6 h7
   have fin:∀ (st3:SortSt) (pw:Nat),Swp st' st3 n1 (n1+(n - n1))->Asc g (arrOf st3) n1 n->Two st (setPending (setPending st3 ((pendingOf st3).modify ((pendingOf st3).size - 1) fun x=>(x.1,x.2.1,pw))) ((pendingOf (setPending st3 ((pendingOf st3).modify ((pendingOf st3).size - 1) fun x=>(x.1,x.2.1,pw)))).push (n1,n - n1,0))) g n1 pw (n - n1):=fun st3 pw hw ha=>by
    refine⟨hw.k.trans ho.k,hw.f.trans ho.f,hw.e.trans ho.e,?_,(show Asc g (arrOf st3) 0 n1 from low hw),?_⟩
    ·show((pendingOf st3).modify ((pendingOf st3).size - 1) fun x=>(x.1,x.2.1,pw)).push (n1,n - n1,0)=_
     rw[hw.p,ho.p]
     rfl
    ·rw[show n1+(n - n1)=n by omega]
     exact ha
   have inner:∀ (st3:SortSt) (pw:Nat) (R:Option Unit×Unit->SortSt->Prop),(pendingOf st3).size=1->R (none,()) st3->wpS M A E s (forIn [0:n] ((none,()):Option Unit×Unit) fun _ _=>do
     let z <- get
     match if (pendingOf z).size > 1 then(pendingOf z)[(pendingOf z).size - 2]? else none with
     | some (_,_,older)=>
      if older<=pw then pure (ForInStep.done (none,()))
      else do
       let z2 <- mergeAt' ((pendingOf z).size - 2)
       if (!z2)=true then pure (ForInStep.done (some (),())) else pure (ForInStep.yield (none,()))
     | _=>pure (ForInStep.done (none,()))) R st3:=by
    intro st3 pw R hz3 hR
    refine wpS_forRange (I:=fun _ c st4=>c=(none,())/\st4=st3) ?_ ?_ ⟨rfl,rfl⟩
    ·rintro y c st4 _ _ ⟨rfl,rfl⟩
     refine wpS_bind (wpS_get ?_)
     rw[if_neg (by omega)]
     exact wpS_pure hR
    ·rintro c st4 ⟨rfl,rfl⟩
     exact hR
   have pk:∀ {st3:SortSt},Swp st' st3 n1 (n1+(n - n1))->(pendingOf st3).back?=some (0,n1,0)/\(pendingOf st3).size=1:=fun hw=>by
    rw[hw.p,ho.p]
    exact⟨rfl,rfl⟩
   by_cases c:m<mr
   ·rw[if_pos c]
    refine wpS_bind (wpS_lift (wpAny_rule ⟨rfl,?_⟩))
    rw[show min (n - n1) mr=n - n1 by omega]
    refine wpS_bind (w_bin hC (r3.stt hs1) r1 (by omega) (by omega) r4 fun st3 b1 b2=>?_)
    have hw:=r3.trans b1
    rw[if_neg (by simp)]
    refine wpS_bind (wpS_get ?_)
    rw[(pk hw).1]
    dsimp only
    refine wpS_bind (inner st3 _ _ (pk hw).2 ?_)
    dsimp only
    refine wpS_bind (wpS_modify (wpS_bind (wpS_modify (wpS_pure (.inr (.inr ⟨by omega,?_,n1,_,n - n1,by omega,by omega,by omega,fin st3 _ hw (by rw[show n1+(n - n1)=n by omega] at b2; exact b2)⟩))))))
    rw[show n1+(n - n1)=n by omega]
   ·rw[if_neg c]
    obtain rfl:m=n - n1:=by omega
    refine wpS_bind (wpS_get ?_)
    rw[(pk r3).1]
    dsimp only
    refine wpS_bind (inner st2 _ _ (pk r3).2 ?_)
    dsimp only
    refine wpS_bind (wpS_modify (wpS_bind (wpS_modify (wpS_pure (.inr (.inr ⟨by omega,?_,n1,_,n - n1,by omega,by omega,by omega,fin st2 _ r3 (by rw[show n1+(n - n1)=n by omega] at r4; exact r4)⟩))))))
    rw[show n1+(n - n1)=n by omega]
  ·dsimp only
   rw[if_pos (by omega)]
   exact wpS_pure ⟨rfl,.inr ⟨n1,pw,n2,i1,i2,i3,ht⟩⟩
 case p1=>
  rintro c st' ⟨rfl,ht⟩
  dsimp only
  refine wpS_bind (wpS_mono (wpS_forRange (I:=fun x c st2=>c=(none,())/\((x=0/\∃ n1 pw n2,1<=n1/\1<=n2/\n1+n2=n/\Two st st2 g n1 pw n2)∨(Fin st st2 g/\(pendingOf st2).size=1)))
   (Q:=fun c st2=>c=(none,())/\Fin st st2 g) ?s2 ?f2 ⟨rfl,?i2⟩) ?p2)
  case i2=>
   rcases ht with ho | ht
   ·refine .inr ⟨⟨ho.e,ho.f.trans hs.f,?_⟩,by rw[ho.p]; rfl⟩
    rw[ho.e.size_eq,en]
    exact ho.a
   ·exact .inl ⟨rfl,ht⟩
  case f2=>
   rintro c st2 ⟨rfl,⟨hx,_⟩ | ⟨hf,_⟩⟩
   ·omega
   ·exact⟨rfl,hf⟩
  case p2=>
   rintro c st2 ⟨rfl,hf⟩
   exact wpS_pure (h _ hf)
  case s2=>
   rintro x c st2 _ hx ⟨rfl,⟨rfl,n1,pw,n2,i1,i2,i3,ht⟩ | ⟨hf,hz1⟩⟩
   ·have z2:=ht.e.size_eq
    have hs2:Stt κ g U st2:=⟨ht.k.trans hs.k,ht.f.trans hs.f,hs.u.perm ht.e,hs.d.perm ht.e⟩
    refine wpS_bind (wpS_get ?_)
    have zp:(pendingOf st2).size=2:=by rw[ht.p]; rfl
    rw[if_neg (by omega)]
    rw[zp]
    rw[if_neg (by simp)]
    refine wpS_bind (w_mat hC hs2 ht.p i1 i2 (by omega) ht.a ht.b fun st3 hf3 hz3=>?_)
    rw[if_neg (by simp)]
    exact wpS_pure ⟨rfl,.inr ⟨⟨hf3.e.trans ht.e,hf3.f,hf3.a⟩,hz3⟩⟩
   ·refine wpS_bind (wpS_get ?_)
    rw[if_pos (by omega)]
    exact wpS_pure ⟨rfl,hf⟩
end
end L2.So
set_option Elab.async false
set_option linter.all false
set_option maxRecDepth 100000
namespace L2.So
open PySem PyProof.Rows
section
variable {prog:Program}{w:World}{A:Around}{E:Value->Shared->Prop}{s:Shared}{κ:SortKind}{g:Keyed->Int}{U:Keyed->Prop}
theorem pair_mem {vs:List Value}{p:Keyed} (h:p ∈ (pairsOf vs).toList):p.1=p.2/\p.2 ∈ vs:=by
 rw[pairsOf_toList] at h
 have:=mem_zip_self h
 exact⟨this.1,this.1 ▸ this.2⟩
theorem map_pairs (f:Keyed->Int):∀ vs:List Value,((vs.zip vs).map f)=vs.map fun v=>f (v,v)
 | []=>rfl
 | v::vs=>by rw[List.zip_cons_cons,map_cons,map_cons,map_pairs f vs]
theorem snd_pairs:∀ vs:List Value,((vs.zip vs).map (·.2))=vs
 | []=>rfl
 | v::vs=>by rw[List.zip_cons_cons,map_cons,snd_pairs vs]
theorem out_perm {vs:List Value}{xs:Array Keyed} (h:xs.Perm (pairsOf vs)):(xs.map (·.2)).toList.Perm vs:=by
 rw[Array.toList_map]
 refine((Array.perm_iff_toList_perm.mp h).map _).trans ?_
 rw[pairsOf_toList,snd_pairs]
theorem out_asc {vs:List Value}{xs:Array Keyed} (h:xs.Perm (pairsOf vs)) (ha:Asc g xs 0 xs.size):(xs.map (·.2)).toList.Pairwise fun x y=>g (x,x)<g (y,y):=by
 have:=srt_of ha
 unfold Srt at this
 rw[Array.toList_map,List.pairwise_map]
 have eq:∀ p ∈ xs.toList,(p.2,p.2)=p:=fun p hp=>by
  have:=pair_mem ((Array.perm_iff_toList_perm.mp h).mem_iff.mp hp)
  exact Prod.ext this.1.symm rfl
 refine List.Pairwise.imp_of_mem ?_ this
 intro x y hx hy hlt
 rw[eq x hx,eq y hy]
 exact hlt
theorem lsort {a:Addr}{vs:List Value}{n:Nat}{P:PySem.Fin->Shared->Prop} (ho:s.heap.get? a=some (seqObj "list" vs.toArray n)) (h128:vs.length<128)
  (hkind:∀ h',(∀ b o,b≠a->s.heap.get? b=some o->h'.get? b=some o)->2<=vs.length->∀ Q':SortKind->Shared->Prop,Q' κ { s with heap:=h' }->wpAny (model prog w) A (keyKind' vs.toArray) Q' E { s with heap:=h' })
  (hcmp:∀ h',(∀ b o,b≠a->s.heap.get? b=some o->h'.get? b=some o)->Cmp (model prog w) A { s with heap:=h' } κ g U)
  (hU:∀ v ∈ vs,U (v,v)) (hd:(vs.map fun v=>g (v,v)).Nodup)
  (h:∀ (out:List Value) c h',out.Perm vs->out.Pairwise (fun x y=>g (x,x)<g (y,y))->(∀ b o,b≠a->s.heap.get? b=some o->h'.get? b=some o)->h'.get? a=some (seqObj "list" out.toArray c)->P (.done (.ret .none)) { s with heap:=h' }) :
  wpAny (model prog w) A (Builtin.«list.sort» ⟨[.ref a],[]⟩) P E s:=by
 have ha:a<s.heap.objs.size:=Heap.lt_size ho
 have hz:∀ k:Nat,k<=1000000->k<=sizeLine:=fun k hk=>Nat.le_of_lt (sizeOk hk)
 rw[list_sort_plain]
 refine wpAny_bind (listItems_at ho rfl ?_)
 refine wpAny_bind (listUpdate_at ho rfl ?_ (hz _ (by rw[size_toArray]; omega)) (Nat.zero_le _))
 obtain⟨e1,ho1⟩:∃ e1,(s.heap.update a (Obj.mapSeq fun _=>#[])).get? a=some (seqObj "list" #[] e1):=⟨_,get?_update_seq ho (fun _=>#[])⟩
 refine wpAny_bind (seqEpoch_at ho1 rfl ?_)
 refine wpAny_bind (wpAny_newTuple ?_ (hz _ (by show vs.length<=_; omega)))
 refine wpAny_bind (wpAny_newList ?_ (Nat.zero_le _))
 refine wpAny_holding ?_
 obtain⟨h6,e6⟩:∃ h6,((s.heap.update a (Obj.mapSeq fun _=>#[])).push (seqObj "tuple" vs.toArray 0)).push (seqObj "list" #[] 0)=h6:=⟨_,rfl⟩
 show wpAny (model prog w) A _ P E { s with heap:=((s.heap.update a (Obj.mapSeq fun _=>#[])).push (seqObj "tuple" vs.toArray 0)).push (seqObj "list" #[] 0) }
 rw[e6]
 have ho6:h6.get? a=some (seqObj "list" #[] e1):=by
  rw[<- e6,Heap.get?_push_ne _ _ _ (by rw[size_push',Heap.size_update]; exact Nat.ne_of_lt (Nat.lt_succ_of_lt ha)),Heap.get?_push_ne _ _ _ (by rw[Heap.size_update]; exact Nat.ne_of_lt ha)]
  exact ho1
 have kp6:∀ b o,b≠a->s.heap.get? b=some o->h6.get? b=some o:=fun b o hb e=>by
  rw[<- e6]
  exact Heap.get?_push_of_some _ (Heap.get?_push_of_some _ (by rw[Heap.get?_update_ne _ _ _ _ hb]; exact e))
 have fin:∀ xs:Array Keyed,xs.Perm (pairsOf vs)->Asc g xs 0 xs.size->P (.done (.ret .none)) { s with heap:=h6.update a (Obj.mapSeq fun _=>xs.map (·.2)) }:=fun xs hp hs=>by
  have e7:=get?_update_seq ho6 (fun _=>xs.map (·.2))
  have e8:seqObj "list" (xs.map (·.2))=seqObj "list" (xs.map (·.2)).toList.toArray:=by rw[Array.toArray_toList]
  rw[e8] at e7
  exact h (xs.map (·.2)).toList _ _ (out_perm hp) (out_asc hp hs) (fun b o hb e=>by rw[Heap.get?_update_ne _ _ _ _ hb]; exact kp6 b o hb e) e7
 dsimp only
 by_cases h2:vs.toArray.size<2
 ·rw[if_pos h2,if_pos h2]
  rw[size_toArray] at h2
  refine wpAny_bind (wpAny_pure ?_)
  rw[StateT.run_pure]
  refine wpAny_bind (wpAny_pure ?_)
  dsimp only
  refine wpAny_bind (seqEpoch_at ho6 rfl ?_)
  refine wpAny_bind (listUpdate_at ho6 rfl ?_ (Nat.zero_le _) (Nat.le_succ_of_le (hz _ (by rw[Array.size_map]; show(pairsOf vs).size<=_; rw[pairsOf_size]; omega))))
  simp only[bne_self_eq_false,Bool.false_eq_true,if_false]
  refine wpAny_pure (fin (pairsOf vs) (Array.Perm.refl _) ?_)
  intro i j _ hij hj
  rw[pairsOf_size] at hj
  omega
 ·rw[if_neg h2,if_neg h2]
  rw[size_toArray] at h2
  refine wpAny_bind (hkind h6 kp6 (by omega) _ ?_)
  have hs:Stt κ g U (SortSt.mk' κ (pairsOf vs) #[] 7 none):=by
   refine⟨rfl,rfl,fun i p hp=>?_,?_⟩
   ·have hm:p ∈ (pairsOf vs).toList:=by rw[Array.mem_toList_iff]; exact Array.mem_of_getElem? hp
    obtain⟨e1,e2⟩:=pair_mem hm
    have:=hU p.2 e2
    rw[show(p.2,p.2)=p from Prod.ext e1.symm rfl] at this
    exact this
   ·refine dis_iff.mpr ?_
    show((pairsOf vs).toList.map g).Nodup
    rw[pairsOf_toList,map_pairs]
    exact hd
  refine wpAny_bind (wpAny_mono (w_sort (st:=SortSt.mk' κ (pairsOf vs) #[] 7 none) (Q:=fun _ st'=>Fin (SortSt.mk' κ (pairsOf vs) #[] 7 none) st' g) (hcmp h6 kp6) hs rfl (by show 2<=(pairsOf vs).size; rw[pairsOf_size]; omega) (by show(pairsOf vs).size<128; rw[pairsOf_size]; omega) fun st' hf=>hf) ?_ fun _ _ e=>e)
  rintro⟨⟨⟩,st'⟩ s' ⟨rfl,hf⟩
  dsimp only
  have zf:=hf.e.size_eq
  refine wpAny_bind (seqEpoch_at ho6 rfl ?_)
  refine wpAny_bind (listUpdate_at ho6 rfl ?_ (Nat.zero_le _) (Nat.le_succ_of_le (hz _ (by rw[Array.size_map,zf]; show(pairsOf vs).size<=_; rw[pairsOf_size]; omega))))
  rw[hf.f]
  simp only[bne_self_eq_false,Bool.false_eq_true,if_false]
  exact wpAny_pure (fin (arrOf st') hf.e hf.a)
def pk (i j:Int):Int:=i*1000000+j
def hk (h:Heap) (v:Value):Int:=match v with
 | .ref a=>(match h.get? a with
  | some o=>(match o.data with
   | .seq xs _=>(match xs.toList with
    | [.int i _,.int j _]=>pk i j
    | _=>0)
   | _=>0)
  | none=>0)
 | _=>0
def isP (h:Heap) (v:Value):Prop:=∃ a o i j t u n,v=.ref a/\h.get? a=some o/\o.cls=.type "tuple" /\ o.data=.seq #[.int i t,.int j u] n/\0<=j/\j<1000000
theorem hk_eq {h:Heap}{a:Addr}{o:Obj}{i j:Int}{t u:Tok}{n:Nat} (e:h.get? a=some o) (d:o.data=.seq #[.int i t,.int j u] n):hk h (.ref a)=pk i j:=by
 unfold hk
 simp only[e,d]
theorem pk_lt {i j i' j':Int} (h1:0<=j) (h2:j<1000000) (h3:0<=j') (h4:j'<1000000):decide (pk i j<pk i' j')=if i == i' then decide (j<j') else decide (i<i'):=by
 unfold pk
 by_cases e:i=i'
 ·subst e
  rw[if_pos (beq_self_eq_true i)]
  exact decide_eq_decide.mpr (by omega)
 ·rw[if_neg (by simpa using e)]
  exact decide_eq_decide.mpr (by omega)
theorem cmp_pairs {h0:Heap}{a:Addr} (ha:∀ v,isP h0 v->v≠.ref a) (h':Heap) (kp:∀ b o,b≠a->h0.get? b=some o->h'.get? b=some o):Cmp (model prog w) A { s with heap:=h' } (tuples' true) (fun p=>hk h0 p.1) (fun p=>isP h0 p.1):=by
 intro x y hx hy Q hq
 obtain⟨x1,x2⟩:=x
 obtain⟨y1,y2⟩:=y
 have nx:=ha _ hx
 have ny:=ha _ hy
 obtain⟨b,o,i,j,t,u,n,rfl,e1,_,d1,b1,b2⟩:=hx
 obtain⟨c,o',i',j',t',u',n',rfl,e2,_,d2,b3,b4⟩:=hy
 dsimp only at nx ny ⊢
 have hq:Q (decide (hk h0 (.ref b)<hk h0 (.ref c))):=hq
 rw[hk_eq e1 d1,hk_eq e2 d2,pk_lt b1 b2 b3 b4] at hq
 have nx':b≠a:=fun e=>nx (by rw[e])
 have ny':c≠a:=fun e=>ny (by rw[e])
 refine PySem.W.kat_lt (s:={ s with heap:=h' }) (kp b o nx' e1) d1 (kp c o' ny' e2) d2 ?_
 refine PySem.W.kat_cons (wpAny_eqBool_int ?_)
 cases e:i == i' with
 | true=>
  rw[e,if_pos rfl] at hq
  refine PySem.W.kat_yes (PySem.W.kat_cons (wpAny_eqBool_int ?_))
  cases e':j == j' with
  | true=>
   refine PySem.W.kat_yes (PySem.W.kat_nil ⟨rfl,?_⟩)
   have:j=j':=by simpa using e'
   subst this
   simpa using hq
  | false=>
   refine PySem.W.kat_no (PySem.W.kat_one _ _ (PyProof.Rows.lt_int ?_))
   exact⟨rfl,hq⟩
 | false=>
  rw[e,if_neg (by simp)] at hq
  refine PySem.W.kat_no ?_
  exact oneLt_int ⟨rfl,hq⟩
theorem tups_of {h0:Heap}{a:Addr} (ha:∀ v,isP h0 v->v≠.ref a) {h':Heap} (kp:∀ b o,b≠a->h0.get? b=some o->h'.get? b=some o):∀ vs:List Value,(∀ v ∈ vs,isP h0 v)->∃ fs,PySem.W.KatTups h' vs fs/\fs.length=vs.length/\∀ f ∈ fs,∃ i t,f=.int i t
 | [],_=>⟨[],trivial,rfl,fun _ h=>by cases h⟩
 | v::vs,hv=>by
  obtain⟨fs,h1,h2,h3⟩:=tups_of ha kp vs fun x hx=>hv x (mem_cons_of_mem _ hx)
  have nv:=ha v (hv v mem_cons_self)
  obtain⟨b,o,i,j,t,u,n,rfl,e1,c1,d1,_,_⟩:=hv v mem_cons_self
  refine⟨.int i t::fs,PySem.W.KatTups.cons (kp b o (fun e=>nv (by rw[e])) e1) c1 d1 rfl h1,by rw[length_cons,length_cons,h2],fun f hf=>?_⟩
  rcases mem_cons.mp hf with rfl | hf
  ·exact⟨i,t,rfl⟩
  ·exact h3 f hf
theorem kind_pairs {h0:Heap}{a:Addr} (ha:∀ v,isP h0 v->v≠.ref a) {h':Heap} (kp:∀ b o,b≠a->h0.get? b=some o->h'.get? b=some o) {vs:List Value} (hv:∀ v ∈ vs,isP h0 v) (h2:2<=vs.length) {Q':SortKind->Shared->Prop}
  (h:Q' (tuples' true) { s with heap:=h' }):wpAny (model prog w) A (keyKind' vs.toArray) Q' E { s with heap:=h' }:=by
 obtain⟨fs,t,hl,hi⟩:=tups_of ha kp vs hv
 refine PySem.W.kat_kind (T:=.type "int") t (by omega) (fun v hv'=>?_) (by rfl) h
 obtain⟨i,t,rfl⟩:=hi v hv'
 exact PySem.W.Looks.of_pure rfl
end
theorem perm_lift {α β:Type} (f:α->β) {a b:List β} (h:a.Perm b):∀ ps:List α,b=ps.map f->∃ qs:List α,qs.Perm ps/\a=qs.map f:=by
 induction h with
 | nil=>intro ps e; exact⟨[],by cases ps <;> simp_all,rfl⟩
 | cons x _ ih=>
  intro ps e
  cases ps with
  | nil=>cases e
  | cons p ps=>
   rw[map_cons] at e
   injection e with e1 e2
   obtain⟨qs,h1,h2⟩:=ih ps e2
   exact⟨p::qs,h1.cons p,by rw[map_cons,h2,e1]⟩
 | swap x y l=>
  intro ps e
  match ps,e with
  | p::q::ps,e=>
   rw[map_cons,map_cons] at e
   injection e with e1 e2
   injection e2 with e2 e3
   exact⟨q::p::ps,List.Perm.swap _ _ _,by rw[map_cons,map_cons,e1,e2,e3]⟩
 | trans _ _ ih1 ih2=>
  intro ps e
  obtain⟨qs,h1,h2⟩:=ih2 ps e
  obtain⟨rs,h3,h4⟩:=ih1 qs h2
  exact⟨rs,h3.trans h1,h4⟩
theorem pk_inj {i j i' j':Int} (h1:0<=j) (h2:j<1000000) (h3:0<=j') (h4:j'<1000000) (e:pk i j=pk i' j'):(i,j)=(i',j'):=by
 unfold pk at e
 obtain rfl:i=i':=by omega
 obtain rfl:j=j':=by omega
 rfl
end L2.So
namespace L2
open PySem PySem.Spec PyProof.Rows
abbrev Pr:=Addr×Int×Int
structure PrOk (K:PySem.W.Frag) (H:Hp) (ps:List Pr):Prop where
 t:∀ z ∈ ps,SqT K H z.1 [.int z.2.1,.int z.2.2]
 b:∀ z ∈ ps,0<=z.2.2/\z.2.2<1000000
 d:(ps.map (·.2)).Nodup
 l:ps.length<128
def prV (ps:List Pr):List V:=ps.map fun z=>.ref z.1
def PrLt (x y:Pr):Prop:=So.pk x.2.1 x.2.2<So.pk y.2.1 y.2.2
section
variable {X:Cx}
theorem pr_isP {pins}{s:Shared}{σ:St}{H:Hp} (I:Inv X pins σ H s) {ps:List Pr} (ok:PrOk X.K H ps):∀ z ∈ ps,So.isP s.heap (.ref z.1)/\So.hk s.heap (.ref z.1)=So.pk z.2.1 z.2.2:=by
 intro z hz
 obtain⟨its,rv,⟨o,ho,hc,n,hd⟩,_⟩:=I.tuple (ok.t z hz)
 cases rv with
 | cons h1 r1=>
  cases r1 with
  | cons h2 r2=>
   cases r2
   obtain⟨t,rfl⟩:=h1
   obtain⟨u,rfl⟩:=h2
   exact⟨⟨z.1,o,z.2.1,z.2.2,t,u,n,rfl,ho,hc,hd,(ok.b z hz).1,(ok.b z hz).2⟩,So.hk_eq ho hd⟩
theorem pr_nodup {pins}{s:Shared}{σ:St}{H:Hp} (I:Inv X pins σ H s) {ps:List Pr} (ok:PrOk X.K H ps):((ps.map fun z=>Value.ref z.1).map (So.hk s.heap)).Nodup:=by
 rw[map_map]
 have e:ps.map (So.hk s.heap ∘ fun z=>Value.ref z.1)=ps.map fun z=>So.pk z.2.1 z.2.2:=List.map_congr_left fun z hz=>(pr_isP I ok z hz).2
 rw[e]
 have hd:=ok.d
 unfold List.Nodup at hd ⊢
 rw[List.pairwise_map] at hd ⊢
 refine List.Pairwise.imp_of_mem ?_ hd
 intro x y hx hy hne e
 have:=So.pk_inj (ok.b x hx).1 (ok.b x hx).2 (ok.b y hy).1 (ok.b y hy).2 e
 exact hne (by exact this)
end
end L2
set_option Elab.async false
set_option linter.all false
set_option maxRecDepth 100000
namespace L2.So
open PySem
def EA (h:Heap) (d:Addr) (es:Array DictEntry) (ep:Nat):Prop:=∃ o,h.get? d=some o/\o.ExactDict/\o.data=.dict es ep
section
variable {prog:Program}{w:World}{A:Around}{E:Value->Shared->Prop}{s:Shared}{d it:Addr}{es:Array DictEntry}{ep i:Nat}
end
end L2.So
namespace L2
open PySem PySem.Spec PyProof.Rows
section
variable {X:Cx}
end
end L2
set_option Elab.async false
set_option linter.all false
set_option maxRecDepth 100000
namespace L2.St
open PySem
def Up (xs:Array Nat):Prop:=∀ i j (hj:j<xs.size),i<j->xs.getD i 0<xs[j]
theorem getD_eq {xs:Array Nat}{i:Nat} (h:i<xs.size) (d:Nat):xs.getD i d=xs[i]:=by simp[Array.getD,h]
theorem below_go {xs:Array Nat} (hu:Up xs) (j:Nat):∀ (f lo hi:Nat),lo<=hi->hi<=xs.size->hi - lo<=f->(∀ i (h:i<xs.size),i<lo->xs[i]<j)->(∀ i (h:i<xs.size),hi<=i->j<=xs[i]) ->
  ∃ p,SetTable.below.go xs j f lo hi=p/\p<=xs.size/\(∀ i (h:i<xs.size),i<p->xs[i]<j)/\(∀ i (h:i<xs.size),p<=i->j<=xs[i])
 | 0,lo,hi,h1,h2,h3,h4,h5=>by
  obtain rfl:lo=hi:=by omega
  exact⟨lo,rfl,h2,h4,h5⟩
 | f+1,lo,hi,h1,h2,h3,h4,h5=>by
  unfold SetTable.below.go
  by_cases c:lo<hi
  ·rw[if_pos c]
   have hm:(lo+hi) / 2<xs.size:=by omega
   dsimp only
   rw[getD_eq hm]
   by_cases c2:xs[(lo+hi) / 2]<j
   ·rw[if_pos c2]
    refine below_go hu j f ((lo+hi) / 2+1) hi (by omega) h2 (by omega) (fun i h hi'=>?_) h5
    by_cases e:i=(lo+hi) / 2
    ·subst e; exact c2
    ·have:=hu i ((lo+hi) / 2) hm (by omega)
     rw[getD_eq h] at this
     omega
   ·rw[if_neg c2]
    refine below_go hu j f lo ((lo+hi) / 2) (by omega) (by omega) (by omega) h4 (fun i h hi'=>?_)
    by_cases e:i=(lo+hi) / 2
    ·subst e; omega
    ·have:=hu ((lo+hi) / 2) i h (by omega)
     rw[getD_eq hm] at this
     omega
  ·rw[if_neg c]
   obtain rfl:lo=hi:=by omega
   exact⟨lo,rfl,h2,h4,h5⟩
theorem below_ok {xs:Array Nat} (hu:Up xs) (j:Nat):SetTable.below xs j<=xs.size/\(∀ i (h:i<xs.size),i<SetTable.below xs j->xs[i]<j)/\(∀ i (h:i<xs.size),SetTable.below xs j<=i->j<=xs[i]):=by
 obtain⟨p,e,h⟩:=below_go hu j xs.size 0 xs.size (Nat.zero_le _) (Nat.le_refl _) (by omega) (fun i _ h=>by omega) (fun i h h'=>by omega)
 unfold SetTable.below
 rw[e]
 exact h
theorem slot_live {t:SetTable} (hu:Up t.place) {i:Nat} (hi:i<t.place.size):t.slot t.place[i]=.live i:=by
 obtain⟨h1,h2,h3⟩:=below_ok hu t.place[i]
 have e:SetTable.below t.place t.place[i]=i:=by
  rcases Nat.lt_trichotomy (SetTable.below t.place t.place[i]) i with h | h | h
  ·have:=hu _ i hi h
   rw[getD_eq (by omega)] at this
   have:=h3 _ (by omega) (Nat.le_refl _)
   omega
  ·exact h
  ·have:=h2 i hi h
   omega
 unfold SetTable.slot
 dsimp only
 rw[e,Array.getElem?_eq_getElem hi]
 simp
theorem slot_empty {t:SetTable} (hd:t.dummies = #[]) {j:Nat} (h:∀ i (h:i<t.place.size),t.place[i]≠j):t.slot j=.empty:=by
 unfold SetTable.slot
 dsimp only
 have e1:(t.place[SetTable.below t.place j]? == some j)=false:=by
  cases e:t.place[SetTable.below t.place j]? with
  | none=>rfl
  | some v=>
   obtain⟨hl,rfl⟩:=Array.getElem?_eq_some_iff.mp e
   have:=h _ hl
   simpa using this
 have e2:SetTable.has t.dummies j=false:=by rw[hd]; unfold SetTable.has; simp
 rw[e1,e2]
 rfl
def way (m:Nat) (h:Int):Nat->SetTable.Probe
 | 0=>{ j:=SetTable.bits h % (m+1),more:=SetTable.runEnd m (SetTable.bits h % (m+1)) - SetTable.bits h % (m+1),i:=SetTable.bits h % (m+1),perturb:=SetTable.bits h,dummy:=none }
 | k+1=>SetTable.advance { mask:=m,place:=#[],dummies:=#[],finger:=0,led:=true,moves:=0,plain:=true } (way m h k)
theorem way_0 (t:SetTable) (h:Int):t.probeStart h=way t.mask h 0:=rfl
theorem way_s (t:SetTable) (h:Int) (k:Nat):t.advance (way t.mask h k)=way t.mask h (k+1):=rfl
theorem way_d (m:Nat) (h:Int):∀ k,(way m h k).dummy=none
 | 0=>rfl
 | k+1=>by
  have:=way_d m h k
  show(SetTable.advance _ (way m h k)).dummy=none
  unfold SetTable.advance
  split
  ·exact this
  ·exact this
def wj (m:Nat) (h:Int) (k:Nat):Nat:=(way m h k).j
def fuel (m:Nat):Nat:=10*SetTable.turns m
theorem probe_go {t:SetTable}{ha:Nat->Int}{h:Int}:∀ (n k f:Nat),n<f->(∀ r,k<=r->r<k+n->∃ i,t.slot (wj t.mask h r)=.live i/\ha i≠h) ->
  SetTable.probe.go t ha h f (way t.mask h k)=SetTable.probe.go t ha h (f - n) (way t.mask h (k+n))
 | 0,k,f,_,_=>rfl
 | n+1,k,f,hf,hl=>by
  obtain⟨i,h1,h2⟩:=hl k (Nat.le_refl _) (by omega)
  obtain⟨f',rfl⟩:∃ f',f=f'+1:=⟨f - 1,by omega⟩
  rw[SetTable.probe.go]
  unfold wj at h1
  rw[h1]
  dsimp only
  rw[if_neg (by simpa using h2),way_s,probe_go n (k+1) f' (by omega) (fun r h3 h4=>hl r (by omega) (by omega))]
  congr 1
  ·omega
  ·congr 1; omega
theorem probe_empty {t:SetTable}{ha:Nat->Int}{h:Int}{n:Nat} (hn:n<fuel t.mask) (hl:∀ r,r<n->∃ i,t.slot (wj t.mask h r)=.live i/\ha i≠h) (he:t.slot (wj t.mask h n)=.empty):t.probe ha h (t.probeStart h)=some (.empty (wj t.mask h n) none):=by
 unfold fuel at hn
 unfold SetTable.probe
 rw[way_0,probe_go n 0 _ hn (fun r _ h2=>hl r (by omega)),Nat.zero_add]
 obtain⟨f',e⟩:∃ f',10*SetTable.turns t.mask - n=f'+1:=⟨10*SetTable.turns t.mask - n - 1,by omega⟩
 rw[e,SetTable.probe.go]
 unfold wj at he ⊢
 rw[he]
 dsimp only
 rw[way_d]
theorem probe_found {t:SetTable}{ha:Nat->Int}{h:Int}{n i:Nat} (hn:n<fuel t.mask) (hl:∀ r,r<n->∃ i,t.slot (wj t.mask h r)=.live i/\ha i≠h) (he:t.slot (wj t.mask h n)=.live i) (hi:ha i=h):∃ nx,t.probe ha h (t.probeStart h)=some (.candidate (wj t.mask h n) i nx):=by
 unfold fuel at hn
 unfold SetTable.probe
 rw[way_0,probe_go n 0 _ hn (fun r _ h2=>hl r (by omega)),Nat.zero_add]
 obtain⟨f',e⟩:∃ f',10*SetTable.turns t.mask - n=f'+1:=⟨10*SetTable.turns t.mask - n - 1,by omega⟩
 rw[e,SetTable.probe.go]
 unfold wj at he ⊢
 rw[he]
 dsimp only
 rw[if_pos (by simpa using hi)]
 exact⟨_,rfl⟩
def lps (m:Nat) (h:Int):Nat->Nat×Nat
 | 0=>(SetTable.bits h % (m+1),SetTable.bits h)
 | l+1=>SetTable.leap m (lps m h l).1 (lps m h l).2
def stP (m:Nat) (x:Nat×Nat):SetTable.Probe:={ j:=x.1,more:=SetTable.runEnd m x.1 - x.1,i:=x.1,perturb:=x.2,dummy:=none }
theorem run9 (m i:Nat):i<=SetTable.runEnd m i/\SetTable.runEnd m i - i<=9:=by unfold SetTable.runEnd; split <;> omega
theorem way_run (m:Nat) (h:Int) (k:Nat) (x:Nat×Nat) (e:way m h k=stP m x):∀ d,d<=SetTable.runEnd m x.1 - x.1->way m h (k+d)={ j:=x.1+d,more:=SetTable.runEnd m x.1 - x.1 - d,i:=x.1,perturb:=x.2,dummy:=none }
 | 0,_=>by rw[Nat.add_zero,e]; rfl
 | d+1,hd=>by
  have ih:=way_run m h k x e d (by omega)
  show SetTable.advance _ (way m h (k+d))=_
  rw[ih]
  unfold SetTable.advance
  rw[if_pos (by show SetTable.runEnd m x.1 - x.1 - d > 0; omega)]
  show({ j:=x.1+d+1,more:=SetTable.runEnd m x.1 - x.1 - d - 1,i:=x.1,perturb:=x.2,dummy:=none }:SetTable.Probe)=_
  rw[show x.1+d+1=x.1+(d+1) by omega,show SetTable.runEnd m x.1 - x.1 - d - 1=SetTable.runEnd m x.1 - x.1 - (d+1) by omega]
theorem way_lp (m:Nat) (h:Int):∀ l,∃ k,k<=10*l/\way m h k=stP m (lps m h l)
 | 0=>⟨0,by omega,rfl⟩
 | l+1=>by
  obtain⟨k,hk,e⟩:=way_lp m h l
  have hr:=run9 m (lps m h l).1
  refine⟨k+(SetTable.runEnd m (lps m h l).1 - (lps m h l).1)+1,by omega,?_⟩
  have e2:=way_run m h k _ e _ (Nat.le_refl _)
  show SetTable.advance _ (way m h (k+(SetTable.runEnd m (lps m h l).1 - (lps m h l).1)))=_
  rw[e2]
  unfold SetTable.advance
  rw[if_neg (by show ¬ (SetTable.runEnd m (lps m h l).1 - (lps m h l).1 - (SetTable.runEnd m (lps m h l).1 - (lps m h l).1) > 0); omega)]
  rfl
theorem lps_p (m:Nat) (h:Int):∀ l,(lps m h l).2=SetTable.bits h / 32 ^ l
 | 0=>by show SetTable.bits h=_; rw[Nat.pow_zero,Nat.div_one]
 | l+1=>by
  show(lps m h l).2 / 32=_
  rw[lps_p m h l,Nat.div_div_eq_div_mul,Nat.pow_succ]
theorem bits_lt (h:Int):SetTable.bits h<2 ^ 64:=by
 unfold SetTable.bits
 have h1:=Int.emod_nonneg h (show(2 ^ 64:Int)≠0 by decide)
 have h2:=Int.emod_lt_of_pos h (show(0:Int)<2 ^ 64 by decide)
 omega
theorem lps_0 (m:Nat) (h:Int) (l:Nat) (hl:13<=l):(lps m h l).2=0:=by
 rw[lps_p]
 refine Nat.div_eq_of_lt (Nat.lt_of_lt_of_le (bits_lt h) (Nat.le_trans (show 2 ^ 64<=32 ^ 13 by decide) (Nat.pow_le_pow_right (by decide) hl)))
def nxI (m i:Nat):Nat:=(i*5+1) % (m+1)
def itI (m:Nat):Nat->Nat->Nat
 | 0,i=>i
 | r+1,i=>itI m r (nxI m i)
theorem itI_add (m:Nat):∀ (a b i:Nat),itI m (a+b) i=itI m b (itI m a i)
 | 0,b,i=>by rw[Nat.zero_add]; rfl
 | a+1,b,i=>by
  rw[show a+1+b=(a+b)+1 by omega]
  exact itI_add m a b (nxI m i)
theorem lps_it (m:Nat) (h:Int):∀ r,(lps m h (13+r)).1=itI m r (lps m h 13).1
 | 0=>rfl
 | r+1=>by
  rw[itI_add m r 1,<- lps_it m h r]
  show(SetTable.leap m (lps m h (13+r)).1 (lps m h (13+r)).2).1=nxI m _
  rw[lps_0 m h (13+r) (by omega)]
  rfl
theorem lps_le (m:Nat) (h:Int):∀ l,(lps m h l).1<=m
 | 0=>Nat.le_of_lt_succ (Nat.mod_lt _ (Nat.succ_pos m))
 | l+1=>Nat.le_of_lt_succ (Nat.mod_lt _ (Nat.succ_pos m))
def orb (m:Nat):Nat->Nat->List Nat
 | 0,_=>[]
 | n+1,i=>i::orb m n (nxI m i)
theorem orb_mem (m:Nat):∀ (n i j:Nat),j ∈ orb m n i->∃ r,r<n/\itI m r i=j
 | 0,i,j,h=>by cases h
 | n+1,i,j,h=>by
  rcases mem_cons.mp h with e | h
  ·exact⟨0,Nat.succ_pos _,e.symm⟩
  ·obtain⟨r,h1,h2⟩:=orb_mem m n _ j h
   exact⟨r+1,by omega,h2⟩
def good (m:Nat):Bool:=((List.range (m+1)).all fun j=>(orb m (m+1) 0).contains j) && (itI m (m+1) 0 == 0)
def Msk (m:Nat):Prop:=m=7∨m=31∨m=127∨m=511
theorem msk_good {m:Nat} (h:Msk m):good m=true:=by
 rcases h with rfl | rfl | rfl | rfl <;> decide +kernel
theorem full {m:Nat} (h:Msk m) {i j:Nat} (hi:i<=m) (hj:j<=m):∃ r,r<=m/\itI m r i=j:=by
 have g:=msk_good h
 unfold good at g
 rw[Bool.and_eq_true] at g
 have all:∀ x,x<=m->∃ r,r<m+1/\itI m r 0=x:=fun x hx=>by
  have:=List.all_eq_true.mp g.1 x (mem_range.mpr (by omega))
  exact orb_mem m _ _ _ (by simpa using this)
 have per:itI m (m+1) 0=0:=by simpa using g.2
 obtain⟨a,ha,ea⟩:=all i hi
 obtain⟨b,hb,eb⟩:=all j hj
 by_cases c:a<=b
 ·refine⟨b - a,by omega,?_⟩
  rw[<- ea,<- itI_add,show a+(b - a)=b by omega,eb]
 ·refine⟨m+1 - a+b,by omega,?_⟩
  rw[<- ea,<- itI_add,show a+(m+1 - a+b)=(m+1)+b by omega,itI_add,per,eb]
theorem cover {m:Nat} (hm:Msk m) (h:Int) {j:Nat} (hj:j<=m):∃ k,k<fuel m/\wj m h k=j:=by
 obtain⟨r,hr,e⟩:=full hm (lps_le m h 13) hj
 obtain⟨k,hk,ek⟩:=way_lp m h (13+r)
 refine⟨k,by unfold fuel SetTable.turns; omega,?_⟩
 unfold wj
 rw[ek]
 show(lps m h (13+r)).1=j
 rw[lps_it,e]
end L2.St
set_option Elab.async false
set_option linter.all false
set_option maxRecDepth 100000
namespace L2.St
open PySem
abbrev En2:=Int×Value
structure Tb (t:SetTable) (es:Array En2):Prop where
 m:Msk t.mask
 d:t.dummies = #[]
 sz:t.place.size=es.size
 up:Up t.place
 le:∀ i (h:i<t.place.size),t.place[i]<=t.mask
 dis:∀ i j (hi:i<es.size) (hj:j<es.size),es[i].1=es[j].1->i=j
 way:∀ i (h:i<es.size),∃ k,k<fuel t.mask/\wj t.mask es[i].1 k=t.place.getD i 0/\∀ r,r<k->∃ i',∃ h':i'<t.place.size,t.place[i']=wj t.mask es[i].1 r
 lt:es.size<=t.mask
theorem least {p:Nat->Prop} (h:∃ n,p n):∃ n,p n/\∀ m,m<n->¬ p m:=by
 obtain⟨n,hn⟩:=h
 induction n using Nat.strongRecOn with
 | _ n ih=>
  by_cases c:∃ m,m<n/\p m
  ·obtain⟨m,h1,h2⟩:=c
   exact ih m h1 h2
  ·exact⟨n,hn,fun m hm pm=>c ⟨m,hm,pm⟩⟩
theorem Tb.find {t:SetTable}{es:Array En2} (T:Tb t es) {ha:Nat->Int} (hh:∀ i (h:i<es.size),ha i=es[i].1) {i:Nat} (hi:i<es.size) :
  ∃ nx,t.probe ha es[i].1 (t.probeStart es[i].1)=some (.candidate (t.place.getD i 0) i nx)/\t.slot (t.place.getD i 0)=.live i:=by
 have hi':i<t.place.size:=by rw[T.sz]; exact hi
 obtain⟨k,hk,e,occ⟩:=T.way i hi
 obtain⟨n,hn,mn⟩:=least (p:=fun r=>r<=k/\wj t.mask es[i].1 r=t.place.getD i 0) ⟨k,Nat.le_refl _,e⟩
 have sl:t.slot (t.place.getD i 0)=.live i:=by rw[getD_eq hi']; exact slot_live T.up hi'
 have hl:∀ r,r<n->∃ i',t.slot (wj t.mask es[i].1 r)=.live i'/\ha i'≠es[i].1:=fun r hr=>by
  obtain⟨i',h',e'⟩:=occ r (by omega)
  refine⟨i',by rw[<- e']; exact slot_live T.up h',fun eh=>?_⟩
  have hi2:i'<es.size:=by rw[<- T.sz]; exact h'
  rw[hh i' hi2] at eh
  have:=T.dis i' i hi2 hi eh
  subst this
  exact mn r hr ⟨by omega,by rw[<- e',getD_eq h']⟩
 obtain⟨nx,hx⟩:=probe_found (t:=t) (ha:=ha) (h:=es[i].1) (n:=n) (i:=i) (by omega) hl (by rw[hn.2]; exact sl) (hh i hi)
 rw[hn.2] at hx
 exact⟨nx,hx,sl⟩
theorem has_free {t:SetTable} (up:Up t.place) (lt:t.place.size<=t.mask):∃ j,j<=t.mask/\∀ i (h:i<t.place.size),t.place[i]≠j:=by
 apply Classical.byContradiction
 intro c
 have all:∀ j,j<=t.mask->∃ i,∃ h:i<t.place.size,t.place[i]=j:=fun j hj=>by
  apply Classical.byContradiction
  intro c2
  exact c ⟨j,hj,fun i h e=>c2 ⟨i,h,e⟩⟩
 have key:∀ j,j<=t.mask->∃ i,∃ h:i<t.place.size,t.place[i]=j/\j<=i:=fun j=>by
  induction j with
  | zero=>intro hj; obtain⟨i,h,e⟩:=all 0 hj; exact⟨i,h,e,Nat.zero_le _⟩
  | succ j ih=>
   intro hj
   obtain⟨i0,h0,e0,l0⟩:=ih (by omega)
   obtain⟨i,h,e⟩:=all (j+1) hj
   refine⟨i,h,e,?_⟩
   rcases Nat.lt_trichotomy i0 i with c | c | c
   ·omega
   ·subst c; omega
   ·have:=up i i0 h0 c
    rw[getD_eq h] at this
    omega
 obtain⟨i,h,_,l⟩:=key t.mask (Nat.le_refl _)
 omega
theorem Tb.none {t:SetTable}{es:Array En2} (T:Tb t es) {ha:Nat->Int} (hh:∀ i (h:i<es.size),ha i=es[i].1) {h:Int} (ne:∀ i (hi:i<es.size),es[i].1≠h) :
  ∃ n,n<fuel t.mask/\t.probe ha h (t.probeStart h)=some (.empty (wj t.mask h n) .none)/\(∀ r,r<n->∃ i',∃ h':i'<t.place.size,t.place[i']=wj t.mask h r)/\(∀ i (hi:i<t.place.size),t.place[i]≠wj t.mask h n)/\wj t.mask h n<=t.mask:=by
 obtain⟨j,hj,fr⟩:=has_free T.up (by rw[T.sz]; exact T.lt)
 obtain⟨k,hk,ek⟩:=cover T.m h hj
 obtain⟨n,hn,mn⟩:=least (p:=fun r=>r<=k/\(∀ i (hi:i<t.place.size),t.place[i]≠wj t.mask h r)) ⟨k,Nat.le_refl _,by rw[ek]; exact fr⟩
 have occ:∀ r,r<n->∃ i',∃ h':i'<t.place.size,t.place[i']=wj t.mask h r:=fun r hr=>by
  apply Classical.byContradiction
  intro c
  exact mn r hr ⟨by omega,fun i hi e=>c ⟨i,hi,e⟩⟩
 refine⟨n,by omega,probe_empty (by omega) (fun r hr=>?_) (slot_empty T.d hn.2),occ,hn.2,?_⟩
 ·obtain⟨i',h',e'⟩:=occ r hr
  refine⟨i',by rw[<- e']; exact slot_live T.up h',?_⟩
  have hi2:i'<es.size:=by rw[<- T.sz]; exact h'
  rw[hh i' hi2]
  exact ne i' hi2
 ·have:∀ k,(St.way t.mask h k).j<=t.mask:=fun k=>by
   have hw:∀ k,(St.way t.mask h k).j+(St.way t.mask h k).more<=t.mask/\(St.way t.mask h k).i<=t.mask:=fun k=>by
    have re:∀ i,i<=t.mask->i+(SetTable.runEnd t.mask i - i)<=t.mask:=fun i hi=>by unfold SetTable.runEnd; split <;> omega
    induction k with
    | zero=>
     have:SetTable.bits h % (t.mask+1)<t.mask+1:=Nat.mod_lt _ (by omega)
     exact⟨re _ (by show SetTable.bits h % (t.mask+1)<=t.mask; omega),by show SetTable.bits h % (t.mask+1)<=t.mask; omega⟩
    | succ k ih=>
     show(SetTable.advance _ (St.way t.mask h k)).j+(SetTable.advance _ (St.way t.mask h k)).more<=t.mask/\(SetTable.advance _ (St.way t.mask h k)).i<=t.mask
     unfold SetTable.advance
     split
     ·dsimp only; exact⟨by omega,ih.2⟩
     ·dsimp only[SetTable.leap]
      have:((St.way t.mask h k).i*5+1+(St.way t.mask h k).perturb / 32) % (t.mask+1)<t.mask+1:=Nat.mod_lt _ (by omega)
      exact⟨re _ (by omega),by omega⟩
   have:=(hw k).1
   omega
  exact this n
theorem ins_size {α:Type}{xs:Array α}{p:Nat}{x:α} (hp:p<=xs.size):(SetTable.insertAt xs p x).size=xs.size+1:=by
 unfold SetTable.insertAt
 rw[Array.size_append,Array.size_push,Array.size_extract,Array.size_extract]
 omega
theorem ins_get {α:Type}{xs:Array α}{p:Nat}{x:α} (hp:p<=xs.size) (i:Nat):(SetTable.insertAt xs p x)[i]?=if i<p then xs[i]? else if i=p then some x else xs[i - 1]?:=by
 have s1:((xs.extract 0 p).push x).size=p+1:=by rw[Array.size_push,Array.size_extract]; omega
 have s0:(xs.extract 0 p).size=p:=by rw[Array.size_extract]; omega
 unfold SetTable.insertAt
 rw[Array.getElem?_append,s1]
 by_cases c1:i<p
 ·rw[if_pos (by omega),if_pos c1,Array.getElem?_push,s0,if_neg (by omega),Array.getElem?_extract,if_pos (by omega),Nat.zero_add]
 ·rw[if_neg c1]
  by_cases c2:i=p
  ·rw[if_pos (by omega),if_pos c2,Array.getElem?_push,s0,if_pos c2]
  ·rw[if_neg (by omega),if_neg c2,Array.getElem?_extract]
   by_cases c3:i - 1<xs.size
   ·rw[if_pos (by omega)]; congr 1; omega
   ·rw[if_neg (by omega),Array.getElem?_eq_none (by omega)]
theorem ins_el {α:Type}{xs:Array α}{p:Nat}{x:α} (hp:p<=xs.size) {i:Nat} (hi:i<(SetTable.insertAt xs p x).size):(∃ h:i<xs.size,i<p/\(SetTable.insertAt xs p x)[i]=xs[i])∨(i=p/\(SetTable.insertAt xs p x)[i]=x)∨(∃ h:i - 1<xs.size,p<i/\(SetTable.insertAt xs p x)[i]=xs[i - 1]):=by
 have hs:=ins_size (x:=x) hp
 have hg:=ins_get (x:=x) hp i
 rw[Array.getElem?_eq_getElem hi] at hg
 by_cases c1:i<p
 ·have h1:i<xs.size:=by omega
  rw[if_pos c1,Array.getElem?_eq_getElem h1] at hg
  exact .inl ⟨h1,c1,Option.some.inj hg⟩
 ·rw[if_neg c1] at hg
  by_cases c2:i=p
  ·rw[if_pos c2] at hg
   exact .inr (.inl ⟨c2,Option.some.inj hg⟩)
  ·have h1:i - 1<xs.size:=by omega
   rw[if_neg c2,Array.getElem?_eq_getElem h1] at hg
   exact .inr (.inr ⟨h1,by omega,Option.some.inj hg⟩)
theorem ins_old {α:Type}{xs:Array α}{p:Nat}{x:α} (hp:p<=xs.size) {i:Nat} (hi:i<xs.size):∃ i',∃ h:i'<(SetTable.insertAt xs p x).size,(SetTable.insertAt xs p x)[i']=xs[i]:=by
 have hs:=ins_size (x:=x) hp
 by_cases c:i<p
 ·have h1:i<(SetTable.insertAt xs p x).size:=by omega
  refine⟨i,h1,?_⟩
  have hg:=ins_get (x:=x) hp i
  rw[Array.getElem?_eq_getElem h1,if_pos c,Array.getElem?_eq_getElem hi] at hg
  exact Option.some.inj hg
 ·have h1:i+1<(SetTable.insertAt xs p x).size:=by omega
  refine⟨i+1,h1,?_⟩
  have hg:=ins_get (x:=x) hp (i+1)
  rw[Array.getElem?_eq_getElem h1,if_neg (by omega),if_neg (by omega)] at hg
  simp only[Nat.add_sub_cancel] at hg
  rw[Array.getElem?_eq_getElem hi] at hg
  exact Option.some.inj hg
theorem Tb.put {t:SetTable}{es:Array En2} (T:Tb t es) {h:Int}{x:Value}{n:Nat} (hn:n<fuel t.mask) (ne:∀ i (hi:i<es.size),es[i].1≠h) (occ:∀ r,r<n->∃ i',∃ h':i'<t.place.size,t.place[i']=wj t.mask h r) (fr:∀ i (hi:i<t.place.size),t.place[i]≠wj t.mask h n) (le:wj t.mask h n<=t.mask) (hz:es.size+1<=t.mask) :
  (t.put (wj t.mask h n)).2<=es.size/\Tb (t.put (wj t.mask h n)).1 (SetTable.insertAt es (t.put (wj t.mask h n)).2 (h,x))/\(t.put (wj t.mask h n)).1.led=t.led/\(t.put (wj t.mask h n)).1.plain=t.plain:=by
 obtain⟨j,ej⟩:∃ j,wj t.mask h n=j:=⟨_,rfl⟩
 rw[ej] at fr le ⊢
 obtain⟨b1,b2,b3⟩:=below_ok T.up j
 obtain⟨p,ep⟩:∃ p,SetTable.below t.place j=p:=⟨_,rfl⟩
 rw[ep] at b1 b2 b3
 have hd:SetTable.has t.dummies j=false:=by rw[T.d]; unfold SetTable.has; simp
 have e1:(t.put j).1={ t with place:=SetTable.insertAt t.place p j }:=by
  unfold SetTable.put
  dsimp only
  rw[hd,ep]
  rfl
 have e2:(t.put j).2=p:=by unfold SetTable.put; dsimp only; rw[ep]
 have pe:p<=es.size:=by rw[<- T.sz]; exact b1
 have sz1:=ins_size (x:=j) b1
 have sz2:=ins_size (xs:=es) (x:=((h,x):En2)) pe
 rw[e1,e2]
 refine⟨pe,⟨T.m,T.d,by show(SetTable.insertAt t.place p j).size=_; rw[sz1,sz2,T.sz],?_,?_,?_,?_,by rw[sz2]; exact hz⟩,rfl,rfl⟩
 ·intro a b hb hab
  show(SetTable.insertAt t.place p j).getD a 0<(SetTable.insertAt t.place p j)[b]
  have hb':b<(SetTable.insertAt t.place p j).size:=hb
  rw[getD_eq (by omega)]
  have ne':∀ i (h:i<t.place.size),p<=i->j<t.place[i]:=fun i h hp=>by have:=b3 i h hp; have:=fr i h; omega
  rcases ins_el b1 (i:=a) (x:=j) (by omega) with ⟨h1,c1,g1⟩ | ⟨c1,g1⟩ | ⟨h1,c1,g1⟩ <;> rcases ins_el b1 (i:=b) (x:=j) hb' with ⟨h2,c2,g2⟩ | ⟨c2,g2⟩ | ⟨h2,c2,g2⟩ <;> rw[g1,g2]
  ·have:=T.up a b h2 hab; rw[getD_eq h1] at this; exact this
  ·exact b2 a h1 c1
  ·have:=T.up a (b - 1) h2 (by omega); rw[getD_eq h1] at this; exact this
  ·omega
  ·omega
  ·exact ne' (b - 1) h2 (by omega)
  ·omega
  ·omega
  ·have:=T.up (a - 1) (b - 1) h2 (by omega); rw[getD_eq h1] at this; exact this
 ·intro i hi
  show(SetTable.insertAt t.place p j)[i]<=t.mask
  rcases ins_el b1 (i:=i) (x:=j) hi with ⟨h1,c1,g1⟩ | ⟨c1,g1⟩ | ⟨h1,c1,g1⟩ <;> rw[g1]
  ·exact T.le _ h1
  ·exact le
  ·exact T.le _ h1
 ·intro a b ha hb he
  rcases ins_el pe (i:=a) (x:=((h,x):En2)) ha with ⟨h1,c1,g1⟩ | ⟨c1,g1⟩ | ⟨h1,c1,g1⟩ <;> rcases ins_el pe (i:=b) (x:=((h,x):En2)) hb with ⟨h2,c2,g2⟩ | ⟨c2,g2⟩ | ⟨h2,c2,g2⟩ <;> rw[g1,g2] at he
  ·exact T.dis _ _ h1 h2 he
  ·exact absurd he (ne _ h1)
  ·have:=T.dis _ _ h1 h2 he; omega
  ·exact absurd he.symm (ne _ h2)
  ·omega
  ·exact absurd he.symm (ne _ h2)
  ·have:=T.dis _ _ h1 h2 he; omega
  ·exact absurd he (ne _ h1)
  ·have:=T.dis _ _ h1 h2 he; omega
 ·have old:∀ {r:Nat}{g:Int},(∃ i',∃ h':i'<t.place.size,t.place[i']=wj t.mask g r)->∃ i',∃ h':i'<(SetTable.insertAt t.place p j).size,(SetTable.insertAt t.place p j)[i']=wj t.mask g r:=fun⟨i',h',e'⟩=>by
   obtain⟨i3,h3,e3⟩:=ins_old b1 (x:=j) h'
   exact⟨i3,h3,by rw[e3]; exact e'⟩
  intro i hi
  show ∃ k,k<fuel t.mask/\wj t.mask (SetTable.insertAt es p (h,x))[i].1 k=(SetTable.insertAt t.place p j).getD i 0/\∀ r,r<k->∃ i',∃ h':i'<(SetTable.insertAt t.place p j).size,(SetTable.insertAt t.place p j)[i']=wj t.mask (SetTable.insertAt es p (h,x))[i].1 r
  have hi2:i<(SetTable.insertAt t.place p j).size:=by rw[sz1,T.sz,<- sz2]; exact hi
  rw[getD_eq hi2]
  rcases ins_el pe (i:=i) (x:=((h,x):En2)) hi with ⟨h1,c1,g1⟩ | ⟨c1,g1⟩ | ⟨h1,c1,g1⟩ <;> rcases ins_el b1 (i:=i) (x:=j) hi2 with ⟨h2,c2,g2⟩ | ⟨c2,g2⟩ | ⟨h2,c2,g2⟩
  all_goals first | (exfalso; omega) | skip
  ·obtain⟨k,k1,k2,k3⟩:=T.way i h1
   rw[getD_eq h2] at k2
   rw[g1,g2]
   exact⟨k,k1,k2,fun r hr=>old (k3 r hr)⟩
  ·rw[g1,g2]
   exact⟨n,hn,ej,fun r hr=>old (occ r hr)⟩
  ·obtain⟨k,k1,k2,k3⟩:=T.way (i - 1) h1
   rw[getD_eq h2] at k2
   rw[g1,g2]
   exact⟨k,k1,k2,fun r hr=>old (k3 r hr)⟩
end L2.St
set_option Elab.async false
set_option linter.all false
set_option maxRecDepth 100000
namespace L2.St
open PySem
structure Ow (m:Nat) (hs:Array Int) (ow:Array (Option Nat)) (k:Nat):Prop where
 sz:ow.size=m+1
 all:∀ a,a<k->∃ j,j<=m/\ow[j]?=some (some a)
 lt:∀ (j:Nat) a,ow[j]?=some (some a)->a<k
 inj:∀ (j j':Nat) a,ow[j]?=some (some a)->ow[j']?=some (some a)->j=j'
 way:∀ (j a:Nat) (ha:a<hs.size),ow[j]?=some (some a)->∃ q,q<fuel m/\wj m hs[a] q=j/\∀ r,r<q->∃ b,ow[wj m hs[a] r]?=some (some b)
theorem wj_le {m:Nat} (h:Int):∀ k,wj m h k<=m:=fun k=>by
 have hw:∀ k,(St.way m h k).j+(St.way m h k).more<=m/\(St.way m h k).i<=m:=fun k=>by
  have re:∀ i,i<=m->i+(SetTable.runEnd m i - i)<=m:=fun i hi=>by unfold SetTable.runEnd; split <;> omega
  induction k with
  | zero=>
   have:SetTable.bits h % (m+1)<m+1:=Nat.mod_lt _ (by omega)
   exact⟨re _ (by show SetTable.bits h % (m+1)<=m; omega),by show SetTable.bits h % (m+1)<=m; omega⟩
  | succ k ih=>
   show(SetTable.advance _ (St.way m h k)).j+(SetTable.advance _ (St.way m h k)).more<=m/\(SetTable.advance _ (St.way m h k)).i<=m
   unfold SetTable.advance
   split
   ·dsimp only; exact⟨by omega,ih.2⟩
   ·dsimp only[SetTable.leap]
    have:((St.way m h k).i*5+1+(St.way m h k).perturb / 32) % (m+1)<m+1:=Nat.mod_lt _ (by omega)
    exact⟨re _ (by omega),by omega⟩
 have:=(hw k).1
 unfold wj
 omega
theorem free_ok {m:Nat} (hm:Msk m) {ow:Array (Option Nat)} (sz:ow.size=m+1) (h:Int) {j0:Nat} (hj0:j0<=m) (f0:ow[j0]?=some none):∀ (f l k:Nat),l+f=SetTable.turns m->k<=10*l->St.way m h k=stP m (lps m h l)->(∀ r,r<k->∃ b,ow[wj m h r]?=some (some b))->(∀ l',l'<l->∃ b,ow[(lps m h l').1]?=some (some b)) ->
  ∃ q,q<fuel m/\SetTable.layClean.free m ow f (lps m h l).1 (lps m h l).2=some (wj m h q)/\ow[wj m h q]?=some none/\∀ r,r<q->∃ b,ow[wj m h r]?=some (some b)
 | 0,l,k,hf,hk,ew,occ,lp=>by
  exfalso
  obtain⟨r,hr,e⟩:=full hm (lps_le m h 13) hj0
  obtain⟨b,hb⟩:=lp (13+r) (by unfold SetTable.turns at hf; omega)
  rw[lps_it,e,f0] at hb
  cases hb
 | f+1,l,k,hf,hk,ew,occ,lp=>by
  obtain⟨i,ei⟩:∃ i,(lps m h l).1=i:=⟨_,rfl⟩
  have il:i<=m:=by rw[<- ei]; exact lps_le m h l
  have hr:=run9 m i
  have re:SetTable.runEnd m i<=m:=by unfold SetTable.runEnd; split <;> omega
  have wr:∀ d,d<=SetTable.runEnd m i - i->wj m h (k+d)=i+d:=fun d hd=>by
   have:=way_run m h k _ ew d (by rw[ei]; exact hd)
   unfold wj
   rw[this,ei]
  have tot:k+9<fuel m:=by unfold fuel; omega
  rw[SetTable.layClean.free,ei]
  cases e:(List.range (SetTable.runEnd m i+1 - i)).find? fun d=>(ow.getD (i+d) (some 0)).isNone with
  | some d=>
   dsimp only
   rw[List.find?_range_eq_some] at e
   obtain⟨e1,e2,e3⟩:=e
   have e2:=mem_range.mp e2
   have get:∀ d,d<=SetTable.runEnd m i - i->∃ v,ow[i+d]?=some v/\ow.getD (i+d) (some 0)=v:=fun d hd=>⟨ow[i+d],Array.getElem?_eq_getElem (by omega),by simp[Array.getD,show i+d<ow.size by omega]⟩
   refine⟨k+d,by omega,by rw[wr d (by omega)],?_,fun r hr'=>?_⟩
   ·rw[wr d (by omega)]
    obtain⟨v,g1,g2⟩:=get d (by omega)
    rw[g2] at e1
    cases v with
    | none=>exact g1
    | some x=>cases e1
   ·by_cases c:r<k
    ·exact occ r c
    ·rw[show r=k+(r - k) by omega,wr (r - k) (by omega)]
     obtain⟨v,g1,g2⟩:=get (r - k) (by omega)
     have:=e3 (r - k) (by omega)
     rw[g2] at this
     cases v with
     | none=>cases this
     | some x=>exact⟨x,g1⟩
  | none=>
   dsimp only
   rw[List.find?_range_eq_none] at e
   have get:∀ d,d<=SetTable.runEnd m i - i->∃ b,ow[i+d]?=some (some b):=fun d hd=>by
    have:=e d (by omega)
    have g1:ow[i+d]?=some ow[i+d]:=Array.getElem?_eq_getElem (by omega)
    have g2:ow.getD (i+d) (some 0)=ow[i+d]:=by simp[Array.getD,show i+d<ow.size by omega]
    rw[g2] at this
    cases c:ow[i+d] with
    | none=>rw[c] at this; cases this
    | some x=>exact⟨x,by rw[g1,c]⟩
   have ew2:St.way m h (k+(SetTable.runEnd m i - i)+1)=stP m (lps m h (l+1)):=by
    have e2:=way_run m h k _ ew (SetTable.runEnd m i - i) (by rw[ei]; exact Nat.le_refl _)
    show SetTable.advance _ (St.way m h (k+(SetTable.runEnd m i - i)))=_
    rw[e2,ei]
    unfold SetTable.advance
    rw[if_neg (by show ¬ (SetTable.runEnd m i - i - (SetTable.runEnd m i - i) > 0); omega)]
    show _=stP m (SetTable.leap m (lps m h l).1 (lps m h l).2)
    rw[ei]
    rfl
   have:=free_ok hm sz h hj0 f0 f (l+1) (k+(SetTable.runEnd m i - i)+1) (by omega) (by omega) ew2 (fun r hr'=>?_) (fun l' hl'=>?_)
   ·rw[show lps m h (l+1)=SetTable.leap m (lps m h l).1 (lps m h l).2 from rfl,ei] at this
    exact this
   ·by_cases c:r<k
    ·exact occ r c
    ·rw[show r=k+(r - k) by omega,wr (r - k) (by omega)]
     exact get (r - k) (by omega)
   ·by_cases c:l'<l
    ·exact lp l' c
    ·obtain rfl:l'=l:=by omega
     rw[ei]
     have:=get 0 (Nat.zero_le _)
     rw[Nat.add_zero] at this
     exact this
theorem Ow.free {m:Nat}{hs:Array Int}{ow:Array (Option Nat)}{k:Nat} (O:Ow m hs ow k) (hk:k<=m):∃ j0,j0<=m/\ow[j0]?=some none:=by
 apply Classical.byContradiction
 intro c
 have occ:∀ j,j<=m->∃ a,ow[j]?=some (some a):=fun j hj=>by
  have h1:j<ow.size:=by rw[O.sz]; omega
  cases e:ow[j] with
  | none=>exact absurd ⟨j,hj,by rw[Array.getElem?_eq_getElem h1,e]⟩ c
  | some a=>exact⟨a,by rw[Array.getElem?_eq_getElem h1,e]⟩
 let f:Nat->Nat:=fun j=>((ow[j]?).getD none).getD 0
 have hf:∀ j,j<=m->ow[j]?=some (some (f j)):=fun j hj=>by
  obtain⟨a,ha⟩:=occ j hj
  show _=some (some (((ow[j]?).getD none).getD 0))
  rw[ha]
  rfl
 have nd:((List.range (m+1)).map f).Nodup:=by
  unfold List.Nodup
  rw[List.pairwise_map]
  refine List.Pairwise.imp_of_mem ?_ (List.pairwise_lt_range (n:=m+1))
  intro a b ha hb hab e
  have h1:=hf a (by have:=mem_range.mp ha; omega)
  have h2:=hf b (by have:=mem_range.mp hb; omega)
  rw[e] at h1
  have:=O.inj a b _ h1 h2
  omega
 have sub:∀ x ∈ (List.range (m+1)).map f,x<k:=fun x hx=>by
  obtain⟨j,hj,rfl⟩:=mem_map.mp hx
  exact O.lt j _ (hf j (by have:=mem_range.mp hj; omega))
 have pm:((List.range (m+1)).map f).Perm ((List.range k).filter fun x=>decide (x ∈ (List.range (m+1)).map f)):=by
  rw[List.perm_ext_iff_of_nodup nd (List.nodup_range.filter _)]
  intro x
  rw[List.mem_filter]
  constructor
  ·intro h
   exact⟨mem_range.mpr (sub x h),by simpa using h⟩
  ·intro h
   simpa using h.2
 have l1:=pm.length_eq
 have l2:=List.length_filter_le (fun x=>decide (x ∈ (List.range (m+1)).map f)) (List.range k)
 rw[length_map,List.length_range] at l1
 rw[List.length_range] at l2
 omega
theorem Ow.add {m:Nat} (hm:Msk m) {hs:Array Int}{ow:Array (Option Nat)}{k:Nat} (O:Ow m hs ow k) (hk:k<=m) (hk2:k<hs.size) :
  ∃ j,SetTable.layClean.free m ow (SetTable.turns m) (SetTable.bits hs[k] % (m+1)) (SetTable.bits hs[k])=some j/\Ow m hs (ow.setIfInBounds j (some k)) (k+1):=by
 obtain⟨j0,h1,h2⟩:=O.free hk
 obtain⟨q,q1,q2,q3,q4⟩:=free_ok hm O.sz hs[k] h1 h2 (SetTable.turns m) 0 0 (by omega) (by omega) rfl (fun r hr=>by omega) (fun l hl=>by omega)
 refine⟨wj m hs[k] q,q2,?_⟩
 obtain⟨j,ej⟩:∃ j,wj m hs[k] q=j:=⟨_,rfl⟩
 have jl:j<=m:=by rw[<- ej]; exact wj_le _ _
 rw[ej] at q3 ⊢
 have js:j<ow.size:=by rw[O.sz]; omega
 have g:∀ i:Nat,(ow.setIfInBounds j (some k))[i]?=if i=j then some (some k) else ow[i]?:=fun i=>by
  rw[Array.getElem?_setIfInBounds]
  by_cases c:j=i
  ·subst c; rw[if_pos rfl,if_pos rfl,if_pos js]
  ·rw[if_neg c,if_neg (fun e=>c e.symm)]
 have keep:∀ {i:Nat}{b:Nat},ow[i]?=some (some b)->(ow.setIfInBounds j (some k))[i]?=some (some b):=fun {i b} h=>by
  rw[g,if_neg (fun e=>by subst e; rw[q3] at h; cases h)]
  exact h
 refine⟨by rw[Array.size_setIfInBounds]; exact O.sz,fun a ha=>?_,fun i a h=>?_,fun i i' a h h'=>?_,fun i a ha h=>?_⟩
 ·by_cases c:a=k
  ·subst c; exact⟨j,jl,by rw[g,if_pos rfl]⟩
  ·obtain⟨i,i1,i2⟩:=O.all a (by omega)
   exact⟨i,i1,keep i2⟩
 ·rw[g] at h
  split at h
  ·cases h; omega
  ·have:=O.lt i a h; omega
 ·rw[g] at h h'
  split at h <;> split at h'
  ·omega
  ·cases h; have:=O.lt i' k h'; omega
  ·cases h'; have:=O.lt i k h; omega
  ·exact O.inj i i' a h h'
 ·rw[g] at h
  split at h
  ·rename_i c
   cases h
   exact⟨q,q1,by rw[ej,c],fun r hr=>by obtain⟨b,hb⟩:=q4 r hr; exact⟨b,keep hb⟩⟩
  ·obtain⟨q',w1,w2,w3⟩:=O.way i a ha h
   exact⟨q',w1,w2,fun r hr=>by obtain⟨b,hb⟩:=w3 r hr; exact⟨b,keep hb⟩⟩
theorem Ow.nil (m:Nat) (hs:Array Int):Ow m hs (Array.replicate (m+1) none) 0:=by
 have g:∀ (j a:Nat),(Array.replicate (m+1) (none:Option Nat))[j]?=some (some a)->False:=fun j a h=>by
  rw[Array.getElem?_replicate] at h
  split at h <;> cases h
 exact⟨by rw[Array.size_replicate],fun a ha=>by omega,fun j a h=>(g j a h).elim,fun j j' a h=>(g j a h).elim,fun j a _ h=>(g j a h).elim⟩
theorem lay_ok {m:Nat} (hm:Msk m) {hs:Array Int} (hz:hs.size<=m):∃ ow,SetTable.layClean m hs=some ow/\Ow m hs ow hs.size:=by
 have key:∀ (l:List Int) (k:Nat) (ow:Array (Option Nat)),k<=hs.size->hs.toList.drop k=l->Ow m hs ow k ->
   ∃ ow',l.foldl (fun acc h=>do
    let (owner,k) <- acc
    let j <- SetTable.layClean.free m owner (SetTable.turns m) (SetTable.bits h % (m+1)) (SetTable.bits h)
    pure (owner.setIfInBounds j (some k),k+1)) (some (ow,k))=some (ow',hs.size)/\Ow m hs ow' hs.size:=by
  intro l
  induction l with
  | nil=>
   intro k ow hk2 e O
   have hk:hs.size<=k:=by
    have:=congrArg List.length e
    rw[List.length_drop,Array.length_toList,List.length_nil] at this
    omega
   obtain rfl:k=hs.size:=by omega
   exact⟨ow,rfl,O⟩
  | cons h l ih=>
   intro k ow _ e O
   have hk:k<hs.size:=by
    have:=congrArg List.length e
    rw[List.length_drop,Array.length_toList,length_cons] at this
    omega
   have eh:hs[k]=h/\hs.toList.drop (k+1)=l:=by
    rw[List.drop_eq_getElem_cons (by rw[Array.length_toList]; exact hk)] at e
    injection e with e1 e2
    exact⟨by rw[<- e1]; simp,e2⟩
   obtain⟨j,f1,f2⟩:=O.add hm (by omega) hk
   rw[eh.1] at f1
   rw[List.foldl_cons]
   show ∃ ow',List.foldl _ ((SetTable.layClean.free m ow (SetTable.turns m) (SetTable.bits h % (m+1)) (SetTable.bits h)).bind fun j=>some (ow.setIfInBounds j (some k),k+1)) l=_/\_
   rw[f1]
   exact ih (k+1) _ hk eh.2 f2
 obtain⟨ow,h1,h2⟩:=key hs.toList 0 _ (Nat.zero_le _) (List.drop_zero) (Ow.nil m hs)
 refine⟨ow,?_,h2⟩
 unfold SetTable.layClean
 rw[<- Array.foldl_toList,h1]
 rfl
theorem laid_ok {m:Nat} (hm:Msk m) {es:Array En2} (hz:es.size<=m) (dis:∀ i j (hi:i<es.size) (hj:j<es.size),es[i].1=es[j].1->i=j) (fi mo:Nat) (led pl:Bool) :
  ∃ t od,SetTable.laid m fi mo led pl (es.map (·.1))=some (t,od)/\t.mask=m/\t.led=led/\t.plain=pl/\Tb t (od.filterMap (es[·]?))/\(od.filterMap (es[·]?)).toList.Perm es.toList:=by
 obtain⟨ow,e,O⟩:=lay_ok hm (hs:=es.map (·.1)) (by rw[Array.size_map]; exact hz)
 obtain⟨lv,elv⟩:∃ lv,((List.range (m+1)).filterMap fun j=>(ow.getD j none).map (j,·))=lv:=⟨_,rfl⟩
 have mem:∀ x ∈ lv,x.1<=m/\ow[x.1]?=some (some x.2):=fun x hx=>by
  rw[<- elv] at hx
  obtain⟨j,hj,e2⟩:=List.mem_filterMap.mp hx
  have hj:=mem_range.mp hj
  have g2:ow[j]?=some (ow.getD j none):=by
   have:j<ow.size:=by rw[O.sz]; exact hj
   rw[Array.getElem?_eq_getElem this]
   simp[Array.getD,this]
  obtain⟨a,e3,rfl⟩:=Option.map_eq_some_iff.mp e2
  exact⟨by show j<=m; omega,by show ow[j]?=_; rw[g2,e3]⟩
 have sz:(es.map (·.1)).size=es.size:=Array.size_map ..
 have lt2:∀ x ∈ lv,x.2<es.size:=fun x hx=>by have:=O.lt _ _ (mem x hx).2; rw[sz] at this; exact this
 have up:lv.Pairwise fun x y=>x.1<y.1:=by
  rw[<- elv]
  refine List.Pairwise.filterMap _ ?_ (List.pairwise_lt_range (n:=m+1))
  intro a a' haa b hb b' hb'
  obtain⟨_,_,rfl⟩:=Option.map_eq_some_iff.mp hb
  obtain⟨_,_,rfl⟩:=Option.map_eq_some_iff.mp hb'
  exact haa
 have inj:lv.Pairwise fun x y=>x.2≠y.2:=by
  refine List.Pairwise.imp_of_mem ?_ up
  intro x y hx hy hxy he
  have h1:=(mem x hx).2
  have h2:=(mem y hy).2
  rw[he] at h1
  have:=O.inj _ _ _ h1 h2
  omega
 have pm:(lv.map (·.2)).Perm (List.range es.size):=by
  rw[List.perm_ext_iff_of_nodup (by unfold List.Nodup; rw[List.pairwise_map]; exact inj) List.nodup_range]
  intro a
  rw[mem_range]
  constructor
  ·intro h
   obtain⟨x,hx,rfl⟩:=mem_map.mp h
   exact lt2 x hx
  ·intro h
   obtain⟨j,hj,hj2⟩:=O.all a (by rw[sz]; exact h)
   refine mem_map.mpr ⟨(j,a),?_,rfl⟩
   rw[<- elv]
   refine List.mem_filterMap.mpr ⟨j,mem_range.mpr (by omega),?_⟩
   have:j<ow.size:=by rw[O.sz]; omega
   rw[Array.getElem?_eq_getElem this] at hj2
   have g2:ow.getD j none=some a:=by
    simp only[Array.getD,this,dif_pos]
    exact Option.some.inj hj2
   rw[g2]
   rfl
 have ll:lv.length=es.size:=by have:=pm.length_eq; rw[length_map,List.length_range] at this; exact this
 have eo:(lv.map (·.2)).toArray.filterMap (es[·]?)=(lv.map fun x=>es.getD x.2 (0,.none)).toArray:=by
  rw[List.filterMap_toArray]
  congr 1
  have:∀ l:List (Nat×Nat),(∀ x ∈ l,x.2<es.size)->(l.map (·.2)).filterMap (es[·]?)=l.map fun x=>es.getD x.2 (0,.none):=by
   intro l hl
   induction l with
   | nil=>rfl
   | cons x l ih=>
    have h1:=hl x mem_cons_self
    rw[map_cons,List.filterMap_cons,Array.getElem?_eq_getElem h1,ih fun y hy=>hl y (mem_cons_of_mem _ hy),map_cons]
    simp[Array.getD,h1]
  exact this lv lt2
 refine⟨_,_,(by unfold SetTable.laid; rw[e]; rfl),rfl,rfl,rfl,?_,?_⟩
 ·rw[elv,eo]
  have gi:∀ i (hi:i<lv.length),(lv.map fun x=>es.getD x.2 (0,.none)).toArray[i]'(by rw[size_toArray,length_map]; exact hi)=es[lv[i].2]'(lt2 _ (List.getElem_mem hi)):=fun i hi=>by
   have h1:=lt2 _ (List.getElem_mem hi)
   rw[List.getElem_toArray,List.getElem_map]
   simp[Array.getD,h1]
  have pj:∀ i (hi:i<lv.length),(lv.map (·.1)).toArray[i]'(by rw[size_toArray,length_map]; exact hi)=lv[i].1:=fun i hi=>by
   rw[List.getElem_toArray,List.getElem_map]
  have upi:=List.pairwise_iff_getElem.mp up
  have inji:=List.pairwise_iff_getElem.mp inj
  refine⟨hm,rfl,by show(lv.map (·.1)).toArray.size=_; rw[size_toArray,size_toArray,length_map,length_map],?_,?_,?_,?_,by rw[size_toArray,length_map,ll]; exact hz⟩
  ·intro i j hj hij
   have hj':j<lv.length:=by have:j<(lv.map (·.1)).toArray.size:=hj; rw[size_toArray,length_map] at this; exact this
   show(lv.map (·.1)).toArray.getD i 0<(lv.map (·.1)).toArray[j]
   rw[getD_eq (by rw[size_toArray,length_map]; omega),pj i (by omega),pj j hj']
   exact upi i j (by omega) hj' hij
  ·intro i hi
   have hi':i<lv.length:=by have:i<(lv.map (·.1)).toArray.size:=hi; rw[size_toArray,length_map] at this; exact this
   show(lv.map (·.1)).toArray[i]<=m
   rw[pj i hi']
   exact(mem _ (List.getElem_mem hi')).1
  ·intro i j hi hj he
   have hi':i<lv.length:=by rw[size_toArray,length_map] at hi; exact hi
   have hj':j<lv.length:=by rw[size_toArray,length_map] at hj; exact hj
   rw[gi i hi',gi j hj'] at he
   have h3:=dis _ _ (lt2 _ (List.getElem_mem hi')) (lt2 _ (List.getElem_mem hj')) he
   rcases Nat.lt_trichotomy i j with c | c | c
   ·exact absurd h3 (inji i j hi' hj' c)
   ·exact c
   ·exact absurd h3.symm (inji j i hj' hi' c)
  ·intro i hi
   have hi':i<lv.length:=by rw[size_toArray,length_map] at hi; exact hi
   have h1:=lt2 _ (List.getElem_mem hi')
   obtain⟨q,q1,q2,q3⟩:=O.way _ _ (by rw[sz]; exact h1) (mem _ (List.getElem_mem hi')).2
   rw[Array.getElem_map] at q2 q3
   show ∃ k,k<fuel m/\wj m ((lv.map fun x=>es.getD x.2 (0,.none)).toArray[i]).1 k=(lv.map (·.1)).toArray.getD i 0/\∀ r,r<k->∃ i',∃ h':i'<(lv.map (·.1)).toArray.size,(lv.map (·.1)).toArray[i']=wj m ((lv.map fun x=>es.getD x.2 (0,.none)).toArray[i]).1 r
   rw[gi i hi',getD_eq (by rw[size_toArray,length_map]; exact hi'),pj i hi']
   refine⟨q,q1,q2,fun r hr=>?_⟩
   obtain⟨b,hb⟩:=q3 r hr
   have hb2:=O.lt _ _ hb
   rw[sz] at hb2
   have hw:=wj_le (m:=m) es[lv[i].2].1 r
   obtain⟨w,ew⟩:∃ w,wj m es[lv[i].2].1 r=w:=⟨_,rfl⟩
   rw[ew] at hb hw ⊢
   have:(w,b) ∈ lv:=by
    rw[<- elv]
    refine List.mem_filterMap.mpr ⟨w,mem_range.mpr (Nat.lt_succ_of_le hw),?_⟩
    have h2:w<ow.size:=by rw[O.sz]; omega
    rw[Array.getElem?_eq_getElem h2] at hb
    have g2:ow.getD w none=some b:=by
     simp only[Array.getD,h2,dif_pos]
     exact Option.some.inj hb
    rw[g2]
    rfl
   obtain⟨i',h',e'⟩:=List.mem_iff_getElem.mp this
   refine⟨i',by rw[size_toArray,length_map]; exact h',?_⟩
   rw[pj i' h',e']
 ·rw[elv,eo]
  have p2:=pm.map fun a=>es.getD a (0,Value.none)
  rw[map_map] at p2
  refine List.Perm.trans (show(lv.map fun x=>es.getD x.2 (0,.none)).Perm _ from p2) ?_
  have:(List.range es.size).map (fun a=>es.getD a (0,Value.none))=es.toList:=List.ext_getElem? fun i=>by
   rw[getElem?_map,Array.getElem?_toList (xs:=es)]
   by_cases c:i<es.size
   ·rw[List.getElem?_range c,Array.getElem?_eq_getElem c]
    simp[Array.getD,c]
   ·rw[List.getElem?_eq_none (l:=List.range es.size) (by rw[List.length_range]; omega),Array.getElem?_eq_none (by omega)]
    rfl
  rw[this]
end L2.St
set_option Elab.async false
set_option linter.all false
set_option maxRecDepth 100000
namespace L2.St
open PySem
def IsPair (h:Heap) (i j:Int) (a:Addr):Prop:=∃ o t u n,h.get? a=some o/\o.cls=.type "tuple" /\ o.data=.seq #[.int i t,.int j u] n
abbrev kp (i j:Int):List Key:=[.inl i,.inl j]
section
variable {prog:Program}{w:World}{A:Around}{E:Value->Shared->Prop}{s:Shared}{a b:Addr}
theorem IsPair.ty {i j:Int} (x:IsPair s.heap i j a):s.TypeIs (.ref a) "tuple":=let ⟨o,_,_,_,e,c,_⟩:=x; ⟨o,e,c⟩
theorem IsPair.key {h:Heap}{i j:Int} (x:IsPair h i j a):(tupleKind (mixKind prog w)).is h (kp i j) a:=by
 obtain⟨o,t,u,n,e,c,d⟩:=x
 exact⟨o,_,n,e,c,d,items_are (ks:=kp i j) (.cons ⟨t,rfl⟩ (.cons ⟨u,rfl⟩ .nil))⟩
theorem hbv {i j:Int} (x:IsPair s.heap i j a) {Q:Bool->Shared->Prop} (q:Q true s):wpAny (model prog w) A (hashByValue 8 (.ref a)) Q E s:=by
 have ty:=x.ty
 obtain⟨o,t,u,n,e,c,d⟩:=x
 unfold hashByValue
 refine wpAny_bind (wpAny_specialOf ty F.slot_tuple_hash.lookup ?_)
 show wpAny _ _ (seqItems? (.ref a) >>= _) _ _ s
 refine wpAny_bind (wpAny_seqItems e d ?_)
 show wpAny _ _ (forIn (#[Value.int i t,Value.int j u]:Array Value) _ _ >>= _) _ _ s
 refine wpAny_bind ?_
 rw[<- Array.forIn_toList]
 refine wpAny_forIn_list _ (fun rest r s'=>r.1=none/\s'=s/\∀ v ∈ rest,∃ (i:Int) (t:Tok),v=.int i t) _ ?_ ?_ _ _ ⟨rfl,rfl,fun v hv=>?_⟩
 ·rintro v rest r s' ⟨hr,rfl,hall⟩
  obtain⟨i,t,rfl⟩:=hall v mem_cons_self
  refine wpAny_bind (show wpAny _ _ (hashByValue 7 (.int i t)) _ _ _ from ?_)
  unfold hashByValue
  refine wpAny_pure ?_
  simp only[Bool.not_true,Bool.false_eq_true,if_false]
  exact wpAny_pure ⟨rfl,rfl,fun u hu'=>hall u (mem_cons_of_mem _ hu')⟩
 ·rintro⟨r1,r2⟩ s' ⟨hr,rfl,_⟩
  simp only at hr
  subst hr
  exact wpAny_pure q
 ·simp only[mem_cons,not_mem_nil,or_false] at hv
  rcases hv with rfl | rfl
  ·exact⟨_,_,rfl⟩
  ·exact⟨_,_,rfl⟩
theorem ofc {i j:Int} (x:IsPair s.heap i j a) {Q:Bool->Shared->Prop} (q:Q false s):wpAny (model prog w) A (ofAClassStatement 8 (.ref a)) Q E s:=by
 have ty:=x.ty
 obtain⟨o,t,u,n,e,c,d⟩:=x
 unfold ofAClassStatement
 refine wpAny_bind (wpAny_typeOf ty ?_)
 dsimp only
 rw[if_pos (by decide)]
 refine wpAny_bind (wpAny_pure ?_)
 simp only[Bool.not_true,Bool.false_eq_true,if_false]
 refine wpAny_bind (wpAny_seqItems e d ?_)
 dsimp only
 refine wpAny_bind ?_
 rw[<- Array.forIn_toList]
 refine wpAny_forIn_list _ (fun rest r s'=>r.1=none/\s'=s/\∀ v ∈ rest,∃ (i:Int) (t:Tok),v=.int i t) _ ?_ ?_ _ _ ⟨rfl,rfl,fun v hv=>?_⟩
 ·rintro v rest r s' ⟨hr,rfl,hall⟩
  obtain⟨i,t,rfl⟩:=hall v mem_cons_self
  refine wpAny_bind (show wpAny _ _ (ofAClassStatement 7 (.int i t)) _ _ _ from ?_)
  unfold ofAClassStatement
  refine wpAny_pure ?_
  simp only[Bool.false_eq_true,if_false]
  exact wpAny_pure ⟨rfl,rfl,fun u hu'=>hall u (mem_cons_of_mem _ hu')⟩
 ·rintro⟨r1,r2⟩ s' ⟨hr,rfl,_⟩
  simp only at hr
  subst hr
  exact wpAny_pure q
 ·simp only[mem_cons,not_mem_nil,or_false] at hv
  rcases hv with rfl | rfl
  ·exact⟨_,_,rfl⟩
  ·exact⟨_,_,rfl⟩
theorem unseen {i j:Int} (x:IsPair s.heap i j a) (vs:List Value) (hv:∀ v ∈ vs,∃ (i j:Int) (c:Addr),v=.ref c/\IsPair s.heap i j c) {Q:Bool->Shared->Prop} (q:Q false s):wpAny (model prog w) A (searchCouldBeSeen (.ref a) vs) Q E s:=by
 unfold searchCouldBeSeen
 refine wpAny_bind ?_
 refine wpAny_forIn_list _ (fun rest r s'=>r.1=none/\s'=s/\∀ v ∈ rest,∃ (i j:Int) (c:Addr),v=.ref c/\IsPair s.heap i j c) _ ?_ ?_ _ _ ⟨rfl,rfl,hv⟩
 ·rintro v rest r s' ⟨hr,rfl,hall⟩
  have hall2:=fun u hu'=>hall u (mem_cons_of_mem _ hu')
  obtain⟨i',j',c,rfl,y⟩:=hall v mem_cons_self
  dsimp only
  split
  ·exact wpAny_pure ⟨rfl,rfl,hall2⟩
  ·refine wpAny_bind ((tupleKind (mixKind prog w)).quiet x.key ?_)
   simp only[Bool.not_true,Bool.false_eq_true,if_false]
   refine wpAny_bind ((tupleKind (mixKind prog w)).quiet y.key ?_)
   simp only[Bool.not_true,Bool.false_eq_true,if_false]
   refine wpAny_bind (ofc x ?_)
   simp only[Bool.false_eq_true,if_false]
   refine wpAny_bind (ofc y ?_)
   simp only[Bool.false_eq_true,if_false]
   exact wpAny_pure ⟨rfl,rfl,hall2⟩
 ·rintro⟨r1,r2⟩ s' ⟨hr,rfl,_⟩
  simp only at hr
  subst hr
  exact wpAny_pure q
end
end L2.St
set_option Elab.async false
set_option linter.all false
set_option maxRecDepth 100000
namespace L2.St
open PySem
abbrev bt (w:World):Bool:=w.params.followText "set-order"
def SetE (w:World) (h:Heap) (a:Addr) (es:Array En2):Prop:=∃ o ep t,h.get? a=some o/\o.ExactSet/\o.data=.set es ep t/\Tb t es/\t.plain=true/\(t.led = !bt w)/\es.size*5<t.mask*3
def EsP (prog:Program) (w:World) (h:Heap) (es:Array En2):Prop:=∀ (n:Nat) (hn:n<es.size),∃ i j c,es[n]=(hashT prog w (kp i j),Value.ref c)/\IsPair h i j c
theorem Tb.fits {t:SetTable}{es:Array En2} (T:Tb t es):t.fits es.size=true:=by
 simp only[SetTable.fits,SetTable.fill,T.d,T.sz,size_toArray,List.length_nil,Nat.add_zero,Bool.and_eq_true,beq_iff_eq,decide_eq_true_eq,true_and]
 exact T.lt
theorem Tb.gave {t:SetTable}{es:Array En2} (T:Tb t es):t.gaveWay=false:=by
 unfold SetTable.gaveWay
 rcases T.m with h | h | h | h <;> rw[h] <;> rfl
section
variable {prog:Program}{w:World}{A:Around}{E:Value->Shared->Prop}{s:Shared}{a b c:Addr}{es:Array En2}{i j:Int}
theorem noscan {v:Value} (hv:v=.ref b):byScan v es=false:=by subst hv; rfl
theorem search_there (hu:A.units<cLine) (S:SetE w s.heap a es) (P:EsP prog w s.heap es) (x:IsPair s.heap i j b) {n:Nat} (hn:n<es.size) (e:es[n]=(hashT prog w (kp i j),Value.ref c)) (y:IsPair s.heap i j c)
  (ad:Bool) {Q:SetFound->Shared->Prop} (q:∀ r,(ad=false->r=some n)->Q (.there r) s):wpAny (model prog w) A (setSearch a (.ref b) (hashT prog w (kp i j)) ad) Q E s:=by
 obtain⟨o,ep,t,h1,h2,h3,T,pl,ld,nf⟩:=S
 unfold setSearch setSearchFrom
 refine wpAny_bind (wpAny_setState_of h1 h3 T.fits ?_)
 dsimp only
 rw[T.gave]
 simp only[Bool.false_eq_true,if_false]
 have hh:es[n].1=hashT prog w (kp i j):=by rw[e]
 have key:∀ (f:Nat->Int) (met:SetTable.Met),t.probe f (hashT prog w (kp i j)) (t.probeStart (hashT prog w (kp i j)))=some met->(∀ i (h:i<es.size),f i=es[i].1)->∃ nx,met=.candidate (t.place.getD n 0) n nx/\t.slot (t.place.getD n 0)=.live n:=fun f met em hf=>by
  obtain⟨nx,pr,sl⟩:=T.find hf hn
  rw[hh,em] at pr
  exact⟨nx,Option.some.inj pr,sl⟩
 have key2:∀ (f:Nat->Int),(∀ met,t.probe f (hashT prog w (kp i j)) (t.probeStart (hashT prog w (kp i j)))=some met->False)->(∀ i (h:i<es.size),f i=es[i].1)->False:=fun f hno hf=>by
  obtain⟨nx,pr,sl⟩:=T.find hf hn
  rw[hh] at pr
  exact hno _ pr
 have sh:∀ i (h:i<es.size),(es[i]?.map (·.1)).getD 0=es[i].1:=fun i h=>by rw[Array.getElem?_eq_getElem h]; rfl
 have en:es[n]?=some (hashT prog w (kp i j),Value.ref c):=by rw[Array.getElem?_eq_getElem hn,e]
 have go:∀ nx,t.slot (t.place.getD n 0)=.live n->wpAny (model prog w) A (do
   let some (_,y):=es[n]? | unsupported "internal:set-entry"
   let equal <- holding [y] (eqBool y (.ref b))
   let (es',_,t') <- setState a
   if ad && equal then return .there none
   let some same:=t'.sameMemory t.moves t.mask | unsupported "set.changed-during-lookup:is-the-new-block-at-the-old-address"
   let still <- match (if same then t'.slot (t.place.getD n 0) else .empty) with
    | .live i'=>match es'[i']? with
     | some (_,y')=>do pure (if <- isSame y' y then some i' else none)
     | none=>pure none
    | _=>pure none
   match still with
   | none=>rule "set.search.anew"; setSearchFrom a (.ref b) (hashT prog w (kp i j)) ad 99999 none
   | some i'=>if equal then return .there (some i') else setSearchFrom a (.ref b) (hashT prog w (kp i j)) ad 99999 (some nx)) Q E s:=by
  intro nx sl
  rw[en]
  dsimp only
  refine wpAny_bind (wpAny_holding ((tupleKind (mixKind prog w)).eqBool hu y.key x.key ?_))
  refine wpAny_bind (wpAny_setState_of h1 h3 T.fits ?_)
  dsimp only
  rw[decide_eq_true rfl,Bool.and_true]
  cases ad with
  | true=>exact wpAny_pure (q none fun e=>by cases e)
  | false=>
   simp only[Bool.false_eq_true,if_false]
   have sm:t.sameMemory t.moves t.mask=some true:=by unfold SetTable.sameMemory; rw[if_pos (by simp)]
   rw[sm]
   dsimp only
   rw[if_pos rfl,sl]
   dsimp only
   rw[en]
   dsimp only
   refine wpAny_bind (wpAny_isSame_ref_self ?_)
   refine wpAny_bind (wpAny_pure ?_)
   rw[if_pos rfl]
   dsimp only
   rw[if_pos trivial]
   exact wpAny_pure (q _ fun _=>rfl)
 split
 ·rename_i met em
  obtain⟨nx,rfl,sl⟩:=key _ _ em sh
  dsimp only
  split
  ·rename_i hl
   refine wpAny_bind (unseen x _ (fun v hv=>?_) ?_)
   ·obtain⟨e2,he2,rfl⟩:=mem_map.mp hv
    have he3:=(Array.mem_filter.mp (Array.mem_toList_iff.mp he2)).1
    obtain⟨m,hm,rfl⟩:=Array.mem_iff_getElem.mp he3
    obtain⟨i',j',c',e4,p4⟩:=P m hm
    exact⟨i',j',c',by rw[e4],p4⟩
   ·simp only[Bool.false_eq_true,if_false]
    exact go nx sl
  ·exact go nx sl
 ·rename_i hno
  exact(key2 _ (fun m hm=>hno m hm) sh).elim
theorem search_none (S:SetE w s.heap a es) {h:Int} (ne:∀ n (hn:n<es.size),es[n].1≠h) (ad:Bool) {Q:SetFound->Shared->Prop}
  (q:∀ o ep t n,s.heap.get? a=some o->o.ExactSet->o.data=.set es ep t->Tb t es->t.plain=true->t.led = !bt w->es.size*5<t.mask*3->n<fuel t.mask->(∀ r,r<n->∃ i',∃ h':i'<t.place.size,t.place[i']=wj t.mask h r)->(∀ i (hi:i<t.place.size),t.place[i]≠wj t.mask h n)->wj t.mask h n<=t.mask->Q (.free (wj t.mask h n) false) s) :
  wpAny (model prog w) A (setSearch a (.ref b) h ad) Q E s:=by
 obtain⟨o,ep,t,h1,h2,h3,T,pl,ld,nf⟩:=S
 unfold setSearch setSearchFrom
 refine wpAny_bind (wpAny_setState_of h1 h3 T.fits ?_)
 dsimp only
 rw[T.gave]
 simp only[Bool.false_eq_true,if_false]
 have sh:∀ i (h:i<es.size),(es[i]?.map (·.1)).getD 0=es[i].1:=fun i h=>by rw[Array.getElem?_eq_getElem h]; rfl
 have key:∀ (f:Nat->Int) (met:SetTable.Met),t.probe f h (t.probeStart h)=some met->(∀ i (h:i<es.size),f i=es[i].1)->∃ n,met=.empty (wj t.mask h n) .none/\Q (.free (wj t.mask h n) false) s:=fun f met em hf=>by
  obtain⟨n,n1,n2,n3,n4,n5⟩:=T.none hf ne
  rw[em] at n2
  exact⟨n,Option.some.inj n2,q o ep t n h1 h2 h3 T pl ld nf n1 n3 n4 n5⟩
 have key2:∀ (f:Nat->Int),(∀ met,t.probe f h (t.probeStart h)=some met->False)->(∀ i (h:i<es.size),f i=es[i].1)->False:=fun f hno hf=>by
  obtain⟨n,n1,n2,n3,n4,n5⟩:=T.none hf ne
  exact hno _ n2
 split
 ·rename_i met em
  obtain⟨n,rfl,hq⟩:=key _ _ em sh
  dsimp only
  exact wpAny_pure hq
 ·rename_i hno
  exact(key2 _ (fun m hm=>hno m hm) sh).elim
theorem find_ok (hu:A.units<cLine) (S:SetE w s.heap a es) (P:EsP prog w s.heap es) (x:IsPair s.heap i j b)
  (inj:∀ n (hn:n<es.size) i' j' c,es[n]=(hashT prog w (kp i' j'),Value.ref c)->IsPair s.heap i' j' c->hashT prog w (kp i' j')=hashT prog w (kp i j)->i'=i/\j'=j)
  {Q:Option Nat->Shared->Prop} (q1:∀ n (hn:n<es.size) c,es[n].2=Value.ref c->IsPair s.heap i j c->Q (some n) s) (q2:(∀ n (hn:n<es.size) c,es[n].2=Value.ref c->¬ IsPair s.heap i j c)->Q none s) :
  wpAny (model prog w) A (setFind a (.ref b) (hashT prog w (kp i j))) Q E s:=by
 have S':=S
 obtain⟨o,ep,t,h1,h2,h3,T,pl,ld,nf⟩:=S'
 unfold setFind setFindIn
 refine wpAny_bind (wpAny_setState_of h1 h3 T.fits ?_)
 dsimp only
 rw[noscan rfl]
 simp only[Bool.false_eq_true,if_false]
 by_cases hx:∃ n,∃ hn:n<es.size,es[n].1=hashT prog w (kp i j)
 ·obtain⟨n,hn,e⟩:=hx
  obtain⟨i',j',c,e4,p4⟩:=P n hn
  obtain⟨rfl,rfl⟩:=inj n hn i' j' c e4 p4 (by rw[<- e,e4])
  refine wpAny_bind (search_there hu S P x hn e4 p4 false fun r hr=>?_)
  rw[hr rfl]
  exact wpAny_pure (q1 n hn c (by rw[e4]) p4)
 ·refine wpAny_bind (search_none S (fun n hn e=>hx ⟨n,hn,e⟩) false fun _ _ _ _ _ _ _ _ _ _ _ _ _ _ _=>?_)
  refine wpAny_pure (q2 fun n hn c e4 p4=>hx ⟨n,hn,?_⟩)
  obtain⟨i',j',c',e5,p5⟩:=P n hn
  rw[e5] at e4
  cases e4
  obtain⟨o1,t1,u1,n1,g1,_,d1⟩:=p4
  obtain⟨o2,t2,u2,n2,g2,_,d2⟩:=p5
  rw[g1] at g2
  cases g2
  rw[d1] at d2
  injection d2 with d3 _
  have:(#[Value.int i t1,Value.int j u1]:Array Value).toList=[Value.int i' t2,Value.int j' u2]:=by rw[d3]
  cases this
  rw[e5]
end
end L2.St
set_option Elab.async false
set_option linter.all false
set_option maxRecDepth 100000
namespace L2.St
open PySem
section
variable {prog:Program}{w:World}{A:Around}{E:Value->Shared->Prop}{s:Shared}{a b c:Addr}{es:Array En2}{i j:Int}
theorem SetE.ty (S:SetE w s.heap a es):s.TypeIs (.ref a) "set":=let ⟨o,_,_,e,c,_⟩:=S; ⟨o,e,c.1⟩
theorem SetE.noDict (S:SetE w s.heap a es):∀ b,Value.ref a=.ref b->∃ ob,s.heap.get? b=some ob/\ob.dict=none:=fun b e=>by
 injection e with e
 subst e
 obtain⟨o,_,_,e,c,_⟩:=S
 exact⟨o,e,c.2.1⟩
def Inj (prog:Program) (w:World) (h:Heap) (es:Array En2) (i j:Int):Prop:=∀ n (hn:n<es.size) i' j' c,es[n]=(hashT prog w (kp i' j'),Value.ref c)->IsPair h i' j' c->hashT prog w (kp i' j')=hashT prog w (kp i j)->i'=i/\j'=j
def In (h:Heap) (es:Array En2) (i j:Int):Prop:=∃ n,∃ hn:n<es.size,∃ c,es[n].2=Value.ref c/\IsPair h i j c
theorem notin_S (hu:A.units+1<cLine) (S:SetE w s.heap a es) (P:EsP prog w s.heap es) (x:IsPair s.heap i j b) (inj:Inj prog w s.heap es i j) {Q:Value->Shared->Prop}
  (q:∀ r tk,(r=true↔In s.heap es i j)->Q (.bool (!r)) { s with toks:=tk }):wpAny (model prog w) A (compareOp .NotIn (.ref b) (.ref a)) Q E s:=by
 have ty:=S.ty
 show wpAny _ _ (do return .bool (!(<- contains (.ref a) (.ref b)))) Q E s
 refine wpAny_bind ?_
 unfold contains
 try with_reducible refine wpAny_holding ?_
 refine wpAny_bind (wpAny_specialOf ty F.slot_set_contains.lookup ?_)
 show wpAny _ _ (if (some (Value.builtin "set.__contains__") == some Value.none)=true then _ else _) _ E s
 rw[if_neg (by rw[beq_builtin_none]; exact Bool.false_ne_true)]
 refine wpAny_bind (wpAny_callSpecialUnlessNone?_slot (name:=Str.ofString "__contains__") ty F.slot_set_contains
  (wpAny_call_entry F.slot_set_contains ty entry_set_contains ?_ (F.args_set_contains_2 _ _)))
 unfold Builtin.«frozenset.__contains__» Builtin.Frozenset.oneOther
 simp only[List.isEmpty_nil,bind_assoc]
 unfold Builtin.Frozenset.addrOf Builtin.Frozenset.withSetAsKey setContains
 refine wpAny_bind (wpAny_pure ?_)
 try dsimp only
 refine wpAny_bind (wpAny_pure ?_)
 try dsimp only
 refine wpAny_bind (wpAny_tryCatch ?_)
 refine wpAny_holding ?_
 refine wpAny_bind ((tupleKind (mixKind prog w)).pyHash hu x.key ?_)
 refine wpAny_bind (find_ok (s:={ s with toks:=s.toks+(tupleKind (mixKind prog w)).draws (kp i j) }) hu S P x inj ?_ ?_)
 ·intro n hn c e p
  refine wpAny_pure ?_
  show wpAny _ _ (ret (Value.bool true)) _ _ _
  exact wpAny_pure ⟨_,rfl,wpAny_truthy_bool (wpAny_pure (q true _ ⟨fun _=>⟨n,hn,c,e,p⟩,fun _=>rfl⟩))⟩
 ·intro no
  refine wpAny_pure ?_
  show wpAny _ _ (ret (Value.bool false)) _ _ _
  exact wpAny_pure ⟨_,rfl,wpAny_truthy_bool (wpAny_pure (q false _ ⟨(fun h=>nomatch h),fun⟨n,hn,c,e,p⟩=>(no n hn c e p).elim⟩))⟩
theorem put_get {h:Heap}{o:Obj}{ep:Nat}{t t':SetTable}{es':Array En2} (ho:h.get? a=some o) (hd:o.data=.set es ep t):(h.update a (Obj.putSet es' t')).get? a=some { o with data:=.set es' (ep+1) t' }:=by
 have:=Heap.get?_update_self (Obj.putSet es' t') ho (by rw[putSet_of es' t' hd]; rfl)
 rw[putSet_of es' t' hd] at this; exact this
theorem setE_store {h:Heap}{o:Obj}{ep:Nat}{t t':SetTable}{es':Array En2} (ho:h.get? a=some o) (hex:o.ExactSet) (hd:o.data=.set es ep t) (T:Tb t' es') (pl:t'.plain=true) (ld:t'.led = !bt w) (nf:es'.size*5<t'.mask*3) :
  (h.update a (Obj.putSet es' t')).get? a=some { o with data:=.set es' (ep+1) t' }/\SetE w (h.update a (Obj.putSet es' t')) a es':=by
 have hg:(h.update a (Obj.putSet es' t')).get? a=some { o with data:=.set es' (ep+1) t' }:=by
  have:=Heap.get?_update_self (Obj.putSet es' t') ho (by rw[putSet_of es' t' hd]; rfl)
  rw[putSet_of es' t' hd] at this; exact this
 exact⟨hg,_,ep+1,t',hg,hex,rfl,T,pl,ld,nf⟩
theorem grow_tab:∀ n,n<128->(5<=n->n<=7->SetTable.sizeAbove (SetTable.grown n)=32)/\(19<=n->n<=31->SetTable.sizeAbove (SetTable.grown n)=128)/\(77<=n->SetTable.sizeAbove (SetTable.grown n)=512):=by decide +kernel
theorem relay_ok {t:SetTable}{es:Array En2} (T:Tb t es) (pl:t.plain=true) (hz:es.size<128) (fu:t.mask*3<=es.size*5):∃ t' od,t.relaid (es.map (·.1)) (SetTable.grown es.size)=some (t',od)/\t'.led=t.led/\t'.plain=true/\Tb t' (od.filterMap (es[·]?))/\(od.filterMap (es[·]?)).toList.Perm es.toList/\(od.filterMap (es[·]?)).size*5<t'.mask*3/\SetTable.sizeAbove (SetTable.grown es.size)<=sizeLine:=by
 have key:∃ m,Msk m/\SetTable.sizeAbove (SetTable.grown es.size) - 1=m/\es.size<=m/\es.size*5<m*3/\SetTable.sizeAbove (SetTable.grown es.size)<=512:=by
  obtain⟨g1,g2,g3⟩:=grow_tab es.size hz
  have lt:=T.lt
  rcases T.m with h | h | h | h
  ·rw[h] at fu lt
   refine⟨31,.inr (.inl rfl),?_,by omega,by omega,?_⟩ <;> rw[g1 (by omega) (by omega)] <;> decide
  ·rw[h] at fu lt
   refine⟨127,.inr (.inr (.inl rfl)),?_,by omega,by omega,?_⟩ <;> rw[g2 (by omega) (by omega)] <;> decide
  ·rw[h] at fu lt
   refine⟨511,.inr (.inr (.inr rfl)),?_,by omega,by omega,?_⟩ <;> rw[g3 (by omega)] <;> decide
  ·rw[h] at fu lt
   omega
 obtain⟨m,hm,em,m1,m2,m3⟩:=key
 obtain⟨t',od,e,e1,e2,e3,T',pm⟩:=laid_ok hm m1 T.dis t.finger (t.movedTo m) t.led t.plain
 have sz:(od.filterMap (es[·]?)).size=es.size:=by rw[<- Array.length_toList,pm.length_eq,Array.length_toList]
 refine⟨t',od,by unfold SetTable.relaid; rw[em]; exact e,e2,e3.trans pl,T',pm,by rw[sz,e1]; exact m2,Nat.le_of_lt (sizeOk (by omega))⟩
theorem ins_perm {α:Type}{xs:Array α}{p:Nat}{x:α} (hp:p<=xs.size):(SetTable.insertAt xs p x).toList.Perm (xs.toList++[x]):=by
 unfold SetTable.insertAt
 rw[Array.toList_append,Array.toList_push,Array.toList_extract,Array.toList_extract,List.extract_eq_take_drop,List.extract_eq_take_drop,List.drop_zero,Nat.sub_zero,append_assoc]
 have e:(xs.toList.drop p).take (xs.size - p)=xs.toList.drop p:=List.take_of_length_le (by rw[List.length_drop,Array.length_toList]; exact Nat.le_refl _)
 rw[e]
 refine(List.Perm.append_left _ List.perm_append_comm).trans ?_
 rw[<- append_assoc,List.take_append_drop]
theorem add_S (hu:A.units+1<cLine) (S:SetE w s.heap a es) (P:EsP prog w s.heap es) (x:IsPair s.heap i j b) (inj:Inj prog w s.heap es i j) (hz:es.size<127) (no:¬ In s.heap es i j) {Q:Value->Shared->Prop}
  (q:∀ h' es' tk,Heap.SameBut a s.heap h'->SetE w h' a es'->es'.toList.Perm (es.toList++[(hashT prog w (kp i j),Value.ref b)])->Q .none { s with heap:=h',toks:=tk }):wpAny (model prog w) A (call (.builtin "set.add") [.ref a,.ref b]) Q E s:=by
 refine wpAny_call_entry F.slot_set_add S.ty F.entry_set_add ?_ (F.args_set_add_2 _ _)
 unfold Builtin.«set.add» Builtin.Frozenset.oneOther
 simp only[List.isEmpty_nil,bind_assoc]
 unfold Builtin.Frozenset.addrOf setAdd
 refine wpAny_bind (wpAny_pure ?_)
 try dsimp only
 refine wpAny_bind (wpAny_pure ?_)
 try dsimp only
 refine wpAny_bind ?_
 refine wpAny_holding ?_
 refine wpAny_bind ((tupleKind (mixKind prog w)).pyHash hu x.key ?_)
 obtain⟨s1,es1⟩:∃ s1,{ s with toks:=s.toks+(tupleKind (mixKind prog w)).draws (kp i j) }=s1:=⟨_,rfl⟩
 have hh:s1.heap=s.heap:=by rw[<- es1]
 rw[es1]
 unfold setAddHashed
 refine wpAny_holding ?_
 have ne:∀ n (hn:n<es.size),es[n].1≠hashT prog w (kp i j):=fun n hn e=>by
  obtain⟨i',j',c,e4,p4⟩:=P n hn
  obtain⟨rfl,rfl⟩:=inj n hn i' j' c e4 p4 (by rw[<- e,e4])
  exact no ⟨n,hn,c,by rw[e4],p4⟩
 have S1:SetE w s1.heap a es:=by rw[hh]; exact S
 have S0:=S1
 obtain⟨o0,ep0,t0,k1,k2,k3,T0,_,_,_⟩:=S0
 unfold setAddHashedIn
 refine wpAny_bind (wpAny_setState_of k1 k3 T0.fits ?_)
 dsimp only
 rw[noscan rfl]
 simp only[Bool.false_eq_true,if_false]
 refine wpAny_bind (search_none S1 ne true fun o ep t n h1 h2 h3 T pl ld nf n1 n2 n3 n4=>?_)
 dsimp only
 refine wpAny_bind (wpAny_setState_of h1 h3 T.fits ?_)
 dsimp only
 have hm:es.size+1<=t.mask:=by rcases T.m with h | h | h | h <;> omega
 obtain⟨p1,T1,l1,pl1⟩:=T.put (x:=.ref b) n1 ne n2 n3 n4 hm
 have x1:IsPair s1.heap i j b:=by rw[hh]; exact x
 obtain⟨t1,p,ept⟩:∃ t1 p,t.put (wj t.mask (hashT prog w (kp i j)) n)=(t1,p):=⟨_,_,rfl⟩
 rw[ept] at p1 T1 l1 pl1 ⊢
 dsimp only at p1 T1 l1 pl1 ⊢
 rw[if_pos (pl1.trans pl)]
 refine wpAny_bind (hbv x1 ?_)
 simp only[if_true,Bool.not_false,Bool.true_and]
 obtain⟨e1,ee1⟩:∃ e1,SetTable.insertAt es p (hashT prog w (kp i j),Value.ref b)=e1:=⟨_,rfl⟩
 have pm:e1.toList.Perm (es.toList++[(hashT prog w (kp i j),Value.ref b)]):=by rw[<- ee1]; exact ins_perm p1
 have z1:e1.size=es.size+1:=by rw[<- Array.length_toList,pm.length_eq,length_append,Array.length_toList]; rfl
 rw[show(tupleKind (mixKind prog w)).hash (kp i j)=hashT prog w (kp i j) from rfl,ee1]
 rw[ee1] at T1
 refine wpAny_bind (wpAny_storeSet_of h1 h3 ?_ (Nat.le_of_lt (sizeOk (by omega))))
 have sb1:=Heap.SameBut.update s1.heap a (Obj.putSet e1 t1)
 have g1:=put_get (es':=e1) (t':=t1) h1 h3
 have fl:t1.fill=e1.size:=by unfold SetTable.fill; rw[T1.d,T1.sz]; rfl
 have fin:∀ h' es' ,Heap.SameBut a s1.heap h'->SetE w h' a es'->es'.toList.Perm e1.toList->Q .none { s1 with heap:=h' }:=fun h' es' hs hS hp=>by
  have:=q h' es' s1.toks (by rw[<- hh]; exact hs) hS (hp.trans pm)
  rw[<- es1] at this ⊢
  exact this
 by_cases tf:t1.tooFull=true
 ·rw[if_pos tf]
  have fu:t1.mask*3<=e1.size*5:=by unfold SetTable.tooFull at tf; rw[fl] at tf; simpa using tf
  obtain⟨t',od,r1,r2,r3,r4,r5,r6,r7⟩:=relay_ok T1 (pl1.trans pl) (by omega) fu
  refine wpAny_bind ?_
  unfold setRelay
  refine wpAny_bind (wpAny_setState_of g1 rfl T1.fits ?_)
  dsimp only
  rw[<- z1,if_neg (Nat.not_lt.mpr r7)]
  rw[r1]
  refine wpAny_bind (show wpAny _ _ (if (od.filterMap (e1[·]?)).size != e1.size then unsupported "internal:set-table-lost-an-element" else pure (od.filterMap (e1[·]?),t')) _ _ _ from ?_)
  have sz:(od.filterMap (e1[·]?)).size=e1.size:=by rw[<- Array.length_toList,r5.length_eq,Array.length_toList]
  rw[sz,if_neg (by simp)]
  refine wpAny_pure ?_
  dsimp only
  refine wpAny_storeSet_of g1 rfl ?_ (by rw[sz]; exact Nat.le_of_lt (sizeOk (by omega)))
  refine wpAny_pure (wpAny_pure ⟨_,rfl,?_⟩)
  exact fin _ _ (sb1.trans (Heap.SameBut.update _ a _)) (setE_store (w:=w) g1 h2 rfl r4 r3 (r2.trans (l1.trans ld)) r6).2 r5
 ·rw[if_neg tf]
  refine wpAny_pure (wpAny_pure ⟨_,rfl,?_⟩)
  have nf1:e1.size*5<t1.mask*3:=by unfold SetTable.tooFull at tf; rw[fl] at tf; simpa using tf
  exact fin _ _ sb1 (setE_store (w:=w) h1 h2 h3 T1 (pl1.trans pl) (l1.trans ld) nf1).2 (List.Perm.refl _)
end
end L2.St
set_option Elab.async false
set_option linter.all false
set_option maxRecDepth 100000
namespace L2.St
open PySem
section
variable {prog:Program}{w:World}{A:Around}{E:Value->Shared->Prop}{s:Shared}{a b c:Addr}{es:Array En2}{i j:Int}
abbrev freshS (w:World):Obj:={ cls:=.type "set",dict:=none,data:=.set #[] 0 (.fresh 0 0 (!bt w)) }
theorem new_code {Q₁:Value->Shared->Prop} (h:Q₁ (.ref s.heap.objs.size) { s with heap:=s.heap.push (freshS w) }):codeAny (model prog w) A (.call (.builtin "set.__new__") ⟨[.type "set"],[]⟩) (wants Q₁ E) s:=by
 refine codeAny_of_tree ?_
 show wpAny _ A.in1 (checkBuiltinCall "set.__new__" ⟨[.type "set"],[]⟩ >>= fun _=>again (.builtin "set.__new__" ⟨[.type "set"],[]⟩)) _ _ s
 refine wpAny_bind (wpAny_of_eq F.newCall_set_0 (wpAny_pure ⟨plainId_quiet F.plain_set_new _,codeAny_builtin F.entry_set_new ?_⟩))
 rw[Around.under_plainId F.plain_set_new _]
 unfold Builtin.«set.__new__» Builtin.Frozenset.newClass newSet setsByText
 have hsub:=sub_set_self
 obtain⟨hp,g,d,tk,os⟩:=s
 dsimp only
 wp_walk
 refine wpAny_askSetting (wpAny_pure ?_)
 exact wpAny_bind (wpAny_alloc (wpAny_pure (wpAny_pure h)))
theorem fresh_S:SetE w (s.heap.push (freshS w)) s.heap.objs.size #[]:=by
 refine⟨_,0,_,Heap.get?_push_size _ rfl,⟨rfl,rfl,rfl⟩,rfl,⟨.inl rfl,rfl,rfl,?_,?_,?_,?_,?_⟩,rfl,rfl,?_⟩
 ·intro i j hj; exact absurd hj (Nat.not_lt_zero _)
 ·intro i hi; exact absurd hi (Nat.not_lt_zero _)
 ·intro i j hi; exact absurd hi (Nat.not_lt_zero _)
 ·intro i hi; exact absurd hi (Nat.not_lt_zero _)
 ·exact Nat.zero_le _
 ·show 0*5<7*3; decide
set_option maxHeartbeats 1000000 in
theorem call_S {Q:Value->Shared->Prop} (q:Q (.ref s.heap.objs.size) { s with heap:=s.heap.push (freshS w) }):wpAny (model prog w) A (call (.type "set") []) Q E s:=by
 have tc:=F.called_set
 obtain⟨c,tl,hmro⟩:=tc.mro
 have hmade:=tc.made
 have hsub:=tc.sub
 have h1:=tc.notType
 have h2:=tc.canCreate
 have hct:=F.typeCall_set_0
 have hS:(s.heap.push (freshS w)).get? s.heap.objs.size=some (freshS w):=Heap.get?_push_size _ rfl
 have hT:Shared.TypeIs { s with heap:=s.heap.push (freshS w) } (.ref s.heap.objs.size) "set":=⟨_,hS,rfl⟩
 refine wpAny_call (codeAny_of_tree ?_)
 show wpAny _ _ (callAny (.type "set") _) _ _ _
 refine wpAny_pure ⟨Code.quiet_builtin _ (by decide +kernel),codeAny_builtin F.entry_type_call ?_⟩
 rw[Around.under_plain (weight_type_call_type "set" [] []) rfl]
 repeat (any_goals (first | assumption | wp_step))
 refine codeAny_mono (new_code (E:=E) (Q₁:=fun obj s₁=>obj=.ref s.heap.objs.size/\s₁={ s with heap:=s.heap.push (freshS w) }) ⟨rfl,rfl⟩) fun r s₁ hr=>?_
 match r,hr with
 | .error e,hr=>exact hr
 | .ok (.ret obj),hr=>
  obtain⟨rfl,rfl⟩:=hr
  have hli:=tc.init.lookup
  have hbi:=tc.init.bind (.ref s.heap.objs.size)
  repeat (any_goals (first | assumption | wp_step))
  refine codeAny_mono (codeAny_call_builtin (R:=wants (fun r s₂=>r=.none/\Q (.ref s.heap.objs.size) s₂) E) tc.init.plain F.entry_set_init (check_set_init hT ?_)) fun r₂ s₂ hr₂=>?_
  ·unfold Builtin.«set.__init__» noKeywords
   wp_walk
   exact⟨rfl,q⟩
  ·match r₂,hr₂ with
   | .error e,hr₂=>exact hr₂
   | .ok (.ret r),hr₂=>
    obtain⟨rfl,hq⟩:=hr₂
    repeat (any_goals (first | assumption | wp_step))
end
end L2.St
set_option Elab.async false
set_option linter.all false
set_option maxRecDepth 100000
namespace L2.St
open PySem
theorem slot_si_next:Slot "set_iterator" "__next__" "set_iterator.__next__" :=
 .of (owner := "set_iterator") (n := "__next__") (by rw[typeLookup_type,builtinLookup_eq_fast]; kernel_rfl) (by decide +kernel) (by decide +kernel) (by decide +kernel)
  (by first | exact .inl (by decide +kernel) | exact .inr (by decide +kernel)) (by rw[isSubtype_type]; kernel_rfl)
theorem slot_si_iter:Slot "set_iterator" "__iter__" "set_iterator.__iter__" :=
 .of (owner := "set_iterator") (n := "__iter__") (by rw[typeLookup_type,builtinLookup_eq_fast]; kernel_rfl) (by decide +kernel) (by decide +kernel) (by decide +kernel)
  (by first | exact .inl (by decide +kernel) | exact .inr (by decide +kernel)) (by rw[isSubtype_type]; kernel_rfl)
theorem entry_si_next:entryFor table "set_iterator.__next__" = some Builtin.«set_iterator.__next__»:=entryFor_of_tree (by kernel_rfl)
theorem entry_set_iter:entryFor table "set.__iter__" = some Builtin.«frozenset.__iter__»:=entryFor_alias (id' := "frozenset.__iter__") (by kernel_rfl) rfl (by decide +kernel) (by kernel_rfl)
theorem owner_si:Manifest.owners.lookup (String.ofList ['r','o','t','a','r','e','t','i','_','t','e','s'].reverse) = some Manifest.sig_set_iterator:=by kernel_rfl
theorem entry_si_iter:entryFor table "set_iterator.__iter__" = some Builtin.«dict_keyiterator.__iter__»:=entryFor_alias (id' := "dict_keyiterator.__iter__") (by kernel_rfl) rfl (by decide +kernel) (by kernel_rfl)
theorem args_si_next (a:Value):argsOk "set_iterator.__next__" ⟨[a],[]⟩:=by
 unfold argsOk; rw [signature?_of (id := "set_iterator.__next__") (n:=['_','_','t','x','e','n','_','_']) (o:=['r','o','t','a','r','e','t','i','_','t','e','s']) (by kernel_rfl) owner_si]; kernel_rfl
theorem args_si_iter (a:Value):argsOk "set_iterator.__iter__" ⟨[a],[]⟩:=by
 unfold argsOk; rw [signature?_of (id := "set_iterator.__iter__") (n:=['_','_','r','e','t','i','_','_']) (o:=['r','o','t','a','r','e','t','i','_','t','e','s']) (by kernel_rfl) owner_si]; kernel_rfl
def ordS (w:World) (a:Addr) (ep:Nat) (es:Array En2):Array En2:=if bt w then pickOrder (w.params.setOrder a ep) es else es
theorem pick_go {α:Type} (nx:Nat->Nat):∀ (n k:Nat) (left:List α) (out:Array α),left.length=n->(pickOrder.go nx n k left out).toList.Perm (out.toList++left)
 | 0,k,left,out,h=>by
  rw[List.length_eq_zero_iff.mp h,append_nil]
  exact .refl _
 | n+1,k,left,out,h=>by
  have hl:nx k % left.length<left.length:=Nat.mod_lt _ (by omega)
  unfold pickOrder.go
  rw[getElem?_eq_getElem hl]
  dsimp only
  refine(pick_go nx n (k+1) _ _ (by rw[List.length_eraseIdx,if_pos hl]; omega)).trans ?_
  rw[Array.toList_push,append_assoc]
  refine List.Perm.append_left _ ?_
  rw[List.eraseIdx_eq_take_drop_succ]
  refine(show(left[nx k % left.length]::(left.take (nx k % left.length)++left.drop (nx k % left.length+1))).Perm left from ?_)
  refine(List.perm_middle (l₁:=left.take (nx k % left.length))).symm.trans ?_
  rw[List.getElem_cons_drop,List.take_append_drop]
theorem ordS_perm (w:World) (a:Addr) (ep:Nat) (es:Array En2):(ordS w a ep es).toList.Perm es.toList:=by
 unfold ordS
 split
 ·exact pick_go _ _ _ _ _ (by rw[Array.length_toList])
 ·exact .refl _
theorem ordS_size (w:World) (a:Addr) (ep:Nat) (es:Array En2):(ordS w a ep es).size=es.size:=by
 have:=(ordS_perm w a ep es).length_eq
 rwa [Array.length_toList,Array.length_toList] at this
theorem below_zero {xs:Array Nat} (hu:Up xs):SetTable.below xs 0=0:=by
 obtain⟨h1,h2,h3⟩:=below_ok hu 0
 rcases Nat.eq_zero_or_pos (SetTable.below xs 0) with h | h
 ·exact h
 ·have:=h2 0 (by omega) h
  omega
theorem below_next {xs:Array Nat} (hu:Up xs) {i:Nat} (hi:i<xs.size):SetTable.below xs (xs[i]+1)=i+1:=by
 obtain⟨h1,h2,h3⟩:=below_ok hu (xs[i]+1)
 rcases Nat.lt_trichotomy (SetTable.below xs (xs[i]+1)) (i+1) with c | c | c
 ·have:=h3 i hi (by omega)
  omega
 ·exact c
 ·have l:i+1<xs.size:=by omega
  have h4:=h2 (i+1) l c
  have h5:=hu i (i+1) l (by omega)
  rw[getD_eq hi] at h5
  omega
end L2.St
set_option Elab.async false
set_option linter.all false
set_option maxRecDepth 100000
namespace L2.St
open PySem
def SetX (w:World) (h:Heap) (a:Addr) (es:Array En2) (ep:Nat) (t:SetTable):Prop:=∃ o,h.get? a=some o/\o.ExactSet/\o.data=.set es ep t/\Tb t es/\t.plain=true/\t.led = !bt w
abbrev itObj (slot i n ep:Nat) (a:Addr):Obj:={ cls:=.type "set_iterator",data:=.fields #[.int slot 0,.int i 0,.ref a,.int n 0,.int ep 0] }
def SetIt (w:World) (h:Heap) (it a:Addr) (es:Array En2) (ep:Nat) (t:SetTable) (i:Nat):Prop:=∃ slot:Nat,h.get? it=some (itObj slot i es.size ep a)/\(bt w=false->SetTable.below t.place slot=i)
section
variable {prog:Program}{w:World}{A:Around}{E:Value->Shared->Prop}{s:Shared}{a it:Addr}{es:Array En2}{ep i:Nat}{t:SetTable}
theorem SetX.to {h h':Heap} (x:SetX w h a es ep t) (k:∀ o,h.get? a=some o->h'.get? a=some o):SetX w h' a es ep t:=let ⟨o,e,r⟩:=x; ⟨o,k o e,r⟩
theorem SetX.ty (x:SetX w s.heap a es ep t):s.TypeIs (.ref a) "set":=let ⟨o,e,c,_⟩:=x; ⟨o,e,c.1⟩
theorem SetIt.to {h h':Heap} (x:SetIt w h it a es ep t i) (k:∀ o,h.get? it=some o->h'.get? it=some o):SetIt w h' it a es ep t i:=let ⟨sl,e,r⟩:=x; ⟨sl,k _ e,r⟩
theorem SetIt.ty (x:SetIt w s.heap it a es ep t i):s.TypeIs (.ref it) "set_iterator":=let ⟨sl,e,_⟩:=x; ⟨_,e,rfl⟩
theorem bt_ok {Q:Bool->Shared->Prop} (q:Q (bt w) s):wpAny (model prog w) A setsByText Q E s:=by
 unfold setsByText
 exact wpAny_bind (wpAny_askSetting (wpAny_pure q))
theorem si_iter (S:SetX w s.heap a es ep t) {Q:Value->Shared->Prop} (q:Q (.ref s.heap.objs.size) { s with heap:=s.heap.push (itObj 0 0 es.size ep a) }):wpAny (model prog w) A (pyIter (.ref a)) Q E s:=by
 have ty:=S.ty
 obtain⟨o,e,c,d,T,pl,ld⟩:=S
 refine wpAny_pyIter_slot ty F.slot_set_iter (wpAny_call_entry F.slot_set_iter ty entry_set_iter ?body (F.args_set_iter_1 _))
 case body=>
  unfold Builtin.«frozenset.__iter__» Builtin.Frozenset.slot0 slotArgs
  simp only[List.isEmpty_nil,Bool.not_true,Bool.false_eq_true,↓reduceIte,bind_assoc,List.length_nil,bne_self_eq_false]
  unfold Builtin.Frozenset.addrOf Builtin.Frozenset.sizeOf
  refine wpAny_bind (wpAny_pure ?_)
  try dsimp only
  refine wpAny_bind (wpAny_pure ?_)
  refine wpAny_bind (wpAny_bind (wpAny_setEntries_of e d T.fits (wpAny_pure ?_)))
  refine wpAny_bind (show wpAny _ _ (setDrawn a) _ _ _ from ?_)
  unfold setDrawn
  refine wpAny_bind (wpAny_setState_of e d T.fits ?_)
  dsimp only
  refine wpAny_bind (bt_ok (wpAny_pure ?_))
  refine wpAny_ite_split (fun h=>?_) (fun _=>?_)
  ·have h2:(!bt w && (!t.plain && decide (es.size > 1)))=true:=h
   rw[pl] at h2
   simp at h2
  refine wpAny_bind (wpAny_pure (wpAny_bind (wpAny_setEpoch_of e d T.fits ?_)))
  refine wpAny_bind (wpAny_newObj_type (wpAny_pure ⟨_,rfl,"set_iterator",_,⟨_,Heap.get?_push_size _ rfl,rfl⟩,slot_si_next.lookup,?_⟩))
  exact q
theorem next_ok (S:SetX w s.heap a es ep t) {slot:Nat} (bl:bt w=false->SetTable.below t.place slot=i) {Q:Option (Value×Nat)->Shared->Prop}
  (q:∀ nx:Nat,(i<es.size->bt w=false->SetTable.below t.place nx=i+1)->Q ((ordS w a ep es)[i]?.map fun e=>(e.2,nx)) s):wpAny (model prog w) A (setNext a slot i ep) Q E s:=by
 obtain⟨o,e,c,d,T,pl,ld⟩:=S
 unfold setNext
 refine wpAny_bind (wpAny_setState_of e d T.fits ?_)
 dsimp only
 refine wpAny_bind (bt_ok ?_)
 cases hb:bt w with
 | true=>
  rw[if_pos rfl,if_neg (by simp)]
  refine wpAny_bind ?_
  unfold setWalk
  refine wpAny_bind (wpAny_setState_of e d T.fits ?_)
  dsimp only
  refine wpAny_bind (bt_ok ?_)
  rw[hb,if_pos rfl]
  refine wpAny_bind (wpAny_askSetting (wpAny_pure (wpAny_pure ?_)))
  have:=q slot fun _ h=>by rw[hb] at h; cases h
  unfold ordS at this
  rw[if_pos hb] at this
  exact this
 | false=>
  rw[if_neg (by simp)]
  refine wpAny_ite_split (fun h=>?_) (fun _=>?_)
  ·have h2:(!t.plain && decide (es.size > 1))=true:=h
   rw[pl] at h2
   simp at h2
  refine wpAny_bind (show wpAny _ _ (if !t.led && !es.isEmpty then unsupported "set:maker-not-led" else pure ()) _ _ _ from ?_)
  rw[ld,hb,if_neg (by simp)]
  refine wpAny_pure ?_
  try dsimp only
  rw[bl hb]
  have eo:ordS w a ep es=es:=by unfold ordS; rw[if_neg (by rw[hb]; simp)]
  by_cases hi:i<es.size
  ·have hp:i<t.place.size:=by rw[T.sz]; exact hi
   have:=q (t.place[i]+1) fun _ _=>below_next T.up hp
   rw[eo,Array.getElem?_eq_getElem hi] at this
   rw[Array.getElem?_eq_getElem hi,Array.getElem?_eq_getElem hp]
   exact wpAny_pure this
  ·have:=q 0 fun h=>absurd h hi
   rw[eo,Array.getElem?_eq_none (by omega)] at this
   rw[Array.getElem?_eq_none (by omega)]
   exact wpAny_pure this
theorem si_item (I:SetIt w s.heap it a es ep t i) (S:SetX w s.heap a es ep t) (hi:i<es.size) {Q:Option Value->Shared->Prop}
  (q:∀ h',SetIt w h' it a es ep t (i+1)->Heap.SameBut it s.heap h'->Q (some ((ordS w a ep es)[i]'(by rw[ordS_size]; exact hi)).2) { s with heap:=h' }):wpAny (model prog w) A (pyNext (.ref it)) Q E s:=by
 have ty:=I.ty
 obtain⟨slot,e1,bl⟩:=I
 obtain⟨o,e,c,d,T,pl,ld⟩:=S
 unfold pyNext
 refine wpAny_bind (wpAny_attempt (wpAny_callSpecial?_slot (name:=Str.ofString "__next__") ty slot_si_next (wpAny_call_entry slot_si_next ty entry_si_next ?body (args_si_next _))))
 case body=>
  unfold Builtin.«set_iterator.__next__» slotArgs
  simp only[List.isEmpty_nil,Bool.not_true,Bool.false_eq_true,↓reduceIte,bind_assoc,List.length_nil,bne_self_eq_false]
  refine wpAny_bind (wpAny_pure ?_)
  dsimp only
  refine wpAny_bind (wpAny_fieldsOf e1 rfl ?_)
  dsimp only
  refine wpAny_bind (wpAny_setEntries_of e d T.fits ?_)
  rw[if_neg (by simp)]
  simp only[Int.toNat_natCast]
  refine wpAny_bind (next_ok ⟨o,e,c,d,T,pl,ld⟩ bl fun nx hnx=>?_)
  have ho:i<(ordS w a ep es).size:=by rw[ordS_size]; exact hi
  rw[Array.getElem?_eq_getElem ho]
  dsimp only[Option.map]
  refine wpAny_bind (wpAny_setField e1 rfl (by simp) ?_)
  obtain⟨h1,eh1⟩:∃ h1,s.heap.update it (Obj.mapFields (·.setIfInBounds 0 (rawInt (nx:Int))))=h1:=⟨_,rfl⟩
  have g1:h1.get? it=some (itObj nx i es.size ep a):=by
   rw[<- eh1]
   exact Heap.get?_update_self _ e1 (by rfl)
  have b1:Heap.SameBut it s.heap h1:=by rw[<- eh1]; exact Heap.SameBut.update ..
  rw[eh1]
  refine wpAny_bind (wpAny_setField g1 rfl (by simp) ?_)
  refine wpAny_pure ⟨_,rfl,wpAny_pure (q _ ⟨nx,?_,hnx hi⟩ (b1.trans (Heap.SameBut.update ..)))⟩
  exact Heap.get?_update_self _ g1 (by rfl)
theorem si_end (hh:A.handled=none) (I:SetIt w s.heap it a es ep t es.size) (S:SetX w s.heap a es ep t) {Q:Option Value->Shared->Prop}
  (q:∀ h',Heap.ExtBut it s.heap h'->Q none { s with heap:=h' }):wpAny (model prog w) A (pyNext (.ref it)) Q E s:=by
 have ty:=I.ty
 obtain⟨slot,e1,bl⟩:=I
 obtain⟨o,e,c,d,T,pl,ld⟩:=S
 unfold pyNext
 refine wpAny_bind (wpAny_attempt (wpAny_callSpecial?_slot (name:=Str.ofString "__next__") ty slot_si_next (wpAny_call_entry slot_si_next ty entry_si_next ?body (args_si_next _))))
 case body=>
  unfold Builtin.«set_iterator.__next__» slotArgs
  simp only[List.isEmpty_nil,Bool.not_true,Bool.false_eq_true,↓reduceIte,bind_assoc,List.length_nil,bne_self_eq_false]
  refine wpAny_bind (wpAny_pure ?_)
  dsimp only
  refine wpAny_bind (wpAny_fieldsOf e1 rfl ?_)
  dsimp only
  refine wpAny_bind (wpAny_setEntries_of e d T.fits ?_)
  rw[if_neg (by simp)]
  simp only[Int.toNat_natCast]
  refine wpAny_bind (next_ok ⟨o,e,c,d,T,pl,ld⟩ bl fun nx hnx=>?_)
  rw[Array.getElem?_eq_none (by rw[ordS_size]; exact Nat.le_refl _)]
  dsimp only[Option.map]
  refine wpAny_bind (wpAny_setField e1 rfl (by simp) ?_)
  refine wpAny_bind ?_
  simp only[newExc,newTuple]
  refine wpAny_bind (wpAny_newObj_type ?_ (by size_fits))
  refine wpAny_bind (m:=firstArgMember _ _) (wpAny_of_eq (a:=Value.none) rfl ?_)
  refine wpAny_newObj_type ?_ (by size_fits)
  simp only[raiseNew]
  refine wpAny_bind (wpAny_handled ?_)
  rw[show A.in1.handled=none from hh]
  refine wpAny_bind (wpAny_pure (wpAny_throw ?_))
  refine wpAny_bind (wpAny_isInstance (T := "StopIteration") (b:=true) ⟨_,Heap.get?_push_size _ rfl,rfl⟩ isSubtype_stop ?_)
  exact wpAny_pure (q _ (((Heap.SameBut.update ..).extBut.push _).push _))
theorem si_self (I:SetIt w s.heap it a es ep t i) {Q:Value->Shared->Prop} (q:Q (.ref it) s):wpAny (model prog w) A (pyIter (.ref it)) Q E s:=by
 refine wpAny_pyIter_slot I.ty slot_si_iter (wpAny_call_entry slot_si_iter I.ty entry_si_iter ?_ (args_si_iter _))
 show wpAny _ _ (ret (.ref it)) _ _ s
 exact wpAny_pure ⟨_,rfl,"set_iterator",_,I.ty,slot_si_next.lookup,q⟩
theorem si_hint (ty:s.TypeIs (.ref a) "set") {Q:Bool->Shared->Prop} (q:Q false s):wpAny (model prog w) A (Builtin.List.listLengthHint (.ref a)) Q E s:=by
 unfold Builtin.List.listLengthHint
 refine wpAny_bind (wpAny_specialOf ty F.slot_set_len.lookup ?_)
 generalize hid:("set.__len__" : String)=id0
 wp_delta
 rw[show splitId id0=some ("set","__len__") from by subst hid; decide +kernel]
 subst hid
 refine wpAny_bind (wpAny_isInstance (T := "set") (b:=true) ty (by rw[isSubtype_type]; kernel_rfl) ?_)
 refine wpAny_ite_split (fun hab=>absurd hab (by decide)) (fun _=>?_)
 refine wpAny_ite_split (fun _=>?_) (fun hab=>absurd (by decide +kernel) hab)
 refine wpAny_bind (wpAny_typeOf ty ?_)
 exact wpAny_pure q
theorem si_walks (hh:A.handled=none) (I a:Addr) (hne:a≠I) (es:Array En2) (ep:Nat) (t:SetTable) :
  Walks prog w A I [I,a] [I] es.size (fun i v=>∃ h:i<(ordS w a ep es).size,v=(ordS w a ep es)[i].2) (fun i h=>SetIt w h I a es ep t i/\SetX w h a es ep t) where
 sub:=fun b hb=>by simp at hb; simp[hb]
 frame:=fun _ _ _ st hk=>⟨st.1.to fun o e=>hk I (by simp) o e,st.2.to fun o e=>hk a (by simp) o e⟩
 item:=fun i s Q E hi st hQ=>si_item st.1 st.2 hi fun h' k1 k2=>hQ _ h' s.toks ⟨by rw[ordS_size]; exact hi,rfl⟩ ⟨k1,st.2.to fun o e=>k2.extBut a o hne e⟩ fun b o hb e=>k2.extBut b o (fun h=>hb (by simp[h])) e
 done:=fun s Q E st hQ=>si_end hh st.1 st.2 fun h' k=>hQ h' s.toks fun b o hb e=>k b o (fun h=>hb (by simp[h])) e
 self:=fun _ _ _ _ st hQ=>si_self st.1 hQ
theorem si_src:PySem.W.KdlSrc prog w "set" a a es.size (fun i v=>∃ h:i<(ordS w a ep es).size,v=(ordS w a ep es)[i].2) (fun h=>SetX w h a es ep t) where
 type:=fun s hm=>hm.ty
 there:=fun _ hm=>let ⟨_,e,_⟩:=hm; ⟨Heap.lt_size e,Heap.lt_size e⟩
 keep:=fun _ _ hm hk=>hm.to fun o e=>hk a (.inl rfl) o e
 notList:=by decide
 notTuple:=by decide
 hint:=fun _ _ _ _ hm hq=>si_hint hm.ty hq
 iter:=fun A s hh hm=>⟨_,_,(fun _ _ hq=>si_iter hm hq),si_walks hh _ a (Nat.ne_of_lt (let ⟨_,e,_⟩:=hm; Heap.lt_size e)) es ep t,⟨⟨0,Heap.get?_push_size _ rfl,fun _=>below_zero (let ⟨_,_,_,_,T,_⟩:=hm; T.up)⟩,hm.to fun o e=>Heap.get?_push_of_some _ e⟩⟩
end
end L2.St
set_option Elab.async false
set_option linter.all false
set_option maxRecDepth 100000
namespace L2.St
open PySem PyProof.Rows
section
variable {prog:Program}{w:World}{A:Around}{E:Value->Shared->Prop}{s:Shared}{a:Addr}{es:Array En2}{ep:Nat}{t:SetTable}
theorem collect_S (hh:A.handled=none) (S:SetX w s.heap a es ep t) (hz:es.size<=sizeLine) {Q:List Value->Shared->Prop}
  (q:∀ h' tk,(∀ b o,s.heap.get? b=some o->h'.get? b=some o)->s.heap.objs.size<=h'.objs.size->Q ((ordS w a ep es).toList.map (·.2)) { s with heap:=h',toks:=tk }):wpAny (model prog w) A (collect (.ref a)) Q E s:=by
 have hlt:a<s.heap.objs.size:=let ⟨_,e,_⟩:=S; Heap.lt_size e
 have hne:s.heap.objs.size≠a:=Nat.ne_of_gt hlt
 unfold collect
 refine wpAny_bind (wpAny_runValue (codeAny_builtin F.entry_proto_collect ?_))
 rw[Around.under_plainId F.plain_proto_collect _]
 show wpAny _ A.in1 (newList [] >>= fun l=>again (.builtin "list.__iadd__" ⟨[l,.ref a],[]⟩)) _ _ s
 refine wpAny_bind (wpAny_newObj_type ?_)
 refine wpAny_pure ⟨plainId_quiet F.plain_list_iadd _,codeAny_builtin F.entry_list_iadd ?_⟩
 rw[Around.under_plainId F.plain_list_iadd _]
 show wpAny _ A.in1 (Builtin.List.listExtendWith (.ref s.heap.objs.size) (.ref a) (.ref s.heap.objs.size)) _ _ _
 let R:Result->Shared->Prop:=fun r s'=>match r with
  | .ok (.ret v)=>wpAny (model prog w) A (match v with
   | .ref a=>do
    match (<- load a).data with
    | .seq xs _=>pure xs.toList
    | _=>unsupported "internal:collect"
   | _=>unsupported "internal:collect") Q E s'
  | .ok _=>False
  | .error e=>E e s'
 refine PySem.W.kdl_extend (R:=R) (s:={ s with heap:=s.heap.push { cls:=.type "list",data:=.seq ([]:List Value).toArray } }) (si_src (es:=es) (ep:=ep) (t:=t)) hh (S.to fun o e=>Heap.get?_push_of_some _ e) s.heap.objs.size hne hne (.ref s.heap.objs.size) 0 (Heap.get?_push_size _ rfl) (fun h' tk acc c k hS hi=>?_) hz
 show wpAny _ A (load s.heap.objs.size >>= _) _ _ _
 refine wpAny_bind (wpAny_load hS ?_)
 refine wpAny_pure ?_
 have e:acc.toList=(ordS w a ep es).toList.map (·.2):=List.ext_getElem? fun i=>by
  rw[getElem?_map,Array.getElem?_toList (xs:=ordS w a ep es)]
  cases h:acc.toList[i]? with
  | none=>
   have:acc.size<=i:=by have:=List.getElem?_eq_none_iff.mp h; rwa [Array.length_toList] at this
   rw[hi.1] at this
   rw[Array.getElem?_eq_none (by rw[ordS_size]; exact this)]
   rfl
  | some v=>
   obtain⟨h1,h2⟩:=hi.2 i v (by simpa using h)
   rw[Array.getElem?_eq_getElem h1,h2]
   rfl
 rw[e]
 refine q h' tk (fun b o hb=>k b o (Nat.ne_of_lt (Heap.lt_size hb)) (Heap.get?_push_of_some _ hb)) ?_
 exact Nat.le_of_lt (Heap.lt_size hS)
theorem sorted_S {A:Around} (hh:A.handled=none) (S:SetX w s.heap a es ep t) (h128:es.size<128) (hv:∀ v ∈ es.toList.map (·.2),So.isP s.heap v) (hd:((es.toList.map (·.2)).map (So.hk s.heap)).Nodup) {Q:Value->Shared->Prop}
  (h:∀ D (out:List Value) c h' tk,s.heap.objs.size<=D->out.Perm (es.toList.map (·.2))->out.Pairwise (fun x y=>So.hk s.heap x<So.hk s.heap y)->(∀ b o,s.heap.get? b=some o->h'.get? b=some o)->h'.get? D=some (seqObj "list" out.toArray c)->Q (.ref D) { s with heap:=h',toks:=tk }) :
  wpAny (model prog w) A (call (.builtin "sorted") [.ref a]) Q E s:=by
 have po:=(ordS_perm w a ep es).map (·.2)
 obtain⟨vs,evs⟩:∃ vs,(ordS w a ep es).toList.map (·.2)=vs:=⟨_,rfl⟩
 rw[evs] at po
 have hv':∀ v ∈ vs,So.isP s.heap v:=fun v m=>hv v (po.mem_iff.mp m)
 have hd':(vs.map (So.hk s.heap)).Nodup:=(po.map _).nodup_iff.mpr hd
 have hz':vs.length<128:=by rw[po.length_eq,length_map,Array.length_toList]; exact h128
 refine Calls.call_function_entry kind_sorted plain_sorted entry_sorted (args_sorted1 _) ?_
 unfold Builtin.«sorted»
 refine wpAny_bind (m:=checkCount "sorted" 1 1 _) (wpAny_pure ?_)
 refine wpAny_bind (collect_S (A:=A.in1) hh S (Nat.le_of_lt (sizeOk (by omega))) fun h2 tk kp2 big=>?_)
 rw[evs]
 refine wpAny_bind (wpAny_newList ?_ (Nat.le_of_lt (sizeOk (by omega))))
 have hoL:(h2.push (seqObj "list" vs.toArray 0)).get? h2.objs.size=some (seqObj "list" vs.toArray 0):=Heap.get?_push_size _ rfl
 have na:∀ v,So.isP s.heap v->v≠.ref h2.objs.size:=fun v hv e=>by
  obtain⟨b,o,i,j,t,u,n,rfl,e1,_⟩:=hv
  cases e
  exact absurd (Nat.lt_of_lt_of_le (Heap.lt_size e1) big) (Nat.lt_irrefl _)
 have kp3:∀ {h':Heap},(∀ b o,b≠h2.objs.size->(h2.push (seqObj "list" vs.toArray 0)).get? b=some o->h'.get? b=some o)->∀ b o,b≠h2.objs.size->s.heap.get? b=some o->h'.get? b=some o:=fun k b o hb e=>k b o hb (Heap.get?_push_of_some _ (kp2 b o e))
 refine wpAny_bind (wpAny_holding (wpAny_call_entry slot_list_sort ⟨_,hoL,rfl⟩ entry_list_sort (So.lsort (s:={ s with heap:=h2.push (seqObj "list" vs.toArray 0),toks:=tk }) (κ:=tuples' true) (g:=fun p=>So.hk s.heap p.1) (U:=fun p=>So.isP s.heap p.1) hoL hz' (fun h' kp h2 Q' hq=>So.kind_pairs na (kp3 kp) hv' h2 hq) (fun h' kp=>So.cmp_pairs na h' (kp3 kp)) hv' hd' fun out c h' hp ho kp e=>⟨_,rfl,?_⟩) (args_list_sort _)))
 exact wpAny_pure ⟨_,rfl,h _ out c h' _ big (hp.trans po) ho (fun b o e'=>kp3 kp b o (fun q=>by subst q; exact absurd (Nat.lt_of_lt_of_le (Heap.lt_size e') big) (Nat.lt_irrefl _)) e') e⟩
end
end L2.St
set_option Elab.async false
set_option linter.all false
set_option maxRecDepth 100000
namespace L2
open PySem PySem.Spec PyProof.Rows
def SetP (P:Program) (w:World) (a:Addr) (ps:List Pr) (h:Heap):Prop:=∃ es:Array St.En2,St.SetE w h a es/\es.toList.Perm (ps.map fun z=>(hashT P w (St.kp z.2.1 z.2.2),Value.ref z.1))
theorem SetP.ok {P:Program}{w:World}{a:Addr}{ps:List Pr}{h:Heap}{H:Hp} (x:SetP P w a ps h):ObjOk P w H h a (.ext (SetP P w a ps)):=by
 refine⟨x,?_,fun h1 h2 y k=>?_⟩
 ·obtain⟨_,⟨o,_,_,e,_⟩,_⟩:=x
  exact⟨o,e⟩
 ·obtain⟨es,⟨o,ep,t,e,r⟩,pm⟩:=y
  exact⟨es,⟨o,ep,t,k o e,r⟩,pm⟩
theorem isPair_inj {h:Heap}{i j i' j':Int}{a:Addr} (x:St.IsPair h i j a) (y:St.IsPair h i' j' a):(i,j)=(i',j'):=by
 obtain⟨o,t,u,n,e,_,d⟩:=x
 obtain⟨o',t',u',n',e',_,d'⟩:=y
 rw[e] at e'
 cases e'
 rw[d] at d'
 injection d' with d1 _
 have:(#[Value.int i t,Value.int j u]:Array Value).toList=[Value.int i' t',Value.int j' u']:=by rw[d1]
 cases this
 rfl
section
variable {X:Cx}
theorem pair_of {pins}{s:Shared}{σ:St}{H:Hp} (I:Inv X pins σ H s) {a:Addr}{i j:Int} (h:SqT X.K H a [.int i,.int j]):St.IsPair s.heap i j a:=by
 obtain⟨its,rv,⟨o,ho,hc,n,hd⟩,_⟩:=I.tuple h
 cases rv with
 | cons h1 r1=>
  cases r1 with
  | cons h2 r2=>
   cases r2
   obtain⟨t,rfl⟩:=h1
   obtain⟨u,rfl⟩:=h2
   exact⟨o,t,u,n,ho,hc,hd⟩
theorem ent_of {pins}{s:Shared}{σ:St}{H:Hp} (I:Inv X pins σ H s) {ps:List Pr} (hp:∀ z ∈ ps,SqT X.K H z.1 [.int z.2.1,.int z.2.2]) {es:Array St.En2} (pm:es.toList.Perm (ps.map fun z=>(hashT X.prog X.w (St.kp z.2.1 z.2.2),Value.ref z.1))) :
  St.EsP X.prog X.w s.heap es/\(∀ i j,St.In s.heap es i j↔∃ z ∈ ps,z.2=(i,j))/\∀ i j,(∀ z ∈ ps,hashT X.prog X.w (St.kp z.2.1 z.2.2)=hashT X.prog X.w (St.kp i j)->z.2=(i,j))->St.Inj X.prog X.w s.heap es i j:=by
 have get:∀ (n:Nat) (hn:n<es.size),∃ z ∈ ps,es[n]=(hashT X.prog X.w (St.kp z.2.1 z.2.2),Value.ref z.1):=fun n hn=>by
  have:=pm.mem_iff.mp (Array.mem_toList_iff.mpr (Array.getElem_mem hn))
  obtain⟨z,hz,e⟩:=mem_map.mp this
  exact⟨z,hz,e.symm⟩
 refine⟨fun n hn=>?_,fun i j=>⟨?_,?_⟩,fun i j hi n hn i' j' c e p eh=>?_⟩
 ·obtain⟨z,hz,e⟩:=get n hn
  exact⟨_,_,_,e,pair_of I (hp z hz)⟩
 ·rintro⟨n,hn,c,e,p⟩
  obtain⟨z,hz,e2⟩:=get n hn
  rw[e2] at e
  cases e
  exact⟨z,hz,isPair_inj (pair_of I (hp z hz)) p⟩
 ·rintro⟨z,hz,e⟩
  have:=pm.mem_iff.mpr (mem_map.mpr ⟨z,hz,rfl⟩)
  obtain⟨n,hn,e2⟩:=Array.mem_iff_getElem.mp (Array.mem_toList_iff.mp this)
  have p:=pair_of I (hp z hz)
  rw[e] at p
  exact⟨n,hn,z.1,by rw[e2],p⟩
 ·obtain⟨z,hz,e2⟩:=get n hn
  rw[e] at e2
  injection e2 with e3 e4
  cases e4
  have p2:=isPair_inj (pair_of I (hp z hz)) p
  have:=hi z hz (by rw[<- e3]; exact eh)
  rw[show z.2=(z.2.1,z.2.2) from rfl,p2] at this
  cases this
  exact⟨rfl,rfl⟩
theorem call_setS:CallR X (.type "set") (fun xs H Q=>xs=[]/\∀ l,H l=none->Q (.ref l) (upd H l (.ext (SetP X.prog X.w l [])))):=by
 intro pins s σ H xs us Q I r h
 obtain⟨rfl,q⟩:=h
 cases r
 refine St.call_S ⟨.ref s.heap.objs.size,_,I.laid (t':=s.toks) (fun b o e=>Heap.get?_push_of_some _ e) (Nat.le_refl _) (SetP.ok ⟨#[],St.fresh_S,.refl _⟩),rfl,q _ (I.hok.fresh (Nat.le_refl _))⟩
theorem op_notInS (hu:X.A.units+1<cLine):OpR X (compareOp .NotIn) (fun x y H Q=>∃ (b a:Addr) (ps:List Pr) (i j:Int),x=.ref b/\y=.ref a/\H a=some (.ext (SetP X.prog X.w a ps))/\SqT X.K H b [.int i,.int j]/\(∀ z ∈ ps,SqT X.K H z.1 [.int z.2.1,.int z.2.2]) /\
  (∀ z ∈ ps,hashT X.prog X.w (St.kp z.2.1 z.2.2)=hashT X.prog X.w (St.kp i j)->z.2=(i,j))/\Q (.bl (!(ps.any fun z=>decide (z.2=(i,j))))) H):=by
 intro pins s σ H x y v u Q I rx ry h
 obtain⟨b,a,ps,i,j,rfl,rfl,ha,hb,hp,hi,q⟩:=h
 cases (show v=Value.ref b from rx)
 cases (show u=Value.ref a from ry)
 obtain⟨⟨es,S,pm⟩,_,_⟩:=(show ObjOk X.prog X.w H s.heap a (.ext (SetP X.prog X.w a ps)) from I.hok a _ ha)
 obtain⟨EP,ei,ej⟩:=ent_of I hp pm
 refine St.notin_S hu S EP (pair_of I hb) (ej i j hi) fun r tk hr=>⟨.bl (!r),H,I.tok _,rfl,?_⟩
 have e:r=ps.any fun z=>decide (z.2=(i,j)):=by
  rw[Bool.eq_iff_iff,hr,ei,List.any_eq_true]
  exact⟨fun⟨z,hz,e⟩=>⟨z,hz,decide_eq_true e⟩,fun⟨z,hz,e⟩=>⟨z,hz,of_decide_eq_true e⟩⟩
 rw[e]
 exact q
def rAddS (X:Cx):V->List V->Hp->VK->Prop:=fun x vs H Q=>∃ (a b:Addr) (ps:List Pr) (i j:Int),x=.ref a/\vs=[.ref b]/\H a=some (.ext (SetP X.prog X.w a ps))/\SqT X.K H b [.int i,.int j]/\(∀ z ∈ ps,SqT X.K H z.1 [.int z.2.1,.int z.2.2]) /\
  (∀ z ∈ ps,hashT X.prog X.w (St.kp z.2.1 z.2.2)≠hashT X.prog X.w (St.kp i j))/\ps.length<127/\Q .non (upd H a (.ext (SetP X.prog X.w a (ps++[(b,i,j)]))))
theorem mt_addS (hu:X.A.units+1<cLine):MtR X "set.add" (rAddS X):=by
 intro pins s σ H x vs v us Q I rx rv h
 obtain⟨a,b,ps,i,j,rfl,rfl,ha,hb,hp,hi,hl,q⟩:=h
 cases (show v=Value.ref a from rx)
 obtain⟨u,rfl,ru⟩:=rv.one
 cases (show u=Value.ref b from ru)
 obtain⟨⟨es,S,pm⟩,_,_⟩:=(show ObjOk X.prog X.w H s.heap a (.ext (SetP X.prog X.w a ps)) from I.hok a _ ha)
 obtain⟨EP,ei,ej⟩:=ent_of I hp pm
 have sz:es.size=ps.length:=by rw[<- Array.length_toList,pm.length_eq,length_map]
 refine St.add_S hu S EP (pair_of I hb) (ej i j fun z hz e=>absurd e (hi z hz)) (by omega) (fun hin=>?_) fun h' es' tk sb S' pm'=>⟨.non,_,?_,rfl,q⟩
 ·obtain⟨z,hz,e⟩:=(ei i j).mp hin
  exact hi z hz (by rw[e])
 ·have ok:SetP X.prog X.w a (ps++[(b,i,j)]) h':=⟨es',S',pm'.trans (by rw[map_append]; exact pm.append_right _)⟩
  refine d_write I (by rw[ha]; trivial) sb ?_ ok.ok
  obtain⟨o,_,_,e,_⟩:=S'
  exact⟨o,e⟩
theorem call_sortedS (hc:X.calm=true):CallR X (.builtin "sorted") (fun xs H Q=>∃ a ps,xs=[.ref a]/\H a=some (.ext (SetP X.prog X.w a ps))/\PrOk X.K H ps/\∀ l qs,H l=none->qs.Perm ps->qs.Pairwise PrLt->Q (.ref l) (upd H l (.lst (prV qs)))):=by
 intro pins s σ H xs us Q I r h
 obtain⟨a,ps,rfl,ha,ok,q⟩:=h
 obtain⟨u,rfl,ru⟩:=vals1 r
 cases (show u=Value.ref a from ru)
 obtain⟨⟨es,S,pm⟩,_,_⟩:=(show ObjOk X.prog X.w H s.heap a (.ext (SetP X.prog X.w a ps)) from I.hok a _ ha)
 have sz:es.size=ps.length:=by rw[<- Array.length_toList,pm.length_eq,length_map]
 have pm2:(es.toList.map (·.2)).Perm (ps.map fun z=>Value.ref z.1):=by
  have:=pm.map (·.2)
  rw[map_map] at this
  exact this
 obtain⟨o,ep,t,e,c,d,T,pl,ld,nf⟩:=S
 refine St.sorted_S (I.ok.hd hc) ⟨o,e,c,d,T,pl,ld⟩ (by have:=ok.l; omega) (fun v hv=>?_) ((pm2.map _).nodup_iff.mpr (pr_nodup I ok)) fun D out cc h' tk hD hp ho kp eD=>?_
 ·obtain⟨z,hz,rfl⟩:=mem_map.mp (pm2.mem_iff.mp hv)
  exact(pr_isP I ok z hz).1
 obtain⟨qs,hq1,rfl⟩:=So.perm_lift _ (hp.trans pm2) ps rfl
 refine⟨.ref D,_,I.laid (t':=tk) kp hD (show ObjOk X.prog X.w _ h' _ (.lst (prV qs)) from⟨?_,_,cc,?_,eD⟩),rfl,q D qs (I.hok.fresh hD) hq1 ?_⟩
 ·unfold prV
  rw[length_map,hq1.length_eq]
  exact Nat.le_of_lt (sizeOk (by have:=ok.l; omega))
 ·unfold prV
  have:∀ l:List Pr,Vals (l.map fun z=>V.ref z.1) (l.map fun z=>Value.ref z.1):=fun l=>by
   induction l with
   | nil=>exact .nil
   | cons a l ih=>exact .cons rfl ih
  exact this qs
 ·rw[List.pairwise_map] at ho
  refine List.Pairwise.imp_of_mem ?_ ho
  intro x y hx hy hlt
  rw[(pr_isP I ok x (hq1.mem_iff.mp hx)).2,(pr_isP I ok y (hq1.mem_iff.mp hy)).2] at hlt
  exact hlt
def tBMS (X:Cx) (r:V->List V->Hp->VK->Prop) (to:TE) (t:TA):TE:=fun σ H Q=>to σ H fun x H1=>(∃ a ps,x=V.ref a/\H1 a=some (.ext (SetP X.prog X.w a ps)))/\t σ H1 fun xs H2=>r x xs H2 Q
theorem pe_bmS {o e:Expr}{es:List Expr}{to:TE}{t:TA}{name:Str}{apos cpos:Pos}{id:String}{r:V->List V->Hp->VK->Prop} (slot:Slot "set" name id) (hty:typeOf (.builtin id)=pure (.type "method_descriptor")) (hm:MtR X id r) (ho:PE X o to) (ha:PA X (e::es) t)
  (hbase:attributeBase o name X.env (eval o X.env)=eval o X.env:=by rfl)
  (hfew:((backTo cpos (starEach (e::es) X.env)).all (fun x=>!x.1) && (backToKw cpos (keywordEach [] X.env)).all (fun x=>x.1.isSome)
   && decide ((e::es).length+([]:List Keyword).length+(if ([]:List Keyword).isEmpty then 0 else 1)<30))=true:=by rfl)
  (hline:(apos.endLine == cpos.line)=true:=by rfl) (hs:starEach (e::es) X.env=(false,eval e X.env)::starEach es X.env:=by rfl) (hplain:(backTo cpos (starEach es X.env)).any (·.1)=false:=by rfl) :
  PE X (.Call (.Attribute o name apos) (e::es) [] cpos) (tBMS X r to t):=by
 intro pins s σ H Q I h
 refine wpAny_Call_method_late hbase hfew hline rfl (thn (ho pins s σ H _ I h) fun v s1 ⟨x,H1,I1,r1,ty,q1⟩=>?_)
 obtain⟨a,ps,rfl,hH⟩:=ty
 cases (show v=Value.ref a from r1)
 obtain⟨⟨es,S,_⟩,_,_⟩:=(show ObjOk X.prog X.w H1 s1.heap a (.ext (SetP X.prog X.w a ps)) from I1.hok a _ hH)
 refine⟨"set",id,PySem.F.plainAttrs_set,slot,hty,S.ty,S.noDict,?_⟩
 have hA:=ha cpos pins s1 σ H1 _ I1 q1
 rw[hs] at hA ⊢
 refine Calls.callWith_builtin (by show (false || (backTo cpos (starEach _ X.env)).any (·.1)) = false; rw [hplain] <;> rfl) (Calls.evalArgs_plain ?_)
 exact thn hA fun us s2 ⟨vs,H2,I2,r2,q2⟩=>hm pins s2 σ H2 (V.ref a) vs _ us Q I2 rfl r2 q2
end
end L2
set_option Elab.async false
set_option linter.all false
set_option maxRecDepth 100000
namespace L2
open PySem PySem.Spec PyProof.Rows
section
variable {X:Cx}{pins:List (Addr×Obj)}{σ:St}{H:Hp}{s:Shared}{a:Addr}{kvs:List (Key×V)}{k:Key}{u r:Value}{z:V}{A:Around}{E:Value->Shared->Prop}
theorem d_setdef {Q:Value->Shared->Prop} (I:Inv X pins σ H s) (e:H a=some (.dK kvs)) (ry:RelV (kV k) u) (rz:RelV z r) (hl:kvs.length<sizeLine) (h1:∀ v,valV kvs k=some v->∀ w' s',Inv X pins σ H s'->RelV v w'->Q w' s')
  (h2:valV kvs k=none->∀ s',Inv X pins σ (upd H a (.dK (putK kvs k z))) s'->Q r s'):wpAny (model X.prog X.w) A (call (.builtin "dict.setdefault") [.ref a,u,r]) Q E s:=by
 obtain⟨zz,hd,vs,rel,dd⟩:=dk_of I.hok e
 refine call_meetsIn PySem.F.slot_dict_setdefault dd.typeIs PySem.F.entry_dict_setdefault (PySem.F.args_dict_setdefault_3 _ _ _) (kt_meets_setdefault (mixKind X.prog X.w) a (kV_is ry) hd r) ⟨vs,dd,by rw[<- rel.length]; exact zz,fun v hv=>?_,fun hn h' dd' hs=>?_⟩
 ·have q:=rel.val k
  rw[hv] at q
  cases e2:valV kvs k with
  | none=>rw[e2] at q; exact(show False from q).elim
  | some x=>rw[e2] at q; exact h1 x e2 v _ (I.tok _) q
 ·have q:=rel.val k
  rw[hn] at q
  cases e2:valV kvs k with
  | some x=>rw[e2] at q; exact(show False from q).elim
  | none=>
   have he:∃ q,h'.get? a=some q:=let ⟨q,_,_,hq,_⟩:=dd'; ⟨q,hq⟩
   exact h2 e2 _ (d_write I (by rw[e]; exact True.intro) hs he (dk_new (by have:=length_putK kvs k z; omega) hd (rel.put k rz) dd'))
end
def tDSet (td ty tx:TE):TE:=fun σ H Q=>td σ H fun x H1=>∃ a,x=.ref a/\IsD H1 a/\ty σ H1 fun y H2=>tx σ H2 fun z H3=>∃ kvs k,H3 a=some (.dK kvs)/\y=kV k/\kvs.length<sizeLine /\
 (∀ v,valV kvs k=some v->Q v H3)/\(valV kvs k=none->Q z (upd H3 a (.dK (putK kvs k z))))
theorem pe_dset {X:Cx}{o e f:Expr}{apos cpos:Pos}{td ty tx:TE} (ho:PE X o td) (he:PE X e ty) (hf:PE X f tx) (m:M2 X o "setdefault" apos e f cpos):PE X (.Call (.Attribute o "setdefault" apos) [e,f] [] cpos) (tDSet td ty tx):=by
 intro pins s σ H Q I h
 refine wpAny_Call_method m.base m.few m.line PySem.F.plainAttrs_dict PySem.F.slot_dict_setdefault PySem.F.type_dict_setdefault (thn (ho pins s σ H _ I h) fun u s1 ⟨x,H1,I1,rx,a,ex,d,q1⟩=>?_)
 subst ex
 obtain rfl:u=Value.ref a:=rx
 obtain⟨t1,t2,_⟩:=isD_at I1 d
 refine⟨t1,t2,?_⟩
 rw[m.trees]
 refine Calls.callWith_builtin rfl (Calls.evalArgs_plain (Calls.spliced_cons (thn (he pins s1 σ H1 _ I1 q1) fun iv s2 ⟨y,H2,I2,ry,q2⟩=>
  Calls.spliced_cons (thn (hf pins s2 σ H2 _ I2 q2) fun fv s3 ⟨z,H3,I3,rz,kvs,k,e3,ey,hl,qa,qb⟩=>Calls.spliced_nil ?_))))
 subst ey
 exact d_setdef I3 e3 ry rz hl (fun v hv w' s4 I4 rw'=>⟨_,H3,I4,rw',qa v hv⟩) (fun hn s4 I4=>⟨_,_,I4,rz,qb hn⟩)
theorem compLoop_goD {prog:Program}{w:World}{A:Around}{R:Result->Shared->Prop}{s:Shared}{kx vx target iter:Expr}{ifs:List Expr}{scope:Scope}{pos:Pos}{it:Value}{D:Addr}{env:Env} (I:Nat->Shared->Prop)
  (turn:∀ n s,I n s->wpAny (model prog w) A (pyNext it) (fun r s₁=>match r with
   | none=>R (.ok .next) s₁
   | some v=>wpAny (model prog w) A (letOwnedTupleGo target it v) (fun _ s₀=>wpAny (model prog w) A (assign target env v) (fun _ s₂=>
     wpAny (model prog w) A (forIn ifs true fun c r=>if r=true then do let ok <- isTrue c env (eval c env); pure (ForInStep.yield ok) else pure (ForInStep.yield r)) (fun ok s₃=>
      if ok=true then wpAny (model prog w) A (eval kx env) (fun x s₄=>wpAny (model prog w) A (eval vx env) (fun y s₅=>
       wpAny (model prog w) A (dictSet D x y) (fun _ s₆=>∃ m,m<n/\I m s₆) (fun _ _=>False) s₅) (fun _ _=>False) s₄) (fun _ _=>False) s₃
      else ∃ m,m<n/\I m s₃) (fun _ _=>False) s₂) (fun _ _=>False) s₀) (fun _ _=>False) s₁) (fun _ _=>False) s)
  (n:Nat) (h:I n s) :
  codeAny (model prog w) A (.compLoop (.DictComp kx vx [⟨target,iter,ifs,0⟩] scope pos) 0 it (.ref D) env) R s:=by
 have no:∀ {α:Type}{t:Sem α}{Q:α->Shared->Prop}{s:Shared}{E:Value->Shared->Prop},wpAny (model prog w) A t Q (fun _ _=>False) s->wpAny (model prog w) A t Q E s:=fun h=>wpAny_mono h (fun _ _ q=>q) fun _ _ z=>False.elim z
 refine codeAny_loop rfl I (fun n s hI=>?_) n h
 show wpAny _ A ((compTurn (.DictComp kx vx [⟨target,iter,ifs,0⟩] scope pos) 0 it (.ref D) env).onRaise (fun x=>do noteFrame x env; theTreesLotGoes x)) _ _ s
 refine wpAny_noted ?_
 rw[compTurn_dict]
 refine wpAny_bind (wpAny_standAt (wpAny_bind (wpAny_mono (no (turn n s hI)) (fun r s₁ h₁=>?_) fun _ _ h'=>h')))
 cases r with
 | none=>exact wpAny_pure h₁
 | some v=>
  refine wpAny_bind (wpAny_mono (no h₁) (fun _ s₀ h₀=>?_) fun _ _ h'=>h')
  refine wpAny_bind (wpAny_mono (no h₀) (fun _ s₂ h₂=>wpAny_bind (wpAny_mono (no h₂) (fun ok s₃ h₃=>?_) fun _ _ h'=>h')) fun _ _ h'=>h')
  cases ok with
  | false=>exact wpAny_pure ⟨rfl,h₃⟩
  | true=>
   exact wpAny_bind (wpAny_bind (wpAny_mono (no h₃) (fun kv s₄ h₄=>wpAny_bind (wpAny_holding (wpAny_mono (no h₄) (fun vv s₅ h₅=>wpAny_bind (wpAny_standAt (wpAny_holding (wpAny_mono (no h₅) (fun _ s₆ h₆=>wpAny_pure ⟨rfl,h₆⟩) fun _ _ h'=>h')))) fun _ _ h'=>h'))) fun _ _ h'=>h'))
def tDC (wi:TI) (k:Nat) (g:TG) (tc:TT) (tk te:TE):TE:=fun σ H Q=>wi σ H fun J H1=>∀ D,H1 D=none->∃ W:Nat->Nat->List (Key×V)->Hp->Prop,(∃ m,W 0 m [] (upd H1 D (.dK [])))/\∀ i m ys H,W i m ys H->H D=some (.dK ys) /\
 ((J.stop i H/\Q (.ref D) H)∨(J.go i H/\∀ x H',J.yld i H x H'->g x (List.replicate k none++σ) H' fun σ2 H2=>σ2.drop k=σ/\tc σ2 H2 fun b H3=>
  if b=true then tk σ2 H3 fun x H4=>te σ2 H4 fun y H5=>∃ kk:Key,x=kV kk/\ys.length<sizeLine/\H5 D=some (.dK ys)/\∃ m',m'<m/\W (i+1) m' (putK ys kk y) (upd H5 D (.dK (putK ys kk y))) else ∃ m',m'<m/\W (i+1) m' ys H3))
section
variable {X:Cx}
theorem pe_dc {kx vx tg iter:Expr}{ifs:List Expr}{scope:Scope}{pos:Pos}{wi:TI}{k:Nat}{g:TG}{tc:TT}{tk te:TE} (N':List Str) (hc:X.calm=true) (hi:PI X tg iter wi)
  (hg:∀ C s₀ H₀ fp pins,PG (blk X scope N' C s₀ H₀ fp pins) tg g) (ht:∀ C s₀ H₀ fp pins,PTs (blk X scope N' C s₀ H₀ fp pins) ifs tc) (hk2:∀ C s₀ H₀ fp pins,PE (blk X scope N' C s₀ H₀ fp pins) kx tk) (he:∀ C s₀ H₀ fp pins,PE (blk X scope N' C s₀ H₀ fp pins) vx te)
  (hk:scope.kind=.function) (hcell:∀ y ∈ scope.names,y.2≠.cell) (hnames:∀ y ∈ scope.names,y.2=.local->scope.names.lookup y.1=some .local)
  {esc:Scope} (hsc:X.env.scope=esc) (hfr':∀ y ∈ scope.names,y.2=.free->esc.names.lookup y.1=some .cell∨esc.names.lookup y.1=some .free)
  (hlen:N'.length=k+X.N.length)
  (hN:∀ (i:Nat) (x:Str),N'[i+k]?=some x->(x,NameKind.free) ∈ scope.names->X.N[i]?=some x)
  (hN2:∀ x ∈ N'.drop k,scope.names.lookup x≠some .local)
  (hs:∀ x,foldedSetIterable iter X.env x=pure x:=by intro _; rfl) :
  PE X (.DictComp kx vx [⟨tg,iter,ifs,0⟩] scope pos) (tDC wi k g tc tk te):=by
 intro pins s σ H Q I h
 have hfr:∀ y ∈ scope.names,y.2=.free->X.env.kindOf y.1=some .cell∨X.env.kindOf y.1=some .free:=fun y hy hf=>by
  show X.env.scope.names.lookup y.1=_∨X.env.scope.names.lookup y.1=_
  rw[hsc]; exact hfr' y hy hf
 have hcells:∀ y ∈ scope.names,y.2=.free->∃ c,X.env.cells.lookup y.1=some c:=fun y hy hf=>I.ok.has y.1 (hfr y hy hf)
 have hclos:=closure_eq scope X.env hcells
 rw[arm_eval_DictComp]
 refine wpAny_comprehension_free (use:=none) rfl hs hclos hk hnames (thn (hi pins s σ H _ I h) fun v s1 h1=>thn h1 fun itv s2 h2=>?_)
 obtain⟨it,fp,tn,J,H2,e,I2,T,st2,f2,R⟩:=h2
 subst e
 refine wpAny_newObj_type ?_
 have hD:H2 s2.heap.objs.size=none:=I2.hok.fresh (Nat.le_refl _)
 obtain⟨W,⟨m0,w0⟩,turn⟩:=R _ hD
 generalize eD:s2.heap.objs.size=D at *
 have I3:Inv X pins σ (upd H2 D (.dK [])) { s2 with heap:=s2.heap.push { cls:=.type "dict",dict:=none,data:=.dict #[] } } :=
  I2.laid (a:=D) (o:=.dK []) (t':=s2.toks) (fun b u e=>Heap.get?_push_of_some _ e) (Nat.le_of_eq eD) (by rw[<- eD]; exact dk_empty s2.heap I2.big)
 generalize e3:({ s2 with heap:=s2.heap.push { cls:=.type "dict",dict:=none,data:=.dict #[] } }:Shared)=s3 at *
 have st3:tn 0 s3.heap:=T.keep _ _ _ st2 fun b _ o e=>by rw[<- e3]; exact Heap.get?_push_of_some _ e
 have lt2:∀ b ∈ fp,b<s2.heap.objs.size:=fun b hb=>by
  obtain⟨o,e,_⟩:=T.obj _ _ st2 b hb
  exact Heap.lt_size e
 have neD:∀ b ∈ fp,b≠D:=fun b hb=>by
  have:=lt2 b hb
  rw[eD] at this
  exact Nat.ne_of_lt this
 have f3:∀ b ∈ fp,FpOk X pins (upd H2 D (.dK [])) b:=fun b hb=>⟨by rw[upd_ne (neD b hb)]; exact(f2 b hb).1,(f2 b hb).2⟩
 generalize upd H2 D (.dK [])=H3 at *
 refine wpAny_newFunctionEnv hcell (by intro y hy; simp at hy) (fun h₁ hns₁ hsb₁=>?_) hk
 try dsimp only at hns₁ hsb₁ ⊢
 have lt3:∀ b ∈ fp,b<s3.heap.objs.size:=fun b hb=>by
  obtain⟨o,e,_⟩:=T.obj _ _ st3 b hb
  exact Heap.lt_size e
 generalize eC:s3.heap.objs.size=C at *
 have kp:∀ b o,s3.heap.get? b=some o->h₁.get? b=some o:=fun b o e=>(hsb₁.2 b (by rw[<- eC]; exact Nat.ne_of_lt (Heap.lt_size e))).trans (Heap.get?_push_of_some _ e)
 have subC:∀ x c,(clOf X.env.cells scope.names []).lookup x=some c->X.env.cells.lookup x=some c:=fun x c e=>clOf_sub scope.names [] hcells (fun y d z=>by simp at z) e
 have hCnone:H3 C=none:=I3.hok.fresh (Nat.le_of_eq eC)
 have ok':(blk X scope N' C s3 H3 fp pins).Ok:={
  mod:=I3.ok.mod
  kind:=hk
  glob:=I3.ok.glob
  blt:=I3.ok.blt
  above:=Nat.le_of_eq eC
  inj:=fun x y c a b=>I3.ok.inj x y c (subC x c a) (subC y c b)
  has:=fun x hx=>clOf_has scope.names [] (relabel_cf scope.names hcell hx)
  cab:=fun x c a _=>absurd a Bool.false_ne_true
  hd:=I3.ok.hd
  frames:=I3.ok.frames
  stk:=.inl rfl
  exf:=fun b hb=>⟨by have:=lt3 b hb; exact Nat.ne_of_lt this,fun x c e=>(f3 b hb).2.2.2.2.1 x c (subC x c e)⟩
  bs:=I3.bs
  bsz:=Nat.le_trans I3.ok.bsz I3.sz
  noex:=fun b o e hb=>by
   rcases (f3 b hb).2.2.2.1 with z | z
   ·exact I3.ok.noex b o e z
   ·exact absurd (Nat.lt_of_lt_of_le (Heap.lt_size e) (Nat.le_trans I3.ok.bsz z)) (Nat.lt_irrefl _)
  exfs:=fun b hb z=>by
   rcases mem_cons.mp (I3.stkSub b z) with e | e
   ·exact(f3 b hb).2.1 e
   ·exact(f3 b hb).2.2.1 e
  funs:=I3.stack
  frf:=I3.stkFree }
 have s4os:({ s3 with heap:=h₁,toks:=s3.toks+([]:List (Str×Value)).length }:Shared).os=s3.os:=rfl
 generalize e4:({ s3 with heap:=h₁,toks:=s3.toks+([]:List (Str×Value)).length }:Shared)=s4 at *
 have h4:s4.heap=h₁:=by rw[<- e4]
 have J4:Inv (blk X scope N' C s3 H3 fp pins) [] (List.replicate k none++σ) H3 s4:=by
  refine⟨ok',s4os,by rw[<- e4]; exact I3.bare,?_,⟨_,by rw[h4]; exact hns₁,fun i x v e1 e2 e5=>?_⟩,fun x c e=>?_,hCnone,fun x c e=>I3.freeC x c (subC x c e),fun p hp=>?_,?_,?_⟩
  ·rw[h4]; exact Un.kept kp
  ·have hik:¬ i<k:=fun hlt=>by
    rw[getElem?_append_left (by rw[length_replicate]; exact hlt),List.getElem?_replicate] at e2
    split at e2 <;> cases e2
   obtain⟨j,rfl⟩:∃ j,i=j+k:=⟨i - k,by omega⟩
   have e2':σ[j]?=some (some v):=by
    rw[getElem?_append_right (by rw[length_replicate]; omega),length_replicate] at e2
    have:j+k - k=j:=by omega
    rw[this] at e2; exact e2
   have nl:(relabel scope X.env).names.lookup x≠some .local:=fun z=>by
    have q:∀ (l:List (Str×NameKind)),(l.map fun(n,k)=>if (k == NameKind.free && X.env.scope.kind == .function && X.env.kindOf n == some .cell) then(n,NameKind.cell) else(n,k)).lookup x=some .local->l.lookup x=some .local:=by
     intro l
     induction l with
     | nil=>intro z; simp at z
     | cons y l ih=>
      obtain⟨n,kk⟩:=y
      intro z
      by_cases hcc:(kk == NameKind.free && X.env.scope.kind == .function && X.env.kindOf n == some .cell)=true
      ·simp only[map_cons,if_pos hcc,lookup_cons] at z ⊢
       cases hx:x == n with
       | true=>simp only[hx] at z; cases z
       | false=>simp only[hx] at z ⊢; exact ih z
      ·simp only[map_cons,if_neg hcc,lookup_cons] at z ⊢
       cases hx:x == n with
       | true=>simp only[hx] at z ⊢; exact z
       | false=>simp only[hx] at z ⊢; exact ih z
    exact hN2 x (mem_of_getElem? (i:=j) (by rw[List.getElem?_drop,Nat.add_comm]; exact e1)) (q _ z)
   have hcf:(relabel scope X.env).names.lookup x=some .cell∨(relabel scope X.env).names.lookup x=some .free:=by
    rcases e5 with z | z | z
    ·exact absurd z nl
    ·exact .inl z
    ·exact .inr z
   have hmem:(x,NameKind.free) ∈ scope.names:=relabel_cf scope.names hcell hcf
   have hx:=hN j x e1 hmem
   obtain⟨mo,_,hl⟩:=I3.loc
   have hkx:=hfr (x,.free) hmem rfl
   obtain⟨u,ru,lk⟩:=hl j x v hx e2' (by
    rcases hkx with z | z
    ·exact .inr (.inl z)
    ·exact .inr (.inr z))
   refine⟨u,ru,.inr ⟨hcf,?_⟩⟩
   rcases lk with ⟨z,_⟩ | ⟨_,c,hc1,hc2⟩
   ·rcases hkx with q | q
    ·rw[q] at z; cases z
    ·rw[q] at z; cases z
   ·obtain⟨c',hc'⟩:=clOf_has (cells:=X.env.cells) scope.names [] hmem
    have:=subC x c' hc'
    rw[hc1] at this; cases this
    obtain⟨oc,h5,h6⟩:=hc2
    exact⟨c,hc',oc,by rw[h4]; exact kp _ _ h5,h6⟩
  ·obtain⟨v,oc,h5,h6⟩:=I3.cell x c (subC x c e)
   exact⟨v,oc,by rw[h4]; exact kp _ _ h5,h6⟩
  ·have hp':p ∈ X.pn++pins:=by simpa using hp
   obtain⟨a1,a2,a3,a4,a5⟩:=I3.pin p hp'
   refine⟨by rw[h4]; exact kp _ _ a1,a2,?_,fun z=>?_,a5⟩
   ·have:=Heap.lt_size a1
    rw[eC] at this
    exact Nat.ne_of_lt this
   ·rcases mem_cons.mp (I3.stkSub p.1 z) with q | q
    ·exact a3 q
    ·exact a4 q
  ·rw[h4]; exact I3.hok.kept kp
  ·rw[length_append,length_replicate,I3.len]; exact hlen.symm
 have stat:∀ {H':Hp},(∀ b ∈ fp,H' b=none)->∀ b ∈ fp,FpOk (blk X scope N' C s3 H3 fp pins) [] H' b:=fun hn b hb=>
  ⟨hn b hb,(ok'.exf b hb).1,ok'.exfs b hb,.inl hb,fun x c e=>(ok'.exf b hb).2 x c e,fun p hp=>(f3 b hb).2.2.2.2.2 p (by simpa using hp)⟩
 have fr4:∀ b ∈ fp,H3 b=none:=fun b hb=>(f3 b hb).1
 have st4:tn 0 s4.heap:=T.keep _ _ _ st3 fun b _ o e=>by rw[h4]; exact kp _ _ e
 have loop:codeAny (model X.prog X.w) X.A (.compLoop (.DictComp kx vx [⟨tg,iter,ifs,0⟩] scope pos) 0 (.ref it) (.ref D) (compEnvC scope (clOf X.env.cells scope.names []) C X.env))
   (compPost (model X.prog X.w) X.A X.xe none (EP X pins σ Q) (.ref D) C) s4:=by
  refine compLoop_goD (fun n s'=>∃ i ys H',Inv (blk X scope N' C s3 H3 fp pins) [] (List.replicate k none++σ) H' s'/\tn i s'.heap/\(∀ b ∈ fp,H' b=none)/\W i n ys H') ?_ m0 ⟨0,[],H3,J4,st4,fr4,w0⟩
  rintro n s5 ⟨i,ys,H5,I5,st5,fr5,w5⟩
  obtain⟨hDl,stp⟩:=turn i n ys H5 w5
  rcases stp with ⟨stop,qn⟩ | ⟨go,step⟩
  ·refine thn (T.done (blk X scope N' C s3 H3 fp pins) rfl rfl rfl hc i [] s5 _ H5 (fun _ _=>False) I5 (stat fr5) st5 stop) fun r s6 ⟨hr,I6⟩=>?_
   subst hr
   obtain⟨m6,ns6,_⟩:=id I6.loc
   refine⟨m6,ns6,fun h' hsb=>⟨.ref D,H5,?_,rfl,qn⟩⟩
   have hC5:H5 C=none:=I6.free
   have un6:Un (frs X.stack) fp H3 H5 s3.heap s6.heap:=I6.base
   have neC:∀ b o,s3.heap.get? b=some o->b≠C:=fun b o e=>by
    have:=Heap.lt_size e
    rw[eC] at this
    exact Nat.ne_of_lt this
   refine I3.call' (s':={ s6 with heap:=h' }) (ch:=fp) I6.os ⟨fun b o e a1 a2 a3=>?_,fun b o e a1 a2 a3=>?_,un6.free,fun b o e a3=>?_,un6.tups,un6.frzs,un6.tbls⟩ ?_ I6.bare (fun b hb=>?_)
   ·exact(hsb.2 b (neC b o e)).trans (un6.keep b o e a1 a2 a3)
   ·obtain⟨sl,z⟩:=un6.slot b o e a1 a2 a3
    exact⟨sl,(hsb.2 b (neC b o e)).trans z⟩
   ·obtain⟨o',z⟩:=un6.there b o e a3
    exact⟨o',(hsb.2 b (neC b o e)).trans z⟩
   ·intro b u e
    refine(I6.hok b u e).stay (fun c w' hcc q=>(hsb.2 c ?_).trans q) (fun _ q=>q) fun _ _ q=>q
    rintro rfl
    rcases hcc with z | z
    ·rw[z,e] at hC5; cases hC5
    ·rw[z] at hC5; cases hC5
   ·exact⟨(f3 b hb).2.2.2.1,(f3 b hb).2.1,(f3 b hb).2.2.2.2.1,(f3 b hb).2.2.2.2.2⟩
  ·refine thn (T.item (blk X scope N' C s3 H3 fp pins) rfl rfl rfl hc i [] s5 _ H5 (fun _ _=>False) I5 (stat fr5) st5 go) fun r s6 ⟨u,hr,h6⟩=>?_
   subst hr
   refine thn h6 fun _ s7 ⟨x,H7,I7,r7,y7,st7,fr7⟩=>?_
   have I7':=I7.pinned (stat fr7) (T.obj _ _ st7)
   refine thn (hg C s3 H3 fp pins _ s7 _ H7 x u _ I7' r7 (step x H7 y7)) fun _ s8 ⟨σ8,H8,I8,d8,q8⟩=>?_
   refine thn (ht C s3 H3 fp pins _ s8 σ8 H8 _ I8 q8) fun b s9 ⟨H9,I9,q9⟩=>?_
   have kz:∀ (j:Nat) v,(List.replicate k none++σ)[j]?=some (some v)->σ8[j]?=some (some v):=fun j v e=>by
    have hik:¬ j<k:=fun hlt=>by
     rw[getElem?_append_left (by rw[length_replicate]; exact hlt),List.getElem?_replicate] at e
     split at e <;> cases e
    rw[getElem?_append_right (by rw[length_replicate]; omega),length_replicate,<- d8,List.getElem?_drop] at e
    have:k+(j - k)=j:=by omega
    rw[this] at e; exact e
   have again:∀ {Hz:Hp}{sz:Shared}{zs:List (Key×V)}{m':Nat},Inv (blk X scope N' C s3 H3 fp pins) ([]++pinsAt fp s7.heap) σ8 Hz sz->m'<n->W (i+1) m' zs Hz ->
     ∃ m,m<n/\∃ i ys H',Inv (blk X scope N' C s3 H3 fp pins) [] (List.replicate k none++σ) H' sz/\tn i sz.heap/\(∀ b ∈ fp,H' b=none)/\W i m ys H':=fun {Hz sz zs m'} Iz hm wz=>by
    refine⟨m',hm,i+1,zs,Hz,(Iz.unpinned).weak ?_ kz,T.keep _ _ _ st7 fun b hb o e=>(Iz.pin (b,o) (mem_append_right _ (mem_append_right _ (mem_pinsAt hb e)))).1,fun b hb=>?_,wz⟩
    ·rw[Iz.len]; exact I5.len
    ·obtain⟨o,e,d⟩:=T.obj _ _ st7 b hb
     exact(Iz.pin (b,o) (mem_append_right _ (mem_append_right _ (mem_pinsAt hb e)))).2.1
   cases b with
   | false=>
    obtain⟨m',hm,w9⟩:=(show ∃ m',m'<n/\W (i+1) m' ys H9 by simpa using q9)
    rw[if_neg Bool.false_ne_true]
    exact again I9 hm w9
   | true=>
    rw[if_pos rfl] at q9 ⊢
    refine thn (hk2 C s3 H3 fp pins _ s9 σ8 H9 _ I9 q9) fun u8 s10 ⟨xk,H10,I10,r10,q10⟩=>?_
    refine thn (he C s3 H3 fp pins _ s10 σ8 H10 _ I10 q10) fun u9 s11 ⟨y,H11,I11,r11,kk,ek,hz,hD11,m',hm,w11⟩=>?_
    subst ek
    obtain⟨zz,hd,vs,rel,dd⟩:=dk_of I11.hok hD11
    have hzv:vs.length<=sizeLine:=by rw[<- rel.length]; exact zz
    have hlk:(putK ys kk y).length<=sizeLine:=by have:=length_putK ys kk y; omega
    refine wpAny_dictSet_pairs (hsz:=hzv) (kV_is r10) dd fun h' dd' hs=>?_
    have he':∃ q,h'.get? D=some q:=let ⟨q,_,_,hq,_⟩:=dd'; ⟨q,hq⟩
    exact again (d_write I11 (by rw[hD11]; exact True.intro) hs he' (dk_new hlk hd (rel.put kk r11) dd')) hm w11
 exact codeAny_compStart_dict loop (T.self _ 0 _ _ _ st4 loop)
end
end L2
set_option Elab.async false
set_option linter.all false
set_option maxRecDepth 100000
namespace L2
open PySem PySem.Spec PyProof.Rows
section
variable {X:Cx}{pins:List (Addr×Obj)}{σ:St}{H:Hp}{s:Shared}
theorem Inv.thaw {p:Addr}{ob:Obj}{u:HO} (I:Inv X pins σ H s) (e:H p=some (.frz ob u)) (hn:∀ o v,X.H₀ p≠some (.frz o v)) (hu:∀ xs,u≠.tup xs):Inv X pins σ (upd H p u) s:=by
 obtain⟨_,ok⟩:=(show s.heap.get? p=some ob/\ObjOk X.prog X.w H s.heap p u from I.hok p _ e)
 have np:∀ b,H b=none->b≠p:=fun b q z=>by rw[z,e] at q; cases q
 refine⟨I.ok,I.os,I.bare,⟨I.base.keep,I.base.slot,fun b ob e2 n hx=>?_,I.base.there,fun b xs e2=>?_,fun b ob2 u2 e2=>?_,fun b ps e2=>?_⟩,I.loc,I.cell,by rw[upd_ne (fun z=>np _ I.free z)]; exact I.free,fun x c q=>by rw[upd_ne (np c (I.freeC x c q))]; exact I.freeC x c q,fun q hq=>?_,fun b u2 e2=>?_,I.len⟩
 ·have:=I.base.free b ob e2 n hx
  rw[upd_ne (np b this)]; exact this
 ·have:=I.base.tups b xs e2
  rw[upd_ne (fun z=>by rw[z,e] at this; cases this)]; exact this
 ·have:=I.base.frzs b ob2 u2 e2
  rw[upd_ne (fun z=>by rw[z] at e2; exact hn _ _ e2)]; exact this
 ·obtain⟨more,e3⟩:=I.base.tbls b ps e2
  exact⟨more,by rw[upd_ne (fun z=>by rw[z,e] at e3; cases e3)]; exact e3⟩
 ·obtain⟨a1,a2,a3,a4,a5⟩:=I.pin q hq
  exact⟨a1,by rw[upd_ne (np _ a2)]; exact a2,a3,a4,a5⟩
 ·have own:∀ c y,H c=some (.own y)->upd H p u c=some (.own y):=fun c y q=>by rw[upd_ne (fun z=>by rw[z,e] at q; cases q)]; exact q
  have tup:∀ c xs,H c=some (.tup xs)->upd H p u c=some (.tup xs):=fun c xs q=>by rw[upd_ne (fun z=>by rw[z,e] at q; cases q)]; exact q
  by_cases hb:b=p
  ·subst hb; rw[upd_same] at e2; cases e2
   exact ok.stay (fun _ _ _ q=>q) (fun c q=>own c _ q) fun c xs q=>tup c xs q
  ·rw[upd_ne hb] at e2
   exact(I.hok b u2 e2).stay (fun _ _ _ q=>q) (fun c q=>own c _ q) fun c xs q=>tup c xs q
theorem Inv.unfrz {p:Addr}{u:HO} (I:Inv X pins σ H s) (e:H p=some u) (hu:∀ o v,u≠.frz o v):∀ o v,X.H₀ p≠some (.frz o v):=fun o v q=>by
 have:=I.base.frzs p o v q
 rw[e] at this
 cases this
 exact hu o v rfl
theorem Inv.freeze {d:Addr}{kvs:List (Key×V)} (I:Inv X pins σ H s) (e:H d=some (.dK kvs)):∃ o,s.heap.get? d=some o/\Inv X pins σ (upd H d (.frz o (.dK kvs))) s:=by
 obtain⟨z,hd,vs,rel,dd⟩:=(show ObjOk X.prog X.w H s.heap d (.dK kvs) from I.hok d _ e)
 obtain⟨o,es,ep,ho,r⟩:=id dd
 exact⟨o,ho,I.write (x:=d) (e:=d) (t':=s.toks) (h':=s.heap) (by rw[e]; exact True.intro) (.inl rfl) (fun _ _ _ q=>q) ⟨o,ho⟩ ⟨ho,z,hd,vs,rel,dd⟩⟩
end
def tThaw (t:TS):TS:=fun D σ H=>∃ (d:Addr) (kvs:List (Key×V)),H d=some (.dK kvs) /\
 t { nx:=fun σ' H'=>∃ o,H' d=some (.frz o (.dK kvs))/\D.nx σ' (upd H' d (.dK kvs)),rt:=fun v H'=>∃ o,H' d=some (.frz o (.dK kvs))/\D.rt v (upd H' d (.dK kvs)),bk:=fun σ' H'=>∃ o,H' d=some (.frz o (.dK kvs))/\D.bk σ' (upd H' d (.dK kvs)),ct:=fun σ' H'=>∃ o,H' d=some (.frz o (.dK kvs))/\D.ct σ' (upd H' d (.dK kvs)) } σ H
theorem ps_thaw {X:Cx}{st:Stmt}{t:TS} (h:PS X st t):PS X st (tThaw t):=by
 intro pins s σ H D I q
 obtain⟨d,kvs,e,q⟩:=q
 have hn:=I.unfrz e (fun _ _ z=>nomatch z)
 refine thn (h pins s σ H _ I q) fun f s1 h1=>?_
 have hu:∀ xs,HO.dK kvs≠.tup xs:=fun _ z=>nomatch z
 cases f with
 | next=>obtain⟨σ1,H1,I1,o,e1,q1⟩:=h1; exact⟨σ1,_,I1.thaw e1 hn hu,q1⟩
 | brk=>obtain⟨σ1,H1,I1,o,e1,q1⟩:=h1; exact⟨σ1,_,I1.thaw e1 hn hu,q1⟩
 | cont=>obtain⟨σ1,H1,I1,o,e1,q1⟩:=h1; exact⟨σ1,_,I1.thaw e1 hn hu,q1⟩
 | ret u=>obtain⟨v,σ1,H1,I1,r1,o,e1,q1⟩:=h1; exact⟨v,σ1,_,I1.thaw e1 hn hu,r1,q1⟩
theorem kv_get {κ:Type}{kvs:List (κ×V)}{vs:List (κ×Value)} (r:KV kvs vs) {i:Nat}{kv:κ×V} (h:kvs[i]?=some kv):∃ u,vs[i]?=some (kv.1,u)/\RelV kv.2 u:=by
 unfold KV at r
 induction r generalizing i with
 | nil=>cases h
 | @cons p q ps qs h1 h2 ih=>
  match i with
  | 0=>cases h; obtain⟨q1,q2⟩:=q; exact⟨q2,by rw[h1.1]; rfl,h1.2⟩
  | i+1=>exact ih h
theorem kV_rel {P:Program}{w:World}{k:Key}{u:Value} (h:(mixKind P w).is k u=true):RelV (kV k) u:=by
 rcases keyIs_shape h with ⟨i,t,rfl,rfl⟩ | ⟨x,t,rfl,rfl⟩
 ·exact⟨t,rfl⟩
 ·exact⟨t,rfl⟩
theorem dk_ob {P:Program}{w:World}{H:Hp}{h:Heap}{d:Addr}{o:Obj}{kvs:List (Key×V)} (ok:HOk P w H h) (e:H d=some (.frz o (.dK kvs))):h.get? d=some o/\∃ vs ep,KV kvs vs/\h.DictAt (mixKind P w) d vs ep:=by
 obtain⟨e1,z,hd,vs,rel,dd⟩:=(show h.get? d=some o/\ObjOk P w H h d (.dK kvs) from ok d _ e)
 obtain⟨ep,da⟩:=dd.dictAt
 exact⟨e1,vs,ep,rel,da⟩
def Iti (d:Addr) (o:Obj) (kvs:List (Key×V)):It :=
 ⟨fun i H=>H d=some (.frz o (.dK kvs))/\i<kvs.length,fun i H x H'=>∃ p kv,x=.ref p/\H p=none/\H'=upd H p (.tup [kV kv.1,kv.2])/\kvs[i]?=some kv,fun i H=>H d=some (.frz o (.dK kvs))/\kvs.length<=i⟩
theorem entry_itemiter:entryFor table "dict_itemiterator.__iter__" = some Builtin.«dict_keyiterator.__iter__» :=
 entryFor_alias (id' := "dict_keyiterator.__iter__") (by kernel_rfl) rfl (by decide +kernel) (by kernel_rfl)
theorem turn_items {P:Program}{w:World}{K:PySem.W.Frag}{es:List Expr}{x1}{pos:Pos} (d it:Addr) (o:Obj) (kvs:List (Key×V)) (ep:Nat) (hep:∃ es,o.data=.dict es ep):Turn P w K (.Tuple es x1 pos) (Iti d o kvs) [it] it (fun i h=>∃ a b,IsItemIter h it d i kvs.length ep a b) where
 mem:=by simp
 obj:=fun i h st b hb=>by
  have e:b=it:=by simpa using hb
  subst e
  obtain⟨_,_,e⟩:=st
  exact⟨_,e,fun v z=>by cases (show Data.fields _=Data.cell v from z)⟩
 keep:=fun i h h' st k=>by
  obtain⟨a,b,e⟩:=st
  exact⟨a,b,k it (by simp) _ e⟩
 item:=by
  intro X hP hw hK hc i pins s σ H E I hf st hg
  subst hP hw hK
  obtain⟨e,hi⟩:=hg
  obtain⟨e1,vs,ep',rel,da⟩:=dk_ob I.hok e
  have:ep'=ep:=by
   obtain⟨es,z⟩:=hep
   obtain⟨o1,es1,h1,_,d1,_⟩:=da
   rw[e1] at h1; cases h1
   rw[z] at d1
   injection d1 with _ q
   exact q.symm
  subst this
  obtain⟨u,hu,ru⟩:=kv_get rel (getElem?_eq_getElem hi)
  obtain⟨oa,ob,st0⟩:=st
  have st1:IsItemIter s.heap it d i vs.length ep' oa ob:=by rw[<- rel.length]; exact st0
  refine wpAny_pyNext_items_item st1 da hu fun key h' hk a1 a5 a6 kp=>?_
  refine⟨_,rfl,?_⟩
  refine wpAny_letOwnedTupleGo_items (s:={ s with heap:=h' }) a1 fun h2 st2 sb=>?_
  have pz:s.heap.objs.size≠it:=Nat.ne_of_gt (Heap.lt_size st0)
  have kk:∀ c q,c ∉ [it]->s.heap.get? c=some q->h2.get? c=some q:=fun c q hcm z=>by
   have hc':c≠it:=by simpa using hcm
   exact sb.extBut _ _ hc' (kp c q hc' z)
  have I1:Inv X pins σ H { s with heap:=h2,toks:=s.toks }:=I.turnedL kk hf
  have fP:FpOk X pins H s.heap.objs.size:=I.fpOk (Nat.le_refl _) (I.hok.fresh (Nat.le_refl _))
  have hp2:h2.get? s.heap.objs.size=some { cls:=.type "tuple",data:=.seq #[key,u] }:=sb.extBut _ _ pz a5
  have I2:Inv X pins σ (upd H s.heap.objs.size (.tup [kV kvs[i].1,kvs[i].2])) { s with heap:=h2,toks:=s.toks }:=by
   refine I1.track I.sz (fP.2.1) fP.2.2.2.2.1 fP.2.2.2.2.2 fP.1 ?_
   exact⟨(show 2<=sizeLine by decide),[key,u],.cons (kV_rel hk) (.cons ru .nil),⟨_,hp2,rfl,_,rfl⟩⟩
  refine⟨.ref s.heap.objs.size,_,I2,rfl,⟨_,kvs[i],rfl,fP.1,rfl,getElem?_eq_getElem hi⟩,⟨_,_,by rw[rel.length]; exact st2⟩,fun c hcm=>?_⟩
  have:c=it:=by simpa using hcm
  subst this
  rw[upd_ne (Ne.symm pz)]
  exact(hf c hcm).1
 done:=by
  intro X hP hw hK hc i pins s σ H E I hf st hg
  subst hP hw hK
  obtain⟨e,hi⟩:=hg
  obtain⟨e1,vs,ep',rel,da⟩:=dk_ob I.hok e
  have:ep'=ep:=by
   obtain⟨es,z⟩:=hep
   obtain⟨o1,es1,h1,_,d1,_⟩:=da
   rw[e1] at h1; cases h1
   rw[z] at d1
   injection d1 with _ q
   exact q.symm
  subst this
  have hl:=rel.length
  obtain⟨f0,f1,f2,f3,f4,f5⟩:=hf it (by simp)
  obtain⟨oa,ob,st0⟩:=st
  have st1:IsItemIter s.heap it d i vs.length ep' oa ob:=by rw[<- rel.length]; exact st0
  exact wpAny_pyNext_items_end (I.ok.hd hc) st1 da (List.getElem?_eq_none (by omega)) fun h' eb=>⟨rfl,I.turned (t':=s.toks) (fun b o hb e=>eb b o hb e) f0 f1 f3 f4 f5⟩
 self:=fun A _ s Q E ⟨oa,ob,st⟩ h=>by
  have hT:s.TypeIs (.ref it) "dict_itemiterator":=⟨_,st,rfl⟩
  refine wpAny_pyIter_slot hT PySem.F.slot_dict_itemiterator_iter (wpAny_call_entry PySem.F.slot_dict_itemiterator_iter hT entry_itemiter ?_ (PySem.F.args_dict_itemiterator_iter_1 _))
  show wpAny _ _ (ret (.ref it)) _ _ s
  exact wpAny_pure ⟨_,rfl,"dict_itemiterator",_,hT,F.slot_dict_itemiterator_next.lookup,h⟩
def iItems (td:TE):TI:=fun σ H R=>td σ H fun x H1=>∃ d kvs,x=.ref d/\H1 d=some (.dK kvs)/\∀ o,R (Iti d o kvs) (upd H1 d (.frz o (.dK kvs)))
theorem pi_items {X:Cx}{es:List Expr}{x1}{tpos apos cpos:Pos}{l:Expr}{tl:TE} (hl:PE X l tl) (hb:attributeBase l "items" X.env (eval l X.env)=eval l X.env:=by rfl) (hline:(apos.endLine == cpos.line)=true:=by rfl):PI X (.Tuple es x1 tpos) (.Call (.Attribute l "items" apos) [] [] cpos) (iItems tl):=by
 intro pins s σ H R I h
 refine wpAny_Call_method (T := "dict") (id := "dict.items") hb rfl hline F.plainAttrs_dict F.slot_dict_items F.type_dict_items (thn (hl pins s σ H _ I h) fun v s1 ⟨x,H1,I1,r1,q1⟩=>?_)
 obtain⟨d,kvs,e,ed,q⟩:=q1
 subst e
 cases r1
 obtain⟨o,eo,I2⟩:=I1.freeze ed
 obtain⟨z,hd,vs,rel,dd⟩:=dk_of I1.hok ed
 obtain⟨ep,da⟩:=dd.dictAt
 have hep:∃ es,o.data=.dict es ep:=by
  obtain⟨o1,es1,h1,_,d1,_⟩:=da
  rw[eo] at h1; cases h1
  exact⟨es1,d1⟩
 refine⟨dd.typeIs,dd.mapOf.noDict,?_⟩
 show wpAny _ _ (callWith cpos (.builtin "dict.items") [.ref d] [] []) _ _ s1
 refine method_meetsIn F.slot_dict_items F.entry_dict_items rfl (PySem.evalArgs_none ⟨rfl,dd.typeIs,F.args_dict_items_1 _,_,meets_dict_items (mixKind X.prog X.w) d hd,⟨vs,dd⟩,?_⟩)
 refine wpAny_pyIter_items (s:={ s1 with heap:=s1.heap.push { cls:=.type "dict_items",data:=.fields #[.ref d] } }) (v:=s1.heap.objs.size) (d:=d) ⟨_,Heap.get?_push_size _ rfl,rfl,rfl⟩ (da.push _) ?_
 have sz:(s1.heap.push { cls:=.type "dict_items",data:=.fields #[.ref d] }).objs.size=s1.heap.objs.size+1:=Heap.size_push ..
 have hge:s1.heap.objs.size<=(s1.heap.push { cls:=.type "dict_items",data:=.fields #[.ref d] }).objs.size:=by rw[sz]; exact Nat.le_succ _
 have hne:(s1.heap.push { cls:=.type "dict_items",data:=.fields #[.ref d] }).objs.size≠d:=fun z=>by
  have h1:s1.heap.objs.size+1=d:=by rw[<- sz]; exact z
  have h2:d<s1.heap.objs.size:=Heap.lt_size eo
  rw[<- h1] at h2
  exact absurd h2 (Nat.not_lt.mpr (Nat.le_succ _))
 refine⟨(s1.heap.push { cls:=.type "dict_items",data:=.fields #[.ref d] }).objs.size,[(s1.heap.push { cls:=.type "dict_items",data:=.fields #[.ref d] }).objs.size],_,_,_,rfl,I2.kept (t':=s1.toks) fun b o e=>Heap.get?_push_of_some _ (Heap.get?_push_of_some _ e),turn_items d _ o kvs ep hep,⟨_,_,by rw[rel.length]; exact Heap.get?_push_size _ rfl⟩,fun b hb=>?_,q o⟩
 have e:b=(s1.heap.push { cls:=.type "dict_items",data:=.fields #[.ref d] }).objs.size:=by simpa using hb
 subst e
 refine I1.fpOk hge ?_
 rw[upd_ne hne]
 exact I1.hok.fresh hge
theorem for_items {d:Addr}{o:Obj}{kvs:List (Key×V)}{g:TG}{tb:TS}{D:Ends}{σ:St}{H:Hp} (Pv:Nat->St->Hp->Prop) (h0:Pv 0 σ H) (hl:∀ i σ H,i<=kvs.length->Pv i σ H->H d=some (.frz o (.dK kvs)))
  (hs:∀ i kv pp σ H,kvs[i]?=some kv->H pp=none->Pv i σ H->g (.ref pp) σ (upd H pp (.tup [kV kv.1,kv.2])) fun σ2 H2=>tb { D with nx:=Pv (i+1),ct:=Pv (i+1),bk:=D.nx } σ2 H2) (hd:∀ σ H,Pv kvs.length σ H->D.nx σ H) :
  ∃ W:Nat->Nat->St->Hp->Prop,(∃ m,W 0 m σ H)/\∀ i m σ H,W i m σ H ->
   ((Iti d o kvs).stop i H/\D.nx σ H)∨((Iti d o kvs).go i H/\∃ N:St->Hp->Prop,(∀ σ' H',N σ' H'->∃ m',m'<m/\W (i+1) m' σ' H')/\∀ x H',(Iti d o kvs).yld i H x H'->g x σ H' fun σ2 H2=>tb { D with nx:=N,ct:=N,bk:=D.nx } σ2 H2):=by
 refine⟨fun i m σ H=>m=kvs.length - i/\i<=kvs.length/\Pv i σ H,⟨kvs.length,by simp,Nat.zero_le _,h0⟩,?_⟩
 rintro i m σ H ⟨rfl,hi,p⟩
 have q:=hl i σ H hi p
 by_cases hlt:i<kvs.length
 ·refine .inr ⟨⟨q,hlt⟩,Pv (i+1),fun σ' H' p'=>⟨kvs.length - (i+1),by omega,rfl,hlt,p'⟩,fun x H' y=>?_⟩
  obtain⟨pp,kv,ex,hn,e,hk⟩:=y
  subst e ex
  exact hs i kv pp σ _ hk hn p
 ·have e:i=kvs.length:=by omega
  subst e
  exact .inl ⟨⟨q,Nat.le_refl _⟩,hd σ H p⟩
end L2
set_option Elab.async false
set_option linter.all false
set_option maxRecDepth 100000
set_option maxHeartbeats 4000000
namespace P
open PySem L2
def top (i:Nat):Stmt:=PySem.Challenge.pw_lazyrails_k40_whole_trimmed_reads_alike.main.body.getD i (.Pass ⟨0,0,0,0⟩)
abbrev s_law:Stmt:=top 47
abbrev s_draws:Stmt:=top 37
abbrev s_Jv:Stmt:=top 44
abbrev s_parts:Stmt:=top 43
abbrev s_row:Stmt:=top 42
abbrev s_Jw:Stmt:=top 30
abbrev s_Jz:Stmt:=top 29
abbrev s_J01:Stmt:=top 45
abbrev s_Jx:Stmt:=top 31
abbrev s_Ja:Stmt:=top 32
abbrev s_Jy:Stmt:=top 33
abbrev s_alike:Stmt:=top 46
abbrev s_J11:Stmt:=top 41
abbrev s_is:Stmt:=top 39
abbrev s_whole:Stmt:=top 38
abbrev s_Jq:Stmt:=top 14
abbrev s_Ji:Stmt:=top 22
abbrev s_Jr:Stmt:=top 15
abbrev s_Js:Stmt:=top 20
abbrev s_Jb:Stmt:=top 21
abbrev s_Jt:Stmt:=top 24
abbrev s_Jc:Stmt:=top 23
abbrev s_Ju:Stmt:=top 25
abbrev s_Jj:Stmt:=top 26
abbrev s_Je:Stmt:=inClass (top 27) 0
abbrev s_J0:Stmt:=inClass (top 27) 6
abbrev s_Jf:Stmt:=inClass (top 27) 3
abbrev s_J3:Stmt:=inClass (top 27) 7
abbrev s_J5:Stmt:=inClass (top 27) 8
abbrev s_J1:Stmt:=inClass (top 27) 9
abbrev s_Jk:Stmt:=inClass (top 35) 0
abbrev s_Jd:Stmt:=inClass (top 27) 1
abbrev s_J6:Stmt:=inClass (top 27) 2
abbrev s_Jl:Stmt:=inClass (top 35) 6
abbrev s_J2:Stmt:=inClass (top 35) 10
abbrev s_Jm:Stmt:=inClass (top 35) 11
abbrev s_J7:Stmt:=inClass (top 27) 5
abbrev s_Jn:Stmt:=inClass (top 35) 8
abbrev s_Jo:Stmt:=inClass (top 35) 9
abbrev s_Jg:Stmt:=inClass (top 35) 1
abbrev s_Jh:Stmt:=inClass (top 35) 5
abbrev s_J8:Stmt:=inClass (top 35) 2
abbrev s_J9:Stmt:=inClass (top 35) 4
abbrev s_Jp:Stmt:=inClass (top 35) 3
set_option genInjectivity false in
set_option genSizeOf false in
structure Adr where
 f_law:Addr
 d_law:FuncData
 v_law:Value
 f_draws:Addr
 d_draws:FuncData
 v_draws:Value
 f_Jv:Addr
 d_Jv:FuncData
 v_Jv:Value
 f_parts:Addr
 d_parts:FuncData
 v_parts:Value
 f_row:Addr
 d_row:FuncData
 v_row:Value
 f_Jw:Addr
 d_Jw:FuncData
 v_Jw:Value
 f_Jz:Addr
 d_Jz:FuncData
 v_Jz:Value
 f_J01:Addr
 d_J01:FuncData
 v_J01:Value
 f_Jx:Addr
 d_Jx:FuncData
 v_Jx:Value
 f_Ja:Addr
 d_Ja:FuncData
 v_Ja:Value
 f_Jy:Addr
 d_Jy:FuncData
 v_Jy:Value
 f_alike:Addr
 d_alike:FuncData
 v_alike:Value
 f_J11:Addr
 d_J11:FuncData
 v_J11:Value
 f_is:Addr
 d_is:FuncData
 v_is:Value
 f_whole:Addr
 d_whole:FuncData
 v_whole:Value
 f_Jq:Addr
 d_Jq:FuncData
 v_Jq:Value
 f_Ji:Addr
 d_Ji:FuncData
 v_Ji:Value
 f_Jr:Addr
 d_Jr:FuncData
 v_Jr:Value
 f_Js:Addr
 d_Js:FuncData
 v_Js:Value
 f_Jb:Addr
 d_Jb:FuncData
 v_Jb:Value
 f_Jt:Addr
 d_Jt:FuncData
 v_Jt:Value
 f_Jc:Addr
 d_Jc:FuncData
 v_Jc:Value
 f_Ju:Addr
 d_Ju:FuncData
 v_Ju:Value
 f_Jj:Addr
 d_Jj:FuncData
 v_Jj:Value
 f_Je:Addr
 d_Je:FuncData
 v_Je:Value
 f_J0:Addr
 d_J0:FuncData
 v_J0:Value
 f_Jf:Addr
 d_Jf:FuncData
 v_Jf:Value
 f_J3:Addr
 d_J3:FuncData
 v_J3:Value
 f_J5:Addr
 d_J5:FuncData
 v_J5:Value
 f_J1:Addr
 d_J1:FuncData
 v_J1:Value
 f_Jk:Addr
 d_Jk:FuncData
 v_Jk:Value
 f_Jd:Addr
 d_Jd:FuncData
 v_Jd:Value
 f_J6:Addr
 d_J6:FuncData
 v_J6:Value
 f_Jl:Addr
 d_Jl:FuncData
 v_Jl:Value
 f_J2:Addr
 d_J2:FuncData
 v_J2:Value
 f_Jm:Addr
 d_Jm:FuncData
 v_Jm:Value
 f_J7:Addr
 d_J7:FuncData
 v_J7:Value
 f_Jn:Addr
 d_Jn:FuncData
 v_Jn:Value
 f_Jo:Addr
 d_Jo:FuncData
 v_Jo:Value
 f_Jg:Addr
 d_Jg:FuncData
 v_Jg:Value
 f_Jh:Addr
 d_Jh:FuncData
 v_Jh:Value
 f_J8:Addr
 d_J8:FuncData
 v_J8:Value
 f_J9:Addr
 d_J9:FuncData
 v_J9:Value
 f_Jp:Addr
 d_Jp:FuncData
 v_Jp:Value
 c_Program:Addr
 c_Reader:Addr
 u_LAST_NOTE:Value
 u_LAST_WORDS:Value
 u_PARTS:Value
 u_WIDEST:Value
structure Txt (K:PySem.W.Frag) (mg:Str->Option Value) (t:Adr):Prop where
 F_law:FunG K "law" "law" s_law t.v_law t.f_law t.d_law
 F_draws:FunG K "_law_draws" "_law_draws" s_draws t.v_draws t.f_draws t.d_draws
 F_Jv:FunG K "_law_program" "_law_program" s_Jv t.v_Jv t.f_Jv t.d_Jv
 F_parts:FunG K "_law_parts" "_law_parts" s_parts t.v_parts t.f_parts t.d_parts
 F_row:FunG K "_law_row" "_law_row" s_row t.v_row t.f_row t.d_row
 F_Jw:FunG K "reached" "reached" s_Jw t.v_Jw t.f_Jw t.d_Jw
 F_Jz:FunG K "onward" "onward" s_Jz t.v_Jz t.f_Jz t.d_Jz
 F_J01:FunG K "_law_copied" "_law_copied" s_J01 t.v_J01 t.f_J01 t.d_J01
 F_Jx:FunG K "trimmed" "trimmed" s_Jx t.v_Jx t.f_Jx t.d_Jx
 F_Ja:FunG K "numbered_anew" "numbered_anew" s_Ja t.v_Ja t.f_Ja t.d_Ja
 F_Jy:FunG K "renamed" "renamed" s_Jy t.v_Jy t.f_Jy t.d_Jy
 F_alike:FunG K "_law_alike" "_law_alike" s_alike t.v_alike t.f_alike t.d_alike
 F_J11:FunG K "_law_is_row" "_law_is_row" s_J11 t.v_J11 t.f_J11 t.d_J11
 F_is:FunG K "_law_is" "_law_is" s_is t.v_is t.f_is t.d_is
 F_whole:FunG K "_law_whole" "_law_whole" s_whole t.v_whole t.f_whole t.d_whole
 F_Jq:FunG K "check_side" "check_side" s_Jq t.v_Jq t.f_Jq t.d_Jq
 F_Ji:FunG K "check_width" "check_width" s_Ji t.v_Ji t.f_Ji t.d_Ji
 F_Jr:FunG K "check_note" "check_note" s_Jr t.v_Jr t.f_Jr t.d_Jr
 F_Js:FunG K "check_mark" "check_mark" s_Js t.v_Js t.f_Js t.d_Js
 F_Jb:FunG K "check_counter" "check_counter" s_Jb t.v_Jb t.f_Jb t.d_Jb
 F_Jt:FunG K "check_row" "check_row" s_Jt t.v_Jt t.f_Jt t.d_Jt
 F_Jc:FunG K "check_stretch" "check_stretch" s_Jc t.v_Jc t.f_Jc t.d_Jc
 F_Ju:FunG K "greatest" "greatest" s_Ju t.v_Ju t.f_Ju t.d_Ju
 F_Jj:FunG K "check_value" "check_value" s_Jj t.v_Jj t.f_Jj t.d_Jj
 F_Je:FunG K "__init__" "Program.__init__" s_Je t.v_Je t.f_Je t.d_Je
 F_J0:FunG K "check_beginning" "Program.check_beginning" s_J0 t.v_J0 t.f_J0 t.d_J0
 F_Jf:FunG K "many" "Program.many" s_Jf t.v_Jf t.f_Jf t.d_Jf
 F_J3:FunG K "check_rows" "Program.check_rows" s_J3 t.v_J3 t.f_J3 t.d_J3
 F_J5:FunG K "check_part" "Program.check_part" s_J5 t.v_J5 t.f_J5 t.d_J5
 F_J1:FunG K "check_called" "Program.check_called" s_J1 t.v_J1 t.f_J1 t.d_J1
 F_Jk:FunG K "__init__" "Reader.__init__" s_Jk t.v_Jk t.f_Jk t.d_Jk
 F_Jd:FunG K "marks" "Program.marks" s_Jd t.v_Jd t.f_Jd t.d_Jd
 F_J6:FunG K "widths" "Program.widths" s_J6 t.v_J6 t.f_J6 t.d_J6
 F_Jl:FunG K "step" "Reader.step" s_Jl t.v_Jl t.f_Jl t.d_Jl
 F_J2:FunG K "place_behind" "Reader.place_behind" s_J2 t.v_J2 t.f_J2 t.d_J2
 F_Jm:FunG K "bump" "Reader.bump" s_Jm t.v_Jm t.f_Jm t.d_Jm
 F_J7:FunG K "row_at" "Program.row_at" s_J7 t.v_J7 t.f_J7 t.d_J7
 F_Jn:FunG K "turn" "Reader.turn" s_Jn t.v_Jn t.f_Jn t.d_Jn
 F_Jo:FunG K "fill" "Reader.fill" s_Jo t.v_Jo t.f_Jo t.d_Jo
 F_Jg:FunG K "where" "Reader.where" s_Jg t.v_Jg t.f_Jg t.d_Jg
 F_Jh:FunG K "heard" "Reader.heard" s_Jh t.v_Jh t.f_Jh t.d_Jh
 F_J8:FunG K "callers" "Reader.callers" s_J8 t.v_J8 t.f_J8 t.d_J8
 F_J9:FunG K "counter" "Reader.counter" s_J9 t.v_J9 t.f_J9 t.d_J9
 F_Jp:FunG K "mark" "Reader.mark" s_Jp t.v_Jp t.f_Jp t.d_Jp
 m_law:mg "law" = some (.ref t.f_law)
 e_law:t.v_law=.none
 m_draws:mg "_law_draws" = some (.ref t.f_draws)
 e_draws:t.v_draws=.none
 m_Jv:mg "_law_program" = some (.ref t.f_Jv)
 e_Jv:t.v_Jv=.none
 m_parts:mg "_law_parts" = some (.ref t.f_parts)
 e_parts:t.v_parts=.none
 m_row:mg "_law_row" = some (.ref t.f_row)
 e_row:t.v_row=.none
 m_Jw:mg "reached" = some (.ref t.f_Jw)
 e_Jw:t.v_Jw=.none
 m_Jz:mg "onward" = some (.ref t.f_Jz)
 e_Jz:t.v_Jz=.none
 m_J01:mg "_law_copied" = some (.ref t.f_J01)
 e_J01:t.v_J01=.none
 m_Jx:mg "trimmed" = some (.ref t.f_Jx)
 e_Jx:t.v_Jx=.none
 m_Ja:mg "numbered_anew" = some (.ref t.f_Ja)
 e_Ja:t.v_Ja=.none
 m_Jy:mg "renamed" = some (.ref t.f_Jy)
 e_Jy:t.v_Jy=.none
 m_alike:mg "_law_alike" = some (.ref t.f_alike)
 e_alike:t.v_alike=.none
 m_J11:mg "_law_is_row" = some (.ref t.f_J11)
 e_J11:t.v_J11=.none
 m_is:mg "_law_is" = some (.ref t.f_is)
 e_is:t.v_is=.none
 m_whole:mg "_law_whole" = some (.ref t.f_whole)
 e_whole:t.v_whole=.none
 m_Jq:mg "check_side" = some (.ref t.f_Jq)
 e_Jq:t.v_Jq=.none
 m_Ji:mg "check_width" = some (.ref t.f_Ji)
 e_Ji:t.v_Ji=.none
 m_Jr:mg "check_note" = some (.ref t.f_Jr)
 e_Jr:t.v_Jr=.none
 m_Js:mg "check_mark" = some (.ref t.f_Js)
 e_Js:t.v_Js=.none
 m_Jb:mg "check_counter" = some (.ref t.f_Jb)
 e_Jb:t.v_Jb=.none
 m_Jt:mg "check_row" = some (.ref t.f_Jt)
 e_Jt:t.v_Jt=.none
 m_Jc:mg "check_stretch" = some (.ref t.f_Jc)
 e_Jc:t.v_Jc=.none
 m_Ju:mg "greatest" = some (.ref t.f_Ju)
 e_Ju:t.v_Ju=.none
 m_Jj:mg "check_value" = some (.ref t.f_Jj)
 e_Jj:t.v_Jj=.none
 e_Je:t.v_Je=.none
 M_J0:Meth K t.c_Program "check_beginning" t.f_J0
 e_J0:t.v_J0=.none
 M_Jf:Meth K t.c_Program "many" t.f_Jf
 e_Jf:t.v_Jf=.none
 M_J3:Meth K t.c_Program "check_rows" t.f_J3
 e_J3:t.v_J3=.none
 M_J5:Meth K t.c_Program "check_part" t.f_J5
 e_J5:t.v_J5=.none
 M_J1:Meth K t.c_Program "check_called" t.f_J1
 e_J1:t.v_J1=.none
 e_Jk:t.v_Jk=.none
 M_Jd:Meth K t.c_Program "marks" t.f_Jd
 e_Jd:t.v_Jd=.none
 M_J6:Meth K t.c_Program "widths" t.f_J6
 e_J6:t.v_J6=.none
 M_Jl:Meth K t.c_Reader "step" t.f_Jl
 e_Jl:t.v_Jl=.none
 M_J2:Meth K t.c_Reader "place_behind" t.f_J2
 e_J2:t.v_J2=.none
 M_Jm:Meth K t.c_Reader "bump" t.f_Jm
 e_Jm:t.v_Jm=.none
 M_J7:Meth K t.c_Program "row_at" t.f_J7
 e_J7:t.v_J7=.none
 M_Jn:Meth K t.c_Reader "turn" t.f_Jn
 e_Jn:t.v_Jn=.none
 M_Jo:Meth K t.c_Reader "fill" t.f_Jo
 e_Jo:t.v_Jo=.none
 M_Jg:Meth K t.c_Reader "where" t.f_Jg
 e_Jg:t.v_Jg=.none
 M_Jh:Meth K t.c_Reader "heard" t.f_Jh
 e_Jh:t.v_Jh=.none
 M_J8:Meth K t.c_Reader "callers" t.f_J8
 e_J8:t.v_J8=.none
 M_J9:Meth K t.c_Reader "counter" t.f_J9
 e_J9:t.v_J9=.none
 M_Jp:Meth K t.c_Reader "mark" t.f_Jp
 e_Jp:t.v_Jp=.none
 cl_Program:Cls K t.c_Program
 m_Program:mg "Program" = some (.ref t.c_Program)
 mk_Program:Mk K t.c_Program t.f_Je
 n_Program_mark_sides:NoAttr K t.c_Program "mark_sides"
 n_Program_counter_widths:NoAttr K t.c_Program "counter_widths"
 n_Program_stretches:NoAttr K t.c_Program "stretches"
 cl_Reader:Cls K t.c_Reader
 m_Reader:mg "Reader" = some (.ref t.c_Reader)
 mk_Reader:Mk K t.c_Reader t.f_Jk
 n_Reader_Jv:NoAttr K t.c_Reader "program"
 n_Reader_place:NoAttr K t.c_Reader "place"
 n_Reader_returns:NoAttr K t.c_Reader "returns"
 n_Jp_sides:NoAttr K t.c_Reader "mark_sides"
 n_J9_widths:NoAttr K t.c_Reader "counter_widths"
 n_Reader_counts:NoAttr K t.c_Reader "counts"
 n_Reader_notes_heard:NoAttr K t.c_Reader "notes_heard"
 z_abs:mg "abs" = none
 z_all:mg "all" = none
 z_bool:mg "bool" = none
 z_enumerate:mg "enumerate" = none
 z_int:mg "int" = none
 z_isinstance:mg "isinstance" = none
 z_len:mg "len" = none
 z_list:mg "list" = none
 z_range:mg "range" = none
 z_set:mg "set" = none
 z_sorted:mg "sorted" = none
 z_zip:mg "zip" = none
 g_LAST_NOTE:mg "LAST_NOTE" = some t.u_LAST_NOTE
 r_LAST_NOTE:RelV (.int 9999) t.u_LAST_NOTE
 g_LAST_WORDS:mg "LAST_WORDS" = some t.u_LAST_WORDS
 x_LAST_WORDS:∃ (a:Addr) (o:Obj) (its:Array Value) (n:Nat),t.u_LAST_WORDS=.ref a/\K.lookup a=some o/\o.cls=.type "tuple" /\ o.data=.seq its n/\its.size<=sizeLine/\Vals [.str "ask",.str "go",.str "end"] its.toList
 g_PARTS:mg "PARTS" = some t.u_PARTS
 x_PARTS:∃ a,t.u_PARTS=.ref a/\TabT K a [("bell",["note"]),("set",["mark","side"]),("ask",["mark","row","row"]),("bump",["counter","row"]),("go",["row"]),("call",["stretch"]),("end",[])]
 g_WIDEST:mg "WIDEST" = some t.u_WIDEST
 r_WIDEST:RelV (.int 8) t.u_WIDEST
section
variable {K:PySem.W.Frag}{mg:Str->Option Value}{t:Adr}
@[elab_as_elim] theorem lx1 {motive:List Value->Prop} (h:∀ a,motive [a]):∀ us:List Value,us.length=1->motive us
 | [_],_=>h _
@[elab_as_elim] theorem lx2 {motive:List Value->Prop} (h:∀ a b,motive [a,b]):∀ us:List Value,us.length=2->motive us
 | [_,_],_=>h _ _
@[elab_as_elim] theorem lx3 {motive:List Value->Prop} (h:∀ a b c,motive [a,b,c]):∀ us:List Value,us.length=3->motive us
 | [_,_,_],_=>h _ _ _
@[elab_as_elim] theorem lx4 {motive:List Value->Prop} (h:∀ a b c d,motive [a,b,c,d]):∀ us:List Value,us.length=4->motive us
 | [_,_,_,_],_=>h _ _ _ _
@[elab_as_elim] theorem lx7 {motive:List Value->Prop} (h:∀ a b c d e f g,motive [a,b,c,d,e,f,g]):∀ us:List Value,us.length=7->motive us
 | [_,_,_,_,_,_,_],_=>h _ _ _ _ _ _ _
theorem b_draws (T:Txt K mg t):Binds K t.d_draws ["_law_script","_law_many"] []:=(T.e_draws ▸ T.F_draws).binds fun _ _ _ _ _ _ us hl=>lx2 (fun _ _=>rfl) us hl
theorem b_Jv (T:Txt K mg t):Binds K t.d_Jv ["_law_d"] []:=(T.e_Jv ▸ T.F_Jv).binds fun _ _ _ _ _ _ us hl=>lx1 (fun _=>rfl) us hl
theorem b_parts (T:Txt K mg t):Binds K t.d_parts ["_law_d","_law_at","_law_marks","_law_counters"] []:=(T.e_parts ▸ T.F_parts).binds fun _ _ _ _ _ _ us hl=>lx4 (fun _ _ _ _=>rfl) us hl
theorem b_row (T:Txt K mg t):Binds K t.d_row ["_law_d","_law_k","_law_more","_law_many","_law_marks","_law_counters","_law_later"] []:=(T.e_row ▸ T.F_row).binds fun _ _ _ _ _ _ us hl=>lx7 (fun _ _ _ _ _ _ _=>rfl) us hl
theorem b_Jw (T:Txt K mg t):Binds K t.d_Jw ["program"] []:=(T.e_Jw ▸ T.F_Jw).binds fun _ _ _ _ _ _ us hl=>lx1 (fun _=>rfl) us hl
theorem b_Jz (T:Txt K mg t):Binds K t.d_Jz ["row","stretch","number"] []:=(T.e_Jz ▸ T.F_Jz).binds fun _ _ _ _ _ _ us hl=>lx3 (fun _ _ _=>rfl) us hl
theorem b_J01 (T:Txt K mg t):Binds K t.d_J01 ["_law_parts_here"] []:=(T.e_J01 ▸ T.F_J01).binds fun _ _ _ _ _ _ us hl=>lx1 (fun _=>rfl) us hl
theorem b_Jx (T:Txt K mg t):Binds K t.d_Jx ["program"] []:=(T.e_Jx ▸ T.F_Jx).binds fun _ _ _ _ _ _ us hl=>lx1 (fun _=>rfl) us hl
theorem b_Ja (T:Txt K mg t):Binds K t.d_Ja ["numbers"] []:=(T.e_Ja ▸ T.F_Ja).binds fun _ _ _ _ _ _ us hl=>lx1 (fun _=>rfl) us hl
theorem b_Jy (T:Txt K mg t):Binds K t.d_Jy ["row","new_rows","new_stretches"] []:=(T.e_Jy ▸ T.F_Jy).binds fun _ _ _ _ _ _ us hl=>lx3 (fun _ _ _=>rfl) us hl
theorem b_alike (T:Txt K mg t):Binds K t.d_alike ["_law_one","_law_other","_law_marks","_law_widths"] []:=(T.e_alike ▸ T.F_alike).binds fun _ _ _ _ _ _ us hl=>lx4 (fun _ _ _ _=>rfl) us hl
theorem b_J11 (T:Txt K mg t):Binds K t.d_J11 ["_law_found","_law_due"] []:=(T.e_J11 ▸ T.F_J11).binds fun _ _ _ _ _ _ us hl=>lx2 (fun _ _=>rfl) us hl
theorem b_is (T:Txt K mg t):Binds K t.d_is ["_law_found","_law_due"] []:=(T.e_is ▸ T.F_is).binds fun _ _ _ _ _ _ us hl=>lx2 (fun _ _=>rfl) us hl
theorem b_whole (T:Txt K mg t):Binds K t.d_whole ["_law_found"] []:=(T.e_whole ▸ T.F_whole).binds fun _ _ _ _ _ _ us hl=>lx1 (fun _=>rfl) us hl
theorem b_Jq (T:Txt K mg t):Binds K t.d_Jq ["side"] []:=(T.e_Jq ▸ T.F_Jq).binds fun _ _ _ _ _ _ us hl=>lx1 (fun _=>rfl) us hl
theorem b_Ji (T:Txt K mg t):Binds K t.d_Ji ["width"] []:=(T.e_Ji ▸ T.F_Ji).binds fun _ _ _ _ _ _ us hl=>lx1 (fun _=>rfl) us hl
theorem b_Jr (T:Txt K mg t):Binds K t.d_Jr ["note"] []:=(T.e_Jr ▸ T.F_Jr).binds fun _ _ _ _ _ _ us hl=>lx1 (fun _=>rfl) us hl
theorem b_Js (T:Txt K mg t):Binds K t.d_Js ["mark","many"] []:=(T.e_Js ▸ T.F_Js).binds fun _ _ _ _ _ _ us hl=>lx2 (fun _ _=>rfl) us hl
theorem b_Jb (T:Txt K mg t):Binds K t.d_Jb ["counter","many"] []:=(T.e_Jb ▸ T.F_Jb).binds fun _ _ _ _ _ _ us hl=>lx2 (fun _ _=>rfl) us hl
theorem b_Jt (T:Txt K mg t):Binds K t.d_Jt ["row","many"] []:=(T.e_Jt ▸ T.F_Jt).binds fun _ _ _ _ _ _ us hl=>lx2 (fun _ _=>rfl) us hl
theorem b_Jc (T:Txt K mg t):Binds K t.d_Jc ["stretch","many"] []:=(T.e_Jc ▸ T.F_Jc).binds fun _ _ _ _ _ _ us hl=>lx2 (fun _ _=>rfl) us hl
theorem b_Ju (T:Txt K mg t):Binds K t.d_Ju ["width"] []:=(T.e_Ju ▸ T.F_Ju).binds fun _ _ _ _ _ _ us hl=>lx1 (fun _=>rfl) us hl
theorem b_Jj (T:Txt K mg t):Binds K t.d_Jj ["value","width"] []:=(T.e_Jj ▸ T.F_Jj).binds fun _ _ _ _ _ _ us hl=>lx2 (fun _ _=>rfl) us hl
theorem b_Je (T:Txt K mg t):Binds K t.d_Je ["self","marks","widths","stretches"] []:=(T.e_Je ▸ T.F_Je).binds fun _ _ _ _ _ _ us hl=>lx4 (fun _ _ _ _=>rfl) us hl
theorem b_J0 (T:Txt K mg t):Binds K t.d_J0 ["self"] []:=(T.e_J0 ▸ T.F_J0).binds fun _ _ _ _ _ _ us hl=>lx1 (fun _=>rfl) us hl
theorem b_Jf (T:Txt K mg t):Binds K t.d_Jf ["self"] []:=(T.e_Jf ▸ T.F_Jf).binds fun _ _ _ _ _ _ us hl=>lx1 (fun _=>rfl) us hl
theorem b_J3 (T:Txt K mg t):Binds K t.d_J3 ["self","stretch"] []:=(T.e_J3 ▸ T.F_J3).binds fun _ _ _ _ _ _ us hl=>lx2 (fun _ _=>rfl) us hl
theorem b_J5 (T:Txt K mg t):Binds K t.d_J5 ["self","part","number","stretch"] []:=(T.e_J5 ▸ T.F_J5).binds fun _ _ _ _ _ _ us hl=>lx4 (fun _ _ _ _=>rfl) us hl
theorem b_J1 (T:Txt K mg t):Binds K t.d_J1 ["self","called","stretch"] []:=(T.e_J1 ▸ T.F_J1).binds fun _ _ _ _ _ _ us hl=>lx3 (fun _ _ _=>rfl) us hl
theorem b_Jk (T:Txt K mg t):Binds K t.d_Jk ["self","program"] []:=(T.e_Jk ▸ T.F_Jk).binds fun _ _ _ _ _ _ us hl=>lx2 (fun _ _=>rfl) us hl
theorem b_Jd (T:Txt K mg t):Binds K t.d_Jd ["self"] []:=(T.e_Jd ▸ T.F_Jd).binds fun _ _ _ _ _ _ us hl=>lx1 (fun _=>rfl) us hl
theorem b_J6 (T:Txt K mg t):Binds K t.d_J6 ["self"] []:=(T.e_J6 ▸ T.F_J6).binds fun _ _ _ _ _ _ us hl=>lx1 (fun _=>rfl) us hl
theorem b_Jl (T:Txt K mg t):Binds K t.d_Jl ["self"] []:=(T.e_Jl ▸ T.F_Jl).binds fun _ _ _ _ _ _ us hl=>lx1 (fun _=>rfl) us hl
theorem b_J2 (T:Txt K mg t):Binds K t.d_J2 ["self","row","stretch","number"] []:=(T.e_J2 ▸ T.F_J2).binds fun _ _ _ _ _ _ us hl=>lx4 (fun _ _ _ _=>rfl) us hl
theorem b_Jm (T:Txt K mg t):Binds K t.d_Jm ["self","counter"] []:=(T.e_Jm ▸ T.F_Jm).binds fun _ _ _ _ _ _ us hl=>lx2 (fun _ _=>rfl) us hl
theorem b_J7 (T:Txt K mg t):Binds K t.d_J7 ["self","stretch","number"] []:=(T.e_J7 ▸ T.F_J7).binds fun _ _ _ _ _ _ us hl=>lx3 (fun _ _ _=>rfl) us hl
theorem b_Jn (T:Txt K mg t):Binds K t.d_Jn ["self","mark","side"] []:=(T.e_Jn ▸ T.F_Jn).binds fun _ _ _ _ _ _ us hl=>lx3 (fun _ _ _=>rfl) us hl
theorem b_Jo (T:Txt K mg t):Binds K t.d_Jo ["self","counter","value"] []:=(T.e_Jo ▸ T.F_Jo).binds fun _ _ _ _ _ _ us hl=>lx3 (fun _ _ _=>rfl) us hl
theorem b_Jg (T:Txt K mg t):Binds K t.d_Jg ["self"] []:=(T.e_Jg ▸ T.F_Jg).binds fun _ _ _ _ _ _ us hl=>lx1 (fun _=>rfl) us hl
theorem b_Jh (T:Txt K mg t):Binds K t.d_Jh ["self"] []:=(T.e_Jh ▸ T.F_Jh).binds fun _ _ _ _ _ _ us hl=>lx1 (fun _=>rfl) us hl
theorem b_J8 (T:Txt K mg t):Binds K t.d_J8 ["self"] []:=(T.e_J8 ▸ T.F_J8).binds fun _ _ _ _ _ _ us hl=>lx1 (fun _=>rfl) us hl
theorem b_J9 (T:Txt K mg t):Binds K t.d_J9 ["self","counter"] []:=(T.e_J9 ▸ T.F_J9).binds fun _ _ _ _ _ _ us hl=>lx2 (fun _ _=>rfl) us hl
theorem b_Jp (T:Txt K mg t):Binds K t.d_Jp ["self","mark"] []:=(T.e_Jp ▸ T.F_Jp).binds fun _ _ _ _ _ _ us hl=>lx2 (fun _ _=>rfl) us hl
end
def Dr (ds:List Int):Prop:=∀ d ∈ ds,0<=d/\d<10 ^ 18
def sp_draws (K:PySem.W.Frag):Sp:=fun vs H Q _=>∃ (a:Addr) (ns:List Int) (n:Int) (L:Kn),vs=[.ref a,.int n]/\SqL K H a (ns.map V.int)/\ns.length<=63/\0<=n/\n<=1000/\Has H L /\
 ∀ H' p ds,Has H' ((p,.lst (ds.map V.int))::L)->ds.length=n.toNat->Dr ds->Q (.ref p) H'
section
variable {P:Program}{w:World}{K:PySem.W.Frag}{mg:Str->Option Value}{base:Heap}{t:Adr}
theorem scD:FnScope ["_law_script","_law_many","_law_row_here","_law_base","_law_cell","_law_left","_law_turn"] ["_law_script","_law_many"] (defScope s_draws):=⟨rfl,rfl,rfl,by decide +kernel,rfl,by decide +kernel,by decide +kernel⟩
theorem Dr.snoc {ds:List Int}{d:Int} (h:Dr ds) (h0:0<=d) (h1:d<10 ^ 18):Dr (ds++[d]):=fun x hx=>by
 rcases mem_append.mp hx with hx | hx
 ·exact h x hx
 ·have:x=d:=by simpa using hx
  subst this; exact⟨h0,h1⟩
theorem map_snoc (ds:List Int) (d:Int):ds.map V.int++[V.int d]=(ds++[d]).map V.int:=by simp
theorem ok_draws (T:Txt K mg t):FnOk P w K mg base CX0 1 t.f_draws t.d_draws ["_law_script","_law_many"] (sp_draws K):=by
 refine T.F_draws.ok scD (fun vs H Q E h=>?_) (fun cdv A outer s H vs Q E hr h=>?_)
 ·obtain⟨_,_,_,_,rfl,_⟩:=h
  rfl
 ·obtain⟨a,ns,n,L,rfl,hS,hns,hn0,hn1,hL,k⟩:=h
  refine⟨_,(pss_cons (ps_set (i:=2) scD.nd rfl (Or.inl rfl) (pe_lst pa_nil))
   (pss_cons (ps_set (i:=3) scD.nd rfl (Or.inl rfl) pe_int)
   (pss_cons (ps_for PassesOwn.never rfl (pi_list (pe_slice sl_list (pv 0) po_none (po_some pe_int))) (pg_name (i:=4) scD.nd rfl (Or.inl rfl))
    (pss_cons (ps_set (i:=5) scD.nd rfl (Or.inl rfl) (pe_callB call_abs (by rfl) T.z_abs (by rfl) (pa_cons (pv 4) pa_nil)))
     (pss_cons (ps_set (i:=3) scD.nd rfl (Or.inl rfl) (pe_op op_mod (pe_op op_add (pe_op op_add (pe_op op_mul (pv 3) pe_int) (pv 5)) (pe_op op_mul pe_int (pe_callTy call_int1 (by rfl) T.z_int (by rfl) (pa_cons (pe_cmpR op_lt (pv 4) pe_int (nomark _)) pa_nil)))) pe_int))
     (pss_one (ps_if (pt_cmpR op_lt (pv 5) (pe_op op_pow pe_int pe_int) (nomark _))
      (pss_one (ps_expr (pe_bm PySem.F.plainAttrs_list PySem.F.slot_list_append PySem.F.type_list_append mt_append (pv 2) (pa_cons (pv 5) pa_nil))))
      (pss_one (ps_for PassesOwn.never rfl (pi_range1 (by rfl) T.z_range (pa_cons pe_int pa_nil)) (pg_name (i:=6) scD.nd rfl (Or.inl rfl))
        (pss_one (ps_if (pt_cmpR op_gt (pv 5) pe_int (nomark _))
          (pss_cons (ps_expr (pe_bm PySem.F.plainAttrs_list PySem.F.slot_list_append PySem.F.type_list_append mt_append (pv 2) (pa_cons (pe_op op_mod (pv 5) pe_int) pa_nil)))
           (pss_one (ps_set (i:=5) scD.nd rfl (Or.inl rfl) (pe_op op_fdiv (pv 5) pe_int))))
          pss_nil)))))))))
   (pss_cons (ps_while PassesOwn.never (pt_cmpR op_lt (pe_callB call_len_seq (by rfl) T.z_len (by rfl) (pa_cons (pv 2) pa_nil)) (pv 1) (nomark _))
    (pss_cons (ps_set (i:=3) scD.nd rfl (Or.inl rfl) (pe_op op_mod (pe_op op_add (pe_op op_mul (pv 3) pe_int) pe_int) pe_int))
     (pss_one (ps_expr (pe_bm PySem.F.plainAttrs_list PySem.F.slot_list_append PySem.F.type_list_append mt_append (pv 2) (pa_cons (pe_op op_mod (pe_op op_fdiv (pe_op op_mul (pv 3) (pv 3)) pe_int) pe_int) pa_nil))))))
   (pss_one (ps_ret (pe_slice sl_list (pv 2) po_none (po_some (pv 1))))))))),?_⟩
  refine⟨by decide,fun r hr0=>?_⟩
  have h1:=hL.alloc hr0 (.lst [])
  have hS1:SqL K (upd H r (.lst [])) a (ns.map V.int):=hS.alloc hr0
  generalize upd H r (.lst [])=H1 at *
  refine⟨_,rfl,_,rfl,a,_,rfl,hS1,fun sl hsl=>?_⟩
  have h2:=h1.alloc hsl (.lst (cutV (ns.map V.int) none (some 63)))
  generalize upd H1 sl (.lst (cutV (ns.map V.int) none (some 63)))=H2 at *
  refine⟨sl,rfl,⟨_,SqL.of (h2.get 0 rfl)⟩,?_⟩
  refine for_list (K:=K) (a:=sl) (xs:=cutV (ns.map V.int) none (some 63)) (fun i σ H'=>∃ (row:List Int) (b:Int) (c l t:Option V),σ=[some (.ref a),some (.int n),some (.ref r),some (.int b),c,l,t] /\
   Has H' ((r,.lst (row.map V.int))::(sl,.lst (cutV (ns.map V.int) none (some 63)))::L)/\row.length<=60*i/\Dr row/\0<=b/\b<2147483647)
   ⟨[],7,none,none,none,rfl,h2.swap2,Nat.zero_le _,(fun _ h=>nomatch h),by decide,by decide⟩ (fun i σ H' _ ⟨row,b,c,l,t,_,h,_⟩=>SqL.of (h.get 1 rfl)) ?_ ?_
  ·rintro i y σ H' hi ⟨row,b,c,l,t,rfl,h3,hlen,hd,b0,b1⟩
   have hi63:i<63:=by
    have h5:=(List.getElem?_eq_some_iff.mp hi).1
    rw[cut_take _ _ (by decide),length_take,length_map] at h5
    omega
   obtain⟨z,rfl⟩:∃ z,y=V.int z:=by
    rw[cut_take _ _ (by decide),List.getElem?_take_of_lt (by omega),getElem?_map] at hi
    cases e:ns[i]? with
    | none=>rw[e] at hi; cases hi
    | some z=>rw[e] at hi; exact⟨z,(Option.some.inj hi).symm⟩
   refine⟨_,rfl,_,rfl,?_⟩
   have hab:0<=(if z<0 then -z else z):=by split <;> omega
   generalize (if z<0 then -z else z)=left at *
   refine⟨_,rfl,_,_,rfl,rfl,.inl ⟨by omega,by omega⟩,_,rfl,_,_,rfl,rfl,_,rfl,_,_,rfl,rfl,.inr ⟨_,rfl,_,_,rfl,rfl,.inl ⟨by decide,by decide⟩,_,_,rfl,rfl,_,_,rfl,rfl,(show(0:Int)<2147483647 by decide),?_⟩⟩
   have hb0:=Int.emod_nonneg (b*48271+left+2*(if decide (z<0)=true then 1 else 0)) (show(2147483647:Int)≠0 by decide)
   have hb1:=Int.emod_lt_of_pos (b*48271+left+2*(if decide (z<0)=true then 1 else 0)) (show(0:Int)<2147483647 by decide)
   refine⟨_,rfl,_,_,rfl,rfl,⟨by decide,by decide,by decide⟩,_,_,rfl,rfl,_,rfl,?_⟩
   refine ite2 (fun hc=>?_) (fun hc=>?_)
   ·have hc':left<10 ^ 18:=of_decide_eq_true hc
    refine⟨_,rfl,.inl ⟨rfl,_,SqL.of (h3.get 0 rfl)⟩,_,rfl,r,_,_,rfl,rfl,h3.get 0 rfl,?_,?_⟩
    ·rw[length_map]
     exact sizeOk (by omega)
    ·refine⟨row++[left],_,_,_,_,rfl,?_,?_,hd.snoc hab hc',hb0,hb1⟩
     ·rw[<- map_snoc]
      exact h3.puti 0 rfl _
     ·rw[length_append,length_singleton]; omega
   ·-- for turn in range(60)
    refine⟨_,rfl,by decide,by decide,for_range (n:=60) (fun j σ H2=>∃ (row2:List Int) (l2:Int) (t2:Option V) (b2:Int),0<=b2/\b2<2147483647/\σ=[some (.ref a),some (.int n),some (.ref r),some (.int b2),some (.int z),some (.int l2),t2] /\
     Has H2 ((r,.lst (row2.map V.int))::(sl,.lst (cutV (ns.map V.int) none (some 63)))::L)/\row2.length<=row.length+j/\Dr row2/\0<=l2) ⟨row,_,_,_,hb0,hb1,rfl,h3,Nat.le_add_right _ _,hd,hab⟩ ?_ ?_⟩
    ·rintro j σ H2 hj ⟨row2,l2,t2,b2,hb20,hb21,rfl,h4,hlen2,hd2,hl2⟩
     refine⟨_,rfl,_,_,rfl,rfl,_,rfl,?_⟩
     refine ite2 (fun hc2=>?_) (fun hc2=>?_)
     ·refine⟨_,rfl,.inl ⟨rfl,_,SqL.of (h4.get 0 rfl)⟩,_,rfl,_,_,rfl,rfl,(show(0:Int)<10007 by decide),r,_,_,rfl,rfl,h4.get 0 rfl,?_,?_⟩
      ·rw[length_map]
       exact sizeOk (by omega)
      ·refine⟨_,rfl,_,_,rfl,rfl,⟨by decide,by decide⟩,?_⟩
       refine⟨row2++[l2 % 10007],_,_,_,hb20,hb21,rfl,?_,?_,hd2.snoc (Int.emod_nonneg _ (by decide)) (Int.lt_trans (Int.emod_lt_of_pos _ (by decide)) (by decide)),Int.ediv_nonneg hl2 (by decide)⟩
       ·rw[<- map_snoc]
        exact h4.puti 0 rfl _
       ·rw[length_append,length_singleton]; omega
     ·exact⟨row2,l2,_,b2,hb20,hb21,rfl,h4,by omega,hd2,hl2⟩
    ·rintro σ H2 ⟨row2,l2,t2,b2,hb20,hb21,rfl,h4,hlen2,hd2,hl2⟩
     exact⟨row2,b2,_,_,_,rfl,h4,by omega,hd2,hb20,hb21⟩
  ·rintro σ H' ⟨row,b,c,l,t,rfl,h3,hlen,hd,b0,b1⟩
   have hlx:(cutV (ns.map V.int) none (some 63)).length<=63:=by
    rw[cut_take _ _ (by decide),length_take]; omega
   refine while_by (fun σ H'=>∃ (row:List Int) (b:Int) (c l t:Option V),σ=[some (.ref a),some (.int n),some (.ref r),some (.int b),c,l,t]/\Has H' ((r,.lst (row.map V.int))::L)/\row.length<=4000/\Dr row/\0<=b/\b<2147483647)
    (fun σ H'=>match H' r with | some (.lst xs)=>n.toNat - xs.length | _=>0) ⟨row,b,c,l,t,rfl,h3.swap2.tail,by omega,hd,b0,b1⟩ ?_ ?_
   ·rintro σ H' ⟨row,b,c,l,t,rfl,h4,hlen,hd,b0,b1⟩
    refine⟨_,rfl,r,_,rfl,.inl (SqL.of (h4.get 0 rfl)),_,rfl,_,_,rfl,rfl,_,rfl,?_⟩
    rw[length_map]
    refine ite2 (fun hc=>?_) (fun hc=>?_)
    ·have hc':(row.length:Int)<n:=of_decide_eq_true hc
     refine⟨_,rfl,_,_,rfl,rfl,.inl ⟨by omega,by omega⟩,_,_,rfl,rfl,_,_,rfl,rfl,(show(0:Int)<2147483647 by decide),?_⟩
     have hb0:=Int.emod_nonneg (b*69621+12289) (show(2147483647:Int)≠0 by decide)
     have hb1:=Int.emod_lt_of_pos (b*69621+12289) (show(0:Int)<2147483647 by decide)
     refine⟨_,rfl,.inl ⟨rfl,_,SqL.of (h4.get 0 rfl)⟩,_,rfl,_,rfl,_,_,rfl,rfl,.inl ⟨?_,?_⟩,_,_,rfl,rfl,⟨by decide,by decide⟩,_,_,rfl,rfl,(show(0:Int)<10007 by decide),r,_,_,rfl,rfl,h4.get 0 rfl,?_,?_⟩
     ·show -(2 ^ 64)<(b*69621+12289) % 2147483647
      omega
     ·show(b*69621+12289) % 2147483647<2 ^ 64
      omega
     ·rw[length_map]
      exact sizeOk (by omega)
     ·have hq0:=Int.emod_nonneg ((b*69621+12289) % 2147483647*((b*69621+12289) % 2147483647) / 4099) (show(10007:Int)≠0 by decide)
      have hq1:=Int.emod_lt_of_pos ((b*69621+12289) % 2147483647*((b*69621+12289) % 2147483647) / 4099) (show(0:Int)<10007 by decide)
      refine⟨⟨row++[(b*69621+12289) % 2147483647*((b*69621+12289) % 2147483647) / 4099 % 10007],_,_,_,_,rfl,?_,?_,hd.snoc hq0 (Int.lt_trans hq1 (by decide)),hb0,hb1⟩,?_⟩
      ·rw[<- map_snoc]
       exact h4.puti 0 rfl _
      ·rw[length_append,length_singleton]; omega
      ·have e1:H' r=some (.lst (row.map V.int)):=h4.get 0 rfl
       simp only[e1,upd_same,length_append,length_map,length_singleton]
       omega
    ·have hc':¬ (row.length:Int)<n:=fun z=>hc (decide_eq_true z)
     refine⟨_,rfl,_,rfl,_,rfl,r,_,rfl,SqL.of (h4.get 0 rfl),fun p hp=>?_⟩
     refine k _ p (row.take n.toNat) ?_ (by rw[length_take]; omega) (fun d hd'=>hd d (List.mem_of_mem_take hd'))
     have h5:=(h4.tail).alloc hp (.lst (cutV (row.map V.int) none (some n)))
     rw[cut_take _ _ hn0,<- List.map_take] at h5 ⊢
     exact h5
   ·rintro σ H' Q1 Q2 hQ ⟨v,e,p,ys,e2,h,w',e3,i,j,e4,e5,c,e6,q⟩
    exact⟨v,e,p,ys,e2,h,w',e3,i,j,e4,e5,c,e6,hQ _ _ q⟩
end
def sp_whole:Sp:=fun vs H Q _=>∃ i:Int,vs=[.int i]/\Q (.bl true) H
def sp_is:Sp:=fun vs H Q _=>∃ i j:Int,vs=[.int i,.int j]/\Q (.bl (decide (i=j))) H
theorem kit_ii (K:PySem.W.Frag):PySem.W.kitOne K (.type "int") (.type "int")=some true:=by kernel_rfl
theorem kit_ib (K:PySem.W.Frag):PySem.W.kitOne K (.type "int") (.type "bool")=some false:=by kernel_rfl
theorem kit_ll (K:PySem.W.Frag):PySem.W.kitOne K (.type "list") (.type "list")=some true:=by kernel_rfl
section
variable {P:Program}{w:World}{K:PySem.W.Frag}{mg:Str->Option Value}{base:Heap}{t:Adr}
theorem scWh:FnScope ["_law_found"] ["_law_found"] (defScope s_whole):=⟨rfl,rfl,rfl,by decide +kernel,rfl,by decide +kernel,by decide +kernel⟩
theorem ok_whole (T:Txt K mg t):FnOk P w K mg base CX0 1 t.f_whole t.d_whole ["_law_found"] sp_whole:=by
 refine T.F_whole.ok scWh (fun vs H Q E h=>?_) (fun cdv A outer s H vs Q E hr h=>?_)
 ·obtain⟨_,rfl,_⟩:=h
  rfl
 ·obtain⟨i,rfl,k⟩:=h
  refine⟨_,(pss_one (ps_ret (pe_and (pe_callB call_isi (by rfl) T.z_isinstance (by rfl) (pa_cons (pv 0) (pa_cons (pe_bltn (v:=.ty "int") (by rfl) T.z_int (by rfl) rfl) pa_nil))) (pe_one (pe_not (pe_callB call_isi (by rfl) T.z_isinstance (by rfl) (pa_cons (pv 0) (pa_cons (pe_bltn (v:=.ty "bool") (by rfl) T.z_bool (by rfl) rfl) pa_nil)))))))),?_⟩
  refine⟨_,rfl,_,_,_,_,rfl,.int i,kit_ii K,_,rfl,iteT ?_⟩
  exact⟨_,rfl,_,_,_,_,rfl,.int i,kit_ib K,_,rfl,k⟩
theorem scIs:FnScope ["_law_found","_law_due"] ["_law_found","_law_due"] (defScope s_is):=⟨rfl,rfl,rfl,by decide +kernel,rfl,by decide +kernel,by decide +kernel⟩
theorem ok_is (T:Txt K mg t):FnOk P w K mg base CX0 2 t.f_is t.d_is ["_law_found","_law_due"] sp_is:=by
 refine T.F_is.ok scIs (fun vs H Q E h=>?_) (fun cdv A outer s H vs Q E hr h=>?_)
 ·obtain⟨_,_,rfl,_⟩:=h
  rfl
 ·obtain⟨i,j,rfl,k⟩:=h
  refine⟨_,(pss_one (ps_ret (pe_and (pe_call (ok_whole T) (hr.mono (by decide)) (by rfl) T.m_whole T.F_whole.kp (b_whole T) .nil pass0 (pa_cons (pv 0) pa_nil)) (pe_one (pe_cmpR op_eq (pv 0) (pv 1) (nomark _)))))),?_⟩
  refine⟨_,rfl,i,rfl,_,rfl,iteT ?_⟩
  refine⟨_,rfl,_,rfl,rfl,?_⟩
  have e:decide (V.int i=V.int j)=decide (i=j):=by by_cases h:i=j <;> simp[h]
  rw[e]
  exact k
end
def sp_Jq:Sp:=fun vs H Q _=>∃ s:Int,vs=[.int s]/\(s=1∨s=2)/\Q .non H
section
variable {P:Program}{w:World}{K:PySem.W.Frag}{mg:Str->Option Value}{base:Heap}{t:Adr}
theorem decInt (i j:Int):decide (V.int i=V.int j)=decide (i=j):=by by_cases h:i=j <;> simp[h]
theorem scCs:FnScope ["side"] ["side"] (defScope s_Jq):=⟨rfl,rfl,rfl,by decide +kernel,rfl,by decide +kernel,by decide +kernel⟩
theorem ok_Jq (T:Txt K mg t):FnOk P w K mg base CX0 1 t.f_Jq t.d_Jq ["side"] sp_Jq:=by
 refine T.F_Jq.ok scCs (fun vs H Q E h=>?_) (fun cdv A outer s H vs Q E hr h=>?_)
 ·obtain⟨_,rfl,_⟩:=h
  rfl
 ·obtain⟨z,rfl,hz,q⟩:=h
  refine⟨_,(pss_one (ps_if (PW.pt (pw_and (pt_cmpR op_ne (pv 0) pe_int (nomark _)) (pw_and1 (pt_cmpR op_ne (pv 0) pe_int (nomark _)))))
    (pss_one ps_never)
    pss_nil)),?_⟩
  refine⟨_,rfl,rfl,_,rfl,?_⟩
  rw[decInt]
  refine ifdn (fun hc=>?_) (fun hc=>iteF q)
  refine⟨_,rfl,rfl,_,rfl,?_⟩
  rw[decInt]
  exact ifF (by simp; omega) q
end
def sp_J11:Sp:=fun vs H Q _=>∃ (a b:Addr) (xs ys:List Int) (i j:Nat) (L:Kn),vs=[.ref a,.ref b]/\Has H L/\L[i]?=some (a,.lst (xs.map V.int))/\L[j]?=some (b,.lst (ys.map V.int))/\xs.length<=100000/\∀ H',Has H' L->Q (.bl (decide (xs=ys))) H'
theorem all_eq:∀ {xs ys:List Int},xs.length=ys.length->((xs.zip ys).map fun p=>decide (p.1=p.2)).all id=decide (xs=ys)
 | [],[],_=>rfl
 | x::xs,y::ys,h=>by
  have ih:=all_eq (xs:=xs) (ys:=ys) (by simpa using h)
  rw[List.zip_cons_cons,map_cons,List.all_cons,ih]
  by_cases e:x=y
  ·subst e; simp
  ·simp[e]
section
variable {P:Program}{w:World}{K:PySem.W.Frag}{mg:Str->Option Value}{base:Heap}{t:Adr}
theorem scIr:FnScope ["_law_found","_law_due"] ["_law_found","_law_due"] (defScope s_J11):=⟨rfl,rfl,rfl,by decide +kernel,rfl,by decide +kernel,by decide +kernel⟩
theorem ok_J11 (T:Txt K mg t):FnOk P w K mg base CX0 3 t.f_J11 t.d_J11 ["_law_found","_law_due"] sp_J11:=by
 refine T.F_J11.ok scIr (fun vs H Q E h=>?_) (fun cdv A outer s H vs Q E hr h=>?_)
 ·obtain⟨_,_,_,_,_,_,_,rfl,_⟩:=h
  rfl
 ·obtain⟨a,b,xs,ys,i,j,L,rfl,hH,hi,hj,hxl,q⟩:=h
  refine⟨_,(pss_cons (ps_if (PW.pt (pw_or (pt_not (pt_val (pe_callB call_isi (by rfl) T.z_isinstance (by rfl) (pa_cons (pv 0) (pa_cons (pe_bltn (v:=.ty "list") (by rfl) T.z_list (by rfl) rfl) pa_nil))))) (pw_or1 (pt_cmpR op_ne (pe_callB call_len_seq (by rfl) T.z_len (by rfl) (pa_cons (pv 0) pa_nil)) (pe_callB call_len_seq (by rfl) T.z_len (by rfl) (pa_cons (pv 1) pa_nil)) (nomark _)))))
    (pss_one (ps_ret pe_bl))
    pss_nil)
   (pss_one (ps_ret (pe_callB (call_all rfl) (by rfl) T.z_all (by rfl) (pa_cons (pe_lc (esc:=defScope s_J11) (k:=2) ["_law_one","_law_other","_law_found","_law_due"] rfl (pi_zip (by rfl) T.z_zip (pa_cons (pv 0) (pa_cons (pv 1) pa_nil))) (fun _ _ _ _ _=>by exact(pg_tupK (K:=K) (n:=2) rfl rfl (pgs_cons (pg_name (i:=0) (show List.Nodup (["_law_one","_law_other","_law_found","_law_due"]:List Str) from by decide +kernel) rfl (Or.inl rfl)) (pgs_cons (pg_name (i:=1) (show List.Nodup (["_law_one","_law_other","_law_found","_law_due"]:List Str) from by decide +kernel) rfl (Or.inl rfl)) pgs_nil)))) (fun _ _ _ _ _=>by exact pts_nil) (fun _ _ _ _ _=>by exact(pe_call (ok_is T) (hr.mono (by decide)) (by rfl) T.m_is T.F_is.kp (b_is T) .nil pass0 (pa_cons (pv 0) (pa_cons (pv 1) pa_nil)))) rfl (by decide +kernel) (by decide +kernel) rfl (by decide +kernel) (by rfl) (fun _ _ h _=>h) (by decide +kernel)) pa_nil))))),?_⟩
  refine⟨_,rfl,_,_,_,_,rfl,.lst (hH.get i hi),kit_ll K,_,rfl,iteF ?_⟩
  refine⟨_,rfl,a,_,rfl,.inl (SqL.of (hH.get i hi)),_,rfl,b,_,rfl,.inl (SqL.of (hH.get j hj)),rfl,_,rfl,?_⟩
  rw[length_map,length_map,decInt]
  refine ifdn (fun hc=>?_) (fun hc=>?_)
  ·have e:decide (xs=ys)=false:=decide_eq_false (fun z=>hc (by rw[z]))
   rw[e] at q
   exact q _ hH
  ·have hl:xs.length=ys.length:=by omega
   refine⟨_,rfl,_,rfl,a,b,rfl,⟨_,SqL.of (hH.get i hi)⟩,⟨_,SqL.of (hH.get j hj)⟩,fun D hD=>?_⟩
   refine⟨fun n m zs H'=>m=xs.length - n/\n<=xs.length/\zs=((xs.zip ys).take n).map (fun p=>V.bl (decide (p.1=p.2)))/\Has H' ((D,.lst zs)::L),⟨xs.length,by simp,Nat.zero_le _,rfl,hH.alloc hD _⟩,?_⟩
   rintro n m zs H' ⟨rfl,hn,rfl,h1⟩
   refine⟨h1.get 0 rfl,?_⟩
   have ga:=h1.get (i+1) (by simpa using hi)
   have gb:=h1.get (j+1) (by simpa using hj)
   by_cases hlt:n<xs.length
   ·refine .inr ⟨⟨_,_,_,_,SqL.of ga,(by rw[getElem?_map,getElem?_eq_getElem hlt]; rfl),SqL.of gb,(by rw[getElem?_map,getElem?_eq_getElem (by omega)]; rfl)⟩,?_⟩
    rintro x H2 ⟨p,x1,y1,rfl,hp,rfl,hx1,hy1⟩
    have hx2:=hx1 _ (SqL.of ga)
    have hy2:=hy1 _ (SqL.of gb)
    rw[getElem?_map,getElem?_eq_getElem hlt] at hx2
    rw[getElem?_map,getElem?_eq_getElem (by omega)] at hy2
    cases hx2
    cases hy2
    have h2:=h1.alloc hp (.tup [.int xs[n],.int (ys[n]'(by omega))])
    refine⟨p,_,rfl,SqT.of (h2.get 0 rfl),rfl,_,_,rfl,_,_,rfl,rfl,rfl,?_⟩
    refine tTrueT ?_
    refine⟨_,rfl,_,rfl,_,_,rfl,?_⟩
    refine⟨?_,h2.get 1 rfl,xs.length - (n+1),by omega,rfl,hlt,?_,?_⟩
    ·rw[length_map,length_take]
     exact sizeOk (by omega)
    ·rw[List.take_succ,map_append,getElem?_eq_getElem (by rw[List.length_zip]; omega),List.getElem_zip]
     rfl
    ·exact(h2.puti 1 rfl _).tail
   ·have en:n=xs.length:=by omega
    refine .inl ⟨⟨_,_,SqL.of ga,SqL.of gb,.inl (by rw[length_map]; omega)⟩,?_⟩
    refine⟨D,((xs.zip ys).map fun p=>decide (p.1=p.2)),rfl,?_,?_⟩
    ·have e:((xs.zip ys).take n).map (fun p=>V.bl (decide (p.1=p.2)))=((xs.zip ys).map fun p=>decide (p.1=p.2)).map V.bl:=by
      rw[List.take_of_length_le (by rw[List.length_zip]; omega),map_map]; rfl
     rw[<- e]
     exact SqL.of (h1.get 0 rfl)
    ·rw[all_eq hl]
     exact q _ h1.tail
end
set_option genInjectivity false in
set_option genSizeOf false in
structure PA where
 p:Addr
 dx:Addr
 m:Addr
 w:Addr
 s:Addr
def pfl (A:PA):List (Str×V):=[("mark_sides",.ref A.m),("counter_widths",.ref A.w),("stretches",.ref A.s)]
theorem pfl_m (A:PA):(pfl A).lookup ("mark_sides" : Str)=some (.ref A.m):=by kernel_rfl
theorem pfl_w (A:PA):(pfl A).lookup ("counter_widths" : Str)=some (.ref A.w):=by kernel_rfl
theorem pfl_s (A:PA):(pfl A).lookup ("stretches" : Str)=some (.ref A.s):=by kernel_rfl
theorem pfl_n (A:PA):(pfl A).lookup ("many" : Str)=none/\(pfl A).lookup ("marks" : Str)=none/\(pfl A).lookup ("widths" : Str)=none/\(pfl A).lookup ("row_at" : Str)=none/\(pfl A).lookup ("check_beginning" : Str)=none/\(pfl A).lookup ("check_rows" : Str)=none/\(pfl A).lookup ("check_part" : Str)=none :=
 ⟨by kernel_rfl,by kernel_rfl,by kernel_rfl,by kernel_rfl,by kernel_rfl,by kernel_rfl,by kernel_rfl⟩
theorem pfl_cc (A:PA):(pfl A).lookup ("check_called" : Str)=none:=by kernel_rfl
set_option genInjectivity false in
set_option genSizeOf false in
inductive Rw where
 | bell (n:Int)
 | set (m s:Int)
 | ask (m a b:Int)
 | bump (c r:Int)
 | go (r:Int)
 | call (s:Int)
 | fin
def Rw.ws:Rw->Str
 | .bell _ => "bell"
 | .set _ _ => "set"
 | .ask _ _ _ => "ask"
 | .bump _ _ => "bump"
 | .go _ => "go"
 | .call _ => "call"
 | .fin => "end"
def Rw.ns:Rw->List Int
 | .bell n=>[n]
 | .set m s=>[m,s]
 | .ask m a b=>[m,a,b]
 | .bump c r=>[c,r]
 | .go r=>[r]
 | .call s=>[s]
 | .fin=>[]
def Rw.v (x:Rw):List V:=.str x.ws::x.ns.map V.int
def Rw.ps:Rw->List Str
 | .bell _=>["note"]
 | .set _ _=>["mark","side"]
 | .ask _ _ _=>["mark","row","row"]
 | .bump _ _=>["counter","row"]
 | .go _=>["row"]
 | .call _=>["stretch"]
 | .fin=>[]
def Rw.last:Rw->Bool
 | .ask _ _ _=>true
 | .go _=>true
 | .fin=>true
 | _=>false
def Rw.ok (nm nc nr k ns:Nat):Rw->Prop
 | .bell n=>0<=n/\n<=9999
 | .set m s=>0<=m/\m<nm/\(s=1∨s=2)
 | .ask m a b=>0<=m/\m<nm/\0<=a/\a<nr/\0<=b/\b<nr
 | .bump c r=>0<=c/\c<nc/\0<=r/\r<nr
 | .go r=>0<=r/\r<nr
 | .call s=>(k:Int)<s/\s<ns
 | .fin=>True
theorem Rw.len (x:Rw):x.ps.length=x.ns.length:=by cases x <;> rfl
theorem Rw.psl (x:Rw):x.ps.length<=1000:=by cases x <;> simp[Rw.ps]
theorem Rw.nsl (x:Rw):x.ns.length+1<=4:=by cases x <;> simp[Rw.ns]
theorem Rw.lastIn:∀ (x:Rw),x.last=true->(!inV (.str x.ws) [.str "ask",.str "go",.str "end"])=false
 | .ask _ _ _,_=>(by decide +kernel:(!inV (.str ("ask" : Str)) [.str "ask",.str "go",.str "end"])=false)
 | .go _,_=>(by decide +kernel:(!inV (.str ("go" : Str)) [.str "ask",.str "go",.str "end"])=false)
 | .fin,_=>(by decide +kernel:(!inV (.str ("end" : Str)) [.str "ask",.str "go",.str "end"])=false)
 | .bell _,h=>nomatch h
 | .set _ _,h=>nomatch h
 | .bump _ _,h=>nomatch h
 | .call _,h=>nomatch h
theorem cutok {n:Nat} (h1:1<=n) (h2:n<=4):¬ (HT.sIx n 0 (some 1)=0/\HT.sIx n n none=n):=by
 match n with
 | 1=>decide
 | 2=>decide
 | 3=>decide
 | 4=>decide
def partsD:List (Str×List Str):=[("bell",["note"]),("set",["mark","side"]),("ask",["mark","row","row"]),("bump",["counter","row"]),("go",["row"]),("call",["stretch"]),("end",[])]
theorem Rw.parts (x:Rw):partsD.lookup x.ws=some x.ps:=by cases x <;> rfl
def rwV (rs:List (Addr×Rw)):List V:=rs.map fun x=>V.ref x.1
abbrev Ss:=List (Addr×List (Addr×Rw))
def ssV (ss:Ss):List V:=ss.map fun z=>V.ref z.1
def PartOk (nm nc nr k ns:Nat) (p:Str) (n:Int):Prop :=
 (p = "note" /\ 0<=n/\n<=9999)∨(p = "mark" /\ 0<=n/\n<nm)∨(p = "side" /\ (n=1∨n=2))∨(p = "counter" /\ 0<=n/\n<nc)∨(p = "row" /\ 0<=n/\n<nr)∨(p = "stretch" /\ (k:Int)<n/\n<ns)
theorem Rw.part {nm nc nr k ns:Nat}{x:Rw} (h:x.ok nm nc nr k ns) {i:Nat}{p:Str}{n:Int} (hp:x.ps[i]?=some p) (hn:x.ns[i]?=some n):PartOk nm nc nr k ns p n:=by
 cases x with
 | bell k=>
  match i with
  | 0=>cases hp; cases hn; exact .inl ⟨rfl,h⟩
  | i+1=>cases hp
 | set m s=>
  match i with
  | 0=>cases hp; cases hn; exact .inr (.inl ⟨rfl,h.1,h.2.1⟩)
  | 1=>cases hp; cases hn; exact .inr (.inr (.inl ⟨rfl,h.2.2⟩))
  | i+2=>cases hp
 | ask m a b=>
  match i with
  | 0=>cases hp; cases hn; exact .inr (.inl ⟨rfl,h.1,h.2.1⟩)
  | 1=>cases hp; cases hn; exact .inr (.inr (.inr (.inr (.inl ⟨rfl,h.2.2.1,h.2.2.2.1⟩))))
  | 2=>cases hp; cases hn; exact .inr (.inr (.inr (.inr (.inl ⟨rfl,h.2.2.2.2.1,h.2.2.2.2.2⟩))))
  | i+3=>cases hp
 | bump c r=>
  match i with
  | 0=>cases hp; cases hn; exact .inr (.inr (.inr (.inl ⟨rfl,h.1,h.2.1⟩)))
  | 1=>cases hp; cases hn; exact .inr (.inr (.inr (.inr (.inl ⟨rfl,h.2.2.1,h.2.2.2⟩))))
  | i+2=>cases hp
 | go r=>
  match i with
  | 0=>cases hp; cases hn; exact .inr (.inr (.inr (.inr (.inl ⟨rfl,h.1,h.2⟩))))
  | i+1=>cases hp
 | call s=>
  match i with
  | 0=>cases hp; cases hn; exact .inr (.inr (.inr (.inr (.inr ⟨rfl,h.1,h.2⟩))))
  | i+1=>cases hp
 | fin=>cases hp
structure PIn (C:Addr) (A:PA) (ms ws:List Int) (ss:Ss) (L:Kn):Prop where
 p:(A.p,HO.ins C A.dx (pfl A)) ∈ L
 m:(A.m,HO.lst (ms.map V.int)) ∈ L
 w:(A.w,HO.lst (ws.map V.int)) ∈ L
 s:(A.s,HO.lst (ssV ss)) ∈ L
 l:∀ z ∈ ss,(z.1,HO.lst (rwV z.2)) ∈ L
 r:∀ z ∈ ss,∀ x ∈ z.2,(x.1,HO.tup x.2.v) ∈ L
structure PInN (C:Addr) (A:PA) (ms ws:List Int) (ss:Ss) (N:Kn):Prop where
 p:(A.p,HO.ins C A.dx (pfl A)) ∈ N
 m:(A.m,HO.lst (ms.map V.int)) ∈ N
 w:(A.w,HO.lst (ws.map V.int)) ∈ N
 s:(A.s,HO.lst (ssV ss)) ∈ N
 l:∀ z ∈ ss,(z.1,HO.lst (rwV z.2)) ∈ N
theorem PIn.mono {C:Addr}{A:PA}{ms ws:List Int}{ss:Ss}{L L':Kn} (h:PIn C A ms ws ss L) (s:∀ z ∈ L,z ∈ L'):PIn C A ms ws ss L' :=
 ⟨s _ h.p,s _ h.m,s _ h.w,s _ h.s,fun z hz=>s _ (h.l z hz),fun z hz x hx=>s _ (h.r z hz x hx)⟩
def Good (nm nc:Nat) (ss:Ss):Prop:=∀ (k:Nat) z,ss[k]?=some z->(∀ x ∈ z.2,x.2.ok nm nc z.2.length k ss.length)/\∃ a y,z.2.getLast?=some (a,y)/\y.last=true
theorem ssV_get {ss:Ss}{k:Nat}{z:Addr×List (Addr×Rw)} (h:ss[k]?=some z):(ssV ss)[k]?=some (.ref z.1):=by unfold ssV; rw[getElem?_map,h]; rfl
theorem rwV_get {rs:List (Addr×Rw)}{k:Nat}{z:Addr×Rw} (h:rs[k]?=some z):(rwV rs)[k]?=some (.ref z.1):=by unfold rwV; rw[getElem?_map,h]; rfl
theorem Good.tr {nm nc:Nat}{ss ss':Ss} (e:ss'.map (·.2)=ss.map (·.2)) (h:Good nm nc ss):Good nm nc ss':=by
 intro k z hz
 have hl:ss'.length=ss.length:=by simpa using congrArg List.length e
 have e2:(ss.map (·.2))[k]?=some z.2:=by rw[<- e,getElem?_map,hz]; rfl
 rw[getElem?_map] at e2
 obtain⟨z',h1,h2⟩:=Option.map_eq_some_iff.mp e2
 have:=h k z' h1
 rw[h2] at this
 rw[hl]
 exact this
def sp_Js:Sp:=fun vs H Q _=>∃ (n:Int) (m:Nat),vs=[.int n,.int m]/\0<=n/\n<m/\Q .non H
def sp_Ji:Sp:=fun vs H Q _=>∃ (n:Int),vs=[.int n]/\1<=n/\n<=8/\Q .non H
def sp_Ju:Sp:=fun vs H Q _=>∃ (n:Nat),vs=[.int n]/\n<=8/\Q (.int (1*2 ^ n - 1)) H
def sp_many (C:Addr):Sp:=fun vs H Q _=>∃ (A:PA) (st:List V),vs=[.ref A.p]/\H A.p=some (.ins C A.dx (pfl A))/\H A.s=some (.lst st)/\Q (.int st.length) H
def sp_pmarks (C:Addr):Sp:=fun vs H Q _=>∃ (A:PA) (ms:List V) (L:Kn),vs=[.ref A.p]/\Has H L/\(A.p,HO.ins C A.dx (pfl A)) ∈ L/\(A.m,HO.lst ms) ∈ L/\∀ H' l,Has H' ((l,.lst ms)::L)->Q (.ref l) H'
def sp_pwidths (C:Addr):Sp:=fun vs H Q _=>∃ (A:PA) (ms:List V) (L:Kn),vs=[.ref A.p]/\Has H L/\(A.p,HO.ins C A.dx (pfl A)) ∈ L/\(A.w,HO.lst ms) ∈ L/\∀ H' l,Has H' ((l,.lst ms)::L)->Q (.ref l) H'
def sp_row_at (C:Addr):Sp:=fun vs H Q _=>∃ (A:PA) (st:List V) (k:Nat) (rl:Addr) (rs:List V) (n:Nat) (v:V),vs=[.ref A.p,.int k,.int n]/\H A.p=some (.ins C A.dx (pfl A))/\H A.s=some (.lst st)/\st[k]?=some (.ref rl)/\H rl=some (.lst rs)/\rs[n]?=some v/\Q v H
def sp_check_beginning (C:Addr):Sp:=fun vs H Q _=>∃ (A:PA) (ms ws:List Int) (ss:Ss) (L:Kn),vs=[.ref A.p]/\Has H L/\PIn C A ms ws ss L/\(∀ x ∈ ms,x=1∨x=2)/\(∀ x ∈ ws,1<=x/\x<=8)/\ss≠[]/\Q .non H
def sp_check_called (C:Addr):Sp:=fun vs H Q _=>∃ (A:PA) (ms ws:List Int) (ss:Ss) (L:Kn) (n:Int) (k:Nat),vs=[.ref A.p,.int n,.int k]/\Has H L/\PIn C A ms ws ss L/\(k:Int)<n/\n<ss.length/\Q .non H
def sp_check_part (C:Addr):Sp:=fun vs H Q _=>∃ (A:PA) (ms ws:List Int) (ss:Ss) (L:Kn) (k:Nat) (p:Str) (n:Int) (z:Addr×List (Addr×Rw)),vs=[.ref A.p,.str p,.int n,.int k]/\Has H L/\PIn C A ms ws ss L/\ss[k]?=some z/\PartOk ms.length ws.length z.2.length k ss.length p n/\Q .non H
def sp_check_rows (C:Addr):Sp:=fun vs H Q _=>∃ (A:PA) (ms ws:List Int) (ss:Ss) (L:Kn) (k:Nat) (z:Addr×List (Addr×Rw)),vs=[.ref A.p,.int k]/\Has H L/\PIn C A ms ws ss L/\ss[k]?=some z/\(∀ x ∈ z.2,x.2.ok ms.length ws.length z.2.length k ss.length)/\(∃ a y,z.2.getLast?=some (a,y)/\y.last=true)/\∀ H',Has H' L->Q .non H'
def sp_Pinit (C:Addr):Sp:=fun vs H Q _=>∃ (p dx m0 w0 s0:Addr) (ms ws:List Int) (ss:Ss) (L:Kn),vs=[.ref p,.ref m0,.ref w0,.ref s0] /\
 Has H ((p,.ins C dx [])::(dx,.own p)::L)/\(m0,HO.lst (ms.map V.int)) ∈ L/\(w0,HO.lst (ws.map V.int)) ∈ L/\(s0,HO.lst (ssV ss)) ∈ L/\(∀ z ∈ ss,(z.1,HO.lst (rwV z.2)) ∈ L)/\(∀ z ∈ ss,∀ x ∈ z.2,(x.1,HO.tup x.2.v) ∈ L) /\
 (∀ x ∈ ms,x=1∨x=2)/\(∀ x ∈ ws,1<=x/\x<=8)/\ss≠[]/\ss.length<=1000/\Good ms.length ws.length ss /\
 ∀ H' A ss' N,A.p=p->ss'.map (·.2)=ss.map (·.2)->PInN C A ms ws ss' N->PIn C A ms ws ss' (N++L)->Has H' (N++L)->Q .non H'
section
variable {P:Program}{w:World}{K:PySem.W.Frag}{mg:Str->Option Value}{base:Heap}{t:Adr}
theorem scCm:FnScope ["mark","many"] ["mark","many"] (defScope s_Js):=⟨rfl,rfl,rfl,by decide +kernel,rfl,by decide +kernel,by decide +kernel⟩
theorem ok_Js (T:Txt K mg t):FnOk P w K mg base CX0 1 t.f_Js t.d_Js ["mark","many"] sp_Js:=by
 refine T.F_Js.ok scCm (fun vs H Q E h=>?_) (fun cdv A outer s H vs Q E hr h=>?_)
 ·obtain⟨_,_,rfl,_⟩:=h
  rfl
 ·obtain⟨n,m,rfl,n0,n1,q⟩:=h
  refine⟨_,(pss_one (ps_if (PW.pt (pw_or (pt_cmpR op_lt (pv 0) pe_int (nomark _)) (pw_or1 (pt_cmpR op_ge (pv 0) (pv 1) (nomark _)))))
    (pss_one ps_never)
    pss_nil)),?_⟩
  refine⟨_,rfl,_,_,rfl,rfl,_,rfl,ifF (decide_eq_false (by omega)) ?_⟩
  exact⟨_,rfl,_,rfl,_,_,rfl,rfl,_,rfl,ifF (decide_eq_false (by omega)) q⟩
theorem scCk:FnScope ["counter","many"] ["counter","many"] (defScope s_Jb):=⟨rfl,rfl,rfl,by decide +kernel,rfl,by decide +kernel,by decide +kernel⟩
theorem ok_Jb (T:Txt K mg t):FnOk P w K mg base CX0 1 t.f_Jb t.d_Jb ["counter","many"] sp_Js:=by
 refine T.F_Jb.ok scCk (fun vs H Q E h=>?_) (fun cdv A outer s H vs Q E hr h=>?_)
 ·obtain⟨_,_,rfl,_⟩:=h
  rfl
 ·obtain⟨n,m,rfl,n0,n1,q⟩:=h
  refine⟨_,(pss_one (ps_if (PW.pt (pw_or (pt_cmpR op_lt (pv 0) pe_int (nomark _)) (pw_or1 (pt_cmpR op_ge (pv 0) (pv 1) (nomark _)))))
    (pss_one ps_never)
    pss_nil)),?_⟩
  refine⟨_,rfl,_,_,rfl,rfl,_,rfl,ifF (decide_eq_false (by omega)) ?_⟩
  exact⟨_,rfl,_,rfl,_,_,rfl,rfl,_,rfl,ifF (decide_eq_false (by omega)) q⟩
theorem scCw:FnScope ["row","many"] ["row","many"] (defScope s_Jt):=⟨rfl,rfl,rfl,by decide +kernel,rfl,by decide +kernel,by decide +kernel⟩
theorem ok_Jt (T:Txt K mg t):FnOk P w K mg base CX0 1 t.f_Jt t.d_Jt ["row","many"] sp_Js:=by
 refine T.F_Jt.ok scCw (fun vs H Q E h=>?_) (fun cdv A outer s H vs Q E hr h=>?_)
 ·obtain⟨_,_,rfl,_⟩:=h
  rfl
 ·obtain⟨n,m,rfl,n0,n1,q⟩:=h
  refine⟨_,(pss_one (ps_if (PW.pt (pw_or (pt_cmpR op_lt (pv 0) pe_int (nomark _)) (pw_or1 (pt_cmpR op_ge (pv 0) (pv 1) (nomark _)))))
    (pss_one ps_never)
    pss_nil)),?_⟩
  refine⟨_,rfl,_,_,rfl,rfl,_,rfl,ifF (decide_eq_false (by omega)) ?_⟩
  exact⟨_,rfl,_,rfl,_,_,rfl,rfl,_,rfl,ifF (decide_eq_false (by omega)) q⟩
theorem scCi:FnScope ["width"] ["width"] (defScope s_Ji):=⟨rfl,rfl,rfl,by decide +kernel,rfl,by decide +kernel,by decide +kernel⟩
theorem ok_Ji (T:Txt K mg t):FnOk P w K mg base CX0 1 t.f_Ji t.d_Ji ["width"] sp_Ji:=by
 refine T.F_Ji.ok scCi (fun vs H Q E h=>?_) (fun cdv A outer s H vs Q E hr h=>?_)
 ·obtain⟨_,rfl,_⟩:=h
  rfl
 ·obtain⟨n,rfl,n0,n1,q⟩:=h
  refine⟨_,(pss_one (ps_if (PW.pt (pw_or (pt_cmpR op_lt (pv 0) pe_int (nomark _)) (pw_or1 (pt_cmpR op_gt (pv 0) (pe_glob (by rfl) T.g_WIDEST T.r_WIDEST) (nomark _)))))
    (pss_one ps_never)
    pss_nil)),?_⟩
  refine⟨_,rfl,_,_,rfl,rfl,_,rfl,ifF (decide_eq_false (by omega)) ?_⟩
  exact⟨_,rfl,_,_,rfl,rfl,_,rfl,ifF (decide_eq_false (by omega)) q⟩
theorem scNt:FnScope ["note"] ["note"] (defScope s_Jr):=⟨rfl,rfl,rfl,by decide +kernel,rfl,by decide +kernel,by decide +kernel⟩
def sp_Jr:Sp:=fun vs H Q _=>∃ n:Int,vs=[.int n]/\0<=n/\n<=9999/\Q .non H
theorem ok_Jr (T:Txt K mg t):FnOk P w K mg base CX0 1 t.f_Jr t.d_Jr ["note"] sp_Jr:=by
 refine T.F_Jr.ok scNt (fun vs H Q E h=>?_) (fun cdv A outer s H vs Q E hr h=>?_)
 ·obtain⟨_,rfl,_⟩:=h
  rfl
 ·obtain⟨n,rfl,n0,n1,q⟩:=h
  refine⟨_,(pss_one (ps_if (PW.pt (pw_or (pt_cmpR op_lt (pv 0) pe_int (nomark _)) (pw_or1 (pt_cmpR op_gt (pv 0) (pe_glob (by rfl) T.g_LAST_NOTE T.r_LAST_NOTE) (nomark _)))))
    (pss_one ps_never)
    pss_nil)),?_⟩
  refine⟨_,rfl,_,_,rfl,rfl,_,rfl,ifF (decide_eq_false (by omega)) ?_⟩
  refine⟨_,rfl,_,_,rfl,rfl,_,rfl,ifF (decide_eq_false (by omega)) q⟩
theorem scCq:FnScope ["stretch","many"] ["stretch","many"] (defScope s_Jc):=⟨rfl,rfl,rfl,by decide +kernel,rfl,by decide +kernel,by decide +kernel⟩
theorem ok_Jc (T:Txt K mg t):FnOk P w K mg base CX0 1 t.f_Jc t.d_Jc ["stretch","many"] sp_Js:=by
 refine T.F_Jc.ok scCq (fun vs H Q E h=>?_) (fun cdv A outer s H vs Q E hr h=>?_)
 ·obtain⟨_,_,rfl,_⟩:=h
  rfl
 ·obtain⟨n,m,rfl,n0,n1,q⟩:=h
  refine⟨_,(pss_one (ps_if (PW.pt (pw_or (pt_cmpR op_lt (pv 0) pe_int (nomark _)) (pw_or1 (pt_cmpR op_ge (pv 0) (pv 1) (nomark _)))))
    (pss_one ps_never)
    pss_nil)),?_⟩
  refine⟨_,rfl,_,_,rfl,rfl,_,rfl,ifF (decide_eq_false (by omega)) ?_⟩
  exact⟨_,rfl,_,rfl,_,_,rfl,rfl,_,rfl,ifF (decide_eq_false (by omega)) q⟩
theorem scPm:FnScope ["self"] ["self"] (defScope s_Jf):=⟨rfl,rfl,rfl,by decide +kernel,rfl,by decide +kernel,by decide +kernel⟩
theorem ok_Jf (T:Txt K mg t):FnOk P w K mg base CX0 1 t.f_Jf t.d_Jf ["self"] (sp_many t.c_Program):=by
 refine T.F_Jf.ok scPm (fun vs H Q E h=>?_) (fun cdv A outer s H vs Q E hr h=>?_)
 ·obtain⟨_,_,rfl,_⟩:=h
  rfl
 ·obtain⟨A,st,rfl,g1,g2,q⟩:=h
  refine⟨_,(pss_one (ps_ret (pe_callB call_len_seq (by rfl) T.z_len (by rfl) (pa_cons (pe_fld (pv 0) rfl) pa_nil)))),?_⟩
  exact⟨_,rfl,A.p,_,A.dx,_,_,rfl,g1,T.cl_Program,T.n_Program_stretches,pfl_s _,A.s,_,rfl,.inl (SqL.of g2),q⟩
theorem scPk:FnScope ["self"] ["self"] (defScope s_Jd):=⟨rfl,rfl,rfl,by decide +kernel,rfl,by decide +kernel,by decide +kernel⟩
theorem ok_Jd (T:Txt K mg t):FnOk P w K mg base CX0 1 t.f_Jd t.d_Jd ["self"] (sp_pmarks t.c_Program):=by
 refine T.F_Jd.ok scPk (fun vs H Q E h=>?_) (fun cdv A outer s H vs Q E hr h=>?_)
 ·obtain⟨_,_,_,rfl,_⟩:=h
  rfl
 ·obtain⟨A,ms,L,rfl,hH,m1,m2,q⟩:=h
  refine⟨_,(pss_one (ps_ret (pe_callTy call_list_of (by rfl) T.z_list (by rfl) (pa_cons (pe_fld (pv 0) rfl) pa_nil)))),?_⟩
  exact⟨_,rfl,A.p,_,A.dx,_,_,rfl,hH.at_ _ m1,T.cl_Program,T.n_Program_mark_sides,pfl_m _,A.m,_,rfl,.inl (SqL.of (hH.at_ _ m2)),fun l hl=>q _ l (hH.alloc hl _)⟩
theorem scPw:FnScope ["self"] ["self"] (defScope s_J6):=⟨rfl,rfl,rfl,by decide +kernel,rfl,by decide +kernel,by decide +kernel⟩
theorem ok_J6 (T:Txt K mg t):FnOk P w K mg base CX0 1 t.f_J6 t.d_J6 ["self"] (sp_pwidths t.c_Program):=by
 refine T.F_J6.ok scPw (fun vs H Q E h=>?_) (fun cdv A outer s H vs Q E hr h=>?_)
 ·obtain⟨_,_,_,rfl,_⟩:=h
  rfl
 ·obtain⟨A,ms,L,rfl,hH,m1,m2,q⟩:=h
  refine⟨_,(pss_one (ps_ret (pe_callTy call_list_of (by rfl) T.z_list (by rfl) (pa_cons (pe_fld (pv 0) rfl) pa_nil)))),?_⟩
  exact⟨_,rfl,A.p,_,A.dx,_,_,rfl,hH.at_ _ m1,T.cl_Program,T.n_Program_counter_widths,pfl_w _,A.w,_,rfl,.inl (SqL.of (hH.at_ _ m2)),fun l hl=>q _ l (hH.alloc hl _)⟩
theorem scRa:FnScope ["self","stretch","number"] ["self","stretch","number"] (defScope s_J7):=⟨rfl,rfl,rfl,by decide +kernel,rfl,by decide +kernel,by decide +kernel⟩
theorem ok_J7 (T:Txt K mg t):FnOk P w K mg base CX0 1 t.f_J7 t.d_J7 ["self","stretch","number"] (sp_row_at t.c_Program):=by
 refine T.F_J7.ok scRa (fun vs H Q E h=>?_) (fun cdv A outer s H vs Q E hr h=>?_)
 ·obtain⟨_,_,_,_,_,_,_,rfl,_⟩:=h
  rfl
 ·obtain⟨A,st,k,rl,rs,n,v,rfl,g1,g2,gk,g3,hn,q⟩:=h
  refine⟨_,(pss_one (ps_ret (pe_ix ix_list (pe_ix ix_list (pe_fld (pv 0) rfl) (pv 1) (fun _ _=>rfl)) (pv 2) (fun _ _=>rfl)))),?_⟩
  refine⟨_,rfl,A.p,_,A.dx,_,_,rfl,g1,T.cl_Program,T.n_Program_stretches,pfl_s _,_,rfl,A.s,_,_,_,rfl,rfl,SqL.of g2,atI_nat gk,?_⟩
  exact⟨_,rfl,rl,_,_,_,rfl,rfl,SqL.of g3,atI_nat hn,q⟩
theorem scCb:FnScope ["self","side","width"] ["self"] (defScope s_J0):=⟨rfl,rfl,rfl,by decide +kernel,rfl,by decide +kernel,by decide +kernel⟩
theorem ok_J0 (T:Txt K mg t):FnOk P w K mg base CX0 2 t.f_J0 t.d_J0 ["self"] (sp_check_beginning t.c_Program):=by
 refine T.F_J0.ok scCb (fun vs H Q E h=>?_) (fun cdv A outer s H vs Q E hr h=>?_)
 ·obtain⟨_,_,_,_,_,rfl,_⟩:=h
  rfl
 ·obtain⟨A,ms,ws,ss,L,rfl,hH,pin,hm,hw,hst,q⟩:=h
  have hL:∀ {z:Addr×HO},z ∈ L->H z.1=some z.2:=fun m=>hH.at_ _ m
  refine⟨_,(pss_cons (ps_for PassesOwn.never rfl (pi_list (pe_fld (pv 0) rfl)) (pg_name (i:=1) scCb.nd rfl (Or.inl rfl))
    (pss_one (ps_expr (pe_call (ok_Jq T) (hr.mono (by decide)) (by rfl) T.m_Jq T.F_Jq.kp (b_Jq T) .nil pass0 (pa_cons (pv 1) pa_nil)))))
   (pss_cons (ps_for PassesOwn.never rfl (pi_list (pe_fld (pv 0) rfl)) (pg_name (i:=2) scCb.nd rfl (Or.inl rfl))
    (pss_one (ps_expr (pe_call (ok_Ji T) (hr.mono (by decide)) (by rfl) T.m_Ji T.F_Ji.kp (b_Ji T) .nil pass0 (pa_cons (pv 2) pa_nil)))))
   (pss_one (ps_if (pt_not (pt_truth (pe_fld (pv 0) rfl) (by intro _; rfl)))
    (pss_one ps_never)
    pss_nil)))),?_⟩
  refine⟨_,rfl,A.p,_,A.dx,_,_,rfl,hL pin.p,T.cl_Program,T.n_Program_mark_sides,pfl_m _,A.m,rfl,⟨_,SqL.of (hL pin.m)⟩,for_list (xs:=ms.map V.int) (fun i σ H'=>∃ (o1 o2:Option V),σ=[some (.ref A.p),o1,o2]/\H'=H) ⟨_,_,rfl,rfl⟩ (fun i σ H' _ ⟨_,_,_,e⟩=>by rw[e]; exact SqL.of (hL pin.m)) ?_ ?_⟩
  ·rintro i x σ H' hx ⟨o1,o2,rfl,rfl⟩
   rw[getElem?_map] at hx
   obtain⟨n,hn,rfl⟩:=Option.map_eq_some_iff.mp hx
   exact⟨_,rfl,n,rfl,hm n (mem_of_getElem? hn),_,_,rfl,rfl⟩
  ·rintro σ H' ⟨o1,o2,rfl,rfl⟩
   refine⟨_,rfl,A.p,_,A.dx,_,_,rfl,hL pin.p,T.cl_Program,T.n_Program_counter_widths,pfl_w _,A.w,rfl,⟨_,SqL.of (hL pin.w)⟩,for_list (xs:=ws.map V.int) (fun i σ H1=>∃ (o1 o2:Option V),σ=[some (.ref A.p),o1,o2]/\H1=H') ⟨_,_,rfl,rfl⟩ (fun i σ H1 _ ⟨_,_,_,e⟩=>by rw[e]; exact SqL.of (hL pin.w)) ?_ ?_⟩
   ·rintro i x σ H1 hx ⟨o1,o2,rfl,rfl⟩
    rw[getElem?_map] at hx
    obtain⟨n,hn,rfl⟩:=Option.map_eq_some_iff.mp hx
    have:=hw n (mem_of_getElem? hn)
    exact⟨_,rfl,n,rfl,this.1,this.2,_,_,rfl,rfl⟩
   ·rintro σ H1 ⟨o1,o2,rfl,rfl⟩
    refine⟨_,rfl,A.p,_,A.dx,_,_,rfl,hL pin.p,T.cl_Program,T.n_Program_stretches,pfl_s _,true,.inl ⟨_,SqL.of (hL pin.s),?_⟩,iteF q⟩
    cases ss with
    | nil=>exact absurd rfl hst
    | cons a b=>rfl
theorem scCc:FnScope ["self","called","stretch"] ["self","called","stretch"] (defScope s_J1):=⟨rfl,rfl,rfl,by decide +kernel,rfl,by decide +kernel,by decide +kernel⟩
theorem ok_J1 (T:Txt K mg t):FnOk P w K mg base CX0 2 t.f_J1 t.d_J1 ["self","called","stretch"] (sp_check_called t.c_Program):=by
 refine T.F_J1.ok scCc (fun vs H Q E h=>?_) (fun cdv A outer s H vs Q E hr h=>?_)
 ·obtain⟨_,_,_,_,_,_,_,rfl,_⟩:=h
  rfl
 ·obtain⟨A,ms,ws,ss,L,n,k,rfl,hH,pin,h0,h1,q⟩:=h
  have hL:∀ {z:Addr×HO},z ∈ L->H z.1=some z.2:=fun m=>hH.at_ _ m
  refine⟨_,(pss_cons (ps_expr (pe_call (ok_Jc T) (hr.mono (by decide)) (by rfl) T.m_Jc T.F_Jc.kp (b_Jc T) .nil pass0 (pa_cons (pv 1) (pa_cons (pe_meth0 (pv 0) T.cl_Program T.M_Jf (ok_Jf T) (hr.mono (by decide)) (b_Jf T) .nil pass0) pa_nil))))
   (pss_one (ps_if (pt_cmpR op_le (pv 1) (pv 2) (nomark _))
    (pss_one ps_never)
    pss_nil))),?_⟩
  refine⟨_,rfl,_,rfl,A.p,A.dx,_,rfl,hL pin.p,(pfl_n _).1,A,_,rfl,hL pin.p,hL pin.s,n,_,rfl,by omega,(by unfold ssV; rw[length_map]; exact h1),?_⟩
  exact⟨_,rfl,_,rfl,_,_,rfl,rfl,_,rfl,ifF (decide_eq_false (by omega)) q⟩
end
end P
set_option Elab.async false
set_option linter.all false
set_option maxRecDepth 100000
set_option maxHeartbeats 4000000
namespace P
open PySem L2
theorem call_list_ofK {X:Cx}{K:PySem.W.Frag} (hK:X.K=K):CallR X (.type "list") (fun xs H Q=>∃ p ys,xs=[.ref p]/\(SqL K H p ys∨SqT K H p ys)/\∀ l,H l=none->Q (.ref l) (upd H l (.lst ys))):=by subst hK; exact call_list_of
section
variable {P:Program}{w:World}{K:PySem.W.Frag}{mg:Str->Option Value}{base:Heap}{t:Adr}
theorem scPt:FnScope ["self","part","number","stretch"] ["self","part","number","stretch"] (defScope s_J5):=⟨rfl,rfl,rfl,by decide +kernel,rfl,by decide +kernel,by decide +kernel⟩
theorem ok_J5 (T:Txt K mg t):FnOk P w K mg base CX0 3 t.f_J5 t.d_J5 ["self","part","number","stretch"] (sp_check_part t.c_Program):=by
 refine T.F_J5.ok scPt (fun vs H Q E h=>?_) (fun cdv A outer s H vs Q E hr h=>?_)
 ·obtain⟨_,_,_,_,_,_,_,_,_,rfl,_⟩:=h
  rfl
 ·obtain⟨A,ms,ws,ss,L,k,p,n,z,rfl,hH,pin,hz,hp,q⟩:=h
  have hL:∀ {z:Addr×HO},z ∈ L->H z.1=some z.2:=fun m=>hH.at_ _ m
  have hzm:=mem_of_getElem? hz
  refine⟨_,(pss_one (ps_if (pt_cmpR op_eq (pv 1) pe_str (nomark _))
    (pss_one (ps_expr (pe_call (ok_Jr T) (hr.mono (by decide)) (by rfl) T.m_Jr T.F_Jr.kp (b_Jr T) .nil pass0 (pa_cons (pv 2) pa_nil))))
    (pss_one (ps_if (pt_cmpR op_eq (pv 1) pe_str (nomark _))
      (pss_one (ps_expr (pe_call (ok_Js T) (hr.mono (by decide)) (by rfl) T.m_Js T.F_Js.kp (b_Js T) .nil pass0 (pa_cons (pv 2) (pa_cons (pe_callB call_len_seq (by rfl) T.z_len (by rfl) (pa_cons (pe_fld (pv 0) rfl) pa_nil)) pa_nil)))))
      (pss_one (ps_if (pt_cmpR op_eq (pv 1) pe_str (nomark _))
        (pss_one (ps_expr (pe_call (ok_Jq T) (hr.mono (by decide)) (by rfl) T.m_Jq T.F_Jq.kp (b_Jq T) .nil pass0 (pa_cons (pv 2) pa_nil))))
        (pss_one (ps_if (pt_cmpR op_eq (pv 1) pe_str (nomark _))
          (pss_one (ps_expr (pe_call (ok_Jb T) (hr.mono (by decide)) (by rfl) T.m_Jb T.F_Jb.kp (b_Jb T) .nil pass0 (pa_cons (pv 2) (pa_cons (pe_callB call_len_seq (by rfl) T.z_len (by rfl) (pa_cons (pe_fld (pv 0) rfl) pa_nil)) pa_nil)))))
          (pss_one (ps_if (pt_cmpR op_eq (pv 1) pe_str (nomark _))
            (pss_one (ps_expr (pe_call (ok_Jt T) (hr.mono (by decide)) (by rfl) T.m_Jt T.F_Jt.kp (b_Jt T) .nil pass0 (pa_cons (pv 2) (pa_cons (pe_callB call_len_seq (by rfl) T.z_len (by rfl) (pa_cons (pe_ix ix_list (pe_fld (pv 0) rfl) (pv 3) (fun _ _=>rfl)) pa_nil)) pa_nil)))))
            (pss_one (ps_expr (pe_meth (pv 0) T.cl_Program T.M_J1 (ok_J1 T) (hr.mono (by decide)) (b_J1 T) .nil pass0 (pa_cons (pv 2) (pa_cons (pv 3) pa_nil))))))))))))))),?_⟩
  rcases hp with ⟨rfl,h0,h1⟩ | ⟨rfl,h0,h1⟩ | ⟨rfl,h0⟩ | ⟨rfl,h0,h1⟩ | ⟨rfl,h0,h1⟩ | ⟨rfl,h0,h1⟩
  ·refine⟨_,rfl,rfl,_,rfl,ifT (by decide +kernel) ?_⟩
   exact⟨_,rfl,n,rfl,h0,h1,q⟩
  ·refine⟨_,rfl,rfl,_,rfl,ifF (by decide +kernel) ?_⟩
   refine⟨_,rfl,rfl,_,rfl,ifT (by decide +kernel) ?_⟩
   exact⟨_,rfl,_,rfl,A.p,_,A.dx,_,_,rfl,hL pin.p,T.cl_Program,T.n_Program_mark_sides,pfl_m _,A.m,_,rfl,.inl (SqL.of (hL pin.m)),n,_,rfl,h0,(by rw[length_map]; exact h1),q⟩
  ·refine⟨_,rfl,rfl,_,rfl,ifF (by decide +kernel) ?_⟩
   refine⟨_,rfl,rfl,_,rfl,ifF (by decide +kernel) ?_⟩
   refine⟨_,rfl,rfl,_,rfl,ifT (by decide +kernel) ?_⟩
   exact⟨_,rfl,n,rfl,h0,q⟩
  ·refine⟨_,rfl,rfl,_,rfl,ifF (by decide +kernel) ?_⟩
   refine⟨_,rfl,rfl,_,rfl,ifF (by decide +kernel) ?_⟩
   refine⟨_,rfl,rfl,_,rfl,ifF (by decide +kernel) ?_⟩
   refine⟨_,rfl,rfl,_,rfl,ifT (by decide +kernel) ?_⟩
   exact⟨_,rfl,_,rfl,A.p,_,A.dx,_,_,rfl,hL pin.p,T.cl_Program,T.n_Program_counter_widths,pfl_w _,A.w,_,rfl,.inl (SqL.of (hL pin.w)),n,_,rfl,h0,(by rw[length_map]; exact h1),q⟩
  ·refine⟨_,rfl,rfl,_,rfl,ifF (by decide +kernel) ?_⟩
   refine⟨_,rfl,rfl,_,rfl,ifF (by decide +kernel) ?_⟩
   refine⟨_,rfl,rfl,_,rfl,ifF (by decide +kernel) ?_⟩
   refine⟨_,rfl,rfl,_,rfl,ifF (by decide +kernel) ?_⟩
   refine⟨_,rfl,rfl,_,rfl,ifT (by decide +kernel) ?_⟩
   exact⟨_,rfl,_,rfl,A.p,_,A.dx,_,_,rfl,hL pin.p,T.cl_Program,T.n_Program_stretches,pfl_s _,_,rfl,A.s,_,_,_,rfl,rfl,SqL.of (hL pin.s),atI_nat (ssV_get hz),z.1,_,rfl,.inl (SqL.of (hL (pin.l z hzm))),n,_,rfl,h0,(by unfold rwV; rw[length_map]; exact h1),q⟩
  ·refine⟨_,rfl,rfl,_,rfl,ifF (by decide +kernel) ?_⟩
   refine⟨_,rfl,rfl,_,rfl,ifF (by decide +kernel) ?_⟩
   refine⟨_,rfl,rfl,_,rfl,ifF (by decide +kernel) ?_⟩
   refine⟨_,rfl,rfl,_,rfl,ifF (by decide +kernel) ?_⟩
   refine⟨_,rfl,rfl,_,rfl,ifF (by decide +kernel) ?_⟩
   exact⟨_,rfl,A.p,A.dx,_,rfl,hL pin.p,pfl_cc _,_,rfl,_,rfl,A,ms,ws,ss,L,n,k,rfl,hH,pin,h0,h1,q⟩
theorem scPr:FnScope ["self","stretch","rows","row","part","number"] ["self","stretch"] (defScope s_J3):=⟨rfl,rfl,rfl,by decide +kernel,rfl,by decide +kernel,by decide +kernel⟩
theorem ok_J3 (T:Txt K mg t):FnOk P w K mg base CX0 4 t.f_J3 t.d_J3 ["self","stretch"] (sp_check_rows t.c_Program):=by
 refine T.F_J3.ok scPr (fun vs H Q E h=>?_) (fun cdv A outer s H vs Q E hr h=>?_)
 ·obtain⟨_,_,_,_,_,_,_,rfl,_⟩:=h
  rfl
 ·obtain⟨A,ms,ws,ss,L,k,z,rfl,hH,pin,hz,hok,⟨la,ly,hla,hlast⟩,q⟩:=h
  obtain⟨aE,eE,hE⟩:=T.x_PARTS
  have T_r_PARTS:RelV (.ref aE) t.u_PARTS:=by rw[eE]; rfl
  obtain⟨aP,oP,its,nn,eP,k1,k2,k3,k4,k5⟩:=T.x_LAST_WORDS
  have T_r_LAST_WORDS:RelV (.ref aP) t.u_LAST_WORDS:=by rw[eP]; rfl
  have hzm:=mem_of_getElem? hz
  refine⟨_,(pss_cons (ps_set (i:=2) scPr.nd rfl (Or.inl rfl) (pe_ix ix_list (pe_fld (pv 0) rfl) (pv 1) (fun _ _=>rfl)))
   (pss_cons (ps_if (pt_not (pt_truth (pv 2) (by intro _; rfl)))
    (pss_one ps_never)
    pss_nil)
   (pss_cons (ps_for PassesOwn.never rfl (pi_list (pv 2)) (pg_name (i:=3) scPr.nd rfl (Or.inl rfl))
    (pss_one (ps_for PassesOwn.never rfl (pi_zipTT (by rfl) T.z_zip (pa_cons (pe_ixT (pe_glob (by rfl) T.g_PARTS T_r_PARTS) (pe_ix ix_tup (pv 3) pe_int (fun _ _=>rfl)) (fun _ _=>rfl)) (pa_cons (pe_slice sl_tup (pv 3) (po_some pe_int) po_none) pa_nil))) (pg_tup rfl (pgs_cons (pg_name (i:=4) scPr.nd rfl (Or.inl rfl)) (pgs_cons (pg_name (i:=5) scPr.nd rfl (Or.inl rfl)) pgs_nil)))
      (pss_one (ps_expr (pe_meth (pv 0) T.cl_Program T.M_J5 (ok_J5 T) (hr.mono (by decide)) (b_J5 T) .nil pass0 (pa_cons (pv 4) (pa_cons (pv 5) (pa_cons (pv 1) pa_nil)))))))))
   (pss_one (ps_if (pt_cmpR op_notIn_seq (pe_ix ix_tup (pe_ix ix_list (pv 2) (pe_un un_neg pe_int) (fun _ _=>rfl)) pe_int (fun _ _=>rfl)) (pe_glob (by rfl) T.g_LAST_WORDS T_r_LAST_WORDS) (by rfl))
    (pss_one ps_never)
    pss_nil))))),?_⟩
  have hL:∀ {H':Hp}{z:Addr×HO},Has H' L->z ∈ L->H' z.1=some z.2:=fun h m=>h.at_ _ m
  have hne:rwV z.2≠[]:=by
   intro e
   have:z.2=[]:=by simpa [rwV] using e
   rw[this] at hla
   cases hla
  refine⟨_,rfl,A.p,_,A.dx,_,_,rfl,hL hH pin.p,T.cl_Program,T.n_Program_stretches,pfl_s _,_,rfl,A.s,_,_,_,rfl,rfl,SqL.of (hL hH pin.s),atI_nat (ssV_get hz),?_⟩
  refine⟨_,rfl,true,.inl ⟨_,SqL.of (hL hH (pin.l z hzm)),?_⟩,iteF ?_⟩
  ·cases e:rwV z.2 with
   | nil=>exact absurd e hne
   | cons a b=>rfl
  refine⟨_,rfl,z.1,rfl,⟨_,SqL.of (hL hH (pin.l z hzm))⟩,for_list (xs:=rwV z.2) (fun i σ H'=>∃ (o1 o2 o3:Option V),σ=[some (.ref A.p),some (.int k),some (.ref z.1),o1,o2,o3]/\Has H' L) ⟨_,_,_,rfl,hH⟩ (fun i σ H' _ ⟨_,_,_,_,e⟩=>SqL.of (hL e (pin.l z hzm))) ?_ ?_⟩
  ·rintro i x σ H' hx ⟨o1,o2,o3,rfl,h1⟩
   unfold rwV at hx
   rw[getElem?_map] at hx
   obtain⟨n,hn,rfl⟩:=Option.map_eq_some_iff.mp hx
   have hnm:=mem_of_getElem? hn
   have m2:=hok n hnm
   have g1:=hL h1 (pin.r z hzm n hnm)
   have hcut:cutV (.str n.2.ws::n.2.ns.map V.int) (some 1) none=n.2.ns.map V.int:=by cases n.2 <;> rfl
   refine⟨_,rfl,n.1,_,_,_,rfl,rfl,SqT.of g1,atI_nat (j:=0) rfl,_,aE,_,n.2.ps,rfl,rfl,hE,n.2.parts,n.2.psl,fun b hb=>?_⟩
   refine⟨_,rfl,_,rfl,n.1,_,rfl,SqT.of g1,?_,fun p hp=>?_⟩
   ·unfold Rw.v
    exact cutok (by rw[length_cons,length_map]; omega) (by rw[length_cons,length_map]; exact n.2.nsl)
   unfold Rw.v
   rw[hcut]
   have h2:=h1.alloc hp (.tup (n.2.ns.map V.int))
   refine⟨b,p,rfl,⟨_,hb _⟩,⟨_,SqT.of (h2.get 0 rfl)⟩,for_zipT (xs:=n.2.ps.map V.str) (ys:=n.2.ns.map V.int) (by rw[length_map,length_map]; exact n.2.len) (fun i σ H'=>∃ (o2 o3:Option V),σ=[some (.ref A.p),some (.int k),some (.ref z.1),some (.ref n.1),o2,o3]/\Has H' ((p,.tup (n.2.ns.map V.int))::L)) ⟨_,_,rfl,h2⟩ (fun i σ H' _ ⟨_,_,_,e⟩=>⟨hb _,SqT.of (e.get 0 rfl)⟩) ?_ ?_⟩
   ·rintro j x y σ H3 p3 hx hy ⟨o4,o5,rfl,h3⟩ hp3
    rw[getElem?_map] at hx hy
    obtain⟨x,hx1,rfl⟩:=Option.map_eq_some_iff.mp hx
    obtain⟨y,hy1,rfl⟩:=Option.map_eq_some_iff.mp hy
    have h4:=h3.alloc hp3 (.tup [.str x,.int y])
    refine⟨p3,_,rfl,SqT.of (h4.get 0 rfl),rfl,_,_,rfl,_,_,rfl,rfl,?_⟩
    exact⟨_,rfl,A.p,A.dx,_,rfl,hL h4.tail.tail pin.p,(pfl_n _).2.2.2.2.2.2,_,rfl,_,rfl,_,rfl,A,ms,ws,ss,L,k,x,y,z,rfl,h4.tail.tail,pin,hz,Rw.part m2 hx1 hy1,_,_,rfl,h4.tail⟩
   ·rintro σ H3 ⟨o4,o5,rfl,h3⟩
    exact⟨_,_,_,rfl,h3.tail⟩
  ·rintro σ H' ⟨o1,o2,o3,rfl,h1⟩
   obtain⟨rs',ers⟩:=List.getLast?_eq_some_iff.mp hla
   have eV:rwV z.2=rwV rs'++[.ref la]:=by rw[ers]; unfold rwV; rw[map_append]; rfl
   have g1:=hL h1 (pin.l z hzm)
   have g2:=hL h1 (pin.r z hzm (la,ly) (by rw[ers]; simp))
   rw[eV] at g1
   exact⟨_,rfl,1,rfl,z.1,_,_,_,rfl,rfl,SqL.of g1,atI_last _ _,la,_,_,_,rfl,rfl,SqT.of g2,atI_nat (j:=0) rfl,aP,_,rfl,.inr (.inr ⟨oP,its,nn,k1,k2,k3,k4,k5⟩),rfl,rfl,_,rfl,ifF (ly.lastIn hlast) (q _ h1)⟩
theorem scGr:FnScope ["width"] ["width"] (defScope s_Ju):=⟨rfl,rfl,rfl,by decide +kernel,rfl,by decide +kernel,by decide +kernel⟩
theorem ok_Ju (T:Txt K mg t):FnOk P w K mg base CX0 1 t.f_Ju t.d_Ju ["width"] sp_Ju:=by
 refine T.F_Ju.ok scGr (fun vs H Q E h=>?_) (fun cdv A outer s H vs Q E hr h=>?_)
 ·obtain⟨_,rfl,_⟩:=h
  rfl
 ·obtain⟨n,rfl,n0,q⟩:=h
  refine⟨_,(pss_one (ps_ret (pe_op op_sub (pe_op op_shl pe_int (pv 0)) pe_int))),?_⟩
  exact⟨_,rfl,_,_,rfl,rfl,⟨by omega,by omega,by omega⟩,_,_,rfl,rfl,q⟩
theorem scPn:FnScope ["self","marks","widths","stretches","stretch"] ["self","marks","widths","stretches"] (defScope s_Je):=⟨rfl,rfl,rfl,by decide +kernel,rfl,by decide +kernel,by decide +kernel⟩
theorem ok_Je (T:Txt K mg t):FnOk P w K mg base CX0 5 t.f_Je t.d_Je ["self","marks","widths","stretches"] (sp_Pinit t.c_Program):=by
 refine T.F_Je.ok scPn (fun vs H Q E h=>?_) (fun cdv A outer s H vs Q E hr h=>?_)
 ·obtain⟨_,_,_,_,_,_,_,_,_,rfl,_⟩:=h
  rfl
 ·obtain⟨p,dx,m0,w0,s0,ms,ws,ss,L,rfl,hH,mm0,mw0,ms0,ml,mr,hms,hws,hne,hlen,hgood,q⟩:=h
  refine⟨_,(pss_cons (ps_fld (pv 0) (pe_callTy call_list_of (by rfl) T.z_list (by rfl) (pa_cons (pv 1) pa_nil)) rfl)
   (pss_cons (ps_fld (pv 0) (pe_callTy call_list_of (by rfl) T.z_list (by rfl) (pa_cons (pv 2) pa_nil)) rfl)
   (pss_cons (ps_fld (pv 0) (pe_lc (esc:=defScope s_Je) (k:=1) ["rows","self","marks","widths","stretches","stretch"] rfl (pi_list (pv 3)) (fun _ _ _ _ _=>by exact(pg_name (i:=0) (show List.Nodup (["rows","self","marks","widths","stretches","stretch"]:List Str) from by decide +kernel) rfl (Or.inl rfl))) (fun _ _ _ _ _=>by exact pts_nil) (fun _ _ _ _ _=>by exact(pe_callTy (call_list_ofK (K:=K) rfl) (by rfl) T.z_list (by rfl) (pa_cons (pv 0) pa_nil))) rfl (by decide +kernel) (by decide +kernel) rfl (by decide +kernel) (by rfl) (fun _ _ h _=>h) (by decide +kernel)) rfl)
   (pss_cons (ps_expr (pe_meth0 (pv 0) T.cl_Program T.M_J0 (ok_J0 T) (hr.mono (by decide)) (b_J0 T) .nil pass0))
   (pss_one (ps_for PassesOwn.never rfl (pi_range1 (by rfl) T.z_range (pa_cons (pe_meth0 (pv 0) T.cl_Program T.M_Jf (ok_Jf T) (hr.mono (by decide)) (b_Jf T) .nil pass0) pa_nil)) (pg_name (i:=4) scPn.nd rfl (Or.inl rfl))
    (pss_one (ps_expr (pe_meth (pv 0) T.cl_Program T.M_J3 (ok_J3 T) (hr.mono (by decide)) (b_J3 T) .nil pass0 (pa_cons (pv 4) pa_nil)))))))))),?_⟩
  refine⟨_,rfl,m0,_,rfl,.inl (SqL.of (hH.tail.tail.at_ _ mm0)),fun a1 ha1=>?_⟩
  have h1:=hH.alloc ha1 (.lst (ms.map V.int))
  refine⟨_,rfl,p,_,dx,_,rfl,h1.get 1 rfl,T.cl_Program,T.n_Program_mark_sides,(show 0<1000 by decide),?_⟩
  have h2:=h1.puti 1 rfl (.ins t.c_Program dx [("mark_sides",.ref a1)])
  refine⟨_,rfl,w0,_,rfl,.inl (SqL.of (h2.tail.tail.tail.at_ _ mw0)),fun a2 ha2=>?_⟩
  have h3:=h2.alloc ha2 (.lst (ws.map V.int))
  refine⟨_,rfl,p,_,dx,_,rfl,h3.get 2 rfl,T.cl_Program,T.n_Program_counter_widths,(show 1<1000 by decide),?_⟩
  have h4:=h3.puti 2 rfl (.ins t.c_Program dx [("mark_sides",.ref a1),("counter_widths",.ref a2)])
  refine⟨_,rfl,s0,rfl,⟨_,SqL.of (h4.tail.tail.tail.tail.at_ _ ms0)⟩,fun D hD=>?_⟩
  have inL:∀ {H':Hp}{N:Kn}{z c1 c2 c3 c4 c5:Addr×HO},Has H' (c1::(N++(c2::c3::c4::c5::L)))->z ∈ L->H' z.1=some z.2:=fun h m=>h.at_ _ (mem_cons_of_mem _ (mem_append_right _ (by simp[m])))
  refine⟨fun n m zs H'=>∃ (s1:Ss) (N:Kn),m=ss.length - n/\n<=ss.length/\s1.map (·.2)=(ss.take n).map (·.2)/\zs=ssV s1/\(∀ z ∈ s1,(z.1,HO.lst (rwV z.2)) ∈ N)/\Has H' ((D,.lst zs)::(N++((a2,.lst (ws.map V.int))::(a1,.lst (ms.map V.int))::(p,.ins t.c_Program dx [("mark_sides",.ref a1),("counter_widths",.ref a2)])::(dx,.own p)::L))),⟨_,[],[],rfl,Nat.zero_le _,rfl,rfl,by simp,h4.alloc hD _⟩,?_⟩
  rintro n m zs H5 ⟨s1,N,rfl,hn,es1,rfl,hN,h5⟩
  refine⟨h5.get 0 rfl,?_⟩
  have g0:=inL h5 ms0
  have ls1:s1.length=n:=by
   have:=congrArg List.length es1
   simp at this
   omega
  by_cases hlt:n<ss.length
  ·have hx0:(ssV ss)[n]?=some (.ref ss[n].1):=ssV_get (getElem?_eq_getElem hlt)
   refine .inr ⟨⟨_,_,SqL.of g0,hx0⟩,?_⟩
   rintro x H6 ⟨rfl,hx⟩
   have e1:=hx _ (SqL.of g0)
   rw[hx0] at e1
   cases e1
   refine⟨rfl,tTrueT ?_⟩
   refine⟨_,rfl,ss[n].1,_,rfl,.inl (SqL.of (inL h5 (ml _ (List.getElem_mem hlt)))),fun rl hrl=>?_⟩
   have h6:=h5.alloc hrl (.lst (rwV ss[n].2))
   refine⟨sizeOk (by unfold ssV; rw[length_map]; omega),h6.get 1 rfl,ss.length - (n+1),by omega,s1++[(rl,ss[n].2)],(rl,.lst (rwV ss[n].2))::N,rfl,hlt,?_,?_,?_,?_⟩
   ·rw[map_append,es1,List.take_succ,map_append,getElem?_eq_getElem hlt]
    rfl
   ·unfold ssV
    rw[map_append]
    rfl
   ·intro z hz
    rcases mem_append.mp hz with hz | hz
    ·exact mem_cons_of_mem _ (hN z hz)
    ·cases mem_singleton.mp hz
     exact mem_cons_self
   ·exact(h6.puti 1 rfl _).swap2
  ·have en:n=ss.length:=by omega
   rw[en,List.take_length] at es1
   refine .inl ⟨⟨_,SqL.of g0,by unfold ssV; rw[length_map]; omega⟩,?_⟩
   have h6:=Has.comm (X:=(D,HO.lst (ssV s1))::N) (Y:=[(a2,.lst (ws.map V.int)),(a1,.lst (ms.map V.int)),(p,.ins t.c_Program dx [("mark_sides",.ref a1),("counter_widths",.ref a2)]),(dx,.own p)]) h5
   refine⟨_,rfl,p,_,dx,_,rfl,h6.get 2 rfl,T.cl_Program,T.n_Program_stretches,(show 2<1000 by decide),?_⟩
   have h7:=h6.puti 2 rfl (.ins t.c_Program dx (pfl ⟨p,dx,a1,a2,D⟩))
   have ef:putF "stretches" (.ref D) [("mark_sides",.ref a1),("counter_widths",.ref a2)]=pfl ⟨p,dx,a1,a2,D⟩:=by kernel_rfl
   have h8:=h7
   rw[<- ef] at h8
   rw[ef] at h8 ⊢
   obtain⟨N2,eN2⟩:∃ N2:Kn,[(a2,HO.lst (ws.map V.int)),(a1,.lst (ms.map V.int)),(p,.ins t.c_Program dx (pfl ⟨p,dx,a1,a2,D⟩)),(dx,.own p)]++((D,HO.lst (ssV s1))::N)=N2:=⟨_,rfl⟩
   have h9:Has (upd H5 p (.ins t.c_Program dx (pfl ⟨p,dx,a1,a2,D⟩))) (N2++L):=by rw[<- eN2]; exact h7
   have pin:PIn t.c_Program ⟨p,dx,a1,a2,D⟩ ms ws s1 (N2++L):=by
    rw[<- eN2]
    refine⟨by simp,by simp,by simp,by simp,fun z hz=>?_,fun z hz x hx=>?_⟩
    ·exact mem_append_left _ (by simp[hN z hz])
    ·have:z.2 ∈ ss.map (·.2):=by rw[<- es1]; exact mem_map_of_mem hz
     obtain⟨z',h1,h2⟩:=mem_map.mp this
     exact mem_append_right _ (mr z' h1 x (by rw[h2]; exact hx))
   have pinN:PInN t.c_Program ⟨p,dx,a1,a2,D⟩ ms ws s1 N2:=by
    rw[<- eN2]
    exact⟨by simp,by simp,by simp,by simp,fun z hz=>by simp[hN z hz]⟩
   obtain⟨A,hA⟩:∃ A:PA,(⟨p,dx,a1,a2,D⟩:PA)=A:=⟨_,rfl⟩
   have hp:p=A.p:=by rw[<- hA]
   rw[hA] at pin pinN
   clear h7 h8 h6 h5
   generalize upd H5 p (.ins t.c_Program dx (pfl ⟨p,dx,a1,a2,D⟩))=H6 at h9 ⊢
   clear hA eN2
   subst hp
   have hL:∀ {H':Hp}{z:Addr×HO},Has H' (N2++L)->z ∈ N2++L->H' z.1=some z.2:=fun h m=>h.at_ _ m
   have lss:s1.length=ss.length:=by rw[ls1,en]
   refine⟨_,rfl,A.p,A.dx,_,rfl,hL h9 pin.p,(pfl_n _).2.2.2.2.1,A,ms,ws,s1,_,rfl,h9,pin,hms,hws,(by intro e; rw[e] at lss; exact hne (List.length_eq_zero_iff.mp lss.symm)),?_⟩
   refine⟨_,rfl,A.p,A.dx,_,rfl,hL h9 pin.p,(pfl_n _).1,A,_,rfl,hL h9 pin.p,hL h9 pin.s,_,rfl,(by omega),(by unfold ssV; rw[length_map]; omega),for_range (fun i σ H'=>∃ (o:Option V),σ=[some (.ref A.p),some (.ref m0),some (.ref w0),some (.ref s0),o]/\Has H' (N2++L)) ⟨_,rfl,h9⟩ ?_ ?_⟩
   ·rintro i σ H1 hi ⟨o,rfl,h8⟩
    have hi:i<s1.length:=by
     have:i<((ssV s1).length:Int).toNat:=hi
     unfold ssV at this
     rw[length_map] at this
     omega
    have hz:=getElem?_eq_getElem hi
    have hg:=(hgood.tr es1) i _ hz
    rw[Int.zero_add]
    exact⟨_,rfl,A.p,A.dx,_,rfl,hL h8 pin.p,(pfl_n _).2.2.2.2.2.1,_,rfl,A,ms,ws,s1,_,i,_,rfl,h8,pin,hz,hg.1,hg.2,fun H2 h9=>⟨_,rfl,h9⟩⟩
   ·rintro σ H1 ⟨o,rfl,h8⟩
    exact q _ A s1 N2 rfl es1 pinN pin h8
end
end P
set_option Elab.async false
set_option linter.all false
set_option maxRecDepth 100000
set_option maxHeartbeats 4000000
namespace P
open PySem L2
set_option genInjectivity false in
set_option genSizeOf false in
structure RA where
 r:Addr
 dx:Addr
 rt:Addr
 mr:Addr
 cw:Addr
 ct:Addr
 nh:Addr
set_option genInjectivity false in
set_option genSizeOf false in
structure Md where
 ms:List Int
 ws:List Int
 cs:List Int
 ns:List Int
 rt:List (Int×Int)
def qfl (R:RA) (pr wv:V):List (Str×V):=[("program",pr),("place",wv),("returns",.ref R.rt),("mark_sides",.ref R.mr),("counter_widths",.ref R.cw),("counts",.ref R.ct),("notes_heard",.ref R.nh)]
def rK (C:Addr) (R:RA) (pr wv:V) (x:Md) (ra:List Addr):Kn:=[(R.r,.ins C R.dx (qfl R pr wv)),(R.dx,.own R.r),(R.rt,.lst (ra.map V.ref)),(R.mr,.lst (x.ms.map V.int)),(R.cw,.lst (x.ws.map V.int)),(R.ct,.lst (x.cs.map V.int)),(R.nh,.lst (x.ns.map V.int))]
section
variable (R:RA) (pr wv:V)
theorem qfl_pr:(qfl R pr wv).lookup ("program" : Str)=some pr:=by kernel_rfl
theorem qfl_pl:(qfl R pr wv).lookup ("place" : Str)=some wv:=by kernel_rfl
theorem qfl_rt:(qfl R pr wv).lookup ("returns" : Str)=some (.ref R.rt):=by kernel_rfl
theorem qfl_mk:(qfl R pr wv).lookup ("mark_sides" : Str)=some (.ref R.mr):=by kernel_rfl
theorem qfl_cw:(qfl R pr wv).lookup ("counter_widths" : Str)=some (.ref R.cw):=by kernel_rfl
theorem qfl_ct:(qfl R pr wv).lookup ("counts" : Str)=some (.ref R.ct):=by kernel_rfl
theorem qfl_nh:(qfl R pr wv).lookup ("notes_heard" : Str)=some (.ref R.nh):=by kernel_rfl
theorem qfl_put (v:V):putF "place" v (qfl R pr wv)=qfl R pr v:=by kernel_rfl
theorem qfl_n:(qfl R pr wv).lookup ("where" : Str)=none/\(qfl R pr wv).lookup ("callers" : Str)=none/\(qfl R pr wv).lookup ("mark" : Str)=none/\(qfl R pr wv).lookup ("counter" : Str)=none/\(qfl R pr wv).lookup ("heard" : Str)=none/\(qfl R pr wv).lookup ("step" : Str)=none/\(qfl R pr wv).lookup ("place_behind" : Str)=none/\(qfl R pr wv).lookup ("bump" : Str)=none :=
 ⟨by kernel_rfl,by kernel_rfl,by kernel_rfl,by kernel_rfl,by kernel_rfl,by kernel_rfl,by kernel_rfl,by kernel_rfl⟩
end
theorem ixN_nat {n i:Nat} (h:i<n):ixN n (i:Int)=some i:=by unfold ixN; rw[if_pos (by omega),if_pos (by omega)]; rfl
theorem int_at {xs:List Int}{n:Nat}{x:Int} (h:xs[n]?=some x):(xs.map V.int)[n]?=some (.int x):=by rw[getElem?_map,h]; rfl
theorem bring_perm {α:Type}:∀ (L:List α) (i:Nat) (hi:i<L.length),L.Perm (L[i]::L.eraseIdx i)
 | _::_,0,_=>.refl _
 | x::L,i+1,h=>((bring_perm L i (by simpa using h)).cons x).trans (.swap _ _ _)
theorem bringH {H:Hp}{L:Kn} (h:Has H L) (i:Nat) {x:Addr×HO} (e:L[i]?=some x):Has H (x::L.eraseIdx i):=by
 obtain⟨hi,rfl⟩:=List.getElem?_eq_some_iff.mp e
 exact h.perm (bring_perm L i hi)
theorem hcast {H:Hp}{L L':Kn} (h:Has H L) (e:L=L'):Has H L':=e ▸ h
theorem sz {n:Nat} (h:n<=1000000):n<=sizeLine:=Nat.le_of_lt (sizeOk h)
theorem sz_ (n:Nat) (h:n<=1000000:=by decide):n<=sizeLine:=sz h
theorem Rw.at0 (y:Rw):atI y.v 0=some (.str y.ws):=atI_nat (j:=0) rfl
def Md.full (x:Md) (c:Int):Prop:=(x.cs[c.toNat]?).getD 0=1*2 ^ ((x.ws[c.toNat]?).getD 0).toNat - 1
instance (x:Md) (c:Int):Decidable (x.full c):=by unfold Md.full; infer_instance
def Rw.act (y:Rw) (x:Md) (k n:Int):Md :=
 match y with
 | .bell m=>{ x with ns:=x.ns++[m] }
 | .set m e=>{ x with ms:=x.ms.set m.toNat e }
 | .bump c _=>{ x with cs:=x.cs.set c.toNat (if x.full c then 0 else(x.cs[c.toNat]?).getD 0+1) }
 | .call _=>{ x with rt:=x.rt++[(k,n+1)] }
 | .fin=>{ x with rt:=x.rt.dropLast }
 | _=>x
def Rw.nx (y:Rw) (x:Md) (k n:Int):Option (Int×Int) :=
 match y with
 | .bell _=>some (k,n+1)
 | .set _ _=>some (k,n+1)
 | .ask m a b=>some (k,if (x.ms[m.toNat]?).getD 0=1 then a else b)
 | .bump c r=>some (k,if x.full c then r else n+1)
 | .go r=>some (k,r)
 | .call s=>some (s,0)
 | .fin=>x.rt.getLast?
def Rw.fit (y:Rw) (x:Md):Prop :=
 match y with
 | .bell _=>x.ns.length<=1000
 | .set m _=>0<=m/\m<x.ms.length
 | .ask m _ _=>0<=m/\m<x.ms.length
 | .bump c _=>0<=c/\c<x.cs.length/\∃ k:Nat,x.ws[c.toNat]?=some (k:Int)/\k<=8
 | .call _=>x.rt.length<=1000
 | _=>True
def RT (ra:List Addr) (rt:List (Int×Int)) (L:Kn):Prop:=ra.length=rt.length/\∀ (i:Nat) a z,ra[i]?=some a->rt[i]?=some z->(a,HO.tup [.int z.1,.int z.2]) ∈ L
def PlIn (wv:V) (pl:Option (Int×Int)) (L:Kn):Prop :=
 match pl with
 | none=>wv=.non
 | some z=>∃ a,wv=.ref a/\(a,HO.tup [.int z.1,.int z.2]) ∈ L
theorem RT.mono {ra:List Addr}{rt:List (Int×Int)}{L L':Kn} (h:RT ra rt L) (s:∀ z ∈ L,z ∈ L'):RT ra rt L':=⟨h.1,fun i a z h1 h2=>s _ (h.2 i a z h1 h2)⟩
theorem PlIn.mono {wv:V}{pl:Option (Int×Int)}{L L':Kn} (h:PlIn wv pl L) (s:∀ z ∈ L,z ∈ L'):PlIn wv pl L':=by
 cases pl with
 | none=>exact h
 | some z=>obtain⟨a,h1,h2⟩:=h; exact⟨a,h1,s _ h2⟩
theorem RT.snoc {ra:List Addr}{rt:List (Int×Int)}{L:Kn}{a:Addr}{z:Int×Int} (h:RT ra rt L) (m:(a,HO.tup [.int z.1,.int z.2]) ∈ L):RT (ra++[a]) (rt++[z]) L:=by
 refine⟨by simp[h.1],fun i b y h1 h2=>?_⟩
 by_cases hi:i<ra.length
 ·rw[getElem?_append_left hi] at h1
  rw[getElem?_append_left (by rw[<- h.1]; exact hi)] at h2
  exact h.2 i b y h1 h2
 ·rw[getElem?_append_right (by omega)] at h1
  rw[getElem?_append_right (by rw[<- h.1]; omega),<- h.1] at h2
  cases hj:i - ra.length with
  | zero=>rw[hj] at h1 h2; cases h1; cases h2; exact m
  | succ j=>rw[hj] at h1; simp at h1
theorem RT.drop {ra:List Addr}{rt:List (Int×Int)}{L:Kn} (h:RT ra rt L):RT ra.dropLast rt.dropLast L:=by
 refine⟨by simp[h.1],fun i b y h1 h2=>?_⟩
 rw[List.getElem?_dropLast] at h1 h2
 split at h1
 ·split at h2
  ·exact h.2 i b y h1 h2
  ·cases h2
 ·cases h1
theorem RT.last {ra:List Addr}{rt:List (Int×Int)}{L:Kn} (h:RT ra rt L) (hne:ra≠[]):∃ a z,ra[ra.length - 1]?=some a/\rt.getLast?=some z/\(a,HO.tup [.int z.1,.int z.2]) ∈ L:=by
 have hl:0<ra.length:=List.length_pos_iff.mpr hne
 have h1:=h.1
 refine⟨ra[ra.length - 1],rt[rt.length - 1],getElem?_eq_getElem (by omega),?_,?_⟩
 ·rw[List.getLast?_eq_getElem?,getElem?_eq_getElem (by omega)]
 ·exact h.2 (ra.length - 1) _ _ (getElem?_eq_getElem (by omega)) (by rw[h1]; exact getElem?_eq_getElem (by omega))
def sp_Rinit (C Cp:Addr):Sp:=fun vs H Q _=>∃ (r dx:Addr) (A:PA) (ms ws:List Int) (L:Kn),vs=[.ref r,.ref A.p]/\Has H ((r,.ins C dx [])::(dx,.own r)::L)/\(A.p,HO.ins Cp A.dx (pfl A)) ∈ L/\(A.m,HO.lst (ms.map V.int)) ∈ L/\(A.w,HO.lst (ws.map V.int)) ∈ L/\ws.length<=100 /\
 ∀ H' R pl,R.r=r->Has H' (rK C R (.ref A.p) (.ref pl) ⟨ms,ws,ws.map (fun _=>0),[],[]⟩ []++((pl,.tup [.int 0,.int 0])::L))->Q .non H'
def sp_where (C:Addr):Sp:=fun vs H Q _=>∃ (R:RA) (pr wv:V) (x:Md) (ra:List Addr) (L:Kn),vs=[.ref R.r]/\Has H (rK C R pr wv x ra++L)/\Q wv H
def sp_callers (C:Addr):Sp:=fun vs H Q _=>∃ (R:RA) (pr wv:V) (x:Md) (ra:List Addr) (L:Kn),vs=[.ref R.r]/\Has H (rK C R pr wv x ra++L)/\∀ H' l,Has H' ((l,.lst (ra.map V.ref))::(rK C R pr wv x ra++L))->Q (.ref l) H'
def sp_heard (C:Addr):Sp:=fun vs H Q _=>∃ (R:RA) (pr wv:V) (x:Md) (ra:List Addr) (L:Kn),vs=[.ref R.r]/\Has H (rK C R pr wv x ra++L)/\∀ H' l,Has H' ((l,.lst (x.ns.map V.int))::(rK C R pr wv x ra++L))->Q (.ref l) H'
def sp_rmark (C:Addr):Sp:=fun vs H Q _=>∃ (R:RA) (pr wv:V) (x:Md) (ra:List Addr) (L:Kn) (n:Nat) (v:Int),vs=[.ref R.r,.int n]/\Has H (rK C R pr wv x ra++L)/\x.ms[n]?=some v/\Q (.int v) H
def sp_rcounter (C:Addr):Sp:=fun vs H Q _=>∃ (R:RA) (pr wv:V) (x:Md) (ra:List Addr) (L:Kn) (n:Nat) (v:Int),vs=[.ref R.r,.int n]/\Has H (rK C R pr wv x ra++L)/\x.cs[n]?=some v/\Q (.int v) H
def sp_bump (C:Addr):Sp:=fun vs H Q _=>∃ (R:RA) (pr wv:V) (x:Md) (ra:List Addr) (L:Kn) (n k:Nat) (v:Int),vs=[.ref R.r,.int n]/\Has H (rK C R pr wv x ra++L)/\x.cs[n]?=some v/\x.ws[n]?=some (k:Int)/\k<=8/\∀ H',Has H' (rK C R pr wv { x with cs:=x.cs.set n (if v=1*2 ^ k - 1 then 0 else v+1) } ra++L)->Q (.bl (decide (v=1*2 ^ k - 1))) H'
def sp_behind (C:Addr):Sp:=fun vs H Q _=>∃ (R:RA) (pr wv:V) (x:Md) (ra:List Addr) (L:Kn) (a:Addr) (k n:Int) (y:Rw),vs=[.ref R.r,.ref a,.int k,.int n]/\Has H (rK C R pr wv x ra++L)/\RT ra x.rt L/\(a,HO.tup y.v) ∈ L/\y.fit x /\
 ∀ H' N ra' wv',RT ra' (y.act x k n).rt (N++L)->PlIn wv' (y.nx x k n) (N++L)->Has H' (rK C R pr wv (y.act x k n) ra'++(N++L))->Q wv' H'
def sp_step (C Cp:Addr):Sp:=fun vs H Q _=>∃ (R:RA) (A:PA) (wv:V) (pl:Option (Int×Int)) (x:Md) (ra:List Addr) (L:Kn),vs=[.ref R.r]/\Has H (rK C R (.ref A.p) wv x ra++L)/\RT ra x.rt L/\PlIn wv pl L /\
 ((pl=none/\Q (.bl false) H)∨∃ (ss:Ss) (k n:Nat) (z:Addr×List (Addr×Rw)) (a:Addr) (y:Rw),pl=some ((k:Int),(n:Int))/\(A.p,HO.ins Cp A.dx (pfl A)) ∈ L/\(A.s,HO.lst (ssV ss)) ∈ L/\ss[k]?=some z/\(z.1,HO.lst (rwV z.2)) ∈ L/\z.2[n]?=some (a,y)/\(a,HO.tup y.v) ∈ L/\y.fit x /\
  ∀ H' N ra' wv',RT ra' (y.act x k n).rt (N++L)->PlIn wv' (y.nx x k n) (N++L)->Has H' (rK C R (.ref A.p) wv' (y.act x k n) ra'++(N++L))->Q (.bl true) H')
section
variable {P:Program}{w:World}{K:PySem.W.Frag}{mg:Str->Option Value}{base:Heap}{t:Adr}
theorem scWe:FnScope ["self"] ["self"] (defScope s_Jg):=⟨rfl,rfl,rfl,by decide +kernel,rfl,by decide +kernel,by decide +kernel⟩
theorem ok_Jg (T:Txt K mg t):FnOk P w K mg base CX0 1 t.f_Jg t.d_Jg ["self"] (sp_where t.c_Reader):=by
 refine T.F_Jg.ok scWe (fun vs H Q E h=>?_) (fun cdv A outer s H vs Q E hr h=>?_)
 ·obtain⟨_,_,_,_,_,_,rfl,_⟩:=h
  rfl
 ·obtain⟨R,pr,wv,x,ra,L,rfl,hH,q⟩:=h
  refine⟨_,(pss_one (ps_ret (pe_fld (pv 0) rfl))),?_⟩
  exact⟨_,rfl,R.r,_,R.dx,_,_,rfl,hH.get 0 rfl,T.cl_Reader,T.n_Reader_place,qfl_pl _ _ _,q⟩
theorem scCa:FnScope ["self"] ["self"] (defScope s_J8):=⟨rfl,rfl,rfl,by decide +kernel,rfl,by decide +kernel,by decide +kernel⟩
theorem ok_J8 (T:Txt K mg t):FnOk P w K mg base CX0 1 t.f_J8 t.d_J8 ["self"] (sp_callers t.c_Reader):=by
 refine T.F_J8.ok scCa (fun vs H Q E h=>?_) (fun cdv A outer s H vs Q E hr h=>?_)
 ·obtain⟨_,_,_,_,_,_,rfl,_⟩:=h
  rfl
 ·obtain⟨R,pr,wv,x,ra,L,rfl,hH,q⟩:=h
  refine⟨_,(pss_one (ps_ret (pe_callTy call_list_of (by rfl) T.z_list (by rfl) (pa_cons (pe_fld (pv 0) rfl) pa_nil)))),?_⟩
  exact⟨_,rfl,R.r,_,R.dx,_,_,rfl,hH.get 0 rfl,T.cl_Reader,T.n_Reader_returns,qfl_rt _ _ _,R.rt,_,rfl,.inl (SqL.of (hH.get 2 rfl)),fun l hl=>q _ l (hH.alloc hl _)⟩
theorem scHe:FnScope ["self"] ["self"] (defScope s_Jh):=⟨rfl,rfl,rfl,by decide +kernel,rfl,by decide +kernel,by decide +kernel⟩
theorem ok_Jh (T:Txt K mg t):FnOk P w K mg base CX0 1 t.f_Jh t.d_Jh ["self"] (sp_heard t.c_Reader):=by
 refine T.F_Jh.ok scHe (fun vs H Q E h=>?_) (fun cdv A outer s H vs Q E hr h=>?_)
 ·obtain⟨_,_,_,_,_,_,rfl,_⟩:=h
  rfl
 ·obtain⟨R,pr,wv,x,ra,L,rfl,hH,q⟩:=h
  refine⟨_,(pss_one (ps_ret (pe_callTy call_list_of (by rfl) T.z_list (by rfl) (pa_cons (pe_fld (pv 0) rfl) pa_nil)))),?_⟩
  exact⟨_,rfl,R.r,_,R.dx,_,_,rfl,hH.get 0 rfl,T.cl_Reader,T.n_Reader_notes_heard,qfl_nh _ _ _,R.nh,_,rfl,.inl (SqL.of (hH.get 6 rfl)),fun l hl=>q _ l (hH.alloc hl _)⟩
theorem scMk:FnScope ["self","mark"] ["self","mark"] (defScope s_Jp):=⟨rfl,rfl,rfl,by decide +kernel,rfl,by decide +kernel,by decide +kernel⟩
theorem ok_Jp (T:Txt K mg t):FnOk P w K mg base CX0 2 t.f_Jp t.d_Jp ["self","mark"] (sp_rmark t.c_Reader):=by
 refine T.F_Jp.ok scMk (fun vs H Q E h=>?_) (fun cdv A outer s H vs Q E hr h=>?_)
 ·obtain⟨_,_,_,_,_,_,_,_,rfl,_⟩:=h
  rfl
 ·obtain⟨R,pr,wv,x,ra,L,n,v,rfl,hH,hn,q⟩:=h
  have hlt:=(List.getElem?_eq_some_iff.mp hn).1
  refine⟨_,(pss_cons (ps_expr (pe_call (ok_Js T) (hr.mono (by decide)) (by rfl) T.m_Js T.F_Js.kp (b_Js T) .nil pass0 (pa_cons (pv 1) (pa_cons (pe_callB call_len_seq (by rfl) T.z_len (by rfl) (pa_cons (pe_fld (pv 0) rfl) pa_nil)) pa_nil))))
   (pss_one (ps_ret (pe_ix ix_list (pe_fld (pv 0) rfl) (pv 1) (fun _ _=>rfl))))),?_⟩
  refine⟨_,rfl,_,rfl,R.r,_,R.dx,_,_,rfl,hH.get 0 rfl,T.cl_Reader,T.n_Jp_sides,qfl_mk _ _ _,R.mr,_,rfl,.inl (SqL.of (hH.get 3 rfl)),_,_,rfl,by omega,by rw[length_map]; omega,?_⟩
  exact⟨_,rfl,R.r,_,R.dx,_,_,rfl,hH.get 0 rfl,T.cl_Reader,T.n_Jp_sides,qfl_mk _ _ _,_,rfl,R.mr,_,_,_,rfl,rfl,SqL.of (hH.get 3 rfl),atI_nat (int_at hn),q⟩
theorem scCo:FnScope ["self","counter"] ["self","counter"] (defScope s_J9):=⟨rfl,rfl,rfl,by decide +kernel,rfl,by decide +kernel,by decide +kernel⟩
theorem ok_J9 (T:Txt K mg t):FnOk P w K mg base CX0 2 t.f_J9 t.d_J9 ["self","counter"] (sp_rcounter t.c_Reader):=by
 refine T.F_J9.ok scCo (fun vs H Q E h=>?_) (fun cdv A outer s H vs Q E hr h=>?_)
 ·obtain⟨_,_,_,_,_,_,_,_,rfl,_⟩:=h
  rfl
 ·obtain⟨R,pr,wv,x,ra,L,n,v,rfl,hH,hn,q⟩:=h
  have hlt:=(List.getElem?_eq_some_iff.mp hn).1
  refine⟨_,(pss_cons (ps_expr (pe_call (ok_Jb T) (hr.mono (by decide)) (by rfl) T.m_Jb T.F_Jb.kp (b_Jb T) .nil pass0 (pa_cons (pv 1) (pa_cons (pe_callB call_len_seq (by rfl) T.z_len (by rfl) (pa_cons (pe_fld (pv 0) rfl) pa_nil)) pa_nil))))
   (pss_one (ps_ret (pe_ix ix_list (pe_fld (pv 0) rfl) (pv 1) (fun _ _=>rfl))))),?_⟩
  refine⟨_,rfl,_,rfl,R.r,_,R.dx,_,_,rfl,hH.get 0 rfl,T.cl_Reader,T.n_Reader_counts,qfl_ct _ _ _,R.ct,_,rfl,.inl (SqL.of (hH.get 5 rfl)),_,_,rfl,by omega,by rw[length_map]; omega,?_⟩
  exact⟨_,rfl,R.r,_,R.dx,_,_,rfl,hH.get 0 rfl,T.cl_Reader,T.n_Reader_counts,qfl_ct _ _ _,_,rfl,R.ct,_,_,_,rfl,rfl,SqL.of (hH.get 5 rfl),atI_nat (int_at hn),q⟩
theorem scBu:FnScope ["self","counter","count","around"] ["self","counter"] (defScope s_Jm):=⟨rfl,rfl,rfl,by decide +kernel,rfl,by decide +kernel,by decide +kernel⟩
theorem ok_Jm (T:Txt K mg t):FnOk P w K mg base CX0 2 t.f_Jm t.d_Jm ["self","counter"] (sp_bump t.c_Reader):=by
 refine T.F_Jm.ok scBu (fun vs H Q E h=>?_) (fun cdv A outer s H vs Q E hr h=>?_)
 ·obtain⟨_,_,_,_,_,_,_,_,_,rfl,_⟩:=h
  rfl
 ·obtain⟨R,pr,wv,x,ra,L,n,k,v,rfl,hH,hn,hk,k8,q⟩:=h
  have hlt:=(List.getElem?_eq_some_iff.mp hn).1
  refine⟨_,(pss_cons (ps_set (i:=2) scBu.nd rfl (Or.inl rfl) (pe_ix ix_list (pe_fld (pv 0) rfl) (pv 1) (fun _ _=>rfl)))
   (pss_cons (ps_set (i:=3) scBu.nd rfl (Or.inl rfl) (pe_cmpR op_eq (pv 2) (pe_call (ok_Ju T) (hr.mono (by decide)) (by rfl) T.m_Ju T.F_Ju.kp (b_Ju T) .nil pass0 (pa_cons (pe_ix ix_list (pe_fld (pv 0) rfl) (pv 1) (fun _ _=>rfl)) pa_nil)) (nomark _)))
   (pss_cons (ps_asg (pe_ifExp (pt_val (pv 3)) pe_int (pe_op op_add (pv 2) pe_int)) (pg_sub (pe_fld (pv 0) rfl) (pv 1) set_list))
   (pss_one (ps_ret (pv 3)))))),?_⟩
  refine⟨_,rfl,R.r,_,R.dx,_,_,rfl,hH.get 0 rfl,T.cl_Reader,T.n_Reader_counts,qfl_ct _ _ _,_,rfl,R.ct,_,_,_,rfl,rfl,SqL.of (hH.get 5 rfl),atI_nat (int_at hn),?_⟩
  refine⟨_,rfl,_,rfl,R.r,_,R.dx,_,_,rfl,hH.get 0 rfl,T.cl_Reader,T.n_J9_widths,qfl_cw _ _ _,_,rfl,R.cw,_,_,_,rfl,rfl,SqL.of (hH.get 4 rfl),atI_nat (int_at hk),k,rfl,k8,rfl,?_⟩
  rw[decInt]
  obtain⟨nv,env⟩:∃ nv,(if v=1*2 ^ k - 1 then(0:Int) else v+1)=nv:=⟨_,rfl⟩
  rw[env] at q
  have fin:∀ (bb:Bool),bb=decide (v=1*2 ^ k - 1)->Q (.bl bb) (upd H R.ct (.lst ((x.cs.map V.int).set n (.int nv)))):=by
   intro bb eb
   rw[eb]
   refine q _ ?_
   have h1:=hH.puti 5 rfl (.lst ((x.cs.map V.int).set n (.int nv)))
   rw[show((x.cs.map V.int).set n (.int nv))=(x.cs.set n nv).map V.int from List.map_set.symm] at h1 ⊢
   exact h1
  refine⟨_,rfl,_,rfl,?_⟩
  by_cases hv:v=1*2 ^ k - 1
  ·rw[if_pos hv] at env
   refine ifT (decide_eq_true hv) ?_
   refine⟨_,rfl,R.r,_,R.dx,_,_,rfl,hH.get 0 rfl,T.cl_Reader,T.n_Reader_counts,qfl_ct _ _ _,_,rfl,R.ct,_,_,n,rfl,rfl,hH.get 5 rfl,ixN_nat (by rw[length_map]; exact hlt),?_⟩
   rw[env]
   exact⟨_,rfl,fin _ rfl⟩
  ·rw[if_neg hv] at env
   refine ifF (decide_eq_false hv) ⟨_,rfl,_,_,rfl,rfl,?_⟩
   refine⟨_,rfl,R.r,_,R.dx,_,_,rfl,hH.get 0 rfl,T.cl_Reader,T.n_Reader_counts,qfl_ct _ _ _,_,rfl,R.ct,_,_,n,rfl,rfl,hH.get 5 rfl,ixN_nat (by rw[length_map]; exact hlt),?_⟩
   dsimp only
   rw[env]
   exact⟨_,rfl,fin _ rfl⟩
end
end P
set_option Elab.async false
set_option linter.all false
set_option maxRecDepth 100000
set_option maxHeartbeats 4000000
namespace P
open PySem L2
section
variable {P:Program}{w:World}{K:PySem.W.Frag}{mg:Str->Option Value}{base:Heap}{t:Adr}
theorem scPb:FnScope ["self","row","stretch","number","word","behind"] ["self","row","stretch","number"] (defScope s_J2):=⟨rfl,rfl,rfl,by decide +kernel,rfl,by decide +kernel,by decide +kernel⟩
theorem ok_J2 (T:Txt K mg t):FnOk P w K mg base CX0 3 t.f_J2 t.d_J2 ["self","row","stretch","number"] (sp_behind t.c_Reader):=by
 refine T.F_J2.ok scPb (fun vs H Q E h=>?_) (fun cdv A outer s H vs Q E hr h=>?_)
 ·obtain⟨_,_,_,_,_,_,_,_,_,_,rfl,_⟩:=h
  rfl
 ·obtain⟨R,pr,wv,x,ra,L,a,k,n,y,rfl,hH,hrt,ha,hf,q⟩:=h
  have ga:=hH.at_ (a,_) (mem_append_right _ ha)
  refine⟨_,(pss_cons (ps_set (i:=4) scPb.nd rfl (Or.inl rfl) (pe_ix ix_tup (pv 1) pe_int (fun _ _=>rfl)))
   (pss_cons (ps_set (i:=5) scPb.nd rfl (Or.inl rfl) (pe_tup (pa_cons (pv 2) (pa_cons (pe_op op_add (pv 3) pe_int) pa_nil))))
   (pss_cons (ps_if (pt_cmpR op_eq (pv 4) pe_str (nomark _))
    (pss_one (ps_expr (pe_bm PySem.F.plainAttrs_list PySem.F.slot_list_append PySem.F.type_list_append mt_append (pe_fld (pv 0) rfl) (pa_cons (pe_ix ix_tup (pv 1) pe_int (fun _ _=>rfl)) pa_nil))))
    (pss_one (ps_if (pt_cmpR op_eq (pv 4) pe_str (nomark _))
      (pss_one (ps_asg (pe_ix ix_tup (pv 1) pe_int (fun _ _=>rfl)) (pg_sub (pe_fld (pv 0) rfl) (pe_ix ix_tup (pv 1) pe_int (fun _ _=>rfl)) set_list)))
      (pss_one (ps_if (pt_cmpR op_eq (pv 4) pe_str (nomark _))
        (pss_one (ps_ret (pe_tup (pa_cons (pv 2) (pa_cons (pe_ifExp (pt_cmpR op_eq (pe_ix ix_list (pe_fld (pv 0) rfl) (pe_ix ix_tup (pv 1) pe_int (fun _ _=>rfl)) (fun _ _=>rfl)) pe_int (nomark _)) (pe_ix ix_tup (pv 1) pe_int (fun _ _=>rfl)) (pe_ix ix_tup (pv 1) pe_int (fun _ _=>rfl))) pa_nil)))))
        (pss_one (ps_if (pt_cmpR op_eq (pv 4) pe_str (nomark _))
          (pss_one (ps_ret (pe_ifExp (pt_val (pe_meth (pv 0) T.cl_Reader T.M_Jm (ok_Jm T) (hr.mono (by decide)) (b_Jm T) .nil pass0 (pa_cons (pe_ix ix_tup (pv 1) pe_int (fun _ _=>rfl)) pa_nil))) (pe_tup (pa_cons (pv 2) (pa_cons (pe_ix ix_tup (pv 1) pe_int (fun _ _=>rfl)) pa_nil))) (pv 5))))
          (pss_one (ps_if (pt_cmpR op_eq (pv 4) pe_str (nomark _))
            (pss_one (ps_ret (pe_tup (pa_cons (pv 2) (pa_cons (pe_ix ix_tup (pv 1) pe_int (fun _ _=>rfl)) pa_nil)))))
            (pss_one (ps_if (pt_cmpR op_eq (pv 4) pe_str (nomark _))
              (pss_cons (ps_expr (pe_bm PySem.F.plainAttrs_list PySem.F.slot_list_append PySem.F.type_list_append mt_append (pe_fld (pv 0) rfl) (pa_cons (pv 5) pa_nil)))
               (pss_one (ps_ret (pe_tup (pa_cons (pe_ix ix_tup (pv 1) pe_int (fun _ _=>rfl)) (pa_cons pe_int pa_nil))))))
              (pss_one (ps_if (pt_cmpR op_eq (pv 4) pe_str (nomark _))
                (pss_one (ps_ret (pe_ifExp (pt_truth (pe_fld (pv 0) rfl) (by intro _; rfl)) (pe_bm0 PySem.F.plainAttrs_list PySem.F.slot_list_pop PySem.F.type_list_pop mt_pop (pe_fld (pv 0) rfl)) pe_non)))
                pss_nil)))))))))))))
   (pss_one (ps_ret (pv 5)))))),?_⟩
  refine⟨_,rfl,a,_,_,_,rfl,rfl,SqT.of ga,y.at0,?_⟩
  refine⟨_,rfl,_,rfl,_,_,rfl,rfl,(sz_ 2),fun b hb=>?_⟩
  dsimp only at hb ⊢
  have h1:=hH.alloc hb (.tup [.int k,.int (n+1)])
  have ga1:=h1.at_ (a,_) (mem_cons_of_mem _ (mem_append_right _ ha))
  dsimp only at ga1
  have mo:∀ (N:Kn),∀ z ∈ L,z ∈ N++L:=fun N z m=>mem_append_right _ m
  cases y with
  | bell m=>
   have hl:x.ns.length<=1000:=hf
   refine⟨_,rfl,rfl,_,rfl,ifT (decide_eq_true rfl) ?_⟩
   refine⟨_,rfl,R.r,_,R.dx,_,_,rfl,h1.get 1 rfl,T.cl_Reader,T.n_Reader_notes_heard,qfl_nh _ _ _,.inl ⟨rfl,_,SqL.of (h1.get 7 rfl)⟩,_,rfl,a,_,_,_,rfl,rfl,SqT.of ga1,atI_nat (j:=1) rfl,R.nh,_,_,rfl,rfl,h1.get 7 rfl,sizeOk (by rw[length_map]; omega),?_⟩
   have h2:=h1.puti 7 rfl (.lst (x.ns.map V.int++[.int m]))
   have e:x.ns.map V.int++[V.int m]=(x.ns++[m]).map V.int:=by simp
   rw[e] at h2 ⊢
   exact⟨_,rfl,q _ [(b,.tup [.int k,.int (n+1)])] ra (.ref b) (hrt.mono (mo _)) ⟨b,rfl,by simp⟩ (Has.comm (X:=[(b,HO.tup [.int k,.int (n+1)])]) (Y:=rK t.c_Reader R pr wv (Rw.act (.bell m) x k n) ra) h2)⟩
  | set m e=>
   obtain⟨m0,m1⟩:0<=m/\m<x.ms.length:=hf
   obtain⟨m,rfl⟩:=Int.eq_ofNat_of_zero_le m0
   refine⟨_,rfl,rfl,_,rfl,ifF (sne "set" "bell") ?_⟩
   refine⟨_,rfl,rfl,_,rfl,ifT (decide_eq_true rfl) ?_⟩
   refine⟨_,rfl,a,_,_,_,rfl,rfl,SqT.of ga1,atI_nat (j:=2) rfl,_,rfl,R.r,_,R.dx,_,_,rfl,h1.get 1 rfl,T.cl_Reader,T.n_Jp_sides,qfl_mk _ _ _,_,rfl,a,_,_,_,rfl,rfl,SqT.of ga1,atI_nat (j:=1) rfl,R.mr,_,_,m,rfl,rfl,h1.get 4 rfl,ixN_nat (by rw[length_map]; omega),?_⟩
   have h2:=h1.puti 4 rfl (.lst ((x.ms.map V.int).set m (.int e)))
   rw[show((x.ms.map V.int).set m (.int e))=(x.ms.set m e).map V.int from List.map_set.symm] at h2 ⊢
   exact⟨_,rfl,q _ [(b,.tup [.int k,.int (n+1)])] ra (.ref b) (hrt.mono (mo _)) ⟨b,rfl,by simp⟩ (Has.comm (X:=[(b,HO.tup [.int k,.int (n+1)])]) (Y:=rK t.c_Reader R pr wv (Rw.act (.set (m:Int) e) x k n) ra) h2)⟩
  | ask m c d=>
   obtain⟨m0,m1⟩:0<=m/\m<x.ms.length:=hf
   obtain⟨m,rfl⟩:=Int.eq_ofNat_of_zero_le m0
   have hm:m<x.ms.length:=by omega
   have gm:x.ms[m]?=some x.ms[m]:=getElem?_eq_getElem hm
   have en:Rw.nx (.ask (m:Int) c d) x k n=some (k,if x.ms[m]=1 then c else d):=by
    unfold Rw.nx
    simp only[Int.toNat_natCast,gm,Option.getD_some]
   rw[en] at q
   refine⟨_,rfl,rfl,_,rfl,ifF (sne "ask" "bell") ?_⟩
   refine⟨_,rfl,rfl,_,rfl,ifF (sne "ask" "set") ?_⟩
   refine⟨_,rfl,rfl,_,rfl,ifT (decide_eq_true rfl) ?_⟩
   refine⟨_,rfl,_,rfl,R.r,_,R.dx,_,_,rfl,h1.get 1 rfl,T.cl_Reader,T.n_Jp_sides,qfl_mk _ _ _,_,rfl,a,_,_,_,rfl,rfl,SqT.of ga1,atI_nat (j:=1) rfl,R.mr,_,_,_,rfl,rfl,SqL.of (h1.get 4 rfl),atI_nat (int_at gm),rfl,_,rfl,?_⟩
   rw[decInt]
   refine ifd (fun hc=>?_) (fun hc=>?_)
   ·rw[if_pos hc] at q
    refine⟨_,rfl,a,_,_,_,rfl,rfl,SqT.of ga1,atI_nat (j:=2) rfl,(sz_ 2),fun b2 hb2=>?_⟩
    have h2:=h1.alloc hb2 (.tup [.int k,.int c])
    exact q _ [(b2,.tup [.int k,.int c]),(b,.tup [.int k,.int (n+1)])] ra (.ref b2) (hrt.mono (mo _)) ⟨b2,rfl,by simp⟩ (Has.comm (X:=[(b2,HO.tup [.int k,.int c]),(b,HO.tup [.int k,.int (n+1)])]) (Y:=rK t.c_Reader R pr wv x ra) h2)
   ·rw[if_neg hc] at q
    refine⟨_,rfl,a,_,_,_,rfl,rfl,SqT.of ga1,atI_nat (j:=3) rfl,(sz_ 2),fun b2 hb2=>?_⟩
    have h2:=h1.alloc hb2 (.tup [.int k,.int d])
    exact q _ [(b2,.tup [.int k,.int d]),(b,.tup [.int k,.int (n+1)])] ra (.ref b2) (hrt.mono (mo _)) ⟨b2,rfl,by simp⟩ (Has.comm (X:=[(b2,HO.tup [.int k,.int d]),(b,HO.tup [.int k,.int (n+1)])]) (Y:=rK t.c_Reader R pr wv x ra) h2)
  | bump c r=>
   obtain⟨c0,c1,kk,hk,k8⟩:0<=c/\c<x.cs.length/\∃ k:Nat,x.ws[c.toNat]?=some (k:Int)/\k<=8:=hf
   obtain⟨c,rfl⟩:=Int.eq_ofNat_of_zero_le c0
   rw[Int.toNat_natCast] at hk
   have hc:c<x.cs.length:=by omega
   have gv:x.cs[c]?=some x.cs[c]:=getElem?_eq_getElem hc
   have ef:x.full (c:Int)↔x.cs[c]=1*2 ^ kk - 1:=by
    unfold Md.full
    simp only[Int.toNat_natCast,gv,hk,Option.getD_some]
   have ea:Rw.act (.bump (c:Int) r) x k n={ x with cs:=x.cs.set c (if x.cs[c]=1*2 ^ kk - 1 then 0 else x.cs[c]+1) }:=by
    unfold Rw.act
    simp only[Int.toNat_natCast,gv,Option.getD_some,ef]
   have en:Rw.nx (.bump (c:Int) r) x k n=some (k,if x.cs[c]=1*2 ^ kk - 1 then r else n+1):=by
    unfold Rw.nx
    simp only[ef]
   rw[ea,en] at q
   refine⟨_,rfl,rfl,_,rfl,ifF (sne "bump" "bell") ?_⟩
   refine⟨_,rfl,rfl,_,rfl,ifF (sne "bump" "set") ?_⟩
   refine⟨_,rfl,rfl,_,rfl,ifF (sne "bump" "ask") ?_⟩
   refine⟨_,rfl,rfl,_,rfl,ifT (decide_eq_true rfl) ?_⟩
   refine⟨_,rfl,R.r,R.dx,_,rfl,h1.get 1 rfl,(qfl_n _ _ _).2.2.2.2.2.2.2,_,rfl,a,_,_,_,rfl,rfl,SqT.of ga1,atI_nat (j:=1) rfl,R,pr,wv,x,ra,_,c,kk,x.cs[c],rfl,Has.comm (X:=[_]) (Y:=rK t.c_Reader R pr wv x ra) h1,gv,hk,k8,fun H2 h2=>?_⟩
   have ga2:=h2.at_ (a,_) (mem_append_right _ (mem_append_right [_] ha))
   refine⟨_,rfl,?_⟩
   by_cases hv:x.cs[c]=1*2 ^ kk - 1
   ·rw[if_pos hv,if_pos hv] at q
    rw[if_pos hv] at h2
    refine ifT (decide_eq_true hv) ?_
    refine⟨_,rfl,_,rfl,a,_,_,_,rfl,rfl,SqT.of ga2,atI_nat (j:=2) rfl,(sz_ 2),fun b2 hb2=>?_⟩
    have h3:=h2.alloc hb2 (.tup [.int k,.int r])
    exact q _ [(b2,.tup [.int k,.int r]),(b,.tup [.int k,.int (n+1)])] ra (.ref b2) (hrt.mono (mo _)) ⟨b2,rfl,by simp⟩ (Has.comm (X:=[(b2,HO.tup [.int k,.int r])]) (Y:=rK t.c_Reader R pr wv { x with cs:=x.cs.set c 0 } ra) h3)
   ·rw[if_neg hv,if_neg hv] at q
    rw[if_neg hv] at h2
    refine ifF (decide_eq_false hv) ⟨_,rfl,?_⟩
    exact q _ [(b,.tup [.int k,.int (n+1)])] ra (.ref b) (hrt.mono (mo _)) ⟨b,rfl,by simp⟩ h2
  | go r=>
   refine⟨_,rfl,rfl,_,rfl,ifF (sne "go" "bell") ?_⟩
   refine⟨_,rfl,rfl,_,rfl,ifF (sne "go" "set") ?_⟩
   refine⟨_,rfl,rfl,_,rfl,ifF (sne "go" "ask") ?_⟩
   refine⟨_,rfl,rfl,_,rfl,ifF (sne "go" "bump") ?_⟩
   refine⟨_,rfl,rfl,_,rfl,ifT (decide_eq_true rfl) ?_⟩
   refine⟨_,rfl,_,rfl,a,_,_,_,rfl,rfl,SqT.of ga1,atI_nat (j:=1) rfl,(sz_ 2),fun b2 hb2=>?_⟩
   have h2:=h1.alloc hb2 (.tup [.int k,.int r])
   exact q _ [(b2,.tup [.int k,.int r]),(b,.tup [.int k,.int (n+1)])] ra (.ref b2) (hrt.mono (mo _)) ⟨b2,rfl,by simp⟩ (Has.comm (X:=[(b2,HO.tup [.int k,.int r]),(b,HO.tup [.int k,.int (n+1)])]) (Y:=rK t.c_Reader R pr wv x ra) h2)
  | call s1=>
   have hl:x.rt.length<=1000:=hf
   refine⟨_,rfl,rfl,_,rfl,ifF (sne "call" "bell") ?_⟩
   refine⟨_,rfl,rfl,_,rfl,ifF (sne "call" "set") ?_⟩
   refine⟨_,rfl,rfl,_,rfl,ifF (sne "call" "ask") ?_⟩
   refine⟨_,rfl,rfl,_,rfl,ifF (sne "call" "bump") ?_⟩
   refine⟨_,rfl,rfl,_,rfl,ifF (sne "call" "go") ?_⟩
   refine⟨_,rfl,rfl,_,rfl,ifT (decide_eq_true rfl) ?_⟩
   refine⟨_,rfl,R.r,_,R.dx,_,_,rfl,h1.get 1 rfl,T.cl_Reader,T.n_Reader_returns,qfl_rt _ _ _,.inl ⟨rfl,_,SqL.of (h1.get 3 rfl)⟩,_,rfl,R.rt,_,_,rfl,rfl,h1.get 3 rfl,sizeOk (by rw[length_map,hrt.1]; omega),?_⟩
   have h2:=h1.puti 3 rfl (.lst (ra.map V.ref++[.ref b]))
   have e:ra.map V.ref++[V.ref b]=(ra++[b]).map V.ref:=by simp
   rw[e] at h2 ⊢
   have h2':Has _ ((b,HO.tup [.int k,.int (n+1)])::(rK t.c_Reader R pr wv x (ra++[b])++L)):=h2
   have ga2:=h2'.at_ (a,_) (mem_cons_of_mem _ (mem_append_right _ ha))
   dsimp only at ga2
   refine⟨_,rfl,a,_,_,_,rfl,rfl,SqT.of ga2,atI_nat (j:=1) rfl,(sz_ 2),fun b2 hb2=>?_⟩
   have h3:=h2.alloc hb2 (.tup [.int s1,.int 0])
   refine q _ [(b2,.tup [.int s1,.int 0]),(b,.tup [.int k,.int (n+1)])] (ra++[b]) (.ref b2) ((hrt.mono (mo _)).snoc (by simp)) ⟨b2,rfl,by simp⟩ ?_
   exact Has.comm (X:=[(b2,HO.tup [.int s1,.int 0]),(b,HO.tup [.int k,.int (n+1)])]) (Y:=rK t.c_Reader R pr wv x (ra++[b])) h3
  | fin=>
   refine⟨_,rfl,rfl,_,rfl,ifF (sne "end" "bell") ?_⟩
   refine⟨_,rfl,rfl,_,rfl,ifF (sne "end" "set") ?_⟩
   refine⟨_,rfl,rfl,_,rfl,ifF (sne "end" "ask") ?_⟩
   refine⟨_,rfl,rfl,_,rfl,ifF (sne "end" "bump") ?_⟩
   refine⟨_,rfl,rfl,_,rfl,ifF (sne "end" "go") ?_⟩
   refine⟨_,rfl,rfl,_,rfl,ifF (sne "end" "call") ?_⟩
   refine⟨_,rfl,rfl,_,rfl,ifT (decide_eq_true rfl) ?_⟩
   refine⟨_,rfl,R.r,_,R.dx,_,_,rfl,h1.get 1 rfl,T.cl_Reader,T.n_Reader_returns,qfl_rt _ _ _,_,.inl ⟨_,SqL.of (h1.get 3 rfl),rfl⟩,?_⟩
   by_cases hne:ra=[]
   ·subst hne
    have e0:x.rt=[]:=List.length_eq_zero_iff.mp hrt.1.symm
    refine iteF ?_
    refine q _ [(b,.tup [.int k,.int (n+1)])] [] .non ?_ ?_ ?_
    ·show RT [] x.rt.dropLast _
     rw[e0]
     exact⟨rfl,fun i a z h1 _=>by simp at h1⟩
    ·show PlIn .non x.rt.getLast? _
     rw[e0]
     rfl
    ·exact Has.comm (X:=[(b,HO.tup [.int k,.int (n+1)])]) (Y:=rK t.c_Reader R pr wv x []) h1
   ·obtain⟨la,lz,g1,g2,g3⟩:=hrt.last hne
    refine ifT (by cases ra with | nil=>exact absurd rfl hne | cons _ _=>rfl) ?_
    refine⟨_,rfl,R.r,_,R.dx,_,_,rfl,h1.get 1 rfl,T.cl_Reader,T.n_Reader_returns,qfl_rt _ _ _,.inl ⟨rfl,_,SqL.of (h1.get 3 rfl)⟩,R.rt,_,.ref la,rfl,rfl,h1.get 3 rfl,(by rw[length_map,getElem?_map,g1]; rfl),?_⟩
    have h2:=h1.puti 3 rfl (.lst (ra.map V.ref).dropLast)
    rw[show(ra.map V.ref).dropLast=ra.dropLast.map V.ref from List.map_dropLast.symm] at h2 ⊢
    refine q _ [(b,.tup [.int k,.int (n+1)])] ra.dropLast (.ref la) ((hrt.drop).mono (mo _)) ?_ ?_
    ·show PlIn _ x.rt.getLast? _
     rw[g2]
     exact⟨la,rfl,mo _ _ g3⟩
    ·exact Has.comm (X:=[(b,HO.tup [.int k,.int (n+1)])]) (Y:=rK t.c_Reader R pr wv x ra.dropLast) h2
theorem scSt:FnScope ["self","stretch","number"] ["self"] (defScope s_Jl):=⟨rfl,rfl,rfl,by decide +kernel,rfl,by decide +kernel,by decide +kernel⟩
theorem ok_Jl (T:Txt K mg t):FnOk P w K mg base CX0 4 t.f_Jl t.d_Jl ["self"] (sp_step t.c_Reader t.c_Program):=by
 refine T.F_Jl.ok scSt (fun vs H Q E h=>?_) (fun cdv A outer s H vs Q E hr h=>?_)
 ·obtain⟨_,_,_,_,_,_,_,rfl,_⟩:=h
  rfl
 ·obtain⟨R,A,wv,pl,x,ra,L,rfl,hH,hrt,hpl,h⟩:=h
  refine⟨_,(pss_cons (ps_if (pt_cmpR op_isN (pe_fld (pv 0) rfl) pe_non (nomark _))
    (pss_one (ps_ret pe_bl))
    pss_nil)
   (pss_cons (ps_asg (pe_fld (pv 0) rfl) (pg_tup rfl (pgs_cons (pg_name (i:=1) scSt.nd rfl (Or.inl rfl)) (pgs_cons (pg_name (i:=2) scSt.nd rfl (Or.inl rfl)) pgs_nil))))
   (pss_cons (ps_fld (pv 0) (pe_meth (pv 0) T.cl_Reader T.M_J2 (ok_J2 T) (hr.mono (by decide)) (b_J2 T) .nil pass0 (pa_cons (pe_meth (pe_fld (pv 0) rfl) T.cl_Program T.M_J7 (ok_J7 T) (hr.mono (by decide)) (b_J7 T) .nil pass0 (pa_cons (pv 1) (pa_cons (pv 2) pa_nil))) (pa_cons (pv 1) (pa_cons (pv 2) pa_nil)))) rfl)
   (pss_one (ps_ret pe_bl))))),?_⟩
  refine⟨_,rfl,R.r,_,R.dx,_,_,rfl,hH.get 0 rfl,T.cl_Reader,T.n_Reader_place,qfl_pl _ _ _,rfl,_,rfl,?_⟩
  rcases h with ⟨rfl,q⟩ | ⟨ss,k,n,z,a,y,rfl,mA,mS,hz,mz,hn,ma,hf,q⟩
  ·have e:wv=.non:=hpl
   exact ifT (by rw[e]; decide) q
  ·obtain⟨pa,rfl,mp⟩:∃ a,wv=.ref a/\(a,HO.tup [.int (k:Int),.int (n:Int)]) ∈ L:=hpl
   have hL:∀ {z:Addr×HO},z ∈ L->H z.1=some z.2:=fun m=>hH.at_ _ (mem_append_right _ m)
   refine ifF (by simp) ?_
   refine⟨_,rfl,R.r,_,R.dx,_,_,rfl,hH.get 0 rfl,T.cl_Reader,T.n_Reader_place,qfl_pl _ _ _,pa,_,rfl,SqT.of (hL mp),rfl,_,_,rfl,_,_,rfl,rfl,?_⟩
   refine⟨_,rfl,R.r,R.dx,_,rfl,hH.get 0 rfl,(qfl_n _ _ _).2.2.2.2.2.2.1,_,rfl,R.r,_,R.dx,_,_,rfl,hH.get 0 rfl,T.cl_Reader,T.n_Reader_Jv,qfl_pr _ _ _,A.p,A.dx,_,rfl,hL mA,(pfl_n _).2.2.2.1,_,rfl,_,rfl,A,ssV ss,k,z.1,rwV z.2,n,.ref a,rfl,hL mA,hL mS,ssV_get hz,hL mz,rwV_get hn,_,rfl,_,rfl,R,.ref A.p,.ref pa,x,ra,L,a,(k:Int),(n:Int),y,rfl,hH,hrt,ma,hf,fun H1 N ra' wv' r1 r2 h1=>?_⟩
   refine⟨_,rfl,R.r,_,R.dx,_,rfl,h1.get 0 rfl,T.cl_Reader,T.n_Reader_place,(show 7<1000 by decide),q _ N ra' wv' r1 r2 ?_⟩
   rw[qfl_put]
   exact h1.puti 0 rfl _
end
end P
set_option Elab.async false
set_option linter.all false
set_option maxRecDepth 100000
set_option maxHeartbeats 4000000
namespace P
open PySem L2
section
variable {P:Program}{w:World}{K:PySem.W.Frag}{mg:Str->Option Value}{base:Heap}{t:Adr}
theorem scRi:FnScope ["self","program"] ["self","program"] (defScope s_Jk):=⟨rfl,rfl,rfl,by decide +kernel,rfl,by decide +kernel,by decide +kernel⟩
theorem ok_Jk (T:Txt K mg t):FnOk P w K mg base CX0 2 t.f_Jk t.d_Jk ["self","program"] (sp_Rinit t.c_Reader t.c_Program):=by
 refine T.F_Jk.ok scRi (fun vs H Q E h=>?_) (fun cdv A outer s H vs Q E hr h=>?_)
 ·obtain⟨_,_,_,_,_,_,rfl,_⟩:=h
  rfl
 ·obtain⟨r,dx,A,ms,ws,L,rfl,hH,mA,mM,mW,hl,q⟩:=h
  refine⟨_,(pss_cons (ps_fld (pv 0) (pv 1) rfl)
   (pss_cons (ps_fld (pv 0) (pe_tup (pa_cons pe_int (pa_cons pe_int pa_nil))) rfl)
   (pss_cons (ps_fld (pv 0) (pe_lst pa_nil) rfl)
   (pss_cons (ps_fld (pv 0) (pe_meth0 (pv 1) T.cl_Program T.M_Jd (ok_Jd T) (hr.mono (by decide)) (b_Jd T) .nil pass0) rfl)
   (pss_cons (ps_fld (pv 0) (pe_meth0 (pv 1) T.cl_Program T.M_J6 (ok_J6 T) (hr.mono (by decide)) (b_J6 T) .nil pass0) rfl)
   (pss_cons (ps_fld (pv 0) (pe_lc (esc:=defScope s_Jk) (k:=1) ["width","self","program"] rfl (pi_list (pe_fld (pv 0) rfl)) (fun _ _ _ _ _=>by exact(pg_name (i:=0) (show List.Nodup (["width","self","program"]:List Str) from by decide +kernel) rfl (Or.inl rfl))) (fun _ _ _ _ _=>by exact pts_nil) (fun _ _ _ _ _=>by exact pe_int) rfl (by decide +kernel) (by decide +kernel) rfl (by decide +kernel) (by rfl) (fun _ _ h _=>h) (by decide +kernel)) rfl)
   (pss_one (ps_fld (pv 0) (pe_lst pa_nil) rfl)))))))),?_⟩
  refine⟨_,rfl,_,rfl,r,_,dx,_,rfl,hH.get 0 rfl,T.cl_Reader,T.n_Reader_Jv,(show 0<1000 by decide),?_⟩
  have h1:=hH.puti 0 rfl (.ins t.c_Reader dx [("program",.ref A.p)])
  refine⟨(sz_ 2),fun pl hpl=>?_⟩
  have h2:=h1.alloc hpl (.tup [.int 0,.int 0])
  refine⟨_,rfl,r,_,dx,_,rfl,h2.get 1 rfl,T.cl_Reader,T.n_Reader_place,(show 1<1000 by decide),?_⟩
  have h3:=h2.puti 1 rfl (.ins t.c_Reader dx [("program",.ref A.p),("place",.ref pl)])
  refine⟨(sz_ 0),fun rt hrt=>?_⟩
  have h4:=h3.alloc hrt (.lst [])
  refine⟨_,rfl,r,_,dx,_,rfl,h4.get 2 rfl,T.cl_Reader,T.n_Reader_returns,(show 2<1000 by decide),?_⟩
  have h5:=h4.puti 2 rfl (.ins t.c_Reader dx [("program",.ref A.p),("place",.ref pl),("returns",.ref rt)])
  have h6:Has _ ([(rt,HO.lst []),(pl,.tup [.int 0,.int 0]),(r,.ins t.c_Reader dx [("program",.ref A.p),("place",.ref pl),("returns",.ref rt)]),(dx,.own r)]++L):=h5
  refine⟨_,rfl,A.p,A.dx,_,rfl,h6.at_ _ (mem_append_right _ mA),(pfl_n _).2.1,A,_,_,rfl,h6,mem_append_right _ mA,mem_append_right _ mM,fun H7 mr h7=>?_⟩
  refine⟨_,rfl,r,_,dx,_,rfl,h7.get 3 rfl,T.cl_Reader,T.n_Jp_sides,(show 3<1000 by decide),?_⟩
  have h8:=h7.puti 3 rfl (.ins t.c_Reader dx [("program",.ref A.p),("place",.ref pl),("returns",.ref rt),("mark_sides",.ref mr)])
  have h9:Has _ ([(mr,HO.lst (ms.map V.int)),(rt,HO.lst []),(pl,.tup [.int 0,.int 0]),(r,.ins t.c_Reader dx [("program",.ref A.p),("place",.ref pl),("returns",.ref rt),("mark_sides",.ref mr)]),(dx,.own r)]++L):=h8
  refine⟨_,rfl,A.p,A.dx,_,rfl,h9.at_ _ (mem_append_right _ mA),(pfl_n _).2.2.1,A,_,_,rfl,h9,mem_append_right _ mA,mem_append_right _ mW,fun H10 cw h10=>?_⟩
  refine⟨_,rfl,r,_,dx,_,rfl,h10.get 4 rfl,T.cl_Reader,T.n_J9_widths,(show 4<1000 by decide),?_⟩
  have h11:=h10.puti 4 rfl (.ins t.c_Reader dx [("program",.ref A.p),("place",.ref pl),("returns",.ref rt),("mark_sides",.ref mr),("counter_widths",.ref cw)])
  refine⟨_,rfl,r,_,dx,_,_,rfl,h11.get 4 rfl,T.cl_Reader,T.n_J9_widths,(by kernel_rfl),cw,rfl,⟨_,SqL.of (h11.get 0 rfl)⟩,fun D hD=>?_⟩
  obtain⟨L4,e4⟩:∃ L4:Kn,[(cw,HO.lst (ws.map V.int)),(mr,HO.lst (ms.map V.int)),(rt,HO.lst []),(pl,.tup [.int 0,.int 0]),(r,.ins t.c_Reader dx [("program",.ref A.p),("place",.ref pl),("returns",.ref rt),("mark_sides",.ref mr),("counter_widths",.ref cw)]),(dx,.own r)]++L=L4:=⟨_,rfl⟩
  have g0:L4[0]?=some (cw,.lst (ws.map V.int)):=by rw[<- e4]; rfl
  have h12:=hcast (h11.alloc hD (.lst [])) (congrArg (List.cons (D,HO.lst [])) e4)
  refine⟨fun n m zs H'=>m=ws.length - n/\n<=ws.length/\zs=((ws.take n).map fun _=>(0:Int)).map V.int/\Has H' ((D,.lst zs)::L4),⟨_,rfl,Nat.zero_le _,rfl,h12⟩,?_⟩
  rintro n m zs H' ⟨rfl,hn,rfl,h13⟩
  refine⟨h13.get 0 rfl,?_⟩
  by_cases hlt:n<ws.length
  ·refine .inr ⟨⟨_,.int ws[n],SqL.of (h13.get 1 g0),by rw[getElem?_map,getElem?_eq_getElem hlt]; rfl⟩,?_⟩
   rintro x H2 ⟨rfl,hx⟩
   refine⟨rfl,tTrueT ?_⟩
   refine⟨sizeOk (by rw[length_map,length_map,length_take]; omega),h13.get 0 rfl,ws.length - (n+1),by omega,rfl,hlt,?_,h13.puti 0 rfl _⟩
   rw[List.take_succ,getElem?_eq_getElem hlt,map_append,map_append]
   rfl
  ·have en:n=ws.length:=by omega
   subst en
   refine .inl ⟨⟨_,SqL.of (h13.get 1 g0),by rw[length_map]; omega⟩,?_⟩
   rw[List.take_length] at h13
   subst e4
   refine⟨_,rfl,r,_,dx,_,rfl,h13.get 5 rfl,T.cl_Reader,T.n_Reader_counts,(show 5<1000 by decide),?_⟩
   have h14:=h13.puti 5 rfl (.ins t.c_Reader dx [("program",.ref A.p),("place",.ref pl),("returns",.ref rt),("mark_sides",.ref mr),("counter_widths",.ref cw),("counts",.ref D)])
   refine⟨(sz_ 0),fun nh hnh=>?_⟩
   have h15:=h14.alloc hnh (.lst [])
   refine⟨_,rfl,r,_,dx,_,rfl,h15.get 6 rfl,T.cl_Reader,T.n_Reader_notes_heard,(show 6<1000 by decide),?_⟩
   have h16:=h15.puti 6 rfl (.ins t.c_Reader dx (qfl ⟨r,dx,rt,mr,cw,D,nh⟩ (.ref A.p) (.ref pl)))
   have i1:=bringH h16 5 rfl
   have i2:=bringH i1 1 rfl
   have i3:=bringH i2 2 rfl
   have i4:=bringH i3 3 rfl
   have i5:=bringH i4 4 rfl
   have i6:=bringH i5 5 rfl
   have i7:=bringH i6 7 rfl
   have i8:=bringH i7 7 rfl
   exact q _ ⟨r,dx,rt,mr,cw,D,nh⟩ pl rfl i8
end
theorem qfl_n2 (R:RA) (pr wv:V):(qfl R pr wv).lookup ("turn" : Str)=none/\(qfl R pr wv).lookup ("fill" : Str)=none/\(qfl R pr wv).lookup ("go_on" : Str)=none:=⟨by kernel_rfl,by kernel_rfl,by kernel_rfl⟩
def sp_Jj:Sp:=fun vs H Q _=>∃ (v:Int) (k:Nat),vs=[.int v,.int k]/\k<=8/\0<=v/\v<=1*2 ^ k - 1/\Q .non H
def sp_turn (C:Addr):Sp:=fun vs H Q _=>∃ (R:RA) (pr wv:V) (x:Md) (ra:List Addr) (L:Kn) (n:Nat) (s:Int),vs=[.ref R.r,.int n,.int s]/\Has H (rK C R pr wv x ra++L)/\n<x.ms.length/\(s=1∨s=2)/\∀ H',Has H' (rK C R pr wv { x with ms:=x.ms.set n s } ra++L)->Q .non H'
def sp_fill (C:Addr):Sp:=fun vs H Q _=>∃ (R:RA) (pr wv:V) (x:Md) (ra:List Addr) (L:Kn) (n k:Nat) (v:Int),vs=[.ref R.r,.int n,.int v]/\Has H (rK C R pr wv x ra++L)/\n<x.cs.length/\x.ws[n]?=some (k:Int)/\k<=8/\0<=v/\v<=1*2 ^ k - 1/\∀ H',Has H' (rK C R pr wv { x with cs:=x.cs.set n v } ra++L)->Q .non H'
section
variable {P:Program}{w:World}{K:PySem.W.Frag}{mg:Str->Option Value}{base:Heap}{t:Adr}
theorem scCv:FnScope ["value","width"] ["value","width"] (defScope s_Jj):=⟨rfl,rfl,rfl,by decide +kernel,rfl,by decide +kernel,by decide +kernel⟩
theorem ok_Jj (T:Txt K mg t):FnOk P w K mg base CX0 2 t.f_Jj t.d_Jj ["value","width"] sp_Jj:=by
 refine T.F_Jj.ok scCv (fun vs H Q E h=>?_) (fun cdv A outer s H vs Q E hr h=>?_)
 ·obtain⟨_,_,rfl,_⟩:=h
  rfl
 ·obtain⟨v,k,rfl,k8,v0,v1,q⟩:=h
  refine⟨_,(pss_one (ps_if (PW.pt (pw_or (pt_cmpR op_lt (pv 0) pe_int (nomark _)) (pw_or1 (pt_cmpR op_gt (pv 0) (pe_call (ok_Ju T) (hr.mono (by decide)) (by rfl) T.m_Ju T.F_Ju.kp (b_Ju T) .nil pass0 (pa_cons (pv 1) pa_nil)) (nomark _)))))
    (pss_one ps_never)
    pss_nil)),?_⟩
  refine⟨_,rfl,_,_,rfl,rfl,_,rfl,ifF (decide_eq_false (by omega)) ?_⟩
  exact⟨_,rfl,_,rfl,k,rfl,k8,_,_,rfl,rfl,_,rfl,ifF (decide_eq_false (by omega)) q⟩
theorem scTu:FnScope ["self","mark","side"] ["self","mark","side"] (defScope s_Jn):=⟨rfl,rfl,rfl,by decide +kernel,rfl,by decide +kernel,by decide +kernel⟩
theorem ok_Jn (T:Txt K mg t):FnOk P w K mg base CX0 2 t.f_Jn t.d_Jn ["self","mark","side"] (sp_turn t.c_Reader):=by
 refine T.F_Jn.ok scTu (fun vs H Q E h=>?_) (fun cdv A outer s H vs Q E hr h=>?_)
 ·obtain⟨_,_,_,_,_,_,_,_,rfl,_⟩:=h
  rfl
 ·obtain⟨R,pr,wv,x,ra,L,n,z,rfl,hH,hn,hz,q⟩:=h
  refine⟨_,(pss_cons (ps_expr (pe_call (ok_Js T) (hr.mono (by decide)) (by rfl) T.m_Js T.F_Js.kp (b_Js T) .nil pass0 (pa_cons (pv 1) (pa_cons (pe_callB call_len_seq (by rfl) T.z_len (by rfl) (pa_cons (pe_fld (pv 0) rfl) pa_nil)) pa_nil))))
   (pss_cons (ps_expr (pe_call (ok_Jq T) (hr.mono (by decide)) (by rfl) T.m_Jq T.F_Jq.kp (b_Jq T) .nil pass0 (pa_cons (pv 2) pa_nil)))
   (pss_one (ps_asg (pv 2) (pg_sub (pe_fld (pv 0) rfl) (pv 1) set_list))))),?_⟩
  refine⟨_,rfl,_,rfl,R.r,_,R.dx,_,_,rfl,hH.get 0 rfl,T.cl_Reader,T.n_Jp_sides,qfl_mk _ _ _,R.mr,_,rfl,.inl (SqL.of (hH.get 3 rfl)),_,_,rfl,by omega,by rw[length_map]; omega,?_⟩
  refine⟨_,rfl,z,rfl,hz,?_⟩
  have hj:ixN (x.ms.map V.int).length (n:Int)=some n:=by unfold ixN; rw[if_pos (by omega),if_pos (by rw[length_map]; omega)]; rfl
  refine⟨_,rfl,_,rfl,R.r,_,R.dx,_,_,rfl,hH.get 0 rfl,T.cl_Reader,T.n_Jp_sides,qfl_mk _ _ _,_,rfl,R.mr,_,_,n,rfl,rfl,hH.get 3 rfl,hj,?_⟩
  have h1:=hH.puti 3 rfl (.lst ((x.ms.map V.int).set n (.int z)))
  rw[show((x.ms.map V.int).set n (.int z))=(x.ms.set n z).map V.int from List.map_set.symm] at h1 ⊢
  exact q _ h1
theorem scFi:FnScope ["self","counter","value"] ["self","counter","value"] (defScope s_Jo):=⟨rfl,rfl,rfl,by decide +kernel,rfl,by decide +kernel,by decide +kernel⟩
theorem ok_Jo (T:Txt K mg t):FnOk P w K mg base CX0 3 t.f_Jo t.d_Jo ["self","counter","value"] (sp_fill t.c_Reader):=by
 refine T.F_Jo.ok scFi (fun vs H Q E h=>?_) (fun cdv A outer s H vs Q E hr h=>?_)
 ·obtain⟨_,_,_,_,_,_,_,_,_,rfl,_⟩:=h
  rfl
 ·obtain⟨R,pr,wv,x,ra,L,n,k,v,rfl,hH,hn,hk,k8,v0,v1,q⟩:=h
  refine⟨_,(pss_cons (ps_expr (pe_call (ok_Jb T) (hr.mono (by decide)) (by rfl) T.m_Jb T.F_Jb.kp (b_Jb T) .nil pass0 (pa_cons (pv 1) (pa_cons (pe_callB call_len_seq (by rfl) T.z_len (by rfl) (pa_cons (pe_fld (pv 0) rfl) pa_nil)) pa_nil))))
   (pss_cons (ps_expr (pe_call (ok_Jj T) (hr.mono (by decide)) (by rfl) T.m_Jj T.F_Jj.kp (b_Jj T) .nil pass0 (pa_cons (pv 2) (pa_cons (pe_ix ix_list (pe_fld (pv 0) rfl) (pv 1) (fun _ _=>rfl)) pa_nil))))
   (pss_one (ps_asg (pv 2) (pg_sub (pe_fld (pv 0) rfl) (pv 1) set_list))))),?_⟩
  refine⟨_,rfl,_,rfl,R.r,_,R.dx,_,_,rfl,hH.get 0 rfl,T.cl_Reader,T.n_Reader_counts,qfl_ct _ _ _,R.ct,_,rfl,.inl (SqL.of (hH.get 5 rfl)),_,_,rfl,by omega,by rw[length_map]; omega,?_⟩
  refine⟨_,rfl,_,rfl,R.r,_,R.dx,_,_,rfl,hH.get 0 rfl,T.cl_Reader,T.n_J9_widths,qfl_cw _ _ _,_,rfl,R.cw,_,_,_,rfl,rfl,SqL.of (hH.get 4 rfl),atI_nat (int_at hk),v,k,rfl,k8,v0,v1,?_⟩
  have hj:ixN (x.cs.map V.int).length (n:Int)=some n:=by unfold ixN; rw[if_pos (by omega),if_pos (by rw[length_map]; omega)]; rfl
  refine⟨_,rfl,_,rfl,R.r,_,R.dx,_,_,rfl,hH.get 0 rfl,T.cl_Reader,T.n_Reader_counts,qfl_ct _ _ _,_,rfl,R.ct,_,_,n,rfl,rfl,hH.get 5 rfl,hj,?_⟩
  have h1:=hH.puti 5 rfl (.lst ((x.cs.map V.int).set n (.int v)))
  rw[show((x.cs.map V.int).set n (.int v))=(x.cs.set n v).map V.int from List.map_set.symm] at h1 ⊢
  exact q _ h1
end
end P
set_option Elab.async false
set_option linter.all false
set_option maxRecDepth 100000
set_option maxHeartbeats 4000000
namespace P
open PySem L2
theorem and_if {p q:Prop} [Decidable p] [Decidable q] {A B U:Prop} (h:(if decide q=true then A else B)->U) (h1:p->q->A) (h2:¬ (p/\q)->B):if decide p=true then U else(if false=true then A else B):=by
 by_cases hp:p
 ·refine ifT (decide_eq_true hp) (h ?_)
  by_cases hq:q
  ·exact ifT (decide_eq_true hq) (h1 hp hq)
  ·exact ifF (decide_eq_false hq) (h2 fun z=>hq z.2)
 ·exact ifF (decide_eq_false hp) (iteF (h2 fun z=>hp z.1))
theorem and_if3 {p q r:Prop} [Decidable p] [Decidable q] [Decidable r] {A B U U':Prop} (h:(if decide q=true then U' else(if false=true then A else B))->U) (h':(if decide r=true then A else B)->U') (h1:p->q->r->A) (h2:¬ (p/\q/\r)->B):if decide p=true then U else(if false=true then A else B):=by
 by_cases hp:p
 ·exact ifT (decide_eq_true hp) (h (and_if h' (fun hq hr=>h1 hp hq hr) (fun z=>h2 fun w=>z w.2)))
 ·exact ifF (decide_eq_false hp) (iteF (h2 fun z=>hp z.1))
theorem dgI {ds:List Int} (j:Int) (h0:0<=j) (h1:j<ds.length):atI (ds.map V.int) j=some (.int (ds.getD j.toNat 0)):=by
 obtain⟨i,rfl⟩:=Int.eq_ofNat_of_zero_le h0
 exact atI_nat (by
  rw[getElem?_map,getElem?_eq_getElem (show i<ds.length by omega)]
  simp[List.getD,getElem?_eq_getElem (show i<ds.length by omega)])
def sp_lrow:Sp:=fun vs H Q _=>∃ (d lt:Addr) (ds:List Int) (k more:Int) (many nm nc st ns:Nat) (L:Kn),vs=[.ref d,.int k,.int more,.int many,.int nm,.int nc,.ref lt]/\Has H L/\(d,HO.lst (ds.map V.int)) ∈ L/\(lt,HO.lst (intsF ((st:Int)+1) (ns - (st+1)))) ∈ L/\0<=k/\k+3<ds.length/\1<=many /\
 ∀ H' a (y:Rw),y.ok nm nc many st ns->Has H' ((a,.tup y.v)::L)->Q (.ref a) H'
def sp_J01:Sp:=fun vs H Q _=>∃ (s0:Addr) (ss:Ss) (L:Kn),vs=[.ref s0]/\Has H L/\(s0,HO.lst (ssV ss)) ∈ L/\(∀ z ∈ ss,(z.1,HO.lst (rwV z.2)) ∈ L)/\ss.length<=1000 /\
 ∀ H' D (s1:Ss) N,s1.map (·.2)=ss.map (·.2)->(∀ z ∈ s1,(z.1,HO.lst (rwV z.2)) ∈ N)->Has H' ((D,.lst (ssV s1))::(N++L))->Q (.ref D) H'
section
variable {P:Program}{w:World}{K:PySem.W.Frag}{mg:Str->Option Value}{base:Heap}{t:Adr}
theorem scCy:FnScope ["_law_parts_here"] ["_law_parts_here"] (defScope s_J01):=⟨rfl,rfl,rfl,by decide +kernel,rfl,by decide +kernel,by decide +kernel⟩
theorem ok_J01 (T:Txt K mg t):FnOk P w K mg base CX0 1 t.f_J01 t.d_J01 ["_law_parts_here"] sp_J01:=by
 refine T.F_J01.ok scCy (fun vs H Q E h=>?_) (fun cdv A outer s H vs Q E hr h=>?_)
 ·obtain⟨_,_,_,rfl,_⟩:=h
  rfl
 ·obtain⟨s0,ss,L,rfl,hH,ms0,ml,hlen,q⟩:=h
  refine⟨_,(pss_one (ps_ret (pe_lc (esc:=defScope s_J01) (k:=1) ["_law_rows","_law_parts_here"] rfl (pi_list (pv 0)) (fun _ _ _ _ _=>by exact(pg_name (i:=0) (show List.Nodup (["_law_rows","_law_parts_here"]:List Str) from by decide +kernel) rfl (Or.inl rfl))) (fun _ _ _ _ _=>by exact pts_nil) (fun _ _ _ _ _=>by exact(pe_callTy (call_list_ofK (K:=K) rfl) (by rfl) T.z_list (by rfl) (pa_cons (pv 0) pa_nil))) rfl (by decide +kernel) (by decide +kernel) rfl (by decide +kernel) (by rfl) (fun _ _ h _=>h) (by decide +kernel)))),?_⟩
  refine⟨_,rfl,s0,rfl,⟨_,SqL.of (hH.at_ _ ms0)⟩,fun D hD=>?_⟩
  have inL:∀ {H':Hp}{N:Kn}{z c1:Addr×HO},Has H' (c1::(N++L))->z ∈ L->H' z.1=some z.2:=fun h m=>h.at_ _ (mem_cons_of_mem _ (mem_append_right _ m))
  refine⟨fun n m zs H'=>∃ (s1:Ss) (N:Kn),m=ss.length - n/\n<=ss.length/\s1.map (·.2)=(ss.take n).map (·.2)/\zs=ssV s1/\(∀ z ∈ s1,(z.1,HO.lst (rwV z.2)) ∈ N)/\Has H' ((D,.lst zs)::(N++L)),⟨_,[],[],rfl,Nat.zero_le _,rfl,rfl,by simp,hH.alloc hD _⟩,?_⟩
  rintro n m zs H5 ⟨s1,N,rfl,hn,es1,rfl,hN,h5⟩
  refine⟨h5.get 0 rfl,?_⟩
  have g0:=inL h5 ms0
  have ls1:s1.length=n:=by
   have:=congrArg List.length es1
   simp at this
   omega
  by_cases hlt:n<ss.length
  ·have hx0:(ssV ss)[n]?=some (.ref ss[n].1):=ssV_get (getElem?_eq_getElem hlt)
   refine .inr ⟨⟨_,_,SqL.of g0,hx0⟩,?_⟩
   rintro x H6 ⟨rfl,hx⟩
   have e1:=hx _ (SqL.of g0)
   rw[hx0] at e1
   cases e1
   refine⟨rfl,tTrueT ?_⟩
   refine⟨_,rfl,ss[n].1,_,rfl,.inl (SqL.of (inL h5 (ml _ (List.getElem_mem hlt)))),fun rl hrl=>?_⟩
   have h6:=h5.alloc hrl (.lst (rwV ss[n].2))
   refine⟨sizeOk (by unfold ssV; rw[length_map]; omega),h6.get 1 rfl,ss.length - (n+1),by omega,s1++[(rl,ss[n].2)],(rl,.lst (rwV ss[n].2))::N,rfl,hlt,?_,?_,?_,?_⟩
   ·rw[map_append,es1,List.take_succ,map_append,getElem?_eq_getElem hlt]
    rfl
   ·unfold ssV
    rw[map_append]
    rfl
   ·intro z hz
    rcases mem_append.mp hz with hz | hz
    ·exact mem_cons_of_mem _ (hN z hz)
    ·cases mem_singleton.mp hz
     exact mem_cons_self
   ·exact(h6.puti 1 rfl _).swap2
  ·have en:n=ss.length:=by omega
   rw[en,List.take_length] at es1
   exact .inl ⟨⟨_,SqL.of g0,by unfold ssV; rw[length_map]; omega⟩,q _ D s1 N es1 hN h5⟩
theorem scLr:FnScope ["_law_d","_law_k","_law_more","_law_many","_law_marks","_law_counters","_law_later","_law_word","_law_one","_law_other"] ["_law_d","_law_k","_law_more","_law_many","_law_marks","_law_counters","_law_later"] (defScope s_row):=⟨rfl,rfl,rfl,by decide +kernel,rfl,by decide +kernel,by decide +kernel⟩
theorem ok_row (T:Txt K mg t):FnOk P w K mg base CX0 1 t.f_row t.d_row ["_law_d","_law_k","_law_more","_law_many","_law_marks","_law_counters","_law_later"] sp_lrow:=by
 refine T.F_row.ok scLr (fun vs H Q E h=>?_) (fun cdv A outer s H vs Q E hr h=>?_)
 ·obtain⟨_,_,_,_,_,_,_,_,_,_,_,rfl,_⟩:=h
  rfl
 ·obtain⟨d,lt,ds,k,more,many,nm,nc,st,ns,L,rfl,hH,md,mlt,k0,k1,hmany,q⟩:=h
  have gd:=hH.at_ _ md
  have gl:=hH.at_ _ mlt
  dsimp only at gd gl
  refine⟨_,(pss_cons (ps_set (i:=7) scLr.nd rfl (Or.inl rfl) (pe_op op_mod (pe_op op_add (pe_ix ix_list (pv 0) (pv 1) (fun _ _=>rfl)) (pv 2)) pe_int))
   (pss_cons (ps_set (i:=8) scLr.nd rfl (Or.inl rfl) (pe_op op_add (pe_ix ix_list (pv 0) (pe_op op_add (pv 1) pe_int) (fun _ _=>rfl)) (pe_op op_mul pe_int (pv 2))))
   (pss_cons (ps_set (i:=9) scLr.nd rfl (Or.inl rfl) (pe_op op_add (pe_ix ix_list (pv 0) (pe_op op_add (pv 1) pe_int) (fun _ _=>rfl)) (pe_op op_mul pe_int (pv 2))))
   (pss_cons (ps_if (PW.pt (pw_and (pt_cmpR op_eq (pv 7) pe_int (nomark _)) (pw_and1 (pt_cmpR op_gt (pv 4) pe_int (nomark _)))))
    (pss_one (ps_ret (pe_tup (pa_cons pe_str (pa_cons (pe_op op_mod (pv 8) (pv 4)) (pa_cons (pe_op op_add pe_int (pe_op op_mod (pv 9) pe_int)) pa_nil))))))
    pss_nil)
   (pss_cons (ps_if (PW.pt (pw_and (pt_cmpR op_lt (pv 7) pe_int (nomark _)) (pw_and (pt_cmpR op_gt (pv 7) pe_int (nomark _)) (pw_and1 (pt_cmpR op_gt (pv 4) pe_int (nomark _))))))
    (pss_one (ps_ret (pe_tup (pa_cons pe_str (pa_cons (pe_op op_mod (pv 8) (pv 4)) (pa_cons (pe_op op_mod (pv 9) (pv 3)) (pa_cons (pe_op op_mod (pe_ix ix_list (pv 0) (pe_op op_add (pv 1) pe_int) (fun _ _=>rfl)) (pv 3)) pa_nil)))))))
    pss_nil)
   (pss_cons (ps_if (PW.pt (pw_and (pt_cmpR op_lt (pv 7) pe_int (nomark _)) (pw_and (pt_cmpR op_gt (pv 7) pe_int (nomark _)) (pw_and1 (pt_cmpR op_gt (pv 5) pe_int (nomark _))))))
    (pss_one (ps_ret (pe_tup (pa_cons pe_str (pa_cons (pe_op op_mod (pv 8) (pv 5)) (pa_cons (pe_op op_mod (pv 9) (pv 3)) pa_nil))))))
    pss_nil)
   (pss_cons (ps_if (pt_cmpR op_eq (pv 7) pe_int (nomark _))
    (pss_one (ps_ret (pe_tup (pa_cons pe_str (pa_cons (pe_op op_mod (pv 8) (pv 3)) pa_nil)))))
    pss_nil)
   (pss_cons (ps_if (PW.pt (pw_and (pt_cmpR op_lt (pv 7) pe_int (nomark _)) (pw_and (pt_cmpR op_gt (pv 7) pe_int (nomark _)) (pw_and1 (pt_cmpR op_gt (pe_callB call_len_seq (by rfl) T.z_len (by rfl) (pa_cons (pv 6) pa_nil)) pe_int (nomark _))))))
    (pss_one (ps_ret (pe_tup (pa_cons pe_str (pa_cons (pe_ix ix_list (pv 6) (pe_op op_mod (pv 8) (pe_callB call_len_seq (by rfl) T.z_len (by rfl) (pa_cons (pv 6) pa_nil))) (fun _ _=>rfl)) pa_nil)))))
    pss_nil)
   (pss_cons (ps_if (pt_cmpR op_eq (pv 7) pe_int (nomark _))
    (pss_one (ps_ret (pe_tup (pa_cons pe_str pa_nil))))
    pss_nil)
   (pss_one (ps_ret (pe_tup (pa_cons pe_str (pa_cons (pe_op op_mod (pv 8) pe_int) pa_nil)))))))))))))),?_⟩
  rw[]
  refine⟨_,rfl,_,rfl,d,_,_,_,rfl,rfl,SqL.of gd,dgI k k0 (by omega),_,rfl,_,_,rfl,rfl,_,_,rfl,rfl,(show(0:Int)<10 by decide),?_⟩
  dsimp only[List.set]
  obtain⟨wd,ewd⟩:∃ wd,(ds.getD k.toNat 0+more) % 10=wd:=⟨_,rfl⟩
  rw[ewd]
  refine⟨_,rfl,_,rfl,_,_,rfl,rfl,d,_,_,_,rfl,rfl,SqL.of gd,dgI (k+1) (by omega) (by omega),_,rfl,_,_,rfl,rfl,.inl ⟨by decide,by decide⟩,_,_,rfl,rfl,?_⟩
  dsimp only[List.set]
  obtain⟨one,eone⟩:∃ one,ds.getD (k+1).toNat 0+7*more=one:=⟨_,rfl⟩
  rw[eone]
  refine⟨_,rfl,_,rfl,_,_,rfl,rfl,d,_,_,_,rfl,rfl,SqL.of gd,dgI (k+2) (by omega) (by omega),_,rfl,_,_,rfl,rfl,.inl ⟨by decide,by decide⟩,_,_,rfl,rfl,?_⟩
  dsimp only[List.set]
  obtain⟨oth,eoth⟩:∃ oth,ds.getD (k+2).toNat 0+5*more=oth:=⟨_,rfl⟩
  rw[eoth]
  have em:∀ (a b:Int),0<b->0<=a % b/\a % b<b:=fun a b hb=>⟨Int.emod_nonneg _ (by omega),Int.emod_lt_of_pos _ hb⟩
  have hm0:(0:Int)<many:=by omega
  refine⟨_,rfl,rfl,_,rfl,?_⟩
  rw[decInt]
  refine and_if (fun z=>⟨_,rfl,_,_,rfl,rfl,_,rfl,z⟩) (fun hw hp=>?_) (fun _=>?_)
  ·have hp:(0:Int)<nm:=by omega
   refine⟨_,rfl,_,rfl,_,_,rfl,rfl,hp,_,rfl,_,_,rfl,rfl,(show(0:Int)<2 by decide),_,_,rfl,rfl,(sz_ 3),fun a ha=>?_⟩
   have:=em one nm hp
   exact q _ a (.set (one % nm) (1+oth % 2)) ⟨this.1,this.2,by omega⟩ (hH.alloc ha _)
  refine⟨_,rfl,_,_,rfl,rfl,_,rfl,?_⟩
  refine and_if3 (fun z=>⟨_,rfl,_,_,rfl,rfl,_,rfl,z⟩) (fun z=>⟨_,rfl,_,_,rfl,rfl,_,rfl,z⟩) (fun _ _ hp=>?_) (fun _=>?_)
  ·have hp:(0:Int)<nm:=by omega
   refine⟨_,rfl,_,rfl,_,_,rfl,rfl,hp,_,rfl,_,rfl,_,_,rfl,rfl,hm0,_,rfl,_,rfl,_,_,rfl,rfl,d,_,_,_,rfl,rfl,SqL.of gd,dgI (k+3) (by omega) (by omega),_,rfl,_,_,rfl,rfl,hm0,(sz_ 4),fun a ha=>?_⟩
   have e1:=em one nm hp
   have e2:=em oth many hm0
   have e3:=em (ds.getD (k+3).toNat 0) many hm0
   exact q _ a (.ask (one % nm) (oth % many) (ds.getD (k+3).toNat 0 % many)) ⟨e1.1,e1.2,e2.1,e2.2,e3.1,e3.2⟩ (hH.alloc ha _)
  refine⟨_,rfl,_,_,rfl,rfl,_,rfl,?_⟩
  refine and_if3 (fun z=>⟨_,rfl,_,_,rfl,rfl,_,rfl,z⟩) (fun z=>⟨_,rfl,_,_,rfl,rfl,_,rfl,z⟩) (fun _ _ hp=>?_) (fun _=>?_)
  ·have hp:(0:Int)<nc:=by omega
   refine⟨_,rfl,_,rfl,_,_,rfl,rfl,hp,_,rfl,_,rfl,_,_,rfl,rfl,hm0,(sz_ 3),fun a ha=>?_⟩
   have e1:=em one nc hp
   have e2:=em oth many hm0
   exact q _ a (.bump (one % nc) (oth % many)) ⟨e1.1,e1.2,e2.1,e2.2⟩ (hH.alloc ha _)
  refine⟨_,rfl,rfl,_,rfl,?_⟩
  rw[decInt]
  refine ifd (fun _=>?_) (fun _=>?_)
  ·refine⟨_,rfl,_,rfl,_,_,rfl,rfl,hm0,(sz_ 2),fun a ha=>?_⟩
   have e1:=em one many hm0
   exact q _ a (.go (one % many)) e1 (hH.alloc ha _)
  refine⟨_,rfl,_,_,rfl,rfl,_,rfl,?_⟩
  refine and_if3 (fun z=>⟨_,rfl,_,_,rfl,rfl,_,rfl,z⟩) (fun z=>⟨_,rfl,lt,_,rfl,.inl (SqL.of gl),_,_,rfl,rfl,_,rfl,z⟩) (fun _ _ hp=>?_) (fun _=>?_)
  ·have hl:(intsF ((st:Int)+1) (ns - (st+1))).length=ns - (st+1):=intsF_length _ _
   have hp:(0:Int)<((intsF ((st:Int)+1) (ns - (st+1))).length:Int):=by omega
   have e1:=em one _ hp
   obtain⟨j,ej⟩:=Int.eq_ofNat_of_zero_le e1.1
   have hj:j<ns - (st+1):=by omega
   refine⟨_,rfl,_,rfl,_,rfl,lt,_,rfl,.inl (SqL.of gl),_,_,rfl,rfl,hp,lt,_,_,_,rfl,rfl,SqL.of gl,(by rw[ej]; exact atI_nat (intsF_get hj)),(sz_ 2),fun a ha=>?_⟩
   exact q _ a (.call ((st:Int)+1+(j:Int))) ⟨by omega,by omega⟩ (hH.alloc ha _)
  refine⟨_,rfl,rfl,_,rfl,?_⟩
  rw[decInt]
  refine ifd (fun _=>?_) (fun _=>?_)
  ·refine⟨(sz_ 1),fun a ha=>?_⟩
   exact q _ a .fin trivial (hH.alloc ha _)
  refine⟨_,rfl,_,_,rfl,rfl,(show(0:Int)<10000 by decide),(sz_ 2),fun a ha=>?_⟩
  exact q _ a (.bell (one % 10000)) ⟨by omega,by omega⟩ (hH.alloc ha _)
end
end P
set_option Elab.async false
set_option linter.all false
set_option maxRecDepth 100000
set_option maxHeartbeats 4000000
namespace P
open PySem L2
def Rw.onw (k n:Int):Rw->List (Int×Int)
 | .ask _ a b=>[(k,a),(k,b)]
 | .bump _ r=>[(k,n+1),(k,r)]
 | .go r=>[(k,r)]
 | .call s=>[(s,0),(k,n+1)]
 | .fin=>[]
 | .bell _=>[(k,n+1)]
 | .set _ _=>[(k,n+1)]
def PrK (ps:List Pr):Kn:=ps.map fun z=>(z.1,HO.tup [.int z.2.1,.int z.2.2])
def sp_Jz:Sp:=fun vs H Q _=>∃ (r:Addr) (x:Rw) (k n:Int) (L:Kn),vs=[.ref r,.int k,.int n]/\Has H L/\(r,HO.tup x.v) ∈ L/\∀ H' l ps,ps.map (·.2)=x.onw k n->Has H' ((l,.lst (prV ps))::(PrK ps++L))->Q (.ref l) H'
section
variable {P:Program}{w:World}{K:PySem.W.Frag}{mg:Str->Option Value}{base:Heap}{t:Adr}
theorem scOn:FnScope ["row","stretch","number","word","behind"] ["row","stretch","number"] (defScope s_Jz):=⟨rfl,rfl,rfl,by decide +kernel,rfl,by decide +kernel,by decide +kernel⟩
theorem ok_Jz (T:Txt K mg t):FnOk P w K mg base CX0 1 t.f_Jz t.d_Jz ["row","stretch","number"] sp_Jz:=by
 refine T.F_Jz.ok scOn (fun vs H Q E h=>?_) (fun cdv A outer s H vs Q E hr h=>?_)
 ·obtain⟨_,_,_,_,_,rfl,_⟩:=h
  rfl
 ·obtain⟨r,x,k,n,L,rfl,hH,mr,q⟩:=h
  have gr:=hH.at_ _ mr
  dsimp only at gr
  refine⟨_,(pss_cons (ps_set (i:=3) scOn.nd rfl (Or.inl rfl) (pe_ix ix_tup (pv 0) pe_int (fun _ _=>rfl)))
   (pss_cons (ps_set (i:=4) scOn.nd rfl (Or.inl rfl) (pe_tup (pa_cons (pv 1) (pa_cons (pe_op op_add (pv 2) pe_int) pa_nil))))
   (pss_cons (ps_if (pt_cmpR op_eq (pv 3) pe_str (nomark _))
    (pss_one (ps_ret (pe_lst (@pa_cons _ _ _ _ _ (pe_tup (pa_cons (pv 1) (pa_cons (pe_ix ix_tup (pv 0) pe_int (fun _ _=>rfl)) pa_nil))) (@pa_cons _ _ _ _ _ (pe_tup (pa_cons (pv 1) (pa_cons (pe_ix ix_tup (pv 0) pe_int (fun _ _=>rfl)) pa_nil))) pa_nil (by rfl)) (by rfl)))))
    pss_nil)
   (pss_cons (ps_if (pt_cmpR op_eq (pv 3) pe_str (nomark _))
    (pss_one (ps_ret (pe_lst (@pa_cons _ _ _ _ _ (pv 4) (@pa_cons _ _ _ _ _ (pe_tup (pa_cons (pv 1) (pa_cons (pe_ix ix_tup (pv 0) pe_int (fun _ _=>rfl)) pa_nil))) pa_nil (by rfl)) (by rfl)))))
    pss_nil)
   (pss_cons (ps_if (pt_cmpR op_eq (pv 3) pe_str (nomark _))
    (pss_one (ps_ret (pe_lst (@pa_cons _ _ _ _ _ (pe_tup (pa_cons (pv 1) (pa_cons (pe_ix ix_tup (pv 0) pe_int (fun _ _=>rfl)) pa_nil))) pa_nil (by rfl)))))
    pss_nil)
   (pss_cons (ps_if (pt_cmpR op_eq (pv 3) pe_str (nomark _))
    (pss_one (ps_ret (pe_lst (@pa_cons _ _ _ _ _ (pe_tup (pa_cons (pe_ix ix_tup (pv 0) pe_int (fun _ _=>rfl)) (pa_cons pe_int pa_nil))) (@pa_cons _ _ _ _ _ (pv 4) pa_nil (by rfl)) (by rfl)))))
    pss_nil)
   (pss_cons (ps_if (pt_cmpR op_eq (pv 3) pe_str (nomark _))
    (pss_one (ps_ret (pe_lst pa_nil)))
    pss_nil)
   (pss_one (ps_ret (pe_lst (pa_cons (pv 4) pa_nil))))))))))),?_⟩
  rw[]
  refine⟨_,rfl,r,_,_,_,rfl,rfl,SqT.of gr,atI_nat (j:=0) rfl,?_⟩
  dsimp only[List.set]
  refine⟨_,rfl,_,rfl,_,_,rfl,rfl,(sz_ 2),fun b hb=>?_⟩
  dsimp only[List.set] at hb ⊢
  have h1:=hH.alloc hb (.tup [.int k,.int (n+1)])
  have gr1:=h1.at_ _ (mem_cons_of_mem _ mr)
  dsimp only at gr1
  cases x with
  | ask m c d=>
   refine⟨_,rfl,rfl,_,rfl,ifT (decide_eq_true rfl) ?_⟩
   refine⟨_,rfl,_,rfl,r,_,_,_,rfl,rfl,SqT.of gr1,atI_nat (j:=2) rfl,(sz_ 2),fun p1 hp1=>?_⟩
   have h2:=h1.alloc hp1 (.tup [.int k,.int c])
   have gr2:=h2.at_ _ (mem_cons_of_mem _ (mem_cons_of_mem _ mr))
   dsimp only at gr2
   refine⟨_,rfl,_,rfl,r,_,_,_,rfl,rfl,SqT.of gr2,atI_nat (j:=3) rfl,(sz_ 2),fun p2 hp2=>?_⟩
   have h3:=h2.alloc hp2 (.tup [.int k,.int d])
   refine⟨(sz_ 2),fun l hl=>?_⟩
   have h4:=h3.alloc hl (.lst [.ref p1,.ref p2])
   exact q _ l [(p1,k,c),(p2,k,d)] rfl ((h4.sub (.cons₂ _ (.cons₂ _ (.cons₂ _ (.cons _ (List.Sublist.refl _)))))).perm (.cons _ (.swap _ _ _)))
  | bump m c=>
   refine⟨_,rfl,rfl,_,rfl,ifF (sne "bump" "ask") ?_⟩
   refine⟨_,rfl,rfl,_,rfl,ifT (decide_eq_true rfl) ?_⟩
   refine⟨_,rfl,_,rfl,_,rfl,r,_,_,_,rfl,rfl,SqT.of gr1,atI_nat (j:=2) rfl,(sz_ 2),fun p1 hp1=>?_⟩
   have h2:=h1.alloc hp1 (.tup [.int k,.int c])
   refine⟨(sz_ 2),fun l hl=>?_⟩
   have h3:=h2.alloc hl (.lst [.ref b,.ref p1])
   exact q _ l [(b,k,n+1),(p1,k,c)] rfl (h3.perm (.cons _ (.swap _ _ _)))
  | go c=>
   refine⟨_,rfl,rfl,_,rfl,ifF (sne "go" "ask") ?_⟩
   refine⟨_,rfl,rfl,_,rfl,ifF (sne "go" "bump") ?_⟩
   refine⟨_,rfl,rfl,_,rfl,ifT (decide_eq_true rfl) ?_⟩
   refine⟨_,rfl,_,rfl,r,_,_,_,rfl,rfl,SqT.of gr1,atI_nat (j:=1) rfl,(sz_ 2),fun p1 hp1=>?_⟩
   have h2:=h1.alloc hp1 (.tup [.int k,.int c])
   refine⟨(sz_ 1),fun l hl=>?_⟩
   have h3:=h2.alloc hl (.lst [.ref p1])
   exact q _ l [(p1,k,c)] rfl (h3.sub (.cons₂ _ (.cons₂ _ (.cons _ (List.Sublist.refl _)))))
  | call c=>
   refine⟨_,rfl,rfl,_,rfl,ifF (sne "call" "ask") ?_⟩
   refine⟨_,rfl,rfl,_,rfl,ifF (sne "call" "bump") ?_⟩
   refine⟨_,rfl,rfl,_,rfl,ifF (sne "call" "go") ?_⟩
   refine⟨_,rfl,rfl,_,rfl,ifT (decide_eq_true rfl) ?_⟩
   refine⟨_,rfl,r,_,_,_,rfl,rfl,SqT.of gr1,atI_nat (j:=1) rfl,(sz_ 2),fun p1 hp1=>?_⟩
   have h2:=h1.alloc hp1 (.tup [.int c,.int 0])
   refine⟨_,rfl,(sz_ 2),fun l hl=>?_⟩
   have h3:=h2.alloc hl (.lst [.ref p1,.ref b])
   exact q _ l [(p1,c,0),(b,k,n+1)] rfl h3
  | fin=>
   refine⟨_,rfl,rfl,_,rfl,ifF (sne "end" "ask") ?_⟩
   refine⟨_,rfl,rfl,_,rfl,ifF (sne "end" "bump") ?_⟩
   refine⟨_,rfl,rfl,_,rfl,ifF (sne "end" "go") ?_⟩
   refine⟨_,rfl,rfl,_,rfl,ifF (sne "end" "call") ?_⟩
   refine⟨_,rfl,rfl,_,rfl,ifT (decide_eq_true rfl) ?_⟩
   refine⟨(sz_ 0),fun l hl=>?_⟩
   have h3:=h1.alloc hl (.lst [])
   exact q _ l [] rfl (h3.sub (.cons₂ _ (.cons _ (List.Sublist.refl _))))
  | bell c=>
   refine⟨_,rfl,rfl,_,rfl,ifF (sne "bell" "ask") ?_⟩
   refine⟨_,rfl,rfl,_,rfl,ifF (sne "bell" "bump") ?_⟩
   refine⟨_,rfl,rfl,_,rfl,ifF (sne "bell" "go") ?_⟩
   refine⟨_,rfl,rfl,_,rfl,ifF (sne "bell" "call") ?_⟩
   refine⟨_,rfl,rfl,_,rfl,ifF (sne "bell" "end") ?_⟩
   refine⟨_,rfl,(sz_ 1),fun l hl=>?_⟩
   have h3:=h1.alloc hl (.lst [.ref b])
   exact q _ l [(b,k,n+1)] rfl h3
  | set c d=>
   refine⟨_,rfl,rfl,_,rfl,ifF (sne "set" "ask") ?_⟩
   refine⟨_,rfl,rfl,_,rfl,ifF (sne "set" "bump") ?_⟩
   refine⟨_,rfl,rfl,_,rfl,ifF (sne "set" "go") ?_⟩
   refine⟨_,rfl,rfl,_,rfl,ifF (sne "set" "call") ?_⟩
   refine⟨_,rfl,rfl,_,rfl,ifF (sne "set" "end") ?_⟩
   refine⟨_,rfl,(sz_ 1),fun l hl=>?_⟩
   have h3:=h1.alloc hl (.lst [.ref b])
   exact q _ l [(b,k,n+1)] rfl h3
end
end P
set_option Elab.async false
set_option linter.all false
set_option maxRecDepth 100000
set_option maxHeartbeats 4000000
namespace P
open PySem L2
theorem Rw.notLast:∀ (x:Rw),x.last=false->(!inV (.str x.ws) [.str "ask",.str "go",.str "end"])=true
 | .bell _,_=>(by decide +kernel:(!inV (.str ("bell" : Str)) [.str "ask",.str "go",.str "end"])=true)
 | .set _ _,_=>(by decide +kernel:(!inV (.str ("set" : Str)) [.str "ask",.str "go",.str "end"])=true)
 | .bump _ _,_=>(by decide +kernel:(!inV (.str ("bump" : Str)) [.str "ask",.str "go",.str "end"])=true)
 | .call _,_=>(by decide +kernel:(!inV (.str ("call" : Str)) [.str "ask",.str "go",.str "end"])=true)
 | .ask _ _ _,h=>nomatch h
 | .go _,h=>nomatch h
 | .fin,h=>nomatch h
theorem ixN_last {n:Nat} (h:1<=n):ixN n (-1)=some (n - 1):=by
 unfold ixN
 rw[if_neg (by omega),if_pos (by omega)]
 congr 1
 omega
theorem set_last {α:Type} (xs:List α) (a b:α):(xs++[a]).set ((xs++[a]).length - 1) b=xs++[b]:=by
 rw[length_append,length_singleton,Nat.add_sub_cancel,List.set_append_right _ _ (Nat.le_refl _),Nat.sub_self]
 rfl
def LimR (ss:Ss):Prop:=∃ M:Nat,ss.length*M<=120/\∀ z ∈ ss,z.2.length<=M
def GoodU (nm nc S M:Nat) (ss:Ss):Prop:=∀ (k:Nat) z,ss[k]?=some z->(∀ x ∈ z.2,x.2.ok nm nc z.2.length k S)/\(∃ a y,z.2.getLast?=some (a,y)/\y.last=true)/\z.2.length<=M
def sp_parts:Sp:=fun vs H Q _=>∃ (d:Addr) (ds:List Int) (nm nc:Nat) (L:Kn),vs=[.ref d,.int 8,.int nm,.int nc]/\Has H L/\(d,HO.lst (ds.map V.int)) ∈ L/\338<=ds.length /\
 ∀ H' pl ss N,ss≠[]->ss.length<=40->Good nm nc ss->LimR ss->(∀ z ∈ ss,(z.1,HO.lst (rwV z.2)) ∈ N)->(∀ z ∈ ss,∀ x ∈ z.2,(x.1,HO.tup x.2.v) ∈ N)->Has H' ((pl,.lst (ssV ss))::(N++L))->Q (.ref pl) H'
theorem GoodU.snoc {nm nc S M:Nat}{ss:Ss}{z:Addr×List (Addr×Rw)} (h:GoodU nm nc S M ss) (h1:∀ x ∈ z.2,x.2.ok nm nc z.2.length ss.length S) (h2:∃ a y,z.2.getLast?=some (a,y)/\y.last=true) (h3:z.2.length<=M):GoodU nm nc S M (ss++[z]):=by
 intro k y hy
 by_cases hk:k<ss.length
 ·rw[getElem?_append_left hk] at hy
  exact h k y hy
 ·rw[getElem?_append_right (by omega)] at hy
  cases hj:k - ss.length with
  | zero=>
   rw[hj] at hy
   cases hy
   have:k=ss.length:=by omega
   subst this
   exact⟨h1,h2,h3⟩
  | succ j=>rw[hj] at hy; simp at hy
section
variable {P:Program}{w:World}{K:PySem.W.Frag}{mg:Str->Option Value}{base:Heap}{t:Adr}
theorem prt4 {x:Int}{v:Nat} (e:1+x%4=(v:Int)):1<=v/\v<=40/\1<=1/\1<=41/\1<=6/\6<=60/\v*(1+6-1)<=120:=by omega
theorem prt3 {x:Int}{v:Nat} (e:1+x%3=(v:Int)):1<=v/\v<=40/\1<=11/\11<=41/\1<=30/\30<=60/\v*(11+30-1)<=120:=by omega
theorem mod8 (y:Int):y%8=0∨y%8=1∨y%8=2∨y%8=3∨y%8=4∨y%8=5∨y%8=6∨y%8=7:=by omega
theorem scLp:FnScope ["_law_d","_law_at","_law_marks","_law_counters","_law_stretches","_law_low","_law_size","_law_parts_here","_law_slot","_law_stretch","_law_many","_law_rows","_law_row_here","_law_k"] ["_law_d","_law_at","_law_marks","_law_counters"] (defScope s_parts):=⟨rfl,rfl,rfl,by decide +kernel,rfl,by decide +kernel,by decide +kernel⟩
theorem ok_parts (T:Txt K mg t):FnOk P w K mg base CX0 2 t.f_parts t.d_parts ["_law_d","_law_at","_law_marks","_law_counters"] sp_parts:=by
 refine T.F_parts.ok scLp (fun vs H Q E h=>?_) (fun cdv A outer s H vs Q E hr h=>?_)
 ·obtain⟨_,_,_,_,_,rfl,_⟩:=h
  rfl
 ·obtain⟨d,ds,nm,nc,L,rfl,hH,md,hds,q⟩:=h
  have gd:=hH.at_ _ md
  dsimp only at gd
  refine⟨_,(pss_cons (ps_asg (pe_ix ix_list (pe_lst (@pa_cons _ _ _ _ _ (pe_tup (pa_cons (pe_op op_add pe_int (pe_op op_mod (pe_ix ix_list (pv 0) (pv 1) (fun _ _=>rfl)) pe_int)) (pa_cons pe_int (pa_cons pe_int pa_nil)))) (@pa_cons _ _ _ _ _ (pe_tup (pa_cons pe_int (pa_cons pe_int (pa_cons pe_int pa_nil)))) (@pa_cons _ _ _ _ _ (pe_tup (pa_cons (pe_op op_add pe_int (pe_op op_mod (pe_ix ix_list (pv 0) (pv 1) (fun _ _=>rfl)) pe_int)) (pa_cons pe_int (pa_cons pe_int pa_nil)))) (@pa_cons _ _ _ _ _ (pe_tup (pa_cons pe_int (pa_cons pe_int (pa_cons pe_int pa_nil)))) (@pa_cons _ _ _ _ _ (pe_tup (pa_cons pe_int (pa_cons pe_int (pa_cons pe_int pa_nil)))) (@pa_cons _ _ _ _ _ (pe_tup (pa_cons (pe_op op_add pe_int (pe_op op_mod (pe_ix ix_list (pv 0) (pv 1) (fun _ _=>rfl)) pe_int)) (pa_cons pe_int (pa_cons pe_int pa_nil)))) (@pa_cons _ _ _ _ _ (pe_tup (pa_cons (pe_op op_add pe_int (pe_op op_mod (pe_ix ix_list (pv 0) (pv 1) (fun _ _=>rfl)) pe_int)) (pa_cons pe_int (pa_cons pe_int pa_nil)))) (@pa_cons _ _ _ _ _ (pe_tup (pa_cons (pe_op op_add pe_int (pe_op op_mod (pe_ix ix_list (pv 0) (pv 1) (fun _ _=>rfl)) pe_int)) (pa_cons pe_int (pa_cons pe_int pa_nil)))) pa_nil (by rfl)) (by rfl)) (by rfl)) (by rfl)) (by rfl)) (by rfl)) (by rfl)) (by rfl))) (pe_op op_mod (pe_op op_fdiv (pe_ix ix_list (pv 0) (pv 1) (fun _ _=>rfl)) pe_int) pe_int) (fun _ _=>rfl)) (pg_tup rfl (pgs_cons (pg_name (i:=4) scLp.nd rfl (Or.inl rfl)) (pgs_cons (pg_name (i:=5) scLp.nd rfl (Or.inl rfl)) (pgs_cons (pg_name (i:=6) scLp.nd rfl (Or.inl rfl)) pgs_nil)))))
   (pss_cons (ps_set (i:=7) scLp.nd rfl (Or.inl rfl) (pe_lst pa_nil))
   (pss_cons (ps_set (i:=8) scLp.nd rfl (Or.inl rfl) pe_int)
   (pss_cons (ps_for PassesOwn.never rfl (pi_range1 (by rfl) T.z_range (pa_cons (pv 4) pa_nil)) (pg_name (i:=9) scLp.nd rfl (Or.inl rfl))
    (pss_cons (ps_set (i:=10) scLp.nd rfl (Or.inl rfl) (pe_op op_add (pv 5) (pe_op op_mod (pe_op op_add (pe_ix ix_list (pv 0) (pe_op op_add (pe_op op_add (pv 1) pe_int) (pe_op op_mod (pv 9) pe_int)) (fun _ _=>rfl)) (pe_op op_fdiv (pv 9) pe_int)) (pv 6))))
     (pss_cons (ps_set (i:=11) scLp.nd rfl (Or.inl rfl) (pe_lst pa_nil))
     (pss_cons (ps_for PassesOwn.never rfl (pi_range1 (by rfl) T.z_range (pa_cons (pv 10) pa_nil)) (pg_name (i:=12) scLp.nd rfl (Or.inl rfl))
      (pss_cons (ps_set (i:=13) scLp.nd rfl (Or.inl rfl) (pe_op op_add (pe_op op_add (pv 1) pe_int) (pe_op op_mul pe_int (pe_op op_mod (pv 8) pe_int))))
       (pss_cons (ps_expr (pe_bm PySem.F.plainAttrs_list PySem.F.slot_list_append PySem.F.type_list_append mt_append (pv 11) (pa_cons (pe_call (ok_row T) (hr.mono (by decide)) (by rfl) T.m_row T.F_row.kp (b_row T) .nil pass0 (pa_cons (pv 0) (pa_cons (pv 13) (pa_cons (pe_op op_fdiv (pv 8) pe_int) (pa_cons (pv 10) (pa_cons (pv 2) (pa_cons (pv 3) (pa_cons (pe_callTy (call_list_rng2 rfl) (by rfl) T.z_list (by rfl) (pa_cons (pe_callTy call_range2 (by rfl) T.z_range (by rfl) (pa_cons (pe_op op_add (pv 9) pe_int) (pa_cons (pv 4) pa_nil))) pa_nil)) pa_nil)))))))) pa_nil)))
       (pss_one (ps_set (i:=8) scLp.nd rfl (Or.inl rfl) (pe_op op_add (pv 8) pe_int))))))
     (pss_cons (ps_if (pt_cmpR op_notIn_seq (pe_ix ix_tup (pe_ix ix_list (pv 11) (pe_un un_neg pe_int) (fun _ _=>rfl)) pe_int (fun _ _=>rfl)) (pe_tup (pa_cons pe_str (pa_cons pe_str (pa_cons pe_str pa_nil)))) (by rfl))
      (pss_one (ps_asg (pe_tup (pa_cons pe_str pa_nil)) (pg_sub (pv 11) (pe_un un_neg pe_int) set_list)))
      pss_nil)
     (pss_one (ps_expr (pe_bm PySem.F.plainAttrs_list PySem.F.slot_list_append PySem.F.type_list_append mt_append (pv 7) (pa_cons (pv 11) pa_nil)))))))))
   (pss_one (ps_ret (pv 7))))))),?_⟩
  rw[]
  have a8:atI (ds.map V.int) 8=some (.int (ds.getD (8:Int).toNat 0)):=dgI 8 (by decide) (by omega)
  obtain⟨x8,ex8⟩:∃ x8,ds.getD (8:Int).toNat 0=x8:=⟨_,rfl⟩
  rw[ex8] at a8
  obtain⟨v4,ev4⟩:∃ v:Nat,1+x8 % 4=(v:Int):=Int.eq_ofNat_of_zero_le (by omega)
  obtain⟨v3,ev3⟩:∃ v:Nat,1+x8 % 3=(v:Int):=Int.eq_ofNat_of_zero_le (by omega)
  refine⟨_,rfl,_,rfl,d,_,_,_,rfl,rfl,SqL.of gd,a8,_,_,rfl,rfl,(show(0:Int)<4 by decide),_,_,rfl,rfl,(sz_ 3),fun p1 hp1=>?_⟩
  have h1:=hH.alloc hp1 (.tup [.int (1+x8 % 4),.int 1,.int 6])
  refine⟨(sz_ 3),fun p2 hp2=>?_⟩
  have h2:=h1.alloc hp2 (.tup [.int 8,.int 1,.int 10])
  have gd2:_=_:=h2.at_ _ (mem_cons_of_mem _ (mem_cons_of_mem _ md))
  dsimp only at gd2
  refine⟨_,rfl,_,rfl,d,_,_,_,rfl,rfl,SqL.of gd2,a8,_,_,rfl,rfl,(show(0:Int)<3 by decide),_,_,rfl,rfl,(sz_ 3),fun p3 hp3=>?_⟩
  have h3:=h2.alloc hp3 (.tup [.int (1+x8 % 3),.int 11,.int 30])
  refine⟨(sz_ 3),fun p4 hp4=>?_⟩
  have h4:=h3.alloc hp4 (.tup [.int 40,.int 1,.int 2])
  refine⟨(sz_ 3),fun p5 hp5=>?_⟩
  have h5:=h4.alloc hp5 (.tup [.int 1,.int 41,.int 60])
  have gd5:=h5.at_ _ (mem_cons_of_mem _ (mem_cons_of_mem _ (mem_cons_of_mem _ (mem_cons_of_mem _ (mem_cons_of_mem _ md)))))
  dsimp only at gd5
  refine⟨_,rfl,_,rfl,d,_,_,_,rfl,rfl,SqL.of gd5,a8,_,_,rfl,rfl,(show(0:Int)<4 by decide),_,_,rfl,rfl,(sz_ 3),fun p6 hp6=>?_⟩
  have h6:=h5.alloc hp6 (.tup [.int (1+x8 % 4),.int 1,.int 6])
  have gd6:=h6.at_ _ (mem_cons_of_mem _ (mem_cons_of_mem _ (mem_cons_of_mem _ (mem_cons_of_mem _ (mem_cons_of_mem _ (mem_cons_of_mem _ md))))))
  dsimp only at gd6
  refine⟨_,rfl,_,rfl,d,_,_,_,rfl,rfl,SqL.of gd6,a8,_,_,rfl,rfl,(show(0:Int)<4 by decide),_,_,rfl,rfl,(sz_ 3),fun p7 hp7=>?_⟩
  have h7:=h6.alloc hp7 (.tup [.int (1+x8 % 4),.int 1,.int 6])
  have gd7:=h7.at_ _ (mem_cons_of_mem _ (mem_cons_of_mem _ (mem_cons_of_mem _ (mem_cons_of_mem _ (mem_cons_of_mem _ (mem_cons_of_mem _ (mem_cons_of_mem _ md)))))))
  dsimp only at gd7
  refine⟨_,rfl,_,rfl,d,_,_,_,rfl,rfl,SqL.of gd7,a8,_,_,rfl,rfl,(show(0:Int)<4 by decide),_,_,rfl,rfl,(sz_ 3),fun p8 hp8=>?_⟩
  have h8:=h7.alloc hp8 (.tup [.int (1+x8 % 4),.int 1,.int 6])
  refine⟨(sz_ 8),fun lp hlp=>?_⟩
  have h9:=h8.alloc hlp (.lst [.ref p1,.ref p2,.ref p3,.ref p4,.ref p5,.ref p6,.ref p7,.ref p8])
  have h10:=h9.sub (List.sublist_append_right [(lp,HO.lst [.ref p1,.ref p2,.ref p3,.ref p4,.ref p5,.ref p6,.ref p7,.ref p8]),(p8,.tup [.int (1+x8 % 4),.int 1,.int 6]),(p7,.tup [.int (1+x8 % 4),.int 1,.int 6]),(p6,.tup [.int (1+x8 % 4),.int 1,.int 6]),(p5,.tup [.int 1,.int 41,.int 60]),(p4,.tup [.int 40,.int 1,.int 2]),(p3,.tup [.int (1+x8 % 3),.int 11,.int 30]),(p2,.tup [.int 8,.int 1,.int 10]),(p1,.tup [.int (1+x8 % 4),.int 1,.int 6])] L)
  dsimp only[List.set] at h9 h10 ⊢
  have gd9:=h10.at_ _ md
  dsimp only at gd9
  obtain⟨pi,S,lo,sz0,hat,hpi,hS1,hS2,hlo1,hlo2,hz1,hz2,hSM⟩:∃ (pi:Addr) (S lo sz0:Nat),atI [V.ref p1,.ref p2,.ref p3,.ref p4,.ref p5,.ref p6,.ref p7,.ref p8] (x8 / 4 % 8)=some (.ref pi)/\(pi,HO.tup [.int S,.int lo,.int sz0]) ∈ [(lp,HO.lst [.ref p1,.ref p2,.ref p3,.ref p4,.ref p5,.ref p6,.ref p7,.ref p8]),(p8,.tup [.int (1+x8 % 4),.int 1,.int 6]),(p7,.tup [.int (1+x8 % 4),.int 1,.int 6]),(p6,.tup [.int (1+x8 % 4),.int 1,.int 6]),(p5,.tup [.int 1,.int 41,.int 60]),(p4,.tup [.int 40,.int 1,.int 2]),(p3,.tup [.int (1+x8 % 3),.int 11,.int 30]),(p2,.tup [.int 8,.int 1,.int 10]),(p1,.tup [.int (1+x8 % 4),.int 1,.int 6])]++L/\1<=S/\S<=40/\1<=lo/\lo<=41/\1<=sz0/\sz0<=60/\S*(lo+sz0 - 1)<=120:=by
   rw[ev4,ev3]
   have c:=mod8 (x8/4)
   rcases c with c | c | c | c | c | c | c | c <;> rw[c]
   ·exact⟨p1,v4,1,6,rfl,mem_of_getElem? (i:=8) rfl,prt4 ev4⟩
   ·exact⟨p2,8,1,10,rfl,mem_of_getElem? (i:=7) rfl,by decide,by decide,by decide,by decide,by decide,by decide,by decide⟩
   ·exact⟨p3,v3,11,30,rfl,mem_of_getElem? (i:=6) rfl,prt3 ev3⟩
   ·exact⟨p4,40,1,2,rfl,mem_of_getElem? (i:=5) rfl,by decide,by decide,by decide,by decide,by decide,by decide,by decide⟩
   ·exact⟨p5,1,41,60,rfl,mem_of_getElem? (i:=4) rfl,by decide,by decide,by decide,by decide,by decide,by decide,by decide⟩
   ·exact⟨p6,v4,1,6,rfl,mem_of_getElem? (i:=3) rfl,prt4 ev4⟩
   ·exact⟨p7,v4,1,6,rfl,mem_of_getElem? (i:=2) rfl,prt4 ev4⟩
   ·exact⟨p8,v4,1,6,rfl,mem_of_getElem? (i:=1) rfl,prt4 ev4⟩
  refine⟨_,rfl,_,rfl,d,_,_,_,rfl,rfl,SqL.of gd9,a8,_,_,rfl,rfl,⟨by decide,by decide⟩,_,_,rfl,rfl,(show(0:Int)<8 by decide),lp,_,_,_,rfl,rfl,SqL.of (h9.get 0 rfl),hat,pi,_,rfl,SqT.of (h9.at_ _ hpi),rfl,_,_,rfl,_,_,rfl,_,_,rfl,rfl,?_⟩
  refine⟨(sz_ 0),fun pl hpl=>?_⟩
  have h11:=h10.alloc hpl (.lst [])
  clear h1 h2 h3 h4 h5 h6 h7 h8 h9 hpi hat gd2 gd5 gd6 gd7 gd9
  have em:∀ (a b:Int),0<b->0<=a % b/\a % b<b:=fun a b hb=>⟨Int.emod_nonneg _ (by omega),Int.emod_lt_of_pos _ hb⟩
  refine⟨_,rfl,_,rfl,by omega,by omega,for_range (fun i σ H'=>∃ (o9 o10 o11 o12 o13:Option V) (slot:Int) (ss:Ss) (N:Kn),σ=[some (.ref d),some (.int 8),some (.int nm),some (.int nc),some (.int S),some (.int lo),some (.int sz0),some (.ref pl),some (.int slot),o9,o10,o11,o12,o13]/\ss.length=i/\GoodU nm nc S (lo+sz0 - 1) ss/\(∀ z ∈ ss,(z.1,HO.lst (rwV z.2)) ∈ N)/\(∀ z ∈ ss,∀ x ∈ z.2,(x.1,HO.tup x.2.v) ∈ N)/\Has H' ((pl,.lst (ssV ss))::(N++L))) ⟨none,none,none,none,none,0,[],[],rfl,rfl,(fun k z hz=>by simp at hz),by simp,by simp,h11⟩ ?_ ?_⟩
  ·clear h11 h10
   rintro i σ H2 hi ⟨o9,o10,o11,o12,o13,slot,ss,N,rfl,hl,hg,hz,hx,h2⟩
   have hi:i<S:=by omega
   rw[Int.zero_add]
   show tSeq _ _ _ _ _
   dsimp only[List.set]
   have inL:∀ {H':Hp}{z c1:Addr×HO}{N:Kn},Has H' (c1::(N++L))->z ∈ L->H' z.1=some z.2:=fun h m=>h.at_ _ (mem_cons_of_mem _ (mem_append_right _ m))
   have g2:=inL h2 md
   dsimp only at g2
   have i8:=em (i:Int) 8 (by decide)
   refine⟨_,rfl,_,rfl,_,rfl,_,_,rfl,rfl,_,rfl,_,_,rfl,rfl,(show(0:Int)<8 by decide),_,_,rfl,rfl,d,_,_,_,rfl,rfl,SqL.of g2,dgI (8+1+(i:Int) % 8) (by omega) (by omega),_,rfl,_,_,rfl,rfl,⟨by decide,by decide⟩,_,_,rfl,rfl,_,rfl,_,_,rfl,rfl,(show(0:Int)<sz0 by omega),_,_,rfl,rfl,?_⟩
   dsimp only[List.set]
   obtain⟨many,emany⟩:∃ many:Nat,(lo:Int)+(ds.getD (8+1+(i:Int) % 8).toNat 0+(i:Int) / 8) % sz0=(many:Int):=Int.eq_ofNat_of_zero_le (by have:=em (ds.getD (8+1+(i:Int) % 8).toNat 0+(i:Int) / 8) sz0 (by omega); omega)
   have hmany:1<=many/\many<=101/\many<=lo+sz0 - 1:=by have:=em (ds.getD (8+1+(i:Int) % 8).toNat 0+(i:Int) / 8) sz0 (by omega); omega
   rw[emany]
   refine⟨(sz_ 0),fun rl hrl=>?_⟩
   dsimp only[List.set]
   have h3:=h2.alloc hrl (.lst [])
   refine⟨_,rfl,_,rfl,by omega,by omega,for_range (fun j σ H'=>∃ (o12 o13:Option V) (slot:Int) (rs:List (Addr×Rw)) (N':Kn),σ=[some (.ref d),some (.int 8),some (.int nm),some (.int nc),some (.int S),some (.int lo),some (.int sz0),some (.ref pl),some (.int slot),some (.int i),some (.int many),some (.ref rl),o12,o13]/\rs.length=j/\(∀ x ∈ rs,x.2.ok nm nc many i S)/\(∀ x ∈ rs,(x.1,HO.tup x.2.v) ∈ N')/\Has H' ((rl,.lst (rwV rs))::(N'++((pl,.lst (ssV ss))::(N++L))))) ⟨_,_,slot,[],[],rfl,rfl,by simp,by simp,h3⟩ ?_ ?_⟩
   ·clear h3
    rintro j σ H3 hj ⟨o12,o13,slot,rs,N',rfl,hrl2,hok,hin,h3⟩
    have hj:j<many:=by omega
    show tSeq _ _ _ _ _
    dsimp only[List.set]
    have s80:=em slot 80 (by decide)
    refine⟨_,rfl,_,_,rfl,rfl,_,rfl,_,_,rfl,rfl,(show(0:Int)<80 by decide),_,_,rfl,rfl,.inl ⟨by decide,by decide⟩,_,_,rfl,rfl,?_⟩
    dsimp only[List.set]
    refine⟨_,rfl,.inl ⟨rfl,_,SqL.of (h3.get 0 rfl)⟩,_,rfl,_,rfl,_,rfl,_,_,rfl,rfl,⟨by decide,by decide⟩,_,rfl,_,rfl,_,rfl,_,rfl,_,_,rfl,rfl,_,rfl,_,_,rfl,fun p hp=>?_⟩
    have h4:=h3.alloc hp (.rng ((i:Int)+1) S)
    refine⟨p,_,_,rfl,h4.get 0 rfl,by omega,by omega,by omega,by omega,fun lt hlt=>?_⟩
    have h5:=h4.alloc hlt (.lst (intsF ((i:Int)+1) ((S:Int) - ((i:Int)+1)).toNat))
    refine⟨d,lt,ds,_,_,many,nm,nc,i,S,_,rfl,h5,mem_cons_of_mem _ (mem_cons_of_mem _ (mem_cons_of_mem _ (mem_append_right _ (mem_cons_of_mem _ (mem_append_right _ md))))),(by rw[show S - (i+1)=((S:Int) - ((i:Int)+1)).toNat by omega]; exact mem_cons_self),(by omega),(by omega),hmany.1,fun H6 a y hy h6=>?_⟩
    refine⟨rl,_,_,rfl,rfl,h6.get 3 rfl,sizeOk (by unfold rwV; rw[length_map]; omega),?_⟩
    have h7:=h6.puti 3 rfl (.lst (rwV rs++[.ref a]))
    have h8:=bringH h7 3 rfl
    refine⟨_,rfl,_,_,rfl,rfl,?_⟩
    dsimp only[List.set]
    refine⟨_,_,slot+1,rs++[(a,y)],(a,.tup y.v)::(lt,.lst (intsF ((i:Int)+1) ((S:Int) - ((i:Int)+1)).toNat))::(p,.rng ((i:Int)+1) S)::N',rfl,by simp[hrl2],?_,?_,?_⟩
    ·intro x hx
     rcases mem_append.mp hx with hx | hx
     ·exact hok x hx
     ·cases mem_singleton.mp hx
      exact hy
    ·intro x hx
     rcases mem_append.mp hx with hx | hx
     ·exact mem_cons_of_mem _ (mem_cons_of_mem _ (mem_cons_of_mem _ (hin x hx)))
     ·cases mem_singleton.mp hx
      exact mem_cons_self
    ·have e:rwV (rs++[(a,y)])=rwV rs++[.ref a]:=by unfold rwV; rw[map_append]; rfl
     rw[e]
     exact h8
   ·clear h3
    rintro σ H3 hP
    rw[Int.toNat_natCast] at hP
    obtain⟨o12,o13,slot,rs,N',rfl,hrl2,hok,hin,h3⟩:=hP
    have fin:∀ {H4:Hp} (rs1:List (Addr×Rw)) (N1:Kn),rs1.length=many->(∀ x ∈ rs1,x.2.ok nm nc many i S)->(∀ x ∈ rs1,(x.1,HO.tup x.2.v) ∈ N1)->(∃ a y,rs1.getLast?=some (a,y)/\y.last=true)->Has H4 ((rl,.lst (rwV rs1))::(N1++((pl,.lst (ssV ss))::(N++L)))) ->
      ∃ (N2:Kn),(∀ z ∈ ss++[(rl,rs1)],(z.1,HO.lst (rwV z.2)) ∈ N2)/\(∀ z ∈ ss++[(rl,rs1)],∀ x ∈ z.2,(x.1,HO.tup x.2.v) ∈ N2)/\GoodU nm nc S (lo+sz0 - 1) (ss++[(rl,rs1)])/\H4 pl=some (.lst (ssV ss))/\Has (upd H4 pl (.lst (ssV ss++[.ref rl]))) ((pl,.lst (ssV (ss++[(rl,rs1)])))::(N2++L)):=by
     intro H4 rs1 N1 l1 ok1 in1 la1 h4
     have h5:=Has.comm (X:=(rl,HO.lst (rwV rs1))::N1) (Y:=[(pl,HO.lst (ssV ss))]) h4
     have h6:=h5.puti 0 rfl (.lst (ssV ss++[.ref rl]))
     refine⟨((rl,HO.lst (rwV rs1))::N1)++N,?_,?_,hg.snoc (by rw[hl,l1]; exact ok1) la1 (by rw[l1]; exact hmany.2.2),h5.get 0 rfl,?_⟩
     ·intro z hz1
      rcases mem_append.mp hz1 with hz1 | hz1
      ·exact mem_append_right _ (hz z hz1)
      ·cases mem_singleton.mp hz1
       exact mem_append_left _ mem_cons_self
     ·intro z hz1 x hx1
      rcases mem_append.mp hz1 with hz1 | hz1
      ·exact mem_append_right _ (hx z hz1 x hx1)
      ·cases mem_singleton.mp hz1
       exact mem_append_left _ (mem_cons_of_mem _ (in1 x hx1))
     ·have e:ssV (ss++[(rl,rs1)])=ssV ss++[.ref rl]:=by unfold ssV; rw[map_append]; rfl
      rw[e,append_assoc]
      exact h6
    obtain⟨⟨la,ly⟩,hla⟩:∃ z,rs.getLast?=some z:=by
     cases e:rs.getLast? with
     | none=>rw[List.getLast?_eq_none_iff] at e; rw[e] at hrl2; simp at hrl2; omega
     | some z=>exact⟨z,rfl⟩
    obtain⟨rs',ers⟩:=List.getLast?_eq_some_iff.mp hla
    have eV:rwV rs=rwV rs'++[.ref la]:=by rw[ers]; unfold rwV; rw[map_append]; rfl
    have mla:(la,ly) ∈ rs:=by rw[ers]; simp
    have g1:=h3.get 0 rfl
    rw[eV] at g1
    have g2:=h3.at_ (la,_) (mem_cons_of_mem _ (mem_append_left _ (hin _ mla)))
    dsimp only at g2
    have lss:(ssV ss).length<=1000:=by unfold ssV; rw[length_map]; omega
    refine⟨_,rfl,1,rfl,rl,_,_,_,rfl,rfl,SqL.of g1,atI_last _ _,la,_,_,_,rfl,rfl,SqT.of g2,atI_nat (j:=0) rfl,(sz_ 3),fun wt hwt=>?_⟩
    have h4:=h3.alloc hwt (.tup [.str "ask",.str "go",.str "end"])
    refine⟨wt,_,rfl,.inr (SqT.of (h4.get 0 rfl)),rfl,rfl,_,rfl,?_⟩
    cases hlast:ly.last with
    | true=>
     refine ifF (ly.lastIn hlast) ?_
     obtain⟨N2,f1,f2,f3,f4,f5⟩:=fin rs N' hrl2 hok hin ⟨la,ly,hla,hlast⟩ h4.tail
     exact⟨_,rfl,.inl ⟨rfl,_,SqL.of f4⟩,_,rfl,pl,_,_,rfl,rfl,f4,sizeOk (by omega),_,_,_,_,_,slot,ss++[(rl,rs)],N2,rfl,by simp[hl],f3,f1,f2,f5⟩
    | false=>
     refine ifT (ly.notLast hlast) ?_
     refine⟨(sz_ 1),fun e he=>?_⟩
     have h5:=h4.alloc he (.tup (Rw.fin).v)
     have lrs:(rwV rs).length=many:=by unfold rwV; rw[length_map]; exact hrl2
     refine⟨_,rfl,1,rfl,rl,_,_,_,rfl,rfl,h5.get 2 rfl,ixN_last (by omega),?_⟩
     have h6:=h5.puti 2 rfl (.lst ((rwV rs).set ((rwV rs).length - 1) (.ref e)))
     have eS:(rwV rs).set ((rwV rs).length - 1) (.ref e)=rwV (rs'++[(e,Rw.fin)]):=by
      rw[eV,set_last]
      unfold rwV
      rw[map_append]
      rfl
     rw[eS] at h6
     rw[eS]
     have h7:=bringH h6 2 rfl
     have l1:(rs'++[(e,Rw.fin)]).length=many:=by rw[<- hrl2,ers]; simp
     obtain⟨N2,f1,f2,f3,f4,f5⟩:=fin (rs'++[(e,Rw.fin)]) ((e,.tup (Rw.fin).v)::(wt,.tup [.str "ask",.str "go",.str "end"])::N') l1 (by
      intro x hx
      rcases mem_append.mp hx with hx | hx
      ·exact hok x (by rw[ers]; exact mem_append_left _ hx)
      ·cases mem_singleton.mp hx
       trivial) (by
      intro x hx
      rcases mem_append.mp hx with hx | hx
      ·exact mem_cons_of_mem _ (mem_cons_of_mem _ (hin x (by rw[ers]; exact mem_append_left _ hx)))
      ·cases mem_singleton.mp hx
       exact mem_cons_self) ⟨e,.fin,by simp,rfl⟩ h7
     exact⟨_,rfl,.inl ⟨rfl,_,SqL.of f4⟩,_,rfl,pl,_,_,rfl,rfl,f4,sizeOk (by omega),_,_,_,_,_,slot,ss++[(rl,rs'++[(e,Rw.fin)])],N2,rfl,by simp[hl],f3,f1,f2,f5⟩
  ·rintro σ H2 hP
   rw[Int.toNat_natCast] at hP
   obtain⟨o9,o10,o11,o12,o13,slot,ss,N,rfl,hl,hg,hz,hx,h2⟩:=hP
   exact⟨_,rfl,q _ pl ss N (by intro e; rw[e] at hl; simp at hl; omega) (by omega) (fun k z hk=>by rw[hl]; exact⟨(hg k z hk).1,(hg k z hk).2.1⟩) ⟨lo+sz0 - 1,by rw[hl]; exact hSM,fun z hz=>by obtain⟨k,hk⟩:=List.getElem?_of_mem hz; exact(hg k z hk).2.2⟩ hz hx h2⟩
end
end P
set_option Elab.async false
set_option linter.all false
set_option maxRecDepth 100000
set_option maxHeartbeats 4000000
namespace P
open PySem L2
def sp_Jv:Sp:=fun vs H Q _=>∃ (d:Addr) (ds:List Int) (L:Kn),vs=[.ref d]/\Has H L/\(d,HO.lst (ds.map V.int)) ∈ L/\338<=ds.length /\
 ∀ H' tp m w pl (ms ws:List Int) (ss:Ss) (N:Kn),(∀ x ∈ ms,x=1∨x=2)->(∀ x ∈ ws,1<=x/\x<=8)->ms.length<=30->ws.length<=30->ss≠[]->ss.length<=40->Good ms.length ws.length ss->LimR ss->(∀ z ∈ ss,(z.1,HO.lst (rwV z.2)) ∈ N)->(∀ z ∈ ss,∀ x ∈ z.2,(x.1,HO.tup x.2.v) ∈ N) ->
  Has H' ((tp,.tup [.ref m,.ref w,.ref pl])::(pl,.lst (ssV ss))::(N++((w,.lst (ws.map V.int))::(m,.lst (ms.map V.int))::L)))->Q (.ref tp) H'
theorem ifSet {c:Bool}{v:V}{i:Nat}{D:Ends}{σ:St}{H:Hp} (h:∀ τ,(τ=σ.set i (some v)∨τ=σ)->D.nx τ H):if c=true then tAsg (tC v) (gName i) D σ H else tNext D σ H:=by
 cases c
 ·exact iteF (h σ (.inr rfl))
 ·exact iteT (h _ (.inl rfl))
section
variable {P:Program}{w:World}{K:PySem.W.Frag}{mg:Str->Option Value}{base:Heap}{t:Adr}
theorem scLg:FnScope ["_law_d","_law_many","_law_marks","_law_widths","_law_turn","_law_width"] ["_law_d"] (defScope s_Jv):=⟨rfl,rfl,rfl,by decide +kernel,rfl,by decide +kernel,by decide +kernel⟩
theorem ok_Jv (T:Txt K mg t):FnOk P w K mg base CX0 3 t.f_Jv t.d_Jv ["_law_d"] sp_Jv:=by
 refine T.F_Jv.ok scLg (fun vs H Q E h=>?_) (fun cdv A outer s H vs Q E hr h=>?_)
 ·obtain⟨_,_,_,rfl,_⟩:=h
  rfl
 ·obtain⟨d,ds,L,rfl,hH,md,hds,q⟩:=h
  have gd:=hH.at_ _ md
  dsimp only at gd
  refine⟨_,(pss_cons (ps_set (i:=1) scLg.nd rfl (Or.inl rfl) (pe_op op_mod (pe_ix ix_list (pv 0) pe_int (fun _ _=>rfl)) pe_int))
   (pss_cons (ps_if (pt_cmpR op_eq (pe_op op_mod (pe_op op_fdiv (pe_ix ix_list (pv 0) pe_int (fun _ _=>rfl)) pe_int) pe_int) pe_int (nomark _))
    (pss_one (ps_set (i:=1) scLg.nd rfl (Or.inl rfl) pe_int))
    pss_nil)
   (pss_cons (ps_setC (ix:=2) scLg.nd rfl (Or.inl rfl) (esc:=defScope s_Jv) (k:=1) ["_law_turn","_law_d","_law_many","_law_marks","_law_widths","_law_turn'","_law_width"] rfl (pi_range1 (by rfl) T.z_range (pa_cons (pv 1) pa_nil)) (fun _ _ _ _ _=>by exact(pg_name (i:=0) (show List.Nodup (["_law_turn","_law_d","_law_many","_law_marks","_law_widths","_law_turn'","_law_width"]:List Str) from by decide +kernel) rfl (Or.inl rfl))) (fun _ _ _ _ _=>by exact pts_nil) (fun _ _ _ _ _=>by exact(pe_op op_add pe_int (pe_op op_mod (pe_ix (ix_listK (K:=K) rfl) (pv 1) (pe_op op_add pe_int (pv 0)) (fun _ _=>rfl)) pe_int))) rfl (by decide +kernel) (by decide +kernel) rfl (by decide +kernel) (by rfl) (fun i y h hf=>by
    by_cases c:i=4
    ·subst c; cases h; exact absurd hf (by decide +kernel)
    ·have h2:(List.set (["_law_d","_law_many","_law_marks","_law_widths","_law_turn","_law_width"]:List Str) 4 "_law_turn'")[i]?=some y:=h
     rw[List.getElem?_set_ne (fun z=>c z.symm)] at h2; exact h2) (by decide +kernel))
   (pss_cons (ps_set (i:=3) scLg.nd rfl (Or.inl rfl) (pe_lst pa_nil))
   (pss_cons (ps_set (i:=1) scLg.nd rfl (Or.inl rfl) (pe_op op_mod (pe_ix ix_list (pv 0) pe_int (fun _ _=>rfl)) pe_int))
   (pss_cons (ps_if (pt_cmpR op_eq (pe_op op_mod (pe_op op_fdiv (pe_ix ix_list (pv 0) pe_int (fun _ _=>rfl)) pe_int) pe_int) pe_int (nomark _))
    (pss_one (ps_set (i:=1) scLg.nd rfl (Or.inl rfl) pe_int))
    pss_nil)
   (pss_cons (ps_for PassesOwn.never rfl (pi_range1 (by rfl) T.z_range (pa_cons (pv 1) pa_nil)) (pg_name (i:=4) scLg.nd rfl (Or.inl rfl))
    (pss_cons (ps_set (i:=5) scLg.nd rfl (Or.inl rfl) (pe_op op_add pe_int (pe_op op_mod (pe_ix ix_list (pv 0) (pe_op op_add pe_int (pv 4)) (fun _ _=>rfl)) pe_int)))
     (pss_cons (ps_if (pt_cmpR op_eq (pe_op op_mod (pe_op op_fdiv (pe_ix ix_list (pv 0) (pe_op op_add pe_int (pv 4)) (fun _ _=>rfl)) pe_int) pe_int) pe_int (nomark _))
      (pss_one (ps_set (i:=5) scLg.nd rfl (Or.inl rfl) (pe_op op_add pe_int (pe_op op_mod (pe_op op_fdiv (pe_ix ix_list (pv 0) (pe_op op_add pe_int (pv 4)) (fun _ _=>rfl)) pe_int) pe_int))))
      pss_nil)
     (pss_one (ps_expr (pe_bm PySem.F.plainAttrs_list PySem.F.slot_list_append PySem.F.type_list_append mt_append (pv 3) (pa_cons (pv 5) pa_nil)))))))
   (pss_one (ps_ret (pe_tup (pa_cons (pv 2) (pa_cons (pv 3) (pa_cons (pe_call (ok_parts T) (hr.mono (by decide)) (by rfl) T.m_parts T.F_parts.kp (b_parts T) .nil pass0 (pa_cons (pv 0) (pa_cons pe_int (pa_cons (pe_callB call_len_seq (by rfl) T.z_len (by rfl) (pa_cons (pv 2) pa_nil)) (pa_cons (pe_callB call_len_seq (by rfl) T.z_len (by rfl) (pa_cons (pv 3) pa_nil)) pa_nil))))) pa_nil))))))))))))),?_⟩
  rw[show L2.start ["_law_d","_law_many","_law_marks","_law_widths","_law_turn","_law_width"] [V.ref d]=([some (V.ref d),none,none,none,none,none]:St) from rfl]
  have a0:atI (ds.map V.int) 0=some (.int (ds.getD (0:Int).toNat 0)):=dgI 0 (by decide) (by omega)
  have a4:atI (ds.map V.int) 4=some (.int (ds.getD (4:Int).toNat 0)):=dgI 4 (by decide) (by omega)
  obtain⟨x0,ex0⟩:∃ x0,ds.getD (0:Int).toNat 0=x0:=⟨_,rfl⟩
  obtain⟨x4,ex4⟩:∃ x4,ds.getD (4:Int).toNat 0=x4:=⟨_,rfl⟩
  rw[ex0] at a0
  rw[ex4] at a4
  refine⟨_,rfl,d,_,_,_,rfl,rfl,SqL.of gd,a0,_,_,rfl,rfl,(show(0:Int)<4 by decide),?_⟩
  dsimp only[List.set]
  refine⟨_,rfl,d,_,_,_,rfl,rfl,SqL.of gd,a0,_,_,rfl,rfl,⟨by decide,by decide⟩,_,_,rfl,rfl,(show(0:Int)<11 by decide),rfl,_,rfl,?_⟩
  refine ifSet (fun τ hτ=>?_)
  obtain⟨n,hn,rfl⟩:∃ n:Nat,n<=30/\τ=[some (.ref d),some (.int n),none,none,none,none]:=by
   rcases hτ with rfl | rfl
   ·exact⟨30,Nat.le_refl _,rfl⟩
   ·exact⟨(x0 % 4).toNat,by omega,by rw[Int.toNat_of_nonneg (by omega)]; rfl⟩
  refine⟨_,rfl,_,rfl,by omega,by omega,fun D hD=>?_⟩
  refine⟨fun i m zs H'=>m=n - i/\i<=n/\∃ ms:List Int,zs=ms.map V.int/\ms.length=i/\(∀ x ∈ ms,x=1∨x=2)/\Has H' ((D,.lst zs)::L),⟨_,rfl,Nat.zero_le _,[],rfl,rfl,by simp,hH.alloc hD _⟩,?_⟩
  rintro i m zs H2 ⟨rfl,hi,ms,rfl,hml,hms,h2⟩
  refine⟨h2.get 0 rfl,?_⟩
  have g2:=h2.tail.at_ _ md
  dsimp only at g2
  by_cases hlt:i<n
  ·refine .inr ⟨(show i<(n:Int).toNat by omega),?_⟩
   rintro x H3 ⟨rfl,rfl⟩
   refine⟨rfl,tTrueT ?_⟩
   refine⟨_,rfl,_,rfl,_,_,rfl,rfl,d,_,_,_,rfl,rfl,SqL.of g2,dgI (1+(0+(i:Int))) (by omega) (by omega),_,_,rfl,rfl,(show(0:Int)<2 by decide),_,_,rfl,rfl,?_⟩
   dsimp only
   obtain⟨v,ev⟩:∃ v,1+ds.getD (1+(0+(i:Int))).toNat 0 % 2=v:=⟨_,rfl⟩
   rw[ev]
   refine⟨sizeOk (by rw[length_map]; omega),h2.get 0 rfl,n - (i+1),by omega,rfl,hlt,ms++[v],by rw[map_append]; rfl,by simp[hml],?_,h2.puti 0 rfl _⟩
   intro x hx
   rcases mem_append.mp hx with hx | hx
   ·exact hms x hx
   ·cases mem_singleton.mp hx
    omega
  ·refine .inl ⟨(show(n:Int).toNat<=i by omega),?_⟩
   dsimp only[List.set]
   refine⟨(sz_ 0),fun wl hwl=>?_⟩
   have h3:=h2.alloc hwl (.lst [])
   have g3:=h3.tail.tail.at_ _ md
   dsimp only[List.set] at g3 ⊢
   refine⟨_,rfl,d,_,_,_,rfl,rfl,SqL.of g3,a4,_,_,rfl,rfl,(show(0:Int)<4 by decide),?_⟩
   dsimp only[List.set]
   refine⟨_,rfl,d,_,_,_,rfl,rfl,SqL.of g3,a4,_,_,rfl,rfl,⟨by decide,by decide⟩,_,_,rfl,rfl,(show(0:Int)<11 by decide),rfl,_,rfl,?_⟩
   refine ifSet (fun τ hτ=>?_)
   obtain⟨n2,hn2,rfl⟩:∃ n2:Nat,n2<=30/\τ=[some (.ref d),some (.int n2),some (.ref D),some (.ref wl),none,none]:=by
    rcases hτ with rfl | rfl
    ·exact⟨30,Nat.le_refl _,rfl⟩
    ·exact⟨(x4 % 4).toNat,by omega,by rw[Int.toNat_of_nonneg (by omega)]; rfl⟩
   refine⟨_,rfl,_,rfl,by omega,by omega,for_range (fun j σ H'=>∃ (o4 o5:Option V) (ws:List Int),σ=[some (.ref d),some (.int n2),some (.ref D),some (.ref wl),o4,o5]/\ws.length=j/\(∀ x ∈ ws,1<=x/\x<=8)/\Has H' ((wl,.lst (ws.map V.int))::(D,.lst (ms.map V.int))::L)) ⟨_,_,[],rfl,rfl,by simp,h3⟩ ?_ ?_⟩
   ·clear h3
    rintro j σ H3 hj ⟨o4,o5,ws,rfl,hwl2,hws,h3⟩
    have hj:j<n2:=by omega
    have g3:=h3.tail.tail.at_ _ md
    dsimp only at g3
    rw[Int.zero_add]
    show tSeq _ _ _ _ _
    dsimp only[List.set]
    have a5:atI (ds.map V.int) (5+(j:Int))=some (.int (ds.getD (5+(j:Int)).toNat 0)):=dgI _ (by omega) (by omega)
    obtain⟨x5,ex5⟩:∃ x5,ds.getD (5+(j:Int)).toNat 0=x5:=⟨_,rfl⟩
    rw[ex5] at a5
    have fin:∀ (v:Int) (o4 o5:Option V),1<=v->v<=8->∃ (o4' o5':Option V) (ws':List Int),[some (V.ref d),some (.int n2),some (.ref D),some (.ref wl),o4,o5]=[some (V.ref d),some (.int n2),some (.ref D),some (.ref wl),o4',o5']/\ws'.length=j+1/\(∀ x ∈ ws',1<=x/\x<=8)/\Has (upd H3 wl (.lst (ws.map V.int++[.int v]))) ((wl,.lst (ws'.map V.int))::(D,.lst (ms.map V.int))::L):=by
     intro v o4 o5 v1 v8
     refine⟨o4,o5,ws++[v],rfl,by simp[hwl2],?_,?_⟩
     ·intro x hx
      rcases mem_append.mp hx with hx | hx
      ·exact hws x hx
      ·cases mem_singleton.mp hx
       exact⟨v1,v8⟩
     ·rw[map_append]
      exact h3.puti 0 rfl _
    refine⟨_,rfl,_,rfl,_,_,rfl,rfl,d,_,_,_,rfl,rfl,SqL.of g3,a5,_,_,rfl,rfl,(show(0:Int)<2 by decide),_,_,rfl,rfl,?_⟩
    dsimp only[List.set]
    refine⟨_,rfl,_,rfl,_,_,rfl,rfl,d,_,_,_,rfl,rfl,SqL.of g3,a5,_,_,rfl,rfl,⟨by decide,by decide⟩,_,_,rfl,rfl,(show(0:Int)<4 by decide),rfl,_,rfl,?_⟩
    refine if2 (fun _=>?_) (fun _=>?_)
    ·refine⟨_,rfl,_,rfl,_,_,rfl,rfl,d,_,_,_,rfl,rfl,SqL.of g3,a5,_,_,rfl,rfl,⟨by decide,by decide⟩,_,_,rfl,rfl,(show(0:Int)<8 by decide),_,_,rfl,rfl,?_⟩
     exact⟨_,rfl,.inl ⟨rfl,_,SqL.of (h3.get 0 rfl)⟩,_,rfl,wl,_,_,rfl,rfl,h3.get 0 rfl,sizeOk (by rw[length_map]; omega),fin (1+x5 / 8 % 8) _ _ (by omega) (by omega)⟩
    ·exact⟨_,rfl,.inl ⟨rfl,_,SqL.of (h3.get 0 rfl)⟩,_,rfl,wl,_,_,rfl,rfl,h3.get 0 rfl,sizeOk (by rw[length_map]; omega),fin (1+x5 % 2) _ _ (by omega) (by omega)⟩
   ·clear h3
    rintro σ H3 hP
    rw[Int.toNat_natCast] at hP
    obtain⟨o4,o5,ws,rfl,hwl2,hws,h3⟩:=hP
    refine⟨_,rfl,_,rfl,_,rfl,_,rfl,D,_,rfl,.inl (SqL.of (h3.get 1 rfl)),_,rfl,wl,_,rfl,.inl (SqL.of (h3.get 0 rfl)),d,ds,ms.length,ws.length,_,(by rw[length_map,length_map]; rfl),h3,mem_cons_of_mem _ (mem_cons_of_mem _ md),hds,fun H4 pl ss N k1 k2 k3 kL k4 k5 h4=>?_⟩
    refine⟨(sz_ 3),fun tp htp=>?_⟩
    exact q _ tp D wl pl ms ws ss N hms hws (by omega) (by omega) k1 k2 k3 kL k4 k5 (h4.alloc htp _)
end
end P
set_option Elab.async false
set_option linter.all false
set_option maxRecDepth 100000
set_option maxHeartbeats 4000000
namespace P
open PySem L2
structure RowAt (ss:Ss) (p:Int×Int) (z:Addr×List (Addr×Rw)) (a:Addr) (x:Rw):Prop where
 k:0<=p.1
 n:0<=p.2
 hz:ss[p.1.toNat]?=some z
 hx:z.2[p.2.toNat]?=some (a,x)
def InP (ss:Ss) (p:Int×Int):Prop:=∃ z a x,RowAt ss p z a x
inductive Rch (ss:Ss):Int×Int->Prop
 | base:Rch ss (0,0)
 | step {p q:Int×Int}{z:Addr×List (Addr×Rw)}{a:Addr}{x:Rw}:Rch ss p->RowAt ss p z a x->q ∈ x.onw p.1 p.2->Rch ss q
theorem InP.mk {ss:Ss}{k n:Nat}{z:Addr×List (Addr×Rw)} (hz:ss[k]?=some z) (hn:n<z.2.length):InP ss (k,n) :=
 ⟨z,(z.2[n]).1,(z.2[n]).2,⟨Int.natCast_nonneg _,Int.natCast_nonneg _,by rw[Int.toNat_natCast]; exact hz,by rw[Int.toNat_natCast,getElem?_eq_getElem hn]⟩⟩
theorem InP.mkI {ss:Ss}{k n:Int}{z:Addr×List (Addr×Rw)} (hk:0<=k) (hz:ss[k.toNat]?=some z) (hn0:0<=n) (hn:n<z.2.length):InP ss (k,n):=by
 have:=InP.mk (n:=n.toNat) hz (by omega)
 rwa [Int.toNat_of_nonneg hk,Int.toNat_of_nonneg hn0] at this
theorem zero_in {nm nc:Nat}{ss:Ss} (g:Good nm nc ss) {k:Int} (h0:0<=k) (h1:k<ss.length):InP ss (k,0):=by
 have hl:k.toNat<ss.length:=by omega
 obtain⟨_,a,y,e,_⟩:=g k.toNat _ (getElem?_eq_getElem hl)
 refine InP.mkI h0 (getElem?_eq_getElem hl) (Int.le_refl _) ?_
 have:0<(ss[k.toNat]).2.length:=List.length_pos_iff.mpr fun e2=>by rw[e2] at e; cases e
 omega
theorem behind_in {nm nc:Nat}{ss:Ss} (g:Good nm nc ss) {p:Int×Int}{z:Addr×List (Addr×Rw)}{a:Addr}{x:Rw} (r:RowAt ss p z a x) (nl:x.last=false):InP ss (p.1,p.2+1):=by
 obtain⟨hk,hn,hz,hx⟩:=r
 obtain⟨_,a',y,e,yl⟩:=g _ _ hz
 obtain⟨hl,_⟩:=List.getElem?_eq_some_iff.mp hx
 refine InP.mkI hk hz (by omega) ?_
 apply Classical.byContradiction
 intro c
 have e1:p.2.toNat=z.2.length - 1:=by omega
 rw[List.getLast?_eq_getElem?,<- e1,hx] at e
 cases e
 rw[nl] at yl
 cases yl
theorem on_in {nm nc:Nat}{ss:Ss} (g:Good nm nc ss) {p q:Int×Int}{z:Addr×List (Addr×Rw)}{a:Addr}{x:Rw} (r:RowAt ss p z a x) (hq:q ∈ x.onw p.1 p.2):InP ss q:=by
 have ok:=(g _ _ r.hz).1 (a,x) (mem_of_getElem? r.hx)
 cases x with
 | ask m c d=>
  obtain⟨_,_,h1,h2,h3,h4⟩:=(show _/\_ from ok)
  rcases mem_cons.mp hq with rfl | hq
  ·exact InP.mkI r.k r.hz h1 h2
  ·cases mem_singleton.mp hq
   exact InP.mkI r.k r.hz h3 h4
 | bump m c=>
  obtain⟨_,_,h1,h2⟩:=(show _/\_ from ok)
  rcases mem_cons.mp hq with rfl | hq
  ·exact behind_in g r rfl
  ·cases mem_singleton.mp hq
   exact InP.mkI r.k r.hz h1 h2
 | go c=>
  obtain⟨h1,h2⟩:=(show _/\_ from ok)
  cases mem_singleton.mp hq
  exact InP.mkI r.k r.hz h1 h2
 | call c=>
  obtain⟨h1,h2⟩:=(show _/\_ from ok)
  rcases mem_cons.mp hq with rfl | hq
  ·exact zero_in g (by omega) h2
  ·cases mem_singleton.mp hq
   exact behind_in g r rfl
 | fin=>cases hq
 | bell c=>
  cases mem_singleton.mp hq
  exact behind_in g r rfl
 | set c d=>
  cases mem_singleton.mp hq
  exact behind_in g r rfl
theorem Rch.inP {nm nc:Nat}{ss:Ss} (g:Good nm nc ss) (hne:ss≠[]) {p:Int×Int} (h:Rch ss p):InP ss p:=by
 cases h with
 | base=>exact zero_in g (Int.le_refl _) (by have:=List.length_pos_iff.mpr hne; omega)
 | step h r hq=>exact on_in g r hq
theorem inP_lt {ss:Ss} (lm:LimR ss) (h40:ss.length<=40) {p:Int×Int} (h:InP ss p):(0<=p.1/\p.1<40)/\(0<=p.2/\p.2<120):=by
 obtain⟨M,h1,h2⟩:=lm
 obtain⟨z,a,x,⟨hk,hn,hz,hx⟩⟩:=h
 obtain⟨l1,_⟩:=List.getElem?_eq_some_iff.mp hz
 obtain⟨l2,_⟩:=List.getElem?_eq_some_iff.mp hx
 have:=h2 z (mem_of_getElem? hz)
 have m1:1*M<=ss.length*M:=Nat.mul_le_mul_right _ (by omega)
 omega
theorem count {ss:Ss} (lm:LimR ss) {ps:List (Int×Int)} (nd:ps.Nodup) (hi:∀ p ∈ ps,InP ss p):ps.length<=120:=by
 obtain⟨M,h1,h2⟩:=lm
 have key:∀ p ∈ ps,∃ k n:Nat,p=((k:Int),(n:Int))/\k<ss.length/\n<M:=fun p hp=>by
  obtain⟨z,a,x,⟨hk,hn,hz,hx⟩⟩:=hi p hp
  obtain⟨l1,_⟩:=List.getElem?_eq_some_iff.mp hz
  obtain⟨l2,_⟩:=List.getElem?_eq_some_iff.mp hx
  have:=h2 z (mem_of_getElem? hz)
  exact⟨p.1.toNat,p.2.toNat,by rw[Int.toNat_of_nonneg hk,Int.toNat_of_nonneg hn],l1,by omega⟩
 have nd2:(ps.map fun p=>p.1.toNat*M+p.2.toNat).Nodup:=by
  unfold List.Nodup at nd ⊢
  rw[List.pairwise_map]
  refine List.Pairwise.imp_of_mem ?_ nd
  intro p q hp hq hne e
  obtain⟨k,n,rfl,k1,n1⟩:=key p hp
  obtain⟨k',n',rfl,k2,n2⟩:=key q hq
  simp only[Int.toNat_natCast] at e
  apply hne
  have ek:k=k':=by
   have a1:=congrArg (· / M) e
   simp only[Nat.mul_comm _ M] at a1
   rw[Nat.mul_add_div (by omega),Nat.mul_add_div (by omega),Nat.div_eq_of_lt n1,Nat.div_eq_of_lt n2] at a1
   omega
  subst ek
  have:n=n':=by omega
  rw[this]
 have sub:∀ x ∈ ps.map (fun p=>p.1.toNat*M+p.2.toNat),x<120:=fun x hx=>by
  obtain⟨p,hp,rfl⟩:=mem_map.mp hx
  obtain⟨k,n,rfl,k1,n1⟩:=key p hp
  simp only[Int.toNat_natCast]
  have:(k+1)*M<=ss.length*M:=Nat.mul_le_mul_right _ k1
  rw[Nat.add_mul,Nat.one_mul] at this
  omega
 have:=List.Nodup.length_le_of_subset (l₂:=List.range 120) nd2 fun x hx=>mem_range.mpr (sub x hx)
 rwa [length_map,List.length_range] at this
end P
set_option linter.all false
set_option maxRecDepth 100000
namespace L2
open PySem PySem.Spec PyProof.Rows
def hE (n e:Nat):Int:=reduceHash (Builtin.Tuple.tupleHashOf [hashInt n,hashInt e])
def hN (i:Nat):Nat:=(hE (i / 3) (i % 3)+9223372036854775808).toNat
def mrg:Nat->List Nat->List Nat->List Nat
 | 0,a,b=>a++b
 | n+1,[],b=>b
 | n+1,a,[]=>a
 | n+1,x::xs,y::ys=>if Nat.ble x y=true then x::mrg n xs (y::ys) else y::mrg n (x::xs) ys
def splt:List Nat->List Nat×List Nat
 | []=>([],[])
 | [x]=>([x],[])
 | x::y::r=>(x::(splt r).1,y::(splt r).2)
def ms:Nat->List Nat->List Nat
 | 0,l=>l
 | n+1,l=>mrg l.length (ms n (splt l).1) (ms n (splt l).2)
def strict:List Nat->Bool
 | []=>true
 | [_]=>true
 | x::y::r=>Nat.blt x y && strict (y::r)
theorem mrg_perm:∀ (n:Nat) (a b:List Nat),(mrg n a b).Perm (a++b)
 | 0,a,b=>.refl _
 | n+1,[],b=>.refl _
 | n+1,x::xs,[]=>by rw[append_nil]; exact .refl _
 | n+1,x::xs,y::ys=>by
  unfold mrg
  split
  ·exact .cons _ (mrg_perm n xs (y::ys))
  ·exact(List.Perm.cons _ (mrg_perm n (x::xs) ys)).trans (List.perm_middle (l₁:=x::xs)).symm
theorem splt_perm:∀ l:List Nat,((splt l).1++(splt l).2).Perm l
 | []=>.refl _
 | [x]=>.refl _
 | x::y::r=>by
  show(x::((splt r).1++y::(splt r).2)).Perm _
  exact .cons _ (List.perm_middle.trans (.cons _ (splt_perm r)))
theorem ms_perm:∀ (n:Nat) (l:List Nat),(ms n l).Perm l
 | 0,l=>.refl _
 | n+1,l=>(mrg_perm _ _ _).trans (((ms_perm n _).append (ms_perm n _)).trans (splt_perm l))
theorem strict_lt:∀ {l:List Nat},strict l=true->l.Pairwise (· < ·)
 | [],_=>.nil
 | [x],_=>.cons (fun _ h=>nomatch h) .nil
 | x::y::r,h=>by
  have h1:Nat.blt x y=true/\strict (y::r)=true:=by simpa [strict] using h
  have ih:=strict_lt h1.2
  have xy1:x+1<=y:=by simpa [Nat.blt] using h1.1
  have xy:x<y:=xy1
  refine .cons (fun z hz=>?_) ih
  rcases mem_cons.mp hz with rfl | hz
  ·exact xy
  ·exact Nat.lt_trans xy ((List.pairwise_cons.mp ih).1 z hz)
end L2
set_option linter.all false
set_option maxRecDepth 100000
namespace L2
open PySem PySem.Spec PyProof.Rows
def hN2 (i:Nat):Nat:=(hE (i / 120) (i % 120)+9223372036854775808).toNat
theorem hN2_strict:strict (ms 13 ((List.range 4800).map hN2))=true:=by decide +kernel
theorem hN2_nodup:((List.range 4800).map hN2).Nodup :=
 (ms_perm 13 _).nodup_iff.mp ((strict_lt hN2_strict).imp (fun h=>Nat.ne_of_lt h))
theorem nodup_ix2 {l:List Nat} (h:l.Nodup) {i j:Nat}{x:Nat} (hi:l[i]?=some x) (hj:l[j]?=some x):i=j:=by
 obtain⟨li,ei⟩:=List.getElem?_eq_some_iff.mp hi
 obtain⟨lj,ej⟩:=List.getElem?_eq_some_iff.mp hj
 rcases Nat.lt_trichotomy i j with c | c | c
 ·exact absurd (ei.trans ej.symm) (List.pairwise_iff_getElem.mp h i j li lj c)
 ·exact c
 ·exact absurd (ej.trans ei.symm) (List.pairwise_iff_getElem.mp h j i lj li c)
theorem hN2_get (n e:Nat) (hn:n<40) (he:e<120):((List.range 4800).map hN2)[120*n+e]?=some (hE n e+9223372036854775808).toNat:=by
 rw[getElem?_map,List.getElem?_range (by omega),Option.map_some]
 unfold hN2
 rw[show(120*n+e) / 120=n by omega,show(120*n+e) % 120=e by omega]
theorem pair_inj {P:Program}{w:World}{i j i' j':Int} (h1:0<=i/\i<40) (h2:0<=j/\j<120) (h3:0<=i'/\i'<40) (h4:0<=j'/\j'<120) (e:hashT P w (St.kp i j)=hashT P w (St.kp i' j')):(i,j)=(i',j'):=by
 obtain⟨a,rfl⟩:=Int.eq_ofNat_of_zero_le h1.1
 obtain⟨b,rfl⟩:=Int.eq_ofNat_of_zero_le h2.1
 obtain⟨c,rfl⟩:=Int.eq_ofNat_of_zero_le h3.1
 obtain⟨d,rfl⟩:=Int.eq_ofNat_of_zero_le h4.1
 have e':hE a b=hE c d:=e
 have g1:=hN2_get a b (by omega) (by omega)
 have g2:=hN2_get c d (by omega) (by omega)
 rw[<- e'] at g2
 have ix:=nodup_ix2 hN2_nodup g1 g2
 have:a=c/\b=d:=by omega
 rw[this.1,this.2]
end L2
set_option Elab.async false
set_option linter.all false
set_option maxRecDepth 100000
set_option maxHeartbeats 4000000
namespace P
open PySem L2
structure Iv (ss:Ss) (ps ws:List Pr):Prop where
 nd:(ps.map (·.2)).Nodup
 rp:∀ z ∈ ps,Rch ss z.2
 rw:∀ z ∈ ws,Rch ss z.2
 cl:∀ z ∈ ps,∀ zz a x,RowAt ss z.2 zz a x->∀ q ∈ x.onw z.2.1 z.2.2,q ∈ ps.map (·.2)∨q ∈ ws.map (·.2)
 bs:(0,0) ∈ ps.map (·.2)∨(0,0) ∈ ws.map (·.2)
 ln:ws.length<=2*ps.length+1
theorem Iv.fin {ss:Ss}{ps:List Pr} (h:Iv ss ps []):∀ p,p ∈ ps.map (·.2)↔Rch ss p:=fun p=>by
 constructor
 ·intro m
  obtain⟨z,hz,rfl⟩:=mem_map.mp m
  exact h.rp z hz
 ·intro r
  induction r with
  | base=>exact h.bs.resolve_right (by simp)
  | step _ ra hq ih=>
   obtain⟨z,hz,rfl⟩:=mem_map.mp ih
   exact(h.cl z hz _ _ _ ra _ hq).resolve_right (by simp)
theorem Iv.skip {ss:Ss}{ps ws:List Pr}{z:Pr} (h:Iv ss ps (ws++[z])) (m:z.2 ∈ ps.map (·.2)):Iv ss ps ws:=by
 have key:∀ q,q ∈ ps.map (·.2)∨q ∈ (ws++[z]).map (·.2)->q ∈ ps.map (·.2)∨q ∈ ws.map (·.2):=fun q hq=>by
  rcases hq with hq | hq
  ·exact .inl hq
  ·rw[map_append] at hq
   rcases mem_append.mp hq with hq | hq
   ·exact .inr hq
   ·cases mem_singleton.mp hq
    exact .inl m
 exact⟨h.nd,h.rp,fun y hy=>h.rw y (mem_append_left _ hy),fun y hy zz a x ra q hq=>key q (h.cl y hy zz a x ra q hq),key _ h.bs,by have:=h.ln; rw[length_append] at this; omega⟩
theorem RowAt.uniq {ss:Ss}{p:Int×Int}{z z':Addr×List (Addr×Rw)}{a a':Addr}{x x':Rw} (h:RowAt ss p z a x) (h':RowAt ss p z' a' x'):x=x':=by
 have e:=h.hz.symm.trans h'.hz
 cases e
 have e:=h.hx.symm.trans h'.hx
 cases e
 rfl
theorem onw_len (k n:Int):∀ x:Rw,(x.onw k n).length<=2
 | .call _=>Nat.le_refl 2
 | .ask _ _ _=>Nat.le_refl 2
 | .bump _ _=>Nat.le_refl 2
 | .go _=>by show 1<=2; decide
 | .fin=>by show 0<=2; decide
 | .bell _=>by show 1<=2; decide
 | .set _ _=>by show 1<=2; decide
theorem Iv.step {ss:Ss}{ps ws ns:List Pr}{z:Pr}{b:Addr}{zz:Addr×List (Addr×Rw)}{a:Addr}{x:Rw} (h:Iv ss ps (ws++[z])) (m:z.2 ∉ ps.map (·.2)) (ra:RowAt ss z.2 zz a x) (hn:ns.map (·.2)=x.onw z.2.1 z.2.2):Iv ss (ps++[(b,z.2)]) (ws++ns):=by
 have rz:=h.rw z (by simp)
 have key:∀ q,q ∈ ps.map (·.2)∨q ∈ (ws++[z]).map (·.2)->q ∈ (ps++[(b,z.2)]).map (·.2)∨q ∈ (ws++ns).map (·.2):=fun q hq=>by
  rw[map_append,map_append,mem_append,mem_append]
  rcases hq with hq | hq
  ·exact .inl (.inl hq)
  ·rw[map_append] at hq
   rcases mem_append.mp hq with hq | hq
   ·exact .inr (.inl hq)
   ·exact .inl (.inr hq)
 refine⟨?_,fun y hy=>?_,fun y hy=>?_,fun y hy zz' a' x' ra' q hq=>?_,key _ h.bs,?_⟩
 ·rw[map_append,List.nodup_append]
  refine⟨h.nd,by simp,fun p hp q hq e=>?_⟩
  cases mem_singleton.mp hq
  have e':p=z.2:=e
  rw[e'] at hp
  exact m hp
 ·rcases mem_append.mp hy with hy | hy
  ·exact h.rp y hy
  ·cases mem_singleton.mp hy
   exact rz
 ·rcases mem_append.mp hy with hy | hy
  ·exact h.rw y (mem_append_left _ hy)
  ·exact .step rz ra (by rw[<- hn]; exact mem_map.mpr ⟨y,hy,rfl⟩)
 ·rcases mem_append.mp hy with hy | hy
  ·exact key q (h.cl y hy zz' a' x' ra' q hq)
  ·cases mem_singleton.mp hy
   have e:=ra.uniq ra'
   subst e
   refine .inr ?_
   rw[map_append,hn]
   exact mem_append_right _ hq
 ·have l1:=h.ln
  have l2:=congrArg List.length hn
  have l3:=onw_len z.2.1 z.2.2 x
  rw[length_map] at l2
  rw[length_append,length_singleton] at l1
  rw[length_append,length_append,length_singleton]
  omega
theorem pc {α:Type} (X Y R:List α):(X++(Y++R)).Perm (Y++(X++R)):=by
 rw[<- append_assoc,<- append_assoc]
 exact List.perm_append_comm.append_right R
def sp_Jw (C:Addr):Sp:=fun vs H Q _=>∃ (A:PA) (ms ws:List Int) (ss:Ss) (L:Kn),vs=[.ref A.p]/\Has H L/\PIn C A ms ws ss L/\Good ms.length ws.length ss/\LimR ss/\ss≠[]/\ss.length<=40 /\
 ∀ H' l qs,qs.Pairwise PrLt->(∀ p,p ∈ qs.map (·.2)↔Rch ss p)->Has H' ((l,.lst (prV qs))::(PrK qs++L))->Q (.ref l) H'
section
variable {P:Program}{w:World}{K:PySem.W.Frag}{mg:Str->Option Value}{base:Heap}{t:Adr}
theorem scRe:FnScope ["program","seen","waiting","stretch","number"] ["program"] (defScope s_Jw):=⟨rfl,rfl,rfl,by decide +kernel,rfl,by decide +kernel,by decide +kernel⟩
theorem ok_Jw (T:Txt K mg t):FnOk P w K mg base CX0 2 t.f_Jw t.d_Jw ["program"] (sp_Jw t.c_Program):=by
 refine T.F_Jw.ok scRe (fun vs H Q E h=>?_) (fun cdv A outer s H vs Q E hr h=>?_)
 ·obtain⟨_,_,_,_,_,rfl,_⟩:=h
  rfl
 ·obtain⟨A,ms,wi,ss,L,rfl,hH,pin,gd,lm,hne,h40,q⟩:=h
  refine⟨_,(pss_cons (ps_set (i:=1) scRe.nd rfl (Or.inl rfl) (pe_callTy0 call_setS (by rfl) T.z_set (by rfl)))
   (pss_cons (ps_set (i:=2) scRe.nd rfl (Or.inl rfl) (pe_lst (@pa_cons _ _ _ _ _ (pe_tup (pa_cons pe_int (pa_cons pe_int pa_nil))) pa_nil (by rfl))))
   (pss_cons (ps_while PassesOwn.never (pt_truth (pv 2) (by intro _; rfl))
    (pss_cons (ps_asg (pe_bm0 PySem.F.plainAttrs_list PySem.F.slot_list_pop PySem.F.type_list_pop mt_pop (pv 2)) (pg_tup rfl (pgs_cons (pg_name (i:=3) scRe.nd rfl (Or.inl rfl)) (pgs_cons (pg_name (i:=4) scRe.nd rfl (Or.inl rfl)) pgs_nil))))
     (pss_one (ps_if (pt_cmpR (op_notInS (Nat.lt_of_le_of_lt (Nat.add_le_add_left (by decide) _) hr.units)) (pe_tup (pa_cons (pv 3) (pa_cons (pv 4) pa_nil))) (pv 1) (by rfl))
      (pss_cons (ps_expr (pe_bmS PySem.F.slot_set_add PySem.F.type_set_add (mt_addS (Nat.lt_of_le_of_lt (Nat.add_le_add_left (by decide) _) hr.units)) (pv 1) (@pa_cons _ _ _ _ _ (pe_tup (pa_cons (pv 3) (pa_cons (pv 4) pa_nil))) pa_nil (by rfl))))
       (pss_one (ps_expr (pe_bm PySem.F.plainAttrs_list PySem.F.slot_list_extend PySem.F.type_list_extend mt_extend (pv 2) (pa_cons (pe_call (ok_Jz T) (hr.mono (by decide)) (by rfl) T.m_Jz T.F_Jz.kp (b_Jz T) .nil pass0 (pa_cons (pe_meth (pv 0) T.cl_Program T.M_J7 (ok_J7 T) (hr.mono (by decide)) (b_J7 T) .nil pass0 (pa_cons (pv 3) (pa_cons (pv 4) pa_nil))) (pa_cons (pv 3) (pa_cons (pv 4) pa_nil)))) pa_nil)))))
      pss_nil))))
   (pss_one (ps_ret (pe_callB (call_sortedS rfl) (by rfl) T.z_sorted (by rfl) (pa_cons (pv 1) pa_nil))))))),?_⟩
  rw[show L2.start ["program","seen","waiting","stretch","number"] [V.ref A.p]=([some (V.ref A.p),none,none,none,none]:St) from rfl]
  refine⟨rfl,fun S hS=>?_⟩
  have h1:=hH.alloc hS (.ext (SetP P w S []))
  dsimp only[List.set] at h1 ⊢
  refine⟨(sz_ 2),fun p0 hp0=>?_⟩
  have h2:=h1.alloc hp0 (.tup [.int 0,.int 0])
  refine⟨(sz_ 1),fun W hW=>?_⟩
  have h3:=h2.alloc hW (.lst [.ref p0])
  dsimp only[List.set] at h3 ⊢
  refine⟨fun m σ H'=>∃ (o3 o4:Option V) (ps ws:List Pr),m=3*(121 - ps.length)+ws.length/\σ=[some (.ref A.p),some (.ref S),some (.ref W),o3,o4]/\Iv ss ps ws/\Has H' ((S,.ext (SetP P w S ps))::(W,.lst (prV ws))::(PrK ps++(PrK ws++L))),⟨_,none,none,[],[(p0,0,0)],rfl,rfl,⟨List.nodup_nil,by simp,?_,by simp,.inr (by simp),Nat.le_refl 1⟩,?_⟩,?_⟩
  ·intro z hz
   cases mem_singleton.mp hz
   exact .base
  ·exact h3.perm ((List.Perm.cons _ (.swap _ _ _)).trans (.swap _ _ _))
  rintro m σ H' ⟨o3,o4,ps,ws,em,rfl,iv,h4⟩
  have mk:∀ {ps:List Pr}{z:Pr},z ∈ ps->(z.1,HO.tup [V.int z.2.1,V.int z.2.2]) ∈ PrK ps:=fun hz=>mem_map.mpr ⟨_,hz,rfl⟩
  have lp:ps.length<=120:=by
   have:=count lm iv.nd fun p hp=>by
    obtain⟨z,hz,rfl⟩:=mem_map.mp hp
    exact(iv.rp z hz).inP gd hne
   rwa [length_map] at this
  have bd:∀ {p:Int×Int},Rch ss p->(0<=p.1/\p.1<40)/\(0<=p.2/\p.2<120):=fun r=>inP_lt lm h40 (r.inP gd hne)
  rcases List.eq_nil_or_concat ws with rfl | ⟨ws',z,rfl⟩
  ·refine⟨_,rfl,false,.inl ⟨_,SqL.of (h4.get 1 rfl),rfl⟩,iteF ?_⟩
   refine⟨_,rfl,S,ps,rfl,h4.get 0 rfl,⟨fun z hz=>SqT.of (h4.at_ _ (mem_cons_of_mem _ (mem_cons_of_mem _ (mem_append_left _ (mk hz))))),fun z hz=>?_,iv.nd,by omega⟩,fun l qs hl pm pw=>?_⟩
   ·have:=(bd (iv.rp z hz)).2
    omega
   ·have h5:=h4.alloc hl (.lst (prV qs))
    refine q _ l qs pw (fun p=>(pm.map _).mem_iff.trans (iv.fin p)) ?_
    exact(h5.sub (.cons₂ _ (.cons _ (.cons _ (List.Sublist.refl _))))).perm (.cons _ ((pm.symm.map _).append_right _))
  ·rw[List.concat_eq_append] at h4 iv em
   have e1:prV (ws'++[z])=prV ws'++[V.ref z.1]:=by unfold prV; rw[map_append]; rfl
   have e2:PrK (ws'++[z])=PrK ws'++[(z.1,HO.tup [V.int z.2.1,V.int z.2.2])]:=by unfold PrK; rw[map_append]; rfl
   rw[e1,e2] at h4
   rw[length_append,length_singleton] at em
   have rz:=iv.rw z (by simp)
   refine⟨_,rfl,true,.inl ⟨_,SqL.of (h4.get 1 rfl),by cases ws' <;> rfl⟩,iteT ⟨fun σ' H'=>∃ (o3 o4:Option V) (ps ws:List Pr),3*(121 - ps.length)+ws.length<m/\σ'=[some (.ref A.p),some (.ref S),some (.ref W),o3,o4]/\Iv ss ps ws/\Has H' ((S,.ext (SetP P w S ps))::(W,.lst (prV ws))::(PrK ps++(PrK ws++L))),fun _ _ ⟨o3,o4,ps,ws,lt,e,iv,h⟩=>⟨_,lt,o3,o4,ps,ws,rfl,e,iv,h⟩,?_⟩⟩
   refine⟨_,rfl,.inl ⟨rfl,_,SqL.of (h4.get 1 rfl)⟩,W,_,V.ref z.1,rfl,rfl,h4.get 1 rfl,by rw[length_append,length_singleton,Nat.add_sub_cancel,getElem?_append_right (Nat.le_refl _),Nat.sub_self]; rfl,?_⟩
   rw[List.dropLast_concat]
   have h5:=h4.puti 1 rfl (.lst (prV ws'))
   have h6:Has _ ((z.1,HO.tup [V.int z.2.1,V.int z.2.2])::(S,.ext (SetP P w S ps))::(W,.lst (prV ws'))::(PrK ps++(PrK ws'++L))):=h5.perm (by
    show([(S,HO.ext (SetP P w S ps)),(W,HO.lst (prV ws'))]++(PrK ps++((PrK ws'++[(z.1,HO.tup [V.int z.2.1,V.int z.2.2])])++L))).Perm _
    rw[append_assoc (PrK ws'),<- append_assoc (PrK ps),<- append_assoc]
    refine List.perm_middle.trans ?_
    rw[append_assoc,append_assoc]
    exact .refl _)
   refine⟨z.1,_,rfl,SqT.of (h6.get 0 rfl),rfl,_,_,rfl,_,_,rfl,rfl,?_⟩
   dsimp only[List.set]
   have inR:∀ {x:Addr×HO},x ∈ L->x ∈ PrK ps++(PrK ws'++L):=fun m=>mem_append_right _ (mem_append_right _ m)
   refine⟨_,rfl,_,rfl,(sz_ 2),fun b1 hb1=>?_⟩
   have h7:=h6.alloc hb1 (.tup [V.int z.2.1,V.int z.2.2])
   have ij:∀ y ∈ ps,hashT P w (St.kp y.2.1 y.2.2)=hashT P w (St.kp z.2.1 z.2.2)->y.2=(z.2.1,z.2.2):=fun y hy e=>by
    obtain⟨c1,c2⟩:=bd (iv.rp y hy)
    obtain⟨c3,c4⟩:=bd rz
    exact pair_inj c1 c2 c3 c4 e
   refine⟨_,rfl,b1,S,ps,z.2.1,z.2.2,rfl,rfl,h7.get 2 rfl,SqT.of (h7.get 0 rfl),fun y hy=>SqT.of (h7.at_ _ (mem_cons_of_mem _ (mem_cons_of_mem _ (mem_cons_of_mem _ (mem_cons_of_mem _ (mem_append_left _ (mk hy))))))),ij,_,rfl,?_⟩
   by_cases hs:z.2 ∈ ps.map (·.2)
   ·have ea:(ps.any fun y=>decide (y.2=(z.2.1,z.2.2)))=true:=by
     obtain⟨y,hy,e⟩:=mem_map.mp hs
     exact List.any_eq_true.mpr ⟨y,hy,decide_eq_true e⟩
    refine ifF (by rw[ea]; rfl) ?_
    exact⟨_,_,ps,ws',by omega,rfl,iv.skip hs,h7.tail.tail⟩
   ·have ea:(ps.any fun y=>decide (y.2=(z.2.1,z.2.2)))=false:=by
     rw[List.any_eq_false]
     intro y hy e
     exact hs (mem_map.mpr ⟨y,hy,of_decide_eq_true e⟩)
    refine ifT (by rw[ea]; rfl) ?_
    refine⟨_,rfl,⟨S,ps,rfl,h7.get 2 rfl⟩,_,rfl,_,rfl,(sz_ 2),fun b2 hb2=>?_⟩
    have h8:=h7.alloc hb2 (.tup [V.int z.2.1,V.int z.2.2])
    refine⟨S,b2,ps,z.2.1,z.2.2,rfl,rfl,h8.get 3 rfl,SqT.of (h8.get 0 rfl),fun y hy=>SqT.of (h8.at_ _ (mem_cons_of_mem _ (mem_cons_of_mem _ (mem_cons_of_mem _ (mem_cons_of_mem _ (mem_cons_of_mem _ (mem_append_left _ (mk hy)))))))),fun y hy e=>hs (mem_map.mpr ⟨y,hy,ij y hy e⟩),by omega,?_⟩
    have h9:=h8.puti 3 rfl (.ext (SetP P w S (ps++[(b2,z.2.1,z.2.2)])))
    dsimp only[List.set] at h9
    obtain⟨zz,a,x,ra⟩:=rz.inP gd hne
    have inL:∀ {y:Addr×HO},y ∈ L->y ∈ (b2,HO.tup [V.int z.2.1,V.int z.2.2])::(b1,HO.tup [V.int z.2.1,V.int z.2.2])::(z.1,HO.tup [V.int z.2.1,V.int z.2.2])::(S,HO.ext (SetP P w S (ps++[(b2,z.2.1,z.2.2)])))::(W,HO.lst (prV ws'))::(PrK ps++(PrK ws'++L)):=fun m=>mem_cons_of_mem _ (mem_cons_of_mem _ (mem_cons_of_mem _ (mem_cons_of_mem _ (mem_cons_of_mem _ (inR m)))))
    obtain⟨kk,ekk⟩:=Int.eq_ofNat_of_zero_le ra.k
    obtain⟨nn,enn⟩:=Int.eq_ofNat_of_zero_le ra.n
    have hz:=ra.hz
    have hx:=ra.hx
    rw[ekk,Int.toNat_natCast] at hz
    rw[enn,Int.toNat_natCast] at hx
    have mz:=mem_of_getElem? hz
    refine⟨_,rfl,.inl ⟨rfl,_,SqL.of (h9.get 4 rfl)⟩,_,rfl,A.p,A.dx,_,rfl,h9.at_ _ (inL pin.p),by kernel_rfl,_,rfl,_,rfl,?_⟩
    refine⟨A,_,kk,zz.1,_,nn,_,by rw[ekk,enn]; rfl,h9.at_ _ (inL pin.p),h9.at_ _ (inL pin.s),ssV_get hz,h9.at_ _ (inL (pin.l _ mz)),rwV_get hx,?_⟩
    refine⟨_,rfl,_,rfl,a,x,z.2.1,z.2.2,_,rfl,h9,inL (pin.r _ mz _ (mem_of_getElem? hx)),fun H3 l ns en h10=>?_⟩
    have ln:ns.length<=2:=by
     have:=congrArg List.length en
     rw[length_map] at this
     rw[this]
     exact onw_len _ _ _
    have h11:=Has.comm (X:=PrK ns) (Y:=[(b2,HO.tup [V.int z.2.1,V.int z.2.2]),(b1,HO.tup [V.int z.2.1,V.int z.2.2]),(z.1,HO.tup [V.int z.2.1,V.int z.2.2]),(S,HO.ext (SetP P w S (ps++[(b2,z.2.1,z.2.2)]))),(W,HO.lst (prV ws'))]) h10.tail
    have lw:ws'.length<=100000:=by have:=iv.ln; rw[length_append] at this; omega
    refine⟨W,l,_,_,rfl,rfl,h11.get 4 rfl,h10.get 0 rfl,Nat.le_of_lt (sizeOk (by unfold prV; rw[length_map,length_map]; omega)),?_⟩
    have h12:=h11.puti 4 rfl (.lst (prV ws'++prV ns))
    refine⟨_,_,ps++[(b2,z.2)],ws'++ns,by rw[length_append,length_append,length_singleton]; omega,rfl,iv.step hs ra en,?_⟩
    have h13:=h12.sub (.cons₂ _ (.cons _ (.cons _ (List.Sublist.refl _))))
    have e3:prV (ws'++ns)=prV ws'++prV ns:=by unfold prV; rw[map_append]
    have e4:PrK (ws'++ns)=PrK ws'++PrK ns:=by unfold PrK; rw[map_append]
    have e5:PrK (ps++[(b2,z.2)])=PrK ps++[(b2,HO.tup [V.int z.2.1,V.int z.2.2])]:=by unfold PrK; rw[map_append]; rfl
    rw[e3,e4,e5]
    refine h13.perm ?_
    refine(List.perm_middle (l₁:=[(S,HO.ext (SetP P w S (ps++[(b2,z.2.1,z.2.2)]))),(W,HO.lst (prV ws'++prV ns))]) (a:=(b2,HO.tup [V.int z.2.1,V.int z.2.2]))).symm.trans ?_
    refine .cons _ (.cons _ ?_)
    rw[append_assoc,append_assoc]
    refine List.Perm.trans ?_ (List.perm_middle (l₁:=PrK ps) (a:=(b2,HO.tup [V.int z.2.1,V.int z.2.2]))).symm
    refine .cons _ ((pc (PrK ns) (PrK ps) _).trans ((pc (PrK ns) (PrK ws') L).append_left _))
end
end P
set_option Elab.async false
set_option linter.all false
set_option maxRecDepth 100000
set_option maxHeartbeats 4000000
namespace P
open PySem L2
def pD (p:Int×Int):PyData:=.tuple [.int p.1,.int p.2]
def psD (ps:List Pr):List PyData:=ps.map fun z=>pD z.2
theorem pD_sh (p:Int×Int):SeqAt.shaped (pD p)=true:=shaped_of (by unfold pD; simp[PyData.canLay0,PyData.canLayAll0]) (by unfold pD; simp[PyData.depth,PyData.depthAll])
theorem psD_sh (ps:List Pr):SeqAt.shaped (.list (psD ps))=true:=by
 refine shaped_of ?_ ?_
 ·unfold psD; rw[PyData.canLay0]; exact canLayAll_map _ _ fun x _=>by unfold pD; simp[PyData.canLay0,PyData.canLayAll0]
 ·unfold psD; rw[PyData.depth]
  have:=depthAll_map (fun z:Pr=>pD z.2) 1 ps fun x _=>by unfold pD; simp[PyData.depth,PyData.depthAll]
  omega
theorem eqv_pD (p q:Int×Int):PyData.eqv (pD p) (pD q)=decide (p=q):=by
 obtain⟨a,b⟩:=p
 obtain⟨c,d⟩:=q
 unfold pD
 rw[PyData.eqv,PyData.eqvAll,PyData.eqvAll,PyData.eqvAll]
 by_cases h1:a=c <;> by_cases h2:b=d <;> simp[PyData.eqv,h1,h2]
theorem pD_dv {K:PySem.W.Frag}{H:Hp}{z:Pr} (h:SqT K H z.1 [.int z.2.1,.int z.2.2]):DV K H (pD z.2) (.ref z.1):=by
 unfold pD
 exact⟨z.1,_,rfl,h,_,_,rfl,rfl,_,_,rfl,rfl,rfl⟩
theorem psD_dvs {K:PySem.W.Frag}{H:Hp}:∀ {ps:List Pr},(∀ z ∈ ps,SqT K H z.1 [.int z.2.1,.int z.2.2])->DVs K H (psD ps) (prV ps)
 | [],_=>rfl
 | z::ps,h=>⟨.ref z.1,prV ps,rfl,pD_dv (h z mem_cons_self),psD_dvs fun y hy=>h y (mem_cons_of_mem _ hy)⟩
theorem psD_any (ps:List Pr) (p:Int×Int):((psD ps).any fun y=>PyData.eqv y (pD p))=ps.any fun z=>decide (z.2=p):=by
 unfold psD
 rw[List.any_map]
 congr 1
 funext z
 exact eqv_pD _ _
theorem tr2 {ss ss':Ss} (e:ss'.map (·.2)=ss.map (·.2)):ss'.map (fun z=>z.2.map (·.2))=ss.map (fun z=>z.2.map (·.2)):=by
 rw[show(ss'.map fun z=>z.2.map (·.2))=(ss'.map (·.2)).map (List.map (·.2)) by rw[map_map]; rfl,e,map_map]
 rfl
theorem rise_eq {α:Type} (g:α->Int):∀ {a b:List α},a.Pairwise (fun x y=>g x<g y)->b.Pairwise (fun x y=>g x<g y)->(∀ x,x ∈ a↔x ∈ b)->a=b
 | [],[],_,_,_=>rfl
 | [],y::b,_,_,h=>absurd ((h y).mpr mem_cons_self) (by simp)
 | x::a,[],_,_,h=>absurd ((h x).mp mem_cons_self) (by simp)
 | x::a,y::b,ha,hb,h=>by
  obtain⟨h1,h2⟩:=List.pairwise_cons.mp ha
  obtain⟨h3,h4⟩:=List.pairwise_cons.mp hb
  have e:x=y:=by
   rcases mem_cons.mp ((h x).mp mem_cons_self) with e | m
   ·exact e
   ·rcases mem_cons.mp ((h y).mpr mem_cons_self) with e | m2
    ·exact e.symm
    ·have:=h1 y m2
     have:=h3 x m
     omega
  subst e
  rw[rise_eq g h2 h4 fun z=>⟨fun m=>?_,fun m=>?_⟩]
  ·rcases mem_cons.mp ((h z).mp (mem_cons_of_mem _ m)) with e | m2
   ·subst e; have:=h1 z m; omega
   ·exact m2
  ·rcases mem_cons.mp ((h z).mpr (mem_cons_of_mem _ m)) with e | m2
   ·subst e; have:=h3 z m; omega
   ·exact m2
abbrev RS:=List (List Rw)
def ssR (ss:Ss):RS:=ss.map fun z=>z.2.map (·.2)
def AtR (rr:RS) (p:Int×Int) (x:Rw):Prop:=0<=p.1/\0<=p.2/\∃ r,rr[p.1.toNat]?=some r/\r[p.2.toNat]?=some x
inductive RchR (rr:RS):Int×Int->Prop
 | base:RchR rr (0,0)
 | step {p q:Int×Int}{x:Rw}:RchR rr p->AtR rr p x->q ∈ x.onw p.1 p.2->RchR rr q
def GoodR (nm nc:Nat) (rr:RS):Prop:=∀ (k:Nat) r,rr[k]?=some r->(∀ x ∈ r,x.ok nm nc r.length k rr.length)/\∃ y,r.getLast?=some y/\y.last=true
def LimRR (rr:RS):Prop:=∃ M:Nat,rr.length*M<=120/\∀ r ∈ rr,r.length<=M
theorem ssR_len (ss:Ss):(ssR ss).length=ss.length:=by unfold ssR; rw[length_map]
theorem ssR_get {ss:Ss}{k:Nat}{z:Addr×List (Addr×Rw)} (h:ss[k]?=some z):(ssR ss)[k]?=some (z.2.map (·.2)):=by unfold ssR; rw[getElem?_map,h]; rfl
theorem ssR_inv {ss:Ss}{k:Nat}{r:List Rw} (h:(ssR ss)[k]?=some r):∃ z,ss[k]?=some z/\z.2.map (·.2)=r:=by
 unfold ssR at h
 rw[getElem?_map] at h
 exact Option.map_eq_some_iff.mp h
theorem RowAt.r {ss:Ss}{p:Int×Int}{z:Addr×List (Addr×Rw)}{a:Addr}{x:Rw} (h:RowAt ss p z a x):AtR (ssR ss) p x:=⟨h.k,h.n,_,ssR_get h.hz,by rw[getElem?_map,h.hx]; rfl⟩
theorem AtR.row {ss:Ss}{p:Int×Int}{x:Rw} (h:AtR (ssR ss) p x):∃ z a,RowAt ss p z a x:=by
 obtain⟨k,n,r,hr,hx⟩:=h
 obtain⟨z,hz,rfl⟩:=ssR_inv hr
 rw[getElem?_map] at hx
 obtain⟨⟨a,y⟩,h1,rfl⟩:=Option.map_eq_some_iff.mp hx
 exact⟨z,a,k,n,hz,h1⟩
theorem rch_iff {ss:Ss}{p:Int×Int}:Rch ss p↔RchR (ssR ss) p:=by
 constructor
 ·intro h
  induction h with
  | base=>exact .base
  | step _ ra hq ih=>exact .step ih ra.r hq
 ·intro h
  induction h with
  | base=>exact .base
  | step _ ra hq ih=>
   obtain⟨z,a,r⟩:=ra.row
   exact .step ih r hq
theorem good_iff {nm nc:Nat}{ss:Ss}:Good nm nc ss↔GoodR nm nc (ssR ss):=by
 constructor
 ·intro h k r hr
  obtain⟨z,hz,rfl⟩:=ssR_inv hr
  obtain⟨h1,a,y,h2,h3⟩:=h k z hz
  rw[ssR_len,length_map]
  refine⟨fun x hx=>?_,y,by rw[List.getLast?_map,h2]; rfl,h3⟩
  obtain⟨w,hw,rfl⟩:=mem_map.mp hx
  exact h1 w hw
 ·intro h k z hz
  obtain⟨h1,y,h2,h3⟩:=h k _ (ssR_get hz)
  rw[ssR_len,length_map] at h1
  rw[List.getLast?_map] at h2
  obtain⟨⟨a,y'⟩,h4,rfl⟩:=Option.map_eq_some_iff.mp h2
  exact⟨fun x hx=>h1 x.2 (mem_map_of_mem hx),a,y',h4,h3⟩
theorem lim_iff {ss:Ss}:LimR ss↔LimRR (ssR ss):=by
 constructor
 ·rintro⟨M,h1,h2⟩
  refine⟨M,by rw[ssR_len]; exact h1,fun r hr=>?_⟩
  obtain⟨z,hz,rfl⟩:=mem_map.mp hr
  rw[length_map]
  exact h2 z hz
 ·rintro⟨M,h1,h2⟩
  rw[ssR_len] at h1
  refine⟨M,h1,fun z hz=>?_⟩
  have:=h2 _ (mem_map_of_mem (f:=fun z:Addr×List (Addr×Rw)=>z.2.map (·.2)) hz)
  rwa [length_map] at this
def upS (rr:RS):Ss:=rr.map fun r=>(0,r.map fun x=>(0,x))
theorem upS_r (rr:RS):ssR (upS rr)=rr:=by
 unfold ssR upS
 rw[map_map]
 refine(List.map_congr_left fun r _=>?_).trans (List.map_id _)
 show(r.map fun x=>((0:Addr),x)).map (·.2)=r
 rw[map_map]
 exact(List.map_congr_left fun x _=>rfl).trans (List.map_id _)
structure GR (nm nc:Nat) (rr:RS):Prop where
 good:GoodR nm nc rr
 ne:rr≠[]
 l40:rr.length<=40
 lim:LimRR rr
section
variable {nm nc:Nat}{rr:RS}
theorem GR.inR (g:GR nm nc rr) {p:Int×Int} (h:RchR rr p):∃ x,AtR rr p x:=by
 have h':Rch (upS rr) p:=rch_iff.mpr (by rw[upS_r]; exact h)
 have gd:Good nm nc (upS rr):=good_iff.mpr (by rw[upS_r]; exact g.good)
 obtain⟨z,a,x,ra⟩:=h'.inP gd (by intro e; unfold upS at e; exact g.ne (List.map_eq_nil_iff.mp e))
 have:=ra.r
 rw[upS_r] at this
 exact⟨x,this⟩
theorem GR.bd (g:GR nm nc rr) {p:Int×Int}{x:Rw} (h:AtR rr p x):(0<=p.1/\p.1<rr.length)/\(0<=p.2/\p.2<120):=by
 obtain⟨k0,n0,r,hr,hx⟩:=h
 obtain⟨M,h1,h2⟩:=g.lim
 obtain⟨l1,_⟩:=List.getElem?_eq_some_iff.mp hr
 obtain⟨l2,_⟩:=List.getElem?_eq_some_iff.mp hx
 have:=h2 r (mem_of_getElem? hr)
 have m1:1*M<=rr.length*M:=Nat.mul_le_mul_right _ (by omega)
 omega
theorem GR.ok (g:GR nm nc rr) {p:Int×Int}{x:Rw} (h:AtR rr p x):∃ r,rr[p.1.toNat]?=some r/\x.ok nm nc r.length p.1.toNat rr.length:=by
 obtain⟨k0,n0,r,hr,hx⟩:=h
 exact⟨r,hr,(g.good _ r hr).1 x (mem_of_getElem? hx)⟩
end
theorem onw_or {k n:Int}{q:Int×Int}{x:Rw} (h:q ∈ x.onw k n):q.1=k∨q.2=0:=by
 cases x <;> simp only[Rw.onw,mem_cons,not_mem_nil,or_false] at h <;> (try rcases h with rfl | rfl) <;> (try subst h) <;> (try exact .inl rfl) <;> (try exact .inr rfl)
 all_goals (try exact absurd h id)
theorem onw_next {k n:Int}{x:Rw} (h:x.last=false):(k,n+1) ∈ x.onw k n:=by
 cases x <;> first | (cases h; done) | simp [Rw.onw]
theorem RchR.zero {rr:RS}{p:Int×Int} (h:RchR rr p):RchR rr (p.1,0):=by
 induction h with
 | base=>exact .base
 | @step p q x h1 h2 h3 ih=>
  rcases onw_or h3 with e | e
  ·rw[e]; exact ih
  ·have:(q.1,0)=q:=by rw[<- e]
   rw[this]
   exact .step h1 h2 h3
def upto (n:Nat):List Int:=(List.range n).map Int.ofNat
theorem upto_mem {n:Nat}{k:Int}:k ∈ upto n↔0<=k/\k<n:=by
 unfold upto
 rw[mem_map]
 constructor
 ·rintro⟨a,ha,rfl⟩
  have:=mem_range.mp ha
  exact⟨Int.natCast_nonneg _,by show(a:Int)<n; omega⟩
 ·rintro⟨h1,h2⟩
  exact⟨k.toNat,mem_range.mpr (by omega),by show((k.toNat:Nat):Int)=k; omega⟩
theorem upto_len (n:Nat):(upto n).length=n:=by unfold upto; rw[length_map,List.length_range]
theorem rise_nd {a:List Int} (h:a.Pairwise (· < ·)):a.Nodup:=h.imp fun h=>by omega
theorem rise_lt {l:List Int} (h:l.Pairwise (· < ·)) {i j:Nat}{a b:Int} (ha:l[i]?=some a) (hb:l[j]?=some b) (hij:i<j):a<b:=by
 obtain⟨i1,rfl⟩:=List.getElem?_eq_some_iff.mp ha
 obtain⟨j1,rfl⟩:=List.getElem?_eq_some_iff.mp hb
 exact List.pairwise_iff_getElem.mp h i j i1 j1 hij
theorem rise_ix {l:List Int} (h:l.Pairwise (· < ·)) {i:Nat}{a:Int} (ha:l[i]?=some a):l.idxOf a=i:=by
 have m:=mem_of_getElem? ha
 have hl:=List.idxOf_lt_length_iff.mpr m
 have e:l[l.idxOf a]?=some a:=by rw[getElem?_eq_getElem hl,List.getElem_idxOf hl]
 rcases Nat.lt_trichotomy (l.idxOf a) i with c | c | c
 ·have:=rise_lt h e ha c; omega
 ·exact c
 ·have:=rise_lt h ha e c; omega
theorem ix_get {l:List Int}{a:Int} (m:a ∈ l):l[l.idxOf a]?=some a:=by
 have hl:=List.idxOf_lt_length_iff.mpr m
 rw[getElem?_eq_getElem hl,List.getElem_idxOf hl]
theorem rise_0 {l:List Int} (h:l.Pairwise (· < ·)) {a:Int} (m:a ∈ l) (least:∀ b ∈ l,a<=b):l.idxOf a=0:=by
 have e:=ix_get m
 rcases Nat.eq_zero_or_pos (l.idxOf a) with c | c
 ·exact c
 ·have hl:=List.idxOf_lt_length_iff.mpr m
  have h0:l[0]?=some l[0]:=getElem?_eq_getElem (by omega)
  have:=rise_lt h h0 e c
  have:=least _ (mem_of_getElem? h0)
  omega
theorem rise_suc {l:List Int} (h:l.Pairwise (· < ·)) {a:Int} (m:a ∈ l) (m':a+1 ∈ l):l.idxOf (a+1)=l.idxOf a+1:=by
 have e:=ix_get m
 have e':=ix_get m'
 have lt:l.idxOf a<l.idxOf (a+1):=by
  rcases Nat.lt_trichotomy (l.idxOf a) (l.idxOf (a+1)) with c | c | c
  ·exact c
  ·rw[c,e'] at e; have:=Option.some.inj e; omega
  ·have:=rise_lt h e' e c; omega
 rcases Nat.lt_or_ge (l.idxOf a+1) (l.idxOf (a+1)) with c | c
 ·have hl:=(List.getElem?_eq_some_iff.mp e').1
  have e1:l[l.idxOf a+1]?=some l[l.idxOf a+1]:=getElem?_eq_getElem (by omega)
  have h1:=rise_lt h e e1 (by omega)
  have h2:=rise_lt h e1 e' c
  omega
 ·omega
def ltP (p q:Int×Int):Prop:=So.pk p.1 p.2<So.pk q.1 q.2
def kadd (ks:List Int) (p:Int×Int):List Int:=if p.1 ∈ ks then ks else ks++[p.1]
def keysOf (pl:List (Int×Int)):List Int:=pl.foldl kadd []
def nums (pl:List (Int×Int)) (k:Int):List Int:=(pl.filter fun p=>decide (p.1=k)).map (·.2)
theorem keysOf_snoc (pl:List (Int×Int)) (p:Int×Int):keysOf (pl++[p])=kadd (keysOf pl) p:=by unfold keysOf; rw[List.foldl_append]; rfl
theorem nums_snoc (pl:List (Int×Int)) (p:Int×Int) (k:Int):nums (pl++[p]) k=nums pl k++(if p.1=k then [p.2] else []):=by
 unfold nums
 rw[List.filter_append,map_append]
 congr 1
 by_cases e:p.1=k <;> simp[e]
theorem mem_nums {pl:List (Int×Int)}{k n:Int}:n ∈ nums pl k↔(k,n) ∈ pl:=by
 unfold nums
 rw[mem_map]
 constructor
 ·rintro⟨⟨a,b⟩,h,rfl⟩
  obtain⟨h1,h2⟩:=List.mem_filter.mp h
  have:a=k:=of_decide_eq_true h2
  rw[<- this]; exact h1
 ·intro h
  exact⟨(k,n),List.mem_filter.mpr ⟨h,decide_eq_true rfl⟩,rfl⟩
def ix (l:List Int) (a:Int):Int:=(l.idxOf a:Nat)
def ren (pl:List (Int×Int)) (k:Int):Rw->Rw
 | .ask m a b=>.ask m (ix (nums pl k) a) (ix (nums pl k) b)
 | .bump c r=>.bump c (ix (nums pl k) r)
 | .go r=>.go (ix (nums pl k) r)
 | .call s=>.call (ix (keysOf pl) s)
 | x=>x
theorem ren_last (pl:List (Int×Int)) (k:Int) (x:Rw):(ren pl k x).last=x.last:=by cases x <;> rfl
def getRow (rr:RS) (k n:Int):Rw:=(rr.getD k.toNat []).getD n.toNat .fin
theorem AtR.get {rr:RS}{k n:Int}{x:Rw} (h:AtR rr (k,n) x):getRow rr k n=x:=by
 obtain⟨_,_,r,h1,h2⟩:=h
 dsimp only at h1 h2
 unfold getRow
 rw[List.getD_eq_getElem?_getD (l:=rr),h1,Option.getD_some,List.getD_eq_getElem?_getD,h2,Option.getD_some]
def trimOf (rr:RS) (pl:List (Int×Int)):RS:=(keysOf pl).map fun k=>(nums pl k).map fun n=>ren pl k (getRow rr k n)
structure Pl (rr:RS) (pl:List (Int×Int)):Prop where
 srt:pl.Pairwise ltP
 mem:∀ p,p ∈ pl↔RchR rr p
theorem Pl.uniq {rr:RS}{pl pl':List (Int×Int)} (h:Pl rr pl) (h':Pl rr pl'):pl=pl':=rise_eq (fun p:Int×Int=>So.pk p.1 p.2) h.srt h'.srt fun p=>(h.mem p).trans (h'.mem p).symm
theorem keys_inv:∀ (l acc:List (Int×Int)) (ks:List Int),(acc++l).Pairwise ltP->(∀ p ∈ acc++l,0<=p.2/\p.2<1000000)->ks.Pairwise (· < ·)->(∀ k,k ∈ ks↔∃ n,(k,n) ∈ acc) ->
  (l.foldl kadd ks).Pairwise (· < ·)/\∀ k,k ∈ l.foldl kadd ks↔∃ n,(k,n) ∈ acc++l
 | [],acc,ks,_,_,h1,h2=>⟨h1,by rw[append_nil]; exact h2⟩
 | p::l,acc,ks,hs,hb,h1,h2=>by
  have e:acc++p::l=(acc++[p])++l:=by simp
  rw[e] at hs hb ⊢
  have key:∀ k ∈ ks,k<=p.1:=fun k hk=>by
   obtain⟨n,hn⟩:=(h2 k).mp hk
   have a1:=(pairwise_append.mp (pairwise_append.mp hs).1).2.2 (k,n) hn p (by simp)
   have b1:=hb (k,n) (by simp[hn])
   have b2:=hb p (by simp)
   unfold ltP So.pk at a1
   simp only at a1 b1
   omega
  refine keys_inv l (acc++[p]) (kadd ks p) hs hb ?_ fun k=>?_
  ·unfold kadd
   split
   ·exact h1
   ·rename_i hn
    rw[pairwise_append]
    refine⟨h1,by simp,fun a ha b hb'=>?_⟩
    cases mem_singleton.mp hb'
    have:=key a ha
    rcases Int.lt_or_eq_of_le this with c | c
    ·exact c
    ·rw[c] at ha; exact absurd ha hn
  ·obtain⟨a,b⟩:=p
   unfold kadd
   simp only[mem_append,mem_singleton,Prod.mk.injEq]
   split
   ·rename_i hm
    rw[h2]
    constructor
    ·rintro⟨n,hn⟩; exact⟨n,.inl hn⟩
    ·rintro⟨n,hn | ⟨rfl,rfl⟩⟩
     ·exact⟨n,hn⟩
     ·exact(h2 _).mp hm
   ·rw[mem_append,mem_singleton,h2]
    constructor
    ·rintro(⟨n,hn⟩ | rfl)
     ·exact⟨n,.inl hn⟩
     ·exact⟨b,.inr ⟨rfl,rfl⟩⟩
    ·rintro⟨n,hn | ⟨rfl,rfl⟩⟩
     ·exact .inl ⟨n,hn⟩
     ·exact .inr rfl
section
variable {nm nc:Nat}{rr:RS}{pl:List (Int×Int)}
theorem Pl.bd (h:Pl rr pl) (g:GR nm nc rr) {p:Int×Int} (m:p ∈ pl):(0<=p.1/\p.1<rr.length)/\(0<=p.2/\p.2<120):=by
 obtain⟨x,hx⟩:=g.inR ((h.mem p).mp m)
 exact g.bd hx
theorem Pl.keys (h:Pl rr pl) (g:GR nm nc rr):(keysOf pl).Pairwise (· < ·)/\∀ k,k ∈ keysOf pl↔∃ n,(k,n) ∈ pl:=by
 have:=keys_inv pl [] [] h.srt (fun p hp=>by have:=(h.bd g hp).2; omega) .nil (by simp)
 exact this
theorem Pl.key0 (h:Pl rr pl) (g:GR nm nc rr) (k:Int):k ∈ keysOf pl↔RchR rr (k,0):=by
 rw[(h.keys g).2]
 constructor
 ·rintro⟨n,hn⟩; exact((h.mem _).mp hn).zero
 ·intro z; exact⟨0,(h.mem _).mpr z⟩
theorem Pl.nums (h:Pl rr pl) (k:Int):(nums pl k).Pairwise (· < ·):=by
 unfold P.nums
 rw[List.pairwise_map,List.pairwise_filter]
 refine h.srt.imp fun {p q} hpq e1 e2=>?_
 have e1:=of_decide_eq_true e1
 have e2:=of_decide_eq_true e2
 unfold ltP So.pk at hpq
 omega
theorem Pl.num (h:Pl rr pl) {k n:Int}:n ∈ P.nums pl k↔RchR rr (k,n):=mem_nums.trans (h.mem _)
theorem Pl.keys_le (h:Pl rr pl) (g:GR nm nc rr):(keysOf pl).length<=rr.length:=by
 have:=List.Nodup.length_le_of_subset (l₂:=upto rr.length) (rise_nd (h.keys g).1) fun k hk=>by
  obtain⟨n,hn⟩:=((h.keys g).2 k).mp hk
  exact upto_mem.mpr (h.bd g hn).1
 rwa [upto_len] at this
theorem Pl.nums_le (h:Pl rr pl) (g:GR nm nc rr) {k:Int}{r:List Rw} (hr:rr[k.toNat]?=some r):(P.nums pl k).length<=r.length:=by
 have:=List.Nodup.length_le_of_subset (l₂:=upto r.length) (rise_nd (h.nums k)) fun n hn=>by
  obtain⟨x,_,n0,r',h1,h2⟩:=g.inR ((h.num).mp hn)
  simp only at h1 h2 n0
  rw[hr] at h1; cases h1
  have:=(List.getElem?_eq_some_iff.mp h2).1
  exact upto_mem.mpr ⟨n0,by omega⟩
 rwa [upto_len] at this
theorem trim_get {i:Nat}{k:Int} (hk:(keysOf pl)[i]?=some k):(trimOf rr pl)[i]?=some ((nums pl k).map fun n=>ren pl k (getRow rr k n)):=by unfold trimOf; rw[getElem?_map,hk]; rfl
theorem trim_inv {i:Nat}{r:List Rw} (hr:(trimOf rr pl)[i]?=some r):∃ k,(keysOf pl)[i]?=some k/\((nums pl k).map fun n=>ren pl k (getRow rr k n))=r:=by
 unfold trimOf at hr
 rw[getElem?_map] at hr
 exact Option.map_eq_some_iff.mp hr
theorem trim_len:(trimOf rr pl).length=(keysOf pl).length:=by unfold trimOf; rw[length_map]
def phi (pl:List (Int×Int)) (p:Int×Int):Int×Int:=(ix (keysOf pl) p.1,ix (nums pl p.1) p.2)
theorem Pl.at_ (h:Pl rr pl) (g:GR nm nc rr) {p:Int×Int}{x:Rw} (r:RchR rr p) (hx:AtR rr p x):AtR (trimOf rr pl) (phi pl p) (ren pl p.1 x):=by
 have mk:p.1 ∈ keysOf pl:=((h.keys g).2 _).mpr ⟨p.2,(h.mem _).mpr r⟩
 have mn:p.2 ∈ P.nums pl p.1:=h.num.mpr r
 refine⟨Int.natCast_nonneg _,Int.natCast_nonneg _,(P.nums pl p.1).map fun n=>ren pl p.1 (getRow rr p.1 n),?_,?_⟩
 ·show(trimOf rr pl)[((keysOf pl).idxOf p.1:Int).toNat]?=_
  rw[Int.toNat_natCast]
  exact trim_get (ix_get mk)
 ·show(List.map _ _)[((P.nums pl p.1).idxOf p.2:Int).toNat]?=_
  rw[Int.toNat_natCast,getElem?_map,ix_get mn]
  show some (ren pl p.1 (getRow rr p.1 p.2))=_
  rw[AtR.get (k:=p.1) (n:=p.2) hx]
theorem Pl.zeroN (h:Pl rr pl) (g:GR nm nc rr) {k:Int} (r:RchR rr (k,0)):ix (P.nums pl k) 0=0:=by
 unfold ix
 rw[rise_0 (h.nums k) (h.num.mpr r) fun b hb=>(h.bd g (mem_nums.mp hb)).2.1]
 rfl
theorem Pl.sucN (h:Pl rr pl) {k n:Int} (r:RchR rr (k,n)) (r':RchR rr (k,n+1)):ix (P.nums pl k) (n+1)=ix (P.nums pl k) n+1:=by
 unfold ix
 rw[rise_suc (h.nums k) (h.num.mpr r) (h.num.mpr r')]
 rfl
theorem ix_lt {l:List Int}{a:Int} (m:a ∈ l):0<=ix l a/\ix l a<l.length:=by
 have:=List.idxOf_lt_length_iff.mpr m
 unfold ix
 omega
theorem Pl.gr (h:Pl rr pl) (g:GR nm nc rr):GR nm nc (trimOf rr pl) where
 good:=by
  intro i r hr
  obtain⟨k,hk,rfl⟩:=trim_inv hr
  have mk:=mem_of_getElem? hk
  rw[trim_len,length_map]
  constructor
  ·intro x hx
   obtain⟨n,hn,rfl⟩:=mem_map.mp hx
   have rn:=h.num.mp hn
   obtain⟨y,hy⟩:=g.inR rn
   rw[hy.get]
   obtain⟨r,hr2,ok⟩:=g.ok hy
   have on:∀ q,q ∈ y.onw k n->RchR rr q:=fun q hq=>.step rn hy hq
   cases y with
   | ask m a b=>
    obtain⟨o1,o2,_⟩:=(show _/\_ from ok)
    obtain⟨a1,a2⟩:=ix_lt (h.num.mpr (on (k,a) mem_cons_self))
    obtain⟨b1,b2⟩:=ix_lt (h.num.mpr (on (k,b) (mem_cons_of_mem _ mem_cons_self)))
    exact⟨o1,o2,a1,a2,b1,b2⟩
   | bump m a=>
    obtain⟨o1,o2,_⟩:=(show _/\_ from ok)
    obtain⟨a1,a2⟩:=ix_lt (h.num.mpr (on (k,a) (mem_cons_of_mem _ mem_cons_self)))
    exact⟨o1,o2,a1,a2⟩
   | go a=>exact ix_lt (h.num.mpr (on (k,a) mem_cons_self))
   | call s=>
    obtain⟨o1,o2⟩:=(show _/\_ from ok)
    have ms:=(h.key0 g s).mpr (on (s,0) mem_cons_self)
    obtain⟨a1,a2⟩:=ix_lt ms
    have k0:=(g.bd hy).1.1
    simp only at o1 k0
    refine⟨?_,a2⟩
    show(i:Int)<((keysOf pl).idxOf s:Nat)
    rcases Nat.lt_trichotomy i ((keysOf pl).idxOf s) with c | c | c
    ·omega
    ·rw[c,ix_get ms] at hk; cases hk; omega
    ·have:=rise_lt (h.keys g).1 (ix_get ms) hk c; omega
   | fin=>trivial
   | bell a=>exact ok
   | set m a=>exact ok
  ·obtain⟨n0,hn0⟩:=((h.keys g).2 k).mp mk
   have ne:P.nums pl k≠[]:=fun e=>by have:=mem_nums.mpr hn0; rw[e] at this; cases this
   obtain⟨n,hn⟩:∃ n,(P.nums pl k).getLast?=some n:=by
    cases e:(P.nums pl k).getLast? with
    | none=>exact absurd (List.getLast?_eq_none_iff.mp e) ne
    | some n=>exact⟨n,rfl⟩
   have mn:=List.mem_of_getLast? hn
   have rn:=h.num.mp mn
   obtain⟨y,hy⟩:=g.inR rn
   refine⟨ren pl k y,by rw[List.getLast?_map,hn]; show some (ren pl k (getRow rr k n))=_; rw[hy.get],?_⟩
   rw[ren_last]
   cases e:y.last with
   | true=>rfl
   | false=>
    have m1:=h.num.mpr (.step rn hy (onw_next e):RchR rr (k,n+1))
    rw[List.getLast?_eq_getElem?] at hn
    have e1:=ix_get m1
    have e2:=rise_ix (h.nums k) hn
    have l1:=List.idxOf_lt_length_iff.mpr m1
    rcases Nat.lt_or_ge ((P.nums pl k).idxOf (n+1)) ((P.nums pl k).length - 1) with c | c
    ·have:=rise_lt (h.nums k) e1 hn c; omega
    ·have:(P.nums pl k).idxOf (n+1)=(P.nums pl k).length - 1:=by omega
     rw[this,hn] at e1
     have:=Option.some.inj e1
     omega
 ne:=by
  have:(0:Int) ∈ keysOf pl:=(h.key0 g 0).mpr .base
  intro e
  unfold trimOf at e
  rw[List.map_eq_nil_iff.mp e] at this
  cases this
 l40:=by rw[trim_len]; exact Nat.le_trans (h.keys_le g) g.l40
 lim:=by
  obtain⟨M,h1,h2⟩:=g.lim
  refine⟨M,?_,fun r hr=>?_⟩
  ·rw[trim_len]
   exact Nat.le_trans (Nat.mul_le_mul_right _ (h.keys_le g)) h1
  ·obtain⟨k,hk,rfl⟩:=mem_map.mp hr
   rw[length_map]
   obtain⟨x,k0,_,r,hr,_⟩:=g.inR ((h.key0 g k).mp hk)
   exact Nat.le_trans (h.nums_le g hr) (h2 r (mem_of_getElem? hr))
end
end P
set_option Elab.async false
set_option linter.all false
set_option maxRecDepth 100000
set_option maxHeartbeats 4000000
namespace P
open PySem L2
def numDo:Nat->List Int->List (Key×V)
 | _,[]=>[]
 | o,x::xs=>(.inl x,.int o)::numDo (o+1) xs
theorem numDo_snoc:∀ (o:Nat) (xs:List Int) (x:Int),numDo o (xs++[x])=numDo o xs++[(.inl x,.int ((o+xs.length:Nat):Int))]
 | o,[],x=>rfl
 | o,y::xs,x=>by
  show(_:Key×V)::numDo (o+1) (xs++[x])=_
  rw[numDo_snoc (o+1) xs x]
  show _=(_:Key×V)::(numDo (o+1) xs++_)
  rw[length_cons,show o+(xs.length+1)=o+1+xs.length by omega]
theorem numDo_len:∀ (o:Nat) (xs:List Int),(numDo o xs).length=xs.length
 | _,[]=>rfl
 | o,x::xs=>by show(numDo (o+1) xs).length+1=_; rw[numDo_len (o+1) xs]; rfl
theorem numDo_val:∀ (o:Nat) (xs:List Int) (x:Int),x ∈ xs->valV (numDo o xs) (.inl x)=some (.int ((o+xs.idxOf x:Nat):Int))
 | o,y::xs,x,h=>by
  unfold valV
  show Option.map _ (List.find? _ ((Sum.inl y,V.int o)::numDo (o+1) xs))=_
  rw[find?_cons]
  by_cases e:y=x
  ·subst e
   simp
  ·have hx:=(mem_cons.mp h).resolve_left fun z=>e z.symm
   have:=numDo_val (o+1) xs x hx
   unfold valV at this
   have d:decide ((Sum.inl y:Key)=Sum.inl x)=false:=decide_eq_false fun z=>e (Sum.inl.inj z)
   simp only[d]
   rw[this,List.idxOf_cons]
   have b:(y == x)=false:=by simpa using e
   rw[b]
   simp only[cond_false]
   rw[show o+(xs.idxOf x+1)=o+1+xs.idxOf x by omega]
theorem numDo_none:∀ (o:Nat) (xs:List Int) (x:Int),x ∉ xs->valV (numDo o xs) (.inl x)=none
 | _,[],_,_=>rfl
 | o,y::xs,x,h=>by
  rw[mem_cons,not_or] at h
  unfold valV
  show Option.map _ (List.find? _ ((Sum.inl y,V.int o)::numDo (o+1) xs))=_
  rw[find?_cons]
  have d:decide ((Sum.inl y:Key)=Sum.inl x)=false:=decide_eq_false fun z=>h.1 (Sum.inl.inj z).symm
  simp only[d]
  exact numDo_none (o+1) xs x h.2
theorem putK_new {κ:Type} [DecidableEq κ] {kvs:List (κ×V)}{k:κ}{v:V} (h:valV kvs k=none):putK kvs k v=kvs++[(k,v)]:=by
 unfold valV at h
 have h1:=Option.map_eq_none_iff.mp h
 have h2:(kvs.any fun kv=>decide (kv.1=k))=false:=by
  rw[List.any_eq_false]
  exact List.find?_eq_none.mp h1
 unfold putK
 rw[if_neg (by rw[h2]; exact Bool.false_ne_true)]
theorem numGet {H:Hp}{a:Addr}{xs:List Int}{x:Int} (h:H a=some (.dK (numDo 0 xs))) (m:x ∈ xs):DGet H a (.int x) (some (.int (ix xs x))):=by
 have:=DGet.k (k:=.inl x) h
 rw[numDo_val 0 xs x m,Nat.zero_add] at this
 exact this
def renX (ns ks:List Int):Rw->Rw
 | .ask m a b=>.ask m (ix ns a) (ix ns b)
 | .bump c r=>.bump c (ix ns r)
 | .go r=>.go (ix ns r)
 | .call s=>.call (ix ks s)
 | x=>x
theorem renX_eq (pl:List (Int×Int)) (k:Int) (x:Rw):renX (nums pl k) (keysOf pl) x=ren pl k x:=by cases x <;> rfl
def NeedX (ns ks:List Int):Rw->Prop
 | .ask _ a b=>a ∈ ns/\b ∈ ns
 | .bump _ r=>r ∈ ns
 | .go r=>r ∈ ns
 | .call s=>s ∈ ks
 | _=>True
theorem Pl.need {nm nc:Nat}{rr:RS}{pl:List (Int×Int)} (h:Pl rr pl) (g:GR nm nc rr) {k n:Int}{x:Rw} (r:RchR rr (k,n)) (hx:AtR rr (k,n) x):NeedX (P.nums pl k) (keysOf pl) x:=by
 have on:∀ q,q ∈ x.onw k n->RchR rr q:=fun q hq=>.step r hx hq
 cases x with
 | ask m a b=>exact⟨h.num.mpr (on (k,a) mem_cons_self),h.num.mpr (on (k,b) (mem_cons_of_mem _ mem_cons_self))⟩
 | bump m a=>exact h.num.mpr (on (k,a) (mem_cons_of_mem _ mem_cons_self))
 | go a=>exact h.num.mpr (on (k,a) mem_cons_self)
 | call s=>exact(h.key0 g s).mpr (on (s,0) mem_cons_self)
 | fin=>trivial
 | bell a=>trivial
 | set m a=>trivial
def sp_numA:Sp:=fun vs H Q _=>∃ (l:Addr) (xs:List Int) (L:Kn),vs=[.ref l]/\Has H L/\(l,HO.lst (xs.map V.int)) ∈ L/\xs.Nodup/\xs.length<=1000/\∀ H' D,Has H' ((D,.dK (numDo 0 xs))::L)->Q (.ref D) H'
def sp_Jy:Sp:=fun vs H Q _=>∃ (r dr dt:Addr) (x:Rw) (ns ks:List Int) (L:Kn),vs=[.ref r,.ref dr,.ref dt]/\Has H L/\(r,HO.tup x.v) ∈ L/\(dr,HO.dK (numDo 0 ns)) ∈ L/\(dt,HO.dK (numDo 0 ks)) ∈ L/\NeedX ns ks x /\
 ∀ H' a N,(a,HO.tup (renX ns ks x).v) ∈ N++L->Has H' (N++L)->Q (.ref a) H'
section
variable {P:Program}{w:World}{K:PySem.W.Frag}{mg:Str->Option Value}{base:Heap}{t:Adr}
theorem scNa:FnScope ["numbers"] ["numbers"] (defScope s_Ja):=⟨rfl,rfl,rfl,by decide +kernel,rfl,by decide +kernel,by decide +kernel⟩
theorem ok_Ja (T:Txt K mg t):FnOk P w K mg base CX0 1 t.f_Ja t.d_Ja ["numbers"] sp_numA:=by
 refine T.F_Ja.ok scNa (fun vs H Q E h=>?_) (fun cdv A outer s H vs Q E hr h=>?_)
 ·obtain⟨_,_,_,rfl,_⟩:=h
  rfl
 ·obtain⟨l,xs,L,rfl,hH,ml,nd,hlen,q⟩:=h
  refine⟨_,(pss_one (ps_ret (pe_dc (esc:=defScope s_Ja) (k:=2) ["new","number","numbers"] rfl (pi_enum (by rfl) T.z_enumerate (pa_cons (pv 0) pa_nil)) (fun _ _ _ _ _=>by exact(pg_tupK (K:=K) (n:=2) rfl rfl (pgs_cons (pg_name (i:=0) (show List.Nodup (["new","number","numbers"]:List Str) from by decide +kernel) rfl (Or.inl rfl)) (pgs_cons (pg_name (i:=1) (show List.Nodup (["new","number","numbers"]:List Str) from by decide +kernel) rfl (Or.inl rfl)) pgs_nil)))) (fun _ _ _ _ _=>by exact pts_nil) (fun _ _ _ _ _=>by exact(pv 1)) (fun _ _ _ _ _=>by exact(pv 0)) rfl (by decide +kernel) (by decide +kernel) rfl (by decide +kernel) (by rfl) (fun _ _ h _=>h) (by decide +kernel)))),?_⟩
  refine⟨_,rfl,l,rfl,⟨_,SqL.of (hH.at_ _ ml)⟩,fun D hD=>?_⟩
  refine⟨fun n m zs H'=>m=xs.length - n/\n<=xs.length/\zs=numDo 0 (xs.take n)/\Has H' ((D,.dK zs)::L),⟨_,rfl,Nat.zero_le _,rfl,hH.alloc hD _⟩,?_⟩
  rintro n m zs H5 ⟨rfl,hn,rfl,h5⟩
  refine⟨h5.get 0 rfl,?_⟩
  have g5:=h5.tail.at_ _ ml
  by_cases hlt:n<xs.length
  ·have hx0:(xs.map V.int)[n]?=some (.int xs[n]):=by rw[getElem?_map,getElem?_eq_getElem hlt]; rfl
   refine .inr ⟨⟨_,_,SqL.of g5,hx0⟩,?_⟩
   rintro x H6 ⟨p,y,rfl,hp,rfl,hy⟩
   have e1:=hy _ (SqL.of g5)
   rw[hx0] at e1
   cases e1
   have h6:=h5.alloc hp (.tup [.int n,.int xs[n]])
   refine⟨p,_,rfl,SqT.of (h6.get 0 rfl),rfl,_,_,rfl,_,_,rfl,rfl,rfl,tTrueT ?_⟩
   have tk:xs.take (n+1)=xs.take n++[xs[n]]:=by rw[List.take_add_one,getElem?_eq_getElem hlt]; rfl
   have hno:xs[n] ∉ xs.take n:=fun hm=>by
    obtain⟨j,hj,e⟩:=List.mem_iff_getElem.mp hm
    rw[List.getElem_take] at e
    rw[length_take] at hj
    have:=(List.getElem_inj nd).mp e
    omega
   have ep:putK (numDo 0 (xs.take n)) (.inl xs[n]) (.int (n:Int))=numDo 0 (xs.take (n+1)):=by
    rw[putK_new (numDo_none 0 _ _ hno),tk,numDo_snoc,length_take,Nat.min_eq_left (by omega),Nat.zero_add]
   refine⟨_,rfl,_,rfl,.inl xs[n],rfl,sizeOk (by rw[numDo_len,length_take]; omega),h6.get 1 rfl,xs.length - (n+1),by omega,rfl,hlt,ep,?_⟩
   exact(h6.puti 1 rfl _).tail
  ·have en:n=xs.length:=by omega
   refine .inl ⟨⟨_,SqL.of g5,by rw[length_map]; omega⟩,q _ D ?_⟩
   rw[en,List.take_length] at h5
   exact h5
theorem scRn:FnScope ["row","new_rows","new_stretches","word"] ["row","new_rows","new_stretches"] (defScope s_Jy):=⟨rfl,rfl,rfl,by decide +kernel,rfl,by decide +kernel,by decide +kernel⟩
theorem ok_Jy (T:Txt K mg t):FnOk P w K mg base CX0 1 t.f_Jy t.d_Jy ["row","new_rows","new_stretches"] sp_Jy:=by
 refine T.F_Jy.ok scRn (fun vs H Q E h=>?_) (fun cdv A outer s H vs Q E hr h=>?_)
 ·obtain⟨_,_,_,_,_,_,_,rfl,_⟩:=h
  rfl
 ·obtain⟨r,dr,dt,x,ns,ks,L,rfl,hH,mr,mdr,mdt,need,q⟩:=h
  have gr:=hH.at_ _ mr
  have gd:=hH.at_ _ mdr
  have gt:=hH.at_ _ mdt
  have hu:=Nat.lt_of_le_of_lt (Nat.add_le_add_left (show 1<=64 by decide) _) hr.units
  dsimp only at gr gd gt
  refine⟨_,(pss_cons (ps_set (i:=3) scRn.nd rfl (Or.inl rfl) (pe_ix ix_tup (pv 0) pe_int (fun _ _=>rfl)))
   (pss_cons (ps_if (pt_cmpR op_eq (pv 3) pe_str (nomark _))
    (pss_one (ps_ret (pe_tup (pa_cons (pv 3) (pa_cons (pe_ix ix_tup (pv 0) pe_int (fun _ _=>rfl)) (pa_cons (pe_dget hu (pv 1) (pe_ix ix_tup (pv 0) pe_int (fun _ _=>rfl)) (fun _ _=>rfl)) (pa_cons (pe_dget hu (pv 1) (pe_ix ix_tup (pv 0) pe_int (fun _ _=>rfl)) (fun _ _=>rfl)) pa_nil)))))))
    pss_nil)
   (pss_cons (ps_if (pt_cmpR op_eq (pv 3) pe_str (nomark _))
    (pss_one (ps_ret (pe_tup (pa_cons (pv 3) (pa_cons (pe_ix ix_tup (pv 0) pe_int (fun _ _=>rfl)) (pa_cons (pe_dget hu (pv 1) (pe_ix ix_tup (pv 0) pe_int (fun _ _=>rfl)) (fun _ _=>rfl)) pa_nil))))))
    pss_nil)
   (pss_cons (ps_if (pt_cmpR op_eq (pv 3) pe_str (nomark _))
    (pss_one (ps_ret (pe_tup (pa_cons (pv 3) (pa_cons (pe_dget hu (pv 1) (pe_ix ix_tup (pv 0) pe_int (fun _ _=>rfl)) (fun _ _=>rfl)) pa_nil)))))
    pss_nil)
   (pss_cons (ps_if (pt_cmpR op_eq (pv 3) pe_str (nomark _))
    (pss_one (ps_ret (pe_tup (pa_cons (pv 3) (pa_cons (pe_dget hu (pv 2) (pe_ix ix_tup (pv 0) pe_int (fun _ _=>rfl)) (fun _ _=>rfl)) pa_nil)))))
    pss_nil)
   (pss_one (ps_ret (pv 0)))))))),?_⟩
  rw[show L2.start ["row","new_rows","new_stretches","word"] [V.ref r,V.ref dr,V.ref dt]=([some (V.ref r),some (V.ref dr),some (V.ref dt),none]:St) from rfl]
  refine⟨_,rfl,r,_,_,_,rfl,rfl,SqT.of gr,atI_nat (j:=0) rfl,?_⟩
  dsimp only[List.set]
  cases x with
  | ask m c d=>
   obtain⟨m1,m2⟩:=(show _/\_ from need)
   refine⟨_,rfl,rfl,_,rfl,ifT (decide_eq_true rfl) ?_⟩
   refine⟨_,rfl,_,rfl,r,_,_,_,rfl,rfl,SqT.of gr,atI_nat (j:=1) rfl,_,rfl,_,rfl,r,_,_,_,rfl,rfl,SqT.of gr,atI_nat (j:=2) rfl,dr,_,rfl,numGet gd m1,_,rfl,_,rfl,r,_,_,_,rfl,rfl,SqT.of gr,atI_nat (j:=3) rfl,dr,_,rfl,numGet gd m2,(sz_ 4),fun a ha=>?_⟩
   exact q _ a [(a,HO.tup (Rw.ask m (ix ns c) (ix ns d)).v)] mem_cons_self (hH.alloc ha _)
  | bump m c=>
   refine⟨_,rfl,rfl,_,rfl,ifF (sne "bump" "ask") ?_⟩
   refine⟨_,rfl,rfl,_,rfl,ifT (decide_eq_true rfl) ?_⟩
   refine⟨_,rfl,_,rfl,r,_,_,_,rfl,rfl,SqT.of gr,atI_nat (j:=1) rfl,_,rfl,_,rfl,r,_,_,_,rfl,rfl,SqT.of gr,atI_nat (j:=2) rfl,dr,_,rfl,numGet gd need,(sz_ 3),fun a ha=>?_⟩
   exact q _ a [(a,HO.tup (Rw.bump m (ix ns c)).v)] mem_cons_self (hH.alloc ha _)
  | go c=>
   refine⟨_,rfl,rfl,_,rfl,ifF (sne "go" "ask") ?_⟩
   refine⟨_,rfl,rfl,_,rfl,ifF (sne "go" "bump") ?_⟩
   refine⟨_,rfl,rfl,_,rfl,ifT (decide_eq_true rfl) ?_⟩
   refine⟨_,rfl,_,rfl,_,rfl,r,_,_,_,rfl,rfl,SqT.of gr,atI_nat (j:=1) rfl,dr,_,rfl,numGet gd need,(sz_ 2),fun a ha=>?_⟩
   exact q _ a [(a,HO.tup (Rw.go (ix ns c)).v)] mem_cons_self (hH.alloc ha _)
  | call c=>
   refine⟨_,rfl,rfl,_,rfl,ifF (sne "call" "ask") ?_⟩
   refine⟨_,rfl,rfl,_,rfl,ifF (sne "call" "bump") ?_⟩
   refine⟨_,rfl,rfl,_,rfl,ifF (sne "call" "go") ?_⟩
   refine⟨_,rfl,rfl,_,rfl,ifT (decide_eq_true rfl) ?_⟩
   refine⟨_,rfl,_,rfl,_,rfl,r,_,_,_,rfl,rfl,SqT.of gr,atI_nat (j:=1) rfl,dt,_,rfl,numGet gt need,(sz_ 2),fun a ha=>?_⟩
   exact q _ a [(a,HO.tup (Rw.call (ix ks c)).v)] mem_cons_self (hH.alloc ha _)
  | fin=>
   refine⟨_,rfl,rfl,_,rfl,ifF (sne "end" "ask") ?_⟩
   refine⟨_,rfl,rfl,_,rfl,ifF (sne "end" "bump") ?_⟩
   refine⟨_,rfl,rfl,_,rfl,ifF (sne "end" "go") ?_⟩
   refine⟨_,rfl,rfl,_,rfl,ifF (sne "end" "call") ?_⟩
   exact⟨_,rfl,q _ r [] mr hH⟩
  | bell c=>
   refine⟨_,rfl,rfl,_,rfl,ifF (sne "bell" "ask") ?_⟩
   refine⟨_,rfl,rfl,_,rfl,ifF (sne "bell" "bump") ?_⟩
   refine⟨_,rfl,rfl,_,rfl,ifF (sne "bell" "go") ?_⟩
   refine⟨_,rfl,rfl,_,rfl,ifF (sne "bell" "call") ?_⟩
   exact⟨_,rfl,q _ r [] mr hH⟩
  | set c d=>
   refine⟨_,rfl,rfl,_,rfl,ifF (sne "set" "ask") ?_⟩
   refine⟨_,rfl,rfl,_,rfl,ifF (sne "set" "bump") ?_⟩
   refine⟨_,rfl,rfl,_,rfl,ifF (sne "set" "go") ?_⟩
   refine⟨_,rfl,rfl,_,rfl,ifF (sne "set" "call") ?_⟩
   exact⟨_,rfl,q _ r [] mr hH⟩
end
end P
set_option Elab.async false
set_option linter.all false
set_option maxRecDepth 100000
set_option maxHeartbeats 4000000
namespace P
open PySem L2
def kD (gs:List (Int×Addr)):List (Key×V):=gs.map fun g=>((Sum.inl g.1:Key),V.ref g.2)
def kL (pl:List (Int×Int)) (gs:List (Int×Addr)):Kn:=gs.map fun g=>(g.2,HO.lst ((nums pl g.1).map V.int))
theorem kD_some:∀ {gs:List (Int×Addr)}{k:Int}{v:V},valV (kD gs) (.inl k)=some v->∃ (j:Nat) (g:Int×Addr),gs[j]?=some g/\g.1=k/\v=.ref g.2
 | [],_,_,h=>nomatch h
 | g::gs,k,v,h=>by
  unfold valV kD at h
  rw[map_cons,find?_cons] at h
  by_cases e:g.1=k
  ·have d:decide ((Sum.inl g.1:Key)=Sum.inl k)=true:=decide_eq_true (by rw[e])
   simp only[d] at h
   exact⟨0,g,rfl,e,(Option.some.inj h).symm⟩
  ·have d:decide ((Sum.inl g.1:Key)=Sum.inl k)=false:=decide_eq_false fun z=>e (Sum.inl.inj z)
   simp only[d] at h
   obtain⟨j,g',h1,h2,h3⟩:=kD_some (gs:=gs) (k:=k) (v:=v) (by unfold valV kD; exact h)
   exact⟨j+1,g',h1,h2,h3⟩
theorem kD_none:∀ {gs:List (Int×Addr)}{k:Int},valV (kD gs) (.inl k)=none->k ∉ gs.map (·.1)
 | [],_,_=>by simp
 | g::gs,k,h=>by
  unfold valV kD at h
  rw[map_cons,find?_cons] at h
  by_cases e:g.1=k
  ·have d:decide ((Sum.inl g.1:Key)=Sum.inl k)=true:=decide_eq_true (by rw[e])
   simp only[d] at h
   cases h
  ·have d:decide ((Sum.inl g.1:Key)=Sum.inl k)=false:=decide_eq_false fun z=>e (Sum.inl.inj z)
   simp only[d] at h
   have:=kD_none (gs:=gs) (k:=k) (by unfold valV kD; exact h)
   rw[map_cons,mem_cons,not_or]
   exact⟨fun z=>e z.symm,this⟩
theorem kL_set {pl:List (Int×Int)}{gs:List (Int×Addr)}{j:Nat}{g:Int×Addr}{n:Int} (nd:(gs.map (·.1)).Nodup) (hj:gs[j]?=some g):(kL pl gs).set j (g.2,HO.lst ((nums pl g.1).map V.int++[.int n]))=kL (pl++[(g.1,n)]) gs:=by
 have hl:=(List.getElem?_eq_some_iff.mp hj).1
 refine List.ext_getElem? fun i=>?_
 unfold kL
 rw[getElem?_map]
 by_cases e:i=j
 ·subst e
  rw[List.getElem?_set_self (by rw[length_map]; exact hl),hj]
  show _=some (g.2,HO.lst ((nums (pl++[(g.1,n)]) g.1).map V.int))
  rw[nums_snoc,if_pos rfl,map_append]
  rfl
 ·rw[List.getElem?_set_ne (Ne.symm e),getElem?_map]
  cases h:gs[i]? with
  | none=>rfl
  | some g'=>
   show some (g'.2,HO.lst ((nums pl g'.1).map V.int))=some (g'.2,HO.lst ((nums (pl++[(g.1,n)]) g'.1).map V.int))
   have ne:¬ g.1=g'.1:=fun z=>by
    have e1:(gs.map (·.1))[i]?=some g'.1:=by rw[getElem?_map,h]; rfl
    have e2:(gs.map (·.1))[j]?=some g'.1:=by rw[getElem?_map,hj]; show some g.1=_; rw[z]
    obtain⟨l1,q1⟩:=List.getElem?_eq_some_iff.mp e1
    obtain⟨l2,q2⟩:=List.getElem?_eq_some_iff.mp e2
    exact e ((List.getElem_inj nd).mp (q1.trans q2.symm))
   rw[nums_snoc,if_neg ne,append_nil]
theorem nums_none {pl:List (Int×Int)}{k:Int} (h:∀ n,(k,n) ∉ pl):nums pl k=[]:=by
 rw[List.eq_nil_iff_forall_not_mem]
 intro n hn
 exact h n (mem_nums.mp hn)
theorem kL_new {pl:List (Int×Int)}{gs:List (Int×Addr)}{k n:Int} (h:k ∉ gs.map (·.1)):kL (pl++[(k,n)]) gs=kL pl gs:=by
 unfold kL
 refine List.map_congr_left fun g hg=>?_
 rw[nums_snoc,if_neg (fun z:k=g.1=>h (by rw[z]; exact mem_map_of_mem hg)),append_nil]
def sp_Jx (C:Addr):Sp:=fun vs H Q _=>∃ (A:PA) (ms ws:List Int) (ss:Ss) (L:Kn),vs=[.ref A.p]/\Has H L/\PIn C A ms ws ss L/\(∀ x ∈ ms,x=1∨x=2)/\(∀ x ∈ ws,1<=x/\x<=8)/\GR ms.length ws.length (ssR ss) /\
 ∀ H' A' ss' N pl,Pl (ssR ss) pl->ssR ss'=trimOf (ssR ss) pl->PInN C A' ms ws ss' N->PIn C A' ms ws ss' (N++L)->Has H' (N++L)->Q (.ref A'.p) H'
theorem pl_len {nm nc:Nat}{rr:RS}{pl:List (Int×Int)} (h:Pl rr pl) (g:GR nm nc rr):pl.length<=120:=by
 have gd:Good nm nc (upS rr):=good_iff.mpr (by rw[upS_r]; exact g.good)
 refine count (ss:=upS rr) (lim_iff.mpr (by rw[upS_r]; exact g.lim)) (h.srt.imp fun {p q} hpq e=>?_) fun p hp=>?_
 ·rw[e] at hpq
  exact Int.lt_irrefl _ hpq
 ·have:=(h.mem p).mp hp
  refine(rch_iff.mpr (by rw[upS_r]; exact this)).inP gd ?_
  intro e
  unfold upS at e
  exact g.ne (List.map_eq_nil_iff.mp e)
section
variable {P:Program}{w:World}{K:PySem.W.Frag}{mg:Str->Option Value}{base:Heap}{t:Adr}
theorem scTr:FnScope ["program","kept","stretch","number","new_stretches","stretches","numbers","new_rows","rows"] ["program"] (defScope s_Jx):=⟨rfl,rfl,rfl,by decide +kernel,rfl,by decide +kernel,by decide +kernel⟩
theorem ok_Jx (T:Txt K mg t):FnOk P w K mg base CX0 7 t.f_Jx t.d_Jx ["program"] (sp_Jx t.c_Program):=by
 refine T.F_Jx.ok scTr (fun vs H Q E h=>?_) (fun cdv A outer s H vs Q E hr h=>?_)
 ·obtain⟨_,_,_,_,_,rfl,_⟩:=h
  rfl
 ·obtain⟨A,ms,wi,ss,L,rfl,hH,pin,hms,hws,g,q⟩:=h
  refine⟨_,(pss_cons (ps_set (i:=1) scTr.nd rfl (Or.inl rfl) pe_dnewK)
   (pss_cons (ps_for PassesOwn.never rfl (pi_list (pe_call (ok_Jw T) (hr.mono (by decide)) (by rfl) T.m_Jw T.F_Jw.kp (b_Jw T) .nil pass0 (pa_cons (pv 0) pa_nil))) (pg_tup rfl (pgs_cons (pg_name (i:=2) scTr.nd rfl (Or.inr rfl)) (pgs_cons (pg_name (i:=3) scTr.nd rfl (Or.inl rfl)) pgs_nil)))
    (pss_one (ps_expr (pe_bm PySem.F.plainAttrs_list PySem.F.slot_list_append PySem.F.type_list_append mt_append (pe_dset (pv 1) (pv 2) (pe_lst pa_nil) ⟨rfl,rfl,rfl,rfl⟩) (pa_cons (pv 3) pa_nil)))))
   (pss_cons (ps_set (i:=4) scTr.nd rfl (Or.inr rfl) (pe_call (ok_Ja T) (hr.mono (by decide)) (by rfl) T.m_Ja T.F_Ja.kp (b_Ja T) .nil pass0 (pa_cons (pe_callTy (call_list_dK rfl) (by rfl) T.z_list (by rfl) (pa_cons (pv 1) pa_nil)) pa_nil)))
   (pss_cons (ps_set (i:=5) scTr.nd rfl (Or.inl rfl) (pe_lst pa_nil))
   (pss_cons (ps_thaw (ps_for PassesOwn.never rfl (pi_items (pv 1)) (pg_tup rfl (pgs_cons (pg_name (i:=2) scTr.nd rfl (Or.inr rfl)) (pgs_cons (pg_name (i:=6) scTr.nd rfl (Or.inl rfl)) pgs_nil)))
    (pss_cons (ps_set (i:=7) scTr.nd rfl (Or.inr rfl) (pe_call (ok_Ja T) (hr.mono (by decide)) (by rfl) T.m_Ja T.F_Ja.kp (b_Ja T) .nil pass0 (pa_cons (pv 6) pa_nil)))
     (pss_cons (ps_setC (ix:=8) scTr.nd rfl (Or.inl rfl) (esc:=defScope s_Jx) (k:=1) ["number","program","kept","stretch","number'","new_stretches","stretches","numbers","new_rows","rows"] rfl (pi_list (pv 6)) (fun _ _ _ _ _=>by exact(pg_name (i:=0) (show List.Nodup (["number","program","kept","stretch","number'","new_stretches","stretches","numbers","new_rows","rows"]:List Str) from by decide +kernel) rfl (Or.inl rfl))) (fun _ _ _ _ _=>by exact pts_nil) (fun _ _ _ _ _=>by exact(pe_call (ok_Jy T) (hr.mono (by decide)) (by rfl) T.m_Jy T.F_Jy.kp (b_Jy T) .nil pass0 (pa_cons (pe_meth (pv 1) T.cl_Program T.M_J7 (ok_J7 T) (hr.mono (by decide)) (b_J7 T) .nil pass0 (pa_cons (pv 3) (pa_cons (pv 0) pa_nil))) (pa_cons (pv 8) (pa_cons (pv 5) pa_nil))))) rfl (by decide +kernel) (by decide +kernel) rfl (by decide +kernel) (by rfl) (fun i y h hf=>by
    by_cases c:i=3
    ·subst c; cases h; exact absurd hf (by decide +kernel)
    ·have h2:(List.set (["program","kept","stretch","number","new_stretches","stretches","numbers","new_rows","rows"]:List Str) 3 "number'")[i]?=some y:=h
     rw[List.getElem?_set_ne (fun z=>c z.symm)] at h2; exact h2) (by decide +kernel))
     (pss_one (ps_expr (pe_bm PySem.F.plainAttrs_list PySem.F.slot_list_append PySem.F.type_list_append mt_append (pv 5) (pa_cons (pv 8) pa_nil))))))))
   (pss_one (ps_ret (pe_make T.mk_Program (ok_Je T) (hr.mono (by decide)) (by rfl) T.m_Program (b_Je T) .nil pass0 (pa_cons (pe_meth0 (pv 0) T.cl_Program T.M_Jd (ok_Jd T) (hr.mono (by decide)) (b_Jd T) .nil pass0) (pa_cons (pe_meth0 (pv 0) T.cl_Program T.M_J6 (ok_J6 T) (hr.mono (by decide)) (b_J6 T) .nil pass0) (pa_cons (pv 5) pa_nil))))))))))),?_⟩
  rw[show L2.start ["program","kept","stretch","number","new_stretches","stretches","numbers","new_rows","rows"] [V.ref A.p]=([some (V.ref A.p),none,none,none,none,none,none,none,none]:St) from rfl]
  refine fun D hD=>?_
  have h1:=hH.alloc hD (.dK [])
  dsimp only[List.set] at h1 ⊢
  have mL1:∀ {z:Addr×HO},z ∈ L->z ∈ (D,HO.dK [])::L:=fun m=>mem_cons_of_mem _ m
  refine⟨_,rfl,A,ms,wi,ss,_,rfl,h1,pin.mono (fun z=>mL1),good_iff.mpr g.good,lim_iff.mpr g.lim,(fun e=>g.ne (by rw[e]; rfl)),(by rw[<- ssR_len]; exact g.l40),fun H2 ql qs pw mem h2=>?_⟩
  obtain⟨pl,epl⟩:∃ pl,qs.map (·.2)=pl:=⟨_,rfl⟩
  have hp:Pl (ssR ss) pl:=by
   rw[<- epl]
   exact⟨List.pairwise_map.mpr pw,fun p=>(mem p).trans rch_iff⟩
  have lq:qs.length<=120:=by
   have:=pl_len hp g
   rw[<- epl,length_map] at this
   exact this
  have hz0:∀ {i:Nat}{z:Pr},qs[i]?=some z->pl[i]?=some z.2:=fun h=>by rw[<- epl,getElem?_map,h]; rfl
  obtain⟨M,eM⟩:∃ M:Kn,(ql,HO.lst (prV qs))::(PrK qs++L)=M:=⟨_,rfl⟩
  have mM:∀ {z:Addr×HO},z ∈ L->z ∈ M:=fun m=>by rw[<- eM]; exact mem_cons_of_mem _ (mem_append_right _ m)
  have mql:(ql,HO.lst (prV qs)) ∈ M:=by rw[<- eM]; exact mem_cons_self
  have mqs:∀ {z:Pr},z ∈ qs->(z.1,HO.tup [V.int z.2.1,V.int z.2.2]) ∈ M:=fun hz=>by rw[<- eM]; exact mem_cons_of_mem _ (mem_append_left _ (mem_map.mpr ⟨_,hz,rfl⟩))
  obtain⟨M0,eM0⟩:∃ M0:Kn,M=M0++L:=⟨(ql,HO.lst (prV qs))::PrK qs,by rw[<- eM]; rfl⟩
  have h3:Has H2 ((D,.dK (kD []))::(kL [] []++M)):=by
   rw[<- eM]
   refine h2.perm ?_
   show((ql,HO.lst (prV qs))::(PrK qs++((D,HO.dK [])::L))).Perm ((D,HO.dK [])::(ql,HO.lst (prV qs))::(PrK qs++L))
   exact(List.Perm.cons _ List.perm_middle).trans (.swap _ _ _)
  clear h2 eM
  refine⟨ql,rfl,⟨_,SqL.of (h3.at_ _ (mem_cons_of_mem _ mql))⟩,for_list (xs:=prV qs) (fun i σ H'=>∃ (o2 o3:Option V) (gs:List (Int×Addr)),σ=[some (.ref A.p),some (.ref D),o2,o3,none,none,none,none,none]/\gs.map (·.1)=keysOf (pl.take i)/\Has H' ((D,.dK (kD gs))::(kL (pl.take i) gs++M))) ⟨_,_,[],rfl,rfl,h3⟩ ?_ ?_ ?_⟩
  ·rintro i σ H3 _ ⟨o2,o3,gs,rfl,_,h⟩
   exact SqL.of (h.at_ _ (mem_cons_of_mem _ (mem_append_right _ mql)))
  ·rintro i v σ H3 hv ⟨o2,o3,gs,rfl,egs,h⟩
   obtain⟨z,hz,rfl⟩:∃ y,qs[i]?=some y/\V.ref y.1=v:=by
    unfold prV at hv
    rw[getElem?_map] at hv
    exact Option.map_eq_some_iff.mp hv
   have ez:=hz0 hz
   have tk1:pl.take (i+1)=pl.take i++[z.2]:=by rw[List.take_add_one,ez]; rfl
   have nd:(gs.map (·.1)).Nodup:=by
    rw[egs]
    have hp2:(pl.take i).Pairwise ltP:=hp.srt.sublist (List.take_sublist _ _)
    exact rise_nd (keys_inv (pl.take i) [] [] hp2 (fun p hp'=>by have:=(hp.bd g (List.mem_of_mem_take hp')).2; omega) .nil (by simp)).1
   have gz:=h.at_ _ (mem_cons_of_mem _ (mem_append_right _ (mqs (mem_of_getElem? hz))))
   dsimp only at gz
   have lgs:gs.length<=1000:=by
    have e1:=congrArg List.length egs
    rw[length_map] at e1
    have e2:∀ (l:List (Int×Int)) (ks:List Int),(l.foldl kadd ks).length<=ks.length+l.length:=fun l=>by
     induction l with
     | nil=>intro ks; exact Nat.le_refl _
     | cons a l ih=>
      intro ks
      have:=ih (kadd ks a)
      have e3:(kadd ks a).length<=ks.length+1:=by unfold kadd; split <;> simp
      rw[List.foldl_cons,length_cons]
      omega
    have e3:=e2 (pl.take i) []
    have e4:(pl.take i).length<=pl.length:=by rw[length_take]; omega
    have:=pl_len hp g
    unfold keysOf at e1
    simp only[List.length_nil] at e3
    omega
   have lnm:∀ k,(nums (pl.take i) k).length<=1000:=fun k=>by
    unfold nums
    rw[length_map]
    have e1:=List.length_filter_le (fun p:Int×Int=>decide (p.1=k)) (pl.take i)
    have e4:(pl.take i).length<=pl.length:=by rw[length_take]; omega
    have:=pl_len hp g
    omega
   have lkD:(kD gs).length<sizeLine:=sizeOk (by unfold kD; rw[length_map]; omega)
   refine⟨z.1,_,rfl,SqT.of gz,rfl,_,_,rfl,_,_,rfl,rfl,?_⟩
   dsimp only[List.set]
   refine⟨_,rfl,D,rfl,.inl ⟨_,.inl (h.get 0 rfl)⟩,_,rfl,(sz_ 0),fun e he=>?_⟩
   have h2:=h.alloc he (.lst [])
   refine⟨_,.inl z.2.1,h2.get 1 rfl,rfl,lkD,fun v hv=>?_,fun hn=>?_⟩
   ·obtain⟨j,gg,hj,ek,rfl⟩:=kD_some hv
    have hjl:j<(kL (pl.take i) gs).length:=by unfold kL; rw[length_map]; exact(List.getElem?_eq_some_iff.mp hj).1
    have ej:((e,HO.lst [])::(D,HO.dK (kD gs))::(kL (pl.take i) gs++M))[2+j]?=some (gg.2,HO.lst ((nums (pl.take i) gg.1).map V.int)):=by
     rw[Nat.add_comm]
     show(kL (pl.take i) gs++M)[j]?=_
     rw[getElem?_append_left hjl]
     unfold kL
     rw[getElem?_map,hj]
     rfl
    refine⟨.inl ⟨rfl,_,SqL.of (h2.get (2+j) ej)⟩,_,rfl,gg.2,_,_,rfl,rfl,h2.get (2+j) ej,sizeOk (by rw[length_map]; have:=lnm gg.1; omega),?_⟩
    have h3:=h2.puti (2+j) ej (.lst ((nums (pl.take i) gg.1).map V.int++[.int z.2.2]))
    refine⟨_,_,gs,rfl,?_,?_⟩
    ·rw[tk1,keysOf_snoc,<- egs]
     unfold kadd
     rw[if_pos (by rw[<- ek]; exact mem_map_of_mem (mem_of_getElem? hj))]
    ·rw[Nat.add_comm] at h3
     have h4:=h3.tail (x:=(e,HO.lst [])) (L:=(D,HO.dK (kD gs))::(kL (pl.take i) gs++M).set j (gg.2,HO.lst ((nums (pl.take i) gg.1).map V.int++[.int z.2.2])))
     rw[List.set_append_left _ _ hjl,kL_set nd hj] at h4
     rw[tk1,show pl.take i++[z.2]=pl.take i++[(gg.1,z.2.2)] by rw[ek]]
     exact h4
   ·have hno:=kD_none hn
    rw[putK_new hn]
    have h3:=h2.puti 1 rfl (.dK (kD gs++[(.inl z.2.1,.ref e)]))
    refine⟨.inl ⟨rfl,_,SqL.of (h3.get 0 rfl)⟩,_,rfl,e,_,_,rfl,rfl,h3.get 0 rfl,sizeOk (by simp),?_⟩
    have h4:=h3.puti 0 rfl (.lst ([]++[.int z.2.2]))
    refine⟨_,_,gs++[(z.2.1,e)],rfl,?_,?_⟩
    ·rw[tk1,keysOf_snoc,<- egs,map_append]
     unfold kadd
     rw[if_neg hno]
     rfl
    ·rw[tk1]
     have e1:kL (pl.take i++[z.2]) (gs++[(z.2.1,e)])=kL (pl.take i) gs++[(e,HO.lst [.int z.2.2])]:=by
      have e2:=kL_new (pl:=pl.take i) (n:=z.2.2) hno
      have e3:nums (pl.take i++[z.2]) z.2.1=[z.2.2]:=by
       rw[nums_snoc,if_pos rfl,nums_none fun n hn=>?_]
       ·rfl
       ·have hp2:(pl.take i).Pairwise ltP:=hp.srt.sublist (List.take_sublist _ _)
        have:=(keys_inv (pl.take i) [] [] hp2 (fun p hp'=>by have:=(hp.bd g (List.mem_of_mem_take hp')).2; omega) .nil (by simp)).2 z.2.1
        exact hno (by rw[egs]; exact this.mpr ⟨n,hn⟩)
      unfold kL at e2 ⊢
      rw[map_append]
      rw[show(pl.take i++[z.2])=(pl.take i++[(z.2.1,z.2.2)]) from rfl,e2]
      show _++[(e,HO.lst ((nums (pl.take i++[(z.2.1,z.2.2)]) z.2.1).map V.int))]=_
      rw[show(pl.take i++[(z.2.1,z.2.2)])=pl.take i++[z.2] from rfl,e3]
      rfl
     have e4:kD (gs++[(z.2.1,e)])=kD gs++[(.inl z.2.1,.ref e)]:=by unfold kD; rw[map_append]; rfl
     rw[e1,e4,append_assoc]
     refine h4.perm ?_
     show((e,HO.lst [V.int z.2.2])::(D,HO.dK (kD gs++[(.inl z.2.1,.ref e)]))::(kL (pl.take i) gs++M)).Perm ((D,HO.dK (kD gs++[(.inl z.2.1,.ref e)]))::(kL (pl.take i) gs++((e,HO.lst [V.int z.2.2])::M)))
     exact(List.Perm.swap _ _ _).trans (.cons _ List.perm_middle.symm)
  ·rintro σ H3 ⟨o2,o3,gs,rfl,egs,h⟩
   have lV:(prV qs).length=pl.length:=by unfold prV; rw[length_map,<- epl,length_map]
   rw[lV,List.take_length] at egs h
   clear h3
   obtain⟨ks,eks⟩:∃ ks,keysOf pl=ks:=⟨_,rfl⟩
   have hks:=hp.keys g
   have lks:ks.length<=40:=by rw[<- eks]; exact Nat.le_trans (hp.keys_le g) g.l40
   rw[eks] at egs
   refine⟨_,rfl,D,kD gs,rfl,.inl (h.get 0 rfl),fun kl hkl=>?_⟩
   have e1:((kD gs).map fun kv=>kV kv.1)=ks.map V.int:=by
    rw[<- egs]
    unfold kD
    rw[map_map,map_map]
    rfl
   rw[e1]
   have h2:=h.alloc hkl (.lst (ks.map V.int))
   refine⟨kl,ks,_,rfl,h2,mem_cons_self,(by rw[<- eks]; exact rise_nd hks.1),by omega,fun H4 D2 h4=>?_⟩
   dsimp only[List.set]
   refine⟨(sz_ 0),fun SL hSL=>?_⟩
   have h5:=h4.alloc hSL (.lst [])
   dsimp only[List.set] at h5 ⊢
   have h6:Has _ ((D,.dK (kD gs))::(SL,.lst [])::(D2,.dK (numDo 0 ks))::(kL pl gs++M)):=(h5.sub (.cons₂ _ (.cons₂ _ (.cons _ (List.Sublist.refl _))))).perm ((List.Perm.cons _ (.swap _ _ _)).trans (.swap _ _ _))
   refine⟨D,kD gs,h6.get 0 rfl,?_⟩
   refine⟨_,rfl,D,kD gs,rfl,h6.get 0 rfl,fun o=>for_items (fun i σ H'=>∃ (o2 o3 o6 o7 o8:Option V) (sn:Ss) (N:Kn),σ=[some (.ref A.p),some (.ref D),o2,o3,some (.ref D2),some (.ref SL),o6,o7,o8]/\ssR sn=(trimOf (ssR ss) pl).take i/\(∀ z ∈ sn,(z.1,HO.lst (rwV z.2)) ∈ N)/\(∀ z ∈ sn,∀ x ∈ z.2,(x.1,HO.tup x.2.v) ∈ N++M) /\
    Has H' ((D,.frz o (.dK (kD gs)))::(SL,.lst (ssV sn))::(D2,.dK (numDo 0 ks))::(kL pl gs++(N++M)))) ⟨_,_,_,_,_,[],[],rfl,by rw[List.take_zero]; rfl,by simp,by simp,h6.puti 0 rfl _⟩ ?_ ?_ ?_⟩
   ·rintro i σ H' _ ⟨o2,o3,o6,o7,o8,sn,N,rfl,_,_,_,h⟩
    exact h.get 0 rfl
   ·clear h h2 h4 h5 h6
    rintro i kv pp σ H5 hkv hpp ⟨o2,o3,o6,o7,o8,sn,N,rfl,esn,mN,mR,h⟩
    obtain⟨gg,hgg,rfl⟩:∃ gg,gs[i]?=some gg/\(((Sum.inl gg.1:Key),V.ref gg.2):Key×V)=kv:=by
     unfold kD at hkv
     rw[getElem?_map] at hkv
     exact Option.map_eq_some_iff.mp hkv
    have hk:(keysOf pl)[i]?=some gg.1:=by rw[eks,<- egs,getElem?_map,hgg]; rfl
    have mgg:(gg.2,HO.lst ((nums pl gg.1).map V.int)) ∈ kL pl gs:=mem_map.mpr ⟨gg,mem_of_getElem? hgg,rfl⟩
    have lsn:sn.length=i:=by
     have e2:=congrArg List.length esn
     rw[ssR_len,length_take,trim_len] at e2
     have:=(List.getElem?_eq_some_iff.mp hk).1
     omega
    have h1:=h.alloc hpp (.tup [.int gg.1,.ref gg.2])
    refine⟨pp,_,rfl,SqT.of (h1.get 0 rfl),rfl,_,_,rfl,_,_,rfl,rfl,?_⟩
    dsimp only[List.set]
    obtain⟨kk,hkk⟩:∃ kk:Nat,gg.1=(kk:Int):=by
     obtain⟨n,hn⟩:=(hks.2 gg.1).mp (mem_of_getElem? hk)
     exact Int.eq_ofNat_of_zero_le (hp.bd g hn).1.1
    have lnm:(nums pl gg.1).length<=1000:=by
     unfold nums
     rw[length_map]
     have e1:=List.length_filter_le (fun p:Int×Int=>decide (p.1=gg.1)) pl
     have:=pl_len hp g
     omega
    refine⟨_,rfl,gg.2,nums pl gg.1,_,rfl,h1,mem_cons_of_mem _ (mem_cons_of_mem _ (mem_cons_of_mem _ (mem_cons_of_mem _ (mem_append_left _ mgg)))),rise_nd (hp.nums _),lnm,fun H6 D3 h2=>?_⟩
    dsimp only[List.set]
    obtain⟨B,eB⟩:∃ B:Kn,(D3,HO.dK (numDo 0 (nums pl gg.1)))::(pp,HO.tup [.int gg.1,.ref gg.2])::(D,.frz o (.dK (kD gs)))::(SL,.lst (ssV sn))::(D2,.dK (numDo 0 ks))::(kL pl gs++(N++M))=B:=⟨_,rfl⟩
    have h2':=hcast h2 eB
    have mB:∀ {z:Addr×HO},z ∈ L->z ∈ B:=fun m=>by rw[<- eB]; simp[mM m]
    have mg:(gg.2,HO.lst ((nums pl gg.1).map V.int)) ∈ B:=by rw[<- eB]; simp[mgg]
    have mD3:(D3,HO.dK (numDo 0 (nums pl gg.1))) ∈ B:=by rw[<- eB]; simp
    have mD2:(D2,HO.dK (numDo 0 ks)) ∈ B:=by rw[<- eB]; simp
    refine⟨_,rfl,gg.2,rfl,⟨_,SqL.of (h2'.at_ _ mg)⟩,fun Dr hDr=>?_⟩
    refine⟨fun n m ys H'=>∃ (rs:List (Addr×Rw)) (N2:Kn),m=(nums pl gg.1).length - n/\n<=(nums pl gg.1).length/\ys=rwV rs/\rs.map (·.2)=((nums pl gg.1).take n).map (fun n=>ren pl gg.1 (getRow (ssR ss) gg.1 n))/\(∀ x ∈ rs,(x.1,HO.tup x.2.v) ∈ N2++B)/\Has H' ((Dr,.lst ys)::(N2++B)),⟨_,[],[],rfl,Nat.zero_le _,rfl,rfl,by simp,h2'.alloc hDr _⟩,?_⟩
    rintro n m ys H7 ⟨rs,N2,rfl,hn,rfl,ers,mrs,h3⟩
    refine⟨h3.get 0 rfl,?_⟩
    have inB:∀ {z:Addr×HO},z ∈ B->H7 z.1=some z.2:=fun m=>h3.at_ _ (mem_cons_of_mem _ (mem_append_right _ m))
    have lrs:rs.length=n:=by
     have:=congrArg List.length ers
     rw[length_map,length_map,length_take] at this
     omega
    by_cases hlt:n<(nums pl gg.1).length
    ·have hx0:((nums pl gg.1).map V.int)[n]?=some (.int (nums pl gg.1)[n]):=by rw[getElem?_map,getElem?_eq_getElem hlt]; rfl
     refine .inr ⟨⟨_,_,SqL.of (inB mg),hx0⟩,?_⟩
     rintro x H8 ⟨rfl,hx⟩
     have e1:=hx _ (SqL.of (inB mg))
     rw[hx0] at e1
     cases e1
     have en:(nums pl gg.1)[n]?=some (nums pl gg.1)[n]:=getElem?_eq_getElem hlt
     generalize (nums pl gg.1)[n]=nn at en
     have rn:=hp.num.mp (mem_of_getElem? en)
     obtain⟨y,hy⟩:=g.inR rn
     obtain⟨zz,ra,rat⟩:=hy.row
     obtain⟨jn,hjn⟩:=Int.eq_ofNat_of_zero_le rat.n
     have hz1:=rat.hz
     have hx1:=rat.hx
     simp only at hjn hz1 hx1
     rw[hkk,Int.toNat_natCast] at hz1
     rw[hjn,Int.toNat_natCast] at hx1
     have mzz:=mem_of_getElem? hz1
     refine⟨rfl,tTrueT ?_⟩
     refine⟨_,rfl,A.p,A.dx,_,rfl,inB (mB pin.p),by kernel_rfl,_,rfl,_,rfl,?_⟩
     refine⟨A,_,kk,zz.1,_,jn,_,by rw[hkk,hjn]; rfl,inB (mB pin.p),inB (mB pin.s),ssV_get hz1,inB (mB (pin.l _ mzz)),rwV_get hx1,?_⟩
     refine⟨_,rfl,_,rfl,?_⟩
     have up:∀ {z:Addr×HO},z ∈ B->z ∈ (Dr,HO.lst (rwV rs))::(N2++B):=fun m=>mem_cons_of_mem _ (mem_append_right _ m)
     refine⟨ra,D3,D2,y,nums pl gg.1,ks,_,rfl,h3,up (mB (pin.r _ mzz _ (mem_of_getElem? hx1))),up mD3,up mD2,by rw[<- eks]; exact hp.need g rn hy,fun H9 a N3 ma h9=>?_⟩
     have h10:Has H9 ((Dr,.lst (rwV rs))::((N3++N2)++B)):=by
      rw[append_assoc]
      exact h9.out
     refine⟨sizeOk (by unfold rwV; rw[length_map]; omega),h10.get 0 rfl,(nums pl gg.1).length - (n+1),by omega,rs++[(a,renX (nums pl gg.1) ks y)],N3++N2,rfl,hlt,?_,?_,?_,h10.puti 0 rfl _⟩
     ·unfold rwV; rw[map_append]; rfl
     ·rw[map_append,ers,List.take_add_one,en,map_append]
      show _++[renX (nums pl gg.1) ks y]=_++[ren pl gg.1 (getRow (ssR ss) gg.1 nn)]
      rw[<- eks,renX_eq,hy.get]
     ·intro x hx
      rcases mem_append.mp hx with hx | hx
      ·rcases mem_append.mp (mrs x hx) with m | m
       ·exact mem_append_left _ (mem_append_right _ m)
       ·exact mem_append_right _ m
      ·cases mem_singleton.mp hx
       rcases mem_append.mp ma with m | m
       ·exact mem_append_left _ (mem_append_left _ m)
       ·rcases mem_cons.mp m with m | m
        ·cases m
        ·rcases mem_append.mp m with m | m
         ·exact mem_append_left _ (mem_append_right _ m)
         ·exact mem_append_right _ m
    ·have en:n=(nums pl gg.1).length:=by omega
     rw[en,List.take_length] at ers
     refine .inl ⟨⟨_,SqL.of (inB mg),by rw[length_map]; omega⟩,?_⟩
     dsimp only[gName,List.set]
     obtain⟨Y,eY⟩:∃ Y:Kn,[(D3,HO.dK (numDo 0 (nums pl gg.1))),(pp,HO.tup [.int gg.1,.ref gg.2])]=Y:=⟨_,rfl⟩
     have h4:Has H7 ((D,.frz o (.dK (kD gs)))::(SL,.lst (ssV sn))::(D2,.dK (numDo 0 ks))::(kL pl gs++((((Dr,.lst (rwV rs))::N2)++(Y++N))++M))):=by
      refine h3.perm ?_
      rw[<- eB,<- eY]
      have e5:=(pc [(D3,HO.dK (numDo 0 (nums pl gg.1))),(pp,HO.tup [.int gg.1,.ref gg.2])] ([(D,HO.frz o (.dK (kD gs))),(SL,.lst (ssV sn)),(D2,.dK (numDo 0 ks))]++kL pl gs) (N++M)).append_left ((Dr,HO.lst (rwV rs))::N2)
      have e6:=pc ((Dr,HO.lst (rwV rs))::N2) ([(D,HO.frz o (.dK (kD gs))),(SL,.lst (ssV sn)),(D2,.dK (numDo 0 ks))]++kL pl gs) ([(D3,HO.dK (numDo 0 (nums pl gg.1))),(pp,HO.tup [.int gg.1,.ref gg.2])]++(N++M))
      have e7:=e5.trans e6
      simp only[append_assoc,List.cons_append,List.nil_append] at e7 ⊢
      exact e7
     refine⟨_,rfl,.inl ⟨rfl,_,SqL.of (h4.get 1 rfl)⟩,_,rfl,SL,_,_,rfl,rfl,h4.get 1 rfl,sizeOk (by unfold ssV; rw[length_map,lsn]; have:=(List.getElem?_eq_some_iff.mp hk).1; rw[eks] at this; omega),?_⟩
     refine⟨_,_,_,_,_,sn++[(Dr,rs)],((Dr,.lst (rwV rs))::N2)++(Y++N),rfl,?_,fun z hz=>?_,fun z hz x hx=>?_,?_⟩
     ·rw[List.take_add_one,trim_get hk,<- esn,<- ers]
      unfold ssR
      rw[map_append]
      rfl
     ·rcases mem_append.mp hz with hz | hz
      ·exact mem_append_right _ (mem_append_right _ (mN z hz))
      ·cases mem_singleton.mp hz
       exact mem_append_left _ mem_cons_self
     ·rcases mem_append.mp hz with hz | hz
      ·rcases mem_append.mp (mR z hz x hx) with m | m
       ·exact mem_append_left _ (mem_append_right _ (mem_append_right _ m))
       ·exact mem_append_right _ m
      ·cases mem_singleton.mp hz
       rcases mem_append.mp (mrs x hx) with m | m
       ·exact mem_append_left _ (mem_append_left _ (mem_cons_of_mem _ m))
       ·rw[<- eB] at m
        rcases mem_cons.mp m with m | m
        ·cases m
        ·rcases mem_cons.mp m with m | m
         ·rw[<- eY,m]; simp
         ·rcases mem_cons.mp m with m | m
          ·cases m
          ·rcases mem_cons.mp m with m | m
           ·cases m
           ·rcases mem_cons.mp m with m | m
            ·cases m
            ·rcases mem_append.mp m with m | m
             ·obtain⟨_,_,e⟩:=mem_map.mp m
              injection e with _ e2
              cases e2
             ·rcases mem_append.mp m with m | m
              ·exact mem_append_left _ (mem_append_right _ (mem_append_right _ m))
              ·exact mem_append_right _ m
     ·have e8:ssV (sn++[(Dr,rs)])=ssV sn++[.ref Dr]:=by unfold ssV; rw[map_append]; rfl
      rw[e8]
      exact h4.puti 1 rfl _
   ·clear h h2 h4 h5 h6
    rintro σ H5 ⟨o2,o3,o6,o7,o8,sn,N,rfl,esn,mN,mR,h⟩
    refine⟨o,h.get 0 rfl,?_⟩
    have hk:=h.puti 0 rfl (.dK (kD gs))
    dsimp only[List.set] at hk
    have lkD:(kD gs).length=(trimOf (ssR ss) pl).length:=by
     rw[trim_len,eks,<- egs]
     unfold kD
     rw[length_map,length_map]
    rw[lkD,List.take_length] at esn
    obtain⟨R,eR⟩:∃ R:Kn,(D,HO.dK (kD gs))::(SL,.lst (ssV sn))::(D2,.dK (numDo 0 ks))::(kL pl gs++(N++M))=R:=⟨_,rfl⟩
    have h2:=hcast hk eR
    have mR2:∀ {z:Addr×HO},z ∈ N++M->z ∈ R:=fun m=>by rw[<- eR]; exact mem_cons_of_mem _ (mem_cons_of_mem _ (mem_cons_of_mem _ (mem_append_right _ m)))
    have mLR:∀ {z:Addr×HO},z ∈ L->z ∈ R:=fun m=>mR2 (mem_append_right _ (mM m))
    have mSL:(SL,HO.lst (ssV sn)) ∈ R:=by rw[<- eR]; simp
    have lsn:sn.length=(trimOf (ssR ss) pl).length:=by rw[<- esn,ssR_len]
    have gt:=hp.gr g
    refine⟨_,rfl,A.p,A.dx,_,rfl,h2.at_ _ (mLR pin.p),(pfl_n _).2.1,A,_,R,rfl,h2,mLR pin.p,mLR pin.m,fun H6 m1 h3=>?_⟩
    refine⟨_,rfl,A.p,A.dx,_,rfl,h3.tail.at_ _ (mLR pin.p),(pfl_n _).2.2.1,A,_,_,rfl,h3,mem_cons_of_mem _ (mLR pin.p),mem_cons_of_mem _ (mLR pin.w),fun H7 w1 h4=>?_⟩
    refine⟨_,rfl,?_⟩
    intro p dx hpn hdx hne
    have h7:=(h4.alloc hdx (.own p)).alloc (by rw[upd_ne (Ne.symm hne)]; exact hpn) (.ins t.c_Program dx [])
    refine⟨p,dx,m1,w1,SL,ms,wi,sn,_,rfl,h7,by simp,by simp,by simp[mSL],fun z hz=>by simp[mR2 (mem_append_left M (mN z hz))],fun z hz x hx=>by simp[mR2 (mR z hz x hx)],hms,hws,?_,?_,good_iff.mpr (by rw[esn]; exact gt.good),fun H8 A' ss' N2 eA es' pinN pin' h8=>⟨rfl,?_⟩⟩
    ·intro e
     rw[e] at lsn
     exact gt.ne (List.length_eq_zero_iff.mp lsn.symm)
    ·have:=gt.l40; omega
    ·subst eA
     obtain⟨X,eX,sX⟩:∃ X:Kn,N2++((w1,HO.lst (wi.map V.int))::(m1,.lst (ms.map V.int))::R)=X++L/\∀ z ∈ N2,z ∈ X:=⟨N2++((w1,HO.lst (wi.map V.int))::(m1,.lst (ms.map V.int))::(D,HO.dK (kD gs))::(SL,.lst (ssV sn))::(D2,.dK (numDo 0 ks))::(kL pl gs++(N++M0))),by rw[<- eR,eM0]; simp,fun z hz=>mem_append_left _ hz⟩
     rw[eX] at pin' h8
     refine q _ A' ss' X pl hp ?_ ⟨sX _ pinN.p,sX _ pinN.m,sX _ pinN.w,sX _ pinN.s,fun z hz=>sX _ (pinN.l z hz)⟩ pin' h8
     rw[<- esn]
     exact tr2 es'
end
end P
set_option Elab.async false
set_option linter.all false
set_option maxRecDepth 100000
set_option maxHeartbeats 4000000
namespace P
open PySem L2
structure MInv (x:Md):Prop where
 m:∀ v ∈ x.ms,v=1∨v=2
 l:x.cs.length=x.ws.length
 c:∀ (i:Nat) v,x.cs[i]?=some v->∃ k:Nat,x.ws[i]?=some (k:Int)/\1<=k/\k<=8/\0<=v/\v<2 ^ k
def Vd (ss:Ss) (p:Int×Int):Prop:=∃ (k n:Nat) (z:Addr×List (Addr×Rw)),p=((k:Int),(n:Int))/\ss[k]?=some z/\n<z.2.length
theorem pw_le (k:Nat):(1:Int)<=2 ^ k:=Int.pow_pos (by decide)
theorem not_last {nm nc:Nat}{ss:Ss} (hg:Good nm nc ss) {k n:Nat}{z:Addr×List (Addr×Rw)}{a:Addr}{y:Rw} (hz:ss[k]?=some z) (hn:z.2[n]?=some (a,y)) (hl:y.last=false):n+1<z.2.length:=by
 have h1:=(List.getElem?_eq_some_iff.mp hn).1
 obtain⟨a',y',e1,e2⟩:=(hg k z hz).2
 by_cases h:n+1<z.2.length
 ·exact h
 ·have en:n=z.2.length - 1:=by omega
  rw[List.getLast?_eq_getElem?,<- en,hn] at e1
  cases e1
  rw[hl] at e2
  cases e2
structure LI (nm:Nat) (ws:List Int) (ss:Ss) (i:Nat) (x:Md) (pl:Option (Int×Int)):Prop where
 inv:MInv x
 ml:x.ms.length=nm
 wl:x.ws=ws
 nl:x.ns.length<=i
 rl:x.rt.length<=i
 rv:∀ p ∈ x.rt,Vd ss p
 pv:∀ p,pl=some p->Vd ss p
theorem LI.step {nm:Nat}{ws:List Int}{ss:Ss}{i:Nat}{x:Md}{k n:Nat} (h:LI nm ws ss i x (some ((k:Int),(n:Int)))) (hi:i<=100) (hg:Good nm ws.length ss) {z:Addr×List (Addr×Rw)}{a:Addr}{y:Rw} (hz:ss[k]?=some z) (hn:z.2[n]?=some (a,y)) :
  y.fit x/\LI nm ws ss (i+1) (y.act x k n) (y.nx x k n):=by
 obtain⟨inv,ml,wl,nl,rl,rv,pv⟩:=h
 have hok:=(hg k z hz).1 (a,y) (mem_of_getElem? hn)
 have lt1:=(List.getElem?_eq_some_iff.mp hn).1
 have hwl:x.cs.length=ws.length:=by rw[inv.l,wl]
 have vd:∀ m:Nat,m<z.2.length->Vd ss ((k:Int),(m:Int)):=fun m hm=>⟨k,m,z,rfl,hz,hm⟩
 have vdi:∀ m:Int,0<=m->m<(z.2.length:Nat)->Vd ss ((k:Int),m):=fun m h0 h1=>by
  obtain⟨m,rfl⟩:=Int.eq_ofNat_of_zero_le h0
  exact vd m (by omega)
 cases y with
 | bell m=>
  refine⟨show x.ns.length<=1000 by omega,⟨⟨inv.m,inv.l,inv.c⟩,ml,wl,?_,by exact Nat.le_succ_of_le rl,rv,?_⟩⟩
  ·show(x.ns++[m]).length<=i+1
   simp; omega
  ·intro p hp
   cases hp
   exact vd (n+1) (not_last hg hz hn rfl)
 | set m s=>
  obtain⟨m0,m1,m2⟩:0<=m/\m<nm/\(s=1∨s=2):=hok
  refine⟨⟨m0,by rw[ml]; exact m1⟩,⟨⟨?_,inv.l,inv.c⟩,?_,wl,by exact Nat.le_succ_of_le nl,by exact Nat.le_succ_of_le rl,rv,?_⟩⟩
  ·intro v hv
   rcases List.mem_or_eq_of_mem_set hv with hv | rfl
   ·exact inv.m v hv
   ·exact m2
  ·show(x.ms.set _ _).length=nm
   rw[List.length_set]; exact ml
  ·intro p hp
   cases hp
   exact vd (n+1) (not_last hg hz hn rfl)
 | ask m c d=>
  obtain⟨m0,m1,c0,c1,d0,d1⟩:0<=m/\m<nm/\0<=c/\c<(z.2.length:Nat)/\0<=d/\d<(z.2.length:Nat):=hok
  refine⟨⟨m0,by rw[ml]; exact m1⟩,⟨⟨inv.m,inv.l,inv.c⟩,ml,wl,by exact Nat.le_succ_of_le nl,by exact Nat.le_succ_of_le rl,rv,?_⟩⟩
  intro p hp
  have hp:some ((k:Int),if (x.ms[m.toNat]?).getD 0=1 then c else d)=some p:=hp
  cases hp
  split
  ·exact vdi c c0 c1
  ·exact vdi d d0 d1
 | go r=>
  obtain⟨r0,r1⟩:0<=r/\r<(z.2.length:Nat):=hok
  refine⟨trivial,⟨⟨inv.m,inv.l,inv.c⟩,ml,wl,by exact Nat.le_succ_of_le nl,by exact Nat.le_succ_of_le rl,rv,?_⟩⟩
  intro p hp
  cases hp
  exact vdi r r0 r1
 | call s=>
  obtain⟨s0,s1⟩:(k:Int)<s/\s<(ss.length:Nat):=hok
  obtain⟨s,rfl⟩:=Int.eq_ofNat_of_zero_le (show 0<=s by omega)
  refine⟨show x.rt.length<=1000 by omega,⟨⟨inv.m,inv.l,inv.c⟩,ml,wl,by exact Nat.le_succ_of_le nl,?_,?_,?_⟩⟩
  ·show(x.rt++[_]).length<=i+1
   simp; omega
  ·intro p hp
   rcases mem_append.mp hp with hp | hp
   ·exact rv p hp
   ·cases mem_singleton.mp hp
    exact vd (n+1) (not_last hg hz hn rfl)
  ·intro p hp
   cases hp
   have hs:s<ss.length:=by omega
   refine⟨s,0,ss[s],rfl,getElem?_eq_getElem hs,?_⟩
   obtain⟨a',y',e1,_⟩:=(hg s _ (getElem?_eq_getElem hs)).2
   cases e:ss[s].2 with
   | nil=>rw[e] at e1; cases e1
   | cons _ _=>simp
 | fin=>
  refine⟨trivial,⟨⟨inv.m,inv.l,inv.c⟩,ml,wl,by exact Nat.le_succ_of_le nl,?_,?_,?_⟩⟩
  ·show x.rt.dropLast.length<=i+1
   simp; omega
  ·intro p hp
   exact rv p ((List.dropLast_sublist _).subset hp)
  ·intro p hp
   have hp:x.rt.getLast?=some p:=hp
   exact rv p (List.mem_of_getLast? hp)
 | bump c r=>
  obtain⟨c0,c1,r0,r1⟩:0<=c/\c<(ws.length:Nat)/\0<=r/\r<(z.2.length:Nat):=hok
  obtain⟨c,rfl⟩:=Int.eq_ofNat_of_zero_le c0
  have hc:c<x.cs.length:=by omega
  have gv:x.cs[c]?=some x.cs[c]:=getElem?_eq_getElem hc
  obtain⟨kk,hk,k1,k8,v0,v1⟩:=inv.c c _ gv
  refine⟨⟨by omega,by omega,kk,by rw[Int.toNat_natCast]; exact hk,k8⟩,⟨⟨inv.m,?_,?_⟩,ml,wl,by exact Nat.le_succ_of_le nl,by exact Nat.le_succ_of_le rl,rv,?_⟩⟩
  ·show(x.cs.set _ _).length=_
   rw[List.length_set]; exact inv.l
  ·intro j v hv
   have hv:(x.cs.set (c:Int).toNat (if x.full (c:Int) then 0 else(x.cs[(c:Int).toNat]?).getD 0+1))[j]?=some v:=hv
   rw[Int.toNat_natCast] at hv
   by_cases hj:c=j
   ·subst hj
    rw[List.getElem?_set_self hc] at hv
    cases hv
    refine⟨kk,hk,k1,k8,?_,?_⟩
    ·split
     ·omega
     ·rw[gv]; show 0<=x.cs[c]+1; omega
    ·split
     ·have:=pw_le kk; omega
     ·rename_i hf
      have:¬ x.cs[c]=1*2 ^ kk - 1:=by
       intro e
       apply hf
       unfold Md.full
       simp only[Int.toNat_natCast,gv,hk,Option.getD_some]
       exact e
      rw[gv]; show x.cs[c]+1<2 ^ kk; omega
   ·rw[List.getElem?_set_ne hj] at hv
    exact inv.c j v hv
  ·intro p hp
   have hp:some ((k:Int),if x.full (c:Int) then r else(n:Int)+1)=some p:=hp
   cases hp
   split
   ·exact vdi r r0 r1
   ·exact vd (n+1) (not_last hg hz hn rfl)
theorem tupR {C:Addr}{R:RA}{pr wv:V}{x:Md}{ra:List Addr}{N M:Kn}{a:Addr}{u:List V} (h:(a,HO.tup u) ∈ N++(rK C R pr wv x ra++M)):(a,HO.tup u) ∈ N++M:=by
 rcases mem_append.mp h with h | h
 ·exact mem_append_left _ h
 ·rcases mem_append.mp h with h | h
  ·simp[rK] at h
  ·exact mem_append_right _ h
theorem RT.map {ra:List Addr}{rt:List (Int×Int)}{L L':Kn} (h:RT ra rt L) (s:∀ a u,(a,HO.tup u) ∈ L->(a,HO.tup u) ∈ L'):RT ra rt L':=⟨h.1,fun i a z h1 h2=>s _ _ (h.2 i a z h1 h2)⟩
theorem PlIn.map {wv:V}{pl:Option (Int×Int)}{L L':Kn} (h:PlIn wv pl L) (s:∀ a u,(a,HO.tup u) ∈ L->(a,HO.tup u) ∈ L'):PlIn wv pl L':=by
 cases pl with
 | none=>exact h
 | some z=>obtain⟨a,h1,h2⟩:=h; exact⟨a,h1,s _ _ h2⟩
theorem has_mid {H:Hp}{Z X Y R:Kn} (h:Has H (Z++(X++(Y++R)))):Has H (Z++(Y++(X++R))):=h.perm (List.Perm.append_left Z (by rw[<- append_assoc,<- append_assoc]; exact List.perm_append_comm.append_right R))
end P
set_option Elab.async false
set_option linter.all false
set_option maxRecDepth 100000
set_option maxHeartbeats 4000000
namespace P
open PySem L2
def mapM (pl:List (Int×Int)) (x:Md):Md:={ x with rt:=x.rt.map (phi pl) }
section
variable {nm nc:Nat}{rr:RS}{pl:List (Int×Int)}
theorem Pl.suc2 (h:Pl rr pl) {k n:Int} (r:RchR rr (k,n)) (r':RchR rr (k,n+1)):P.phi pl (k,n+1)=((P.phi pl (k,n)).1,(P.phi pl (k,n)).2+1):=by
 unfold P.phi
 show(ix (keysOf pl) k,ix (P.nums pl k) (n+1))=(ix (keysOf pl) k,ix (P.nums pl k) n+1)
 rw[h.sucN r r']
theorem Pl.zero2 (h:Pl rr pl) (g:GR nm nc rr) {s:Int} (r:RchR rr (s,0)):P.phi pl (s,0)=(ix (keysOf pl) s,0):=by
 unfold P.phi
 show(ix (keysOf pl) s,ix (P.nums pl s) 0)=_
 rw[h.zeroN g r]
theorem sim_step (h:Pl rr pl) (g:GR nm nc rr) {x:Md}{k n:Int}{y:Rw} (rp:RchR rr (k,n)) (hy:AtR rr (k,n) y) (hrt:∀ q ∈ x.rt,RchR rr q) :
  (ren pl k y).act (mapM pl x) (phi pl (k,n)).1 (phi pl (k,n)).2=mapM pl (y.act x k n)/\(ren pl k y).nx (mapM pl x) (phi pl (k,n)).1 (phi pl (k,n)).2=(y.nx x k n).map (phi pl) /\
  (∀ q ∈ (y.act x k n).rt,RchR rr q)/\(∀ q,y.nx x k n=some q->RchR rr q)/\(y.fit x->(ren pl k y).fit (mapM pl x)):=by
 have on:∀ q,q ∈ y.onw k n->RchR rr q:=fun q hq=>.step rp hy hq
 cases y with
 | bell m=>
  have r1:=on (k,n+1) mem_cons_self
  refine⟨rfl,?_,hrt,fun q e=>by cases e; exact r1,fun f=>f⟩
  show some ((phi pl (k,n)).1,(phi pl (k,n)).2+1)=some (phi pl (k,n+1))
  rw[h.suc2 rp r1]
 | set m e=>
  have r1:=on (k,n+1) mem_cons_self
  refine⟨rfl,?_,hrt,fun q e=>by cases e; exact r1,fun f=>f⟩
  show some ((phi pl (k,n)).1,(phi pl (k,n)).2+1)=some (phi pl (k,n+1))
  rw[h.suc2 rp r1]
 | ask m a b=>
  have r1:=on (k,a) mem_cons_self
  have r2:=on (k,b) (mem_cons_of_mem _ mem_cons_self)
  refine⟨rfl,?_,hrt,fun q e=>?_,fun f=>f⟩
  ·show some ((phi pl (k,n)).1,if (x.ms[m.toNat]?).getD 0=1 then ix (nums pl k) a else ix (nums pl k) b)=some (phi pl (k,if (x.ms[m.toNat]?).getD 0=1 then a else b))
   split <;> rfl
  ·have e:some (k,if (x.ms[m.toNat]?).getD 0=1 then a else b)=some q:=e
   have e:=Option.some.inj e
   subst e
   split
   ·exact r1
   ·exact r2
 | bump c r=>
  have r1:=on (k,n+1) mem_cons_self
  have r2:=on (k,r) (mem_cons_of_mem _ mem_cons_self)
  refine⟨rfl,?_,hrt,fun q e=>?_,fun f=>f⟩
  ·show some ((phi pl (k,n)).1,if x.full c then ix (nums pl k) r else(phi pl (k,n)).2+1)=some (phi pl (k,if x.full c then r else n+1))
   by_cases cf:x.full c
   ·rw[if_pos cf,if_pos cf]; rfl
   ·rw[if_neg cf,if_neg cf,h.suc2 rp r1]
  ·have e:some (k,if x.full c then r else n+1)=some q:=e
   have e:=Option.some.inj e
   subst e
   by_cases cf:x.full c
   ·rw[if_pos cf]; exact r2
   ·rw[if_neg cf]; exact r1
 | go r=>
  have r1:=on (k,r) mem_cons_self
  exact⟨rfl,rfl,hrt,fun q e=>by cases e; exact r1,fun f=>f⟩
 | call s=>
  have r1:=on (s,0) mem_cons_self
  have r2:=on (k,n+1) (mem_cons_of_mem _ mem_cons_self)
  refine⟨?_,?_,fun q hq=>?_,fun q e=>by cases e; exact r1,fun f=>?_⟩
  ·show({ mapM pl x with rt:=x.rt.map (phi pl)++[((phi pl (k,n)).1,(phi pl (k,n)).2+1)] }:Md)={ x with rt:=(x.rt++[(k,n+1)]).map (phi pl) }
   rw[map_append,<- h.suc2 rp r2]
   rfl
  ·show some (ix (keysOf pl) s,0)=some (phi pl (s,0))
   rw[h.zero2 g r1]
  ·rcases mem_append.mp (show q ∈ x.rt++[(k,n+1)] from hq) with m | m
   ·exact hrt q m
   ·cases mem_singleton.mp m; exact r2
  ·show(x.rt.map (phi pl)).length<=1000
   rw[length_map]
   exact f
 | fin=>
  refine⟨?_,?_,fun q hq=>hrt q (List.dropLast_subset _ hq),fun q e=>hrt q (List.mem_of_getLast? e),fun f=>f⟩
  ·show({ mapM pl x with rt:=(x.rt.map (phi pl)).dropLast }:Md)={ x with rt:=x.rt.dropLast.map (phi pl) }
   rw[List.map_dropLast]
   rfl
  ·show(x.rt.map (phi pl)).getLast?=(x.rt.getLast?).map (phi pl)
   rw[List.getLast?_map]
end
end P
set_option Elab.async false
set_option linter.all false
set_option maxRecDepth 100000
set_option maxHeartbeats 4000000
namespace P
open PySem L2
def sp_alike (C:Addr):Sp:=fun vs H Q _=>∃ (R1 R2:RA) (p1 w1 p2 w2:V) (x1 x2:Md) (ra1 ra2:List Addr) (m w:Addr) (ms ws:List Int) (L:Kn),vs=[.ref R1.r,.ref R2.r,.ref m,.ref w]/\Has H (rK C R1 p1 w1 x1 ra1++(rK C R2 p2 w2 x2 ra2++L))/\(m,HO.lst (ms.map V.int)) ∈ L/\(w,HO.lst (ws.map V.int)) ∈ L /\
 x1.ns=x2.ns/\ra1.length=ra2.length/\decide (w1=.non)=decide (w2=.non)/\x1.ms=x2.ms/\x1.cs=x2.cs/\ms.length=x1.ms.length/\ws.length=x1.cs.length/\x1.ns.length<=1000/\ms.length<=1000/\ws.length<=1000 /\
 ∀ H',Has H' (rK C R1 p1 w1 x1 ra1++(rK C R2 p2 w2 x2 ra2++L))->Q (.bl true) H'
theorem repl_snoc (n:Nat):(List.replicate (n+1) true).map V.bl=(List.replicate n true).map V.bl++[.bl true]:=by rw[List.replicate_succ',map_append]; rfl
section
variable {P:Program}{w:World}{K:PySem.W.Frag}{mg:Str->Option Value}{base:Heap}{t:Adr}
theorem scAl:FnScope ["_law_one","_law_other","_law_marks","_law_widths"] ["_law_one","_law_other","_law_marks","_law_widths"] (defScope s_alike):=⟨rfl,rfl,rfl,by decide +kernel,rfl,by decide +kernel,by decide +kernel⟩
theorem ok_alike (T:Txt K mg t):FnOk P w K mg base CX0 4 t.f_alike t.d_alike ["_law_one","_law_other","_law_marks","_law_widths"] (sp_alike t.c_Reader):=by
 refine T.F_alike.ok scAl (fun vs H Q E h=>?_) (fun cdv A outer s H vs Q E hr h=>?_)
 ·obtain⟨_,_,_,_,_,_,_,_,_,_,_,_,_,_,_,rfl,_⟩:=h
  rfl
 ·obtain⟨R1,R2,p1,w1,p2,w2,x1,x2,ra1,ra2,m,wl,ms,ws,L,rfl,hH,mm,mw,ens,era,ew,ems,ecs,lms,lws,lns,hm1,hw1,q⟩:=h
  refine⟨_,(pss_cons (ps_if (PW.pt (pw_or (pt_not (pt_val (pe_call (ok_J11 T) (hr.mono (by decide)) (by rfl) T.m_J11 T.F_J11.kp (b_J11 T) .nil pass0 (pa_cons (pe_meth0 (pv 1) T.cl_Reader T.M_Jh (ok_Jh T) (hr.mono (by decide)) (b_Jh T) .nil pass0) (pa_cons (pe_meth0 (pv 0) T.cl_Reader T.M_Jh (ok_Jh T) (hr.mono (by decide)) (b_Jh T) .nil pass0) pa_nil))))) (pw_or1 (pt_cmpR op_ne (pe_callB call_len_seq (by rfl) T.z_len (by rfl) (pa_cons (pe_meth0 (pv 1) T.cl_Reader T.M_J8 (ok_J8 T) (hr.mono (by decide)) (b_J8 T) .nil pass0) pa_nil)) (pe_callB call_len_seq (by rfl) T.z_len (by rfl) (pa_cons (pe_meth0 (pv 0) T.cl_Reader T.M_J8 (ok_J8 T) (hr.mono (by decide)) (b_J8 T) .nil pass0) pa_nil)) (nomark _)))))
    (pss_one (ps_ret pe_bl))
    pss_nil)
   (pss_cons (ps_if (pt_cmpR op_ne (pe_cmpR op_isN (pe_meth0 (pv 0) T.cl_Reader T.M_Jg (ok_Jg T) (hr.mono (by decide)) (b_Jg T) .nil pass0) pe_non (nomark _)) (pe_cmpR op_isN (pe_meth0 (pv 1) T.cl_Reader T.M_Jg (ok_Jg T) (hr.mono (by decide)) (b_Jg T) .nil pass0) pe_non (nomark _)) (nomark _))
    (pss_one (ps_ret pe_bl))
    pss_nil)
   (pss_cons (ps_if (pt_not (pt_val (pe_callB (call_all rfl) (by rfl) T.z_all (by rfl) (pa_cons (pe_lc (esc:=defScope s_alike) (k:=1) ["_law_mark","_law_one","_law_other","_law_marks","_law_widths"] rfl (pi_range1 (by rfl) T.z_range (pa_cons (pe_callB call_len_seq (by rfl) T.z_len (by rfl) (pa_cons (pv 2) pa_nil)) pa_nil)) (fun _ _ _ _ _=>by exact(pg_name (i:=0) (show List.Nodup (["_law_mark","_law_one","_law_other","_law_marks","_law_widths"]:List Str) from by decide +kernel) rfl (Or.inl rfl))) (fun _ _ _ _ _=>by exact pts_nil) (fun _ _ _ _ _=>by exact(pe_call (ok_is T) (hr.mono (by decide)) (by rfl) T.m_is T.F_is.kp (b_is T) .nil pass0 (pa_cons (pe_meth (pv 2) T.cl_Reader T.M_Jp (ok_Jp T) (hr.mono (by decide)) (b_Jp T) .nil pass0 (pa_cons (pv 0) pa_nil)) (pa_cons (pe_meth (pv 1) T.cl_Reader T.M_Jp (ok_Jp T) (hr.mono (by decide)) (b_Jp T) .nil pass0 (pa_cons (pv 0) pa_nil)) pa_nil)))) rfl (by decide +kernel) (by decide +kernel) rfl (by decide +kernel) (by rfl) (fun _ _ h _=>h) (by decide +kernel)) pa_nil))))
    (pss_one (ps_ret pe_bl))
    pss_nil)
   (pss_one (ps_ret (pe_callB (call_all rfl) (by rfl) T.z_all (by rfl) (pa_cons (pe_lc (esc:=defScope s_alike) (k:=1) ["_law_counter","_law_one","_law_other","_law_marks","_law_widths"] rfl (pi_range1 (by rfl) T.z_range (pa_cons (pe_callB call_len_seq (by rfl) T.z_len (by rfl) (pa_cons (pv 3) pa_nil)) pa_nil)) (fun _ _ _ _ _=>by exact(pg_name (i:=0) (show List.Nodup (["_law_counter","_law_one","_law_other","_law_marks","_law_widths"]:List Str) from by decide +kernel) rfl (Or.inl rfl))) (fun _ _ _ _ _=>by exact pts_nil) (fun _ _ _ _ _=>by exact(pe_call (ok_is T) (hr.mono (by decide)) (by rfl) T.m_is T.F_is.kp (b_is T) .nil pass0 (pa_cons (pe_meth (pv 2) T.cl_Reader T.M_J9 (ok_J9 T) (hr.mono (by decide)) (b_J9 T) .nil pass0 (pa_cons (pv 0) pa_nil)) (pa_cons (pe_meth (pv 1) T.cl_Reader T.M_J9 (ok_J9 T) (hr.mono (by decide)) (b_J9 T) .nil pass0 (pa_cons (pv 0) pa_nil)) pa_nil)))) rfl (by decide +kernel) (by decide +kernel) rfl (by decide +kernel) (by rfl) (fun _ _ h _=>h) (by decide +kernel)) pa_nil))))))),?_⟩
  rw[show L2.start ["_law_one","_law_other","_law_marks","_law_widths"] [V.ref R1.r,V.ref R2.r,V.ref m,V.ref wl]=([some (V.ref R1.r),some (V.ref R2.r),some (V.ref m),some (V.ref wl)]:St) from rfl]
  have b0:=hH.comm
  refine⟨_,rfl,R2.r,R2.dx,_,rfl,b0.get 0 rfl,(qfl_n _ _ _).2.2.2.2.1,R2,p2,w2,x2,ra2,_,rfl,b0,fun H1 l1 h1=>?_⟩
  have a1:=Has.comm (X:=(l1,HO.lst (x2.ns.map V.int))::rK t.c_Reader R2 p2 w2 x2 ra2) (Y:=rK t.c_Reader R1 p1 w1 x1 ra1) h1
  refine⟨_,rfl,R1.r,R1.dx,_,rfl,a1.get 0 rfl,(qfl_n _ _ _).2.2.2.2.1,R1,p1,w1,x1,ra1,_,rfl,a1,fun H2 l2 h2=>?_⟩
  refine⟨l1,l2,x2.ns,x1.ns,8,0,_,rfl,h2,rfl,rfl,by rw[<- ens]; omega,fun H3 h3=>?_⟩
  refine⟨_,rfl,ifF (by rw[ens]; simp) ?_⟩
  have a3:Has H3 (rK t.c_Reader R1 p1 w1 x1 ra1++(rK t.c_Reader R2 p2 w2 x2 ra2++L)):=(Has.comm (X:=(l1,HO.lst (x2.ns.map V.int))::[]) (Y:=rK t.c_Reader R1 p1 w1 x1 ra1) (h3.tail.comm (X:=rK t.c_Reader R1 p1 w1 x1 ra1) (Y:=(l1,HO.lst (x2.ns.map V.int))::[]))).comm.tail
  have b3:=a3.comm
  refine⟨_,rfl,R2.r,R2.dx,_,rfl,b3.get 0 rfl,(qfl_n _ _ _).2.1,R2,p2,w2,x2,ra2,_,rfl,b3,fun H4 l4 h4=>?_⟩
  refine⟨l4,_,rfl,.inl (SqL.of (h4.get 0 rfl)),?_⟩
  have a4:=h4.tail.comm
  refine⟨_,rfl,R1.r,R1.dx,_,rfl,a4.get 0 rfl,(qfl_n _ _ _).2.1,R1,p1,w1,x1,ra1,_,rfl,a4,fun H5 l5 h5=>?_⟩
  refine⟨l5,_,rfl,.inl (SqL.of (h5.get 0 rfl)),rfl,_,rfl,ifF ?_ ?_⟩
  ·rw[length_map,length_map,era]; simp
  have a5:=h5.tail
  have b5:=a5.comm
  refine⟨_,rfl,R1.r,R1.dx,_,rfl,a5.get 0 rfl,(qfl_n _ _ _).1,R1,p1,w1,x1,ra1,_,rfl,a5,rfl,?_⟩
  refine⟨_,rfl,R2.r,R2.dx,_,rfl,b5.get 0 rfl,(qfl_n _ _ _).1,R2,p2,w2,x2,ra2,_,rfl,b5,rfl,rfl,_,rfl,ifF (by rw[ew]; simp) ?_⟩
  have gm:=a5.right.right.at_ _ mm
  have gw:=a5.right.right.at_ _ mw
  dsimp only at gm gw
  refine⟨_,rfl,m,_,rfl,.inl (SqL.of gm),_,rfl,by omega,by rw[length_map]; omega,fun D hD=>?_⟩
  rw[length_map]
  refine⟨fun n k zs H'=>k=ms.length - n/\n<=ms.length/\zs=(List.replicate n true).map V.bl/\Has H' ((D,.lst zs)::(rK t.c_Reader R1 p1 w1 x1 ra1++(rK t.c_Reader R2 p2 w2 x2 ra2++L))),⟨_,rfl,Nat.zero_le _,rfl,a5.alloc hD _⟩,?_⟩
  rintro n k zs H6 ⟨rfl,hn,rfl,h6⟩
  refine⟨h6.get 0 rfl,?_⟩
  by_cases hlt:n<ms.length
  ·refine .inr ⟨(show n<(ms.length:Int).toNat by omega),?_⟩
   rintro x H7 ⟨rfl,rfl⟩
   refine⟨rfl,tTrueT ?_⟩
   rw[Int.zero_add]
   have hv:x1.ms[n]?=some x1.ms[n]:=getElem?_eq_getElem (by omega)
   have b6:=Has.comm (X:=(D,HO.lst ((List.replicate n true).map V.bl))::rK t.c_Reader R1 p1 w1 x1 ra1) (Y:=rK t.c_Reader R2 p2 w2 x2 ra2) h6
   have a6:=Has.comm (X:=(D,HO.lst ((List.replicate n true).map V.bl))::[]) (Y:=rK t.c_Reader R1 p1 w1 x1 ra1) h6
   refine⟨_,rfl,R2.r,R2.dx,_,rfl,b6.get 0 rfl,(qfl_n _ _ _).2.2.1,_,rfl,R2,p2,w2,x2,ra2,_,n,_,rfl,b6,by rw[<- ems]; exact hv,?_⟩
   refine⟨_,rfl,R1.r,R1.dx,_,rfl,a6.get 0 rfl,(qfl_n _ _ _).2.2.1,_,rfl,R1,p1,w1,x1,ra1,_,n,_,rfl,a6,hv,?_⟩
   refine⟨_,_,rfl,?_⟩
   rw[decide_eq_true rfl]
   exact⟨sizeOk (by rw[length_map,length_replicate]; omega),h6.get 0 rfl,ms.length - (n+1),by omega,rfl,hlt,(repl_snoc n).symm,h6.puti 0 rfl _⟩
  ·refine .inl ⟨(show(ms.length:Int).toNat<=n by omega),?_⟩
   refine⟨D,List.replicate n true,rfl,SqL.of (h6.get 0 rfl),?_⟩
   rw[show(List.replicate n true).all id=true by simp]
   refine⟨_,rfl,ifF rfl ?_⟩
   have a7:=h6.tail
   have gw:=a7.right.right.at_ _ mw
   dsimp only at gw
   refine⟨_,rfl,wl,_,rfl,.inl (SqL.of gw),_,rfl,by omega,by rw[length_map]; omega,fun D2 hD2=>?_⟩
   rw[length_map]
   refine⟨fun n k zs H'=>k=ws.length - n/\n<=ws.length/\zs=(List.replicate n true).map V.bl/\Has H' ((D2,.lst zs)::(rK t.c_Reader R1 p1 w1 x1 ra1++(rK t.c_Reader R2 p2 w2 x2 ra2++L))),⟨_,rfl,Nat.zero_le _,rfl,a7.alloc hD2 _⟩,?_⟩
   clear hn hlt h6 hD a7 gw
   rintro n k zs H6 ⟨rfl,hn,rfl,h6⟩
   refine⟨h6.get 0 rfl,?_⟩
   by_cases hlt:n<ws.length
   ·refine .inr ⟨(show n<(ws.length:Int).toNat by omega),?_⟩
    rintro x H7 ⟨rfl,rfl⟩
    refine⟨rfl,tTrueT ?_⟩
    rw[Int.zero_add]
    have hv:x1.cs[n]?=some x1.cs[n]:=getElem?_eq_getElem (by omega)
    have b6:=Has.comm (X:=(D2,HO.lst ((List.replicate n true).map V.bl))::rK t.c_Reader R1 p1 w1 x1 ra1) (Y:=rK t.c_Reader R2 p2 w2 x2 ra2) h6
    have a6:=Has.comm (X:=(D2,HO.lst ((List.replicate n true).map V.bl))::[]) (Y:=rK t.c_Reader R1 p1 w1 x1 ra1) h6
    refine⟨_,rfl,R2.r,R2.dx,_,rfl,b6.get 0 rfl,(qfl_n _ _ _).2.2.2.1,_,rfl,R2,p2,w2,x2,ra2,_,n,_,rfl,b6,by rw[<- ecs]; exact hv,?_⟩
    refine⟨_,rfl,R1.r,R1.dx,_,rfl,a6.get 0 rfl,(qfl_n _ _ _).2.2.2.1,_,rfl,R1,p1,w1,x1,ra1,_,n,_,rfl,a6,hv,?_⟩
    refine⟨_,_,rfl,?_⟩
    rw[decide_eq_true rfl]
    exact⟨sizeOk (by rw[length_map,length_replicate]; omega),h6.get 0 rfl,ws.length - (n+1),by omega,rfl,hlt,(repl_snoc n).symm,h6.puti 0 rfl _⟩
   ·refine .inl ⟨(show(ws.length:Int).toNat<=n by omega),?_⟩
    refine⟨D2,List.replicate n true,rfl,SqL.of (h6.get 0 rfl),?_⟩
    rw[show(List.replicate n true).all id=true by simp]
    exact q _ h6.tail
end
end P
set_option Elab.async false
set_option linter.all false
set_option maxRecDepth 100000
set_option maxHeartbeats 4000000
namespace P
open PySem L2
def sp_law (K:PySem.W.Frag):Sp:=fun vs H Q _=>∃ (a:Addr) (ns:List Int),vs=[.ref a]/\SqL K H a (ns.map V.int)/\ns.length<=63/\∀ H',Q (.bl true) H'
theorem law_binds {K:PySem.W.Frag}{mg:Str->Option Value}{t:Adr} (T:Txt K mg t) (s:Shared) (u:Value):BindsTo s t.d_law ⟨[u],[]⟩ [("_law_script",u)]:=by
 obtain⟨oc,od,kV,doc,pm,an,cdv,ct,osl,e,lk,hcd⟩:=T.F_law.ex
 rw[e,T.e_law]
 exact .of_eq rfl
theorem law_start {K:PySem.W.Frag}{H:Hp}{a:Addr}{ns:List Int} (hl:ns.length<=63) (hS:SqL K H a (ns.map V.int)) {E:XK}:sp_law K [.ref a] H (fun v _=>v=.bl true) E:=⟨a,ns,rfl,hS,hl,fun _=>rfl⟩
theorem kit_bb (K:PySem.W.Frag):PySem.W.kitOne K (.type "bool") (.type "bool")=some true:=by kernel_rfl
theorem and_no {c:Bool}{U A B:Prop} (hB:B) (hU:c=true->B->U):if c=true then U else(if false=true then A else B):=by
 cases c
 ·exact iteF (iteF hB)
 ·exact iteT (hU rfl hB)
def nx2 (rr:RS) (x:Md) (pl:Option (Int×Int)):Md×Option (Int×Int) :=
 match pl with
 | none=>(x,none)
 | some p=>((getRow rr p.1 p.2).act x p.1 p.2,(getRow rr p.1 p.2).nx x p.1 p.2)
theorem step2 {C Cp:Addr}{R:RA}{A:PA}{wv:V}{pl:Option (Int×Int)}{x:Md}{ra:List Addr}{L:Kn}{ss:Ss}{ms ws:List Int}{H:Hp}{Q:VK}{E:XK} (h:Has H (rK C R (.ref A.p) wv x ra++L)) (rt:RT ra x.rt L) (pi:PlIn wv pl L) (pin:PIn Cp A ms ws ss L)
  (ok:∀ p,pl=some p->∃ y,AtR (ssR ss) p y/\y.fit x)
  (q:∀ H' N ra' wv',RT ra' (nx2 (ssR ss) x pl).1.rt (N++L)->PlIn wv' (nx2 (ssR ss) x pl).2 (N++L)->Has H' (rK C R (.ref A.p) wv' (nx2 (ssR ss) x pl).1 ra'++(N++L))->Q (.bl pl.isSome) H'):sp_step C Cp [.ref R.r] H Q E:=by
 cases pl with
 | none=>exact⟨R,A,wv,none,x,ra,L,rfl,h,rt,pi,.inl ⟨rfl,q H [] ra wv rt pi h⟩⟩
 | some p=>
  obtain⟨y,hy,ft⟩:=ok p rfl
  obtain⟨z,a,ro⟩:=hy.row
  obtain⟨k,n⟩:=p
  obtain⟨kk,hk⟩:=Int.eq_ofNat_of_zero_le ro.k
  obtain⟨nn,hn⟩:=Int.eq_ofNat_of_zero_le ro.n
  have hz:=ro.hz
  have hx:=ro.hx
  have eg:=hy.get
  simp only at hk hn hz hx
  subst hk hn
  rw[Int.toNat_natCast] at hz hx
  have mz:=mem_of_getElem? hz
  refine⟨R,A,wv,some ((kk:Int),(nn:Int)),x,ra,L,rfl,h,rt,pi,.inr ⟨ss,kk,nn,z,a,y,rfl,pin.p,pin.s,hz,pin.l _ mz,hx,pin.r _ mz _ (mem_of_getElem? hx),ft,fun H' N ra' wv' r1 r2 r3=>?_⟩⟩
  refine q H' N ra' wv' ?_ ?_ ?_
  ·show RT ra' ((getRow (ssR ss) kk nn).act x kk nn).rt (N++L)
   rw[eg]; exact r1
  ·show PlIn wv' ((getRow (ssR ss) kk nn).nx x kk nn) (N++L)
   rw[eg]; exact r2
  ·show Has H' (rK C R (.ref A.p) wv' ((getRow (ssR ss) kk nn).act x kk nn) ra'++(N++L))
   rw[eg]; exact r3
structure S2 (nm:Nat) (ws:List Int) (ss:Ss) (pq:List (Int×Int)) (i:Nat) (x:Md) (pl:Option (Int×Int)):Prop where
 li:LI nm ws ss i x pl
 rt:∀ q ∈ x.rt,RchR (ssR ss) q
 pl:∀ q,pl=some q->RchR (ssR ss) q
theorem LI.up {nm:Nat}{ws:List Int}{ss:Ss}{i j:Nat}{x:Md}{pl:Option (Int×Int)} (h:LI nm ws ss i x pl) (hij:i<=j):LI nm ws ss j x pl :=
 ⟨h.inv,h.ml,h.wl,Nat.le_trans h.nl hij,Nat.le_trans h.rl hij,h.rv,h.pv⟩
theorem S2.step {nm:Nat}{ws:List Int}{ss:Ss}{pq:List (Int×Int)}{i:Nat}{x:Md}{pl:Option (Int×Int)} (s:S2 nm ws ss pq i x pl) (hi:i<=100) (h:Pl (ssR ss) pq) (g:GR nm ws.length (ssR ss)) :
  (∀ p,pl=some p->∃ y,AtR (ssR ss) p y/\y.fit x)/\(∀ p,pl.map (phi pq)=some p->∃ y,AtR (trimOf (ssR ss) pq) p y/\y.fit (mapM pq x)) /\
  nx2 (trimOf (ssR ss) pq) (mapM pq x) (pl.map (phi pq))=(mapM pq (nx2 (ssR ss) x pl).1,(nx2 (ssR ss) x pl).2.map (phi pq))/\S2 nm ws ss pq (i+1) (nx2 (ssR ss) x pl).1 (nx2 (ssR ss) x pl).2:=by
 cases pl with
 | none=>exact⟨fun p e=>(nomatch e),fun p e=>(nomatch e),rfl,s.li.up (Nat.le_succ _),s.rt,s.pl⟩
 | some p=>
  have r:=s.pl p rfl
  obtain⟨y,hy⟩:=g.inR r
  obtain⟨k,n⟩:=p
  obtain⟨z,a,ro⟩:=hy.row
  obtain⟨kk,hk⟩:=Int.eq_ofNat_of_zero_le ro.k
  obtain⟨nn,hn⟩:=Int.eq_ofNat_of_zero_le ro.n
  have hz:=ro.hz
  have hx:=ro.hx
  simp only at hk hn hz hx
  subst hk hn
  rw[Int.toNat_natCast] at hz hx
  obtain⟨ft,li2⟩:=s.li.step hi (good_iff.mpr g.good) hz hx
  obtain⟨s1,s2,s3,s4,s5⟩:=sim_step h g r hy s.rt
  have at2:=h.at_ g r hy
  have eg2:getRow (trimOf (ssR ss) pq) (phi pq ((kk:Int),(nn:Int))).1 (phi pq ((kk:Int),(nn:Int))).2=ren pq kk y:=AtR.get at2
  have e1:nx2 (ssR ss) x (some ((kk:Int),(nn:Int)))=(y.act x kk nn,y.nx x kk nn):=by
   show((getRow (ssR ss) kk nn).act x kk nn,(getRow (ssR ss) kk nn).nx x kk nn)=_
   rw[hy.get]
  rw[e1]
  refine⟨fun p e=>by cases e; exact⟨y,hy,ft⟩,fun p e=>?_,?_,li2,s3,s4⟩
  ·have e:=Option.some.inj e
   subst e
   exact⟨_,at2,s5 ft⟩
  ·show((getRow (trimOf (ssR ss) pq) (phi pq ((kk:Int),(nn:Int))).1 (phi pq ((kk:Int),(nn:Int))).2).act (mapM pq x) _ _,(getRow (trimOf (ssR ss) pq) (phi pq ((kk:Int),(nn:Int))).1 (phi pq ((kk:Int),(nn:Int))).2).nx (mapM pq x) _ _)=_
   rw[eg2,s1,s2]
theorem S2.turn {nm:Nat}{ws:List Int}{ss:Ss}{pq:List (Int×Int)}{i:Nat}{x:Md}{pl:Option (Int×Int)} (s:S2 nm ws ss pq i x pl) (n:Nat) {v:Int} (hv:v=1∨v=2):S2 nm ws ss pq i { x with ms:=x.ms.set n v } pl :=
 ⟨⟨⟨fun u hu=>(List.mem_or_eq_of_mem_set hu).elim (s.li.inv.m u) (fun e=>by rw[e]; exact hv),s.li.inv.l,s.li.inv.c⟩,by show(x.ms.set n v).length=nm; rw[List.length_set]; exact s.li.ml,s.li.wl,s.li.nl,s.li.rl,s.li.rv,s.li.pv⟩,s.rt,s.pl⟩
theorem S2.fill {nm:Nat}{ws:List Int}{ss:Ss}{pq:List (Int×Int)}{i:Nat}{x:Md}{pl:Option (Int×Int)} (s:S2 nm ws ss pq i x pl) {n k:Nat}{v:Int} (hn:n<x.cs.length) (hk:x.ws[n]?=some (k:Int)) (k1:1<=k) (k8:k<=8) (v0:0<=v) (v1:v<2 ^ k):S2 nm ws ss pq i { x with cs:=x.cs.set n v } pl :=
 ⟨⟨⟨s.li.inv.m,by show(x.cs.set n v).length=x.ws.length; rw[List.length_set]; exact s.li.inv.l,fun j u hu=>by
  have hu:(x.cs.set n v)[j]?=some u:=hu
  by_cases e:j=n
  ·subst e
   rw[List.getElem?_set_self hn] at hu
   cases hu
   exact⟨k,hk,k1,k8,v0,v1⟩
  ·rw[List.getElem?_set_ne (Ne.symm e)] at hu
   exact s.li.inv.c j u hu⟩,s.li.ml,s.li.wl,s.li.nl,s.li.rl,s.li.rv,s.li.pv⟩,s.rt,s.pl⟩
theorem Pl.phi0 {nm nc:Nat}{rr:RS}{pl:List (Int×Int)} (h:Pl rr pl) (g:GR nm nc rr):P.phi pl (0,0)=(0,0):=by
 rw[h.zero2 g .base]
 have e1:ix (keysOf pl) 0=0:=by
  unfold ix
  rw[rise_0 (h.keys g).1 (((h.keys g).2 _).mpr ⟨0,(h.mem _).mpr .base⟩) fun b hb=>?_]
  ·rfl
  ·obtain⟨n,hn⟩:=((h.keys g).2 b).mp hb
   exact(h.bd g hn).1.1
 rw[e1]
theorem wv_non {wv:V}{pl:Option (Int×Int)}{L:Kn} (h:PlIn wv pl L):decide (wv=.non) = !pl.isSome:=by
 cases pl with
 | none=>rw[(show wv=.non from h)]; rfl
 | some z=>
  obtain⟨a,e,_⟩:=h
  rw[e]
  exact decide_eq_false fun z=>nomatch z
section
variable {P:Program}{w:World}{K:PySem.W.Frag}{mg:Str->Option Value}{base:Heap}{t:Adr}
theorem scLa:FnScope ["_law_script","_law_d","_law_marks","_law_widths","_law_parts_here","_law_program_here","_law_one","_law_other","_law_rows","_law_turn","_law_went","_law_draw"] ["_law_script"] (defScope s_law):=⟨rfl,rfl,rfl,by decide +kernel,rfl,by decide +kernel,by decide +kernel⟩
theorem ok_law (T:Txt K mg t):FnOk P w K mg base CX0 12 t.f_law t.d_law ["_law_script"] (sp_law K):=by
 refine T.F_law.ok scLa (fun vs H Q E h=>?_) (fun cdv A outer s H vs Q E hr h=>?_)
 ·obtain⟨_,_,rfl,_⟩:=h
  rfl
 ·obtain⟨a,ns,rfl,hS,hns,q⟩:=h
  refine⟨_,(pss_cons (ps_set (i:=1) scLa.nd rfl (Or.inl rfl) (pe_call (ok_draws T) (hr.mono (by decide)) (by rfl) T.m_draws T.F_draws.kp (b_draws T) .nil pass0 (pa_cons (pv 0) (pa_cons pe_int pa_nil))))
   (pss_cons (ps_asg (pe_call (ok_Jv T) (hr.mono (by decide)) (by rfl) T.m_Jv T.F_Jv.kp (b_Jv T) .nil pass0 (pa_cons (pe_slice sl_list (pv 1) (po_some pe_int) po_none) pa_nil)) (pg_tup rfl (pgs_cons (pg_name (i:=2) scLa.nd rfl (Or.inl rfl)) (pgs_cons (pg_name (i:=3) scLa.nd rfl (Or.inl rfl)) (pgs_cons (pg_name (i:=4) scLa.nd rfl (Or.inl rfl)) pgs_nil)))))
   (pss_cons (ps_set (i:=5) scLa.nd rfl (Or.inl rfl) (pe_make T.mk_Program (ok_Je T) (hr.mono (by decide)) (by rfl) T.m_Program (b_Je T) .nil pass0 (pa_cons (pv 2) (pa_cons (pv 3) (pa_cons (pe_call (ok_J01 T) (hr.mono (by decide)) (by rfl) T.m_J01 T.F_J01.kp (b_J01 T) .nil pass0 (pa_cons (pv 4) pa_nil)) pa_nil)))))
   (pss_cons (ps_set (i:=6) scLa.nd rfl (Or.inl rfl) (pe_make T.mk_Reader (ok_Jk T) (hr.mono (by decide)) (by rfl) T.m_Reader (b_Jk T) .nil pass0 (pa_cons (pv 5) pa_nil)))
   (pss_cons (ps_set (i:=7) scLa.nd rfl (Or.inl rfl) (pe_make T.mk_Reader (ok_Jk T) (hr.mono (by decide)) (by rfl) T.m_Reader (b_Jk T) .nil pass0 (pa_cons (pe_call (ok_Jx T) (hr.mono (by decide)) (by rfl) T.m_Jx T.F_Jx.kp (b_Jx T) .nil pass0 (pa_cons (pv 5) pa_nil)) pa_nil)))
   (pss_cons (ps_set (i:=8) scLa.nd rfl (Or.inl rfl) (pe_call (ok_Jw T) (hr.mono (by decide)) (by rfl) T.m_Jw T.F_Jw.kp (b_Jw T) .nil pass0 (pa_cons (pv 5) pa_nil)))
   (pss_cons (ps_for PassesOwn.never rfl (pi_range1 (by rfl) T.z_range (pa_cons (pe_op op_mod (pe_ix ix_list (pv 1) pe_int (fun _ _=>rfl)) pe_int) pa_nil)) (pg_name (i:=9) scLa.nd rfl (Or.inl rfl))
    (pss_cons (ps_if (PW.pt (pw_and (pt_cmpR op_notN (pe_meth0 (pv 6) T.cl_Reader T.M_Jg (ok_Jg T) (hr.mono (by decide)) (b_Jg T) .nil pass0) pe_non (nomark _)) (pw_and1 (pt_cmpR (op_notInD hr.units2) (pe_meth0 (pv 6) T.cl_Reader T.M_Jg (ok_Jg T) (hr.mono (by decide)) (b_Jg T) .nil pass0) (pv 8) (by rfl)))))
      (pss_one (ps_ret pe_bl))
      pss_nil)
     (pss_cons (ps_set (i:=10) scLa.nd rfl (Or.inl rfl) (pe_meth0 (pv 6) T.cl_Reader T.M_Jl (ok_Jl T) (hr.mono (by decide)) (b_Jl T) .nil pass0))
     (pss_cons (ps_if (PW.pt (pw_or (pt_cmpR op_ne (pe_meth0 (pv 7) T.cl_Reader T.M_Jl (ok_Jl T) (hr.mono (by decide)) (b_Jl T) .nil pass0) (pv 10) (nomark _)) (pw_or1 (pt_not (pt_val (pe_callB call_isi (by rfl) T.z_isinstance (by rfl) (pa_cons (pv 10) (pa_cons (pe_bltn (v:=.ty "bool") (by rfl) T.z_bool (by rfl) rfl) pa_nil))))))))
      (pss_one (ps_ret pe_bl))
      pss_nil)
     (pss_cons (ps_set (i:=11) scLa.nd rfl (Or.inl rfl) (pe_ix ix_list (pv 1) (pe_op op_add pe_int (pv 9)) (fun _ _=>rfl)))
     (pss_cons (ps_cut (ps_if (PW.pt (pw_and (pt_cmpR op_eq (pe_op op_mod (pv 11) pe_int) pe_int (nomark _)) (pw_and1 (pt_cmpR op_gt (pe_callB call_len_seq (by rfl) T.z_len (by rfl) (pa_cons (pv 2) pa_nil)) pe_int (nomark _)))))
      (pss_cons (ps_expr (pe_meth (pv 6) T.cl_Reader T.M_Jn (ok_Jn T) (hr.mono (by decide)) (b_Jn T) .nil pass0 (pa_cons (pe_op op_mod (pv 11) (pe_callB call_len_seq (by rfl) T.z_len (by rfl) (pa_cons (pv 2) pa_nil))) (pa_cons (pe_op op_add pe_int (pe_op op_mod (pe_op op_fdiv (pv 11) pe_int) pe_int)) pa_nil))))
       (pss_one (ps_expr (pe_meth (pv 7) T.cl_Reader T.M_Jn (ok_Jn T) (hr.mono (by decide)) (b_Jn T) .nil pass0 (pa_cons (pe_op op_mod (pv 11) (pe_callB call_len_seq (by rfl) T.z_len (by rfl) (pa_cons (pv 2) pa_nil))) (pa_cons (pe_op op_add pe_int (pe_op op_mod (pe_op op_fdiv (pv 11) pe_int) pe_int)) pa_nil))))))
      pss_nil))
     (pss_cons (ps_cut (ps_if (PW.pt (pw_and (pt_cmpR op_eq (pe_op op_mod (pv 11) pe_int) pe_int (nomark _)) (pw_and1 (pt_cmpR op_gt (pe_callB call_len_seq (by rfl) T.z_len (by rfl) (pa_cons (pv 3) pa_nil)) pe_int (nomark _)))))
      (pss_cons (ps_expr (pe_meth (pv 6) T.cl_Reader T.M_Jo (ok_Jo T) (hr.mono (by decide)) (b_Jo T) .nil pass0 (pa_cons (pe_op op_mod (pv 11) (pe_callB call_len_seq (by rfl) T.z_len (by rfl) (pa_cons (pv 3) pa_nil))) (pa_cons (pe_op op_mod (pe_op op_fdiv (pv 11) pe_int) pe_int) pa_nil))))
       (pss_one (ps_expr (pe_meth (pv 7) T.cl_Reader T.M_Jo (ok_Jo T) (hr.mono (by decide)) (b_Jo T) .nil pass0 (pa_cons (pe_op op_mod (pv 11) (pe_callB call_len_seq (by rfl) T.z_len (by rfl) (pa_cons (pv 3) pa_nil))) (pa_cons (pe_op op_mod (pe_op op_fdiv (pv 11) pe_int) pe_int) pa_nil))))))
      pss_nil))
     (pss_one (ps_if (pt_not (pt_val (pe_call (ok_alike T) (hr.mono (by decide)) (by rfl) T.m_alike T.F_alike.kp (b_alike T) .nil pass0 (pa_cons (pv 6) (pa_cons (pv 7) (pa_cons (pv 2) (pa_cons (pv 3) pa_nil)))))))
      (pss_one (ps_ret pe_bl))
      pss_nil)))))))))
   (pss_one (ps_ret pe_bl))))))))),?_⟩
  rw[show L2.start ["_law_script","_law_d","_law_marks","_law_widths","_law_parts_here","_law_program_here","_law_one","_law_other","_law_rows","_law_turn","_law_went","_law_draw"] [V.ref a]=([some (V.ref a),none,none,none,none,none,none,none,none,none,none,none]:St) from rfl]
  refine⟨_,rfl,a,ns,390,[],rfl,hS,hns,by decide,by decide,Has.nil,fun H1 d ds h1 hds hdr=>?_⟩
  dsimp only[List.set]
  have hds:ds.length=390:=hds
  refine⟨_,rfl,_,rfl,d,_,rfl,SqL.of (h1.get 0 rfl),fun d1 hd1=>?_⟩
  have ecut:cutV (ds.map V.int) (some 52) none=(ds.drop 52).map V.int:=by
   unfold cutV
   have s1:HT.sIx (ds.map V.int).length 0 (some 52)=52:=by rw[length_map,hds]; decide
   have s2:HT.sIx (ds.map V.int).length (ds.map V.int).length none=390:=by rw[length_map,hds]; decide
   rw[s1,s2,<- List.map_drop]
   exact List.take_of_length_le (by rw[length_map,List.length_drop]; omega)
  rw[ecut] at *
  have h2:=h1.alloc hd1 (.lst ((ds.drop 52).map V.int))
  refine⟨d1,ds.drop 52,_,rfl,h2,by simp,by rw[List.length_drop]; omega,fun H3 tp m wl pl ms ws ss N i1 i2 i3 i4 i5 i6 hgood hlim i7 i8 h3=>?_⟩
  refine⟨tp,_,rfl,SqT.of (h3.get 0 rfl),rfl,_,_,rfl,_,_,rfl,_,_,rfl,rfl,?_⟩
  dsimp only[List.set]
  have h3':=h3.tail
  obtain⟨L2,eL2⟩:∃ L2:Kn,(pl,HO.lst (ssV ss))::(N++[(wl,HO.lst (ws.map V.int)),(m,HO.lst (ms.map V.int)),(d1,HO.lst ((ds.drop 52).map V.int)),(d,HO.lst (ds.map V.int))])=L2:=⟨_,rfl⟩
  have hL2:=hcast h3' eL2
  have mpl:(pl,HO.lst (ssV ss)) ∈ L2:=by rw[<- eL2]; exact mem_cons_self
  have mN:∀ z ∈ N,z ∈ L2:=fun z hz=>by rw[<- eL2]; exact mem_cons_of_mem _ (mem_append_left _ hz)
  have mwl:(wl,HO.lst (ws.map V.int)) ∈ L2:=by rw[<- eL2]; simp
  have mm:(m,HO.lst (ms.map V.int)) ∈ L2:=by rw[<- eL2]; simp
  have mdd:(d,HO.lst (ds.map V.int)) ∈ L2:=by rw[<- eL2]; simp
  clear eL2 h3' h3
  refine⟨_,rfl,_,rfl,_,rfl,pl,ss,L2,rfl,hL2,mpl,fun z hz=>mN _ (i7 z hz),by omega,fun H4 D s1 N1 es1 mN1 h4=>?_⟩
  intro p dx hp hdx hne
  have h5:=(h4.alloc hdx (.own p)).alloc (by rw[upd_ne (Ne.symm hne)]; exact hp) (.ins t.c_Program dx [])
  have mL2:∀ z ∈ L2,z ∈ (D,HO.lst (ssV s1))::(N1++L2):=fun z hz=>mem_cons_of_mem _ (mem_append_right _ hz)
  have s1row:∀ z ∈ s1,∀ x ∈ z.2,(x.1,HO.tup x.2.v) ∈ L2:=by
   intro z hz x hx
   have:z.2 ∈ ss.map (·.2):=by rw[<- es1]; exact mem_map_of_mem hz
   obtain⟨z',e1,e2⟩:=mem_map.mp this
   exact mN _ (i8 z' e1 x (by rw[e2]; exact hx))
  have lsl:s1.length=ss.length:=by simpa using congrArg List.length es1
  refine⟨p,dx,m,wl,D,ms,ws,s1,_,rfl,h5,mL2 _ mm,mL2 _ mwl,mem_cons_self,fun z hz=>mem_cons_of_mem _ (mem_append_left _ (mN1 z hz)),fun z hz x hx=>mL2 _ (s1row z hz x hx),i1,i2,(by intro e; rw[e] at lsl; exact i5 (List.length_eq_zero_iff.mp lsl.symm)),by omega,hgood.tr es1,fun H6 A ss' N2 eA es' pinN pin h6=>⟨rfl,?_⟩⟩
  subst eA
  dsimp only[List.set]
  have g0:GR ms.length ws.length (ssR ss):=⟨good_iff.mp hgood,(fun e=>i5 (by unfold ssR at e; exact List.map_eq_nil_iff.mp e)),by rw[ssR_len]; exact i6,lim_iff.mp hlim⟩
  have eRR:ssR ss'=ssR ss:=tr2 (es'.trans es1)
  have g1:GR ms.length ws.length (ssR ss'):=by rw[eRR]; exact g0
  obtain⟨B,eB⟩:∃ B:Kn,N2++((D,HO.lst (ssV s1))::(N1++L2))=B:=⟨_,rfl⟩
  rw[eB] at pin h6
  have mB:∀ z ∈ L2,z ∈ B:=fun z hz=>by rw[<- eB]; exact mem_append_right _ (mL2 z hz)
  clear h5 hp hdx hne pinN eB h4
  refine⟨_,rfl,?_⟩
  intro r dx2 hr2 hdx2 hne2
  have h7:=(h6.alloc hdx2 (.own r)).alloc (by rw[upd_ne (Ne.symm hne2)]; exact hr2) (.ins t.c_Reader dx2 [])
  refine⟨r,dx2,A,ms,ws,_,rfl,h7,pin.p,pin.m,pin.w,by omega,fun H8 R pl0 eR h8=>⟨rfl,?_⟩⟩
  subst eR
  dsimp only[List.set]
  clear h7 hr2 hdx2 hne2 h6
  obtain⟨X1,eX1⟩:∃ X1:Kn,rK t.c_Reader R (.ref A.p) (.ref pl0) ⟨ms,ws,ws.map (fun _=>0),[],[]⟩ []++((pl0,.tup [.int 0,.int 0])::B)=X1:=⟨_,rfl⟩
  have h8':=hcast h8 eX1
  have mX1:∀ z ∈ B,z ∈ X1:=fun z hz=>by rw[<- eX1]; exact mem_append_right _ (mem_cons_of_mem _ hz)
  refine⟨_,rfl,A,ms,ws,ss',X1,rfl,h8',pin.mono mX1,i1,i2,g1,fun H9 A2 s2 N3 pq hpq es2 pinN2 pin2 h9=>?_⟩
  intro r2 dx3 hr3 hdx3 hne3
  have h10:=(h9.alloc hdx3 (.own r2)).alloc (by rw[upd_ne (Ne.symm hne3)]; exact hr3) (.ins t.c_Reader dx3 [])
  refine⟨r2,dx3,A2,ms,ws,_,rfl,h10,pin2.p,pin2.m,pin2.w,by omega,fun H11 R2 pl2 eR2 h11=>⟨rfl,?_⟩⟩
  subst eR2
  dsimp only[List.set]
  clear h10 hr3 hdx3 hne3 h9 h8 h8'
  have g2:GR ms.length ws.length (ssR s2):=by rw[es2]; exact hpq.gr g1
  refine⟨_,rfl,A,ms,ws,ss',_,rfl,h11,pin.mono (fun z hz=>mem_append_right _ (mem_cons_of_mem _ (mem_append_right _ (mX1 z hz)))),good_iff.mpr g1.good,lim_iff.mpr g1.lim,(fun e=>g1.ne (by rw[e]; rfl)),by rw[<- ssR_len]; exact g1.l40,fun H12 rl rq pw mem h12=>?_⟩
  dsimp only[List.set]
  have erq:rq.map (·.2)=pq:=(⟨List.pairwise_map.mpr pw,fun p=>(mem p).trans rch_iff⟩:Pl (ssR ss') (rq.map (·.2))).uniq hpq
  obtain⟨M,eM⟩:∃ M:Kn,(rl,HO.lst (prV rq))::(PrK rq++((pl2,HO.tup [.int 0,.int 0])::(N3++((pl0,HO.tup [.int 0,.int 0])::B))))=M:=⟨_,rfl⟩
  have h13:Has H12 (rK t.c_Reader R (.ref A.p) (.ref pl0) ⟨ms,ws,ws.map (fun _=>0),[],[]⟩ []++(rK t.c_Reader R2 (.ref A2.p) (.ref pl2) ⟨ms,ws,ws.map (fun _=>0),[],[]⟩ []++M)):=by
   refine h12.perm ?_
   rw[<- eM,<- eX1]
   have e1:=pc (α:=Addr×HO) ((rl,HO.lst (prV rq))::PrK rq) (rK t.c_Reader R2 (.ref A2.p) (.ref pl2) ⟨ms,ws,ws.map (fun _=>0),[],[]⟩ []) (((pl2,HO.tup [.int 0,.int 0])::N3)++(rK t.c_Reader R (.ref A.p) (.ref pl0) ⟨ms,ws,ws.map (fun _=>0),[],[]⟩ []++((pl0,.tup [.int 0,.int 0])::B)))
   have e2:=(((pc (α:=Addr×HO) ((pl2,HO.tup [.int 0,.int 0])::N3) (rK t.c_Reader R (.ref A.p) (.ref pl0) ⟨ms,ws,ws.map (fun _=>0),[],[]⟩ []) ((pl0,.tup [.int 0,.int 0])::B)).append_left ((rl,HO.lst (prV rq))::PrK rq)).append_left (rK t.c_Reader R2 (.ref A2.p) (.ref pl2) ⟨ms,ws,ws.map (fun _=>0),[],[]⟩ []))
   have e3:=(pc (α:=Addr×HO) ((rl,HO.lst (prV rq))::PrK rq) (rK t.c_Reader R (.ref A.p) (.ref pl0) ⟨ms,ws,ws.map (fun _=>0),[],[]⟩ []) (((pl2,HO.tup [.int 0,.int 0])::N3)++((pl0,.tup [.int 0,.int 0])::B))).append_left (rK t.c_Reader R2 (.ref A2.p) (.ref pl2) ⟨ms,ws,ws.map (fun _=>0),[],[]⟩ [])
   have e4:=pc (α:=Addr×HO) (rK t.c_Reader R2 (.ref A2.p) (.ref pl2) ⟨ms,ws,ws.map (fun _=>0),[],[]⟩ []) (rK t.c_Reader R (.ref A.p) (.ref pl0) ⟨ms,ws,ws.map (fun _=>0),[],[]⟩ []) (((rl,HO.lst (prV rq))::PrK rq)++(((pl2,HO.tup [.int 0,.int 0])::N3)++((pl0,.tup [.int 0,.int 0])::B)))
   have e5:=((e1.trans e2).trans e3).trans e4
   simp only[append_assoc,List.cons_append] at e5 ⊢
   exact e5
  have mM:∀ z ∈ B,z ∈ M:=fun z hz=>by rw[<- eM]; simp[hz]
  have mrl:(rl,HO.lst (prV rq)) ∈ M:=by rw[<- eM]; exact mem_cons_self
  have mrq:∀ z ∈ rq,(z.1,HO.tup [V.int z.2.1,V.int z.2.2]) ∈ M:=fun z hz=>by rw[<- eM]; exact mem_cons_of_mem _ (mem_append_left _ (mem_map.mpr ⟨_,hz,rfl⟩))
  have mp0:(pl0,HO.tup [.int 0,.int 0]) ∈ M:=by rw[<- eM]; simp
  have mp2:(pl2,HO.tup [.int 0,.int 0]) ∈ M:=by rw[<- eM]; simp
  have pinM:PIn t.c_Program A ms ws ss' M:=pin.mono mM
  have pin2M:PIn t.c_Program A2 ms ws s2 M:=by
   have s3:∀ {z:Addr×HO},z ∈ N3->z ∈ M:=fun {z} hz=>by rw[<- eM]; simp[hz]
   refine⟨s3 pinN2.p,s3 pinN2.m,s3 pinN2.w,s3 pinN2.s,fun z hz=>s3 (pinN2.l z hz),fun z hz x hx=>?_⟩
   have m:=pin2.r z hz x hx
   rw[<- eX1] at m
   have m:=tupR m
   rw[<- eM]
   rcases mem_append.mp m with m | m
   ·simp[m]
   ·simp[m]
  have inv0:MInv ⟨ms,ws,ws.map (fun _=>0),[],[]⟩:=by
   refine⟨i1,by rw[length_map],fun i v hv=>?_⟩
   have hv:(ws.map fun _=>(0:Int))[i]?=some v:=hv
   rw[getElem?_map] at hv
   obtain⟨w0,hw0,rfl⟩:=Option.map_eq_some_iff.mp hv
   have:=i2 w0 (mem_of_getElem? hw0)
   obtain⟨k,rfl⟩:=Int.eq_ofNat_of_zero_le (show 0<=w0 by omega)
   exact⟨k,hw0,by omega,by omega,Int.le_refl _,by have:=pw_le k; omega⟩
  have vd0:Vd ss' (0,0):=by
   obtain⟨y,_,_,r0,hr0,hx0⟩:=g1.inR .base
   obtain⟨z,hz,rfl⟩:=ssR_inv hr0
   have:=(List.getElem?_eq_some_iff.mp hx0).1
   rw[length_map] at this
   exact⟨0,0,z,rfl,hz,this⟩
  have gd:atI (ds.map V.int) 0=some (.int (ds.getD (0:Int).toNat 0)):=dgI 0 (by decide) (by omega)
  have s20:S2 ms.length ws ss' pq 0 ⟨ms,ws,ws.map (fun _=>0),[],[]⟩ (some (0,0)):=⟨⟨inv0,rfl,rfl,Nat.le_refl _,Nat.le_refl _,by simp,fun p e=>by cases e; exact vd0⟩,by simp,fun q e=>by cases e; exact .base⟩
  have gdM:∀ {H':Hp}{X:Kn}{M':Kn},(∀ z ∈ M,z ∈ M')->Has H' (X++M')->SqL K H' d (ds.map V.int):=fun mm h=>SqL.of (h.at_ (d,HO.lst (ds.map V.int)) (mem_append_right _ (mm _ (mM _ (mB _ mdd)))))
  refine⟨_,rfl,d,_,_,_,rfl,rfl,gdM (X:=rK t.c_Reader R (.ref A.p) (.ref pl0) ⟨ms,ws,ws.map (fun _=>0),[],[]⟩ []++rK t.c_Reader R2 (.ref A2.p) (.ref pl2) ⟨ms,ws,ws.map (fun _=>0),[],[]⟩ []) (fun z hz=>hz) (by rw[append_assoc]; exact h13),gd,_,_,rfl,rfl,(show(0:Int)<50 by decide),_,rfl,by omega,by omega,for_range (fun i σ H'=>∃ (o9 o10 o11:Option V) (x:Md) (pl':Option (Int×Int)) (w1 w2:V) (ra1 ra2:List Addr) (M':Kn),σ=[some (.ref a),some (.ref d),some (.ref m),some (.ref wl),some (.ref pl),some (.ref A.p),some (.ref R.r),some (.ref R2.r),some (.ref rl),o9,o10,o11]/\S2 ms.length ws ss' pq i x pl'/\(∀ z ∈ M,z ∈ M')/\RT ra1 x.rt M'/\PlIn w1 pl' M'/\RT ra2 (mapM pq x).rt M'/\PlIn w2 (pl'.map (phi pq)) M'/\Has H' (rK t.c_Reader R (.ref A.p) w1 x ra1++(rK t.c_Reader R2 (.ref A2.p) w2 (mapM pq x) ra2++M'))) ⟨_,_,_,_,some (0,0),_,_,[],[],M,rfl,s20,fun z hz=>hz,⟨rfl,by simp⟩,⟨pl0,rfl,mp0⟩,⟨rfl,by simp⟩,⟨pl2,rfl,by show(pl2,HO.tup [V.int (phi pq (0,0)).1,V.int (phi pq (0,0)).2]) ∈ M; rw[hpq.phi0 g1]; exact mp2⟩,h13⟩ ?_ ?_⟩
  ·clear h13
   rintro i σ H2 hi ⟨o9,o10,o11,x,pl',w1,w2,ra1,ra2,M',rfl,s2i,mM',r1,q1,r2,q2,h2⟩
   have hi:i<50:=by
    have:i<(ds.getD (0:Int).toNat 0 % 50).toNat:=hi
    omega
   show tSeq _ _ _ _ _
   dsimp only[List.set]
   refine⟨_,rfl,R.r,R.dx,_,rfl,h2.get 0 rfl,(qfl_n _ _ _).1,R,.ref A.p,w1,x,ra1,_,rfl,h2,rfl,_,rfl,?_⟩
   refine and_no ?_ fun hc hB=>?_
   ·obtain⟨ok1,ok2,enx,s2n⟩:=s2i.step (by omega) hpq g1
    have upA:∀ z ∈ M',z ∈ rK t.c_Reader R2 (.ref A2.p) w2 (mapM pq x) ra2++M':=fun z hz=>mem_append_right _ hz
    refine⟨_,rfl,R.r,R.dx,_,rfl,h2.get 0 rfl,(qfl_n _ _ _).2.2.2.2.2.1,?_⟩
    unfold tNil
    refine step2 h2 (r1.mono upA) (q1.mono upA) (pinM.mono fun z hz=>upA z (mM' z hz)) ok1 fun H3 N4 ra3 w3 rt1 pi1 h3=>?_
    dsimp only[List.set]
    have h4:=(has_mid (Z:=rK t.c_Reader R (.ref A.p) w3 (nx2 (ssR ss') x pl').1 ra3) (X:=N4) (Y:=rK t.c_Reader R2 (.ref A2.p) w2 (mapM pq x) ra2) (R:=M') h3).comm
    have upB:∀ z ∈ M',z ∈ rK t.c_Reader R (.ref A.p) w3 (nx2 (ssR ss') x pl').1 ra3++(N4++M'):=fun z hz=>mem_append_right _ (mem_append_right _ hz)
    have ism:(pl'.map (phi pq)).isSome=pl'.isSome:=Option.isSome_map
    refine⟨_,rfl,R2.r,R2.dx,_,rfl,h4.get 0 rfl,(qfl_n _ _ _).2.2.2.2.2.1,?_⟩
    dsimp only[List.set]
    refine step2 (ss:=s2) h4 (r2.mono upB) (q2.mono upB) (pin2M.mono fun z hz=>upB z (mM' z hz)) (by rw[es2]; exact ok2) fun H5 N5 ra4 w4 rt2 pi2 h5=>?_
    rw[es2,enx] at rt2 pi2 h5
    rw[ism]
    generalize nx2 (ssR ss') x pl'=nq at *
    obtain⟨y,ql⟩:=nq
    dsimp only at rt1 pi1 h3 h4 rt2 pi2 h5 s2n upB
    obtain⟨M2,eM2⟩:∃ M2:Kn,N5++(N4++M')=M2:=⟨_,rfl⟩
    have h6:Has H5 (rK t.c_Reader R (.ref A.p) w3 y ra3++(rK t.c_Reader R2 (.ref A2.p) w4 (mapM pq y) ra4++M2)):=by
     rw[<- eM2]
     exact(has_mid (Z:=rK t.c_Reader R2 (.ref A2.p) w4 (mapM pq y) ra4) (X:=N5) (Y:=rK t.c_Reader R (.ref A.p) w3 y ra3) (R:=N4++M') h5).comm
    have rtA:RT ra3 y.rt M2:=rt1.map fun a u m=>by rw[<- eM2]; exact mem_append_right _ (tupR m)
    have piA:PlIn w3 ql M2:=pi1.map fun a u m=>by rw[<- eM2]; exact mem_append_right _ (tupR m)
    have rtB:RT ra4 (mapM pq y).rt M2:=rt2.map fun a u m=>by rw[<- eM2]; exact tupR m
    have piB:PlIn w4 (ql.map (phi pq)) M2:=pi2.map fun a u m=>by rw[<- eM2]; exact tupR m
    have mM2:∀ z ∈ M,z ∈ M2:=fun z hz=>by rw[<- eM2]; exact mem_append_right _ (mem_append_right _ (mM' z hz))
    clear h3 h4 h5 rt1 pi1 rt2 pi2 upA upB ok1 ok2 enx r1 r2 q1 q2 h2 s2i eM2
    refine⟨_,rfl,rfl,_,rfl,ifF (by simp) ?_⟩
    refine⟨_,rfl,_,_,_,_,rfl,.bl _,kit_bb K,_,rfl,ifF rfl ?_⟩
    have gS:∀ {H':Hp}{y1 y2:Md},Has H' (rK t.c_Reader R (.ref A.p) w3 y1 ra3++(rK t.c_Reader R2 (.ref A2.p) w4 y2 ra4++M2))->∀ {z:Addr×HO},z ∈ M2->H' z.1=some z.2:=fun {_ _ _} h {_} m=>h.at_ _ (mem_append_right _ (mem_append_right _ m))
    refine⟨_,rfl,_,rfl,_,_,rfl,rfl,d,_,_,_,rfl,rfl,SqL.of (gS h6 (mM2 _ (mM _ (mB _ mdd)))),dgI (1+(0+(i:Int))) (by omega) (by omega),?_⟩
    dsimp only[List.set]
    obtain⟨dw,edw⟩:∃ dw,ds.getD (1+(0+(i:Int))).toNat 0=dw:=⟨_,rfl⟩
    rw[edw]
    have lV:(ms.map V.int).length=ms.length:=length_map _
    have lW:(ws.map V.int).length=ws.length:=length_map _
    have mmM:=mM2 _ (mM _ (mB _ mm))
    have mwM:=mM2 _ (mM _ (mB _ mwl))
    refine⟨fun σ' H'=>∃ (y2:Md),σ'=[some (.ref a),some (.ref d),some (.ref m),some (.ref wl),some (.ref pl),some (.ref A.p),some (.ref R.r),some (.ref R2.r),some (.ref rl),some (.int (0+(i:Int))),some (.bl pl'.isSome),some (.int dw)]/\S2 ms.length ws ss' pq (i+1) y2 ql/\y2.rt=y.rt/\Has H' (rK t.c_Reader R (.ref A.p) w3 y2 ra3++(rK t.c_Reader R2 (.ref A2.p) w4 (mapM pq y2) ra4++M2)),?_,?_⟩
    ·refine⟨_,rfl,_,_,rfl,rfl,(show(0:Int)<5 by decide),rfl,_,rfl,?_⟩
     rw[decInt]
     refine and_if (fun z=>⟨_,rfl,m,_,rfl,.inl (SqL.of (gS h6 mmM)),_,_,rfl,rfl,_,rfl,z⟩) (fun _ hp=>?_) (fun _=>?_)
     ·have hp:(0:Int)<((ms.map V.int).length:Int):=hp
      obtain⟨n,hn⟩:=Int.eq_ofNat_of_zero_le (Int.emod_nonneg dw (show((ms.map V.int).length:Int)≠0 by omega))
      have hn1:n<ms.length:=by have:=Int.emod_lt_of_pos dw hp; omega
      have hv:1+dw / 5 % 2=1∨1+dw / 5 % 2=2:=by omega
      refine⟨_,rfl,R.r,R.dx,_,rfl,h6.get 0 rfl,(qfl_n2 _ _ _).1,_,rfl,_,rfl,m,_,rfl,.inl (SqL.of (gS h6 mmM)),_,_,rfl,rfl,hp,_,rfl,_,_,rfl,rfl,⟨by decide,by decide⟩,_,_,rfl,rfl,(show(0:Int)<2 by decide),_,_,rfl,rfl,?_⟩
      refine⟨R,.ref A.p,w3,y,ra3,_,n,1+dw / 5 % 2,by show [V.ref R.r,V.int (dw % ((ms.map V.int).length:Int)),V.int (1+dw / 5 % 2)]=_; rw[hn],h6,by rw[s2n.li.ml]; exact hn1,hv,fun H6 h7=>?_⟩
      have h8:=h7.comm
      refine⟨_,rfl,R2.r,R2.dx,_,rfl,h8.get 0 rfl,(qfl_n2 _ _ _).1,_,rfl,_,rfl,m,_,rfl,.inl (SqL.of (gS h7 mmM)),_,_,rfl,rfl,hp,_,rfl,_,_,rfl,rfl,⟨by decide,by decide⟩,_,_,rfl,rfl,(show(0:Int)<2 by decide),_,_,rfl,rfl,?_⟩
      refine⟨R2,.ref A2.p,w4,mapM pq y,ra4,_,n,1+dw / 5 % 2,by show [V.ref R2.r,V.int (dw % ((ms.map V.int).length:Int)),V.int (1+dw / 5 % 2)]=_; rw[hn],h8,by show n<y.ms.length; rw[s2n.li.ml]; exact hn1,hv,fun H7 h9=>?_⟩
      exact⟨{ y with ms:=y.ms.set n (1+dw / 5 % 2) },rfl,s2n.turn n hv,rfl,h9.comm⟩
     ·exact⟨y,rfl,s2n,rfl,h6⟩
    ·rintro σ' H' ⟨y2,rfl,s2y,ert,h7⟩
     refine⟨fun σ' H'=>∃ (y2:Md),σ'=[some (.ref a),some (.ref d),some (.ref m),some (.ref wl),some (.ref pl),some (.ref A.p),some (.ref R.r),some (.ref R2.r),some (.ref rl),some (.int (0+(i:Int))),some (.bl pl'.isSome),some (.int dw)]/\S2 ms.length ws ss' pq (i+1) y2 ql/\y2.rt=y.rt/\Has H' (rK t.c_Reader R (.ref A.p) w3 y2 ra3++(rK t.c_Reader R2 (.ref A2.p) w4 (mapM pq y2) ra4++M2)),?_,?_⟩
     ·refine⟨_,rfl,_,_,rfl,rfl,(show(0:Int)<5 by decide),rfl,_,rfl,?_⟩
      rw[decInt]
      refine and_if (fun z=>⟨_,rfl,wl,_,rfl,.inl (SqL.of (gS h7 mwM)),_,_,rfl,rfl,_,rfl,z⟩) (fun _ hp=>?_) (fun _=>?_)
      ·have hp:(0:Int)<((ws.map V.int).length:Int):=hp
       obtain⟨n,hn⟩:=Int.eq_ofNat_of_zero_le (Int.emod_nonneg dw (show((ws.map V.int).length:Int)≠0 by omega))
       have hn1:n<ws.length:=by have:=Int.emod_lt_of_pos dw hp; omega
       have lcs:y2.cs.length=ws.length:=by rw[s2y.li.inv.l,s2y.li.wl]
       obtain⟨k,hk,k1,k8,_,_⟩:=s2y.li.inv.c n y2.cs[n] (getElem?_eq_getElem (by omega))
       have kp:(2:Int)<=2 ^ k:=by
        obtain⟨k',rfl⟩:∃ k',k=k'+1:=⟨k - 1,by omega⟩
        have:=pw_le k'
        rw[Int.pow_succ]
        omega
       refine⟨_,rfl,R.r,R.dx,_,rfl,h7.get 0 rfl,(qfl_n2 _ _ _).2.1,_,rfl,_,rfl,wl,_,rfl,.inl (SqL.of (gS h7 mwM)),_,_,rfl,rfl,hp,_,rfl,_,_,rfl,rfl,⟨by decide,by decide⟩,_,_,rfl,rfl,(show(0:Int)<2 by decide),?_⟩
       refine⟨R,.ref A.p,w3,y2,ra3,_,n,k,dw / 5 % 2,by show [V.ref R.r,V.int (dw % ((ws.map V.int).length:Int)),V.int (dw / 5 % 2)]=_; rw[hn],h7,by omega,hk,k8,by omega,by omega,fun H6 h8=>?_⟩
       have h9:=h8.comm
       refine⟨_,rfl,R2.r,R2.dx,_,rfl,h9.get 0 rfl,(qfl_n2 _ _ _).2.1,_,rfl,_,rfl,wl,_,rfl,.inl (SqL.of (gS h8 mwM)),_,_,rfl,rfl,hp,_,rfl,_,_,rfl,rfl,⟨by decide,by decide⟩,_,_,rfl,rfl,(show(0:Int)<2 by decide),?_⟩
       refine⟨R2,.ref A2.p,w4,mapM pq y2,ra4,_,n,k,dw / 5 % 2,by show [V.ref R2.r,V.int (dw % ((ws.map V.int).length:Int)),V.int (dw / 5 % 2)]=_; rw[hn],h9,by show n<y2.cs.length; omega,hk,k8,by omega,by omega,fun H7 h10=>?_⟩
       exact⟨{ y2 with cs:=y2.cs.set n (dw / 5 % 2) },rfl,s2y.fill (by omega) hk k1 k8 (by omega) (by omega),ert,h10.comm⟩
      ·exact⟨y2,rfl,s2y,ert,h7⟩
     ·clear h7 s2y ert y2
      rintro σ' H' ⟨y2,rfl,s2y,ert,h7⟩
      have lcs:y2.cs.length=ws.length:=by rw[s2y.li.inv.l,s2y.li.wl]
      have lra:ra3.length=ra4.length:=by
       have e1:=rtA.1
       have e2:=rtB.1
       rw[show(mapM pq y).rt=y.rt.map (phi pq) from rfl,length_map] at e2
       omega
      refine⟨_,rfl,_,rfl,_,rfl,_,rfl,R,R2,.ref A.p,w3,.ref A2.p,w4,y2,mapM pq y2,ra3,ra4,m,wl,ms,ws,M2,rfl,h7,mmM,mwM,rfl,lra,?_,rfl,rfl,s2y.li.ml.symm,lcs.symm,by have:=s2y.li.nl; omega,by omega,by omega,fun H6 h8=>⟨_,rfl,iteF ?_⟩⟩
      ·rw[wv_non piA,wv_non piB]
       rw[Option.isSome_map]
      ·exact⟨_,_,_,y2,ql,w3,w4,ra3,ra4,M2,rfl,s2y,mM2,by rw[ert]; exact rtA,piA,by rw[show(mapM pq y2).rt=y2.rt.map (phi pq) from rfl,ert]; exact rtB,piB,h8⟩
   ·rw[wv_non q1] at hc
    cases pl' with
    | none=>cases hc
    | some z=>
     obtain⟨wa,rfl,mwa⟩:=q1
     refine⟨_,rfl,R.r,R.dx,_,rfl,h2.get 0 rfl,(qfl_n _ _ _).1,R,.ref A.p,.ref wa,x,ra1,_,rfl,h2,?_⟩
     have up:∀ {y:Addr×HO},y ∈ M'->H2 y.1=some y.2:=fun m=>h2.at_ _ (mem_append_right _ (mem_append_right _ m))
     refine⟨_,rfl,pD z,psD rq,pD_dv (z:=(wa,z)) (SqT.of (up mwa)),⟨rl,_,rfl,SqL.of (up (mM' _ mrl)),psD_dvs fun y hy=>SqT.of (up (mM' _ (mrq y hy)))⟩,pD_sh _,psD_sh _,_,rfl,?_⟩
     have ea:(psD rq).any (fun u=>PyData.eqv u (pD z))=true:=by
      rw[psD_any,List.any_eq_true]
      have:z ∈ rq.map (·.2):=by rw[erq]; exact(hpq.mem z).mpr (s2i.pl z rfl)
      obtain⟨y,hy,e⟩:=mem_map.mp this
      exact⟨y,hy,decide_eq_true e⟩
     exact ifF (by rw[if_pos rfl,ea]; rfl) hB
  ·rintro σ H2 ⟨o9,o10,o11,x,pl',w1,w2,ra1,ra2,M',rfl,_⟩
   exact q _
end
end P
set_option Elab.async false
set_option linter.all false
set_option maxRecDepth 100000
set_option maxHeartbeats 4000000
namespace P
open PySem L2
theorem txt_mk {K:PySem.W.Frag}{h:Heap}{mg:Str->Option Value} (KX:K.In h) (G:h.Ns mainGlobals mg)
  {z0:Addr}{z1 z2:Option Addr}{z3:Array (Option Value)}{z4 z5 z6 z7 z8 z9 za:Value}
  {zb:Addr}{zc zd:Option Addr}{ze:Array (Option Value)}{zf zg zh zi zj zk zl:Value}
  {zm:Addr}{zn zo:Option Addr}{zp:Array (Option Value)}{zq zr zs zt zu zv zw:Value}
  {zx:Addr}{zy zz:Option Addr}{z10:Array (Option Value)}{z11 z12 z13 z14 z15 z16 z17:Value}
  {z18:Addr}{z19 z1a:Option Addr}{z1b:Array (Option Value)}{z1c z1d z1e z1f z1g z1h z1i:Value}
  {z1j:Addr}{z1k z1l:Option Addr}{z1m:Array (Option Value)}{z1n z1o z1p z1q z1r z1s z1t:Value}
  {z1u:Addr}{z1v z1w:Option Addr}{z1x:Array (Option Value)}{z1y z1z z20 z21 z22 z23 z24:Value}
  {z25:Addr}{z26 z27:Option Addr}{z28:Array (Option Value)}{z29 z2a z2b z2c z2d z2e z2f:Value}
  {z2g:Addr}{z2h z2i:Option Addr}{z2j:Array (Option Value)}{z2k z2l z2m z2n z2o z2p z2q:Value}
  {z2r:Addr}{z2s z2t:Option Addr}{z2u:Array (Option Value)}{z2v z2w z2x z2y z2z z30 z31:Value}
  {z32:Addr}{z33 z34:Option Addr}{z35:Array (Option Value)}{z36 z37 z38 z39 z3a z3b z3c:Value}
  {z3d:Addr}{z3e z3f:Option Addr}{z3g:Array (Option Value)}{z3h z3i z3j z3k z3l z3m z3n:Value}
  {z3o:Addr}{z3p z3q:Option Addr}{z3r:Array (Option Value)}{z3s z3t z3u z3v z3w z3x z3y:Value}
  {z3z:Addr}{z40 z41:Option Addr}{z42:Array (Option Value)}{z43 z44 z45 z46 z47 z48 z49:Value}
  {z4a:Addr}{z4b z4c:Option Addr}{z4d:Array (Option Value)}{z4e z4f z4g z4h z4i z4j z4k:Value}
  {z4l:Addr}{z4m z4n:Option Addr}{z4o:Array (Option Value)}{z4p z4q z4r z4s z4t z4u z4v:Value}
  {z4w:Addr}{z4x z4y:Option Addr}{z4z:Array (Option Value)}{z50 z51 z52 z53 z54 z55 z56:Value}
  {z57:Addr}{z58 z59:Option Addr}{z5a:Array (Option Value)}{z5b z5c z5d z5e z5f z5g z5h:Value}
  {z5i:Addr}{z5j z5k:Option Addr}{z5l:Array (Option Value)}{z5m z5n z5o z5p z5q z5r z5s:Value}
  {z5t:Addr}{z5u z5v:Option Addr}{z5w:Array (Option Value)}{z5x z5y z5z z60 z61 z62 z63:Value}
  {z64:Addr}{z65 z66:Option Addr}{z67:Array (Option Value)}{z68 z69 z6a z6b z6c z6d z6e:Value}
  {z6f:Addr}{z6g z6h:Option Addr}{z6i:Array (Option Value)}{z6j z6k z6l z6m z6n z6o z6p:Value}
  {z6q:Addr}{z6r z6s:Option Addr}{z6t:Array (Option Value)}{z6u z6v z6w z6x z6y z6z z70:Value}
  {z71:Addr}{z72 z73:Option Addr}{z74:Array (Option Value)}{z75 z76 z77 z78 z79 z7a z7b:Value}
  {z7c:Addr}{z7d z7e:Option Addr}{z7f:Array (Option Value)}{z7g z7h z7i z7j z7k z7l z7m:Value}
  {z7n:Addr}{z7o z7p:Option Addr}{z7q:Array (Option Value)}{z7r z7s z7t z7u z7v z7w z7x:Value}
  {z7y:Addr}{z7z z80:Option Addr}{z81:Array (Option Value)}{z82 z83 z84 z85 z86 z87 z88:Value}
  {z89:Addr}{z8a z8b:Option Addr}{z8c:Array (Option Value)}{z8d z8e z8f z8g z8h z8i z8j:Value}
  {z8k:Addr}{z8l z8m:Option Addr}{z8n:Array (Option Value)}{z8o z8p z8q z8r z8s z8t z8u:Value}
  {z8v:Addr}{z8w z8x:Option Addr}{z8y:Array (Option Value)}{z8z z90 z91 z92 z93 z94 z95:Value}
  {z96:Addr}{z97 z98:Option Addr}{z99:Array (Option Value)}{z9a z9b z9c z9d z9e z9f z9g:Value}
  {z9h:Addr}{z9i z9j:Option Addr}{z9k:Array (Option Value)}{z9l z9m z9n z9o z9p z9q z9r:Value}
  {z9s:Addr}{z9t z9u:Option Addr}{z9v:Array (Option Value)}{z9w z9x z9y z9z za0 za1 za2:Value}
  {za3:Addr}{za4 za5:Option Addr}{za6:Array (Option Value)}{za7 za8 za9 zaa zab zac zad:Value}
  {zae:Addr}{zaf zag:Option Addr}{zah:Array (Option Value)}{zai zaj zak zal zam zan zao:Value}
  {zap:Addr}{zaq zar:Option Addr}{zas:Array (Option Value)}{zat zau zav zaw zax zay zaz:Value}
  {zb0:Addr}{zb1 zb2:Option Addr}{zb3:Array (Option Value)}{zb4 zb5 zb6 zb7 zb8 zb9 zba:Value}
  {zbb:Addr}{zbc zbd:Option Addr}{zbe:Array (Option Value)}{zbf zbg zbh zbi zbj zbk zbl:Value}
  {zbm:Addr}{zbn zbo:Option Addr}{zbp:Array (Option Value)}{zbq zbr zbs zbt zbu zbv zbw:Value}
  {zbx:Addr}{zby zbz:Option Addr}{zc0:Array (Option Value)}{zc1 zc2 zc3 zc4 zc5 zc6 zc7:Value}
  {zc8:Addr}{zc9 zca:Option Addr}{zcb:Array (Option Value)}{zcc zcd zce zcf zcg zch zci:Value}
  {zcj:Addr}{zck zcl:Option Addr}{zcm:Array (Option Value)}{zcn zco zcp zcq zcr zcs zct:Value}
  {zcu:Addr}{zcv zcw:Option Addr}{zcx:Array (Option Value)}{zcy zcz zd0 zd1 zd2 zd3 zd4:Value}
  {zd5:Addr}{zd6 zd7:Option Addr}{zd8:Array (Option Value)}{zd9 zda zdb zdc zdd zde zdf:Value}
  {zdg:Addr}
  {zdh:Addr}
  {zdi:Value}
  {zdj:Value}
  {zdk:Value}
  {zdl:Value}
  {zdm:Addr}{zdn:Option Addr}{zdo:Array Value}{zdp:Nat}{zdq:Array (Option Value)}
  (zdr:W.nsIn K mainGlobals "Program" = some (some (.ref zdg)))
  (zds:W.nsIn K mainGlobals "Reader" = some (some (.ref zdh)))
  (zdt:W.nsIn K mainGlobals "law" = some (some (.ref z0)))
  (zdu:K.lookup z0=some ⟨z4,z1,.func (W.fnOf "law" "law" (defArgs s_law) (defBody s_law) (defScope s_law) z5 z6 z7 z8 z2 z9 za),z3⟩)
  (zdv:W.codeIn K z9 "law" = true)
  (zdw:W.keepIn K (.ref z0)=true)
  (zdx:z5=.none)
  (zdy:W.nsIn K mainGlobals "_law_draws" = some (some (.ref zb)))
  (zdz:K.lookup zb=some ⟨zf,zc,.func (W.fnOf "_law_draws" "_law_draws" (defArgs s_draws) (defBody s_draws) (defScope s_draws) zg zh zi zj zd zk zl),ze⟩)
  (ze0:W.codeIn K zk "_law_draws" = true)
  (ze1:W.keepIn K (.ref zb)=true)
  (ze2:zg=.none)
  (ze3:W.nsIn K mainGlobals "_law_program" = some (some (.ref zm)))
  (ze4:K.lookup zm=some ⟨zq,zn,.func (W.fnOf "_law_program" "_law_program" (defArgs s_Jv) (defBody s_Jv) (defScope s_Jv) zr zs zt zu zo zv zw),zp⟩)
  (ze5:W.codeIn K zv "_law_program" = true)
  (ze6:W.keepIn K (.ref zm)=true)
  (ze7:zr=.none)
  (ze8:W.nsIn K mainGlobals "_law_parts" = some (some (.ref zx)))
  (ze9:K.lookup zx=some ⟨z11,zy,.func (W.fnOf "_law_parts" "_law_parts" (defArgs s_parts) (defBody s_parts) (defScope s_parts) z12 z13 z14 z15 zz z16 z17),z10⟩)
  (zea:W.codeIn K z16 "_law_parts" = true)
  (zeb:W.keepIn K (.ref zx)=true)
  (zec:z12=.none)
  (zed:W.nsIn K mainGlobals "_law_row" = some (some (.ref z18)))
  (zee:K.lookup z18=some ⟨z1c,z19,.func (W.fnOf "_law_row" "_law_row" (defArgs s_row) (defBody s_row) (defScope s_row) z1d z1e z1f z1g z1a z1h z1i),z1b⟩)
  (zef:W.codeIn K z1h "_law_row" = true)
  (zeg:W.keepIn K (.ref z18)=true)
  (zeh:z1d=.none)
  (zei:W.nsIn K mainGlobals "reached" = some (some (.ref z1j)))
  (zej:K.lookup z1j=some ⟨z1n,z1k,.func (W.fnOf "reached" "reached" (defArgs s_Jw) (defBody s_Jw) (defScope s_Jw) z1o z1p z1q z1r z1l z1s z1t),z1m⟩)
  (zek:W.codeIn K z1s "reached" = true)
  (zel:W.keepIn K (.ref z1j)=true)
  (zem:z1o=.none)
  (zen:W.nsIn K mainGlobals "onward" = some (some (.ref z1u)))
  (zeo:K.lookup z1u=some ⟨z1y,z1v,.func (W.fnOf "onward" "onward" (defArgs s_Jz) (defBody s_Jz) (defScope s_Jz) z1z z20 z21 z22 z1w z23 z24),z1x⟩)
  (zep:W.codeIn K z23 "onward" = true)
  (zeq:W.keepIn K (.ref z1u)=true)
  (zer:z1z=.none)
  (zes:W.nsIn K mainGlobals "_law_copied" = some (some (.ref z25)))
  (zet:K.lookup z25=some ⟨z29,z26,.func (W.fnOf "_law_copied" "_law_copied" (defArgs s_J01) (defBody s_J01) (defScope s_J01) z2a z2b z2c z2d z27 z2e z2f),z28⟩)
  (zeu:W.codeIn K z2e "_law_copied" = true)
  (zev:W.keepIn K (.ref z25)=true)
  (zew:z2a=.none)
  (zex:W.nsIn K mainGlobals "trimmed" = some (some (.ref z2g)))
  (zey:K.lookup z2g=some ⟨z2k,z2h,.func (W.fnOf "trimmed" "trimmed" (defArgs s_Jx) (defBody s_Jx) (defScope s_Jx) z2l z2m z2n z2o z2i z2p z2q),z2j⟩)
  (zez:W.codeIn K z2p "trimmed" = true)
  (zf0:W.keepIn K (.ref z2g)=true)
  (zf1:z2l=.none)
  (zf2:W.nsIn K mainGlobals "numbered_anew" = some (some (.ref z2r)))
  (zf3:K.lookup z2r=some ⟨z2v,z2s,.func (W.fnOf "numbered_anew" "numbered_anew" (defArgs s_Ja) (defBody s_Ja) (defScope s_Ja) z2w z2x z2y z2z z2t z30 z31),z2u⟩)
  (zf4:W.codeIn K z30 "numbered_anew" = true)
  (zf5:W.keepIn K (.ref z2r)=true)
  (zf6:z2w=.none)
  (zf7:W.nsIn K mainGlobals "renamed" = some (some (.ref z32)))
  (zf8:K.lookup z32=some ⟨z36,z33,.func (W.fnOf "renamed" "renamed" (defArgs s_Jy) (defBody s_Jy) (defScope s_Jy) z37 z38 z39 z3a z34 z3b z3c),z35⟩)
  (zf9:W.codeIn K z3b "renamed" = true)
  (zfa:W.keepIn K (.ref z32)=true)
  (zfb:z37=.none)
  (zfc:W.nsIn K mainGlobals "_law_alike" = some (some (.ref z3d)))
  (zfd:K.lookup z3d=some ⟨z3h,z3e,.func (W.fnOf "_law_alike" "_law_alike" (defArgs s_alike) (defBody s_alike) (defScope s_alike) z3i z3j z3k z3l z3f z3m z3n),z3g⟩)
  (zfe:W.codeIn K z3m "_law_alike" = true)
  (zff:W.keepIn K (.ref z3d)=true)
  (zfg:z3i=.none)
  (zfh:W.nsIn K mainGlobals "_law_is_row" = some (some (.ref z3o)))
  (zfi:K.lookup z3o=some ⟨z3s,z3p,.func (W.fnOf "_law_is_row" "_law_is_row" (defArgs s_J11) (defBody s_J11) (defScope s_J11) z3t z3u z3v z3w z3q z3x z3y),z3r⟩)
  (zfj:W.codeIn K z3x "_law_is_row" = true)
  (zfk:W.keepIn K (.ref z3o)=true)
  (zfl:z3t=.none)
  (zfm:W.nsIn K mainGlobals "_law_is" = some (some (.ref z3z)))
  (zfn:K.lookup z3z=some ⟨z43,z40,.func (W.fnOf "_law_is" "_law_is" (defArgs s_is) (defBody s_is) (defScope s_is) z44 z45 z46 z47 z41 z48 z49),z42⟩)
  (zfo:W.codeIn K z48 "_law_is" = true)
  (zfp:W.keepIn K (.ref z3z)=true)
  (zfq:z44=.none)
  (zfr:W.nsIn K mainGlobals "_law_whole" = some (some (.ref z4a)))
  (zfs:K.lookup z4a=some ⟨z4e,z4b,.func (W.fnOf "_law_whole" "_law_whole" (defArgs s_whole) (defBody s_whole) (defScope s_whole) z4f z4g z4h z4i z4c z4j z4k),z4d⟩)
  (zft:W.codeIn K z4j "_law_whole" = true)
  (zfu:W.keepIn K (.ref z4a)=true)
  (zfv:z4f=.none)
  (zfw:W.nsIn K mainGlobals "check_side" = some (some (.ref z4l)))
  (zfx:K.lookup z4l=some ⟨z4p,z4m,.func (W.fnOf "check_side" "check_side" (defArgs s_Jq) (defBody s_Jq) (defScope s_Jq) z4q z4r z4s z4t z4n z4u z4v),z4o⟩)
  (zfy:W.codeIn K z4u "check_side" = true)
  (zfz:W.keepIn K (.ref z4l)=true)
  (zg0:z4q=.none)
  (zg1:W.nsIn K mainGlobals "check_width" = some (some (.ref z4w)))
  (zg2:K.lookup z4w=some ⟨z50,z4x,.func (W.fnOf "check_width" "check_width" (defArgs s_Ji) (defBody s_Ji) (defScope s_Ji) z51 z52 z53 z54 z4y z55 z56),z4z⟩)
  (zg3:W.codeIn K z55 "check_width" = true)
  (zg4:W.keepIn K (.ref z4w)=true)
  (zg5:z51=.none)
  (zg6:W.nsIn K mainGlobals "check_note" = some (some (.ref z57)))
  (zg7:K.lookup z57=some ⟨z5b,z58,.func (W.fnOf "check_note" "check_note" (defArgs s_Jr) (defBody s_Jr) (defScope s_Jr) z5c z5d z5e z5f z59 z5g z5h),z5a⟩)
  (zg8:W.codeIn K z5g "check_note" = true)
  (zg9:W.keepIn K (.ref z57)=true)
  (zga:z5c=.none)
  (zgb:W.nsIn K mainGlobals "check_mark" = some (some (.ref z5i)))
  (zgc:K.lookup z5i=some ⟨z5m,z5j,.func (W.fnOf "check_mark" "check_mark" (defArgs s_Js) (defBody s_Js) (defScope s_Js) z5n z5o z5p z5q z5k z5r z5s),z5l⟩)
  (zgd:W.codeIn K z5r "check_mark" = true)
  (zge:W.keepIn K (.ref z5i)=true)
  (zgf:z5n=.none)
  (zgg:W.nsIn K mainGlobals "check_counter" = some (some (.ref z5t)))
  (zgh:K.lookup z5t=some ⟨z5x,z5u,.func (W.fnOf "check_counter" "check_counter" (defArgs s_Jb) (defBody s_Jb) (defScope s_Jb) z5y z5z z60 z61 z5v z62 z63),z5w⟩)
  (zgi:W.codeIn K z62 "check_counter" = true)
  (zgj:W.keepIn K (.ref z5t)=true)
  (zgk:z5y=.none)
  (zgl:W.nsIn K mainGlobals "check_row" = some (some (.ref z64)))
  (zgm:K.lookup z64=some ⟨z68,z65,.func (W.fnOf "check_row" "check_row" (defArgs s_Jt) (defBody s_Jt) (defScope s_Jt) z69 z6a z6b z6c z66 z6d z6e),z67⟩)
  (zgn:W.codeIn K z6d "check_row" = true)
  (zgo:W.keepIn K (.ref z64)=true)
  (zgp:z69=.none)
  (zgq:W.nsIn K mainGlobals "check_stretch" = some (some (.ref z6f)))
  (zgr:K.lookup z6f=some ⟨z6j,z6g,.func (W.fnOf "check_stretch" "check_stretch" (defArgs s_Jc) (defBody s_Jc) (defScope s_Jc) z6k z6l z6m z6n z6h z6o z6p),z6i⟩)
  (zgs:W.codeIn K z6o "check_stretch" = true)
  (zgt:W.keepIn K (.ref z6f)=true)
  (zgu:z6k=.none)
  (zgv:W.nsIn K mainGlobals "greatest" = some (some (.ref z6q)))
  (zgw:K.lookup z6q=some ⟨z6u,z6r,.func (W.fnOf "greatest" "greatest" (defArgs s_Ju) (defBody s_Ju) (defScope s_Ju) z6v z6w z6x z6y z6s z6z z70),z6t⟩)
  (zgx:W.codeIn K z6z "greatest" = true)
  (zgy:W.keepIn K (.ref z6q)=true)
  (zgz:z6v=.none)
  (zh0:W.nsIn K mainGlobals "check_value" = some (some (.ref z71)))
  (zh1:K.lookup z71=some ⟨z75,z72,.func (W.fnOf "check_value" "check_value" (defArgs s_Jj) (defBody s_Jj) (defScope s_Jj) z76 z77 z78 z79 z73 z7a z7b),z74⟩)
  (zh2:W.codeIn K z7a "check_value" = true)
  (zh3:W.keepIn K (.ref z71)=true)
  (zh4:z76=.none)
  (zh5:W.findIn K (.ref zdg) "__init__" = some (some (.ref z7c)))
  (zh6:W.isFn K (.ref z7c)=true)
  (zh7:K.lookup z7c=some ⟨z7g,z7d,.func (W.fnOf "__init__" "Program.__init__" (defArgs s_Je) (defBody s_Je) (defScope s_Je) z7h z7i z7j z7k z7e z7l z7m),z7f⟩)
  (zh8:W.codeIn K z7l "Program.__init__" = true)
  (zh9:W.keepIn K (.ref z7c)=true)
  (zha:z7h=.none)
  (zhb:W.findIn K (.ref zdg) "check_beginning" = some (some (.ref z7n)))
  (zhc:W.isFn K (.ref z7n)=true)
  (zhd:K.lookup z7n=some ⟨z7r,z7o,.func (W.fnOf "check_beginning" "Program.check_beginning" (defArgs s_J0) (defBody s_J0) (defScope s_J0) z7s z7t z7u z7v z7p z7w z7x),z7q⟩)
  (zhe:W.codeIn K z7w "Program.check_beginning" = true)
  (zhf:W.keepIn K (.ref z7n)=true)
  (zhg:z7s=.none)
  (zhh:W.findIn K (.ref zdg) "many" = some (some (.ref z7y)))
  (zhi:W.isFn K (.ref z7y)=true)
  (zhj:K.lookup z7y=some ⟨z82,z7z,.func (W.fnOf "many" "Program.many" (defArgs s_Jf) (defBody s_Jf) (defScope s_Jf) z83 z84 z85 z86 z80 z87 z88),z81⟩)
  (zhk:W.codeIn K z87 "Program.many" = true)
  (zhl:W.keepIn K (.ref z7y)=true)
  (zhm:z83=.none)
  (zhn:W.findIn K (.ref zdg) "check_rows" = some (some (.ref z89)))
  (zho:W.isFn K (.ref z89)=true)
  (zhp:K.lookup z89=some ⟨z8d,z8a,.func (W.fnOf "check_rows" "Program.check_rows" (defArgs s_J3) (defBody s_J3) (defScope s_J3) z8e z8f z8g z8h z8b z8i z8j),z8c⟩)
  (zhq:W.codeIn K z8i "Program.check_rows" = true)
  (zhr:W.keepIn K (.ref z89)=true)
  (zhs:z8e=.none)
  (zht:W.findIn K (.ref zdg) "check_part" = some (some (.ref z8k)))
  (zhu:W.isFn K (.ref z8k)=true)
  (zhv:K.lookup z8k=some ⟨z8o,z8l,.func (W.fnOf "check_part" "Program.check_part" (defArgs s_J5) (defBody s_J5) (defScope s_J5) z8p z8q z8r z8s z8m z8t z8u),z8n⟩)
  (zhw:W.codeIn K z8t "Program.check_part" = true)
  (zhx:W.keepIn K (.ref z8k)=true)
  (zhy:z8p=.none)
  (zhz:W.findIn K (.ref zdg) "check_called" = some (some (.ref z8v)))
  (zi0:W.isFn K (.ref z8v)=true)
  (zi1:K.lookup z8v=some ⟨z8z,z8w,.func (W.fnOf "check_called" "Program.check_called" (defArgs s_J1) (defBody s_J1) (defScope s_J1) z90 z91 z92 z93 z8x z94 z95),z8y⟩)
  (zi2:W.codeIn K z94 "Program.check_called" = true)
  (zi3:W.keepIn K (.ref z8v)=true)
  (zi4:z90=.none)
  (zi5:W.findIn K (.ref zdh) "__init__" = some (some (.ref z96)))
  (zi6:W.isFn K (.ref z96)=true)
  (zi7:K.lookup z96=some ⟨z9a,z97,.func (W.fnOf "__init__" "Reader.__init__" (defArgs s_Jk) (defBody s_Jk) (defScope s_Jk) z9b z9c z9d z9e z98 z9f z9g),z99⟩)
  (zi8:W.codeIn K z9f "Reader.__init__" = true)
  (zi9:W.keepIn K (.ref z96)=true)
  (zia:z9b=.none)
  (zib:W.findIn K (.ref zdg) "marks" = some (some (.ref z9h)))
  (zic:W.isFn K (.ref z9h)=true)
  (zid:K.lookup z9h=some ⟨z9l,z9i,.func (W.fnOf "marks" "Program.marks" (defArgs s_Jd) (defBody s_Jd) (defScope s_Jd) z9m z9n z9o z9p z9j z9q z9r),z9k⟩)
  (zie:W.codeIn K z9q "Program.marks" = true)
  (zif:W.keepIn K (.ref z9h)=true)
  (zig:z9m=.none)
  (zih:W.findIn K (.ref zdg) "widths" = some (some (.ref z9s)))
  (zii:W.isFn K (.ref z9s)=true)
  (zij:K.lookup z9s=some ⟨z9w,z9t,.func (W.fnOf "widths" "Program.widths" (defArgs s_J6) (defBody s_J6) (defScope s_J6) z9x z9y z9z za0 z9u za1 za2),z9v⟩)
  (zik:W.codeIn K za1 "Program.widths" = true)
  (zil:W.keepIn K (.ref z9s)=true)
  (zim:z9x=.none)
  (zin:W.findIn K (.ref zdh) "step" = some (some (.ref za3)))
  (zio:W.isFn K (.ref za3)=true)
  (zip:K.lookup za3=some ⟨za7,za4,.func (W.fnOf "step" "Reader.step" (defArgs s_Jl) (defBody s_Jl) (defScope s_Jl) za8 za9 zaa zab za5 zac zad),za6⟩)
  (ziq:W.codeIn K zac "Reader.step" = true)
  (zir:W.keepIn K (.ref za3)=true)
  (zis:za8=.none)
  (zit:W.findIn K (.ref zdh) "place_behind" = some (some (.ref zae)))
  (ziu:W.isFn K (.ref zae)=true)
  (ziv:K.lookup zae=some ⟨zai,zaf,.func (W.fnOf "place_behind" "Reader.place_behind" (defArgs s_J2) (defBody s_J2) (defScope s_J2) zaj zak zal zam zag zan zao),zah⟩)
  (ziw:W.codeIn K zan "Reader.place_behind" = true)
  (zix:W.keepIn K (.ref zae)=true)
  (ziy:zaj=.none)
  (ziz:W.findIn K (.ref zdh) "bump" = some (some (.ref zap)))
  (zj0:W.isFn K (.ref zap)=true)
  (zj1:K.lookup zap=some ⟨zat,zaq,.func (W.fnOf "bump" "Reader.bump" (defArgs s_Jm) (defBody s_Jm) (defScope s_Jm) zau zav zaw zax zar zay zaz),zas⟩)
  (zj2:W.codeIn K zay "Reader.bump" = true)
  (zj3:W.keepIn K (.ref zap)=true)
  (zj4:zau=.none)
  (zj5:W.findIn K (.ref zdg) "row_at" = some (some (.ref zb0)))
  (zj6:W.isFn K (.ref zb0)=true)
  (zj7:K.lookup zb0=some ⟨zb4,zb1,.func (W.fnOf "row_at" "Program.row_at" (defArgs s_J7) (defBody s_J7) (defScope s_J7) zb5 zb6 zb7 zb8 zb2 zb9 zba),zb3⟩)
  (zj8:W.codeIn K zb9 "Program.row_at" = true)
  (zj9:W.keepIn K (.ref zb0)=true)
  (zja:zb5=.none)
  (zjb:W.findIn K (.ref zdh) "turn" = some (some (.ref zbb)))
  (zjc:W.isFn K (.ref zbb)=true)
  (zjd:K.lookup zbb=some ⟨zbf,zbc,.func (W.fnOf "turn" "Reader.turn" (defArgs s_Jn) (defBody s_Jn) (defScope s_Jn) zbg zbh zbi zbj zbd zbk zbl),zbe⟩)
  (zje:W.codeIn K zbk "Reader.turn" = true)
  (zjf:W.keepIn K (.ref zbb)=true)
  (zjg:zbg=.none)
  (zjh:W.findIn K (.ref zdh) "fill" = some (some (.ref zbm)))
  (zji:W.isFn K (.ref zbm)=true)
  (zjj:K.lookup zbm=some ⟨zbq,zbn,.func (W.fnOf "fill" "Reader.fill" (defArgs s_Jo) (defBody s_Jo) (defScope s_Jo) zbr zbs zbt zbu zbo zbv zbw),zbp⟩)
  (zjk:W.codeIn K zbv "Reader.fill" = true)
  (zjl:W.keepIn K (.ref zbm)=true)
  (zjm:zbr=.none)
  (zjn:W.findIn K (.ref zdh) "where" = some (some (.ref zbx)))
  (zjo:W.isFn K (.ref zbx)=true)
  (zjp:K.lookup zbx=some ⟨zc1,zby,.func (W.fnOf "where" "Reader.where" (defArgs s_Jg) (defBody s_Jg) (defScope s_Jg) zc2 zc3 zc4 zc5 zbz zc6 zc7),zc0⟩)
  (zjq:W.codeIn K zc6 "Reader.where" = true)
  (zjr:W.keepIn K (.ref zbx)=true)
  (zjs:zc2=.none)
  (zjt:W.findIn K (.ref zdh) "heard" = some (some (.ref zc8)))
  (zju:W.isFn K (.ref zc8)=true)
  (zjv:K.lookup zc8=some ⟨zcc,zc9,.func (W.fnOf "heard" "Reader.heard" (defArgs s_Jh) (defBody s_Jh) (defScope s_Jh) zcd zce zcf zcg zca zch zci),zcb⟩)
  (zjw:W.codeIn K zch "Reader.heard" = true)
  (zjx:W.keepIn K (.ref zc8)=true)
  (zjy:zcd=.none)
  (zjz:W.findIn K (.ref zdh) "callers" = some (some (.ref zcj)))
  (zk0:W.isFn K (.ref zcj)=true)
  (zk1:K.lookup zcj=some ⟨zcn,zck,.func (W.fnOf "callers" "Reader.callers" (defArgs s_J8) (defBody s_J8) (defScope s_J8) zco zcp zcq zcr zcl zcs zct),zcm⟩)
  (zk2:W.codeIn K zcs "Reader.callers" = true)
  (zk3:W.keepIn K (.ref zcj)=true)
  (zk4:zco=.none)
  (zk5:W.findIn K (.ref zdh) "counter" = some (some (.ref zcu)))
  (zk6:W.isFn K (.ref zcu)=true)
  (zk7:K.lookup zcu=some ⟨zcy,zcv,.func (W.fnOf "counter" "Reader.counter" (defArgs s_J9) (defBody s_J9) (defScope s_J9) zcz zd0 zd1 zd2 zcw zd3 zd4),zcx⟩)
  (zk8:W.codeIn K zd3 "Reader.counter" = true)
  (zk9:W.keepIn K (.ref zcu)=true)
  (zka:zcz=.none)
  (zkb:W.findIn K (.ref zdh) "mark" = some (some (.ref zd5)))
  (zkc:W.isFn K (.ref zd5)=true)
  (zkd:K.lookup zd5=some ⟨zd9,zd6,.func (W.fnOf "mark" "Reader.mark" (defArgs s_Jp) (defBody s_Jp) (defScope s_Jp) zda zdb zdc zdd zd7 zde zdf),zd8⟩)
  (zke:W.codeIn K zde "Reader.mark" = true)
  (zkf:W.keepIn K (.ref zd5)=true)
  (zkg:zda=.none)
  (zkh:W.plainGet K zdg Str.empty=true)
  (zki:W.hasDictIn K zdg=true)
  (zkj:W.plainOver K zdg=true)
  (zkk:W.findIn K (.ref zdg) "__setattr__" = some (some (.builtin "object.__setattr__")))
  (zkl:W.makesIn K zdg=true)
  (zkm:W.keepIn K (.ref zdg)=true)
  (zkn:W.findIn K (.ref zdg) "mark_sides" = some none)
  (zko:W.findIn K (.ref zdg) "counter_widths" = some none)
  (zkp:W.findIn K (.ref zdg) "stretches" = some none)
  (zkq:W.plainGet K zdh Str.empty=true)
  (zkr:W.hasDictIn K zdh=true)
  (zks:W.plainOver K zdh=true)
  (zkt:W.findIn K (.ref zdh) "__setattr__" = some (some (.builtin "object.__setattr__")))
  (zku:W.makesIn K zdh=true)
  (zkv:W.keepIn K (.ref zdh)=true)
  (zkw:W.findIn K (.ref zdh) "program" = some none)
  (zkx:W.findIn K (.ref zdh) "place" = some none)
  (zky:W.findIn K (.ref zdh) "returns" = some none)
  (zkz:W.findIn K (.ref zdh) "mark_sides" = some none)
  (zl0:W.findIn K (.ref zdh) "counter_widths" = some none)
  (zl1:W.findIn K (.ref zdh) "counts" = some none)
  (zl2:W.findIn K (.ref zdh) "notes_heard" = some none)
  (zl3:W.nsIn K mainGlobals "abs" = some none)
  (zl4:W.nsIn K mainGlobals "all" = some none)
  (zl5:W.nsIn K mainGlobals "bool" = some none)
  (zl6:W.nsIn K mainGlobals "enumerate" = some none)
  (zl7:W.nsIn K mainGlobals "int" = some none)
  (zl8:W.nsIn K mainGlobals "isinstance" = some none)
  (zl9:W.nsIn K mainGlobals "len" = some none)
  (zla:W.nsIn K mainGlobals "list" = some none)
  (zlb:W.nsIn K mainGlobals "range" = some none)
  (zlc:W.nsIn K mainGlobals "set" = some none)
  (zld:W.nsIn K mainGlobals "sorted" = some none)
  (zle:W.nsIn K mainGlobals "zip" = some none)
  (zlf:W.nsIn K mainGlobals "LAST_NOTE" = some (some zdi))
  (zlg:RelV (.int 9999) zdi)
  (zlh:W.nsIn K mainGlobals "LAST_WORDS" = some (some zdj))
  (zli:zdj=.ref zdm)
  (zlj:K.lookup zdm=some ⟨.type "tuple",zdn,.seq zdo zdp,zdq⟩)
  (zlk:zdo.size<=sizeLine)
  (zll:Vals [.str "ask",.str "go",.str "end"] zdo.toList)
  (zlm:W.nsIn K mainGlobals "PARTS" = some (some zdk))
  (zln:∃ a,zdk=.ref a/\TabT K a [("bell",["note"]),("set",["mark","side"]),("ask",["mark","row","row"]),("bump",["counter","row"]),("go",["row"]),("call",["stretch"]),("end",[])])
  (zlo:W.nsIn K mainGlobals "WIDEST" = some (some zdl))
  (zlp:RelV (.int 8) zdl) :
  Txt K mg ⟨z0,W.fnOf "law" "law" (defArgs s_law) (defBody s_law) (defScope s_law) z5 z6 z7 z8 z2 z9 za,z5,zb,W.fnOf "_law_draws" "_law_draws" (defArgs s_draws) (defBody s_draws) (defScope s_draws) zg zh zi zj zd zk zl,zg,zm,W.fnOf "_law_program" "_law_program" (defArgs s_Jv) (defBody s_Jv) (defScope s_Jv) zr zs zt zu zo zv zw,zr,zx,W.fnOf "_law_parts" "_law_parts" (defArgs s_parts) (defBody s_parts) (defScope s_parts) z12 z13 z14 z15 zz z16 z17,z12,z18,W.fnOf "_law_row" "_law_row" (defArgs s_row) (defBody s_row) (defScope s_row) z1d z1e z1f z1g z1a z1h z1i,z1d,z1j,W.fnOf "reached" "reached" (defArgs s_Jw) (defBody s_Jw) (defScope s_Jw) z1o z1p z1q z1r z1l z1s z1t,z1o,z1u,W.fnOf "onward" "onward" (defArgs s_Jz) (defBody s_Jz) (defScope s_Jz) z1z z20 z21 z22 z1w z23 z24,z1z,z25,W.fnOf "_law_copied" "_law_copied" (defArgs s_J01) (defBody s_J01) (defScope s_J01) z2a z2b z2c z2d z27 z2e z2f,z2a,z2g,W.fnOf "trimmed" "trimmed" (defArgs s_Jx) (defBody s_Jx) (defScope s_Jx) z2l z2m z2n z2o z2i z2p z2q,z2l,z2r,W.fnOf "numbered_anew" "numbered_anew" (defArgs s_Ja) (defBody s_Ja) (defScope s_Ja) z2w z2x z2y z2z z2t z30 z31,z2w,z32,W.fnOf "renamed" "renamed" (defArgs s_Jy) (defBody s_Jy) (defScope s_Jy) z37 z38 z39 z3a z34 z3b z3c,z37,z3d,W.fnOf "_law_alike" "_law_alike" (defArgs s_alike) (defBody s_alike) (defScope s_alike) z3i z3j z3k z3l z3f z3m z3n,z3i,z3o,W.fnOf "_law_is_row" "_law_is_row" (defArgs s_J11) (defBody s_J11) (defScope s_J11) z3t z3u z3v z3w z3q z3x z3y,z3t,z3z,W.fnOf "_law_is" "_law_is" (defArgs s_is) (defBody s_is) (defScope s_is) z44 z45 z46 z47 z41 z48 z49,z44,z4a,W.fnOf "_law_whole" "_law_whole" (defArgs s_whole) (defBody s_whole) (defScope s_whole) z4f z4g z4h z4i z4c z4j z4k,z4f,z4l,W.fnOf "check_side" "check_side" (defArgs s_Jq) (defBody s_Jq) (defScope s_Jq) z4q z4r z4s z4t z4n z4u z4v,z4q,z4w,W.fnOf "check_width" "check_width" (defArgs s_Ji) (defBody s_Ji) (defScope s_Ji) z51 z52 z53 z54 z4y z55 z56,z51,z57,W.fnOf "check_note" "check_note" (defArgs s_Jr) (defBody s_Jr) (defScope s_Jr) z5c z5d z5e z5f z59 z5g z5h,z5c,z5i,W.fnOf "check_mark" "check_mark" (defArgs s_Js) (defBody s_Js) (defScope s_Js) z5n z5o z5p z5q z5k z5r z5s,z5n,z5t,W.fnOf "check_counter" "check_counter" (defArgs s_Jb) (defBody s_Jb) (defScope s_Jb) z5y z5z z60 z61 z5v z62 z63,z5y,z64,W.fnOf "check_row" "check_row" (defArgs s_Jt) (defBody s_Jt) (defScope s_Jt) z69 z6a z6b z6c z66 z6d z6e,z69,z6f,W.fnOf "check_stretch" "check_stretch" (defArgs s_Jc) (defBody s_Jc) (defScope s_Jc) z6k z6l z6m z6n z6h z6o z6p,z6k,z6q,W.fnOf "greatest" "greatest" (defArgs s_Ju) (defBody s_Ju) (defScope s_Ju) z6v z6w z6x z6y z6s z6z z70,z6v,z71,W.fnOf "check_value" "check_value" (defArgs s_Jj) (defBody s_Jj) (defScope s_Jj) z76 z77 z78 z79 z73 z7a z7b,z76,z7c,W.fnOf "__init__" "Program.__init__" (defArgs s_Je) (defBody s_Je) (defScope s_Je) z7h z7i z7j z7k z7e z7l z7m,z7h,z7n,W.fnOf "check_beginning" "Program.check_beginning" (defArgs s_J0) (defBody s_J0) (defScope s_J0) z7s z7t z7u z7v z7p z7w z7x,z7s,z7y,W.fnOf "many" "Program.many" (defArgs s_Jf) (defBody s_Jf) (defScope s_Jf) z83 z84 z85 z86 z80 z87 z88,z83,z89,W.fnOf "check_rows" "Program.check_rows" (defArgs s_J3) (defBody s_J3) (defScope s_J3) z8e z8f z8g z8h z8b z8i z8j,z8e,z8k,W.fnOf "check_part" "Program.check_part" (defArgs s_J5) (defBody s_J5) (defScope s_J5) z8p z8q z8r z8s z8m z8t z8u,z8p,z8v,W.fnOf "check_called" "Program.check_called" (defArgs s_J1) (defBody s_J1) (defScope s_J1) z90 z91 z92 z93 z8x z94 z95,z90,z96,W.fnOf "__init__" "Reader.__init__" (defArgs s_Jk) (defBody s_Jk) (defScope s_Jk) z9b z9c z9d z9e z98 z9f z9g,z9b,z9h,W.fnOf "marks" "Program.marks" (defArgs s_Jd) (defBody s_Jd) (defScope s_Jd) z9m z9n z9o z9p z9j z9q z9r,z9m,z9s,W.fnOf "widths" "Program.widths" (defArgs s_J6) (defBody s_J6) (defScope s_J6) z9x z9y z9z za0 z9u za1 za2,z9x,za3,W.fnOf "step" "Reader.step" (defArgs s_Jl) (defBody s_Jl) (defScope s_Jl) za8 za9 zaa zab za5 zac zad,za8,zae,W.fnOf "place_behind" "Reader.place_behind" (defArgs s_J2) (defBody s_J2) (defScope s_J2) zaj zak zal zam zag zan zao,zaj,zap,W.fnOf "bump" "Reader.bump" (defArgs s_Jm) (defBody s_Jm) (defScope s_Jm) zau zav zaw zax zar zay zaz,zau,zb0,W.fnOf "row_at" "Program.row_at" (defArgs s_J7) (defBody s_J7) (defScope s_J7) zb5 zb6 zb7 zb8 zb2 zb9 zba,zb5,zbb,W.fnOf "turn" "Reader.turn" (defArgs s_Jn) (defBody s_Jn) (defScope s_Jn) zbg zbh zbi zbj zbd zbk zbl,zbg,zbm,W.fnOf "fill" "Reader.fill" (defArgs s_Jo) (defBody s_Jo) (defScope s_Jo) zbr zbs zbt zbu zbo zbv zbw,zbr,zbx,W.fnOf "where" "Reader.where" (defArgs s_Jg) (defBody s_Jg) (defScope s_Jg) zc2 zc3 zc4 zc5 zbz zc6 zc7,zc2,zc8,W.fnOf "heard" "Reader.heard" (defArgs s_Jh) (defBody s_Jh) (defScope s_Jh) zcd zce zcf zcg zca zch zci,zcd,zcj,W.fnOf "callers" "Reader.callers" (defArgs s_J8) (defBody s_J8) (defScope s_J8) zco zcp zcq zcr zcl zcs zct,zco,zcu,W.fnOf "counter" "Reader.counter" (defArgs s_J9) (defBody s_J9) (defScope s_J9) zcz zd0 zd1 zd2 zcw zd3 zd4,zcz,zd5,W.fnOf "mark" "Reader.mark" (defArgs s_Jp) (defBody s_Jp) (defScope s_Jp) zda zdb zdc zdd zd7 zde zdf,zda,zdg,zdh,zdi,zdj,zdk,zdl⟩ where
 F_law:=funG_mk zdu zdv zdw
 F_draws:=funG_mk zdz ze0 ze1
 F_Jv:=funG_mk ze4 ze5 ze6
 F_parts:=funG_mk ze9 zea zeb
 F_row:=funG_mk zee zef zeg
 F_Jw:=funG_mk zej zek zel
 F_Jz:=funG_mk zeo zep zeq
 F_J01:=funG_mk zet zeu zev
 F_Jx:=funG_mk zey zez zf0
 F_Ja:=funG_mk zf3 zf4 zf5
 F_Jy:=funG_mk zf8 zf9 zfa
 F_alike:=funG_mk zfd zfe zff
 F_J11:=funG_mk zfi zfj zfk
 F_is:=funG_mk zfn zfo zfp
 F_whole:=funG_mk zfs zft zfu
 F_Jq:=funG_mk zfx zfy zfz
 F_Ji:=funG_mk zg2 zg3 zg4
 F_Jr:=funG_mk zg7 zg8 zg9
 F_Js:=funG_mk zgc zgd zge
 F_Jb:=funG_mk zgh zgi zgj
 F_Jt:=funG_mk zgm zgn zgo
 F_Jc:=funG_mk zgr zgs zgt
 F_Ju:=funG_mk zgw zgx zgy
 F_Jj:=funG_mk zh1 zh2 zh3
 F_Je:=funG_mk zh7 zh8 zh9
 F_J0:=funG_mk zhd zhe zhf
 F_Jf:=funG_mk zhj zhk zhl
 F_J3:=funG_mk zhp zhq zhr
 F_J5:=funG_mk zhv zhw zhx
 F_J1:=funG_mk zi1 zi2 zi3
 F_Jk:=funG_mk zi7 zi8 zi9
 F_Jd:=funG_mk zid zie zif
 F_J6:=funG_mk zij zik zil
 F_Jl:=funG_mk zip ziq zir
 F_J2:=funG_mk ziv ziw zix
 F_Jm:=funG_mk zj1 zj2 zj3
 F_J7:=funG_mk zj7 zj8 zj9
 F_Jn:=funG_mk zjd zje zjf
 F_Jo:=funG_mk zjj zjk zjl
 F_Jg:=funG_mk zjp zjq zjr
 F_Jh:=funG_mk zjv zjw zjx
 F_J8:=funG_mk zk1 zk2 zk3
 F_J9:=funG_mk zk7 zk8 zk9
 F_Jp:=funG_mk zkd zke zkf
 m_law:=W.mg_of KX G zdt
 e_law:=zdx
 m_draws:=W.mg_of KX G zdy
 e_draws:=ze2
 m_Jv:=W.mg_of KX G ze3
 e_Jv:=ze7
 m_parts:=W.mg_of KX G ze8
 e_parts:=zec
 m_row:=W.mg_of KX G zed
 e_row:=zeh
 m_Jw:=W.mg_of KX G zei
 e_Jw:=zem
 m_Jz:=W.mg_of KX G zen
 e_Jz:=zer
 m_J01:=W.mg_of KX G zes
 e_J01:=zew
 m_Jx:=W.mg_of KX G zex
 e_Jx:=zf1
 m_Ja:=W.mg_of KX G zf2
 e_Ja:=zf6
 m_Jy:=W.mg_of KX G zf7
 e_Jy:=zfb
 m_alike:=W.mg_of KX G zfc
 e_alike:=zfg
 m_J11:=W.mg_of KX G zfh
 e_J11:=zfl
 m_is:=W.mg_of KX G zfm
 e_is:=zfq
 m_whole:=W.mg_of KX G zfr
 e_whole:=zfv
 m_Jq:=W.mg_of KX G zfw
 e_Jq:=zg0
 m_Ji:=W.mg_of KX G zg1
 e_Ji:=zg5
 m_Jr:=W.mg_of KX G zg6
 e_Jr:=zga
 m_Js:=W.mg_of KX G zgb
 e_Js:=zgf
 m_Jb:=W.mg_of KX G zgg
 e_Jb:=zgk
 m_Jt:=W.mg_of KX G zgl
 e_Jt:=zgp
 m_Jc:=W.mg_of KX G zgq
 e_Jc:=zgu
 m_Ju:=W.mg_of KX G zgv
 e_Ju:=zgz
 m_Jj:=W.mg_of KX G zh0
 e_Jj:=zh4
 e_Je:=zha
 M_J0:=⟨zhb,zhc,zhf⟩
 e_J0:=zhg
 M_Jf:=⟨zhh,zhi,zhl⟩
 e_Jf:=zhm
 M_J3:=⟨zhn,zho,zhr⟩
 e_J3:=zhs
 M_J5:=⟨zht,zhu,zhx⟩
 e_J5:=zhy
 M_J1:=⟨zhz,zi0,zi3⟩
 e_J1:=zi4
 e_Jk:=zia
 M_Jd:=⟨zib,zic,zif⟩
 e_Jd:=zig
 M_J6:=⟨zih,zii,zil⟩
 e_J6:=zim
 M_Jl:=⟨zin,zio,zir⟩
 e_Jl:=zis
 M_J2:=⟨zit,ziu,zix⟩
 e_J2:=ziy
 M_Jm:=⟨ziz,zj0,zj3⟩
 e_Jm:=zj4
 M_J7:=⟨zj5,zj6,zj9⟩
 e_J7:=zja
 M_Jn:=⟨zjb,zjc,zjf⟩
 e_Jn:=zjg
 M_Jo:=⟨zjh,zji,zjl⟩
 e_Jo:=zjm
 M_Jg:=⟨zjn,zjo,zjr⟩
 e_Jg:=zjs
 M_Jh:=⟨zjt,zju,zjx⟩
 e_Jh:=zjy
 M_J8:=⟨zjz,zk0,zk3⟩
 e_J8:=zk4
 M_J9:=⟨zk5,zk6,zk9⟩
 e_J9:=zka
 M_Jp:=⟨zkb,zkc,zkf⟩
 e_Jp:=zkg
 cl_Program:=⟨zkh,zki,zkj,zkk⟩
 m_Program:=W.mg_of KX G zdr
 mk_Program:=⟨zkl,zh5,zh6,zkm⟩
 n_Program_mark_sides:=zkn
 n_Program_counter_widths:=zko
 n_Program_stretches:=zkp
 cl_Reader:=⟨zkq,zkr,zks,zkt⟩
 m_Reader:=W.mg_of KX G zds
 mk_Reader:=⟨zku,zi5,zi6,zkv⟩
 n_Reader_Jv:=zkw
 n_Reader_place:=zkx
 n_Reader_returns:=zky
 n_Jp_sides:=zkz
 n_J9_widths:=zl0
 n_Reader_counts:=zl1
 n_Reader_notes_heard:=zl2
 z_abs:=W.mg_none_of KX G zl3
 z_all:=W.mg_none_of KX G zl4
 z_bool:=W.mg_none_of KX G zl5
 z_enumerate:=W.mg_none_of KX G zl6
 z_int:=W.mg_none_of KX G zl7
 z_isinstance:=W.mg_none_of KX G zl8
 z_len:=W.mg_none_of KX G zl9
 z_list:=W.mg_none_of KX G zla
 z_range:=W.mg_none_of KX G zlb
 z_set:=W.mg_none_of KX G zlc
 z_sorted:=W.mg_none_of KX G zld
 z_zip:=W.mg_none_of KX G zle
 g_LAST_NOTE:=W.mg_of KX G zlf
 r_LAST_NOTE:=zlg
 g_LAST_WORDS:=W.mg_of KX G zlh
 x_LAST_WORDS:=⟨zdm,_,zdo,zdp,zli,zlj,rfl,rfl,zlk,zll⟩
 g_PARTS:=W.mg_of KX G zlm
 x_PARTS:=zln
 g_WIDEST:=W.mg_of KX G zlo
 r_WIDEST:=zlp
end P
namespace PySem.W.Fast
def tw10284197126215538559:=()
def tw7972432974660172042:=()
def tw15129100743526543262:=()
def tw14212466379424083989:=()
def tw5734391827930054735:=()
def tw5531845783391507669:=()
def tw140107867544432925:=()
def tw7941433339233476893:=()
def tw8908141471768894081:=()
def tw14936076513074285860:=()
def tw15906755520760945064:=()
def tw15078624489244709517:=()
def tw10981676581723257942:=()
def tw13997554414046972069:=()
def tw12528411476241151356:=()
def tw3518755071205077252:=()
def tw2372250815667169859:=()
def tw15606293782334979782:=()
def tw17494991978888727391:=()
def tw13011446524489018325:=()
def tw10195284740519877429:=()
def tw14692328726009630006:=()
def tw10275824859143519472:=()
def tw3561607198070257690:=()
def tw5826231653073785587:=()
def tw13743028707046091086:=()
def tw6527016755256758729:=()
def tw5550080512624437982:=()
def tw17943636038056144179:=()
def tw15233576731636862007:=()
def tw18379266198781008427:=()
def tw1733344019662434531:=()
def tw6434032662499905837:=()
def tw9477543410988139824:=()
def tw11988993897859858094:=()
def tw15436995259250797346:=()
def tw14215910454571440955:=()
def tw14261878037729187030:=()
def tw8776265533713815129:=()
def tw15597975050366785006:=()
def tw15151865793541224740:=()
def tw6734132215059869287:=()
def tw14249004903623951439:=()
def tw6807777742609566745:=()
def tw17597814871484709872:=()
def tw8997947269994817805:=()
def tw7990464756535756693:=()
def tw10514385318607642612:=()
def tw13365497478438758133:=()
def tw1851870823180547590:=()
def tw14483627046287949365:=()
def tw14755095903781463518:=()
def tw16448871268805763995:=()
def tw15988761724330742230:=()
def tw600639766527724598:=()
def tw16079112507492746277:=()
def tw7674714933259710467:=()
def tw9498462974586532408:=()
def tw16899528498866272411:=()
def tw7297383126721108550:=()
def tw7826303522748334768:=()
def tw1639969997392401075:=()
def tw13897470540863231313:=()
def tw5642806135486809874:=()
def tw13625910035775957023:=()
def tw6470087429216488618:=()
def tw17843745240952219453:=()
def tw5134025744693789003:=()
def tw17822803330808866509:=()
def tw8848712496890316557:=()
def tw12997643920493166510:=()
def tw12899880815769375871:=()
def tw4461038589851629552:=()
def tw16077232321519366582:=()
def tw4844053560073341107:=()
def tw7254689432517310876:=()
def tw14243725469059887559:=()
def tw12992912687007110429:=()
def tw18146043592488774356:=()
def tw10730365482621641295:=()
def tw3889679405261811358:=()
def tw11467555781683396642:=()
def tw16566696955157968441:=()
def tw10036543881005070433:=()
def tw3863117299220120245:=()
def tw6086516029395753540:=()
def tw8526358623749527332:=()
def tw12810850818585781151:=()
def tw12575738484593931310:=()
def tw11107323105125090047:=()
def tw11575009477232268604:=()
def tw17582135727253479566:=()
def tw3963274086356882505:=()
def tw11576655717924701630:=()
def tw7275692856744137698:=()
def tw17003147379593100872:=()
def tw5467087273269723614:=()
def tw5137399463429579963:=()
def tw12440050163384418110:=()
def tw3059216694550044831:=()
def tw15084706031063754015:=()
def tw2850864019822453046:=()
def tw16483881592421258156:=()
def tw15110283861241525315:=()
def tw10328146746636432201:=()
def tw17753657498670050667:=()
def tw6032182637280780913:=()
def tw4474624437348196276:=()
def tw1068873872200344090:=()
def tw15507870513211772267:=()
def tw14772782302866747458:=()
def tw13419239888927873883:=()
def tw13195523981280163501:=()
def tw9730103131830759186:=()
def tw11606236208066833337:=()
def tw13982010080309803712:=()
def tw16409851283671309868:=()
def tw12582961460000874960:=()
def tw14639521958489400933:=()
def tw15402272017357164657:=()
def tw3146886456474543458:=()
def tw2670862550246950903:=()
def tw12370497779932100076:=()
def tw274932879547382175:=()
def tw6132101845067724282:=()
def tw9363959109876183953:=()
def tw1538458835147601582:=()
def tw7987578652745679873:=()
def tw18096733716499931852:=()
def tw4010140016027585383:=()
def tw7836571462649975571:=()
def tw10527849222378172915:=()
def tw13119510868774021942:=()
def tw5162064741903281135:=()
def tw5645817877781099216:=()
def tw9756789416443690458:=()
def tw8173164048603006694:=()
def tw16957621841086630079:=()
def tw6741774671791187849:=()
def tw4315574813975815823:=()
def tw11552906587791262799:=()
def tw15537018482057788713:=()
def tw15749008777359658431:=()
def tw10779776397393349863:=()
def tw4346622507569586332:=()
def tw16697952285636609535:=()
def tw15709791944560150851:=()
def tw3805405126223109016:=()
def tw13262185372061683526:=()
def tw357918532761607471:=()
def tw10961001979137135402:=()
def tw3611037525314525286:=()
def tw51673659312606877:=()
def tw7916835231577689504:=()
def tw16570237567812541105:=()
def tw6648666132940107954:=()
def tw1682040463020816051:=()
def tw5878798594958328583:=()
def tw1690166685587622231:=()
def tw17657242388332095017:=()
def tw12734803619227602323:=()
def tw10089053099972575025:=()
def tw10872264424954716636:=()
def tw570256021328888475:=()
def tw13561319513745735073:=()
def tw14069553372194102724:=()
def tw2264167563399740246:=()
def tw4067466048721602524:=()
def tw7086667864211692402:=()
def tw16829961622279676353:=()
def tw15731645491008424286:=()
def tw400181092734688004:=()
def tw4917862493762836575:=()
def tw17980902647479226517:=()
def tw2006801939366462310:=()
def tw4584419848114973256:=()
def tw6248070021426704321:=()
def tw7461666166058775332:=()
def tw14847479086542398309:=()
def tw10603901804855654142:=()
def tw3756283226091097726:=()
def tw7034336540239484439:=()
def tw18098856535997365799:=()
def tw4477850097864014760:=()
def tw5675336680435843823:=()
def tw15394328828047252669:=()
def tw15959568968133166551:=()
def tw12245793842052044045:=()
def tw6237250006604813124:=()
def tw16335706039330144081:=()
def tw10149494554680836038:=()
def tw2427483685981377838:=()
def tw12966950278387002631:=()
def tw14400385088390324129:=()
def tw4682723611364007291:=()
def tw8716700955871274271:=()
def tw4365280558073169125:=()
def tw4085154897230968793:=()
def tw11876218817264519466:=()
def tw3231568339561041080:=()
def tw9161169808394182990:=()
def tw5215665516322314668:=()
def tw16071154064242914495:=()
def tw18148395179156048564:=()
def tw1966015742694369832:=()
def tw1233288538332177131:=()
def tw11415492335958443280:=()
def tw15901998273795288214:=()
def tw17378915207498627153:=()
def tw2015577874082493263:=()
def tw14213493133085006749:=()
def tw13924566012391035219:=()
def tw4822363447556439024:=()
def tw4906616049264786926:=()
def tw12008155932590169228:=()
def tw11623090550894618511:=()
def tw2926852921144238698:=()
def tw8869439210396560533:=()
def tw14329144016800333913:=()
def tw17117133213147212340:=()
def tw741217373217832260:=()
def tw9270139641830939748:=()
def tw9068281605842791916:=()
def tw1665969671425942701:=()
def tw17556705898279721194:=()
def tw3183860977033740327:=()
def tw18395175495835785482:=()
def tw3439015112635537737:=()
def tw3569757541331655627:=()
def tw11070895674359769395:=()
def tw9447670886886052350:=()
def tw4224409478218034263:=()
def tw8038093073554374759:=()
def tw4487503818750128003:=()
def tw1024843657074333721:=()
def tw13317770414467951359:=()
def tw7108190928193344830:=()
def tw4703366314570892111:=()
def tw4336850195830820173:=()
def tw8151136508154342509:=()
def tw6448667529468158843:=()
def tw6897750875895346248:=()
def tw18011811685358248269:=()
def tw1622742796185409136:=()
def tw11208770754994119149:=()
def tw3481777882445490137:=()
def tw3848174519079459496:=()
def tw17961032192571649962:=()
def tw6841544692659896691:=()
def tw10263390906493136147:=()
def tw11924581957786291410:=()
def tw10287054453510744044:=()
def tw13100580386818766743:=()
def tw8855244686401266375:=()
def tw5466969752148267203:=()
def tw10415943754947945294:=()
def tw10048059120916020594:=()
def tw11695394068360024014:=()
def tw18314886743367740463:=()
def tw8571976729833113402:=()
def tw12771944199165388061:=()
def tw16935410536569729748:=()
def tw6769203812433455358:=()
def tw14955281766130015991:=()
def tw8009590793030708534:=()
def tw6121468329087590970:=()
def tw4154602957213536063:=()
def tw973879119865688569:=()
def tw13612751972396524482:=()
def tw3144181019946680666:=()
def tw9475160929265338446:=()
def tw17907228765552488171:=()
def tw12063421713991796257:=()
def tw6577555715178189617:=()
def tw17615366842722472896:=()
def tw6841633596080320129:=()
def tw11169813114409968426:=()
def tw13811623495555270200:=()
def tw7190282659300908132:=()
def tw16338278244644398239:=()
def tw7315983278190098706:=()
def tw10452166201237873894:=()
def tw7387555114422905782:=()
def tw9047257752750776295:=()
def tw4119218878605593570:=()
def tw1250312401414473875:=()
def tw396583257482641177:=()
def tw13158523941399840534:=()
def tw1823829441206811718:=()
def tw8936219318063407928:=()
def tw17756953640559403353:=()
def tw16750880223908298026:=()
def tw15294248386001273523:=()
def tw9989010673862029494:=()
def tw10022383683424756660:=()
def tw4264197468868023517:=()
def tw6585426852982276094:=()
def tw4430372369478313820:=()
def tw14741618107461625598:=()
def tw12192409896040590810:=()
def tw12888356712531038656:=()
def tw12038880963492481064:=()
def tw7800146344461206143:=()
def tw14500307557891499781:=()
def tw579747984756785930:=()
def tw3448707522089981056:=()
def tw15520338393445996750:=()
def tw3884526308092158253:=()
end PySem.W.Fast
end
open PySem PySem.W PyProof.Rows
set_option maxRecDepth 100000 in
set_option maxHeartbeats 0 in
theorem PySem.Challenge.cw_lazyrails_k40_whole_trimmed_reads_alike_holds : PySem.Challenge.rw_lazyrails_k40_whole_trimmed_reads_alike.Holds := by
 w_on; o_law; k_head; (case hw => w_witness2)
 k_fill
 refine L2.walk_ofK (l:=PySem.Challenge.rw_lazyrails_k40_whole_trimmed_reads_alike) (n:=63) (k:=12) (x := "_law_script") (CX:=L2.CX0) (sp:=P.sp_law) rfl (by decide) rfl ⟨rfl,by decide,by decide,rfl⟩ (fun w h Y => PySem.W.kIn_of Y) ?F ?S ?C
 case F =>
  intro w mg fa h KX G hmg
  have T:∃ t,P.Txt (L2.KOf KX) mg t:=by
   dsimp only [L2.KOf]
   refine' ⟨_,P.txt_mk KX G ?zdr ?zds ?zdt ?zdu ?zdv ?zdw ?zdx ?zdy ?zdz ?ze0 ?ze1 ?ze2 ?ze3 ?ze4 ?ze5 ?ze6 ?ze7 ?ze8 ?ze9 ?zea ?zeb ?zec ?zed ?zee ?zef ?zeg ?zeh ?zei ?zej ?zek ?zel ?zem ?zen ?zeo ?zep ?zeq ?zer ?zes ?zet ?zeu ?zev ?zew ?zex ?zey ?zez ?zf0 ?zf1 ?zf2 ?zf3 ?zf4 ?zf5 ?zf6 ?zf7 ?zf8 ?zf9 ?zfa ?zfb ?zfc ?zfd ?zfe ?zff ?zfg ?zfh ?zfi ?zfj ?zfk ?zfl ?zfm ?zfn ?zfo ?zfp ?zfq ?zfr ?zfs ?zft ?zfu ?zfv ?zfw ?zfx ?zfy ?zfz ?zg0 ?zg1 ?zg2 ?zg3 ?zg4 ?zg5 ?zg6 ?zg7 ?zg8 ?zg9 ?zga ?zgb ?zgc ?zgd ?zge ?zgf ?zgg ?zgh ?zgi ?zgj ?zgk ?zgl ?zgm ?zgn ?zgo ?zgp ?zgq ?zgr ?zgs ?zgt ?zgu ?zgv ?zgw ?zgx ?zgy ?zgz ?zh0 ?zh1 ?zh2 ?zh3 ?zh4 ?zh5 ?zh6 ?zh7 ?zh8 ?zh9 ?zha ?zhb ?zhc ?zhd ?zhe ?zhf ?zhg ?zhh ?zhi ?zhj ?zhk ?zhl ?zhm ?zhn ?zho ?zhp ?zhq ?zhr ?zhs ?zht ?zhu ?zhv ?zhw ?zhx ?zhy ?zhz ?zi0 ?zi1 ?zi2 ?zi3 ?zi4 ?zi5 ?zi6 ?zi7 ?zi8 ?zi9 ?zia ?zib ?zic ?zid ?zie ?zif ?zig ?zih ?zii ?zij ?zik ?zil ?zim ?zin ?zio ?zip ?ziq ?zir ?zis ?zit ?ziu ?ziv ?ziw ?zix ?ziy ?ziz ?zj0 ?zj1 ?zj2 ?zj3 ?zj4 ?zj5 ?zj6 ?zj7 ?zj8 ?zj9 ?zja ?zjb ?zjc ?zjd ?zje ?zjf ?zjg ?zjh ?zji ?zjj ?zjk ?zjl ?zjm ?zjn ?zjo ?zjp ?zjq ?zjr ?zjs ?zjt ?zju ?zjv ?zjw ?zjx ?zjy ?zjz ?zk0 ?zk1 ?zk2 ?zk3 ?zk4 ?zk5 ?zk6 ?zk7 ?zk8 ?zk9 ?zka ?zkb ?zkc ?zkd ?zke ?zkf ?zkg ?zkh ?zki ?zkj ?zkk ?zkl ?zkm ?zkn ?zko ?zkp ?zkq ?zkr ?zks ?zkt ?zku ?zkv ?zkw ?zkx ?zky ?zkz ?zl0 ?zl1 ?zl2 ?zl3 ?zl4 ?zl5 ?zl6 ?zl7 ?zl8 ?zl9 ?zla ?zlb ?zlc ?zld ?zle ?zlf ?zlg ?zlh ?zli ?zlj ?zlk ?zll ?zlm ?zln ?zlo ?zlp⟩
   (case zdr => k_is)
   (case zds => k_is)
   (case zdt => k_is)
   (case zdu => k_is)
   (case zdv => k_is)
   (case zdw => k_is)
   (case zdx => exact rfl)
   (case zdy => k_is)
   (case zdz => k_is)
   (case ze0 => k_is)
   (case ze1 => k_is)
   (case ze2 => exact rfl)
   (case ze3 => k_is)
   (case ze4 => k_is)
   (case ze5 => k_is)
   (case ze6 => k_is)
   (case ze7 => exact rfl)
   (case ze8 => k_is)
   (case ze9 => k_is)
   (case zea => k_is)
   (case zeb => k_is)
   (case zec => exact rfl)
   (case zed => k_is)
   (case zee => k_is)
   (case zef => k_is)
   (case zeg => k_is)
   (case zeh => exact rfl)
   (case zei => k_is)
   (case zej => k_is)
   (case zek => k_is)
   (case zel => k_is)
   (case zem => exact rfl)
   (case zen => k_is)
   (case zeo => k_is)
   (case zep => k_is)
   (case zeq => k_is)
   (case zer => exact rfl)
   (case zes => k_is)
   (case zet => k_is)
   (case zeu => k_is)
   (case zev => k_is)
   (case zew => exact rfl)
   (case zex => k_is)
   (case zey => k_is)
   (case zez => k_is)
   (case zf0 => k_is)
   (case zf1 => exact rfl)
   (case zf2 => k_is)
   (case zf3 => k_is)
   (case zf4 => k_is)
   (case zf5 => k_is)
   (case zf6 => exact rfl)
   (case zf7 => k_is)
   (case zf8 => k_is)
   (case zf9 => k_is)
   (case zfa => k_is)
   (case zfb => exact rfl)
   (case zfc => k_is)
   (case zfd => k_is)
   (case zfe => k_is)
   (case zff => k_is)
   (case zfg => exact rfl)
   (case zfh => k_is)
   (case zfi => k_is)
   (case zfj => k_is)
   (case zfk => k_is)
   (case zfl => exact rfl)
   (case zfm => k_is)
   (case zfn => k_is)
   (case zfo => k_is)
   (case zfp => k_is)
   (case zfq => exact rfl)
   (case zfr => k_is)
   (case zfs => k_is)
   (case zft => k_is)
   (case zfu => k_is)
   (case zfv => exact rfl)
   (case zfw => k_is)
   (case zfx => k_is)
   (case zfy => k_is)
   (case zfz => k_is)
   (case zg0 => exact rfl)
   (case zg1 => k_is)
   (case zg2 => k_is)
   (case zg3 => k_is)
   (case zg4 => k_is)
   (case zg5 => exact rfl)
   (case zg6 => k_is)
   (case zg7 => k_is)
   (case zg8 => k_is)
   (case zg9 => k_is)
   (case zga => exact rfl)
   (case zgb => k_is)
   (case zgc => k_is)
   (case zgd => k_is)
   (case zge => k_is)
   (case zgf => exact rfl)
   (case zgg => k_is)
   (case zgh => k_is)
   (case zgi => k_is)
   (case zgj => k_is)
   (case zgk => exact rfl)
   (case zgl => k_is)
   (case zgm => k_is)
   (case zgn => k_is)
   (case zgo => k_is)
   (case zgp => exact rfl)
   (case zgq => k_is)
   (case zgr => k_is)
   (case zgs => k_is)
   (case zgt => k_is)
   (case zgu => exact rfl)
   (case zgv => k_is)
   (case zgw => k_is)
   (case zgx => k_is)
   (case zgy => k_is)
   (case zgz => exact rfl)
   (case zh0 => k_is)
   (case zh1 => k_is)
   (case zh2 => k_is)
   (case zh3 => k_is)
   (case zh4 => exact rfl)
   (case zh5 => k_is)
   (case zh6 => k_is)
   (case zh7 => k_is)
   (case zh8 => k_is)
   (case zh9 => k_is)
   (case zha => exact rfl)
   (case zhb => k_is)
   (case zhc => k_is)
   (case zhd => k_is)
   (case zhe => k_is)
   (case zhf => k_is)
   (case zhg => exact rfl)
   (case zhh => k_is)
   (case zhi => k_is)
   (case zhj => k_is)
   (case zhk => k_is)
   (case zhl => k_is)
   (case zhm => exact rfl)
   (case zhn => k_is)
   (case zho => k_is)
   (case zhp => k_is)
   (case zhq => k_is)
   (case zhr => k_is)
   (case zhs => exact rfl)
   (case zht => k_is)
   (case zhu => k_is)
   (case zhv => k_is)
   (case zhw => k_is)
   (case zhx => k_is)
   (case zhy => exact rfl)
   (case zhz => k_is)
   (case zi0 => k_is)
   (case zi1 => k_is)
   (case zi2 => k_is)
   (case zi3 => k_is)
   (case zi4 => exact rfl)
   (case zi5 => k_is)
   (case zi6 => k_is)
   (case zi7 => k_is)
   (case zi8 => k_is)
   (case zi9 => k_is)
   (case zia => exact rfl)
   (case zib => k_is)
   (case zic => k_is)
   (case zid => k_is)
   (case zie => k_is)
   (case zif => k_is)
   (case zig => exact rfl)
   (case zih => k_is)
   (case zii => k_is)
   (case zij => k_is)
   (case zik => k_is)
   (case zil => k_is)
   (case zim => exact rfl)
   (case zin => k_is)
   (case zio => k_is)
   (case zip => k_is)
   (case ziq => k_is)
   (case zir => k_is)
   (case zis => exact rfl)
   (case zit => k_is)
   (case ziu => k_is)
   (case ziv => k_is)
   (case ziw => k_is)
   (case zix => k_is)
   (case ziy => exact rfl)
   (case ziz => k_is)
   (case zj0 => k_is)
   (case zj1 => k_is)
   (case zj2 => k_is)
   (case zj3 => k_is)
   (case zj4 => exact rfl)
   (case zj5 => k_is)
   (case zj6 => k_is)
   (case zj7 => k_is)
   (case zj8 => k_is)
   (case zj9 => k_is)
   (case zja => exact rfl)
   (case zjb => k_is)
   (case zjc => k_is)
   (case zjd => k_is)
   (case zje => k_is)
   (case zjf => k_is)
   (case zjg => exact rfl)
   (case zjh => k_is)
   (case zji => k_is)
   (case zjj => k_is)
   (case zjk => k_is)
   (case zjl => k_is)
   (case zjm => exact rfl)
   (case zjn => k_is)
   (case zjo => k_is)
   (case zjp => k_is)
   (case zjq => k_is)
   (case zjr => k_is)
   (case zjs => exact rfl)
   (case zjt => k_is)
   (case zju => k_is)
   (case zjv => k_is)
   (case zjw => k_is)
   (case zjx => k_is)
   (case zjy => exact rfl)
   (case zjz => k_is)
   (case zk0 => k_is)
   (case zk1 => k_is)
   (case zk2 => k_is)
   (case zk3 => k_is)
   (case zk4 => exact rfl)
   (case zk5 => k_is)
   (case zk6 => k_is)
   (case zk7 => k_is)
   (case zk8 => k_is)
   (case zk9 => k_is)
   (case zka => exact rfl)
   (case zkb => k_is)
   (case zkc => k_is)
   (case zkd => k_is)
   (case zke => k_is)
   (case zkf => k_is)
   (case zkg => exact rfl)
   (case zkh => k_is)
   (case zki => k_is)
   (case zkj => k_is)
   (case zkk => k_is)
   (case zkl => k_is)
   (case zkm => k_is)
   (case zkn => k_is)
   (case zko => k_is)
   (case zkp => k_is)
   (case zkq => k_is)
   (case zkr => k_is)
   (case zks => k_is)
   (case zkt => k_is)
   (case zku => k_is)
   (case zkv => k_is)
   (case zkw => k_is)
   (case zkx => k_is)
   (case zky => k_is)
   (case zkz => k_is)
   (case zl0 => k_is)
   (case zl1 => k_is)
   (case zl2 => k_is)
   (case zl3 => k_is)
   (case zl4 => k_is)
   (case zl5 => k_is)
   (case zl6 => k_is)
   (case zl7 => k_is)
   (case zl8 => k_is)
   (case zl9 => k_is)
   (case zla => k_is)
   (case zlb => k_is)
   (case zlc => k_is)
   (case zld => k_is)
   (case zle => k_is)
   (case zlf => k_is)
   (case zlg => exact ⟨_,rfl⟩)
   (case zlh => k_is)
   (case zli => exact rfl)
   (case zlj => k_is)
   (case zlk => exact (show 3 <= PySem.sizeLine by decide))
   (case zll => exact .cons ⟨_,rfl⟩ (.cons ⟨_,rfl⟩ (.cons ⟨_,rfl⟩ (.nil))))
   (case zlm => k_is)
   (case zln => exact ⟨_,rfl,by kernel_rfl⟩)
   (case zlo => k_is)
   (case zlp => exact ⟨_,rfl⟩)
  obtain ⟨t,T⟩:=T
  have e0:=hmg.symm.trans T.m_law
  cases e0
  exact ⟨_,fun s u => P.law_binds T s u,fun base kb nb => P.ok_law T⟩
 case S => exact fun K H a ns hl hO hS => P.law_start hl hS
 case C => exact fun H s e s' z => z
