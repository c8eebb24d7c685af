import PyProof.Rows.All
import Wide.All
import OpenK.AllK
import Wide.FinOn
import Lean
import PyProof.EqAt
import PyProof.EqKinds
import PyProof.TupleCall
import PyProof.ZipIter
import PyProof.EnumMake
import PyProof.ListRange
import KE.KDictList
import KE.LcSums
import KE.KTabLook
import PyProof.P3In
import KE.KIntText
import PyProof.StrLoop
import PyProof.StrWalks
import PyProof.StrCalls2
import PyProof.StrLawsTight
import PyProof.StrLawsChain
import PyProof.Rows.SortShell
import KE.KSortTup
import PySem.Challenge.RW_lazyrails_k49_yards_written
set_option Elab.async false
set_option linter.all false
set_option maxRecDepth 100000
namespace L2
open PySem PySem.Spec PyProof.Rows
abbrev Key:=Sum Int Str
def keyIs:Key -> Value -> Bool
 | .inl k,v => Value.isInt k v
 | .inr x,v => Value.isStrOf x v
def keyH (w:World):Key -> Int
 | .inl k => hashInt k
 | .inr x => hashStr w x
theorem keyIs_shape:∀ {k:Key} {v:Value},keyIs k v = true -> (∃ i t,k = Sum.inl i /\ v = Value.int i t) ∨ (∃ x t,k = Sum.inr x /\ v = Value.str x t)
 | .inl i,v,h => by
  obtain ⟨t,e⟩:=Value.isInt_shape (k:=i) (v:=v) h
  exact .inl ⟨i,t,rfl,e⟩
 | .inr x,v,h => by
  obtain ⟨t,e⟩:=Value.isStrOf_shape (x:=x) (v:=v) h
  exact .inr ⟨x,t,rfl,e⟩
theorem keyIs_int (i:Int) (t:Tok):keyIs (.inl i) (.int i t) = true:=by simp [keyIs,Value.isInt]
theorem keyIs_str (x:Str) (t:Tok):keyIs (.inr x) (.str x t) = true:=by simp [keyIs,Value.isStrOf]
theorem key_ll (a b:Int):decide ((Sum.inl a:Key) = Sum.inl b) = (a == b):=by
 by_cases e:a = b
 ·subst e; simp
 ·have h:¬ (Sum.inl a:Key) = Sum.inl b:=fun q => e (Sum.inl.inj q)
  rw [decide_eq_false h]
  exact (beq_eq_false_iff_ne.mpr e).symm
theorem key_rr (a b:Str):decide ((Sum.inr a:Key) = Sum.inr b) = decide (a = b):=by
 by_cases e:a = b
 ·subst e; simp
 ·have h:¬ (Sum.inr a:Key) = Sum.inr b:=fun q => e (Sum.inr.inj q)
  rw [decide_eq_false h,decide_eq_false e]
theorem key_lr (a:Int) (b:Str):decide ((Sum.inl a:Key) = Sum.inr b) = false:=decide_eq_false (fun q => nomatch q)
theorem key_rl (a:Str) (b:Int):decide ((Sum.inr a:Key) = Sum.inl b) = false:=decide_eq_false (fun q => nomatch q)
def mixKind (prog:Program) (w:World):PySem.KeyKind prog w Key where
 is:=keyIs
 hash:=keyH w
 inj:=fun v a b ha hb => by
  rcases keyIs_shape ha with ⟨i,t,rfl,rfl⟩ | ⟨x,t,rfl,rfl⟩
  ·rcases keyIs_shape hb with ⟨j,u,rfl,e⟩ | ⟨y,u,rfl,e⟩
   ·injection e with e1 _; rw [e1]
   ·exact nomatch e
  ·rcases keyIs_shape hb with ⟨j,u,rfl,e⟩ | ⟨y,u,rfl,e⟩
   ·exact nomatch e
   ·injection e with e1 _; rw [e1]
 byValue:=fun k v h => by
  rcases keyIs_shape h with ⟨i,t,rfl,rfl⟩ | ⟨x,t,rfl,rfl⟩ <;> rfl
 pyHash:=fun hv h => by
  rcases keyIs_shape hv with ⟨i,t,rfl,rfl⟩ | ⟨x,t,rfl,rfl⟩
  ·exact wpAny_pyHash_int h
  ·exact wpAny_pyHash_str h
 eqBool:=fun hu hv h => by
  rcases keyIs_shape hu with ⟨i,t,rfl,rfl⟩ | ⟨x,t,rfl,rfl⟩
  ·rcases keyIs_shape hv with ⟨j,u,rfl,rfl⟩ | ⟨y,u,rfl,rfl⟩
   ·rw [key_ll] at h; exact wpAny_eqBool_int h
   ·rw [key_lr] at h; exact SeqAt.EqAt.int_str i t y u _ _ _ _ h
  ·rcases keyIs_shape hv with ⟨j,u,rfl,rfl⟩ | ⟨y,u,rfl,rfl⟩
   ·rw [key_rl] at h; exact SeqAt.EqAt.str_int x t j u _ _ _ _ h
   ·rw [key_rr] at h; exact wpAny_eqBool_str h
 «strs»:=fun k x t v h => by
  rcases keyIs_shape h with ⟨i,u,rfl,e⟩ | ⟨y,u,rfl,e⟩
  ·exact nomatch e
  ·injection e with e1 _
   subst e1
   cases v <;> rfl
theorem mixKind_int (prog:Program) (w:World) (i:Int) (t:Tok):(mixKind prog w).is (.inl i) (.int i t) = true:=keyIs_int i t
theorem mixKind_str (prog:Program) (w:World) (x:Str) (t:Tok):(mixKind prog w).is (.inr x) (.str x t) = true:=keyIs_str x t
end L2
namespace L2
open PySem PySem.Spec PyProof.Rows
inductive V where
 | non | bl (b:Bool) | int (i:Int) | str (x:Str) | byt (b:Array UInt8) | flt (b:UInt64) | ref (a:Addr) | ty (n:String)
 deriving DecidableEq
def RelV:V -> Value -> Prop
 | .non,u => u = Value.none
 | .bl b,u => u = Value.bool b
 | .int i,u => ∃ t,u = Value.int i t
 | .str x,u => ∃ t,u = Value.str x t
 | .byt b,u => ∃ t,u = Value.bytes b t
 | .flt b,u => ∃ t,u = Value.float b t
 | .ref a,u => u = Value.ref a
 | .ty n,u => u = Value.type n
abbrev Vals:List V -> List Value -> Prop:=Paired RelV
theorem Vals.length {xs:List V} {us:List Value} (r:Vals xs us):xs.length = us.length:=Paired.length r
theorem Vals.get:∀ {xs:List V} {us:List Value} {i:Nat} {x:V},Vals xs us -> xs[i]? = some x -> ∃ u,us[i]? = some u /\ RelV x u
 | _,_,_,_,.nil,e => by simp at e
 | _,_,0,_,.cons r _,e => by simp at e; subst e; exact ⟨_,rfl,r⟩
 | _,_,i + 1,x,.cons _ t,e => by
  obtain ⟨u,h1,h2⟩:=Vals.get (i:=i) (x:=x) t (by simpa using e)
  exact ⟨u,by simpa using h1,h2⟩
theorem Vals.set {x:V} {u:Value} (r:RelV x u):∀ {xs:List V} {us:List Value} (i:Nat),Vals xs us -> Vals (xs.set i x) (us.set i u)
 | _,_,_,.nil => .nil
 | _,_,0,.cons _ t => .cons r t
 | _,_,i + 1,.cons q t => .cons q (Vals.set r i t)
theorem Vals.append:∀ {xs ys:List V} {us ws:List Value},Vals xs us -> Vals ys ws -> Vals (xs ++ ys) (us ++ ws)
 | _,_,_,_,.nil,s => s
 | _,_,_,_,.cons r t,s => .cons r (Vals.append t s)
theorem Vals.take:∀ {xs:List V} {us:List Value} (n:Nat),Vals xs us -> Vals (xs.take n) (us.take n)
 | _,_,0,_ => .nil
 | _,_,_ + 1,.nil => .nil
 | _,_,n + 1,.cons r t => .cons r (Vals.take n t)
theorem Vals.drop:∀ {xs:List V} {us:List Value} (n:Nat),Vals xs us -> Vals (xs.drop n) (us.drop n)
 | _,_,0,r => r
 | _,_,_ + 1,.nil => .nil
 | _,_,n + 1,.cons _ t => Vals.drop n t
theorem Vals.none_of:∀ {xs:List V} {us:List Value} {i:Nat},Vals xs us -> xs[i]? = none -> us[i]? = none:=fun {xs us i} r e => by
 have h1:=r.length
 have h2:xs.length <= i:=List.getElem?_eq_none_iff.mp e
 exact List.getElem?_eq_none_iff.mpr (by omega)
def RelO:Option V -> Option Value -> Prop
 | some v,some u => RelV v u
 | none,none => True
 | _,_ => False
def KV {κ:Type}:List (κ × V) -> List (κ × Value) -> Prop:=Paired fun (p:κ × V) (q:κ × Value) => p.1 = q.1 /\ RelV p.2 q.2
def kV:Key -> V
 | .inl i => .int i
 | .inr x => .str x
inductive HO where
  | lst (xs:List V)
  | tup (xs:List V)
  | dK (kvs:List (Key × V)) | dT (kvs:List (List Key × V))
  | set (S:Int -> Bool) (n:Nat)
  | ins (C dx:Addr) (fs:List (Str × V))
  | own (x:Addr)
  | xd (fs:List (Str × V))
  | met (f x:Addr)
  | rng (lo hi:Int)
  | frz (o:Obj) (u:HO)
  | tbl (ps:Array Value)
  | ext (φ:Heap -> Prop)
abbrev Hp:=Addr -> Option HO
def upd (H:Hp) (a:Addr) (o:HO):Hp:=fun b => if b = a then some o else H b
theorem upd_same {H:Hp} {a:Addr} {o:HO}:upd H a o a = some o:=by unfold upd; rw [if_pos rfl]
theorem upd_ne {H:Hp} {a b:Addr} {o:HO} (h:b ≠ a):upd H a o b = H b:=by unfold upd; rw [if_neg h]
theorem ne_of {H:Hp} {a b:Addr} {o u:HO} (h:H a = some o) (h':H b = some u) (d:o ≠ u):a ≠ b:=by
 intro e; subst e; rw [h] at h'; exact d (Option.some.inj h')
theorem ne_of_none {H:Hp} {a b:Addr} {o:HO} (h:H a = some o) (h':H b = none):a ≠ b:=by
 intro e; subst e; rw [h] at h'; cases h'
section
variable (P:Program) (w:World)
def ObjOk (H:Hp) (h:Heap) (a:Addr):HO -> Prop
 | .lst xs => xs.length <= sizeLine /\ ∃ (its:List Value) (n:Nat),Vals xs its /\ h.get? a = some { cls:=.type "list",data:=.seq its.toArray n }
 | .tup xs => xs.length <= sizeLine /\ ∃ its:List Value,Vals xs its /\ IsTup h a its.toArray
 | .dK kvs => kvs.length <= sizeLine /\ (a == sysModules) = false /\ ∃ vs,KV kvs vs /\ h.DictOf (mixKind P w) a vs
 | .dT kvs => kvs.length <= sizeLine /\ (a == sysModules) = false /\ ∃ xs:List (List Key × Addr × Value),
   Paired (fun (p:List Key × V) (q:List Key × Addr × Value) => p.1 = q.1 /\ H q.2.1 = some (.tup (p.1.map kV)) /\ RelV p.2 q.2.2) kvs xs /\
   ∃ o es ep,h.get? a = some o /\ o.ExactDict /\ o.data = .dict es ep /\ es.toList = xs.map (entryOfKey (tupleKind (mixKind P w))) /\ (xs.map (·.1)).Nodup
 | .set S n => h.SetOf (intKind P w) a S n
 | .ins C dx fs => H dx = some (.own a) /\ fs.length <= 1000 /\ dx ≠ a /\ h.get? a = some (PySem.W.instObj C dx) /\
   ∃ mA,h.Ns1 dx mA /\ (∀ f,RelO (fs.lookup f) (mA f)) /\ PySem.Within mA (fs.map (·.1))
 | .own _ => ∃ o,h.get? a = some o
 | .xd fs => ∃ mA,h.Ns1 a mA /\ ∀ f,RelO (fs.lookup f) (mA f)
 | .rng lo hi => ∃ t u v,h.get? a = some { cls:=.type "range",data:=.fields #[.int lo t,.int hi u,.int 1 v] }
 | .frz o u => h.get? a = some o /\ ObjOk H h a u
 | .tbl ps => h.get? a = some { cls:=.none,data:=.fields ps }
 | .met f x => h.get? a = some (PySem.W.methodObj (.ref f) (.ref x))
 | .ext φ => φ h /\ (∃ o,h.get? a = some o) /\ ∀ h1 h2:Heap,φ h1 -> (∀ o,h1.get? a = some o -> h2.get? a = some o) -> φ h2
def HOk (H:Hp) (h:Heap):Prop:=∀ a o,H a = some o -> ObjOk P w H h a o
end
section
variable {P:Program} {w:World} {H H':Hp} {h h':Heap} {a:Addr} {o:HO}
theorem ObjOk.lt (x:ObjOk P w H h a o):a < h.objs.size:=by
 cases o with
 | lst xs => obtain ⟨_,_,_,_,e⟩:=x; exact Heap.lt_size e
 | tup xs => obtain ⟨_,_,_,p⟩:=x; exact p.lt
 | dK kvs => obtain ⟨_,_,_,_,o,_,_,e,_⟩:=x; exact Heap.lt_size e
 | dT kvs => obtain ⟨_,_,_,_,o,_,_,e,_⟩:=x; exact Heap.lt_size e
 | set S n => obtain ⟨o,_,_,_,e,_⟩:=x; exact Heap.lt_size e
 | ins C dx fs => obtain ⟨_,_,_,e,_⟩:=x; exact Heap.lt_size e
 | own y => obtain ⟨_,e⟩:=x; exact Heap.lt_size e
 | xd fs => obtain ⟨_,⟨_,_,_,e,_⟩,_⟩:=x; exact Heap.lt_size e
 | rng lo hi => obtain ⟨_,_,_,e⟩:=x; exact Heap.lt_size e
 | frz ob u => obtain ⟨e,_⟩:=x; exact Heap.lt_size e
 | tbl ps => exact Heap.lt_size (show h.get? a = some _ from x)
 | met f y => exact Heap.lt_size (show h.get? a = some _ from x)
 | ext φ => obtain ⟨_,⟨_,e⟩,_⟩:=x; exact Heap.lt_size e
theorem Paired.mapP {α β:Type} {F G:α -> β -> Prop}:∀ {l₁:List α} {l₂:List β},Paired F l₁ l₂ -> (∀ a b,F a b -> G a b) -> Paired G l₁ l₂
 | _,_,.nil,_ => .nil
 | _,_,.cons r t,f => .cons (f _ _ r) (Paired.mapP t f)
theorem ObjOk.stay (x:ObjOk P w H h a o) (k:∀ b u,(b = a ∨ H b = some (.own a)) -> h.get? b = some u -> h'.get? b = some u)
  (ho:∀ b,H b = some (.own a) -> H' b = some (.own a)) (ht:∀ b xs,H b = some (.tup xs) -> H' b = some (.tup xs)):ObjOk P w H' h' a o:=by
 induction o with
 | lst xs => obtain ⟨z,its,n,r,e⟩:=x; exact ⟨z,its,n,r,k _ _ (.inl rfl) e⟩
 | tup xs => obtain ⟨z,its,r,ob,e,c⟩:=x; exact ⟨z,its,r,ob,k _ _ (.inl rfl) e,c⟩
 | dK kvs => obtain ⟨z,y,vs,r,ob,es,ep,e,c⟩:=x; exact ⟨z,y,vs,r,ob,es,ep,k _ _ (.inl rfl) e,c⟩
 | dT kvs =>
  obtain ⟨z,y,xs,r,ob,es,ep,e,c⟩:=x
  exact ⟨z,y,xs,Paired.mapP r fun p q z => ⟨z.1,ht _ _ z.2.1,z.2.2⟩,ob,es,ep,k _ _ (.inl rfl) e,c⟩
 | set S n => obtain ⟨ob,es,ep,t,e,c⟩:=x; exact ⟨ob,es,ep,t,k _ _ (.inl rfl) e,c⟩
 | ins C dx fs =>
  obtain ⟨d,z,ne,e,mA,⟨od,es,ep,e2,c⟩,r⟩:=x
  exact ⟨ho _ d,z,ne,k _ _ (.inl rfl) e,mA,⟨od,es,ep,k _ _ (.inr d) e2,c⟩,r⟩
 | own y => obtain ⟨ob,e⟩:=x; exact ⟨ob,k _ _ (.inl rfl) e⟩
 | xd fs => obtain ⟨mA,⟨od,es,ep,e,c⟩,r⟩:=x; exact ⟨mA,⟨od,es,ep,k _ _ (.inl rfl) e,c⟩,r⟩
 | rng lo hi => obtain ⟨t,u,v,e⟩:=x; exact ⟨t,u,v,k _ _ (.inl rfl) e⟩
 | frz ob u ih => obtain ⟨e,q⟩:=x; exact ⟨k _ _ (.inl rfl) e,ih q⟩
 | tbl ps =>
  have e:h.get? a = some { cls:=.none,data:=.fields ps }:=x
  show h'.get? a = some { cls:=.none,data:=.fields ps }
  exact k a _ (.inl rfl) e
 | met f y =>
  have e:h.get? a = some (PySem.W.methodObj (.ref f) (.ref y)):=x
  show h'.get? a = some (PySem.W.methodObj (.ref f) (.ref y))
  exact k a _ (.inl rfl) e
 | ext φ => obtain ⟨p,⟨o,e⟩,st⟩:=x; exact ⟨st _ _ p fun o q => k _ _ (.inl rfl) q,⟨o,k _ _ (.inl rfl) e⟩,st⟩
theorem HOk.lt (x:HOk P w H h) (e:H a = some o):a < h.objs.size:=(x a o e).lt
theorem HOk.fresh (x:HOk P w H h) (e:h.objs.size <= a):H a = none:=by
 cases q:H a with
 | none => rfl
 | some u => exact absurd (Nat.lt_of_lt_of_le (x.lt q) e) (Nat.lt_irrefl _)
theorem HOk.kept (x:HOk P w H h) (k:∀ b u,h.get? b = some u -> h'.get? b = some u):HOk P w H h':=fun a o e =>
 (x a o e).stay (fun b u _ q => k b u q) (fun _ q => q) fun _ _ q => q
theorem HOk.laid (x:HOk P w H h) (k:∀ b u,h.get? b = some u -> h'.get? b = some u) (hp:h.objs.size <= a) (new:ObjOk P w (upd H a o) h' a o):HOk P w (upd H a o) h':=fun b u e => by
 have hn:=x.fresh hp
 by_cases hb:b = a
 ·subst hb; rw [upd_same] at e; cases e; exact new
 ·rw [upd_ne hb] at e
  exact (x b u e).stay (fun c v _ q => k c v q) (fun c q => by rw [upd_ne (ne_of_none q hn)]; exact q) fun c xs q => by rw [upd_ne (ne_of_none q hn)]; exact q
end
def Rd (H:Hp) (a:Addr) (u:HO):Prop:=H a = some u ∨ ∃ o,H a = some (.frz o u)
theorem Rd.of {H:Hp} {a:Addr} {u:HO} (h:H a = some u):Rd H a u:=.inl h
theorem Rd.ok {P:Program} {w:World} {H:Hp} {h:Heap} {a:Addr} {u:HO} (r:Rd H a u) (x:HOk P w H h):ObjOk P w H h a u:=by
 rcases r with r | ⟨o,r⟩
 ·exact x a u r
 ·obtain ⟨_,q⟩:=x a _ r
  exact q
def Mut:Option HO -> Prop
 | some (.lst _) => True
 | some (.dK _) => True
 | some (.dT _) => True
 | some (.set _ _) => True
 | some (.ins _ _ _) => True
 | some (.ext _) => True
 | _ => False
section
variable {P:Program} {w:World} {H:Hp} {h h':Heap} {x e:Addr} {o':HO}
theorem HOk.write (ok:HOk P w H h) (mu:Mut (H x)) (he:e = x ∨ H e = some (.own x)) (k:∀ b u,b ≠ e -> h.get? b = some u -> h'.get? b = some u) (heo:∃ u,h'.get? e = some u)
  (new:ObjOk P w (upd H x o') h' x o'):HOk P w (upd H x o') h':=fun b u q => by
 have nown:∀ c y,H c = some (.own y) -> c ≠ x:=fun c y r z => by subst z; rw [r] at mu; exact mu
 have ntup:∀ c xs,H c = some (.tup xs) -> c ≠ x:=fun c xs r z => by subst z; rw [r] at mu; exact mu
 by_cases hb:b = x
 ·subst hb; rw [upd_same] at q; cases q; exact new
 ·rw [upd_ne hb] at q
  by_cases hbe:b = e
  ·have q':H b = some (.own x):=by
    rcases he with z | z
    ·exact absurd (hbe.trans z) hb
    ·rw [hbe]; exact z
   rw [q] at q'; cases q'
   obtain ⟨v,hv⟩:=heo
   exact ⟨v,by rw [hbe]; exact hv⟩
  ·refine (ok b u q).stay (fun c v hc r => k c v ?_ r) (fun c r => by rw [upd_ne (nown c b r)]; exact r) fun c xs r => by rw [upd_ne (ntup c xs r)]; exact r
   rcases hc with rfl | hc
   ·exact hbe
   ·rintro rfl
    rcases he with z | z
    ·exact nown c b hc z
    ·rw [hc] at z; cases z; exact hb rfl
end
structure Un (fs ex:List Addr) (H H':Hp) (h h':Heap):Prop where
 keep:∀ b o,h.get? b = some o -> H b = none -> b ∉ fs -> b ∉ ex -> h'.get? b = some o
 slot:∀ b o,h.get? b = some o -> H b = none -> b ∈ fs -> b ∉ ex -> ∃ sl,h'.get? b = some { o with slots:=sl }
 free:∀ b o,h.get? b = some o -> H b = none -> b ∉ ex -> H' b = none
 there:∀ b o,h.get? b = some o -> b ∉ ex -> ∃ o',h'.get? b = some o'
 tups:∀ b xs,H b = some (.tup xs) -> H' b = some (.tup xs)
 frzs:∀ b o u,H b = some (.frz o u) -> H' b = some (.frz o u)
 tbls:∀ b ps,H b = some (.tbl ps) -> ∃ more,H' b = some (.tbl (ps ++ more))
section
variable {fs fs' ex ex':List Addr} {H H1 H2:Hp} {h h1 h2 h':Heap} {a x e:Addr} {o:HO}
theorem Un.any (u:Un fs ex H H1 h h1) {b:Addr} {ob:Obj} (q:h.get? b = some ob) (n:H b = none) (hx:b ∉ ex):∃ sl,h1.get? b = some { ob with slots:=sl }:=by
 by_cases hb:b ∈ fs
 ·exact u.slot b ob q n hb hx
 ·exact ⟨ob.slots,u.keep b ob q n hb hx⟩
theorem Un.trans (a:Un fs ex H H1 h h1) (b:Un fs ex H1 H2 h1 h2):Un fs ex H H2 h h2 where
 keep:=fun c ob q n hc hx => b.keep c ob (a.keep c ob q n hc hx) (a.free c ob q n hx) hc hx
 slot:=fun c ob q n hc hx => by
  obtain ⟨sl,e1⟩:=a.slot c ob q n hc hx
  obtain ⟨sl',e2⟩:=b.slot c _ e1 (a.free c ob q n hx) hc hx
  exact ⟨sl',e2⟩
 free:=fun c ob q n hx => by
  obtain ⟨o',e1⟩:=a.there c ob q hx
  exact b.free c o' e1 (a.free c ob q n hx) hx
 there:=fun c ob q hx => by
  obtain ⟨o',e1⟩:=a.there c ob q hx
  exact b.there c o' e1 hx
 tups:=fun c xs q => b.tups c xs (a.tups c xs q)
 frzs:=fun c ob xs q => b.frzs c ob xs (a.frzs c ob xs q)
 tbls:=fun c ps q => by
  obtain ⟨m1,e1⟩:=a.tbls c ps q
  obtain ⟨m2,e2⟩:=b.tbls c _ e1
  exact ⟨m1 ++ m2,by rw [e2,Array.append_assoc]⟩
theorem Un.kept (k:∀ b u,h.get? b = some u -> h'.get? b = some u):Un fs ex H H h h' :=
 ⟨fun b ob q _ _ _ => k b ob q,fun b ob q _ _ _ => ⟨ob.slots,k b ob q⟩,fun _ _ _ n _ => n,fun b ob q _ => ⟨ob,k b ob q⟩,fun _ _ q => q,fun _ _ _ q => q,fun _ ps q => ⟨#[],by rw [q]; simp⟩⟩
theorem Un.refl:Un fs ex H H h h:=Un.kept fun _ _ q => q
theorem Un.laid (k:∀ b u,h.get? b = some u -> h'.get? b = some u) (hp:h.objs.size <= a) (hn:H a = none):Un fs ex H (upd H a o) h h' where
 keep:=fun b u q _ _ _ => k b u q
 slot:=fun b u q _ _ _ => ⟨u.slots,k b u q⟩
 free:=fun b u q n _ => by rw [upd_ne (Nat.ne_of_lt (Nat.lt_of_lt_of_le (Heap.lt_size q) hp))]; exact n
 there:=fun b u q _ => ⟨u,k b u q⟩
 tups:=fun b xs q => by rw [upd_ne (ne_of_none q hn)]; exact q
 frzs:=fun b u xs q => by rw [upd_ne (ne_of_none q hn)]; exact q
 tbls:=fun b ps q => ⟨#[],by rw [upd_ne (ne_of_none q hn),q]; simp⟩
theorem Un.write (mu:Mut (H x)) (he:e = x ∨ H e = some (.own x)) (k:∀ b u,b ≠ e -> h.get? b = some u -> h'.get? b = some u) (heo:∃ u,h'.get? e = some u):Un fs ex H (upd H x o) h h':=by
 have hx:∀ b,H b = none -> b ≠ x:=fun b n z => by subst z; rw [n] at mu; exact mu
 have hb:∀ b,H b = none -> b ≠ e:=fun b n z => by
  subst z
  rcases he with r | r
  ·exact hx b n r
  ·rw [n] at r; cases r
 have hm:∀ b u,H b = some u -> ¬ Mut (some u) -> b ≠ x:=fun b u q nm z => by subst z; rw [q] at mu; exact nm mu
 refine ⟨fun b u q n _ _ => k b u (hb b n) q,fun b u q n _ _ => ⟨u.slots,k b u (hb b n) q⟩,fun b u q n _ => by rw [upd_ne (hx b n)]; exact n,fun b u q _ => ?_,
  fun b xs q => by rw [upd_ne (hm b _ q fun z => z)]; exact q,fun b u xs q => by rw [upd_ne (hm b _ q fun z => z)]; exact q,fun b ps q => ⟨#[],by rw [upd_ne (hm b _ q fun z => z),q]; simp⟩⟩
 by_cases hbe:b = e
 ·subst hbe; exact heo
 ·exact ⟨u,k b u hbe q⟩
theorem Un.mono (u:Un fs ex H H1 h h1) (hs:∀ b ∈ fs,b ∈ fs') (hx:∀ b ∈ ex,b ∈ ex'):Un fs' ex' H H1 h h1 :=
 ⟨fun b ob q n hb he => u.keep b ob q n (fun z => hb (hs b z)) fun z => he (hx b z),fun _ _ q n _ he => u.any q n fun z => he (hx _ z),fun b ob q n he => u.free b ob q n fun z => he (hx b z),fun b ob q he => u.there b ob q fun z => he (hx b z),u.tups,u.frzs,u.tbls⟩
end
def trk (h:Heap) (H:Hp):List Addr:=(List.range h.objs.size).filter fun a => (H a).isSome
def hidT (h:Heap) (H:Hp):Heap:=PySem.W.hideAll h (trk h H)
theorem hidT_size (h:Heap) (H:Hp):(hidT h H).objs.size = h.objs.size:=PySem.W.hideAll_size _ _
theorem hidT_get {h:Heap} {H:Hp} {b:Addr} {o:Obj} (e:h.get? b = some o) (n:H b = none):(hidT h H).get? b = some o :=
 PySem.W.hideAll_get _ e fun hm => by
  have q:(H b).isSome = true:=(List.mem_filter.mp hm).2
  rw [n] at q; simp at q
theorem of_hidT {h:Heap} {H:Hp} {b:Addr} {o:Obj} (e:(hidT h H).get? b = some o):h.get? b = some o /\ H b = none:=by
 have e':h.get? b = some o:=PySem.W.of_hideAll (trk h H) e
 refine ⟨e',?_⟩
 cases q:H b with
 | none => rfl
 | some x =>
  have hm:b ∈ trk h H:=List.mem_filter.mpr ⟨List.mem_range.mpr (Heap.lt_size e'),by simp [q]⟩
  have z:(hidT h H).get? b = none:=PySem.W.hideAll_none (trk h H) hm
  rw [z] at e; cases e
def allNews (g h:Heap) (L:Addr):List (Addr × Obj):=(List.range h.objs.size).filterMap fun a => if a = L ∨ (g.get? a).isSome = true then none else (h.get? a).map fun o => (a,o)
def rest (g h:Heap) (L d:Addr):List (Addr × Obj):=(allNews g h L).filter fun p => decide (p.1 ≠ d)
end L2
namespace L2
open PySem PySem.Spec PyProof.Rows
structure Mod (K:PySem.W.Frag) (mg:Str -> Option Value) (base:Heap):Prop where
 kin:K.In base
 glob:base.Ns mainGlobals mg
 blt:∃ mb,base.Ns builtinsNs mb /\ ∀ x:Str,x ≠ "__name__" -> mb x = bootBuiltins x
 nolimit:base.NoLimit
structure Cx where
 prog:Program
 w:World
 K:PySem.W.Frag
 mg:Str -> Option Value
 base:Heap
 A:Around
 N:List Str
 s₀:Shared
 H₀:Hp
 env:Env
 outer:List Env
 stack:List Env
 ex:List Addr
 fn:Str -> Bool
 calm:Bool
 pn:List (Addr × Obj)
 xe:Value -> Shared -> Prop
def frs (l:List Env):List Addr:=l.filterMap (·.frame)
abbrev Cx.fs (X:Cx):List Addr:=frs X.outer
def Vis (sc:Scope) (x:Str):Prop:=sc.names.lookup x = some .local ∨ sc.names.lookup x = some .cell ∨ sc.names.lookup x = some .free
def Loc (sc:Scope) (x:Str):Prop:=sc.names.lookup x = some .local ∨ sc.names.lookup x = some .cell
def Look (env:Env) (h:Heap) (m:Str -> Option Value) (x:Str) (u:Value):Prop :=
 (env.kindOf x = some .local /\ m x = some u) ∨ ((env.kindOf x = some .cell ∨ env.kindOf x = some .free) /\ ∃ c,env.cells.lookup x = some c /\ h.IsCell c (some u))
structure Cx.Ok (X:Cx):Prop where
 mod:Mod X.K X.mg X.base
 kind:X.env.scope.kind = .function
 glob:X.env.globals = mainGlobals
 blt:X.env.builtins = builtinsNs
 above:X.s₀.heap.objs.size <= X.env.locals
 inj:∀ x y c,X.env.cells.lookup x = some c -> X.env.cells.lookup y = some c -> x = y
 has:∀ x,(X.env.kindOf x = some .cell ∨ X.env.kindOf x = some .free) -> ∃ c,X.env.cells.lookup x = some c
 cab:∀ x c,X.fn x = true -> X.env.cells.lookup x = some c -> X.s₀.heap.objs.size <= c
 hd:X.calm = true -> X.A.handled = none
 frames:X.A.frames = some X.stack
 stk:X.stack = X.outer ∨ (X.stack = X.env :: X.outer /\ X.env.frame = some X.env.locals)
 exf:∀ b ∈ X.ex,b ≠ X.env.locals /\ ∀ x c,X.env.cells.lookup x = some c -> c ≠ b
 bs:∀ b o,X.base.get? b = some o -> X.s₀.heap.get? b = some o /\ X.H₀ b = none
 bsz:X.base.objs.size <= X.s₀.heap.objs.size
 noex:∀ b o,X.base.get? b = some o -> b ∉ X.ex
 exfs:∀ b ∈ X.ex,b ∉ X.fs
 funs:X.s₀.heap.FunFrames X.base X.outer
 frf:∀ b ∈ X.fs,X.H₀ b = none
structure Inv (X:Cx) (pins:List (Addr × Obj)) (σ:List (Option V)) (H:Hp) (s:Shared):Prop where
 ok:X.Ok
 os:s.os = X.s₀.os
 bare:AllBare s.gens
 base:Un X.fs X.ex X.H₀ H X.s₀.heap s.heap
 loc:∃ m,s.heap.Ns X.env.locals m /\ ∀ (i:Nat) (x:Str) (v:V),X.N[i]? = some x -> σ[i]? = some (some v) -> Vis X.env.scope x -> ∃ u,RelV v u /\ Look X.env s.heap m x u
 cell:∀ x c,X.env.cells.lookup x = some c -> ∃ v,s.heap.IsCell c v
 free:H X.env.locals = none
 freeC:∀ x c,X.env.cells.lookup x = some c -> H c = none
 pin:∀ p ∈ X.pn ++ pins,s.heap.get? p.1 = some p.2 /\ H p.1 = none /\ p.1 ≠ X.env.locals /\ p.1 ∉ X.fs /\ ∀ v,p.2.data ≠ .cell v
 hok:HOk X.prog X.w H s.heap
 len:σ.length = X.N.length
section
variable {X:Cx} {pins:List (Addr × Obj)} {σ:List (Option V)} {H H':Hp} {s:Shared} {h':Heap}
theorem Cx.Ok.nofr (ok:X.Ok) {b:Addr} {o:Obj} (e:X.base.get? b = some o):b ∉ X.fs:=fun hb => by
 have:=(ok.funs.mem hb).1
 rw [e] at this; cases this
theorem Inv.bs (I:Inv X pins σ H s):∀ b o,X.base.get? b = some o -> s.heap.get? b = some o /\ H b = none:=fun b o e =>
 ⟨I.base.keep b o (I.ok.bs b o e).1 (I.ok.bs b o e).2 (I.ok.nofr e) (I.ok.noex b o e),I.base.free b o (I.ok.bs b o e).1 (I.ok.bs b o e).2 (I.ok.noex b o e)⟩
theorem Inv.bk (I:Inv X pins σ H s):∀ b o,X.base.get? b = some o -> s.heap.get? b = some o:=fun b o e => (I.bs b o e).1
theorem Inv.mod (I:Inv X pins σ H s):Mod X.K X.mg X.base:=I.ok.mod
theorem Inv.kIn (I:Inv X pins σ H s):X.K.In s.heap:=I.ok.mod.kin.keeps I.bk
theorem Inv.nolimit (I:Inv X pins σ H s):s.heap.NoLimit:=I.ok.mod.nolimit.keeps I.bk
theorem Inv.fr (I:Inv X pins σ H s):∃ m,Fr X.base X.env.locals s.heap m :=
 let ⟨m,hn,_⟩:=I.loc
 ⟨m,hn,I.bk,Nat.le_trans I.ok.bsz I.ok.above⟩
theorem Inv.lt (I:Inv X pins σ H s):X.env.locals < s.heap.objs.size:=let ⟨_,hn,_⟩:=I.loc; hn.lt
theorem Inv.sz (I:Inv X pins σ H s):X.s₀.heap.objs.size <= s.heap.objs.size:=Nat.le_trans I.ok.above (Nat.le_of_lt I.lt)
theorem Inv.nofs (I:Inv X pins σ H s) {a:Addr} (h:s.heap.objs.size <= a):a ∉ X.fs:=fun hb => by
 obtain ⟨_,o,ho,_⟩:=I.ok.funs.mem hb
 exact absurd (Nat.lt_of_lt_of_le (Heap.lt_size ho) (Nat.le_trans I.sz h)) (Nat.lt_irrefl _)
theorem Inv.cne (I:Inv X pins σ H s):∀ x c,X.env.cells.lookup x = some c -> c ≠ X.env.locals:=fun x c e z => by
 obtain ⟨v,o,ho,hd⟩:=I.cell x c e
 obtain ⟨m,⟨o',es,ep,ho',hd',_⟩,_⟩:=I.loc
 rw [z,ho'] at ho; cases ho; rw [hd'] at hd; cases hd
theorem Inv.funs (I:Inv X pins σ H s):s.heap.FunFrames X.base X.outer:=by
 have all:∀ (l:List Env),(∀ b ∈ frs l,b ∈ X.fs) -> X.s₀.heap.FunFrames X.base l -> s.heap.FunFrames X.base l:=by
  intro l
  induction l with
  | nil => intro _ _; trivial
  | cons env r ih =>
   intro hs hl
   obtain ⟨hk,⟨L,o,hf,hn,ho,hd⟩,hr⟩:=hl
   have hL:L ∈ X.fs:=hs L (by unfold frs; rw [List.filterMap_cons,hf]; exact List.mem_cons_self)
   obtain ⟨sl,e⟩:=I.base.slot L o ho (I.ok.frf L hL) hL fun z => I.ok.exfs L z hL
   exact ⟨hk,⟨L,_,hf,hn,e,hd⟩,ih (fun b hb => hs b (by unfold frs; rw [List.filterMap_cons,hf]; exact List.mem_cons_of_mem _ hb)) hr⟩
 exact all X.outer (fun _ hb => hb) I.ok.funs
theorem Inv.stack (I:Inv X pins σ H s):s.heap.FunFrames X.base X.stack:=by
 rcases I.ok.stk with e | ⟨e,hf⟩
 ·rw [e]; exact I.funs
 ·rw [e]
  obtain ⟨m,hn,_⟩:=I.loc
  refine .cons (by rw [I.ok.kind]; decide) hf hn ?_ I.funs
  exact Heap.get?_none_of_le (Nat.le_trans I.ok.bsz I.ok.above)
theorem Inv.stkSub (I:Inv X pins σ H s):∀ b ∈ frs X.stack,b ∈ X.env.locals :: X.fs:=fun b hb => by
 rcases I.ok.stk with e | ⟨e,hf⟩
 ·rw [e] at hb; exact List.mem_cons_of_mem _ hb
 ·rw [e] at hb
  unfold frs at hb
  rw [List.filterMap_cons,hf] at hb
  exact hb
theorem Inv.stkFree (I:Inv X pins σ H s):∀ b ∈ frs X.stack,H b = none:=fun b hb => by
 rcases List.mem_cons.mp (I.stkSub b hb) with e | hb
 ·rw [e]; exact I.free
 ·obtain ⟨_,o,ho,_⟩:=I.ok.funs.mem hb
  exact I.base.free b o ho (I.ok.frf b hb) fun z => I.ok.exfs b z hb
theorem Inv.step {g':Array GenState} {t':Nat} {d':Drawn} {ch:List Addr} (I:Inv X pins σ H s)
  (hch:∀ b ∈ ch,(b ∈ X.ex ∨ X.s₀.heap.objs.size <= b) /\ b ≠ X.env.locals /\ (∀ x c,X.env.cells.lookup x = some c -> c ≠ b) /\ ∀ p ∈ X.pn ++ pins,p.1 ≠ b)
  (keep:∀ b o,b ≠ X.env.locals -> b ∉ X.fs -> b ∉ ch -> s.heap.get? b = some o -> H b = none -> h'.get? b = some o)
  (slot:∀ b o,b ≠ X.env.locals -> b ∈ X.fs -> b ∉ ch -> s.heap.get? b = some o -> H b = none -> ∃ sl,h'.get? b = some { o with slots:=sl }) (free:∀ b o,b ∉ ch -> s.heap.get? b = some o -> H b = none -> H' b = none)
  (there:∀ b o,b ∉ ch -> s.heap.get? b = some o -> ∃ o',h'.get? b = some o')
  (tups:∀ b xs,H b = some (.tup xs) -> H' b = some (.tup xs)) (frzs:∀ b o u,H b = some (.frz o u) -> H' b = some (.frz o u)) (tbls:∀ b ps,H b = some (.tbl ps) -> ∃ more,H' b = some (.tbl (ps ++ more)))
  (ns:∀ m,s.heap.Ns X.env.locals m -> h'.Ns X.env.locals m) (hok:HOk X.prog X.w H' h') (hg:AllBare g') :
  Inv X pins σ H' { s with heap:=h',gens:=g',drawn:=d',toks:=t' }:=by
 have neL:∀ b o,X.s₀.heap.get? b = some o -> b ≠ X.env.locals:=fun b o e => Nat.ne_of_lt (Nat.lt_of_lt_of_le (Heap.lt_size e) I.ok.above)
 have neC:∀ b o,X.s₀.heap.get? b = some o -> b ∉ X.ex -> b ∉ ch:=fun b o e hx hb => by
  rcases (hch b hb).1 with z | z
  ·exact hx z
  ·exact absurd (Nat.lt_of_lt_of_le (Heap.lt_size e) z) (Nat.lt_irrefl _)
 have cellK:∀ x c,X.env.cells.lookup x = some c -> ∀ v,s.heap.IsCell c v -> h'.IsCell c v:=fun x c e v ⟨o,ho,hd⟩ => by
  have nch:c ∉ ch:=fun z => (hch c z).2.2.1 x c e rfl
  by_cases hc:c ∈ X.fs
  ·obtain ⟨sl,q⟩:=slot c o (I.cne x c e) hc nch ho (I.freeC x c e)
   exact ⟨_,q,hd⟩
  ·exact ⟨o,keep c o (I.cne x c e) hc nch ho (I.freeC x c e),hd⟩
 refine ⟨I.ok,I.os,hg,⟨fun b o e n hb hx => ?_,fun b o e n hb hx => ?_,fun b o e n hx => ?_,fun b o e hx => ?_,fun b xs e => tups b xs (I.base.tups b xs e),fun b o xs e => frzs b o xs (I.base.frzs b o xs e),fun b ps e => ?_⟩,?_,fun x c e => ?_,?_,fun x c e => ?_,fun p hp => ?_,hok,I.len⟩
 ·exact keep b o (neL b o e) hb (neC b o e hx) (I.base.keep b o e n hb hx) (I.base.free b o e n hx)
 ·obtain ⟨sl,e1⟩:=I.base.slot b o e n hb hx
  obtain ⟨sl',e2⟩:=slot b _ (neL b o e) hb (neC b o e hx) e1 (I.base.free b o e n hx)
  exact ⟨sl',e2⟩
 ·obtain ⟨o',e1⟩:=I.base.there b o e hx
  exact free b o' (neC b o e hx) e1 (I.base.free b o e n hx)
 ·obtain ⟨o',e1⟩:=I.base.there b o e hx
  exact there b o' (neC b o e hx) e1
 ·obtain ⟨m1,e1⟩:=I.base.tbls b ps e
  obtain ⟨m2,e2⟩:=tbls b _ e1
  exact ⟨m1 ++ m2,by rw [e2,Array.append_assoc]⟩
 ·obtain ⟨m,hn,hl⟩:=I.loc
  refine ⟨m,ns m hn,fun i x v e1 e2 e3 => ?_⟩
  obtain ⟨u,r,l⟩:=hl i x v e1 e2 e3
  refine ⟨u,r,?_⟩
  rcases l with l | ⟨k,c,e,z⟩
  ·exact .inl l
  ·exact .inr ⟨k,c,e,cellK x c e _ z⟩
 ·obtain ⟨v,z⟩:=I.cell x c e
  exact ⟨v,cellK x c e v z⟩
 ·obtain ⟨m,⟨o,_,_,ho,_⟩,_⟩:=I.loc
  exact free _ o (fun z => (hch _ z).2.1 rfl) ho I.free
 ·obtain ⟨v,o,ho,hd⟩:=I.cell x c e
  exact free c o (fun z => (hch c z).2.2.1 x c e rfl) ho (I.freeC x c e)
 ·obtain ⟨e,n,ne,nf,d⟩:=I.pin p hp
  have nch:p.1 ∉ ch:=fun z => (hch p.1 z).2.2.2 p hp rfl
  exact ⟨keep p.1 p.2 ne nf nch e n,free p.1 p.2 nch e n,ne,nf,d⟩
theorem Inv.un {t':Nat} (I:Inv X pins σ H s) (u:Un X.fs [] H H' s.heap h') (hok:HOk X.prog X.w H' h'):Inv X pins σ H' { s with heap:=h',toks:=t' }:=by
 obtain ⟨m,⟨o,es,ep,ho,r⟩,_⟩:=id I.loc
 obtain ⟨sl,hL⟩:=u.any ho I.free (by simp)
 exact I.step (g':=s.gens) (d':=s.drawn) (ch:=[]) (fun _ z => nomatch z) (fun b o _ hb _ e n => u.keep b o e n hb (by simp)) (fun b o _ hb _ e n => u.slot b o e n hb (by simp)) (fun b o _ e n => u.free b o e n (by simp)) (fun b o _ e => u.there b o e (by simp)) u.tups u.frzs u.tbls (fun m' hm => by
  obtain ⟨o',es',ep',ho',r'⟩:=hm
  rw [ho] at ho'; cases ho'
  exact ⟨_,es',ep',hL,r'⟩) hok I.bare
theorem Inv.call {g':Array GenState} {t':Nat} {d':Drawn} {ch:List Addr} (I:Inv X pins σ H s) (u:Un (frs X.stack) ch H H' s.heap h') (hok:HOk X.prog X.w H' h') (hg:AllBare g')
  (hch:∀ b ∈ ch,(b ∈ X.ex ∨ X.s₀.heap.objs.size <= b) /\ b ≠ X.env.locals /\ (∀ x c,X.env.cells.lookup x = some c -> c ≠ b) /\ ∀ p ∈ X.pn ++ pins,p.1 ≠ b) :
  Inv X pins σ H' { s with heap:=h',gens:=g',drawn:=d',toks:=t' }:=by
 obtain ⟨m,⟨o,es,ep,ho,r⟩,_⟩:=id I.loc
 obtain ⟨sl,hL⟩:=u.any ho I.free fun z => (hch _ z).2.1 rfl
 exact I.step (ch:=ch) hch (fun b o hL hb hc e n => u.keep b o e n (fun z => (List.mem_cons.mp (I.stkSub b z)).elim hL hb) hc) (fun b o _ _ hc e n => u.any e n hc) (fun b o hc e n => u.free b o e n hc) (fun b o hc e => u.there b o e hc) u.tups u.frzs u.tbls (fun m' hm => by
  obtain ⟨o',es',ep',ho',r'⟩:=hm
  rw [ho] at ho'; cases ho'
  exact ⟨_,es',ep',hL,r'⟩) hok hg
theorem Inv.turned {t':Nat} {it:Addr} (I:Inv X pins σ H s) (k:∀ b o,b ≠ it -> s.heap.get? b = some o -> h'.get? b = some o) (hn:H it = none) (hL:it ≠ X.env.locals)
  (h1:it ∈ X.ex ∨ X.s₀.heap.objs.size <= it) (h2:∀ x c,X.env.cells.lookup x = some c -> c ≠ it) (h3:∀ p ∈ X.pn ++ pins,p.1 ≠ it):Inv X pins σ H { s with heap:=h',toks:=t' }:=by
 have nit:∀ b u,H b = some u -> b ≠ it:=fun b u e z => by rw [z,hn] at e; cases e
 refine I.step (g':=s.gens) (d':=s.drawn) (ch:=[it]) (fun b hb => ?_) (fun b o _ _ hc e _ => k b o (fun z => hc (by simp [z])) e) (fun b o _ _ hc e _ => ⟨o.slots,k b o (fun z => hc (by simp [z])) e⟩) (fun _ _ _ _ n => n)
  (fun b o hc e => ⟨o,k b o (fun z => hc (by simp [z])) e⟩) (fun _ _ e => e) (fun _ _ _ e => e) (fun b ps e => ⟨#[],by rw [e]; simp⟩) (fun m hm => ?_) (fun b u e => ?_) I.bare
 ·have e:b = it:=by simpa using hb
  subst e
  exact ⟨h1,hL,h2,h3⟩
 ·obtain ⟨o,es,ep,ho,r⟩:=hm
  exact ⟨o,es,ep,k _ o (Ne.symm hL) ho,r⟩
 ·refine (I.hok b u e).stay (fun c v hc q => k c v ?_ q) (fun _ q => q) fun _ _ q => q
  rcases hc with z | z
  ·rw [z]; exact nit b u e
  ·exact nit c _ z
theorem Inv.tok (I:Inv X pins σ H s) (t:Nat):Inv X pins σ H { s with toks:=t }:=I.un (h':=s.heap) (t':=t) Un.refl I.hok
theorem Inv.kept {t':Nat} (I:Inv X pins σ H s) (k:∀ b u,s.heap.get? b = some u -> h'.get? b = some u):Inv X pins σ H { s with heap:=h',toks:=t' }:=I.un (Un.kept k) (I.hok.kept k)
theorem Inv.laid {a:Addr} {o:HO} {t':Nat} (I:Inv X pins σ H s) (k:∀ b u,s.heap.get? b = some u -> h'.get? b = some u) (hp:s.heap.objs.size <= a) (new:ObjOk X.prog X.w (upd H a o) h' a o) :
  Inv X pins σ (upd H a o) { s with heap:=h',toks:=t' }:=I.un (Un.laid k hp (I.hok.fresh hp)) (I.hok.laid k hp new)
theorem Inv.write {x e:Addr} {o:HO} {t':Nat} (I:Inv X pins σ H s) (mu:Mut (H x)) (he:e = x ∨ H e = some (.own x)) (k:∀ b u,b ≠ e -> s.heap.get? b = some u -> h'.get? b = some u) (heo:∃ u,h'.get? e = some u)
  (new:ObjOk X.prog X.w (upd H x o) h' x o):Inv X pins σ (upd H x o) { s with heap:=h',toks:=t' }:=I.un (Un.write mu he k heo) (I.hok.write mu he k heo new)
theorem Inv.weak {σ':List (Option V)} (I:Inv X pins σ H s) (hl:σ'.length = σ.length) (w:∀ (i:Nat) v,σ'[i]? = some (some v) -> σ[i]? = some (some v)):Inv X pins σ' H s :=
 ⟨I.ok,I.os,I.bare,I.base,let ⟨m,hn,hl'⟩:=I.loc; ⟨m,hn,fun i x v e1 e2 e3 => hl' i x v e1 (w i v e2) e3⟩,I.cell,I.free,I.freeC,I.pin,I.hok,hl.trans I.len⟩
theorem Inv.pins_of {pins':List (Addr × Obj)} (I:Inv X pins σ H s) (h:∀ p ∈ pins',s.heap.get? p.1 = some p.2 /\ H p.1 = none /\ p.1 ≠ X.env.locals /\ p.1 ∉ X.fs /\ ∀ v,p.2.data ≠ .cell v):Inv X pins' σ H s :=
 ⟨I.ok,I.os,I.bare,I.base,I.loc,I.cell,I.free,I.freeC,fun p hp => (List.mem_append.mp hp).elim (fun z => I.pin p (List.mem_append_left _ z)) (h p),I.hok,I.len⟩
theorem nodup_ix {N:List Str} (hN:N.Nodup) {i j:Nat} {x:Str} (a:N[i]? = some x) (b:N[j]? = some x):i = j:=by
 obtain ⟨h1,e1⟩:=List.getElem?_eq_some_iff.mp a
 obtain ⟨h2,e2⟩:=List.getElem?_eq_some_iff.mp b
 exact (List.getElem_inj hN).mp (e1.trans e2.symm)
theorem store_ok2 {M:Model} {A:Around} {E:Value -> Shared -> Prop} {i:Nat} {x:Str} {v:V} {u:Value} {Q:Unit -> Shared -> Prop} (I:Inv X pins σ H s) (hN:X.N.Nodup) (hi:X.N[i]? = some x) (hx:Loc X.env.scope x) (r:RelV v u)
  (h:∀ s',Inv X pins (σ.set i (some v)) H s' -> (∃ a,Heap.SameBut a s.heap s'.heap /\ (a = X.env.locals ∨ X.env.cells.lookup x = some a)) -> Q () s') (hf:X.fn x = true ∨ X.env.scope.names.lookup x = some .local:=by first | exact .inl rfl | exact .inr rfl | assumption):wpAny M A (storeName X.env x u) Q E s:=by
 obtain ⟨m,hn,hl⟩:=id I.loc
 have hcls:(X.env.scope.kind == .class || (X.env.scope.kind == .module && X.env.locals != X.env.globals)) = false:=by rw [I.ok.kind]; rfl
 have hiσ:i < σ.length:=by rw [I.len]; exact (List.getElem?_eq_some_iff.mp hi).1
 have cne:=I.cne
 have tracked:∀ {a:Addr} {h':Heap},(∃ o,s.heap.get? a = some o /\ H a = none) -> Heap.SameBut a s.heap h' -> HOk X.prog X.w H h':=fun {a h'} ha hs b ob e => by
  obtain ⟨_,_,hfree⟩:=ha
  refine (I.hok b ob e).stay (fun c w' hc q => (hs.2 c ?_).trans q) (fun _ q => q) fun _ _ q => q
  rintro rfl
  rcases hc with rfl | hc
  ·rw [hfree] at e; cases e
  ·rw [hfree] at hc; cases hc
 rcases hx with hk | hk
 ·refine wpAny_storeName_local hk hn (fun h' hn' hs => ?_) hcls
  obtain ⟨oL,_,_,hoL,_⟩:=id hn
  refine h _ ⟨I.ok,I.os,I.bare,⟨fun b o e n hb hx => ?_,fun b o e n hb hx => ?_,I.base.free,fun b o e hx => ?_,I.base.tups,I.base.frzs,I.base.tbls⟩,⟨_,hn',fun j y v' e1 e2 e3 => ?_⟩,fun y c e => ?_,I.free,I.freeC,fun p hp => ?_,tracked ⟨oL,hoL,I.free⟩ hs,by simpa using I.len⟩ ⟨_,hs,.inl rfl⟩
  ·exact (hs.2 b (Nat.ne_of_lt (Nat.lt_of_lt_of_le (Heap.lt_size e) I.ok.above))).trans (I.base.keep b o e n hb hx)
  ·obtain ⟨sl,e1⟩:=I.base.slot b o e n hb hx
   exact ⟨sl,(hs.2 b (Nat.ne_of_lt (Nat.lt_of_lt_of_le (Heap.lt_size e) I.ok.above))).trans e1⟩
  ·obtain ⟨o',e1⟩:=I.base.there b o e hx
   exact ⟨o',(hs.2 b (Nat.ne_of_lt (Nat.lt_of_lt_of_le (Heap.lt_size e) I.ok.above))).trans e1⟩
  ·by_cases hj:j = i
   ·subst hj
    rw [hi] at e1; cases e1
    rw [List.getElem?_set_self hiσ] at e2
    cases e2
    exact ⟨u,r,.inl ⟨hk,by simp⟩⟩
   ·rw [List.getElem?_set_ne (Ne.symm hj)] at e2
    obtain ⟨u',r',q⟩:=hl j y v' e1 e2 e3
    refine ⟨u',r',?_⟩
    rcases q with ⟨k,e⟩ | ⟨k,c,e,z⟩
    ·refine .inl ⟨k,?_⟩
     have:y ≠ x:=fun e => hj (nodup_ix hN e1 (e ▸ hi))
     simp [this,e]
    ·exact .inr ⟨k,c,e,z.sameBut hs (cne y c e)⟩
  ·obtain ⟨w',z⟩:=I.cell y c e
   exact ⟨w',z.sameBut hs (cne y c e)⟩
  ·obtain ⟨e,n,ne,nf,d⟩:=I.pin p hp
   exact ⟨(hs.2 p.1 ne).trans e,n,ne,nf,d⟩
 ·have hfn:X.fn x = true:=by
   rcases hf with z | z
   ·exact z
   ·rw [z] at hk; cases hk
  obtain ⟨c,hc⟩:=I.ok.has x (.inl hk)
  obtain ⟨w',z⟩:=I.cell x c hc
  refine wpAny_storeName_cell I.ok.kind hk hc z (fun h' hc' hs => ?_)
  obtain ⟨oc,hoc,hocd⟩:=id z
  refine h { s with heap:=h' } ⟨I.ok,I.os,I.bare,⟨fun b o e n hb hx => ?_,fun b o e n hb hx => ?_,I.base.free,fun b o e hx => ?_,I.base.tups,I.base.frzs,I.base.tbls⟩,⟨m,hn.sameBut hs (Ne.symm (cne x c hc)),fun j y v' e1 e2 e3 => ?_⟩,fun y c' e => ?_,I.free,I.freeC,fun p hp => ?_,tracked ⟨oc,hoc,I.freeC x c hc⟩ hs,by simpa using I.len⟩ ⟨c,hs,.inr hc⟩
  ·exact (hs.2 b (Nat.ne_of_lt (Nat.lt_of_lt_of_le (Heap.lt_size e) (I.ok.cab x c hfn hc)))).trans (I.base.keep b o e n hb hx)
  ·obtain ⟨sl,e1⟩:=I.base.slot b o e n hb hx
   exact ⟨sl,(hs.2 b (Nat.ne_of_lt (Nat.lt_of_lt_of_le (Heap.lt_size e) (I.ok.cab x c hfn hc)))).trans e1⟩
  ·obtain ⟨o',e1⟩:=I.base.there b o e hx
   exact ⟨o',(hs.2 b (Nat.ne_of_lt (Nat.lt_of_lt_of_le (Heap.lt_size e) (I.ok.cab x c hfn hc)))).trans e1⟩
  ·by_cases hj:j = i
   ·subst hj
    rw [hi] at e1; cases e1
    rw [List.getElem?_set_self hiσ] at e2
    cases e2
    exact ⟨u,r,.inr ⟨.inl hk,c,hc,hc'⟩⟩
   ·rw [List.getElem?_set_ne (Ne.symm hj)] at e2
    obtain ⟨u',r',q⟩:=hl j y v' e1 e2 e3
    refine ⟨u',r',?_⟩
    rcases q with q | ⟨k,c',e,z'⟩
    ·exact .inl q
    ·refine .inr ⟨k,c',e,z'.sameBut hs ?_⟩
     rintro rfl
     exact hj (nodup_ix hN e1 (I.ok.inj _ _ _ e hc ▸ hi))
  ·by_cases hcc:c' = c
   ·subst hcc; exact ⟨_,hc'⟩
   ·obtain ⟨w2,z2⟩:=I.cell y c' e
    exact ⟨w2,z2.sameBut hs hcc⟩
  ·obtain ⟨e,n,ne,nf,d⟩:=I.pin p hp
   refine ⟨(hs.2 p.1 ?_).trans e,n,ne,nf,d⟩
   intro q
   rw [q,hoc] at e
   have q':oc = p.2:=Option.some.inj e
   exact d w' (by rw [<- q']; exact hocd)
theorem store_ok {M:Model} {A:Around} {E:Value -> Shared -> Prop} {i:Nat} {x:Str} {v:V} {u:Value} {Q:Unit -> Shared -> Prop} (I:Inv X pins σ H s) (hN:X.N.Nodup) (hi:X.N[i]? = some x) (hx:Loc X.env.scope x) (r:RelV v u)
  (h:∀ s',Inv X pins (σ.set i (some v)) H s' -> Q () s') (hf:X.fn x = true ∨ X.env.scope.names.lookup x = some .local:=by first | exact .inl rfl | exact .inr rfl | assumption):wpAny M A (storeName X.env x u) Q E s :=
 store_ok2 I hN hi hx r (fun s' I' _ => h s' I') hf
theorem Inv.call' {s':Shared} {ch:List Addr} (I:Inv X pins σ H s) (ho:s'.os = s.os) (u:Un (frs X.stack) ch H H' s.heap s'.heap) (hok:HOk X.prog X.w H' s'.heap) (hg:AllBare s'.gens)
  (hch:∀ b ∈ ch,(b ∈ X.ex ∨ X.s₀.heap.objs.size <= b) /\ b ≠ X.env.locals /\ (∀ x c,X.env.cells.lookup x = some c -> c ≠ b) /\ ∀ p ∈ X.pn ++ pins,p.1 ≠ b):Inv X pins σ H' s':=by
 obtain ⟨h',g',d',t',o'⟩:=s'
 have e:o' = s.os:=ho
 subst e
 exact I.call (g':=g') (t':=t') (d':=d') u hok hg hch
end
abbrev XK:=Value -> Option Addr -> Hp -> Prop
abbrev St:=List (Option V)
abbrev VK:=V -> Hp -> Prop
abbrev TE:=St -> Hp -> VK -> Prop
abbrev TT:=St -> Hp -> (Bool -> Hp -> Prop) -> Prop
abbrev TA:=St -> Hp -> (List V -> Hp -> Prop) -> Prop
structure Ends where
 nx:St -> Hp -> Prop
 rt:VK
 bk:St -> Hp -> Prop:=fun _ _ => False
 ct:St -> Hp -> Prop:=fun _ _ => False
abbrev TS:=Ends -> St -> Hp -> Prop
def EP (X:Cx) (pins:List (Addr × Obj)) (σ:St) (Q:VK) (u:Value) (s':Shared):Prop:=∃ v H',Inv X pins σ H' s' /\ RelV v u /\ Q v H'
def TP (X:Cx) (pins:List (Addr × Obj)) (σ:St) (Q:Bool -> Hp -> Prop) (b:Bool) (s':Shared):Prop:=∃ H',Inv X pins σ H' s' /\ Q b H'
def AP (X:Cx) (pins:List (Addr × Obj)) (σ:St) (Q:List V -> Hp -> Prop) (us:List Value) (s':Shared):Prop:=∃ vs H',Inv X pins σ H' s' /\ Vals vs us /\ Q vs H'
def SP (X:Cx) (pins:List (Addr × Obj)) (D:Ends) (f:Flow) (s':Shared):Prop :=
 match f with
 | .next => ∃ σ' H',Inv X pins σ' H' s' /\ D.nx σ' H'
 | .brk => ∃ σ' H',Inv X pins σ' H' s' /\ D.bk σ' H'
 | .cont => ∃ σ' H',Inv X pins σ' H' s' /\ D.ct σ' H'
 | .ret u => ∃ v σ' H',Inv X pins σ' H' s' /\ RelV v u /\ D.rt v H'
def PE (X:Cx) (e:Expr) (t:TE):Prop :=
 ∀ (pins:List (Addr × Obj)) (s:Shared) (σ:St) (H:Hp) (Q:VK),Inv X pins σ H s -> t σ H Q -> wpAny (model X.prog X.w) X.A (eval e X.env) (EP X pins σ Q) X.xe s
def PT (X:Cx) (e:Expr) (t:TT):Prop :=
 ∀ (pins:List (Addr × Obj)) (s:Shared) (σ:St) (H:Hp) (Q:Bool -> Hp -> Prop),Inv X pins σ H s -> t σ H Q -> wpAny (model X.prog X.w) X.A (isTrue e X.env (eval e X.env)) (TP X pins σ Q) X.xe s
def PW (X:Cx) (e:Expr) (t:TT):Prop :=
 ∀ (whole:Sem Value) (pins:List (Addr × Obj)) (s:Shared) (σ:St) (H:Hp) (Q:Bool -> Hp -> Prop),Inv X pins σ H s -> t σ H Q -> wpAny (model X.prog X.w) X.A (isTrue e X.env whole) (TP X pins σ Q) X.xe s
theorem PW.pt {X:Cx} {e:Expr} {t:TT} (h:PW X e t):PT X e t:=h _
def PA (X:Cx) (es:List Expr) (t:TA):Prop :=
 ∀ (pos:Pos) (pins:List (Addr × Obj)) (s:Shared) (σ:St) (H:Hp) (Q:List V -> Hp -> Prop),Inv X pins σ H s -> t σ H Q -> wpAny (model X.prog X.w) X.A (spliced (backTo pos (starEach es X.env))) (AP X pins σ Q) X.xe s
def PS (X:Cx) (st:Stmt) (t:TS):Prop :=
 ∀ (pins:List (Addr × Obj)) (s:Shared) (σ:St) (H:Hp) (D:Ends),Inv X pins σ H s -> t D σ H -> wpAny (model X.prog X.w) X.A (exec st X.env) (SP X pins D) X.xe s
def PSs (X:Cx) (st:List Stmt) (t:TS):Prop :=
 ∀ (pins:List (Addr × Obj)) (s:Shared) (σ:St) (H:Hp) (D:Ends),Inv X pins σ H s -> t D σ H -> wpAny (model X.prog X.w) X.A (execs st X.env) (SP X pins D) X.xe s
theorem thn {α:Type} {t:Sem α} {Q Q':α -> Shared -> Prop} {M:Model} {A:Around} {E:Value -> Shared -> Prop} {s:Shared} (h:wpAny M A t Q E s) (hQ:∀ a s,Q a s -> Q' a s):wpAny M A t Q' E s:=wpAny_mono h hQ fun _ _ x => x
end L2
namespace L2
open PySem PySem.Spec PyProof.Rows
section
variable {X:Cx}
def tVar (i:Nat):TE:=fun σ H Q => ∃ v,σ[i]? = some (some v) /\ Q v H
def tC (v:V):TE:=fun _ H Q => Q v H
theorem pe_var {i:Nat} {x:Str} {pos:Pos} (hN:X.N[i]? = some x) (hv:Vis X.env.scope x) (hd:(x == ("__debug__" : Str)) = false:=by decide) (hcd:(x == ("__classdict__" : Str)) = false:=by decide):PE X (.Name x pos) (tVar i):=by
 intro pins s σ H Q I h
 obtain ⟨v,e,h⟩:=h
 obtain ⟨m,hn,hl⟩:=I.loc
 obtain ⟨u,r,l⟩:=hl i x v hN e hv
 have fin:EP X pins σ Q u s:=⟨v,H,I,r,h⟩
 rcases l with ⟨hk,hm⟩ | ⟨hk,c,hc,hcell⟩
 ·exact wpAny_Name (wpAny_loadName_local I.ok.kind hk hn hm fin) hd
 ·rcases hk with hk | hk
  ·exact wpAny_Name (wpAny_loadName_cell I.ok.kind hk hc hcell fin) hd
  ·exact wpAny_Name (wpAny_loadName_free I.ok.kind hk hc hcell fin hcd) hd
theorem pe_int {i j pos}:PE X (.Constant (.int i) j pos) (tC (.int i)):=fun _ _ _ H _ I h => wpAny_Constant_int ⟨.int i,H,I.tok _,⟨_,rfl⟩,h⟩
theorem pe_bl {b j pos}:PE X (.Constant (.bool b) j pos) (tC (.bl b)):=fun _ _ _ H _ I h => Constant_bool ⟨.bl b,H,I,rfl,h⟩
theorem pe_non {j pos}:PE X (.Constant .none j pos) (tC .non):=fun _ _ _ H _ I h => Constant_none ⟨.non,H,I,rfl,h⟩
theorem pe_str {x j pos}:PE X (.Constant (.str x) j pos) (tC (.str x)):=fun _ _ _ H _ I h => Calls.Constant_str ⟨.str x,H,I.tok _,⟨_,rfl⟩,h⟩
def Gl (X:Cx) (x:Str):Prop:=X.env.kindOf x = some .globalImplicit
theorem ld_glob {E:Value -> Shared -> Prop} {pins:List (Addr × Obj)} {s:Shared} {σ:St} {H:Hp} {x:Str} {u:Value} {pos:Pos} {Q:Value -> Shared -> Prop} (I:Inv X pins σ H s) (hg:Gl X x) (hm:X.mg x = some u) (h:Q u s)
  (hd:(x == ("__debug__" : Str)) = false:=by decide):wpAny (model X.prog X.w) X.A (eval (.Name x pos) X.env) Q E s :=
 Calls.Name_function_global I.ok.kind hg (Calls.loadGlobal_global (by rw [I.ok.glob]; exact I.mod.glob.keeps I.bk) hm h) hd
theorem ld_blt {E:Value -> Shared -> Prop} {pins:List (Addr × Obj)} {s:Shared} {σ:St} {H:Hp} {x:Str} {u:Value} {pos:Pos} {Q:Value -> Shared -> Prop} (I:Inv X pins σ H s) (hg:Gl X x) (hm:X.mg x = none) (hv:bootBuiltins x = some u) (h:Q u s)
  (hn:x ≠ "__name__":=by decide) (hd:(x == ("__debug__" : Str)) = false:=by decide):wpAny (model X.prog X.w) X.A (eval (.Name x pos) X.env) Q E s:=by
 obtain ⟨mb,h1,h2⟩:=I.mod.blt
 exact Calls.Name_function_global I.ok.kind hg (Calls.loadGlobal_builtin (by rw [I.ok.glob]; exact I.mod.glob.keeps I.bk) hm (by rw [I.ok.blt]; exact h1.keeps I.bk) ((h2 x hn).trans hv) h) hd
theorem pe_glob {x:Str} {v:V} {u:Value} {pos:Pos} (hg:Gl X x) (hm:X.mg x = some u) (r:RelV v u) (hd:(x == ("__debug__" : Str)) = false:=by decide):PE X (.Name x pos) (tC v) :=
 fun _ _ _ H _ I h => ld_glob I hg hm ⟨v,H,I,r,h⟩ hd
theorem pe_bltn {x:Str} {v:V} {u:Value} {pos:Pos} (hg:Gl X x) (hm:X.mg x = none) (hv:bootBuiltins x = some u) (r:RelV v u) (hn:x ≠ "__name__":=by decide) (hd:(x == ("__debug__" : Str)) = false:=by decide):PE X (.Name x pos) (tC v) :=
 fun _ _ _ H _ I h => ld_blt I hg hm hv ⟨v,H,I,r,h⟩ hn hd
variable {a b:Expr} {ta tb:TE} {pos:Pos}
def PC (X:Cx) (op:CmpOp) (a b:Expr) (t:TE):Prop :=
 ∀ (pins:List (Addr × Obj)) (s:Shared) (σ:St) (H:Hp) (Q:VK),Inv X pins σ H s -> t σ H Q ->
  wpAny (model X.prog X.w) X.A (eval a X.env) (fun v s₁ => wpAny (model X.prog X.w) X.A (eval b X.env) (fun u s₂ => wpAny (model X.prog X.w) X.A (compareOp op v u) (EP X pins σ Q) X.xe s₂) X.xe s₁) X.xe s
theorem nobehind (b:Expr) {op:CmpOp} (h:op ≠ .In) (h2:op ≠ .NotIn):behindInMarks op b = false:=by
 have e1:(op == CmpOp.In) = false:=by cases op <;> first | rfl | exact absurd rfl h
 have e2:(op == CmpOp.NotIn) = false:=by cases op <;> first | rfl | exact absurd rfl h2
 cases b <;> simp [behindInMarks,e1,e2]
def tB (t:TE):TT:=fun σ H Q => t σ H fun x H1 => ∃ c,x = .bl c /\ Q c H1
theorem pt_cmp {op:CmpOp} {t:TE} (h:PC X op a b t) (h1:behindInMarks op b = false:=by first | exact nobehind _ (by decide) (by decide) | rfl):PT X (.Compare a [op] [b] pos) (tB t):=by
 intro pins s σ H Q I hw
 refine wpAny_isTrue_Compare1 (thn (h pins s σ H _ I hw) fun v s1 h1 => thn h1 fun u s2 h2 => thn h2 fun c s3 ⟨x,H1,I1,r1,q1⟩ => ?_) h1
 obtain ⟨d,rfl,q⟩:=q1
 cases r1
 exact wpAny_truthy_bool ⟨H1,I1,q⟩
theorem pt_val {e:Expr} {t:TE} (h:PE X e t) (he:∀ whole,isTrue e X.env whole = (do let v <- whole; standAt e.pos; holding [v] (truthy v)):=by intro _; rfl):PT X e (tB t):=by
 intro pins s σ H Q I hw
 refine isTrue_plain (thn (h pins s σ H _ I hw) fun v s1 ⟨x,H1,I1,r1,q1⟩ => ?_) (he _)
 obtain ⟨d,rfl,q⟩:=q1
 cases r1
 exact wpAny_truthy_bool ⟨H1,I1,q⟩
variable {tA tB':TT} {rest:List Expr}
def tAnd (t u:TT):TT:=fun σ H Q => t σ H fun c H1 => if c = true then u σ H1 Q else Q false H1
def tOr (t u:TT):TT:=fun σ H Q => t σ H fun c H1 => if c = true then Q true H1 else u σ H1 Q
def tNot (t:TT):TT:=fun σ H Q => t σ H fun c H1 => Q (!c) H1
theorem pw_and1 (ha:PT X a tA):PW X (.BoolOp .And [a] pos) tA:=by
 intro wh pins s σ H Q I h
 refine isTrue_and (thn (ha pins s σ H Q I h) fun c s1 e => ?_)
 cases c with
 | true => exact isTrue_and_nil e
 | false => exact e
theorem pw_or1 (ha:PT X a tA):PW X (.BoolOp .Or [a] pos) tA:=by
 intro wh pins s σ H Q I h
 refine isTrue_or (thn (ha pins s σ H Q I h) fun c s1 e => ?_)
 cases c with
 | false => exact isTrue_or_nil e
 | true => exact e
theorem pw_and (ha:PT X a tA) (hb:PW X (.BoolOp .And (b :: rest) pos) tB'):PW X (.BoolOp .And (a :: b :: rest) pos) (tAnd tA tB'):=by
 intro wh pins s σ H Q I h
 refine isTrue_and (thn (ha pins s σ H _ I h) fun c s1 ⟨H1,I1,q1⟩ => ?_)
 cases c with
 | true => exact hb wh pins s1 σ H1 Q I1 q1
 | false => exact ⟨H1,I1,q1⟩
theorem pw_or (ha:PT X a tA) (hb:PW X (.BoolOp .Or (b :: rest) pos) tB'):PW X (.BoolOp .Or (a :: b :: rest) pos) (tOr tA tB'):=by
 intro wh pins s σ H Q I h
 refine isTrue_or (thn (ha pins s σ H _ I h) fun c s1 ⟨H1,I1,q1⟩ => ?_)
 cases c with
 | true => exact ⟨H1,I1,q1⟩
 | false => exact hb wh pins s1 σ H1 Q I1 q1
theorem pt_not (ha:PT X a tA):PT X (.UnaryOp .Not a pos) (tNot tA):=by
 intro pins s σ H Q I h
 exact isTrue_not (ha pins s σ H (fun c H1 => Q (!c) H1) I h)
def tAndV (ta tb:TE):TE:=fun σ H Q => ta σ H fun x H1 => ∃ c,x = .bl c /\ if c = true then tb σ H1 Q else Q (.bl false) H1
def tNotV (ta:TE):TE:=fun σ H Q => ta σ H fun x H1 => ∃ c,x = .bl c /\ Q (.bl (!c)) H1
theorem pe_one {op} {t:TE} (h:PE X a t):PE X (.BoolOp op [a] pos) t:=fun pins s σ H Q I hw => BoolOp_one (h pins s σ H Q I hw)
theorem pe_and (ha:PE X a ta) (hb:PE X (.BoolOp .And (b :: rest) pos) tb):PE X (.BoolOp .And (a :: b :: rest) pos) (tAndV ta tb):=by
 intro pins s σ H Q I h
 refine BoolOp_and (thn (ha pins s σ H _ I h) fun v s1 ⟨x,H1,I1,r1,q1⟩ => ?_)
 obtain ⟨c,rfl,q1⟩:=q1
 cases r1
 refine wpAny_truthy_bool ?_
 cases c with
 | true => exact hb pins s1 σ H1 Q I1 q1
 | false => exact ⟨.bl false,H1,I1,rfl,q1⟩
theorem pe_not (ha:PE X a ta):PE X (.UnaryOp .Not a pos) (tNotV ta):=by
 intro pins s σ H Q I h
 refine UnaryOp_ (thn (ha pins s σ H _ I h) fun v s1 ⟨x,H1,I1,r1,q1⟩ => ?_)
 obtain ⟨c,rfl,q1⟩:=q1
 cases r1
 exact not_of (wpAny_truthy_bool ⟨.bl (!c),H1,I1,rfl,q1⟩)
def tIf (t:TT) (ta tb:TE):TE:=fun σ H Q => t σ H fun c H1 => if c = true then ta σ H1 Q else tb σ H1 Q
theorem pe_ifExp {c:Expr} (hc:PT X c tA) (ha:PE X a ta) (hb:PE X b tb):PE X (.IfExp c a b pos) (tIf tA ta tb):=by
 intro pins s σ H Q I h
 refine wpAny_IfExp (thn (hc pins s σ H _ I h) fun d s1 ⟨H1,I1,q1⟩ => ?_)
 cases d with
 | true => exact ha pins s1 σ H1 Q I1 q1
 | false => exact hb pins s1 σ H1 Q I1 q1
end
end L2
namespace L2
open PySem PySem.Spec PyProof.Rows
def SqL (K:PySem.W.Frag) (H:Hp) (a:Addr) (xs:List V):Prop :=
 Rd H a (.lst xs) ∨
  ∃ (o:Obj) (its:Array Value) (n:Nat),K.lookup a = some o /\ o.cls = .type "list" /\ o.dict = none /\ o.data = .seq its n /\ its.size <= sizeLine /\ Vals xs its.toList
def SqT (K:PySem.W.Frag) (H:Hp) (a:Addr) (xs:List V):Prop :=
 Rd H a (.tup xs) ∨
  ∃ (o:Obj) (its:Array Value) (n:Nat),K.lookup a = some o /\ o.cls = .type "tuple" /\ o.data = .seq its n /\ its.size <= sizeLine /\ Vals xs its.toList
def absV:Value -> Option V
 | .none => some .non
 | .bool b => some (.bl b)
 | .int i _ => some (.int i)
 | .str x _ => some (.str x)
 | .bytes b _ => some (.byt b)
 | .float b _ => some (.flt b)
 | .ref a => some (.ref a)
 | .type n => some (.ty n)
 | _ => none
theorem RelV.abs {x:V} {u:Value} (r:RelV x u):absV u = some x:=by
 cases x with
 | non => cases r; rfl
 | bl _ => cases r; rfl
 | int _ => obtain ⟨t,rfl⟩:=r; rfl
 | str _ => obtain ⟨t,rfl⟩:=r; rfl
 | byt _ => obtain ⟨t,rfl⟩:=r; rfl
 | flt _ => obtain ⟨t,rfl⟩:=r; rfl
 | ref _ => cases r; rfl
 | ty _ => cases r; rfl
theorem RelV.inj {x y:V} {u:Value} (r:RelV x u) (q:RelV y u):x = y:=Option.some.inj (r.abs.symm.trans q.abs)
theorem Vals.inj:∀ {xs ys:List V} {us:List Value},Vals xs us -> Vals ys us -> xs = ys
 | _,_,_,.nil,.nil => rfl
 | _,_,_,.cons r t,.cons r' t' => by rw [r.inj r',Vals.inj t t']
section
variable {X:Cx} {pins:List (Addr × Obj)} {σ:St} {H:Hp} {s:Shared} {a:Addr} {xs ys:List V}
theorem SqL.of {K:PySem.W.Frag} (h:H a = some (.lst xs)):SqL K H a xs:=.inl (.inl h)
theorem SqT.of {K:PySem.W.Frag} (h:H a = some (.tup xs)):SqT K H a xs:=.inl (.inl h)
theorem Inv.list (I:Inv X pins σ H s) (h:SqL X.K H a xs):∃ its:List Value,Vals xs its /\ PlainL s.heap a its.toArray /\ xs.length <= sizeLine:=by
 rcases h with h | ⟨o,its,n,hk,hc,hd,hs,hz,r⟩
 ·obtain ⟨z,its,n,r,e⟩:=h.ok I.hok
  exact ⟨its,r,⟨_,n,e,rfl,rfl,rfl⟩,z⟩
 ·refine ⟨its.toList,r,⟨o,n,I.kIn a o hk,hc,hd,by simpa using hs⟩,?_⟩
  have e:=r.length
  simp only [Array.length_toList] at e
  omega
theorem Inv.tuple (I:Inv X pins σ H s) (h:SqT X.K H a xs):∃ its:List Value,Vals xs its /\ IsTup s.heap a its.toArray /\ xs.length <= sizeLine:=by
 rcases h with h | ⟨o,its,n,hk,hc,hs,hz,r⟩
 ·obtain ⟨z,its,r,p⟩:=h.ok I.hok
  exact ⟨its,r,p,z⟩
 ·refine ⟨its.toList,r,⟨o,I.kIn a o hk,hc,n,by simpa using hs⟩,?_⟩
  have e:=r.length
  simp only [Array.length_toList] at e
  omega
theorem Inv.list_inj (I:Inv X pins σ H s) (h:SqL X.K H a xs) (h':SqL X.K H a ys):xs = ys:=by
 obtain ⟨its,r,⟨o,n,e,_,_,d⟩,_⟩:=I.list h
 obtain ⟨its',r',⟨o',n',e',_,_,d'⟩,_⟩:=I.list h'
 rw [e] at e'; cases e'
 rw [d] at d'
 injection d' with d1 _
 have:its = its':=by simpa using congrArg Array.toList d1
 subst this
 exact r.inj r'
theorem Inv.tuple_inj (I:Inv X pins σ H s) (h:SqT X.K H a xs) (h':SqT X.K H a ys):xs = ys:=by
 obtain ⟨its,r,⟨o,e,_,n,d⟩,_⟩:=I.tuple h
 obtain ⟨its',r',⟨o',e',_,n',d'⟩,_⟩:=I.tuple h'
 rw [e] at e'; cases e'
 rw [d] at d'
 injection d' with d1 _
 have:its = its':=by simpa using congrArg Array.toList d1
 subst this
 exact r.inj r'
end
abbrev Cx.wish (X:Cx) (E:Value -> Shared -> Prop):Cx:={ X with xe:=E }
abbrev Cx.nox (X:Cx):Cx:=X.wish fun _ _ => False
theorem Cx.Ok.wish {X:Cx} (ok:X.Ok) (E:Value -> Shared -> Prop):(X.wish E).Ok :=
 ⟨ok.mod,ok.kind,ok.glob,ok.blt,ok.above,ok.inj,ok.has,ok.cab,ok.hd,ok.frames,ok.stk,ok.exf,ok.bs,ok.bsz,ok.noex,ok.exfs,ok.funs,ok.frf⟩
theorem Cx.Ok.unwish {X:Cx} {E:Value -> Shared -> Prop} (ok:(X.wish E).Ok):X.Ok :=
 ⟨ok.mod,ok.kind,ok.glob,ok.blt,ok.above,ok.inj,ok.has,ok.cab,ok.hd,ok.frames,ok.stk,ok.exf,ok.bs,ok.bsz,ok.noex,ok.exfs,ok.funs,ok.frf⟩
section
variable {X:Cx} {pins:List (Addr × Obj)} {σ:St} {H:Hp} {s:Shared} {E:Value -> Shared -> Prop}
theorem Inv.wish (I:Inv X pins σ H s) (E:Value -> Shared -> Prop):Inv (X.wish E) pins σ H s:=⟨I.ok.wish E,I.os,I.bare,I.base,I.loc,I.cell,I.free,I.freeC,I.pin,I.hok,I.len⟩
theorem Inv.unwish (I:Inv (X.wish E) pins σ H s):Inv X pins σ H s:=⟨I.ok.unwish,I.os,I.bare,I.base,I.loc,I.cell,I.free,I.freeC,I.pin,I.hok,I.len⟩
theorem SP.unwish {D:Ends} {f:Flow} {s':Shared} (h:SP (X.wish E) pins D f s'):SP X pins D f s':=by
 cases f with
 | next => obtain ⟨σ',H',I,q⟩:=h; exact ⟨σ',H',I.unwish,q⟩
 | brk => obtain ⟨σ',H',I,q⟩:=h; exact ⟨σ',H',I.unwish,q⟩
 | cont => obtain ⟨σ',H',I,q⟩:=h; exact ⟨σ',H',I.unwish,q⟩
 | ret u => obtain ⟨v,σ',H',I,r,q⟩:=h; exact ⟨v,σ',H',I.unwish,r,q⟩
theorem PE.nox {e:Expr} {t:TE} (h:PE X.nox e t):PE X e t:=fun pins s σ H Q I hw =>
 wpAny_mono (h pins s σ H Q (I.wish _) hw) (fun _ _ ⟨v,H',I',r,q⟩ => ⟨v,H',I'.unwish,r,q⟩) fun _ _ z => False.elim z
theorem PT.nox {e:Expr} {t:TT} (h:PT X.nox e t):PT X e t:=fun pins s σ H Q I hw =>
 wpAny_mono (h pins s σ H Q (I.wish _) hw) (fun _ _ ⟨H',I',q⟩ => ⟨H',I'.unwish,q⟩) fun _ _ z => False.elim z
theorem PSs.nox {st:List Stmt} {t:TS} (h:PSs X.nox st t):PSs X st t:=fun pins s σ H D I hw =>
 wpAny_mono (h pins s σ H D (I.wish _) hw) (fun _ _ q => q.unwish) fun _ _ z => False.elim z
end
section
variable {X:Cx} {st:Stmt} {rest:List Stmt} {t u:TS} {e:Expr} {te:TE} {pos:Pos}
def tNext:TS:=fun D σ H => D.nx σ H
def tSeq (t u:TS):TS:=fun D σ H => t { D with nx:=u D } σ H
theorem pss_nil:PSs X [] tNext:=fun _ _ σ H _ I h => wpAny_execs_nil ⟨σ,H,I,h⟩
theorem pss_cons (h1:PS X st t) (h2:PSs X rest u):PSs X (st :: rest) (tSeq t u):=by
 intro pins s σ H D I h
 refine wpAny_execs_cons (thn (h1 pins s σ H { D with nx:=u D } I h) fun f s1 q => ?_)
 cases f with
 | next =>
  obtain ⟨σ',H',I',q⟩:=q
  exact h2 pins s1 σ' H' D I' q
 | ret v => exact q
 | brk => exact q
 | cont => exact q
theorem pss_one (h1:PS X st t):PSs X [st] t:=by
 intro pins s σ H D I h
 refine wpAny_execs_cons (thn (h1 pins s σ H D I h) fun f s1 q => ?_)
 cases f with
 | next => exact wpAny_execs_nil q
 | ret v => exact q
 | brk => exact q
 | cont => exact q
def tBreak:TS:=fun D σ H => D.bk σ H
theorem ps_break:PS X (.Break pos) tBreak:=fun _ _ σ H _ I h => wpAny_Break ⟨σ,H,I,h⟩
theorem Inv.quiet {pins:List (Addr × Obj)} {σ:St} {H:Hp} {s:Shared} (I:Inv X pins σ H s):interactive X.env = false:=by simp [interactive,I.ok.kind]
def tDrop (te:TE):TS:=fun D σ H => te σ H fun _ H1 => D.nx σ H1
theorem ps_expr (he:PE X e te) (hs:swapsWith e none pos.line X.env = pure false:=by rfl):PS X (.Expr e pos) (tDrop te):=by
 intro pins s σ H D I h
 exact wpAny_Expr_any (thn (he pins s σ H _ I h) fun v s1 ⟨x,H1,I1,r1,q1⟩ => ⟨σ,H1,I1,q1⟩) I.quiet hs
def tRet (te:TE):TS:=fun D σ H => te σ H D.rt
theorem ps_ret (he:PE X e te):PS X (.Return (some e) pos) (tRet te):=by
 intro pins s σ H D I h
 exact wpAny_Return_some (thn (he pins s σ H _ I h) fun v s1 ⟨x,H1,I1,r1,q1⟩ => ⟨x,σ,H1,I1,r1,q1⟩)
def tIfS (c:TT) (t u:TS):TS:=fun D σ H => c σ H fun b H1 => if b = true then t D σ H1 else u D σ H1
theorem ps_if {c:Expr} {a b:List Stmt} {tc:TT} (hc:PT X c tc) (ha:PSs X a t) (hb:PSs X b u):PS X (.If c a b pos) (tIfS tc t u):=by
 intro pins s σ H D I h
 refine wpAny_If (thn (hc pins s σ H _ I h) fun d s1 ⟨H1,I1,q1⟩ => ?_)
 cases d with
 | true => exact ha pins s1 σ H1 D I1 q1
 | false => exact hb pins s1 σ H1 D I1 q1
def tNever:TS:=fun _ _ _ => False
theorem ps_never:PS X st tNever:=fun _ _ _ _ _ _ h => h.elim
end
abbrev TG:=V -> St -> Hp -> (St -> Hp -> Prop) -> Prop
abbrev TGs:=List V -> St -> Hp -> (St -> Hp -> Prop) -> Prop
def PG (X:Cx) (target:Expr) (t:TG):Prop :=
 ∀ (pins:List (Addr × Obj)) (s:Shared) (σ:St) (H:Hp) (v:V) (u:Value) (Q:St -> Hp -> Prop),Inv X pins σ H s -> RelV v u -> t v σ H Q ->
  wpAny (model X.prog X.w) X.A (assign target X.env u) (fun _ s' => ∃ σ' H',Inv X pins σ' H' s' /\ Q σ' H') X.xe s
def PGs (X:Cx) (ts:List Expr) (t:TGs):Prop :=
 ∀ (pins:List (Addr × Obj)) (s:Shared) (σ:St) (H:Hp) (vs:List V) (us:List Value) (Q:St -> Hp -> Prop),Inv X pins σ H s -> Vals vs us -> t vs σ H Q ->
  wpAny (model X.prog X.w) X.A (assignInOrder ((assignEach ts X.env).map (·.2)) us) (fun _ s' => ∃ σ' H',Inv X pins σ' H' s' /\ Q σ' H') X.xe s
abbrev TSet:=V -> V -> V -> Hp -> (Hp -> Prop) -> Prop
def PSet (X:Cx) (t:TSet):Prop :=
 ∀ (pins:List (Addr × Obj)) (s:Shared) (σ:St) (H:Hp) (o i v:V) (ov iv u:Value) (Q:Hp -> Prop),Inv X pins σ H s -> RelV o ov -> RelV i iv -> RelV v u -> t o i v H Q ->
  wpAny (model X.prog X.w) X.A (setItem ov iv u) (fun _ s' => ∃ H',Inv X pins σ H' s' /\ Q H') X.xe s
abbrev TIp:=V -> V -> Hp -> VK -> Prop
def PIp (X:Cx) (op:Operator) (t:TIp):Prop :=
 ∀ (pins:List (Addr × Obj)) (s:Shared) (σ:St) (H:Hp) (x y:V) (v u:Value) (Q:VK),Inv X pins σ H s -> RelV x v -> RelV y u -> t x y H Q ->
  wpAny (model X.prog X.w) X.A (inplaceOp op v u) (EP X pins σ Q) X.xe s
section
variable {X:Cx} {pos:Pos}
def gName (i:Nat):TG:=fun v σ H Q => Q (σ.set i (some v)) H
theorem pg_name {i:Nat} {x:Str} (hN:X.N.Nodup) (hi:X.N[i]? = some x) (hx:Loc X.env.scope x) (hf:X.fn x = true ∨ X.env.scope.names.lookup x = some .local:=by first | exact .inl rfl | exact .inr rfl | assumption):PG X (.Name x pos) (gName i):=by
 intro pins s σ H v u Q I r h
 exact wpAny_assign_Name (store_ok I hN hi hx r (fun s' I' => ⟨_,H,I',h⟩) hf)
def gNil:TGs:=fun vs σ H Q => vs = [] /\ Q σ H
def gCons (t:TG) (u:TGs):TGs:=fun vs σ H Q => ∃ v r,vs = v :: r /\ t v σ H fun σ' H' => u r σ' H' Q
theorem pgs_nil:PGs X [] gNil:=by
 intro pins s σ H vs us Q I r h
 obtain ⟨e,h⟩:=h
 subst e
 cases r
 exact assignInOrder_nil ⟨σ,H,I,h⟩
theorem pgs_cons {e:Expr} {es:List Expr} {t:TG} {u:TGs} (h1:PG X e t) (h2:PGs X es u)
  (hs:(assignEach (e :: es) X.env).map (·.2) = assign e X.env :: (assignEach es X.env).map (·.2):=by rfl):PGs X (e :: es) (gCons t u):=by
 intro pins s σ H vs us Q I r h
 obtain ⟨v,vr,e1,h⟩:=h
 subst e1
 cases r with
 | cons r rr =>
  rw [hs]
  refine assignInOrder_cons (thn (h1 pins s σ H _ _ _ I r h) fun _ s1 ⟨σ1,H1,I1,q1⟩ => ?_)
  exact h2 pins s1 σ1 H1 _ _ Q I1 rr q1
def gTup (K:PySem.W.Frag) (n:Nat) (t:TGs):TG:=fun v σ H Q => ∃ a xs,v = .ref a /\ SqT K H a xs /\ xs.length = n /\ t xs σ H Q
theorem pg_tup {es:List Expr} {k:Nat} {t:TGs} {n:Nat} (hc:X.calm = true) (h:PGs X es t)
  (hn:(assignEach es X.env).length = n:=by rfl) (hst:(assignEach es X.env).findIdx? (·.1) = none:=by rfl):PG X (.Tuple es k pos) (gTup X.K n t):=by
 intro pins s σ H v u Q I r hw
 obtain ⟨a,xs,e1,hq,hl,hw⟩:=hw
 subst e1
 cases r
 obtain ⟨its,rv,ht,hz⟩:=I.tuple hq
 refine assign_Tuple_tuple (I.ok.hd hc) ht (by simp [hn,<- hl,rv.length]) hst fun h' hx => ?_
 have I1:Inv X pins σ H { s with heap:=h' }:=I.kept (t':=s.toks) fun b o e => hx b o (Nat.ne_of_lt (Heap.lt_size e)) e
 exact h pins _ σ H xs _ Q I1 (by simpa using rv) hw
def gSub (to ti:TE) (t:TSet):TG:=fun v σ H Q => to σ H fun o H1 => ti σ H1 fun i H2 => t o i v H2 fun H3 => Q σ H3
theorem pg_sub {o i:Expr} {to ti:TE} {t:TSet} (ho:PE X o to) (hi:PE X i ti) (hs:PSet X t)
  (ha:∀ v,assign (.Subscript o i pos) X.env v = (do
   let ov <- holding [v] (eval o X.env)
   let iv <- holding [v,ov] (eval i X.env)
   standAt pos
   holding [v,ov,iv] (setItem ov iv v)
   release [v,ov,iv] []):=by intro _; rfl):PG X (.Subscript o i pos) (gSub to ti t):=by
 intro pins s σ H v u Q I r h
 rw [ha]
 refine wpAny_bind (wpAny_holding (thn (ho pins s σ H _ I h) fun ov s1 ⟨x,H1,I1,r1,q1⟩ => ?_))
 refine wpAny_bind (wpAny_holding (thn (hi pins s1 σ H1 _ I1 q1) fun iv s2 ⟨y,H2,I2,r2,q2⟩ => ?_))
 refine wpAny_bind (wpAny_standAt (wpAny_bind (wpAny_holding (thn (hs pins s2 σ H2 x y v ov iv u _ I2 r1 r2 r q2) fun _ s3 ⟨H3,I3,q3⟩ => ?_))))
 exact wpAny_release ⟨σ,H3,I3,q3⟩
def tAsg (te:TE) (g:TG):TS:=fun D σ H => te σ H fun x H1 => g x σ H1 D.nx
theorem ps_asg {tg e:Expr} {te:TE} {g:TG} (he:PE X e te) (hg:PG X tg g) (hs:swapsWithSole [tg] e pos.line X.env = pure false:=by rfl) (hw:swappedStores [tg] e X.env = pure none:=by rfl)
  (h1:(assignEach [tg] X.env).map (·.2) = [assign tg X.env]:=by rfl):PS X (.Assign [tg] e pos) (tAsg te g):=by
 intro pins s σ H D I h
 refine wpAny_Assign_stores (thn (he pins s σ H _ I h) fun v s1 ⟨x,H1,I1,r1,q1⟩ => ?_) hs hw
 rw [h1]
 exact thn (hg pins s1 σ H1 x v _ I1 r1 q1) fun _ s2 q => q
theorem ps_set {i:Nat} {x:Str} {e:Expr} {te:TE} {pos':Pos} (hN:X.N.Nodup) (hi:X.N[i]? = some x) (hx:Loc X.env.scope x) (he:PE X e te) (hs:swapsWith e (some (.Name x pos')) pos.line X.env = pure false:=by rfl) (hf:X.fn x = true ∨ X.env.scope.names.lookup x = some .local:=by first | exact .inl rfl | exact .inr rfl | assumption) :
  PS X (.Assign [.Name x pos'] e pos) (tAsg te (gName i)):=by
 intro pins s σ H D I h
 refine wpAny_Assign_Name (thn (he pins s σ H _ I h) fun v s1 ⟨y,H1,I1,r1,q1⟩ => ?_) hs
 exact store_ok I1 hN hi hx r1 (fun s2 I2 => ⟨_,H1,I2,q1⟩) hf
def tAug (i:Nat) (te:TE) (ti:TIp):TS:=fun D σ H => ∃ x,σ[i]? = some (some x) /\ te σ H fun y H1 => ti x y H1 fun z H2 => D.nx (σ.set i (some z)) H2
theorem ps_aug {i:Nat} {x:Str} {e:Expr} {te:TE} {op:Operator} {ti:TIp} {pos':Pos} (hN:X.N.Nodup) (hi:X.N[i]? = some x) (hx:Loc X.env.scope x) (he:PE X e te) (ho:PIp X op ti) (hf:X.fn x = true ∨ X.env.scope.names.lookup x = some .local:=by first | exact .inl rfl | exact .inr rfl | assumption) :
  PS X (.AugAssign (.Name x pos') op e pos) (tAug i te ti):=by
 intro pins s σ H D I h
 obtain ⟨v,e1,h⟩:=h
 obtain ⟨m,hn,hl⟩:=I.loc
 have vis:Vis X.env.scope x:=by rcases hx with k | k; exact .inl k; exact .inr (.inl k)
 obtain ⟨u,r,l⟩:=hl i x v hi e1 vis
 refine wpAny_AugAssign_Name ?_
 have go:wpAny (model X.prog X.w) X.A (eval e X.env) (fun w s₂ => wpAny (model X.prog X.w) X.A (inplaceOp op u w) (fun r s₃ => wpAny (model X.prog X.w) X.A (storeName X.env x r) (fun _ => SP X pins D .next) X.xe s₃) X.xe s₂) X.xe s:=by
  refine thn (he pins s σ H _ I h) fun w s1 ⟨y,H1,I1,r1,q1⟩ => ?_
  refine thn (ho pins s1 σ H1 v y u w _ I1 r r1 q1) fun z s2 ⟨zv,H2,I2,r2,q2⟩ => ?_
  exact store_ok I2 hN hi hx r2 (fun s3 I3 => ⟨_,H2,I3,q2⟩) hf
 rcases l with ⟨hk,hm⟩ | ⟨hk,c,hc,hcell⟩
 ·exact wpAny_loadName_local I.ok.kind hk hn hm go
 ·rcases hk with hk | hk
  ·exact wpAny_loadName_cell I.ok.kind hk hc hcell go
  ·rcases hx with k | k
   ·have:X.env.scope.names.lookup x = some .free:=hk
    rw [k] at this; cases this
   ·have:X.env.scope.names.lookup x = some .free:=hk
    rw [k] at this; cases this
def ipI (f:Int -> Int -> Int):TIp:=fun x y H Q => ∃ i j,x = .int i /\ y = .int j /\ Q (.int (f i j)) H
theorem ip_add:PIp X .Add (ipI fun i j => i + j):=by
 intro pins s σ H x y v u Q I r1 r2 h
 obtain ⟨i,j,e1,e2,q⟩:=h
 subst e1; subst e2
 obtain ⟨t,rfl⟩:=r1
 obtain ⟨t',rfl⟩:=r2
 exact iadd_int ⟨.int _,H,I.tok _,⟨_,rfl⟩,q⟩
end
section
variable {X:Cx} {pos:Pos}
def tWhile (c:TT) (tb:TS):TS:=fun D σ H => ∃ W:Nat -> St -> Hp -> Prop,(∃ m,W m σ H) /\ ∀ m σ H,W m σ H ->
 c σ H fun b H1 => if b = true then ∃ N:St -> Hp -> Prop,(∀ σ' H',N σ' H' -> ∃ m',m' < m /\ W m' σ' H') /\ tb { D with nx:=N,ct:=N,bk:=D.nx } σ H1 else D.nx σ H1
theorem ps_while {c:Expr} {body:List Stmt} {tc:TT} {tb:TS} (hp:PassesOwn (model X.prog X.w) X.A X.env X.xe) (hc:PT X c tc) (hb:PSs X body tb):PS X (.While c body [] pos) (tWhile tc tb):=by
 intro pins s σ H D I h
 obtain ⟨W,⟨m0,w0⟩,turn⟩:=h
 refine wpAny_While (codeAny_whileLoop (fun n s' => ∃ σ' H',Inv X pins σ' H' s' /\ W n σ' H') ?_ m0 ⟨σ,H,I,w0⟩)
 rintro n s1 ⟨σ1,H1,I1,w1⟩
 refine wpAny_passesOwn hp (thn (hc pins s1 σ1 H1 _ I1 (turn n σ1 H1 w1)) fun b s2 ⟨H2,I2,q2⟩ => ?_)
 cases b with
 | true =>
  obtain ⟨N,hN,q2⟩:=q2
  rw [if_pos rfl]
  refine wpAny_passesOwn hp (thn (hb pins s2 σ1 H2 _ I2 q2) fun f s3 q3 => ?_)
  cases f with
  | next =>
   obtain ⟨σ3,H3,I3,n3⟩:=q3
   obtain ⟨m',hm,w3⟩:=hN σ3 H3 n3
   exact ⟨m',hm,σ3,H3,I3,w3⟩
  | cont =>
   obtain ⟨σ3,H3,I3,n3⟩:=q3
   obtain ⟨m',hm,w3⟩:=hN σ3 H3 n3
   exact ⟨m',hm,σ3,H3,I3,w3⟩
  | brk => exact q3
  | ret v => exact q3
 | false =>
  rw [if_neg Bool.false_ne_true]
  exact wpAny_execs_nil ⟨σ1,H2,I2,q2⟩
end
structure It where
 go:Nat -> Hp -> Prop
 yld:Nat -> Hp -> V -> Hp -> Prop
 stop:Nat -> Hp -> Prop
def FpOk (X:Cx) (pins:List (Addr × Obj)) (H:Hp) (b:Addr):Prop :=
 H b = none /\ b ≠ X.env.locals /\ b ∉ X.fs /\ (b ∈ X.ex ∨ X.s₀.heap.objs.size <= b) /\ (∀ x c,X.env.cells.lookup x = some c -> c ≠ b) /\ ∀ p ∈ X.pn ++ pins,p.1 ≠ b
theorem Inv.fpOk {X:Cx} {pins:List (Addr × Obj)} {σ:St} {H H':Hp} {s:Shared} {b:Addr} (I:Inv X pins σ H s) (hb:s.heap.objs.size <= b) (hn:H' b = none):FpOk X pins H' b:=by
 refine ⟨hn,Nat.ne_of_gt (Nat.lt_of_lt_of_le I.lt hb),I.nofs hb,.inr (Nat.le_trans I.sz hb),fun x c e z => ?_,fun p hp z => ?_⟩
 ·obtain ⟨v,q⟩:=I.cell x c e
  exact absurd (Nat.lt_of_lt_of_le q.lt (by rw [z]; exact hb)) (Nat.lt_irrefl _)
 ·exact absurd (Nat.lt_of_lt_of_le (Heap.lt_size (I.pin p hp).1) (by rw [z]; exact hb)) (Nat.lt_irrefl _)
structure Turn (P:Program) (w:World) (K:PySem.W.Frag) (tg:Expr) (J:It) (fp:List Addr) (it:Addr) (tn:Nat -> Heap -> Prop):Prop where
 mem:it ∈ fp
 obj:∀ i h,tn i h -> ∀ b ∈ fp,∃ o,h.get? b = some o /\ ∀ v,o.data ≠ .cell v
 keep:∀ i h h',tn i h -> (∀ b ∈ fp,∀ o,h.get? b = some o -> h'.get? b = some o) -> tn i h'
 item:∀ (X:Cx),X.prog = P -> X.w = w -> X.K = K -> X.calm = true -> ∀ (i:Nat) (pins:List (Addr × Obj)) (s:Shared) (σ:St) (H:Hp) (E:Value -> Shared -> Prop),Inv X pins σ H s -> (∀ b ∈ fp,FpOk X pins H b) -> tn i s.heap -> J.go i H ->
  wpAny (model P w) X.A (pyNext (.ref it)) (fun r s1 => ∃ u,r = some u /\
   wpAny (model P w) X.A (letOwnedTupleGo tg (.ref it) u) (fun _ s2 => ∃ x H',Inv X pins σ H' s2 /\ RelV x u /\ J.yld i H x H' /\ tn (i + 1) s2.heap /\ ∀ b ∈ fp,H' b = none) E s1) E s
 done:∀ (X:Cx),X.prog = P -> X.w = w -> X.K = K -> X.calm = true -> ∀ (i:Nat) (pins:List (Addr × Obj)) (s:Shared) (σ:St) (H:Hp) (E:Value -> Shared -> Prop),Inv X pins σ H s -> (∀ b ∈ fp,FpOk X pins H b) -> tn i s.heap -> J.stop i H ->
  wpAny (model P w) X.A (pyNext (.ref it)) (fun r s1 => r = none /\ Inv X pins σ H s1) E s
 self:∀ (A:Around) (i:Nat) (s:Shared) (Q:Value -> Shared -> Prop) (E:Value -> Shared -> Prop),tn i s.heap -> Q (.ref it) s -> wpAny (model P w) A (pyIter (.ref it)) Q E s
abbrev TI:=St -> Hp -> (It -> Hp -> Prop) -> Prop
def PIE (X:Cx) (pins:List (Addr × Obj)) (σ:St) (tg:Expr) (R:It -> Hp -> Prop) (itv:Value) (s2:Shared):Prop :=
 ∃ (it:Addr) (fp:List Addr) (tn:Nat -> Heap -> Prop) (J:It) (H':Hp),itv = .ref it /\ Inv X pins σ H' s2 /\ Turn X.prog X.w X.K tg J fp it tn /\ tn 0 s2.heap /\ (∀ b ∈ fp,FpOk X pins H' b) /\ R J H'
def PI (X:Cx) (tg iter:Expr) (wi:TI):Prop :=
 ∀ (pins:List (Addr × Obj)) (s:Shared) (σ:St) (H:Hp) (R:It -> Hp -> Prop),Inv X pins σ H s -> wi σ H R ->
  wpAny (model X.prog X.w) X.A (eval iter X.env) (fun v s1 => wpAny (model X.prog X.w) X.A (pyIter v) (PIE X pins σ tg R) X.xe s1) X.xe s
theorem go_of {M : Model} {A : Around} {E : Value -> Shared -> Prop} {s : Shared} {tg : Expr} {it : Addr} {u : Value} {o : Obj} {n : String} {vs : Array Value} {Q : Unit -> Shared -> Prop} (ho : s.heap.get? it = some o) (hc : o.cls = .type n) (hd : o.data = .fields vs)
    (hn : ["enumerate", "zip", "dict_itemiterator", "dict_reverseitemiterator", "odict_iterator", "itertools.zip_longest", "itertools.pairwise"].contains n = false) (hQ : Q () s) : wpAny M A (letOwnedTupleGo tg (.ref it) u) Q E s := by
  unfold letOwnedTupleGo
  cases tg <;> first
    | exact wpAny_pure hQ
    | (cases u <;> first
        | exact wpAny_pure hQ
        | (refine wpAny_bind (wpAny_load ho ?_)
           rw [hc, hd]
           show wpAny M A (if (["enumerate", "zip", "dict_itemiterator", "dict_reverseitemiterator", "odict_iterator", "itertools.zip_longest", "itertools.pairwise"].contains n && vs[0]? == some (rawInt _)) = true then _ else _) Q E s
           rw [if_neg (by intro h; rw [hn, Bool.false_and] at h; cases h)]
           exact wpAny_pure hQ))
def Itl (K:PySem.W.Frag) (a:Addr):It :=
 ⟨fun i H => ∃ xs x,SqL K H a xs /\ xs[i]? = some x,fun i H x H' => H' = H /\ ∀ xs,SqL K H a xs -> xs[i]? = some x,fun i H => ∃ xs,SqL K H a xs /\ xs.length <= i⟩
def Itt (K:PySem.W.Frag) (a:Addr):It :=
 ⟨fun i H => ∃ xs x,SqT K H a xs /\ xs[i]? = some x,fun i H x H' => H' = H /\ ∀ xs,SqT K H a xs -> xs[i]? = some x,fun i H => ∃ xs,SqT K H a xs /\ xs.length <= i⟩
def Itr (lo:Int) (n:Nat):It:=⟨fun i _ => i < n,fun i H x H' => H' = H /\ x = .int (lo + i),fun i _ => n <= i⟩
theorem turn_list {P:Program} {w:World} {K:PySem.W.Frag} {tg:Expr} (a it:Addr):Turn P w K tg (Itl K a) [it] it (fun i h => h.IsListIter it a i) where
 mem:=by simp
 obj:=fun i h st b hb => by
  have e:b = it:=by simpa using hb
  subst e
  obtain ⟨o,e,c,d⟩:=st
  exact ⟨o,e,fun v z => by rw [d] at z; cases z⟩
 keep:=fun i h h' st k => st.at fun o e => k it (by simp) o e
 item:=by
  intro X hP hw hK hc i pins s σ H E I hf st hg
  subst hP hw hK
  obtain ⟨xs,x,hq,hx⟩:=hg
  obtain ⟨its,rv,p,hz⟩:=I.list hq
  obtain ⟨u,hu,ru⟩:=rv.get hx
  obtain ⟨f0,f1,f2,f3,f4,f5⟩:=hf it (by simp)
  refine wpAny_pyNext_list_item st p.isList (x:=u) (by simpa using hu) fun h' st' sb => ?_
  have I1:Inv X pins σ H { s with heap:=h' }:=I.turned (t':=s.toks) (fun b o hb e => (sb.2 b hb).trans e) f0 f1 f3 f4 f5
  obtain ⟨o,e,c,d⟩:=id st'
  exact ⟨u,rfl,go_of (s:={ s with heap:=h' }) e c d (by decide) ⟨x,H,I1,ru,⟨rfl,fun ys hy => by rw [I.list_inj hy hq]; exact hx⟩,st',fun b hb => (hf b hb).1⟩⟩
 done:=by
  intro X hP hw hK hc i pins s σ H E I hf st hg
  subst hP hw hK
  obtain ⟨xs,hq,hx⟩:=hg
  obtain ⟨its,rv,p,hz⟩:=I.list hq
  obtain ⟨f0,f1,f2,f3,f4,f5⟩:=hf it (by simp)
  have hl:=rv.length
  exact wpAny_pyNext_list_end (I.ok.hd hc) st p.isList (by simp; omega) fun h' eb => ⟨rfl,I.turned (t':=s.toks) (fun b o hb e => eb b o hb e) f0 f1 f3 f4 f5⟩
 self:=fun _ _ _ _ _ st h => wpAny_pyIter_listiter st h
theorem turn_tuple {P:Program} {w:World} {K:PySem.W.Frag} {tg:Expr} (a it:Addr):Turn P w K tg (Itt K a) [it] it (fun i h => h.IsTupleIter it a i) where
 mem:=by simp
 obj:=fun i h st b hb => by
  have e:b = it:=by simpa using hb
  subst e
  obtain ⟨o,e,c,d⟩:=st
  exact ⟨o,e,fun v z => by rw [d] at z; cases z⟩
 keep:=fun i h h' st k => st.at fun o e => k it (by simp) o e
 item:=by
  intro X hP hw hK hc i pins s σ H E I hf st hg
  subst hP hw hK
  obtain ⟨xs,x,hq,hx⟩:=hg
  obtain ⟨its,rv,p,hz⟩:=I.tuple hq
  obtain ⟨u,hu,ru⟩:=rv.get hx
  obtain ⟨f0,f1,f2,f3,f4,f5⟩:=hf it (by simp)
  refine wpAny_pyNext_tuple_item st (show s.heap.IsTuple a its.toArray from p) (x:=u) (by simpa using hu) fun h' st' sb => ?_
  have I1:Inv X pins σ H { s with heap:=h' }:=I.turned (t':=s.toks) (fun b o hb e => (sb.2 b hb).trans e) f0 f1 f3 f4 f5
  obtain ⟨o,e,c,d⟩:=id st'
  exact ⟨u,rfl,go_of (s:={ s with heap:=h' }) e c d (by decide) ⟨x,H,I1,ru,⟨rfl,fun ys hy => by rw [I.tuple_inj hy hq]; exact hx⟩,st',fun b hb => (hf b hb).1⟩⟩
 done:=by
  intro X hP hw hK hc i pins s σ H E I hf st hg
  subst hP hw hK
  obtain ⟨xs,hq,hx⟩:=hg
  obtain ⟨its,rv,p,hz⟩:=I.tuple hq
  obtain ⟨f0,f1,f2,f3,f4,f5⟩:=hf it (by simp)
  have hl:=rv.length
  exact wpAny_pyNext_tuple_end (I.ok.hd hc) st (show s.heap.IsTuple a its.toArray from p) (by simp; omega) fun h' eb => ⟨rfl,I.turned (t':=s.toks) (fun b o hb e => eb b o hb e) f0 f1 f3 f4 f5⟩
 self:=fun _ _ _ _ _ st h => wpAny_pyIter_tupleiter st h
theorem turn_range {P:Program} {w:World} {K:PySem.W.Frag} {tg:Expr} (it:Addr) (lo:Int) (n:Nat):Turn P w K tg (Itr lo n) [it] it (fun i h => IsRangeIter h it (lo + (i:Nat) * 1) ((n:Int) - (i:Nat)) 1) where
 mem:=by simp
 obj:=fun i h st b hb => by
  have e:b = it:=by simpa using hb
  subst e
  exact ⟨_,st,fun v z => by
   have z':Data.fields _ = Data.cell v:=z
   cases z'⟩
 keep:=fun i h h' st k => k it (by simp) _ st
 item:=by
  intro X hP hw hK hc i pins s σ H E I hf st hg
  subst hP hw hK
  obtain ⟨f0,f1,f2,f3,f4,f5⟩:=hf it (by simp)
  have W:=Walks.range (prog:=X.prog) (w:=X.w) (I.ok.hd hc) it lo 1 n
  refine W.item i s _ _ hg st fun v h' tk hv st' kk => ?_
  obtain ⟨t,rfl⟩:=hv
  have I1:Inv X pins σ H { s with heap:=h',toks:=tk }:=I.turned (fun b o hb e => kk b o (by simpa using hb) e) f0 f1 f3 f4 f5
  refine ⟨_,rfl,go_of (s:={ s with heap:=h',toks:=tk }) (n := "range_iterator") st' rfl rfl (by decide) ⟨.int (lo + i),H,I1,⟨t,?_⟩,⟨rfl,rfl⟩,st',fun b hb => (hf b hb).1⟩⟩
  rw [Int.mul_one]
 done:=by
  intro X hP hw hK hc i pins s σ H E I hf st hg
  subst hP hw hK
  obtain ⟨f0,f1,f2,f3,f4,f5⟩:=hf it (by simp)
  exact wpAny_pyNext_range_end (I.ok.hd hc) st (by have:n <= i:=hg; omega) fun h' eb => ⟨rfl,I.turned (t':=s.toks) (fun b o hb e => eb b o hb e) f0 f1 f3 f4 f5⟩
 self:=fun _ _ _ _ _ st h => wpAny_pyIter_rangeiter st h
end L2
namespace L2
open PySem PySem.Spec PyProof.Rows
section
variable {X:Cx} {tg:Expr}
def iList (K:PySem.W.Frag) (tl:TE):TI:=fun σ H R => tl σ H fun x H1 => ∃ a,x = .ref a /\ (∃ xs,SqL K H1 a xs) /\ R (Itl K a) H1
def iTup (K:PySem.W.Frag) (tl:TE):TI:=fun σ H R => tl σ H fun x H1 => ∃ a,x = .ref a /\ (∃ xs,SqT K H1 a xs) /\ R (Itt K a) H1
theorem pi_list {l:Expr} {tl:TE} (hl:PE X l tl):PI X tg l (iList X.K tl):=by
 intro pins s σ H R I h
 refine thn (hl pins s σ H _ I h) fun v s1 ⟨x,H1,I1,r1,q1⟩ => ?_
 obtain ⟨a,e,⟨xs,hq⟩,q⟩:=q1
 subst e
 cases r1
 obtain ⟨its,rv,p,hz⟩:=I1.list hq
 refine wpAny_pyIter_list p.isList ?_
 refine ⟨s1.heap.objs.size,[s1.heap.objs.size],_,_,H1,rfl,I1.kept (t':=s1.toks) fun b o e => Heap.get?_push_of_some _ e,turn_list a _,⟨_,Heap.get?_push_size _ rfl,rfl,rfl⟩,fun b hb => ?_,q⟩
 have e:b = s1.heap.objs.size:=by simpa using hb
 subst e
 exact I1.fpOk (Nat.le_refl _) (I1.hok.fresh (Nat.le_refl _))
theorem pi_tup {l:Expr} {tl:TE} (hl:PE X l tl):PI X tg l (iTup X.K tl):=by
 intro pins s σ H R I h
 refine thn (hl pins s σ H _ I h) fun v s1 ⟨x,H1,I1,r1,q1⟩ => ?_
 obtain ⟨a,e,⟨xs,hq⟩,q⟩:=q1
 subst e
 cases r1
 obtain ⟨its,rv,p,hz⟩:=I1.tuple hq
 refine wpAny_pyIter_tuple (show s1.heap.IsTuple a its.toArray from p) ?_
 refine ⟨s1.heap.objs.size,[s1.heap.objs.size],_,_,H1,rfl,I1.kept (t':=s1.toks) fun b o e => Heap.get?_push_of_some _ e,turn_tuple a _,⟨_,Heap.get?_push_size _ rfl,rfl,rfl⟩,fun b hb => ?_,q⟩
 have e:b = s1.heap.objs.size:=by simpa using hb
 subst e
 exact I1.fpOk (Nat.le_refl _) (I1.hok.fresh (Nat.le_refl _))
theorem range_it {pins:List (Addr × Obj)} {σ:St} {H:Hp} {s:Shared} {R:It -> Hp -> Prop} {E:Value -> Shared -> Prop} {lo hi:Int} {t u v:Tok} {tk:Nat} (I:Inv X pins σ H s) (h1:-(2 ^ 62) <= lo) (h2:lo < 2 ^ 62) (h3:-(2 ^ 62) <= hi) (h4:hi < 2 ^ 62)
  (q:R (Itr lo (hi - lo).toNat) H):wpAny (model X.prog X.w) X.A (pyIter (.ref s.heap.objs.size)) (PIE X pins σ tg R) E { s with heap:=s.heap.push { cls:=.type "range",data:=.fields #[.int lo t,.int hi u,.int 1 v] },toks:=tk }:=by
 refine wpAny_pyIter_range (IsRange.new ..) (small_one h1 h2 h3 h4) ?_
 have I1:Inv X pins σ H { s with heap:=s.heap.push { cls:=.type "range",data:=.fields #[.int lo t,.int hi u,.int 1 v] },toks:=tk }:=I.kept fun b o e => Heap.get?_push_of_some _ e
 refine ⟨(s.heap.push { cls:=.type "range",data:=.fields #[.int lo t,.int hi u,.int 1 v] }).objs.size,[(s.heap.push { cls:=.type "range",data:=.fields #[.int lo t,.int hi u,.int 1 v] }).objs.size],_,_,H,rfl,
  I1.kept (t':=tk) fun b o e => Heap.get?_push_of_some _ e,turn_range _ lo (hi - lo).toNat,?_,fun b hb => ?_,q⟩
 ·have e1:lo + ((0:Nat):Int) * 1 = lo:=by simp
  have e2:(((hi - lo).toNat:Nat):Int) - ((0:Nat):Int) = Builtin.Range.rangeSize lo hi 1:=by rw [rangeSize_one]; split <;> omega
  show IsRangeIter _ _ (lo + ((0:Nat):Int) * 1) ((((hi - lo).toNat:Nat):Int) - ((0:Nat):Int)) 1
  rw [e1,e2]
  exact Heap.get?_push_size _ rfl
 ·have e:b = (s.heap.push { cls:=.type "range",data:=.fields #[.int lo t,.int hi u,.int 1 v] }).objs.size:=by simpa using hb
  subst e
  exact I1.fpOk (Nat.le_refl _) (I1.hok.fresh (Nat.le_refl _))
def iRng1 (ta:TA):TI:=fun σ H R => ta σ H fun vs H1 => ∃ j:Int,vs = [.int j] /\ -(2 ^ 62) <= j /\ j < 2 ^ 62 /\ R (Itr 0 j.toNat) H1
theorem pi_range1 {a:Expr} {ta:TA} {p pos:Pos} (hg:Gl X "range") (hm:X.mg "range" = none) (ha:PA X [a] ta) (hs:starEach [a] X.env = [(false,eval a X.env)]:=by rfl):PI X tg (.Call (.Name "range" p) [a] [] pos) (iRng1 ta):=by
 intro pins s σ H R I h
 refine Call_ (ld_blt I hg hm boot_range (PyProof.Rows.callWith_type1 (thn (ha pos pins s σ H _ I h) fun us s1 ⟨vs,H1,I1,r1,q1⟩ => ?_) hs rfl))
 obtain ⟨j,e,q1,q2,q⟩:=q1
 subst e
 cases r1 with
 | cons r rr =>
  cases rr
  obtain ⟨t,rfl⟩:=r
  exact call_range_1 (range_it I1 (by omega) (by omega) q1 q2 (by simpa using q))
def tFor (wi:TI) (g:TG) (tb:TS):TS:=fun D σ H => wi σ H fun J H1 => ∃ W:Nat -> Nat -> St -> Hp -> Prop,(∃ m,W 0 m σ H1) /\ ∀ i m σ H,W i m σ H ->
 (J.stop i H /\ D.nx σ H) ∨ (J.go i H /\ ∃ N:St -> Hp -> Prop,(∀ σ' H',N σ' H' -> ∃ m',m' < m /\ W (i + 1) m' σ' H') /\ ∀ x H',J.yld i H x H' -> g x σ H' fun σ2 H2 => tb { D with nx:=N,ct:=N,bk:=D.nx } σ2 H2)
def pinsAt (fp:List Addr) (h:Heap):List (Addr × Obj):=fp.filterMap fun b => (h.get? b).map fun o => (b,o)
theorem mem_pinsAt {fp:List Addr} {h:Heap} {b:Addr} {o:Obj} (hb:b ∈ fp) (e:h.get? b = some o):(b,o) ∈ pinsAt fp h:=List.mem_filterMap.mpr ⟨b,hb,by rw [e]; rfl⟩
theorem of_pinsAt {fp:List Addr} {h:Heap} {p:Addr × Obj} (hp:p ∈ pinsAt fp h):p.1 ∈ fp /\ h.get? p.1 = some p.2:=by
 obtain ⟨b,hb,e⟩:=List.mem_filterMap.mp hp
 cases q:h.get? b with
 | none => rw [q] at e; cases e
 | some o =>
  rw [q] at e
  have e':(b,o) = p:=Option.some.inj e
  subst e'
  exact ⟨hb,q⟩
theorem Inv.pinned {pins:List (Addr × Obj)} {σ:St} {H:Hp} {s:Shared} {fp:List Addr} (I:Inv X pins σ H s) (hf:∀ b ∈ fp,FpOk X pins H b) (ho:∀ b ∈ fp,∃ o,s.heap.get? b = some o /\ ∀ v,o.data ≠ .cell v):Inv X (pins ++ pinsAt fp s.heap) σ H s :=
 I.pins_of fun p hp => (List.mem_append.mp hp).elim (fun z => I.pin p (List.mem_append_right _ z)) fun z => by
  obtain ⟨hb,e⟩:=of_pinsAt z
  obtain ⟨f0,f1,f2,_⟩:=hf p.1 hb
  obtain ⟨o,e',d⟩:=ho p.1 hb
  rw [e] at e'; cases e'
  exact ⟨e,f0,f1,f2,d⟩
theorem Inv.unpinned {pins pl:List (Addr × Obj)} {σ:St} {H:Hp} {s:Shared} (I:Inv X (pins ++ pl) σ H s):Inv X pins σ H s:=I.pins_of fun p hp => I.pin p (List.mem_append_right _ (List.mem_append_left _ hp))
theorem ps_for {iter:Expr} {body:List Stmt} {wi:TI} {g:TG} {tb:TS} {pos:Pos} (hp:PassesOwn (model X.prog X.w) X.A X.env X.xe) (hc:X.calm = true) (hi:PI X tg iter wi) (hg:PG X tg g) (hb:PSs X body tb)
  (hs:∀ x,foldedSetIterable iter X.env x = pure x:=by intro _; rfl):PS X (.For tg iter body [] pos) (tFor wi g tb):=by
 intro pins s σ H D I h
 refine wpAny_For (thn (hi pins s σ H _ I h) fun v s1 h1 => thn h1 fun itv s2 h2 => ?_) hs
 obtain ⟨it,fp,tn,J,H2,e,I2,T,st2,f2,W,⟨m0,w0⟩,turn⟩:=h2
 subst e
 have stat:∀ {H':Hp},(∀ b ∈ fp,H' b = none) -> ∀ b ∈ fp,FpOk X pins H' b:=fun hn b hb => ⟨hn b hb,(f2 b hb).2⟩
 refine codeAny_forLoop_any (fun n s' => ∃ i σ' H',Inv X pins σ' H' s' /\ tn i s'.heap /\ (∀ b ∈ fp,H' b = none) /\ W i n σ' H') ?_ m0 ⟨0,σ,H2,I2,st2,fun b hb => (f2 b hb).1,w0⟩
 rintro n s3 ⟨i,σ3,H3,I3,st3,fr3,w3⟩
 rcases turn i n σ3 H3 w3 with ⟨stop,qn⟩ | ⟨go,N,hN,step⟩
 ·refine wpAny_passesOwn hp (thn (T.done X rfl rfl rfl hc i pins s3 σ3 H3 X.xe I3 (stat fr3) st3 stop) fun r s4 ⟨hr,I4⟩ => ?_)
  subst hr
  exact wpAny_execs_nil ⟨σ3,H3,I4,qn⟩
 ·refine wpAny_passesOwn hp (thn (T.item X rfl rfl rfl hc i pins s3 σ3 H3 X.xe I3 (stat fr3) st3 go) fun r s4 ⟨u,hr,h4⟩ => ?_)
  subst hr
  refine wpAny_passesOwn hp (thn h4 fun _ s5 ⟨x,H5,I5,r5,y5,st5,fr5⟩ => ?_)
  have I5':=I5.pinned (stat fr5) (T.obj _ _ st5)
  refine wpAny_passesOwn hp (thn (hg _ s5 σ3 H5 x u _ I5' r5 (step x H5 y5)) fun _ s6 ⟨σ6,H6,I6,q6⟩ => ?_)
  refine wpAny_passesOwn hp (thn (hb _ s6 σ6 H6 _ I6 q6) fun f s7 q7 => ?_)
  have again:∀ {σ7:St} {H7:Hp},Inv X (pins ++ pinsAt fp s5.heap) σ7 H7 s7 -> N σ7 H7 -> ∃ m,m < n /\ ∃ i σ' H',Inv X pins σ' H' s7 /\ tn i s7.heap /\ (∀ b ∈ fp,H' b = none) /\ W i m σ' H':=fun {σ7 H7} I7 n7 => by
   obtain ⟨m',hm,w7⟩:=hN σ7 H7 n7
   refine ⟨m',hm,i + 1,σ7,H7,I7.unpinned,T.keep _ _ _ st5 fun b hb o e => (I7.pin (b,o) (List.mem_append_right _ (List.mem_append_right _ (mem_pinsAt hb e)))).1,fun b hb => ?_,w7⟩
   obtain ⟨o,e,d⟩:=T.obj _ _ st5 b hb
   exact (I7.pin (b,o) (List.mem_append_right _ (List.mem_append_right _ (mem_pinsAt hb e)))).2.1
  cases f with
  | next => obtain ⟨σ7,H7,I7,n7⟩:=q7; exact again I7 n7
  | cont => obtain ⟨σ7,H7,I7,n7⟩:=q7; exact again I7 n7
  | brk => obtain ⟨σ7,H7,I7,q7⟩:=q7; exact ⟨σ7,H7,I7.unpinned,q7⟩
  | ret v => obtain ⟨x7,σ7,H7,I7,r7,q7⟩:=q7; exact ⟨x7,σ7,H7,I7.unpinned,r7,q7⟩
end
theorem for_list {K:PySem.W.Frag} {a:Addr} {xs:List V} {g:TG} {tb:TS} {D:Ends} {σ:St} {H:Hp} (Pv:Nat -> St -> Hp -> Prop) (h0:Pv 0 σ H) (hl:∀ i σ H,i <= xs.length -> Pv i σ H -> SqL K H a xs)
  (hs:∀ i x σ H,xs[i]? = some x -> Pv i σ H -> g x σ H fun σ2 H2 => tb { D with nx:=Pv (i + 1),ct:=Pv (i + 1),bk:=D.nx } σ2 H2) (hd:∀ σ H,Pv xs.length σ H -> D.nx σ H) :
  ∃ W:Nat -> Nat -> St -> Hp -> Prop,(∃ m,W 0 m σ H) /\ ∀ i m σ H,W i m σ H ->
   ((Itl K a).stop i H /\ D.nx σ H) ∨ ((Itl K a).go i H /\ ∃ N:St -> Hp -> Prop,(∀ σ' H',N σ' H' -> ∃ m',m' < m /\ W (i + 1) m' σ' H') /\ ∀ x H',(Itl K a).yld i H x H' -> g x σ H' fun σ2 H2 => tb { D with nx:=N,ct:=N,bk:=D.nx } σ2 H2):=by
 refine ⟨fun i m σ H => m = xs.length - i /\ i <= xs.length /\ Pv i σ H,⟨xs.length,by simp,Nat.zero_le _,h0⟩,?_⟩
 rintro i m σ H ⟨rfl,hi,p⟩
 have q:=hl i σ H hi p
 by_cases hlt:i < xs.length
 ·refine .inr ⟨⟨xs,xs[i],q,by simp [hlt]⟩,Pv (i + 1),fun σ' H' p' => ⟨xs.length - (i + 1),by omega,rfl,hlt,p'⟩,fun x H' y => ?_⟩
  obtain ⟨e,y⟩:=y
  subst e
  exact hs i x σ _ (y xs q) p
 ·have e:i = xs.length:=by omega
  subst e
  exact .inl ⟨⟨xs,q,Nat.le_refl _⟩,hd σ H p⟩
theorem for_tup {K:PySem.W.Frag} {a:Addr} {xs:List V} {g:TG} {tb:TS} {D:Ends} {σ:St} {H:Hp} (Pv:Nat -> St -> Hp -> Prop) (h0:Pv 0 σ H) (hl:∀ i σ H,i <= xs.length -> Pv i σ H -> SqT K H a xs)
  (hs:∀ i x σ H,xs[i]? = some x -> Pv i σ H -> g x σ H fun σ2 H2 => tb { D with nx:=Pv (i + 1),ct:=Pv (i + 1),bk:=D.nx } σ2 H2) (hd:∀ σ H,Pv xs.length σ H -> D.nx σ H) :
  ∃ W:Nat -> Nat -> St -> Hp -> Prop,(∃ m,W 0 m σ H) /\ ∀ i m σ H,W i m σ H ->
   ((Itt K a).stop i H /\ D.nx σ H) ∨ ((Itt K a).go i H /\ ∃ N:St -> Hp -> Prop,(∀ σ' H',N σ' H' -> ∃ m',m' < m /\ W (i + 1) m' σ' H') /\ ∀ x H',(Itt K a).yld i H x H' -> g x σ H' fun σ2 H2 => tb { D with nx:=N,ct:=N,bk:=D.nx } σ2 H2):=by
 refine ⟨fun i m σ H => m = xs.length - i /\ i <= xs.length /\ Pv i σ H,⟨xs.length,by simp,Nat.zero_le _,h0⟩,?_⟩
 rintro i m σ H ⟨rfl,hi,p⟩
 have q:=hl i σ H hi p
 by_cases hlt:i < xs.length
 ·refine .inr ⟨⟨xs,xs[i],q,by simp [hlt]⟩,Pv (i + 1),fun σ' H' p' => ⟨xs.length - (i + 1),by omega,rfl,hlt,p'⟩,fun x H' y => ?_⟩
  obtain ⟨e,y⟩:=y
  subst e
  exact hs i x σ _ (y xs q) p
 ·have e:i = xs.length:=by omega
  subst e
  exact .inl ⟨⟨xs,q,Nat.le_refl _⟩,hd σ H p⟩
theorem for_range {lo:Int} {n:Nat} {g:TG} {tb:TS} {D:Ends} {σ:St} {H:Hp} (Pv:Nat -> St -> Hp -> Prop) (h0:Pv 0 σ H)
  (hs:∀ i σ H,i < n -> Pv i σ H -> g (.int (lo + i)) σ H fun σ2 H2 => tb { D with nx:=Pv (i + 1),ct:=Pv (i + 1),bk:=D.nx } σ2 H2) (hd:∀ σ H,Pv n σ H -> D.nx σ H) :
  ∃ W:Nat -> Nat -> St -> Hp -> Prop,(∃ m,W 0 m σ H) /\ ∀ i m σ H,W i m σ H ->
   ((Itr lo n).stop i H /\ D.nx σ H) ∨ ((Itr lo n).go i H /\ ∃ N:St -> Hp -> Prop,(∀ σ' H',N σ' H' -> ∃ m',m' < m /\ W (i + 1) m' σ' H') /\ ∀ x H',(Itr lo n).yld i H x H' -> g x σ H' fun σ2 H2 => tb { D with nx:=N,ct:=N,bk:=D.nx } σ2 H2):=by
 refine ⟨fun i m σ H => m = n - i /\ i <= n /\ Pv i σ H,⟨n,by simp,Nat.zero_le _,h0⟩,?_⟩
 rintro i m σ H ⟨rfl,hi,p⟩
 by_cases hlt:i < n
 ·refine .inr ⟨hlt,Pv (i + 1),fun σ' H' p' => ⟨n - (i + 1),by omega,rfl,hlt,p'⟩,fun x H' y => ?_⟩
  obtain ⟨e,y⟩:=y
  subst e y
  exact hs i σ _ hlt p
 ·have e:i = n:=by omega
  subst e
  exact .inl ⟨Nat.le_refl _,hd σ H p⟩
theorem while_by {c:TT} {tb:TS} {D:Ends} {σ:St} {H:Hp} (Pv:St -> Hp -> Prop) (μ:St -> Hp -> Nat) (h0:Pv σ H)
  (hs:∀ σ H,Pv σ H -> c σ H fun b H1 => if b = true then tb { D with nx:=fun σ' H' => Pv σ' H' /\ μ σ' H' < μ σ H,ct:=fun σ' H' => Pv σ' H' /\ μ σ' H' < μ σ H,bk:=D.nx } σ H1 else D.nx σ H1)
  (mono:∀ σ H Q Q',(∀ b H1,Q b H1 -> Q' b H1) -> c σ H Q -> c σ H Q'):tWhile c tb D σ H:=by
 refine ⟨fun m σ H => m = μ σ H /\ Pv σ H,⟨_,rfl,h0⟩,?_⟩
 rintro m σ H ⟨rfl,p⟩
 refine mono σ H _ _ (fun b H1 q => ?_) (hs σ H p)
 cases b with
 | true => exact ⟨_,fun σ' H' ⟨p',l⟩ => ⟨_,l,rfl,p'⟩,q⟩
 | false => exact q
end L2
namespace L2
open PySem PySem.Spec PyProof.Rows
abbrev R2:=V -> V -> Hp -> VK -> Prop
def OpR (X:Cx) (f:Value -> Value -> Sem Value) (r:R2):Prop :=
 ∀ (pins:List (Addr × Obj)) (s:Shared) (σ:St) (H:Hp) (x y:V) (v u:Value) (Q:VK),Inv X pins σ H s -> RelV x v -> RelV y u -> r x y H Q ->
  wpAny (model X.prog X.w) X.A (f v u) (EP X pins σ Q) X.xe s
def CallR (X:Cx) (f:Value) (r:List V -> Hp -> VK -> Prop):Prop :=
 ∀ (pins:List (Addr × Obj)) (s:Shared) (σ:St) (H:Hp) (xs:List V) (us:List Value) (Q:VK),Inv X pins σ H s -> Vals xs us -> r xs H Q ->
  wpAny (model X.prog X.w) X.A (call f us) (EP X pins σ Q) X.xe s
def TruR (X:Cx) (r:V -> Hp -> (Bool -> Hp -> Prop) -> Prop):Prop :=
 ∀ (pins:List (Addr × Obj)) (s:Shared) (σ:St) (H:Hp) (x:V) (v:Value) (Q:Bool -> Hp -> Prop),Inv X pins σ H s -> RelV x v -> r x H Q ->
  wpAny (model X.prog X.w) X.A (truthy v) (TP X pins σ Q) X.xe s
def tOp (r:R2) (ta tb:TE):TE:=fun σ H Q => ta σ H fun x H1 => tb σ H1 fun y H2 => r x y H2 Q
def rI (C:Int -> Int -> Prop) (g:Int -> Int -> V):R2:=fun x y H Q => ∃ i j,x = .int i /\ y = .int j /\ C i j /\ Q (g i j) H
def rI0 (g:Int -> Int -> V):R2:=fun x y H Q => ∃ i j,x = .int i /\ y = .int j /\ Q (g i j) H
section
variable {X:Cx} {a b c:Expr} {ta tb tc:TE} {pos:Pos}
theorem binT (ha:PE X a ta) (hb:PE X b tb) {pins:List (Addr × Obj)} {s:Shared} {σ:St} {H:Hp} {R:V -> V -> Hp -> Prop} (I:Inv X pins σ H s)
  (h:ta σ H fun x H1 => tb σ H1 fun y H2 => R x y H2) {Q:Value -> Shared -> Prop} {f:Value -> Value -> Sem Value}
  (hf:∀ v u s2 x y H2,Inv X pins σ H2 s2 -> RelV x v -> RelV y u -> R x y H2 -> wpAny (model X.prog X.w) X.A (f v u) Q X.xe s2) :
  wpAny (model X.prog X.w) X.A (eval a X.env) (fun v s₁ => wpAny (model X.prog X.w) X.A (eval b X.env) (fun u s₂ => wpAny (model X.prog X.w) X.A (f v u) Q X.xe s₂) X.xe s₁) X.xe s:=by
 refine thn (ha pins s σ H _ I h) fun v s1 ⟨x,H1,I1,r1,q1⟩ => ?_
 refine thn (hb pins s1 σ H1 _ I1 q1) fun u s2 ⟨y,H2,I2,r2,q2⟩ => ?_
 exact hf v u s2 x y H2 I2 r1 r2 q2
theorem pe_op {op:Operator} {r:R2} (ho:OpR X (binaryOp op) r) (ha:PE X a ta) (hb:PE X b tb):PE X (.BinOp a op b pos) (tOp r ta tb):=by
 intro pins s σ H Q I h
 exact wpAny_BinOp (binT ha hb I h fun v u s2 x y H2 I2 rx ry q => ho pins s2 σ H2 x y v u Q I2 rx ry q)
theorem opI {f:Value -> Value -> Sem Value} {C:Int -> Int -> Prop} {g:Int -> Int -> Int}
  (rule:∀ (i j:Int) (t u:Tok) (s:Shared) (Q:Value -> Shared -> Prop) (E:Value -> Shared -> Prop),C i j -> Q (.int (g i j) s.toks) { s with toks:=s.toks + 1 } -> wpAny (model X.prog X.w) X.A (f (.int i t) (.int j u)) Q E s) :
  OpR X f (rI C fun i j => .int (g i j)):=by
 intro pins s σ H x y v u Q I rx ry h
 obtain ⟨i,j,rfl,rfl,hc,q⟩:=h
 obtain ⟨t,rfl⟩:=rx
 obtain ⟨t',rfl⟩:=ry
 exact rule i j t t' s _ _ hc ⟨.int (g i j),H,I.tok _,⟨_,rfl⟩,q⟩
theorem opI0 {f:Value -> Value -> Sem Value} {g:Int -> Int -> Int}
  (rule:∀ (i j:Int) (t u:Tok) (s:Shared) (Q:Value -> Shared -> Prop) (E:Value -> Shared -> Prop),Q (.int (g i j) s.toks) { s with toks:=s.toks + 1 } -> wpAny (model X.prog X.w) X.A (f (.int i t) (.int j u)) Q E s) :
  OpR X f (rI0 fun i j => .int (g i j)):=by
 intro pins s σ H x y v u Q I rx ry h
 obtain ⟨i,j,rfl,rfl,q⟩:=h
 obtain ⟨t,rfl⟩:=rx
 obtain ⟨t',rfl⟩:=ry
 exact rule i j t t' s _ _ ⟨.int (g i j),H,I.tok _,⟨_,rfl⟩,q⟩
theorem opB0 {f:Value -> Value -> Sem Value} {g:Int -> Int -> Bool}
  (rule:∀ (i j:Int) (t u:Tok) (s:Shared) (Q:Value -> Shared -> Prop) (E:Value -> Shared -> Prop),Q (.bool (g i j)) s -> wpAny (model X.prog X.w) X.A (f (.int i t) (.int j u)) Q E s) :
  OpR X f (rI0 fun i j => .bl (g i j)):=by
 intro pins s σ H x y v u Q I rx ry h
 obtain ⟨i,j,rfl,rfl,q⟩:=h
 obtain ⟨t,rfl⟩:=rx
 obtain ⟨t',rfl⟩:=ry
 exact rule i j t t' s _ _ ⟨.bl (g i j),H,I,rfl,q⟩
def CDiv (i j:Int):Prop:=0 < j /\ j < 1073741824
def CPow (i j:Int):Prop:=0 <= j /\ j <= 1000000 /\ i.natAbs < 2 ^ 64
def CMul (i j:Int):Prop:=(-(2 ^ 64) < i /\ i < 2 ^ 64) ∨ (-(2 ^ 64) < j /\ j < 2 ^ 64)
theorem CMul.ok {i j:Int} (h:CMul i j):IntMulOk i j:=by
 rcases h with ⟨h1,h2⟩ | ⟨h1,h2⟩
 ·exact .of_left (intBits_le_64 h1 h2)
 ·exact .of_right (intBits_le_64 h1 h2)
theorem op_add:OpR X (binaryOp .Add) (rI0 fun i j => .int (i + j)):=opI0 fun _ _ _ _ _ _ _ q => add_int q
theorem op_sub:OpR X (binaryOp .Sub) (rI0 fun i j => .int (i - j)):=opI0 fun _ _ _ _ _ _ _ q => sub_int q
theorem op_mul:OpR X (binaryOp .Mult) (rI CMul fun i j => .int (i * j)):=opI fun _ _ _ _ _ _ _ hc q => mul_int q hc.ok
theorem op_fdiv:OpR X (binaryOp .FloorDiv) (rI CDiv fun i j => .int (i / j)):=opI fun i j _ _ _ _ _ hc q => by
 have h1:(0:Int) < j:=hc.1
 have h2:j < 1073741824:=hc.2
 exact floordiv_int (by omega) (by rw [Int.fdiv_eq_ediv_of_nonneg i (by omega)]; exact q) (.inl (PyProof.noPylong_small (by omega)))
theorem op_mod:OpR X (binaryOp .Mod) (rI (fun _ j => 0 < j) fun i j => .int (i % j)):=opI fun i j _ _ _ _ _ hc q => by
 have h1:(0:Int) < j:=hc
 exact mod_int' (by omega) (by rw [Int.fmod_eq_emod_of_nonneg i (by omega)]; exact q)
theorem op_pow:OpR X (binaryOp .Pow) (rI CPow fun i j => .int (i ^ j.toNat)):=opI fun _ _ _ _ _ _ _ hc q => pow_int_small hc.1 hc.2.1 hc.2.2 q
end
def scal:V -> V -> Bool
 | .non,.non => true | .non,.int _ => true | .int _,.non => true | .non,.bl _ => true | .bl _,.non => true | .non,.str _ => true | .str _,.non => true
 | .int _,.int _ => true | .bl _,.bl _ => true | .str _,.str _ => true | .byt _,.byt _ => true
 | .int _,.str _ => true | .str _,.int _ => true | .bl _,.str _ => true | .str _,.bl _ => true
 | _,_ => false
def rEq:R2:=fun x y H Q => scal x y = true /\ Q (.bl (decide (x = y))) H
def rNe:R2:=fun x y H Q => scal x y = true /\ Q (.bl (!decide (x = y))) H
theorem dec_int {i j:Int}:decide (V.int i = V.int j) = (i == j):=by
 rw [Bool.eq_iff_iff]
 simp
theorem dec_bl {i j:Bool}:decide (V.bl i = V.bl j) = (i == j):=by
 rw [Bool.eq_iff_iff]
 simp
theorem dec_str {i j:Str}:decide (V.str i = V.str j) = (i == j):=by
 rw [Bool.eq_iff_iff]
 simp
theorem dec_byt {i j:Array UInt8}:decide (V.byt i = V.byt j) = (i.toList == j.toList):=by
 rw [Bool.eq_iff_iff]
 cases i
 cases j
 simp
section
variable {X:Cx} {a b c:Expr} {ta tb tc:TE} {pos:Pos}
theorem fin_bl {pins:List (Addr × Obj)} {σ:St} {H:Hp} {s:Shared} {Q:VK} {k k':Bool} (I:Inv X pins σ H s) (q:Q (.bl k) H) (e:k = k'):EP X pins σ Q (.bool k') s:=by
 subst e
 exact ⟨.bl k,H,I,rfl,q⟩
theorem op_eq:OpR X (compareOp .Eq) rEq:=by
 intro pins s σ H x y v u Q I rx ry h
 obtain ⟨hs,q⟩:=h
 cases x with
 | non =>
  cases rx
  cases y with
  | non => cases ry; exact PySem.EqNone.eq_none_none (fin_bl I q (by simp))
  | bl j => cases ry; exact PySem.EqNone.eq_none_bool (fin_bl I q (by simp))
  | int j => obtain ⟨t',rfl⟩:=ry; exact PySem.EqNone.eq_none_int (fin_bl I q (by simp))
  | str j => obtain ⟨t',rfl⟩:=ry; exact PySem.EqNone.eq_none_str (fin_bl I q (by simp))
  | _ => exact absurd (show false = true from hs) Bool.false_ne_true
 | bl i =>
  cases rx
  cases y with
  | non => cases ry; exact PySem.EqNone.eq_bool_none (fin_bl I q (by simp))
  | bl j => cases ry; exact eq_bool (fin_bl I q dec_bl)
  | str j => obtain ⟨t',rfl⟩:=ry; exact PySem.EqMixed.eq_bool_str (fin_bl I q (by simp))
  | _ => exact absurd (show false = true from hs) Bool.false_ne_true
 | int i =>
  obtain ⟨t,rfl⟩:=rx
  cases y with
  | non => cases ry; exact PySem.EqNone.eq_int_none (fin_bl I q (by simp))
  | int j => obtain ⟨t',rfl⟩:=ry; exact eq_int (fin_bl I q dec_int)
  | str j => obtain ⟨t',rfl⟩:=ry; exact PySem.EqMixed.eq_int_str (fin_bl I q (by simp))
  | _ => exact absurd (show false = true from hs) Bool.false_ne_true
 | str i =>
  obtain ⟨t,rfl⟩:=rx
  cases y with
  | non => cases ry; exact PySem.EqNone.eq_str_none (fin_bl I q (by simp))
  | bl j => cases ry; exact PySem.EqMixed.eq_str_bool (fin_bl I q (by simp))
  | int j => obtain ⟨t',rfl⟩:=ry; exact PySem.EqMixed.eq_str_int (fin_bl I q (by simp))
  | str j => obtain ⟨t',rfl⟩:=ry; exact eq_str (fin_bl I q dec_str)
  | _ => exact absurd (show false = true from hs) Bool.false_ne_true
 | byt i =>
  obtain ⟨t,rfl⟩:=rx
  cases y with
  | byt j => obtain ⟨t',rfl⟩:=ry; exact PySem.W.eq_bytes (fin_bl I q dec_byt)
  | _ => exact absurd (show false = true from hs) Bool.false_ne_true
 | _ => cases y <;> exact absurd (show false = true from hs) Bool.false_ne_true
theorem op_ne:OpR X (compareOp .NotEq) rNe:=by
 intro pins s σ H x y v u Q I rx ry h
 obtain ⟨hs,q⟩:=h
 cases x with
 | non =>
  cases rx
  cases y with
  | non => cases ry; exact PySem.EqNone.ne_none_none (fin_bl I q (by simp))
  | bl j => cases ry; exact PySem.EqNone.ne_none_bool (fin_bl I q (by simp))
  | int j => obtain ⟨t',rfl⟩:=ry; exact PySem.EqNone.ne_none_int (fin_bl I q (by simp))
  | str j => obtain ⟨t',rfl⟩:=ry; exact PySem.EqNone.ne_none_str (fin_bl I q (by simp))
  | _ => exact absurd (show false = true from hs) Bool.false_ne_true
 | bl i =>
  cases rx
  cases y with
  | non => cases ry; exact PySem.EqNone.ne_bool_none (fin_bl I q (by simp))
  | bl j => cases ry; exact ne_bool (fin_bl I q (congrArg not dec_bl))
  | str j => obtain ⟨t',rfl⟩:=ry; exact PySem.EqMixed.ne_bool_str (fin_bl I q (by simp))
  | _ => exact absurd (show false = true from hs) Bool.false_ne_true
 | int i =>
  obtain ⟨t,rfl⟩:=rx
  cases y with
  | non => cases ry; exact PySem.EqNone.ne_int_none (fin_bl I q (by simp))
  | int j => obtain ⟨t',rfl⟩:=ry; exact ne_int (fin_bl I q (congrArg not dec_int))
  | str j => obtain ⟨t',rfl⟩:=ry; exact PySem.EqMixed.ne_int_str (fin_bl I q (by simp))
  | _ => exact absurd (show false = true from hs) Bool.false_ne_true
 | str i =>
  obtain ⟨t,rfl⟩:=rx
  cases y with
  | non => cases ry; exact PySem.EqNone.ne_str_none (fin_bl I q (by simp))
  | bl j => cases ry; exact PySem.EqMixed.ne_str_bool (fin_bl I q (by simp))
  | int j => obtain ⟨t',rfl⟩:=ry; exact PySem.EqMixed.ne_str_int (fin_bl I q (by simp))
  | str j => obtain ⟨t',rfl⟩:=ry; exact ne_str (fin_bl I q (congrArg not dec_str))
  | _ => exact absurd (show false = true from hs) Bool.false_ne_true
 | byt i =>
  obtain ⟨t,rfl⟩:=rx
  cases y with
  | byt j => obtain ⟨t',rfl⟩:=ry; exact PySem.W.ne_bytes (fin_bl I q (congrArg not dec_byt))
  | _ => exact absurd (show false = true from hs) Bool.false_ne_true
 | _ => cases y <;> exact absurd (show false = true from hs) Bool.false_ne_true
theorem op_lt:OpR X (compareOp .Lt) (rI0 fun i j => .bl (decide (i < j))):=opB0 fun _ _ _ _ _ _ _ q => lt_int q
theorem op_gt:OpR X (compareOp .Gt) (rI0 fun i j => .bl (decide (j < i))):=opB0 fun _ _ _ _ _ _ _ q => gt_int q
theorem op_ge:OpR X (compareOp .GtE) (rI0 fun i j => .bl (decide (j <= i))):=opB0 fun _ _ _ _ _ _ _ q => ge_int q
theorem op_isN : OpR X (compareOp .Is) (fun x y H Q => y = .non /\ Q (.bl (decide (x = .non))) H) := by
  intro pins s σ H x y v u Q I rx ry h
  obtain ⟨rfl, q⟩ := h
  cases ry
  refine is_none_gen (fin_bl I q ?_)
  cases x <;> first
    | (cases rx; rfl)
    | (obtain ⟨t, rfl⟩ := rx; rfl)
theorem op_notN : OpR X (compareOp .IsNot) (fun x y H Q => y = .non /\ Q (.bl (!decide (x = .non))) H) := by
  intro pins s σ H x y v u Q I rx ry h
  obtain ⟨rfl, q⟩ := h
  cases ry
  refine isnot_none_gen (fin_bl I q ?_)
  cases x <;> first
    | (cases rx; rfl)
    | (obtain ⟨t, rfl⟩ := rx; rfl)
theorem OpR.or {f:Value -> Value -> Sem Value} {r r':R2} (h:OpR X f r) (h':OpR X f r'):OpR X f (fun x y H Q => r x y H Q ∨ r' x y H Q):=by
 intro pins s σ H x y v u Q I rx ry q
 rcases q with q | q
 ·exact h pins s σ H x y v u Q I rx ry q
 ·exact h' pins s σ H x y v u Q I rx ry q
theorem nomark (b:Expr) {op:CmpOp} (h:op ≠ .In:=by decide) (h2:op ≠ .NotIn:=by decide):behindInMarks op b = false:=by
 have e1:(op == CmpOp.In) = false:=by cases op <;> first | rfl | exact absurd rfl h
 have e2:(op == CmpOp.NotIn) = false:=by cases op <;> first | rfl | exact absurd rfl h2
 cases b <;> simp [behindInMarks,e1,e2]
theorem pe_cmpR {op:CmpOp} {r:R2} (ho:OpR X (compareOp op) r) (ha:PE X a ta) (hb:PE X b tb) (hm:behindInMarks op b = false):PE X (.Compare a [op] [b] pos) (tOp r ta tb):=by
 intro pins s σ H Q I h
 exact wpAny_Compare1 (binT ha hb I h fun v u s2 x y H2 I2 rx ry q => ho pins s2 σ H2 x y v u Q I2 rx ry q) hm
def tTest (t:TE):TT:=fun σ H Q => t σ H fun x H' => ∃ k,x = .bl k /\ Q k H'
theorem pt_cmpR {op:CmpOp} {r:R2} (ho:OpR X (compareOp op) r) (ha:PE X a ta) (hb:PE X b tb) (hm:behindInMarks op b = false):PT X (.Compare a [op] [b] pos) (tTest (tOp r ta tb)):=by
 intro pins s σ H Q I h
 refine wpAny_isTrue_Compare1 (thn (ha pins s σ H _ I h) fun v s1 ⟨x,H1,I1,r1,q1⟩ => thn (hb pins s1 σ H1 _ I1 q1) fun u s2 ⟨y,H2,I2,r2,q2⟩ =>
  thn (ho pins s2 σ H2 x y v u _ I2 r1 r2 q2) fun c s3 ⟨z,H3,I3,r3,k,e,q3⟩ => ?_) hm
 subst e
 cases r3
 exact wpAny_truthy_bool ⟨H3,I3,q3⟩
def TruV (K:PySem.W.Frag) (x:V) (H:Hp) (k:Bool):Prop :=
 match x with
 | .non => k = false
 | .bl b => k = b
 | .int i => k = (i != 0)
 | .str y => y.length <= sizeLine /\ k = ((y.length:Int) != 0)
 | .byt y => y.size <= sizeLine /\ k = ((y.size:Int) != 0)
 | .ref p => (∃ xs,SqL K H p xs /\ k = !xs.isEmpty) ∨ (∃ xs,SqT K H p xs /\ k = !xs.isEmpty) ∨ ∃ kvs,H p = some (.dK kvs) /\ k = !kvs.isEmpty
 | _ => False
theorem isEmpty_kv {κ:Type} {kvs:List (κ × V)} {vs:List (κ × Value)} (r:KV kvs vs):(!vs.isEmpty) = !kvs.isEmpty:=by
 cases r <;> rfl
theorem isEmpty_of {xs:List V} {its:List Value} (r:Vals xs its):(!its.toArray.isEmpty) = !xs.isEmpty:=by
 cases r <;> simp
theorem line63:(sizeLine:Nat) < 2 ^ 63:=by rw [sizeLine_eq]; decide
theorem tru_ok:TruR X (fun x H Q => ∃ k,TruV X.K x H k /\ Q k H):=by
 intro pins s σ H x v Q I rx h
 obtain ⟨k,e,q⟩:=h
 have hl:=line63
 have hs:sizeLine = 16777216:=sizeLine_eq
 cases x with
 | non =>
  cases rx
  have e':k = false:=e
  subst e'
  exact truthy_none ⟨H,I,q⟩
 | bl b =>
  cases rx
  have e':k = b:=e
  subst e'
  exact wpAny_truthy_bool ⟨H,I,q⟩
 | int i =>
  obtain ⟨t,rfl⟩:=rx
  have e':k = (i != 0):=e
  subst e'
  exact PySem.P.truthy_int ⟨H,I,q⟩
 | str y =>
  obtain ⟨t,rfl⟩:=rx
  obtain ⟨hy,e'⟩:y.length <= sizeLine /\ k = ((y.length:Int) != 0):=e
  subst e'
  exact PySem.P.truthy_str (by omega) ⟨H,I.tok _,q⟩
 | byt y =>
  obtain ⟨t,rfl⟩:=rx
  obtain ⟨hy,e'⟩:y.size <= sizeLine /\ k = ((y.size:Int) != 0):=e
  subst e'
  exact PySem.W.truthy_bytes (by omega) ⟨H,I.tok _,q⟩
 | ref p =>
  cases rx
  have e':(∃ xs,SqL X.K H p xs /\ k = !xs.isEmpty) ∨ (∃ xs,SqT X.K H p xs /\ k = !xs.isEmpty) ∨ ∃ kvs,H p = some (.dK kvs) /\ k = !kvs.isEmpty:=e
  rcases e' with ⟨xs,hx,e'⟩ | ⟨xs,hx,e'⟩ | ⟨kvs,hx,e'⟩
  ·subst e'
   obtain ⟨its,r,pl,hz⟩:=I.list hx
   have hlen:=r.length
   exact wpAny_truthy_list pl.isList (by simp only [List.size_toArray]; omega) ⟨H,I.tok _,by rw [isEmpty_of r]; exact q⟩
  ·subst e'
   obtain ⟨its,r,pl,hz⟩:=I.tuple hx
   have hlen:=r.length
   exact truthy_tuple pl (by simp only [List.size_toArray]; omega) ⟨H,I.tok _,by rw [isEmpty_of r]; exact q⟩
  ·subst e'
   obtain ⟨hz,hS,vs,r,m⟩:kvs.length <= sizeLine /\ (p == sysModules) = false /\ ∃ vs,KV kvs vs /\ s.heap.DictOf (mixKind X.prog X.w) p vs:=I.hok p _ hx
   have hlen:kvs.length = vs.length:=Paired.length r
   exact wpAny_truthy_dict hS m (by omega) ⟨H,I.tok _,by rw [isEmpty_kv r]; exact q⟩
 | _ => exact (show False from e).elim
theorem pt_truth (ha:PE X a ta) (he:∀ whole,isTrue a X.env whole = (do let v <- whole; standAt a.pos; holding [v] (truthy v))) :
  PT X a (fun σ H Q => ta σ H fun x H' => ∃ k,TruV X.K x H' k /\ Q k H'):=by
 intro pins s σ H Q I h
 exact isTrue_plain (thn (ha pins s σ H _ I h) fun v s1 ⟨x,H1,I1,r1,q1⟩ => tru_ok pins s1 σ H1 x v Q I1 r1 q1) (he _)
theorem vals1 {x:V} {us:List Value} (r:Vals [x] us):∃ u,us = [u] /\ RelV x u:=by
 cases r with
 | cons r1 r2 => cases r2; exact ⟨_,rfl,r1⟩
theorem vals2 {x y:V} {us:List Value} (r:Vals [x,y] us):∃ u w',us = [u,w'] /\ RelV x u /\ RelV y w':=by
 cases r with
 | cons r1 r2 =>
  cases r2 with
  | cons r3 r4 => cases r4; exact ⟨_,_,rfl,r1,r3⟩
theorem call_abs:CallR X (.builtin "abs") (fun xs H Q => ∃ i,xs = [.int i] /\ Q (.int (if i < 0 then -i else i)) H):=by
 intro pins s σ H xs us Q I r h
 obtain ⟨i,rfl,q⟩:=h
 obtain ⟨u,rfl,t,rfl⟩:=vals1 r
 exact call_abs_int fun u tk => ⟨.int (if i < 0 then -i else i),H,I.tok _,⟨_,rfl⟩,q⟩
theorem call_int1:CallR X (.type "int") (fun xs H Q => (∃ i,xs = [.int i] /\ Q (.int i) H) ∨ ∃ k,xs = [.bl k] /\ Q (.int (if k then 1 else 0)) H):=by
 intro pins s σ H xs us Q I r h
 rcases h with ⟨i,rfl,q⟩ | ⟨k,rfl,q⟩
 ·obtain ⟨u,rfl,t,rfl⟩:=vals1 r
  exact call_int_int ⟨.int i,H,I,⟨_,rfl⟩,q⟩
 ·obtain ⟨u,rfl,r1⟩:=vals1 r
  cases r1
  exact call_int_bool ⟨.int (if k then 1 else 0),H,I.tok _,⟨_,rfl⟩,q⟩
theorem call_str_int:CallR X (.type "str") (fun xs H Q => ∃ i,xs = [.int i] /\ i.natAbs.log2 < 1920 /\ Q (.str (toString i)) H):=by
 intro pins s σ H xs us Q I r h
 obtain ⟨i,rfl,hz,q⟩:=h
 obtain ⟨u,rfl,t,rfl⟩:=vals1 r
 exact PySem.P.str_of_int hz ⟨.str _,H,I.tok _,⟨_,rfl⟩,q⟩
end
end L2
namespace L2
open PySem PySem.Spec PyProof.Rows
structure ObjM (h:Heap) (x dx C:Addr) (mA:Str -> Option Value):Prop where
 obj:h.get? x = some (PySem.W.instObj C dx)
 ns:h.Ns1 dx mA
 ne:dx ≠ x
theorem lookIn_ns {h:Heap} {dx:Addr} {mA:Str -> Option Value} (n:h.Ns1 dx mA):∃ od,h.get? dx = some od /\ ∀ name,PySem.W.lookIn name od = some (mA name):=by
 obtain ⟨o,es,ep,ho,hd,hk,_,hm⟩:=n
 refine ⟨o,ho,fun name => ?_⟩
 have e:=hm name
 unfold nsFind findBy at e
 rw [<- Array.find?_toList] at e
 unfold PySem.W.lookIn
 rw [hd]
 dsimp only
 split
 ·rename_i y q
  rw [q] at e
  exact congrArg some e
 ·rename_i q
  rw [q] at e
  have a:es.toList.any (·.refKey) = false:=by
   rw [List.any_eq_false]
   intro y hy
   obtain ⟨z,t,hkey⟩:=hk y (Array.mem_toList_iff.mp hy)
   simp [DictEntry.refKey,hkey]
  have a':¬ es.toList.any (·.refKey) = true:=by rw [a]; exact Bool.false_ne_true
  rw [if_neg a']
  exact congrArg some e
theorem ObjM.look {h:Heap} {x dx C:Addr} {mA:Str -> Option Value} (I:ObjM h x dx C mA):∃ od,PySem.W.InstAt h x (PySem.W.instObj C dx) C (some od) /\ ∀ name,PySem.W.lookIn name od = some (mA name) :=
 let ⟨od,ho,hl⟩:=lookIn_ns I.ns
 ⟨od,⟨I.obj,rfl,rfl,ho⟩,hl⟩
section
variable {prog:Program} {w:World} {A:Around} {E:Value -> Shared -> Prop} {s:Shared} {K:PySem.W.Frag} {x dx C f:Addr} {mA:Str -> Option Value} {name:Str} {v:Value}
theorem get_map {expr:Bool} {Q:Value -> Shared -> Prop} (X:K.In s.heap) (I:ObjM s.heap x dx C mA) (hg:PySem.W.plainGet K C name = true) (hh:PySem.W.hasDictIn K C = true)
  (ha:PySem.W.findIn K (.ref C) name = some none) (hv:mA name = some v) (hv':PySem.W.handedIn v = true) (h:Q v { s with toks:=s.toks + 1 }) :
  wpAny (model prog w) A (getAttr (.ref x) name expr) Q E s:=by
 obtain ⟨od,J,hl⟩:=I.look
 exact PySem.W.get_value X J (PySem.W.plainGet_of hg).1 (PySem.W.findObj_own hh ha rfl (by rw [hl,hv])) hv' h
theorem get_meth {pl:Sem Bool} {Q:Value × List Value -> Shared -> Prop} (X:K.In s.heap) (I:ObjM s.heap x dx C mA) (hg:PySem.W.plainGet K C name = true)
  (hf:PySem.W.findIn K (.ref C) name = some (some (.ref f))) (ht:PySem.W.isFn K (.ref f) = true) (hv:mA name = none) (h:Q (.ref f,[.ref x]) s) :
  wpAny (model prog w) A (getMethod (.ref x) name pl) Q E s:=by
 obtain ⟨od,J,hl⟩:=I.look
 exact PySem.W.method_fn X J (PySem.W.plainGet_of hg).1 (PySem.W.plainGet_of hg).2 hf (beq_iff_eq.mp ht) (by show (PySem.W.lookIn name od).map (·.isSome) = some false; rw [hl,hv]; rfl) h
theorem set_map {ns:List Str} {Q:Unit -> Shared -> Prop} (X:K.In s.heap) (I:ObjM s.heap x dx C mA)
  (hs:PySem.W.findIn K (.ref C) "__setattr__" = some (some (.builtin "object.__setattr__"))) (hp:PySem.W.plainOver K C = true) (ht:PySem.W.takerIn K C name = some none) (hh:PySem.W.hasDictIn K C = true)
  (hw:PySem.Within mA ns) (hsz:ns.length <= sizeLine)
  (h:∀ h',ObjM h' x dx C (fun y => if y = name then some v else mA y) -> Heap.SameBut dx s.heap h' -> Q () { s with heap:=h',toks:=s.toks + 2 }) :
  wpAny (model prog w) A (setAttr (.ref x) name v) Q E s:=by
 obtain ⟨od,J,hl⟩:=I.look
 refine PySem.W.set_plain X J hs (PySem.W.osa_open (s:={ s with toks:=s.toks + 1 }) (r:=none) X J hp ht fun b => ?_)
 obtain ⟨cd,hc,hd'⟩:=PySem.W.any_some hh
 have hx:s.heap.get? x = some ⟨.ref C,some dx,.plain,#[]⟩:=I.obj
 refine wpAny_bind (wpAny_pure (wpAny_bind (wpAny_bind (wpAny_loadPart hx (wpAny_bind (PySem.W.Looks.here (s:={ s with toks:=s.toks + 1 }) (PySem.W.looks_clsIn X hc) ?_))))))
 rw [hd']
 refine wpAny_pure (a:=some dx) (wpAny_bind (wpAny_pure (wpAny_bind ?_)))
 refine wpAny_nsSet1 (s:={ s with toks:=s.toks + 1 }) I.ns fun h' hn2 hs2 => ?_
 obtain ⟨oD,esD,epD,hoD,hdD,hcD⟩:=hn2.count (PySem.Within.cons name v hw)
 refine wpAny_bind (wpAny_lookBehind hoD (by rw [hdD]; exact pastItsLine_dict (Nat.le_trans hcD (by rw [List.length_cons]; omega))) ?_)
 exact wpAny_pure (h _ ⟨(hs2.2 _ (Ne.symm I.ne)).trans I.obj,hn2,I.ne⟩ hs2)
theorem make_map {R:Result -> Shared -> Prop} {vs:List Value} {kw:List (Str × Value)} (X:K.In s.heap) (hm:PySem.W.makesIn K C = true)
  (hi:PySem.W.findIn K (.ref C) "__init__" = some (some (.ref f))) (hf:PySem.W.typeIn K (.ref f) = some (.type "function"))
  (h:codeAny (model prog w) (A.under (.builtin "type.__call__" ⟨.ref C :: vs,kw⟩)) (.call (.ref f) ⟨.ref (s.heap.objs.size + 1) :: vs,kw⟩) (PySem.W.InitBack (s.heap.objs.size + 1) R)
   { s with heap:=(s.heap.push PySem.W.emptyDict).push (PySem.W.instObj C s.heap.objs.size) }) :
  codeAny (model prog w) A (.call (.ref C) ⟨vs,kw⟩) R s:=by
 obtain ⟨hh,g,d,t,os⟩:=s
 exact PySem.W.make_core (PySem.W.makes_of X hm) (PySem.W.looks_findIn X hi) (fun self => PySem.W.bind_fn X self hf) (.inl rfl) h
end
def putF (f : Str) (v : V) : List (Str × V) -> List (Str × V)
  | [] => [(f, v)]
  | (g, x) :: r => if g = f then (g, v) :: r else (g, x) :: putF f v r
theorem lookup_putF (f g : Str) (v : V) : ∀ fs : List (Str × V), (putF f v fs).lookup g = if g = f then some v else fs.lookup g
  | [] => by
    show List.lookup g [(f, v)] = _
    by_cases h : g = f
    · have hb : (g == f) = true := beq_iff_eq.mpr h
      simp only [List.lookup, hb, if_pos h]
    · have hb : (g == f) = false := beq_eq_false_iff_ne.mpr h
      simp only [List.lookup, hb, if_neg h]
  | (k, x) :: r => by
    have ih := lookup_putF f g v r
    rw [show putF f v ((k, x) :: r) = (if k = f then (k, v) :: r else (k, x) :: putF f v r) from rfl]
    by_cases hk : k = f
    · rw [if_pos hk]
      by_cases h : g = k
      · have hb : (g == k) = true := beq_iff_eq.mpr h
        simp only [List.lookup, hb, if_pos (h.trans hk)]
      · have hb : (g == k) = false := beq_eq_false_iff_ne.mpr h
        simp only [List.lookup, hb, if_neg (fun e : g = f => h (e.trans hk.symm))]
    · rw [if_neg hk]
      by_cases h : g = k
      · have hb : (g == k) = true := beq_iff_eq.mpr h
        simp only [List.lookup, hb, if_neg (fun e : g = f => hk (h.symm.trans e))]
      · have hb : (g == k) = false := beq_eq_false_iff_ne.mpr h
        simp only [List.lookup, hb]
        exact ih
theorem keys_putF (f : Str) (v : V) : ∀ fs : List (Str × V), f ∈ (putF f v fs).map (·.1) /\ ∀ g, g ∈ fs.map (·.1) -> g ∈ (putF f v fs).map (·.1)
  | [] => ⟨by simp [putF], fun g h => by simp at h⟩
  | (k, x) :: r => by
    obtain ⟨i1, i2⟩ := keys_putF f v r
    rw [show putF f v ((k, x) :: r) = (if k = f then (k, v) :: r else (k, x) :: putF f v r) from rfl]
    by_cases hk : k = f
    · rw [if_pos hk]
      subst hk
      exact ⟨by simp, fun g h => by simpa using h⟩
    · rw [if_neg hk]
      refine ⟨?_, fun g h => ?_⟩
      · rw [List.map_cons]
        exact List.mem_cons_of_mem _ i1
      · rw [List.map_cons] at h ⊢
        rcases List.mem_cons.mp h with e | e
        · exact List.mem_cons.mpr (.inl e)
        · exact List.mem_cons_of_mem _ (i2 g e)
theorem length_putF (f : Str) (v : V) : ∀ fs : List (Str × V), (putF f v fs).length <= fs.length + 1
  | [] => by simp [putF]
  | (k, x) :: r => by
    have ih := length_putF f v r
    rw [show putF f v ((k, x) :: r) = (if k = f then (k, v) :: r else (k, x) :: putF f v r) from rfl]
    by_cases hk : k = f
    · rw [if_pos hk, List.length_cons, List.length_cons]; omega
    · rw [if_neg hk, List.length_cons, List.length_cons]; omega
theorem RelO.some_of {v:V} {o:Option Value} (r:RelO (some v) o):∃ u,o = some u /\ RelV v u:=by
 cases o with
 | none => exact (show False from r).elim
 | some u => exact ⟨u,rfl,r⟩
theorem RelO.none_of {o:Option Value} (r:RelO none o):o = none:=by
 cases o with
 | none => rfl
 | some u => exact (show False from r).elim
theorem handed_of {v:V} {u:Value} (r:RelV v u):PySem.W.handedIn u = true:=by
 cases v with
 | non => cases (show u = Value.none from r); rfl
 | bl b => cases (show u = Value.bool b from r); rfl
 | int i => obtain ⟨t,e⟩:=(show ∃ t,u = Value.int i t from r); cases e; rfl
 | str x => obtain ⟨t,e⟩:=(show ∃ t,u = Value.str x t from r); cases e; rfl
 | byt b => obtain ⟨t,e⟩:=(show ∃ t,u = Value.bytes b t from r); cases e; rfl
 | flt b => obtain ⟨t,e⟩:=(show ∃ t,u = Value.float b t from r); cases e; rfl
 | ref a => cases (show u = Value.ref a from r); rfl
 | ty n => cases (show u = Value.type n from r); rfl
section
variable {P:Program} {w:World} {H H':Hp} {h h':Heap} {a C dx:Addr} {fs fs':List (Str × V)}
theorem ins_get (hok:HOk P w H h) (e:H a = some (.ins C dx fs)):∃ mA,ObjM h a dx C mA /\ (∀ f,RelO (fs.lookup f) (mA f)) /\ PySem.Within mA (fs.map (·.1)) /\ fs.length <= 1000 /\ H dx = some (.own a):=by
 obtain ⟨d,z,ne,ob,mA,n,r,q⟩:=(show ObjOk P w H h a (.ins C dx fs) from hok a _ e)
 exact ⟨mA,⟨ob,n,ne⟩,r,q,z,d⟩
end
structure Cls (K:PySem.W.Frag) (C:Addr):Prop where
 pg:PySem.W.plainGet K C Str.empty = true
 hd:PySem.W.hasDictIn K C = true
 po:PySem.W.plainOver K C = true
 sa:PySem.W.findIn K (.ref C) "__setattr__" = some (some (.builtin "object.__setattr__"))
theorem Cls.get {K:PySem.W.Frag} {C:Addr} (c:Cls K C) (f:Str):PySem.W.plainGet K C f = true:=c.pg
def NoAttr (K:PySem.W.Frag) (C:Addr) (f:Str):Prop:=PySem.W.findIn K (.ref C) f = some none
theorem NoAttr.taker {K:PySem.W.Frag} {C:Addr} {f:Str} (n:NoAttr K C f):PySem.W.takerIn K C f = some none:=by
 unfold PySem.W.takerIn
 rw [show PySem.W.findIn K (.ref C) f = some none from n]
 rfl
structure Con (K:PySem.W.Frag) (C:Addr) (f:Str) (v:V) (u:Value):Prop where
 at_:PySem.W.findIn K (.ref C) f = some (some u)
 rel:RelV v u
 get:PySem.W.specialIn K u "__get__" = some none
 cp:PySem.W.copiedNames.contains f = false
structure Meth (K:PySem.W.Frag) (C:Addr) (m:Str) (f:Addr):Prop where
 at_:PySem.W.findIn K (.ref C) m = some (some (.ref f))
 fn:PySem.W.isFn K (.ref f) = true
 kp:PySem.W.keepIn K (.ref f) = true
section
variable {X:Cx} {pins:List (Addr × Obj)} {σ:St} {H:Hp} {s:Shared} {a C dx:Addr} {fs:List (Str × V)} {f:Str} {v:V} {A:Around} {E:Value -> Shared -> Prop}
theorem getattr_ok {b:Bool} {Q:Value -> Shared -> Prop} (I:Inv X pins σ H s) (e:H a = some (.ins C dx fs)) (c:Cls X.K C) (n:NoAttr X.K C f) (l:fs.lookup f = some v)
  (h:∀ u s',Inv X pins σ H s' -> RelV v u -> Q u s'):wpAny (model X.prog X.w) A (getAttr (.ref a) f b) Q E s:=by
 obtain ⟨mA,O,r,_,_,_⟩:=ins_get I.hok e
 obtain ⟨u,hu,ru⟩:=RelO.some_of (v:=v) (o:=mA f) (by rw [<- l]; exact r f)
 exact get_map I.kIn O (c.get f) c.hd n hu (handed_of ru) (h u _ (I.tok _) ru)
theorem getmeth_ok {m:Str} {g:Addr} {pl:Sem Bool} {Q:Value × List Value -> Shared -> Prop} (I:Inv X pins σ H s) (e:H a = some (.ins C dx fs)) (c:Cls X.K C) (k:Meth X.K C m g) (l:fs.lookup m = none)
  (h:Q (.ref g,[.ref a]) s):wpAny (model X.prog X.w) A (getMethod (.ref a) m pl) Q E s:=by
 obtain ⟨mA,O,r,_,_,_⟩:=ins_get I.hok e
 have hn:mA m = none:=RelO.none_of (by rw [<- l]; exact r m)
 exact get_meth I.kIn O (c.get m) k.at_ k.fn hn h
theorem setattr_ok {y:V} {u:Value} {Q:Unit -> Shared -> Prop} (I:Inv X pins σ H s) (e:H a = some (.ins C dx fs)) (c:Cls X.K C) (n:NoAttr X.K C f) (hl:fs.length < 1000) (ry:RelV y u)
  (h:∀ s',Inv X pins σ (upd H a (.ins C dx (putF f y fs))) s' -> Q () s'):wpAny (model X.prog X.w) A (setAttr (.ref a) f u) Q E s:=by
 obtain ⟨mA,O,r,wi,_,ho⟩:=ins_get I.hok e
 have hz:(fs.map (·.1)).length <= sizeLine:=by rw [List.length_map,sizeLine_eq]; omega
 refine set_map I.kIn O c.sa c.po n.taker c.hd wi hz fun h' O' sb => h _ ?_
 have hd:∃ o,h'.get? dx = some o:=let ⟨o,_,_,e',_⟩:=O'.ns; ⟨o,e'⟩
 refine I.write (x:=a) (e:=dx) (by rw [e]; exact True.intro) (.inr ho) (fun b q hb z => (sb.2 b hb).trans z) hd ?_
 refine ⟨by rw [upd_ne O.ne]; exact ho,?_,O.ne,O'.obj,_,O'.ns,fun g => ?_,fun g hg => ?_⟩
 ·have:=length_putF f y fs; omega
 ·show RelO ((putF f y fs).lookup g) (if g = f then some u else mA g)
  rw [lookup_putF]
  by_cases q:g = f
  ·rw [if_pos q,if_pos q]; exact ry
  ·rw [if_neg q,if_neg q]; exact r g
 ·by_cases q:g = f
  ·rw [q]; exact (keys_putF f y fs).1
  ·refine (keys_putF f y fs).2 g (wi g fun z => hg ?_)
   show (if g = f then some u else mA g) = none
   rw [if_neg q]; exact z
theorem Inv.made (I:Inv X pins σ H s):Inv X pins σ (upd (upd H s.heap.objs.size (.own (s.heap.objs.size + 1))) (s.heap.objs.size + 1) (.ins C s.heap.objs.size []))
  { s with heap:=(s.heap.push PySem.W.emptyDict).push (PySem.W.instObj C s.heap.objs.size) }:=by
 have e1:(s.heap.push PySem.W.emptyDict).get? s.heap.objs.size = some PySem.W.emptyDict:=Heap.get?_push_size s.heap rfl
 have e2:((s.heap.push PySem.W.emptyDict).push (PySem.W.instObj C s.heap.objs.size)).get? (s.heap.objs.size + 1) = some (PySem.W.instObj C s.heap.objs.size):=by
  have:=Heap.get?_push_size (s.heap.push PySem.W.emptyDict) (o:=PySem.W.instObj C s.heap.objs.size) rfl
  rwa [Heap.size_push] at this
 have e3:(s.heap.push PySem.W.emptyDict).Ns s.heap.objs.size (fun _ => none):=⟨PySem.W.emptyDict,#[],_,e1,rfl,(fun e he => absurd he (by simp)),fun _ => rfl⟩
 have I1:=I.laid (a:=s.heap.objs.size) (o:=.own (s.heap.objs.size + 1)) (h':=s.heap.push PySem.W.emptyDict) (t':=s.toks) (fun b u q => Heap.get?_push_of_some _ q) (Nat.le_refl _) ⟨_,e1⟩
 refine I1.laid (a:=s.heap.objs.size + 1) (o:=.ins C s.heap.objs.size []) (t':=s.toks) (fun b u q => Heap.get?_push_of_some _ q) (Nat.le_of_eq (Heap.size_push _ _)) ?_
 have ne:s.heap.objs.size ≠ s.heap.objs.size + 1:=Nat.ne_of_lt (Nat.lt_succ_self _)
 refine ⟨by rw [upd_ne ne,upd_same],Nat.zero_le _,ne,e2,fun _ => none,(Heap.Ns1.of_empty e3).at fun o q => Heap.get?_push_of_some _ q,fun _ => True.intro,fun y hy => absurd rfl hy⟩
theorem attr_of {prog:Program} {w:World} {env:Env} {e:Expr} {f:Str} {pos:Pos} {s:Shared} {Q:Value -> Shared -> Prop} (hb:attributeBase e f env (eval e env) = eval e env)
  (h:wpAny (model prog w) A (eval e env) (fun o s₁ => wpAny (model prog w) A (getAttr o f true) Q E s₁) E s):wpAny (model prog w) A (eval (.Attribute e f pos) env) Q E s :=
 Attribute_any_ h (by rw [arm_eval_Attribute,hb])
end
def tFld (K:PySem.W.Frag) (ta:TE) (f:Str):TE:=fun σ H Q => ta σ H fun x H1 => ∃ a C dx fs v,x = .ref a /\ H1 a = some (.ins C dx fs) /\ Cls K C /\ NoAttr K C f /\ fs.lookup f = some v /\ Q v H1
def sFld (K:PySem.W.Frag) (ta tv:TE) (f:Str):TS:=fun D σ H => tv σ H fun y H1 => ta σ H1 fun x H2 => ∃ a C dx fs,x = .ref a /\ H2 a = some (.ins C dx fs) /\ Cls K C /\ NoAttr K C f /\ fs.length < 1000 /\
 D.nx σ (upd H2 a (.ins C dx (putF f y fs)))
def InOp (X:Cx) (op:Operator) (rd:V -> V -> Hp -> VK -> Prop):Prop :=
 ∀ (pins:List (Addr × Obj)) (s:Shared) (σ:St) (H:Hp) (x y:V) (u v:Value) (Q:VK),Inv X pins σ H s -> RelV x u -> RelV y v -> rd x y H Q -> wpAny (model X.prog X.w) X.A (inplaceOp op u v) (EP X pins σ Q) X.xe s
def sFldAug (K:PySem.W.Frag) (ta tv:TE) (rd:V -> V -> Hp -> VK -> Prop) (f:Str):TS:=fun D σ H => ta σ H fun x H1 => ∃ a C dx fs v,x = .ref a /\ H1 a = some (.ins C dx fs) /\ Cls K C /\ NoAttr K C f /\ fs.lookup f = some v /\
 tv σ H1 fun y H2 => rd v y H2 fun z H3 => ∃ dx' fs',H3 a = some (.ins C dx' fs') /\ fs'.length < 1000 /\ D.nx σ (upd H3 a (.ins C dx' (putF f z fs')))
section
variable {X:Cx} {o e value:Expr} {f:Str} {pos pos' tpos:Pos} {ta tv:TE}
theorem pe_fld (he:PE X e ta) (hb:attributeBase e f X.env (eval e X.env) = eval e X.env):PE X (.Attribute e f pos) (tFld X.K ta f):=by
 intro pins s σ H Q I h
 refine attr_of hb (thn (he pins s σ H _ I h) fun u s1 ⟨x,H1,I1,rx,a,C,dx,fs,v,ex,ea,c,n,l,q⟩ => ?_)
 subst ex
 obtain rfl:u = Value.ref a:=rx
 exact getattr_ok I1 ea c n l fun u' s2 I2 ru => ⟨v,H1,I2,ru,q⟩
theorem ps_fld (ha:PE X o ta) (hv:PE X value tv) (hs:swapsWith value (some (.Attribute o f pos')) pos.line X.env = pure false):PS X (.Assign [.Attribute o f pos'] value pos) (sFld X.K ta tv f):=by
 intro pins s σ H D I h
 refine plainObj_wpAny_Assign_Attribute (thn (hv pins s σ H _ I h) fun u s1 ⟨y,H1,I1,ry,q⟩ => thn (ha pins s1 σ H1 _ I1 q) fun ov s2 ⟨x,H2,I2,rx,a,C,dx,fs,ex,ea,c,n,l,q2⟩ => ?_) hs
 subst ex
 obtain rfl:ov = Value.ref a:=rx
 exact setattr_ok I2 ea c n l ry fun s3 I3 => ⟨σ,_,I3,q2⟩
theorem ps_fldaug {op:Operator} {rd:V -> V -> Hp -> VK -> Prop} (ha:PE X o ta) (hv:PE X value tv) (hop:InOp X op rd):PS X (.AugAssign (.Attribute o f tpos) op value pos) (sFldAug X.K ta tv rd f):=by
 intro pins s σ H D I h
 refine wpAny_AugAssign_AttributeAny (thn (ha pins s σ H _ I h) fun ov s1 ⟨x,H1,I1,rx,a,C,dx,fs,v,ex,ea,c,n,l,q⟩ => ?_)
 subst ex
 obtain rfl:ov = Value.ref a:=rx
 refine getattr_ok I1 ea c n l fun u s2 I2 ru => thn (hv pins s2 σ H1 _ I2 q) fun w3 s3 ⟨y,H2,I3,ry,q3⟩ => thn (hop pins s3 σ H2 v y u w3 _ I3 ru ry q3) fun w4 s4 ⟨z,H3,I4,rz,dx',fs',ea',l',q4⟩ => ?_
 exact setattr_ok I4 ea' c n l' rz fun s5 I5 => ⟨σ,_,I5,q4⟩
def rAdd:V -> V -> Hp -> VK -> Prop:=fun x y H Q => ∃ i j,x = .int i /\ y = .int j /\ Q (.int (i + j)) H
theorem in_add:InOp X .Add rAdd:=by
 rintro pins s σ H x y u v Q I rx ry ⟨i,j,rfl,rfl,q⟩
 obtain ⟨t,rfl⟩:=(show ∃ t,u = Value.int i t from rx)
 obtain ⟨t',rfl⟩:=(show ∃ t',v = Value.int j t' from ry)
 exact PyProof.Rows.iadd_int ⟨.int (i + j),H,I.tok _,⟨_,rfl⟩,q⟩
end
section
variable {X:Cx} {pins:List (Addr × Obj)} {σ:St} {H:Hp} {s:Shared} {A:Around} {E:Value -> Shared -> Prop} {Q:Value -> Shared -> Prop} {c:Value} {b:Bool}
inductive TyOf (K:PySem.W.Frag) (H:Hp):V -> Value -> Prop where
 | non:TyOf K H .non (.type "NoneType")
 | bl (x:Bool):TyOf K H (.bl x) (.type "bool")
 | int (i:Int):TyOf K H (.int i) (.type "int")
 | str (x:Str):TyOf K H (.str x) (.type "str")
 | flt (x:UInt64):TyOf K H (.flt x) (.type "float")
 | lst {a:Addr} {xs:List V} (e:H a = some (.lst xs)):TyOf K H (.ref a) (.type "list")
 | frz {a:Addr} {o:Obj} {xs:List V} (e:H a = some (.frz o (.lst xs))):TyOf K H (.ref a) (.type "list")
 | tup {a:Addr} {xs:List V} (e:H a = some (.tup xs)):TyOf K H (.ref a) (.type "tuple")
 | dK {a:Addr} {kvs:List (Key × V)} (e:H a = some (.dK kvs)):TyOf K H (.ref a) (.type "dict")
 | dT {a:Addr} {kvs:List (List Key × V)} (e:H a = some (.dT kvs)):TyOf K H (.ref a) (.type "dict")
 | ins {a C dx:Addr} {fs:List (Str × V)} (e:H a = some (.ins C dx fs)) (cl:Cls K C) (ha:PySem.W.findIn K (.ref C) "__class__" = some (some (.builtin "object.__class__")))
   (hn:PySem.W.specialIn K (.builtin "object.__class__") "__get__" = some (some (.builtin "getset_descriptor.__get__"))) (htk:PySem.W.takesIn K (.builtin "object.__class__") = some true)
   (hm:PySem.W.mroIn K C (.type "object") = some true):TyOf K H (.ref a) (.ref C)
theorem isinst_ok {x:V} {u t:Value} (I:Inv X pins σ H s) (rx:RelV x u) (ty:TyOf X.K H x t) (e:PySem.W.kitOne X.K t c = some b) (h:∀ tk,Q (.bool b) { s with toks:=tk }) :
  wpAny (model X.prog X.w) A (call (.builtin "isinstance") [u,c]) Q E s:=by
 cases ty with
 | non => cases (show u = Value.none from rx); exact PySem.W.kia_one PySem.W.kitx_none I.kIn True.intro e (fun z => nomatch z) h
 | bl y => cases (show u = Value.bool y from rx); exact PySem.W.kia_one PySem.W.kitx_bool I.kIn True.intro e (fun z => nomatch z) h
 | int i => obtain ⟨t,q⟩:=(show ∃ t,u = Value.int i t from rx); cases q; exact PySem.W.kia_one PySem.W.kitx_int I.kIn True.intro e (fun z => nomatch z) h
 | str y => obtain ⟨t,q⟩:=(show ∃ t,u = Value.str y t from rx); cases q; exact PySem.W.kia_one PySem.W.kitx_str I.kIn True.intro e (fun z => nomatch z) h
 | flt y => obtain ⟨t,q⟩:=(show ∃ t,u = Value.float y t from rx); cases q; exact PySem.W.kia_one PySem.W.kitx_float I.kIn True.intro e (fun z => nomatch z) h
 | @lst a xs ea =>
  cases (show u = Value.ref a from rx)
  obtain ⟨_,_,n,_,h1⟩:=(show ObjOk X.prog X.w H s.heap a (.lst xs) from I.hok a _ ea)
  exact PySem.W.kia_one PySem.W.kitx_list I.kIn ⟨_,h1,rfl⟩ e (fun z => nomatch z) h
 | @frz a ob xs ea =>
  cases (show u = Value.ref a from rx)
  obtain ⟨_,_,_,n,_,h1⟩:=(show ObjOk X.prog X.w H s.heap a (.frz ob (.lst xs)) from I.hok a _ ea)
  exact PySem.W.kia_one PySem.W.kitx_list I.kIn ⟨_,h1,rfl⟩ e (fun z => nomatch z) h
 | @tup a xs ea =>
  cases (show u = Value.ref a from rx)
  obtain ⟨_,_,_,p⟩:=(show ObjOk X.prog X.w H s.heap a (.tup xs) from I.hok a _ ea)
  obtain ⟨o,h1,h2,_⟩:=p
  exact PySem.W.kia_one PySem.W.kitx_tuple I.kIn ⟨o,h1,h2⟩ e (fun z => nomatch z) h
 | @dK a kvs ea =>
  cases (show u = Value.ref a from rx)
  obtain ⟨_,_,vs,_,p⟩:=(show ObjOk X.prog X.w H s.heap a (.dK kvs) from I.hok a _ ea)
  obtain ⟨o,es,ep,h1,h2,_⟩:=p
  exact PySem.W.kia_one PySem.W.kitx_dict I.kIn ⟨o,h1,h2.1⟩ e (fun z => nomatch z) h
 | @dT a kvs ea =>
  cases (show u = Value.ref a from rx)
  obtain ⟨_,_,xs,_,o,es,ep,h1,h2,_⟩:=(show ObjOk X.prog X.w H s.heap a (.dT kvs) from I.hok a _ ea)
  exact PySem.W.kia_one PySem.W.kitx_dict I.kIn ⟨o,h1,h2.1⟩ e (fun z => nomatch z) h
 | @ins a C dx fs ea cl ha hn htk hm =>
  cases (show u = Value.ref a from rx)
  obtain ⟨mA,O,_⟩:=ins_get I.hok ea
  obtain ⟨od,J,_⟩:=O.look
  exact PySem.W.kia_one (PySem.W.kitx_own (cl.get _) cl.hd ha hn htk hm) I.kIn J e (fun z => nomatch z) h
end
end L2
namespace L2
open PySem PySem.Spec PyProof.Rows
structure Room (k:Nat) (A:Around):Prop where
 hd:A.handled = none
 dp:A.depth + 3 * k + 5 < recursionLimit
 un:A.units + 16 * k + 200 < cLine
 gd:A.guards = some []
theorem Room.mono {j k:Nat} {A:Around} (r:Room k A) (h:j <= k):Room j A:=⟨r.hd,by have:=r.dp; omega,by have:=r.un; omega,r.gd⟩
theorem Room.deeper {k:Nat} {A:Around} (r:Room (k + 1) A) (env:Env):Room k (A.deeper env) :=
 ⟨r.hd,by have:=r.dp; show A.depth + 1 + 3 * k + 5 < _; omega,by have:=r.un; show A.units + 3 + 16 * k + 200 < _; omega,r.gd⟩
theorem Room.in1 {k:Nat} {A:Around} (r:Room (k + 1) A):Room k A.in1 :=
 ⟨r.hd,by have:=r.dp; show A.depth + 3 * k + 5 < _; omega,by have:=r.un; show A.units + 1 + 16 * k + 200 < _; omega,r.gd⟩
theorem make_depth {A:Around} {C:Addr} {us:List Value} {kw:List (Str × Value)}:(A.under (.builtin "type.__call__" ⟨.ref C :: us,kw⟩)).depth = A.depth + 1:=by
 first | rfl | simp [Around.under,Code.weight,Code.isCreation,Code.isGuard,Code.isCaller,Code.frames,Code.isFrame,guardIds]
theorem make_units {A:Around} {C:Addr} {us:List Value} {kw:List (Str × Value)}:(A.under (.builtin "type.__call__" ⟨.ref C :: us,kw⟩)).units = A.units + 1:=by
 first | rfl | simp [Around.under,Code.cUnits,Code.frames,Code.isFrame]
theorem make_guards {A:Around} {C:Addr} {us:List Value} {kw:List (Str × Value)}:(A.under (.builtin "type.__call__" ⟨.ref C :: us,kw⟩)).guards = A.guards:=by
 cases h:A.guards with
 | none => simp [Around.under,Code.guards,Code.isGuard,guardIds,pushGuards,h]
 | some l => simp [Around.under,Code.guards,Code.isGuard,guardIds,pushGuards,h]
theorem Room.make {k:Nat} {A:Around} (r:Room (k + 1) A) (C:Addr) (us:List Value) (kw:List (Str × Value)):Room k (A.under (.builtin "type.__call__" ⟨.ref C :: us,kw⟩)) :=
 ⟨r.hd,by have:=r.dp; rw [make_depth]; omega,by have:=r.un; rw [make_units]; omega,by rw [make_guards]; exact r.gd⟩
theorem Room.depth {k:Nat} {A:Around} (r:Room k A):A.depth < recursionLimit:=by have:=r.dp; omega
theorem Room.units {k:Nat} {A:Around} (r:Room k A):A.units + 64 < cLine:=by have:=r.un; omega
def tNil:TA:=fun _ H Q => Q [] H
def tCons (ta:TE) (tr:TA):TA:=fun σ H Q => ta σ H fun x H1 => tr σ H1 fun xs H2 => Q (x :: xs) H2
section
variable {X:Cx} {e:Expr} {es:List Expr} {te:TE} {t:TA} {pos:Pos}
theorem pa_nil:PA X [] tNil:=fun _ _ _ _ H Q I h => Calls.spliced_nil ⟨[],H,I,.nil,h⟩
theorem pa_cons (ha:PE X e te) (hr:PA X es t) (hs:starEach (e :: es) X.env = (false,eval e X.env) :: starEach es X.env:=by rfl):PA X (e :: es) (tCons te t):=by
 intro pos pins s σ H Q I h
 rw [hs]
 show wpAny _ _ (spliced ((false,eval e X.env) :: backTo pos (starEach es X.env))) _ _ s
 refine Calls.spliced_cons (thn (ha pins s σ H _ I h) fun u s1 ⟨x,H1,I1,r1,q1⟩ => ?_)
 exact thn (hr pos pins s1 σ H1 _ I1 q1) fun us s2 ⟨xs,H2,I2,r2,q2⟩ => ⟨x :: xs,H2,I2,.cons r1 r2,q2⟩
def tTup (t:TA):TE:=fun σ H Q => t σ H fun xs H1 => xs.length <= sizeLine /\ ∀ p,H1 p = none -> Q (.ref p) (upd H1 p (.tup xs))
def tLst (t:TA):TE:=fun σ H Q => t σ H fun xs H1 => xs.length <= sizeLine /\ ∀ p,H1 p = none -> Q (.ref p) (upd H1 p (.lst xs))
theorem pe_tup {x1} (h:PA X es t):PE X (.Tuple es x1 pos) (tTup t):=by
 intro pins s σ H Q I hq
 refine wpAny_Tuple_spliced (thn (h pos pins s σ H _ I hq) fun us s1 ⟨xs,H1,I1,r,z,q⟩ => ⟨by rw [<- r.length]; exact z,?_⟩)
 have hf:H1 s1.heap.objs.size = none:=I1.hok.fresh (Nat.le_refl _)
 refine ⟨.ref s1.heap.objs.size,upd H1 s1.heap.objs.size (.tup xs),I1.laid (t':=s1.toks) (fun b u e => Heap.get?_push_of_some _ e) (Nat.le_refl _) ?_,rfl,q _ hf⟩
 exact ⟨z,us,r,⟨_,Heap.get?_push_size _ rfl,rfl,_,rfl⟩⟩
theorem pe_lst (h:PA X es t):PE X (.List es pos) (tLst t):=by
 intro pins s σ H Q I hq
 refine wpAny_List_spliced (thn (h pos pins s σ H _ I hq) fun us s1 ⟨xs,H1,I1,r,z,q⟩ => ⟨by rw [<- r.length]; exact z,?_⟩)
 have hf:H1 s1.heap.objs.size = none:=I1.hok.fresh (Nat.le_refl _)
 refine ⟨.ref s1.heap.objs.size,upd H1 s1.heap.objs.size (.lst xs),I1.laid (t':=s1.toks) (fun b u e => Heap.get?_push_of_some _ e) (Nat.le_refl _) ?_,rfl,q _ hf⟩
 exact ⟨z,us,0,r,Heap.get?_push_size _ rfl⟩
end
abbrev Sp:=List V -> Hp -> VK -> XK -> Prop
abbrev CXT:=List Env -> Hp -> Shared -> XK -> Value -> Shared -> Prop
structure Env0 (P:Program) (w:World) (K:PySem.W.Frag) (mg:Str -> Option Value) (base:Heap) (A:Around) (outer:List Env) (s:Shared) (H:Hp):Prop where
 frames:A.frames = some outer
 mod:Mod K mg base
 bs:∀ b o,base.get? b = some o -> s.heap.get? b = some o /\ H b = none
 bsz:base.objs.size <= s.heap.objs.size
 funs:s.heap.FunFrames base outer
 frf:∀ b ∈ frs outer,H b = none
 hok:HOk P w H s.heap
 bare:AllBare s.gens
def CE (outer:List Env) (P:Program) (w:World) (H:Hp) (s:Shared) (Q:VK) (u:Value) (s':Shared):Prop :=
 ∃ v H',s'.os = s.os /\ AllBare s'.gens /\ Un (frs outer) [] H H' s.heap s'.heap /\ HOk P w H' s'.heap /\ RelV v u /\ Q v H'
def CR (CX:CXT) (outer:List Env) (P:Program) (w:World) (H:Hp) (s:Shared) (Q:VK) (E:XK) (r:Result) (s':Shared):Prop :=
 match r with
 | .ok (.ret u) => CE outer P w H s Q u s'
 | .ok _ => False
 | .error e => CX outer H s E e s'
structure FnOk (P:Program) (w:World) (K:PySem.W.Frag) (mg:Str -> Option Value) (base:Heap) (CX:CXT) (k:Nat) (f:Addr) (fd:FuncData) (ps:List Str) (sp:Sp):Prop where
 len:∀ vs H Q E,sp vs H Q E -> vs.length = ps.length
 run:∀ (A:Around) (outer:List Env) (s:Shared) (H:Hp) (args:Args) (us:List Value) (vs:List V) (Q:VK) (E:XK),Room k A -> Env0 P w K mg base A outer s H -> BindsTo s fd args (ps.zip us) -> Vals vs us -> sp vs H Q E ->
  codeAny (model P w) A (.call (.ref f) args) (CR CX outer P w H s Q E) s
theorem FnOk.mono {P:Program} {w:World} {K:PySem.W.Frag} {mg:Str -> Option Value} {base:Heap} {CX:CXT} {j k:Nat} {f:Addr} {fd:FuncData} {ps:List Str} {sp:Sp} (F:FnOk P w K mg base CX j f fd ps sp) (h:j <= k) :
  FnOk P w K mg base CX k f fd ps sp:=⟨F.len,fun A outer s H args us vs Q E hr => F.run A outer s H args us vs Q E (hr.mono h)⟩
theorem FnOk.imp {P:Program} {w:World} {K:PySem.W.Frag} {mg:Str -> Option Value} {base:Heap} {CX:CXT} {k:Nat} {f:Addr} {fd:FuncData} {ps:List Str} {sp sp':Sp} (F:FnOk P w K mg base CX k f fd ps sp)
  (h:∀ vs H Q E,sp' vs H Q E -> sp vs H Q E):FnOk P w K mg base CX k f fd ps sp' :=
 ⟨fun vs H Q E q => F.len vs H Q E (h _ _ _ _ q),fun A outer s H args us vs Q E hr he hb hv hs => F.run A outer s H args us vs Q E hr he hb hv (h _ _ _ _ hs)⟩
theorem Env0.make {P:Program} {w:World} {K:PySem.W.Frag} {mg:Str -> Option Value} {base:Heap} {A:Around} {outer:List Env} {s:Shared} {H:Hp} (e:Env0 P w K mg base A outer s H) (C:Addr) (us:List Value) (kw:List (Str × Value)) :
  Env0 P w K mg base (A.under (.builtin "type.__call__" ⟨.ref C :: us,kw⟩)) outer s H:=⟨by first | exact e.frames | (simpa [Around.under,Code.envs,Code.isFrame,pushEnvs] using e.frames),e.mod,e.bs,e.bsz,e.funs,e.frf,e.hok,e.bare⟩
theorem Env0.in1 {P:Program} {w:World} {K:PySem.W.Frag} {mg:Str -> Option Value} {base:Heap} {A:Around} {outer:List Env} {s:Shared} {H:Hp} (e:Env0 P w K mg base A outer s H) :
  Env0 P w K mg base A.in1 outer s H:=⟨e.frames,e.mod,e.bs,e.bsz,e.funs,e.frf,e.hok,e.bare⟩
section
variable {X:Cx} {pins:List (Addr × Obj)} {σ:St} {H:Hp} {s s':Shared}
theorem Inv.env0 (I:Inv X pins σ H s):Env0 X.prog X.w X.K X.mg X.base X.A X.stack s H :=
 ⟨I.ok.frames,I.ok.mod,I.bs,Nat.le_trans I.ok.bsz I.sz,I.stack,I.stkFree,I.hok,I.bare⟩
theorem Inv.after {Q:VK} {u:Value} (I:Inv X pins σ H s) (h:CE X.stack X.prog X.w H s Q u s'):EP X pins σ Q u s':=by
 obtain ⟨v,H',os,bare,un,hok,r,q⟩:=h
 obtain ⟨hh,g,d,t,os'⟩:=s'
 obtain rfl:os' = s.os:=os
 exact ⟨v,H',I.call (h':=hh) (g':=g) (d':=d) (t':=t) (ch:=[]) un hok bare (fun b z => absurd z (by simp)),r,q⟩
end
def tCall (sp:Sp) (dvs:List V) (E:XK) (t:TA):TE:=fun σ H Q => t σ H fun vs H1 => sp (vs ++ dvs) H1 Q E
def tMeth (C:Addr) (m:Str) (sp:Sp) (dvs:List V) (E:XK) (ta:TE) (t:TA):TE:=fun σ H Q => ta σ H fun x H1 => ∃ a dx fs,x = .ref a /\ H1 a = some (.ins C dx fs) /\ fs.lookup m = none /\
 t σ H1 fun vs H2 => sp (x :: (vs ++ dvs)) H2 Q E
def tMake (C:Addr) (sp:Sp) (dvs:List V) (E:XK) (t:TA):TE:=fun σ H Q => t σ H fun vs H1 => ∀ x dx,H1 x = none -> H1 dx = none -> dx ≠ x ->
 sp (.ref x :: (vs ++ dvs)) (upd (upd H1 dx (.own x)) x (.ins C dx [])) (fun v H2 => v = .non /\ Q (.ref x) H2) E
def Binds (K:PySem.W.Frag) (fd:FuncData) (ps:List Str) (ds:List Value):Prop :=
 ∀ (s:Shared) (us:List Value),K.In s.heap -> (us ++ ds).length = ps.length -> BindsTo s fd ⟨us,[]⟩ (ps.zip (us ++ ds))
theorem Binds.all {K:PySem.W.Frag} {fd:FuncData} {ps:List Str} (h:∀ us:List Value,us.length = ps.length -> bindArgs fd ⟨us,[]⟩ = pure (ps.zip us)):Binds K fd ps []:=fun s us _ hl => by
 rw [List.append_nil] at hl ⊢
 exact .of_eq (h us hl)
def Passes (CX:CXT) (X:Cx) (E:XK):Prop:=∀ (pins:List (Addr × Obj)) (σ:St) (H:Hp) (s:Shared) (e:Value) (s':Shared),Inv X pins σ H s -> CX X.stack H s E e s' -> X.xe e s'
section
variable {X:Cx} {CX:CXT} {k:Nat} {f C:Addr} {fd:FuncData} {ps:List Str} {sp:Sp} {dvs:List V} {ds:List Value} {E:XK} {x m:Str} {p pos apos:Pos} {e o:Expr} {es:List Expr} {ta:TE} {t:TA}
theorem run_fn {pins:List (Addr × Obj)} {σ:St} {H:Hp} {s:Shared} {Q:VK} {us:List Value} {vs:List V} (F:FnOk X.prog X.w X.K X.mg X.base CX k f fd ps sp) (hr:Room k X.A) (hb:Binds X.K fd ps ds) (hd:Vals dvs ds) (hx:Passes CX X E)
  (I:Inv X pins σ H s) (r:Vals vs us) (h:sp (vs ++ dvs) H Q E):wpAny (model X.prog X.w) X.A (call (.ref f) us) (EP X pins σ Q) X.xe s:=by
 have r2:Vals (vs ++ dvs) (us ++ ds):=r.append hd
 have hl:(us ++ ds).length = ps.length:=by rw [<- r2.length]; exact F.len _ _ _ _ h
 refine wpAny_call (codeAny_mono (F.run X.A X.stack s H ⟨us,[]⟩ (us ++ ds) (vs ++ dvs) Q E hr I.env0 (hb s us I.kIn hl) r2 h) fun r s' hq => ?_)
 cases r with
 | error e => exact hx pins σ H s e s' I hq
 | ok fl =>
  cases fl with
  | ret u => exact I.after hq
  | next => exact False.elim hq
  | brk => exact False.elim hq
  | cont => exact False.elim hq
theorem pe_call (F:FnOk X.prog X.w X.K X.mg X.base CX k f fd ps sp) (hr:Room k X.A) (hg:Gl X x) (hm:X.mg x = some (.ref f)) (hk:PySem.W.keepIn X.K (.ref f) = true) (hb:Binds X.K fd ps ds) (hd:Vals dvs ds) (hx:Passes CX X E)
  (ha:PA X (e :: es) t) (hdb:(x == ("__debug__" : Str)) = false:=by decide) (he:starEach (e :: es) X.env = (false,eval e X.env) :: starEach es X.env:=by rfl) (hpl:(backTo pos (starEach es X.env)).any (·.1) = false:=by rfl) :
  PE X (.Call (.Name x p) (e :: es) [] pos) (tCall sp dvs E t):=by
 intro pins s σ H Q I h
 refine wpAny_Call_Name_kw (ld_glob I hg hm ?_ hdb)
 refine PySem.W.callWith_K (h₀:=X.base) I.ok.mod.kin hk (thn (ha pos pins s σ H _ I h) fun us s1 ⟨vs,H1,I1,r,q⟩ => ⟨I1.kIn,?_⟩) he hpl
 exact run_fn F hr hb hd hx I1 r q
theorem pe_call0 (F:FnOk X.prog X.w X.K X.mg X.base CX k f fd ps sp) (hr:Room k X.A) (hg:Gl X x) (hm:X.mg x = some (.ref f)) (hk:PySem.W.keepIn X.K (.ref f) = true) (hb:Binds X.K fd ps ds) (hd:Vals dvs ds) (hx:Passes CX X E)
  (hdb:(x == ("__debug__" : Str)) = false:=by decide):PE X (.Call (.Name x p) [] [] pos) (tCall sp dvs E tNil):=by
 intro pins s σ H Q I h
 refine wpAny_Call_Name_kw (ld_glob I hg hm ?_ hdb)
 exact PySem.W.callWith_K0 I.kIn hk (run_fn (us:=[]) F hr hb hd hx I .nil h)
theorem pe_meth {pl:Sem Bool} (he:PE X o ta) (c:Cls X.K C) (hm:Meth X.K C m f) (F:FnOk X.prog X.w X.K X.mg X.base CX k f fd ps sp) (hr:Room k X.A) (hb:Binds X.K fd ps ds) (hd:Vals dvs ds) (hx:Passes CX X E) (ha:PA X (e :: es) t)
  (hst:starEach (e :: es) X.env = (false,eval e X.env) :: starEach es X.env:=by rfl) (hpl:(backTo pos (starEach es X.env)).any (·.1) = false:=by rfl)
  (ht:eval (.Call (.Attribute o m apos) (e :: es) [] pos) X.env = (do
   let ov <- eval o X.env
   standAt apos.atName
   let (f,first) <- holding [ov] (getMethod ov m pl)
   callWith pos f first (backTo pos (starEach (e :: es) X.env)) (backToKw pos (keywordEach [] X.env))):=by rfl) :
  PE X (.Call (.Attribute o m apos) (e :: es) [] pos) (tMeth C m sp dvs E ta t):=by
 intro pins s σ H Q I h
 refine PySem.W.methodCall_KW (pl:=pl) (thn (he pins s σ H _ I h) fun u s1 ⟨x,H1,I1,rx,a,dx,fs,ex,ea,l,q⟩ => ?_) ht
 subst ex
 obtain rfl:u = Value.ref a:=rx
 refine getmeth_ok I1 ea c hm l ?_
 refine PySem.W.callWith_K (first:=[.ref a]) (h₀:=X.base) I.ok.mod.kin hm.kp (thn (ha pos pins s1 σ H1 _ I1 q) fun us s2 ⟨vs,H2,I2,r,q2⟩ => ⟨I2.kIn,?_⟩) hst hpl
 exact run_fn (us:=.ref a :: us) (vs:=.ref a :: vs) F hr hb hd hx I2 (.cons rfl r) q2
theorem pe_meth0 {pl:Sem Bool} (he:PE X o ta) (c:Cls X.K C) (hm:Meth X.K C m f) (F:FnOk X.prog X.w X.K X.mg X.base CX k f fd ps sp) (hr:Room k X.A) (hb:Binds X.K fd ps ds) (hd:Vals dvs ds) (hx:Passes CX X E)
  (ht:eval (.Call (.Attribute o m apos) [] [] pos) X.env = (do
   let ov <- eval o X.env
   standAt apos.atName
   let (f,first) <- holding [ov] (getMethod ov m pl)
   callWith pos f first (backTo pos (starEach [] X.env)) (backToKw pos (keywordEach [] X.env))):=by rfl) :
  PE X (.Call (.Attribute o m apos) [] [] pos) (tMeth C m sp dvs E ta tNil):=by
 intro pins s σ H Q I h
 refine PySem.W.methodCall_KW (pl:=pl) (thn (he pins s σ H _ I h) fun u s1 ⟨x,H1,I1,rx,a,dx,fs,ex,ea,l,q⟩ => ?_) ht
 subst ex
 obtain rfl:u = Value.ref a:=rx
 refine getmeth_ok I1 ea c hm l ?_
 exact PySem.W.callWith_K0 (first:=[.ref a]) I1.kIn hm.kp (run_fn (us:=[.ref a]) (vs:=[.ref a]) F hr hb hd hx I1 (.cons rfl .nil) q)
structure Mk (K:PySem.W.Frag) (C f:Addr):Prop where
 makes:PySem.W.makesIn K C = true
 init:PySem.W.findIn K (.ref C) "__init__" = some (some (.ref f))
 fn:PySem.W.isFn K (.ref f) = true
 kp:PySem.W.keepIn K (.ref C) = true
theorem run_make {pins:List (Addr × Obj)} {σ:St} {H:Hp} {s:Shared} {Q:VK} {us:List Value} {vs:List V} (M:Mk X.K C f) (F:FnOk X.prog X.w X.K X.mg X.base CX k f fd ps sp) (hr:Room (k + 1) X.A) (hb:Binds X.K fd ps ds) (hd:Vals dvs ds)
  (hx:Passes CX X E) (I:Inv X pins σ H s) (r:Vals vs us)
  (h:∀ x dx,H x = none -> H dx = none -> dx ≠ x -> sp (.ref x :: (vs ++ dvs)) (upd (upd H dx (.own x)) x (.ins C dx [])) (fun v H2 => v = .non /\ Q (.ref x) H2) E) :
  wpAny (model X.prog X.w) X.A (call (.ref C) us) (EP X pins σ Q) X.xe s:=by
 have hq:=h (s.heap.objs.size + 1) s.heap.objs.size (I.hok.fresh (Nat.le_succ _)) (I.hok.fresh (Nat.le_refl _)) (Nat.ne_of_lt (Nat.lt_succ_self _))
 have I2:=Inv.made (C:=C) I
 have r2:Vals (V.ref (s.heap.objs.size + 1) :: (vs ++ dvs)) (Value.ref (s.heap.objs.size + 1) :: (us ++ ds)):=.cons rfl (r.append hd)
 have hl:(Value.ref (s.heap.objs.size + 1) :: us ++ ds).length = ps.length:=by
  have e:=r2.length
  rw [F.len _ _ _ _ hq] at e
  exact e.symm
 refine wpAny_call (make_map (f:=f) I.kIn M.makes M.init (beq_iff_eq.mp M.fn) (codeAny_mono (F.run _ X.stack _ _ ⟨Value.ref (s.heap.objs.size + 1) :: us,[]⟩ (Value.ref (s.heap.objs.size + 1) :: (us ++ ds)) _ _ E (hr.make C us [])
  (I2.env0.make C us []) (hb _ (Value.ref (s.heap.objs.size + 1) :: us) I2.kIn hl) r2 hq) fun r s' hq' => ?_))
 cases r with
 | error e => exact hx pins σ _ _ e s' I2 hq'
 | ok fl =>
  cases fl with
  | ret u =>
   obtain ⟨v,H',I3,rv,ev,q3⟩:=I2.after hq'
   subst ev
   exact ⟨rv,⟨V.ref (s.heap.objs.size + 1),H',I3,rfl,q3⟩⟩
  | next => exact False.elim hq'
  | brk => exact False.elim hq'
  | cont => exact False.elim hq'
theorem pe_make0 (M:Mk X.K C f) (F:FnOk X.prog X.w X.K X.mg X.base CX k f fd ps sp) (hr:Room (k + 1) X.A) (hg:Gl X x) (hm:X.mg x = some (.ref C)) (hb:Binds X.K fd ps ds) (hd:Vals dvs ds) (hx:Passes CX X E)
  (hdb:(x == ("__debug__" : Str)) = false:=by decide):PE X (.Call (.Name x p) [] [] pos) (tMake C sp dvs E tNil):=by
 intro pins s σ H Q I h
 refine wpAny_Call_Name_kw (ld_glob I hg hm ?_ hdb)
 exact PySem.W.callWith_K0 I.kIn M.kp (run_make (us:=[]) M F hr hb hd hx I .nil h)
end
section
variable {X:Cx} {CX:CXT} {k:Nat} {f C:Addr} {fd:FuncData} {ps ks:List Str} {sp:Sp} {E:XK} {x m:Str} {p pos apos kpos:Pos} {e o:Expr} {es:List Expr} {kws:List Keyword} {te ta:TE} {t tk:TA} {nm:Option Str}
structure KBinds (K:PySem.W.Frag) (fd:FuncData) (ps ks:List Str) (g:List Value -> List Value -> List Value) (gV:List V -> List V -> List V):Prop where
 to:∀ (s:Shared) (us ws:List Value),K.In s.heap -> (g us ws).length = ps.length -> BindsTo s fd ⟨us,ks.zip ws⟩ (ps.zip (g us ws))
 rel:∀ {vs:List V} {us:List Value} {zs:List V} {ws:List Value},Vals vs us -> Vals zs ws -> Vals (gV vs zs) (g us ws)
variable {g:List Value -> List Value -> List Value} {gV:List V -> List V -> List V}
end
structure FnScope (N P:List Str) (sc:Scope):Prop where
 kind:sc.kind = .function
 co:sc.isCoroutine = false
 gen:sc.isGenerator = false
 nd:N.Nodup
 pre:N.take P.length = P
 par:∀ x ∈ P,sc.names.lookup x = some .local ∨ sc.names.lookup x = some .cell
 nofree:∀ y ∈ sc.names,y.2 ≠ .free
theorem bindL_out {kindOf : Str -> Option NameKind} {x : Str} : ∀ {binds : List (Str × Value)} {m : Str -> Option Value}, (∀ v, (x, v) ∉ binds) -> bindL kindOf binds m x = m x
  | [], _, _ => rfl
  | (n, v) :: r, m, h => by
    unfold bindL
    rw [bindL_out fun w hw => h w (List.mem_cons_of_mem _ hw)]
    split
    · have : x ≠ n := by rintro rfl; exact h v List.mem_cons_self
      simp [this]
    · rfl
theorem bindC_out {kindOf : Str -> Option NameKind} {x : Str} : ∀ {binds : List (Str × Value)} {m : Str -> Option Value}, (∀ v, (x, v) ∉ binds) -> bindC kindOf binds m x = m x
  | [], _, _ => rfl
  | (n, v) :: r, m, h => by
    unfold bindC
    rw [bindC_out fun w hw => h w (List.mem_cons_of_mem _ hw)]
    split
    · rfl
    · have : x ≠ n := by rintro rfl; exact h v List.mem_cons_self
      simp [this]
theorem bindL_get {kindOf:Str -> Option NameKind} {x:Str} {v:Value}:∀ {P:List Str} {vs:List Value} {i:Nat} {m:Str -> Option Value},P.Nodup -> P[i]? = some x -> vs[i]? = some v -> kindOf x = some .local ->
  bindL kindOf (P.zip vs) m x = some v
 | [],_,_,_,_,h,_,_ => by simp at h
 | _ :: _,[],_,_,_,_,h,_ => by simp at h
 | p :: P,w :: vs,0,m,nd,h1,h2,hk => by
  simp at h1 h2; subst h1; subst h2
  show bindL kindOf ((p,w) :: P.zip vs) m p = _
  unfold bindL
  rw [bindL_out fun v hv => (List.nodup_cons.mp nd).1 (List.of_mem_zip hv).1,if_pos hk]
  simp
 | p :: P,w :: vs,i + 1,m,nd,h1,h2,hk => by
  show bindL kindOf ((p,w) :: P.zip vs) m x = _
  unfold bindL
  exact bindL_get (i:=i) (List.nodup_cons.mp nd).2 (by simpa using h1) (by simpa using h2) hk
theorem bindC_get {kindOf:Str -> Option NameKind} {x:Str} {v:Value}:∀ {P:List Str} {vs:List Value} {i:Nat} {m:Str -> Option Value},P.Nodup -> P[i]? = some x -> vs[i]? = some v -> kindOf x ≠ some .local ->
  bindC kindOf (P.zip vs) m x = some v
 | [],_,_,_,_,h,_,_ => by simp at h
 | _ :: _,[],_,_,_,_,h,_ => by simp at h
 | p :: P,w :: vs,0,m,nd,h1,h2,hk => by
  simp at h1 h2; subst h1; subst h2
  show bindC kindOf ((p,w) :: P.zip vs) m p = _
  unfold bindC
  rw [bindC_out fun v hv => (List.nodup_cons.mp nd).1 (List.of_mem_zip hv).1,if_neg hk]
  simp
 | p :: P,w :: vs,i + 1,m,nd,h1,h2,hk => by
  show bindC kindOf ((p,w) :: P.zip vs) m x = _
  unfold bindC
  exact bindC_get (i:=i) (List.nodup_cons.mp nd).2 (by simpa using h1) (by simpa using h2) hk
def start (N:List Str) (vs:List V):St:=vs.map some ++ List.replicate (N.length - vs.length) none
def cxOf (CX:CXT) (P:Program) (w:World) (K:PySem.W.Frag) (mg:Str -> Option Value) (base:Heap) (N:List Str) (qual:Str) (scope:Scope) (f:Addr) (cd:Value) (A:Around) (outer:List Env) (s:Shared) (H:Hp) (E:XK):Cx where
 prog:=P
 w:=w
 K:=K
 mg:=mg
 base:=base
 A:=A.deeper (envOfC qual scope s.heap.objs.size f cd)
 N:=N
 s₀:=s
 H₀:=H
 env:=envOfC qual scope s.heap.objs.size f cd
 outer:=outer
 stack:=envOfC qual scope s.heap.objs.size f cd :: outer
 ex:=[]
 calm:=true
 fn:=fun _ => true
 pn:=[]
 xe:=fun e s' => wpAny (model P w) (A.deeper (envOfC qual scope s.heap.objs.size f cd)) (leaving (envOfC qual scope s.heap.objs.size f cd) e) (fun _ s'' => CX outer H s E e s'') (fun e' s'' => CX outer H s E e' s'') s'
theorem cell_has {sc:Scope} {n:Nat} {x:Str} (h:sc.names.lookup x = some .cell):∃ c,(cellsFrom n sc.names []).lookup x = some c:=by
 have q:=PySem.W.cellsFrom_some sc.names n [] (.inl h)
 exact Option.isSome_iff_exists.mp q
theorem inv_start {CX:CXT} {P:Program} {w:World} {K:PySem.W.Frag} {mg:Str -> Option Value} {base:Heap} {N ps:List Str} {qual:Str} {scope:Scope} {f:Addr} {cd:Value} {A:Around} {outer:List Env} {s s1:Shared} {H:Hp} {E:XK} {us:List Value} {vs:List V}
  (S:FnScope N ps scope) (hd:A.handled = none) (e0:Env0 P w K mg base A outer s H) (hl:vs.length = ps.length) (r:Vals vs us)
  (x:InCallC s s.heap.objs.size (bindL (envOfC qual scope s.heap.objs.size f cd).kindOf (ps.zip us) fun _ => none) (cellsFrom (s.heap.objs.size + 1) scope.names []) (bindC (envOfC qual scope s.heap.objs.size f cd).kindOf (ps.zip us) fun _ => none) s1) :
  Inv (cxOf CX P w K mg base N qual scope f cd A outer s H E) [] (start N vs) H s1:=by
 have hpl:ps.length <= N.length:=by have:=congrArg List.length S.pre; rw [List.length_take] at this; omega
 obtain ⟨h1,tk,rfl,hk⟩:=x.done
 have noA:∀ b:Addr,b ∉ (cxOf CX P w K mg base N qual scope f cd A outer s H E).ex:=fun b z => absurd (show b ∈ ([]:List Addr) from z) (by simp)
 refine ⟨⟨e0.mod,S.kind,rfl,rfl,Nat.le_refl _,fun y z c h1 h2 => ?_,fun y hy => ?_,fun y c _ h => ?_,fun _ => hd,Around.frames_deeper e0.frames,.inr ⟨rfl,rfl⟩,fun b z => absurd z (noA b),e0.bs,e0.bsz,fun b _ _ => noA b,fun b z => absurd z (noA b),e0.funs,e0.frf⟩,
  rfl,e0.bare,Un.kept hk,⟨_,x.toInCall.ns,fun i y v h1 h2 h3 => ?_⟩,fun y c h => ⟨_,x.cell y c h⟩,e0.hok.fresh (Nat.le_refl _),fun y c h => ?_,fun p hp => absurd (show p ∈ ([]:List (Addr × Obj)) from hp) (by simp),e0.hok.kept hk,?_⟩
 ·exact name_of_addr x.apart (PySem.mem_of_lookup h1) (PySem.mem_of_lookup h2)
 ·have hy:scope.names.lookup y = some .cell ∨ scope.names.lookup y = some .free:=hy
  rcases hy with hy | hy
  ·exact cell_has hy
  ·exact absurd rfl (S.nofree _ (PySem.mem_of_lookup hy))
 ·exact Nat.le_of_lt (x.above y c (PySem.mem_of_lookup h))
 ·have hi:i < vs.length:=by
   unfold start at h2
   by_cases hi:i < vs.length
   ·exact hi
   ·rw [List.getElem?_append_right (by simpa using hi)] at h2
    rw [List.getElem?_replicate] at h2
    split at h2 <;> cases h2
  have ha:vs[i]? = some v:=by
   unfold start at h2
   rw [List.getElem?_append_left (by simpa using hi),List.getElem?_map] at h2
   cases e:vs[i]? with
   | none => rw [e] at h2; cases h2
   | some a => rw [e] at h2; cases h2; rfl
  obtain ⟨u,hu,rv⟩:=r.get ha
  have hp:ps[i]? = some y:=by
   rw [<- S.pre,List.getElem?_take_of_lt (by omega)]; exact h1
  have ndP:ps.Nodup:=by rw [<- S.pre]; exact S.nd.sublist (List.take_sublist _ _)
  refine ⟨u,rv,?_⟩
  rcases S.par y (List.mem_of_getElem? hp) with k | k
  ·exact .inl ⟨k,bindL_get ndP hp hu k⟩
  ·obtain ⟨c,e⟩:=cell_has (n:=s.heap.objs.size + 1) k
   refine .inr ⟨.inl k,c,e,?_⟩
   have q:=x.cell y c e
   rw [bindC_get ndP hp hu (by show scope.names.lookup y ≠ _; rw [k]; decide)] at q
   exact q
 ·exact e0.hok.fresh (Nat.le_of_lt (x.above y c (PySem.mem_of_lookup h)))
 ·unfold start
  show _ = N.length
  rw [List.length_append,List.length_map,List.length_replicate]
  omega
theorem fn_of {CX:CXT} {P:Program} {w:World} {K:PySem.W.Frag} {mg:Str -> Option Value} {base:Heap} {k:Nat} {f:Addr} {name qual:Str} {params:Arguments} {body:List Stmt} {scope:Scope} {dV kV doc pm cdv ct oc:Value} {an od:Option Addr}
  {osl:Array (Option Value)} {N ps:List Str} {sp:Sp} (lk:K.lookup f = some ⟨oc,od,.func (PySem.W.fnOf name qual params body scope dV kV doc pm an cdv ct),osl⟩) (hcd:PySem.W.codeIn K cdv qual = true) (S:FnScope N ps scope)
  (len:∀ vs H Q E,sp vs H Q E -> vs.length = ps.length)
  (hbody:∀ (A:Around) (outer:List Env) (s:Shared) (H:Hp) (vs:List V) (Q:VK) (E:XK),Room k (A.deeper (envOfC qual scope s.heap.objs.size f cdv)) -> sp vs H Q E ->
   ∃ t,PSs (cxOf CX P w K mg base N qual scope f cdv A outer s H E) body t /\ t { nx:=fun _ H' => Q .non H',rt:=Q } (start N vs) H) :
  FnOk P w K mg base CX (k + 1) f (PySem.W.fnOf name qual params body scope dV kV doc pm an cdv ct) ps sp:=by
 refine ⟨len,fun A outer s H args us vs Q E hr e0 hb r hsp => ?_⟩
 have hl:=len _ _ _ _ hsp
 have KX:K.In s.heap:=e0.mod.kin.keeps fun b o e => (e0.bs b o e).1
 have lim:s.heap.NoLimit:=e0.mod.nolimit.keeps fun b o e => (e0.bs b o e).1
 have hkind:∀ y ∈ ps.zip us,scope.names.lookup y.1 = some .local ∨ (scope.names.lookup y.1 = some .cell /\ ((cellsFrom (s.heap.objs.size + 1) scope.names []).lookup y.1).isSome = true):=fun ⟨n,v⟩ hy => by
  rcases S.par n (List.of_mem_zip hy).1 with q | q
  ·exact .inl q
  ·exact .inr ⟨q,PySem.W.cellsFrom_some _ _ _ (.inl q)⟩
 refine codeAny_call_function hr.depth (KX _ _ lk) rfl S.co S.gen rfl (PySem.W.codeRec_of KX hcd) (hb _ _ _ _ ?_)
 refine wpAny_newFunctionEnv_cells S.kind hkind fun env he s1 x => ?_
 subst he
 refine ⟨lim.keeps x.toInCall.keep,codeAny_func ?_⟩
 obtain ⟨t,ht,hq⟩:=hbody A outer s H vs Q E (hr.deeper _) hsp
 have I:Inv (cxOf CX P w K mg base N qual scope f cdv A outer s H E) [] (start N vs) H s1:=inv_start S hr.hd e0 hl r x
 refine wpAny_mono (ht [] s1 (start N vs) H _ I hq) (fun fl s' hs => ?_) fun e s' hs => hs
 have fin:∀ {σ':St} {H':Hp} {v:V} {u:Value},Inv (cxOf CX P w K mg base N qual scope f cdv A outer s H E) [] σ' H' s' -> RelV v u -> Q v H' -> CE outer P w H s Q u s' :=
  fun {σ' H' v u} J rv q => ⟨v,H',J.os,J.bare,J.base,J.hok,rv,q⟩
 cases fl with
 | ret u =>
  obtain ⟨v,σ',H',J,rv,q⟩:=hs
  exact fin J rv q
 | next =>
  obtain ⟨σ',H',J,q⟩:=hs
  exact fin (v:=V.non) (u:=Value.none) J rfl q
 | brk =>
  obtain ⟨_,_,_,q⟩:=hs
  exact False.elim q
 | cont =>
  obtain ⟨_,_,_,q⟩:=hs
  exact False.elim q
end L2
namespace L2
open PySem PySem.Spec PyProof.Rows
section
variable {X:Cx} {x:Str} {p pos:Pos} {e:Expr} {es:List Expr} {t:TA} {id T:String} {r:List V -> Hp -> VK -> Prop}
def tCB (r:List V -> Hp -> VK -> Prop) (t:TA):TE:=fun σ H Q => t σ H fun vs H1 => r vs H1 Q
theorem pe_callB (hc:CallR X (.builtin id) r) (hg:Gl X x) (hm:X.mg x = none) (hv:bootBuiltins x = some (.builtin id)) (ha:PA X (e :: es) t) (hn:x ≠ "__name__":=by decide) (hdb:(x == ("__debug__" : Str)) = false:=by decide)
  (he:starEach (e :: es) X.env = (false,eval e X.env) :: starEach es X.env:=by rfl) (hpl:(backTo pos (starEach es X.env)).any (·.1) = false:=by rfl):PE X (.Call (.Name x p) (e :: es) [] pos) (tCB r t):=by
 intro pins s σ H Q I h
 refine wpAny_Call_Name_kw (ld_blt I hg hm hv ?_ hn hdb)
 exact PyProof.Rows.callWith_builtin1 (thn (ha pos pins s σ H _ I h) fun us s1 ⟨vs,H1,I1,r1,q1⟩ => hc pins s1 σ H1 vs us Q I1 r1 q1) he hpl
theorem pe_callTy (hc:CallR X (.type T) r) (hg:Gl X x) (hm:X.mg x = none) (hv:bootBuiltins x = some (.type T)) (ha:PA X (e :: es) t) (hn:x ≠ "__name__":=by decide) (hdb:(x == ("__debug__" : Str)) = false:=by decide)
  (he:starEach (e :: es) X.env = (false,eval e X.env) :: starEach es X.env:=by rfl) (hpl:(backTo pos (starEach es X.env)).any (·.1) = false:=by rfl):PE X (.Call (.Name x p) (e :: es) [] pos) (tCB r t):=by
 intro pins s σ H Q I h
 refine wpAny_Call_Name_kw (ld_blt I hg hm hv ?_ hn hdb)
 exact PyProof.Rows.callWith_type1 (thn (ha pos pins s σ H _ I h) fun us s1 ⟨vs,H1,I1,r1,q1⟩ => hc pins s1 σ H1 vs us Q I1 r1 q1) he hpl
end
end L2
namespace L2
open PySem PySem.Spec PyProof.Rows
section
variable {κ:Type} [DecidableEq κ]
def valV (kvs:List (κ × V)) (k:κ):Option V:=(kvs.find? fun kv => decide (kv.1 = k)).map (·.2)
def putK (kvs:List (κ × V)) (k:κ) (v:V):List (κ × V) :=
 if (kvs.any fun kv => decide (kv.1 = k)) = true then kvs.map (fun kv => if kv.1 = k then (kv.1,v) else kv) else kvs ++ [(k,v)]
def dropK (kvs:List (κ × V)) (k:κ):List (κ × V):=kvs.filter fun kv => decide (kv.1 ≠ k)
theorem valV_nil {k:κ}:valV ([]:List (κ × V)) k = none:=rfl
theorem valV_pos {p:κ × V} {r:List (κ × V)} {k:κ} (e:p.1 = k):valV (p :: r) k = some p.2:=by simp [valV,List.find?_cons,e]
theorem valV_neg {p:κ × V} {r:List (κ × V)} {k:κ} (e:¬ p.1 = k):valV (p :: r) k = valV r k:=by simp [valV,List.find?_cons,e]
theorem valV_any (k:κ):∀ kvs:List (κ × V),(kvs.any fun kv => decide (kv.1 = k)) = (valV kvs k).isSome
 | [] => rfl
 | p :: r => by
  rw [List.any_cons]
  by_cases e:p.1 = k
  ·simp only [valV_pos e,decide_eq_true e,Bool.true_or,Option.isSome_some]
  ·rw [valV_neg e,decide_eq_false e,Bool.false_or]; exact valV_any k r
theorem valV_map (k j:κ) (y:V):∀ kvs:List (κ × V),valV (kvs.map fun kv => if kv.1 = k then (kv.1,y) else kv) j = (valV kvs j).map fun x => if j = k then y else x
 | [] => rfl
 | p :: r => by
  have ih:=valV_map k j y r
  rw [List.map_cons]
  by_cases h:p.1 = k
  ·rw [if_pos h]
   by_cases e:p.1 = j
   ·rw [valV_pos (p:=(p.1,y)) e,valV_pos e,Option.map_some,if_pos (e.symm.trans h)]
   ·rw [valV_neg (p:=(p.1,y)) e,valV_neg e,ih]
  ·rw [if_neg h]
   by_cases e:p.1 = j
   ·rw [valV_pos (p:=p) e,valV_pos e,Option.map_some,if_neg (fun z => h (e.trans z))]
   ·rw [valV_neg (p:=p) e,valV_neg e,ih]
theorem valV_snoc (k j:κ) (y:V):∀ kvs:List (κ × V),valV kvs k = none -> valV (kvs ++ [(k,y)]) j = if j = k then some y else valV kvs j
 | [],_ => by
  by_cases e:k = j
  ·rw [if_pos e.symm]; exact valV_pos (p:=(k,y)) e
  ·rw [if_neg (fun z => e z.symm)]; exact valV_neg (p:=(k,y)) e
 | p :: r,hn => by
  rw [List.cons_append]
  have hk:¬ p.1 = k:=fun z => by rw [valV_pos z] at hn; cases hn
  rw [valV_neg hk] at hn
  have ih:=valV_snoc k j y r hn
  by_cases e:p.1 = j
  ·rw [valV_pos e,valV_pos e,if_neg (fun z => hk (e.trans z))]
  ·rw [valV_neg e,valV_neg e,ih]
theorem valV_put (kvs:List (κ × V)) (k j:κ) (y:V):valV (putK kvs k y) j = if j = k then some y else valV kvs j:=by
 unfold putK
 by_cases a:(kvs.any fun kv => decide (kv.1 = k)) = true
 ·rw [if_pos a,valV_map]
  rw [valV_any] at a
  by_cases e:j = k
  ·obtain ⟨x,hx⟩:=Option.isSome_iff_exists.mp a
   rw [if_pos e,e,hx,Option.map_some,if_pos rfl]
  ·rw [if_neg e]
   cases valV kvs j with
   | none => rfl
   | some x => rw [Option.map_some,if_neg e]
 ·rw [if_neg a]
  refine valV_snoc k j y kvs ?_
  rw [valV_any] at a
  cases q:valV kvs k with
  | none => rfl
  | some x => rw [q] at a; exact (a rfl).elim
theorem length_putK (kvs:List (κ × V)) (k:κ) (v:V):(putK kvs k v).length <= kvs.length + 1:=by
 unfold putK
 split
 ·rw [List.length_map]; omega
 ·rw [List.length_append,List.length_cons,List.length_nil]; omega
theorem putK_new {kvs:List (κ × V)} {k:κ} (v:V) (h:valV kvs k = none):putK kvs k v = kvs ++ [(k,v)]:=by
 unfold putK
 rw [valV_any,h]
 exact if_neg (by decide)
theorem RelO.isSome_eq {o:Option V} {u:Option Value} (r:RelO o u):o.isSome = u.isSome:=by
 cases o with
 | none => cases u with
  | none => rfl
  | some _ => exact (show False from r).elim
 | some _ => cases u with
  | none => exact (show False from r).elim
  | some _ => rfl
theorem RelO.getD {o:Option V} {u:Option Value} {d:V} {d':Value} (r:RelO o u) (rd:RelV d d'):RelV (o.getD d) (u.getD d'):=by
 cases o with
 | none => cases u with
  | none => exact rd
  | some _ => exact (show False from r).elim
 | some _ => cases u with
  | none => exact (show False from r).elim
  | some _ => exact r
theorem KV.val {kvs:List (κ × V)} {vs:List (κ × Value)} (r:KV kvs vs) (k:κ):RelO (valV kvs k) (valueAt vs k):=by
 unfold KV at r
 induction r with
 | nil => exact True.intro
 | @cons p q ps qs h t ih =>
  obtain ⟨h1,h2⟩:=h
  by_cases e:p.1 = k
  ·have e':q.1 = k:=h1.symm.trans e
   have b:valueAt (q :: qs) k = some q.2:=by simp [valueAt,List.find?_cons,e']
   rw [valV_pos e,b]; exact h2
  ·have e':¬ q.1 = k:=fun z => e (h1.trans z)
   have b:valueAt (q :: qs) k = valueAt qs k:=by simp [valueAt,List.find?_cons,e']
   rw [valV_neg e,b]; exact ih
theorem KV.any {kvs:List (κ × V)} {vs:List (κ × Value)} (r:KV kvs vs) (k:κ):(kvs.any fun kv => decide (kv.1 = k)) = vs.any fun kv => decide (kv.1 = k):=by
 unfold KV at r
 induction r with
 | nil => rfl
 | cons h t ih => rw [List.any_cons,List.any_cons,ih,h.1]
theorem KV.repl {kvs:List (κ × V)} {vs:List (κ × Value)} (r:KV kvs vs) (k:κ) {y:V} {u:Value} (ry:RelV y u) :
  KV (kvs.map fun kv => if kv.1 = k then (kv.1,y) else kv) (vs.map fun kv => if kv.1 = k then (kv.1,u) else kv):=by
 unfold KV at r ⊢
 induction r with
 | nil => exact .nil
 | @cons p q ps qs h t ih =>
  rw [List.map_cons,List.map_cons]
  refine .cons ?_ ih
  obtain ⟨h1,h2⟩:=h
  by_cases e:p.1 = k
  ·rw [if_pos e,if_pos (h1.symm.trans e)]; exact ⟨h1,ry⟩
  ·rw [if_neg e,if_neg (fun z => e (h1.trans z))]; exact ⟨h1,h2⟩
theorem KV.put {kvs:List (κ × V)} {vs:List (κ × Value)} (r:KV kvs vs) (k:κ) {y:V} {u:Value} (ry:RelV y u):KV (putK kvs k y) (stored vs k u):=by
 unfold putK stored
 rw [r.any k]
 by_cases e:(vs.any fun kv => decide (kv.1 = k)) = true
 ·rw [if_pos e,if_pos e]; exact r.repl k ry
 ·rw [if_neg e,if_neg e]; exact Paired.snoc r ⟨rfl,ry⟩
theorem KV.drop {kvs:List (κ × V)} {vs:List (κ × Value)} (r:KV kvs vs) (k:κ):KV (dropK kvs k) (without vs k):=by
 unfold KV at r ⊢
 unfold dropK without
 induction r with
 | nil => exact .nil
 | @cons p q ps qs h t ih =>
  obtain ⟨h1,h2⟩:=h
  rw [List.filter_cons,List.filter_cons]
  by_cases e:p.1 = k
  ·have a:¬ decide (p.1 ≠ k) = true:=by simp [e]
   have b:¬ decide (q.1 ≠ k) = true:=by simp [h1.symm.trans e]
   rw [if_neg a,if_neg b]; exact ih
  ·have e':¬ q.1 = k:=fun z => e (h1.trans z)
   have a:decide (p.1 ≠ k) = true:=by simp [e]
   have b:decide (q.1 ≠ k) = true:=by simp [e']
   rw [if_pos a,if_pos b]; exact .cons ⟨h1,h2⟩ ih
theorem KV.keys {kvs:List (κ × V)} {vs:List (κ × Value)} (r:KV kvs vs):kvs.map (·.1) = vs.map (·.1):=by
 unfold KV at r
 induction r with
 | nil => rfl
 | cons h t ih => rw [List.map_cons,List.map_cons,ih,h.1]
theorem KV.length {kvs:List (κ × V)} {vs:List (κ × Value)} (r:KV kvs vs):kvs.length = vs.length:=Paired.length r
theorem dropK_le (kvs:List (κ × V)) (k:κ):(dropK kvs k).length <= kvs.length:=List.length_filter_le _ _
end
theorem kV_is {P:Program} {w:World} {k:Key} {u:Value} (r:RelV (kV k) u):(mixKind P w).is k u = true:=by
 cases k with
 | inl i => obtain ⟨t,e⟩:=(show ∃ t,u = Value.int i t from r); subst e; exact mixKind_int P w i t
 | inr x => obtain ⟨t,e⟩:=(show ∃ t,u = Value.str x t from r); subst e; exact mixKind_str P w x t
theorem items_are {P:Program} {w:World}:∀ {ks:List Key} {us:List Value},Vals (ks.map kV) us -> ItemsAre (mixKind P w) ks us
 | [],_,r => by rw [List.map_nil] at r; cases r; exact .nil
 | k :: ks,_,r => by
  rw [List.map_cons] at r
  cases r with
  | cons h t => exact .cons (kV_is h) (items_are t)
abbrev KT (H:Hp):List (List Key × V) -> List (List Key × Addr × Value) -> Prop:=Paired fun p q => p.1 = q.1 /\ H q.2.1 = some (.tup (p.1.map kV)) /\ RelV p.2 q.2.2
theorem KT.val {H:Hp} {kvs:List (List Key × V)} {xs:List (List Key × Addr × Value)} (r:KT H kvs xs) (k:List Key):RelO (valV kvs k) ((atKey xs k).map (·.2)):=by
 induction r with
 | nil => exact True.intro
 | @cons p q ps qs h t ih =>
  obtain ⟨h1,_,h2⟩:=h
  by_cases e:p.1 = k
  ·have e':q.1 = k:=h1.symm.trans e
   have b:atKey (q :: qs) k = some q.2:=by simp [atKey,List.find?_cons,e']
   rw [valV_pos e,b]; exact h2
  ·have e':¬ q.1 = k:=fun z => e (h1.trans z)
   have b:atKey (q :: qs) k = atKey qs k:=by simp [atKey,List.find?_cons,e']
   rw [valV_neg e,b]; exact ih
theorem KT.repl {H:Hp} {kvs:List (List Key × V)} {xs:List (List Key × Addr × Value)} (r:KT H kvs xs) (k:List Key) {y:V} {u:Value} (ry:RelV y u) :
  KT H (kvs.map fun kv => if kv.1 = k then (kv.1,y) else kv) (xs.map (putAt k u)):=by
 induction r with
 | nil => exact .nil
 | @cons p q ps qs h t ih =>
  rw [List.map_cons,List.map_cons]
  refine .cons ?_ ih
  obtain ⟨h1,h2,h3⟩:=h
  unfold putAt
  by_cases e:p.1 = k
  ·rw [if_pos e,if_pos (h1.symm.trans e)]; exact ⟨h1,h2,ry⟩
  ·rw [if_neg e,if_neg (fun z => e (h1.trans z))]; exact ⟨h1,h2,h3⟩
theorem KT.put {H:Hp} {kvs:List (List Key × V)} {xs:List (List Key × Addr × Value)} (r:KT H kvs xs) (k:List Key) {b:Addr} {y:V} {u:Value} (hb:H b = some (.tup (k.map kV))) (ry:RelV y u) :
  KT H (putK kvs k y) (storedH xs k b u):=by
 have e:(kvs.any fun kv => decide (kv.1 = k)) = (atKey xs k).isSome:=by
  rw [valV_any,(r.val k).isSome_eq,Option.isSome_map]
 unfold putK storedH
 rw [e]
 by_cases q:(atKey xs k).isSome = true
 ·rw [if_pos q,if_pos q]; exact r.repl k ry
 ·rw [if_neg q,if_neg q]; exact Paired.snoc r ⟨rfl,hb,ry⟩
theorem KT.keeps {H H':Hp} {kvs:List (List Key × V)} {xs:List (List Key × Addr × Value)} (r:KT H kvs xs) (ht:∀ b ys,H b = some (.tup ys) -> H' b = some (.tup ys)):KT H' kvs xs :=
 Paired.mapP r fun _ _ z => ⟨z.1,ht _ _ z.2.1,z.2.2⟩
section
variable {P:Program} {w:World} {H:Hp} {h:Heap} {a:Addr}
theorem rd_of {u:HO} (ok:HOk P w H h) (e:Rd H a u):ObjOk P w H h a u:=e.ok ok
theorem dk_rd {kvs:List (Key × V)} (ok:HOk P w H h) (e:Rd H a (.dK kvs)):kvs.length <= sizeLine /\ (a == sysModules) = false /\ ∃ vs,KV kvs vs /\ h.DictOf (mixKind P w) a vs :=
 show ObjOk P w H h a (.dK kvs) from rd_of ok e
theorem dk_of {kvs:List (Key × V)} (ok:HOk P w H h) (e:H a = some (.dK kvs)):kvs.length <= sizeLine /\ (a == sysModules) = false /\ ∃ vs,KV kvs vs /\ h.DictOf (mixKind P w) a vs:=dk_rd ok (.inl e)
theorem key_of {ks:List Key} (ok:HOk P w H h) (e:H a = some (.tup (ks.map kV))):(tupleKind (mixKind P w)).is h ks a:=by
 obtain ⟨_,its,r,o,h1,h2,n,h3⟩:=(show ObjOk P w H h a (.tup (ks.map kV)) from ok a _ e)
 exact ⟨o,its.toArray,n,h1,h2,h3,by simpa using items_are r⟩
theorem dt_rd {kvs:List (List Key × V)} (ok:HOk P w H h) (e:Rd H a (.dT kvs)):kvs.length <= sizeLine /\ (a == sysModules) = false /\
  ∃ xs,KT H kvs xs /\ h.DictOfH (tupleKind (mixKind P w)) a xs:=by
 obtain ⟨z,y,xs,r,o,es,ep,h1,h2,h3,h4,h5⟩:=(show ObjOk P w H h a (.dT kvs) from rd_of ok e)
 refine ⟨z,y,xs,r,o,es,ep,h1,h2,h3,h4,fun x hx => ?_,h5⟩
 have all:∀ {l:List (List Key × V)} {m:List (List Key × Addr × Value)},KT H l m -> ∀ x ∈ m,(tupleKind (mixKind P w)).is h x.1 x.2.1:=by
  intro l m q
  induction q with
  | nil => intro x hx; exact nomatch hx
  | @cons p q ps qs hq t ih =>
   intro x hx
   rcases List.mem_cons.mp hx with e | hx
   ·subst e
    exact key_of ok (by rw [<- hq.1]; exact hq.2.1)
   ·exact ih x hx
 exact all r x hx
theorem dt_of {kvs:List (List Key × V)} (ok:HOk P w H h) (e:H a = some (.dT kvs)):kvs.length <= sizeLine /\ (a == sysModules) = false /\
  ∃ xs,KT H kvs xs /\ h.DictOfH (tupleKind (mixKind P w)) a xs:=dt_rd ok (.inl e)
end
def DGet (H:Hp) (a:Addr) (y:V) (r:Option V):Prop :=
 (∃ kvs k,Rd H a (.dK kvs) /\ y = kV k /\ r = valV kvs k) ∨ ∃ kvs k b,Rd H a (.dT kvs) /\ y = .ref b /\ H b = some (.tup (k.map kV)) /\ r = valV kvs k
def DPut (H:Hp) (a:Addr) (y v:V) (H':Hp):Prop :=
 (∃ kvs k,H a = some (.dK kvs) /\ y = kV k /\ kvs.length < sizeLine /\ H' = upd H a (.dK (putK kvs k v))) ∨
 ∃ kvs k b,H a = some (.dT kvs) /\ y = .ref b /\ H b = some (.tup (k.map kV)) /\ kvs.length < sizeLine /\ H' = upd H a (.dT (putK kvs k v))
theorem DGet.k {H:Hp} {a:Addr} {kvs:List (Key × V)} {k:Key} (e:H a = some (.dK kvs)):DGet H a (kV k) (valV kvs k):=.inl ⟨kvs,k,.inl e,rfl,rfl⟩
theorem DGet.t {H:Hp} {a b:Addr} {kvs:List (List Key × V)} {k:List Key} (e:H a = some (.dT kvs)) (eb:H b = some (.tup (k.map kV))):DGet H a (.ref b) (valV kvs k):=.inr ⟨kvs,k,b,.inl e,rfl,eb,rfl⟩
theorem DPut.k {H:Hp} {a:Addr} {kvs:List (Key × V)} {k:Key} {v:V} (e:H a = some (.dK kvs)) (hl:kvs.length < sizeLine):DPut H a (kV k) v (upd H a (.dK (putK kvs k v))):=.inl ⟨kvs,k,e,rfl,hl,rfl⟩
theorem DPut.t {H:Hp} {a b:Addr} {kvs:List (List Key × V)} {k:List Key} {v:V} (e:H a = some (.dT kvs)) (eb:H b = some (.tup (k.map kV))) (hl:kvs.length < sizeLine) :
  DPut H a (.ref b) v (upd H a (.dT (putK kvs k v))):=.inr ⟨kvs,k,b,e,rfl,eb,hl,rfl⟩
section
variable {X:Cx} {pins:List (Addr × Obj)} {σ:St} {H:Hp} {s:Shared} {a:Addr} {y v:V} {u r:Value} {o:Option V} {A:Around} {E:Value -> Shared -> Prop}
theorem Inv.big (I:Inv X pins σ H s):sysModules < s.heap.objs.size:=by
 have h:mainGlobals < s.heap.objs.size:=(I.mod.glob.keeps I.bk).lt
 exact Nat.lt_trans (by decide) h
theorem d_getItem {Q:Value -> Shared -> Prop} (hu:A.units + 1 < cLine) (I:Inv X pins σ H s) (g:DGet H a y (some v)) (ry:RelV y u) (h:∀ w' s',Inv X pins σ H s' -> RelV v w' -> Q w' s') :
  wpAny (model X.prog X.w) A (getItem (.ref a) u) Q E s:=by
 rcases g with ⟨kvs,k,e,ey,l⟩ | ⟨kvs,k,b,e,ey,eb,l⟩
 ·subst ey
  obtain ⟨z,hd,vs,rel,dd⟩:=dk_rd I.hok e
  obtain ⟨w',hw,rw'⟩:=RelO.some_of (v:=v) (o:=valueAt vs k) (by rw [l]; exact rel.val k)
  exact wpAny_getItem_of (kV_is ry) dd.mapOf hw (h w' _ (I.tok _) rw')
 ·subst ey
  cases (show u = Value.ref b from ry)
  obtain ⟨z,hd,xs,rel,dd⟩:=dt_rd I.hok e
  obtain ⟨w',hw,rw'⟩:=RelO.some_of (v:=v) (o:=(atKey xs k).map (·.2)) (by rw [l]; exact rel.val k)
  obtain ⟨p,hp,hp2⟩:=Option.map_eq_some_iff.mp hw
  refine wpAny_getItem_heap (tupleKind_room_in1 hu) (key_of I.hok eb) dd hp ?_
  rw [hp2]
  exact h w' _ (I.tok _) rw'
theorem d_in {Q:Value -> Shared -> Prop} (hu:A.units + 1 < cLine) (I:Inv X pins σ H s) (g:DGet H a y o) (ry:RelV y u) (h:∀ s',Inv X pins σ H s' -> Q (.bool o.isSome) s') :
  wpAny (model X.prog X.w) A (compareOp .In u (.ref a)) Q E s:=by
 rcases g with ⟨kvs,k,e,ey,l⟩ | ⟨kvs,k,b,e,ey,eb,l⟩
 ·subst ey
  obtain ⟨z,hd,vs,rel,dd⟩:=dk_rd I.hok e
  refine wpAny_in_of (kV_is ry) hd dd.mapOf ?_
  rw [<- (rel.val k).isSome_eq,<- l]
  exact h _ (I.tok _)
 ·subst ey
  cases (show u = Value.ref b from ry)
  obtain ⟨z,hd,xs,rel,dd⟩:=dt_rd I.hok e
  refine wpAny_in_heap (tupleKind_room_in1 hu) (key_of I.hok eb) hd dd ?_
  have q:=(rel.val k).isSome_eq
  rw [Option.isSome_map] at q
  rw [<- q,<- l]
  exact h _ (I.tok _)
theorem d_notIn {Q:Value -> Shared -> Prop} (hu:A.units + 1 < cLine) (I:Inv X pins σ H s) (g:DGet H a y o) (ry:RelV y u) (h:∀ s',Inv X pins σ H s' -> Q (.bool (!o.isSome)) s') :
  wpAny (model X.prog X.w) A (compareOp .NotIn u (.ref a)) Q E s:=by
 rcases g with ⟨kvs,k,e,ey,l⟩ | ⟨kvs,k,b,e,ey,eb,l⟩
 ·subst ey
  obtain ⟨z,hd,vs,rel,dd⟩:=dk_rd I.hok e
  refine wpAny_notIn_of (kV_is ry) hd dd.mapOf ?_
  rw [<- (rel.val k).isSome_eq,<- l]
  exact h _ (I.tok _)
 ·subst ey
  cases (show u = Value.ref b from ry)
  obtain ⟨z,hd,xs,rel,dd⟩:=dt_rd I.hok e
  refine wpAny_notIn_heap (tupleKind_room_in1 hu) (key_of I.hok eb) hd dd ?_
  have q:=(rel.val k).isSome_eq
  rw [Option.isSome_map] at q
  rw [<- q,<- l]
  exact h _ (I.tok _)
theorem d_write {h':Heap} {t':Nat} {ob:HO} (I:Inv X pins σ H s) (mu:Mut (H a)) (hs:Heap.SameBut a s.heap h') (he:∃ q,h'.get? a = some q) (new:ObjOk X.prog X.w (upd H a ob) h' a ob) :
  Inv X pins σ (upd H a ob) { s with heap:=h',toks:=t' } :=
 I.write (x:=a) (e:=a) mu (.inl rfl) (fun b q hb z => (hs.2 b hb).trans z) he new
theorem dk_new {P:Program} {w:World} {H':Hp} {h':Heap} {kvs:List (Key × V)} {vs:List (Key × Value)} (z:kvs.length <= sizeLine) (hd:(a == sysModules) = false) (rel:KV kvs vs) (dd:h'.DictOf (mixKind P w) a vs) :
  ObjOk P w H' h' a (.dK kvs):=⟨z,hd,vs,rel,dd⟩
theorem d_setItem {H':Hp} {Q:Unit -> Shared -> Prop} (hu:A.units + 1 < cLine) (I:Inv X pins σ H s) (g:DPut H a y v H') (ry:RelV y u) (rv:RelV v r) (h:∀ s',Inv X pins σ H' s' -> Q () s') :
  wpAny (model X.prog X.w) A (setItem (.ref a) u r) Q E s:=by
 rcases g with ⟨kvs,k,e,ey,l,eH⟩ | ⟨kvs,k,b,e,ey,eb,l,eH⟩
 ·subst ey eH
  obtain ⟨z,hd,vs,rel,dd⟩:=dk_of I.hok e
  have hz:vs.length <= sizeLine:=by rw [<- rel.length]; exact z
  have hl:(putK kvs k v).length <= sizeLine:=by have:=length_putK kvs k v; omega
  refine wpAny_setItem_pairs (hsz:=hz) (kV_is ry) dd fun h' dd' hs => h _ ?_
  have he:∃ q,h'.get? a = some q:=let ⟨q,_,_,hq,_⟩:=dd'; ⟨q,hq⟩
  exact d_write I (by rw [e]; exact True.intro) hs he (dk_new hl hd (rel.put k rv) dd')
 ·subst ey eH
  cases (show u = Value.ref b from ry)
  obtain ⟨z,hd,xs,rel,dd⟩:=dt_of I.hok e
  have hz:xs.length <= sizeLine:=by rw [<- Paired.length rel]; exact z
  have hl:(putK kvs k v).length <= sizeLine:=by have:=length_putK kvs k v; omega
  refine wpAny_setItem_heap (hsz:=hz) (tupleKind_room_in1 hu) (key_of I.hok eb) dd fun h' dd' hs => h _ ?_
  obtain ⟨q,es,ep,hq,h2,h3,h4,_,h5⟩:=dd'
  refine d_write I (by rw [e]; exact True.intro) hs ⟨q,hq⟩ ⟨hl,hd,_,(rel.put k eb rv).keeps fun c ys ec => ?_,q,es,ep,hq,h2,h3,h4,h5⟩
  rw [upd_ne (ne_of ec e (fun z => nomatch z))]
  exact ec
end
section
variable {X:Cx} {pins:List (Addr × Obj)} {σ:St} {H:Hp} {s:Shared} {a:Addr} {kvs:List (Key × V)} {k:Key} {u:Value} {A:Around} {E:Value -> Shared -> Prop}
theorem d_delItem {Q:Unit -> Shared -> Prop} (I:Inv X pins σ H s) (e:H a = some (.dK kvs)) (ry:RelV (kV k) u) (l:(valV kvs k).isSome = true) (h:∀ s',Inv X pins σ (upd H a (.dK (dropK kvs k))) s' -> Q () s') :
  wpAny (model X.prog X.w) A (delItem (.ref a) u) Q E s:=by
 obtain ⟨z,hd,vs,rel,dd⟩:=dk_of I.hok e
 refine wpAny_delItem_slot dd.typeIs (by decide) PySem.F.slot_dict_delitem
  (call_meetsIn PySem.F.slot_dict_delitem dd.typeIs PySem.F.entry_dict_delitem (PySem.F.args_dict_delitem_2 _ _) (meets_dict_delitem_pairs (mixKind X.prog X.w) a (kV_is ry)) ⟨vs,dd,by rw [<- rel.length]; exact z,by rw [<- (rel.val k).isSome_eq]; exact l,fun h' dd' hs => h _ ?_⟩)
 have he:∃ q,h'.get? a = some q:=let ⟨q,_,_,hq,_⟩:=dd'; ⟨q,hq⟩
 exact d_write I (by rw [e]; exact True.intro) hs he (dk_new (Nat.le_trans (dropK_le kvs k) z) hd (rel.drop k) dd')
theorem d_pop {v:V} {more:List Value} {Q:Value -> Shared -> Prop} (I:Inv X pins σ H s) (e:H a = some (.dK kvs)) (ry:RelV (kV k) u) (l:valV kvs k = some v) (hm:more = [] ∨ ∃ x,more = [x])
  (h:∀ w' s',Inv X pins σ (upd H a (.dK (dropK kvs k))) s' -> RelV v w' -> Q w' s'):wpAny (model X.prog X.w) A (call (.builtin "dict.pop") (.ref a :: u :: more)) Q E s:=by
 obtain ⟨z,hd,vs,rel,dd⟩:=dk_of I.hok e
 obtain ⟨w',hw,rw'⟩:=RelO.some_of (v:=v) (o:=valueAt vs k) (by rw [<- l]; exact rel.val k)
 have hp:(keyPart u).isSome = true:=by
  cases k with
  | inl i => obtain ⟨t,q⟩:=(show ∃ t,u = Value.int i t from ry); subst q; rfl
  | inr x => obtain ⟨t,q⟩:=(show ∃ t,u = Value.str x t from ry); subst q; rfl
 have ha:argsOk "dict.pop" ⟨.ref a :: u :: more,[]⟩:=by
  rcases hm with q | ⟨x,q⟩
  ·subst q; exact PySem.F.args_dict_pop_2 _ _
  ·subst q; exact PySem.F.args_dict_pop_3 _ _ _
 refine call_meetsIn PySem.F.slot_dict_pop dd.typeIs PySem.F.entry_dict_pop ha (meets_dict_pop_there (mixKind X.prog X.w) a (kV_is ry) more hm hp)
  ⟨vs,w',dd,by rw [<- rel.length]; exact z,hw,fun h' dd' hs => h w' _ ?_ rw'⟩
 have he:∃ q,h'.get? a = some q:=let ⟨q,_,_,hq,_⟩:=dd'; ⟨q,hq⟩
 exact d_write I (by rw [e]; exact True.intro) hs he (dk_new (Nat.le_trans (dropK_le kvs k) z) hd (rel.drop k) dd')
theorem d_popD {r:Value} {Q:Value -> Shared -> Prop} (I:Inv X pins σ H s) (e:H a = some (.dK kvs)) (ry:RelV (kV k) u) (l:valV kvs k = none) (h:∀ s',Inv X pins σ H s' -> Q r s') :
  wpAny (model X.prog X.w) A (call (.builtin "dict.pop") [.ref a,u,r]) Q E s:=by
 obtain ⟨z,hd,vs,rel,dd⟩:=dk_of I.hok e
 have hn:valueAt vs k = none:=RelO.none_of (by rw [<- l]; exact rel.val k)
 have hp:(keyPart u).isSome = true:=by
  cases k with
  | inl i => obtain ⟨t,q⟩:=(show ∃ t,u = Value.int i t from ry); subst q; rfl
  | inr x => obtain ⟨t,q⟩:=(show ∃ t,u = Value.str x t from ry); subst q; rfl
 exact call_meetsIn PySem.F.slot_dict_pop dd.typeIs PySem.F.entry_dict_pop (PySem.F.args_dict_pop_3 _ _ _) (meets_dict_pop_default (mixKind X.prog X.w) a (kV_is ry) hd hp r) ⟨vs,dd,hn,h _ (I.tok _)⟩
end
def NoSl (i:Expr):Prop:=∀ ov iv,subscripted i false ov iv = operate [ov,iv] (getItem ov iv)
theorem subD_of {prog:Program} {w:World} {A:Around} {E:Value -> Shared -> Prop} {s:Shared} {env:Env} {value slice:Expr} {pos:Pos} {T id:String} {Q:Value -> Shared -> Prop}
  (hl:typeLookup (.type T) "__getitem__" = pure (some (.builtin id))) (hs:NoSl slice)
  (h:wpAny (model prog w) A (eval value env) (fun o s₁ => wpAny (model prog w) A (eval slice env) (fun i s₂ => s₂.TypeIs o T /\ wpAny (model prog w) A (getItem o i) Q E s₂) E s₁) E s) :
  wpAny (model prog w) A (eval (.Subscript value slice pos) env) Q E s:=by
 refine Subscript_ (wpAny_mono h (fun o s₁ h₁ => wpAny_mono h₁ (fun i s₂ h₂ => ?_) fun _ _ x => x) fun _ _ x => x)
 obtain ⟨hT,h₂⟩:=h₂
 unfold subscriptTail
 refine wpAny_bind ?_
 rw [getitemInPython_of_ne hT.not_modules]
 refine wpAny_bind (wpAny_specialOf hT hl ?_)
 have fin:wpAny (model prog w) A (subscripted slice false o i) (fun r s₃ => wpAny (model prog w) A (letTemporaryGo value o r >>= fun _ => pure r) Q E s₃) E s₂:=by
  rw [hs o i]
  exact wpAny_operating (wpAny_mono h₂ (fun r s₃ h₃ => wpAny_bind (wpAny_letTemporaryGo (wpAny_pure h₃))) fun _ _ x => x)
 first
  | exact wpAny_pure (wpAny_bind fin)
  | exact wpAny_bind (wpAny_pure (wpAny_bind fin))
  | exact wpAny_bind fin
theorem dict_typeIs {X:Cx} {pins:List (Addr × Obj)} {σ:St} {H:Hp} {s:Shared} {a:Addr} {y:V} {o:Option V} (I:Inv X pins σ H s) (g:DGet H a y o):s.TypeIs (.ref a) "dict":=by
 rcases g with ⟨kvs,k,e,_,_⟩ | ⟨kvs,k,b,e,_,_,_⟩
 ·obtain ⟨_,_,vs,_,dd⟩:=dk_rd I.hok e
  exact dd.typeIs
 ·obtain ⟨_,_,xs,_,dd⟩:=dt_rd I.hok e
  exact dd.typeIs
def tDGet (td ty:TE):TE:=fun σ H Q => td σ H fun x H1 => ty σ H1 fun y H2 => ∃ a v,x = .ref a /\ DGet H2 a y (some v) /\ Q v H2
def tDIn (ty td:TE):TE:=fun σ H Q => ty σ H fun y H1 => td σ H1 fun x H2 => ∃ a o,x = .ref a /\ DGet H2 a y o /\ Q (.bl o.isSome) H2
def tDNotIn (ty td:TE):TE:=fun σ H Q => ty σ H fun y H1 => td σ H1 fun x H2 => ∃ a o,x = .ref a /\ DGet H2 a y o /\ Q (.bl (!o.isSome)) H2
def sDPut (td ty tv:TE):TS:=fun D σ H => tv σ H fun v H1 => td σ H1 fun x H2 => ty σ H2 fun y H3 => ∃ a H4,x = .ref a /\ DPut H3 a y v H4 /\ D.nx σ H4
def sDDel (td ty:TE):TS:=fun D σ H => td σ H fun x H1 => ty σ H1 fun y H2 => ∃ a kvs k,x = .ref a /\ H2 a = some (.dK kvs) /\ y = kV k /\ (valV kvs k).isSome = true /\ D.nx σ (upd H2 a (.dK (dropK kvs k)))
section
variable {X:Cx} {o i e value:Expr} {pos pos' tpos:Pos} {td ty tv:TE}
theorem pe_dget (hu:X.A.units + 1 < cLine) (ho:PE X o td) (hi:PE X i ty) (hs:NoSl i):PE X (.Subscript o i pos) (tDGet td ty):=by
 intro pins s σ H Q I h
 refine subD_of PySem.F.slot_dict_getitem.lookup hs (thn (ho pins s σ H _ I h) fun u s1 ⟨x,H1,I1,rx,q1⟩ => thn (hi pins s1 σ H1 _ I1 q1) fun iv s2 ⟨y,H2,I2,ry,a,v,ex,g,q2⟩ => ?_)
 subst ex
 obtain rfl:u = Value.ref a:=rx
 exact ⟨dict_typeIs I2 g,d_getItem hu I2 g ry fun w' s3 I3 rw' => ⟨v,H2,I3,rw',q2⟩⟩
theorem pc_din (hu:X.A.units + 1 < cLine) (hi:PE X i ty) (ho:PE X o td):PC X .In i o (tDIn ty td):=by
 intro pins s σ H Q I h
 refine thn (hi pins s σ H _ I h) fun iv s1 ⟨y,H1,I1,ry,q1⟩ => thn (ho pins s1 σ H1 _ I1 q1) fun u s2 ⟨x,H2,I2,rx,a,ov,ex,g,q2⟩ => ?_
 subst ex
 obtain rfl:u = Value.ref a:=rx
 exact d_in hu I2 g ry fun s3 I3 => ⟨.bl ov.isSome,H2,I3,rfl,q2⟩
theorem pc_dnotin (hu:X.A.units + 1 < cLine) (hi:PE X i ty) (ho:PE X o td):PC X .NotIn i o (tDNotIn ty td):=by
 intro pins s σ H Q I h
 refine thn (hi pins s σ H _ I h) fun iv s1 ⟨y,H1,I1,ry,q1⟩ => thn (ho pins s1 σ H1 _ I1 q1) fun u s2 ⟨x,H2,I2,rx,a,ov,ex,g,q2⟩ => ?_
 subst ex
 obtain rfl:u = Value.ref a:=rx
 exact d_notIn hu I2 g ry fun s3 I3 => ⟨.bl (!ov.isSome),H2,I3,rfl,q2⟩
theorem ps_dput (hu:X.A.units + 1 < cLine) (ho:PE X o td) (hi:PE X i ty) (hv:PE X value tv) (hs:swapsWith value (some (.Subscript o i pos')) pos.line X.env = pure false) :
  PS X (.Assign [.Subscript o i pos'] value pos) (sDPut td ty tv):=by
 intro pins s σ H D I h
 refine wpAny_Assign_Subscript (thn (hv pins s σ H _ I h) fun r s1 ⟨v,H1,I1,rv,q1⟩ => thn (ho pins s1 σ H1 _ I1 q1) fun u s2 ⟨x,H2,I2,rx,q2⟩ => thn (hi pins s2 σ H2 _ I2 q2) fun iv s3 ⟨y,H3,I3,ry,a,H4,ex,g,q3⟩ => ?_) hs
 subst ex
 obtain rfl:u = Value.ref a:=rx
 exact d_setItem hu I3 g ry rv fun s4 I4 => ⟨σ,H4,I4,q3⟩
theorem ps_ddel (ho:PE X o td) (hi:PE X i ty):PS X (.Delete [.Subscript o i tpos] pos) (sDDel td ty):=by
 intro pins s σ H D I h
 refine wpAny_Delete (wpAny_deleteEach_cons (wpAny_delete_Subscript (thn (ho pins s σ H _ I h) fun u s1 ⟨x,H1,I1,rx,q1⟩ => thn (hi pins s1 σ H1 _ I1 q1) fun iv s2 ⟨y,H2,I2,ry,a,kvs,k,ex,e,ey,l,q2⟩ => ?_)))
 subst ex ey
 obtain rfl:u = Value.ref a:=rx
 exact d_delItem I2 e ry l fun s3 I3 => wpAny_deleteEach_nil ⟨σ,_,I3,q2⟩
end
theorem dk_empty {P:Program} {w:World} {H:Hp} (h:Heap) (hb:sysModules < h.objs.size):ObjOk P w H (h.push { cls:=.type "dict",data:=.dict #[] }) h.objs.size (.dK []) :=
 ⟨Nat.zero_le _,beq_eq_false_iff_ne.mpr (Ne.symm (Nat.ne_of_lt hb)),[],.nil,Heap.DictOf.new h⟩
theorem dt_empty {P:Program} {w:World} {H:Hp} (h:Heap) (hb:sysModules < h.objs.size):ObjOk P w H (h.push { cls:=.type "dict",data:=.dict #[] }) h.objs.size (.dT []) :=
 ⟨Nat.zero_le _,beq_eq_false_iff_ne.mpr (Ne.symm (Nat.ne_of_lt hb)),[],.nil,_,#[],0,Heap.get?_push_size _ rfl,⟨rfl,rfl,rfl⟩,rfl,rfl,List.nodup_nil⟩
def tDNewK:TE:=fun _ H Q => ∀ p,H p = none -> Q (.ref p) (upd H p (.dK []))
def tDNewT:TE:=fun _ H Q => ∀ p,H p = none -> Q (.ref p) (upd H p (.dT []))
section
variable {X:Cx} {pos:Pos}
theorem pe_dnewK:PE X (.Dict [] [] pos) tDNewK:=fun pins s σ H Q I h =>
 wpAny_Dict_empty ⟨.ref s.heap.objs.size,_,I.laid (a:=s.heap.objs.size) (o:=.dK []) (t':=s.toks) (fun _ _ q => Heap.get?_push_of_some _ q) (Nat.le_refl _) (dk_empty s.heap I.big),rfl,h _ (I.hok.fresh (Nat.le_refl _))⟩
theorem pe_dnewT:PE X (.Dict [] [] pos) tDNewT:=fun pins s σ H Q I h =>
 wpAny_Dict_empty ⟨.ref s.heap.objs.size,_,I.laid (a:=s.heap.objs.size) (o:=.dT []) (t':=s.toks) (fun _ _ q => Heap.get?_push_of_some _ q) (Nat.le_refl _) (dt_empty s.heap I.big),rfl,h _ (I.hok.fresh (Nat.le_refl _))⟩
end
def mergeK (kvs more:List (Key × V)):List (Key × V):=more.foldl (fun acc kv => putK acc kv.1 kv.2) kvs
theorem KV.merge:∀ {more:List (Key × V)} {rs:List (Key × Value)} {kvs:List (Key × V)} {vs:List (Key × Value)},KV more rs -> KV kvs vs -> KV (mergeK kvs more) (merged vs rs):=by
 intro more rs kvs vs r
 unfold KV at r
 induction r generalizing kvs vs with
 | nil => intro q; exact q
 | @cons p q ps qs h t ih =>
  intro r0
  have e:KV (putK kvs p.1 p.2) (stored vs q.1 q.2):=by
   have:=r0.put p.1 h.2
   rw [<- h.1]; exact this
  exact ih e
structure M1 (X:Cx) (o:Expr) (m:Str) (apos:Pos) (e:Expr) (cpos:Pos):Prop where
 base:attributeBase o m X.env (eval o X.env) = eval o X.env
 few:((backTo cpos (starEach [e] X.env)).all (fun x => !x.1) && (backToKw cpos (keywordEach [] X.env)).all (fun x => x.1.isSome)
  && decide (([e]:List Expr).length + ([]:List Keyword).length + (if ([]:List Keyword).isEmpty then 0 else 1) < 30)) = true
 line:(apos.endLine == cpos.line) = true
 trees:backTo cpos (starEach [e] X.env) = [(false,eval e X.env)]
structure M2 (X:Cx) (o:Expr) (m:Str) (apos:Pos) (e f:Expr) (cpos:Pos):Prop where
 base:attributeBase o m X.env (eval o X.env) = eval o X.env
 few:((backTo cpos (starEach [e,f] X.env)).all (fun x => !x.1) && (backToKw cpos (keywordEach [] X.env)).all (fun x => x.1.isSome)
  && decide (([e,f]:List Expr).length + ([]:List Keyword).length + (if ([]:List Keyword).isEmpty then 0 else 1) < 30)) = true
 line:(apos.endLine == cpos.line) = true
 trees:backTo cpos (starEach [e,f] X.env) = [(false,eval e X.env),(false,eval f X.env)]
def IsD (H:Hp) (a:Addr):Prop:=(∃ kvs,Rd H a (.dK kvs)) ∨ ∃ kvs,Rd H a (.dT kvs)
theorem isD_at {X:Cx} {pins:List (Addr × Obj)} {σ:St} {H:Hp} {s:Shared} {a:Addr} (I:Inv X pins σ H s) (d:IsD H a) :
  s.TypeIs (.ref a) "dict" /\ (∀ b,Value.ref a = .ref b -> ∃ ob,s.heap.get? b = some ob /\ ob.dict = none) /\ (a == sysModules) = false:=by
 rcases d with ⟨kvs,e⟩ | ⟨kvs,e⟩
 ·obtain ⟨_,hd,vs,_,dd⟩:=dk_rd I.hok e
  refine ⟨dd.typeIs,fun b q => ?_,hd⟩
  cases q
  obtain ⟨ob,_,_,h1,h2,_⟩:=dd
  exact ⟨ob,h1,h2.2.1⟩
 ·obtain ⟨_,hd,xs,_,dd⟩:=dt_rd I.hok e
  refine ⟨dd.typeIs,fun b q => ?_,hd⟩
  cases q
  obtain ⟨ob,_,_,h1,h2,_⟩:=dd
  exact ⟨ob,h1,h2.2.1⟩
section
variable {X:Cx} {pins:List (Addr × Obj)} {σ:St} {H:Hp} {s:Shared} {a:Addr} {y d:V} {u r:Value} {o:Option V} {A:Around} {E:Value -> Shared -> Prop}
theorem d_get1 {Q:Value -> Shared -> Prop} (hu:A.units + 1 < cLine) (I:Inv X pins σ H s) (g:DGet H a y o) (ry:RelV y u) (h:∀ w' s',Inv X pins σ H s' -> RelV (o.getD .non) w' -> Q w' s') :
  wpAny (model X.prog X.w) A (call (.builtin "dict.get") [.ref a,u]) Q E s:=by
 rcases g with ⟨kvs,k,e,ey,l⟩ | ⟨kvs,k,b,e,ey,eb,l⟩
 ·subst ey
  obtain ⟨z,hd,vs,rel,dd⟩:=dk_rd I.hok e
  refine call_meetsIn PySem.F.slot_dict_get dd.typeIs PySem.F.entry_dict_get (PySem.F.args_dict_get_2 _ _) (meets_dict_get (mixKind X.prog X.w) a (kV_is ry) hd) ⟨_,dd.mapOf,h _ _ (I.tok _) ?_⟩
  rw [l]
  exact (rel.val k).getD rfl
 ·subst ey
  cases (show u = Value.ref b from ry)
  obtain ⟨z,hd,xs,rel,dd⟩:=dt_rd I.hok e
  refine call_meetsIn PySem.F.slot_dict_get dd.typeIs PySem.F.entry_dict_get (PySem.F.args_dict_get_2 _ _) (meetsH_dict_get (tupleKind (mixKind X.prog X.w)) a b hd) ⟨tupleKind_room_in1 hu,k,xs,key_of I.hok eb,dd,h _ _ (I.tok _) ?_⟩
  rw [l]
  exact (rel.val k).getD rfl
end
def tDGet1 (td ty:TE):TE:=fun σ H Q => td σ H fun x H1 => ∃ a,x = .ref a /\ IsD H1 a /\ ty σ H1 fun y H2 => ∃ o,DGet H2 a y o /\ Q (o.getD .non) H2
def tDPop2 (td ty tx:TE):TE:=fun σ H Q => td σ H fun x H1 => ∃ a,x = .ref a /\ IsD H1 a /\ ty σ H1 fun y H2 => tx σ H2 fun z H3 => ∃ kvs k,H3 a = some (.dK kvs) /\ y = kV k /\
 (∀ v,valV kvs k = some v -> Q v (upd H3 a (.dK (dropK kvs k)))) /\ (valV kvs k = none -> Q z H3)
section
variable {X:Cx} {o e f:Expr} {apos cpos:Pos} {td ty tx:TE}
theorem pe_dget1 (hu:X.A.units + 1 < cLine) (ho:PE X o td) (he:PE X e ty) (m:M1 X o "get" apos e cpos):PE X (.Call (.Attribute o "get" apos) [e] [] cpos) (tDGet1 td ty):=by
 intro pins s σ H Q I h
 refine wpAny_Call_method m.base m.few m.line PySem.F.plainAttrs_dict PySem.F.slot_dict_get PySem.F.type_dict_get (thn (ho pins s σ H _ I h) fun u s1 ⟨x,H1,I1,rx,a,ex,d,q1⟩ => ?_)
 subst ex
 obtain rfl:u = Value.ref a:=rx
 obtain ⟨t1,t2,_⟩:=isD_at I1 d
 refine ⟨t1,t2,?_⟩
 rw [m.trees]
 refine Calls.callWith_builtin rfl (Calls.evalArgs_plain (Calls.spliced_cons (thn (he pins s1 σ H1 _ I1 q1) fun iv s2 ⟨y,H2,I2,ry,ov,g,q2⟩ => Calls.spliced_nil ?_)))
 exact d_get1 hu I2 g ry fun w' s3 I3 rw' => ⟨_,H2,I3,rw',q2⟩
theorem pe_dpop2 (ho:PE X o td) (he:PE X e ty) (hf:PE X f tx) (m:M2 X o "pop" apos e f cpos):PE X (.Call (.Attribute o "pop" apos) [e,f] [] cpos) (tDPop2 td ty tx):=by
 intro pins s σ H Q I h
 refine wpAny_Call_method m.base m.few m.line PySem.F.plainAttrs_dict PySem.F.slot_dict_pop PySem.F.type_dict_pop (thn (ho pins s σ H _ I h) fun u s1 ⟨x,H1,I1,rx,a,ex,d,q1⟩ => ?_)
 subst ex
 obtain rfl:u = Value.ref a:=rx
 obtain ⟨t1,t2,_⟩:=isD_at I1 d
 refine ⟨t1,t2,?_⟩
 rw [m.trees]
 refine Calls.callWith_builtin rfl (Calls.evalArgs_plain (Calls.spliced_cons (thn (he pins s1 σ H1 _ I1 q1) fun iv s2 ⟨y,H2,I2,ry,q2⟩ =>
  Calls.spliced_cons (thn (hf pins s2 σ H2 _ I2 q2) fun fv s3 ⟨z,H3,I3,rz,kvs,k,ea,ey,q3,q4⟩ => Calls.spliced_nil ?_))))
 subst ey
 cases l:valV kvs k with
 | some v => exact d_pop I3 ea ry l (.inr ⟨fv,rfl⟩) fun w' s4 I4 rw' => ⟨v,_,I4,rw',q3 v l⟩
 | none => exact d_popD I3 ea ry l fun s4 I4 => ⟨z,H3,I4,rz,q4 l⟩
end
section
variable {X:Cx} {pins:List (Addr × Obj)} {σ:St} {H:Hp} {s:Shared} {a:Addr} {kvs:List (Key × V)} {A:Around} {E:Value -> Shared -> Prop}
end
section
variable {X:Cx} {pins:List (Addr × Obj)} {σ:St} {H:Hp} {s:Shared} {a:Addr} {y:V} {u:Value} {A:Around} {E:Value -> Shared -> Prop}
end
end L2
namespace HT
open PySem PyProof.Rows
def lexLt:List Int -> List Int -> Bool
 | [],[] => false
 | [],_ :: _ => true
 | _ :: _,[] => false
 | x :: xs,y :: ys => if x = y then lexLt xs ys else decide (x < y)
theorem lexLt_cons (x y:Int) (xs ys:List Int):lexLt (x :: xs) (y :: ys) = if x = y then lexLt xs ys else decide (x < y):=rfl
theorem lexLt_nil_nil:lexLt [] [] = false:=rfl
theorem lexLt_nil_cons (y:Int) (ys:List Int):lexLt [] (y :: ys) = true:=rfl
theorem lexLt_cons_nil (x:Int) (xs:List Int):lexLt (x :: xs) [] = false:=rfl
theorem eqAt_int (A:Around) (s:Shared) (a:Int) (t:Tok) (c:Int) (u:Tok):∃ e,SeqAt.EqAt A s (.int a t) (.int c u) e /\ (e = true ↔ a = c) :=
 ⟨(a == c),SeqAt.EqAt.int_int a t c u,by simp⟩
theorem rcLt_int (A:Around) (s:Shared) (a:Int) (t:Tok) (c:Int) (u:Tok) (prog:Program) (w:World) (E:Value -> Shared -> Prop) (Q:Value -> Shared -> Prop) (h:Q (.bool (decide (a < c))) s) :
  wpAny (model prog w) A (richCompare .Lt (.int a t) (.int c u)) Q E s :=
 (PyProof.Rows.lt_int h:wpAny (model prog w) A (compareOp .Lt (.int a t) (.int c u)) Q E s)
section
open PySem.SeqAt
open PySem.AutoSeq1 (wpAny_loadPart')
open PySem.MeetsSeq PySem.MeetsSeq2 PySem.MeetsSeq3
theorem tuple_lt_ints (l b:Addr) (items items2:Array Value) (n n2:Nat) (dd dd2:Option Addr) (sl sl2:Array (Option Value)) (ns ms:List Int) (hi:IntsAre items.toList ns) (hj:IntsAre items2.toList ms) :
  Meets (Builtin.«tuple.__lt__» ⟨[.ref l,.ref b],[]⟩)
   (fun _ R s => s.heap.get? l = some { cls:=.type "tuple",dict:=dd,data:=.seq items n,slots:=sl } /\ s.heap.get? b = some { cls:=.type "tuple",dict:=dd2,data:=.seq items2 n2,slots:=sl2 } /\
    R (.ok (.ret (.bool (lexLt ns ms)))) s) :=
 .of_wp fun prog w A R s h => by
  obtain ⟨hp,g,d,tk,os⟩:=s; obtain ⟨hl,hb,h⟩:=h
  have f2:=AutoSeq1.sub_tuple_tuple
  have z1:items.size = ns.length:=by rw [<- hi.length]; simp
  have z2:items2.size = ms.length:=by rw [<- hj.length]; simp
  wp_walk using wpAny_loadPart' hl,wpAny_loadPart' hb,wpAny_forIn_list _ (fun rest b s' => b.1 = none /\ s' = ⟨hp,g,d,tk,os⟩ /\ ∃ (vs ws:List Value) (ns' ms':List Int),rest = vs.zip ws /\
   IntsAre vs ns' /\ IntsAre ws ms' /\ ns'.length + items2.size = ms'.length + items.size /\ R (.ok (.ret (.bool (lexLt ns' ms')))) ⟨hp,g,d,tk,os⟩) _
  case turn =>
   rintro ⟨y,x⟩ rest b s' ⟨hb',rfl,vs,ws,ns',ms',hz,hvi,hwi,hlen,hR⟩
   cases hvi with
   | nil => rw [List.zip_nil_left] at hz; cases hz
   | cons a t hvi' =>
    cases hwi with
    | nil => rw [List.zip_nil_right] at hz; cases hz
    | cons c u hwi' =>
     rw [List.zip_cons_cons] at hz
     injection hz with hyx hrest
     injection hyx with hy hx
     subst hy hx
     rw [lexLt_cons] at hR
     simp only [List.length_cons] at hlen
     obtain ⟨e,he,hiff⟩:=eqAt_int A.in1 ⟨hp,g,d,tk,os⟩ a t c u
     refine wpAny_bind (he prog w _ _ ?_)
     cases e with
     | true =>
      rw [if_pos (hiff.mp rfl)] at hR
      wp_walk
      exact ⟨rfl,rfl,_,_,_,_,hrest,hvi',hwi',by omega,hR⟩
     | false =>
      rw [if_neg (fun q => absurd (hiff.mpr q) Bool.false_ne_true)] at hR
      have hri:=rcLt_int A.in1 ⟨hp,g,d,tk,os⟩ a t c u prog w
      wp_walk using hri
      exact ⟨_,rfl,by simpa using hR⟩
  case fin =>
   rintro ⟨b1,b2⟩ s' ⟨hb',rfl,vs,ws,ns',ms',hz,hvi,hwi,hlen,hR⟩
   simp only at hb'
   subst hb'
   have hv:lexLt ns' ms' = decide (items.size < items2.size):=by
    cases hvi with
    | nil =>
     cases hwi with
     | nil =>
      simp only [List.length_nil] at hlen
      rw [lexLt_nil_nil]
      exact (decide_eq_false (by omega)).symm
     | cons c u hw =>
      simp only [List.length_nil,List.length_cons] at hlen
      rw [lexLt_nil_cons]
      exact (decide_eq_true (by omega)).symm
    | cons a t hv =>
     cases hwi with
     | nil =>
      simp only [List.length_nil,List.length_cons] at hlen
      rw [lexLt_cons_nil]
      exact (decide_eq_false (by omega)).symm
     | cons c u hw =>
      rw [List.zip_cons_cons] at hz
      cases hz
   rw [hv] at hR
   wp_walk
   exact ⟨_,rfl,by simpa [Builtin.Tuple.tupleCompareSizes] using hR⟩
  case h =>
   exact ⟨rfl,rfl,items.toList,items2.toList,ns,ms,rfl,hi,hj,by omega,h⟩
end
section
variable {prog:Program} {w:World} {A:Around} {E:Value -> Shared -> Prop} {s:Shared}
theorem lt_tupInts {l b:Addr} {items items2:Array Value} {ns ms:List Int} {Q:Value -> Shared -> Prop} (hl:IsTup s.heap l items) (hb:IsTup s.heap b items2) (hi:IntsAre items.toList ns) (hj:IntsAre items2.toList ms)
  (hu:A.units < cLine) (h:Q (.bool (lexLt ns ms)) s):wpAny (model prog w) A (compareOp .Lt (.ref l) (.ref b)) Q E s:=by
 obtain ⟨⟨cls,dd,data,sl⟩,ho,hc,n,hd⟩:=id hl
 obtain ⟨⟨cls2,dd2,data2,sl2⟩,ho2,hc2,n2,hd2⟩:=id hb
 simp only at hc hd hc2 hd2
 subst hc hd hc2 hd2
 exact richCompare_meets_room (op:=.Lt) ⟨_,ho,rfl⟩ ⟨_,ho2,rfl⟩ PySem.F.slot_tuple_lt PySem.F.entry_tuple_lt (PySem.F.args_tuple_lt_2 _ _) (tuple_lt_ints l b items items2 n n2 dd dd2 sl sl2 ns ms hi hj)
  ⟨ho,ho2,show Value.bool (lexLt ns ms) ≠ Value.notImplemented /\ Q (.bool (lexLt ns ms)) s from ⟨(fun x => nomatch x),h⟩⟩ hu
def sIx (n d:Nat):Option Int -> Nat
 | none => d
 | some v => if v < 0 then (v + (n:Int)).toNat else min v.toNat n
theorem sIx_le (n d:Nat) (hd:d <= n) (o:Option Int):sIx n d o <= n:=by
 cases o with
 | none => exact hd
 | some v =>
  show (if v < 0 then (v + (n:Int)).toNat else min v.toNat n) <= n
  by_cases hv:v < 0
  ·rw [if_pos hv]; omega
  ·rw [if_neg hv]; exact Nat.min_le_right _ _
theorem clip_eq (v:Int) (n d:Nat):(if v < 0 then max (v + (n:Int)) 0 else min v (n:Int)) = ((sIx n d (some v):Nat):Int):=by
 show (if v < 0 then max (v + (n:Int)) 0 else min v (n:Int)) = (((if v < 0 then (v + (n:Int)).toNat else min v.toNat n):Nat):Int)
 by_cases hv:v < 0
 ·simp only [if_pos hv]; omega
 ·simp only [if_neg hv]; omega
theorem adjust_gen (lo hi:Option Int) (n:Nat):Builtin.Slice.sliceAdjust lo hi 1 (n:Int) = (((sIx n 0 lo:Nat):Int),((sIx n n hi:Nat):Int)):=by
 have h1:¬ ((1:Int) < 0):=by omega
 unfold Builtin.Slice.sliceAdjust
 simp only [h1,if_false]
 refine Prod.ext ?_ ?_
 ·cases lo with
  | none => rfl
  | some v => exact clip_eq v n 0
 ·cases hi with
  | none => rfl
  | some v => exact clip_eq v n n
theorem places_gen (i j:Nat):Builtin.Slice.slicePlaces (i:Int) (j:Int) 1 = j - i:=by
 unfold Builtin.Slice.slicePlaces
 have h1:(1:Int) > 0:=by omega
 simp only [h1,if_true,Int.ediv_one]
 split <;> omega
theorem slicePart_ {v:Value} {o:Option Int} {Q:Option Int -> Shared -> Prop} (p:IsPart v o) (h:Q o s):wpAny (model prog w) A (Builtin.Slice.slicePartIndex v) Q E s:=by
 cases p with
 | none => exact slicePart_none h
 | int i t => exact slicePart_int h
theorem sliceApplied_gen {sl:Addr} {vl vu:Value} {lo hi:Option Int} {n:Nat} {Q:Int × Int × Nat -> Shared -> Prop} (hs:s.heap.IsSliceOf sl vl vu .none) (pl:IsPart vl lo) (pu:IsPart vu hi)
  (h:Q (((sIx n 0 lo:Nat):Int),1,sIx n n hi - sIx n 0 lo) s):wpAny (model prog w) A (Builtin.Slice.sliceApplied (.ref sl) (pure (n:Int))) Q E s:=by
 obtain ⟨os,hos,hcs,hds⟩:=id hs
 unfold Builtin.Slice.sliceApplied Builtin.Slice.sliceFields
 refine wpAny_bind (wpAny_bind (wpAny_field hos hds (x:=vl) rfl (wpAny_bind (wpAny_field hos hds (x:=vu) rfl (wpAny_bind (wpAny_field hos hds (x:=.none) rfl (wpAny_pure ?_)))))))
 refine wpAny_bind (slicePart_none ?_)
 show wpAny _ _ (if ((1:Int) == 0) = true then _ else _) _ _ s
 rw [if_neg (by decide)]
 refine wpAny_bind (slicePart_ pl (wpAny_bind (slicePart_ pu (wpAny_bind (wpAny_pure ?_)))))
 show wpAny _ _ (match Builtin.Slice.sliceAdjust lo hi 1 (n:Int) with | (lo,hi) => pure (lo,(1:Int),Builtin.Slice.slicePlaces lo hi 1)) _ _ s
 rw [adjust_gen lo hi n]
 show wpAny _ _ (pure (((sIx n 0 lo:Nat):Int),(1:Int),Builtin.Slice.slicePlaces ((sIx n 0 lo:Nat):Int) ((sIx n n hi:Nat):Int) 1)) _ _ s
 rw [places_gen]
 exact wpAny_pure h
theorem pick_gen (xs:Array Value) (i k:Nat):((List.range k).filterMap fun (m:Nat) => xs[((i:Int) + (m:Int) * 1).toNat]?).toArray = ((xs.toList.drop i).take k).toArray:=by
 have e:(fun (m:Nat) => xs[((i:Int) + (m:Int) * 1).toNat]?) = fun m => xs[i + m]?:=by
  funext m
  have:((i:Int) + (m:Int) * 1).toNat = i + m:=by omega
  rw [this]
 rw [e]
 have:=pick_run xs i k
 rw [List.filterMap_map] at this
 have e2:((fun x => xs[x]?) ∘ fun x => i + x) = fun m => xs[i + m]?:=rfl
 rw [e2] at this
 rw [this]
theorem getItem_tuple_cut {t sl:Addr} {items:Array Value} {vl vu:Value} {lo hi:Option Int} {Q:Value -> Shared -> Prop} (ht:IsTup s.heap t items) (hs:s.heap.IsSliceOf sl vl vu .none) (pl:IsPart vl lo) (pu:IsPart vu hi)
  (hw:¬ (sIx items.size 0 lo = 0 /\ sIx items.size items.size hi = items.size))
  (h:Q (.ref s.heap.objs.size) { s with heap:=s.heap.push { cls:=.type "tuple",data:=.seq ((items.toList.drop (sIx items.size 0 lo)).take (sIx items.size items.size hi - sIx items.size 0 lo)).toArray } })
  (hsz:items.size <= sizeLine):wpAny (model prog w) A (getItem (.ref t) (.ref sl)) Q E s:=by
 have htake:sizeOk (.seq ((items.toList.drop (sIx items.size 0 lo)).take (sIx items.size items.size hi - sIx items.size 0 lo)).toArray):=by
  show ((items.toList.drop (sIx items.size 0 lo)).take (sIx items.size items.size hi - sIx items.size 0 lo)).toArray.size <= sizeLine
  rw [List.size_toArray,List.length_take,List.length_drop,Array.length_toList]
  omega
 have hj:sIx items.size items.size hi <= items.size:=sIx_le _ _ (Nat.le_refl _) hi
 obtain ⟨os,hos,hcs,hds⟩:=id hs
 have hTs:s.TypeIs (.ref sl) "slice":=⟨os,hos,hcs⟩
 unfold getItem
 try with_reducible refine wpAny_holding ?_
 first | refine wpAny_bind (wpAny_pure ?_) | skip
 refine wpAny_bind (wpAny_sequenceKey ht.typeIs (by decide) ?_)
 refine wpAny_bind (wpAny_callSpecial?_slot (name:=Str.ofString "__getitem__") ht.typeIs PyProof.Rows.slot_tuple_getitem
  (wpAny_call_entry PyProof.Rows.slot_tuple_getitem ht.typeIs entry_tuple_getitem ?_ (args_tuple_getitem _ _)))
 show wpAny _ _ (Builtin.Tuple.tupleItemsOf (.ref t) >>= _) _ _ s
 refine wpAny_bind (tupleItemsOf_ ht ?_)
 refine wpAny_bind (wpAny_typeOf hTs ?_)
 rw [if_pos (by decide)]
 refine wpAny_bind (sliceApplied_gen hs pl pu ?_)
 have hno:¬ ((((sIx items.size 0 lo:Nat):Int) == 0 && (1:Int) == 1 && (sIx items.size items.size hi - sIx items.size 0 lo) == items.size) = true):=by
  intro q
  rw [Bool.and_eq_true,Bool.and_eq_true] at q
  have q1:((sIx items.size 0 lo:Nat):Int) = 0:=eq_of_beq q.1.1
  have q2:sIx items.size items.size hi - sIx items.size 0 lo = items.size:=eq_of_beq q.2
  exact hw ⟨by omega,by omega⟩
 show wpAny _ _ (if (((sIx items.size 0 lo:Nat):Int) == 0 && (1:Int) == 1 && (sIx items.size items.size hi - sIx items.size 0 lo) == items.size) = true then _ else _) _ _ s
 rw [if_neg hno,pick_gen]
 first
  | exact wpAny_bind (m:=Builtin.Tuple.tupleExact _) (wpAny_newObj_type (wpAny_pure ⟨_,rfl,wpAny_pure h⟩) htake)
  | exact wpAny_bind (m:=Builtin.Tuple.tupleExact _) (wpAny_newObj_type (wpAny_bind (wpAny_pure (wpAny_pure ⟨_,rfl,wpAny_pure h⟩))) htake)
  | exact wpAny_bind (wpAny_bind (m:=Builtin.Tuple.tupleExact _) (wpAny_newObj_type (wpAny_pure (wpAny_pure ⟨_,rfl,wpAny_pure h⟩)) htake))
  | exact wpAny_bind (wpAny_bind (m:=Builtin.Tuple.tupleExact _) (wpAny_newObj_type (wpAny_pure ⟨_,rfl,wpAny_pure h⟩) htake))
end
end HT
namespace L2
open PySem PySem.Spec PyProof.Rows
abbrev TO:=St -> Hp -> (Option Int -> Hp -> Prop) -> Prop
def PO (X:Cx) (e:Option Expr) (t:TO):Prop :=
 ∀ (pins:List (Addr × Obj)) (s:Shared) (σ:St) (H:Hp) (Q:Option Int -> Hp -> Prop),Inv X pins σ H s -> t σ H Q ->
  wpAny (model X.prog X.w) X.A (evalPart e X.env) (fun u s' => ∃ o H',Inv X pins σ H' s' /\ IsPart u o /\ Q o H') X.xe s
def tNoPart:TO:=fun _ H Q => Q none H
def tPart (t:TE):TO:=fun σ H Q => t σ H fun x H1 => ∃ i,x = .int i /\ Q (some i) H1
theorem intsAre_of {ns:List Int}:∀ {us:List Value},Vals (ns.map V.int) us -> IntsAre us ns:=by
 induction ns with
 | nil => intro us r; rw [List.map_nil] at r; cases r; exact .nil
 | cons n ns ih =>
  intro us r
  rw [List.map_cons] at r
  cases r with
  | cons r1 r2 =>
   obtain ⟨t,e⟩:=r1
   subst e
   exact .cons n t (ih r2)
section
variable {X:Cx} {e:Expr} {te:TE} {lo hi:Option Expr} {tl th:TO} {pos p2:Pos}
theorem po_none:PO X none tNoPart:=by
 intro pins s σ H Q I h
 rw [evalPart_none]
 exact wpAny_pure ⟨none,H,I,.none,h⟩
theorem po_some (h:PE X e te):PO X (some e) (tPart te):=by
 intro pins s σ H Q I hw
 rw [evalPart_some]
 refine thn (h pins s σ H _ I hw) fun u s1 ⟨x,H1,I1,r1,q1⟩ => ?_
 obtain ⟨i,rfl,q⟩:=q1
 obtain ⟨t,rfl⟩:=r1
 exact ⟨some i,H1,I1,.int i t,q⟩
def SlR (X:Cx) (r:V -> Option Int -> Option Int -> Hp -> VK -> Prop):Prop :=
 ∀ (pins:List (Addr × Obj)) (s:Shared) (σ:St) (H:Hp) (x:V) (v vl vu:Value) (lo hi:Option Int) (sl:Addr) (Q:VK),Inv X pins σ H s -> RelV x v -> s.heap.IsSliceOf sl vl vu .none -> IsPart vl lo -> IsPart vu hi -> r x lo hi H Q ->
  ∃ T id,typeLookup (.type T) "__getitem__" = pure (some (.builtin id)) /\ s.TypeIs v T /\ wpAny (model X.prog X.w) X.A (getItem v (.ref sl)) (EP X pins σ Q) X.xe s
theorem SlR.or {r r':V -> Option Int -> Option Int -> Hp -> VK -> Prop} (h:SlR X r) (h':SlR X r'):SlR X (fun x lo hi H Q => r x lo hi H Q ∨ r' x lo hi H Q):=by
 intro pins s σ H x v vl vu lo hi sl Q I rx hs pl pu q
 rcases q with q | q
 ·exact h pins s σ H x v vl vu lo hi sl Q I rx hs pl pu q
 ·exact h' pins s σ H x v vl vu lo hi sl Q I rx hs pl pu q
def tSl (r:V -> Option Int -> Option Int -> Hp -> VK -> Prop) (te:TE) (tl th:TO):TE:=fun σ H Q => te σ H fun x H1 => tl σ H1 fun l H2 => th σ H2 fun u H3 => r x l u H3 Q
theorem pe_slice {r:V -> Option Int -> Option Int -> Hp -> VK -> Prop} (hr:SlR X r) (he:PE X e te) (hl:PO X lo tl) (hu:PO X hi th):PE X (.Subscript e (.Slice lo hi none p2) pos) (tSl r te tl th):=by
 intro pins s σ H Q I h
 refine Subscript_ (thn (he pins s σ H _ I h) fun v s1 ⟨x,H1,I1,r1,q1⟩ => ?_)
 refine wpAny_Slice (thn (hl pins s1 σ H1 _ I1 q1) fun vl s2 ⟨l,H2,I2,pl,q2⟩ => thn (hu pins s2 σ H2 _ I2 q2) fun vu s3 ⟨u,H3,I3,pu,q3⟩ => ?_)
 rw [evalPart_none]
 refine wpAny_pure ?_
 have I4:Inv X pins σ H3 { s3 with heap:=s3.heap.push { cls:=.type "slice",data:=.fields #[vl,vu,.none] } }:=I3.kept (t':=s3.toks) fun b ob q => Heap.get?_push_of_some _ q
 obtain ⟨T,id,hT,ht,hg⟩:=hr pins { s3 with heap:=s3.heap.push { cls:=.type "slice",data:=.fields #[vl,vu,.none] } } σ H3 x v vl vu l u s3.heap.objs.size Q I4 r1 (Heap.IsSliceOf.new ..) pl pu q3
 show wpAny (model X.prog X.w) X.A (subscriptTail e (.Slice lo hi none p2) v (.ref s3.heap.objs.size)) (EP X pins σ Q) X.xe { s3 with heap:=s3.heap.push { cls:=.type "slice",data:=.fields #[vl,vu,.none] } }
 exact tail_any (ops:=[.ref s3.heap.objs.size,v]) ht hT hg (by with_unfolding_all rfl)
def cutV (xs:List V) (lo hi:Option Int):List V:=(xs.drop (HT.sIx xs.length 0 lo)).take (HT.sIx xs.length xs.length hi - HT.sIx xs.length 0 lo)
theorem cutV_length (xs:List V) (lo hi:Option Int):(cutV xs lo hi).length <= xs.length:=by
 unfold cutV
 rw [List.length_take,List.length_drop]
 omega
def rSlT (K:PySem.W.Frag):V -> Option Int -> Option Int -> Hp -> VK -> Prop:=fun x lo hi H Q => ∃ a xs,x = .ref a /\ SqT K H a xs /\
 ¬ (HT.sIx xs.length 0 lo = 0 /\ HT.sIx xs.length xs.length hi = xs.length) /\ ∀ p,H p = none -> Q (.ref p) (upd H p (.tup (cutV xs lo hi)))
theorem sl_tup:SlR X (rSlT X.K):=by
 intro pins s σ H x v vl vu lo hi sl Q I rx hs pl pu h
 obtain ⟨a,xs,rfl,hx,hw,q⟩:=h
 cases rx
 obtain ⟨its,r,ht,hz⟩:=I.tuple hx
 have hlen:its.toArray.size = xs.length:=by rw [List.size_toArray]; exact r.length.symm
 refine ⟨"tuple",_,PyProof.Rows.slot_tuple_getitem.lookup,ht.typeIs,?_⟩
 refine HT.getItem_tuple_cut ht hs pl pu (by rw [hlen]; exact hw) ?_ (by rw [hlen]; exact hz)
 rw [hlen]
 refine ⟨.ref s.heap.objs.size,_,I.laid (t':=s.toks) (o:=.tup (cutV xs lo hi)) (fun b ob q => Heap.get?_push_of_some _ q) (Nat.le_refl _) ?_,rfl,q _ (I.hok.fresh (Nat.le_refl _))⟩
 exact ⟨Nat.le_trans (cutV_length xs lo hi) hz,_,(r.drop (HT.sIx xs.length 0 lo)).take (HT.sIx xs.length xs.length hi - HT.sIx xs.length 0 lo),IsTup.new _ _⟩
def rLtT (K:PySem.W.Frag):R2:=fun x y H Q => ∃ a b ns ms,x = .ref a /\ y = .ref b /\ SqT K H a (ns.map V.int) /\ SqT K H b (ms.map V.int) /\ Q (.bl (HT.lexLt ns ms)) H
theorem op_ltT (hu:X.A.units < cLine):OpR X (compareOp .Lt) (rLtT X.K):=by
 intro pins s σ H x y v u Q I rx ry h
 obtain ⟨a,b,ns,ms,rfl,rfl,ha,hb,q⟩:=h
 cases rx
 cases ry
 obtain ⟨its,r1,p1,_⟩:=I.tuple ha
 obtain ⟨its2,r2,p2,_⟩:=I.tuple hb
 have i1:IntsAre its.toArray.toList ns:=intsAre_of r1
 have i2:IntsAre its2.toArray.toList ms:=intsAre_of r2
 exact HT.lt_tupInts p1 p2 i1 i2 hu ⟨.bl (HT.lexLt ns ms),H,I,rfl,q⟩
end
end L2
namespace L2
open PySem PySem.Spec PyProof.Rows
def ixN (n:Nat) (i:Int):Option Nat:=if 0 <= i then (if i < n then some i.toNat else none) else if -(n:Int) <= i then some (i + n).toNat else none
def atI {α:Type} (xs:List α) (i:Int):Option α:=(ixN xs.length i).bind fun j => xs[j]?
theorem ixN_seq {n:Nat} {i:Int} {j:Nat} (h:ixN n i = some j):seqIndex? i n = some j /\ j < n /\ -(n:Int) <= i /\ i < n:=by
 unfold ixN at h
 by_cases h0:0 <= i
 ·rw [if_pos h0] at h
  by_cases h1:i < n
  ·rw [if_pos h1] at h
   have e:i.toNat = j:=Option.some.inj h
   exact ⟨by rw [seqIndex_of h0 h1,e],by omega,by omega,h1⟩
  ·rw [if_neg h1] at h; cases h
 ·rw [if_neg h0] at h
  by_cases h1:-(n:Int) <= i
  ·rw [if_pos h1] at h
   have e:(i + n).toNat = j:=Option.some.inj h
   exact ⟨by rw [seqIndex_neg (by omega) h1,e],by omega,h1,by omega⟩
  ·rw [if_neg h1] at h; cases h
theorem atI_get {α:Type} {xs:List α} {i:Int} {v:α} (h:atI xs i = some v):∃ j,seqIndex? i xs.length = some j /\ xs[j]? = some v /\ j < xs.length /\ -(xs.length:Int) <= i /\ i < xs.length:=by
 unfold atI at h
 cases e:ixN xs.length i with
 | none => rw [e] at h; cases h
 | some j =>
  rw [e] at h
  obtain ⟨h1,h2,h3,h4⟩:=ixN_seq e
  exact ⟨j,h1,h,h2,h3,h4⟩
theorem atI_nat {α:Type} {xs:List α} {j:Nat} {v:α} (h:xs[j]? = some v):atI xs (j:Int) = some v:=by
 have hj:j < xs.length:=(List.getElem?_eq_some_iff.mp h).1
 have e:ixN xs.length (j:Int) = some j:=by
  unfold ixN
  rw [if_pos (by omega),if_pos (by omega)]; simp
 unfold atI; rw [e]; exact h
def PlainIx (b:Expr):Prop:=∀ o i,subscripted b false o i = operate [o,i] (getItem o i)
def IxR (X:Cx) (r:R2):Prop :=
 ∀ (value slice:Expr) (pins:List (Addr × Obj)) (s:Shared) (σ:St) (H:Hp) (x y:V) (v u:Value) (Q:VK),Inv X pins σ H s -> RelV x v -> RelV y u -> r x y H Q ->
  subscripted slice false v u = operate [v,u] (getItem v u) -> wpAny (model X.prog X.w) X.A (subscriptTail value slice v u) (EP X pins σ Q) X.xe s
def MtR (X:Cx) (id:String) (r:V -> List V -> Hp -> VK -> Prop):Prop :=
 ∀ (pins:List (Addr × Obj)) (s:Shared) (σ:St) (H:Hp) (x:V) (xs:List V) (v:Value) (us:List Value) (Q:VK),Inv X pins σ H s -> RelV x v -> Vals xs us -> r x xs H Q ->
  wpAny (model X.prog X.w) X.A (call (.builtin id) (v :: us)) (EP X pins σ Q) X.xe s
section
variable {X:Cx} {a b:Expr} {ta tb:TE} {pos:Pos}
theorem IxR.or {r r':R2} (h:IxR X r) (h':IxR X r'):IxR X (fun x y H Q => r x y H Q ∨ r' x y H Q):=by
 intro value slice pins s σ H x y v u Q I rx ry q hs
 rcases q with q | q
 ·exact h value slice pins s σ H x y v u Q I rx ry q hs
 ·exact h' value slice pins s σ H x y v u Q I rx ry q hs
theorem MtR.or {id:String} {r r':V -> List V -> Hp -> VK -> Prop} (h:MtR X id r) (h':MtR X id r'):MtR X id (fun x xs H Q => r x xs H Q ∨ r' x xs H Q):=by
 intro pins s σ H x xs v us Q I rx rs q
 rcases q with q | q
 ·exact h pins s σ H x xs v us Q I rx rs q
 ·exact h' pins s σ H x xs v us Q I rx rs q
theorem pe_ix {r:R2} (hr:IxR X r) (ha:PE X a ta) (hb:PE X b tb) (hs:PlainIx b):PE X (.Subscript a b pos) (tOp r ta tb):=by
 intro pins s σ H Q I h
 exact Subscript_ (binT ha hb I h fun v u s2 x y H2 I2 rx ry q => hr a b pins s2 σ H2 x y v u Q I2 rx ry q (hs _ _))
def rIxL (K:PySem.W.Frag):R2:=fun x y H Q => ∃ p xs i v,x = .ref p /\ y = .int i /\ SqL K H p xs /\ atI xs i = some v /\ Q v H
def rIxT (K:PySem.W.Frag):R2:=fun x y H Q => ∃ p xs i v,x = .ref p /\ y = .int i /\ SqT K H p xs /\ atI xs i = some v /\ Q v H
theorem ix_list:IxR X (rIxL X.K):=by
 intro value slice pins s σ H x y v u Q I rx ry h hs
 obtain ⟨p,xs,i,z,rfl,rfl,hq,he,q⟩:=h
 cases rx
 obtain ⟨t,rfl⟩:=ry
 obtain ⟨its,r,pl,hz⟩:=I.list hq
 obtain ⟨j,h1,h2,h3,h4,h5⟩:=atI_get he
 obtain ⟨w,ew,rw'⟩:=r.get h2
 have hl:=r.length
 have hn:=line63
 have fin:EP X pins σ Q w s:=⟨z,H,I,rw',q⟩
 by_cases h0:0 <= i
 ·have hj:i.toNat = j:=by
   rw [seqIndex_of h0 h5] at h1
   exact Option.some.inj h1
  exact item_listR pl.isList h0 (by omega) (by rw [hj]; simpa using ew) fin hs
 ·have hj:(i + (its.toArray.size:Int)).toNat = j:=by
   rw [seqIndex_neg (by omega) h4] at h1
   rw [List.size_toArray,<- hl]
   exact Option.some.inj h1
  exact subscriptTail_builtinR (x:=w) pl.isList.typeIs slot_list_getitem.lookup
   (wpAny_getItem_list_neg (Q:=fun r s' => r = w /\ EP X pins σ Q r s') pl.isList (by omega) (by rw [List.size_toArray] <;> omega) (by omega) (by rw [hj]; simpa using ew) ⟨rfl,fin⟩) hs
theorem ix_tup:IxR X (rIxT X.K):=by
 intro value slice pins s σ H x y v u Q I rx ry h hs
 obtain ⟨p,xs,i,z,rfl,rfl,hq,he,q⟩:=h
 cases rx
 obtain ⟨t,rfl⟩:=ry
 obtain ⟨its,r,pl,hz⟩:=I.tuple hq
 obtain ⟨j,h1,h2,h3,h4,h5⟩:=atI_get he
 obtain ⟨w,ew,rw'⟩:=r.get h2
 have hl:=r.length
 have hn:=line63
 have fin:EP X pins σ Q w s:=⟨z,H,I,rw',q⟩
 exact subscriptTail_builtinR (x:=w) pl.typeIs slot_tuple_getitem.lookup
  (getItem_tuple (j:=j) (Q:=fun r s' => r = w /\ EP X pins σ Q r s') pl (by omega) (by omega) (by rw [List.size_toArray,<- hl]; exact h1) (by simpa using ew) ⟨rfl,fin⟩) hs
theorem mapSeq_set (its:List Value) (n j:Nat) (u:Value):Obj.mapSeq (·.setIfInBounds j u) { cls:=.type "list",data:=.seq its.toArray n } = { cls:=.type "list",data:=.seq (its.set j u).toArray n }:=by
 simp [Obj.mapSeq]
theorem Inv.lst {pins:List (Addr × Obj)} {σ:St} {H:Hp} {s:Shared} {p:Addr} {xs:List V} (I:Inv X pins σ H s) (h:H p = some (.lst xs)) :
  ∃ (its:List Value) (n:Nat),Vals xs its /\ s.heap.get? p = some { cls:=.type "list",data:=.seq its.toArray n } /\ xs.length <= sizeLine:=by
 obtain ⟨z,its,n,r,e⟩:=I.hok p _ h
 exact ⟨its,n,r,e,z⟩
theorem Inv.lstUpd {pins:List (Addr × Obj)} {σ:St} {H:Hp} {s:Shared} {p:Addr} {xs ys:List V} {its its':List Value} {n n':Nat} {f:Obj -> Obj} (I:Inv X pins σ H s) (h:H p = some (.lst xs))
  (ho:s.heap.get? p = some { cls:=.type "list",data:=.seq its.toArray n }) (hf:f { cls:=.type "list",data:=.seq its.toArray n } = { cls:=.type "list",data:=.seq its'.toArray n' }) (r:Vals ys its') (hz:ys.length <= sizeLine) (t:Nat) :
  Inv X pins σ (upd H p (.lst ys)) { s with heap:=s.heap.update p f,toks:=t }:=by
 have e:(s.heap.update p f).get? p = some { cls:=.type "list",data:=.seq its'.toArray n' }:=by
  rw [Heap.get?_update_self f ho (by rw [hf] <;> rfl),hf]
 refine I.write (x:=p) (e:=p) (by rw [h]; trivial) (.inl rfl) (fun b u hb q => (Heap.get?_update_other _ _ (Ne.symm hb)).trans q) ⟨_,e⟩ ?_
 exact ⟨hz,its',n',r,e⟩
def rSetL:V -> V -> V -> Hp -> (Hp -> Prop) -> Prop:=fun o i v H Q => ∃ p xs k j,o = .ref p /\ i = .int k /\ H p = some (.lst xs) /\ ixN xs.length k = some j /\ Q (upd H p (.lst (xs.set j v)))
theorem set_list:PSet X rSetL:=by
 intro pins s σ H o i v ov iv u Q I ro ri rv h
 obtain ⟨p,xs,k,j,rfl,rfl,hp,hj,q⟩:=h
 cases ro
 obtain ⟨t,rfl⟩:=ri
 obtain ⟨its,n,r,ho,hz⟩:=I.lst hp
 obtain ⟨h1,h2,h3,h4⟩:=ixN_seq hj
 have hl:=r.length
 have hn:=line63
 have I':Inv X pins σ (upd H p (.lst (xs.set j v))) { s with heap:=s.heap.update p (Obj.mapSeq (·.setIfInBounds j u)) } :=
  I.lstUpd hp ho (mapSeq_set its n j u) (r.set rv j) (by rw [List.length_set]; exact hz) s.toks
 by_cases h0:0 <= k
 ·have hk:k.toNat = j:=by
   rw [seqIndex_of h0 h4] at h1
   exact Option.some.inj h1
  exact PySem.W.ki_setAt ho h0 (by omega) (by rw [List.size_toArray,<- hl]; exact h4) (by rw [hk]; exact ⟨_,I',q⟩)
 ·have hk:(k + (its.toArray.size:Int)).toNat = j:=by
   rw [seqIndex_neg (by omega) h3] at h1
   rw [List.size_toArray,<- hl]
   exact Option.some.inj h1
  exact PySem.W.ki_setBack ho (by omega) (by rw [List.size_toArray,<- hl]; exact h3) (by omega) (by rw [hk]; exact ⟨_,I',q⟩)
theorem slice_bounds (lo hi:Option Int) (n:Nat):(sliceBounds lo hi none n).1 = ((HT.sIx n 0 lo:Nat):Int) /\ (sliceBounds lo hi none n).2.1 = ((HT.sIx n n hi:Nat):Int) /\ (sliceBounds lo hi none n).2.2 = 1:=by
 refine ⟨?_,?_,rfl⟩
 ·cases lo with
  | none => simp [sliceBounds,HT.sIx]
  | some i =>
   simp only [sliceBounds,HT.sIx,Option.getD_none,show (1:Int) > 0 by decide,if_true]
   by_cases h:i < 0
   ·simp only [h,if_true] <;> omega
   ·simp only [h,if_false] <;> omega
 ·cases hi with
  | none => simp [sliceBounds,HT.sIx]
  | some i =>
   simp only [sliceBounds,HT.sIx,Option.getD_none,show (1:Int) > 0 by decide,if_true]
   by_cases h:i < 0
   ·simp only [h,if_true] <;> omega
   ·simp only [h,if_false] <;> omega
theorem slicePick_cut (its:List Value) (lo hi:Option Int):slicePick its.toArray lo hi none = ((its.drop (HT.sIx its.length 0 lo)).take (HT.sIx its.length its.length hi - HT.sIx its.length 0 lo)).toArray:=by
 obtain ⟨h1,h2,h3⟩:=slice_bounds lo hi its.toArray.size
 unfold slicePick
 rw [h1,h2,h3]
 simp only [sliceRange_one,pick_run,List.size_toArray] <;> rfl
def rSlL (K:PySem.W.Frag):V -> Option Int -> Option Int -> Hp -> VK -> Prop:=fun x lo hi H Q => ∃ a xs,x = .ref a /\ SqL K H a xs /\ ∀ p,H p = none -> Q (.ref p) (upd H p (.lst (cutV xs lo hi)))
theorem sl_list:SlR X (rSlL X.K):=by
 intro pins s σ H x v vl vu lo hi sl Q I rx hs pl pu h
 obtain ⟨a,xs,rfl,hx,q⟩:=h
 cases rx
 obtain ⟨its,r,ht,hz⟩:=I.list hx
 have hlen:=r.length
 refine ⟨"list",_,slot_list_getitem.lookup,ht.isList.typeIs,?_⟩
 refine wpAny_getItem_list_slice ht.isList hs pl pu .none (by simp) ?_ (by rw [List.size_toArray] <;> omega)
 rw [slicePick_cut,<- hlen]
 refine ⟨.ref s.heap.objs.size,_,I.laid (t':=s.toks) (o:=.lst (cutV xs lo hi)) (fun b ob q => Heap.get?_push_of_some _ q) (Nat.le_refl _) ?_,rfl,q _ (I.hok.fresh (Nat.le_refl _))⟩
 exact ⟨Nat.le_trans (cutV_length xs lo hi) hz,_,0,(r.drop (HT.sIx xs.length 0 lo)).take (HT.sIx xs.length xs.length hi - HT.sIx xs.length 0 lo),Heap.get?_push_size _ rfl⟩
def flatV:V -> Bool
 | .non => true
 | .bl _ => true
 | .int _ => true
 | .str _ => true
 | _ => false
def eqV:V -> V -> Bool
 | .non,.non => true
 | .bl a,.bl b => a == b
 | .bl a,.int b => (if a then 1 else 0) == b
 | .int a,.bl b => a == (if b then 1 else 0)
 | .int a,.int b => a == b
 | .str a,.str b => a == b
 | _,_ => false
theorem eqAt_V {A:Around} {s:Shared} {y x:V} {u v:Value} (ry:RelV y u) (rx:RelV x v) (fy:flatV y = true) (fx:flatV x = true):SeqAt.EqAt A s u v (eqV y x):=by
 cases y with
 | non =>
  cases ry
  cases x with
  | non => cases rx; exact SeqAt.EqAt.same _
  | bl b => cases rx; exact SeqAt.EqAt.none_bool b
  | int b => obtain ⟨t,rfl⟩:=rx; exact SeqAt.EqAt.none_int b t
  | str b => obtain ⟨t,rfl⟩:=rx; exact SeqAt.EqAt.none_str b t
  | _ => exact absurd (show false = true from fx) Bool.false_ne_true
 | bl a =>
  cases ry
  cases x with
  | non => cases rx; exact SeqAt.EqAt.bool_none a
  | bl b => cases rx; exact SeqAt.EqAt.bool_bool a b
  | int b => obtain ⟨t,rfl⟩:=rx; exact SeqAt.EqAt.bool_int a b t
  | str b => obtain ⟨t,rfl⟩:=rx; exact SeqAt.EqAt.bool_str a b t
  | _ => exact absurd (show false = true from fx) Bool.false_ne_true
 | int a =>
  obtain ⟨t',rfl⟩:=ry
  cases x with
  | non => cases rx; exact SeqAt.EqAt.int_none a t'
  | bl b => cases rx; exact SeqAt.EqAt.int_bool a t' b
  | int b => obtain ⟨t,rfl⟩:=rx; exact SeqAt.EqAt.int_int a t' b t
  | str b => obtain ⟨t,rfl⟩:=rx; exact SeqAt.EqAt.int_str a t' b t
  | _ => exact absurd (show false = true from fx) Bool.false_ne_true
 | str a =>
  obtain ⟨t',rfl⟩:=ry
  cases x with
  | non => cases rx; exact SeqAt.EqAt.str_none a t'
  | bl b => cases rx; exact SeqAt.EqAt.str_bool a t' b
  | int b => obtain ⟨t,rfl⟩:=rx; exact SeqAt.EqAt.str_int a t' b t
  | str b => obtain ⟨t,rfl⟩:=rx; exact SeqAt.EqAt.str_str a t' b t
  | _ => exact absurd (show false = true from fx) Bool.false_ne_true
 | _ => exact absurd (show false = true from fy) Bool.false_ne_true
def eqU (x:V) (u:Value):Bool:=match u with
 | .none => eqV .non x
 | .bool b => eqV (.bl b) x
 | .int i _ => eqV (.int i) x
 | .str z _ => eqV (.str z) x
 | _ => false
theorem eqU_of {x y:V} {u:Value} (r:RelV y u) (f:flatV y = true):eqU x u = eqV y x:=by
 cases y with
 | non => cases r; rfl
 | bl b => cases r; rfl
 | int i => obtain ⟨t,rfl⟩:=r; rfl
 | str z => obtain ⟨t,rfl⟩:=r; rfl
 | _ => exact absurd (show false = true from f) Bool.false_ne_true
theorem any_eqU {x:V}:∀ {xs:List V} {us:List Value},Vals xs us -> xs.all flatV = true -> us.any (eqU x) = xs.any fun y => eqV y x
 | _,_,.nil,_ => rfl
 | y :: xs,u :: us,.cons r t,f => by
  rw [List.all_cons,Bool.and_eq_true] at f
  rw [List.any_cons,List.any_cons,eqU_of r f.1,any_eqU t f.2]
theorem mem_eqAt {A:Around} {s:Shared} {x:V} {v:Value} (rx:RelV x v) (fx:flatV x = true):∀ {xs:List V} {us:List Value},Vals xs us -> xs.all flatV = true -> ∀ u ∈ us,SeqAt.EqAt A s u v (eqU x u)
 | _,_,.nil,_ => fun u hu => by cases hu
 | y :: xs,u :: us,.cons r t,f => fun u' hu => by
  rw [List.all_cons,Bool.and_eq_true] at f
  rcases List.mem_cons.mp hu with rfl | hu
  ·rw [eqU_of r f.1]; exact eqAt_V r rx f.1 fx
  ·exact mem_eqAt rx fx t f.2 u' hu
def inV (x:V) (xs:List V):Bool:=xs.any fun y => eqV y x
def rIn (K:PySem.W.Frag) (neg:Bool):R2:=fun x y H Q => ∃ p xs,y = .ref p /\ (SqL K H p xs ∨ SqT K H p xs) /\ flatV x = true /\ xs.all flatV = true /\ Q (.bl (if neg then !inV x xs else inV x xs)) H
theorem op_in_seq:OpR X (compareOp .In) (rIn X.K false):=by
 intro pins s σ H x y v u Q I rx ry h
 obtain ⟨p,xs,rfl,hq,fx,fs,q⟩:=h
 cases ry
 rcases hq with hq | hq
 ·obtain ⟨its,r,pl,hz⟩:=I.list hq
  refine SeqAt.in_listAt (eqU x) pl.isList (fun w hw => mem_eqAt rx fx r fs w (by simpa using hw)) ⟨.bl _,H,I,rfl,?_⟩
  rw [show its.toArray.any (eqU x) = its.any (eqU x) by simp,any_eqU r fs]
  exact q
 ·obtain ⟨its,r,pl,hz⟩:=I.tuple hq
  refine SeqAt.in_tupleAt (eqU x) pl (fun w hw => mem_eqAt rx fx r fs w (by simpa using hw)) ⟨.bl _,H,I,rfl,?_⟩
  rw [show its.toArray.any (eqU x) = its.any (eqU x) by simp,any_eqU r fs]
  exact q
theorem call_len_seq:CallR X (.builtin "len") (fun xs H Q => ∃ p ys,xs = [.ref p] /\ (SqL X.K H p ys ∨ SqT X.K H p ys) /\ Q (.int ys.length) H):=by
 intro pins s σ H xs us Q I r h
 obtain ⟨p,ys,rfl,hq,q⟩:=h
 obtain ⟨u,rfl,rx⟩:=vals1 r
 cases rx
 have hn:=line63
 rcases hq with hq | hq
 ·obtain ⟨its,r',pl,hz⟩:=I.list hq
  have hlen:=r'.length
  exact Calls.call_len_list pl.isList (by simp only [List.size_toArray] <;> omega) ⟨.int ys.length,H,I.tok _,⟨s.toks + 1,by rw [List.size_toArray,hlen]⟩,q⟩
 ·obtain ⟨its,r',pl,hz⟩:=I.tuple hq
  have hlen:=r'.length
  exact len_tuple pl (by simp only [List.size_toArray] <;> omega) ⟨.int ys.length,H,I.tok _,⟨s.toks + 1,by rw [List.size_toArray,hlen]⟩,q⟩
theorem CallR.or {f:Value} {r r':List V -> Hp -> VK -> Prop} (h:CallR X f r) (h':CallR X f r'):CallR X f (fun xs H Q => r xs H Q ∨ r' xs H Q):=by
 intro pins s σ H xs us Q I rs q
 rcases q with q | q
 ·exact h pins s σ H xs us Q I rs q
 ·exact h' pins s σ H xs us Q I rs q
theorem call_list_of:CallR X (.type "list") (fun xs H Q => ∃ p ys,xs = [.ref p] /\ (SqL X.K H p ys ∨ SqT X.K H p ys) /\ ∀ l,H l = none -> Q (.ref l) (upd H l (.lst ys))):=by
 intro pins s σ H xs us Q I r h
 obtain ⟨p,ys,rfl,hq,q⟩:=h
 obtain ⟨u,rfl,rx⟩:=vals1 r
 cases rx
 have fin:∀ (its:List Value),Vals ys its -> ys.length <= sizeLine -> ∀ (h':Heap) (c':Nat),(∀ b o',s.heap.get? b = some o' -> h'.get? b = some o') ->
   h'.get? s.heap.objs.size = some { cls:=.type "list",dict:=none,data:=.seq its.toArray c',slots:=#[] } -> EP X pins σ Q (.ref s.heap.objs.size) { s with heap:=h' }:=fun its r' hz h' c' kp e =>
  ⟨.ref s.heap.objs.size,_,I.laid (t':=s.toks) kp (Nat.le_refl _) (show ObjOk X.prog X.w _ h' _ (.lst ys) from ⟨hz,its,c',r',e⟩),rfl,q _ (I.hok.fresh (Nat.le_refl _))⟩
 rcases hq with hq | hq
 ·obtain ⟨its,r',pl,hz⟩:=I.list hq
  have hlen:=r'.length
  obtain ⟨o,ho,hc,n,hd⟩:=pl.isList
  exact call_list_seq p (.inl rfl) ho hc hd (fun h' c' kp e => fin its r' hz h' c' kp e) (by simp only [List.size_toArray] <;> omega)
 ·obtain ⟨its,r',pl,hz⟩:=I.tuple hq
  have hlen:=r'.length
  obtain ⟨o,ho,hc,n,hd⟩:=pl
  exact call_list_seq p (.inr rfl) ho hc hd (fun h' c' kp e => fin its r' hz h' c' kp e) (by simp only [List.size_toArray] <;> omega)
def tyV (K:PySem.W.Frag) (T:String) (x:V) (H:Hp):Prop:=match x with
 | .str _ => T = "str"
 | .int _ => T = "int"
 | .ref p => (T = "list" /\ ∃ xs,SqL K H p xs) ∨ (T = "tuple" /\ ∃ o,K.lookup p = some o /\ o.cls = .type "tuple" /\ o.dict = none) ∨
   (T = "dict" /\ ((∃ kvs,H p = some (.dK kvs)) ∨ ∃ kvs,H p = some (.dT kvs))) ∨ (T = "set" /\ ∃ S n,H p = some (.set S n))
 | _ => False
theorem tyV_is {pins:List (Addr × Obj)} {σ:St} {H:Hp} {s:Shared} {T:String} {x:V} {v:Value} (I:Inv X pins σ H s) (r:RelV x v) (ty:tyV X.K T x H) :
  s.TypeIs v T /\ ∀ a,v = .ref a -> ∃ ob,s.heap.get? a = some ob /\ ob.dict = none:=by
 cases x with
 | str z =>
  obtain ⟨t,rfl⟩:=r
  cases (show T = "str" from ty)
  exact ⟨typeIs_str s z t,fun _ e => nomatch e⟩
 | int i =>
  obtain ⟨t,rfl⟩:=r
  cases (show T = "int" from ty)
  exact ⟨typeIs_int s i t,fun _ e => nomatch e⟩
 | ref p =>
  cases r
  rcases ty with ⟨rfl,xs,hq⟩ | ⟨rfl,o,hk,hc,hd⟩ | ⟨rfl,hk⟩ | ⟨rfl,S,n,hk⟩
  ·obtain ⟨its,_,pl,_⟩:=I.list hq
   refine ⟨pl.isList.typeIs,fun a e => ?_⟩
   cases e
   obtain ⟨o,n,e,c,hd,_⟩:=pl
   exact ⟨o,e,hd⟩
  ·refine ⟨⟨o,I.kIn p o hk,hc⟩,fun a e => ?_⟩
   cases e
   exact ⟨o,I.kIn _ o hk,hd⟩
  ·have z:∃ o,s.heap.get? p = some o /\ o.ExactDict:=by
    rcases hk with ⟨kvs,hk⟩ | ⟨kvs,hk⟩
    ·obtain ⟨_,_,_,_,o,_,_,e,ex,_⟩:=I.hok p _ hk
     exact ⟨o,e,ex⟩
    ·obtain ⟨_,_,_,_,o,_,_,e,ex,_⟩:=I.hok p _ hk
     exact ⟨o,e,ex⟩
   obtain ⟨o,e,ex⟩:=z
   refine ⟨⟨o,e,ex.1⟩,fun a e2 => ?_⟩
   cases e2
   exact ⟨o,e,ex.2.1⟩
  ·obtain ⟨o,_,_,_,e,ex,_⟩:=I.hok p _ hk
   refine ⟨⟨o,e,ex.1⟩,fun a e2 => ?_⟩
   cases e2
   exact ⟨o,e,ex.2.1⟩
 | _ => exact False.elim ty
def tBM (K:PySem.W.Frag) (T:String) (r:V -> List V -> Hp -> VK -> Prop) (to:TE) (t:TA):TE:=fun σ H Q => to σ H fun x H1 => tyV K T x H1 /\ t σ H1 fun xs H2 => r x xs H2 Q
variable {o e:Expr} {es:List Expr} {to:TE} {t:TA} {name:Str} {apos cpos:Pos} {T id:String} {r:V -> List V -> Hp -> VK -> Prop}
theorem pe_bm (pa:PlainAttrs T) (slot:Slot T name id) (hty:typeOf (.builtin id) = pure (.type "method_descriptor")) (hm:MtR X id r) (ho:PE X o to) (ha:PA X (e :: es) t)
  (hbase:attributeBase o name X.env (eval o X.env) = eval o X.env:=by rfl)
  (hfew:((backTo cpos (starEach (e :: es) X.env)).all (fun x => !x.1) && (backToKw cpos (keywordEach [] X.env)).all (fun x => x.1.isSome)
   && decide ((e :: es).length + ([]:List Keyword).length + (if ([]:List Keyword).isEmpty then 0 else 1) < 30)) = true:=by rfl)
  (hline:(apos.endLine == cpos.line) = true:=by rfl) (hs:starEach (e :: es) X.env = (false,eval e X.env) :: starEach es X.env:=by rfl) (hplain:(backTo cpos (starEach es X.env)).any (·.1) = false:=by rfl) :
  PE X (.Call (.Attribute o name apos) (e :: es) [] cpos) (tBM X.K T r to t):=by
 intro pins s σ H Q I h
 refine wpAny_Call_method_late hbase hfew hline rfl (thn (ho pins s σ H _ I h) fun v s1 ⟨x,H1,I1,r1,ty,q1⟩ => ?_)
 obtain ⟨h1,h2⟩:=tyV_is I1 r1 ty
 refine ⟨T,id,pa,slot,hty,h1,h2,?_⟩
 have hA:=ha cpos pins s1 σ H1 _ I1 q1
 rw [hs] at hA ⊢
 refine Calls.callWith_builtin (by show (false || (backTo cpos (starEach es X.env)).any (·.1)) = false; rw [hplain] <;> rfl) (Calls.evalArgs_plain ?_)
 exact thn hA fun us s2 ⟨vs,H2,I2,r2,q2⟩ => hm pins s2 σ H2 x vs v us Q I2 r1 r2 q2
/- xs.append(e),list.index on a module's tuple .. are MtR facts of 06m -/
end
end L2
namespace L2
open PySem PySem.Spec PyProof.Rows
def MtM (X:Cx) (id:String) (r:V -> List V -> Hp -> VK -> Prop):Prop :=
 ∀ (pins:List (Addr × Obj)) (s:Shared) (σ:St) (H:Hp) (x:V) (xs:List V) (v:Value) (us:List Value) (Q:VK),Inv X pins σ H s -> RelV x v -> Vals xs us -> r x xs H Q ->
  wpAny (model X.prog X.w) X.A (call (.builtin id) (v :: us)) (EP X pins σ Q) X.xe s
theorem Vals.one:∀ {x:V} {us:List Value},Vals [x] us -> ∃ u,us = [u] /\ RelV x u
 | _,_,.cons r .nil => ⟨_,rfl,r⟩
theorem Vals.two:∀ {x y:V} {us:List Value},Vals [x,y] us -> ∃ u v,us = [u,v] /\ RelV x u /\ RelV y v
 | _,_,_,.cons r (.cons q .nil) => ⟨_,_,rfl,r,q⟩
theorem Vals.zero:∀ {us:List Value},Vals [] us -> us = []
 | _,.nil => rfl
theorem Vals.eraseIdx:∀ {xs:List V} {us:List Value} (i:Nat),Vals xs us -> Vals (xs.eraseIdx i) (us.eraseIdx i)
 | _,_,_,.nil => .nil
 | _,_,0,.cons _ t => t
 | _,_,i + 1,.cons r t => .cons r (Vals.eraseIdx i t)
theorem Vals.reverse {xs:List V} {us:List Value} (h:Vals xs us):Vals xs.reverse us.reverse:=by
 induction h with
 | nil => exact .nil
 | cons r t ih => rw [List.reverse_cons,List.reverse_cons]; exact Vals.append ih (.cons r .nil)
theorem len_erase {α:Type}:∀ (l:List α) (i:Nat),(l.eraseIdx i).length <= l.length
 | [],_ => Nat.le_refl _
 | _ :: _,0 => Nat.le_succ _
 | _ :: r,i + 1 => Nat.succ_le_succ (len_erase r i)
section
variable {X:Cx} {pins:List (Addr × Obj)} {σ:St} {H:Hp} {s:Shared} {l b:Addr} {xs ys zs:List V}
theorem Inv.lset {its its':List Value} {n:Nat} {f:Array Value -> Array Value} {t':Nat} (I:Inv X pins σ H s) (hH:H l = some (.lst xs))
  (e:s.heap.get? l = some { cls:=.type "list",data:=.seq its.toArray n }) (hf:f its.toArray = its'.toArray) (hv:Vals ys its') (hz:ys.length <= sizeLine) :
  Inv X pins σ (upd H l (.lst ys)) { s with heap:=s.heap.update l (Obj.mapSeq f),toks:=t' }:=by
 have q:=PySem.IsL.update e f
 rw [hf] at q
 refine I.write (x:=l) (e:=l) (by rw [hH]; exact trivial) (.inl rfl) (fun b' u hb hu => (Heap.get?_update_other s.heap (Obj.mapSeq f) (Ne.symm hb)).trans hu) ⟨_,q⟩ ?_
 exact ⟨hz,its',_,hv,q⟩
theorem Inv.fresh (I:Inv X pins σ H s):H s.heap.objs.size = none:=I.hok.fresh (Nat.le_refl _)
theorem Inv.lstM (I:Inv X pins σ H s) (hH:H l = some (.lst xs)):xs.length <= sizeLine /\ ∃ (its:List Value) (n:Nat),Vals xs its /\ xs.length = its.length /\ s.heap.get? l = some { cls:=.type "list",data:=.seq its.toArray n }:=by
 obtain ⟨z,its,n,r,e⟩:=I.hok l _ hH
 exact ⟨z,its,n,r,r.length,e⟩
theorem notLongL {n:Nat} (h:n <= sizeLine):Builtin.List.listTooLong n = false:=by
 unfold Builtin.List.listTooLong
 exact decide_eq_false (by omega)
end
section
variable {X:Cx}
def rAppend:V -> List V -> Hp -> VK -> Prop:=fun x vs H Q => ∃ l xs y,x = .ref l /\ vs = [y] /\ H l = some (.lst xs) /\ xs.length < sizeLine /\ Q .non (upd H l (.lst (xs ++ [y])))
theorem mt_append:MtM X "list.append" rAppend:=by
 intro pins s σ H x vs v us Q I rx rv h
 obtain ⟨l,xs,y,rfl,rfl,hH,hz,q⟩:=h
 cases rx
 obtain ⟨u,rfl,ru⟩:=rv.one
 obtain ⟨z,its,n,r,hl,e⟩:=I.lstM hH
 refine call_meets F.slot_list_append ⟨_,e,rfl⟩ F.entry_list_append (F.args_list_append_2 _ _) (PySem.list_append l its.toArray n u (by rw [List.size_toArray]; omega)) ⟨e,?_⟩
 refine ⟨.non,_,I.lset (its':=its ++ [u]) hH e (by simp) (r.append (.cons ru .nil)) ?_,rfl,q⟩
 rw [List.length_append,List.length_singleton]
 omega
def rExtend:V -> List V -> Hp -> VK -> Prop:=fun x vs H Q => ∃ l b xs zs,x = .ref l /\ vs = [.ref b] /\ H l = some (.lst xs) /\ H b = some (.lst zs) /\ xs.length + zs.length <= sizeLine /\ Q .non (upd H l (.lst (xs ++ zs)))
theorem mt_extend:MtM X "list.extend" rExtend:=by
 intro pins s σ H x vs v us Q I rx rv h
 obtain ⟨l,b,xs,zs,rfl,rfl,hH,hB,hz,q⟩:=h
 cases rx
 obtain ⟨u,rfl,ru⟩:=rv.one
 cases ru
 obtain ⟨z,its,n,r,hl,e⟩:=I.lstM hH
 obtain ⟨z2,its2,n2,r2,hl2,e2⟩:=I.lstM hB
 have hsz:its.toArray.size + its2.toArray.size <= sizeLine:=by rw [List.size_toArray,List.size_toArray]; omega
 have hlong:¬ (!its.toArray.isEmpty && Builtin.List.listTooLong (its.toArray.size + its2.toArray.size)) = true:=by
  rw [notLongL hsz,Bool.and_false]
  exact Bool.false_ne_true
 refine call_meets F.slot_list_extend ⟨_,e,rfl⟩ F.entry_list_extend (F.args_list_extend_2 _ _)
  (AutoSeq1.list_extend_list_list_0 l its.toArray n b its2.toArray n2 hlong (by rw [List.size_toArray]; omega) (by omega)) ⟨e,e2,?_⟩
 refine ⟨.non,_,I.lset (its':=its ++ its2) hH e (by simp) (r.append r2) ?_,rfl,q⟩
 rw [List.length_append]
 omega
def rPopAt:V -> List V -> Hp -> VK -> Prop:=fun x vs H Q => ∃ l xs i k y,x = .ref l /\ vs = [.int i] /\ H l = some (.lst xs) /\ -(2 ^ 63) <= i /\ i < 2 ^ 63 /\ seqIndex? i xs.length = some k /\ xs[k]? = some y /\ Q y (upd H l (.lst (xs.eraseIdx k)))
theorem mt_popAt:MtM X "list.pop" rPopAt:=by
 intro pins s σ H x vs v us Q I rx rv h
 obtain ⟨l,xs,i,k,y,rfl,rfl,hH,h1,h2,hk,hy,q⟩:=h
 cases rx
 obtain ⟨u,rfl,ru⟩:=rv.one
 obtain ⟨t,rfl⟩:=ru
 obtain ⟨z,its,n,r,hl,e⟩:=I.lstM hH
 obtain ⟨w,hw,rw'⟩:=r.get hy
 refine call_meets F.slot_list_pop ⟨_,e,rfl⟩ F.entry_list_pop (F.args_list_pop_2 _ _)
  (MeetsSeq.list_pop_at l its.toArray n i t k w (fitsIndex_both h1 h2) (by rw [List.size_toArray,<- hl]; exact hk) (by rw [<- Array.getElem?_toList]; exact hw) (by rw [List.size_toArray]; omega)) ⟨e,?_⟩
 refine ⟨y,_,I.lset (its':=its.eraseIdx k) hH e ?_ (r.eraseIdx k) ?_,rw',q⟩
 ·show its.toArray.eraseIdxIfInBounds k = (its.eraseIdx k).toArray
  rw [List.eraseIdxIfInBounds_toArray]
 ·have:=len_erase xs k
  omega
end
section
variable {prog:Program} {w:World} {A:Around} {E:Value -> Shared -> Prop} {s:Shared}
end
section
variable {X:Cx}
end
end L2
namespace Att
open PySem PySem.W PySem.Calls PyProof.Rows
theorem ints_of_wellAll {P:Params} {h:Heap}:∀ (ns:List Int) (vs:List Value),WellAll P h vs (ns.map WData.int) -> IntsAre vs ns:=by
 intro ns
 induction ns with
 | nil =>
  intro vs w
  rw [List.map_nil] at w
  cases w
  exact .nil
 | cons n ns ih =>
  intro vs w
  rw [List.map_cons] at w
  cases w with
  | cons a b =>
   cases a
   exact .cons _ _ (ih _ b)
theorem script_of {l : OpenLaw} {n : Nat} (hn : l.most = some n) {P : Params} {h : Heap} {args : List WData} {vals : List Value}
    (hpre : l.row.toRowW.claim.pre args = true) (hwl : WellAll P h vals args) :
    ∃ a vs ns, vals = [Value.ref a] /\ args = [WData.list (ns.map WData.int)] /\ h.get? a = some { cls := .type "list", data := .seq vs.toArray } /\ IntsAre vs ns /\ ns.length <= n := by
  have hsh : WShape.hasAll [] args [.list .int] = true := (pre_splitW hpre).1
  have hc : l.pre.holds [] { args := args } = true := (pre_splitW hpre).2
  obtain ⟨d, r, rfl, h1, h2⟩ := hasAllW_cons hsh
  obtain rfl := hasAllW_nil h2
  obtain ⟨xs, rfl, h3⟩ := hasW_list h1
  obtain ⟨ns, rfl⟩ := items_int h3
  have hlen : ns.length <= n := by
    unfold OpenLaw.pre at hc
    have h4 : (WTm.not (.lt (.lit (.int (n : Int))) (.len (.arg 0)))).holds [] { args := [.list (ns.map .int)] } = true := by
      have h4 := (holds_andW hc).1
      rw [hn] at h4
      exact h4
    have h5 := condW_of h4 (w_not (w_lt w_lit (w_len_list (w_arg rfl))))
    rw [List.length_map] at h5
    refine Nat.le_of_not_lt fun q => ?_
    have q' : (n : Int) < ((ns.length : Nat) : Int) := by omega
    first
      | (rw [decide_eq_true q'] at h5; exact absurd h5 (by decide))
      | (simp at h5; omega)
  cases hwl with
  | cons w1 w2 =>
    cases w2
    cases w1 with
    | list ho hall => exact ⟨_, _, ns, rfl, rfl, ho, ints_of_wellAll ns _ hall, hlen⟩
theorem post_true (l:OpenLaw) (args:List WData):l.row.toRowW.claim.post args (.bool true) args = true :=
 postW_of (r:=l.row.toRowW) (X:=(true == true))
  (show WShape.has [] (.bool true) .bool = true by first | rfl | decide | simp [WShape.has,WShape.arms,WShape.armsAll])
  (show (WTm.eq .res (.lit (.bool true))).value [] { args:=args,res:=some (.bool true),after:=args } = some (.bool (true == true)) from w_eq_bool (w_res rfl) w_lit) rfl
theorem attach_call {l:OpenLaw} {n:Nat} {q:Program} {loose:List Str} {XP:(Str -> Option Value) -> Heap -> Prop} {YP:World -> Heap -> Prop} {d:DefRec}
  (hn:l.most = some n) (hdf:d.params.defaults = [])
  (call:∀ (w:World) (s₀ s₁:Shared) (mg mb:Str -> Option Value) (fa:Addr) (o:Obj) (pm cd doc:Value) (a:Addr) (vs:List Value) (ns:List Int),
   Ground q loose [] XP w s₀ mg mb s₁.heap -> YP w s₁.heap ->
   s₁.heap.get? fa = some o -> o.data = .func (docDef d.name d.params d.body d.scope pm cd doc) -> s₁.heap.CodeRec cd d.name -> mg d.name = some (.ref fa) ->
   s₁.heap.get? a = some { cls:=.type "list",data:=.seq vs.toArray } -> IntsAre vs ns -> ns.length <= n -> s₁.gens = #[] ->
   codeAny (model l.prog w) callerA (.call (.ref fa) ⟨[.ref a],[]⟩) (fun r s' => r = .ok (.ret (.bool true)) /\ OldK s₁.heap s'.heap /\ s'.os = s₁.os /\ AllBare s'.gens) s₁) :
  WalkO q loose XP YP l.row.toRowW d [] (fun f vs => PySem.call f vs):=by
 intro w s₀ s₁ mg mb G Y fa o pm cd doc dV kV ho hd hcd hD hmg hg args vals as hpre hlay hrd hwl hlo
 obtain rfl:dV = .none:=Dflts.none hD hdf
 obtain rfl:kV = .none:=Dflts.noKw hD
 obtain ⟨a,vs,ns,rfl,rfl,hobj,hints,hlen⟩:=script_of hn hpre hwl
 refine enter_call (codeAny_mono (call w s₀ s₁ mg mb fa o pm cd doc a vs ns G Y ho (fd_plain hd) hcd hmg hobj hints hlen hg) fun r s' hq => ?_)
 obtain ⟨rfl,h2,h3,h4⟩:=hq
 exact ⟨.inl ⟨.bool true,.bool true,[],rfl,fun _ => rfl,.bool true,post_true l _,fun _ => ⟨List.Pairwise.nil,fun _ hm => (nomatch hm)⟩⟩,h2,h3,h4⟩
section
variable {prog:Program} {w:World} {A:Around} {E:Value -> Shared -> Prop} {s:Shared} {K:Frag}
def ledger (h:Heap) (L d:Addr):List (Addr × Obj):=(List.range h.objs.size).filterMap fun a => if a = L ∨ a = d then none else (h.get? a).map fun o => (a,o)
end
end Att
namespace L2
open PySem PySem.Spec PyProof.Rows
theorem vals_ints:∀ {vs:List Value} {ns:List Int},IntsAre vs ns -> Vals (ns.map V.int) vs
 | _,_,.nil => .nil
 | _,_,.cons n t h => .cons ⟨t,rfl⟩ (vals_ints h)
def Only (H:Hp):Prop:=∀ b,H b = none ∨ ∃ o xs,H b = some (.frz o (.lst xs))
theorem law_call {P:Program} {w:World} {K:PySem.W.Frag} {mg mb:Str -> Option Value} {CX:CXT} {k:Nat} {fa a:Addr} {fd:FuncData} {x:Str} {sp:Sp} {s₁:Shared} {vs:List Value} {ns:List Int}
  (KX:K.In s₁.heap) (hns:s₁.heap.Ns mainGlobals mg) (hb:s₁.heap.Ns builtinsNs mb) (hbb:∀ x:Str,x ≠ "__name__" -> mb x = bootBuiltins x) (hlim:s₁.heap.NoLimit) (hg:s₁.gens = #[])
  (ha:s₁.heap.get? a = some { cls:=.type "list",data:=.seq vs.toArray }) (hi:IntsAre vs ns) (hl:ns.length <= sizeLine) (hr:Room k callerA)
  (F:∀ base:Heap,K.In base -> base.Ns mainGlobals mg -> FnOk P w K mg base CX k fa fd [x] sp) (hbind:∀ (s:Shared) (u:Value),BindsTo s fd ⟨[u],[]⟩ [(x,u)])
  (hsp:∀ H:Hp,Only H -> SqL K H a (ns.map V.int) -> sp [.ref a] H (fun v _ => v = .bl true) fun _ _ _ => False)
  (hCX:∀ H e s',CX [] H s₁ (fun _ _ _ => False) e s' -> False) :
  codeAny (model P w) callerA (.call (.ref fa) ⟨[.ref a],[]⟩) (fun r s' => r = .ok (.ret (.bool true)) /\ OldK s₁.heap s'.heap /\ s'.os = s₁.os /\ AllBare s'.gens) s₁:=by
 have rv:=vals_ints hi
 have lenV:=hi.length
 have core:∀ H:Hp,Only H -> SqL K H a (ns.map V.int) -> HOk P w H s₁.heap -> (∀ b,H b ≠ none -> b = a) -> (H a ≠ none -> K.lookup a = none) ->
   codeAny (model P w) callerA (.call (.ref fa) ⟨[.ref a],[]⟩) (fun r s' => r = .ok (.ret (.bool true)) /\ OldK s₁.heap s'.heap /\ s'.os = s₁.os /\ AllBare s'.gens) s₁:=by
  intro H hO hS hok hA hK
  have base_of:∀ {b:Addr} {o:Obj},s₁.heap.get? b = some o -> H b = none -> (hidT s₁.heap H).get? b = some o:=fun e n => hidT_get e n
  have noA:∀ {b:Addr} {o:Obj} {es:Array DictEntry} {ep:Nat},s₁.heap.get? b = some o -> o.data = .dict es ep -> H b = none:=fun {b o es ep} e d => by
   cases q:H b with
   | none => rfl
   | some u =>
    have e':b = a:=hA b (by rw [q]; simp)
    subst e'
    rw [ha] at e; cases e
    have d':Data.seq vs.toArray _ = Data.dict es ep:=d
    cases d'
  have nsK:∀ {b:Addr} {m:Str -> Option Value},s₁.heap.Ns b m -> (hidT s₁.heap H).Ns b m:=fun {b m} ⟨o,es,ep,e,d,r⟩ => ⟨o,es,ep,base_of e (noA e d),d,r⟩
  have hKb:K.In (hidT s₁.heap H):=fun b o e => base_of (KX b o e) (by
   cases q:H b with
   | none => rfl
   | some u =>
    have e':b = a:=hA b (by rw [q]; simp)
    subst e'
    rw [hK (by rw [q]; simp)] at e; cases e)
  have hM:Mod K mg (hidT s₁.heap H):=⟨hKb,nsK hns,⟨mb,nsK hb,hbb⟩,let ⟨mc,h1,h2⟩:=hlim; ⟨mc,nsK h1,h2⟩⟩
  have e0:Env0 P w K mg (hidT s₁.heap H) callerA [] s₁ H:=⟨rfl,hM,fun b o e => of_hidT e,Nat.le_of_eq (hidT_size _ _),trivial,fun b hb => absurd (show b ∈ ([]:List Addr) from hb) (by simp),hok,.of_eq hg⟩
  refine codeAny_mono ((F _ hKb (nsK hns)).run callerA [] s₁ H ⟨[.ref a],[]⟩ [.ref a] [.ref a] _ _ hr e0 (hbind s₁ (.ref a)) (.cons rfl .nil) (hsp H hO hS)) fun r s' h => ?_
  cases r with
  | error e => exact (hCX H e s' h).elim
  | ok fl =>
   cases fl with
   | next => exact False.elim h
   | brk => exact False.elim h
   | cont => exact False.elim h
   | ret u =>
    obtain ⟨v,H',os,bare,un,hok',r',q⟩:=h
    have q':v = .bl true:=q
    subst q'
    obtain rfl:u = Value.bool true:=r'
    refine ⟨rfl,OldK.of_keep fun b o e => ?_,os,bare⟩
    cases q:H b with
    | none => exact un.keep b o e q (by intro z; exact absurd (show b ∈ ([]:List Addr) from z) (by simp)) (by simp)
    | some u =>
     rcases hO b with z | ⟨ob,xs,z⟩
     ·rw [q] at z; cases z
     ·have z2:=un.frzs b ob _ z
      obtain ⟨e1,_⟩:=hok b _ z
      obtain ⟨e2,_⟩:=hok' b _ z2
      rw [e] at e1; cases e1
      exact e2
 cases hk:K.lookup a with
 | some o =>
  have e:=KX a o hk
  rw [ha] at e
  cases e
  refine core (fun _ => none) (fun _ => .inl rfl) (.inr ⟨_,vs.toArray,_,hk,rfl,rfl,rfl,by rw [List.size_toArray,lenV]; exact hl,by simpa using rv⟩) (fun b u z => by have z':(none:Option HO) = some u:=z; cases z') (fun b z => absurd rfl z) fun z => absurd rfl z
 | none =>
  refine core (fun b => if b = a then some (.frz { cls:=.type "list",data:=.seq vs.toArray } (.lst (ns.map V.int))) else none) (fun b => ?_) (.inl (.inr ⟨{ cls:=.type "list",data:=.seq vs.toArray },if_pos rfl⟩)) (fun b u z => ?_) (fun b z => ?_) fun _ => hk
  ·by_cases hb:b = a
   ·exact .inr ⟨_,_,if_pos hb⟩
   ·exact .inl (if_neg hb)
  ·by_cases hb:b = a
   ·have z':=(if_pos hb).symm.trans z
    cases z'
    subst hb
    exact ⟨ha,by rw [List.length_map]; exact hl,vs,_,rv,ha⟩
   ·have z':=(if_neg hb).symm.trans z
    cases z'
  ·by_cases hb:b = a
   ·exact hb
   ·exact absurd (if_neg hb) z
end L2
namespace L2
open PySem PySem.Spec PyProof.Rows
abbrev KOf {K:PySem.W.Frag} {h:Heap} (_:K.In h):PySem.W.Frag:=K
theorem walk_of {l:PySem.W.OpenLaw} {n k:Nat} {q:Program} {loose:List Str} {XP:(Str -> Option Value) -> Heap -> Prop} {YP:World -> Heap -> Prop} {d:DefRec} {K:Params -> PySem.W.Frag} {CX:World -> CXT} {sp:World -> Sp} {x:Str}
  (hn:l.most = some n) (hn2:n <= sizeLine) (hdf:d.params.defaults = []) (hr:Room k callerA)
  (hY:∀ (w:World) (h:Heap),YP w h -> (K w.params).In h)
  (F:∀ (w:World) (mg:Str -> Option Value) (fa:Addr) (h:Heap),(K w.params).In h -> h.Ns mainGlobals mg -> mg d.name = some (.ref fa) ->
   ∃ fd:FuncData,(∀ (s:Shared) (u:Value),BindsTo s fd ⟨[u],[]⟩ [(x,u)]) /\
    ∀ base:Heap,(K w.params).In base -> base.Ns mainGlobals mg -> FnOk l.prog w (K w.params) mg base (CX w) k fa fd [x] (sp w))
  (hsp:∀ (w:World) (H:Hp) (a:Addr) (ns:List Int),ns.length <= n -> Only H -> SqL (K w.params) H a (ns.map V.int) -> sp w [.ref a] H (fun v _ => v = .bl true) fun _ _ _ => False)
  (hCX:∀ (w:World) (H:Hp) (s:Shared) (e:Value) (s':Shared),CX w [] H s (fun _ _ _ => False) e s' -> False) :
  PySem.W.WalkO q loose XP YP l.row.toRowW d [] (fun f vs => PySem.call f vs):=by
 refine Att.attach_call hn hdf fun w s₀ s₁ mg mb fa o pm cd doc a vs ns G Y ho hd hcd hmg hobj hints hlen hg => ?_
 have KX:=hY w _ Y
 obtain ⟨fd,hb,hF⟩:=F w mg fa _ KX G.T.g hmg
 exact law_call KX G.T.g G.T.b G.T.builtins G.T.nolimit hg hobj hints (Nat.le_trans hlen hn2) hr hF hb (fun H hO hS => hsp w H a ns hlen hO hS) fun H e s' => hCX w H s₁ e s'
theorem walk_ofK {l:PySem.W.OpenLaw} {n k:Nat} {q:Program} {loose:List Str} {XP:(Str -> Option Value) -> Heap -> Prop} {YP:World -> Heap -> Prop} {d:DefRec} {K:Params -> PySem.W.Frag} {CX:CXT} {sp:PySem.W.Frag -> Sp} {x:Str}
  (hn:l.most = some n) (hn2:n <= sizeLine) (hdf:d.params.defaults = []) (hr:Room k callerA)
  (hY:∀ (w:World) (h:Heap),YP w h -> (K w.params).In h)
  (F:∀ (w:World) (mg:Str -> Option Value) (fa:Addr) (h:Heap),(K w.params).In h -> h.Ns mainGlobals mg -> mg d.name = some (.ref fa) ->
   ∃ fd:FuncData,(∀ (s:Shared) (u:Value),BindsTo s fd ⟨[u],[]⟩ [(x,u)]) /\
    ∀ base:Heap,(K w.params).In base -> base.Ns mainGlobals mg -> FnOk l.prog w (K w.params) mg base CX k fa fd [x] (sp (K w.params)))
  (hsp:∀ (K:PySem.W.Frag) (H:Hp) (a:Addr) (ns:List Int),ns.length <= n -> Only H -> SqL K H a (ns.map V.int) -> sp K [.ref a] H (fun v _ => v = .bl true) fun _ _ _ => False)
  (hCX:∀ (H:Hp) (s:Shared) (e:Value) (s':Shared),CX [] H s (fun _ _ _ => False) e s' -> False) :
  PySem.W.WalkO q loose XP YP l.row.toRowW d [] (fun f vs => PySem.call f vs) :=
 walk_of (K:=K) (CX:=fun _ => CX) (sp:=fun w => sp (K w.params)) hn hn2 hdf hr hY F (fun w H a ns h1 h2 h3 => hsp (K w.params) H a ns h1 h2 h3) fun _ H s e s' => hCX H s e s'
end L2
namespace L2
open PySem PySem.Spec PyProof.Rows
def inClass (s:Stmt) (j:Nat):Stmt:=match s with
 | .ClassDef _ _ _ body _ _ _ _ _ _ _ => body.getD j (.Pass ⟨0,0,0,0⟩)
 | _ => .Pass ⟨0,0,0,0⟩
def defArgs (s:Stmt):Arguments:=match s with
 | .FunctionDef _ a _ _ _ _ _ _ _ _ => a
 | _ => { posonlyargs:=[],args:=[],vararg:=none,kwonlyargs:=[],kw_defaults:=[],kwarg:=none,defaults:=[] }
def defBody (s:Stmt):List Stmt:=match s with
 | .FunctionDef _ _ b _ _ _ _ _ _ _ => b
 | _ => []
def defScope (s:Stmt):Scope:=match s with
 | .FunctionDef _ _ _ _ _ _ sc _ _ _ => sc
 | _ => { kind:=.function,names:=[],isGenerator:=false,isCoroutine:=false }
abbrev CX0:CXT:=fun _ _ _ _ _ _ => False
abbrev E0:XK:=fun _ _ _ => False
theorem pass0 {X:Cx}:Passes CX0 X E0:=fun _ _ _ _ _ _ _ h => h.elim
structure Fun (K:PySem.W.Frag) (x qual:Str) (st:Stmt) (f:Addr) (fd:FuncData):Prop where
 ex:∃ (oc:Value) (od:Option Addr) (kV doc pm:Value) (an:Option Addr) (cdv ct:Value) (osl:Array (Option Value)),
  fd = PySem.W.fnOf x qual (defArgs st) (defBody st) (defScope st) .none kV doc pm an cdv ct /\ K.lookup f = some ⟨oc,od,.func fd,osl⟩ /\ PySem.W.codeIn K cdv qual = true
 kp:PySem.W.keepIn K (.ref f) = true
section
variable {P:Program} {w:World} {K:PySem.W.Frag} {mg:Str -> Option Value} {base:Heap}
theorem Fun.ok {x qual:Str} {st:Stmt} {f:Addr} {fd:FuncData} {N ps:List Str} {k:Nat} {sp:Sp} (F:Fun K x qual st f fd) (S:FnScope N ps (defScope st)) (len:∀ vs H Q E,sp vs H Q E -> vs.length = ps.length)
  (hbody:∀ (cdv:Value) (A:Around) (outer:List Env) (s:Shared) (H:Hp) (vs:List V) (Q:VK) (E:XK),Room k (A.deeper (envOfC qual (defScope st) s.heap.objs.size f cdv)) -> sp vs H Q E ->
   ∃ t,PSs (cxOf CX0 P w K mg base N qual (defScope st) f cdv A outer s H E).nox (defBody st) t /\ t { nx:=fun _ H' => Q .non H',rt:=Q } (start N vs) H):FnOk P w K mg base CX0 (k + 1) f fd ps sp:=by
 obtain ⟨oc,od,kV,doc,pm,an,cdv,ct,osl,rfl,lk,hcd⟩:=F.ex
 refine fn_of lk hcd S len fun A outer s H vs Q E hr hsp => ?_
 obtain ⟨t,h,q⟩:=hbody cdv A outer s H vs Q E hr hsp
 exact ⟨t,h.nox,q⟩
theorem Fun.binds {x qual:Str} {st:Stmt} {f:Addr} {fd:FuncData} {ps:List Str} (F:Fun K x qual st f fd)
  (h:∀ (kV doc pm:Value) (an:Option Addr) (cdv ct:Value) (us:List Value),us.length = ps.length -> bindArgs (PySem.W.fnOf x qual (defArgs st) (defBody st) (defScope st) .none kV doc pm an cdv ct) ⟨us,[]⟩ = pure (ps.zip us)):Binds K fd ps []:=by
 obtain ⟨oc,od,kV,doc,pm,an,cdv,ct,osl,rfl,lk,hcd⟩:=F.ex
 exact .all (h kV doc pm an cdv ct)
end
theorem hu_of {A:Around} {k:Nat} (hr:Room k A):A.units + 1 < cLine:=Nat.lt_of_le_of_lt (Nat.add_le_add_left (by decide:1 <= 64) _) hr.units
section
variable {X:Cx}
theorem pv (i:Nat) {x:Str} {pos:Pos} (hN:X.N[i]? = some x:=by rfl) (hv:Vis X.env.scope x:=by first | exact Or.inl rfl | exact Or.inr (Or.inl rfl) | exact Or.inr (Or.inr rfl)) (hd:(x == ("__debug__" : Str)) = false:=by decide)
  (hcd:(x == ("__classdict__" : Str)) = false:=by decide):PE X (.Name x pos) (tVar i):=pe_var hN hv hd hcd
end
theorem iteF {A B:Prop} (h:B):if false = true then A else B:=by
 rw [if_neg Bool.false_ne_true]
 exact h
theorem iteT {A B:Prop} (h:A):if true = true then A else B:=by
 rw [if_pos rfl]
 exact h
theorem ite2 {c A B:Prop} [Decidable c] (h1:c -> A) (h2:¬ c -> B):if c then A else B:=by
 by_cases h:c
 ·rw [if_pos h]
  exact h1 h
 ·rw [if_neg h]
  exact h2 h
def Same (H H':Hp):Prop:=∀ b o,H b = some o -> H' b = some o
theorem Same.refl (H:Hp):Same H H:=fun _ _ h => h
theorem Same.trans {H H1 H2:Hp} (a:Same H H1) (b:Same H1 H2):Same H H2:=fun c o h => b c o (a c o h)
theorem Same.free {H H':Hp} (e:Same H H') {l:Addr} (h:H' l = Option.none):H l = Option.none:=by
 cases q:H l with
 | none => rfl
 | some o =>
  rw [e l o q] at h
  cases h
theorem Same.seq {K:PySem.W.Frag} {H H':Hp} {a:Addr} {xs:List V} (e:Same H H') (h:SqL K H a xs):SqL K H' a xs:=by
 rcases h with (h | ⟨o,h⟩) | h
 ·exact .inl (.inl (e _ _ h))
 ·exact .inl (.inr ⟨o,e _ _ h⟩)
 ·exact .inr h
section
variable {κ:Type} [DecidableEq κ]
theorem dropK_neg {p:κ × V} {r:List (κ × V)} {k:κ} (e:¬ p.1 = k):dropK (p :: r) k = p :: dropK r k:=by
 unfold dropK
 rw [List.filter_cons,if_pos (by simp [e])]
end
end L2
set_option Elab.async false
set_option linter.all false
set_option maxRecDepth 100000
namespace L2
open PySem PySem.Spec PyProof.Rows
abbrev Kn:=List (Addr × HO)
structure Has (H:Hp) (L:Kn):Prop where
 nd:(L.map (·.1)).Nodup
 at_:∀ x ∈ L,H x.1 = some x.2
namespace Has
variable {H H':Hp} {L L' X Y R:Kn} {a p:Addr} {o o':HO} {x y:Addr × HO}
theorem nil:Has H []:=⟨List.nodup_nil,fun _ h => nomatch h⟩
theorem get (h:Has H L) (i:Nat) (e:L[i]? = some (a,o)):H a = some o:=h.at_ (a,o) (List.mem_of_getElem? e)
theorem alloc (h:Has H L) (hp:H p = none) (o:HO):Has (upd H p o) ((p,o) :: L):=by
 have ne:∀ x ∈ L,x.1 ≠ p:=fun x hx e => by
  have:=h.at_ x hx
  rw [e,hp] at this; cases this
 refine ⟨?_,fun x hx => ?_⟩
 ·rw [List.map_cons,List.nodup_cons]
  refine ⟨fun m => ?_,h.nd⟩
  obtain ⟨x,hx,e⟩:=List.mem_map.mp m
  exact ne x hx e
 ·rcases List.mem_cons.mp hx with rfl | hx
  ·exact upd_same
  ·rw [upd_ne (ne x hx)]; exact h.at_ x hx
theorem same (h:Has H L) (s:Same H H'):Has H' L:=⟨h.nd,fun x hx => s _ _ (h.at_ x hx)⟩
theorem sub (h:Has H L) (s:L'.Sublist L):Has H L':=⟨h.nd.sublist (s.map _),fun x hx => h.at_ x (s.subset hx)⟩
theorem perm (h:Has H L) (s:L.Perm L'):Has H L':=⟨(s.map _).nodup_iff.mp h.nd,fun x hx => h.at_ x (s.mem_iff.mpr hx)⟩
theorem tail (h:Has H (x :: L)):Has H L:=h.sub (List.sublist_cons_self _ _)
theorem right (h:Has H (X ++ R)):Has H R:=h.sub (List.sublist_append_right _ _)
theorem left (h:Has H (X ++ R)):Has H X:=h.sub (List.sublist_append_left _ _)
theorem swap2 (h:Has H (x :: y :: L)):Has H (y :: x :: L):=h.perm (List.Perm.swap _ _ _)
theorem comm (h:Has H (X ++ (Y ++ R))):Has H (Y ++ (X ++ R)):=h.perm (by rw [<- List.append_assoc,<- List.append_assoc]; exact List.perm_append_comm.append_right R)
theorem out (h:Has H (Y ++ (x :: R))):Has H (x :: (Y ++ R)):=h.perm List.perm_middle
theorem ne2 (h:Has H ((a,o) :: R)) {b:Addr} (m:b ∈ R.map (·.1)):b ≠ a:=fun e => by
 have:=List.nodup_cons.mp (show ((a :: R.map (·.1)).Nodup) from h.nd)
 exact this.1 (e ▸ m)
theorem put (h:Has H ((a,o) :: R)) (o':HO):Has (upd H a o') ((a,o') :: R):=by
 refine ⟨h.nd,fun x hx => ?_⟩
 rcases List.mem_cons.mp hx with rfl | hx
 ·exact upd_same
 ·rw [upd_ne (h.ne2 (List.mem_map_of_mem hx))]; exact h.at_ x (List.mem_cons_of_mem _ hx)
theorem map_set_fst:∀ (L:Kn) (i:Nat),L[i]? = some (a,o) -> (L.set i (a,o')).map (·.1) = L.map (·.1)
 | [],i,e => by simp at e
 | x :: L,0,e => by simp at e; subst e; rfl
 | x :: L,i + 1,e => by
  simp only [List.set_cons_succ,List.map_cons]
  rw [map_set_fst L i (by simpa using e)]
theorem puti (h:Has H L) (i:Nat) (e:L[i]? = some (a,o)) (o':HO):Has (upd H a o') (L.set i (a,o')):=by
 have hi:i < L.length:=(List.getElem?_eq_some_iff.mp e).1
 refine ⟨by rw [map_set_fst (o':=o') L i e]; exact h.nd,fun x hx => ?_⟩
 obtain ⟨j,hj⟩:=List.getElem?_of_mem hx
 by_cases hij:j = i
 ·subst hij
  rw [List.getElem?_set_self hi] at hj
  cases hj
  exact upd_same
 ·rw [List.getElem?_set_ne (Ne.symm hij)] at hj
  have hx':x ∈ L:=List.mem_of_getElem? hj
  have:x.1 ≠ a:=fun z => by
   have e1:(L.map (·.1))[i]? = some a:=by rw [List.getElem?_map,e]; rfl
   have e2:(L.map (·.1))[j]? = some a:=by rw [List.getElem?_map,hj,<- z]; rfl
   obtain ⟨l1,q1⟩:=List.getElem?_eq_some_iff.mp e1
   obtain ⟨l2,q2⟩:=List.getElem?_eq_some_iff.mp e2
   exact hij ((List.getElem_inj h.nd).mp (q2.trans q1.symm))
  rw [upd_ne this]
  exact h.at_ x hx'
theorem ne (h:Has H L) (i j:Nat) {b:Addr} {u:HO} (e:L[i]? = some (a,o)) (e':L[j]? = some (b,u)) (hij:i ≠ j):a ≠ b:=fun z => by
 have e1:(L.map (·.1))[i]? = some a:=by rw [List.getElem?_map,e]; rfl
 have e2:(L.map (·.1))[j]? = some a:=by rw [List.getElem?_map,e',<- z]; rfl
 obtain ⟨l1,q1⟩:=List.getElem?_eq_some_iff.mp e1
 obtain ⟨l2,q2⟩:=List.getElem?_eq_some_iff.mp e2
 exact hij ((List.getElem_inj h.nd).mp (q1.trans q2.symm))
end Has
section
variable {X:Cx}
theorem call_isi:CallR X (.builtin "isinstance") (fun xs H Q => ∃ x T t b,xs = [x,.ty T] /\ TyOf X.K H x t /\ PySem.W.kitOne X.K t (.type T) = some b /\ Q (.bl b) H):=by
 intro pins s σ H xs us Q I r h
 obtain ⟨x,T,t,b,rfl,ty,e,q⟩:=h
 obtain ⟨u1,u2,rfl,r1,r2⟩:=vals2 r
 cases (show u2 = Value.type T from r2)
 exact isinst_ok I r1 ty e fun tk => ⟨.bl b,H,I.tok _,rfl,q⟩
end
end L2
namespace L2
open PySem PySem.Spec PyProof.Rows
theorem SqL.alloc {K:PySem.W.Frag} {H:Hp} {a p:Addr} {xs:List V} {o:HO} (h:SqL K H a xs) (hp:H p = none):SqL K (upd H p o) a xs :=
 Same.seq (fun b u e => by rw [upd_ne (ne_of_none e hp)]; exact e) h
theorem cut_take (xs:List V) (n:Int) (h0:0 <= n):cutV xs none (some n) = xs.take n.toNat:=by
 show ((xs.drop 0).take ((if n < 0 then (n + (xs.length:Int)).toNat else min n.toNat xs.length) - 0)) = _
 rw [if_neg (by omega),List.drop_zero,Nat.sub_zero]
 by_cases hl:n.toNat <= xs.length
 ·rw [Nat.min_eq_left hl]
 ·rw [Nat.min_eq_right (by omega),List.take_of_length_le (Nat.le_refl _),List.take_of_length_le (by omega)]
end L2
namespace L2
open PySem PySem.Spec PyProof.Rows
theorem sizeOk {n:Nat} (h:n <= 1000000):n < sizeLine:=Nat.lt_of_le_of_lt h (by decide)
end L2
namespace L2
theorem ifF {b:Bool} {A B:Prop} (e:b = false) (h:B):if b = true then A else B:=by subst e; exact iteF h
theorem ifT {b:Bool} {A B:Prop} (e:b = true) (h:A):if b = true then A else B:=by subst e; exact iteT h
theorem if2 {b:Bool} {A B:Prop} (h1:b = true -> A) (h2:b = false -> B):if b = true then A else B:=by
 cases b
 ·exact iteF (h2 rfl)
 ·exact iteT (h1 rfl)
theorem ifd {c:Prop} [Decidable c] {A B:Prop} (h1:c -> A) (h2:¬ c -> B):if decide c = true then A else B:=by
 by_cases h:c
 ·exact ifT (decide_eq_true h) (h1 h)
 ·exact ifF (decide_eq_false h) (h2 h)
theorem ifdn {c:Prop} [Decidable c] {A B:Prop} (h1:¬ c -> A) (h2:c -> B):if (!decide c) = true then A else B:=by
 by_cases h:c
 ·exact ifF (by simp [h]) (h2 h)
 ·exact ifT (by simp [h]) (h1 h)
end L2
set_option Elab.async false
set_option linter.all false
set_option maxRecDepth 100000
namespace L2
open PySem PySem.Spec PyProof.Rows
def clOf (cells : List (Str × Addr)) : List (Str × NameKind) -> List (Str × Addr) -> List (Str × Addr)
  | [], acc => acc
  | (n, k) :: r, acc => if k == .free then clOf cells r ((n, (cells.lookup n).getD 0) :: acc) else clOf cells r acc
theorem closure_eq (scope : Scope) (env : Env) (h : ∀ y ∈ scope.names, y.2 = .free -> ∃ c, env.cells.lookup y.1 = some c) : closureFor scope env = pure (clOf env.cells scope.names []) := by
  unfold closureFor
  have all : ∀ (l : List (Str × NameKind)) (acc : List (Str × Addr)), (∀ y ∈ l, y.2 = .free -> ∃ c, env.cells.lookup y.1 = some c) ->
      (forIn l acc fun x r => match x with
        | (name, kind) => if (kind == .free) = true then do let a <- cellOf env name; pure (ForInStep.yield ((name, a) :: r)) else pure (ForInStep.yield r)) = (pure (clOf env.cells l acc) : Sem _) := by
    intro l
    induction l with
    | nil => intro acc _; rfl
    | cons y l ih =>
      obtain ⟨n, k⟩ := y
      intro acc hl
      rw [List.forIn_cons]
      by_cases hk : (k == NameKind.free) = true
      · obtain ⟨c, hc⟩ := hl (n, k) List.mem_cons_self (by simpa using hk)
        have e : cellOf env n = pure c := by unfold cellOf; rw [hc]
        simp only [hk, if_true, e, pure_bind, clOf, hc, Option.getD_some]
        exact ih _ fun y hy => hl y (List.mem_cons_of_mem _ hy)
      · simp only [hk, if_false, pure_bind, clOf]
        exact ih _ fun y hy => hl y (List.mem_cons_of_mem _ hy)
  have := all scope.names [] h
  simp only [this, pure_bind]
theorem clOf_sub {cells : List (Str × Addr)} {x : Str} {c : Addr} : ∀ (l : List (Str × NameKind)) (acc : List (Str × Addr)), (∀ y ∈ l, y.2 = .free -> ∃ c, cells.lookup y.1 = some c) ->
    (∀ y d, acc.lookup y = some d -> cells.lookup y = some d) -> (clOf cells l acc).lookup x = some c -> cells.lookup x = some c
  | [], acc, _, ha, h => ha x c h
  | (n, k) :: r, acc, hl, ha, h => by
    unfold clOf at h
    split at h
    · rename_i hk
      obtain ⟨d, hd⟩ := hl (n, k) List.mem_cons_self (by simpa using hk)
      refine clOf_sub r _ (fun y hy => hl y (List.mem_cons_of_mem _ hy)) (fun y e he => ?_) h
      rw [List.lookup_cons] at he
      split at he
      · rename_i hyn
        have : y = n := by simpa using hyn
        subst this
        cases he
        rw [hd]; rfl
      · exact ha y e he
    · exact clOf_sub r _ (fun y hy => hl y (List.mem_cons_of_mem _ hy)) ha h
theorem clOf_acc {cells : List (Str × Addr)} {x : Str} : ∀ (l : List (Str × NameKind)) (acc : List (Str × Addr)), (∃ c, acc.lookup x = some c) -> ∃ c, (clOf cells l acc).lookup x = some c
  | [], acc, h => h
  | (n, k) :: r, acc, h => by
    unfold clOf
    split
    · refine clOf_acc r _ ?_
      rw [List.lookup_cons]
      split
      · exact ⟨_, rfl⟩
      · exact h
    · exact clOf_acc r _ h
theorem clOf_has {cells : List (Str × Addr)} {x : Str} : ∀ (l : List (Str × NameKind)) (acc : List (Str × Addr)), (x, NameKind.free) ∈ l -> ∃ c, (clOf cells l acc).lookup x = some c
  | [], _, h => nomatch h
  | (n, k) :: r, acc, h => by
    unfold clOf
    rcases List.mem_cons.mp h with e | h
    · cases e
      rw [if_pos (by rfl)]
      exact clOf_acc r _ ⟨(cells.lookup x).getD 0, by rw [List.lookup_cons]; simp⟩
    · split
      · exact clOf_has r _ h
      · exact clOf_has r _ h
theorem relabel_cf {env : Env} {x : Str} : ∀ (l : List (Str × NameKind)), (∀ y ∈ l, y.2 ≠ .cell) ->
    ((l.map fun (n, k) => if (k == NameKind.free && env.scope.kind == .function && env.kindOf n == some .cell) then (n, NameKind.cell) else (n, k)).lookup x = some .cell ∨
     (l.map fun (n, k) => if (k == NameKind.free && env.scope.kind == .function && env.kindOf n == some .cell) then (n, NameKind.cell) else (n, k)).lookup x = some .free) -> (x, NameKind.free) ∈ l
  | [], _, h => by simp at h
  | (n, k) :: r, hl, h => by
    have ih := relabel_cf (env := env) (x := x) r fun y hy => hl y (List.mem_cons_of_mem _ hy)
    by_cases hc : (k == NameKind.free && env.scope.kind == .function && env.kindOf n == some .cell) = true
    · have hkf : k = .free := by
        rw [Bool.and_eq_true, Bool.and_eq_true] at hc
        simpa using hc.1.1
      subst hkf
      simp only [List.map_cons, hc, if_true, List.lookup_cons] at h
      cases hx : x == n with
      | true =>
        have : x = n := by simpa using hx
        subst this
        exact List.mem_cons_self
      | false =>
        simp only [hx] at h
        exact List.mem_cons_of_mem _ (ih h)
    · simp only [List.map_cons, if_neg hc, List.lookup_cons] at h
      cases hx : x == n with
      | true =>
        have : x = n := by simpa using hx
        subst this
        simp only [hx] at h
        rcases h with h | h
        · cases h
          exact absurd rfl (hl (x, .cell) List.mem_cons_self)
        · cases h
          exact List.mem_cons_self
      | false =>
        simp only [hx] at h
        exact List.mem_cons_of_mem _ (ih h)
def PTs (X:Cx) (ifs:List Expr) (t:TT):Prop :=
 ∀ (pins:List (Addr × Obj)) (s:Shared) (σ:St) (H:Hp) (Q:Bool -> Hp -> Prop),Inv X pins σ H s -> t σ H Q ->
  wpAny (model X.prog X.w) X.A (forIn ifs true fun c r => if r = true then do let ok <- isTrue c X.env (eval c X.env); pure (ForInStep.yield ok) else pure (ForInStep.yield r)) (TP X pins σ Q) X.xe s
def tTrue:TT:=fun _ H Q => Q true H
theorem pts_nil {X:Cx}:PTs X [] tTrue:=fun _ _ _ H _ I h => wpAny_tests_nil ⟨H,I,h⟩
theorem compLoop_go {prog:Program} {w:World} {A:Around} {R:Result -> Shared -> Prop} {s:Shared} {elt target iter:Expr} {ifs:List Expr} {scope:Scope} {pos:Pos} {it acc:Value} {env:Env} (I:Nat -> Shared -> Prop)
  (turn:∀ n s,I n s -> wpAny (model prog w) A (pyNext it) (fun r s₁ => match r with
   | none => R (.ok .next) s₁
   | some v => wpAny (model prog w) A (letOwnedTupleGo target it v) (fun _ s₀ => wpAny (model prog w) A (assign target env v) (fun _ s₂ =>
     wpAny (model prog w) A (forIn ifs true fun c r => if r = true then do let ok <- isTrue c env (eval c env); pure (ForInStep.yield ok) else pure (ForInStep.yield r)) (fun ok s₃ =>
      if ok = true then wpAny (model prog w) A (eval elt env) (fun x s₄ =>
       wpAny (model prog w) A (call (.builtin "list.append") [acc,x]) (fun _ s₅ => ∃ m,m < n /\ I m s₅) (fun _ _ => False) s₄) (fun _ _ => False) s₃
      else ∃ m,m < n /\ I m s₃) (fun _ _ => False) s₂) (fun _ _ => False) s₀) (fun _ _ => False) s₁) (fun _ _ => False) s)
  (n:Nat) (h:I n s) :
  codeAny (model prog w) A (.compLoop (.ListComp elt [⟨target,iter,ifs,0⟩] scope pos) 0 it acc env) R s:=by
 have no:∀ {α:Type} {t:Sem α} {Q:α -> Shared -> Prop} {s:Shared} {E:Value -> Shared -> Prop},wpAny (model prog w) A t Q (fun _ _ => False) s -> wpAny (model prog w) A t Q E s:=fun h => wpAny_mono h (fun _ _ q => q) fun _ _ z => False.elim z
 refine codeAny_loop rfl I (fun n s hI => ?_) n h
 show wpAny _ A ((compTurn (.ListComp elt [⟨target,iter,ifs,0⟩] scope pos) 0 it acc env).onRaise (fun x => do noteFrame x env; theTreesLotGoes x)) _ _ s
 refine wpAny_noted ?_
 rw [compTurn_list]
 refine wpAny_bind (wpAny_standAt (wpAny_bind (wpAny_mono (no (turn n s hI)) (fun r s₁ h₁ => ?_) fun _ _ h' => h')))
 cases r with
 | none => exact wpAny_pure h₁
 | some v =>
  refine wpAny_bind (wpAny_mono (no h₁) (fun _ s₀ h₀ => ?_) fun _ _ h' => h')
  refine wpAny_bind (wpAny_mono (no h₀) (fun _ s₂ h₂ => wpAny_bind (wpAny_mono (no h₂) (fun ok s₃ h₃ => ?_) fun _ _ h' => h')) fun _ _ h' => h')
  cases ok with
  | false => exact wpAny_pure ⟨rfl,h₃⟩
  | true =>
   exact wpAny_bind (wpAny_bind (wpAny_mono (no h₃) (fun x s₄ h₄ => wpAny_bind (wpAny_mono (no h₄) (fun _ s₅ h₅ => wpAny_pure (wpAny_pure ⟨rfl,h₅⟩)) fun _ _ h' => h')) fun _ _ h' => h'))
end L2
set_option Elab.async false
set_option linter.all false
set_option maxRecDepth 100000
namespace L2
open PySem PySem.Spec PyProof.Rows
abbrev blk (X:Cx) (scope:Scope) (N':List Str) (C:Addr) (s₀:Shared) (H₀:Hp) (fp:List Addr) (pins:List (Addr × Obj)):Cx :=
 { X with N:=N',s₀:=s₀,H₀:=H₀,env:=compEnvC scope (clOf X.env.cells scope.names []) C X.env,outer:=X.stack,stack:=X.stack,ex:=fp,fn:=fun _ => false,pn:=X.pn ++ pins,xe:=fun _ _ => False }
def tLC (wi:TI) (k:Nat) (g:TG) (tc:TT) (te:TE):TE:=fun σ H Q => wi σ H fun J H1 => ∀ D,H1 D = none -> ∃ W:Nat -> Nat -> List V -> Hp -> Prop,(∃ m,W 0 m [] (upd H1 D (.lst []))) /\ ∀ i m ys H,W i m ys H -> H D = some (.lst ys) /\
 ((J.stop i H /\ Q (.ref D) H) ∨ (J.go i H /\ ∀ x H',J.yld i H x H' -> g x (List.replicate k none ++ σ) H' fun σ2 H2 => σ2.drop k = σ /\ tc σ2 H2 fun b H3 =>
  if b = true then te σ2 H3 fun y H4 => ys.length < sizeLine /\ H4 D = some (.lst ys) /\ ∃ m',m' < m /\ W (i + 1) m' (ys ++ [y]) (upd H4 D (.lst (ys ++ [y]))) else ∃ m',m' < m /\ W (i + 1) m' ys H3))
section
variable {X:Cx}
theorem pe_lc {elt tg iter:Expr} {ifs:List Expr} {scope:Scope} {pos:Pos} {wi:TI} {k:Nat} {g:TG} {tc:TT} {te:TE} (N':List Str) (hc:X.calm = true) (hi:PI X tg iter wi)
  (hg:∀ C s₀ H₀ fp pins,PG (blk X scope N' C s₀ H₀ fp pins) tg g) (ht:∀ C s₀ H₀ fp pins,PTs (blk X scope N' C s₀ H₀ fp pins) ifs tc) (he:∀ C s₀ H₀ fp pins,PE (blk X scope N' C s₀ H₀ fp pins) elt te)
  (hk:scope.kind = .function) (hcell:∀ y ∈ scope.names,y.2 ≠ .cell) (hnames:∀ y ∈ scope.names,y.2 = .local -> scope.names.lookup y.1 = some .local)
  {esc:Scope} (hsc:X.env.scope = esc) (hfr':∀ y ∈ scope.names,y.2 = .free -> esc.names.lookup y.1 = some .cell ∨ esc.names.lookup y.1 = some .free)
  (hlen:N'.length = k + X.N.length)
  (hN:∀ (i:Nat) (x:Str),N'[i + k]? = some x -> (x,NameKind.free) ∈ scope.names -> X.N[i]? = some x)
  (hN2:∀ x ∈ N'.drop k,scope.names.lookup x ≠ some .local)
  (hs:∀ x,foldedSetIterable iter X.env x = pure x:=by intro _; rfl) :
  PE X (.ListComp elt [⟨tg,iter,ifs,0⟩] scope pos) (tLC wi k g tc te):=by
 intro pins s σ H Q I h
 have hfr:∀ y ∈ scope.names,y.2 = .free -> X.env.kindOf y.1 = some .cell ∨ X.env.kindOf y.1 = some .free:=fun y hy hf => by
  show X.env.scope.names.lookup y.1 = _ ∨ X.env.scope.names.lookup y.1 = _
  rw [hsc]; exact hfr' y hy hf
 have hcells:∀ y ∈ scope.names,y.2 = .free -> ∃ c,X.env.cells.lookup y.1 = some c:=fun y hy hf => I.ok.has y.1 (hfr y hy hf)
 have hclos:=closure_eq scope X.env hcells
 rw [eval_ListComp]
 refine wpAny_comprehension_free (use:=none) rfl hs hclos hk hnames (thn (hi pins s σ H _ I h) fun v s1 h1 => thn h1 fun itv s2 h2 => ?_)
 obtain ⟨it,fp,tn,J,H2,e,I2,T,st2,f2,R⟩:=h2
 subst e
 refine wpAny_newObj_type ?_
 have hD:H2 s2.heap.objs.size = none:=I2.hok.fresh (Nat.le_refl _)
 obtain ⟨W,⟨m0,w0⟩,turn⟩:=R _ hD
 generalize eD:s2.heap.objs.size = D at *
 have I3:Inv X pins σ (upd H2 D (.lst [])) { s2 with heap:=s2.heap.push { cls:=.type "list",dict:=none,data:=.seq ([]:List Value).toArray } } :=
  I2.laid (a:=D) (o:=.lst []) (t':=s2.toks) (fun b u e => Heap.get?_push_of_some _ e) (Nat.le_of_eq eD) ⟨Nat.zero_le _,[],0,.nil,by rw [<- eD]; exact Heap.get?_push_size _ rfl⟩
 generalize e3:({ s2 with heap:=s2.heap.push { cls:=.type "list",dict:=none,data:=.seq ([]:List Value).toArray } }:Shared) = s3 at *
 have st3:tn 0 s3.heap:=T.keep _ _ _ st2 fun b _ o e => by rw [<- e3]; exact Heap.get?_push_of_some _ e
 have lt2:∀ b ∈ fp,b < s2.heap.objs.size:=fun b hb => by
  obtain ⟨o,e,_⟩:=T.obj _ _ st2 b hb
  exact Heap.lt_size e
 have neD:∀ b ∈ fp,b ≠ D:=fun b hb => by
  have:=lt2 b hb
  rw [eD] at this
  exact Nat.ne_of_lt this
 have f3:∀ b ∈ fp,FpOk X pins (upd H2 D (.lst [])) b:=fun b hb => ⟨by rw [upd_ne (neD b hb)]; exact (f2 b hb).1,(f2 b hb).2⟩
 generalize upd H2 D (.lst []) = H3 at *
 refine wpAny_newFunctionEnv hcell (by intro y hy; simp at hy) (fun h₁ hns₁ hsb₁ => ?_) hk
 try dsimp only at hns₁ hsb₁ ⊢
 have lt3:∀ b ∈ fp,b < s3.heap.objs.size:=fun b hb => by
  obtain ⟨o,e,_⟩:=T.obj _ _ st3 b hb
  exact Heap.lt_size e
 generalize eC:s3.heap.objs.size = C at *
 have kp:∀ b o,s3.heap.get? b = some o -> h₁.get? b = some o:=fun b o e => (hsb₁.2 b (by rw [<- eC]; exact Nat.ne_of_lt (Heap.lt_size e))).trans (Heap.get?_push_of_some _ e)
 have subC:∀ x c,(clOf X.env.cells scope.names []).lookup x = some c -> X.env.cells.lookup x = some c:=fun x c e => clOf_sub scope.names [] hcells (fun y d z => by simp at z) e
 have hCnone:H3 C = none:=I3.hok.fresh (Nat.le_of_eq eC)
 have ok':(blk X scope N' C s3 H3 fp pins).Ok:={
  mod:=I3.ok.mod
  kind:=hk
  glob:=I3.ok.glob
  blt:=I3.ok.blt
  above:=Nat.le_of_eq eC
  inj:=fun x y c a b => I3.ok.inj x y c (subC x c a) (subC y c b)
  has:=fun x hx => clOf_has scope.names [] (relabel_cf scope.names hcell hx)
  cab:=fun x c a _ => absurd a Bool.false_ne_true
  hd:=I3.ok.hd
  frames:=I3.ok.frames
  stk:=.inl rfl
  exf:=fun b hb => ⟨by have:=lt3 b hb; exact Nat.ne_of_lt this,fun x c e => (f3 b hb).2.2.2.2.1 x c (subC x c e)⟩
  bs:=I3.bs
  bsz:=Nat.le_trans I3.ok.bsz I3.sz
  noex:=fun b o e hb => by
   rcases (f3 b hb).2.2.2.1 with z | z
   ·exact I3.ok.noex b o e z
   ·exact absurd (Nat.lt_of_lt_of_le (Heap.lt_size e) (Nat.le_trans I3.ok.bsz z)) (Nat.lt_irrefl _)
  exfs:=fun b hb z => by
   rcases List.mem_cons.mp (I3.stkSub b z) with e | e
   ·exact (f3 b hb).2.1 e
   ·exact (f3 b hb).2.2.1 e
  funs:=I3.stack
  frf:=I3.stkFree }
 have s4os:({ s3 with heap:=h₁,toks:=s3.toks + ([]:List (Str × Value)).length }:Shared).os = s3.os:=rfl
 generalize e4:({ s3 with heap:=h₁,toks:=s3.toks + ([]:List (Str × Value)).length }:Shared) = s4 at *
 have h4:s4.heap = h₁:=by rw [<- e4]
 have J4:Inv (blk X scope N' C s3 H3 fp pins) [] (List.replicate k none ++ σ) H3 s4:=by
  refine ⟨ok',s4os,by rw [<- e4]; exact I3.bare,?_,⟨_,by rw [h4]; exact hns₁,fun i x v e1 e2 e5 => ?_⟩,fun x c e => ?_,hCnone,fun x c e => I3.freeC x c (subC x c e),fun p hp => ?_,?_,?_⟩
  ·rw [h4]; exact Un.kept kp
  ·have hik:¬ i < k:=fun hlt => by
    rw [List.getElem?_append_left (by rw [List.length_replicate]; exact hlt),List.getElem?_replicate] at e2
    split at e2 <;> cases e2
   obtain ⟨j,rfl⟩:∃ j,i = j + k:=⟨i - k,by omega⟩
   have e2':σ[j]? = some (some v):=by
    rw [List.getElem?_append_right (by rw [List.length_replicate]; omega),List.length_replicate] at e2
    have:j + k - k = j:=by omega
    rw [this] at e2; exact e2
   have nl:(relabel scope X.env).names.lookup x ≠ some .local:=fun z => by
    have q:∀ (l:List (Str × NameKind)),(l.map fun (n,k) => if (k == NameKind.free && X.env.scope.kind == .function && X.env.kindOf n == some .cell) then (n,NameKind.cell) else (n,k)).lookup x = some .local -> l.lookup x = some .local:=by
     intro l
     induction l with
     | nil => intro z; simp at z
     | cons y l ih =>
      obtain ⟨n,kk⟩:=y
      intro z
      by_cases hcc:(kk == NameKind.free && X.env.scope.kind == .function && X.env.kindOf n == some .cell) = true
      ·simp only [List.map_cons,if_pos hcc,List.lookup_cons] at z ⊢
       cases hx:x == n with
       | true => simp only [hx] at z; cases z
       | false => simp only [hx] at z ⊢; exact ih z
      ·simp only [List.map_cons,if_neg hcc,List.lookup_cons] at z ⊢
       cases hx:x == n with
       | true => simp only [hx] at z ⊢; exact z
       | false => simp only [hx] at z ⊢; exact ih z
    exact hN2 x (List.mem_of_getElem? (i:=j) (by rw [List.getElem?_drop,Nat.add_comm]; exact e1)) (q _ z)
   have hcf:(relabel scope X.env).names.lookup x = some .cell ∨ (relabel scope X.env).names.lookup x = some .free:=by
    rcases e5 with z | z | z
    ·exact absurd z nl
    ·exact .inl z
    ·exact .inr z
   have hmem:(x,NameKind.free) ∈ scope.names:=relabel_cf scope.names hcell hcf
   have hx:=hN j x e1 hmem
   obtain ⟨mo,_,hl⟩:=I3.loc
   have hkx:=hfr (x,.free) hmem rfl
   obtain ⟨u,ru,lk⟩:=hl j x v hx e2' (by
    rcases hkx with z | z
    ·exact .inr (.inl z)
    ·exact .inr (.inr z))
   refine ⟨u,ru,.inr ⟨hcf,?_⟩⟩
   rcases lk with ⟨z,_⟩ | ⟨_,c,hc1,hc2⟩
   ·rcases hkx with q | q
    ·rw [q] at z; cases z
    ·rw [q] at z; cases z
   ·obtain ⟨c',hc'⟩:=clOf_has (cells:=X.env.cells) scope.names [] hmem
    have:=subC x c' hc'
    rw [hc1] at this; cases this
    obtain ⟨oc,h5,h6⟩:=hc2
    exact ⟨c,hc',oc,by rw [h4]; exact kp _ _ h5,h6⟩
  ·obtain ⟨v,oc,h5,h6⟩:=I3.cell x c (subC x c e)
   exact ⟨v,oc,by rw [h4]; exact kp _ _ h5,h6⟩
  ·have hp':p ∈ X.pn ++ pins:=by simpa using hp
   obtain ⟨a1,a2,a3,a4,a5⟩:=I3.pin p hp'
   refine ⟨by rw [h4]; exact kp _ _ a1,a2,?_,fun z => ?_,a5⟩
   ·have:=Heap.lt_size a1
    rw [eC] at this
    exact Nat.ne_of_lt this
   ·rcases List.mem_cons.mp (I3.stkSub p.1 z) with q | q
    ·exact a3 q
    ·exact a4 q
  ·rw [h4]; exact I3.hok.kept kp
  ·rw [List.length_append,List.length_replicate,I3.len]; exact hlen.symm
 have stat:∀ {H':Hp},(∀ b ∈ fp,H' b = none) -> ∀ b ∈ fp,FpOk (blk X scope N' C s3 H3 fp pins) [] H' b:=fun hn b hb =>
  ⟨hn b hb,(ok'.exf b hb).1,ok'.exfs b hb,.inl hb,fun x c e => (ok'.exf b hb).2 x c e,fun p hp => (f3 b hb).2.2.2.2.2 p (by simpa using hp)⟩
 have fr4:∀ b ∈ fp,H3 b = none:=fun b hb => (f3 b hb).1
 have st4:tn 0 s4.heap:=T.keep _ _ _ st3 fun b _ o e => by rw [h4]; exact kp _ _ e
 have loop:codeAny (model X.prog X.w) X.A (.compLoop (.ListComp elt [⟨tg,iter,ifs,0⟩] scope pos) 0 (.ref it) (.ref D) (compEnvC scope (clOf X.env.cells scope.names []) C X.env))
   (compPost (model X.prog X.w) X.A X.xe none (EP X pins σ Q) (.ref D) C) s4:=by
  refine compLoop_go (fun n s' => ∃ i ys H',Inv (blk X scope N' C s3 H3 fp pins) [] (List.replicate k none ++ σ) H' s' /\ tn i s'.heap /\ (∀ b ∈ fp,H' b = none) /\ W i n ys H') ?_ m0 ⟨0,[],H3,J4,st4,fr4,w0⟩
  rintro n s5 ⟨i,ys,H5,I5,st5,fr5,w5⟩
  obtain ⟨hDl,stp⟩:=turn i n ys H5 w5
  rcases stp with ⟨stop,qn⟩ | ⟨go,step⟩
  ·refine thn (T.done (blk X scope N' C s3 H3 fp pins) rfl rfl rfl hc i [] s5 _ H5 (fun _ _ => False) I5 (stat fr5) st5 stop) fun r s6 ⟨hr,I6⟩ => ?_
   subst hr
   obtain ⟨m6,ns6,_⟩:=id I6.loc
   refine ⟨m6,ns6,fun h' hsb => ⟨.ref D,H5,?_,rfl,qn⟩⟩
   have hC5:H5 C = none:=I6.free
   have un6:Un (frs X.stack) fp H3 H5 s3.heap s6.heap:=I6.base
   have neC:∀ b o,s3.heap.get? b = some o -> b ≠ C:=fun b o e => by
    have:=Heap.lt_size e
    rw [eC] at this
    exact Nat.ne_of_lt this
   refine I3.call' (s':={ s6 with heap:=h' }) (ch:=fp) I6.os ⟨fun b o e a1 a2 a3 => ?_,fun b o e a1 a2 a3 => ?_,un6.free,fun b o e a3 => ?_,un6.tups,un6.frzs,un6.tbls⟩ ?_ I6.bare (fun b hb => ?_)
   ·exact (hsb.2 b (neC b o e)).trans (un6.keep b o e a1 a2 a3)
   ·obtain ⟨sl,z⟩:=un6.slot b o e a1 a2 a3
    exact ⟨sl,(hsb.2 b (neC b o e)).trans z⟩
   ·obtain ⟨o',z⟩:=un6.there b o e a3
    exact ⟨o',(hsb.2 b (neC b o e)).trans z⟩
   ·intro b u e
    refine (I6.hok b u e).stay (fun c w' hcc q => (hsb.2 c ?_).trans q) (fun _ q => q) fun _ _ q => q
    rintro rfl
    rcases hcc with z | z
    ·rw [z,e] at hC5; cases hC5
    ·rw [z] at hC5; cases hC5
   ·exact ⟨(f3 b hb).2.2.2.1,(f3 b hb).2.1,(f3 b hb).2.2.2.2.1,(f3 b hb).2.2.2.2.2⟩
  ·refine thn (T.item (blk X scope N' C s3 H3 fp pins) rfl rfl rfl hc i [] s5 _ H5 (fun _ _ => False) I5 (stat fr5) st5 go) fun r s6 ⟨u,hr,h6⟩ => ?_
   subst hr
   refine thn h6 fun _ s7 ⟨x,H7,I7,r7,y7,st7,fr7⟩ => ?_
   have I7':=I7.pinned (stat fr7) (T.obj _ _ st7)
   refine thn (hg C s3 H3 fp pins _ s7 _ H7 x u _ I7' r7 (step x H7 y7)) fun _ s8 ⟨σ8,H8,I8,d8,q8⟩ => ?_
   refine thn (ht C s3 H3 fp pins _ s8 σ8 H8 _ I8 q8) fun b s9 ⟨H9,I9,q9⟩ => ?_
   have kz:∀ (j:Nat) v,(List.replicate k none ++ σ)[j]? = some (some v) -> σ8[j]? = some (some v):=fun j v e => by
    have hik:¬ j < k:=fun hlt => by
     rw [List.getElem?_append_left (by rw [List.length_replicate]; exact hlt),List.getElem?_replicate] at e
     split at e <;> cases e
    rw [List.getElem?_append_right (by rw [List.length_replicate]; omega),List.length_replicate,<- d8,List.getElem?_drop] at e
    have:k + (j - k) = j:=by omega
    rw [this] at e; exact e
   have again:∀ {Hz:Hp} {sz:Shared} {zs:List V} {m':Nat},Inv (blk X scope N' C s3 H3 fp pins) ([] ++ pinsAt fp s7.heap) σ8 Hz sz -> m' < n -> W (i + 1) m' zs Hz ->
     ∃ m,m < n /\ ∃ i ys H',Inv (blk X scope N' C s3 H3 fp pins) [] (List.replicate k none ++ σ) H' sz /\ tn i sz.heap /\ (∀ b ∈ fp,H' b = none) /\ W i m ys H':=fun {Hz sz zs m'} Iz hm wz => by
    refine ⟨m',hm,i + 1,zs,Hz,(Iz.unpinned).weak ?_ kz,T.keep _ _ _ st7 fun b hb o e => (Iz.pin (b,o) (List.mem_append_right _ (List.mem_append_right _ (mem_pinsAt hb e)))).1,fun b hb => ?_,wz⟩
    ·rw [Iz.len]; exact I5.len
    ·obtain ⟨o,e,d⟩:=T.obj _ _ st7 b hb
     exact (Iz.pin (b,o) (List.mem_append_right _ (List.mem_append_right _ (mem_pinsAt hb e)))).2.1
   cases b with
   | false =>
    obtain ⟨m',hm,w9⟩:=(show ∃ m',m' < n /\ W (i + 1) m' ys H9 by simpa using q9)
    rw [if_neg Bool.false_ne_true]
    exact again I9 hm w9
   | true =>
    rw [if_pos rfl] at q9 ⊢
    refine thn (he C s3 H3 fp pins _ s9 σ8 H9 _ I9 q9) fun u9 s10 ⟨y,H10,I10,r10,hz,hD10,m',hm,w10⟩ => ?_
    refine thn (mt_append (X:=blk X scope N' C s3 H3 fp pins) _ s10 σ8 H10 (.ref D) [y] (.ref D) [u9] (fun _ H' => H' = upd H10 D (.lst (ys ++ [y]))) I10 rfl (.cons r10 .nil) ⟨D,ys,y,rfl,rfl,hD10,hz,rfl⟩) fun _ s11 ⟨_,H11,I11,_,e11⟩ => ?_
    subst e11
    exact again I11 hm w10
 exact codeAny_compStart_list loop (T.self _ 0 _ _ _ st4 loop)
end
end L2
set_option Elab.async false
set_option linter.all false
set_option maxRecDepth 100000
namespace L2
open PySem PySem.Spec PyProof.Rows
section
variable {X:Cx} {pins:List (Addr × Obj)} {σ:St} {H:Hp} {s:Shared} {h':Heap}
theorem Inv.turnedL {t':Nat} {fp:List Addr} (I:Inv X pins σ H s) (k:∀ b o,b ∉ fp -> s.heap.get? b = some o -> h'.get? b = some o) (hf:∀ b ∈ fp,FpOk X pins H b):Inv X pins σ H { s with heap:=h',toks:=t' }:=by
 have nit:∀ b u,H b = some u -> b ∉ fp:=fun b u e z => by rw [(hf b z).1] at e; cases e
 refine I.step (g':=s.gens) (d':=s.drawn) (ch:=fp) (fun b hb => ⟨(hf b hb).2.2.2.1,(hf b hb).2.1,(hf b hb).2.2.2.2.1,(hf b hb).2.2.2.2.2⟩) (fun b o _ _ hc e _ => k b o hc e) (fun b o _ _ hc e _ => ⟨o.slots,k b o hc e⟩) (fun _ _ _ _ n => n)
  (fun b o hc e => ⟨o,k b o hc e⟩) (fun _ _ e => e) (fun _ _ _ e => e) (fun b ps e => ⟨#[],by rw [e]; simp⟩) (fun m hm => ?_) (fun b u e => ?_) I.bare
 ·obtain ⟨o,es,ep,ho,r⟩:=hm
  exact ⟨o,es,ep,k _ o (fun z => (hf _ z).2.1 rfl) ho,r⟩
 ·refine (I.hok b u e).stay (fun c v hc q => k c v ?_ q) (fun _ q => q) fun _ _ q => q
  rcases hc with z | z
  ·rw [z]; exact nit b u e
  ·exact nit c _ z
theorem Inv.track {p:Addr} {o:HO} (I:Inv X pins σ H s) (hp:X.s₀.heap.objs.size <= p) (hL:p ≠ X.env.locals) (hc:∀ x c,X.env.cells.lookup x = some c -> c ≠ p) (hpin:∀ q ∈ X.pn ++ pins,q.1 ≠ p) (hn:H p = none)
  (new:ObjOk X.prog X.w (upd H p o) s.heap p o):Inv X pins σ (upd H p o) s:=by
 refine ⟨I.ok,I.os,I.bare,⟨I.base.keep,I.base.slot,fun b ob e n hx => ?_,I.base.there,fun b xs e => ?_,fun b ob u e => ?_,fun b ps e => ?_⟩,I.loc,I.cell,by rw [upd_ne (Ne.symm hL)]; exact I.free,fun x c e => by rw [upd_ne (hc x c e)]; exact I.freeC x c e,fun q hq => ?_,fun b u e => ?_,I.len⟩
 ·rw [upd_ne (Nat.ne_of_lt (Nat.lt_of_lt_of_le (Heap.lt_size e) hp))]; exact I.base.free b ob e n hx
 ·have:=I.base.tups b xs e
  rw [upd_ne (ne_of_none this hn)]; exact this
 ·have:=I.base.frzs b ob u e
  rw [upd_ne (ne_of_none this hn)]; exact this
 ·obtain ⟨more,e2⟩:=I.base.tbls b ps e
  exact ⟨more,by rw [upd_ne (ne_of_none e2 hn)]; exact e2⟩
 ·obtain ⟨a1,a2,a3,a4,a5⟩:=I.pin q hq
  exact ⟨a1,by rw [upd_ne (hpin q hq)]; exact a2,a3,a4,a5⟩
 ·by_cases hb:b = p
  ·subst hb; rw [upd_same] at e; cases e; exact new
  ·rw [upd_ne hb] at e
   exact (I.hok b u e).stay (fun _ _ _ q => q) (fun c q => by rw [upd_ne (ne_of_none q hn)]; exact q) fun c xs q => by rw [upd_ne (ne_of_none q hn)]; exact q
end
section
variable {X:Cx}
end
def Ite (K:PySem.W.Frag) (a:Addr):It :=
 ⟨fun i H => ∃ xs x,SqL K H a xs /\ xs[i]? = some x,
  fun i H v H' => ∃ p x,v = .ref p /\ H p = none /\ H' = upd H p (.tup [.int i,x]) /\ ∀ xs,SqL K H a xs -> xs[i]? = some x,
  fun i H => ∃ xs,SqL K H a xs /\ xs.length <= i⟩
theorem turn_enum {P:Program} {w:World} {K:PySem.W.Frag} {es:List Expr} {x1} {pos:Pos} (a e it:Addr):Turn P w K (.Tuple es x1 pos) (Ite K a) [e,it] e
  (fun i h => (∃ old,IsEnum h e it i old) /\ h.IsListIter it a i) where
 mem:=by simp
 obj:=fun i h ⟨⟨old,he⟩,h1⟩ c hc => by
  simp only [List.mem_cons,List.not_mem_nil,or_false] at hc
  rcases hc with rfl | rfl
  ·exact ⟨_,he,fun v q => by cases (show Data.fields _ = Data.cell v from q)⟩
  ·obtain ⟨o,e,_,d⟩:=h1
   exact ⟨o,e,fun v q => by rw [d] at q; cases q⟩
 keep:=fun i h h' ⟨⟨old,he⟩,h1⟩ k => ⟨⟨old,k e (by simp) _ he⟩,h1.at fun o q => k it (by simp) o q⟩
 item:=by
  intro X hP hw hK hc i pins s σ H E I hf ⟨⟨old,he⟩,h1⟩ hg
  subst hP hw hK
  obtain ⟨xs,x,hqa,hx⟩:=hg
  obtain ⟨its,rv,p,hsz⟩:=I.list hqa
  obtain ⟨ux,hux,rux⟩:=rv.get hx
  have hne:e ≠ it:=fun z => by
   obtain ⟨o1,e1,c1,_⟩:=h1
   rw [<- z,he] at e1; cases e1
   exact absurd (show Value.type "enumerate" = Value.type "list_iterator" from c1) (by decide)
  refine wpAny_pyNext_enum_item he h1 p.isList (x:=ux) (by simpa using hux) hne fun h' a1 a3 a5 a6 hk => ?_
  refine ⟨_,rfl,?_⟩
  refine wpAny_letOwnedTupleGo_enum (s:={ s with heap:=h',toks:=s.toks + 1 }) a1 fun h2' hz' hs' => ?_
  have lt:∀ b ∈ [e,it],b < s.heap.objs.size:=fun c hcm => by
   simp only [List.mem_cons,List.not_mem_nil,or_false] at hcm
   rcases hcm with rfl | rfl
   ·exact Heap.lt_size he
   ·obtain ⟨o,q,_⟩:=h1; exact Heap.lt_size q
  have h12:h2'.IsListIter it a (i + 1):=a3.extBut hs'.extBut (Ne.symm hne)
  have pz:s.heap.objs.size ≠ e:=Nat.ne_of_gt (Heap.lt_size he)
  have hp2:h2'.get? s.heap.objs.size = some { cls:=.type "tuple",data:=.seq #[.int i s.toks,ux] }:=hs'.extBut _ _ pz a5
  have kk:∀ c o,c ∉ [e,it] -> s.heap.get? c = some o -> h2'.get? c = some o:=fun c o hcm q => by
   simp only [List.mem_cons,List.not_mem_nil,or_false,not_or] at hcm
   exact hs'.extBut _ _ hcm.1 (hk c o hcm.1 hcm.2 q)
  have I1:Inv X pins σ H { s with heap:=h2',toks:=s.toks + 1 }:=I.turnedL kk hf
  have fP:FpOk X pins H s.heap.objs.size:=I.fpOk (Nat.le_refl _) (I.hok.fresh (Nat.le_refl _))
  have I2:Inv X pins σ (upd H s.heap.objs.size (.tup [.int i,x])) { s with heap:=h2',toks:=s.toks + 1 }:=by
   refine I1.track I.sz (fP.2.1) fP.2.2.2.2.1 fP.2.2.2.2.2 fP.1 ?_
   exact ⟨(show 2 <= sizeLine by decide),[.int i s.toks,ux],.cons ⟨_,rfl⟩ (.cons rux .nil),⟨_,hp2,rfl,_,rfl⟩⟩
  refine ⟨.ref s.heap.objs.size,_,I2,rfl,⟨_,x,rfl,fP.1,rfl,fun zs hzs => by rw [I.list_inj hzs hqa]; exact hx⟩,⟨⟨_,hz'⟩,h12⟩,fun c hcm => ?_⟩
  rw [upd_ne (Nat.ne_of_lt (lt c hcm))]
  exact (hf c hcm).1
 done:=by
  intro X hP hw hK hc i pins s σ H E I hf ⟨⟨old,he⟩,h1⟩ hg
  subst hP hw hK
  obtain ⟨xs,hqa,hend⟩:=hg
  obtain ⟨its,rv,p,hsz⟩:=I.list hqa
  have e1:=rv.length
  refine wpAny_pyNext_enum_end (I.ok.hd hc) he h1 p.isList (i:=i) (by simp; omega) fun h' hk => ⟨rfl,?_⟩
  exact I.turnedL (t':=s.toks) (fun c o hcm q => by
   simp only [List.mem_cons,List.not_mem_nil,or_false,not_or] at hcm
   exact hk c o hcm.2 q) hf
 self:=fun _ _ _ _ _ ⟨⟨_,st⟩,_⟩ h => wpAny_pyIter_enum st h
section
variable {X:Cx}
def iEnum (K:PySem.W.Frag) (ta:TA):TI:=fun σ H R => ta σ H fun vs H1 => ∃ a,vs = [.ref a] /\ (∃ xs,SqL K H1 a xs) /\ R (Ite K a) H1
theorem pi_enum {es:List Expr} {x1} {tpos:Pos} {e1:Expr} {ta:TA} {p pos:Pos} (hg:Gl X "enumerate") (hm:X.mg "enumerate" = none) (ha:PA X [e1] ta) (hs:starEach [e1] X.env = [(false,eval e1 X.env)]:=by rfl) :
  PI X (.Tuple es x1 tpos) (.Call (.Name "enumerate" p) [e1] [] pos) (iEnum X.K ta):=by
 intro pins s σ H R I h
 refine Call_ (ld_blt I hg hm (by rfl) (PyProof.Rows.callWith_type1 (thn (ha pos pins s σ H _ I h) fun us s1 ⟨vs,H1,I1,r1,q1⟩ => ?_) hs rfl))
 obtain ⟨a,rfl,⟨xs,hqa⟩,q⟩:=q1
 obtain ⟨u1,rfl,ru1⟩:=vals1 r1
 cases (show u1 = Value.ref a from ru1)
 obtain ⟨its,rv,pa,hsz⟩:=I1.list hqa
 refine call_enumerate_list pa.isList fun h' hz h1 hsize hk => ?_
 refine wpAny_pyIter_enum (s:={ s1 with heap:=h' }) hz ?_
 refine ⟨_,_,_,_,H1,rfl,I1.kept (t':=s1.toks) hk,turn_enum a (s1.heap.objs.size + 1) s1.heap.objs.size,⟨⟨_,hz⟩,h1⟩,fun c hc => ?_,q⟩
 have hge:s1.heap.objs.size <= c:=by
  simp only [List.mem_cons,List.not_mem_nil,or_false] at hc
  rcases hc with h | h <;> (rw [h]; omega)
 exact I1.fpOk hge (I1.hok.fresh hge)
end
end L2
set_option Elab.async false
set_option linter.all false
set_option maxRecDepth 100000
namespace L2
open PySem PySem.Spec PyProof.Rows
theorem vals_of_items {P:Nat -> Value -> Prop} {acc:List Value} {xs:List V} (hl:acc.length = xs.length) (h:∀ (j:Nat) (v:Value),acc[j]? = some v -> P j v) (hP:∀ (j:Nat) v x,P j v -> xs[j]? = some x -> RelV x v):Vals xs acc:=by
 induction xs generalizing acc P with
 | nil =>
  cases acc with
  | nil => exact .nil
  | cons _ _ => simp at hl
 | cons x xs ih =>
  cases acc with
  | nil => simp at hl
  | cons u acc =>
   refine .cons (hP 0 u x (h 0 u rfl) rfl) (ih (P:=fun j => P (j + 1)) (by simpa using hl) (fun j v e => h (j + 1) v (by simpa using e)) fun j v y p e => hP (j + 1) v y p (by simpa using e))
section
variable {X:Cx}
theorem call_range1:CallR X (.type "range") (fun xs H Q => ∃ j:Int,xs = [.int j] /\ ∀ p,H p = none -> Q (.ref p) (upd H p (.rng 0 j))):=by
 intro pins s σ H xs us Q I r h
 obtain ⟨j,rfl,q⟩:=h
 obtain ⟨u,rfl,t,rfl⟩:=vals1 r
 refine call_range_1 ⟨.ref s.heap.objs.size,_,I.laid (fun b o e => Heap.get?_push_of_some _ e) (Nat.le_refl _) ?_,rfl,q _ (I.hok.fresh (Nat.le_refl _))⟩
 exact ⟨_,_,_,Heap.get?_push_size _ rfl⟩
def intsV (n:Nat):List V:=(List.range n).map fun i => V.int (i:Nat)
theorem intsV_length (n:Nat):(intsV n).length = n:=by simp [intsV]
theorem intsV_get {n i:Nat} (h:i < n):(intsV n)[i]? = some (.int i):=by simp [intsV,h]
theorem call_list_rng (hc:X.calm = true):CallR X (.type "list") (fun xs H Q => ∃ p j,xs = [.ref p] /\ H p = some (.rng 0 j) /\ 0 <= j /\ j <= 2 ^ 24 /\ ∀ l,H l = none -> Q (.ref l) (upd H l (.lst (intsV j.toNat)))):=by
 intro pins s σ H xs us Q I r h
 obtain ⟨p,j,rfl,hp,h0,h1,q⟩:=h
 obtain ⟨u,rfl,ru⟩:=vals1 r
 cases (show u = Value.ref p from ru)
 obtain ⟨t,u,v,e⟩:=(show ObjOk X.prog X.w H s.heap p (.rng 0 j) from I.hok p _ hp)
 have sz:(j.toNat:Nat) <= sizeLine:=by rw [sizeLine_eq]; omega
 refine call_list_range (n:=j.toNat) (I.ok.hd hc) e (small_one (by omega) (by omega) (by omega) (by omega)) (by rw [rangeSize_one]; split <;> omega) (by omega) fun h' tk acc c hk hS hi => ?_
 refine ⟨.ref s.heap.objs.size,_,I.laid hk (Nat.le_refl _) ?_,rfl,q _ (I.hok.fresh (Nat.le_refl _))⟩
 refine ⟨by rw [intsV_length]; exact sz,acc.toList,c,vals_of_items (P:=fun i v => ∃ t,v = .int ((0:Int) + i * 1) t) (by rw [intsV_length,Array.length_toList]; exact hi.1) (fun i v e => hi.2 i v (by simpa using e)) (fun i v x ⟨t,e⟩ ex => ?_),by simpa using hS⟩
 subst e
 have hlt:i < j.toNat:=by
  have:=(List.getElem?_eq_some_iff.mp ex).1
  rw [intsV_length] at this; exact this
 rw [intsV_get hlt] at ex
 cases ex
 exact ⟨t,by congr 1; omega⟩
theorem call_list_dK (hc:X.calm = true):CallR X (.type "list") (fun xs H Q => ∃ p kvs,xs = [.ref p] /\ Rd H p (.dK kvs) /\ ∀ l,H l = none -> Q (.ref l) (upd H l (.lst (kvs.map fun kv => kV kv.1)))):=by
 intro pins s σ H xs us Q I r h
 obtain ⟨p,kvs,rfl,hp,q⟩:=h
 obtain ⟨u,rfl,ru⟩:=vals1 r
 cases (show u = Value.ref p from ru)
 obtain ⟨z,hd,vs,rel,o,es,ep,g1,g2,g3,g4,g5,g6⟩:=dk_rd I.hok hp
 refine PySem.W.kdl_call (PySem.W.kdl_dict (knd:=mixKind X.prog X.w) (kvs:=vs) (ep:=ep) hd) (I.ok.hd hc) ⟨o,es,g1,g2,g3,g4,g5,g6⟩ (by rw [<- rel.length]; exact z) fun h' tk acc c hk hS hi => ?_
 refine ⟨.ref s.heap.objs.size,_,I.laid hk (Nat.le_refl _) ?_,rfl,q _ (I.hok.fresh (Nat.le_refl _))⟩
 refine ⟨by rw [List.length_map]; exact z,acc.toList,c,vals_of_items (P:=fun i v => ∃ k x,vs[i]? = some (k,x) /\ (mixKind X.prog X.w).is k v = true) (by rw [List.length_map,Array.length_toList,hi.1,rel.length]) (fun i v e => hi.2 i v (by simpa using e)) (fun i v x ⟨k,y,e1,e2⟩ ex => ?_),by simpa using hS⟩
 have hk1:(kvs.map (·.1))[i]? = some k:=by
  have:=rel.keys
  rw [this,List.getElem?_map,e1]; rfl
 rw [List.getElem?_map] at ex hk1
 cases hkv:kvs[i]? with
 | none => rw [hkv] at ex; cases ex
 | some kv =>
  rw [hkv] at ex hk1
  cases ex
  have:kv.1 = k:=by simpa using hk1
  subst this
  rcases keyIs_shape (k:=kv.1) (v:=v) e2 with ⟨i,t,e3,e4⟩ | ⟨x,t,e3,e4⟩
  ·show RelV (kV kv.1) v
   rw [e3,e4]; exact ⟨t,rfl⟩
  ·show RelV (kV kv.1) v
   rw [e3,e4]; exact ⟨t,rfl⟩
end
end L2
set_option Elab.async false
set_option linter.all false
set_option maxRecDepth 100000
namespace L2
open PySem PySem.Spec PyProof.Rows
theorem inKeys_map (k:Str):∀ D:List (Str × PyData),KTD.inKeys k (D.map fun p => (p.1,KTD.Dat.flat p.2)) = (D.any fun p => decide (k = p.1))
 | [] => rfl
 | p :: D => by rw [List.map_cons,List.any_cons,KTD.inKeys,inKeys_map k D]
section
variable {X:Cx}
abbrev TabK (K:PySem.W.Frag) (a:Addr) (D:List (Str × PyData)):Prop:=KTD.tabLook KTD.flatLooks (fun b => K.lookup b) a D = true
theorem tab_here {pins:List (Addr × Obj)} {σ:St} {H:Hp} {s:Shared} {a:Addr} {D:List (Str × PyData)} (I:Inv X pins σ H s) (T:TabK X.K a D):KTD.Here s.heap s.heap a (D.map fun p => (p.1,KTD.Dat.flat p.2)) :=
 ⟨(KTD.tab_of_look (fun _ _ x => KTD.flat_of_looks x) (fun b o e => I.kIn b o e) T).text,fun _ _ e => e⟩
theorem op_notInK:OpR X (compareOp .NotIn) (fun x y H Q => ∃ k a D,x = V.str k /\ y = V.ref a /\ TabK X.K a D /\ Q (.bl (!(D.any fun p => decide (k = p.1)))) H):=by
 intro pins s σ H x y v u Q I rx ry h
 obtain ⟨k,a,D,rfl,rfl,T,q⟩:=h
 obtain ⟨t,rfl⟩:=(show ∃ t,v = Value.str k t from rx)
 cases (show u = Value.ref a from ry)
 refine KTD.notin_text (tab_here I T) ⟨.bl (!KTD.inKeys k (D.map fun (p:Str × PyData) => (p.1,KTD.Dat.flat p.2))),H,I.tok _,rfl,?_⟩
 rw [inKeys_map]; exact q
theorem ix_K:IxR X (fun x y H Q => ∃ k a D i,x = V.ref a /\ y = V.str k /\ TabK X.K a D /\ D.lookup k = some (PyData.int i) /\ (D.all fun p => match p.2 with | .int _ => true | _ => false) = true /\ Q (.int i) H):=by
 intro value slice pins s σ H x y v u Q I rx ry h hs
 obtain ⟨k,a,D,i,rfl,rfl,T,e,hp,q⟩:=h
 cases (show v = Value.ref a from rx)
 obtain ⟨t,rfl⟩:=(show ∃ t,u = Value.str k t from ry)
 have e1:∀ D:List (Str × PyData),(D.all fun p => match p.2 with | .int _ => true | _ => false) = true -> ((D.map fun p => (p.1,KTD.Dat.flat p.2)).all fun p => KTD.plain p.2) = true:=fun D hD => by
  rw [List.all_map]
  refine List.all_eq_true.mpr fun p hp' => ?_
  have:=List.all_eq_true.mp hD p hp'
  cases hq:p.2 <;> simp [hq] at this <;> simp [Function.comp,hq,KTD.plain]
 have e2:∀ D:List (Str × PyData),KTD.datumAt k (D.map fun p => (p.1,KTD.Dat.flat p.2)) = (D.lookup k).map KTD.Dat.flat:=fun D => by
  induction D with
  | nil => rfl
  | cons p D ih =>
   obtain ⟨x,d⟩:=p
   rw [List.map_cons,KTD.datumAt,List.lookup_cons,ih]
   by_cases hk:k = x
   ·subst hk; simp
   ·have:(k == x) = false:=beq_eq_false_iff_ne.mpr hk
    simp [hk,this]
 have hT:=tab_here I T
 have hat:KTD.datumAt k (D.map fun p => (p.1,KTD.Dat.flat p.2)) = some (KTD.Dat.flat (.int i)):=by rw [e2 D,e]; rfl
 have hmem:KTD.inKeys k (D.map fun p => (p.1,KTD.Dat.flat p.2)) = true:=by rw [<- KTD.isSome_datumAt,hat]; rfl
 refine subscriptTail_builtin_flat hT.typeIs slot_dict_getitem.lookup ?_ hs
 unfold getItem
 try with_reducible refine wpAny_holding ?_
 refine wpAny_bind (wpAny_sequenceKey hT.typeIs (by decide) ?_)
 refine wpAny_bind (wpAny_callSpecial?_slot (name:=Str.ofString "__getitem__") hT.typeIs slot_dict_getitem
  (wpAny_call_entry slot_dict_getitem hT.typeIs entry_dict_getitem ?_ (args_dict_getitem _ _)))
 show wpAny _ _ (dictGet a (.str k t) >>= _) _ _ s
 refine wpAny_bind (KTD.dictGet_text hT (fun d v ha hv => wpAny_pure ⟨v,rfl,wpAny_pure ⟨KTD.notRef_of_plain (KTD.plain_at (e1 D hp) ha) hv,?_⟩⟩) fun hn => absurd hn (KTD.at_of_mem hmem))
 rw [hat] at ha
 cases ha
 obtain ⟨t',rfl⟩:∃ t,v = Value.int i t:=by
  exact PyProof.V.Flat.int_inv (show PyProof.V.Flat v (PyData.int i) from hv)
 exact ⟨.int i,H,I.tok _,⟨_,rfl⟩,q⟩
end
end L2
set_option Elab.async false
set_option linter.all false
set_option maxRecDepth 100000
namespace L2
open PySem PySem.Spec PyProof.Rows
structure FunG (K:PySem.W.Frag) (x qual:Str) (st:Stmt) (dV:Value) (f:Addr) (fd:FuncData):Prop where
 ex:∃ (oc:Value) (od:Option Addr) (kV doc pm:Value) (an:Option Addr) (cdv ct:Value) (osl:Array (Option Value)),
  fd = PySem.W.fnOf x qual (defArgs st) (defBody st) (defScope st) dV kV doc pm an cdv ct /\ K.lookup f = some ⟨oc,od,.func fd,osl⟩ /\ PySem.W.codeIn K cdv qual = true
 kp:PySem.W.keepIn K (.ref f) = true
section
variable {P:Program} {w:World} {K:PySem.W.Frag} {mg:Str -> Option Value} {base:Heap}
theorem FunG.ok {x qual:Str} {st:Stmt} {dV:Value} {f:Addr} {fd:FuncData} {N ps:List Str} {k:Nat} {sp:Sp} (F:FunG K x qual st dV f fd) (S:FnScope N ps (defScope st)) (len:∀ vs H Q E,sp vs H Q E -> vs.length = ps.length)
  (hbody:∀ (cdv:Value) (A:Around) (outer:List Env) (s:Shared) (H:Hp) (vs:List V) (Q:VK) (E:XK),Room k (A.deeper (envOfC qual (defScope st) s.heap.objs.size f cdv)) -> sp vs H Q E ->
   ∃ t,PSs (cxOf CX0 P w K mg base N qual (defScope st) f cdv A outer s H E).nox (defBody st) t /\ t { nx:=fun _ H' => Q .non H',rt:=Q } (start N vs) H):FnOk P w K mg base CX0 (k + 1) f fd ps sp:=by
 obtain ⟨oc,od,kV,doc,pm,an,cdv,ct,osl,rfl,lk,hcd⟩:=F.ex
 refine fn_of lk hcd S len fun A outer s H vs Q E hr hsp => ?_
 obtain ⟨t,h,q⟩:=hbody cdv A outer s H vs Q E hr hsp
 exact ⟨t,h.nox,q⟩
theorem FunG.binds {x qual:Str} {st:Stmt} {dV:Value} {f:Addr} {fd:FuncData} {ps:List Str} (F:FunG K x qual st dV f fd)
  (h:∀ (kV doc pm:Value) (an:Option Addr) (cdv ct:Value) (us:List Value),us.length = ps.length -> bindArgs (PySem.W.fnOf x qual (defArgs st) (defBody st) (defScope st) dV kV doc pm an cdv ct) ⟨us,[]⟩ = pure (ps.zip us)):Binds K fd ps []:=by
 obtain ⟨oc,od,kV,doc,pm,an,cdv,ct,osl,rfl,lk,hcd⟩:=F.ex
 exact .all (h kV doc pm an cdv ct)
theorem funG_mk {x qual:Str} {st:Stmt} {f:Addr} {oc:Value} {od an:Option Addr} {osl:Array (Option Value)} {dV kV doc pm cdv ct:Value} (l:K.lookup f = some ⟨oc,od,.func (PySem.W.fnOf x qual (defArgs st) (defBody st) (defScope st) dV kV doc pm an cdv ct),osl⟩)
  (c:PySem.W.codeIn K cdv qual = true) (k:PySem.W.keepIn K (.ref f) = true):FunG K x qual st dV f (PySem.W.fnOf x qual (defArgs st) (defBody st) (defScope st) dV kV doc pm an cdv ct):=⟨⟨oc,od,kV,doc,pm,an,cdv,ct,osl,rfl,l,c⟩,k⟩
end
end L2
set_option Elab.async false
set_option linter.all false
set_option maxRecDepth 100000
namespace L2
open PySem PySem.Spec PyProof.Rows
section
variable {X:Cx} {K:PySem.W.Frag}
end
end L2
namespace L2
theorem tTrueT {σ:St} {H:Hp} {A B:Hp -> Prop} (h:A H):tTrue σ H (fun b H3 => if b = true then A H3 else B H3):=(iteT h:if true = true then A H else B H)
end L2
namespace L2
open PySem PySem.Spec PyProof.Rows
section
variable {X:Cx} {CX:CXT} {k:Nat} {f C:Addr} {fd:FuncData} {ps ks:List Str} {sp:Sp} {E:XK} {x m:Str} {p pos apos kpos:Pos} {e o:Expr} {es:List Expr} {kws:List Keyword} {te ta:TE} {t tk:TA}
 {g:List Value -> List Value -> List Value} {gV:List V -> List V -> List V}
end
end L2
namespace L2
theorem ifJ {b:Bool} {A B:Prop} (hA:b = true -> B -> A) (g:B):if b = true then A else B:=by
 cases b
 ·exact iteF g
 ·exact iteT (hA rfl g)
end L2
set_option Elab.async false
set_option linter.all false
set_option maxRecDepth 100000
namespace L2
open PySem PySem.Spec PyProof.Rows
section
variable {prog:Program} {w:World} {K:Type} [DecidableEq K] {knd:HeapKind prog w K} {A:Around} {E:Value -> Shared -> Prop} {s:Shared} {d a:Addr} {k:K} {xs:List (K × Addr × Value)}
end
end L2
namespace L2
open PySem PySem.Spec PyProof.Rows
theorem KT.drop {H:Hp} {kvs:List (List Key × V)} {xs:List (List Key × Addr × Value)} (r:KT H kvs xs) (k:List Key):KT H (dropK kvs k) (xs.filter fun x => decide (x.1 ≠ k)):=by
 unfold dropK
 induction r with
 | nil => exact .nil
 | @cons p q ps qs hq t ih =>
  rw [List.filter_cons,List.filter_cons]
  have e:p.1 = q.1:=hq.1
  by_cases c:q.1 = k
  ·rw [if_neg (by simpa using e.trans c),if_neg (by simpa using c)]; exact ih
  ·rw [if_pos (by simpa using fun z => c (e.symm.trans z)),if_pos (by simpa using c)]; exact .cons hq ih
section
variable {X:Cx} {pins:List (Addr × Obj)} {σ:St} {H:Hp} {s:Shared} {a b:Addr} {kvs:List (List Key × V)} {k:List Key} {u:Value} {A:Around} {E:Value -> Shared -> Prop}
end
section
variable {X:Cx} {o i e:Expr} {td ty:TE} {tpos pos apos cpos:Pos}
theorem op_addL:OpR X (binaryOp .Add) (fun x y H Q => ∃ a b xs ys,x = .ref a /\ y = .ref b /\ SqL X.K H a xs /\ SqL X.K H b ys /\ xs.length + ys.length <= sizeLine /\ ∀ l,H l = none -> Q (.ref l) (upd H l (.lst (xs ++ ys)))):=by
 intro pins s σ H x y u v Q I rx ry h
 obtain ⟨a,b,xs,ys,rfl,rfl,ha,hb,hz,q⟩:=h
 cases (show u = Value.ref a from rx)
 cases (show v = Value.ref b from ry)
 obtain ⟨ia,ra,⟨⟨cls,dd,data,sl⟩,n,ho,hc,_,hd⟩,_⟩:=I.list ha
 obtain ⟨ib,rb,⟨⟨cls2,dd2,data2,sl2⟩,n2,ho2,hc2,_,hd2⟩,_⟩:=I.list hb
 simp only at hc hd hc2 hd2
 subst hc hd hc2 hd2
 have e:ia.toArray ++ ib.toArray = (ia ++ ib).toArray:=by simp
 have e1:=ra.length
 have e2:=rb.length
 refine concat_meets ⟨_,ho,rfl⟩ ⟨_,ho2,rfl⟩ noFill_list_add seq_list_add PySem.F.slot_list_add PySem.F.entry_list_add (PySem.F.args_list_add_2 _ _) (list_addW a b ia.toArray ib.toArray n n2 dd dd2 sl sl2 (by simp; omega)) ⟨ho,ho2,?_⟩
 rw [e]
 refine ⟨.ref s.heap.objs.size,_,I.laid (a:=s.heap.objs.size) (o:=.lst (xs ++ ys)) (t':=s.toks) (fun _ _ q => Heap.get?_push_of_some _ q) (Nat.le_refl _) ⟨by simpa using hz,ia ++ ib,0,ra.append rb,Heap.get?_push_size _ rfl⟩,rfl,q _ (I.hok.fresh (Nat.le_refl _))⟩
theorem reads_ints {h:Heap}:∀ {ns:List Int} {vs:List Value},Vals (ns.map V.int) vs -> ReadsAll h vs (ns.map PyData.int) []
 | [],_,r => by cases r; exact .nil
 | n :: ns,_,r => by
  cases r with
  | cons r1 r2 =>
   obtain ⟨t,rfl⟩:=r1
   exact .cons (as:=[]) (.int _ t) (reads_ints r2)
theorem reads_tup {pins:List (Addr × Obj)} {s:Shared} {σ:St} {H:Hp} {a:Addr} {ns:List Int} (I:Inv X pins σ H s) (h:H a = some (.tup (ns.map V.int))):Reads s.heap (.ref a) (.tuple (ns.map PyData.int)) []:=by
 obtain ⟨_,its,r,o,h1,h2,n,h3⟩:=(show ObjOk X.prog X.w H s.heap a (.tup (ns.map V.int)) from I.hok a _ h)
 exact reads_tuple_at h1 h2 h3 (by simpa using reads_ints r)
theorem shaped_tup (ns:List Int):SeqAt.shaped (.tuple (ns.map PyData.int)) = true:=by
 simp [SeqAt.shaped,PyData.canLay0,PyData.depth,PySem.W.ke_canLayAll0,PySem.W.ke_depthAll]
theorem same_tup (ns ms:List Int):PySem.Spec.same (.tuple (ns.map PyData.int)) (.tuple (ms.map PyData.int)) = decide (ns = ms):=by
 simp only [PySem.Spec.same]; exact PySem.W.ke_sameAll ns ms
def rTup (neg:Bool):R2:=fun x y H Q => ∃ (a b:Addr) (ns ms:List Int),x = .ref a /\ y = .ref b /\ H a = some (.tup (ns.map V.int)) /\ H b = some (.tup (ms.map V.int)) /\ Q (.bl (if neg then !decide (ns = ms) else decide (ns = ms))) H
theorem tup_has (ns:List Int):(Shape.tuples .int).has (.tuple (ns.map PyData.int)) = true:=by
 simp only [Shape.has]
 induction ns with
 | nil => rfl
 | cons n ns ih => simp [Shape.hasAll,Shape.has] at ih ⊢; try exact ih
theorem op_eqT (hu:X.A.units + 64 < cLine):OpR X (compareOp .Eq) (rTup false):=by
 intro pins s σ H x y u v Q I rx ry h
 obtain ⟨a,b,ns,ms,rfl,rfl,ha,hb,q⟩:=h
 cases (show u = Value.ref a from rx)
 cases (show v = Value.ref b from ry)
 exact eq_dataH_same (reads_tup I ha) (reads_tup I hb) (shaped_tup _) (shaped_tup _) hu (SeqAt.noMix_of_shape (.tuples .int) rfl _ _ (tup_has ns) (tup_has ms)) (by rw [same_tup]; exact fin_bl I q (by simp))
end
end L2
namespace L2
open PySem PySem.Spec PyProof.Rows
theorem for_enum {K:PySem.W.Frag} {a:Addr} {xs:List V} {g:TG} {tb:TS} {D:Ends} {σ:St} {H:Hp} (Pv:Nat -> St -> Hp -> Prop) (h0:Pv 0 σ H) (hl:∀ i σ H,i <= xs.length -> Pv i σ H -> SqL K H a xs)
  (hs:∀ i x σ H p,xs[i]? = some x -> Pv i σ H -> H p = none -> g (.ref p) σ (upd H p (.tup [.int i,x])) fun σ2 H2 => tb { D with nx:=Pv (i + 1),ct:=Pv (i + 1),bk:=D.nx } σ2 H2) (hd:∀ σ H,Pv xs.length σ H -> D.nx σ H) :
  ∃ W:Nat -> Nat -> St -> Hp -> Prop,(∃ m,W 0 m σ H) /\ ∀ i m σ H,W i m σ H ->
   ((Ite K a).stop i H /\ D.nx σ H) ∨ ((Ite K a).go i H /\ ∃ N:St -> Hp -> Prop,(∀ σ' H',N σ' H' -> ∃ m',m' < m /\ W (i + 1) m' σ' H') /\ ∀ x H',(Ite K a).yld i H x H' -> g x σ H' fun σ2 H2 => tb { D with nx:=N,ct:=N,bk:=D.nx } σ2 H2):=by
 refine ⟨fun i m σ H => m = xs.length - i /\ i <= xs.length /\ Pv i σ H,⟨xs.length,by simp,Nat.zero_le _,h0⟩,?_⟩
 rintro i m σ H ⟨rfl,hi,p⟩
 have hq:=hl i σ H hi p
 by_cases hlt:i < xs.length
 ·refine .inr ⟨⟨xs,xs[i],hq,List.getElem?_eq_getElem hlt⟩,Pv (i + 1),fun σ' H' p' => ⟨xs.length - (i + 1),by omega,rfl,hlt,p'⟩,fun x H' y => ?_⟩
  obtain ⟨b,z,rfl,hb,rfl,hz⟩:=y
  exact hs i z σ H b (hz xs hq) p hb
 ·have e:i = xs.length:=by omega
  subst e
  exact .inl ⟨⟨xs,hq,Nat.le_refl _⟩,hd σ H p⟩
end L2
set_option Elab.async false
set_option linter.all false
set_option maxRecDepth 100000
namespace L2
open PySem PySem.Spec PyProof.Rows
abbrev OKey:=Option Key
def okeyIs:OKey -> Value -> Bool
 | none,.none => true
 | none,_ => false
 | some k,v => keyIs k v
def okeyH (w:World):OKey -> Int
 | none => reduceHash 0xFCA86420
 | some k => keyH w k
theorem okeyIs_none {v:Value} (h:okeyIs none v = true):v = .none:=by cases v <;> first | rfl | cases h
section
variable {prog:Program} {w:World} {A:Around} {E:Value -> Shared -> Prop} {s:Shared}
theorem wpAny_pyHash_none {Q:Int -> Shared -> Prop} (h:Q (reduceHash 0xFCA86420) { s with toks:=s.toks + 1 }):wpAny (model prog w) A (pyHash .none) Q E s :=
 PySem.W.pyHash_slot (T := "NoneType") rfl F.slot_NoneType_hash F.entry_NoneType_hash (F.args_NoneType_hash_1 _) (beq_builtin_none _) (.inl rfl) (wpAny_bind (wpAny_pure (wpAny_bind (wpAny_mkInt (wpAny_pure ⟨_,_,rfl,h⟩)))))
end
theorem dec_some (a b:Key):decide ((some a:OKey) = some b) = decide (a = b):=by
 by_cases e:a = b
 ·subst e; simp
 ·rw [decide_eq_false e,decide_eq_false (fun q => e (Option.some.inj q))]
def optKind (prog:Program) (w:World):PySem.KeyKind prog w OKey where
 is:=okeyIs
 hash:=okeyH w
 inj:=fun v a b ha hb => by
  cases a with
  | none =>
   cases b with
   | none => rfl
   | some b => rw [okeyIs_none ha] at hb; rcases keyIs_shape (k:=b) hb with ⟨_,_,_,e⟩ | ⟨_,_,_,e⟩ <;> cases e
  | some a =>
   cases b with
   | none => rw [okeyIs_none hb] at ha; rcases keyIs_shape (k:=a) ha with ⟨_,_,_,e⟩ | ⟨_,_,_,e⟩ <;> cases e
   | some b => exact congrArg some ((mixKind prog w).inj v a b ha hb)
 byValue:=fun k v h => by
  cases k with
  | none => rw [okeyIs_none h]; rfl
  | some k => exact (mixKind prog w).byValue k v h
 pyHash:=fun {A E s k v Q} hv h => by
  cases k with
  | none => rw [okeyIs_none hv]; exact wpAny_pyHash_none h
  | some k => exact (mixKind prog w).pyHash hv h
 eqBool:=fun {A E s a b u v Q} hu hv h => by
  cases a with
  | none =>
   have e1:=okeyIs_none hu
   subst e1
   cases b with
   | none =>
    have e2:=okeyIs_none hv
    subst e2
    exact SeqAt.EqAt.same _ _ _ _ _ h
   | some b =>
    rw [decide_eq_false (fun q => nomatch q)] at h
    rcases keyIs_shape (k:=b) hv with ⟨j,t,_,rfl⟩ | ⟨y,t,_,rfl⟩
    ·exact SeqAt.EqAt.none_int _ _ _ _ _ _ h
    ·exact SeqAt.EqAt.none_str _ _ _ _ _ _ h
  | some a =>
   cases b with
   | none =>
    have e2:=okeyIs_none hv
    subst e2
    rw [decide_eq_false (fun q => nomatch q)] at h
    rcases keyIs_shape (k:=a) hu with ⟨j,t,_,rfl⟩ | ⟨y,t,_,rfl⟩
    ·exact SeqAt.EqAt.int_none _ _ _ _ _ _ h
    ·exact SeqAt.EqAt.str_none _ _ _ _ _ _ h
   | some b => rw [dec_some] at h; exact (mixKind prog w).eqBool (a:=a) (b:=b) hu hv h
 «strs»:=fun k x t v h => by
  cases k with
  | none => cases h
  | some k => exact (mixKind prog w).strs k x t v h
theorem items_some {P:Program} {w:World} {ks:List Key} {us:List Value} (h:ItemsAre (mixKind P w) ks us):ItemsAre (optKind P w) (ks.map some) us:=by
 induction h with
 | nil => exact .nil
 | cons a b ih => exact .cons a ih
theorem dictOfH_some {P:Program} {w:World} {h:Heap} {a:Addr} {xs:List (List Key × Addr × Value)} (d:h.DictOfH (tupleKind (mixKind P w)) a xs) :
  h.DictOfH (tupleKind (optKind P w)) a (xs.map fun x => (x.1.map some,x.2)):=by
 obtain ⟨o,es,ep,h1,h2,h3,h4,h5,h6⟩:=d
 refine ⟨o,es,ep,h1,h2,h3,?_,?_,?_⟩
 ·rw [h4,List.map_map]
  refine List.map_congr_left fun x _ => ?_
  show entryOfKey _ x = entryOfKey _ (x.1.map some,x.2)
  unfold entryOfKey
  have e:(tupleKind (mixKind P w)).hash x.1 = (tupleKind (optKind P w)).hash (x.1.map some):=by
   show reduceHash _ = reduceHash _
   rw [List.map_map]
   rfl
  rw [e]
 ·intro x hx
  obtain ⟨y,hy,rfl⟩:=List.mem_map.mp hx
  obtain ⟨o,its,n,g1,g2,g3,g4⟩:=h5 y hy
  exact ⟨o,its,n,g1,g2,g3,items_some g4⟩
 ·rw [List.map_map]
  have:(fun x:List Key × Addr × Value => (x.1.map some,x.2).1) = (List.map some) ∘ fun x => x.1:=rfl
  show List.Nodup (xs.map ((fun x => x.1) ∘ fun x => (x.1.map some,x.2)))
  have e:((fun x:List OKey × Addr × Value => x.1) ∘ fun x:List Key × Addr × Value => (x.1.map some,x.2)) = (List.map (some:Key -> OKey)) ∘ fun x => x.1:=rfl
  rw [e,<- List.map_map]
  have inj:Function.Injective (some:Key -> OKey):=fun _ _ h => Option.some.inj h
  refine List.Pairwise.map _ (fun a b hab hc => hab ?_) h6
  exact List.map_inj_right (fun _ _ h => Option.some.inj h) |>.mp hc
def DGetN (H:Hp) (a:Addr) (y:V) (r:Option V):Prop :=
 DGet H a y r ∨ ∃ (kvs:List (List Key × V)) (n:Int) (b:Addr),Rd H a (.dT kvs) /\ y = .ref b /\ H b = some (.tup [.int n,.non]) /\ r = none
section
variable {X:Cx} {pins:List (Addr × Obj)} {σ:St} {H:Hp} {s:Shared} {a:Addr} {y v:V} {u r:Value} {o:Option V} {A:Around} {E:Value -> Shared -> Prop}
theorem keyN_of {P:Program} {w:World} {h:Heap} {n:Int} {b:Addr} (ok:HOk P w H h) (e:H b = some (.tup [.int n,.non])):(tupleKind (optKind P w)).is h [some (Sum.inl n),none] b:=by
 obtain ⟨_,its,r,o,h1,h2,m,h3⟩:=(show ObjOk P w H h b (.tup [.int n,.non]) from ok b _ e)
 refine ⟨o,its.toArray,m,h1,h2,h3,?_⟩
 cases r with
 | cons r1 r2 =>
  cases r2 with
  | cons r2 r3 =>
   cases r3
   obtain ⟨t,rfl⟩:=(show ∃ t,_ = Value.int n t from r1)
   obtain rfl:=(show _ = Value.none from r2)
   refine .cons ?_ (.cons rfl .nil)
   exact keyIs_int n t
theorem atKey_noneN (xs:List (List Key × Addr × Value)) (n:Int):atKey (xs.map fun x => (x.1.map (some:Key -> OKey),x.2)) [some (Sum.inl n),none] = none:=by
 unfold atKey
 rw [Option.map_eq_none_iff,List.find?_eq_none]
 intro x hx
 obtain ⟨y,hy,rfl⟩:=List.mem_map.mp hx
 intro h
 have h:=of_decide_eq_true h
 have:(none:OKey) ∈ y.1.map (some:Key -> OKey):=by
  rw [show y.1.map (some:Key -> OKey) = [some (Sum.inl n),none] from h]
  exact .tail _ (.head _)
 obtain ⟨z,_,hz⟩:=List.mem_map.mp this
 cases hz
theorem d_notInN {Q:Value -> Shared -> Prop} (hu:A.units + 1 < cLine) (I:Inv X pins σ H s) (g:DGetN H a y o) (ry:RelV y u) (h:∀ s',Inv X pins σ H s' -> Q (.bool (!o.isSome)) s') :
  wpAny (model X.prog X.w) A (compareOp .NotIn u (.ref a)) Q E s:=by
 rcases g with g | ⟨kvs,n,b,e,ey,eb,rfl⟩
 ·exact d_notIn hu I g ry h
 ·subst ey
  cases (show u = Value.ref b from ry)
  obtain ⟨z,hd,xs,rel,dd⟩:=dt_rd I.hok e
  refine wpAny_notIn_heap (tupleKind_room_in1 hu) (keyN_of I.hok eb) hd (dictOfH_some dd) ?_
  rw [atKey_noneN]
  exact h _ (I.tok _)
end
def tDNotInN (ty td:TE):TE:=fun σ H Q => ty σ H fun y H1 => td σ H1 fun x H2 => ∃ a o,x = .ref a /\ DGetN H2 a y o /\ Q (.bl (!o.isSome)) H2
theorem pc_dnotinN {X:Cx} {i o:Expr} {ty td:TE} (hu:X.A.units + 1 < cLine) (hi:PE X i ty) (ho:PE X o td):PC X .NotIn i o (tDNotInN ty td):=by
 intro pins s σ H Q I h
 refine thn (hi pins s σ H _ I h) fun iv s1 ⟨y,H1,I1,ry,q1⟩ => thn (ho pins s1 σ H1 _ I1 q1) fun u s2 ⟨x,H2,I2,rx,a,ov,ex,g,q2⟩ => ?_
 subst ex
 obtain rfl:u = Value.ref a:=rx
 exact d_notInN hu I2 g ry fun s3 I3 => ⟨.bl (!ov.isSome),H2,I3,rfl,q2⟩
end L2
set_option Elab.async false
set_option linter.all false
set_option maxRecDepth 100000
namespace L2
open PySem PySem.Spec PyProof.Rows
section
variable {X:Cx}
end
end L2
set_option Elab.async false
set_option linter.all false
set_option maxRecDepth 100000
namespace L2
open PySem PySem.Spec PyProof.Rows
section
variable {X:Cx}
end
section
variable {prog:Program} {w:World} {A:Around} {E:Value -> Shared -> Prop} {s:Shared} {K:Type} [DecidableEq K] {knd:PySem.KeyKind prog w K}
end
section
variable {X:Cx}
end
end L2
set_option Elab.async false
set_option linter.all false
set_option maxRecDepth 100000
namespace L2
open PySem PySem.Spec PyProof.Rows
section
variable {X:Cx}
theorem reads_lst {pins:List (Addr × Obj)} {s:Shared} {σ:St} {H:Hp} {a:Addr} {ns:List Int} (I:Inv X pins σ H s) (h:SqL X.K H a (ns.map V.int)):Reads s.heap (.ref a) (.list (ns.map PyData.int)) [a]:=by
 obtain ⟨its,r,⟨o,n,e,c,d,dd⟩,hz⟩:=I.list h
 exact reads_list_at e c dd (by simpa using reads_ints r)
theorem shaped_lst (ns:List Int):SeqAt.shaped (.list (ns.map PyData.int)) = true:=by
 simp [SeqAt.shaped,PyData.canLay0,PyData.depth,PySem.W.ke_canLayAll0,PySem.W.ke_depthAll]
theorem same_lst (ns ms:List Int):PySem.Spec.same (.list (ns.map PyData.int)) (.list (ms.map PyData.int)) = decide (ns = ms):=by
 simp only [PySem.Spec.same]; exact PySem.W.ke_sameAll ns ms
theorem lst_has (ns:List Int):(Shape.list .int).has (.list (ns.map PyData.int)) = true:=by
 simp only [Shape.has]
 induction ns with
 | nil => rfl
 | cons n ns ih => simp [Shape.hasAll,Shape.has] at ih ⊢; try exact ih
def rLst (K:PySem.W.Frag) (neg:Bool):R2:=fun x y H Q => ∃ (a b:Addr) (ns ms:List Int),x = .ref a /\ y = .ref b /\ SqL K H a (ns.map V.int) /\ SqL K H b (ms.map V.int) /\ Q (.bl (if neg then !decide (ns = ms) else decide (ns = ms))) H
theorem op_neL (hu:X.A.units + 64 < cLine):OpR X (compareOp .NotEq) (rLst X.K true):=by
 intro pins s σ H x y u v Q I rx ry h
 obtain ⟨a,b,ns,ms,rfl,rfl,ha,hb,q⟩:=h
 cases (show u = Value.ref a from rx)
 cases (show v = Value.ref b from ry)
 exact ne_dataH_same (reads_lst I ha) (reads_lst I hb) (shaped_lst _) (shaped_lst _) hu (SeqAt.noMix_of_shape (.list .int) rfl _ _ (lst_has ns) (lst_has ms)) (by rw [same_lst]; exact fin_bl I q (by simp))
end
end L2
set_option Elab.async false
set_option linter.all false
set_option maxRecDepth 100000
namespace L2
open PySem PySem.Spec PyProof.Rows
section
variable {prog:Program} {w:World} {A:Around} {E:Value -> Shared -> Prop} {s:Shared}
end
end L2
namespace L2
open PySem PySem.Spec PyProof.Rows
section
variable {X:Cx}
end
end L2
set_option Elab.async false
set_option linter.all false
set_option maxRecDepth 100000
namespace L2
open PySem PySem.Spec PyProof.Rows
section
variable {X:Cx} {pins:List (Addr × Obj)} {σ:St} {H:Hp} {s:Shared}
end
end L2
set_option Elab.async false
set_option linter.all false
set_option maxRecDepth 100000
namespace L2
open PySem PySem.Spec PyProof.Rows
section
variable {X:Cx}
end
end L2
set_option Elab.async false
set_option linter.all false
set_option maxRecDepth 100000
namespace L2
open PySem PySem.Spec PyProof.Rows
mutual
def DV (K:PySem.W.Frag) (H:Hp):PyData -> V -> Prop
 | .none,v => v = .non
 | .bool b,v => v = .bl b
 | .int i,v => v = .int i
 | .str x,v => v = .str x
 | .list ds,v => ∃ (a:Addr) (xs:List V),v = .ref a /\ SqL K H a xs /\ DVs K H ds xs
 | .tuple ds,v => ∃ (a:Addr) (xs:List V),v = .ref a /\ SqT K H a xs /\ DVs K H ds xs
 | .dict _,_ => False
def DVs (K:PySem.W.Frag) (H:Hp):List PyData -> List V -> Prop
 | [],xs => xs = []
 | d :: ds,xs => ∃ v r,xs = v :: r /\ DV K H d v /\ DVs K H ds r
end
section
variable {X:Cx} {pins:List (Addr × Obj)} {s:Shared} {σ:St} {H:Hp}
mutual
theorem DV.reads (I:Inv X pins σ H s):∀ (d:PyData) (v:V) (u:Value),DV X.K H d v -> RelV v u -> ∃ as,Reads s.heap u d as
 | .none,v,u,h,r => by
  unfold DV at h; subst h; cases (show u = Value.none from r); exact ⟨[],.none⟩
 | .bool b,v,u,h,r => by
  unfold DV at h; subst h; cases (show u = Value.bool b from r); exact ⟨[],.bool b⟩
 | .int i,v,u,h,r => by
  unfold DV at h; subst h; obtain ⟨t,e⟩:=(show ∃ t,u = Value.int i t from r); subst e; exact ⟨[],.int i t⟩
 | .str x,v,u,h,r => by
  unfold DV at h; subst h; obtain ⟨t,e⟩:=(show ∃ t,u = Value.str x t from r); subst e; exact ⟨[],.str x t⟩
 | .list ds,v,u,h,r => by
  unfold DV at h
  obtain ⟨a,xs,rfl,hs,hd⟩:=h
  cases (show u = Value.ref a from r)
  obtain ⟨its,r2,⟨o,n,e,c,d,dd⟩,hz⟩:=I.list hs
  obtain ⟨as,ra⟩:=DVs.reads I ds xs its hd r2
  exact ⟨a :: as,.list e c dd (by simpa using ra)⟩
 | .tuple ds,v,u,h,r => by
  unfold DV at h
  obtain ⟨a,xs,rfl,hs,hd⟩:=h
  cases (show u = Value.ref a from r)
  obtain ⟨its,r2,⟨o,e,c,n,dd⟩,hz⟩:=I.tuple hs
  obtain ⟨as,ra⟩:=DVs.reads I ds xs its hd r2
  exact ⟨as,.tuple e c dd (by simpa using ra)⟩
 | .dict _,v,u,h,r => by unfold DV at h; exact h.elim
theorem DVs.reads (I:Inv X pins σ H s):∀ (ds:List PyData) (xs:List V) (us:List Value),DVs X.K H ds xs -> Vals xs us -> ∃ as,ReadsAll s.heap us ds as
 | [],xs,us,h,r => by
  unfold DVs at h; subst h; cases r; exact ⟨[],.nil⟩
 | d :: ds,xs,us,h,r => by
  unfold DVs at h
  obtain ⟨v,r',rfl,h1,h2⟩:=h
  cases r with
  | cons ru rs =>
   obtain ⟨as,ra⟩:=DV.reads I d v _ h1 ru
   obtain ⟨bs,rb⟩:=DVs.reads I ds r' _ h2 rs
   exact ⟨as ++ bs,.cons ra rb⟩
end
def rDat (K:PySem.W.Frag) (neg:Bool):R2:=fun x y H Q => ∃ (d e:PyData),DV K H d x /\ DV K H e y /\ SeqAt.shaped d = true /\ SeqAt.shaped e = true /\ Q (.bl (if neg then !PyData.eqv d e else PyData.eqv d e)) H
theorem op_eqD {X:Cx} (hu:X.A.units + 64 < cLine):OpR X (compareOp .Eq) (rDat X.K false):=by
 intro pins s σ H x y u v Q I rx ry h
 obtain ⟨d,e,hd,he,sd,se,q⟩:=h
 obtain ⟨as,ra⟩:=DV.reads I d x u hd rx
 obtain ⟨bs,rb⟩:=DV.reads I e y v he ry
 exact eq_dataH ra rb sd se hu (fin_bl I q (by simp))
end
theorem canLayAll_map {α:Type} (f:α -> PyData):∀ (l:List α),(∀ x ∈ l,(f x).canLay0 = true) -> PyData.canLayAll0 (l.map f) = true
 | [],_ => rfl
 | x :: l,h => by
  rw [List.map_cons,PyData.canLayAll0,h x List.mem_cons_self,canLayAll_map f l fun y hy => h y (List.mem_cons_of_mem _ hy)]; rfl
theorem depthAll_map {α:Type} (f:α -> PyData) (n:Nat):∀ (l:List α),(∀ x ∈ l,(f x).depth <= n) -> PyData.depthAll (l.map f) <= n
 | [],_ => Nat.zero_le _
 | x :: l,h => by
  rw [List.map_cons,PyData.depthAll]
  exact Nat.max_le.mpr ⟨h x List.mem_cons_self,depthAll_map f n l fun y hy => h y (List.mem_cons_of_mem _ hy)⟩
theorem DVs.map {α:Type} {K:PySem.W.Frag} {H:Hp} (f:α -> PyData) (g:α -> V):∀ (l:List α),(∀ x ∈ l,DV K H (f x) (g x)) -> DVs K H (l.map f) (l.map g)
 | [],_ => by show DVs K H [] []; unfold DVs; rfl
 | x :: l,h => by
  show DVs K H (f x :: l.map f) (g x :: l.map g)
  unfold DVs
  exact ⟨_,_,rfl,h x List.mem_cons_self,DVs.map f g l fun y hy => h y (List.mem_cons_of_mem _ hy)⟩
theorem shaped_of {d:PyData} (h1:d.canLay0 = true) (h2:d.depth <= 64):SeqAt.shaped d = true:=by unfold SeqAt.shaped; rw [h1,decide_eq_true h2]; rfl
section
variable {X:Cx}
end
end L2
set_option Elab.async false
set_option linter.all false
set_option maxRecDepth 100000
namespace L2
open PySem PySem.Spec PyProof.Rows
def CXr (P:Program) (w:World):CXT:=fun outer H s E e s' => ∃ (a:Addr) (C a0:Value) (H':Hp) (B:Heap),e = .ref a /\ Heap.FlyingW B outer a C a0 s'.heap /\ s'.os = s.os /\ AllBare s'.gens /\ Un (frs outer) [] H H' s.heap s'.heap /\
 (∀ b o,s.heap.get? b = some o -> H b = none -> b ∉ frs outer -> B.get? b = some o) /\ (∀ b o,s.heap.get? b = some o -> b ∉ frs outer -> ∃ o',B.get? b = some o') /\ HOk P w H' B /\ E C (some a) H'
section
variable {P:Program} {w:World} {K:PySem.W.Frag} {mg:Str -> Option Value} {base:Heap} {N:List Str} {qual:Str} {scope:Scope} {f:Addr} {cd:Value} {A:Around} {outer:List Env} {s₀:Shared} {H₀:Hp} {E:XK}
end
end L2
namespace L2
open PySem PySem.Spec PyProof.Rows
section
variable {X:Cx} {E:XK} {C:Addr} {x:Str} {np cpos pos:Pos} {e₀:Expr} {t:TE}
end
section
variable {P:Program} {w:World} {K:PySem.W.Frag} {mg:Str -> Option Value} {base:Heap}
end
end L2
namespace L2
open PySem PySem.Spec PyProof.Rows
abbrev TJ:=Str -> St -> Hp -> VK -> Prop
section
variable {X:Cx} {e v1 v2:Expr} {es:List Expr} {te:TE} {tr:TJ} {pos:Pos}
end
end L2
set_option Elab.async false
set_option linter.all false
set_option maxRecDepth 100000
namespace L2
open PySem PySem.Spec PyProof.Rows PySem.Calls
def ExcAt (x D:Addr) (h:Heap):Prop:=∃ o vs,h.get? x = some o /\ o.cls = .ref D /\ o.data = .fields vs
theorem ExcAt.ty {M:Model} {x D:Addr} {h:Heap} (p:ExcAt x D h):PySem.W.Looks M h (typeOf (.ref x)) (.ref D):=by
 obtain ⟨o,vs,h1,h2,_⟩:=p
 exact h2 ▸ (PySem.W.Looks.ld h1).andThen .now
structure ExcCls (K:PySem.W.Frag) (D:Addr):Prop where
 ga:PySem.W.findIn K (.ref D) "__getattribute__" = some (some (.builtin "BaseException.__getattribute__"))
 gh:PySem.W.findIn K (.ref D) "__getattr__" = some none
 be:PySem.W.mroIn K D (.type "BaseException") = some true
 hd:PySem.W.hasDictIn K D = true
 at_:PySem.W.findIn K (.ref D) "__class__" = some (some (.builtin "object.__class__"))
 gt:PySem.W.specialIn K (.builtin "object.__class__") "__get__" = some (some (.builtin "getset_descriptor.__get__"))
 tk:PySem.W.takesIn K (.builtin "object.__class__") = some true
 ob:PySem.W.mroIn K D (.type "object") = some true
section
variable {K:PySem.W.Frag} {x D:Addr}
open PySem.W Builtin Builtin.ObjectAttr in
open PySem.W Builtin Builtin.ObjectAttr Builtin.Getset_descriptor in
open PySem.W Builtin Builtin.ObjectAttr in
open PySem.W Builtin Builtin.ObjectAttr in
open PySem.W Builtin Builtin.ObjectAttr in
end
end L2
set_option Elab.async false
set_option linter.all false
set_option maxRecDepth 100000
namespace L2
open PySem PySem.Spec PyProof.Rows
section
variable {P:Program} {w:World} {K:PySem.W.Frag} {mg:Str -> Option Value} {base:Heap} {CX:CXT} {k:Nat} {f:Addr} {fd:FuncData} {ps:List Str} {sp sp':Sp}
theorem FnOk.lift (F:FnOk P w K mg base CX0 k f fd ps sp):FnOk P w K mg base CX k f fd ps sp :=
 ⟨F.len,fun A outer s H args us vs Q E hr he hb hv hs => codeAny_mono (F.run A outer s H args us vs Q E hr he hb hv hs) fun r s' h => by
  cases r with
  | error e => exact False.elim h
  | ok fl => cases fl <;> exact h⟩
theorem FnOk.or (F:FnOk P w K mg base CX k f fd ps sp) (G:FnOk P w K mg base CX k f fd ps sp'):FnOk P w K mg base CX k f fd ps (fun vs H Q E => sp vs H Q E ∨ sp' vs H Q E) :=
 ⟨fun vs H Q E h => h.elim (F.len vs H Q E) (G.len vs H Q E),fun A outer s H args us vs Q E hr he hb hv hs => hs.elim (F.run A outer s H args us vs Q E hr he hb hv) (G.run A outer s H args us vs Q E hr he hb hv)⟩
end
structure Flt (P:Program) (w:World) (outer:List Env) (H:Hp) (s:Shared) (H':Hp) (B h:Heap):Prop where
 stays:B.StaysIn h
 frames:h.FunFrames B outer
 slot:∀ b o,s.heap.get? b = some o -> H b = none -> b ∈ frs outer -> ∃ sl,h.get? b = some { o with slots:=sl }
 free:∀ b o,s.heap.get? b = some o -> H b = none -> H' b = none
 tups:∀ b xs,H b = some (.tup xs) -> H' b = some (.tup xs)
 frzs:∀ b o u,H b = some (.frz o u) -> H' b = some (.frz o u)
 tbls:∀ b ps,H b = some (.tbl ps) -> ∃ more,H' b = some (.tbl (ps ++ more))
 kb:∀ b o,s.heap.get? b = some o -> H b = none -> b ∉ frs outer -> B.get? b = some o
 tb:∀ b o,s.heap.get? b = some o -> b ∉ frs outer -> ∃ o',B.get? b = some o'
 hok:HOk P w H' B
section
variable {P:Program} {w:World} {outer:List Env} {H H':Hp} {s:Shared} {B h h':Heap}
theorem Flt.un (f:Flt P w outer H s H' B h):Un (frs outer) [] H H' s.heap h where
 keep:=fun b o q n hb _ => f.stays b o (f.kb b o q n hb)
 slot:=fun b o q n hb _ => f.slot b o q n hb
 free:=fun b o q n _ => f.free b o q n
 there:=fun b o q _ => by
  by_cases hb:b ∈ frs outer
  ·obtain ⟨_,o2,ho2,_⟩:=f.frames.mem hb
   exact ⟨o2,ho2⟩
  ·obtain ⟨o2,e2⟩:=f.tb b o q hb
   exact ⟨o2,f.stays b o2 e2⟩
 tups:=f.tups
 frzs:=f.frzs
 tbls:=f.tbls
theorem Flt.ok (f:Flt P w outer H s H' B h):HOk P w H' h:=f.hok.kept f.stays
theorem Flt.next (f:Flt P w outer H s H' B h) (st:B.StaysIn h') (fr:h'.FunFrames B outer) (u:h.UpToSlots h'):Flt P w outer H s H' B h' :=
 ⟨st,fr,fun b o q n hb => by
  obtain ⟨sl,e1⟩:=f.slot b o q n hb
  obtain ⟨_,o2,ho2,hnf⟩:=f.frames.mem hb
  rw [e1] at ho2
  cases ho2
  obtain ⟨sl2,e2⟩:=u b _ e1 hnf
  exact ⟨sl2,e2⟩,f.free,f.tups,f.frzs,f.tbls,f.kb,f.tb,f.hok⟩
theorem ObjOk.there {H:Hp} {a:Addr} {o:HO} (x:ObjOk P w H h a o):∃ ob,h.get? a = some ob:=by
 cases o with
 | lst xs => obtain ⟨_,_,_,_,e⟩:=x; exact ⟨_,e⟩
 | tup xs => obtain ⟨_,_,_,o,e,_⟩:=x; exact ⟨o,e⟩
 | dK kvs => obtain ⟨_,_,_,_,o,_,_,e,_⟩:=x; exact ⟨o,e⟩
 | dT kvs => obtain ⟨_,_,_,_,o,_,_,e,_⟩:=x; exact ⟨o,e⟩
 | set S n => obtain ⟨o,_,_,_,e,_⟩:=x; exact ⟨o,e⟩
 | ins C dx fs => obtain ⟨_,_,_,e,_⟩:=x; exact ⟨_,e⟩
 | own y => exact x
 | xd fs => obtain ⟨_,⟨o,_,_,e,_⟩,_⟩:=x; exact ⟨o,e⟩
 | rng lo hi => obtain ⟨_,_,_,e⟩:=x; exact ⟨_,e⟩
 | frz ob u => obtain ⟨e,_⟩:=x; exact ⟨_,e⟩
 | tbl ps => exact ⟨_,show h.get? a = some _ from x⟩
 | met f y => exact ⟨_,show h.get? a = some _ from x⟩
 | ext φ => obtain ⟨_,e,_⟩:=x; exact e
end
section
variable {X:Cx} {pins:List (Addr × Obj)} {σ:St} {H:Hp} {s:Shared}
theorem Inv.tracked {a:Addr} {u:HO} (I:Inv X pins σ H s) (hn:H a = none) (new:X.s₀.heap.get? a = none) (hL:a ≠ X.env.locals) (hc:∀ x c,X.env.cells.lookup x = some c -> c ≠ a) (hp:∀ p ∈ X.pn ++ pins,p.1 ≠ a)
  (ok:ObjOk X.prog X.w (upd H a u) s.heap a u):Inv X pins σ (upd H a u) s:=by
 have ne:∀ b o,H b = some o -> b ≠ a:=fun b o e z => by rw [z,hn] at e; cases e
 have nw:∀ b o,X.s₀.heap.get? b = some o -> b ≠ a:=fun b o e z => by rw [z,new] at e; cases e
 refine ⟨I.ok,I.os,I.bare,⟨I.base.keep,I.base.slot,fun b o q n hx => ?_,I.base.there,fun b xs q => ?_,fun b o v q => ?_,fun b ps q => ?_⟩,I.loc,I.cell,?_,fun x c e => ?_,fun p h => ?_,fun b o e => ?_,I.len⟩
 ·rw [upd_ne (nw b o q)]; exact I.base.free b o q n hx
 ·have e:=I.base.tups b xs q; rw [upd_ne (ne b _ e)]; exact e
 ·have e:=I.base.frzs b o v q; rw [upd_ne (ne b _ e)]; exact e
 ·obtain ⟨m,e⟩:=I.base.tbls b ps q; exact ⟨m,by rw [upd_ne (ne b _ e)]; exact e⟩
 ·rw [upd_ne (Ne.symm hL)]; exact I.free
 ·rw [upd_ne (hc x c e)]; exact I.freeC x c e
 ·obtain ⟨e1,e2,e3⟩:=I.pin p h
  exact ⟨e1,by rw [upd_ne (hp p h)]; exact e2,e3⟩
 ·by_cases hb:b = a
  ·subst hb; rw [upd_same] at e; cases e; exact ok
  ·rw [upd_ne hb] at e
   exact (I.hok b o e).stay (fun _ _ _ q => q) (fun c q => by rw [upd_ne (ne c _ q)]; exact q) fun c xs q => by rw [upd_ne (ne c _ q)]; exact q
end
structure RoomQ (k:Nat) (A:Around):Prop where
 dp:A.depth + 3 * k + 5 < recursionLimit
 un:A.units + 16 * k + 200 < cLine
theorem Room.q {k:Nat} {A:Around} (r:Room k A):RoomQ k A:=⟨r.dp,r.un⟩
theorem RoomQ.mono {j k:Nat} {A:Around} (r:RoomQ k A) (h:j <= k):RoomQ j A:=⟨by have:=r.dp; omega,by have:=r.un; omega⟩
theorem RoomQ.deeper {k:Nat} {A:Around} (r:RoomQ (k + 1) A) (env:Env):RoomQ k (A.deeper env) :=
 ⟨by have:=r.dp; show A.depth + 1 + 3 * k + 5 < _; omega,by have:=r.un; show A.units + 3 + 16 * k + 200 < _; omega⟩
structure FnOkQ (P:Program) (w:World) (K:PySem.W.Frag) (mg:Str -> Option Value) (base:Heap) (k:Nat) (f:Addr) (fd:FuncData) (ps:List Str) (sp:Sp):Prop where
 len:∀ vs H Q E,sp vs H Q E -> vs.length = ps.length
 run:∀ (A:Around) (outer:List Env) (s:Shared) (H:Hp) (args:Args) (us:List Value) (vs:List V) (Q:VK) (E:XK),RoomQ k A -> Env0 P w K mg base A outer s H -> BindsTo s fd args (ps.zip us) -> Vals vs us -> sp vs H Q E ->
  codeAny (model P w) A (.call (.ref f) args) (CR CX0 outer P w H s Q E) s
section
variable {X:Cx} {k:Nat} {f:Addr} {fd:FuncData} {ps:List Str} {sp:Sp} {x:Str} {p pos:Pos} {e:Expr} {es:List Expr} {t:TA}
end
end L2
set_option Elab.async false
set_option linter.all false
set_option maxRecDepth 100000
namespace L2
open PySem PySem.Spec PyProof.Rows
structure Deed (P:Program) (w:World) (K:PySem.W.Frag) (mg:Str -> Option Value) (base:Heap) (k:Nat) (s:Shared) (H:Hp) (outer:List Env) (g:Addr) (sp:Hp -> VK -> XK -> Prop):Prop where
 fn:PySem.W.FnAt g s.heap
 un:H g = none
 nf:g ∉ frs outer
 run:∀ (A':Around) (outer':List Env) (s':Shared) (H':Hp) (Q:VK) (E:XK),Room k A' -> Env0 P w K mg base A' outer' s' H' ->
  (∀ b o,s.heap.get? b = some o -> H b = none -> b ∉ frs outer -> s'.heap.get? b = some o /\ H' b = none) -> (∀ b o u,H b = some (.frz o u) -> H' b = some (.frz o u)) -> sp H' Q E -> codeAny (model P w) A' (.call (.ref g) ⟨[],[]⟩) (CR (CXr P w) outer' P w H' s' Q E) s'
end L2
set_option Elab.async false
set_option linter.all false
set_option maxRecDepth 100000
namespace L2
open PySem PySem.Spec PyProof.Rows
structure LamAt (h:Heap) (H:Hp) (fs:List Addr) (N:List Str) (σ:St) (qual:Str) (params:Arguments) (body:Expr) (scope:Scope) (cl:List (Str × Addr)) (g c':Addr):Prop where
 fn:∃ pm ctv,h.get? g = some (PySem.W.kla_obj "<lambda>" qual params body scope cl pm c' ctv)
 gn:H g = none /\ g ∉ fs
 code:∃ o vs t,H c' = some (.frz o (.own 0)) /\ o.data = .fields vs /\ vs[1]? = some (.str qual t)
 cells:∀ x c,cl.lookup x = some c -> (∃ v,h.IsCell c v) /\ H c = none /\ c ∉ fs
 vals:∀ (i:Nat) (x:Str) (v:V),N[i]? = some x -> σ[i]? = some (some v) -> ∃ u c,RelV v u /\ cl.lookup x = some c /\ h.IsCell c (some u)
end L2
set_option Elab.async false
set_option linter.all false
set_option maxRecDepth 100000
namespace L2
open PySem PySem.Spec PyProof.Rows
structure RefOk (P:Program) (w:World) (K:PySem.W.Frag) (mg:Str -> Option Value) (base:Heap) (k kd:Nat) (f:Addr) (rs:(Hp -> VK -> XK -> Prop) -> Hp -> VK -> Prop):Prop where
 run:∀ (A:Around) (outer:List Env) (s:Shared) (H:Hp) (g:Addr) (spD:Hp -> VK -> XK -> Prop) (Q:VK),Room k A -> Env0 P w K mg base A outer s H -> Deed P w K mg base kd s H outer g spD -> rs spD H Q ->
  codeAny (model P w) A (.call (.ref f) ⟨[.ref g],[]⟩) (CR CX0 outer P w H s Q E0) s
section
variable {X:Cx} {pins:List (Addr × Obj)} {σ:St} {H:Hp} {s:Shared} {c Pt:Addr} {ps:Array Value} {params:Arguments} {body:Expr} {scope:Scope} {lpos:Pos} {clos:List (Str × Addr)} {Q:Value -> Shared -> Prop} {E:Value -> Shared -> Prop}
end
section
variable {X:Cx} {k kd:Nat} {f c Pt:Addr} {rs:(Hp -> VK -> XK -> Prop) -> Hp -> VK -> Prop} {x:Str} {p pos lpos:Pos} {params:Arguments} {body:Expr} {scope:Scope} {N':List Str} {tb:XK -> TE}
end
end L2
set_option Elab.async false
set_option linter.all false
set_option maxRecDepth 100000
namespace L2
open PySem PySem.Spec PyProof.Rows
section
variable {P:Program} {w:World} {K:PySem.W.Frag} {mg:Str -> Option Value} {base:Heap}
end
end L2
set_option Elab.async false
set_option linter.all false
set_option maxRecDepth 100000
namespace L2
open PySem PySem.Spec PyProof.Rows
section
variable {K:PySem.W.Frag} {C R:Addr} {Ds:List (Addr × Bool)}
end
def Small (i:Int):Prop:=i.natAbs.log2 < 1920
theorem small_of {i:Int} (h:i.natAbs < 2 ^ 1000):Small i:=by
 unfold Small
 by_cases h0:i.natAbs = 0
 ·rw [h0]; decide
 ·have:=(Nat.log2_lt h0).mpr (show i.natAbs < 2 ^ 1000 from h)
  omega
section
variable {E:XK} {C:Addr} {D:Ends} {σ:St} {H:Hp} {x y:Str} {i j:Nat} {m n:Int}
end
end L2
set_option Elab.async false
set_option linter.all false
set_option maxRecDepth 100000
namespace L2
open PySem PySem.Spec PyProof.Rows
def Asc (n:Nat) (y:Str):Prop:=y.length <= n /\ ∀ c ∈ y.cps.toList,c < 128
theorem Asc.mono {n m:Nat} {y:Str} (h:Asc n y) (hm:n <= m):Asc m y:=⟨Nat.le_trans h.1 hm,h.2⟩
theorem slice_mem {x:Str} {l u:Option Int} {c:Nat} (h:c ∈ (Txt.slice x l u).cps.toList):c ∈ x.cps.toList:=by
 unfold Txt.slice at h
 split at h
 ·exact h
 ·have h2:c ∈ (Builtin.Str.strSliceIndices l u 1 x.length).filterMap (x.cps[·]?):=by simpa using h
  obtain ⟨i,_,e⟩:=List.mem_filterMap.mp h2
  exact Array.mem_toList_iff.mpr (Array.mem_of_getElem? e)
theorem Asc.slice {n:Nat} {y:Str} (h:Asc n y) (l u:Option Int):Asc n (Txt.slice y l u):=⟨Nat.le_trans (Txt.slice_le y l u) h.1,fun c hc => h.2 c (slice_mem hc)⟩
section
variable {X:Cx}
theorem fitOf {n:Nat} (h:n <= sizeLine):Builtin.Str.tooLong n = false:=by unfold Builtin.Str.tooLong; exact decide_eq_false (by omega)
theorem strVals:∀ {ys:List Str} {us:List Value},Vals (ys.map V.str) us -> ∃ l:List (Str × Tok),us = strValues l /\ l.map (·.1) = ys
 | [],_,.nil => ⟨[],rfl,rfl⟩
 | y :: ys,_,.cons r t => by
  obtain ⟨k,e⟩:=(show ∃ k,_ = Value.str y k from r)
  subst e
  obtain ⟨l,rfl,rfl⟩:=strVals t
  exact ⟨(y,k) :: l,rfl,rfl⟩
def rJoin (K:PySem.W.Frag):V -> List V -> Hp -> VK -> Prop:=fun x vs H Q => ∃ (z:Str) (a:Addr) (ys:List Str),x = .str z /\ vs = [.ref a] /\ SqL K H a (ys.map V.str) /\ JoinOk z ys = true /\ Q (.str (Txt.join z ys)) H
theorem mt_join:MtM X "str.join" (rJoin X.K):=by
 intro pins s σ H x vs v us Q I rx rv h
 obtain ⟨z,a,ys,rfl,rfl,ha,hok,q⟩:=h
 obtain ⟨t,rfl⟩:=rx
 obtain ⟨u,rfl,ru⟩:=rv.one
 cases ru
 obtain ⟨its,r2,pl,hz⟩:=I.list ha
 obtain ⟨l,rfl,rfl⟩:=strVals r2
 exact SC.join (l:=l) pl.isList rfl hok fun t' k => ⟨.str (Txt.join z (l.map (·.1))),H,I.tok _,⟨t',rfl⟩,q⟩
end
theorem foldLen (k M:Nat):∀ (l:List Str) (acc:Nat),(∀ y ∈ l,y.length <= M) -> l.foldl (fun a y => a + y.length + k) acc <= acc + l.length * (M + k)
 | [],acc,_ => by simp
 | y :: l,acc,h => by
  have h1:=h y List.mem_cons_self
  have h2:=foldLen k M l (acc + y.length + k) fun z hz => h z (List.mem_cons_of_mem _ hz)
  rw [List.foldl_cons,List.length_cons,Nat.succ_mul]
  omega
theorem joinOk {sep:Str} {ys:List Str} {M:Nat} (h:∀ y ∈ ys,y.length <= M) (hs:ys.length * (M + sep.length) <= sizeLine):JoinOk sep ys = true:=by
 unfold JoinOk
 rw [List.foldl_toArray]
 have:=foldLen sep.length M ys 0 h
 rw [fitOf (by omega)]
 rfl
end L2
set_option Elab.async false
set_option linter.all false
set_option maxRecDepth 100000
namespace L2
open PySem PySem.Spec PyProof.Rows
def tCut (t:TS):TS:=fun D σ H => ∃ Pn:St -> Hp -> Prop,t { D with nx:=Pn } σ H /\ ∀ σ' H',Pn σ' H' -> D.nx σ' H'
theorem ps_cut {X:Cx} {st:Stmt} {t:TS} (h:PS X st t):PS X st (tCut t):=by
 intro pins s σ H D I ⟨Pn,ht,hn⟩
 refine thn (h pins s σ H { D with nx:=Pn } I ht) fun f s1 q => ?_
 cases f with
 | next => obtain ⟨σ',H',I',q⟩:=q; exact ⟨σ',H',I',hn _ _ q⟩
 | ret v => exact q
 | brk => exact q
 | cont => exact q
section
variable {E:XK} {C:Addr} {D:Ends} {σ:St} {H:Hp} {x x1 y:Str} {i j:Nat} {m n:Int}
end
end L2
set_option Elab.async false
set_option linter.all false
set_option maxRecDepth 100000
namespace L2
open PySem PySem.Spec PyProof.Rows
structure Tb (L:Kn) (Pt:Addr) (qual:Str):Prop where
 ex:∃ ps:Array Value,(Pt,HO.tbl ps) ∈ L /\ TriplesOk ps.toList /\ ∀ pos,codeAmong pos ps.toList = none ∨ ∃ (c':Addr) (oc:Obj) (vs:Array Value) (t:Tok),codeAmong pos ps.toList = some (.ref c') /\ (c',HO.frz oc (.own 0)) ∈ L /\ oc.data = .fields vs /\ vs[1]? = some (.str qual t)
theorem Tb.mono {L L':Kn} {Pt:Addr} {qual:Str} (T:Tb L Pt qual) (h:∀ z ∈ L,z ∈ L'):Tb L' Pt qual:=by
 obtain ⟨ps,m,tr,hp⟩:=T.ex
 exact ⟨ps,h _ m,tr,fun pos => (hp pos).imp id fun ⟨c',oc,vs,t,a,b,c,d⟩ => ⟨c',oc,vs,t,a,h _ b,c,d⟩⟩
theorem Tb.new {L:Kn} {Pt:Addr} {qual:Str} (h:(Pt,HO.tbl #[]) ∈ L):Tb L Pt qual:=⟨#[],h,trivial,fun _ => .inl rfl⟩
section
variable {X:Cx} {e:Expr} {te:TE} {pos:Pos}
end
section
variable {E:XK} {C:Addr} {D:Ends} {σ:St} {H:Hp} {x x1 x2:Str} {i j:Nat} {m n:Int} {a:Addr}
end
end L2
set_option Elab.async false
set_option linter.all false
set_option maxRecDepth 100000
namespace L2
open PySem PySem.Spec PyProof.Rows
section
variable {X:Cx} {K:PySem.W.Frag}
end
end L2
namespace L2
open PySem PySem.Spec PyProof.Rows
section
variable {X:Cx}
end
end L2
namespace L2
open PySem PySem.Spec PyProof.Rows
end L2
namespace L2
open PySem PySem.Spec PyProof.Rows
def SqB (b:Bool) (K:PySem.W.Frag) (H:Hp) (a:Addr) (xs:List V):Prop:=match b with | true => SqL K H a xs | false => SqT K H a xs
def ItB (b:Bool) (K:PySem.W.Frag) (a:Addr):It:=match b with | true => Itl K a | false => Itt K a
theorem ItB.go {b:Bool} {K:PySem.W.Frag} {H:Hp} {a:Addr} {xs:List V} {i:Nat} {x:V} (h:SqB b K H a xs) (e:xs[i]? = some x):(ItB b K a).go i H:=by
 cases b <;> exact ⟨xs,x,h,e⟩
theorem ItB.yld {b:Bool} {K:PySem.W.Frag} {H H':Hp} {a:Addr} {xs:List V} {i:Nat} {x:V} (y:(ItB b K a).yld i H x H') (h:SqB b K H a xs):H' = H /\ xs[i]? = some x:=by
 cases b <;> exact ⟨y.1,y.2 xs h⟩
theorem ItB.stop {b:Bool} {K:PySem.W.Frag} {H:Hp} {a:Addr} {xs:List V} {i:Nat} (h:SqB b K H a xs) (e:xs.length <= i):(ItB b K a).stop i H:=by
 cases b <;> exact ⟨xs,h,e⟩
def iSeq (K:PySem.W.Frag) (tl:TE):TI:=fun σ H R => tl σ H fun x H1 => ∃ a b,x = .ref a /\ (∃ xs,SqB b K H1 a xs) /\ R (ItB b K a) H1
theorem pi_seq {X:Cx} {tg:Expr} {l:Expr} {tl:TE} (hl:PE X l tl):PI X tg l (iSeq X.K tl):=by
 intro pins s σ H R I h
 refine thn (hl pins s σ H _ I h) fun v s1 ⟨x,H1,I1,r1,q1⟩ => ?_
 obtain ⟨a,b,e,⟨xs,hq⟩,q⟩:=q1
 subst e
 cases r1
 cases b with
 | true =>
  obtain ⟨its,rv,p,hz⟩:=I1.list hq
  refine wpAny_pyIter_list p.isList ?_
  refine ⟨s1.heap.objs.size,[s1.heap.objs.size],_,_,H1,rfl,I1.kept (t':=s1.toks) fun b o e => Heap.get?_push_of_some _ e,turn_list a _,⟨_,Heap.get?_push_size _ rfl,rfl,rfl⟩,fun b hb => ?_,q⟩
  have e:b = s1.heap.objs.size:=by simpa using hb
  subst e
  exact I1.fpOk (Nat.le_refl _) (I1.hok.fresh (Nat.le_refl _))
 | false =>
  obtain ⟨its,rv,p,hz⟩:=I1.tuple hq
  refine wpAny_pyIter_tuple (show s1.heap.IsTuple a its.toArray from p) ?_
  refine ⟨s1.heap.objs.size,[s1.heap.objs.size],_,_,H1,rfl,I1.kept (t':=s1.toks) fun b o e => Heap.get?_push_of_some _ e,turn_tuple a _,⟨_,Heap.get?_push_size _ rfl,rfl,rfl⟩,fun b hb => ?_,q⟩
  have e:b = s1.heap.objs.size:=by simpa using hb
  subst e
  exact I1.fpOk (Nat.le_refl _) (I1.hok.fresh (Nat.le_refl _))
end L2
namespace L2
open PySem PySem.Spec PyProof.Rows
def nT (n:Int):Str:=Str.ofString (toString n)
theorem nT_len {n:Int} (h0:0 <= n) (h1:n < 10 ^ 10):(nT n).length <= 10:=PySem.W.KT.len_num h0 h1
end L2
set_option Elab.async false
set_option linter.all false
set_option maxRecDepth 100000
namespace L2
open PySem PySem.Spec PyProof.Rows
end L2
set_option Elab.async false
set_option linter.all false
set_option maxRecDepth 100000
namespace L2.So
open PySem PyProof.Rows
section
variable {M:Model} {A:Around} {E:Value -> Shared -> Prop} {s:Shared} {κ:SortKind} {g:Keyed -> Int} {U:Keyed -> Prop}
def Cmp (M:Model) (A:Around) (s:Shared) (κ:SortKind) (g:Keyed -> Int) (U:Keyed -> Prop):Prop :=
 ∀ x y,U x -> U y -> ∀ Q:Bool -> Prop,Q (decide (g x < g y)) -> wpAny M A (keyLt' κ x.1 y.1) (fun b s' => s' = s /\ Q b) (fun _ _ => False) s
def G (g:Keyed -> Int) (xs:Array Keyed) (i:Nat):Int:=(xs[i]?.map g).getD 0
theorem G_congr {xs ys:Array Keyed} {i j:Nat} (h:xs[i]? = ys[j]?):G g xs i = G g ys j:=by unfold G; rw [h]
def Asc (g:Keyed -> Int) (xs:Array Keyed) (lo hi:Nat):Prop:=∀ i j,lo <= i -> i < j -> j < hi -> G g xs i < G g xs j
def All (U:Keyed -> Prop) (xs:Array Keyed):Prop:=∀ (i:Nat) p,xs[i]? = some p -> U p
def Dis (g:Keyed -> Int) (xs:Array Keyed):Prop:=∀ i j,i < j -> j < xs.size -> G g xs i ≠ G g xs j
structure Stt (κ:SortKind) (g:Keyed -> Int) (U:Keyed -> Prop) (st:SortSt):Prop where
 k:kindOf st = κ
 f:failedOf st = none
 u:All U (arrOf st)
 d:Dis g (arrOf st)
theorem w_lt (hC:Cmp M A s κ g U) {st:SortSt} {x y:Keyed} {Q:Option Bool -> SortSt -> Prop} (hk:kindOf st = κ) (hx:U x) (hy:U y) (h:Q (some (decide (g x < g y))) st):wpS M A E s (lt' x y) Q st:=by
 rw [lt'_eq]
 refine wpS_bind (wpS_get ?_)
 rw [hk]
 refine wpS_bind (wpS_lift (wpAny_attempt (wpAny_mono (hC x y hx hy (fun b => b = decide (g x < g y)) rfl) (fun b s' hb => ⟨hb.1,?_⟩) fun _ _ e => e.elim)))
 obtain ⟨_,rfl⟩:=hb
 exact wpS_pure h
theorem w_elem {arr:Array Keyed} {i:Nat} {p:Keyed} {Q:Keyed -> SortSt -> Prop} {st:SortSt} (e:arr[i]? = some p) (h:Q p st):wpS M A E s (elem' arr i) Q st:=by
 rw [elem'_eq,e]
 exact wpS_pure h
theorem at_ {xs:Array Keyed} {i:Nat} (h:i < xs.size):∃ p,xs[i]? = some p /\ G g xs i = g p:=⟨xs[i],getElem?_pos xs i h,by unfold G; rw [getElem?_pos xs i h]; rfl⟩
theorem w_ltAt (hC:Cmp M A s κ g U) {st:SortSt} {i j:Nat} {Q:Option Bool -> SortSt -> Prop} (hs:Stt κ g U st) (hi:i < (arrOf st).size) (hj:j < (arrOf st).size) (h:Q (some (decide (G g (arrOf st) i < G g (arrOf st) j))) st):wpS M A E s (ltAt' i j) Q st:=by
 obtain ⟨p,e1,e2⟩:=at_ (g:=g) hi
 obtain ⟨q,e3,e4⟩:=at_ (g:=g) hj
 rw [e2,e4] at h
 rw [ltAt'_eq]
 refine wpS_bind (wpS_get ?_)
 exact wpS_bind (w_elem e1 (wpS_bind (w_elem e3 (w_lt hC hs.k (hs.u i p e1) (hs.u j q e3) h))))
theorem Dis.ne {xs:Array Keyed} (h:Dis g xs) {i j:Nat} (hi:i < xs.size) (hj:j < xs.size) (n:i ≠ j):G g xs i ≠ G g xs j:=by
 rcases Nat.lt_or_gt_of_ne n with h1 | h1
 ·exact h i j h1 hj
 ·exact (h j i h1 hi).symm
theorem Asc.snoc {xs:Array Keyed} {lo n:Nat} (h:Asc g xs lo (lo + n)) (h1:1 <= n) (hlt:G g xs (lo + n - 1) < G g xs (lo + n)):Asc g xs lo (lo + n + 1):=by
 intro i j hi hij hj
 by_cases e:j = lo + n
 ·subst e
  by_cases e2:i = lo + n - 1
  ·subst e2; exact hlt
  ·exact Int.lt_trans (h i (lo + n - 1) hi (by omega) (by omega)) hlt
 ·exact h i j hi hij (by omega)
def Desc (g:Keyed -> Int) (xs:Array Keyed) (lo hi:Nat):Prop:=∀ i j,lo <= i -> i < j -> j < hi -> G g xs j < G g xs i
theorem Desc.snoc {xs:Array Keyed} {lo n:Nat} (h:Desc g xs lo (lo + n)) (h1:1 <= n) (hlt:G g xs (lo + n) < G g xs (lo + n - 1)):Desc g xs lo (lo + n + 1):=by
 intro i j hi hij hj
 by_cases e:j = lo + n
 ·subst e
  by_cases e2:i = lo + n - 1
  ·subst e2; exact hlt
  ·exact Int.lt_trans hlt (h i (lo + n - 1) hi (by omega) (by omega))
 ·exact h i j hi hij (by omega)
structure Swp (st st':SortSt) (lo hi:Nat):Prop where
 k:kindOf st' = kindOf st
 p:pendingOf st' = pendingOf st
 m:gallopOf st' = gallopOf st
 f:failedOf st' = failedOf st
 e:(arrOf st').Perm (arrOf st)
 o:∀ k,k < lo ∨ hi <= k -> (arrOf st')[k]? = (arrOf st)[k]?
theorem All.perm {xs ys:Array Keyed} (h:All U xs) (e:ys.Perm xs):All U ys:=by
 intro i p hp
 have hm:p ∈ ys.toList:=by rw [Array.mem_toList_iff]; exact Array.mem_of_getElem? hp
 have hm2:=(Array.perm_iff_toList_perm.mp e).mem_iff.mp hm
 rw [Array.mem_toList_iff] at hm2
 obtain ⟨j,hj⟩:=Array.getElem?_of_mem hm2
 exact h j p hj
theorem dis_iff {xs:Array Keyed}:Dis g xs ↔ (xs.toList.map g).Nodup:=by
 unfold Dis List.Nodup
 rw [List.pairwise_iff_getElem]
 simp only [List.length_map,Array.length_toList,List.getElem_map,Array.getElem_toList]
 constructor
 ·intro h i j hi hj hij
  have:=h i j hij hj
  unfold G at this
  rw [getElem?_pos xs i hi,getElem?_pos xs j hj] at this
  exact this
 ·intro h i j hij hj
  unfold G
  rw [getElem?_pos xs i (by omega),getElem?_pos xs j hj]
  exact h i j (by omega) hj hij
theorem Dis.perm {xs ys:Array Keyed} (h:Dis g xs) (e:ys.Perm xs):Dis g ys:=by
 rw [dis_iff] at h ⊢
 exact (((Array.perm_iff_toList_perm.mp e).map g).nodup_iff).mpr h
theorem Swp.refl (st:SortSt) (lo hi:Nat):Swp st st lo hi:=⟨rfl,rfl,rfl,rfl,Array.Perm.refl _,fun _ _ => rfl⟩
theorem Swp.stt {st st':SortSt} {lo hi:Nat} (h:Swp st st' lo hi) (hs:Stt κ g U st):Stt κ g U st':=⟨h.k.trans hs.k,h.f.trans hs.f,hs.u.perm h.e,hs.d.perm h.e⟩
theorem Swp.size {st st':SortSt} {lo hi:Nat} (h:Swp st st' lo hi):(arrOf st').size = (arrOf st).size:=h.e.size_eq
theorem Swp.trans {a b c:SortSt} {lo hi:Nat} (h:Swp a b lo hi) (h':Swp b c lo hi):Swp a c lo hi:=⟨h'.k.trans h.k,h'.p.trans h.p,h'.m.trans h.m,h'.f.trans h.f,h'.e.trans h.e,fun k hk => (h'.o k hk).trans (h.o k hk)⟩
theorem Swp.mono {a b:SortSt} {lo hi lo' hi':Nat} (h:Swp a b lo hi) (h1:lo' <= lo) (h2:hi <= hi'):Swp a b lo' hi':=⟨h.k,h.p,h.m,h.f,h.e,fun k hk => h.o k (by omega)⟩
theorem swp_rev {st:SortSt} {lo hi:Nat} (h:hi <= (arrOf st).size):Swp st (setArr st (mirror (arrOf st) lo hi ((hi - lo) / 2))) lo hi :=
 ⟨rfl,rfl,rfl,rfl,mirror_perm _ _ _ _,fun k hk => (getElem?_mirror_all h k).trans (if_neg (by omega))⟩
theorem rev_asc {xs:Array Keyed} {lo hi:Nat} (h:hi <= xs.size) (hd:Desc g xs lo hi):Asc g (mirror xs lo hi ((hi - lo) / 2)) lo hi:=by
 intro i j hi' hij hj
 have e1:(mirror xs lo hi ((hi - lo) / 2))[i]? = xs[lo + hi - 1 - i]?:=(getElem?_mirror_all h i).trans (if_pos (by omega))
 have e2:(mirror xs lo hi ((hi - lo) / 2))[j]? = xs[lo + hi - 1 - j]?:=(getElem?_mirror_all h j).trans (if_pos (by omega))
 rw [G_congr e1,G_congr e2]
 exact hd _ _ (by omega) (by omega) (by omega)
theorem w_run (hC:Cmp M A s κ g U) {st:SortSt} {lo m:Nat} {Q:Option Nat -> SortSt -> Prop} (hs:Stt κ g U st) (h1:1 <= m) (hz:lo + m <= (arrOf st).size)
  (h:∀ n st',1 <= n -> n <= m -> Swp st st' lo (lo + m) -> Asc g (arrOf st') lo (lo + n) -> Q (some n) st'):wpS M A E s (countRun' lo m) Q st:=by
 rw [countRun'_eq]
 refine wpS_bind (wpS_mono (wpS_forRange (I:=fun i c st' => st' = st /\ ∃ n,c = (none,n) /\ n = i /\ Asc g (arrOf st) lo (lo + n))
  (Q:=fun c st' => st' = st /\ ∃ n,c = (none,n) /\ 1 <= n /\ n <= m /\ Asc g (arrOf st) lo (lo + n) /\ (n < m -> G g (arrOf st) (lo + n) < G g (arrOf st) (lo + n - 1))) ?s1 ?f1 ⟨rfl,1,rfl,rfl,fun i j _ _ _ => by omega⟩) ?p1)
 case f1 =>
  rintro c st' ⟨rfl,n,rfl,rfl,ha⟩
  exact ⟨rfl,_,rfl,by omega,by omega,ha,fun q => by omega⟩
 case s1 =>
  rintro i c st' hi1 hi2 ⟨rfl,n,rfl,rfl,ha⟩
  dsimp only
  refine wpS_bind (w_ltAt hC hs (by omega) (by omega) ?_)
  dsimp only
  by_cases hlt:G g (arrOf st') (lo + n) < G g (arrOf st') (lo + n - 1)
  ·rw [if_pos (decide_eq_true hlt)]
   exact wpS_pure ⟨rfl,n,rfl,hi1,by omega,ha,fun _ => hlt⟩
  ·rw [if_neg (by simpa using hlt)]
   refine wpS_pure ⟨rfl,n + 1,rfl,rfl,?_⟩
   have:=hs.d.ne (i:=lo + n) (j:=lo + n - 1) (by omega) (by omega) (by omega)
   exact ha.snoc hi1 (by omega)
 case p1 =>
  rintro c st' ⟨rfl,n,rfl,hn1,hn2,ha,hb⟩
  dsimp only
  by_cases e1:n = m
  ·rw [if_pos (by simpa using e1)]
   exact wpS_pure (h n st' hn1 hn2 (Swp.refl _ _ _) ha)
  rw [if_neg (by simpa using e1)]
  have hb:=hb (by omega)
  by_cases e2:n > 1
  ·rw [if_pos e2]
   refine wpS_bind (w_ltAt hC hs (by omega) (by omega) ?_)
   dsimp only
   rw [if_pos (decide_eq_true (ha lo (lo + n - 1) (Nat.le_refl _) (by omega) (by omega)))]
   exact wpS_pure (h n st' hn1 hn2 (Swp.refl _ _ _) ha)
  rw [if_neg e2]
  obtain rfl:n = 1:=by omega
  refine wpS_bind (wpS_lift (wpAny_rule ⟨rfl,?_⟩))
  refine wpS_bind (wpS_mono (wpS_forRange (I:=fun i c st2 => st2 = st' /\ ∃ n,c = (none,n,0) /\ n = i /\ Desc g (arrOf st') lo (lo + n))
   (Q:=fun c st2 => st2 = st' /\ ∃ n,c = (none,n,0) /\ 2 <= n /\ n <= m /\ Desc g (arrOf st') lo (lo + n)) ?s2 ?f2 ⟨rfl,2,rfl,rfl,?i2⟩) ?p2)
  case i2 =>
   intro i j h1 h2 h3
   obtain rfl:i = lo:=by omega
   obtain rfl:j = i + 1:=by omega
   exact hb
  case f2 =>
   rintro c st2 ⟨rfl,n,rfl,rfl,hd⟩
   exact ⟨rfl,_,rfl,by omega,by omega,hd⟩
  case s2 =>
   rintro i c st2 hi1 hi2 ⟨rfl,n,rfl,rfl,hd⟩
   dsimp only
   refine wpS_bind (w_ltAt hC hs (by omega) (by omega) ?_)
   dsimp only
   by_cases hlt:G g (arrOf st2) (lo + n) < G g (arrOf st2) (lo + n - 1)
   ·rw [if_pos (decide_eq_true hlt),if_neg (by decide)]
    exact wpS_pure ⟨rfl,n + 1,rfl,rfl,hd.snoc (by omega) hlt⟩
   ·rw [if_neg (by simpa using hlt)]
    refine wpS_bind (w_ltAt hC hs (by omega) (by omega) ?_)
    dsimp only
    have:=hs.d.ne (i:=lo + n) (j:=lo + n - 1) (by omega) (by omega) (by omega)
    rw [if_pos (decide_eq_true (by omega))]
    exact wpS_pure ⟨rfl,n,rfl,by omega,by omega,hd⟩
  case p2 =>
   rintro c st2 ⟨rfl,n,rfl,hn1,hn2,hd⟩
   dsimp only
   rw [if_neg (by decide),reverseSlice'_eq]
   refine wpS_bind (wpS_modify ?_)
   have w1:=(swp_rev (st:=st2) (lo:=lo) (hi:=lo + n) (by omega)).mono (Nat.le_refl lo) (show lo + n <= lo + m by omega)
   have a1:=rev_asc (xs:=arrOf st2) (lo:=lo) (hi:=lo + n) (by omega) hd
   obtain ⟨st3,e3⟩:∃ st3,setArr st2 (mirror (arrOf st2) lo (lo + n) ((lo + n - lo) / 2)) = st3:=⟨_,rfl⟩
   have a1:Asc g (arrOf st3) lo (lo + n):=by rw [<- e3]; exact a1
   rw [e3] at w1 ⊢
   have hs3:=w1.stt hs
   have z3:=w1.size
   refine wpS_bind (wpS_mono (wpS_forRange (I:=fun i c st' => st' = st3 /\ ∃ n,c = (none,n) /\ n = i /\ Asc g (arrOf st3) lo (lo + n))
    (Q:=fun c st' => st' = st3 /\ ∃ n,c = (none,n) /\ 1 <= n /\ n <= m /\ Asc g (arrOf st3) lo (lo + n)) ?s3 ?f3 ⟨rfl,n,rfl,rfl,a1⟩) ?p3)
   case f3 =>
    rintro c st' ⟨rfl,n,rfl,rfl,ha⟩
    exact ⟨rfl,_,rfl,by omega,by omega,ha⟩
   case s3 =>
    rintro i c st' hi1 hi2 ⟨rfl,n,rfl,rfl,ha⟩
    dsimp only
    refine wpS_bind (w_ltAt hC hs3 (by omega) (by omega) ?_)
    dsimp only
    by_cases hlt:G g (arrOf st') (lo + n) < G g (arrOf st') (lo + n - 1)
    ·rw [if_pos (decide_eq_true hlt)]
     exact wpS_pure ⟨rfl,n,rfl,by omega,by omega,ha⟩
    ·rw [if_neg (by simpa using hlt)]
     refine wpS_pure ⟨rfl,n + 1,rfl,rfl,?_⟩
     have:=hs3.d.ne (i:=lo + n) (j:=lo + n - 1) (by omega) (by omega) (by omega)
     exact ha.snoc (by omega) (by omega)
   case p3 =>
    rintro c st' ⟨rfl,n,rfl,hn1,hn2,ha⟩
    exact wpS_pure (h n st' hn1 hn2 w1 ha)
theorem swp_bub {st:SortSt} {lo hi src d:Nat} (h1:lo <= src - d) (h2:src < hi) (h3:src < (arrOf st).size) (h4:d <= src):Swp st (setArr st (bubble (arrOf st) src d)) lo hi :=
 ⟨rfl,rfl,rfl,rfl,bubble_perm _ _ _,fun k hk => by
  show (bubble (arrOf st) src d)[k]? = _
  rw [getElem?_bubble h3 d h4 k,if_neg (by omega),if_neg (by omega)]⟩
theorem w_bin (hC:Cmp M A s κ g U) {st:SortSt} {lo n ok:Nat} {Q:Bool -> SortSt -> Prop} (hs:Stt κ g U st) (hok:1 <= ok) (hn:ok <= n) (hz:lo + n <= (arrOf st).size) (ha:Asc g (arrOf st) lo (lo + ok))
  (h:∀ st',Swp st st' lo (lo + n) -> Asc g (arrOf st') lo (lo + n) -> Q true st'):wpS M A E s (binarySort' lo n ok) Q st:=by
 rw [binarySort'_eq]
 refine wpS_bind (wpS_mono (wpS_forRange (I:=fun i c st' => c = (none,()) /\ Swp st st' lo (lo + n) /\ Asc g (arrOf st') lo (lo + i))
  (Q:=fun c st' => c = (none,()) /\ Swp st st' lo (lo + n) /\ Asc g (arrOf st') lo (lo + n)) ?s1 ?f1 ⟨rfl,Swp.refl _ _ _,?i1⟩) ?p1)
 case i1 => rw [Nat.max_eq_left hok]; exact ha
 case f1 =>
  rintro c st' ⟨rfl,hw,ha⟩
  refine ⟨rfl,hw,?_⟩
  rw [show max (max ok 1) n = n by omega] at ha
  exact ha
 case p1 =>
  rintro c st' ⟨rfl,hw,ha⟩
  exact wpS_pure (h st' hw ha)
 case s1 =>
  rintro k c st' hk1 hk2 ⟨rfl,hw,ha⟩
  have hs':=hw.stt hs
  have z:=hw.size
  refine wpS_bind (wpS_mono (wpS_forRange (I:=fun x c st2 => st2 = st' /\ ∃ l r,c = (none,l,r) /\ l <= r /\ r <= k /\ r - l <= k - x /\ (∀ i,i < l -> G g (arrOf st') (lo + i) < G g (arrOf st') (lo + k)) /\ (∀ i,r <= i -> i < k -> G g (arrOf st') (lo + k) < G g (arrOf st') (lo + i)))
   (Q:=fun c st2 => st2 = st' /\ ∃ l r,c = (none,l,r) /\ l <= k /\ (∀ i,i < l -> G g (arrOf st') (lo + i) < G g (arrOf st') (lo + k)) /\ (∀ i,l <= i -> i < k -> G g (arrOf st') (lo + k) < G g (arrOf st') (lo + i))) ?s2 ?f2 ⟨rfl,0,k,rfl,by omega,by omega,by omega,fun i hi => by omega,fun i h1 h2 => by omega⟩) ?p2)
  case f2 =>
   rintro c st2 ⟨rfl,l,r,rfl,h1,h2,h3,h4,h5⟩
   obtain rfl:l = r:=by omega
   exact ⟨rfl,l,l,rfl,h2,h4,h5⟩
  case s2 =>
   rintro x c st2 _ hx ⟨rfl,l,r,rfl,h1,h2,h3,h4,h5⟩
   dsimp only
   by_cases hge:l ≥ r
   ·rw [if_pos hge]
    obtain rfl:l = r:=by omega
    exact wpS_pure ⟨rfl,l,l,rfl,h2,h4,h5⟩
   ·rw [if_neg hge]
    refine wpS_bind (w_ltAt hC hs' (by omega) (by omega) ?_)
    dsimp only
    by_cases hlt:G g (arrOf st2) (lo + k) < G g (arrOf st2) (lo + (l + r) / 2)
    ·rw [if_pos (decide_eq_true hlt)]
     refine wpS_pure ⟨rfl,l,(l + r) / 2,rfl,by omega,by omega,by omega,h4,fun i h6 h7 => ?_⟩
     by_cases e:i = (l + r) / 2
     ·subst e; exact hlt
     ·exact Int.lt_trans hlt (ha _ _ (by omega) (by omega) (by omega))
    ·rw [if_neg (by simpa using hlt)]
     refine wpS_pure ⟨rfl,(l + r) / 2 + 1,r,rfl,by omega,by omega,by omega,fun i h6 => ?_,h5⟩
     have:=hs'.d.ne (i:=lo + k) (j:=lo + (l + r) / 2) (by omega) (by omega) (by omega)
     by_cases e:i = (l + r) / 2
     ·subst e; omega
     ·have:=ha (lo + i) (lo + (l + r) / 2) (by omega) (by omega) (by omega)
      omega
  case p2 =>
   rintro c st2 ⟨rfl,l,r,rfl,hl,h4,h5⟩
   show wpS _ _ _ _ (do moveDown' (lo + k) (lo + l); pure (ForInStep.yield (none,()))) _ _
   rw [moveDown'_eq]
   have hb:=swp_bub (st:=st2) (lo:=lo) (hi:=lo + n) (src:=lo + k) (d:=lo + k - (lo + l)) (by omega) (by omega) (by omega) (by omega)
   refine wpS_bind (wpS_modify (wpS_pure ⟨rfl,hw.trans hb,?_⟩))
   have gb:=getElem?_bubble (xs:=arrOf st2) (src:=lo + k) (by omega) (lo + k - (lo + l)) (by omega)
   rw [show lo + k - (lo + k - (lo + l)) = lo + l by omega] at gb
   intro i j hi hij hj
   show G g (bubble (arrOf st2) (lo + k) (lo + k - (lo + l))) i < G g (bubble (arrOf st2) (lo + k) (lo + k - (lo + l))) j
   have gi:=gb i
   have gj:=gb j
   by_cases i1:i = lo + l
   ·rw [if_pos i1] at gi
    rw [if_neg (by omega),if_pos (by omega)] at gj
    rw [G_congr gi,G_congr gj,show j - 1 = lo + (j - 1 - lo) by omega]
    exact h5 _ (by omega) (by omega)
   ·rw [if_neg i1] at gi
    by_cases i2:lo + l < i /\ i <= lo + k
    ·rw [if_pos i2] at gi
     rw [if_neg (by omega),if_pos (by omega)] at gj
     rw [G_congr gi,G_congr gj]
     exact ha _ _ (by omega) (by omega) (by omega)
    ·rw [if_neg i2] at gi
     rw [G_congr gi]
     by_cases j1:j = lo + l
     ·rw [if_pos j1] at gj
      rw [G_congr gj,show i = lo + (i - lo) by omega]
      exact h4 _ (by omega)
     ·rw [if_neg j1] at gj
      by_cases j2:lo + l < j /\ j <= lo + k
      ·rw [if_pos j2] at gj
       rw [G_congr gj]
       exact ha _ _ (by omega) (by omega) (by omega)
      ·rw [if_neg j2] at gj
       rw [G_congr gj]
       exact ha _ _ (by omega) (by omega) (by omega)
def galP:Bool -> Keyed -> Array Keyed -> Nat -> Nat -> Nat -> StateT SortSt Sem (Option Nat):=sortPriv% PySem.Builtin.gallop
def beyP (left:Bool) (key:Keyed) (arr:Array Keyed) (base i:Nat):StateT SortSt Sem (Option Bool):=do
 let x <- elem' arr (base + i)
 if left then lt' x key else return (<- lt' key x).map (!·)
def finP (left:Bool) (key:Keyed) (arr:Array Keyed) (base n lo0 hi0:Nat):StateT SortSt Sem (Option Nat):=do
 let mut lo:=lo0
 let mut hi:=hi0
 for _ in [0:n] do
  if lo ≥ hi then break
  let m:=lo + (hi - lo) / 2
  let some b3 <- beyP left key arr base m | return none
  if b3 then lo:=m + 1 else hi:=m
 return some hi
theorem galP_eq (left:Bool) (key:Keyed) (arr:Array Keyed) (base n hint:Nat):galP left key arr base n hint = (do
 let mut la:=0
 let mut of:=1
 let mut lo:=0
 let mut hi:=0
 let some b0 <- beyP left key arr base hint | return none
 if b0 then
  let mx:=n - hint
  for _ in [0:n] do
   if of ≥ mx then break
   let some b1 <- beyP left key arr base (hint + of) | return none
   if !b1 then break
   la:=of
   of:=2 * of + 1
  lo:=hint + la + 1
  hi:=hint + min of mx
 else
  let mx:=hint + 1
  for _ in [0:n] do
   if of ≥ mx then break
   let some b2 <- beyP left key arr base (hint - of) | return none
   if b2 then break
   la:=of
   of:=2 * of + 1
  lo:=hint + 1 - min of mx
  hi:=hint - la
 finP left key arr base n lo hi):=rfl
def bey (g:Keyed -> Int) (left:Bool) (key:Keyed) (arr:Array Keyed) (base i:Nat):Bool:=if left then decide (G g arr (base + i) < g key) else !decide (g key < G g arr (base + i))
theorem w_bey (hC:Cmp M A s κ g U) {st:SortSt} {left:Bool} {key:Keyed} {arr:Array Keyed} {base i:Nat} {Q:Option Bool -> SortSt -> Prop} (hk:kindOf st = κ) (hu:U key) (ha:All U arr) (hi:base + i < arr.size)
  (h:Q (some (bey g left key arr base i)) st):wpS M A E s (beyP left key arr base i) Q st:=by
 obtain ⟨p,e1,e2⟩:=at_ (g:=g) hi
 unfold bey at h
 rw [e2] at h
 unfold beyP
 refine wpS_bind (w_elem e1 ?_)
 cases left with
 | true => exact w_lt hC hk (ha _ _ e1) hu h
 | false => exact wpS_bind (w_lt hC hk hu (ha _ _ e1) (wpS_pure h))
theorem w_gal (hC:Cmp M A s κ g U) {st:SortSt} {left:Bool} {key:Keyed} {arr:Array Keyed} {base n hint:Nat} {Q:Option Nat -> SortSt -> Prop} (hk:kindOf st = κ) (hu:U key) (ha:All U arr) (hz:base + n <= arr.size) (hh:hint < n)
  (hm:∀ i j,i <= j -> j < n -> bey g left key arr base j = true -> bey g left key arr base i = true)
  (h:∀ k,k <= n -> (∀ i,i < k -> bey g left key arr base i = true) -> (∀ i,k <= i -> i < n -> bey g left key arr base i = false) -> Q (some k) st):wpS M A E s (galP left key arr base n hint) Q st:=by
 have hm':∀ i j,i <= j -> j < n -> bey g left key arr base i = false -> bey g left key arr base j = false:=fun i j h1 h2 h3 => by
  cases e:bey g left key arr base j with
  | false => rfl
  | true => rw [hm i j h1 h2 e] at h3; cases h3
 have last:∀ lo hi,lo <= hi -> hi <= n -> (∀ i,i < lo -> bey g left key arr base i = true) -> (∀ i,hi <= i -> i < n -> bey g left key arr base i = false) ->
   wpS M A E s (finP left key arr base n lo hi) Q st:=by
  intro lo hi h1 h2 h3 h4
  unfold finP
  refine wpS_bind (wpS_mono (wpS_forRange (I:=fun x c st' => st' = st /\ ∃ lo hi,c = (none,lo,hi) /\ lo <= hi /\ hi <= n /\ hi - lo <= n - x /\ (∀ i,i < lo -> bey g left key arr base i = true) /\ (∀ i,hi <= i -> i < n -> bey g left key arr base i = false))
   (Q:=fun c st' => st' = st /\ ∃ lo hi,c = (none,lo,hi) /\ hi <= n /\ (∀ i,i < hi -> bey g left key arr base i = true) /\ (∀ i,hi <= i -> i < n -> bey g left key arr base i = false)) ?s2 ?f2 ⟨rfl,lo,hi,rfl,h1,h2,by omega,h3,h4⟩) ?p2)
  case f2 =>
   rintro c st' ⟨rfl,lo,hi,rfl,h1,h2,h3,h4,h5⟩
   obtain rfl:lo = hi:=by omega
   exact ⟨rfl,lo,lo,rfl,h2,h4,h5⟩
  case s2 =>
   rintro x c st' _ hx ⟨rfl,lo,hi,rfl,h1,h2,h3,h4,h5⟩
   dsimp only
   by_cases hge:lo ≥ hi
   ·rw [if_pos hge]
    obtain rfl:lo = hi:=by omega
    exact wpS_pure ⟨rfl,lo,lo,rfl,h2,h4,h5⟩
   ·rw [if_neg hge]
    refine wpS_bind (w_bey hC hk hu ha (by omega) ?_)
    dsimp only
    cases e:bey g left key arr base (lo + (hi - lo) / 2) with
    | true =>
     rw [if_pos rfl]
     exact wpS_pure ⟨rfl,lo + (hi - lo) / 2 + 1,hi,rfl,by omega,by omega,by omega,fun i hi' => hm i _ (by omega) (by omega) e,h5⟩
    | false =>
     rw [if_neg (by simp)]
     exact wpS_pure ⟨rfl,lo,lo + (hi - lo) / 2,rfl,by omega,by omega,by omega,h4,fun i h6 h7 => hm' _ i h6 h7 e⟩
  case p2 =>
   rintro c st' ⟨rfl,lo,hi,rfl,h2,h4,h5⟩
   exact wpS_pure (h hi h2 h4 h5)
 rw [galP_eq]
 refine wpS_bind (w_bey hC hk hu ha (by omega) ?_)
 dsimp only
 cases e:bey g left key arr base hint with
 | true =>
  rw [if_pos rfl]
  refine wpS_bind (wpS_mono (wpS_forRange (I:=fun x c st' => st' = st /\ ∃ la of,c = (none,la,of) /\ x + 1 <= of /\ la < of /\ hint + la < n /\ bey g left key arr base (hint + la) = true)
   (Q:=fun c st' => st' = st /\ ∃ la of,c = (none,la,of) /\ la < of /\ hint + la < n /\ bey g left key arr base (hint + la) = true /\ (n - hint <= of ∨ bey g left key arr base (hint + of) = false)) ?s2 ?f2 ⟨rfl,0,1,rfl,by omega,by omega,by omega,e⟩) ?p2)
  case f2 =>
   rintro c st' ⟨rfl,la,of,rfl,h1,h2,h3,h4⟩
   exact ⟨rfl,la,of,rfl,h2,h3,h4,.inl (by omega)⟩
  case s2 =>
   rintro x c st' _ hx ⟨rfl,la,of,rfl,h1,h2,h3,h4⟩
   dsimp only
   by_cases hge:of ≥ n - hint
   ·rw [if_pos hge]
    exact wpS_pure ⟨rfl,la,of,rfl,h2,h3,h4,.inl hge⟩
   ·rw [if_neg hge]
    refine wpS_bind (w_bey hC hk hu ha (by omega) ?_)
    dsimp only
    cases e:bey g left key arr base (hint + of) with
    | false =>
     rw [if_pos (show (!false) = true from rfl)]
     exact wpS_pure ⟨rfl,la,of,rfl,h2,h3,h4,.inr e⟩
    | true =>
     rw [if_neg (by simp)]
     exact wpS_pure ⟨rfl,of,2 * of + 1,rfl,by omega,by omega,by omega,e⟩
  case p2 =>
   rintro c st' ⟨rfl,la,of,rfl,h2,h3,h4,h5⟩
   refine last (hint + la + 1) (hint + min of (n - hint)) (by omega) (by omega) (fun i hi => hm i _ (by omega) h3 h4) (fun i h6 h7 => ?_)
   rcases h5 with h5 | h5
   ·omega
   ·exact hm' _ i (by omega) h7 h5
 | false =>
  rw [if_neg (by simp)]
  refine wpS_bind (wpS_mono (wpS_forRange (I:=fun x c st' => st' = st /\ ∃ la of,c = (none,la,of) /\ x + 1 <= of /\ la < of /\ la <= hint /\ bey g left key arr base (hint - la) = false)
   (Q:=fun c st' => st' = st /\ ∃ la of,c = (none,la,of) /\ la < of /\ la <= hint /\ bey g left key arr base (hint - la) = false /\ (hint + 1 <= of ∨ (of <= hint /\ bey g left key arr base (hint - of) = true))) ?s3 ?f3 ⟨rfl,0,1,rfl,by omega,by omega,by omega,e⟩) ?p3)
  case f3 =>
   rintro c st' ⟨rfl,la,of,rfl,h1,h2,h3,h4⟩
   exact ⟨rfl,la,of,rfl,h2,h3,h4,.inl (by omega)⟩
  case s3 =>
   rintro x c st' _ hx ⟨rfl,la,of,rfl,h1,h2,h3,h4⟩
   dsimp only
   by_cases hge:of ≥ hint + 1
   ·rw [if_pos hge]
    exact wpS_pure ⟨rfl,la,of,rfl,h2,h3,h4,.inl hge⟩
   ·rw [if_neg hge]
    refine wpS_bind (w_bey hC hk hu ha (by omega) ?_)
    dsimp only
    cases e:bey g left key arr base (hint - of) with
    | true =>
     rw [if_pos rfl]
     exact wpS_pure ⟨rfl,la,of,rfl,h2,h3,h4,.inr ⟨by omega,e⟩⟩
    | false =>
     rw [if_neg (by simp)]
     exact wpS_pure ⟨rfl,of,2 * of + 1,rfl,by omega,by omega,by omega,e⟩
  case p3 =>
   rintro c st' ⟨rfl,la,of,rfl,h2,h3,h4,h5⟩
   refine last (hint + 1 - min of (hint + 1)) (hint - la) (by omega) (by omega) (fun i hi => ?_) (fun i h6 h7 => hm' _ i h6 h7 h4)
   rcases h5 with h5 | ⟨h5,h6⟩
   ·omega
   ·exact hm i _ (by omega) (by omega) h6
def gmP (n:Nat):StateT SortSt Sem Unit:=(sortPriv% PySem.Builtin.setMinGallop) n
def mloP:Array Keyed -> Array Keyed -> StateT SortSt Sem (Array Keyed):=sortPriv% PySem.Builtin.mergeLo
theorem mloP_eq (a b:Array Keyed):mloP a b = (do
 (rule "list.sort.merge-lo")
 let tot:=a.size + b.size
 let mut out:Array Keyed:=#[<- elem' b 0]
 let mut ia:=0
 let mut ib:=1
 if ib == b.size then return (out ++ a.extract ia a.size ++ b.extract ib b.size)
 if ia + 1 == a.size then return (out ++ b.extract ib b.size ++ a.extract ia a.size)
 let mut mg:=gallopOf (<- get)
 for _ in [0:tot] do
  let mut ac:=0
  let mut bc:=0
  for _ in [0:tot] do
   let some bw <- lt' (<- elem' b ib) (<- elem' a ia) | return (out ++ a.extract ia a.size ++ b.extract ib b.size)
   if bw then
    out:=out.push (<- elem' b ib); ib:=ib + 1; bc:=bc + 1; ac:=0
    if ib == b.size then return (out ++ a.extract ia a.size ++ b.extract ib b.size)
    if bc ≥ mg then break
   else
    out:=out.push (<- elem' a ia); ia:=ia + 1; ac:=ac + 1; bc:=0
    if ia + 1 == a.size then return (out ++ b.extract ib b.size ++ a.extract ia a.size)
    if ac ≥ mg then break
  (rule "list.sort.gallop")
  mg:=mg + 1
  for _ in [0:tot] do
   if mg > 1 then mg:=mg - 1
   gmP mg
   let some k <- galP false (<- elem' b ib) a ia (a.size - ia) 0 | return (out ++ a.extract ia a.size ++ b.extract ib b.size)
   ac:=k
   if k > 0 then
    out:=out ++ a.extract ia (ia + k); ia:=ia + k
    if ia + 1 == a.size then return (out ++ b.extract ib b.size ++ a.extract ia a.size)
    if ia == a.size then return (out ++ a.extract ia a.size ++ b.extract ib b.size)
   out:=out.push (<- elem' b ib); ib:=ib + 1
   if ib == b.size then return (out ++ a.extract ia a.size ++ b.extract ib b.size)
   let some k <- galP true (<- elem' a ia) b ib (b.size - ib) 0 | return (out ++ a.extract ia a.size ++ b.extract ib b.size)
   bc:=k
   if k > 0 then
    out:=out ++ b.extract ib (ib + k); ib:=ib + k
    if ib == b.size then return (out ++ a.extract ia a.size ++ b.extract ib b.size)
   out:=out.push (<- elem' a ia); ia:=ia + 1
   if ia + 1 == a.size then return (out ++ b.extract ib b.size ++ a.extract ia a.size)
   if ac < 7 && bc < 7 then break
  mg:=mg + 1
  gmP mg
 unsupported "internal:list.sort.merge-bound"):=rfl
structure Sm (st st':SortSt):Prop where
 k:kindOf st' = kindOf st
 a:arrOf st' = arrOf st
 p:pendingOf st' = pendingOf st
 f:failedOf st' = failedOf st
theorem Sm.refl (st:SortSt):Sm st st:=⟨rfl,rfl,rfl,rfl⟩
theorem w_gm {st st0:SortSt} {n:Nat} {Q:Unit -> SortSt -> Prop} (h0:Sm st0 st) (h:∀ st',Sm st0 st' -> Q () st'):wpS M A E s (gmP n) Q st :=
 wpS_modify (h _ ⟨h0.k,h0.a,h0.p,h0.f⟩)
def Srt (g:Keyed -> Int) (l:List Keyed):Prop:=l.Pairwise fun x y => g x < g y
structure Mg (g:Keyed -> Int) (T O A B:List Keyed):Prop where
 p:(O ++ (A ++ B)).Perm T
 a:Srt g (O ++ A)
 b:Srt g (O ++ B)
theorem Mg.pa {T O X A B:List Keyed} (h:Mg g T O (X ++ A) B) (hx:∀ x ∈ X,∀ y ∈ B,g x < g y):Mg g T (O ++ X) A B:=by
 refine ⟨by rw [List.append_assoc,<- List.append_assoc X A B]; exact h.p,by rw [List.append_assoc]; exact h.a,?_⟩
 have h1:=h.a
 have h2:=h.b
 unfold Srt at h1 h2 ⊢
 rw [List.pairwise_append] at h1 h2
 rw [List.append_assoc,List.pairwise_append,List.pairwise_append]
 refine ⟨h1.1,⟨(List.pairwise_append.mp h1.2.1).1,h2.2.1,hx⟩,fun x hx' y hy => ?_⟩
 rcases List.mem_append.mp hy with hy | hy
 ·exact h1.2.2 x hx' y (List.mem_append_left _ hy)
 ·exact h2.2.2 x hx' y hy
theorem Mg.pb {T O X A B:List Keyed} (h:Mg g T O A (X ++ B)) (hx:∀ x ∈ X,∀ y ∈ A,g x < g y):Mg g T (O ++ X) A B:=by
 have h1:=h.a
 have h2:=h.b
 refine ⟨?_,?_,by rw [List.append_assoc]; exact h.b⟩
 ·refine List.Perm.trans ?_ h.p
  rw [List.append_assoc]
  refine List.Perm.append_left O ?_
  rw [<- List.append_assoc,<- List.append_assoc]
  exact List.perm_append_comm.append_right B
 ·unfold Srt at h1 h2 ⊢
  rw [List.pairwise_append] at h1 h2
  rw [List.append_assoc,List.pairwise_append,List.pairwise_append]
  refine ⟨h1.1,⟨(List.pairwise_append.mp h2.2.1).1,h1.2.1,hx⟩,fun x hx' y hy => ?_⟩
  rcases List.mem_append.mp hy with hy | hy
  ·exact h2.2.2 x hx' y (List.mem_append_left _ hy)
  ·exact h1.2.2 x hx' y hy
theorem Mg.ne {T O A B:List Keyed} {a b:Keyed} (hd:(T.map g).Nodup) (h:Mg g T O (a :: A) (b :: B)):g a ≠ g b:=by
 have h1:=((h.p.map g).nodup_iff).mpr hd
 rw [List.map_append,List.map_append] at h1
 have h2:=(List.nodup_append.mp h1).2.1
 exact (List.nodup_append.mp h2).2.2 (g a) (by simp) (g b) (by simp)
def dr (a:Array Keyed) (i:Nat):List Keyed:=a.toList.drop i
theorem dr_cons {a:Array Keyed} {i:Nat} (h:i < a.size):∃ p,a[i]? = some p /\ dr a i = p :: dr a (i + 1):=by
 refine ⟨a[i],getElem?_pos a i h,?_⟩
 unfold dr
 rw [List.drop_eq_getElem_cons (by rw [Array.length_toList]; exact h)]
 rfl
theorem dr_len (a:Array Keyed) (i:Nat):(dr a i).length = a.size - i:=by unfold dr; rw [List.length_drop,Array.length_toList]
theorem dr_end {a:Array Keyed} {i:Nat} (h:i = a.size):dr a i = []:=by unfold dr; rw [h,<- Array.length_toList,List.drop_length]
theorem dr_mem {a:Array Keyed} {i:Nat} {p:Keyed} (h:p ∈ dr a i):∃ j,i <= j /\ j < a.size /\ a[j]? = some p:=by
 obtain ⟨k,hk⟩:=List.getElem?_of_mem h
 unfold dr at hk
 rw [List.getElem?_drop] at hk
 rw [Array.getElem?_toList] at hk
 refine ⟨i + k,by omega,?_,hk⟩
 by_cases h:i + k < a.size
 ·exact h
 ·rw [Array.getElem?_eq_none (by omega)] at hk; cases hk
theorem ex_list (a:Array Keyed) (i j:Nat):(a.extract i j).toList = (dr a i).take (j - i):=by
 unfold dr
 rw [Array.toList_extract,List.extract_eq_take_drop]
theorem ex_all (a:Array Keyed) (i:Nat):(a.extract i a.size).toList = dr a i:=by
 rw [ex_list,List.take_of_length_le (by rw [dr_len]; omega)]
theorem dr_split (a:Array Keyed) (i k:Nat):dr a i = (dr a i).take k ++ dr a (i + k):=by
 unfold dr
 rw [<- List.drop_drop,List.take_append_drop]
theorem G_at {a:Array Keyed} {i:Nat} {p:Keyed} (h:a[i]? = some p):G g a i = g p:=by unfold G; rw [h]; rfl
def Gd (g:Keyed -> Int) (T:List Keyed) (R:Array Keyed):Prop:=R.toList.Perm T /\ Srt g R.toList
theorem Mg.doneB {T:List Keyed} {out a b:Array Keyed} {ia ib:Nat} (h:Mg g T out.toList (dr a ia) (dr b ib)) (e:ib = b.size):Gd g T (out ++ a.extract ia a.size ++ b.extract ib b.size):=by
 unfold Gd
 rw [Array.toList_append,Array.toList_append,ex_all,ex_all,dr_end e,List.append_nil]
 have h1:=h.p
 rw [dr_end e,List.append_nil] at h1
 exact ⟨h1,h.a⟩
theorem Mg.doneA {T:List Keyed} {out a b:Array Keyed} {ia ib:Nat} (h:Mg g T out.toList (dr a ia) (dr b ib)) (e:ia = a.size):Gd g T (out ++ a.extract ia a.size ++ b.extract ib b.size):=by
 unfold Gd
 rw [Array.toList_append,Array.toList_append,ex_all,ex_all,dr_end e,List.append_nil]
 have h1:=h.p
 rw [dr_end e,List.nil_append] at h1
 exact ⟨h1,h.b⟩
theorem Mg.last {T:List Keyed} {out a b:Array Keyed} {ia ib:Nat} (h:Mg g T out.toList (dr a ia) (dr b ib)) (e:ia + 1 = a.size) (hl:∀ p ∈ dr a (a.size - 1),∀ q ∈ b.toList,g q < g p):Gd g T (out ++ b.extract ib b.size ++ a.extract ia a.size):=by
 unfold Gd
 rw [Array.toList_append,Array.toList_append,ex_all,ex_all,List.append_assoc]
 refine ⟨(List.Perm.append_left _ List.perm_append_comm).trans h.p,?_⟩
 have h1:=h.a
 have h2:=h.b
 unfold Srt at h1 h2 ⊢
 rw [List.pairwise_append] at h1 h2
 rw [List.pairwise_append,List.pairwise_append]
 refine ⟨h1.1,⟨h2.2.1,h1.2.1,fun x hx y hy => hl y (by rw [<- e,Nat.add_sub_cancel]; exact hy) x (List.mem_of_mem_drop hx)⟩,fun x hx y hy => ?_⟩
 rcases List.mem_append.mp hy with hy | hy
 ·exact h2.2.2 x hx y hy
 ·exact h1.2.2 x hx y hy
theorem srt_of {a:Array Keyed} (h:Asc g a 0 a.size):Srt g a.toList:=by
 unfold Srt
 rw [List.pairwise_iff_getElem]
 intro i j hi hj hij
 rw [Array.length_toList] at hi hj
 have:=h i j (Nat.zero_le _) hij hj
 unfold G at this
 rw [getElem?_pos a i hi,getElem?_pos a j hj] at this
 simpa using this
theorem asc_of {a:Array Keyed} (h:Srt g a.toList):Asc g a 0 a.size:=by
 unfold Srt at h
 rw [List.pairwise_iff_getElem] at h
 intro i j _ hij hj
 have:=h i j (by rw [Array.length_toList]; omega) (by rw [Array.length_toList]; omega) hij
 unfold G
 rw [getElem?_pos a i (by omega),getElem?_pos a j hj]
 simpa using this
theorem Mg.nes {T O A B:List Keyed} (hd:(T.map g).Nodup) (h:Mg g T O A B) {a b:Keyed} (ha:a ∈ A) (hb:b ∈ B):g a ≠ g b:=by
 have h1:=((h.p.map g).nodup_iff).mpr hd
 rw [List.map_append,List.map_append] at h1
 have h2:=(List.nodup_append.mp h1).2.1
 exact (List.nodup_append.mp h2).2.2 (g a) (List.mem_map_of_mem ha) (g b) (List.mem_map_of_mem hb)
theorem dr_le {a:Array Keyed} (h:Asc g a 0 a.size) {i:Nat} {p:Keyed} (e:a[i]? = some p) {q:Keyed} (hq:q ∈ dr a i):g p <= g q:=by
 obtain ⟨j,h1,h2,h3⟩:=dr_mem hq
 rw [<- G_at (g:=g) e,<- G_at (g:=g) h3]
 by_cases e:i = j
 ·subst e; exact Int.le_refl _
 ·exact Int.le_of_lt (h i j (Nat.zero_le _) (by omega) h2)
theorem dr_take_mem {a:Array Keyed} {i k:Nat} {p:Keyed} (h:p ∈ (dr a i).take k):∃ j,j < k /\ i + j < a.size /\ a[i + j]? = some p:=by
 obtain ⟨n,hn⟩:=List.getElem?_of_mem h
 rw [List.getElem?_take] at hn
 split at hn
 ·unfold dr at hn
  rw [List.getElem?_drop,Array.getElem?_toList] at hn
  refine ⟨n,by assumption,?_,hn⟩
  by_cases h:i + n < a.size
  ·exact h
  ·rw [Array.getElem?_eq_none (by omega)] at hn; cases hn
 ·cases hn
structure MI (g:Keyed -> Int) (T:List Keyed) (a b out:Array Keyed) (ia ib:Nat):Prop where
 m:Mg g T out.toList (dr a ia) (dr b ib)
 ha:ia + 1 < a.size
 hb:ib < b.size
theorem Mg.push_b {T:List Keyed} {a b out:Array Keyed} {ia ib:Nat} {p q:Keyed} (h:Mg g T out.toList (dr a ia) (dr b ib)) (ha:Asc g a 0 a.size) (e1:a[ia]? = some p) (e2:b[ib]? = some q) (hlt:g q < g p):Mg g T (out.push q).toList (dr a ia) (dr b (ib + 1)):=by
 obtain ⟨q',e3,e4⟩:=dr_cons (a:=b) (i:=ib) (by by_cases h:ib < b.size; exact h; rw [Array.getElem?_eq_none (by omega)] at e2; cases e2)
 rw [e2] at e3
 cases e3
 rw [e4] at h
 rw [Array.toList_push]
 exact h.pb (X:=[q]) fun x hx y hy => by cases List.mem_singleton.mp hx; exact Int.lt_of_lt_of_le hlt (dr_le ha e1 hy)
theorem Mg.push_a {T:List Keyed} {a b out:Array Keyed} {ia ib:Nat} {p q:Keyed} (h:Mg g T out.toList (dr a ia) (dr b ib)) (hb:Asc g b 0 b.size) (e1:a[ia]? = some p) (e2:b[ib]? = some q) (hlt:g p < g q):Mg g T (out.push p).toList (dr a (ia + 1)) (dr b ib):=by
 obtain ⟨q',e3,e4⟩:=dr_cons (a:=a) (i:=ia) (by by_cases h:ia < a.size; exact h; rw [Array.getElem?_eq_none (by omega)] at e1; cases e1)
 rw [e1] at e3
 cases e3
 rw [e4] at h
 rw [Array.toList_push]
 exact h.pa (X:=[p]) fun x hx y hy => by cases List.mem_singleton.mp hx; exact Int.lt_of_lt_of_le hlt (dr_le hb e2 hy)
theorem Mg.bulk_a {T:List Keyed} (hd:(T.map g).Nodup) {a b out:Array Keyed} {ia ib k:Nat} {q:Keyed} (h:Mg g T out.toList (dr a ia) (dr b ib)) (hb:Asc g b 0 b.size) (e2:b[ib]? = some q)
  (hk:∀ i,i < k -> bey g false q a ia i = true):Mg g T (out ++ a.extract ia (ia + k)).toList (dr a (ia + k)) (dr b ib):=by
 rw [Array.toList_append,ex_list,Nat.add_sub_cancel_left]
 have h':=h
 rw [dr_split a ia k] at h'
 refine h'.pa fun x hx y hy => ?_
 obtain ⟨j,hj,hj2,e⟩:=dr_take_mem hx
 have h3:=hk j hj
 unfold bey at h3
 rw [G_at e] at h3
 simp at h3
 have hq:q ∈ dr b ib:=by
  obtain ⟨q',e3,e4⟩:=dr_cons (a:=b) (i:=ib) (by by_cases h:ib < b.size; exact h; rw [Array.getElem?_eq_none (by omega)] at e2; cases e2)
  rw [e2] at e3
  cases e3
  rw [e4]
  exact List.mem_cons_self
 have h4:=h.nes hd (List.mem_of_mem_take hx) hq
 have h5:=dr_le hb e2 hy
 omega
theorem Mg.bulk_b {T:List Keyed} {a b out:Array Keyed} {ia ib k:Nat} {p:Keyed} (h:Mg g T out.toList (dr a ia) (dr b ib)) (ha:Asc g a 0 a.size) (e1:a[ia]? = some p)
  (hk:∀ i,i < k -> bey g true p b ib i = true):Mg g T (out ++ b.extract ib (ib + k)).toList (dr a ia) (dr b (ib + k)):=by
 rw [Array.toList_append,ex_list,Nat.add_sub_cancel_left]
 have h':=h
 rw [dr_split b ib k] at h'
 refine h'.pb fun x hx y hy => ?_
 obtain ⟨j,hj,hj2,e⟩:=dr_take_mem hx
 have h3:=hk j hj
 unfold bey at h3
 rw [G_at e] at h3
 simp at h3
 have h5:=dr_le ha e1 hy
 omega
theorem bey_mono {left:Bool} {key:Keyed} {arr:Array Keyed} {base n:Nat} (h:Asc g arr 0 arr.size) (hz:base + n <= arr.size):∀ i j,i <= j -> j < n -> bey g left key arr base j = true -> bey g left key arr base i = true:=by
 intro i j hij hj hb
 have:G g arr (base + i) <= G g arr (base + j):=by
  by_cases e:i = j
  ·subst e; exact Int.le_refl _
  ·exact Int.le_of_lt (h _ _ (Nat.zero_le _) (by omega) (by omega))
 unfold bey at hb ⊢
 cases left with
 | true => simp at hb ⊢; omega
 | false => simp at hb ⊢; omega
theorem w_if {α:Type} {c:Prop} [Decidable c] {m1 m2:StateT SortSt Sem α} {Q:α -> SortSt -> Prop} {st:SortSt} (h1:wpS M A E s m1 Q st) (h2:wpS M A E s m2 Q st):wpS M A E s (if c then m1 else m2) Q st:=by
 split
 ·exact h1
 ·exact h2
theorem w_ifj {α:Type} {c:Prop} [Decidable c] {m1 m2 m3:StateT SortSt Sem α} {Q:α -> SortSt -> Prop} {st:SortSt} (h1:c -> m1 = m3) (h2:¬ c -> m2 = m3) (h:wpS M A E s m3 Q st):wpS M A E s (if c then m1 else m2) Q st:=by
 split
 ·rename_i x; rw [h1 x]; exact h
 ·rename_i x; rw [h2 x]; exact h
theorem w_if2 {α:Type} {c:Prop} [Decidable c] {F:Nat -> StateT SortSt Sem α} {Q:α -> SortSt -> Prop} {st:SortSt} (y:Nat) (h:∀ n,wpS M A E s (F n) Q st):∀ x,wpS M A E s (if c then F x else F y) Q st:=by
 intro x
 split
 ·exact h x
 ·exact h y
theorem om9 {x y:Int} (h:x <= y) (n:x ≠ y):x < y:=by omega
theorem om5 {n t k:Nat} (e:n - t = k) (h:¬ k > 0) (l:t <= n):n = t:=by omega
theorem om6 {t:Nat} (h:¬ t = 1) (h':¬ t = 0):2 <= t:=by omega
theorem om7 {n:Nat} (h:2 <= n) (h':¬ n - 1 = 1):2 <= n - 1:=by omega
theorem om8 {n m t u y r:Nat} (h:n + m + y <= r) (l:t <= n) (l2:u <= m - 1) (t1:1 <= t) (m2:2 <= m):t - 1 + u + (y + 1) <= r:=by omega
theorem om1 {A B i j i2 j2 k k2 y r:Nat} (h:A - i + (B - j) + y <= r) (e:i + k = i2) (e2:j + 1 + k2 = j2) (l:i2 < A) (l2:j < B):A - (i2 + 1) + (B - j2) + (y + 1) <= r:=by omega
theorem om2 {A i i2 k:Nat} (h:k <= A - i) (e:i + k = i2) (n1:¬ i2 + 1 = A) (n2:¬ i2 = A) (l:i + 1 < A):i2 + 1 < A:=by omega
theorem om3 {A i i2 k:Nat} (e:i + k = i2) (l:i2 < A):k < A - i:=by omega
theorem om4 {A i i2 k:Nat} (h:k <= A - (i + 1)) (e:i + 1 + k = i2) (n1:¬ i2 = A) (l:i < A):i2 < A:=by omega
theorem w_mlo (hC:Cmp M A s κ g U) {st st0:SortSt} {a b:Array Keyed} {T:List Keyed} {Q:Array Keyed -> SortSt -> Prop} (h0:Sm st0 st) (hk:kindOf st0 = κ) (ua:All U a) (ub:All U b) (hd:(T.map g).Nodup) (hT:(a.toList ++ b.toList).Perm T)
  (sa:Asc g a 0 a.size) (sb:Asc g b 0 b.size) (ha:1 <= a.size) (hb:1 <= b.size) (h1:G g b 0 < G g a 0) (hl:∀ p ∈ dr a (a.size - 1),∀ q ∈ b.toList,g q < g p)
  (h:∀ R st',Sm st0 st' -> Gd g T R -> Q R st'):wpS M A E s (mloP a b) Q st:=by
 rw [mloP_eq]
 refine wpS_bind (wpS_lift (wpAny_rule ⟨rfl,?_⟩))
 obtain ⟨b0,eb0,_⟩:=dr_cons (a:=b) (i:=0) (by omega)
 obtain ⟨a0,ea0,_⟩:=dr_cons (a:=a) (i:=0) (by omega)
 refine wpS_bind (w_elem eb0 ?_)
 dsimp only
 have m0:Mg g T (#[]:Array Keyed).toList (dr a 0) (dr b 0):=⟨hT,srt_of sa,srt_of sb⟩
 have m1:Mg g T (#[b0]:Array Keyed).toList (dr a 0) (dr b 1):=m0.push_b sa ea0 eb0 (by rw [<- G_at (g:=g) eb0,<- G_at (g:=g) ea0]; exact h1)
 by_cases c1:1 = b.size
 ·rw [if_pos (by simpa using c1)]
  exact wpS_pure (h _ _ h0 (m1.doneB c1))
 rw [if_neg (by simpa using c1)]
 by_cases c2:0 + 1 = a.size
 ·rw [if_pos (by simpa using c2)]
  exact wpS_pure (h _ _ h0 (m1.last c2 hl))
 rw [if_neg (by simpa using c2)]
 refine wpS_bind (wpS_get ?_)
 refine wpS_bind (wpS_mono (wpS_forRange (I:=fun x c st' => Sm st0 st' /\ ∃ out ia ib mg,c = (none,out,ia,ib,mg) /\ MI g T a b out ia ib /\ (a.size - ia) + (b.size - ib) + x <= a.size + b.size)
  (Q:=fun c st' => Sm st0 st' /\ ∃ R r,c = (some R,r) /\ Gd g T R) ?so ?fo ⟨h0,_,0,1,_,rfl,⟨m1,by omega,by omega⟩,by omega⟩) ?po)
 case fo =>
  rintro c st' ⟨_,out,ia,ib,mg,_,hi,hm⟩
  have:=hi.ha
  exfalso
  omega
 case po =>
  rintro c st' ⟨hs,R,r,rfl,hg⟩
  exact wpS_pure (h _ _ hs hg)
 case so =>
  rintro x c st1 _ hx ⟨hs1,out,ia,ib,mg,rfl,hi,hm⟩
  dsimp only
  obtain ⟨r0,er0⟩:∃ r0,(a.size - ia) + (b.size - ib) = r0:=⟨_,rfl⟩
  rw [er0] at hm
  refine wpS_bind (wpS_mono (wpS_forRange (I:=fun y c st' => Sm st0 st' /\ ∃ out ia ib ac bc,c = (none,out,ia,ib,ac,bc) /\ MI g T a b out ia ib /\ (a.size - ia) + (b.size - ib) + y <= r0)
   (Q:=fun c st' => Sm st0 st' /\ ((∃ R r,c = (some R,r) /\ Gd g T R) ∨ ∃ out ia ib ac bc,c = (none,out,ia,ib,ac,bc) /\ MI g T a b out ia ib /\ (a.size - ia) + (b.size - ib) + 1 <= r0)) ?s1 ?f1 ⟨hs1,_,ia,ib,_,_,rfl,hi,by omega⟩) ?p1)
  case f1 =>
   rintro c st' ⟨_,out,ia,ib,ac,bc,_,hi,hm⟩
   have:=hi.ha
   exfalso
   omega
  case s1 =>
   rintro y c st2 _ hy ⟨hs2,out,ia,ib,ac,bc,rfl,hi,hm2⟩
   dsimp only
   have i1:=hi.ha
   have i2:=hi.hb
   obtain ⟨q,eq,_⟩:=dr_cons (a:=b) (i:=ib) (by omega)
   obtain ⟨p,ep,epd⟩:=dr_cons (a:=a) (i:=ia) (by omega)
   refine wpS_bind (w_elem eq (wpS_bind (w_elem ep (wpS_bind (w_lt hC (hs2.k.trans hk) (ub _ _ eq) (ua _ _ ep) ?_)))))
   dsimp only
   by_cases hlt:g q < g p
   ·rw [if_pos (decide_eq_true hlt)]
    refine wpS_bind (w_elem eq ?_)
    have m2:=hi.m.push_b sa ep eq hlt
    by_cases c:ib + 1 = b.size
    ·rw [if_pos (by simpa using c)]
     exact wpS_pure ⟨hs2,.inl ⟨_,_,rfl,m2.doneB c⟩⟩
    ·rw [if_neg (by simpa using c)]
     split
     ·exact wpS_pure ⟨hs2,.inr ⟨_,_,_,_,_,rfl,⟨m2,i1,by omega⟩,by omega⟩⟩
     ·exact wpS_pure ⟨hs2,_,_,_,_,_,rfl,⟨m2,i1,by omega⟩,by omega⟩
   ·rw [if_neg (by simpa using hlt)]
    refine wpS_bind (w_elem ep ?_)
    have hne:=hi.m.nes hd (a:=p) (b:=q) (by rw [epd]; exact List.mem_cons_self) (by obtain ⟨q',e3,e4⟩:=dr_cons (a:=b) (i:=ib) (by omega); rw [eq] at e3; cases e3; rw [e4]; exact List.mem_cons_self)
    have m2:=hi.m.push_a sb ep eq (by omega)
    by_cases c:ia + 1 + 1 = a.size
    ·rw [if_pos (by simpa using c)]
     exact wpS_pure ⟨hs2,.inl ⟨_,_,rfl,m2.last c hl⟩⟩
    ·rw [if_neg (by simpa using c)]
     split
     ·exact wpS_pure ⟨hs2,.inr ⟨_,_,_,_,_,rfl,⟨m2,by omega,i2⟩,by omega⟩⟩
     ·exact wpS_pure ⟨hs2,_,_,_,_,_,rfl,⟨m2,by omega,i2⟩,by omega⟩
  case p1 =>
   rintro c st2 ⟨hs2,⟨R,r,rfl,hg⟩ | ⟨out,ia,ib,ac,bc,rfl,hi,hm2⟩⟩
   ·exact wpS_pure ⟨hs2,_,_,rfl,hg⟩
   dsimp only
   refine wpS_bind (wpS_lift (wpAny_rule ⟨rfl,?_⟩))
   obtain ⟨r1,er1⟩:∃ r1,(a.size - ia) + (b.size - ib) = r1:=⟨_,rfl⟩
   rw [er1] at hm2
   refine wpS_bind (wpS_mono (wpS_forRange (I:=fun y c st' => Sm st0 st' /\ ∃ out ia ib mg ac bc,c = (none,out,ia,ib,mg,ac,bc) /\ MI g T a b out ia ib /\ (a.size - ia) + (b.size - ib) + y <= r1)
    (Q:=fun c st' => Sm st0 st' /\ ((∃ R r,c = (some R,r) /\ Gd g T R) ∨ ∃ out ia ib mg ac bc,c = (none,out,ia,ib,mg,ac,bc) /\ MI g T a b out ia ib /\ (a.size - ia) + (b.size - ib) <= r1)) ?s2 ?f2 ⟨hs2,_,ia,ib,_,_,_,rfl,hi,by omega⟩) ?p2)
   case f2 =>
    rintro c st' ⟨_,out,ia,ib,mg,ac,bc,_,hi,hm⟩
    have:=hi.ha
    exfalso
    omega
   case p2 =>
    rintro c st3 ⟨hs3,⟨R,r,rfl,hg⟩ | ⟨out,ia,ib,mg,ac,bc,rfl,hi,hm3⟩⟩
    ·exact wpS_pure ⟨hs3,_,_,rfl,hg⟩
    dsimp only
    exact wpS_bind (w_gm hs3 fun st4 hs4 => wpS_pure ⟨hs4,_,_,_,_,rfl,hi,by omega⟩)
   case s2 =>
    rintro y c st3 _ hy ⟨hs3,out,ia,ib,mg,ac,bc,rfl,hi,hm3⟩
    dsimp only
    have i1:=hi.ha
    have i2:=hi.hb
    obtain ⟨q,eq,eqd⟩:=dr_cons (a:=b) (i:=ib) (by omega)
    have hq:q ∈ dr b ib:=by rw [eqd]; exact List.mem_cons_self
    generalize mg - 1 = mg1
    revert mg1
    refine w_if2 (c:=mg > 1) mg fun n => ?_
    refine wpS_bind (w_gm hs3 fun st4 hs4 => ?_)
    refine wpS_bind (w_elem eq (wpS_bind (w_gal hC (hs4.k.trans hk) (ub _ _ eq) ua (by omega) (by omega) (bey_mono sa (by omega)) fun k hk1 hk2 hk3 => ?_)))
    dsimp only
    have m2:=hi.m.bulk_a hd sb eq hk2
    obtain ⟨o2,eo2⟩:∃ o2,out ++ a.extract ia (ia + k) = o2:=⟨_,rfl⟩
    obtain ⟨ia2,eia2⟩:∃ ia2,ia + k = ia2:=⟨_,rfl⟩
    have ek:k = 0 -> out = o2 /\ ia = ia2:=fun e => by
     subst e
     refine ⟨?_,eia2⟩
     rw [<- eo2]
     apply Array.toList_inj.mp
     rw [Array.toList_append,ex_list,Nat.add_zero,Nat.sub_self,List.take_zero,List.append_nil]
    rw [eia2] at m2 eo2
    rw [eo2] at m2
    by_cases cx:k > 0 /\ ia2 + 1 = a.size
    ·rw [if_pos cx.1,eia2,eo2,if_pos (by simpa using cx.2)]
     exact wpS_pure ⟨hs4,.inl ⟨_,_,rfl,m2.last cx.2 hl⟩⟩
    by_cases cy:k > 0 /\ ia2 = a.size
    ·rw [if_pos cy.1,eia2,eo2,if_neg (by simpa using fun e => cx ⟨cy.1,e⟩),if_pos (by simpa using cy.2)]
     exact wpS_pure ⟨hs4,.inl ⟨_,_,rfl,m2.doneA cy.2⟩⟩
    have c:ia2 + 1 < a.size:=by
     by_cases ck:k > 0
     ·exact om2 hk1 eia2 (fun e => cx ⟨ck,e⟩) (fun e => cy ⟨ck,e⟩) i1
     ·rw [<- (ek (Nat.eq_zero_of_not_pos ck)).2]; exact i1
    apply w_ifj
    ·intro ck
     rw [eia2,eo2,if_neg (by simpa using fun e => cx ⟨ck,e⟩),if_neg (by simpa using fun e => cy ⟨ck,e⟩)]
    ·intro ck
     obtain ⟨e7,e8⟩:=ek (Nat.eq_zero_of_not_pos ck)
     rw [e7,e8]
    clear cx cy ek
    have c0:ia2 < a.size:=Nat.lt_of_succ_lt c
    have hka:g q < g (a[ia2]'c0):=by
     have h3:=hk3 k (Nat.le_refl _) (om3 eia2 c0)
     unfold bey at h3
     rw [eia2,G_at (getElem?_pos a ia2 c0)] at h3
     simpa using h3
    obtain ⟨p,ep,epd⟩:=dr_cons (a:=a) (i:=ia2) c0
    rw [getElem?_pos a ia2 c0] at ep
    have epp:=Option.some.inj ep
    rw [epp] at hka
    rw [<- getElem?_pos a ia2 c0] at ep
    refine wpS_bind (w_elem eq ?_)
    have m3:=m2.push_b sa ep eq hka
    by_cases c1:ib + 1 = b.size
    ·rw [if_pos (by simpa using c1)]
     exact wpS_pure ⟨hs4,.inl ⟨_,_,rfl,m3.doneB c1⟩⟩
    rw [if_neg (by simpa using c1)]
    refine wpS_bind (w_elem ep (wpS_bind (w_gal hC (hs4.k.trans hk) (ua _ _ ep) ub (by omega) (by omega) (bey_mono sb (by omega)) fun k2 hj1 hj2 hj3 => ?_)))
    dsimp only
    have m4:=m3.bulk_b sa ep hj2
    obtain ⟨o3,eo3⟩:∃ o3,o2.push q ++ b.extract (ib + 1) (ib + 1 + k2) = o3:=⟨_,rfl⟩
    obtain ⟨ib2,eib2⟩:∃ ib2,ib + 1 + k2 = ib2:=⟨_,rfl⟩
    have ek2:k2 = 0 -> o2.push q = o3 /\ ib + 1 = ib2:=fun e => by
     subst e
     refine ⟨?_,eib2⟩
     rw [<- eo3]
     apply Array.toList_inj.mp
     rw [Array.toList_append,ex_list,Nat.add_zero,Nat.sub_self,List.take_zero,List.append_nil]
    rw [eib2] at m4 eo3
    rw [eo3] at m4
    by_cases c2:k2 > 0 /\ ib2 = b.size
    ·rw [if_pos c2.1,eib2,eo3,if_pos (by simpa using c2.2)]
     exact wpS_pure ⟨hs4,.inl ⟨_,_,rfl,m4.doneB c2.2⟩⟩
    have hb2:ib2 < b.size:=by
     by_cases ck:k2 > 0
     ·exact om4 hj1 eib2 (fun e => c2 ⟨ck,e⟩) i2
     ·rw [<- (ek2 (Nat.eq_zero_of_not_pos ck)).2]; exact Nat.lt_of_le_of_ne i2 c1
    apply w_ifj
    ·intro ck2
     rw [eib2,eo3,if_neg (by simpa using fun e => c2 ⟨ck2,e⟩)]
    ·intro ck2
     obtain ⟨e5,e6⟩:=ek2 (Nat.eq_zero_of_not_pos ck2)
     rw [e5,e6]
    clear c2 ek2
    have nx:Mg g T (o3.push p).toList (dr a (ia2 + 1)) (dr b ib2):=by
     obtain ⟨q2,eq2,eqd2⟩:=dr_cons (a:=b) (i:=ib2) hb2
     have h3:=hj3 k2 (Nat.le_refl _) (om3 eib2 hb2)
     unfold bey at h3
     rw [eib2,G_at eq2] at h3
     have hne:=m4.nes hd (a:=p) (b:=q2) (by rw [epd]; exact List.mem_cons_self) (by rw [eqd2]; exact List.mem_cons_self)
     simp at h3
     exact m4.push_a sb ep eq2 (om9 h3 hne)
    refine wpS_bind (w_elem ep ?_)
    by_cases c3:ia2 + 1 + 1 = a.size
    ·rw [if_pos (by simpa using c3)]
     exact wpS_pure ⟨hs4,.inl ⟨_,_,rfl,nx.last c3 hl⟩⟩
    rw [if_neg (by simpa using c3)]
    have l3:ia2 + 1 + 1 < a.size:=Nat.lt_of_le_of_ne c c3
    by_cases c4:(decide (k < 7) && decide (k2 < 7)) = true
    ·rw [if_pos c4]
     exact wpS_pure ⟨hs4,.inr ⟨_,_,_,_,_,_,rfl,⟨nx,l3,hb2⟩,Nat.le_trans (Nat.le_add_right _ _) (om1 hm3 eia2 eib2 c0 i2)⟩⟩
    ·rw [if_neg c4]
     exact wpS_pure ⟨hs4,_,_,_,_,_,_,rfl,⟨nx,l3,hb2⟩,om1 hm3 eia2 eib2 c0 i2⟩
def mhiP:Array Keyed -> Array Keyed -> StateT SortSt Sem (Array Keyed):=sortPriv% PySem.Builtin.mergeHi
theorem mhiP_eq (a b:Array Keyed):mhiP a b = (do
 (rule "list.sort.merge-hi")
 let tot:=a.size + b.size
 let mut na:=a.size - 1
 let mut nb:=b.size
 let mut out:Array Keyed:=#[<- elem' a na]
 if na == 0 then return (a.extract 0 na ++ b.extract 0 nb ++ out.reverse)
 if nb == 1 then return (b.extract 0 nb ++ a.extract 0 na ++ out.reverse)
 let mut mg:=gallopOf (<- get)
 for _ in [0:tot] do
  let mut ac:=0
  let mut bc:=0
  for _ in [0:tot] do
   let some aw <- lt' (<- elem' b (nb - 1)) (<- elem' a (na - 1)) | return (a.extract 0 na ++ b.extract 0 nb ++ out.reverse)
   if aw then
    na:=na - 1; out:=out.push (<- elem' a na); ac:=ac + 1; bc:=0
    if na == 0 then return (a.extract 0 na ++ b.extract 0 nb ++ out.reverse)
    if ac ≥ mg then break
   else
    nb:=nb - 1; out:=out.push (<- elem' b nb); bc:=bc + 1; ac:=0
    if nb == 1 then return (b.extract 0 nb ++ a.extract 0 na ++ out.reverse)
    if bc ≥ mg then break
  (rule "list.sort.gallop")
  mg:=mg + 1
  for _ in [0:tot] do
   if mg > 1 then mg:=mg - 1
   gmP mg
   let some t1 <- galP false (<- elem' b (nb - 1)) a 0 na (na - 1) | return (a.extract 0 na ++ b.extract 0 nb ++ out.reverse)
   let k:=na - t1
   ac:=k
   if k > 0 then
    out:=out ++ (a.extract t1 na).reverse; na:=t1
    if na == 0 then return (a.extract 0 na ++ b.extract 0 nb ++ out.reverse)
   nb:=nb - 1; out:=out.push (<- elem' b nb)
   if nb == 1 then return (b.extract 0 nb ++ a.extract 0 na ++ out.reverse)
   let some t2 <- galP true (<- elem' a (na - 1)) b 0 nb (nb - 1) | return (a.extract 0 na ++ b.extract 0 nb ++ out.reverse)
   let k:=nb - t2
   bc:=k
   if k > 0 then
    out:=out ++ (b.extract t2 nb).reverse; nb:=t2
    if nb == 1 then return (b.extract 0 nb ++ a.extract 0 na ++ out.reverse)
    if nb == 0 then return (a.extract 0 na ++ b.extract 0 nb ++ out.reverse)
   na:=na - 1; out:=out.push (<- elem' a na)
   if na == 0 then return (a.extract 0 na ++ b.extract 0 nb ++ out.reverse)
   if ac < 7 && bc < 7 then break
  mg:=mg + 1
  gmP mg
 unsupported "internal:list.sort.merge-bound"):=rfl
structure Mh (g:Keyed -> Int) (T A B O:List Keyed):Prop where
 p:((A ++ B) ++ O).Perm T
 a:Srt g (A ++ O)
 b:Srt g (B ++ O)
theorem Mh.pa {T A X B O:List Keyed} (h:Mh g T (A ++ X) B O) (hx:∀ x ∈ X,∀ y ∈ B,g y < g x):Mh g T A B (X ++ O):=by
 have h1:=h.a
 have h2:=h.b
 refine ⟨?_,by rw [<- List.append_assoc]; exact h.a,?_⟩
 ·refine List.Perm.trans ?_ h.p
  rw [<- List.append_assoc]
  refine List.Perm.append_right O ?_
  rw [List.append_assoc,List.append_assoc]
  exact List.Perm.append_left A List.perm_append_comm
 ·unfold Srt at h1 h2 ⊢
  rw [List.pairwise_append] at h1 h2
  rw [List.pairwise_append,List.pairwise_append]
  have h3:=List.pairwise_append.mp h1.1
  refine ⟨h2.1,⟨h3.2.1,h1.2.1,fun x hx' y hy => h1.2.2 x (List.mem_append_right _ hx') y hy⟩,fun y hy x hx' => ?_⟩
  rcases List.mem_append.mp hx' with hx' | hx'
  ·exact hx x hx' y hy
  ·exact h2.2.2 y hy x hx'
theorem Mh.pb {T A X B O:List Keyed} (h:Mh g T A (B ++ X) O) (hx:∀ x ∈ X,∀ y ∈ A,g y < g x):Mh g T A B (X ++ O):=by
 have h1:=h.a
 have h2:=h.b
 refine ⟨?_,?_,by rw [<- List.append_assoc]; exact h.b⟩
 ·refine List.Perm.trans ?_ h.p
  rw [<- List.append_assoc,<- List.append_assoc]
 ·unfold Srt at h1 h2 ⊢
  rw [List.pairwise_append] at h1 h2
  rw [List.pairwise_append,List.pairwise_append]
  have h3:=List.pairwise_append.mp h2.1
  refine ⟨h1.1,⟨h3.2.1,h2.2.1,fun x hx' y hy => h2.2.2 x (List.mem_append_right _ hx') y hy⟩,fun y hy x hx' => ?_⟩
  rcases List.mem_append.mp hx' with hx' | hx'
  ·exact hx x hx' y hy
  ·exact h1.2.2 y hy x hx'
theorem Mh.nes {T A B O:List Keyed} (hd:(T.map g).Nodup) (h:Mh g T A B O) {a b:Keyed} (ha:a ∈ A) (hb:b ∈ B):g a ≠ g b:=by
 have h1:=((h.p.map g).nodup_iff).mpr hd
 rw [List.map_append,List.map_append] at h1
 have h2:=(List.nodup_append.mp h1).1
 exact (List.nodup_append.mp h2).2.2 (g a) (List.mem_map_of_mem ha) (g b) (List.mem_map_of_mem hb)
def tk (a:Array Keyed) (n:Nat):List Keyed:=a.toList.take n
theorem tk_snoc {a:Array Keyed} {n:Nat} (h1:1 <= n) (h:n <= a.size):∃ p,a[n - 1]? = some p /\ tk a n = tk a (n - 1) ++ [p]:=by
 refine ⟨a[n - 1],getElem?_pos a (n - 1) (by omega),?_⟩
 unfold tk
 obtain ⟨m,rfl⟩:∃ m,n = m + 1:=⟨n - 1,by omega⟩
 simp only [Nat.add_sub_cancel]
 rw [List.take_succ,Array.getElem?_toList,getElem?_pos a m (by omega)]
 rfl
theorem tk_mem {a:Array Keyed} {n:Nat} {p:Keyed} (h:p ∈ tk a n):∃ j,j < n /\ j < a.size /\ a[j]? = some p:=by
 obtain ⟨k,hk⟩:=List.getElem?_of_mem h
 unfold tk at hk
 rw [List.getElem?_take] at hk
 split at hk
 ·rw [Array.getElem?_toList] at hk
  refine ⟨k,by assumption,?_,hk⟩
  by_cases h:k < a.size
  ·exact h
  ·rw [Array.getElem?_eq_none (by omega)] at hk; cases hk
 ·cases hk
theorem ex_tk (a:Array Keyed) (n:Nat):(a.extract 0 n).toList = tk a n:=by
 rw [ex_list]; unfold dr tk; rw [List.drop_zero,Nat.sub_zero]
theorem tk_split {a:Array Keyed} {i n:Nat} (h:i <= n):tk a n = tk a i ++ (a.extract i n).toList:=by
 rw [ex_list]
 unfold tk dr
 rw [<- List.drop_take]
 conv => lhs; rw [<- List.take_append_drop i (a.toList.take n)]
 rw [List.take_take,Nat.min_eq_left h]
theorem tk_ge {a:Array Keyed} (h:Asc g a 0 a.size) {n:Nat} {p:Keyed} (hn:n <= a.size) (e:a[n - 1]? = some p) {q:Keyed} (hq:q ∈ tk a n):g q <= g p:=by
 obtain ⟨j,h1,h2,h3⟩:=tk_mem hq
 rw [<- G_at (g:=g) e,<- G_at (g:=g) h3]
 by_cases e:j = n - 1
 ·subst e; exact Int.le_refl _
 ·exact Int.le_of_lt (h j (n - 1) (Nat.zero_le _) (by omega) (by omega))
def rv (out:Array Keyed):List Keyed:=out.toList.reverse
theorem rv_push (out:Array Keyed) (p:Keyed):rv (out.push p) = p :: rv out:=by unfold rv; rw [Array.toList_push,List.reverse_append]; rfl
theorem rv_app (out x:Array Keyed):rv (out ++ x.reverse) = x.toList ++ rv out:=by unfold rv; rw [Array.toList_append,List.reverse_append,Array.toList_reverse,List.reverse_reverse]
theorem Mh.done_a {T:List Keyed} {out a b:Array Keyed} {na nb:Nat} (h:Mh g T (tk a na) (tk b nb) (rv out)) (e:na = 0):Gd g T (a.extract 0 na ++ b.extract 0 nb ++ out.reverse):=by
 unfold Gd
 rw [Array.toList_append,Array.toList_append,ex_tk,ex_tk,Array.toList_reverse]
 have e2:tk a na = []:=by unfold tk; rw [e,List.take_zero]
 have h1:=h.p
 rw [e2,List.nil_append] at h1 ⊢
 exact ⟨h1,h.b⟩
theorem Mh.done_b {T:List Keyed} {out a b:Array Keyed} {na nb:Nat} (h:Mh g T (tk a na) (tk b nb) (rv out)) (e:nb = 0):Gd g T (a.extract 0 na ++ b.extract 0 nb ++ out.reverse):=by
 unfold Gd
 rw [Array.toList_append,Array.toList_append,ex_tk,ex_tk,Array.toList_reverse]
 have e2:tk b nb = []:=by unfold tk; rw [e,List.take_zero]
 have h1:=h.p
 rw [e2,List.append_nil] at h1 ⊢
 exact ⟨h1,h.a⟩
theorem Mh.first {T:List Keyed} {out a b:Array Keyed} {na nb:Nat} (h:Mh g T (tk a na) (tk b nb) (rv out)) (e:nb = 1) (hf:∀ p ∈ tk b 1,∀ q ∈ a.toList,g p < g q):Gd g T (b.extract 0 nb ++ a.extract 0 na ++ out.reverse):=by
 unfold Gd
 rw [Array.toList_append,Array.toList_append,ex_tk,ex_tk,Array.toList_reverse]
 refine ⟨(List.Perm.append_right _ List.perm_append_comm).trans h.p,?_⟩
 have h1:=h.a
 have h2:=h.b
 unfold Srt at h1 h2 ⊢
 rw [List.append_assoc]
 rw [List.pairwise_append] at h1 h2
 rw [List.pairwise_append,List.pairwise_append]
 refine ⟨h2.1,h1,fun x hx y hy => ?_⟩
 rcases List.mem_append.mp hy with hy | hy
 ·exact hf x (by rw [<- e]; exact hx) y (List.mem_of_mem_take hy)
 ·exact h2.2.2 x hx y hy
theorem Mh.push_a {T:List Keyed} {a b out:Array Keyed} {na nb:Nat} {p q:Keyed} (h:Mh g T (tk a na) (tk b nb) (rv out)) (hb:Asc g b 0 b.size) (h1:1 <= na) (h2:na <= a.size) (h3:nb <= b.size) (e1:a[na - 1]? = some p) (e2:b[nb - 1]? = some q) (hlt:g q < g p):Mh g T (tk a (na - 1)) (tk b nb) (rv (out.push p)):=by
 obtain ⟨p',e3,e4⟩:=tk_snoc h1 h2
 rw [e1] at e3
 cases e3
 rw [e4] at h
 rw [rv_push]
 exact h.pa (X:=[p]) fun x hx y hy => by cases List.mem_singleton.mp hx; exact Int.lt_of_le_of_lt (tk_ge hb h3 e2 hy) hlt
theorem Mh.push_b {T:List Keyed} {a b out:Array Keyed} {na nb:Nat} {p q:Keyed} (h:Mh g T (tk a na) (tk b nb) (rv out)) (ha:Asc g a 0 a.size) (h1:1 <= nb) (h2:nb <= b.size) (h3:na <= a.size) (e1:a[na - 1]? = some p) (e2:b[nb - 1]? = some q) (hlt:g p < g q):Mh g T (tk a na) (tk b (nb - 1)) (rv (out.push q)):=by
 obtain ⟨p',e3,e4⟩:=tk_snoc h1 h2
 rw [e2] at e3
 cases e3
 rw [e4] at h
 rw [rv_push]
 exact h.pb (X:=[q]) fun x hx y hy => by cases List.mem_singleton.mp hx; exact Int.lt_of_le_of_lt (tk_ge ha h3 e1 hy) hlt
theorem ex_mem {a:Array Keyed} {i n:Nat} {p:Keyed} (h:p ∈ (a.extract i n).toList):∃ j,i <= j /\ j < n /\ a[j]? = some p:=by
 rw [ex_list] at h
 obtain ⟨j,h1,h2,h3⟩:=dr_take_mem h
 exact ⟨i + j,by omega,by omega,h3⟩
theorem Mh.bulk_a {T:List Keyed} {a b out:Array Keyed} {na nb t:Nat} {q:Keyed} (h:Mh g T (tk a na) (tk b nb) (rv out)) (hb:Asc g b 0 b.size) (ht:t <= na) (h3:nb <= b.size) (e2:b[nb - 1]? = some q)
  (hk:∀ i,t <= i -> i < na -> bey g false q a 0 i = false):Mh g T (tk a t) (tk b nb) (rv (out ++ (a.extract t na).reverse)):=by
 rw [rv_app]
 rw [tk_split ht] at h
 refine h.pa fun x hx y hy => ?_
 obtain ⟨j,h1,h2,e⟩:=ex_mem hx
 have h4:=hk j h1 h2
 unfold bey at h4
 rw [Nat.zero_add,G_at e] at h4
 simp at h4
 have h5:=tk_ge hb h3 e2 hy
 omega
theorem Mh.bulk_b {T:List Keyed} (hd:(T.map g).Nodup) {a b out:Array Keyed} {na nb t:Nat} {p:Keyed} (h:Mh g T (tk a na) (tk b nb) (rv out)) (ha:Asc g a 0 a.size) (ht:t <= nb) (h1:1 <= na) (h3:na <= a.size) (e1:a[na - 1]? = some p)
  (hk:∀ i,t <= i -> i < nb -> bey g true p b 0 i = false):Mh g T (tk a na) (tk b t) (rv (out ++ (b.extract t nb).reverse)):=by
 rw [rv_app]
 have h':=h
 rw [tk_split (a:=b) ht] at h'
 refine h'.pb fun x hx y hy => ?_
 obtain ⟨j,h6,h2,e⟩:=ex_mem hx
 have h4:=hk j h6 h2
 unfold bey at h4
 rw [Nat.zero_add,G_at e] at h4
 simp at h4
 obtain ⟨p',e3,e4⟩:=tk_snoc h1 h3
 rw [e1] at e3
 cases e3
 have hne:=h'.nes hd (a:=p) (b:=x) (by rw [e4]; simp) (List.mem_append_right _ hx)
 have h5:=tk_ge ha h3 e1 hy
 omega
structure MHI (g:Keyed -> Int) (T:List Keyed) (a b out:Array Keyed) (na nb:Nat):Prop where
 m:Mh g T (tk a na) (tk b nb) (rv out)
 a1:1 <= na
 a2:na <= a.size
 b1:2 <= nb
 b2:nb <= b.size
theorem w_mhi (hC:Cmp M A s κ g U) {st st0:SortSt} {a b:Array Keyed} {T:List Keyed} {Q:Array Keyed -> SortSt -> Prop} (h0:Sm st0 st) (hk:kindOf st0 = κ) (ua:All U a) (ub:All U b) (hd:(T.map g).Nodup) (hT:(a.toList ++ b.toList).Perm T)
  (sa:Asc g a 0 a.size) (sb:Asc g b 0 b.size) (ha:1 <= a.size) (hb:1 <= b.size) (hl:G g b (b.size - 1) < G g a (a.size - 1)) (hf:∀ p ∈ tk b 1,∀ q ∈ a.toList,g p < g q)
  (h:∀ R st',Sm st0 st' -> Gd g T R -> Q R st'):wpS M A E s (mhiP a b) Q st:=by
 rw [mhiP_eq]
 refine wpS_bind (wpS_lift (wpAny_rule ⟨rfl,?_⟩))
 obtain ⟨a0,ea0,_⟩:=tk_snoc (a:=a) (n:=a.size) (by omega) (Nat.le_refl _)
 obtain ⟨b0,eb0,_⟩:=tk_snoc (a:=b) (n:=b.size) (by omega) (Nat.le_refl _)
 refine wpS_bind (w_elem ea0 ?_)
 dsimp only
 have m0:Mh g T (tk a a.size) (tk b b.size) (rv (#[]:Array Keyed)):=by
  unfold tk rv
  rw [List.take_of_length_le (by rw [Array.length_toList]; exact Nat.le_refl _),List.take_of_length_le (by rw [Array.length_toList]; exact Nat.le_refl _)]
  exact ⟨by simpa using hT,by simpa using srt_of sa,by simpa using srt_of sb⟩
 have m1:Mh g T (tk a (a.size - 1)) (tk b b.size) (rv (#[a0]:Array Keyed)):=m0.push_a sb (by omega) (Nat.le_refl _) (Nat.le_refl _) ea0 eb0 (by rw [<- G_at (g:=g) eb0,<- G_at (g:=g) ea0]; exact hl)
 by_cases c1:a.size - 1 = 0
 ·rw [if_pos (by simpa using c1)]
  exact wpS_pure (h _ _ h0 (m1.done_a c1))
 rw [if_neg (by simpa using c1)]
 by_cases c2:b.size = 1
 ·rw [if_pos (by simpa using c2)]
  exact wpS_pure (h _ _ h0 (m1.first c2 hf))
 rw [if_neg (by simpa using c2)]
 refine wpS_bind (wpS_get ?_)
 refine wpS_bind (wpS_mono (wpS_forRange (I:=fun x c st' => Sm st0 st' /\ ∃ na nb out mg,c = (none,na,nb,out,mg) /\ MHI g T a b out na nb /\ na + nb + x <= a.size + b.size)
  (Q:=fun c st' => Sm st0 st' /\ ∃ R r,c = (some R,r) /\ Gd g T R) ?so ?fo ⟨h0,_,_,_,_,rfl,⟨m1,by omega,by omega,by omega,Nat.le_refl _⟩,by omega⟩) ?po)
 case fo =>
  rintro c st' ⟨_,na,nb,out,mg,_,hi,hm⟩
  have:=hi.a1
  exfalso
  omega
 case po =>
  rintro c st' ⟨hs,R,r,rfl,hg⟩
  exact wpS_pure (h _ _ hs hg)
 case so =>
  rintro x c st1 _ hx ⟨hs1,na,nb,out,mg,rfl,hi,hm⟩
  dsimp only
  obtain ⟨r0,er0⟩:∃ r0,na + nb = r0:=⟨_,rfl⟩
  rw [er0] at hm
  refine wpS_bind (wpS_mono (wpS_forRange (I:=fun y c st' => Sm st0 st' /\ ∃ na nb out ac bc,c = (none,na,nb,out,ac,bc) /\ MHI g T a b out na nb /\ na + nb + y <= r0)
   (Q:=fun c st' => Sm st0 st' /\ ((∃ R r,c = (some R,r) /\ Gd g T R) ∨ ∃ na nb out ac bc,c = (none,na,nb,out,ac,bc) /\ MHI g T a b out na nb /\ na + nb + 1 <= r0)) ?s1 ?f1 ⟨hs1,_,_,_,_,_,rfl,hi,by omega⟩) ?p1)
  case f1 =>
   rintro c st' ⟨_,na,nb,out,ac,bc,_,hi,hm⟩
   have:=hi.a1
   exfalso
   omega
  case s1 =>
   rintro y c st2 _ hy ⟨hs2,na,nb,out,ac,bc,rfl,hi,hm2⟩
   dsimp only
   obtain ⟨hm',i1,i2,i3,i4⟩:=hi
   obtain ⟨p,ep,epd⟩:=tk_snoc (a:=a) (n:=na) i1 i2
   obtain ⟨q,eq,eqd⟩:=tk_snoc (a:=b) (n:=nb) (by omega) i4
   refine wpS_bind (w_elem eq (wpS_bind (w_elem ep (wpS_bind (w_lt hC (hs2.k.trans hk) (ub _ _ eq) (ua _ _ ep) ?_)))))
   dsimp only
   by_cases hlt:g q < g p
   ·rw [if_pos (decide_eq_true hlt)]
    refine wpS_bind (w_elem ep ?_)
    have m2:=hm'.push_a sb i1 i2 i4 ep eq hlt
    by_cases c:na - 1 = 0
    ·rw [if_pos (by simpa using c)]
     exact wpS_pure ⟨hs2,.inl ⟨_,_,rfl,m2.done_a c⟩⟩
    ·rw [if_neg (by simpa using c)]
     split
     ·exact wpS_pure ⟨hs2,.inr ⟨_,_,_,_,_,rfl,⟨m2,by omega,by omega,i3,i4⟩,by omega⟩⟩
     ·exact wpS_pure ⟨hs2,_,_,_,_,_,rfl,⟨m2,by omega,by omega,i3,i4⟩,by omega⟩
   ·rw [if_neg (by simpa using hlt)]
    refine wpS_bind (w_elem eq ?_)
    have hne:=hm'.nes hd (a:=p) (b:=q) (by rw [epd]; simp) (by rw [eqd]; simp)
    have m2:=hm'.push_b sa (by omega) i4 i2 ep eq (by omega)
    by_cases c:nb - 1 = 1
    ·rw [if_pos (by simpa using c)]
     exact wpS_pure ⟨hs2,.inl ⟨_,_,rfl,m2.first c hf⟩⟩
    ·rw [if_neg (by simpa using c)]
     split
     ·exact wpS_pure ⟨hs2,.inr ⟨_,_,_,_,_,rfl,⟨m2,i1,i2,by omega,by omega⟩,by omega⟩⟩
     ·exact wpS_pure ⟨hs2,_,_,_,_,_,rfl,⟨m2,i1,i2,by omega,by omega⟩,by omega⟩
  case p1 =>
   rintro c st2 ⟨hs2,⟨R,r,rfl,hg⟩ | ⟨na,nb,out,ac,bc,rfl,hi,hm2⟩⟩
   ·exact wpS_pure ⟨hs2,_,_,rfl,hg⟩
   dsimp only
   refine wpS_bind (wpS_lift (wpAny_rule ⟨rfl,?_⟩))
   obtain ⟨r1,er1⟩:∃ r1,na + nb = r1:=⟨_,rfl⟩
   rw [er1] at hm2
   refine wpS_bind (wpS_mono (wpS_forRange (I:=fun y c st' => Sm st0 st' /\ ∃ na nb out mg ac bc,c = (none,na,nb,out,mg,ac,bc) /\ MHI g T a b out na nb /\ na + nb + y <= r1)
    (Q:=fun c st' => Sm st0 st' /\ ((∃ R r,c = (some R,r) /\ Gd g T R) ∨ ∃ na nb out mg ac bc,c = (none,na,nb,out,mg,ac,bc) /\ MHI g T a b out na nb /\ na + nb <= r1)) ?s2 ?f2 ⟨hs2,_,_,_,_,_,_,rfl,hi,by omega⟩) ?p2)
   case f2 =>
    rintro c st' ⟨_,na,nb,out,mg,ac,bc,_,hi,hm⟩
    have:=hi.a1
    exfalso
    omega
   case p2 =>
    rintro c st3 ⟨hs3,⟨R,r,rfl,hg⟩ | ⟨na,nb,out,mg,ac,bc,rfl,hi,hm3⟩⟩
    ·exact wpS_pure ⟨hs3,_,_,rfl,hg⟩
    dsimp only
    exact wpS_bind (w_gm hs3 fun st4 hs4 => wpS_pure ⟨hs4,_,_,_,_,rfl,hi,by omega⟩)
   case s2 =>
    rintro y c st3 _ hy ⟨hs3,na,nb,out,mg,ac,bc,rfl,hi,hm3⟩
    dsimp only
    obtain ⟨hm',i1,i2,i3,i4⟩:=hi
    obtain ⟨q,eq,eqd⟩:=tk_snoc (a:=b) (n:=nb) (by omega) i4
    generalize mg - 1 = mg1
    revert mg1
    refine w_if2 (c:=mg > 1) mg fun n => ?_
    clear er0 er1 hm hm2
    refine wpS_bind (w_gm hs3 fun st4 hs4 => ?_)
    refine wpS_bind (w_elem eq (wpS_bind (w_gal hC (hs4.k.trans hk) (ub _ _ eq) ua (by omega) (by omega) (bey_mono sa (by omega)) fun t hk1 hk2 hk3 => ?_)))
    dsimp only
    have m2:=hm'.bulk_a sb hk1 i4 eq hk3
    obtain ⟨o2,eo2⟩:∃ o2,out ++ (a.extract t na).reverse = o2:=⟨_,rfl⟩
    rw [eo2] at m2
    obtain ⟨k,ekk⟩:∃ k,na - t = k:=⟨_,rfl⟩
    rw [ekk]
    have ek:¬ k > 0 -> out = o2 /\ na = t:=fun e => by
     obtain rfl:na = t:=om5 ekk e hk1
     refine ⟨?_,rfl⟩
     rw [<- eo2]
     apply Array.toList_inj.mp
     rw [Array.toList_append,Array.toList_reverse,ex_list,Nat.sub_self,List.take_zero,List.reverse_nil,List.append_nil]
    by_cases cx:k > 0 /\ t = 0
    ·rw [if_pos cx.1,eo2,if_pos (by simpa using cx.2)]
     exact wpS_pure ⟨hs4,.inl ⟨_,_,rfl,m2.done_a cx.2⟩⟩
    have t1:1 <= t:=by
     by_cases ck:k > 0
     ·exact Nat.pos_of_ne_zero fun e => cx ⟨ck,e⟩
     ·rw [<- (ek ck).2]; exact i1
    apply w_ifj
    ·intro ck
     rw [eo2,if_neg (by simpa using fun e => cx ⟨ck,e⟩)]
    ·intro ck
     obtain ⟨e7,e8⟩:=ek ck
     rw [e7,e8]
    clear cx ek
    have ta:t <= a.size:=Nat.le_trans hk1 i2
    obtain ⟨p,ep,epd⟩:=tk_snoc (a:=a) (n:=t) t1 ta
    have hpq:g p < g q:=by
     have h3:=hk2 (t - 1) (Nat.sub_lt t1 Nat.one_pos)
     unfold bey at h3
     rw [Nat.zero_add,G_at ep] at h3
     have hne:=m2.nes hd (a:=p) (b:=q) (by rw [epd]; simp) (by rw [eqd]; simp)
     simp at h3
     exact om9 h3 hne
    refine wpS_bind (w_elem eq ?_)
    have m3:=m2.push_b sa (by omega) i4 ta ep eq hpq
    by_cases c1:nb - 1 = 1
    ·rw [if_pos (by simpa using c1)]
     exact wpS_pure ⟨hs4,.inl ⟨_,_,rfl,m3.first c1 hf⟩⟩
    rw [if_neg (by simpa using c1)]
    refine wpS_bind (w_elem ep (wpS_bind (w_gal hC (hs4.k.trans hk) (ua _ _ ep) ub (by omega) (by omega) (bey_mono sb (by omega)) fun t2 hj1 hj2 hj3 => ?_)))
    dsimp only
    have m4:=m3.bulk_b hd sa hj1 (by omega) ta ep hj3
    obtain ⟨o3,eo3⟩:∃ o3,o2.push q ++ (b.extract t2 (nb - 1)).reverse = o3:=⟨_,rfl⟩
    rw [eo3] at m4
    obtain ⟨k2,ekk2⟩:∃ k,nb - 1 - t2 = k:=⟨_,rfl⟩
    rw [ekk2]
    have ek2:¬ k2 > 0 -> o2.push q = o3 /\ nb - 1 = t2:=fun e => by
     obtain e2:nb - 1 = t2:=om5 ekk2 e hj1
     refine ⟨?_,e2⟩
     rw [<- eo3,e2]
     apply Array.toList_inj.mp
     rw [Array.toList_append,Array.toList_reverse,ex_list,Nat.sub_self,List.take_zero,List.reverse_nil,List.append_nil]
    by_cases c2:k2 > 0 /\ t2 = 1
    ·rw [if_pos c2.1,eo3,if_pos (by simpa using c2.2)]
     exact wpS_pure ⟨hs4,.inl ⟨_,_,rfl,m4.first c2.2 hf⟩⟩
    by_cases c2':k2 > 0 /\ t2 = 0
    ·rw [if_pos c2'.1,eo3,if_neg (by simpa using fun e => c2 ⟨c2'.1,e⟩),if_pos (by simpa using c2'.2)]
     exact wpS_pure ⟨hs4,.inl ⟨_,_,rfl,m4.done_b c2'.2⟩⟩
    have l2:2 <= t2:=by
     by_cases ck:k2 > 0
     ·exact om6 (fun e => c2 ⟨ck,e⟩) (fun e => c2' ⟨ck,e⟩)
     ·rw [<- (ek2 ck).2]; exact om7 i3 c1
    apply w_ifj
    ·intro ck2
     rw [eo3,if_neg (by simpa using fun e => c2 ⟨ck2,e⟩),if_neg (by simpa using fun e => c2' ⟨ck2,e⟩)]
    ·intro ck2
     obtain ⟨e5,e6⟩:=ek2 ck2
     rw [e5,e6]
    clear c2 c2' ek2
    have nx:Mh g T (tk a (t - 1)) (tk b t2) (rv (o3.push p)):=by
     obtain ⟨q2,eq2,eqd2⟩:=tk_snoc (a:=b) (n:=t2) (by omega) (by omega)
     have h3:=hj2 (t2 - 1) (by omega)
     unfold bey at h3
     rw [Nat.zero_add,G_at eq2] at h3
     simp at h3
     exact m4.push_a sb t1 ta (by omega) ep eq2 h3
    refine wpS_bind (w_elem ep ?_)
    by_cases c3:t - 1 = 0
    ·rw [if_pos (by simpa using c3)]
     exact wpS_pure ⟨hs4,.inl ⟨_,_,rfl,nx.done_a c3⟩⟩
    rw [if_neg (by simpa using c3)]
    have fin:MHI g T a b (o3.push p) (t - 1) t2:=⟨nx,by omega,by omega,by omega,by omega⟩
    refine w_if ?_ ?_
    ·exact wpS_pure ⟨hs4,.inr ⟨_,_,_,_,_,_,rfl,fin,Nat.le_trans (Nat.le_add_right _ _) (om8 hm3 hk1 hj1 t1 i3)⟩⟩
    ·exact wpS_pure ⟨hs4,_,_,_,_,_,_,rfl,fin,om8 hm3 hk1 hj1 t1 i3⟩
theorem matP_eq (i:Nat):mergeAt' i = (do
 let s0 <- get
 let (some (sa,na,pw),some (sb,nb,_)):=((pendingOf s0)[i]?,(pendingOf s0)[i + 1]?) | unsupported "internal:list.sort.pending"
 set (setPending s0 (((pendingOf s0).setIfInBounds i (sa,na + nb,pw)).eraseIdxIfInBounds (i + 1)))
 let some k <- galP false (<- elem' (arrOf s0) sb) (arrOf s0) sa na 0 | return false
 let (sa,na):=(sa + k,na - k)
 if na == 0 then return true
 let some nb <- galP true (<- elem' (arrOf s0) (sa + na - 1)) (arrOf s0) sb nb (nb - 1) | return false
 if nb == 0 then return true
 let x:=(arrOf s0).extract sa sb
 let y:=(arrOf s0).extract sb (sb + nb)
 let r <- if na <= nb then mloP x y else mhiP x y
 modify fun s1 => setArr s1 (r.toList.zipIdx.foldl (fun a (p,j) => a.setIfInBounds (sa + j) p) (arrOf s1))
 return (failedOf (<- get)).isNone):=rfl
end
end L2.So
set_option Elab.async false
set_option linter.all false
set_option maxRecDepth 100000
namespace L2.So
open PySem PyProof.Rows
section
variable {M:Model} {A:Around} {E:Value -> Shared -> Prop} {s:Shared} {κ:SortKind} {g:Keyed -> Int} {U:Keyed -> Prop}
theorem w_set {x st:SortSt} {Q:PUnit -> SortSt -> Prop} (h:Q ⟨⟩ x):wpS M A E s (set x:StateT SortSt Sem PUnit) Q st:=by
 unfold wpS
 rw [StateT.run_set]
 exact wpAny_pure ⟨rfl,h⟩
theorem bey_mono2 {left:Bool} {key:Keyed} {arr:Array Keyed} {base n:Nat} (h:Asc g arr base (base + n)):∀ i j,i <= j -> j < n -> bey g left key arr base j = true -> bey g left key arr base i = true:=by
 intro i j hij hj hb
 have:G g arr (base + i) <= G g arr (base + j):=by
  by_cases e:i = j
  ·subst e; exact Int.le_refl _
  ·exact Int.le_of_lt (h _ _ (by omega) (by omega) (by omega))
 unfold bey at hb ⊢
 cases left with
 | true => simp at hb ⊢; omega
 | false => simp at hb ⊢; omega
theorem wr_list (sa:Nat):∀ (l:List Keyed) (d:Nat) (xs:Array Keyed),sa + d + l.length <= xs.size ->
  ((l.zipIdx d).foldl (fun a (x:Keyed × Nat) => a.setIfInBounds (sa + x.2) x.1) xs).toList = xs.toList.take (sa + d) ++ l ++ xs.toList.drop (sa + d + l.length)
 | [],d,xs,_ => by
  rw [List.zipIdx_nil,List.foldl_nil,List.append_nil,List.length_nil,Nat.add_zero,List.take_append_drop]
 | p :: l,d,xs,h => by
  rw [List.length_cons] at h
  rw [List.zipIdx_cons,List.foldl_cons,wr_list sa l (d + 1) _ (by rw [Array.size_setIfInBounds]; omega)]
  rw [Array.toList_setIfInBounds]
  have hl:sa + d < xs.toList.length:=by rw [Array.length_toList]; omega
  have e1:(xs.toList.set (sa + d) p).take (sa + (d + 1)) = xs.toList.take (sa + d) ++ [p]:=by
   rw [show sa + (d + 1) = sa + d + 1 by omega,List.take_succ,List.getElem?_set_self hl,List.take_set_of_le (Nat.le_refl _)]
   rfl
  have e2:(xs.toList.set (sa + d) p).drop (sa + (d + 1) + l.length) = xs.toList.drop (sa + d + (l.length + 1)):=by
   rw [List.drop_set_of_lt (by omega)]
   congr 1
   omega
  dsimp only
  rw [e1,e2,List.length_cons]
  simp
theorem G_ex {xs:Array Keyed} {i n j:Nat} (h:i + j < n) (hn:n <= xs.size):G g (xs.extract i n) j = G g xs (i + j):=by
 apply G_congr
 rw [Array.getElem?_extract,if_pos (by omega)]
theorem sz_ex {xs:Array Keyed} {i n:Nat} (hn:n <= xs.size):(xs.extract i n).size = n - i:=by rw [Array.size_extract]; omega
theorem asc_ex {xs:Array Keyed} {i n:Nat} (hn:n <= xs.size) (h:Asc g xs i n):Asc g (xs.extract i n) 0 (xs.extract i n).size:=by
 intro a b _ hab hb
 rw [sz_ex hn] at hb
 rw [G_ex (by omega) hn,G_ex (by omega) hn]
 exact h _ _ (by omega) (by omega) (by omega)
theorem all_ex {xs:Array Keyed} {i n:Nat} (h:All U xs):All U (xs.extract i n):=by
 intro j p e
 rw [Array.getElem?_extract] at e
 split at e
 ·exact h _ _ e
 ·cases e
structure Fin (st st':SortSt) (g:Keyed -> Int):Prop where
 e:(arrOf st').Perm (arrOf st)
 f:failedOf st' = none
 a:Asc g (arrOf st') 0 (arrOf st').size
theorem w_mat (hC:Cmp M A s κ g U) {st:SortSt} {n1 n2 pw x:Nat} {Q:Bool -> SortSt -> Prop} (hs:Stt κ g U st) (hp:pendingOf st = #[(0,n1,pw),(n1,n2,x)]) (h1:1 <= n1) (h2:1 <= n2) (hz:n1 + n2 = (arrOf st).size)
  (a1:Asc g (arrOf st) 0 n1) (a2:Asc g (arrOf st) n1 (n1 + n2)) (h:∀ st',Fin st st' g -> (pendingOf st').size = 1 -> Q true st'):wpS M A E s (mergeAt' 0) Q st:=by
 rw [matP_eq]
 refine wpS_bind (wpS_get ?_)
 rw [hp]
 have e0:(#[(0,n1,pw),(n1,n2,x)]:Array (Nat × Nat × Nat))[0]? = some (0,n1,pw):=rfl
 have e1:(#[(0,n1,pw),(n1,n2,x)]:Array (Nat × Nat × Nat))[0 + 1]? = some (n1,n2,x):=rfl
 rw [e0,e1]
 dsimp only
 refine wpS_bind (w_set ?_)
 obtain ⟨xs,ex⟩:∃ xs,arrOf st = xs:=⟨_,rfl⟩
 have hU:=hs.u
 have hD:=hs.d
 rw [ex] at hz a1 a2 hU hD ⊢
 obtain ⟨st1,e1⟩:∃ st1,setPending st (((#[(0,n1,pw),(n1,n2,x)]:Array (Nat × Nat × Nat)).setIfInBounds 0 (0,n1 + n2,pw)).eraseIdxIfInBounds (0 + 1)) = st1:=⟨_,rfl⟩
 rw [e1]
 have k1:kindOf st1 = κ:=by rw [<- e1]; exact hs.k
 have f1:failedOf st1 = none:=by rw [<- e1]; exact hs.f
 have x1:arrOf st1 = xs:=by rw [<- e1]; exact ex
 have p1:(pendingOf st1).size = 1:=by
  rw [<- e1]
  show (((#[(0,n1,pw),(n1,n2,x)]:Array (Nat × Nat × Nat)).setIfInBounds 0 (0,n1 + n2,pw)).eraseIdxIfInBounds (0 + 1)).size = 1
  simp
 obtain ⟨q,eq,eg⟩:=at_ (g:=g) (xs:=xs) (i:=n1) (by omega)
 refine wpS_bind (w_elem eq (wpS_bind (w_gal hC k1 (hU _ _ eq) hU (by omega) (by omega) (bey_mono2 (by rw [Nat.zero_add]; exact a1)) fun k hk1 hk2 hk3 => ?_)))
 dsimp only
 have low:∀ i,i < k -> G g xs i < G g xs n1:=fun i hi => by
  have h3:=hk2 i hi
  unfold bey at h3
  rw [Nat.zero_add,<- eg] at h3
  simp at h3
  have:=hD.ne (i:=i) (j:=n1) (by omega) (by omega) (by omega)
  omega
 have high:∀ i,k <= i -> i < n1 -> G g xs n1 < G g xs i:=fun i hi hi2 => by
  have h3:=hk3 i hi hi2
  unfold bey at h3
  rw [Nat.zero_add,<- eg] at h3
  simpa using h3
 by_cases c:n1 - k = 0
 ·rw [if_pos (by simpa using c)]
  refine wpS_pure (h _ ⟨by rw [x1,ex],f1,?_⟩ p1)
  rw [x1]
  intro i j _ hij hj
  by_cases c1:j < n1
  ·exact a1 i j (Nat.zero_le _) hij c1
  ·by_cases c2:i < n1
   ·have:=low i (by omega)
    by_cases c3:j = n1
    ·subst c3; exact this
    ·exact Int.lt_trans this (a2 n1 j (Nat.le_refl _) (by omega) (by omega))
   ·exact a2 i j (by omega) hij (by omega)
 rw [if_neg (by simpa using c)]
 rw [show 0 + k + (n1 - k) - 1 = n1 - 1 by omega,Nat.zero_add]
 obtain ⟨p,ep,eg2⟩:=at_ (g:=g) (xs:=xs) (i:=n1 - 1) (by omega)
 refine wpS_bind (w_elem ep (wpS_bind (w_gal hC k1 (hU _ _ ep) hU (by omega) (by omega) (bey_mono2 a2) fun nb hj1 hj2 hj3 => ?_)))
 dsimp only
 have low2:∀ i,n1 <= i -> i < n1 + nb -> G g xs i < G g xs (n1 - 1):=fun i hi hi2 => by
  have h3:=hj2 (i - n1) (by omega)
  unfold bey at h3
  rw [show n1 + (i - n1) = i by omega,<- eg2] at h3
  simpa using h3
 have high2:∀ i,n1 + nb <= i -> i < n1 + n2 -> G g xs (n1 - 1) < G g xs i:=fun i hi hi2 => by
  have h3:=hj3 (i - n1) (by omega) (by omega)
  unfold bey at h3
  rw [show n1 + (i - n1) = i by omega,<- eg2] at h3
  simp at h3
  have:=hD.ne (i:=i) (j:=n1 - 1) (by omega) (by omega) (by omega)
  omega
 by_cases c2:nb = 0
 ·have:=high2 n1 (by omega) (by omega)
  have:=high (n1 - 1) (by omega) (by omega)
  omega
 rw [if_neg (by simpa using c2)]
 have hx:n1 <= xs.size:=by omega
 have hy:n1 + nb <= xs.size:=by omega
 have zx:=sz_ex (xs:=xs) (i:=k) hx
 have zy:=sz_ex (xs:=xs) (i:=n1) hy
 have ax:=asc_ex (xs:=xs) (i:=k) hx (fun i j h3 h4 h5 => a1 i j (Nat.zero_le _) h4 h5)
 have ay:=asc_ex (xs:=xs) (i:=n1) hy (fun i j h3 h4 h5 => a2 i j h3 h4 (by omega))
 have mx:∀ p ∈ (xs.extract k n1).toList,∃ j,k <= j /\ j < n1 /\ G g xs j = g p:=fun p hp => by
  obtain ⟨j,h3,h4,h5⟩:=ex_mem hp
  exact ⟨j,h3,h4,G_at h5⟩
 have my:∀ p ∈ (xs.extract n1 (n1 + nb)).toList,∃ j,n1 <= j /\ j < n1 + nb /\ G g xs j = g p:=fun p hp => by
  obtain ⟨j,h3,h4,h5⟩:=ex_mem hp
  exact ⟨j,h3,h4,G_at h5⟩
 obtain ⟨T,eT⟩:∃ T,(xs.extract k n1).toList ++ (xs.extract n1 (n1 + nb)).toList = T:=⟨_,rfl⟩
 have eTl:T = (dr xs k).take (n1 + nb - k):=by
  rw [<- eT,ex_list,ex_list]
  unfold dr
  rw [show n1 + nb - k = (n1 - k) + nb by omega,List.take_add,List.drop_drop,show k + (n1 - k) = n1 by omega,Nat.add_sub_cancel_left]
 have whole:xs.toList = xs.toList.take k ++ T ++ xs.toList.drop (n1 + nb):=by
  rw [eTl]
  unfold dr
  conv => lhs; rw [<- List.take_append_drop k xs.toList,<- List.take_append_drop (n1 + nb - k) (xs.toList.drop k),List.drop_drop]
  rw [show k + (n1 + nb - k) = n1 + nb by omega,List.append_assoc]
 have lT:T.length = n1 + nb - k:=by rw [<- eT,List.length_append,Array.length_toList,Array.length_toList,zx,zy]; omega
 have hdT:(T.map g).Nodup:=by
  have:=dis_iff.mp hD
  rw [whole,List.map_append,List.map_append] at this
  exact (List.nodup_append.mp (List.nodup_append.mp this).1).2.1
 have fin:∀ R st2,Sm st1 st2 -> Gd g T R -> wpS M A E s (do
   modify fun s1 => setArr s1 (List.foldl (fun a (x:Keyed × Nat) => a.setIfInBounds (k + x.snd) x.fst) (arrOf s1) R.toList.zipIdx)
   let z <- get
   pure (failedOf z).isNone) Q st2:=by
  intro R st2 hs2 hR
  refine wpS_bind (wpS_modify (wpS_bind (wpS_get (wpS_pure ?_))))
  have lR:R.toList.length = n1 + nb - k:=by rw [hR.1.length_eq,lT]
  have hw:=wr_list k R.toList 0 (arrOf st2) (by rw [lR,hs2.a,x1]; omega)
  rw [Nat.add_zero,lR,hs2.a,x1,show k + (n1 + nb - k) = n1 + nb by omega] at hw
  have hf:failedOf st2 = none:=by rw [hs2.f,f1]
  show Q (failedOf st2).isNone _
  rw [hf]
  refine h _ ⟨?_,hf,?_⟩ (by show (pendingOf st2).size = 1; rw [hs2.p]; exact p1)
  ·rw [Array.perm_iff_toList_perm]
   show (List.foldl (fun a (x:Keyed × Nat) => a.setIfInBounds (k + x.snd) x.fst) (arrOf st2) R.toList.zipIdx).toList.Perm (arrOf st).toList
   rw [hs2.a,x1,hw,ex]
   conv => rhs; rw [whole]
   exact List.Perm.append_right _ (List.Perm.append_left _ hR.1)
  ·refine asc_of ?_
   show Srt g (List.foldl (fun a (x:Keyed × Nat) => a.setIfInBounds (k + x.snd) x.fst) (arrOf st2) R.toList.zipIdx).toList
   rw [hs2.a,x1,hw]
   have mT:∀ t ∈ R.toList,(∃ j,k <= j /\ j < n1 /\ G g xs j = g t) ∨ (∃ j,n1 <= j /\ j < n1 + nb /\ G g xs j = g t):=fun t ht => by
    have:=hR.1.mem_iff.mp ht
    rw [<- eT] at this
    rcases List.mem_append.mp this with h3 | h3
    ·exact .inl (mx t h3)
    ·exact .inr (my t h3)
   have mP:∀ t ∈ xs.toList.take k,∃ j,j < k /\ G g xs j = g t:=fun t ht => by
    obtain ⟨j,h3,h4,h5⟩:=tk_mem (a:=xs) (n:=k) ht
    exact ⟨j,h3,G_at h5⟩
   have mS:∀ t ∈ xs.toList.drop (n1 + nb),∃ j,n1 + nb <= j /\ j < n1 + n2 /\ G g xs j = g t:=fun t ht => by
    obtain ⟨j,h3,h4,h5⟩:=dr_mem (a:=xs) (i:=n1 + nb) ht
    exact ⟨j,h3,by omega,G_at h5⟩
   unfold Srt
   rw [List.pairwise_append,List.pairwise_append]
   refine ⟨⟨?_,hR.2,fun u hu t ht => ?_⟩,?_,fun t ht v hv => ?_⟩
   ·have:=srt_of (asc_ex (xs:=xs) (i:=0) (n:=k) (by omega) (fun i j h3 h4 h5 => a1 i j h3 h4 (by omega)))
    rw [ex_tk] at this
    exact this
   ·obtain ⟨i,h3,h4⟩:=mP u hu
    have hl:=low i h3
    rw [<- h4]
    rcases mT t ht with ⟨j,h5,h6,h7⟩ | ⟨j,h5,h6,h7⟩
    ·rw [<- h7]; exact a1 i j (Nat.zero_le _) (by omega) h6
    ·rw [<- h7]
     by_cases e:j = n1
     ·subst e; exact hl
     ·exact Int.lt_trans hl (a2 n1 j (Nat.le_refl _) (by omega) (by omega))
   ·have:=srt_of (asc_ex (xs:=xs) (i:=n1 + nb) (n:=xs.size) (Nat.le_refl _) (fun i j h3 h4 h5 => a2 i j (by omega) h4 (by omega)))
    rw [ex_all] at this
    exact this
   ·obtain ⟨i,h3,h3',h4⟩:=mS v hv
    have hh:=high2 i h3 h3'
    rw [<- h4]
    rcases List.mem_append.mp ht with ht | ht
    ·obtain ⟨j,h5,h6⟩:=mP t ht
     rw [<- h6]
     exact Int.lt_trans (low j h5) (a2 n1 i (Nat.le_refl _) (by omega) (by omega))
    ·rcases mT t ht with ⟨j,h5,h6,h7⟩ | ⟨j,h5,h6,h7⟩
     ·rw [<- h7]
      by_cases e:j = n1 - 1
      ·subst e; exact hh
      ·exact Int.lt_trans (a1 j (n1 - 1) (Nat.zero_le _) (by omega) (by omega)) hh
     ·rw [<- h7]; exact a2 j i h5 (by omega) h3'
 have hlast:∀ p ∈ dr (xs.extract k n1) ((xs.extract k n1).size - 1),∀ q ∈ (xs.extract n1 (n1 + nb)).toList,g q < g p:=fun p hp q hq => by
  obtain ⟨j,h3,h4,h5⟩:=dr_mem hp
  obtain ⟨i,h6,h7,h8⟩:=my q hq
  rw [<- G_at (g:=g) h5,G_ex (by omega) hx,<- h8,show k + j = n1 - 1 by omega]
  exact low2 i h6 h7
 have hfirst:∀ p ∈ tk (xs.extract n1 (n1 + nb)) 1,∀ q ∈ (xs.extract k n1).toList,g p < g q:=fun p hp q hq => by
  obtain ⟨j,h3,h4,h5⟩:=tk_mem hp
  obtain ⟨i,h6,h7,h8⟩:=mx q hq
  rw [<- G_at (g:=g) h5,G_ex (by omega) hy,<- h8,show n1 + j = n1 by omega]
  exact high i h6 h7
 refine w_if ?_ ?_
 ·refine wpS_bind (w_mlo hC (Sm.refl st1) k1 (all_ex hU) (all_ex hU) hdT (by rw [eT]) ax ay (by omega) (by omega) ?_ hlast fin)
  rw [G_ex (by omega) hy,G_ex (by omega) hx]
  exact high _ (by omega) (by omega)
 ·refine wpS_bind (w_mhi hC (Sm.refl st1) k1 (all_ex hU) (all_ex hU) hdT (by rw [eT]) ax ay (by omega) (by omega) ?_ hfirst fin)
  rw [G_ex (by omega) hy,G_ex (by omega) hx,zx,zy,show k + (n1 - k - 1) = n1 - 1 by omega]
  exact low2 _ (by omega) (by omega)
structure One (st st':SortSt) (g:Keyed -> Int) (n1:Nat):Prop where
 k:kindOf st' = kindOf st
 f:failedOf st' = failedOf st
 e:(arrOf st').Perm (arrOf st)
 p:pendingOf st' = #[(0,n1,0)]
 a:Asc g (arrOf st') 0 n1
structure Two (st st':SortSt) (g:Keyed -> Int) (n1 pw n2:Nat):Prop where
 k:kindOf st' = kindOf st
 f:failedOf st' = failedOf st
 e:(arrOf st').Perm (arrOf st)
 p:pendingOf st' = #[(0,n1,pw),(n1,n2,0)]
 a:Asc g (arrOf st') 0 n1
 b:Asc g (arrOf st') n1 (n1 + n2)
theorem mr_ok {n:Nat} (h2:2 <= n) (h:n < 128):1 <= minRun' n n 0 /\ minRun' n n 0 <= n /\ n <= 2 * minRun' n n 0:=by
 obtain ⟨m,rfl⟩:∃ m,n = m + 2:=⟨n - 2,by omega⟩
 rw [minRun'_succ]
 by_cases h64:m + 2 < 64
 ·rw [if_pos h64]; omega
 ·rw [if_neg h64,minRun'_succ,if_pos (by omega)]; omega
theorem w_sort (hC:Cmp M A s κ g U) {st:SortSt} {Q:Unit -> SortSt -> Prop} (hs:Stt κ g U st) (hp:pendingOf st = #[]) (h2:2 <= (arrOf st).size) (h128:(arrOf st).size < 128)
  (h:∀ st',Fin st st' g -> Q () st'):wpS M A E s sortRuns' Q st:=by
 rw [sortRuns'_eq]
 refine wpS_bind (wpS_get ?_)
 obtain ⟨n,en⟩:∃ n,(arrOf st).size = n:=⟨_,rfl⟩
 obtain ⟨m1,m2,m3⟩:=mr_ok h2 h128
 rw [en] at m1 m2 m3 h2 ⊢
 obtain ⟨mr,emr⟩:∃ mr,minRun' n n 0 = mr:=⟨_,rfl⟩
 rw [emr] at m1 m2 m3
 dsimp only
 rw [emr]
 refine wpS_bind (wpS_mono (wpS_forRange (I:=fun x c st' => (x = 0 /\ c = (none,0) /\ st' = st) ∨ (x = 1 /\ ∃ n1,c = (none,n1) /\ 1 <= n1 /\ n1 <= n /\ n - n1 <= mr /\ One st st' g n1) ∨ (2 <= x /\ c = (none,n) /\ ∃ n1 pw n2,1 <= n1 /\ 1 <= n2 /\ n1 + n2 = n /\ Two st st' g n1 pw n2))
  (Q:=fun c st' => c = (none,n) /\ (One st st' g n ∨ ∃ n1 pw n2,1 <= n1 /\ 1 <= n2 /\ n1 + n2 = n /\ Two st st' g n1 pw n2)) ?s1 ?f1 (.inl ⟨rfl,rfl,rfl⟩)) ?p1)
 case f1 =>
  rintro c st' (⟨hx,_,_⟩ | ⟨hx,_⟩ | ⟨hx,hc,ht⟩)
  ·omega
  ·omega
  ·exact ⟨hc,.inr ht⟩
 case s1 =>
  rintro x c st' _ hx (⟨rfl,rfl,rfl⟩ | ⟨rfl,n1,rfl,i1,i2,i3,ho⟩ | ⟨hx2,rfl,n1,pw,n2,i1,i2,i3,ht⟩)
  ·dsimp only
   rw [if_neg (by omega)]
   refine wpS_bind (w_run hC hs (by omega) (by omega) fun m st2 r1 r2 r3 r4 => ?_)
   dsimp only
   rw [Nat.zero_add] at r4
   have z2:=r3.size
   have pb2:(pendingOf st2).back? = none:=by rw [r3.p,hp]; rfl
   by_cases c:m < mr
   ·rw [if_pos c]
    refine wpS_bind (wpS_lift (wpAny_rule ⟨rfl,?_⟩))
    refine wpS_bind (w_bin hC (r3.stt hs) r1 (by omega) (by omega) (by rw [Nat.zero_add]; exact r4) fun st3 b1 b2 => ?_)
    rw [if_neg (by simp)]
    refine wpS_bind (wpS_get ?_)
    have pb3:(pendingOf st3).back? = none:=by rw [b1.p]; exact pb2
    rw [pb3]
    dsimp only
    refine wpS_bind (wpS_modify (wpS_pure (.inr (.inl ⟨rfl,_,rfl,by omega,by omega,by omega,b1.k.trans r3.k,b1.f.trans r3.f,b1.e.trans r3.e,?_,?_⟩))))
    ·show (pendingOf st3).push _ = _
     rw [b1.p,r3.p,hp,Nat.zero_add]
     rfl
    ·exact b2
   ·rw [if_neg c]
    refine wpS_bind (wpS_get ?_)
    rw [pb2]
    dsimp only
    refine wpS_bind (wpS_modify (wpS_pure (.inr (.inl ⟨rfl,_,rfl,by omega,by omega,by omega,r3.k,r3.f,r3.e,?_,?_⟩))))
    ·show (pendingOf st2).push _ = _
     rw [r3.p,hp,Nat.zero_add]
     rfl
    ·show Asc g (arrOf st2) 0 (0 + m)
     rw [Nat.zero_add]
     exact r4
  ·dsimp only
   have z1:=ho.e.size_eq
   have hs1:Stt κ g U st':=⟨ho.k.trans hs.k,ho.f.trans hs.f,hs.u.perm ho.e,hs.d.perm ho.e⟩
   by_cases c0:n1 ≥ n
   ·rw [if_pos c0]
    obtain rfl:n1 = n:=by omega
    exact wpS_pure ⟨rfl,.inl ho⟩
   rw [if_neg c0]
   refine wpS_bind (w_run hC hs1 (by omega) (by omega) fun m st2 r1 r2 r3 r4 => ?_)
   dsimp only
   have z2:=r3.size
   have low:∀ {st3:SortSt},Swp st' st3 n1 (n1 + (n - n1)) -> Asc g (arrOf st3) 0 n1:=fun hw i j h5 h6 h7 => by
    rw [G_congr (hw.o i (.inl (by omega))),G_congr (hw.o j (.inl (by omega)))]
    exact ho.a i j h5 h6 h7
   have fin:∀ (st3:SortSt) (pw:Nat),Swp st' st3 n1 (n1 + (n - n1)) -> Asc g (arrOf st3) n1 n -> Two st (setPending (setPending st3 ((pendingOf st3).modify ((pendingOf st3).size - 1) fun x => (x.1,x.2.1,pw))) ((pendingOf (setPending st3 ((pendingOf st3).modify ((pendingOf st3).size - 1) fun x => (x.1,x.2.1,pw)))).push (n1,n - n1,0))) g n1 pw (n - n1):=fun st3 pw hw ha => by
    refine ⟨hw.k.trans ho.k,hw.f.trans ho.f,hw.e.trans ho.e,?_,(show Asc g (arrOf st3) 0 n1 from low hw),?_⟩
    ·show ((pendingOf st3).modify ((pendingOf st3).size - 1) fun x => (x.1,x.2.1,pw)).push (n1,n - n1,0) = _
     rw [hw.p,ho.p]
     rfl
    ·rw [show n1 + (n - n1) = n by omega]
     exact ha
   have inner:∀ (st3:SortSt) (pw:Nat) (R:Option Unit × Unit -> SortSt -> Prop),(pendingOf st3).size = 1 -> R (none,()) st3 -> wpS M A E s (forIn [0:n] ((none,()):Option Unit × Unit) fun _ _ => do
     let z <- get
     match if (pendingOf z).size > 1 then (pendingOf z)[(pendingOf z).size - 2]? else none with
     | some (_,_,older) =>
      if older <= pw then pure (ForInStep.done (none,()))
      else do
       let z2 <- mergeAt' ((pendingOf z).size - 2)
       if (!z2) = true then pure (ForInStep.done (some (),())) else pure (ForInStep.yield (none,()))
     | _ => pure (ForInStep.done (none,()))) R st3:=by
    intro st3 pw R hz3 hR
    refine wpS_forRange (I:=fun _ c st4 => c = (none,()) /\ st4 = st3) ?_ ?_ ⟨rfl,rfl⟩
    ·rintro y c st4 _ _ ⟨rfl,rfl⟩
     refine wpS_bind (wpS_get ?_)
     rw [if_neg (by omega)]
     exact wpS_pure hR
    ·rintro c st4 ⟨rfl,rfl⟩
     exact hR
   have pk:∀ {st3:SortSt},Swp st' st3 n1 (n1 + (n - n1)) -> (pendingOf st3).back? = some (0,n1,0) /\ (pendingOf st3).size = 1:=fun hw => by
    rw [hw.p,ho.p]
    exact ⟨rfl,rfl⟩
   by_cases c:m < mr
   ·rw [if_pos c]
    refine wpS_bind (wpS_lift (wpAny_rule ⟨rfl,?_⟩))
    rw [show min (n - n1) mr = n - n1 by omega]
    refine wpS_bind (w_bin hC (r3.stt hs1) r1 (by omega) (by omega) r4 fun st3 b1 b2 => ?_)
    have hw:=r3.trans b1
    rw [if_neg (by simp)]
    refine wpS_bind (wpS_get ?_)
    rw [(pk hw).1]
    dsimp only
    refine wpS_bind (inner st3 _ _ (pk hw).2 ?_)
    dsimp only
    refine wpS_bind (wpS_modify (wpS_bind (wpS_modify (wpS_pure (.inr (.inr ⟨by omega,?_,n1,_,n - n1,by omega,by omega,by omega,fin st3 _ hw (by rw [show n1 + (n - n1) = n by omega] at b2; exact b2)⟩))))))
    rw [show n1 + (n - n1) = n by omega]
   ·rw [if_neg c]
    obtain rfl:m = n - n1:=by omega
    refine wpS_bind (wpS_get ?_)
    rw [(pk r3).1]
    dsimp only
    refine wpS_bind (inner st2 _ _ (pk r3).2 ?_)
    dsimp only
    refine wpS_bind (wpS_modify (wpS_bind (wpS_modify (wpS_pure (.inr (.inr ⟨by omega,?_,n1,_,n - n1,by omega,by omega,by omega,fin st2 _ r3 (by rw [show n1 + (n - n1) = n by omega] at r4; exact r4)⟩))))))
    rw [show n1 + (n - n1) = n by omega]
  ·dsimp only
   rw [if_pos (by omega)]
   exact wpS_pure ⟨rfl,.inr ⟨n1,pw,n2,i1,i2,i3,ht⟩⟩
 case p1 =>
  rintro c st' ⟨rfl,ht⟩
  dsimp only
  refine wpS_bind (wpS_mono (wpS_forRange (I:=fun x c st2 => c = (none,()) /\ ((x = 0 /\ ∃ n1 pw n2,1 <= n1 /\ 1 <= n2 /\ n1 + n2 = n /\ Two st st2 g n1 pw n2) ∨ (Fin st st2 g /\ (pendingOf st2).size = 1)))
   (Q:=fun c st2 => c = (none,()) /\ Fin st st2 g) ?s2 ?f2 ⟨rfl,?i2⟩) ?p2)
  case i2 =>
   rcases ht with ho | ht
   ·refine .inr ⟨⟨ho.e,ho.f.trans hs.f,?_⟩,by rw [ho.p]; rfl⟩
    rw [ho.e.size_eq,en]
    exact ho.a
   ·exact .inl ⟨rfl,ht⟩
  case f2 =>
   rintro c st2 ⟨rfl,⟨hx,_⟩ | ⟨hf,_⟩⟩
   ·omega
   ·exact ⟨rfl,hf⟩
  case p2 =>
   rintro c st2 ⟨rfl,hf⟩
   exact wpS_pure (h _ hf)
  case s2 =>
   rintro x c st2 _ hx ⟨rfl,⟨rfl,n1,pw,n2,i1,i2,i3,ht⟩ | ⟨hf,hz1⟩⟩
   ·have z2:=ht.e.size_eq
    have hs2:Stt κ g U st2:=⟨ht.k.trans hs.k,ht.f.trans hs.f,hs.u.perm ht.e,hs.d.perm ht.e⟩
    refine wpS_bind (wpS_get ?_)
    have zp:(pendingOf st2).size = 2:=by rw [ht.p]; rfl
    rw [if_neg (by omega)]
    rw [zp]
    rw [if_neg (by simp)]
    refine wpS_bind (w_mat hC hs2 ht.p i1 i2 (by omega) ht.a ht.b fun st3 hf3 hz3 => ?_)
    rw [if_neg (by simp)]
    exact wpS_pure ⟨rfl,.inr ⟨⟨hf3.e.trans ht.e,hf3.f,hf3.a⟩,hz3⟩⟩
   ·refine wpS_bind (wpS_get ?_)
    rw [if_pos (by omega)]
    exact wpS_pure ⟨rfl,hf⟩
end
end L2.So
set_option Elab.async false
set_option linter.all false
set_option maxRecDepth 100000
namespace L2.So
open PySem PyProof.Rows
section
variable {prog:Program} {w:World} {A:Around} {E:Value -> Shared -> Prop} {s:Shared} {κ:SortKind} {g:Keyed -> Int} {U:Keyed -> Prop}
theorem pair_mem {vs:List Value} {p:Keyed} (h:p ∈ (pairsOf vs).toList):p.1 = p.2 /\ p.2 ∈ vs:=by
 rw [pairsOf_toList] at h
 have:=mem_zip_self h
 exact ⟨this.1,this.1 ▸ this.2⟩
theorem map_pairs (f:Keyed -> Int):∀ vs:List Value,((vs.zip vs).map f) = vs.map fun v => f (v,v)
 | [] => rfl
 | v :: vs => by rw [List.zip_cons_cons,List.map_cons,List.map_cons,map_pairs f vs]
theorem snd_pairs:∀ vs:List Value,((vs.zip vs).map (·.2)) = vs
 | [] => rfl
 | v :: vs => by rw [List.zip_cons_cons,List.map_cons,snd_pairs vs]
theorem out_perm {vs:List Value} {xs:Array Keyed} (h:xs.Perm (pairsOf vs)):(xs.map (·.2)).toList.Perm vs:=by
 rw [Array.toList_map]
 refine ((Array.perm_iff_toList_perm.mp h).map _).trans ?_
 rw [pairsOf_toList,snd_pairs]
theorem out_asc {vs:List Value} {xs:Array Keyed} (h:xs.Perm (pairsOf vs)) (ha:Asc g xs 0 xs.size):(xs.map (·.2)).toList.Pairwise fun x y => g (x,x) < g (y,y):=by
 have:=srt_of ha
 unfold Srt at this
 rw [Array.toList_map,List.pairwise_map]
 have eq:∀ p ∈ xs.toList,(p.2,p.2) = p:=fun p hp => by
  have:=pair_mem ((Array.perm_iff_toList_perm.mp h).mem_iff.mp hp)
  exact Prod.ext this.1.symm rfl
 refine List.Pairwise.imp_of_mem ?_ this
 intro x y hx hy hlt
 rw [eq x hx,eq y hy]
 exact hlt
theorem lsort {a:Addr} {vs:List Value} {n:Nat} {P:PySem.Fin -> Shared -> Prop} (ho:s.heap.get? a = some (seqObj "list" vs.toArray n)) (h128:vs.length < 128)
  (hkind:∀ h',(∀ b o,b ≠ a -> s.heap.get? b = some o -> h'.get? b = some o) -> 2 <= vs.length -> ∀ Q':SortKind -> Shared -> Prop,Q' κ { s with heap:=h' } -> wpAny (model prog w) A (keyKind' vs.toArray) Q' E { s with heap:=h' })
  (hcmp:∀ h',(∀ b o,b ≠ a -> s.heap.get? b = some o -> h'.get? b = some o) -> Cmp (model prog w) A { s with heap:=h' } κ g U)
  (hU:∀ v ∈ vs,U (v,v)) (hd:(vs.map fun v => g (v,v)).Nodup)
  (h:∀ (out:List Value) c h',out.Perm vs -> out.Pairwise (fun x y => g (x,x) < g (y,y)) -> (∀ b o,b ≠ a -> s.heap.get? b = some o -> h'.get? b = some o) -> h'.get? a = some (seqObj "list" out.toArray c) -> P (.done (.ret .none)) { s with heap:=h' }) :
  wpAny (model prog w) A (Builtin.«list.sort» ⟨[.ref a],[]⟩) P E s:=by
 have ha:a < s.heap.objs.size:=Heap.lt_size ho
 have hz:∀ k:Nat,k <= 1000000 -> k <= sizeLine:=fun k hk => Nat.le_of_lt (sizeOk hk)
 rw [list_sort_plain]
 refine wpAny_bind (listItems_at ho rfl ?_)
 refine wpAny_bind (listUpdate_at ho rfl ?_ (hz _ (by rw [List.size_toArray]; omega)) (Nat.zero_le _))
 obtain ⟨e1,ho1⟩:∃ e1,(s.heap.update a (Obj.mapSeq fun _ => #[])).get? a = some (seqObj "list" #[] e1):=⟨_,get?_update_seq ho (fun _ => #[])⟩
 refine wpAny_bind (seqEpoch_at ho1 rfl ?_)
 refine wpAny_bind (wpAny_newTuple ?_ (hz _ (by show vs.length <= _; omega)))
 refine wpAny_bind (wpAny_newList ?_ (Nat.zero_le _))
 refine wpAny_holding ?_
 obtain ⟨h6,e6⟩:∃ h6,((s.heap.update a (Obj.mapSeq fun _ => #[])).push (seqObj "tuple" vs.toArray 0)).push (seqObj "list" #[] 0) = h6:=⟨_,rfl⟩
 show wpAny (model prog w) A _ P E { s with heap:=((s.heap.update a (Obj.mapSeq fun _ => #[])).push (seqObj "tuple" vs.toArray 0)).push (seqObj "list" #[] 0) }
 rw [e6]
 have ho6:h6.get? a = some (seqObj "list" #[] e1):=by
  rw [<- e6,Heap.get?_push_ne _ _ _ (by rw [size_push',Heap.size_update]; exact Nat.ne_of_lt (Nat.lt_succ_of_lt ha)),Heap.get?_push_ne _ _ _ (by rw [Heap.size_update]; exact Nat.ne_of_lt ha)]
  exact ho1
 have kp6:∀ b o,b ≠ a -> s.heap.get? b = some o -> h6.get? b = some o:=fun b o hb e => by
  rw [<- e6]
  exact Heap.get?_push_of_some _ (Heap.get?_push_of_some _ (by rw [Heap.get?_update_ne _ _ _ _ hb]; exact e))
 have fin:∀ xs:Array Keyed,xs.Perm (pairsOf vs) -> Asc g xs 0 xs.size -> P (.done (.ret .none)) { s with heap:=h6.update a (Obj.mapSeq fun _ => xs.map (·.2)) }:=fun xs hp hs => by
  have e7:=get?_update_seq ho6 (fun _ => xs.map (·.2))
  have e8:seqObj "list" (xs.map (·.2)) = seqObj "list" (xs.map (·.2)).toList.toArray:=by rw [Array.toArray_toList]
  rw [e8] at e7
  exact h (xs.map (·.2)).toList _ _ (out_perm hp) (out_asc hp hs) (fun b o hb e => by rw [Heap.get?_update_ne _ _ _ _ hb]; exact kp6 b o hb e) e7
 dsimp only
 by_cases h2:vs.toArray.size < 2
 ·rw [if_pos h2,if_pos h2]
  rw [List.size_toArray] at h2
  refine wpAny_bind (wpAny_pure ?_)
  rw [StateT.run_pure]
  refine wpAny_bind (wpAny_pure ?_)
  dsimp only
  refine wpAny_bind (seqEpoch_at ho6 rfl ?_)
  refine wpAny_bind (listUpdate_at ho6 rfl ?_ (Nat.zero_le _) (Nat.le_succ_of_le (hz _ (by rw [Array.size_map]; show (pairsOf vs).size <= _; rw [pairsOf_size]; omega))))
  simp only [bne_self_eq_false,Bool.false_eq_true,if_false]
  refine wpAny_pure (fin (pairsOf vs) (Array.Perm.refl _) ?_)
  intro i j _ hij hj
  rw [pairsOf_size] at hj
  omega
 ·rw [if_neg h2,if_neg h2]
  rw [List.size_toArray] at h2
  refine wpAny_bind (hkind h6 kp6 (by omega) _ ?_)
  have hs:Stt κ g U (SortSt.mk' κ (pairsOf vs) #[] 7 none):=by
   refine ⟨rfl,rfl,fun i p hp => ?_,?_⟩
   ·have hm:p ∈ (pairsOf vs).toList:=by rw [Array.mem_toList_iff]; exact Array.mem_of_getElem? hp
    obtain ⟨e1,e2⟩:=pair_mem hm
    have:=hU p.2 e2
    rw [show (p.2,p.2) = p from Prod.ext e1.symm rfl] at this
    exact this
   ·refine dis_iff.mpr ?_
    show ((pairsOf vs).toList.map g).Nodup
    rw [pairsOf_toList,map_pairs]
    exact hd
  refine wpAny_bind (wpAny_mono (w_sort (st:=SortSt.mk' κ (pairsOf vs) #[] 7 none) (Q:=fun _ st' => Fin (SortSt.mk' κ (pairsOf vs) #[] 7 none) st' g) (hcmp h6 kp6) hs rfl (by show 2 <= (pairsOf vs).size; rw [pairsOf_size]; omega) (by show (pairsOf vs).size < 128; rw [pairsOf_size]; omega) fun st' hf => hf) ?_ fun _ _ e => e)
  rintro ⟨⟨⟩,st'⟩ s' ⟨rfl,hf⟩
  dsimp only
  have zf:=hf.e.size_eq
  refine wpAny_bind (seqEpoch_at ho6 rfl ?_)
  refine wpAny_bind (listUpdate_at ho6 rfl ?_ (Nat.zero_le _) (Nat.le_succ_of_le (hz _ (by rw [Array.size_map,zf]; show (pairsOf vs).size <= _; rw [pairsOf_size]; omega))))
  rw [hf.f]
  simp only [bne_self_eq_false,Bool.false_eq_true,if_false]
  exact wpAny_pure (fin (arrOf st') hf.e hf.a)
def pk (i j:Int):Int:=i * 1000000 + j
def hk (h:Heap) (v:Value):Int:=match v with
 | .ref a => (match h.get? a with
  | some o => (match o.data with
   | .seq xs _ => (match xs.toList with
    | [.int i _,.int j _] => pk i j
    | _ => 0)
   | _ => 0)
  | none => 0)
 | _ => 0
def isP (h:Heap) (v:Value):Prop:=∃ a o i j t u n,v = .ref a /\ h.get? a = some o /\ o.cls = .type "tuple" /\ o.data = .seq #[.int i t,.int j u] n /\ 0 <= j /\ j < 1000000
theorem hk_eq {h:Heap} {a:Addr} {o:Obj} {i j:Int} {t u:Tok} {n:Nat} (e:h.get? a = some o) (d:o.data = .seq #[.int i t,.int j u] n):hk h (.ref a) = pk i j:=by
 unfold hk
 simp only [e,d]
theorem pk_lt {i j i' j':Int} (h1:0 <= j) (h2:j < 1000000) (h3:0 <= j') (h4:j' < 1000000):decide (pk i j < pk i' j') = if i == i' then decide (j < j') else decide (i < i'):=by
 unfold pk
 by_cases e:i = i'
 ·subst e
  rw [if_pos (beq_self_eq_true i)]
  exact decide_eq_decide.mpr (by omega)
 ·rw [if_neg (by simpa using e)]
  exact decide_eq_decide.mpr (by omega)
theorem cmp_pairs {h0:Heap} {a:Addr} (ha:∀ v,isP h0 v -> v ≠ .ref a) (h':Heap) (kp:∀ b o,b ≠ a -> h0.get? b = some o -> h'.get? b = some o):Cmp (model prog w) A { s with heap:=h' } (tuples' true) (fun p => hk h0 p.1) (fun p => isP h0 p.1):=by
 intro x y hx hy Q hq
 obtain ⟨x1,x2⟩:=x
 obtain ⟨y1,y2⟩:=y
 have nx:=ha _ hx
 have ny:=ha _ hy
 obtain ⟨b,o,i,j,t,u,n,rfl,e1,_,d1,b1,b2⟩:=hx
 obtain ⟨c,o',i',j',t',u',n',rfl,e2,_,d2,b3,b4⟩:=hy
 dsimp only at nx ny ⊢
 have hq:Q (decide (hk h0 (.ref b) < hk h0 (.ref c))):=hq
 rw [hk_eq e1 d1,hk_eq e2 d2,pk_lt b1 b2 b3 b4] at hq
 have nx':b ≠ a:=fun e => nx (by rw [e])
 have ny':c ≠ a:=fun e => ny (by rw [e])
 refine PySem.W.kat_lt (s:={ s with heap:=h' }) (kp b o nx' e1) d1 (kp c o' ny' e2) d2 ?_
 refine PySem.W.kat_cons (wpAny_eqBool_int ?_)
 cases e:i == i' with
 | true =>
  rw [e,if_pos rfl] at hq
  refine PySem.W.kat_yes (PySem.W.kat_cons (wpAny_eqBool_int ?_))
  cases e':j == j' with
  | true =>
   refine PySem.W.kat_yes (PySem.W.kat_nil ⟨rfl,?_⟩)
   have:j = j':=by simpa using e'
   subst this
   simpa using hq
  | false =>
   refine PySem.W.kat_no (PySem.W.kat_one _ _ (PyProof.Rows.lt_int ?_))
   exact ⟨rfl,hq⟩
 | false =>
  rw [e,if_neg (by simp)] at hq
  refine PySem.W.kat_no ?_
  exact oneLt_int ⟨rfl,hq⟩
theorem tups_of {h0:Heap} {a:Addr} (ha:∀ v,isP h0 v -> v ≠ .ref a) {h':Heap} (kp:∀ b o,b ≠ a -> h0.get? b = some o -> h'.get? b = some o):∀ vs:List Value,(∀ v ∈ vs,isP h0 v) -> ∃ fs,PySem.W.KatTups h' vs fs /\ fs.length = vs.length /\ ∀ f ∈ fs,∃ i t,f = .int i t
 | [],_ => ⟨[],trivial,rfl,fun _ h => by cases h⟩
 | v :: vs,hv => by
  obtain ⟨fs,h1,h2,h3⟩:=tups_of ha kp vs fun x hx => hv x (List.mem_cons_of_mem _ hx)
  have nv:=ha v (hv v List.mem_cons_self)
  obtain ⟨b,o,i,j,t,u,n,rfl,e1,c1,d1,_,_⟩:=hv v List.mem_cons_self
  refine ⟨.int i t :: fs,PySem.W.KatTups.cons (kp b o (fun e => nv (by rw [e])) e1) c1 d1 rfl h1,by rw [List.length_cons,List.length_cons,h2],fun f hf => ?_⟩
  rcases List.mem_cons.mp hf with rfl | hf
  ·exact ⟨i,t,rfl⟩
  ·exact h3 f hf
theorem kind_pairs {h0:Heap} {a:Addr} (ha:∀ v,isP h0 v -> v ≠ .ref a) {h':Heap} (kp:∀ b o,b ≠ a -> h0.get? b = some o -> h'.get? b = some o) {vs:List Value} (hv:∀ v ∈ vs,isP h0 v) (h2:2 <= vs.length) {Q':SortKind -> Shared -> Prop}
  (h:Q' (tuples' true) { s with heap:=h' }):wpAny (model prog w) A (keyKind' vs.toArray) Q' E { s with heap:=h' }:=by
 obtain ⟨fs,t,hl,hi⟩:=tups_of ha kp vs hv
 refine PySem.W.kat_kind (T:=.type "int") t (by omega) (fun v hv' => ?_) (by rfl) h
 obtain ⟨i,t,rfl⟩:=hi v hv'
 exact PySem.W.Looks.of_pure rfl
theorem sorted_pairs {x:Value} {vs:List Value} {s2:Shared} {Q:Value -> Shared -> Prop} (hcol:∀ (A:Around) (E:Value -> Shared -> Prop) (Q':List Value -> Shared -> Prop),Q' vs s2 -> wpAny (model prog w) A (collect x) Q' E s)
  (kp2:∀ b o,s.heap.get? b = some o -> s2.heap.get? b = some o) (big:s.heap.objs.size <= s2.heap.objs.size) (h128:vs.length < 128) (hv:∀ v ∈ vs,isP s.heap v) (hd:(vs.map (hk s.heap)).Nodup)
  (h:∀ D (out:List Value) c h',s.heap.objs.size <= D -> out.Perm vs -> out.Pairwise (fun x y => hk s.heap x < hk s.heap y) -> (∀ b o,s.heap.get? b = some o -> h'.get? b = some o) -> h'.get? D = some (seqObj "list" out.toArray c) -> Q (.ref D) { s2 with heap:=h' }) :
  wpAny (model prog w) A (call (.builtin "sorted") [x]) Q E s:=by
 refine Calls.call_function_entry kind_sorted plain_sorted entry_sorted (args_sorted1 _) ?_
 unfold Builtin.«sorted»
 refine wpAny_bind (m:=checkCount "sorted" 1 1 _) (wpAny_pure ?_)
 refine wpAny_bind (hcol _ _ _ ?_)
 refine wpAny_bind (wpAny_newList ?_ (Nat.le_of_lt (sizeOk (by omega))))
 have hoL:(s2.heap.push (seqObj "list" vs.toArray 0)).get? s2.heap.objs.size = some (seqObj "list" vs.toArray 0):=Heap.get?_push_size _ rfl
 have na:∀ v,isP s.heap v -> v ≠ .ref s2.heap.objs.size:=fun v hv e => by
  obtain ⟨b,o,i,j,t,u,n,rfl,e1,_⟩:=hv
  cases e
  exact absurd (Nat.lt_of_lt_of_le (Heap.lt_size e1) big) (Nat.lt_irrefl _)
 have kp3:∀ {h':Heap},(∀ b o,b ≠ s2.heap.objs.size -> (s2.heap.push (seqObj "list" vs.toArray 0)).get? b = some o -> h'.get? b = some o) -> ∀ b o,b ≠ s2.heap.objs.size -> s.heap.get? b = some o -> h'.get? b = some o:=fun k b o hb e => k b o hb (Heap.get?_push_of_some _ (kp2 b o e))
 refine wpAny_bind (wpAny_holding (wpAny_call_entry slot_list_sort ⟨_,hoL,rfl⟩ entry_list_sort (lsort (s:={ s2 with heap:=s2.heap.push (seqObj "list" vs.toArray 0) }) (κ:=tuples' true) (g:=fun p => hk s.heap p.1) (U:=fun p => isP s.heap p.1) hoL h128 (fun h' kp h2 Q' hq => kind_pairs na (kp3 kp) hv h2 hq) (fun h' kp => cmp_pairs na h' (kp3 kp)) hv hd fun out c h' hp ho kp e => ⟨_,rfl,?_⟩) (args_list_sort _)))
 exact wpAny_pure ⟨_,rfl,h _ out c h' big hp ho (fun b o e' => kp3 kp b o (fun q => by subst q; exact absurd (Nat.lt_of_lt_of_le (Heap.lt_size e') big) (Nat.lt_irrefl _)) e') e⟩
end
theorem perm_lift {α β:Type} (f:α -> β) {a b:List β} (h:a.Perm b):∀ ps:List α,b = ps.map f -> ∃ qs:List α,qs.Perm ps /\ a = qs.map f:=by
 induction h with
 | nil => intro ps e; exact ⟨[],by cases ps <;> simp_all,rfl⟩
 | cons x _ ih =>
  intro ps e
  cases ps with
  | nil => cases e
  | cons p ps =>
   rw [List.map_cons] at e
   injection e with e1 e2
   obtain ⟨qs,h1,h2⟩:=ih ps e2
   exact ⟨p :: qs,h1.cons p,by rw [List.map_cons,h2,e1]⟩
 | swap x y l =>
  intro ps e
  match ps,e with
  | p :: q :: ps,e =>
   rw [List.map_cons,List.map_cons] at e
   injection e with e1 e2
   injection e2 with e2 e3
   exact ⟨q :: p :: ps,List.Perm.swap _ _ _,by rw [List.map_cons,List.map_cons,e1,e2,e3]⟩
 | trans _ _ ih1 ih2 =>
  intro ps e
  obtain ⟨qs,h1,h2⟩:=ih2 ps e
  obtain ⟨rs,h3,h4⟩:=ih1 qs h2
  exact ⟨rs,h3.trans h1,h4⟩
theorem pk_inj {i j i' j':Int} (h1:0 <= j) (h2:j < 1000000) (h3:0 <= j') (h4:j' < 1000000) (e:pk i j = pk i' j'):(i,j) = (i',j'):=by
 unfold pk at e
 obtain rfl:i = i':=by omega
 obtain rfl:j = j':=by omega
 rfl
end L2.So
namespace L2
open PySem PySem.Spec PyProof.Rows
abbrev Pr:=Addr × Int × Int
structure PrOk (K:PySem.W.Frag) (H:Hp) (ps:List Pr):Prop where
 t:∀ z ∈ ps,SqT K H z.1 [.int z.2.1,.int z.2.2]
 b:∀ z ∈ ps,0 <= z.2.2 /\ z.2.2 < 1000000
 d:(ps.map (·.2)).Nodup
 l:ps.length < 128
def prV (ps:List Pr):List V:=ps.map fun z => .ref z.1
def PrLt (x y:Pr):Prop:=So.pk x.2.1 x.2.2 < So.pk y.2.1 y.2.2
section
variable {X:Cx}
theorem pr_vals:∀ (ps:List Pr) {its:List Value},Vals (prV ps) its -> its = ps.map fun z => Value.ref z.1
 | [],_,r => by cases r; rfl
 | z :: ps,_,r => by
  cases r with
  | cons h r => rw [pr_vals ps r,show _ = Value.ref z.1 from h]; rfl
theorem pr_isP {pins} {s:Shared} {σ:St} {H:Hp} (I:Inv X pins σ H s) {ps:List Pr} (ok:PrOk X.K H ps):∀ z ∈ ps,So.isP s.heap (.ref z.1) /\ So.hk s.heap (.ref z.1) = So.pk z.2.1 z.2.2:=by
 intro z hz
 obtain ⟨its,rv,⟨o,ho,hc,n,hd⟩,_⟩:=I.tuple (ok.t z hz)
 cases rv with
 | cons h1 r1 =>
  cases r1 with
  | cons h2 r2 =>
   cases r2
   obtain ⟨t,rfl⟩:=h1
   obtain ⟨u,rfl⟩:=h2
   exact ⟨⟨z.1,o,z.2.1,z.2.2,t,u,n,rfl,ho,hc,hd,(ok.b z hz).1,(ok.b z hz).2⟩,So.hk_eq ho hd⟩
theorem pr_nodup {pins} {s:Shared} {σ:St} {H:Hp} (I:Inv X pins σ H s) {ps:List Pr} (ok:PrOk X.K H ps):((ps.map fun z => Value.ref z.1).map (So.hk s.heap)).Nodup:=by
 rw [List.map_map]
 have e:ps.map (So.hk s.heap ∘ fun z => Value.ref z.1) = ps.map fun z => So.pk z.2.1 z.2.2:=List.map_congr_left fun z hz => (pr_isP I ok z hz).2
 rw [e]
 have hd:=ok.d
 unfold List.Nodup at hd ⊢
 rw [List.pairwise_map] at hd ⊢
 refine List.Pairwise.imp_of_mem ?_ hd
 intro x y hx hy hne e
 have:=So.pk_inj (ok.b x hx).1 (ok.b x hx).2 (ok.b y hy).1 (ok.b y hy).2 e
 exact hne (by exact this)
theorem sorted_pr {pins} {s s2:Shared} {σ:St} {H:Hp} {x:Value} {Q:VK} (I:Inv X pins σ H s) {ps:List Pr} (ok:PrOk X.K H ps)
  (hcol:∀ (A:Around) (E:Value -> Shared -> Prop) (Q':List Value -> Shared -> Prop),Q' (ps.map fun z => Value.ref z.1) s2 -> wpAny (model X.prog X.w) A (collect x) Q' E s)
  (kp2:∀ b o,s.heap.get? b = some o -> s2.heap.get? b = some o) (big:s.heap.objs.size <= s2.heap.objs.size) (e2:∃ h2,s2 = { s with heap:=h2 })
  (q:∀ l qs,H l = none -> qs.Perm ps -> qs.Pairwise PrLt -> Q (.ref l) (upd H l (.lst (prV qs)))):wpAny (model X.prog X.w) X.A (call (.builtin "sorted") [x]) (EP X pins σ Q) X.xe s:=by
 obtain ⟨h2,rfl⟩:=e2
 refine So.sorted_pairs hcol kp2 big (by rw [List.length_map]; exact ok.l) (fun v hv => ?_) (pr_nodup I ok) fun D out c h' hD hp ho kp e => ?_
 ·obtain ⟨z,hz,rfl⟩:=List.mem_map.mp hv
  exact (pr_isP I ok z hz).1
 obtain ⟨qs,hq1,rfl⟩:=So.perm_lift _ hp ps rfl
 refine ⟨.ref D,_,I.laid (t':=s.toks) kp hD (show ObjOk X.prog X.w _ h' _ (.lst (prV qs)) from ⟨?_,_,c,?_,e⟩),rfl,q D qs (I.hok.fresh hD) hq1 ?_⟩
 ·unfold prV
  rw [List.length_map,hq1.length_eq]
  exact Nat.le_of_lt (sizeOk (by have:=ok.l; omega))
 ·unfold prV
  have:∀ l:List Pr,Vals (l.map fun z => V.ref z.1) (l.map fun z => Value.ref z.1):=fun l => by
   induction l with
   | nil => exact .nil
   | cons a l ih => exact .cons rfl ih
  exact this qs
 ·rw [List.pairwise_map] at ho
  refine List.Pairwise.imp_of_mem ?_ ho
  intro a b ha hb hlt
  rw [(pr_isP I ok a (hq1.mem_iff.mp ha)).2,(pr_isP I ok b (hq1.mem_iff.mp hb)).2] at hlt
  exact hlt
theorem call_sortedL:CallR X (.builtin "sorted") (fun xs H Q => ∃ a ps,xs = [.ref a] /\ SqL X.K H a (prV ps) /\ PrOk X.K H ps /\ ∀ l qs,H l = none -> qs.Perm ps -> qs.Pairwise PrLt -> Q (.ref l) (upd H l (.lst (prV qs)))):=by
 intro pins s σ H xs us Q I r h
 obtain ⟨a,ps,rfl,hq,ok,q⟩:=h
 obtain ⟨u,rfl,ru⟩:=vals1 r
 cases (show u = Value.ref a from ru)
 obtain ⟨its,rv,p,hz⟩:=I.list hq
 have ei:=pr_vals ps rv
 subst ei
 refine sorted_pr I ok (fun A E Q' hq' => collect_list p.isList hq' ?_) (fun b o e => ?_) ?_ ⟨_,rfl⟩ q
 ·rw [List.length_map]; exact Nat.le_of_lt (sizeOk (by have:=ok.l; omega))
 ·have hlt:b ≠ s.heap.objs.size:=Nat.ne_of_lt (Heap.lt_size e)
  show ((s.heap.push _).update _ _).get? b = _
  rw [Heap.get?_update_ne _ _ _ _ hlt]
  exact Heap.get?_push_of_some _ e
 ·show _ <= ((s.heap.push _).update _ _).objs.size
  rw [Heap.size_update,size_push']
  exact Nat.le_succ _
end
end L2
set_option Elab.async false
set_option linter.all false
set_option maxRecDepth 100000
namespace L2.So
open PySem
def EA (h:Heap) (d:Addr) (es:Array DictEntry) (ep:Nat):Prop:=∃ o,h.get? d = some o /\ o.ExactDict /\ o.data = .dict es ep
section
variable {prog:Program} {w:World} {A:Around} {E:Value -> Shared -> Prop} {s:Shared} {d it:Addr} {es:Array DictEntry} {ep i:Nat}
theorem EA.ty (h:EA s.heap d es ep):s.TypeIs (.ref d) "dict":=let ⟨o,e,c,_⟩:=h; ⟨o,e,c.1⟩
theorem ea_iter (lo:(d == sysModules) = false) (h:EA s.heap d es ep) {Q:Value -> Shared -> Prop}
  (q:Q (.ref s.heap.objs.size) { s with heap:=s.heap.push { cls:=.type "dict_keyiterator",data:=.fields #[.ref d,.int 0 0,.int es.size 0,.int ep 0] } }):wpAny (model prog w) A (pyIter (.ref d)) Q E s:=by
 have ty:=h.ty
 obtain ⟨o,e,_,dt⟩:=h
 refine wpAny_pyIter_slot ty F.slot_dict_iter (wpAny_call_entry F.slot_dict_iter ty F.entry_dict_iter ?body (F.args_dict_iter_1 _))
 case body =>
  show wpAny _ _ (Builtin.Dict.dictSlotNone _ _ >>= _) _ _ s
  refine wpAny_bind (show wpAny _ _ (Builtin.Dict.dictSlotNone _ _) _ _ s from ?_)
  unfold Builtin.Dict.dictSlotNone
  refine wpAny_bind (wpAny_notOrdered_dict ty (show wpAny _ _ (pure (Value.ref d)) _ _ s from wpAny_pure ?_))
  refine wpAny_bind (wpAny_pure (show wpAny _ _ (Builtin.Dict.showsAll d >>= _) _ _ s from ?_))
  unfold Builtin.Dict.showsAll
  rw [if_neg (by rw [lo]; simp)]
  refine wpAny_bind (wpAny_pure (wpAny_bind (wpAny_dictEntries e dt (wpAny_bind (wpAny_dictEpoch e dt ?_)))))
  refine wpAny_bind (wpAny_newObj_type (wpAny_pure ⟨_,rfl,"dict_keyiterator",_,⟨_,Heap.get?_push_size _ rfl,rfl⟩,F.slot_dict_keyiterator_next.lookup,?_⟩))
  simpa [rawInt] using q
theorem ea_item (hit:s.heap.IsKeyIter it d i es.size ep) (h:EA s.heap d es ep) (hi:i < es.size) {Q:Option Value -> Shared -> Prop}
  (q:∀ h',h'.IsKeyIter it d (i + 1) es.size ep -> Heap.SameBut it s.heap h' -> Q (some es[i].key) { s with heap:=h' }):wpAny (model prog w) A (pyNext (.ref it)) Q E s:=by
 have ty:=hit.typeIs
 obtain ⟨o,e,c,dt⟩:=id hit
 obtain ⟨o2,e2,_,dt2⟩:=h
 unfold pyNext
 refine wpAny_bind (wpAny_attempt (wpAny_callSpecial?_slot (name:=Str.ofString "__next__") ty F.slot_dict_keyiterator_next (wpAny_call_entry F.slot_dict_keyiterator_next ty F.entry_dict_keyiterator_next ?body (F.args_dict_keyiterator_next_1 _))))
 case body =>
  refine wpAny_bind (wpAny_pure (wpAny_bind (wpAny_bind ?_)))
  refine wpAny_bind (wpAny_typeNameOfWhole_keyiter ty (wpAny_pure (wpAny_bind (wpAny_fieldsOf e dt ?_))))
  have own:Builtin.Dict_items.ownsTuple "dict_keyiterator" = false:=by decide
  simp only [own,Bool.false_eq_true,if_false]
  show wpAny _ _ (if (Value.ref d == Value.none) = true then _ else _) _ _ s
  rw [if_neg (show ¬ ((Value.ref d == Value.none) = true) from Bool.false_ne_true)]
  refine wpAny_bind (wpAny_pure (wpAny_bind (wpAny_dictEntries e2 dt2 ?_)))
  rw [if_neg (by simp)]
  refine wpAny_bind (wpAny_pure (wpAny_bind (wpAny_dictEpoch e2 dt2 ?_)))
  rw [if_neg (by simp)]
  refine wpAny_pure ?_
  simp only [show ¬ ((i:Int) < 0) from by omega,if_false,Int.toNat_natCast,Array.getElem?_eq_getElem hi]
  refine wpAny_bind (wpAny_bind (wpAny_typeNameOfWhole_keyiter ty (wpAny_pure ?_)))
  refine wpAny_bind (wpAny_isOneOf_keyiter ty ?_)
  show wpAny _ _ (setField (.ref it) 1 (rawInt ((i:Int) + 1)) >>= _) _ _ s
  refine wpAny_bind (wpAny_setField e dt (by simp) ?_)
  have hit2:(s.heap.update it (Obj.mapFields (·.setIfInBounds 1 (rawInt ((i:Int) + 1))))).IsKeyIter it d (i + 1) es.size ep :=
   ⟨_,Heap.get?_update_self _ e (Obj.isFreed_of_fields (Obj.data_mapFields dt _)),(Obj.cls_mapFields ..).trans c,by rw [Obj.data_mapFields dt]; simp [rawInt]⟩
  refine wpAny_bind (wpAny_holding (wpAny_bind (wpAny_isOneOf_keyiter (s:={ s with heap:=s.heap.update it (Obj.mapFields (·.setIfInBounds 1 (rawInt ((i:Int) + 1)))) }) hit2.typeIs ?_)))
  exact wpAny_pure (wpAny_pure ⟨_,rfl,wpAny_pure (q _ hit2 (Heap.SameBut.update ..))⟩)
theorem ea_end (hh:A.handled = none) (hit:s.heap.IsKeyIter it d es.size es.size ep) (h:EA s.heap d es ep) {Q:Option Value -> Shared -> Prop}
  (q:∀ h',Heap.ExtBut it s.heap h' -> Q none { s with heap:=h' }):wpAny (model prog w) A (pyNext (.ref it)) Q E s:=by
 have ty:=hit.typeIs
 obtain ⟨o,e,c,dt⟩:=id hit
 obtain ⟨o2,e2,_,dt2⟩:=h
 unfold pyNext
 refine wpAny_bind (wpAny_attempt (wpAny_callSpecial?_slot (name:=Str.ofString "__next__") ty F.slot_dict_keyiterator_next (wpAny_call_entry F.slot_dict_keyiterator_next ty F.entry_dict_keyiterator_next ?body (F.args_dict_keyiterator_next_1 _))))
 case body =>
  refine wpAny_bind (wpAny_pure (wpAny_bind (wpAny_bind ?_)))
  refine wpAny_bind (wpAny_typeNameOfWhole_keyiter ty (wpAny_pure (wpAny_bind (wpAny_fieldsOf e dt ?_))))
  have own:Builtin.Dict_items.ownsTuple "dict_keyiterator" = false:=by decide
  simp only [own,Bool.false_eq_true,if_false]
  show wpAny _ _ (if (Value.ref d == Value.none) = true then _ else _) _ _ s
  rw [if_neg (show ¬ ((Value.ref d == Value.none) = true) from Bool.false_ne_true)]
  refine wpAny_bind (wpAny_pure (wpAny_bind (wpAny_dictEntries e2 dt2 ?_)))
  rw [if_neg (by simp)]
  refine wpAny_bind (wpAny_pure (wpAny_bind (wpAny_dictEpoch e2 dt2 ?_)))
  rw [if_neg (by simp)]
  refine wpAny_pure ?_
  simp only [show ¬ ((es.size:Int) < 0) from by omega,if_false,Int.toNat_natCast,Array.getElem?_eq_none (Nat.le_refl es.size)]
  refine wpAny_bind (wpAny_bind (wpAny_typeNameOfWhole_keyiter ty (wpAny_pure ?_)))
  show wpAny _ _ (setField (.ref it) 0 .none >>= _) _ _ s
  refine wpAny_bind (wpAny_setField e dt (by simp) ?_)
  show wpAny _ _ (newExc (.type "StopIteration") [] >>= _) _ _ _
  refine wpAny_bind ?_
  simp only [newExc,newTuple]
  refine wpAny_bind (wpAny_newObj_type ?_ (by size_fits))
  refine wpAny_bind (m:=firstArgMember _ _) (wpAny_of_eq (a:=Value.none) rfl ?_)
  refine wpAny_newObj_type ?_ (by size_fits)
  simp only [raiseNew]
  refine wpAny_bind (wpAny_handled ?_)
  rw [show A.in1.handled = none from hh]
  refine wpAny_bind (wpAny_pure (wpAny_throw ?_))
  refine wpAny_bind (wpAny_isInstance (T := "StopIteration") (b:=true) ⟨_,Heap.get?_push_size _ rfl,rfl⟩ isSubtype_stop ?_)
  exact wpAny_pure (q _ (((Heap.SameBut.update ..).extBut.push _).push _))
theorem EA.to {h h':Heap} (x:EA h d es ep) (k:∀ o,h.get? d = some o -> h'.get? d = some o):EA h' d es ep:=let ⟨o,e,r⟩:=x; ⟨o,k o e,r⟩
theorem ea_walks (hh:A.handled = none) (I d:Addr) (hne:d ≠ I) (es:Array DictEntry) (ep:Nat) :
  Walks prog w A I [I,d] [I] es.size (fun i v => ∃ h:i < es.size,v = es[i].key) (fun i h => h.IsKeyIter I d i es.size ep /\ EA h d es ep) where
 sub:=fun b hb => by simp at hb; simp [hb]
 frame:=fun _ _ _ st hk => ⟨let ⟨o,e,r⟩:=st.1; ⟨o,hk I (by simp) o e,r⟩,st.2.to fun o e => hk d (by simp) o e⟩
 item:=fun i s Q E hi st hQ => ea_item st.1 st.2 hi fun h' k1 k2 => hQ _ h' s.toks ⟨hi,rfl⟩ ⟨k1,st.2.to fun o e => k2.extBut d o hne e⟩ fun b o hb e => k2.extBut b o (fun h => hb (by simp [h])) e
 done:=fun s Q E st hQ => ea_end hh st.1 st.2 fun h' k => hQ h' s.toks fun b o hb e => k b o (fun h => hb (by simp [h])) e
 self:=fun _ _ _ _ st hQ => wpAny_pyIter_keyiter st.1 hQ
theorem ea_src (lo:(d == sysModules) = false):PySem.W.KdlSrc prog w "dict" d d es.size (fun i v => ∃ h:i < es.size,v = es[i].key) (fun h => EA h d es ep) where
 type:=fun s hm => EA.ty hm
 there:=fun _ hm => let ⟨_,e,_⟩:=hm; ⟨Heap.lt_size e,Heap.lt_size e⟩
 keep:=fun _ _ hm hk => hm.to fun o e => hk d (.inl rfl) o e
 notList:=by decide
 notTuple:=by decide
 hint:=fun _ _ _ _ hm hq => PySem.W.kdl_hint_dict (EA.ty hm) hq
 iter:=fun A s hh hm => ⟨_,_,(fun _ _ hq => ea_iter lo hm hq),ea_walks hh _ d (Nat.ne_of_lt (let ⟨_,e,_⟩:=hm; Heap.lt_size e)) es ep,⟨⟨_,Heap.get?_push_size _ rfl,rfl,rfl⟩,hm.to fun o e => Heap.get?_push_of_some _ e⟩⟩
end
end L2.So
namespace L2
open PySem PySem.Spec PyProof.Rows
section
variable {X:Cx}
theorem paired_get {α β:Type} {R:α -> β -> Prop}:∀ {xs:List α} {ys:List β},Paired R xs ys -> xs.length = ys.length /\ ∀ (i:Nat) x y,xs[i]? = some x -> ys[i]? = some y -> R x y
 | _,_,.nil => ⟨rfl,fun i x y h => by simp at h⟩
 | _,_,.cons h r => by
  obtain ⟨l,g⟩:=paired_get r
  refine ⟨by rw [List.length_cons,List.length_cons,l],fun i x y h1 h2 => ?_⟩
  cases i with
  | zero => cases h1; cases h2; exact h
  | succ i => exact g i x y h1 h2
theorem call_list_dT (hc:X.calm = true):CallR X (.type "list") (fun xs H Q => ∃ (p:Addr) (kvs:List (List Key × V)),xs = [.ref p] /\ H p = some (.dT kvs) /\ ∀ l (as:List Addr),H l = none -> as.length = kvs.length -> (kvs.map (·.1)).Nodup -> (∀ (i:Nat) k v a,kvs[i]? = some (k,v) -> as[i]? = some a -> H a = some (.tup (k.map kV))) -> Q (.ref l) (upd H l (.lst (as.map V.ref)))):=by
 intro pins s σ H xs us Q I r h
 obtain ⟨p,kvs,rfl,hp,q⟩:=h
 obtain ⟨u,rfl,ru⟩:=vals1 r
 cases (show u = Value.ref p from ru)
 obtain ⟨z,lo,zs,pr,o,es,ep,g1,g2,g3,g4,g5⟩:=(show ObjOk X.prog X.w H s.heap p (.dT kvs) from I.hok p _ hp)
 obtain ⟨len,get⟩:=paired_get pr
 have sz:es.size = kvs.length:=by rw [<- Array.length_toList,g4,List.length_map,len]
 refine PySem.W.kdl_call (So.ea_src (es:=es) (ep:=ep) lo) (I.ok.hd hc) ⟨o,g1,g2,g3⟩ (by rw [sz]; exact z) fun h' tk acc c hk hS hi => ?_
 have key:∀ (i:Nat) (h:i < es.size) y,zs[i]? = some y -> es[i].key = .ref y.2.1:=fun i h y hy => by
  have e:es.toList[i]? = some es[i]:=by rw [Array.getElem?_toList,Array.getElem?_eq_getElem h]
  rw [g4,List.getElem?_map,hy] at e
  rw [<- Option.some.inj e]
  rfl
 refine ⟨.ref s.heap.objs.size,_,I.laid hk (Nat.le_refl _) (show ObjOk X.prog X.w _ h' _ (.lst ((zs.map (·.2.1)).map V.ref)) from ⟨?_,acc.toList,c,?_,by rw [Array.toArray_toList]; exact hS⟩),rfl,q _ (zs.map (·.2.1)) (I.hok.fresh (Nat.le_refl _)) (by rw [List.length_map,len]) ?_ fun i k v a h1 h2 => ?_⟩
 ·rw [List.length_map,List.length_map,<- len]; exact z
 ·refine vals_of_items (P:=fun i v => ∃ h:i < es.size,v = es[i].key) (by rw [List.length_map,List.length_map,Array.length_toList,hi.1,sz,len]) (fun i v e => hi.2 i v (by simpa using e)) (fun i v x ⟨h,e1⟩ ex => ?_)
  rw [List.getElem?_map,List.getElem?_map] at ex
  cases hy:zs[i]? with
  | none => rw [hy] at ex; cases ex
  | some y =>
   rw [hy] at ex
   cases ex
   rw [e1,key i h y hy]
   exact rfl
 ·have e:kvs.map (·.1) = zs.map (·.1):=List.ext_getElem? fun i => by
   rw [List.getElem?_map,List.getElem?_map]
   cases h1:kvs[i]? with
   | none => rw [List.getElem?_eq_none (by rw [<- len]; exact List.getElem?_eq_none_iff.mp h1)]; rfl
   | some x =>
    have hl:=(List.getElem?_eq_some_iff.mp h1).1
    have h2:=List.getElem?_eq_getElem (l:=zs) (i:=i) (by rw [<- len]; exact hl)
    rw [h2]
    exact congrArg some (get i _ _ h1 h2).1
  rw [e]
  exact g5
 ·rw [List.getElem?_map] at h2
  obtain ⟨y,hy,rfl⟩:=Option.map_eq_some_iff.mp h2
  exact (get i _ y h1 hy).2.1
end
end L2
set_option Elab.async false
set_option linter.all false
set_option maxRecDepth 100000
set_option maxHeartbeats 4000000
namespace P
open PySem L2
def top (i:Nat):Stmt:=PySem.Challenge.pw_lazyrails_k49_yards_written.main.body.getD i (.Pass ⟨0,0,0,0⟩)
abbrev s_law:Stmt:=top 59
abbrev s_draws:Stmt:=top 38
abbrev s_Ju:Stmt:=top 57
abbrev s_set:Stmt:=top 53
abbrev s_built:Stmt:=top 47
abbrev s_kind:Stmt:=top 44
abbrev s_kinds:Stmt:=top 43
abbrev s_many:Stmt:=top 45
abbrev s_J31:Stmt:=top 49
abbrev s_ends:Stmt:=top 48
abbrev s_J41:Stmt:=top 50
abbrev s_size:Stmt:=top 52
abbrev s_links:Stmt:=top 54
abbrev s_run:Stmt:=top 36
abbrev s_Jk:Stmt:=top 35
abbrev s_J01:Stmt:=top 26
abbrev s_Jl:Stmt:=top 23
abbrev s_J11:Stmt:=top 21
abbrev s_Jv:Stmt:=top 22
abbrev s_J9:Stmt:=top 24
abbrev s_J5:Stmt:=top 27
abbrev s_walk:Stmt:=top 51
abbrev s_J21:Stmt:=top 46
abbrev s_look:Stmt:=top 58
abbrev s_Ja:Stmt:=top 31
abbrev s_Jb:Stmt:=top 15
abbrev s_Jc:Stmt:=top 33
abbrev s_Jd:Stmt:=top 32
abbrev s_Je:Stmt:=top 56
abbrev s_line:Stmt:=top 55
abbrev s_is:Stmt:=top 40
abbrev s_whole:Stmt:=top 39
abbrev s_Jf:Stmt:=top 25
abbrev s_Jm:Stmt:=inClass (top 29) 0
abbrev s_Jg:Stmt:=inClass (top 29) 21
abbrev s_Jn:Stmt:=inClass (top 29) 3
abbrev s_J0:Stmt:=inClass (top 29) 23
abbrev s_J2:Stmt:=inClass (top 29) 22
abbrev s_Jw:Stmt:=inClass (top 29) 8
abbrev s_Jx:Stmt:=inClass (top 29) 1
abbrev s_J3:Stmt:=inClass (top 29) 24
abbrev s_J6:Stmt:=inClass (top 29) 2
abbrev s_Jy:Stmt:=inClass (top 29) 7
abbrev s_J1:Stmt:=inClass (top 29) 25
abbrev s_Jo:Stmt:=inClass (top 29) 4
abbrev s_Jh:Stmt:=inClass (top 29) 6
abbrev s_Ji:Stmt:=inClass (top 29) 9
abbrev s_J7:Stmt:=inClass (top 29) 19
abbrev s_Jp:Stmt:=inClass (top 29) 14
abbrev s_Jq:Stmt:=inClass (top 29) 18
abbrev s_Jr:Stmt:=inClass (top 29) 17
abbrev s_Jz:Stmt:=inClass (top 29) 16
abbrev s_J8:Stmt:=inClass (top 29) 12
abbrev s_Js:Stmt:=inClass (top 29) 13
abbrev s_Jj:Stmt:=inClass (top 29) 20
abbrev s_Jt:Stmt:=inClass (top 29) 15
set_option genInjectivity false in
set_option genSizeOf false in
structure Adr where
 f_law:Addr
 d_law:FuncData
 v_law:Value
 f_draws:Addr
 d_draws:FuncData
 v_draws:Value
 f_Ju:Addr
 d_Ju:FuncData
 v_Ju:Value
 f_set:Addr
 d_set:FuncData
 v_set:Value
 f_built:Addr
 d_built:FuncData
 v_built:Value
 f_kind:Addr
 d_kind:FuncData
 v_kind:Value
 f_kinds:Addr
 d_kinds:FuncData
 v_kinds:Value
 f_many:Addr
 d_many:FuncData
 v_many:Value
 f_J31:Addr
 d_J31:FuncData
 v_J31:Value
 f_ends:Addr
 d_ends:FuncData
 v_ends:Value
 f_J41:Addr
 d_J41:FuncData
 v_J41:Value
 f_size:Addr
 d_size:FuncData
 v_size:Value
 f_links:Addr
 d_links:FuncData
 v_links:Value
 f_run:Addr
 d_run:FuncData
 v_run:Value
 f_Jk:Addr
 d_Jk:FuncData
 v_Jk:Value
 f_J01:Addr
 d_J01:FuncData
 v_J01:Value
 f_Jl:Addr
 d_Jl:FuncData
 v_Jl:Value
 f_J11:Addr
 d_J11:FuncData
 v_J11:Value
 f_Jv:Addr
 d_Jv:FuncData
 v_Jv:Value
 f_J9:Addr
 d_J9:FuncData
 v_J9:Value
 f_J5:Addr
 d_J5:FuncData
 v_J5:Value
 f_walk:Addr
 d_walk:FuncData
 v_walk:Value
 f_J21:Addr
 d_J21:FuncData
 v_J21:Value
 f_look:Addr
 d_look:FuncData
 v_look:Value
 f_Ja:Addr
 d_Ja:FuncData
 v_Ja:Value
 f_Jb:Addr
 d_Jb:FuncData
 v_Jb:Value
 f_Jc:Addr
 d_Jc:FuncData
 v_Jc:Value
 f_Jd:Addr
 d_Jd:FuncData
 v_Jd:Value
 f_Je:Addr
 d_Je:FuncData
 v_Je:Value
 f_line:Addr
 d_line:FuncData
 v_line:Value
 f_is:Addr
 d_is:FuncData
 v_is:Value
 f_whole:Addr
 d_whole:FuncData
 v_whole:Value
 f_Jf:Addr
 d_Jf:FuncData
 v_Jf:Value
 f_Jm:Addr
 d_Jm:FuncData
 v_Jm:Value
 f_Jg:Addr
 d_Jg:FuncData
 v_Jg:Value
 f_Jn:Addr
 d_Jn:FuncData
 v_Jn:Value
 f_J0:Addr
 d_J0:FuncData
 v_J0:Value
 f_J2:Addr
 d_J2:FuncData
 v_J2:Value
 f_Jw:Addr
 d_Jw:FuncData
 v_Jw:Value
 f_Jx:Addr
 d_Jx:FuncData
 v_Jx:Value
 f_J3:Addr
 d_J3:FuncData
 v_J3:Value
 f_J6:Addr
 d_J6:FuncData
 v_J6:Value
 f_Jy:Addr
 d_Jy:FuncData
 v_Jy:Value
 f_J1:Addr
 d_J1:FuncData
 v_J1:Value
 f_Jo:Addr
 d_Jo:FuncData
 v_Jo:Value
 f_Jh:Addr
 d_Jh:FuncData
 v_Jh:Value
 f_Ji:Addr
 d_Ji:FuncData
 v_Ji:Value
 f_J7:Addr
 d_J7:FuncData
 v_J7:Value
 f_Jp:Addr
 d_Jp:FuncData
 v_Jp:Value
 f_Jq:Addr
 d_Jq:FuncData
 v_Jq:Value
 f_Jr:Addr
 d_Jr:FuncData
 v_Jr:Value
 f_Jz:Addr
 d_Jz:FuncData
 v_Jz:Value
 f_J8:Addr
 d_J8:FuncData
 v_J8:Value
 f_Js:Addr
 d_Js:FuncData
 v_Js:Value
 f_Jj:Addr
 d_Jj:FuncData
 v_Jj:Value
 f_Jt:Addr
 d_Jt:FuncData
 v_Jt:Value
 c_Yard:Addr
 u_ENDS:Value
 u_LAST_NOTE:Value
 u_POINTS:Value
 u_STEM:Value
structure Txt (K:PySem.W.Frag) (mg:Str -> Option Value) (t:Adr):Prop where
 F_law:FunG K "law" "law" s_law t.v_law t.f_law t.d_law
 F_draws:FunG K "_law_draws" "_law_draws" s_draws t.v_draws t.f_draws t.d_draws
 F_Ju:FunG K "_law_text_set" "_law_text_set" s_Ju t.v_Ju t.f_Ju t.d_Ju
 F_set:FunG K "_law_set" "_law_set" s_set t.v_set t.f_set t.d_set
 F_built:FunG K "_law_built" "_law_built" s_built t.v_built t.f_built t.d_built
 F_kind:FunG K "_law_kind" "_law_kind" s_kind t.v_kind t.f_kind t.d_kind
 F_kinds:FunG K "_law_kinds" "_law_kinds" s_kinds t.v_kinds t.f_kinds t.d_kinds
 F_many:FunG K "_law_many" "_law_many" s_many t.v_many t.f_many t.d_many
 F_J31:FunG K "_law_linked" "_law_linked" s_J31 t.v_J31 t.f_J31 t.d_J31
 F_ends:FunG K "_law_ends" "_law_ends" s_ends t.v_ends t.f_ends t.d_ends
 F_J41:FunG K "_law_thrown" "_law_thrown" s_J41 t.v_J41 t.f_J41 t.d_J41
 F_size:FunG K "_law_size" "_law_size" s_size t.v_size t.f_size t.d_size
 F_links:FunG K "_law_links" "_law_links" s_links t.v_links t.f_links t.d_links
 F_run:FunG K "run" "run" s_run t.v_run t.f_run t.d_run
 F_Jk:FunG K "next_step" "next_step" s_Jk t.v_Jk t.f_Jk t.d_Jk
 F_J01:FunG K "passage" "passage" s_J01 t.v_J01 t.f_J01 t.d_J01
 F_Jl:FunG K "check_end" "check_end" s_Jl t.v_Jl t.f_Jl t.d_Jl
 F_J11:FunG K "ends_of" "ends_of" s_J11 t.v_J11 t.f_J11 t.d_J11
 F_Jv:FunG K "is_point" "is_point" s_Jv t.v_Jv t.f_Jv t.d_Jv
 F_J9:FunG K "check_side" "check_side" s_J9 t.v_J9 t.f_J9 t.d_J9
 F_J5:FunG K "point_passage" "point_passage" s_J5 t.v_J5 t.f_J5 t.d_J5
 F_walk:FunG K "_law_walk" "_law_walk" s_walk t.v_walk t.f_walk t.d_walk
 F_J21:FunG K "_law_passing" "_law_passing" s_J21 t.v_J21 t.f_J21 t.d_J21
 F_look:FunG K "_law_look" "_law_look" s_look t.v_look t.f_look t.d_look
 F_Ja:FunG K "write_yard" "write_yard" s_Ja t.v_Ja t.f_Ja t.d_Ja
 F_Jb:FunG K "write_line" "write_line" s_Jb t.v_Jb t.f_Jb t.d_Jb
 F_Jc:FunG K "link_lines" "link_lines" s_Jc t.v_Jc t.f_Jc t.d_Jc
 F_Jd:FunG K "piece_line" "piece_line" s_Jd t.v_Jd t.f_Jd t.d_Jd
 F_Je:FunG K "_law_yard_lines" "_law_yard_lines" s_Je t.v_Je t.f_Je t.d_Je
 F_line:FunG K "_law_line" "_law_line" s_line t.v_line t.f_line t.d_line
 F_is:FunG K "_law_is" "_law_is" s_is t.v_is t.f_is t.d_is
 F_whole:FunG K "_law_whole" "_law_whole" s_whole t.v_whole t.f_whole t.d_whole
 F_Jf:FunG K "check_note" "check_note" s_Jf t.v_Jf t.f_Jf t.d_Jf
 F_Jm:FunG K "__init__" "Yard.__init__" s_Jm t.v_Jm t.f_Jm t.d_Jm
 F_Jg:FunG K "steps" "Yard.steps" s_Jg t.v_Jg t.f_Jg t.d_Jg
 F_Jn:FunG K "lift" "Yard.lift" s_Jn t.v_Jn t.f_Jn t.d_Jn
 F_J0:FunG K "check_piece" "Yard.check_piece" s_J0 t.v_J0 t.f_J0 t.d_J0
 F_J2:FunG K "end_trail" "Yard.end_trail" s_J2 t.v_J2 t.f_J2 t.d_J2
 F_Jw:FunG K "off" "Yard.off" s_Jw t.v_Jw t.f_Jw t.d_Jw
 F_Jx:FunG K "lay" "Yard.lay" s_Jx t.v_Jx t.f_Jx t.d_Jx
 F_J3:FunG K "check_rod" "Yard.check_rod" s_J3 t.v_J3 t.f_J3 t.d_J3
 F_J6:FunG K "new_rod" "Yard.new_rod" s_J6 t.v_J6 t.f_J6 t.d_J6
 F_Jy:FunG K "put" "Yard.put" s_Jy t.v_Jy t.f_Jy t.d_Jy
 F_J1:FunG K "check_there" "Yard.check_there" s_J1 t.v_J1 t.f_J1 t.d_J1
 F_Jo:FunG K "link" "Yard.link" s_Jo t.v_Jo t.f_Jo t.d_Jo
 F_Jh:FunG K "throw" "Yard.throw" s_Jh t.v_Jh t.f_Jh t.d_Jh
 F_Ji:FunG K "carry" "Yard.carry" s_Ji t.v_Ji t.f_Ji t.d_Ji
 F_J7:FunG K "engine" "Yard.engine" s_J7 t.v_J7 t.f_J7 t.d_J7
 F_Jp:FunG K "kind" "Yard.kind" s_Jp t.v_Jp t.f_Jp t.d_Jp
 F_Jq:FunG K "mate" "Yard.mate" s_Jq t.v_Jq t.f_Jq t.d_Jq
 F_Jr:FunG K "side" "Yard.side" s_Jr t.v_Jr t.f_Jr t.d_Jr
 F_Jz:FunG K "rod" "Yard.rod" s_Jz t.v_Jz t.f_Jz t.d_Jz
 F_J8:FunG K "pieces" "Yard.pieces" s_J8 t.v_J8 t.f_J8 t.d_J8
 F_Js:FunG K "rods" "Yard.rods" s_Js t.v_Js t.f_Js t.d_Js
 F_Jj:FunG K "bells" "Yard.bells" s_Jj t.v_Jj t.f_Jj t.d_Jj
 F_Jt:FunG K "note" "Yard.note" s_Jt t.v_Jt t.f_Jt t.d_Jt
 m_law:mg "law" = some (.ref t.f_law)
 e_law:t.v_law = .none
 m_draws:mg "_law_draws" = some (.ref t.f_draws)
 e_draws:t.v_draws = .none
 m_Ju:mg "_law_text_set" = some (.ref t.f_Ju)
 e_Ju:t.v_Ju = .none
 m_set:mg "_law_set" = some (.ref t.f_set)
 e_set:t.v_set = .none
 m_built:mg "_law_built" = some (.ref t.f_built)
 e_built:t.v_built = .none
 m_kind:mg "_law_kind" = some (.ref t.f_kind)
 e_kind:t.v_kind = .none
 m_kinds:mg "_law_kinds" = some (.ref t.f_kinds)
 e_kinds:t.v_kinds = .none
 m_many:mg "_law_many" = some (.ref t.f_many)
 e_many:t.v_many = .none
 m_J31:mg "_law_linked" = some (.ref t.f_J31)
 e_J31:t.v_J31 = .none
 m_ends:mg "_law_ends" = some (.ref t.f_ends)
 e_ends:t.v_ends = .none
 m_J41:mg "_law_thrown" = some (.ref t.f_J41)
 e_J41:t.v_J41 = .none
 m_size:mg "_law_size" = some (.ref t.f_size)
 e_size:t.v_size = .none
 m_links:mg "_law_links" = some (.ref t.f_links)
 e_links:t.v_links = .none
 m_run:mg "run" = some (.ref t.f_run)
 e_run:t.v_run = .none
 m_Jk:mg "next_step" = some (.ref t.f_Jk)
 e_Jk:t.v_Jk = .none
 m_J01:mg "passage" = some (.ref t.f_J01)
 e_J01:t.v_J01 = .none
 m_Jl:mg "check_end" = some (.ref t.f_Jl)
 e_Jl:t.v_Jl = .none
 m_J11:mg "ends_of" = some (.ref t.f_J11)
 e_J11:t.v_J11 = .none
 m_Jv:mg "is_point" = some (.ref t.f_Jv)
 e_Jv:t.v_Jv = .none
 m_J9:mg "check_side" = some (.ref t.f_J9)
 e_J9:t.v_J9 = .none
 m_J5:mg "point_passage" = some (.ref t.f_J5)
 e_J5:t.v_J5 = .none
 m_walk:mg "_law_walk" = some (.ref t.f_walk)
 e_walk:t.v_walk = .none
 m_J21:mg "_law_passing" = some (.ref t.f_J21)
 e_J21:t.v_J21 = .none
 m_look:mg "_law_look" = some (.ref t.f_look)
 e_look:t.v_look = .none
 m_Ja:mg "write_yard" = some (.ref t.f_Ja)
 e_Ja:t.v_Ja = .none
 m_Jb:mg "write_line" = some (.ref t.f_Jb)
 e_Jb:t.v_Jb = .none
 m_Jc:mg "link_lines" = some (.ref t.f_Jc)
 e_Jc:t.v_Jc = .none
 m_Jd:mg "piece_line" = some (.ref t.f_Jd)
 e_Jd:t.v_Jd = .none
 m_Je:mg "_law_yard_lines" = some (.ref t.f_Je)
 e_Je:t.v_Je = .none
 m_line:mg "_law_line" = some (.ref t.f_line)
 e_line:t.v_line = .none
 m_is:mg "_law_is" = some (.ref t.f_is)
 e_is:t.v_is = .none
 m_whole:mg "_law_whole" = some (.ref t.f_whole)
 e_whole:t.v_whole = .none
 m_Jf:mg "check_note" = some (.ref t.f_Jf)
 e_Jf:t.v_Jf = .none
 e_Jm:t.v_Jm = .none
 M_Jg:Meth K t.c_Yard "steps" t.f_Jg
 e_Jg:t.v_Jg = .none
 M_Jn:Meth K t.c_Yard "lift" t.f_Jn
 e_Jn:t.v_Jn = .none
 M_J0:Meth K t.c_Yard "check_piece" t.f_J0
 e_J0:t.v_J0 = .none
 M_J2:Meth K t.c_Yard "end_trail" t.f_J2
 e_J2:t.v_J2 = .none
 M_Jw:Meth K t.c_Yard "off" t.f_Jw
 e_Jw:t.v_Jw = .none
 M_Jx:Meth K t.c_Yard "lay" t.f_Jx
 D_Jx:∃ (T:Addr) (od:Option Addr) (n:Nat) (sl:Array (Option Value)) (tk0:Tok),t.v_Jx = .ref T /\ K.lookup T = some ⟨.type "tuple",od,.seq #[.int 0 tk0,.none] n,sl⟩
 M_J3:Meth K t.c_Yard "check_rod" t.f_J3
 e_J3:t.v_J3 = .none
 M_J6:Meth K t.c_Yard "new_rod" t.f_J6
 D_J6:∃ (T:Addr) (od:Option Addr) (n:Nat) (sl:Array (Option Value)) (tk0:Tok),t.v_J6 = .ref T /\ K.lookup T = some ⟨.type "tuple",od,.seq #[.int 1 tk0] n,sl⟩
 M_Jy:Meth K t.c_Yard "put" t.f_Jy
 e_Jy:t.v_Jy = .none
 M_J1:Meth K t.c_Yard "check_there" t.f_J1
 e_J1:t.v_J1 = .none
 M_Jo:Meth K t.c_Yard "link" t.f_Jo
 e_Jo:t.v_Jo = .none
 M_Jh:Meth K t.c_Yard "throw" t.f_Jh
 e_Jh:t.v_Jh = .none
 M_Ji:Meth K t.c_Yard "carry" t.f_Ji
 e_Ji:t.v_Ji = .none
 M_J7:Meth K t.c_Yard "engine" t.f_J7
 e_J7:t.v_J7 = .none
 M_Jp:Meth K t.c_Yard "kind" t.f_Jp
 e_Jp:t.v_Jp = .none
 M_Jq:Meth K t.c_Yard "mate" t.f_Jq
 e_Jq:t.v_Jq = .none
 M_Jr:Meth K t.c_Yard "side" t.f_Jr
 e_Jr:t.v_Jr = .none
 M_Jz:Meth K t.c_Yard "rod" t.f_Jz
 e_Jz:t.v_Jz = .none
 M_J8:Meth K t.c_Yard "pieces" t.f_J8
 e_J8:t.v_J8 = .none
 M_Js:Meth K t.c_Yard "rods" t.f_Js
 e_Js:t.v_Js = .none
 M_Jj:Meth K t.c_Yard "bells" t.f_Jj
 e_Jj:t.v_Jj = .none
 M_Jt:Meth K t.c_Yard "note" t.f_Jt
 e_Jt:t.v_Jt = .none
 cl_Yard:Cls K t.c_Yard
 m_Yard:mg "Yard" = some (.ref t.c_Yard)
 mk_Yard:Mk K t.c_Yard t.f_Jm
 n_Yard_next_piece:NoAttr K t.c_Yard "next_piece"
 n_Yard_kinds:NoAttr K t.c_Yard "kinds"
 n_Yard_notes:NoAttr K t.c_Yard "notes"
 n_Js_under:NoAttr K t.c_Yard "rods_under"
 n_Yard_sides:NoAttr K t.c_Yard "sides"
 n_Yard_mates:NoAttr K t.c_Yard "mates"
 n_J7_end:NoAttr K t.c_Yard "engine_end"
 n_Yard_rung:NoAttr K t.c_Yard "rung"
 n_Yard_trail:NoAttr K t.c_Yard "trail"
 z_abs:mg "abs" = none
 z_bool:mg "bool" = none
 z_enumerate:mg "enumerate" = none
 z_int:mg "int" = none
 z_isinstance:mg "isinstance" = none
 z_len:mg "len" = none
 z_list:mg "list" = none
 z_range:mg "range" = none
 z_sorted:mg "sorted" = none
 z_str:mg "str" = none
 g_ENDS:mg "ENDS" = some t.u_ENDS
 x_ENDS:∃ a,t.u_ENDS = .ref a /\ TabK K a [("line",.int 2),("bell",.int 2),("stop",.int 1),("still",.int 3),("lazy",.int 3),("turning",.int 3)]
 g_LAST_NOTE:mg "LAST_NOTE" = some t.u_LAST_NOTE
 r_LAST_NOTE:RelV (.int 9999) t.u_LAST_NOTE
 g_POINTS:mg "POINTS" = some t.u_POINTS
 x_POINTS:∃ (a:Addr) (o:Obj) (its:Array Value) (n:Nat),t.u_POINTS = .ref a /\ K.lookup a = some o /\ o.cls = .type "tuple" /\ o.data = .seq its n /\ its.size <= sizeLine /\ Vals [.str "still",.str "lazy",.str "turning"] its.toList
 g_STEM:mg "STEM" = some t.u_STEM
 r_STEM:RelV (.int 0) t.u_STEM
section
variable {K:PySem.W.Frag} {mg:Str -> Option Value} {t:Adr}
theorem b_draws (T:Txt K mg t):Binds K t.d_draws ["_law_script","_law_many_here"] []:=(T.e_draws ▸ T.F_draws).binds fun _ _ _ _ _ _ us hl => match us,hl with | [_,_],_ => rfl
theorem b_Ju (T:Txt K mg t):Binds K t.d_Ju ["_law_d","_law_at"] []:=(T.e_Ju ▸ T.F_Ju).binds fun _ _ _ _ _ _ us hl => match us,hl with | [_,_],_ => rfl
theorem b_set (T:Txt K mg t):Binds K t.d_set ["_law_d","_law_at"] []:=(T.e_set ▸ T.F_set).binds fun _ _ _ _ _ _ us hl => match us,hl with | [_,_],_ => rfl
theorem b_built (T:Txt K mg t):Binds K t.d_built ["_law_d","_law_at","_law_many_here"] []:=(T.e_built ▸ T.F_built).binds fun _ _ _ _ _ _ us hl => match us,hl with | [_,_,_],_ => rfl
theorem b_kind (T:Txt K mg t):Binds K t.d_kind ["_law_draw"] []:=(T.e_kind ▸ T.F_kind).binds fun _ _ _ _ _ _ us hl => match us,hl with | [_],_ => rfl
theorem b_kinds (T:Txt K mg t):Binds K t.d_kinds [] []:=(T.e_kinds ▸ T.F_kinds).binds fun _ _ _ _ _ _ us hl => match us,hl with | [],_ => rfl
theorem b_many (T:Txt K mg t):Binds K t.d_many ["_law_kind_here"] []:=(T.e_many ▸ T.F_many).binds fun _ _ _ _ _ _ us hl => match us,hl with | [_],_ => rfl
theorem b_J31 (T:Txt K mg t):Binds K t.d_J31 ["_law_yard","_law_kinds_here","_law_d","_law_at","_law_many_here"] []:=(T.e_J31 ▸ T.F_J31).binds fun _ _ _ _ _ _ us hl => match us,hl with | [_,_,_,_,_],_ => rfl
theorem b_ends (T:Txt K mg t):Binds K t.d_ends ["_law_kinds_here"] []:=(T.e_ends ▸ T.F_ends).binds fun _ _ _ _ _ _ us hl => match us,hl with | [_],_ => rfl
theorem b_J41 (T:Txt K mg t):Binds K t.d_J41 ["_law_yard","_law_sides","_law_d","_law_at"] []:=(T.e_J41 ▸ T.F_J41).binds fun _ _ _ _ _ _ us hl => match us,hl with | [_,_,_,_],_ => rfl
theorem b_size (T:Txt K mg t):Binds K t.d_size ["_law_draw"] []:=(T.e_size ▸ T.F_size).binds fun _ _ _ _ _ _ us hl => match us,hl with | [_],_ => rfl
theorem b_links (T:Txt K mg t):Binds K t.d_links ["_law_draw"] []:=(T.e_links ▸ T.F_links).binds fun _ _ _ _ _ _ us hl => match us,hl with | [_],_ => rfl
theorem b_run (T:Txt K mg t):Binds K t.d_run ["yard","most"] []:=(T.e_run ▸ T.F_run).binds fun _ _ _ _ _ _ us hl => match us,hl with | [_,_],_ => rfl
theorem b_Jk (T:Txt K mg t):Binds K t.d_Jk ["yard"] []:=(T.e_Jk ▸ T.F_Jk).binds fun _ _ _ _ _ _ us hl => match us,hl with | [_],_ => rfl
theorem b_J01 (T:Txt K mg t):Binds K t.d_J01 ["kind","end","side"] []:=(T.e_J01 ▸ T.F_J01).binds fun _ _ _ _ _ _ us hl => match us,hl with | [_,_,_],_ => rfl
theorem b_Jl (T:Txt K mg t):Binds K t.d_Jl ["kind","end"] []:=(T.e_Jl ▸ T.F_Jl).binds fun _ _ _ _ _ _ us hl => match us,hl with | [_,_],_ => rfl
theorem b_J11 (T:Txt K mg t):Binds K t.d_J11 ["kind"] []:=(T.e_J11 ▸ T.F_J11).binds fun _ _ _ _ _ _ us hl => match us,hl with | [_],_ => rfl
theorem b_Jv (T:Txt K mg t):Binds K t.d_Jv ["kind"] []:=(T.e_Jv ▸ T.F_Jv).binds fun _ _ _ _ _ _ us hl => match us,hl with | [_],_ => rfl
theorem b_J9 (T:Txt K mg t):Binds K t.d_J9 ["side"] []:=(T.e_J9 ▸ T.F_J9).binds fun _ _ _ _ _ _ us hl => match us,hl with | [_],_ => rfl
theorem b_J5 (T:Txt K mg t):Binds K t.d_J5 ["kind","end","side"] []:=(T.e_J5 ▸ T.F_J5).binds fun _ _ _ _ _ _ us hl => match us,hl with | [_,_,_],_ => rfl
theorem b_walk (T:Txt K mg t):Binds K t.d_walk ["_law_kinds_here","_law_notes","_law_rods","_law_sides","_law_mates","_law_rung","_law_at","_law_most"] []:=(T.e_walk ▸ T.F_walk).binds fun _ _ _ _ _ _ us hl => match us,hl with | [_,_,_,_,_,_,_,_],_ => rfl
theorem b_J21 (T:Txt K mg t):Binds K t.d_J21 ["_law_kind_here","_law_place","_law_side"] []:=(T.e_J21 ▸ T.F_J21).binds fun _ _ _ _ _ _ us hl => match us,hl with | [_,_,_],_ => rfl
theorem b_look (T:Txt K mg t):Binds K t.d_look ["_law_yard"] []:=(T.e_look ▸ T.F_look).binds fun _ _ _ _ _ _ us hl => match us,hl with | [_],_ => rfl
theorem b_Ja (T:Txt K mg t):Binds K t.d_Ja ["yard"] []:=(T.e_Ja ▸ T.F_Ja).binds fun _ _ _ _ _ _ us hl => match us,hl with | [_],_ => rfl
theorem b_Jb (T:Txt K mg t):Binds K t.d_Jb ["word","numbers"] []:=(T.e_Jb ▸ T.F_Jb).binds fun _ _ _ _ _ _ us hl => match us,hl with | [_,_],_ => rfl
theorem b_Jc (T:Txt K mg t):Binds K t.d_Jc ["yard"] []:=(T.e_Jc ▸ T.F_Jc).binds fun _ _ _ _ _ _ us hl => match us,hl with | [_],_ => rfl
theorem b_Jd (T:Txt K mg t):Binds K t.d_Jd ["yard","piece"] []:=(T.e_Jd ▸ T.F_Jd).binds fun _ _ _ _ _ _ us hl => match us,hl with | [_,_],_ => rfl
theorem b_Je (T:Txt K mg t):Binds K t.d_Je ["_law_kinds_here","_law_notes","_law_rods","_law_sides","_law_mates","_law_rung","_law_at","_law_on"] []:=(T.e_Je ▸ T.F_Je).binds fun _ _ _ _ _ _ us hl => match us,hl with | [_,_,_,_,_,_,_,_],_ => rfl
theorem b_line (T:Txt K mg t):Binds K t.d_line ["_law_word","_law_numbers"] []:=(T.e_line ▸ T.F_line).binds fun _ _ _ _ _ _ us hl => match us,hl with | [_,_],_ => rfl
theorem b_is (T:Txt K mg t):Binds K t.d_is ["_law_found","_law_due"] []:=(T.e_is ▸ T.F_is).binds fun _ _ _ _ _ _ us hl => match us,hl with | [_,_],_ => rfl
theorem b_whole (T:Txt K mg t):Binds K t.d_whole ["_law_found"] []:=(T.e_whole ▸ T.F_whole).binds fun _ _ _ _ _ _ us hl => match us,hl with | [_],_ => rfl
theorem b_Jf (T:Txt K mg t):Binds K t.d_Jf ["note"] []:=(T.e_Jf ▸ T.F_Jf).binds fun _ _ _ _ _ _ us hl => match us,hl with | [_],_ => rfl
theorem b_Jm (T:Txt K mg t):Binds K t.d_Jm ["self"] []:=(T.e_Jm ▸ T.F_Jm).binds fun _ _ _ _ _ _ us hl => match us,hl with | [_],_ => rfl
theorem b_Jg (T:Txt K mg t):Binds K t.d_Jg ["self"] []:=(T.e_Jg ▸ T.F_Jg).binds fun _ _ _ _ _ _ us hl => match us,hl with | [_],_ => rfl
theorem b_Jn (T:Txt K mg t):Binds K t.d_Jn ["self","piece"] []:=(T.e_Jn ▸ T.F_Jn).binds fun _ _ _ _ _ _ us hl => match us,hl with | [_,_],_ => rfl
theorem b_J0 (T:Txt K mg t):Binds K t.d_J0 ["self","piece"] []:=(T.e_J0 ▸ T.F_J0).binds fun _ _ _ _ _ _ us hl => match us,hl with | [_,_],_ => rfl
theorem b_J2 (T:Txt K mg t):Binds K t.d_J2 ["self"] []:=(T.e_J2 ▸ T.F_J2).binds fun _ _ _ _ _ _ us hl => match us,hl with | [_],_ => rfl
theorem b_Jw (T:Txt K mg t):Binds K t.d_Jw ["self"] []:=(T.e_Jw ▸ T.F_Jw).binds fun _ _ _ _ _ _ us hl => match us,hl with | [_],_ => rfl
theorem b_J3 (T:Txt K mg t):Binds K t.d_J3 ["self","rod"] []:=(T.e_J3 ▸ T.F_J3).binds fun _ _ _ _ _ _ us hl => match us,hl with | [_,_],_ => rfl
theorem b_Jy (T:Txt K mg t):Binds K t.d_Jy ["self","end"] []:=(T.e_Jy ▸ T.F_Jy).binds fun _ _ _ _ _ _ us hl => match us,hl with | [_,_],_ => rfl
theorem b_J1 (T:Txt K mg t):Binds K t.d_J1 ["self","end"] []:=(T.e_J1 ▸ T.F_J1).binds fun _ _ _ _ _ _ us hl => match us,hl with | [_,_],_ => rfl
theorem b_Jo (T:Txt K mg t):Binds K t.d_Jo ["self","one","other"] []:=(T.e_Jo ▸ T.F_Jo).binds fun _ _ _ _ _ _ us hl => match us,hl with | [_,_,_],_ => rfl
theorem b_Jh (T:Txt K mg t):Binds K t.d_Jh ["self","rod","side"] []:=(T.e_Jh ▸ T.F_Jh).binds fun _ _ _ _ _ _ us hl => match us,hl with | [_,_,_],_ => rfl
theorem b_Ji (T:Txt K mg t):Binds K t.d_Ji ["self","end","side"] []:=(T.e_Ji ▸ T.F_Ji).binds fun _ _ _ _ _ _ us hl => match us,hl with | [_,_,_],_ => rfl
theorem b_J7 (T:Txt K mg t):Binds K t.d_J7 ["self"] []:=(T.e_J7 ▸ T.F_J7).binds fun _ _ _ _ _ _ us hl => match us,hl with | [_],_ => rfl
theorem b_Jp (T:Txt K mg t):Binds K t.d_Jp ["self","piece"] []:=(T.e_Jp ▸ T.F_Jp).binds fun _ _ _ _ _ _ us hl => match us,hl with | [_,_],_ => rfl
theorem b_Jq (T:Txt K mg t):Binds K t.d_Jq ["self","end"] []:=(T.e_Jq ▸ T.F_Jq).binds fun _ _ _ _ _ _ us hl => match us,hl with | [_,_],_ => rfl
theorem b_Jr (T:Txt K mg t):Binds K t.d_Jr ["self","rod"] []:=(T.e_Jr ▸ T.F_Jr).binds fun _ _ _ _ _ _ us hl => match us,hl with | [_,_],_ => rfl
theorem b_Jz (T:Txt K mg t):Binds K t.d_Jz ["self","piece"] []:=(T.e_Jz ▸ T.F_Jz).binds fun _ _ _ _ _ _ us hl => match us,hl with | [_,_],_ => rfl
theorem b_J8 (T:Txt K mg t):Binds K t.d_J8 ["self"] []:=(T.e_J8 ▸ T.F_J8).binds fun _ _ _ _ _ _ us hl => match us,hl with | [_],_ => rfl
theorem b_Js (T:Txt K mg t):Binds K t.d_Js ["self"] []:=(T.e_Js ▸ T.F_Js).binds fun _ _ _ _ _ _ us hl => match us,hl with | [_],_ => rfl
theorem b_Jj (T:Txt K mg t):Binds K t.d_Jj ["self"] []:=(T.e_Jj ▸ T.F_Jj).binds fun _ _ _ _ _ _ us hl => match us,hl with | [_],_ => rfl
theorem b_Jt (T:Txt K mg t):Binds K t.d_Jt ["self","piece"] []:=(T.e_Jt ▸ T.F_Jt).binds fun _ _ _ _ _ _ us hl => match us,hl with | [_,_],_ => rfl
theorem bD_Jx_4 (T:Txt K mg t):∃ ds:List Value,Vals [] ds /\ Binds K t.d_Jx ["self","kind","note","rod"] ds:=by
 obtain ⟨Td,od,n,sl,tk0,e1,e2⟩:=T.D_Jx
 obtain ⟨oc,od2,kV,doc,pm,an,cdv,ct,osl,e3,lk,hcd⟩:=T.F_Jx.ex
 refine ⟨[],.nil,fun s us X hl => ?_⟩
 have hl2:us.length = 4:=by simpa using hl
 rw [e3,e1]
 match us,hl2 with
 | [_,_,_,_],_ => exact PySem.W.binds_K X rfl e2 rfl rfl rfl
theorem bD_Jx_3 (T:Txt K mg t):∃ ds:List Value,Vals [.non] ds /\ Binds K t.d_Jx ["self","kind","note","rod"] ds:=by
 obtain ⟨Td,od,n,sl,tk0,e1,e2⟩:=T.D_Jx
 obtain ⟨oc,od2,kV,doc,pm,an,cdv,ct,osl,e3,lk,hcd⟩:=T.F_Jx.ex
 refine ⟨[.none],.cons rfl (.nil),fun s us X hl => ?_⟩
 have hl2:us.length = 3:=by simpa using hl
 rw [e3,e1]
 match us,hl2 with
 | [_,_,_],_ => exact PySem.W.binds_K X rfl e2 rfl rfl rfl
theorem bD_Jx_2 (T:Txt K mg t):∃ ds:List Value,Vals [.int 0,.non] ds /\ Binds K t.d_Jx ["self","kind","note","rod"] ds:=by
 obtain ⟨Td,od,n,sl,tk0,e1,e2⟩:=T.D_Jx
 obtain ⟨oc,od2,kV,doc,pm,an,cdv,ct,osl,e3,lk,hcd⟩:=T.F_Jx.ex
 refine ⟨[.int 0 tk0,.none],.cons ⟨_,rfl⟩ (.cons rfl (.nil)),fun s us X hl => ?_⟩
 have hl2:us.length = 2:=by simpa using hl
 rw [e3,e1]
 match us,hl2 with
 | [_,_],_ => exact PySem.W.binds_K X rfl e2 rfl rfl rfl
theorem bD_J6_1 (T:Txt K mg t):∃ ds:List Value,Vals [.int 1] ds /\ Binds K t.d_J6 ["self","side"] ds:=by
 obtain ⟨Td,od,n,sl,tk0,e1,e2⟩:=T.D_J6
 obtain ⟨oc,od2,kV,doc,pm,an,cdv,ct,osl,e3,lk,hcd⟩:=T.F_J6.ex
 refine ⟨[.int 1 tk0],.cons ⟨_,rfl⟩ (.nil),fun s us X hl => ?_⟩
 have hl2:us.length = 1:=by simpa using hl
 rw [e3,e1]
 match us,hl2 with
 | [_],_ => exact PySem.W.binds_K X rfl e2 rfl rfl rfl
end
def Dr (ds:List Int):Prop:=∀ d ∈ ds,0 <= d /\ d < 10 ^ 18
def sp_draws (K:PySem.W.Frag):Sp:=fun vs H Q _ => ∃ (a:Addr) (ns:List Int) (n:Int) (L:Kn),vs = [.ref a,.int n] /\ SqL K H a (ns.map V.int) /\ ns.length <= 63 /\ 0 <= n /\ n <= 1000 /\ Has H L /\
 ∀ H' p ds,Has H' ((p,.lst (ds.map V.int)) :: L) -> ds.length = n.toNat -> Dr ds -> Q (.ref p) H'
section
variable {P:Program} {w:World} {K:PySem.W.Frag} {mg:Str -> Option Value} {base:Heap} {t:Adr}
theorem scD:FnScope ["_law_script","_law_many_here","_law_row","_law_base","_law_cell","_law_left","_law_turn"] ["_law_script","_law_many_here"] (defScope s_draws):=⟨rfl,rfl,rfl,by decide +kernel,rfl,by decide +kernel,by decide +kernel⟩
theorem Dr.snoc {ds:List Int} {d:Int} (h:Dr ds) (h0:0 <= d) (h1:d < 10 ^ 18):Dr (ds ++ [d]):=fun x hx => by
 rcases List.mem_append.mp hx with hx | hx
 ·exact h x hx
 ·have:x = d:=by simpa using hx
  subst this; exact ⟨h0,h1⟩
theorem map_snoc (ds:List Int) (d:Int):ds.map V.int ++ [V.int d] = (ds ++ [d]).map V.int:=by simp
theorem ok_draws (T:Txt K mg t):FnOk P w K mg base CX0 1 t.f_draws t.d_draws ["_law_script","_law_many_here"] (sp_draws K):=by
 refine T.F_draws.ok scD (fun vs H Q E h => ?_) (fun cdv A outer s H vs Q E hr h => ?_)
 ·obtain ⟨_,_,_,_,rfl,_⟩:=h
  rfl
 ·obtain ⟨a,ns,n,L,rfl,hS,hns,hn0,hn1,hL,k⟩:=h
  refine ⟨_,(pss_cons (ps_set (i:=2) scD.nd rfl (Or.inl rfl) (pe_lst pa_nil))
   (pss_cons (ps_set (i:=3) scD.nd rfl (Or.inl rfl) pe_int)
   (pss_cons (ps_for PassesOwn.never rfl (pi_list (pe_slice sl_list (pv 0) po_none (po_some pe_int))) (pg_name (i:=4) scD.nd rfl (Or.inl rfl))
    (pss_cons (ps_set (i:=5) scD.nd rfl (Or.inl rfl) (pe_callB call_abs (by rfl) T.z_abs (by rfl) (pa_cons (pv 4) pa_nil)))
     (pss_cons (ps_set (i:=3) scD.nd rfl (Or.inl rfl) (pe_op op_mod (pe_op op_add (pe_op op_add (pe_op op_mul (pv 3) pe_int) (pv 5)) (pe_op op_mul pe_int (pe_callTy call_int1 (by rfl) T.z_int (by rfl) (pa_cons (pe_cmpR op_lt (pv 4) pe_int (nomark _)) pa_nil)))) pe_int))
     (pss_one (ps_if (pt_cmpR op_lt (pv 5) (pe_op op_pow pe_int pe_int) (nomark _))
      (pss_one (ps_expr (pe_bm PySem.F.plainAttrs_list PySem.F.slot_list_append PySem.F.type_list_append mt_append (pv 2) (pa_cons (pv 5) pa_nil))))
      (pss_one (ps_for PassesOwn.never rfl (pi_range1 (by rfl) T.z_range (pa_cons pe_int pa_nil)) (pg_name (i:=6) scD.nd rfl (Or.inl rfl))
        (pss_one (ps_if (pt_cmpR op_gt (pv 5) pe_int (nomark _))
          (pss_cons (ps_expr (pe_bm PySem.F.plainAttrs_list PySem.F.slot_list_append PySem.F.type_list_append mt_append (pv 2) (pa_cons (pe_op op_mod (pv 5) pe_int) pa_nil)))
           (pss_one (ps_set (i:=5) scD.nd rfl (Or.inl rfl) (pe_op op_fdiv (pv 5) pe_int))))
          pss_nil)))))))))
   (pss_cons (ps_while PassesOwn.never (pt_cmpR op_lt (pe_callB call_len_seq (by rfl) T.z_len (by rfl) (pa_cons (pv 2) pa_nil)) (pv 1) (nomark _))
    (pss_cons (ps_set (i:=3) scD.nd rfl (Or.inl rfl) (pe_op op_mod (pe_op op_add (pe_op op_mul (pv 3) pe_int) pe_int) pe_int))
     (pss_one (ps_expr (pe_bm PySem.F.plainAttrs_list PySem.F.slot_list_append PySem.F.type_list_append mt_append (pv 2) (pa_cons (pe_op op_mod (pe_op op_fdiv (pe_op op_mul (pv 3) (pv 3)) pe_int) pe_int) pa_nil))))))
   (pss_one (ps_ret (pe_slice sl_list (pv 2) po_none (po_some (pv 1))))))))),?_⟩
  refine ⟨by decide,fun r hr0 => ?_⟩
  have h1:=hL.alloc hr0 (.lst [])
  have hS1:SqL K (upd H r (.lst [])) a (ns.map V.int):=hS.alloc hr0
  generalize upd H r (.lst []) = H1 at *
  refine ⟨_,rfl,_,rfl,a,_,rfl,hS1,fun sl hsl => ?_⟩
  have h2:=h1.alloc hsl (.lst (cutV (ns.map V.int) none (some 63)))
  generalize upd H1 sl (.lst (cutV (ns.map V.int) none (some 63))) = H2 at *
  refine ⟨sl,rfl,⟨_,SqL.of (h2.get 0 rfl)⟩,?_⟩
  refine for_list (K:=K) (a:=sl) (xs:=cutV (ns.map V.int) none (some 63)) (fun i σ H' => ∃ (row:List Int) (b:Int) (c l t:Option V),σ = [some (.ref a),some (.int n),some (.ref r),some (.int b),c,l,t] /\
   Has H' ((r,.lst (row.map V.int)) :: (sl,.lst (cutV (ns.map V.int) none (some 63))) :: L) /\ row.length <= 60 * i /\ Dr row /\ 0 <= b /\ b < 2147483647)
   ⟨[],7,none,none,none,rfl,h2.swap2,Nat.zero_le _,(fun _ h => nomatch h),by decide,by decide⟩ (fun i σ H' _ ⟨row,b,c,l,t,_,h,_⟩ => SqL.of (h.get 1 rfl)) ?_ ?_
  ·rintro i y σ H' hi ⟨row,b,c,l,t,rfl,h3,hlen,hd,b0,b1⟩
   have hi63:i < 63:=by
    have h5:=(List.getElem?_eq_some_iff.mp hi).1
    rw [cut_take _ _ (by decide),List.length_take,List.length_map] at h5
    omega
   obtain ⟨z,rfl⟩:∃ z,y = V.int z:=by
    rw [cut_take _ _ (by decide),List.getElem?_take_of_lt (by omega),List.getElem?_map] at hi
    cases e:ns[i]? with
    | none => rw [e] at hi; cases hi
    | some z => rw [e] at hi; exact ⟨z,(Option.some.inj hi).symm⟩
   refine ⟨_,rfl,_,rfl,?_⟩
   have hab:0 <= (if z < 0 then -z else z):=by split <;> omega
   generalize (if z < 0 then -z else z) = left at *
   refine ⟨_,rfl,_,_,rfl,rfl,.inl ⟨by omega,by omega⟩,_,rfl,_,_,rfl,rfl,_,rfl,_,_,rfl,rfl,.inr ⟨_,rfl,_,_,rfl,rfl,.inl ⟨by decide,by decide⟩,_,_,rfl,rfl,_,_,rfl,rfl,(show (0:Int) < 2147483647 by decide),?_⟩⟩
   have hb0:=Int.emod_nonneg (b * 48271 + left + 2 * (if decide (z < 0) = true then 1 else 0)) (show (2147483647:Int) ≠ 0 by decide)
   have hb1:=Int.emod_lt_of_pos (b * 48271 + left + 2 * (if decide (z < 0) = true then 1 else 0)) (show (0:Int) < 2147483647 by decide)
   refine ⟨_,rfl,_,_,rfl,rfl,⟨by decide,by decide,by decide⟩,_,_,rfl,rfl,_,rfl,?_⟩
   refine ite2 (fun hc => ?_) (fun hc => ?_)
   ·have hc':left < 10 ^ 18:=of_decide_eq_true hc
    refine ⟨_,rfl,.inl ⟨rfl,_,SqL.of (h3.get 0 rfl)⟩,_,rfl,r,_,_,rfl,rfl,h3.get 0 rfl,?_,?_⟩
    ·rw [List.length_map]
     exact sizeOk (by omega)
    ·refine ⟨row ++ [left],_,_,_,_,rfl,?_,?_,hd.snoc hab hc',hb0,hb1⟩
     ·rw [<- map_snoc]
      exact h3.puti 0 rfl _
     ·rw [List.length_append,List.length_singleton]; omega
   ·-- for turn in range(60)
    refine ⟨_,rfl,by decide,by decide,for_range (n:=60) (fun j σ H2 => ∃ (row2:List Int) (l2:Int) (t2:Option V) (b2:Int),0 <= b2 /\ b2 < 2147483647 /\ σ = [some (.ref a),some (.int n),some (.ref r),some (.int b2),some (.int z),some (.int l2),t2] /\
     Has H2 ((r,.lst (row2.map V.int)) :: (sl,.lst (cutV (ns.map V.int) none (some 63))) :: L) /\ row2.length <= row.length + j /\ Dr row2 /\ 0 <= l2) ⟨row,_,_,_,hb0,hb1,rfl,h3,Nat.le_add_right _ _,hd,hab⟩ ?_ ?_⟩
    ·rintro j σ H2 hj ⟨row2,l2,t2,b2,hb20,hb21,rfl,h4,hlen2,hd2,hl2⟩
     refine ⟨_,rfl,_,_,rfl,rfl,_,rfl,?_⟩
     refine ite2 (fun hc2 => ?_) (fun hc2 => ?_)
     ·refine ⟨_,rfl,.inl ⟨rfl,_,SqL.of (h4.get 0 rfl)⟩,_,rfl,_,_,rfl,rfl,(show (0:Int) < 10007 by decide),r,_,_,rfl,rfl,h4.get 0 rfl,?_,?_⟩
      ·rw [List.length_map]
       exact sizeOk (by omega)
      ·refine ⟨_,rfl,_,_,rfl,rfl,⟨by decide,by decide⟩,?_⟩
       refine ⟨row2 ++ [l2 % 10007],_,_,_,hb20,hb21,rfl,?_,?_,hd2.snoc (Int.emod_nonneg _ (by decide)) (Int.lt_trans (Int.emod_lt_of_pos _ (by decide)) (by decide)),Int.ediv_nonneg hl2 (by decide)⟩
       ·rw [<- map_snoc]
        exact h4.puti 0 rfl _
       ·rw [List.length_append,List.length_singleton]; omega
     ·exact ⟨row2,l2,_,b2,hb20,hb21,rfl,h4,by omega,hd2,hl2⟩
    ·rintro σ H2 ⟨row2,l2,t2,b2,hb20,hb21,rfl,h4,hlen2,hd2,hl2⟩
     exact ⟨row2,b2,_,_,_,rfl,h4,by omega,hd2,hb20,hb21⟩
  ·rintro σ H' ⟨row,b,c,l,t,rfl,h3,hlen,hd,b0,b1⟩
   have hlx:(cutV (ns.map V.int) none (some 63)).length <= 63:=by
    rw [cut_take _ _ (by decide),List.length_take]; omega
   refine while_by (fun σ H' => ∃ (row:List Int) (b:Int) (c l t:Option V),σ = [some (.ref a),some (.int n),some (.ref r),some (.int b),c,l,t] /\ Has H' ((r,.lst (row.map V.int)) :: L) /\ row.length <= 4000 /\ Dr row /\ 0 <= b /\ b < 2147483647)
    (fun σ H' => match H' r with | some (.lst xs) => n.toNat - xs.length | _ => 0) ⟨row,b,c,l,t,rfl,h3.swap2.tail,by omega,hd,b0,b1⟩ ?_ ?_
   ·rintro σ H' ⟨row,b,c,l,t,rfl,h4,hlen,hd,b0,b1⟩
    refine ⟨_,rfl,r,_,rfl,.inl (SqL.of (h4.get 0 rfl)),_,rfl,_,_,rfl,rfl,_,rfl,?_⟩
    rw [List.length_map]
    refine ite2 (fun hc => ?_) (fun hc => ?_)
    ·have hc':(row.length:Int) < n:=of_decide_eq_true hc
     refine ⟨_,rfl,_,_,rfl,rfl,.inl ⟨by omega,by omega⟩,_,_,rfl,rfl,_,_,rfl,rfl,(show (0:Int) < 2147483647 by decide),?_⟩
     have hb0:=Int.emod_nonneg (b * 69621 + 12289) (show (2147483647:Int) ≠ 0 by decide)
     have hb1:=Int.emod_lt_of_pos (b * 69621 + 12289) (show (0:Int) < 2147483647 by decide)
     refine ⟨_,rfl,.inl ⟨rfl,_,SqL.of (h4.get 0 rfl)⟩,_,rfl,_,rfl,_,_,rfl,rfl,.inl ⟨?_,?_⟩,_,_,rfl,rfl,⟨by decide,by decide⟩,_,_,rfl,rfl,(show (0:Int) < 10007 by decide),r,_,_,rfl,rfl,h4.get 0 rfl,?_,?_⟩
     ·show -(2 ^ 64) < (b * 69621 + 12289) % 2147483647
      omega
     ·show (b * 69621 + 12289) % 2147483647 < 2 ^ 64
      omega
     ·rw [List.length_map]
      exact sizeOk (by omega)
     ·have hq0:=Int.emod_nonneg ((b * 69621 + 12289) % 2147483647 * ((b * 69621 + 12289) % 2147483647) / 4099) (show (10007:Int) ≠ 0 by decide)
      have hq1:=Int.emod_lt_of_pos ((b * 69621 + 12289) % 2147483647 * ((b * 69621 + 12289) % 2147483647) / 4099) (show (0:Int) < 10007 by decide)
      refine ⟨⟨row ++ [(b * 69621 + 12289) % 2147483647 * ((b * 69621 + 12289) % 2147483647) / 4099 % 10007],_,_,_,_,rfl,?_,?_,hd.snoc hq0 (Int.lt_trans hq1 (by decide)),hb0,hb1⟩,?_⟩
      ·rw [<- map_snoc]
       exact h4.puti 0 rfl _
      ·rw [List.length_append,List.length_singleton]; omega
      ·have e1:H' r = some (.lst (row.map V.int)):=h4.get 0 rfl
       simp only [e1,upd_same,List.length_append,List.length_map,List.length_singleton]
       omega
    ·have hc':¬ (row.length:Int) < n:=fun z => hc (decide_eq_true z)
     refine ⟨_,rfl,_,rfl,_,rfl,r,_,rfl,SqL.of (h4.get 0 rfl),fun p hp => ?_⟩
     refine k _ p (row.take n.toNat) ?_ (by rw [List.length_take]; omega) (fun d hd' => hd d (List.mem_of_mem_take hd'))
     have h5:=(h4.tail).alloc hp (.lst (cutV (row.map V.int) none (some n)))
     rw [cut_take _ _ hn0,<- List.map_take] at h5 ⊢
     exact h5
   ·rintro σ H' Q1 Q2 hQ ⟨v,e,p,ys,e2,h,w',e3,i,j,e4,e5,c,e6,q⟩
    exact ⟨v,e,p,ys,e2,h,w',e3,i,j,e4,e5,c,e6,hQ _ _ q⟩
end
def sp_whole:Sp:=fun vs H Q _ => ∃ i:Int,vs = [.int i] /\ Q (.bl true) H
def sp_is:Sp:=fun vs H Q _ => ∃ i j:Int,vs = [.int i,.int j] /\ Q (.bl (decide (i = j))) H
theorem kit_ii (K:PySem.W.Frag):PySem.W.kitOne K (.type "int") (.type "int") = some true:=by kernel_rfl
theorem kit_ib (K:PySem.W.Frag):PySem.W.kitOne K (.type "int") (.type "bool") = some false:=by kernel_rfl
section
variable {P:Program} {w:World} {K:PySem.W.Frag} {mg:Str -> Option Value} {base:Heap} {t:Adr}
theorem scWh:FnScope ["_law_found"] ["_law_found"] (defScope s_whole):=⟨rfl,rfl,rfl,by decide +kernel,rfl,by decide +kernel,by decide +kernel⟩
theorem ok_whole (T:Txt K mg t):FnOk P w K mg base CX0 1 t.f_whole t.d_whole ["_law_found"] sp_whole:=by
 refine T.F_whole.ok scWh (fun vs H Q E h => ?_) (fun cdv A outer s H vs Q E hr h => ?_)
 ·obtain ⟨_,rfl,_⟩:=h
  rfl
 ·obtain ⟨i,rfl,k⟩:=h
  refine ⟨_,(pss_one (ps_ret (pe_and (pe_callB call_isi (by rfl) T.z_isinstance (by rfl) (pa_cons (pv 0) (pa_cons (pe_bltn (v:=.ty "int") (by rfl) T.z_int (by rfl) rfl) pa_nil))) (pe_one (pe_not (pe_callB call_isi (by rfl) T.z_isinstance (by rfl) (pa_cons (pv 0) (pa_cons (pe_bltn (v:=.ty "bool") (by rfl) T.z_bool (by rfl) rfl) pa_nil)))))))),?_⟩
  refine ⟨_,rfl,_,_,_,_,rfl,.int i,kit_ii K,_,rfl,iteT ?_⟩
  exact ⟨_,rfl,_,_,_,_,rfl,.int i,kit_ib K,_,rfl,k⟩
theorem scIs:FnScope ["_law_found","_law_due"] ["_law_found","_law_due"] (defScope s_is):=⟨rfl,rfl,rfl,by decide +kernel,rfl,by decide +kernel,by decide +kernel⟩
theorem ok_is (T:Txt K mg t):FnOk P w K mg base CX0 2 t.f_is t.d_is ["_law_found","_law_due"] sp_is:=by
 refine T.F_is.ok scIs (fun vs H Q E h => ?_) (fun cdv A outer s H vs Q E hr h => ?_)
 ·obtain ⟨_,_,rfl,_⟩:=h
  rfl
 ·obtain ⟨i,j,rfl,k⟩:=h
  refine ⟨_,(pss_one (ps_ret (pe_and (pe_call (ok_whole T) (hr.mono (by decide)) (by rfl) T.m_whole T.F_whole.kp (b_whole T) .nil pass0 (pa_cons (pv 0) pa_nil)) (pe_one (pe_cmpR op_eq (pv 0) (pv 1) (nomark _)))))),?_⟩
  refine ⟨_,rfl,i,rfl,_,rfl,iteT ?_⟩
  refine ⟨_,rfl,_,rfl,rfl,?_⟩
  have e:decide (V.int i = V.int j) = decide (i = j):=by by_cases h:i = j <;> simp [h]
  rw [e]
  exact k
end
inductive Kd where | line | bell | still | lazy | turning | stop
 deriving DecidableEq
def Kd.str:Kd -> Str
 | .line => "line" | .bell => "bell" | .still => "still" | .lazy => "lazy" | .turning => "turning" | .stop => "stop"
def Kd.many:Kd -> Int
 | .line => 2 | .bell => 2 | .still => 3 | .lazy => 3 | .turning => 3 | .stop => 1
def Kd.point:Kd -> Bool
 | .still => true | .lazy => true | .turning => true | _ => false
def endsD:List (Str × PyData):=[("line",.int 2),("bell",.int 2),("stop",.int 1),("still",.int 3),("lazy",.int 3),("turning",.int 3)]
theorem Kd.inEnds (k:Kd):(endsD.any fun p => decide (k.str = p.1)) = true:=by cases k <;> decide +kernel
theorem Kd.atEnds (k:Kd):endsD.lookup k.str = some (.int k.many):=by cases k <;> rfl
theorem endsD_int:(endsD.all fun p => match p.2 with | .int _ => true | _ => false) = true:=by decide +kernel
theorem Kd.inPoints (k:Kd):inV (.str k.str) [.str "still",.str "lazy",.str "turning"] = k.point:=by cases k <;> decide +kernel
theorem Kd.isStop (k:Kd):decide (V.str k.str = V.str "stop") = decide (k = .stop):=by cases k <;> decide +kernel
theorem Kd.isTurning (k:Kd):decide (V.str k.str = V.str "turning") = decide (k = .turning):=by cases k <;> decide +kernel
theorem Kd.isLazy (k:Kd):decide (V.str k.str = V.str "lazy") = decide (k = .lazy):=by cases k <;> decide +kernel
theorem Kd.isBell (k:Kd):decide (V.str k.str = V.str "bell") = decide (k = .bell):=by cases k <;> decide +kernel
theorem Kd.isLine (k:Kd):decide (V.str k.str = V.str "line") = decide (k = .line):=by cases k <;> decide +kernel
def Kd.out (k:Kd) (e s:Int):V:=if k = .stop then .non else if k.point then (if e = 0 then .int s else .int 0) else .int (1 - e)
def Kd.side (k:Kd) (e s:Int):Int:=if k.point then (if e = 0 then (if k = .turning then 3 - s else s) else (if k = .lazy then e else s)) else s
def sp_J11:Sp:=fun vs H Q _ => ∃ k:Kd,vs = [.str k.str] /\ Q (.int k.many) H
def sp_Jv:Sp:=fun vs H Q _ => ∃ k:Kd,vs = [.str k.str] /\ Q (.bl k.point) H
def sp_Jl:Sp:=fun vs H Q _ => ∃ (k:Kd) (e:Int),vs = [.str k.str,.int e] /\ 0 <= e /\ e < k.many /\ Q .non H
def sp_J9:Sp:=fun vs H Q _ => ∃ s:Int,vs = [.int s] /\ (s = 1 ∨ s = 2) /\ Q .non H
def sp_J01:Sp:=fun vs H Q _ => ∃ (k:Kd) (e s:Int) (v:V),vs = [.str k.str,.int e,v] /\ 0 <= e /\ e < k.many /\ (k.point = true -> v = .int s /\ (s = 1 ∨ s = 2)) /\ ∀ p,H p = none -> Q (.ref p) (upd H p (.tup [k.out e s,if k.point then .int (k.side e s) else v]))
def sp_J5:Sp:=fun vs H Q _ => ∃ (k:Kd) (e s:Int),vs = [.str k.str,.int e,.int s] /\ k.point = true /\ ∀ p,H p = none -> Q (.ref p) (upd H p (.tup [k.out e s,.int (k.side e s)]))
section
variable {P:Program} {w:World} {K:PySem.W.Frag} {mg:Str -> Option Value} {base:Heap} {t:Adr}
theorem decInt (i j:Int):decide (V.int i = V.int j) = decide (i = j):=by by_cases h:i = j <;> simp [h]
theorem scEo:FnScope ["kind"] ["kind"] (defScope s_J11):=⟨rfl,rfl,rfl,by decide +kernel,rfl,by decide +kernel,by decide +kernel⟩
theorem ok_J11 (T:Txt K mg t):FnOk P w K mg base CX0 1 t.f_J11 t.d_J11 ["kind"] sp_J11:=by
 refine T.F_J11.ok scEo (fun vs H Q E h => ?_) (fun cdv A outer s H vs Q E hr h => ?_)
 ·obtain ⟨_,rfl,_⟩:=h
  rfl
 ·obtain ⟨k,rfl,q⟩:=h
  obtain ⟨aE,eE,hE⟩:=T.x_ENDS
  have T_r_ENDS:RelV (.ref aE) t.u_ENDS:=by rw [eE]; rfl
  refine ⟨_,(pss_cons (ps_if (pt_cmpR op_notInK (pv 0) (pe_glob (by rfl) T.g_ENDS T_r_ENDS) (by rfl))
    (pss_one ps_never)
    pss_nil)
   (pss_one (ps_ret (pe_ix ix_K (pe_glob (by rfl) T.g_ENDS T_r_ENDS) (pv 0) (fun _ _ => rfl))))),?_⟩
  refine ⟨_,rfl,_,aE,endsD,rfl,rfl,hE,_,rfl,?_⟩
  rw [k.inEnds]
  exact ⟨_,rfl,_,aE,endsD,_,rfl,rfl,hE,k.atEnds,endsD_int,q⟩
theorem scIp:FnScope ["kind"] ["kind"] (defScope s_Jv):=⟨rfl,rfl,rfl,by decide +kernel,rfl,by decide +kernel,by decide +kernel⟩
theorem ok_Jv (T:Txt K mg t):FnOk P w K mg base CX0 1 t.f_Jv t.d_Jv ["kind"] sp_Jv:=by
 refine T.F_Jv.ok scIp (fun vs H Q E h => ?_) (fun cdv A outer s H vs Q E hr h => ?_)
 ·obtain ⟨_,rfl,_⟩:=h
  rfl
 ·obtain ⟨k,rfl,q⟩:=h
  obtain ⟨aE,eE,hE⟩:=T.x_ENDS
  have T_r_ENDS:RelV (.ref aE) t.u_ENDS:=by rw [eE]; rfl
  obtain ⟨aP,oP,its,n,eP,h1,h2,h3,h4,h5⟩:=T.x_POINTS
  have T_r_POINTS:RelV (.ref aP) t.u_POINTS:=by rw [eP]; rfl
  refine ⟨_,(pss_cons (ps_if (pt_cmpR op_notInK (pv 0) (pe_glob (by rfl) T.g_ENDS T_r_ENDS) (by rfl))
    (pss_one ps_never)
    pss_nil)
   (pss_one (ps_ret (pe_cmpR op_in_seq (pv 0) (pe_glob (by rfl) T.g_POINTS T_r_POINTS) (by rfl))))),?_⟩
  refine ⟨_,rfl,_,aE,endsD,rfl,rfl,hE,_,rfl,?_⟩
  rw [k.inEnds]
  refine ⟨_,rfl,aP,_,rfl,.inr (.inr ⟨oP,its,n,h1,h2,h3,h4,h5⟩),rfl,by decide,?_⟩
  rw [if_neg Bool.false_ne_true,k.inPoints]
  exact q
theorem scCe:FnScope ["kind","end","many"] ["kind","end"] (defScope s_Jl):=⟨rfl,rfl,rfl,by decide +kernel,rfl,by decide +kernel,by decide +kernel⟩
theorem ok_Jl (T:Txt K mg t):FnOk P w K mg base CX0 2 t.f_Jl t.d_Jl ["kind","end"] sp_Jl:=by
 refine T.F_Jl.ok scCe (fun vs H Q E h => ?_) (fun cdv A outer s H vs Q E hr h => ?_)
 ·obtain ⟨_,_,rfl,_⟩:=h
  rfl
 ·obtain ⟨k,e,rfl,e0,e1,q⟩:=h
  refine ⟨_,(pss_cons (ps_set (i:=2) scCe.nd rfl (Or.inl rfl) (pe_call (ok_J11 T) (hr.mono (by decide)) (by rfl) T.m_J11 T.F_J11.kp (b_J11 T) .nil pass0 (pa_cons (pv 0) pa_nil)))
   (pss_one (ps_if (PW.pt (pw_or (pt_cmpR op_lt (pv 1) pe_int (nomark _)) (pw_or1 (pt_cmpR op_ge (pv 1) (pv 2) (nomark _)))))
    (pss_one ps_never)
    pss_nil))),?_⟩
  refine ⟨_,rfl,k,rfl,?_⟩
  refine ⟨_,rfl,_,_,rfl,rfl,_,rfl,?_⟩
  refine ifF (decide_eq_false (by omega)) ?_
  refine ⟨_,rfl,_,rfl,_,_,rfl,rfl,_,rfl,?_⟩
  exact ifF (decide_eq_false (by omega)) q
theorem scCs:FnScope ["side"] ["side"] (defScope s_J9):=⟨rfl,rfl,rfl,by decide +kernel,rfl,by decide +kernel,by decide +kernel⟩
theorem ok_J9 (T:Txt K mg t):FnOk P w K mg base CX0 1 t.f_J9 t.d_J9 ["side"] sp_J9:=by
 refine T.F_J9.ok scCs (fun vs H Q E h => ?_) (fun cdv A outer s H vs Q E hr h => ?_)
 ·obtain ⟨_,rfl,_⟩:=h
  rfl
 ·obtain ⟨z,rfl,hz,q⟩:=h
  refine ⟨_,(pss_one (ps_if (PW.pt (pw_and (pt_cmpR op_ne (pv 0) pe_int (nomark _)) (pw_and1 (pt_cmpR op_ne (pv 0) pe_int (nomark _)))))
    (pss_one ps_never)
    pss_nil)),?_⟩
  refine ⟨_,rfl,rfl,_,rfl,?_⟩
  rw [decInt]
  refine ifdn (fun hc => ?_) (fun hc => iteF q)
  refine ⟨_,rfl,rfl,_,rfl,?_⟩
  rw [decInt]
  exact ifF (by simp; omega) q
theorem scPp:FnScope ["kind","end","side"] ["kind","end","side"] (defScope s_J5):=⟨rfl,rfl,rfl,by decide +kernel,rfl,by decide +kernel,by decide +kernel⟩
theorem ok_J5 (T:Txt K mg t):FnOk P w K mg base CX0 1 t.f_J5 t.d_J5 ["kind","end","side"] sp_J5:=by
 refine T.F_J5.ok scPp (fun vs H Q E h => ?_) (fun cdv A outer s H vs Q E hr h => ?_)
 ·obtain ⟨_,_,_,rfl,_⟩:=h
  rfl
 ·obtain ⟨k,e,z,rfl,hk,q⟩:=h
  have ns:¬ k = .stop:=fun h => by rw [h] at hk; cases hk
  refine ⟨_,(pss_cons (ps_if (pt_cmpR op_eq (pv 1) (pe_glob (by rfl) T.g_STEM T.r_STEM) (nomark _))
    (pss_one (ps_ret (pe_tup (pa_cons (pv 2) (pa_cons (pe_ifExp (pt_cmpR op_eq (pv 0) pe_str (nomark _)) (pe_op op_sub pe_int (pv 2)) (pv 2)) pa_nil)))))
    pss_nil)
   (pss_one (ps_ret (pe_tup (pa_cons (pe_glob (by rfl) T.g_STEM T.r_STEM) (pa_cons (pe_ifExp (pt_cmpR op_eq (pv 0) pe_str (nomark _)) (pv 1) (pv 2)) pa_nil)))))),?_⟩
  refine ⟨_,rfl,rfl,_,rfl,?_⟩
  rw [decInt]
  refine ite2 (fun hc => ?_) (fun hc => ?_)
  ·have he:e = 0:=of_decide_eq_true hc
   refine ⟨_,rfl,_,rfl,rfl,_,rfl,?_⟩
   rw [k.isTurning]
   have o1:k.out e z = .int z:=by unfold Kd.out; rw [if_neg ns,if_pos hk,if_pos he]
   have o2:k.side e z = if k = .turning then 3 - z else z:=by unfold Kd.side; rw [if_pos hk,if_pos he]
   rw [o1,o2] at q
   refine ite2 (fun hc => ?_) (fun hc => ?_)
   ·rw [if_pos (of_decide_eq_true hc)] at q
    exact ⟨_,rfl,_,_,rfl,rfl,(show 2 <= sizeLine by decide),fun p hp => q p hp⟩
   ·rw [if_neg (fun h => hc (decide_eq_true h))] at q
    exact ⟨_,rfl,(show 2 <= sizeLine by decide),fun p hp => q p hp⟩
  ·have he:¬ e = 0:=fun h => hc (decide_eq_true h)
   refine ⟨_,rfl,rfl,_,rfl,?_⟩
   rw [k.isLazy]
   have o1:k.out e z = .int 0:=by unfold Kd.out; rw [if_neg ns,if_pos hk,if_neg he]
   have o2:k.side e z = if k = .lazy then e else z:=by unfold Kd.side; rw [if_pos hk,if_neg he]
   rw [o1,o2] at q
   refine ite2 (fun hc => ?_) (fun hc => ?_)
   ·rw [if_pos (of_decide_eq_true hc)] at q
    exact ⟨_,rfl,(show 2 <= sizeLine by decide),fun p hp => q p hp⟩
   ·rw [if_neg (fun h => hc (decide_eq_true h))] at q
    exact ⟨_,rfl,(show 2 <= sizeLine by decide),fun p hp => q p hp⟩
theorem scPa:FnScope ["kind","end","side"] ["kind","end","side"] (defScope s_J01):=⟨rfl,rfl,rfl,by decide +kernel,rfl,by decide +kernel,by decide +kernel⟩
theorem ok_J01 (T:Txt K mg t):FnOk P w K mg base CX0 3 t.f_J01 t.d_J01 ["kind","end","side"] sp_J01:=by
 refine T.F_J01.ok scPa (fun vs H Q E h => ?_) (fun cdv A outer s H vs Q E hr h => ?_)
 ·obtain ⟨_,_,_,_,rfl,_⟩:=h
  rfl
 ·obtain ⟨k,e,z,v,rfl,e0,e1,hs,q⟩:=h
  refine ⟨_,(pss_cons (ps_expr (pe_call (ok_Jl T) (hr.mono (by decide)) (by rfl) T.m_Jl T.F_Jl.kp (b_Jl T) .nil pass0 (pa_cons (pv 0) (pa_cons (pv 1) pa_nil))))
   (pss_cons (ps_if (pt_val (pe_call (ok_Jv T) (hr.mono (by decide)) (by rfl) T.m_Jv T.F_Jv.kp (b_Jv T) .nil pass0 (pa_cons (pv 0) pa_nil)))
    (pss_cons (ps_expr (pe_call (ok_J9 T) (hr.mono (by decide)) (by rfl) T.m_J9 T.F_J9.kp (b_J9 T) .nil pass0 (pa_cons (pv 2) pa_nil)))
     (pss_one (ps_ret (pe_call (ok_J5 T) (hr.mono (by decide)) (by rfl) T.m_J5 T.F_J5.kp (b_J5 T) .nil pass0 (pa_cons (pv 0) (pa_cons (pv 1) (pa_cons (pv 2) pa_nil)))))))
    pss_nil)
   (pss_cons (ps_if (pt_cmpR op_eq (pv 0) pe_str (nomark _))
    (pss_one (ps_ret (pe_tup (pa_cons pe_non (pa_cons (pv 2) pa_nil)))))
    pss_nil)
   (pss_one (ps_ret (pe_tup (pa_cons (pe_op op_sub pe_int (pv 1)) (pa_cons (pv 2) pa_nil)))))))),?_⟩
  refine ⟨_,rfl,_,rfl,k,e,rfl,e0,e1,?_⟩
  refine ⟨_,rfl,k,rfl,_,rfl,?_⟩
  refine ite2 (fun hc => ?_) (fun hc => ?_)
  ·obtain ⟨rfl,hz⟩:=hs hc
   rw [if_pos hc] at q
   exact ⟨_,rfl,z,rfl,hz,_,rfl,_,rfl,_,rfl,k,e,z,rfl,hc,q⟩
  ·rw [if_neg hc] at q
   refine ⟨_,rfl,rfl,_,rfl,?_⟩
   rw [k.isStop]
   refine ite2 (fun hc2 => ?_) (fun hc2 => ?_)
   ·have hk:k = .stop:=of_decide_eq_true hc2
    subst hk
    exact ⟨_,rfl,(show 2 <= sizeLine by decide),fun p hp => q p hp⟩
   ·have hk:¬ k = .stop:=fun h => hc2 (decide_eq_true h)
    have o1:k.out e z = .int (1 - e):=by unfold Kd.out; rw [if_neg hk,if_neg hc]
    rw [o1] at q
    exact ⟨_,rfl,_,_,rfl,rfl,_,rfl,(show 2 <= sizeLine by decide),fun p hp => q p hp⟩
end
def sp_many:Sp:=fun vs H Q _ => ∃ k:Kd,vs = [.str k.str] /\ Q (.int k.many) H
section
variable {P:Program} {w:World} {K:PySem.W.Frag} {mg:Str -> Option Value} {base:Heap} {t:Adr}
theorem scMa:FnScope ["_law_kind_here"] ["_law_kind_here"] (defScope s_many):=⟨rfl,rfl,rfl,by decide +kernel,rfl,by decide +kernel,by decide +kernel⟩
theorem ok_many (T:Txt K mg t):FnOk P w K mg base CX0 1 t.f_many t.d_many ["_law_kind_here"] sp_many:=by
 refine T.F_many.ok scMa (fun vs H Q E h => ?_) (fun cdv A outer s H vs Q E hr h => ?_)
 ·obtain ⟨_,rfl,_⟩:=h
  rfl
 ·obtain ⟨k,rfl,q⟩:=h
  refine ⟨_,(pss_cons (ps_if (pt_cmpR op_eq (pv 0) pe_str (nomark _))
    (pss_one (ps_ret pe_int))
    pss_nil)
   (pss_cons (ps_if (PW.pt (pw_or (pt_cmpR op_eq (pv 0) pe_str (nomark _)) (pw_or1 (pt_cmpR op_eq (pv 0) pe_str (nomark _)))))
    (pss_one (ps_ret pe_int))
    pss_nil)
   (pss_one (ps_ret pe_int)))),?_⟩
  refine ⟨_,rfl,rfl,_,rfl,?_⟩
  rw [k.isStop]
  refine ifd (fun h => ?_) (fun h1 => ?_)
  ·subst h; exact q
  refine ⟨_,rfl,rfl,_,rfl,?_⟩
  rw [k.isLine]
  refine ifd (fun h => ?_) (fun h2 => ?_)
  ·subst h; exact iteT q
  refine ⟨_,rfl,rfl,_,rfl,?_⟩
  rw [k.isBell]
  refine ifd (fun h => ?_) (fun h3 => ?_)
  ·subst h; exact q
  have e:k.many = 3:=by cases k <;> first | rfl | contradiction
  rw [e] at q
  exact q
end
theorem Kd.out_point {k:Kd} (h:k.point = true) (e s:Int):k.out e s = if e = 0 then .int s else .int 0:=by
 have ns:¬ k = .stop:=fun h' => by rw [h'] at h; cases h
 unfold Kd.out; rw [if_neg ns,if_pos h]
theorem Kd.out_int {k:Kd} (h:¬ k = .stop) (e s:Int):∃ i,k.out e s = .int i:=by
 unfold Kd.out; rw [if_neg h]
 split
 ·split
  ·exact ⟨_,rfl⟩
  ·exact ⟨_,rfl⟩
 ·exact ⟨_,rfl⟩
theorem Kd.many_point {k:Kd} (h:k.point = true):k.many = 3:=by cases k <;> first | rfl | cases h
theorem Kd.side12 {k:Kd} {e s:Int} (e0:0 <= e) (e1:e < k.many) (h:s = 1 ∨ s = 2):k.side e s = 1 ∨ k.side e s = 2:=by
 unfold Kd.side
 split
 ·rename_i hp
  have:=Kd.many_point hp
  split
  ·split <;> omega
  ·split <;> omega
 ·exact h
def sp_J21:Sp:=fun vs H Q _ => ∃ (k:Kd) (e s:Int),vs = [.str k.str,.int e,.int s] /\ 0 <= e /\ e < k.many /\ ∀ p,H p = none -> Q (.ref p) (upd H p (.tup [k.out e s,.int (k.side e s)]))
section
variable {P:Program} {w:World} {K:PySem.W.Frag} {mg:Str -> Option Value} {base:Heap} {t:Adr}
theorem scPs:FnScope ["_law_kind_here","_law_place","_law_side"] ["_law_kind_here","_law_place","_law_side"] (defScope s_J21):=⟨rfl,rfl,rfl,by decide +kernel,rfl,by decide +kernel,by decide +kernel⟩
theorem ok_J21 (T:Txt K mg t):FnOk P w K mg base CX0 1 t.f_J21 t.d_J21 ["_law_kind_here","_law_place","_law_side"] sp_J21:=by
 refine T.F_J21.ok scPs (fun vs H Q E h => ?_) (fun cdv A outer s H vs Q E hr h => ?_)
 ·obtain ⟨_,_,_,rfl,_⟩:=h
  rfl
 ·obtain ⟨k,e,z,rfl,e0,e1,q⟩:=h
  have two:2 <= sizeLine:=by decide
  refine ⟨_,(pss_cons (ps_if (pt_cmpR op_eq (pv 0) pe_str (nomark _))
    (pss_one (ps_ret (pe_tup (pa_cons pe_non (pa_cons (pv 2) pa_nil)))))
    pss_nil)
   (pss_cons (ps_if (PW.pt (pw_or (pt_cmpR op_eq (pv 0) pe_str (nomark _)) (pw_or1 (pt_cmpR op_eq (pv 0) pe_str (nomark _)))))
    (pss_one (ps_ret (pe_tup (pa_cons (pe_op op_sub pe_int (pv 1)) (pa_cons (pv 2) pa_nil)))))
    pss_nil)
   (pss_cons (ps_if (PW.pt (pw_and (pt_cmpR op_gt (pv 1) pe_int (nomark _)) (pw_and1 (pt_cmpR op_eq (pv 0) pe_str (nomark _)))))
    (pss_one (ps_ret (pe_tup (pa_cons pe_int (pa_cons (pv 1) pa_nil)))))
    pss_nil)
   (pss_cons (ps_if (pt_cmpR op_gt (pv 1) pe_int (nomark _))
    (pss_one (ps_ret (pe_tup (pa_cons pe_int (pa_cons (pv 2) pa_nil)))))
    pss_nil)
   (pss_cons (ps_if (pt_cmpR op_eq (pv 0) pe_str (nomark _))
    (pss_one (ps_ret (pe_tup (pa_cons (pv 2) (pa_cons (pe_op op_sub pe_int (pv 2)) pa_nil)))))
    pss_nil)
   (pss_one (ps_ret (pe_tup (pa_cons (pv 2) (pa_cons (pv 2) pa_nil)))))))))),?_⟩
  refine ⟨_,rfl,rfl,_,rfl,?_⟩
  rw [k.isStop]
  refine ifd (fun h => ?_) (fun h1 => ?_)
  ·subst h; exact ⟨_,rfl,two,fun p hp => q p hp⟩
  have np:k.point = false -> ∀ p,H p = none -> Q (.ref p) (upd H p (.tup [.int (1 - e),.int z])):=fun hk p hp => by
   have:=q p hp
   unfold Kd.out Kd.side at this
   rw [if_neg h1,if_neg (by rw [hk]; exact Bool.false_ne_true),if_neg (by rw [hk]; exact Bool.false_ne_true)] at this
   exact this
  refine ⟨_,rfl,rfl,_,rfl,?_⟩
  rw [k.isLine]
  refine ifd (fun h => iteT ?_) (fun h2 => ?_)
  ·subst h; exact ⟨_,rfl,_,_,rfl,rfl,_,rfl,two,np rfl⟩
  refine ⟨_,rfl,rfl,_,rfl,?_⟩
  rw [k.isBell]
  refine ifd (fun h => ?_) (fun h3 => ?_)
  ·subst h; exact ⟨_,rfl,_,_,rfl,rfl,_,rfl,two,np rfl⟩
  have hk:k.point = true:=by cases k <;> first | rfl | contradiction
  have q':∀ p,H p = none -> Q (.ref p) (upd H p (.tup [if e = 0 then .int z else .int 0,.int (if e = 0 then (if k = .turning then 3 - z else z) else (if k = .lazy then e else z))])):=fun p hp => by
   have:=q p hp
   rw [Kd.out_point hk] at this
   unfold Kd.side at this
   rw [if_pos hk] at this
   exact this
  refine ⟨_,rfl,_,_,rfl,rfl,_,rfl,?_⟩
  refine ifd (fun hp => ?_) (fun hp => ?_)
  ·have he:¬ e = 0:=by omega
   rw [if_neg he] at q'
   refine ⟨_,rfl,rfl,_,rfl,?_⟩
   rw [k.isLazy]
   refine ifd (fun h => ?_) (fun h => ?_)
   ·rw [if_neg he,if_pos h] at q'
    exact ⟨_,rfl,two,q'⟩
   ·rw [if_neg he,if_neg h] at q'
    refine ⟨_,rfl,_,_,rfl,rfl,_,rfl,ifT (decide_eq_true (by omega)) ?_⟩
    exact ⟨_,rfl,two,q'⟩
  ·have he:e = 0:=by omega
   rw [if_pos he,if_pos he] at q'
   refine iteF ?_
   refine ⟨_,rfl,_,_,rfl,rfl,_,rfl,ifF (decide_eq_false (by omega)) ?_⟩
   refine ⟨_,rfl,rfl,_,rfl,?_⟩
   rw [k.isTurning]
   refine ifd (fun h => ?_) (fun h => ?_)
   ·rw [if_pos h] at q'
    exact ⟨_,rfl,_,rfl,_,_,rfl,rfl,two,q'⟩
   ·rw [if_neg h] at q'
    exact ⟨_,rfl,_,rfl,two,q'⟩
end
structure YA where
 p:Addr
 dx:Addr
 tr:Addr
 k:Addr
 n:Addr
 r:Addr
 s:Addr
 m:Addr
 g:Addr
structure YR where
 next:Int
 kinds:List (Key × V)
 notes:List (Key × V)
 rods:List (Key × V)
 sides:List V
 mates:List (List Key × V)
 eng:V
 rung:List V
 trail:List V
def fl (A:YA) (next:Int) (eng:V):List (Str × V) :=
 [("next_piece",.int next),("kinds",.ref A.k),("notes",.ref A.n),("rods_under",.ref A.r),("sides",.ref A.s),("mates",.ref A.m),("engine_end",eng),("rung",.ref A.g),("trail",.ref A.tr)]
def yL (C:Addr) (A:YA) (y:YR):Kn :=
 [(A.tr,.lst y.trail),(A.p,.ins C A.dx (fl A y.next y.eng)),(A.dx,.own A.p),(A.k,.dK y.kinds),(A.n,.dK y.notes),(A.r,.dK y.rods),(A.s,.lst y.sides),(A.m,.dT y.mates),(A.g,.lst y.rung)]
def y0:YR:=⟨0,[],[],[],[],[],.non,[],[]⟩
section
variable (A:YA) (next:Int) (eng:V)
theorem fl_next:(fl A next eng).lookup ("next_piece" : Str) = some (.int next):=by kernel_rfl
theorem fl_kinds:(fl A next eng).lookup ("kinds" : Str) = some (.ref A.k):=by kernel_rfl
theorem fl_notes:(fl A next eng).lookup ("notes" : Str) = some (.ref A.n):=by kernel_rfl
theorem fl_rods:(fl A next eng).lookup ("rods_under" : Str) = some (.ref A.r):=by kernel_rfl
theorem fl_sides:(fl A next eng).lookup ("sides" : Str) = some (.ref A.s):=by kernel_rfl
theorem fl_mates:(fl A next eng).lookup ("mates" : Str) = some (.ref A.m):=by kernel_rfl
theorem fl_eng:(fl A next eng).lookup ("engine_end" : Str) = some eng:=by kernel_rfl
theorem fl_rung:(fl A next eng).lookup ("rung" : Str) = some (.ref A.g):=by kernel_rfl
theorem fl_trail:(fl A next eng).lookup ("trail" : Str) = some (.ref A.tr):=by kernel_rfl
theorem fl_put_trail (q:Addr):putF "trail" (.ref q) (fl A next eng) = fl { A with tr:=q } next eng:=by kernel_rfl
theorem fl_put_next (n':Int):putF "next_piece" (.int n') (fl A next eng) = fl A n' eng:=by kernel_rfl
theorem fl_put_eng (e':V):putF "engine_end" e' (fl A next eng) = fl A next e':=by kernel_rfl
end
theorem fl_m (A:YA) (next:Int) (eng:V):(fl A next eng).lookup ("lay" : Str) = none /\ (fl A next eng).lookup ("new_rod" : Str) = none /\ (fl A next eng).lookup ("throw" : Str) = none /\ (fl A next eng).lookup ("rods" : Str) = none /\ (fl A next eng).lookup ("rod" : Str) = none /\
  (fl A next eng).lookup ("side" : Str) = none /\ (fl A next eng).lookup ("end_trail" : Str) = none /\ (fl A next eng).lookup ("check_piece" : Str) = none /\ (fl A next eng).lookup ("check_rod" : Str) = none :=
 ⟨by kernel_rfl,by kernel_rfl,by kernel_rfl,by kernel_rfl,by kernel_rfl,by kernel_rfl,by kernel_rfl,by kernel_rfl,by kernel_rfl⟩
def sp_init (C:Addr):Sp:=fun vs H Q _ => ∃ (p dx:Addr) (L:Kn),vs = [.ref p] /\ Has H ((p,.ins C dx []) :: (dx,.own p) :: L) /\ ∀ H' A,A.p = p -> Has H' (yL C A y0 ++ L) -> Q .non H'
def sp_end_trail (C:Addr):Sp:=fun vs H Q _ => ∃ (A:YA) (y:YR) (L:Kn),vs = [.ref A.p] /\ Has H (yL C A y ++ L) /\ ∀ H' q,Has H' (yL C { A with tr:=q } { y with trail:=[] } ++ L) -> Q .non H'
theorem init_perm {H:Hp} {C p dx a1 a2 a3 a4 a5 a7 a8:Addr} {fs:List (Str × V)} {L:Kn} (h:Has H ((a8,.lst []) :: (a7,.lst []) :: (a5,.dT []) :: (a4,.lst []) :: (a3,.dK []) :: (a2,.dK []) :: (a1,.dK []) :: (p,.ins C dx fs) :: (dx,.own p) :: L)) :
  Has H ([(a8,.lst []),(p,.ins C dx fs),(dx,.own p),(a1,.dK []),(a2,.dK []),(a3,.dK []),(a4,.lst []),(a5,.dT []),(a7,.lst [])] ++ L):=by
 refine h.perm ?_
 refine .cons _ ?_
 show List.Perm ([(a7,HO.lst []),(a5,.dT []),(a4,.lst []),(a3,.dK []),(a2,.dK []),(a1,.dK []),(p,.ins C dx fs),(dx,.own p)] ++ L) ([(p,.ins C dx fs),(dx,.own p),(a1,.dK []),(a2,.dK []),(a3,.dK []),(a4,.lst []),(a5,.dT []),(a7,.lst [])] ++ L)
 refine List.Perm.append_right L ?_
 have e:[(a7,HO.lst []),(a5,.dT []),(a4,.lst []),(a3,.dK []),(a2,.dK []),(a1,.dK []),(p,.ins C dx fs),(dx,.own p)] = [(a7,HO.lst []),(a5,.dT []),(a4,.lst []),(a3,.dK []),(a2,.dK []),(a1,.dK [])] ++ [(p,.ins C dx fs),(dx,.own p)]:=rfl
 rw [e]
 refine List.perm_append_comm.trans ?_
 refine .cons _ (.cons _ ?_)
 exact List.reverse_perm [(a1,HO.dK []),(a2,.dK []),(a3,.dK []),(a4,.lst []),(a5,.dT []),(a7,.lst [])]
section
variable {P:Program} {w:World} {K:PySem.W.Frag} {mg:Str -> Option Value} {base:Heap} {t:Adr}
theorem scYi:FnScope ["self"] ["self"] (defScope s_Jm):=⟨rfl,rfl,rfl,by decide +kernel,rfl,by decide +kernel,by decide +kernel⟩
theorem ok_Jm (T:Txt K mg t):FnOk P w K mg base CX0 1 t.f_Jm t.d_Jm ["self"] (sp_init t.c_Yard):=by
 refine T.F_Jm.ok scYi (fun vs H Q E h => ?_) (fun cdv A outer s H vs Q E hr h => ?_)
 ·obtain ⟨_,_,_,rfl,_⟩:=h
  rfl
 ·obtain ⟨p,dx,L,rfl,hH,q⟩:=h
  refine ⟨_,(pss_cons (ps_fld (pv 0) pe_int rfl)
   (pss_cons (ps_fld (pv 0) pe_dnewK rfl)
   (pss_cons (ps_fld (pv 0) pe_dnewK rfl)
   (pss_cons (ps_fld (pv 0) pe_dnewK rfl)
   (pss_cons (ps_fld (pv 0) (pe_lst pa_nil) rfl)
   (pss_cons (ps_fld (pv 0) pe_dnewT rfl)
   (pss_cons (ps_fld (pv 0) pe_non rfl)
   (pss_cons (ps_fld (pv 0) (pe_lst pa_nil) rfl)
   (pss_one (ps_fld (pv 0) (pe_lst pa_nil) rfl)))))))))),?_⟩
  refine ⟨_,rfl,p,_,dx,_,rfl,hH.get 0 rfl,T.cl_Yard,T.n_Yard_next_piece,(show 0 < 1000 by decide),?_⟩
  have h1:=hH.puti 0 rfl (.ins t.c_Yard dx (putF ("next_piece" : Str) (V.int 0) ([]:List (Str × V))))
  rw [show putF ("next_piece" : Str) (V.int 0) ([]:List (Str × V)) = ([(("next_piece" : Str),V.int 0)]:List (Str × V)) from by kernel_rfl] at h1 ⊢
  generalize upd H p _ = H1 at h1 ⊢
  intro a1 n1
  refine ⟨_,rfl,p,_,dx,_,rfl,(h1.alloc n1 (.dK [])).get 1 rfl,T.cl_Yard,T.n_Yard_kinds,(show 1 < 1000 by decide),?_⟩
  have h2:=(h1.alloc n1 (.dK [])).puti 1 rfl (.ins t.c_Yard dx (putF ("kinds" : Str) (V.ref a1) ([(("next_piece" : Str),V.int 0)]:List (Str × V))))
  rw [show putF ("kinds" : Str) (V.ref a1) ([(("next_piece" : Str),V.int 0)]:List (Str × V)) = ([(("next_piece" : Str),V.int 0),(("kinds" : Str),V.ref a1)]:List (Str × V)) from by kernel_rfl] at h2 ⊢
  generalize upd (upd H1 a1 _) p _ = H2 at h2 ⊢
  intro a2 n2
  refine ⟨_,rfl,p,_,dx,_,rfl,(h2.alloc n2 (.dK [])).get 2 rfl,T.cl_Yard,T.n_Yard_notes,(show 2 < 1000 by decide),?_⟩
  have h3:=(h2.alloc n2 (.dK [])).puti 2 rfl (.ins t.c_Yard dx (putF ("notes" : Str) (V.ref a2) ([(("next_piece" : Str),V.int 0),(("kinds" : Str),V.ref a1)]:List (Str × V))))
  rw [show putF ("notes" : Str) (V.ref a2) ([(("next_piece" : Str),V.int 0),(("kinds" : Str),V.ref a1)]:List (Str × V)) = ([(("next_piece" : Str),V.int 0),(("kinds" : Str),V.ref a1),(("notes" : Str),V.ref a2)]:List (Str × V)) from by kernel_rfl] at h3 ⊢
  generalize upd (upd H2 a2 _) p _ = H3 at h3 ⊢
  intro a3 n3
  refine ⟨_,rfl,p,_,dx,_,rfl,(h3.alloc n3 (.dK [])).get 3 rfl,T.cl_Yard,T.n_Js_under,(show 3 < 1000 by decide),?_⟩
  have h4:=(h3.alloc n3 (.dK [])).puti 3 rfl (.ins t.c_Yard dx (putF ("rods_under" : Str) (V.ref a3) ([(("next_piece" : Str),V.int 0),(("kinds" : Str),V.ref a1),(("notes" : Str),V.ref a2)]:List (Str × V))))
  rw [show putF ("rods_under" : Str) (V.ref a3) ([(("next_piece" : Str),V.int 0),(("kinds" : Str),V.ref a1),(("notes" : Str),V.ref a2)]:List (Str × V)) = ([(("next_piece" : Str),V.int 0),(("kinds" : Str),V.ref a1),(("notes" : Str),V.ref a2),(("rods_under" : Str),V.ref a3)]:List (Str × V)) from by kernel_rfl] at h4 ⊢
  generalize upd (upd H3 a3 _) p _ = H4 at h4 ⊢
  refine ⟨by decide,fun a4 n4 => ?_⟩
  refine ⟨_,rfl,p,_,dx,_,rfl,(h4.alloc n4 (.lst [])).get 4 rfl,T.cl_Yard,T.n_Yard_sides,(show 4 < 1000 by decide),?_⟩
  have h5:=(h4.alloc n4 (.lst [])).puti 4 rfl (.ins t.c_Yard dx (putF ("sides" : Str) (V.ref a4) ([(("next_piece" : Str),V.int 0),(("kinds" : Str),V.ref a1),(("notes" : Str),V.ref a2),(("rods_under" : Str),V.ref a3)]:List (Str × V))))
  rw [show putF ("sides" : Str) (V.ref a4) ([(("next_piece" : Str),V.int 0),(("kinds" : Str),V.ref a1),(("notes" : Str),V.ref a2),(("rods_under" : Str),V.ref a3)]:List (Str × V)) = ([(("next_piece" : Str),V.int 0),(("kinds" : Str),V.ref a1),(("notes" : Str),V.ref a2),(("rods_under" : Str),V.ref a3),(("sides" : Str),V.ref a4)]:List (Str × V)) from by kernel_rfl] at h5 ⊢
  generalize upd (upd H4 a4 _) p _ = H5 at h5 ⊢
  intro a5 n5
  refine ⟨_,rfl,p,_,dx,_,rfl,(h5.alloc n5 (.dT [])).get 5 rfl,T.cl_Yard,T.n_Yard_mates,(show 5 < 1000 by decide),?_⟩
  have h6:=(h5.alloc n5 (.dT [])).puti 5 rfl (.ins t.c_Yard dx (putF ("mates" : Str) (V.ref a5) ([(("next_piece" : Str),V.int 0),(("kinds" : Str),V.ref a1),(("notes" : Str),V.ref a2),(("rods_under" : Str),V.ref a3),(("sides" : Str),V.ref a4)]:List (Str × V))))
  rw [show putF ("mates" : Str) (V.ref a5) ([(("next_piece" : Str),V.int 0),(("kinds" : Str),V.ref a1),(("notes" : Str),V.ref a2),(("rods_under" : Str),V.ref a3),(("sides" : Str),V.ref a4)]:List (Str × V)) = ([(("next_piece" : Str),V.int 0),(("kinds" : Str),V.ref a1),(("notes" : Str),V.ref a2),(("rods_under" : Str),V.ref a3),(("sides" : Str),V.ref a4),(("mates" : Str),V.ref a5)]:List (Str × V)) from by kernel_rfl] at h6 ⊢
  generalize upd (upd H5 a5 _) p _ = H6 at h6 ⊢
  refine ⟨_,rfl,p,_,dx,_,rfl,h6.get 5 rfl,T.cl_Yard,T.n_J7_end,(show 6 < 1000 by decide),?_⟩
  have h7:=h6.puti 5 rfl (.ins t.c_Yard dx (putF ("engine_end" : Str) (V.non) ([(("next_piece" : Str),V.int 0),(("kinds" : Str),V.ref a1),(("notes" : Str),V.ref a2),(("rods_under" : Str),V.ref a3),(("sides" : Str),V.ref a4),(("mates" : Str),V.ref a5)]:List (Str × V))))
  rw [show putF ("engine_end" : Str) (V.non) ([(("next_piece" : Str),V.int 0),(("kinds" : Str),V.ref a1),(("notes" : Str),V.ref a2),(("rods_under" : Str),V.ref a3),(("sides" : Str),V.ref a4),(("mates" : Str),V.ref a5)]:List (Str × V)) = ([(("next_piece" : Str),V.int 0),(("kinds" : Str),V.ref a1),(("notes" : Str),V.ref a2),(("rods_under" : Str),V.ref a3),(("sides" : Str),V.ref a4),(("mates" : Str),V.ref a5),(("engine_end" : Str),V.non)]:List (Str × V)) from by kernel_rfl] at h7 ⊢
  generalize upd H6 p _ = H7 at h7 ⊢
  refine ⟨by decide,fun a7 n7 => ?_⟩
  refine ⟨_,rfl,p,_,dx,_,rfl,(h7.alloc n7 (.lst [])).get 6 rfl,T.cl_Yard,T.n_Yard_rung,(show 7 < 1000 by decide),?_⟩
  have h8:=(h7.alloc n7 (.lst [])).puti 6 rfl (.ins t.c_Yard dx (putF ("rung" : Str) (V.ref a7) ([(("next_piece" : Str),V.int 0),(("kinds" : Str),V.ref a1),(("notes" : Str),V.ref a2),(("rods_under" : Str),V.ref a3),(("sides" : Str),V.ref a4),(("mates" : Str),V.ref a5),(("engine_end" : Str),V.non)]:List (Str × V))))
  rw [show putF ("rung" : Str) (V.ref a7) ([(("next_piece" : Str),V.int 0),(("kinds" : Str),V.ref a1),(("notes" : Str),V.ref a2),(("rods_under" : Str),V.ref a3),(("sides" : Str),V.ref a4),(("mates" : Str),V.ref a5),(("engine_end" : Str),V.non)]:List (Str × V)) = ([(("next_piece" : Str),V.int 0),(("kinds" : Str),V.ref a1),(("notes" : Str),V.ref a2),(("rods_under" : Str),V.ref a3),(("sides" : Str),V.ref a4),(("mates" : Str),V.ref a5),(("engine_end" : Str),V.non),(("rung" : Str),V.ref a7)]:List (Str × V)) from by kernel_rfl] at h8 ⊢
  generalize upd (upd H7 a7 _) p _ = H8 at h8 ⊢
  refine ⟨by decide,fun a8 n8 => ?_⟩
  refine ⟨_,rfl,p,_,dx,_,rfl,(h8.alloc n8 (.lst [])).get 7 rfl,T.cl_Yard,T.n_Yard_trail,(show 8 < 1000 by decide),?_⟩
  refine q _ ⟨p,dx,a8,a1,a2,a3,a4,a5,a7⟩ rfl ?_
  have h9:=(h8.alloc n8 (.lst [])).puti 7 rfl (.ins t.c_Yard dx (putF ("trail" : Str) (V.ref a8) ([(("next_piece" : Str),V.int 0),(("kinds" : Str),V.ref a1),(("notes" : Str),V.ref a2),(("rods_under" : Str),V.ref a3),(("sides" : Str),V.ref a4),(("mates" : Str),V.ref a5),(("engine_end" : Str),V.non),(("rung" : Str),V.ref a7)]:List (Str × V))))
  rw [show putF ("trail" : Str) (V.ref a8) ([(("next_piece" : Str),V.int 0),(("kinds" : Str),V.ref a1),(("notes" : Str),V.ref a2),(("rods_under" : Str),V.ref a3),(("sides" : Str),V.ref a4),(("mates" : Str),V.ref a5),(("engine_end" : Str),V.non),(("rung" : Str),V.ref a7)]:List (Str × V)) = ([(("next_piece" : Str),V.int 0),(("kinds" : Str),V.ref a1),(("notes" : Str),V.ref a2),(("rods_under" : Str),V.ref a3),(("sides" : Str),V.ref a4),(("mates" : Str),V.ref a5),(("engine_end" : Str),V.non),(("rung" : Str),V.ref a7),(("trail" : Str),V.ref a8)]:List (Str × V)) from by kernel_rfl] at h9 ⊢
  exact init_perm h9
end
def layY (y:YR) (k:Kd) (note:Int) (rod:V):YR :=
 { y with next:=y.next + 1,kinds:=putK y.kinds (Sum.inl y.next) (.str k.str),notes:=if k = .bell then putK y.notes (Sum.inl y.next) (.int note) else y.notes,rods:=if k.point then putK y.rods (Sum.inl y.next) (if rod = .non then .int y.sides.length else rod) else y.rods,sides:=if k.point /\ rod = .non then y.sides ++ [.int 1] else y.sides,trail:=[] }
structure Small (y:YR):Prop where
 k:y.kinds.length <= 10000
 n:y.notes.length <= 10000
 r:y.rods.length <= 10000
 s:y.sides.length <= 10000
 m:y.mates.length <= 30000
 g:y.rung.length <= 300000
 t:y.trail.length <= 300000
def sp_check_piece (C:Addr):Sp:=fun vs H Q _ => ∃ (A:YA) (y:YR) (L:Kn) (n:Int) (v:V),vs = [.ref A.p,.int n] /\ Has H (yL C A y ++ L) /\ valV y.kinds (Sum.inl n) = some v /\ Q .non H
def sp_check_rod (C:Addr):Sp:=fun vs H Q _ => ∃ (A:YA) (y:YR) (L:Kn) (r:Int),vs = [.ref A.p,.int r] /\ Has H (yL C A y ++ L) /\ 0 <= r /\ r < y.sides.length /\ Q .non H
def sp_Jf:Sp:=fun vs H Q _ => ∃ n:Int,vs = [.int n] /\ 0 <= n /\ n <= 9999 /\ Q .non H
def sp_new_rod (C:Addr):Sp:=fun vs H Q _ => ∃ (A:YA) (y:YR) (L:Kn) (s:Int),vs = [.ref A.p,.int s] /\ Has H (yL C A y ++ L) /\ (s = 1 ∨ s = 2) /\ y.sides.length <= 10000 /\
 ∀ H' q,Has H' (yL C { A with tr:=q } { y with sides:=y.sides ++ [.int s],trail:=[] } ++ L) -> Q (.int y.sides.length) H'
def sp_throw (C:Addr):Sp:=fun vs H Q _ => ∃ (A:YA) (y:YR) (L:Kn) (r s:Int),vs = [.ref A.p,.int r,.int s] /\ Has H (yL C A y ++ L) /\ 0 <= r /\ r < y.sides.length /\ (s = 1 ∨ s = 2) /\
 ∀ H' q,Has H' (yL C { A with tr:=q } { y with sides:=y.sides.set r.toNat (.int s),trail:=[] } ++ L) -> Q .non H'
def sp_rods (C:Addr):Sp:=fun vs H Q _ => ∃ (A:YA) (y:YR) (L:Kn),vs = [.ref A.p] /\ Has H (yL C A y ++ L) /\ Small y /\ ∀ H' l,Has H' ((l,.lst (intsV y.sides.length)) :: (yL C A y ++ L)) -> Q (.ref l) H'
def sp_side (C:Addr):Sp:=fun vs H Q _ => ∃ (A:YA) (y:YR) (L:Kn) (r:Int) (v:V),vs = [.ref A.p,.int r] /\ Has H (yL C A y ++ L) /\ 0 <= r /\ y.sides[r.toNat]? = some v /\ Q v H
def sp_rod (C:Addr):Sp:=fun vs H Q _ => ∃ (A:YA) (y:YR) (L:Kn) (n:Int) (u v:V),vs = [.ref A.p,.int n] /\ Has H (yL C A y ++ L) /\ valV y.kinds (Sum.inl n) = some u /\ valV y.rods (Sum.inl n) = some v /\ Q v H
def sp_lay (C:Addr):Sp:=fun vs H Q _ => ∃ (A:YA) (y:YR) (L:Kn) (k:Kd) (note:Int) (rod:V),vs = [.ref A.p,.str k.str,.int note,rod] /\ Has H (yL C A y ++ L) /\ Small y /\ (k = .bell -> 0 <= note /\ note <= 9999) /\
 (k.point = true -> rod ≠ .non -> ∃ r:Int,rod = .int r /\ 0 <= r /\ r < y.sides.length) /\ ∀ H' q,Has H' (yL C { A with tr:=q } (layY y k note rod) ++ L) -> Q (.int y.next) H'
section
variable {P:Program} {w:World} {K:PySem.W.Frag} {mg:Str -> Option Value} {base:Heap} {t:Adr}
theorem scEt:FnScope ["self"] ["self"] (defScope s_J2):=⟨rfl,rfl,rfl,by decide +kernel,rfl,by decide +kernel,by decide +kernel⟩
theorem ok_J2 (T:Txt K mg t):FnOk P w K mg base CX0 1 t.f_J2 t.d_J2 ["self"] (sp_end_trail t.c_Yard):=by
 refine T.F_J2.ok scEt (fun vs H Q E h => ?_) (fun cdv A outer s H vs Q E hr h => ?_)
 ·obtain ⟨_,_,_,rfl,_⟩:=h
  rfl
 ·obtain ⟨A,y,L,rfl,hH,q⟩:=h
  refine ⟨_,(pss_one (ps_fld (pv 0) (pe_lst pa_nil) rfl)),?_⟩
  refine ⟨by decide,fun a ha => ?_⟩
  have h1:=hH.alloc ha (.lst [])
  refine ⟨_,rfl,A.p,_,A.dx,_,rfl,h1.get 2 rfl,T.cl_Yard,T.n_Yard_trail,(show 9 < 1000 by decide),?_⟩
  refine q _ a ?_
  rw [fl_put_trail]
  have h2:=(h1.puti 2 rfl (.ins t.c_Yard A.dx (fl { A with tr:=a } y.next y.eng)))
  exact (h2.swap2).tail
theorem scCr:FnScope ["self","rod"] ["self","rod"] (defScope s_J3):=⟨rfl,rfl,rfl,by decide +kernel,rfl,by decide +kernel,by decide +kernel⟩
theorem ok_J3 (T:Txt K mg t):FnOk P w K mg base CX0 1 t.f_J3 t.d_J3 ["self","rod"] (sp_check_rod t.c_Yard):=by
 refine T.F_J3.ok scCr (fun vs H Q E h => ?_) (fun cdv A outer s H vs Q E hr h => ?_)
 ·obtain ⟨_,_,_,_,rfl,_⟩:=h
  rfl
 ·obtain ⟨A,y,L,r,rfl,hH,r0,r1,q⟩:=h
  refine ⟨_,(pss_one (ps_if (PW.pt (pw_or (pt_cmpR op_lt (pv 1) pe_int (nomark _)) (pw_or1 (pt_cmpR op_ge (pv 1) (pe_callB call_len_seq (by rfl) T.z_len (by rfl) (pa_cons (pe_fld (pv 0) rfl) pa_nil)) (nomark _)))))
    (pss_one ps_never)
    pss_nil)),?_⟩
  refine ⟨_,rfl,_,_,rfl,rfl,_,rfl,ifF (decide_eq_false (by omega)) ?_⟩
  refine ⟨_,rfl,_,rfl,A.p,_,A.dx,_,_,rfl,hH.get 1 rfl,T.cl_Yard,T.n_Yard_sides,fl_sides _ _ _,A.s,_,rfl,.inl (SqL.of (hH.get 6 rfl)),_,_,rfl,rfl,_,rfl,?_⟩
  exact ifF (decide_eq_false (by omega)) q
theorem scCn:FnScope ["note"] ["note"] (defScope s_Jf):=⟨rfl,rfl,rfl,by decide +kernel,rfl,by decide +kernel,by decide +kernel⟩
theorem ok_Jf (T:Txt K mg t):FnOk P w K mg base CX0 1 t.f_Jf t.d_Jf ["note"] sp_Jf:=by
 refine T.F_Jf.ok scCn (fun vs H Q E h => ?_) (fun cdv A outer s H vs Q E hr h => ?_)
 ·obtain ⟨_,rfl,_⟩:=h
  rfl
 ·obtain ⟨n,rfl,n0,n1,q⟩:=h
  refine ⟨_,(pss_one (ps_if (PW.pt (pw_or (pt_cmpR op_lt (pv 0) pe_int (nomark _)) (pw_or1 (pt_cmpR op_gt (pv 0) (pe_glob (by rfl) T.g_LAST_NOTE T.r_LAST_NOTE) (nomark _)))))
    (pss_one ps_never)
    pss_nil)),?_⟩
  refine ⟨_,rfl,_,_,rfl,rfl,_,rfl,ifF (decide_eq_false (by omega)) ?_⟩
  refine ⟨_,rfl,_,_,rfl,rfl,_,rfl,ifF (decide_eq_false (by omega)) q⟩
theorem scCp:FnScope ["self","piece"] ["self","piece"] (defScope s_J0):=⟨rfl,rfl,rfl,by decide +kernel,rfl,by decide +kernel,by decide +kernel⟩
theorem ok_J0 (T:Txt K mg t):FnOk P w K mg base CX0 1 t.f_J0 t.d_J0 ["self","piece"] (sp_check_piece t.c_Yard):=by
 refine T.F_J0.ok scCp (fun vs H Q E h => ?_) (fun cdv A outer s H vs Q E hr h => ?_)
 ·obtain ⟨_,_,_,_,_,rfl,_⟩:=h
  rfl
 ·obtain ⟨A,y,L,n,v,rfl,hH,hv,q⟩:=h
  have hu:=hu_of hr
  refine ⟨_,(pss_one (ps_if (pt_cmp (pc_dnotin hu (pv 1) (pe_fld (pv 0) rfl)))
    (pss_one ps_never)
    pss_nil)),?_⟩
  refine ⟨_,rfl,_,rfl,A.p,_,A.dx,_,_,rfl,hH.get 1 rfl,T.cl_Yard,T.n_Yard_kinds,fl_kinds _ _ _,A.k,_,rfl,DGet.k (k:=Sum.inl n) (hH.get 3 rfl),_,rfl,?_⟩
  exact ifF (by rw [hv]; rfl) q
theorem scNr:FnScope ["self","side"] ["self","side"] (defScope s_J6):=⟨rfl,rfl,rfl,by decide +kernel,rfl,by decide +kernel,by decide +kernel⟩
theorem ok_J6 (T:Txt K mg t):FnOk P w K mg base CX0 2 t.f_J6 t.d_J6 ["self","side"] (sp_new_rod t.c_Yard):=by
 refine T.F_J6.ok scNr (fun vs H Q E h => ?_) (fun cdv A outer s H vs Q E hr h => ?_)
 ·obtain ⟨_,_,_,_,rfl,_⟩:=h
  rfl
 ·obtain ⟨A,y,L,z,rfl,hH,hz,sm,q⟩:=h
  refine ⟨_,(pss_cons (ps_expr (pe_call (ok_J9 T) (hr.mono (by decide)) (by rfl) T.m_J9 T.F_J9.kp (b_J9 T) .nil pass0 (pa_cons (pv 1) pa_nil)))
   (pss_cons (ps_expr (pe_bm PySem.F.plainAttrs_list PySem.F.slot_list_append PySem.F.type_list_append mt_append (pe_fld (pv 0) rfl) (pa_cons (pv 1) pa_nil)))
   (pss_cons (ps_expr (pe_meth0 (pv 0) T.cl_Yard T.M_J2 (ok_J2 T) (hr.mono (by decide)) (b_J2 T) .nil pass0))
   (pss_one (ps_ret (pe_op op_sub (pe_callB call_len_seq (by rfl) T.z_len (by rfl) (pa_cons (pe_fld (pv 0) rfl) pa_nil)) pe_int)))))),?_⟩
  refine ⟨_,rfl,z,rfl,hz,?_⟩
  refine ⟨_,rfl,A.p,_,A.dx,_,_,rfl,hH.get 1 rfl,T.cl_Yard,T.n_Yard_sides,fl_sides _ _ _,.inl ⟨rfl,_,SqL.of (hH.get 6 rfl)⟩,_,rfl,A.s,_,_,rfl,rfl,hH.get 6 rfl,sizeOk (by omega),?_⟩
  have h1:Has _ (yL t.c_Yard A { y with sides:=y.sides ++ [.int z] } ++ L):=hH.puti 6 rfl (.lst (y.sides ++ [.int z]))
  refine ⟨_,rfl,A.p,A.dx,_,rfl,h1.get 1 rfl,(fl_m _ _ _).2.2.2.2.2.2.1,A,_,L,rfl,h1,fun H' a h2 => ?_⟩
  refine ⟨_,rfl,A.p,_,A.dx,_,_,rfl,h2.get 1 rfl,T.cl_Yard,T.n_Yard_sides,fl_sides _ _ _,A.s,_,rfl,.inl (SqL.of (h2.get 6 rfl)),_,_,rfl,rfl,?_⟩
  have e:((y.sides ++ [V.int z]).length:Int) - 1 = y.sides.length:=by rw [List.length_append,List.length_singleton]; omega
  show Q (.int (((y.sides ++ [V.int z]).length:Int) - 1)) H'
  rw [e]
  exact q H' a h2
theorem scTh:FnScope ["self","rod","side"] ["self","rod","side"] (defScope s_Jh):=⟨rfl,rfl,rfl,by decide +kernel,rfl,by decide +kernel,by decide +kernel⟩
theorem ok_Jh (T:Txt K mg t):FnOk P w K mg base CX0 2 t.f_Jh t.d_Jh ["self","rod","side"] (sp_throw t.c_Yard):=by
 refine T.F_Jh.ok scTh (fun vs H Q E h => ?_) (fun cdv A outer s H vs Q E hr h => ?_)
 ·obtain ⟨_,_,_,_,_,rfl,_⟩:=h
  rfl
 ·obtain ⟨A,y,L,r,z,rfl,hH,r0,r1,hz,q⟩:=h
  refine ⟨_,(pss_cons (ps_expr (pe_meth (pv 0) T.cl_Yard T.M_J3 (ok_J3 T) (hr.mono (by decide)) (b_J3 T) .nil pass0 (pa_cons (pv 1) pa_nil)))
   (pss_cons (ps_expr (pe_call (ok_J9 T) (hr.mono (by decide)) (by rfl) T.m_J9 T.F_J9.kp (b_J9 T) .nil pass0 (pa_cons (pv 2) pa_nil)))
   (pss_cons (ps_asg (pv 2) (pg_sub (pe_fld (pv 0) rfl) (pv 1) set_list))
   (pss_one (ps_expr (pe_meth0 (pv 0) T.cl_Yard T.M_J2 (ok_J2 T) (hr.mono (by decide)) (b_J2 T) .nil pass0)))))),?_⟩
  refine ⟨_,rfl,A.p,A.dx,_,rfl,hH.get 1 rfl,(fl_m _ _ _).2.2.2.2.2.2.2.2,_,rfl,A,y,L,r,rfl,hH,r0,r1,?_⟩
  refine ⟨_,rfl,z,rfl,hz,?_⟩
  have hj:ixN y.sides.length r = some r.toNat:=by unfold ixN; rw [if_pos r0,if_pos r1]
  refine ⟨_,rfl,_,rfl,A.p,_,A.dx,_,_,rfl,hH.get 1 rfl,T.cl_Yard,T.n_Yard_sides,fl_sides _ _ _,_,rfl,A.s,_,r,r.toNat,rfl,rfl,hH.get 6 rfl,hj,?_⟩
  have h1:Has _ (yL t.c_Yard A { y with sides:=y.sides.set r.toNat (.int z) } ++ L):=hH.puti 6 rfl (.lst (y.sides.set r.toNat (.int z)))
  exact ⟨_,rfl,A.p,A.dx,_,rfl,h1.get 1 rfl,(fl_m _ _ _).2.2.2.2.2.2.1,A,_,L,rfl,h1,fun H' a h2 => q H' a h2⟩
theorem scRs:FnScope ["self"] ["self"] (defScope s_Js):=⟨rfl,rfl,rfl,by decide +kernel,rfl,by decide +kernel,by decide +kernel⟩
theorem ok_Js (T:Txt K mg t):FnOk P w K mg base CX0 1 t.f_Js t.d_Js ["self"] (sp_rods t.c_Yard):=by
 refine T.F_Js.ok scRs (fun vs H Q E h => ?_) (fun cdv A outer s H vs Q E hr h => ?_)
 ·obtain ⟨_,_,_,rfl,_⟩:=h
  rfl
 ·obtain ⟨A,y,L,rfl,hH,sm,q⟩:=h
  refine ⟨_,(pss_one (ps_ret (pe_callTy (call_list_rng rfl) (by rfl) T.z_list (by rfl) (pa_cons (pe_callTy call_range1 (by rfl) T.z_range (by rfl) (pa_cons (pe_callB call_len_seq (by rfl) T.z_len (by rfl) (pa_cons (pe_fld (pv 0) rfl) pa_nil)) pa_nil)) pa_nil)))),?_⟩
  have:=sm.s
  refine ⟨_,rfl,A.p,_,A.dx,_,_,rfl,hH.get 1 rfl,T.cl_Yard,T.n_Yard_sides,fl_sides _ _ _,A.s,_,rfl,.inl (SqL.of (hH.get 6 rfl)),_,rfl,fun a ha => ?_⟩
  have h1:=hH.alloc ha (.rng 0 y.sides.length)
  refine ⟨a,_,rfl,h1.get 0 rfl,by omega,by omega,fun l hl => ?_⟩
  have h2:=h1.alloc hl (.lst (intsV ((y.sides.length:Int)).toNat))
  refine q _ l ?_
  exact h2.swap2.tail
theorem scSi:FnScope ["self","rod"] ["self","rod"] (defScope s_Jr):=⟨rfl,rfl,rfl,by decide +kernel,rfl,by decide +kernel,by decide +kernel⟩
theorem ok_Jr (T:Txt K mg t):FnOk P w K mg base CX0 2 t.f_Jr t.d_Jr ["self","rod"] (sp_side t.c_Yard):=by
 refine T.F_Jr.ok scSi (fun vs H Q E h => ?_) (fun cdv A outer s H vs Q E hr h => ?_)
 ·obtain ⟨_,_,_,_,_,rfl,_⟩:=h
  rfl
 ·obtain ⟨A,y,L,r,v,rfl,hH,r0,hv,q⟩:=h
  have r1:r < y.sides.length:=by have:=(List.getElem?_eq_some_iff.mp hv).1; omega
  have er:(r.toNat:Int) = r:=by omega
  refine ⟨_,(pss_cons (ps_expr (pe_meth (pv 0) T.cl_Yard T.M_J3 (ok_J3 T) (hr.mono (by decide)) (b_J3 T) .nil pass0 (pa_cons (pv 1) pa_nil)))
   (pss_one (ps_ret (pe_ix ix_list (pe_fld (pv 0) rfl) (pv 1) (fun _ _ => rfl))))),?_⟩
  refine ⟨_,rfl,A.p,A.dx,_,rfl,hH.get 1 rfl,(fl_m _ _ _).2.2.2.2.2.2.2.2,_,rfl,A,y,L,r,rfl,hH,r0,r1,?_⟩
  exact ⟨_,rfl,A.p,_,A.dx,_,_,rfl,hH.get 1 rfl,T.cl_Yard,T.n_Yard_sides,fl_sides _ _ _,_,rfl,A.s,_,r,v,rfl,rfl,SqL.of (hH.get 6 rfl),(by rw [<- er]; exact atI_nat hv),q⟩
theorem scRo:FnScope ["self","piece"] ["self","piece"] (defScope s_Jz):=⟨rfl,rfl,rfl,by decide +kernel,rfl,by decide +kernel,by decide +kernel⟩
theorem ok_Jz (T:Txt K mg t):FnOk P w K mg base CX0 2 t.f_Jz t.d_Jz ["self","piece"] (sp_rod t.c_Yard):=by
 refine T.F_Jz.ok scRo (fun vs H Q E h => ?_) (fun cdv A outer s H vs Q E hr h => ?_)
 ·obtain ⟨_,_,_,_,_,_,rfl,_⟩:=h
  rfl
 ·obtain ⟨A,y,L,n,u,v,rfl,hH,hk,hv,q⟩:=h
  have hu:=hu_of hr
  refine ⟨_,(pss_cons (ps_expr (pe_meth (pv 0) T.cl_Yard T.M_J0 (ok_J0 T) (hr.mono (by decide)) (b_J0 T) .nil pass0 (pa_cons (pv 1) pa_nil)))
   (pss_cons (ps_if (pt_cmp (pc_dnotin hu (pv 1) (pe_fld (pv 0) rfl)))
    (pss_one ps_never)
    pss_nil)
   (pss_one (ps_ret (pe_dget hu (pe_fld (pv 0) rfl) (pv 1) (fun _ _ => rfl)))))),?_⟩
  refine ⟨_,rfl,A.p,A.dx,_,rfl,hH.get 1 rfl,(fl_m _ _ _).2.2.2.2.2.2.2.1,_,rfl,A,y,L,n,u,rfl,hH,hk,?_⟩
  refine ⟨_,rfl,_,rfl,A.p,_,A.dx,_,_,rfl,hH.get 1 rfl,T.cl_Yard,T.n_Js_under,fl_rods _ _ _,A.r,_,rfl,DGet.k (k:=Sum.inl n) (hH.get 5 rfl),_,rfl,ifF (by rw [hv]; rfl) ?_⟩
  refine ⟨_,rfl,A.p,_,A.dx,_,_,rfl,hH.get 1 rfl,T.cl_Yard,T.n_Js_under,fl_rods _ _ _,_,rfl,A.r,_,rfl,?_,q⟩
  rw [<- hv]
  exact DGet.k (k:=Sum.inl n) (hH.get 5 rfl)
theorem scLy:FnScope ["self","kind","note","rod","point","piece"] ["self","kind","note","rod"] (defScope s_Jx):=⟨rfl,rfl,rfl,by decide +kernel,rfl,by decide +kernel,by decide +kernel⟩
theorem ok_Jx (T:Txt K mg t):FnOk P w K mg base CX0 3 t.f_Jx t.d_Jx ["self","kind","note","rod"] (sp_lay t.c_Yard):=by
 obtain ⟨ds_nr,hd_J6_1,hb_J6_1⟩:=bD_J6_1 T
 refine T.F_Jx.ok scLy (fun vs H Q E h => ?_) (fun cdv A outer s H vs Q E hr h => ?_)
 ·obtain ⟨_,_,_,_,_,_,rfl,_⟩:=h
  rfl
 ·obtain ⟨A,y,L,k,note,rod,rfl,hH,sm,hnote,hrod,q⟩:=h
  have hu:=hu_of hr
  refine ⟨_,(pss_cons (ps_set (i:=4) scLy.nd rfl (Or.inl rfl) (pe_call (ok_Jv T) (hr.mono (by decide)) (by rfl) T.m_Jv T.F_Jv.kp (b_Jv T) .nil pass0 (pa_cons (pv 1) pa_nil)))
   (pss_cons (ps_if (pt_cmpR op_eq (pv 1) pe_str (nomark _))
    (pss_one (ps_expr (pe_call (ok_Jf T) (hr.mono (by decide)) (by rfl) T.m_Jf T.F_Jf.kp (b_Jf T) .nil pass0 (pa_cons (pv 2) pa_nil))))
    pss_nil)
   (pss_cons (ps_if (PW.pt (pw_and (pt_val (pv 4)) (pw_and1 (pt_cmpR op_notN (pv 3) pe_non (nomark _)))))
    (pss_one (ps_expr (pe_meth (pv 0) T.cl_Yard T.M_J3 (ok_J3 T) (hr.mono (by decide)) (b_J3 T) .nil pass0 (pa_cons (pv 3) pa_nil))))
    pss_nil)
   (pss_cons (ps_set (i:=5) scLy.nd rfl (Or.inl rfl) (pe_fld (pv 0) rfl))
   (pss_cons (ps_fldaug (pv 0) pe_int in_add)
   (pss_cons (ps_dput hu (pe_fld (pv 0) rfl) (pv 5) (pv 1) rfl)
   (pss_cons (ps_if (pt_cmpR op_eq (pv 1) pe_str (nomark _))
    (pss_one (ps_dput hu (pe_fld (pv 0) rfl) (pv 5) (pv 2) rfl))
    pss_nil)
   (pss_cons (ps_if (pt_val (pv 4))
    (pss_one (ps_dput hu (pe_fld (pv 0) rfl) (pv 5) (pe_ifExp (pt_cmpR op_isN (pv 3) pe_non (nomark _)) (pe_meth0 (pv 0) T.cl_Yard T.M_J6 (ok_J6 T) (hr.mono (by decide)) hb_J6_1 hd_J6_1 pass0) (pv 3)) rfl))
    pss_nil)
   (pss_cons (ps_expr (pe_meth0 (pv 0) T.cl_Yard T.M_J2 (ok_J2 T) (hr.mono (by decide)) (b_J2 T) .nil pass0))
   (pss_one (ps_ret (pv 5)))))))))))),?_⟩
  refine ⟨_,rfl,k,rfl,?_⟩
  refine ⟨_,rfl,rfl,_,rfl,ifJ (fun hc g => ?_) ?_⟩
  ·rw [k.isBell] at hc
   have hb:=hnote (of_decide_eq_true hc)
   exact ⟨_,rfl,note,rfl,hb.1,hb.2,g⟩
  refine ⟨_,rfl,_,rfl,?_⟩
  refine (fun (g:_) => if2 (fun hp => ⟨_,rfl,rfl,_,rfl,ifJ (fun hc g' => ?a) g⟩) (fun hp => iteF g)) ?b
  case a =>
   have hn:rod ≠ .non:=by simpa using hc
   obtain ⟨r,rfl,r0,r1⟩:=hrod hp hn
   exact ⟨_,rfl,A.p,A.dx,_,rfl,hH.get 1 rfl,(fl_m _ _ _).2.2.2.2.2.2.2.2,_,rfl,A,y,L,r,rfl,hH,r0,r1,g'⟩
  refine ⟨_,rfl,A.p,_,A.dx,_,_,rfl,hH.get 1 rfl,T.cl_Yard,T.n_Yard_next_piece,fl_next _ _ _,?_⟩
  refine ⟨_,rfl,A.p,_,A.dx,_,_,rfl,hH.get 1 rfl,T.cl_Yard,T.n_Yard_next_piece,fl_next _ _ _,_,_,rfl,rfl,_,_,hH.get 1 rfl,(show 9 < 1000 by decide),?_⟩
  rw [fl_put_next]
  have h1:Has _ (yL t.c_Yard A { y with next:=y.next + 1 } ++ L):=hH.puti 1 rfl (.ins t.c_Yard A.dx (fl A (y.next + 1) y.eng))
  generalize upd H A.p _ = H1 at h1 ⊢
  refine ⟨_,rfl,_,rfl,A.p,_,A.dx,_,_,rfl,h1.get 1 rfl,T.cl_Yard,T.n_Yard_kinds,fl_kinds _ _ _,_,rfl,A.k,_,rfl,DPut.k (k:=Sum.inl y.next) (h1.get 3 rfl) (sizeOk (show y.kinds.length <= 1000000 by have:=sm.k; omega)),?_⟩
  have h2:Has _ (yL t.c_Yard A { y with next:=y.next + 1,kinds:=putK y.kinds (Sum.inl y.next) (.str k.str) } ++ L):=h1.puti 3 rfl (.dK (putK y.kinds (Sum.inl y.next) (.str k.str)))
  generalize upd H1 A.k _ = H2 at h2 ⊢
  refine ⟨_,rfl,rfl,_,rfl,?_⟩
  rw [k.isBell]
  have fin:∀ (H3:Hp) (A3:YA) (y3:YR),A3.p = A.p -> (∀ q,{ A3 with tr:=q } = { A with tr:=q }) -> { y3 with trail:=[] } = layY y k note rod -> Has H3 (yL t.c_Yard A3 y3 ++ L) ->
    tSeq (tDrop (tMeth t.c_Yard "end_trail" (sp_end_trail t.c_Yard) [] E0 (tVar 0) tNil)) (tRet (tVar 5)) { nx:=fun _ H' => Q .non H',rt:=Q } [some (.ref A.p),some (.str k.str),some (.int note),some rod,some (.bl k.point),some (.int y.next)] H3:=fun H3 A3 y3 e1 e2 e3 h3 => by
   have g1:=h3.get 1 rfl
   rw [e1] at g1
   refine ⟨_,rfl,A.p,A3.dx,_,rfl,g1,(fl_m _ _ _).2.2.2.2.2.2.1,A3,y3,L,(by rw [e1]; rfl),h3,fun H4 a h4 => ⟨_,rfl,?_⟩⟩
   rw [e2,e3] at h4
   exact q H4 a h4
  refine ifd (fun hb => ?_) (fun hb => ?_)
  ·subst hb
   refine ⟨_,rfl,_,rfl,A.p,_,A.dx,_,_,rfl,h2.get 1 rfl,T.cl_Yard,T.n_Yard_notes,fl_notes _ _ _,_,rfl,A.n,_,rfl,DPut.k (k:=Sum.inl y.next) (h2.get 4 rfl) (sizeOk (show y.notes.length <= 1000000 by have:=sm.n; omega)),?_⟩
   have h3:Has _ (yL t.c_Yard A { y with next:=y.next + 1,kinds:=putK y.kinds (Sum.inl y.next) (.str Kd.bell.str),notes:=putK y.notes (Sum.inl y.next) (.int note) } ++ L):=h2.puti 4 rfl (.dK (putK y.notes (Sum.inl y.next) (.int note)))
   refine ⟨_,rfl,_,rfl,iteF ?_⟩
   exact fin _ A _ rfl (fun _ => rfl) rfl h3
  ·refine ⟨_,rfl,_,rfl,if2 (fun hp => ?_) (fun hp => ?_)⟩
   ·refine ⟨_,rfl,rfl,_,rfl,ifd (fun hn => ?_) (fun hn => ?_)⟩
    ·subst hn
     refine ⟨_,rfl,A.p,A.dx,_,rfl,h2.get 1 rfl,(fl_m _ _ _).2.1,A,_,L,1,rfl,h2,.inl rfl,sm.s,fun H3 a h3 => ?_⟩
     refine ⟨_,rfl,A.p,_,A.dx,_,_,rfl,h3.get 1 rfl,T.cl_Yard,T.n_Js_under,fl_rods _ _ _,_,rfl,A.r,_,rfl,DPut.k (k:=Sum.inl y.next) (h3.get 5 rfl) (sizeOk (show y.rods.length <= 1000000 by have:=sm.r; omega)),?_⟩
     have h4:Has _ (yL t.c_Yard { A with tr:=a } { y with next:=y.next + 1,kinds:=putK y.kinds (Sum.inl y.next) (.str k.str),rods:=putK y.rods (Sum.inl y.next) (.int y.sides.length),sides:=y.sides ++ [.int 1],trail:=[] } ++ L):=h3.puti 5 rfl (.dK (putK y.rods (Sum.inl y.next) (.int y.sides.length)))
     exact fin _ { A with tr:=a } _ rfl (fun _ => rfl) (by unfold layY; rw [if_neg hb,if_pos hp,if_pos rfl,if_pos ⟨hp,rfl⟩]) h4
    ·refine ⟨_,rfl,_,rfl,A.p,_,A.dx,_,_,rfl,h2.get 1 rfl,T.cl_Yard,T.n_Js_under,fl_rods _ _ _,_,rfl,A.r,_,rfl,DPut.k (k:=Sum.inl y.next) (h2.get 5 rfl) (sizeOk (show y.rods.length <= 1000000 by have:=sm.r; omega)),?_⟩
     have h3:Has _ (yL t.c_Yard A { y with next:=y.next + 1,kinds:=putK y.kinds (Sum.inl y.next) (.str k.str),rods:=putK y.rods (Sum.inl y.next) rod } ++ L):=h2.puti 5 rfl (.dK (putK y.rods (Sum.inl y.next) rod))
     exact fin _ A _ rfl (fun _ => rfl) (by unfold layY; rw [if_neg hb,if_pos hp,if_neg hn,if_neg (fun z => hn z.2)]) h3
   ·exact fin _ A _ rfl (fun _ => rfl) (by unfold layY; rw [if_neg hb,if_neg (by rw [hp]; exact Bool.false_ne_true),if_neg (fun z => by rw [hp] at z; exact Bool.false_ne_true z.1)]) h2
end
end P
set_option Elab.async false
set_option linter.all false
set_option maxRecDepth 100000
set_option maxHeartbeats 4000000
namespace P
open PySem L2
abbrev kE (n e:Int):List Key:=[Sum.inl n,Sum.inl e]
theorem fl_m2 (A:YA) (next:Int) (eng:V):(fl A next eng).lookup ("check_there" : Str) = none /\ (fl A next eng).lookup ("mate" : Str) = none /\ (fl A next eng).lookup ("link" : Str) = none /\ (fl A next eng).lookup ("unlink" : Str) = none :=
 ⟨by kernel_rfl,by kernel_rfl,by kernel_rfl,by kernel_rfl⟩
def There (y:YR) (n e:Int):Prop:=∃ k:Kd,valV y.kinds (Sum.inl n) = some (.str k.str) /\ 0 <= e /\ e < k.many
def sp_check_there (C:Addr):Sp:=fun vs H Q _ => ∃ (A:YA) (y:YR) (L:Kn) (b:Addr) (n e:Int) (j:Nat),vs = [.ref A.p,.ref b] /\ Has H (yL C A y ++ L) /\ L[j]? = some (b,.tup [.int n,.int e]) /\ There y n e /\ Q .non H
def sp_mate (C:Addr):Sp:=fun vs H Q _ => ∃ (A:YA) (y:YR) (L:Kn) (b:Addr) (n e:Int) (j:Nat),vs = [.ref A.p,.ref b] /\ Has H (yL C A y ++ L) /\ L[j]? = some (b,.tup [.int n,.int e]) /\ There y n e /\ Q ((valV y.mates (kE n e)).getD .non) H
def sp_link (C:Addr):Sp:=fun vs H Q _ => ∃ (A:YA) (y:YR) (L:Kn) (b1 b2:Addr) (n1 e1 n2 e2:Int) (j1 j2:Nat),vs = [.ref A.p,.ref b1,.ref b2] /\ Has H (yL C A y ++ L) /\ L[j1]? = some (b1,.tup [.int n1,.int e1]) /\ L[j2]? = some (b2,.tup [.int n2,.int e2]) /\
 There y n1 e1 /\ There y n2 e2 /\ ¬ kE n1 e1 = kE n2 e2 /\ valV y.mates (kE n1 e1) = none /\ valV y.mates (kE n2 e2) = none /\ y.mates.length <= 30000 /\
 ∀ H' q,Has H' (yL C { A with tr:=q } { y with mates:=putK (putK y.mates (kE n1 e1) (.ref b2)) (kE n2 e2) (.ref b1),trail:=[] } ++ L) -> Q .non H'
section
variable {P:Program} {w:World} {K:PySem.W.Frag} {mg:Str -> Option Value} {base:Heap} {t:Adr}
theorem scCt:FnScope ["self","end","piece","place"] ["self","end"] (defScope s_J1):=⟨rfl,rfl,rfl,by decide +kernel,rfl,by decide +kernel,by decide +kernel⟩
theorem ok_J1 (T:Txt K mg t):FnOk P w K mg base CX0 3 t.f_J1 t.d_J1 ["self","end"] (sp_check_there t.c_Yard):=by
 refine T.F_J1.ok scCt (fun vs H Q E h => ?_) (fun cdv A outer s H vs Q E hr h => ?_)
 ·obtain ⟨_,_,_,_,_,_,_,rfl,_⟩:=h
  rfl
 ·obtain ⟨A,y,L,b,n,e,j,rfl,hH,hj,⟨k,hk,e0,e1⟩,q⟩:=h
  have hu:=hu_of hr
  refine ⟨_,(pss_cons (ps_asg (pv 1) (pg_tup rfl (pgs_cons (pg_name (i:=2) scCt.nd rfl (Or.inl rfl)) (pgs_cons (pg_name (i:=3) scCt.nd rfl (Or.inl rfl)) pgs_nil))))
   (pss_cons (ps_expr (pe_meth (pv 0) T.cl_Yard T.M_J0 (ok_J0 T) (hr.mono (by decide)) (b_J0 T) .nil pass0 (pa_cons (pv 2) pa_nil)))
   (pss_one (ps_expr (pe_call (ok_Jl T) (hr.mono (by decide)) (by rfl) T.m_Jl T.F_Jl.kp (b_Jl T) .nil pass0 (pa_cons (pe_dget hu (pe_fld (pv 0) rfl) (pv 2) (fun _ _ => rfl)) (pa_cons (pv 3) pa_nil))))))),?_⟩
  have gb:=hH.get (j + 9) (by simpa [yL] using hj)
  refine ⟨_,rfl,b,_,rfl,SqT.of gb,rfl,_,_,rfl,_,_,rfl,rfl,?_⟩
  refine ⟨_,rfl,A.p,A.dx,_,rfl,hH.get 1 rfl,(fl_m _ _ _).2.2.2.2.2.2.2.1,_,rfl,A,y,L,n,_,rfl,hH,hk,?_⟩
  refine ⟨_,rfl,A.p,_,A.dx,_,_,rfl,hH.get 1 rfl,T.cl_Yard,T.n_Yard_kinds,fl_kinds _ _ _,_,rfl,A.k,_,rfl,?_,_,rfl,k,e,rfl,e0,e1,q⟩
  rw [<- hk]
  exact DGet.k (k:=Sum.inl n) (hH.get 3 rfl)
theorem scMt:FnScope ["self","end"] ["self","end"] (defScope s_Jq):=⟨rfl,rfl,rfl,by decide +kernel,rfl,by decide +kernel,by decide +kernel⟩
theorem ok_Jq (T:Txt K mg t):FnOk P w K mg base CX0 4 t.f_Jq t.d_Jq ["self","end"] (sp_mate t.c_Yard):=by
 refine T.F_Jq.ok scMt (fun vs H Q E h => ?_) (fun cdv A outer s H vs Q E hr h => ?_)
 ·obtain ⟨_,_,_,_,_,_,_,rfl,_⟩:=h
  rfl
 ·obtain ⟨A,y,L,b,n,e,j,rfl,hH,hj,th,q⟩:=h
  have hu:=hu_of hr
  refine ⟨_,(pss_cons (ps_expr (pe_meth (pv 0) T.cl_Yard T.M_J1 (ok_J1 T) (hr.mono (by decide)) (b_J1 T) .nil pass0 (pa_cons (pv 1) pa_nil)))
   (pss_one (ps_ret (pe_dget1 hu (pe_fld (pv 0) rfl) (pv 1) ⟨rfl,rfl,rfl,rfl⟩)))),?_⟩
  have gb:=hH.get (j + 9) (by simpa [yL] using hj)
  refine ⟨_,rfl,A.p,A.dx,_,rfl,hH.get 1 rfl,(fl_m2 _ _ _).1,_,rfl,A,y,L,b,n,e,j,rfl,hH,hj,th,?_⟩
  exact ⟨_,rfl,A.p,_,A.dx,_,_,rfl,hH.get 1 rfl,T.cl_Yard,T.n_Yard_mates,fl_mates _ _ _,A.m,rfl,.inr ⟨_,.inl (hH.get 7 rfl)⟩,_,rfl,_,DGet.t (k:=kE n e) (hH.get 7 rfl) gb,q⟩
theorem scLk:FnScope ["self","one","other","end"] ["self","one","other"] (defScope s_Jo):=⟨rfl,rfl,rfl,by decide +kernel,rfl,by decide +kernel,by decide +kernel⟩
theorem ok_Jo (T:Txt K mg t):FnOk P w K mg base CX0 4 t.f_Jo t.d_Jo ["self","one","other"] (sp_link t.c_Yard):=by
 refine T.F_Jo.ok scLk (fun vs H Q E h => ?_) (fun cdv A outer s H vs Q E hr h => ?_)
 ·obtain ⟨_,_,_,_,_,_,_,_,_,_,_,rfl,_⟩:=h
  rfl
 ·obtain ⟨A,y,L,b1,b2,n1,e1,n2,e2,j1,j2,rfl,hH,hj1,hj2,t1,t2,ne,v1,v2,hl,q⟩:=h
  have hu:=hu_of hr
  refine ⟨_,(pss_cons (ps_expr (pe_meth (pv 0) T.cl_Yard T.M_J1 (ok_J1 T) (hr.mono (by decide)) (b_J1 T) .nil pass0 (pa_cons (pv 1) pa_nil)))
   (pss_cons (ps_expr (pe_meth (pv 0) T.cl_Yard T.M_J1 (ok_J1 T) (hr.mono (by decide)) (b_J1 T) .nil pass0 (pa_cons (pv 2) pa_nil)))
   (pss_cons (ps_if (pt_cmpR (op_eqT hr.units) (pv 1) (pv 2) (nomark _))
    (pss_one ps_never)
    pss_nil)
   (pss_cons (ps_for PassesOwn.never rfl (pi_tup (pe_tup (pa_cons (pv 1) (pa_cons (pv 2) pa_nil)))) (pg_name (i:=3) scLk.nd rfl (Or.inl rfl))
    (pss_one (ps_if (pt_cmp (pc_din hu (pv 3) (pe_fld (pv 0) rfl)))
      (pss_one ps_never)
      pss_nil)))
   (pss_cons (ps_dput hu (pe_fld (pv 0) rfl) (pv 1) (pv 2) rfl)
   (pss_cons (ps_dput hu (pe_fld (pv 0) rfl) (pv 2) (pv 1) rfl)
   (pss_one (ps_expr (pe_meth0 (pv 0) T.cl_Yard T.M_J2 (ok_J2 T) (hr.mono (by decide)) (b_J2 T) .nil pass0))))))))),?_⟩
  have g1:=hH.get (j1 + 9) (by simpa [yL] using hj1)
  have g2:=hH.get (j2 + 9) (by simpa [yL] using hj2)
  refine ⟨_,rfl,A.p,A.dx,_,rfl,hH.get 1 rfl,(fl_m2 _ _ _).1,_,rfl,A,y,L,b1,n1,e1,j1,rfl,hH,hj1,t1,?_⟩
  refine ⟨_,rfl,A.p,A.dx,_,rfl,hH.get 1 rfl,(fl_m2 _ _ _).1,_,rfl,A,y,L,b2,n2,e2,j2,rfl,hH,hj2,t2,?_⟩
  have ne':¬ [n1,e1] = [n2,e2]:=fun z => ne (by cases z; rfl)
  refine ⟨_,rfl,_,rfl,b1,b2,[n1,e1],[n2,e2],rfl,rfl,g1,g2,_,rfl,ifF (decide_eq_false ne') ?_⟩
  refine ⟨_,rfl,_,rfl,(show 2 <= sizeLine by decide),fun p hp => ?_⟩
  have h1:=(hH.alloc hp (.tup [.ref b1,.ref b2]))
  generalize upd H p _ = H1 at h1 ⊢
  refine ⟨p,rfl,⟨_,SqT.of (h1.get 0 rfl)⟩,for_tup (xs:=[.ref b1,.ref b2]) (fun i σ H' => H' = H1 /\ ∃ o,σ = [some (.ref A.p),some (.ref b1),some (.ref b2),o]) ⟨rfl,_,rfl⟩ (fun i σ H' _ ⟨e,_⟩ => by rw [e]; exact SqT.of (h1.get 0 rfl)) ?_ ?_⟩
  ·rintro i x σ H' hx ⟨rfl,o,rfl⟩
   have k1:=h1.get (j1 + 10) (by simpa [yL] using hj1)
   have k2:=h1.get (j2 + 10) (by simpa [yL] using hj2)
   match i,hx with
   | 0,hx =>
    cases hx
    refine ⟨_,rfl,_,rfl,A.p,_,A.dx,_,_,rfl,h1.get 2 rfl,T.cl_Yard,T.n_Yard_mates,fl_mates _ _ _,A.m,_,rfl,DGet.t (k:=kE n1 e1) (h1.get 8 rfl) k1,_,rfl,ifF (by rw [v1]; rfl) ⟨rfl,_,rfl⟩⟩
   | 1,hx =>
    cases hx
    refine ⟨_,rfl,_,rfl,A.p,_,A.dx,_,_,rfl,h1.get 2 rfl,T.cl_Yard,T.n_Yard_mates,fl_mates _ _ _,A.m,_,rfl,DGet.t (k:=kE n2 e2) (h1.get 8 rfl) k2,_,rfl,ifF (by rw [v2]; rfl) ⟨rfl,_,rfl⟩⟩
  ·rintro σ H' ⟨rfl,o,rfl⟩
   have h2:=h1.tail
   have k1:=h2.get (j1 + 9) (by simpa [yL] using hj1)
   refine ⟨_,rfl,_,rfl,A.p,_,A.dx,_,_,rfl,h2.get 1 rfl,T.cl_Yard,T.n_Yard_mates,fl_mates _ _ _,_,rfl,A.m,_,rfl,DPut.t (k:=kE n1 e1) (h2.get 7 rfl) k1 (sizeOk (by omega)),?_⟩
   have h3:Has _ (yL t.c_Yard A { y with mates:=putK y.mates (kE n1 e1) (.ref b2) } ++ L):=h2.puti 7 rfl (.dT (putK y.mates (kE n1 e1) (.ref b2)))
   generalize upd H' A.m _ = H3 at h3 ⊢
   have k2:=h3.get (j2 + 9) (by simpa [yL] using hj2)
   refine ⟨_,rfl,_,rfl,A.p,_,A.dx,_,_,rfl,h3.get 1 rfl,T.cl_Yard,T.n_Yard_mates,fl_mates _ _ _,_,rfl,A.m,_,rfl,DPut.t (k:=kE n2 e2) (h3.get 7 rfl) k2 (sizeOk (Nat.le_trans (length_putK _ _ _) (by omega))),?_⟩
   have h4:Has _ (yL t.c_Yard A { y with mates:=putK (putK y.mates (kE n1 e1) (.ref b2)) (kE n2 e2) (.ref b1) } ++ L):=h3.puti 7 rfl (.dT (putK (putK y.mates (kE n1 e1) (.ref b2)) (kE n2 e2) (.ref b1)))
   exact ⟨_,rfl,A.p,A.dx,_,rfl,h4.get 1 rfl,(fl_m _ _ _).2.2.2.2.2.2.1,A,_,L,rfl,h4,fun H' a h2 => q H' a h2⟩
end
theorem fl_m4 (A:YA) (next:Int) (eng:V):(fl A next eng).lookup ("put" : Str) = none /\ (fl A next eng).lookup ("off" : Str) = none /\ (fl A next eng).lookup ("carry" : Str) = none /\ (fl A next eng).lookup ("pieces" : Str) = none /\ (fl A next eng).lookup ("kind" : Str) = none /\
  (fl A next eng).lookup ("note" : Str) = none /\ (fl A next eng).lookup ("engine" : Str) = none /\ (fl A next eng).lookup ("bells" : Str) = none /\ (fl A next eng).lookup ("steps" : Str) = none :=
 ⟨by kernel_rfl,by kernel_rfl,by kernel_rfl,by kernel_rfl,by kernel_rfl,by kernel_rfl,by kernel_rfl,by kernel_rfl,by kernel_rfl⟩
def sp_put (C:Addr):Sp:=fun vs H Q _ => ∃ (A:YA) (y:YR) (L:Kn) (b:Addr) (n e:Int) (j:Nat),vs = [.ref A.p,.ref b] /\ Has H (yL C A y ++ L) /\ L[j]? = some (b,.tup [.int n,.int e]) /\ There y n e /\
 ∀ H' q,Has H' (yL C { A with tr:=q } { y with eng:=.ref b,trail:=[] } ++ L) -> Q .non H'
def sp_off (C:Addr):Sp:=fun vs H Q _ => ∃ (A:YA) (y:YR) (L:Kn),vs = [.ref A.p] /\ Has H (yL C A y ++ L) /\ ∀ H' q,Has H' (yL C { A with tr:=q } { y with eng:=.non,trail:=[] } ++ L) -> Q .non H'
def sp_engine (C:Addr):Sp:=fun vs H Q _ => ∃ (A:YA) (y:YR) (L:Kn),vs = [.ref A.p] /\ Has H (yL C A y ++ L) /\ Q y.eng H
def sp_steps (C:Addr):Sp:=fun vs H Q _ => ∃ (A:YA) (y:YR) (L:Kn),vs = [.ref A.p] /\ Has H (yL C A y ++ L) /\ Q (.int y.trail.length) H
def sp_bells (C:Addr):Sp:=fun vs H Q _ => ∃ (A:YA) (y:YR) (L:Kn),vs = [.ref A.p] /\ Has H (yL C A y ++ L) /\ ∀ H' l,Has H' ((l,.lst y.rung) :: (yL C A y ++ L)) -> Q (.ref l) H'
def sp_pieces (C:Addr):Sp:=fun vs H Q _ => ∃ (A:YA) (y:YR) (L:Kn),vs = [.ref A.p] /\ Has H (yL C A y ++ L) /\ ∀ H' l,Has H' ((l,.lst (y.kinds.map fun kv => kV kv.1)) :: (yL C A y ++ L)) -> Q (.ref l) H'
def sp_ykind (C:Addr):Sp:=fun vs H Q _ => ∃ (A:YA) (y:YR) (L:Kn) (n:Int) (v:V),vs = [.ref A.p,.int n] /\ Has H (yL C A y ++ L) /\ valV y.kinds (Sum.inl n) = some v /\ Q v H
def sp_ynote (C:Addr):Sp:=fun vs H Q _ => ∃ (A:YA) (y:YR) (L:Kn) (n:Int) (u v:V),vs = [.ref A.p,.int n] /\ Has H (yL C A y ++ L) /\ valV y.kinds (Sum.inl n) = some u /\ valV y.notes (Sum.inl n) = some v /\ Q v H
section
variable {P:Program} {w:World} {K:PySem.W.Frag} {mg:Str -> Option Value} {base:Heap} {t:Adr}
theorem scPu:FnScope ["self","end"] ["self","end"] (defScope s_Jy):=⟨rfl,rfl,rfl,by decide +kernel,rfl,by decide +kernel,by decide +kernel⟩
theorem ok_Jy (T:Txt K mg t):FnOk P w K mg base CX0 4 t.f_Jy t.d_Jy ["self","end"] (sp_put t.c_Yard):=by
 refine T.F_Jy.ok scPu (fun vs H Q E h => ?_) (fun cdv A outer s H vs Q E hr h => ?_)
 ·obtain ⟨_,_,_,_,_,_,_,rfl,_⟩:=h
  rfl
 ·obtain ⟨A,y,L,b,n,e,j,rfl,hH,hj,th,q⟩:=h
  refine ⟨_,(pss_cons (ps_expr (pe_meth (pv 0) T.cl_Yard T.M_J1 (ok_J1 T) (hr.mono (by decide)) (b_J1 T) .nil pass0 (pa_cons (pv 1) pa_nil)))
   (pss_cons (ps_fld (pv 0) (pv 1) rfl)
   (pss_one (ps_expr (pe_meth0 (pv 0) T.cl_Yard T.M_J2 (ok_J2 T) (hr.mono (by decide)) (b_J2 T) .nil pass0))))),?_⟩
  refine ⟨_,rfl,A.p,A.dx,_,rfl,hH.get 1 rfl,(fl_m2 _ _ _).1,_,rfl,A,y,L,b,n,e,j,rfl,hH,hj,th,?_⟩
  refine ⟨_,rfl,_,rfl,A.p,_,A.dx,_,rfl,hH.get 1 rfl,T.cl_Yard,T.n_J7_end,(show 9 < 1000 by decide),?_⟩
  rw [fl_put_eng]
  have h1:Has _ (yL t.c_Yard A { y with eng:=.ref b } ++ L):=hH.puti 1 rfl (.ins t.c_Yard A.dx (fl A y.next (.ref b)))
  exact ⟨_,rfl,A.p,A.dx,_,rfl,h1.get 1 rfl,(fl_m _ _ _).2.2.2.2.2.2.1,A,_,L,rfl,h1,fun H' a h2 => q H' a h2⟩
theorem scOf:FnScope ["self"] ["self"] (defScope s_Jw):=⟨rfl,rfl,rfl,by decide +kernel,rfl,by decide +kernel,by decide +kernel⟩
theorem ok_Jw (T:Txt K mg t):FnOk P w K mg base CX0 2 t.f_Jw t.d_Jw ["self"] (sp_off t.c_Yard):=by
 refine T.F_Jw.ok scOf (fun vs H Q E h => ?_) (fun cdv A outer s H vs Q E hr h => ?_)
 ·obtain ⟨_,_,_,rfl,_⟩:=h
  rfl
 ·obtain ⟨A,y,L,rfl,hH,q⟩:=h
  refine ⟨_,(pss_cons (ps_fld (pv 0) pe_non rfl)
   (pss_one (ps_expr (pe_meth0 (pv 0) T.cl_Yard T.M_J2 (ok_J2 T) (hr.mono (by decide)) (b_J2 T) .nil pass0)))),?_⟩
  refine ⟨_,rfl,A.p,_,A.dx,_,rfl,hH.get 1 rfl,T.cl_Yard,T.n_J7_end,(show 9 < 1000 by decide),?_⟩
  rw [fl_put_eng]
  have h1:Has _ (yL t.c_Yard A { y with eng:=.non } ++ L):=hH.puti 1 rfl (.ins t.c_Yard A.dx (fl A y.next .non))
  exact ⟨_,rfl,A.p,A.dx,_,rfl,h1.get 1 rfl,(fl_m _ _ _).2.2.2.2.2.2.1,A,_,L,rfl,h1,fun H' a h2 => q H' a h2⟩
theorem scEg:FnScope ["self"] ["self"] (defScope s_J7):=⟨rfl,rfl,rfl,by decide +kernel,rfl,by decide +kernel,by decide +kernel⟩
theorem ok_J7 (T:Txt K mg t):FnOk P w K mg base CX0 1 t.f_J7 t.d_J7 ["self"] (sp_engine t.c_Yard):=by
 refine T.F_J7.ok scEg (fun vs H Q E h => ?_) (fun cdv A outer s H vs Q E hr h => ?_)
 ·obtain ⟨_,_,_,rfl,_⟩:=h
  rfl
 ·obtain ⟨A,y,L,rfl,hH,q⟩:=h
  refine ⟨_,(pss_one (ps_ret (pe_fld (pv 0) rfl))),?_⟩
  exact ⟨_,rfl,A.p,_,A.dx,_,_,rfl,hH.get 1 rfl,T.cl_Yard,T.n_J7_end,fl_eng _ _ _,q⟩
theorem scSt:FnScope ["self"] ["self"] (defScope s_Jg):=⟨rfl,rfl,rfl,by decide +kernel,rfl,by decide +kernel,by decide +kernel⟩
theorem ok_Jg (T:Txt K mg t):FnOk P w K mg base CX0 1 t.f_Jg t.d_Jg ["self"] (sp_steps t.c_Yard):=by
 refine T.F_Jg.ok scSt (fun vs H Q E h => ?_) (fun cdv A outer s H vs Q E hr h => ?_)
 ·obtain ⟨_,_,_,rfl,_⟩:=h
  rfl
 ·obtain ⟨A,y,L,rfl,hH,q⟩:=h
  refine ⟨_,(pss_one (ps_ret (pe_callB call_len_seq (by rfl) T.z_len (by rfl) (pa_cons (pe_fld (pv 0) rfl) pa_nil)))),?_⟩
  exact ⟨_,rfl,A.p,_,A.dx,_,_,rfl,hH.get 1 rfl,T.cl_Yard,T.n_Yard_trail,fl_trail _ _ _,A.tr,_,rfl,.inl (SqL.of (hH.get 0 rfl)),q⟩
theorem scBe:FnScope ["self"] ["self"] (defScope s_Jj):=⟨rfl,rfl,rfl,by decide +kernel,rfl,by decide +kernel,by decide +kernel⟩
theorem ok_Jj (T:Txt K mg t):FnOk P w K mg base CX0 1 t.f_Jj t.d_Jj ["self"] (sp_bells t.c_Yard):=by
 refine T.F_Jj.ok scBe (fun vs H Q E h => ?_) (fun cdv A outer s H vs Q E hr h => ?_)
 ·obtain ⟨_,_,_,rfl,_⟩:=h
  rfl
 ·obtain ⟨A,y,L,rfl,hH,q⟩:=h
  refine ⟨_,(pss_one (ps_ret (pe_callTy call_list_of (by rfl) T.z_list (by rfl) (pa_cons (pe_fld (pv 0) rfl) pa_nil)))),?_⟩
  exact ⟨_,rfl,A.p,_,A.dx,_,_,rfl,hH.get 1 rfl,T.cl_Yard,T.n_Yard_rung,fl_rung _ _ _,A.g,_,rfl,.inl (SqL.of (hH.get 8 rfl)),fun l hl => q _ l (hH.alloc hl _)⟩
theorem scPc:FnScope ["self"] ["self"] (defScope s_J8):=⟨rfl,rfl,rfl,by decide +kernel,rfl,by decide +kernel,by decide +kernel⟩
theorem ok_J8 (T:Txt K mg t):FnOk P w K mg base CX0 1 t.f_J8 t.d_J8 ["self"] (sp_pieces t.c_Yard):=by
 refine T.F_J8.ok scPc (fun vs H Q E h => ?_) (fun cdv A outer s H vs Q E hr h => ?_)
 ·obtain ⟨_,_,_,rfl,_⟩:=h
  rfl
 ·obtain ⟨A,y,L,rfl,hH,q⟩:=h
  refine ⟨_,(pss_one (ps_ret (pe_callTy (call_list_dK rfl) (by rfl) T.z_list (by rfl) (pa_cons (pe_fld (pv 0) rfl) pa_nil)))),?_⟩
  exact ⟨_,rfl,A.p,_,A.dx,_,_,rfl,hH.get 1 rfl,T.cl_Yard,T.n_Yard_kinds,fl_kinds _ _ _,A.k,_,rfl,.inl (hH.get 3 rfl),fun l hl => q _ l (hH.alloc hl _)⟩
theorem scYk:FnScope ["self","piece"] ["self","piece"] (defScope s_Jp):=⟨rfl,rfl,rfl,by decide +kernel,rfl,by decide +kernel,by decide +kernel⟩
theorem ok_Jp (T:Txt K mg t):FnOk P w K mg base CX0 2 t.f_Jp t.d_Jp ["self","piece"] (sp_ykind t.c_Yard):=by
 refine T.F_Jp.ok scYk (fun vs H Q E h => ?_) (fun cdv A outer s H vs Q E hr h => ?_)
 ·obtain ⟨_,_,_,_,_,rfl,_⟩:=h
  rfl
 ·obtain ⟨A,y,L,n,v,rfl,hH,hv,q⟩:=h
  have hu:=hu_of hr
  refine ⟨_,(pss_cons (ps_expr (pe_meth (pv 0) T.cl_Yard T.M_J0 (ok_J0 T) (hr.mono (by decide)) (b_J0 T) .nil pass0 (pa_cons (pv 1) pa_nil)))
   (pss_one (ps_ret (pe_dget hu (pe_fld (pv 0) rfl) (pv 1) (fun _ _ => rfl))))),?_⟩
  refine ⟨_,rfl,A.p,A.dx,_,rfl,hH.get 1 rfl,(fl_m _ _ _).2.2.2.2.2.2.2.1,_,rfl,A,y,L,n,v,rfl,hH,hv,?_⟩
  refine ⟨_,rfl,A.p,_,A.dx,_,_,rfl,hH.get 1 rfl,T.cl_Yard,T.n_Yard_kinds,fl_kinds _ _ _,_,rfl,A.k,_,rfl,?_,q⟩
  rw [<- hv]
  exact DGet.k (k:=Sum.inl n) (hH.get 3 rfl)
theorem scYn:FnScope ["self","piece"] ["self","piece"] (defScope s_Jt):=⟨rfl,rfl,rfl,by decide +kernel,rfl,by decide +kernel,by decide +kernel⟩
theorem ok_Jt (T:Txt K mg t):FnOk P w K mg base CX0 2 t.f_Jt t.d_Jt ["self","piece"] (sp_ynote t.c_Yard):=by
 refine T.F_Jt.ok scYn (fun vs H Q E h => ?_) (fun cdv A outer s H vs Q E hr h => ?_)
 ·obtain ⟨_,_,_,_,_,_,rfl,_⟩:=h
  rfl
 ·obtain ⟨A,y,L,n,u,v,rfl,hH,hk,hv,q⟩:=h
  have hu:=hu_of hr
  refine ⟨_,(pss_cons (ps_expr (pe_meth (pv 0) T.cl_Yard T.M_J0 (ok_J0 T) (hr.mono (by decide)) (b_J0 T) .nil pass0 (pa_cons (pv 1) pa_nil)))
   (pss_cons (ps_if (pt_cmp (pc_dnotin hu (pv 1) (pe_fld (pv 0) rfl)))
    (pss_one ps_never)
    pss_nil)
   (pss_one (ps_ret (pe_dget hu (pe_fld (pv 0) rfl) (pv 1) (fun _ _ => rfl)))))),?_⟩
  refine ⟨_,rfl,A.p,A.dx,_,rfl,hH.get 1 rfl,(fl_m _ _ _).2.2.2.2.2.2.2.1,_,rfl,A,y,L,n,u,rfl,hH,hk,?_⟩
  refine ⟨_,rfl,_,rfl,A.p,_,A.dx,_,_,rfl,hH.get 1 rfl,T.cl_Yard,T.n_Yard_notes,fl_notes _ _ _,A.n,_,rfl,DGet.k (k:=Sum.inl n) (hH.get 4 rfl),_,rfl,ifF (by rw [hv]; rfl) ?_⟩
  refine ⟨_,rfl,A.p,_,A.dx,_,_,rfl,hH.get 1 rfl,T.cl_Yard,T.n_Yard_notes,fl_notes _ _ _,_,rfl,A.n,_,rfl,?_,q⟩
  rw [<- hv]
  exact DGet.k (k:=Sum.inl n) (hH.get 4 rfl)
end
abbrev En:=Addr × Int × Int
structure Wd where
 kf:Int -> Option Kd
 nf:Int -> Int
 rf:Int -> Int
 mf:Int -> Int -> Option En
structure Sd where
 ss:List Int
 at_:Option En
 rg:List Int
def Wd.sv (w:Wd) (s:Sd) (n:Int):Int:=s.ss.getD (w.rf n).toNat 0
def Wd.ok (w:Wd) (z:En):Prop:=∃ k,w.kf z.2.1 = some k /\ 0 <= z.2.2 /\ z.2.2 < k.many
def stepS (w:Wd) (s:Sd) (z:En) (k:Kd) (z':En):Sd :=
 ⟨if k.point then s.ss.set (w.rf z.2.1).toNat (k.side z.2.2 (w.sv s z.2.1)) else s.ss,some z',if k = .bell then s.rg ++ [w.nf z.2.1] else s.rg⟩
def Wd.nx (w:Wd) (s:Sd):Option Sd :=
 match s.at_ with
 | none => none
 | some z => match w.kf z.2.1 with
  | none => none
  | some k => match k.out z.2.2 (w.sv s z.2.1) with
   | .int o => (w.mf z.2.1 o).map (stepS w s z k)
   | _ => none
def Wd.why (w:Wd) (s:Sd):V :=
 match s.at_ with
 | none => .str "none"
 | some z => match w.kf z.2.1 with
  | none => .non
  | some k => match k.out z.2.2 (w.sv s z.2.1) with
   | .int o => (match w.mf z.2.1 o with | none => .str "loose" | some _ => .non)
   | _ => .str "stop"
def Wd.go (w:Wd):Nat -> Sd -> Sd
 | 0,s => s
 | n + 1,s => match w.nx s with | none => s | some s' => w.go n s'
def Wd.hist (w:Wd):Nat -> Sd -> List Sd
 | 0,_ => []
 | n + 1,s => match w.nx s with | none => [] | some s' => s :: w.hist n s'
def Wd.tv (w:Wd) (s:Sd) (z:En):V:=match w.kf z.2.1 with | some k => if k.point then .int (w.sv s z.2.1) else .non | none => .non
def Wd.tr (w:Wd) (s:Sd):HO:=match s.at_ with | some z => .tup [.ref z.1,w.tv s z] | none => .tup []
def trK (w:Wd) (ts:List (Addr × Sd)):Kn:=ts.map fun x => (x.1,w.tr x.2)
def trV (ts:List (Addr × Sd)):List V:=ts.map fun x => V.ref x.1
def enV:Option En -> V
 | none => .non
 | some z => .ref z.1
structure Rep (w:Wd) (s:Sd) (y:YR):Prop where
 kd:∀ n k,w.kf n = some k -> valV y.kinds (Sum.inl n) = some (.str k.str)
 no:∀ n k,w.kf n = some k -> valV y.notes (Sum.inl n) = if k = .bell then some (.int (w.nf n)) else none
 ro:∀ n k,w.kf n = some k -> valV y.rods (Sum.inl n) = if k.point = true then some (.int (w.rf n)) else none
 rr:∀ n k,w.kf n = some k -> k.point = true -> 0 <= w.rf n /\ w.rf n < s.ss.length
 sd:y.sides = s.ss.map V.int
 s12:∀ x ∈ s.ss,x = 1 ∨ x = 2
 mt:∀ n e,valV y.mates (kE n e) = (w.mf n e).map fun z => V.ref z.1
 mo:∀ n e z,w.mf n e = some z -> w.ok z
 en:y.eng = enV s.at_
 eo:∀ z,s.at_ = some z -> w.ok z
 rg:y.rung = s.rg.map V.int
structure Pool (w:Wd) (s:Sd) (L:Kn):Prop where
 m:∀ n e z,w.mf n e = some z -> ∃ j:Nat,L[j]? = some (z.1,HO.tup [.int z.2.1,.int z.2.2])
 e:∀ z,s.at_ = some z -> ∃ j:Nat,L[j]? = some (z.1,HO.tup [.int z.2.1,.int z.2.2])
theorem Rep.s1 {w:Wd} {s:Sd} {y:YR} (R:Rep w s y) {n:Int} {k:Kd} (hk:w.kf n = some k) (hp:k.point = true):w.sv s n = 1 ∨ w.sv s n = 2:=by
 obtain ⟨h0,h1⟩:=R.rr n k hk hp
 refine R.s12 _ ?_
 unfold Wd.sv
 rw [List.getD_eq_getElem?_getD,List.getElem?_eq_getElem (by omega)]
 exact List.getElem_mem _
theorem Rep.sideAt {w:Wd} {s:Sd} {y:YR} (R:Rep w s y) {n:Int} {k:Kd} (hk:w.kf n = some k) (hp:k.point = true):y.sides[(w.rf n).toNat]? = some (.int (w.sv s n)):=by
 obtain ⟨h0,h1⟩:=R.rr n k hk hp
 rw [R.sd,List.getElem?_map,List.getElem?_eq_getElem (by omega)]
 unfold Wd.sv
 rw [List.getD_eq_getElem?_getD,List.getElem?_eq_getElem (by omega)]
 rfl
theorem Kd.out_in {k:Kd} {e s o:Int} (e0:0 <= e) (e1:e < k.many) (hs:k.point = true -> s = 1 ∨ s = 2) (h:k.out e s = .int o):0 <= o /\ o < k.many:=by
 unfold Kd.out at h
 by_cases c:k = .stop
 ·rw [if_pos c] at h; cases h
 rw [if_neg c] at h
 by_cases p:k.point = true
 ·rw [if_pos p] at h
  have m:=Kd.many_point p
  rcases hs p with r | r <;> split at h <;> (injection h with h; omega)
 ·rw [if_neg p] at h
  have m:k.many = 2:=by cases k <;> first | rfl | (exfalso; exact c rfl) | (exfalso; exact p rfl)
  injection h with h
  omega
theorem Kd.out_np {k:Kd} (h:¬ k.point = true) (e s s':Int):k.out e s = k.out e s':=by unfold Kd.out; rw [if_neg h,if_neg h]
theorem stepS_at (w:Wd) (s:Sd) (z:En) (k:Kd) (z':En):(stepS w s z k z').at_ = some z':=rfl
theorem nx_some {w:Wd} {s s':Sd} (h:w.nx s = some s'):∃ (z:En) (k:Kd) (o:Int) (z':En),s.at_ = some z /\ w.kf z.2.1 = some k /\ k.out z.2.2 (w.sv s z.2.1) = .int o /\ w.mf z.2.1 o = some z' /\ s' = stepS w s z k z':=by
 unfold Wd.nx at h
 split at h
 ·cases h
 ·rename_i z hz
  split at h
  ·cases h
  ·rename_i k hk
   split at h
   ·rename_i o ho
    obtain ⟨z',hm,e⟩:=Option.map_eq_some_iff.mp h
    exact ⟨z,k,o,z',hz,hk,ho,hm,e.symm⟩
   ·cases h
theorem nx_of {w:Wd} {s:Sd} {z:En} {k:Kd} {o:Int} {z':En} (hz:s.at_ = some z) (hk:w.kf z.2.1 = some k) (ho:k.out z.2.2 (w.sv s z.2.1) = .int o) (hm:w.mf z.2.1 o = some z'):w.nx s = some (stepS w s z k z'):=by
 unfold Wd.nx
 simp only [hz,hk,ho,hm,Option.map_some]
theorem stepS_keep {w:Wd} {s:Sd} {y y':YR} {z:En} {k:Kd} {z':En} {o:Int} (R:Rep w s y) (hz:s.at_ = some z) (hk:w.kf z.2.1 = some k) (hm:w.mf z.2.1 o = some z')
  (e1:y'.kinds = y.kinds) (e2:y'.notes = y.notes) (e3:y'.rods = y.rods) (e4:y'.mates = y.mates) (e5:y'.sides = (stepS w s z k z').ss.map V.int) (e6:y'.eng = .ref z'.1) (e7:y'.rung = (stepS w s z k z').rg.map V.int) :
  Rep w (stepS w s z k z') y':=by
 have hl:(stepS w s z k z').ss.length = s.ss.length:=by
  unfold stepS; dsimp only; split
  ·exact List.length_set
  ·rfl
 refine ⟨fun n k h => by rw [e1]; exact R.kd n k h,fun n k h => by rw [e2]; exact R.no n k h,fun n k h => by rw [e3]; exact R.ro n k h,fun n k h1 h2 => by rw [hl]; exact R.rr n k h1 h2,e5,fun x hx => ?_,fun n e => by rw [e4]; exact R.mt n e,R.mo,e6,fun u hu => ?_,e7⟩
 ·unfold stepS at hx
  dsimp only at hx
  split at hx
  ·rename_i hp
   rcases List.mem_or_eq_of_mem_set hx with hx | hx
   ·exact R.s12 x hx
   ·obtain ⟨k',h1,h2,h3⟩:=R.eo z hz
    rw [hk] at h1
    cases h1
    rw [hx]
    exact Kd.side12 h2 h3 (R.s1 hk hp)
  ·exact R.s12 x hx
 ·rw [stepS_at] at hu
  cases hu
  exact R.mo _ _ _ hm
theorem Pool.step {w:Wd} {s s':Sd} {L:Kn} (p:Pool w s L) (h:w.nx s = some s'):Pool w s' L:=by
 obtain ⟨z,k,o,z',_,_,_,hm,rfl⟩:=nx_some h
 refine ⟨p.m,fun u hu => ?_⟩
 rw [stepS_at] at hu
 cases hu
 exact p.m _ _ _ hm
inductive Nxt (w:Wd) (s:Sd):List V -> Prop
 | held (h:w.nx s = none) (x:Str) (e:w.why s = .str x):Nxt w s [.str x,.non,.non]
 | goes (z:En) (k:Kd) (o:Int) (z':En) (hz:s.at_ = some z) (hk:w.kf z.2.1 = some k) (ho:k.out z.2.2 (w.sv s z.2.1) = .int o) (hm:w.mf z.2.1 o = some z') :
   Nxt w s [.non,.ref z'.1,if k.point then .int (k.side z.2.2 (w.sv s z.2.1)) else .non]
end P
set_option Elab.async false
set_option linter.all false
set_option maxRecDepth 100000
set_option maxHeartbeats 4000000
namespace P
open PySem L2
def sp_carry (C:Addr):Sp:=fun vs H Q _ => ∃ (A:YA) (y:YR) (L:Kn) (w:Wd) (s:Sd) (z:En) (k:Kd) (z':En),vs = [.ref A.p,.ref z'.1,if k.point then .int (k.side z.2.2 (w.sv s z.2.1)) else .non] /\ Has H (yL C A y ++ L) /\ Rep w s y /\ s.at_ = some z /\ w.kf z.2.1 = some k /\
 (∃ j:Nat,L[j]? = some (z.1,HO.tup [.int z.2.1,.int z.2.2])) /\ y.trail.length <= 900000 /\ y.rung.length <= 900000 /\
 ∀ H' a,Has H' (yL C A { y with sides:=(stepS w s z k z').ss.map V.int,eng:=.ref z'.1,rung:=(stepS w s z k z').rg.map V.int,trail:=y.trail ++ [.ref a] } ++ ((a,w.tr s) :: L)) -> Q .non H'
def sp_next (C:Addr):Sp:=fun vs H Q _ => ∃ (A:YA) (y:YR) (L:Kn) (w:Wd) (s:Sd),vs = [.ref A.p] /\ Has H (yL C A y ++ L) /\ Rep w s y /\ Pool w s L /\
 ∀ H' p xs,Nxt w s xs -> Has H' ((p,.tup xs) :: (yL C A y ++ L)) -> Q (.ref p) H'
def sp_run (C:Addr):Sp:=fun vs H Q _ => ∃ (A:YA) (y:YR) (L:Kn) (w:Wd) (s:Sd) (ts:List (Addr × Sd)) (m:Int),vs = [.ref A.p,.int m] /\ Has H (yL C A y ++ (trK w ts ++ L)) /\ Rep w s y /\ Pool w s L /\ y.trail = trV ts /\ ts.length + m <= 900000 /\ y.rung.length + m <= 900000 /\ ts.length <= 900000 /\ y.rung.length <= 900000 /\
 ∀ H' y' ts',Has H' (yL C A y' ++ (trK w (ts ++ ts') ++ L)) -> Rep w (w.go m.toNat s) y' -> y'.trail = trV (ts ++ ts') -> ts'.map (·.2) = w.hist m.toNat s -> y'.next = y.next -> y'.kinds = y.kinds -> y'.notes = y.notes -> y'.rods = y.rods -> y'.mates = y.mates -> Pool w (w.go m.toNat s) L -> Q (.int ts'.length) H'
theorem why_none {w:Wd} {s:Sd} (h:s.at_ = none):w.nx s = none /\ w.why s = .str "none":=by
 unfold Wd.nx Wd.why; simp only [h]; exact ⟨trivial,trivial⟩
theorem why_stop {w:Wd} {s:Sd} {z:En} {k:Kd} (hz:s.at_ = some z) (hk:w.kf z.2.1 = some k) (ho:k.out z.2.2 (w.sv s z.2.1) = .non):w.nx s = none /\ w.why s = .str "stop":=by
 unfold Wd.nx Wd.why; simp only [hz,hk,ho]; exact ⟨trivial,trivial⟩
theorem why_loose {w:Wd} {s:Sd} {z:En} {k:Kd} {o:Int} (hz:s.at_ = some z) (hk:w.kf z.2.1 = some k) (ho:k.out z.2.2 (w.sv s z.2.1) = .int o) (hm:w.mf z.2.1 o = none):w.nx s = none /\ w.why s = .str "loose":=by
 unfold Wd.nx Wd.why; simp only [hz,hk,ho,hm,Option.map_none]; exact ⟨trivial,trivial⟩
theorem why_goes {w:Wd} {s:Sd} {z:En} {k:Kd} {o:Int} {z':En} (hz:s.at_ = some z) (hk:w.kf z.2.1 = some k) (ho:k.out z.2.2 (w.sv s z.2.1) = .int o) (hm:w.mf z.2.1 o = some z'):w.why s = .non:=by
 unfold Wd.why; simp only [hz,hk,ho,hm]
theorem Nxt.why {w:Wd} {s:Sd} {xs:List V} (h:Nxt w s xs):xs.length = 3 /\ xs[0]? = some (w.why s):=by
 cases h with
 | held h x e => rw [e]; exact ⟨rfl,rfl⟩
 | goes z k o z' hz hk ho hm => rw [why_goes hz hk ho hm]; exact ⟨rfl,rfl⟩
theorem go_succ (w:Wd) {s s':Sd} (h:w.nx s = some s') (n:Nat):w.go (n + 1) s = w.go n s':=by show (match w.nx s with | none => s | some s' => w.go n s') = _; rw [h]
theorem hist_succ (w:Wd) {s s':Sd} (h:w.nx s = some s') (n:Nat):w.hist (n + 1) s = s :: w.hist n s':=by show (match w.nx s with | none => [] | some s' => s :: w.hist n s') = _; rw [h]
theorem go_held (w:Wd) {s:Sd} (h:w.nx s = none):∀ n,w.go n s = s
 | 0 => rfl
 | n + 1 => by show (match w.nx s with | none => s | some s' => w.go n s') = _; rw [h]
theorem hist_held (w:Wd) {s:Sd} (h:w.nx s = none):∀ n,w.hist n s = []
 | 0 => rfl
 | n + 1 => by show (match w.nx s with | none => [] | some s' => s :: w.hist n s') = _; rw [h]
theorem trK_snoc (w:Wd) (ts:List (Addr × Sd)) (a:Addr) (s:Sd) (L:Kn):trK w (ts ++ [(a,s)]) ++ L = trK w ts ++ ((a,w.tr s) :: L):=by
 unfold trK; rw [List.map_append,List.append_assoc]; rfl
theorem stepS_rg_le {w:Wd} {s:Sd} {z:En} {k:Kd} {z':En}:(stepS w s z k z').rg.length <= s.rg.length + 1:=by
 unfold stepS; dsimp only; split
 ·simp
 ·omega
theorem go_len (w:Wd):∀ (n:Nat) (s:Sd),(w.go n s).ss.length = s.ss.length
 | 0,s => rfl
 | n + 1,s => by
  cases h:w.nx s with
  | none => rw [go_held w h]
  | some s' =>
   rw [go_succ w h,go_len w n s']
   obtain ⟨z,k,o,z',_,_,_,_,rfl⟩:=nx_some h
   unfold stepS; dsimp only; split
   ·exact List.length_set
   ·rfl
theorem Pool.app {w:Wd} {s:Sd} {L:Kn} (p:Pool w s L) (M:Kn):Pool w s (M ++ L):=by
 have sh:∀ {x:Addr × HO},(∃ j:Nat,L[j]? = some x) -> ∃ j:Nat,(M ++ L)[j]? = some x:=fun {x} ⟨j,h⟩ => ⟨M.length + j,by rw [List.getElem?_append_right (by omega),show M.length + j - M.length = j by omega]; exact h⟩
 exact ⟨fun n e z h => sh (p.m n e z h),fun z h => sh (p.e z h)⟩
def runInv (C:Addr) (A:YA) (y:YR) (L:Kn) (W:Wd) (s:Sd) (ts:List (Addr × Sd)) (m:Int) (r:Nat) (σ:St) (H:Hp):Prop :=
 ∃ (i:Nat) (y1:YR) (ts1:List (Addr × Sd)) (s1:Sd) (o1 o2 o3:Option V),r = m.toNat - i /\ i <= m.toNat /\ σ = [some (.ref A.p),some (.int m),some (.int i),o1,o2,o3] /\ Has H (yL C A y1 ++ (trK W (ts ++ ts1) ++ L)) /\ Rep W s1 y1 /\ Pool W s1 L /\ y1.trail = trV (ts ++ ts1) /\ ts1.length = i /\
  W.go m.toNat s = W.go (m.toNat - i) s1 /\ W.hist m.toNat s = ts1.map (·.2) ++ W.hist (m.toNat - i) s1 /\ y1.rung.length <= y.rung.length + i /\ y1.next = y.next /\ y1.kinds = y.kinds /\ y1.notes = y.notes /\ y1.rods = y.rods /\ y1.mates = y.mates
section
variable {P:Program} {w:World} {K:PySem.W.Frag} {mg:Str -> Option Value} {base:Heap} {t:Adr}
theorem scCy:FnScope ["self","end","side","piece","rod"] ["self","end","side"] (defScope s_Ji):=⟨rfl,rfl,rfl,by decide +kernel,rfl,by decide +kernel,by decide +kernel⟩
theorem ok_Ji (T:Txt K mg t):FnOk P w K mg base CX0 1 t.f_Ji t.d_Ji ["self","end","side"] (sp_carry t.c_Yard):=by
 refine T.F_Ji.ok scCy (fun vs H Q E h => ?_) (fun cdv A outer s H vs Q E hr h => ?_)
 ·obtain ⟨_,_,_,_,_,_,_,_,rfl,_⟩:=h
  rfl
 ·obtain ⟨A,y,L,W,s1,z,k,z',rfl,hH,R,hz,hk,⟨j,hj⟩,tl,rl,q⟩:=h
  have hu:=hu_of hr
  refine ⟨_,(pss_cons (ps_set (i:=3) scCy.nd rfl (Or.inl rfl) (pe_ix ix_tup (pe_fld (pv 0) rfl) pe_int (fun _ _ => rfl)))
   (pss_cons (ps_set (i:=4) scCy.nd rfl (Or.inl rfl) (pe_dget1 hu (pe_fld (pv 0) rfl) (pv 3) ⟨rfl,rfl,rfl,rfl⟩))
   (pss_cons (ps_expr (pe_bm PySem.F.plainAttrs_list PySem.F.slot_list_append PySem.F.type_list_append mt_append (pe_fld (pv 0) rfl) (@pa_cons _ _ _ _ _ (pe_tup (pa_cons (pe_fld (pv 0) rfl) (pa_cons (pe_ifExp (pt_cmpR op_isN (pv 4) pe_non (nomark _)) pe_non (pe_ix ix_list (pe_fld (pv 0) rfl) (pv 4) (fun _ _ => rfl))) pa_nil))) pa_nil (by rfl))))
   (pss_cons (ps_if (pt_cmpR op_notN (pv 4) pe_non (nomark _))
    (pss_one (ps_asg (pv 2) (pg_sub (pe_fld (pv 0) rfl) (pv 4) set_list)))
    pss_nil)
   (pss_cons (ps_if (pt_cmp (pc_din hu (pv 3) (pe_fld (pv 0) rfl)))
    (pss_one (ps_expr (pe_bm PySem.F.plainAttrs_list PySem.F.slot_list_append PySem.F.type_list_append mt_append (pe_fld (pv 0) rfl) (pa_cons (pe_dget hu (pe_fld (pv 0) rfl) (pv 3) (fun _ _ => rfl)) pa_nil))))
    pss_nil)
   (pss_one (ps_fld (pv 0) (pv 1) rfl))))))),?_⟩
  have gz:=hH.get (j + 9) (by simpa [yL] using hj)
  have en:y.eng = .ref z.1:=by rw [R.en,hz]; rfl
  refine ⟨_,rfl,A.p,_,A.dx,_,_,rfl,hH.get 1 rfl,T.cl_Yard,T.n_J7_end,fl_eng _ _ _,z.1,_,_,_,en,rfl,SqT.of gz,rfl,?_⟩
  refine ⟨_,rfl,A.p,_,A.dx,_,_,rfl,hH.get 1 rfl,T.cl_Yard,T.n_Js_under,fl_rods _ _ _,A.r,rfl,.inl ⟨_,.inl (hH.get 5 rfl)⟩,_,rfl,_,DGet.k (k:=Sum.inl z.2.1) (hH.get 5 rfl),?_⟩
  refine ⟨_,rfl,A.p,_,A.dx,_,_,rfl,hH.get 1 rfl,T.cl_Yard,T.n_Yard_trail,fl_trail _ _ _,.inl ⟨rfl,_,SqL.of (hH.get 0 rfl)⟩,?_⟩
  refine ⟨_,rfl,A.p,_,A.dx,_,_,rfl,hH.get 1 rfl,T.cl_Yard,T.n_J7_end,fl_eng _ _ _,_,rfl,rfl,_,rfl,?_⟩
  rw [R.ro _ _ hk,en]
  have etr:W.tr s1 = .tup [.ref z.1,if k.point then .int (W.sv s1 z.2.1) else .non]:=by unfold Wd.tr; rw [hz]; show HO.tup [.ref z.1,W.tv s1 z] = _; unfold Wd.tv; rw [hk]
  by_cases hp:k.point = true
  ·rw [if_pos hp] at etr ⊢
   try rw [if_pos hp]
   obtain ⟨r0,r1⟩:=R.rr _ _ hk hp
   have sa:=R.sideAt hk hp
   refine ifF rfl ?_
   refine ⟨_,rfl,A.p,_,A.dx,_,_,rfl,hH.get 1 rfl,T.cl_Yard,T.n_Yard_sides,fl_sides _ _ _,_,rfl,A.s,_,W.rf z.2.1,_,rfl,rfl,SqL.of (hH.get 6 rfl),(by rw [show W.rf z.2.1 = (((W.rf z.2.1).toNat:Nat):Int) by omega]; exact atI_nat sa),?_⟩
   refine ⟨(show 2 <= sizeLine by decide),fun a ha => ?_⟩
   have h1:=hH.alloc ha (.tup [.ref z.1,.int (W.sv s1 z.2.1)])
   refine ⟨A.tr,_,_,rfl,rfl,h1.get 1 rfl,sizeOk (by omega),?_⟩
   have h2:=Has.comm (X:=[_]) (Y:=yL t.c_Yard A { y with trail:=y.trail ++ [.ref a] }) (R:=L) (h1.puti 1 rfl (.lst (y.trail ++ [.ref a])))
   generalize upd (upd H a _) A.tr _ = H2 at h2 ⊢
   replace h2:Has H2 (yL t.c_Yard A { y with trail:=y.trail ++ [.ref a] } ++ ((a,W.tr s1) :: L)):=by rw [etr]; exact h2
   clear h1 ha
   refine ⟨_,rfl,rfl,_,rfl,ifT rfl ?_⟩
   have sl:y.sides.length = s1.ss.length:=by rw [R.sd,List.length_map]
   have hjx:ixN y.sides.length (W.rf z.2.1) = some (W.rf z.2.1).toNat:=by unfold ixN; rw [if_pos r0,if_pos (by omega)]
   refine ⟨_,rfl,_,rfl,A.p,_,A.dx,_,_,rfl,h2.get 1 rfl,T.cl_Yard,T.n_Yard_sides,fl_sides _ _ _,_,rfl,A.s,_,_,_,rfl,rfl,h2.get 6 rfl,hjx,?_⟩
   have h3:=h2.puti 6 rfl (.lst (y.sides.set (W.rf z.2.1).toNat (.int (k.side z.2.2 (W.sv s1 z.2.1)))))
   have es:(stepS W s1 z k z').ss.map V.int = y.sides.set (W.rf z.2.1).toNat (.int (k.side z.2.2 (W.sv s1 z.2.1))):=by unfold stepS; dsimp only; rw [if_pos hp,List.map_set,R.sd]
   have hT:Has _ (yL t.c_Yard A { y with sides:=y.sides.set (W.rf z.2.1).toNat (.int (k.side z.2.2 (W.sv s1 z.2.1))),trail:=y.trail ++ [.ref a] } ++ ((a,W.tr s1) :: L)):=h3
   refine ⟨_,rfl,_,rfl,A.p,_,A.dx,_,_,rfl,hT.get 1 rfl,T.cl_Yard,T.n_Yard_notes,fl_notes _ _ _,A.n,_,rfl,DGet.k (k:=Sum.inl z.2.1) (hT.get 4 rfl),_,rfl,if2 (fun hb => ?_) (fun hb => ?_)⟩
   ·have kb:k = .bell:=by
     rw [R.no _ _ hk] at hb
     by_cases c:k = .bell
     ·exact c
     ·rw [if_neg c] at hb; cases hb
    have nv:valV y.notes (Sum.inl z.2.1) = some (.int (W.nf z.2.1)):=by rw [R.no _ _ hk,if_pos kb]
    refine ⟨_,rfl,A.p,_,A.dx,_,_,rfl,hT.get 1 rfl,T.cl_Yard,T.n_Yard_rung,fl_rung _ _ _,.inl ⟨rfl,_,SqL.of (hT.get 8 rfl)⟩,_,rfl,A.p,_,A.dx,_,_,rfl,hT.get 1 rfl,T.cl_Yard,T.n_Yard_notes,fl_notes _ _ _,_,rfl,A.n,_,rfl,(by rw [<- nv]; exact DGet.k (k:=Sum.inl z.2.1) (hT.get 4 rfl)),A.g,_,_,rfl,rfl,hT.get 8 rfl,sizeOk (show y.rung.length <= 1000000 by omega),?_⟩
    have h4:Has _ (yL t.c_Yard A { y with sides:=y.sides.set (W.rf z.2.1).toNat (.int (k.side z.2.2 (W.sv s1 z.2.1))),rung:=y.rung ++ [.int (W.nf z.2.1)],trail:=y.trail ++ [.ref a] } ++ ((a,W.tr s1) :: L)):=hT.puti 8 rfl (.lst (y.rung ++ [.int (W.nf z.2.1)]))
    refine ⟨_,rfl,_,rfl,A.p,_,A.dx,_,rfl,h4.get 1 rfl,T.cl_Yard,T.n_J7_end,(show 9 < 1000 by decide),?_⟩
    rw [fl_put_eng]
    have h5:=h4.puti 1 rfl (.ins t.c_Yard A.dx (fl A y.next (.ref z'.1)))
    have er:(stepS W s1 z k z').rg.map V.int = y.rung ++ [.int (W.nf z.2.1)]:=by unfold stepS; dsimp only; rw [if_pos kb,List.map_append,R.rg]; rfl
    refine q _ a ?_
    rw [er,es]
    exact h5
   ·have kb:¬ k = .bell:=fun c => by rw [R.no _ _ hk,if_pos c] at hb; cases hb
    refine ⟨_,rfl,_,rfl,A.p,_,A.dx,_,rfl,hT.get 1 rfl,T.cl_Yard,T.n_J7_end,(show 9 < 1000 by decide),?_⟩
    rw [fl_put_eng]
    have h5:=hT.puti 1 rfl (.ins t.c_Yard A.dx (fl A y.next (.ref z'.1)))
    have er:(stepS W s1 z k z').rg.map V.int = y.rung:=by unfold stepS; dsimp only; rw [if_neg kb,R.rg]
    refine q _ a ?_
    rw [er,es]
    exact h5
  ·rw [if_neg hp] at etr ⊢
   try rw [if_neg hp]
   refine ifT rfl ?_
   refine ⟨(show 2 <= sizeLine by decide),fun a ha => ?_⟩
   have h1:=hH.alloc ha (.tup [.ref z.1,.non])
   refine ⟨A.tr,_,_,rfl,rfl,h1.get 1 rfl,sizeOk (by omega),?_⟩
   have h2:=Has.comm (X:=[_]) (Y:=yL t.c_Yard A { y with trail:=y.trail ++ [.ref a] }) (R:=L) (h1.puti 1 rfl (.lst (y.trail ++ [.ref a])))
   generalize upd (upd H a _) A.tr _ = H2 at h2 ⊢
   replace h2:Has H2 (yL t.c_Yard A { y with trail:=y.trail ++ [.ref a] } ++ ((a,W.tr s1) :: L)):=by rw [etr]; exact h2
   clear h1 ha
   refine ⟨_,rfl,rfl,_,rfl,ifF rfl ?_⟩
   have h3:=h2
   have es:(stepS W s1 z k z').ss.map V.int = y.sides:=by unfold stepS; dsimp only; rw [if_neg hp,R.sd]
   have hT:Has _ (yL t.c_Yard A { y with sides:=y.sides,trail:=y.trail ++ [.ref a] } ++ ((a,W.tr s1) :: L)):=h3
   refine ⟨_,rfl,_,rfl,A.p,_,A.dx,_,_,rfl,hT.get 1 rfl,T.cl_Yard,T.n_Yard_notes,fl_notes _ _ _,A.n,_,rfl,DGet.k (k:=Sum.inl z.2.1) (hT.get 4 rfl),_,rfl,if2 (fun hb => ?_) (fun hb => ?_)⟩
   ·have kb:k = .bell:=by
     rw [R.no _ _ hk] at hb
     by_cases c:k = .bell
     ·exact c
     ·rw [if_neg c] at hb; cases hb
    have nv:valV y.notes (Sum.inl z.2.1) = some (.int (W.nf z.2.1)):=by rw [R.no _ _ hk,if_pos kb]
    refine ⟨_,rfl,A.p,_,A.dx,_,_,rfl,hT.get 1 rfl,T.cl_Yard,T.n_Yard_rung,fl_rung _ _ _,.inl ⟨rfl,_,SqL.of (hT.get 8 rfl)⟩,_,rfl,A.p,_,A.dx,_,_,rfl,hT.get 1 rfl,T.cl_Yard,T.n_Yard_notes,fl_notes _ _ _,_,rfl,A.n,_,rfl,(by rw [<- nv]; exact DGet.k (k:=Sum.inl z.2.1) (hT.get 4 rfl)),A.g,_,_,rfl,rfl,hT.get 8 rfl,sizeOk (show y.rung.length <= 1000000 by omega),?_⟩
    have h4:Has _ (yL t.c_Yard A { y with sides:=y.sides,rung:=y.rung ++ [.int (W.nf z.2.1)],trail:=y.trail ++ [.ref a] } ++ ((a,W.tr s1) :: L)):=hT.puti 8 rfl (.lst (y.rung ++ [.int (W.nf z.2.1)]))
    refine ⟨_,rfl,_,rfl,A.p,_,A.dx,_,rfl,h4.get 1 rfl,T.cl_Yard,T.n_J7_end,(show 9 < 1000 by decide),?_⟩
    rw [fl_put_eng]
    have h5:=h4.puti 1 rfl (.ins t.c_Yard A.dx (fl A y.next (.ref z'.1)))
    have er:(stepS W s1 z k z').rg.map V.int = y.rung ++ [.int (W.nf z.2.1)]:=by unfold stepS; dsimp only; rw [if_pos kb,List.map_append,R.rg]; rfl
    refine q _ a ?_
    rw [er,es]
    exact h5
   ·have kb:¬ k = .bell:=fun c => by rw [R.no _ _ hk,if_pos c] at hb; cases hb
    refine ⟨_,rfl,_,rfl,A.p,_,A.dx,_,rfl,hT.get 1 rfl,T.cl_Yard,T.n_J7_end,(show 9 < 1000 by decide),?_⟩
    rw [fl_put_eng]
    have h5:=hT.puti 1 rfl (.ins t.c_Yard A.dx (fl A y.next (.ref z'.1)))
    have er:(stepS W s1 z k z').rg.map V.int = y.rung:=by unfold stepS; dsimp only; rw [if_neg kb,R.rg]
    refine q _ a ?_
    rw [er,es]
    exact h5
theorem scNs:FnScope ["yard","stand","piece","end","kind","side","out","behind","mate"] ["yard"] (defScope s_Jk):=⟨rfl,rfl,rfl,by decide +kernel,rfl,by decide +kernel,by decide +kernel⟩
theorem ok_Jk (T:Txt K mg t):FnOk P w K mg base CX0 5 t.f_Jk t.d_Jk ["yard"] (sp_next t.c_Yard):=by
 refine T.F_Jk.ok scNs (fun vs H Q E h => ?_) (fun cdv A outer s H vs Q E hr h => ?_)
 ·obtain ⟨_,_,_,_,_,rfl,_⟩:=h
  rfl
 ·obtain ⟨A,y,L,W,s1,rfl,hH,R,PL,q⟩:=h
  have three:3 <= sizeLine:=by decide
  refine ⟨_,(pss_cons (ps_set (i:=1) scNs.nd rfl (Or.inl rfl) (pe_meth0 (pv 0) T.cl_Yard T.M_J7 (ok_J7 T) (hr.mono (by decide)) (b_J7 T) .nil pass0))
   (pss_cons (ps_if (pt_cmpR op_isN (pv 1) pe_non (nomark _))
    (pss_one (ps_ret (pe_tup (pa_cons pe_str (pa_cons pe_non (pa_cons pe_non pa_nil))))))
    pss_nil)
   (pss_cons (ps_asg (pv 1) (pg_tup rfl (pgs_cons (pg_name (i:=2) scNs.nd rfl (Or.inl rfl)) (pgs_cons (pg_name (i:=3) scNs.nd rfl (Or.inl rfl)) pgs_nil))))
   (pss_cons (ps_set (i:=4) scNs.nd rfl (Or.inl rfl) (pe_meth (pv 0) T.cl_Yard T.M_Jp (ok_Jp T) (hr.mono (by decide)) (b_Jp T) .nil pass0 (pa_cons (pv 2) pa_nil)))
   (pss_cons (ps_set (i:=5) scNs.nd rfl (Or.inl rfl) (pe_ifExp (pt_val (pe_call (ok_Jv T) (hr.mono (by decide)) (by rfl) T.m_Jv T.F_Jv.kp (b_Jv T) .nil pass0 (pa_cons (pv 4) pa_nil))) (pe_meth (pv 0) T.cl_Yard T.M_Jr (ok_Jr T) (hr.mono (by decide)) (b_Jr T) .nil pass0 (pa_cons (pe_meth (pv 0) T.cl_Yard T.M_Jz (ok_Jz T) (hr.mono (by decide)) (b_Jz T) .nil pass0 (pa_cons (pv 2) pa_nil)) pa_nil)) pe_non))
   (pss_cons (ps_asg (pe_call (ok_J01 T) (hr.mono (by decide)) (by rfl) T.m_J01 T.F_J01.kp (b_J01 T) .nil pass0 (pa_cons (pv 4) (pa_cons (pv 3) (pa_cons (pv 5) pa_nil)))) (pg_tup rfl (pgs_cons (pg_name (i:=6) scNs.nd rfl (Or.inl rfl)) (pgs_cons (pg_name (i:=7) scNs.nd rfl (Or.inl rfl)) pgs_nil))))
   (pss_cons (ps_if (pt_cmpR op_isN (pv 6) pe_non (nomark _))
    (pss_one (ps_ret (pe_tup (pa_cons pe_str (pa_cons pe_non (pa_cons pe_non pa_nil))))))
    pss_nil)
   (pss_cons (ps_set (i:=8) scNs.nd rfl (Or.inl rfl) (pe_meth (pv 0) T.cl_Yard T.M_Jq (ok_Jq T) (hr.mono (by decide)) (b_Jq T) .nil pass0 (@pa_cons _ _ _ _ _ (pe_tup (pa_cons (pv 2) (pa_cons (pv 6) pa_nil))) pa_nil (by rfl))))
   (pss_cons (ps_if (pt_cmpR op_isN (pv 8) pe_non (nomark _))
    (pss_one (ps_ret (pe_tup (pa_cons pe_str (pa_cons pe_non (pa_cons pe_non pa_nil))))))
    pss_nil)
   (pss_one (ps_ret (pe_tup (pa_cons pe_non (pa_cons (pv 8) (pa_cons (pv 7) pa_nil))))))))))))))),?_⟩
  refine ⟨_,rfl,A.p,A.dx,_,rfl,hH.get 1 rfl,(fl_m4 _ _ _).2.2.2.2.2.2.1,A,y,L,rfl,hH,?_⟩
  refine ⟨_,rfl,rfl,_,rfl,?_⟩
  rw [R.en]
  cases hz:s1.at_ with
  | none =>
   obtain ⟨n1,n2⟩:=why_none (w:=W) hz
   exact iteT ⟨three,fun p hp => q _ p _ (.held n1 _ n2) (hH.alloc hp _)⟩
  | some z =>
   obtain ⟨j,hj⟩:=PL.e z hz
   obtain ⟨k,hk,e0,e1⟩:=R.eo z hz
   have gz:=hH.get (j + 9) (by simpa [yL] using hj)
   have vk:valV y.kinds (Sum.inl z.2.1) = some (.str k.str):=R.kd _ _ hk
   refine iteF ?_
   refine ⟨_,rfl,z.1,_,rfl,SqT.of gz,rfl,_,_,rfl,_,_,rfl,rfl,?_⟩
   refine ⟨_,rfl,A.p,A.dx,_,rfl,hH.get 1 rfl,(fl_m4 _ _ _).2.2.2.2.1,_,rfl,A,y,L,z.2.1,_,rfl,hH,vk,?_⟩
   refine ⟨_,rfl,k,rfl,_,rfl,?_⟩
   have thr:∀ o:Int,k.out z.2.2 (W.sv s1 z.2.1) = .int o -> There y z.2.1 o:=fun o ho => by
    have:=Kd.out_in e0 e1 (fun hp => R.s1 hk hp) ho
    exact ⟨k,vk,this.1,this.2⟩
   refine if2 (fun hp => ?_) (fun hp => ?_)
   ·obtain ⟨r0,r1⟩:=R.rr _ _ hk hp
    have vr:valV y.rods (Sum.inl z.2.1) = some (.int (W.rf z.2.1)):=by rw [R.ro _ _ hk,if_pos hp]
    refine ⟨_,rfl,A.p,A.dx,_,rfl,hH.get 1 rfl,(fl_m _ _ _).2.2.2.2.2.1,_,rfl,A.p,A.dx,_,rfl,hH.get 1 rfl,(fl_m _ _ _).2.2.2.2.1,_,rfl,A,y,L,z.2.1,_,_,rfl,hH,vk,vr,A,y,L,W.rf z.2.1,_,rfl,hH,r0,R.sideAt hk hp,?_⟩
    refine ⟨_,rfl,_,rfl,_,rfl,k,z.2.2,W.sv s1 z.2.1,V.int (W.sv s1 z.2.1),rfl,e0,e1,(fun h => ⟨rfl,R.s1 hk hp⟩),fun p hp1 => ?_⟩
    have h1:=hH.alloc hp1 (.tup [k.out z.2.2 (W.sv s1 z.2.1),if k.point then .int (k.side z.2.2 (W.sv s1 z.2.1)) else V.int (W.sv s1 z.2.1)])
    refine ⟨p,_,rfl,SqT.of (h1.get 0 rfl),rfl,_,_,rfl,_,_,rfl,rfl,?_⟩
    replace h1:=h1.tail
    generalize upd H p _ = H1 at h1 ⊢
    refine ⟨_,rfl,rfl,_,rfl,?_⟩
    by_cases c:k.out z.2.2 (W.sv s1 z.2.1) = .non
    ·obtain ⟨n1,n2⟩:=why_stop hz hk c
     exact ifT (decide_eq_true c) ⟨three,fun p hp => q _ p _ (.held n1 _ n2) (h1.alloc hp _)⟩
    ·refine ifF (decide_eq_false c) ?_
     obtain ⟨o,ho⟩:=Kd.out_int (k:=k) (fun e => c (by unfold Kd.out; rw [if_pos e])) z.2.2 (W.sv s1 z.2.1)
     rw [ho]
     refine ⟨_,rfl,A.p,A.dx,_,rfl,h1.get 1 rfl,(fl_m2 _ _ _).2.1,_,rfl,_,rfl,(show 2 <= sizeLine by decide),fun b hb => ?_⟩
     have h2:=Has.comm (X:=[(b,.tup [.int z.2.1,.int o])]) (Y:=yL t.c_Yard A y) (R:=L) (h1.alloc hb (.tup [.int z.2.1,.int o]))
     generalize upd H1 b _ = H2 at h2 ⊢
     refine ⟨A,y,_,b,z.2.1,o,0,rfl,h2,rfl,thr o ho,?_⟩
     have h3:=(Has.comm (X:=yL t.c_Yard A y) (Y:=[(b,.tup [.int z.2.1,.int o])]) (R:=L) h2).tail
     refine ⟨_,rfl,rfl,_,rfl,?_⟩
     rw [R.mt]
     cases hm:W.mf z.2.1 o with
     | none =>
      obtain ⟨n1,n2⟩:=why_loose hz hk ho hm
      exact iteT ⟨three,fun p hp => q _ p _ (.held n1 _ n2) (h3.alloc hp _)⟩
     | some z' =>
      exact iteF ⟨_,rfl,_,rfl,three,fun p hp => q _ p _ (.goes z k o z' hz hk ho hm) (by rw [if_pos (by assumption:k.point = true)]; have:=h3.alloc hp (.tup [.non,.ref z'.1,.int (k.side z.2.2 (W.sv s1 z.2.1))]); simpa [*] using this)⟩
   ·refine ⟨_,rfl,_,rfl,_,rfl,k,z.2.2,W.sv s1 z.2.1,V.non,rfl,e0,e1,(fun h => absurd h (by rw [hp]; decide)),fun p hp1 => ?_⟩
    have h1:=hH.alloc hp1 (.tup [k.out z.2.2 (W.sv s1 z.2.1),if k.point then .int (k.side z.2.2 (W.sv s1 z.2.1)) else V.non])
    refine ⟨p,_,rfl,SqT.of (h1.get 0 rfl),rfl,_,_,rfl,_,_,rfl,rfl,?_⟩
    replace h1:=h1.tail
    generalize upd H p _ = H1 at h1 ⊢
    refine ⟨_,rfl,rfl,_,rfl,?_⟩
    by_cases c:k.out z.2.2 (W.sv s1 z.2.1) = .non
    ·obtain ⟨n1,n2⟩:=why_stop hz hk c
     exact ifT (decide_eq_true c) ⟨three,fun p hp => q _ p _ (.held n1 _ n2) (h1.alloc hp _)⟩
    ·refine ifF (decide_eq_false c) ?_
     obtain ⟨o,ho⟩:=Kd.out_int (k:=k) (fun e => c (by unfold Kd.out; rw [if_pos e])) z.2.2 (W.sv s1 z.2.1)
     rw [ho]
     refine ⟨_,rfl,A.p,A.dx,_,rfl,h1.get 1 rfl,(fl_m2 _ _ _).2.1,_,rfl,_,rfl,(show 2 <= sizeLine by decide),fun b hb => ?_⟩
     have h2:=Has.comm (X:=[(b,.tup [.int z.2.1,.int o])]) (Y:=yL t.c_Yard A y) (R:=L) (h1.alloc hb (.tup [.int z.2.1,.int o]))
     generalize upd H1 b _ = H2 at h2 ⊢
     refine ⟨A,y,_,b,z.2.1,o,0,rfl,h2,rfl,thr o ho,?_⟩
     have h3:=(Has.comm (X:=yL t.c_Yard A y) (Y:=[(b,.tup [.int z.2.1,.int o])]) (R:=L) h2).tail
     refine ⟨_,rfl,rfl,_,rfl,?_⟩
     rw [R.mt]
     cases hm:W.mf z.2.1 o with
     | none =>
      obtain ⟨n1,n2⟩:=why_loose hz hk ho hm
      exact iteT ⟨three,fun p hp => q _ p _ (.held n1 _ n2) (h3.alloc hp _)⟩
     | some z' =>
      exact iteF ⟨_,rfl,_,rfl,three,fun p hp => q _ p _ (.goes z k o z' hz hk ho hm) (by exact h3.alloc hp _)⟩
theorem scRn:FnScope ["yard","most","done","why","end","side"] ["yard","most"] (defScope s_run):=⟨rfl,rfl,rfl,by decide +kernel,rfl,by decide +kernel,by decide +kernel⟩
theorem ok_run (T:Txt K mg t):FnOk P w K mg base CX0 6 t.f_run t.d_run ["yard","most"] (sp_run t.c_Yard):=by
 refine T.F_run.ok scRn (fun vs H Q E h => ?_) (fun cdv A outer s H vs Q E hr h => ?_)
 ·obtain ⟨_,_,_,_,_,_,_,rfl,_⟩:=h
  rfl
 ·obtain ⟨A,y,L,W,s0,ts,m,rfl,hH,R,PL,tl,b1,b2,b3,b4,q⟩:=h
  refine ⟨_,(pss_cons (ps_set (i:=2) scRn.nd rfl (Or.inl rfl) pe_int)
   (pss_cons (ps_while PassesOwn.never (pt_cmpR op_lt (pv 2) (pv 1) (nomark _))
    (pss_cons (ps_asg (pe_call (ok_Jk T) (hr.mono (by decide)) (by rfl) T.m_Jk T.F_Jk.kp (b_Jk T) .nil pass0 (pa_cons (pv 0) pa_nil)) (pg_tup rfl (pgs_cons (pg_name (i:=3) scRn.nd rfl (Or.inl rfl)) (pgs_cons (pg_name (i:=4) scRn.nd rfl (Or.inl rfl)) (pgs_cons (pg_name (i:=5) scRn.nd rfl (Or.inl rfl)) pgs_nil)))))
     (pss_cons (ps_if (pt_cmpR op_notN (pv 3) pe_non (nomark _))
      (pss_one ps_break)
      pss_nil)
     (pss_cons (ps_expr (pe_meth (pv 0) T.cl_Yard T.M_Ji (ok_Ji T) (hr.mono (by decide)) (b_Ji T) .nil pass0 (pa_cons (pv 4) (pa_cons (pv 5) pa_nil))))
     (pss_one (ps_aug (i:=2) scRn.nd rfl (Or.inl rfl) pe_int ip_add))))))
   (pss_one (ps_ret (pv 2))))),?_⟩
  refine ⟨runInv t.c_Yard A y L W s0 ts m,⟨_,0,y,[],s0,_,_,_,rfl,Nat.zero_le _,rfl,by rw [List.append_nil]; exact hH,R,PL,by rw [List.append_nil]; exact tl,rfl,rfl,rfl,Nat.le_refl _,rfl,rfl,rfl,rfl,rfl⟩,?_⟩
  rintro r σ H1 ⟨i,y1,ts1,s1,o1,o2,o3,rfl,im,rfl,h1,R1,P1,tl1,li,eg,eh,rg,f1,f2,f3,f4,f5⟩
  refine ⟨_,rfl,_,rfl,_,_,rfl,rfl,_,rfl,if2 (fun hc => ?_) (fun hc => ?_)⟩
  ·have hlt:(i:Int) < m:=of_decide_eq_true hc
   refine ⟨fun σ' H' => ∃ r',r' < m.toNat - i /\ runInv t.c_Yard A y L W s0 ts m r' σ' H',fun _ _ h => h,?_⟩
   refine ⟨_,rfl,A,y1,_,W,s1,rfl,h1,R1,P1.app _,fun H2 p xs nx h2 => ?_⟩
   cases nx with
   | held hn x e =>
    refine ⟨p,_,rfl,SqT.of (h2.get 0 rfl),rfl,_,_,rfl,_,_,rfl,_,_,rfl,rfl,?_⟩
    refine ⟨_,rfl,rfl,_,rfl,ifT rfl ?_⟩
    rw [go_held W hn] at eg
    rw [hist_held W hn,List.append_nil] at eh
    refine ⟨_,rfl,?_⟩
    have:=q H2 y1 ts1 h2.tail (by rw [eg]; exact R1) tl1 eh.symm f1 f2 f3 f4 f5 (by rw [eg]; exact P1)
    rw [li] at this
    exact this
   | goes z k o z' hz hk ho hm =>
    have hn:=nx_of hz hk ho hm
    refine ⟨p,_,rfl,SqT.of (h2.get 0 rfl),rfl,_,_,rfl,_,_,rfl,_,_,rfl,rfl,?_⟩
    refine ⟨_,rfl,rfl,_,rfl,ifF rfl ?_⟩
    replace h2:=h2.tail
    have tll:y1.trail.length = ts.length + i:=by rw [tl1]; unfold trV; rw [List.length_map,List.length_append,li]
    refine ⟨_,rfl,A.p,A.dx,_,rfl,h2.get 1 rfl,(fl_m4 _ _ _).2.2.1,_,rfl,_,rfl,A,y1,_,W,s1,z,k,z',rfl,h2,R1,hz,hk,(P1.app _).e z hz,by omega,by omega,fun H3 a h3 => ?_⟩
    refine ⟨_,rfl,_,_,rfl,rfl,?_⟩
    have em:m.toNat - i = (m.toNat - (i + 1)) + 1:=by omega
    rw [em,go_succ W hn] at eg
    rw [em,hist_succ W hn] at eh
    refine ⟨m.toNat - (i + 1),by omega,i + 1,{ y1 with sides:=(stepS W s1 z k z').ss.map V.int,eng:=.ref z'.1,rung:=(stepS W s1 z k z').rg.map V.int,trail:=y1.trail ++ [.ref a] },ts1 ++ [(a,s1)],stepS W s1 z k z',_,_,_,rfl,by omega,rfl,?_,stepS_keep R1 hz hk hm rfl rfl rfl rfl rfl rfl rfl,P1.step hn,?_,by simp [li],eg,by rw [eh]; simp,?_,f1,f2,f3,f4,f5⟩
    ·rw [<- List.append_assoc ts ts1,trK_snoc]
     exact h3.perm (List.Perm.append_left _ List.perm_middle.symm)
    ·show y1.trail ++ [.ref a] = _
     rw [tl1]; unfold trV; simp
    ·show ((stepS W s1 z k z').rg.map V.int).length <= _
     have:=stepS_rg_le (w:=W) (s:=s1) (z:=z) (k:=k) (z':=z')
     have e:=congrArg List.length R1.rg
     rw [List.length_map] at e ⊢
     omega
  ·have hge:¬ (i:Int) < m:=of_decide_eq_false hc
   have e0:m.toNat - i = 0:=by omega
   rw [e0] at eg eh
   refine ⟨_,rfl,?_⟩
   have:=q H1 y1 ts1 h1 (by rw [eg]; exact R1) tl1 (by rw [eh]; exact (List.append_nil _).symm) f1 f2 f3 f4 f5 (by rw [eg]; exact P1)
   rw [li] at this
   exact this
end
end P
set_option Elab.async false
set_option linter.all false
set_option maxRecDepth 100000
set_option maxHeartbeats 4000000
namespace P
open PySem L2
def kvOf (ks:List Kd):List (Key × V):=ks.zipIdx.map fun p => ((Sum.inl (p.2:Int):Key),V.str p.1.str)
theorem kvOf_snoc (ks:List Kd) (k:Kd):kvOf (ks ++ [k]) = kvOf ks ++ [((Sum.inl (ks.length:Int):Key),V.str k.str)]:=by
 unfold kvOf
 rw [List.zipIdx_append,List.map_append]
 simp
theorem kvOf_length (ks:List Kd):(kvOf ks).length = ks.length:=by unfold kvOf; simp
theorem valV_kv (f:Kd -> V):∀ (ks:List Kd) (n m:Nat),valV ((ks.zipIdx n).map fun p => ((Sum.inl (p.2:Int):Key),f p.1)) (Sum.inl (m:Int)) = if n <= m then (ks[m - n]?).map f else none
 | [],n,m => by simp [valV_nil]
 | k :: ks,n,m => by
  rw [List.zipIdx_cons,List.map_cons]
  by_cases e:n = m
  ·subst e
   rw [valV_pos rfl]; simp
  ·rw [valV_neg (fun z => e (by injection z with z; exact Int.ofNat.inj z)),valV_kv f ks (n + 1) m]
   by_cases c:n <= m
   ·rw [if_pos c,if_pos (by omega)]
    obtain ⟨d,rfl⟩:∃ d,m = n + 1 + d:=⟨m - (n + 1),by omega⟩
    rw [show n + 1 + d - (n + 1) = d by omega,show n + 1 + d - n = d + 1 by omega]
    rfl
   ·rw [if_neg c,if_neg (by omega)]
theorem valV_kvOf (ks:List Kd) (m:Nat):valV (kvOf ks) (Sum.inl (m:Int)) = (ks[m]?).map fun k => V.str k.str:=by
 have:=valV_kv (fun k => V.str k.str) ks 0 m
 rw [if_pos (Nat.zero_le _)] at this
 exact this
structure Blt (y:YR) (ks:List Kd) (ns rs ss:List Int):Prop where
 nx:y.next = ks.length
 kd:y.kinds = kvOf ks
 nl:ns.length = ks.length
 rl:rs.length = ks.length
 no:∀ (i:Nat),valV y.notes (Sum.inl (i:Int)) = if ks[i]? = some .bell then some (.int (ns.getD i 0)) else none
 ro:∀ (i:Nat),valV y.rods (Sum.inl (i:Int)) = if (ks[i]?.map Kd.point) = some true then some (.int (rs.getD i 0)) else none
 rr:∀ (i:Nat),(ks[i]?.map Kd.point) = some true -> 0 <= rs.getD i 0 /\ rs.getD i 0 < ss.length
 nlen:y.notes.length <= ks.length
 rlen:y.rods.length <= ks.length
 sd:y.sides = ss.map V.int
 s12:∀ s ∈ ss,s = 1 ∨ s = 2
 sl:ss.length <= ks.length
 mt:y.mates = []
 en:y.eng = .non
 rg:y.rung = []
 tl:y.trail = []
 nr:∀ x ∈ ns,0 <= x /\ x <= 9999
 rn:∀ (i:Nat),(ks[i]?.map Kd.point) = some false -> rs.getD i 0 < 0
theorem Blt.nil:Blt y0 [] [] [] []:=⟨rfl,rfl,rfl,rfl,(fun i => rfl),(fun i => rfl),(fun i h => by simp at h),Nat.le_refl _,Nat.le_refl _,rfl,(fun _ h => nomatch h),Nat.le_refl _,rfl,rfl,rfl,rfl,(fun _ h => nomatch h),(fun i h => by simp at h)⟩
theorem Blt.small {y:YR} {ks:List Kd} {ns rs ss:List Int} (h:Blt y ks ns rs ss) (hk:ks.length <= 1000):Small y :=
 ⟨by rw [h.kd,kvOf_length]; omega,by have:=h.nlen; omega,by have:=h.rlen; omega,by have:=h.sl; rw [h.sd,List.length_map]; omega,by rw [h.mt]; decide,by rw [h.rg]; decide,by rw [h.tl]; decide⟩
theorem getD_snoc {xs:List Int} {x:Int} {i:Nat} (h:i < xs.length):(xs ++ [x]).getD i 0 = xs.getD i 0:=by simp [List.getD,List.getElem?_append_left h]
theorem getD_last {xs:List Int} {x:Int}:(xs ++ [x]).getD xs.length 0 = x:=by simp [List.getD]
theorem Blt.lay {y:YR} {ks:List Kd} {ns rs ss:List Int} (h:Blt y ks ns rs ss) (k:Kd) (z note bar:Int) (rod:V) (ss':List Int) (hz:0 <= z /\ z <= 9999) (hb:k = .bell -> note = z)
  (hp:k.point = true -> (rod = .non /\ bar = ss.length /\ ss' = ss ++ [1]) ∨ (rod = .int bar /\ 0 <= bar /\ bar < ss.length /\ ss' = ss)) (hn:k.point = false -> ss' = ss /\ bar < 0) :
  Blt (layY y k note rod) (ks ++ [k]) (ns ++ [z]) (rs ++ [bar]) ss':=by
 have hnl:=h.nl
 have hrl:=h.rl
 have up:ss.length <= ss'.length /\ ss'.length <= ss.length + 1:=by
  cases e:k.point with
  | false => rw [(hn e).1]; omega
  | true => rcases hp e with ⟨_,_,r⟩ | ⟨_,_,_,r⟩ <;> rw [r] <;> simp
 have fresh:valV y.kinds (Sum.inl (ks.length:Int)) = none:=by rw [h.kd,valV_kvOf,List.getElem?_eq_none (Nat.le_refl _)]; rfl
 have ne:∀ {i:Nat},¬ i = ks.length -> ¬ (Sum.inl (i:Int):Key) = Sum.inl (ks.length:Int):=fun {i} c e => c (by injection e with e; exact Int.ofNat.inj e)
 have out:∀ {i:Nat},¬ i = ks.length -> ¬ i < ks.length -> (ks ++ [k])[i]? = none /\ ks[i]? = none:=fun {i} c1 c2 => ⟨List.getElem?_eq_none (by simp; omega),List.getElem?_eq_none (by omega)⟩
 refine ⟨?_,?_,by simp [hnl],by simp [hrl],fun i => ?_,fun i => ?_,fun i hi => ?_,?_,?_,?_,?_,?_,h.mt,h.en,h.rg,rfl,?_,fun i hi => ?_⟩
 ·show y.next + 1 = _
  rw [h.nx]; simp
 ·show putK y.kinds (Sum.inl y.next) (.str k.str) = _
  rw [h.nx,putK_new _ fresh,h.kd,kvOf_snoc]
 ·show valV (if k = .bell then putK y.notes (Sum.inl y.next) (.int note) else y.notes) _ = _
  rw [h.nx]
  by_cases c:i = ks.length
  ·subst c
   rw [List.getElem?_concat_length]
   by_cases kb:k = .bell
   ·rw [if_pos kb,valV_put,if_pos rfl,if_pos (by rw [kb]),<- hnl,getD_last,hb kb]
   ·rw [if_neg kb,h.no,List.getElem?_eq_none (Nat.le_refl _),if_neg (by intro z; cases z),if_neg (by intro z; exact kb (Option.some.inj z))]
  ·have e:valV (if k = .bell then putK y.notes (Sum.inl (ks.length:Int)) (.int note) else y.notes) (Sum.inl (i:Int)) = valV y.notes (Sum.inl (i:Int)):=by
    by_cases kb:k = .bell
    ·rw [if_pos kb,valV_put,if_neg (ne c)]
    ·rw [if_neg kb]
   rw [e,h.no]
   by_cases c2:i < ks.length
   ·rw [List.getElem?_append_left c2,getD_snoc (by omega)]
   ·rw [(out c c2).1,(out c c2).2,if_neg (by intro z; cases z),if_neg (by intro z; cases z)]
 ·show valV (if k.point = true then putK y.rods (Sum.inl y.next) (if rod = .non then .int y.sides.length else rod) else y.rods) _ = _
  rw [h.nx]
  by_cases c:i = ks.length
  ·subst c
   rw [List.getElem?_concat_length,<- hrl,getD_last,hrl]
   cases kp:k.point with
   | true =>
    rw [if_pos rfl,valV_put,if_pos rfl,if_pos (show Option.map Kd.point (some k) = some true by simp [kp])]
    rcases hp kp with ⟨r1,r2,_⟩ | ⟨r1,_,_,_⟩
    ·rw [if_pos r1,h.sd,List.length_map,r2]
    ·rw [r1,if_neg (by intro z; cases z)]
   | false =>
    rw [if_neg Bool.false_ne_true,h.ro,List.getElem?_eq_none (Nat.le_refl _),if_neg (by intro z; cases z),if_neg (by simp [kp])]
  ·have e:valV (if k.point = true then putK y.rods (Sum.inl (ks.length:Int)) (if rod = .non then .int y.sides.length else rod) else y.rods) (Sum.inl (i:Int)) = valV y.rods (Sum.inl (i:Int)):=by
    by_cases kb:k.point = true
    ·rw [if_pos kb,valV_put,if_neg (ne c)]
    ·rw [if_neg kb]
   rw [e,h.ro]
   by_cases c2:i < ks.length
   ·rw [List.getElem?_append_left c2,getD_snoc (by omega)]
   ·rw [(out c c2).1,(out c c2).2,if_neg (by intro z; cases z),if_neg (by intro z; cases z)]
 ·by_cases c:i = ks.length
  ·subst c
   rw [List.getElem?_concat_length] at hi
   rw [<- hrl,getD_last]
   rcases hp (by simpa using hi) with ⟨_,r2,r3⟩ | ⟨_,r2,r3,r4⟩
   ·refine ⟨by omega,?_⟩
    rw [r3,r2,List.length_append,List.length_singleton]
    omega
   ·rw [r4]; exact ⟨r2,r3⟩
  ·by_cases c2:i < ks.length
   ·rw [List.getElem?_append_left c2] at hi
    rw [getD_snoc (by omega)]
    have:=h.rr i hi
    exact ⟨this.1,by omega⟩
   ·rw [(out c c2).1] at hi; cases hi
 ·show (if k = .bell then putK y.notes (Sum.inl y.next) (.int note) else y.notes).length <= _
  have:=h.nlen
  have:=length_putK y.notes (Sum.inl y.next) (.int note)
  rw [List.length_append,List.length_singleton]
  split <;> omega
 ·show (if k.point = true then putK y.rods (Sum.inl y.next) (if rod = .non then .int y.sides.length else rod) else y.rods).length <= _
  have:=h.rlen
  have:=length_putK y.rods (Sum.inl y.next) (if rod = .non then .int y.sides.length else rod)
  rw [List.length_append,List.length_singleton]
  split <;> omega
 ·show (if k.point = true /\ rod = .non then y.sides ++ [.int 1] else y.sides) = _
  cases kp:k.point with
  | true =>
   rcases hp kp with ⟨r1,_,r3⟩ | ⟨r1,_,_,r4⟩
   ·rw [if_pos ⟨rfl,r1⟩,h.sd,r3,List.map_append]; rfl
   ·rw [if_neg (by rw [r1]; intro z; cases z.2),h.sd,r4]
  | false => rw [if_neg (fun z => Bool.false_ne_true z.1),h.sd,(hn kp).1]
 ·intro s hs
  cases kp:k.point with
  | true =>
   rcases hp kp with ⟨r1,_,r3⟩ | ⟨r1,_,_,r4⟩
   ·rw [r3,List.mem_append] at hs
    rcases hs with hs | hs
    ·exact h.s12 s hs
    ·exact .inl (by simpa using hs)
   ·rw [r4] at hs; exact h.s12 s hs
  | false => rw [(hn kp).1] at hs; exact h.s12 s hs
 ·have:=h.sl
  rw [List.length_append,List.length_singleton]
  omega
 ·intro x hx
  rw [List.mem_append] at hx
  rcases hx with hx | hx
  ·exact h.nr x hx
  ·rw [List.mem_singleton.mp hx]; exact hz
 ·by_cases c:i = ks.length
  ·subst c
   rw [List.getElem?_concat_length] at hi
   rw [<- hrl,getD_last]
   exact (hn (by simpa using hi)).2
  ·by_cases c2:i < ks.length
   ·rw [List.getElem?_append_left c2] at hi
    rw [getD_snoc (by omega)]
    exact h.rn i hi
   ·rw [(out c c2).1] at hi; cases hi
def sp_kinds:Sp:=fun vs H Q _ => vs = [] /\ ∀ p,H p = none -> Q (.ref p) (upd H p (.lst [.str "line",.str "bell",.str "still",.str "lazy",.str "turning",.str "stop"]))
def sp_kind:Sp:=fun vs H Q _ => ∃ (x:Int) (L:Kn),vs = [.int x] /\ Has H L /\ ∀ (k:Kd) H',Has H' L -> Q (.str k.str) H'
def sp_size:Sp:=fun vs H Q _ => ∃ x:Int,vs = [.int x] /\ ∀ n:Int,1 <= n -> n <= 24 -> Q (.int n) H
def ksV (ks:List Kd):List V:=ks.map fun k => V.str k.str
def sp_built (C:Addr):Sp:=fun vs H Q _ => ∃ (d:Addr) (ds:List Int) (a n:Int) (L:Kn) (j:Nat),vs = [.ref d,.int a,.int n] /\ Has H L /\ L[j]? = some (d,.lst (ds.map V.int)) /\ 0 <= a /\ 0 <= n /\ n <= 24 /\ a + 3 * n <= ds.length /\
 ∀ H' A y (ks:List Kd) (ns rs ss:List Int) (tp sd rr nn kk:Addr),Blt y ks ns rs ss -> (ks.length:Int) = n ->
  Has H' ((tp,.tup [.ref A.p,.ref kk,.ref nn,.ref rr,.ref sd]) :: (yL C A y ++ ([(sd,.lst (ss.map V.int)),(rr,.lst (rs.map V.int)),(nn,.lst (ns.map V.int)),(kk,.lst (ksV ks))] ++ L))) -> Q (.ref tp) H'
theorem Kd.of11 (x:Int):∃ k:Kd,atI ([V.str "line",.str "bell",.str "still",.str "lazy",.str "turning",.str "stop"] ++ [V.str "lazy",.str "turning",.str "bell",.str "still",.str "line"]) (x % 11) = some (.str k.str):=by
 have l0:=Int.emod_nonneg x (show (11:Int) ≠ 0 by decide)
 have l1:=Int.emod_lt_of_pos x (show (0:Int) < 11 by decide)
 generalize x % 11 = m at *
 have:m = 0 ∨ m = 1 ∨ m = 2 ∨ m = 3 ∨ m = 4 ∨ m = 5 ∨ m = 6 ∨ m = 7 ∨ m = 8 ∨ m = 9 ∨ m = 10:=by omega
 rcases this with rfl | rfl | rfl | rfl | rfl | rfl | rfl | rfl | rfl | rfl | rfl
 ·exact ⟨.line,rfl⟩
 ·exact ⟨.bell,rfl⟩
 ·exact ⟨.still,rfl⟩
 ·exact ⟨.lazy,rfl⟩
 ·exact ⟨.turning,rfl⟩
 ·exact ⟨.stop,rfl⟩
 ·exact ⟨.lazy,rfl⟩
 ·exact ⟨.turning,rfl⟩
 ·exact ⟨.bell,rfl⟩
 ·exact ⟨.still,rfl⟩
 ·exact ⟨.line,rfl⟩
theorem atD {ds:List Int} {i:Int} (h0:0 <= i) (h1:i < ds.length):atI (ds.map V.int) i = some (.int (ds.getD i.toNat 0)):=by
 obtain ⟨m,rfl⟩:∃ m:Nat,i = m:=⟨i.toNat,by omega⟩
 have hl:m < ds.length:=by omega
 rw [Int.toNat_natCast]
 refine atI_nat ?_
 rw [List.getElem?_map,List.getElem?_eq_getElem hl]
 simp [List.getD,List.getElem?_eq_getElem hl]
section
variable {P:Program} {w:World} {K:PySem.W.Frag} {mg:Str -> Option Value} {base:Heap} {t:Adr}
theorem scKs:FnScope [] [] (defScope s_kinds):=⟨rfl,rfl,rfl,by decide +kernel,rfl,by decide +kernel,by decide +kernel⟩
theorem ok_kinds (T:Txt K mg t):FnOk P w K mg base CX0 1 t.f_kinds t.d_kinds [] sp_kinds:=by
 refine T.F_kinds.ok scKs (fun vs H Q E h => ?_) (fun cdv A outer s H vs Q E hr h => ?_)
 ·obtain ⟨rfl,_⟩:=h
  rfl
 ·obtain ⟨rfl,q⟩:=h
  refine ⟨_,(pss_one (ps_ret (pe_lst (pa_cons pe_str (pa_cons pe_str (pa_cons pe_str (pa_cons pe_str (pa_cons pe_str (pa_cons pe_str pa_nil))))))))),?_⟩
  exact ⟨(show 6 <= sizeLine by decide),fun p hp => q p hp⟩
theorem scKn:FnScope ["_law_draw"] ["_law_draw"] (defScope s_kind):=⟨rfl,rfl,rfl,by decide +kernel,rfl,by decide +kernel,by decide +kernel⟩
theorem ok_kind (T:Txt K mg t):FnOk P w K mg base CX0 2 t.f_kind t.d_kind ["_law_draw"] sp_kind:=by
 refine T.F_kind.ok scKn (fun vs H Q E h => ?_) (fun cdv A outer s H vs Q E hr h => ?_)
 ·obtain ⟨_,_,rfl,_⟩:=h
  rfl
 ·obtain ⟨x,L,rfl,hH,q⟩:=h
  refine ⟨_,(pss_one (ps_ret (pe_ix ix_list (pe_op op_addL (pe_call0 (ok_kinds T) (hr.mono (by decide)) (by rfl) T.m_kinds T.F_kinds.kp (b_kinds T) .nil pass0) (pe_lst (pa_cons pe_str (pa_cons pe_str (pa_cons pe_str (pa_cons pe_str (pa_cons pe_str pa_nil))))))) (pe_op op_mod (pv 0) pe_int) (fun _ _ => rfl)))),?_⟩
  refine ⟨rfl,fun p1 hp1 => ?_⟩
  have h1:=hH.alloc hp1 (.lst [.str "line",.str "bell",.str "still",.str "lazy",.str "turning",.str "stop"])
  refine ⟨(show 5 <= sizeLine by decide),fun p2 hp2 => ?_⟩
  have h2:=h1.alloc hp2 (.lst [.str "lazy",.str "turning",.str "bell",.str "still",.str "line"])
  refine ⟨p1,p2,_,_,rfl,rfl,SqL.of (h2.get 1 rfl),SqL.of (h2.get 0 rfl),(show 11 <= sizeLine by decide),fun p3 hp3 => ?_⟩
  have h3:=h2.alloc hp3 (.lst ([V.str "line",.str "bell",.str "still",.str "lazy",.str "turning",.str "stop"] ++ [V.str "lazy",.str "turning",.str "bell",.str "still",.str "line"]))
  obtain ⟨k,hk⟩:=Kd.of11 x
  refine ⟨_,rfl,_,_,rfl,rfl,(show (0:Int) < 11 by decide),p3,_,_,_,rfl,rfl,SqL.of (h3.get 0 rfl),hk,?_⟩
  exact q k _ h3.tail.tail.tail
theorem scSz:FnScope ["_law_draw"] ["_law_draw"] (defScope s_size):=⟨rfl,rfl,rfl,by decide +kernel,rfl,by decide +kernel,by decide +kernel⟩
theorem ok_size (T:Txt K mg t):FnOk P w K mg base CX0 1 t.f_size t.d_size ["_law_draw"] sp_size:=by
 refine T.F_size.ok scSz (fun vs H Q E h => ?_) (fun cdv A outer s H vs Q E hr h => ?_)
 ·obtain ⟨_,rfl,_⟩:=h
  rfl
 ·obtain ⟨x,rfl,q⟩:=h
  refine ⟨_,(pss_cons (ps_if (pt_cmpR op_eq (pe_op op_mod (pe_op op_fdiv (pv 0) pe_int) pe_int) pe_int (nomark _))
    (pss_one (ps_ret pe_int))
    pss_nil)
   (pss_one (ps_ret (pe_op op_add pe_int (pe_op op_mod (pv 0) pe_int))))),?_⟩
  refine ⟨_,rfl,_,_,rfl,rfl,⟨by decide,by decide⟩,_,_,rfl,rfl,(show (0:Int) < 6 by decide),rfl,_,rfl,if2 (fun _ => ?_) (fun _ => ?_)⟩
  ·exact q 24 (by decide) (by decide)
  ·refine ⟨_,rfl,_,_,rfl,rfl,(show (0:Int) < 9 by decide),_,_,rfl,rfl,?_⟩
   have l0:=Int.emod_nonneg x (show (9:Int) ≠ 0 by decide)
   have l1:=Int.emod_lt_of_pos x (show (0:Int) < 9 by decide)
   exact q _ (by omega) (by omega)
theorem scBu:FnScope ["_law_d","_law_at","_law_many_here","_law_yard","_law_kinds_here","_law_notes","_law_rods","_law_sides","_law_piece","_law_kind_here","_law_note","_law_way","_law_bar"] ["_law_d","_law_at","_law_many_here"] (defScope s_built):=⟨rfl,rfl,rfl,by decide +kernel,rfl,by decide +kernel,by decide +kernel⟩
theorem ok_built (T:Txt K mg t):FnOk P w K mg base CX0 5 t.f_built t.d_built ["_law_d","_law_at","_law_many_here"] (sp_built t.c_Yard):=by
 obtain ⟨_,hd_Jx_2,hb_Jx_2⟩:=bD_Jx_2 T
 obtain ⟨_,hd_Jx_3,hb_Jx_3⟩:=bD_Jx_3 T
 obtain ⟨_,hd_Jx_4,hb_Jx_4⟩:=bD_Jx_4 T
 refine T.F_built.ok scBu (fun vs H Q E h => ?_) (fun cdv A outer s H vs Q E hr h => ?_)
 ·obtain ⟨_,_,_,_,_,_,rfl,_⟩:=h
  rfl
 ·obtain ⟨d,ds,a,n,L,j,rfl,hH,hj,a0,n0,n24,hds,q⟩:=h
  refine ⟨_,(pss_cons (ps_set (i:=3) scBu.nd rfl (Or.inl rfl) (pe_make0 T.mk_Yard (ok_Jm T) (hr.mono (by decide)) (by rfl) T.m_Yard (b_Jm T) .nil pass0))
   (pss_cons (ps_set (i:=4) scBu.nd rfl (Or.inl rfl) (pe_lst pa_nil))
   (pss_cons (ps_set (i:=5) scBu.nd rfl (Or.inl rfl) (pe_lst pa_nil))
   (pss_cons (ps_set (i:=6) scBu.nd rfl (Or.inl rfl) (pe_lst pa_nil))
   (pss_cons (ps_set (i:=7) scBu.nd rfl (Or.inl rfl) (pe_lst pa_nil))
   (pss_cons (ps_for PassesOwn.never rfl (pi_range1 (by rfl) T.z_range (pa_cons (pv 2) pa_nil)) (pg_name (i:=8) scBu.nd rfl (Or.inl rfl))
    (pss_cons (ps_set (i:=9) scBu.nd rfl (Or.inl rfl) (pe_call (ok_kind T) (hr.mono (by decide)) (by rfl) T.m_kind T.F_kind.kp (b_kind T) .nil pass0 (pa_cons (pe_ix ix_list (pv 0) (pe_op op_add (pv 1) (pe_op op_mul pe_int (pv 8))) (fun _ _ => rfl)) pa_nil)))
     (pss_cons (ps_set (i:=10) scBu.nd rfl (Or.inl rfl) (pe_op op_mod (pe_ix ix_list (pv 0) (pe_op op_add (pe_op op_add (pv 1) (pe_op op_mul pe_int (pv 8))) pe_int) (fun _ _ => rfl)) pe_int))
     (pss_cons (ps_set (i:=11) scBu.nd rfl (Or.inl rfl) (pe_ix ix_list (pv 0) (pe_op op_add (pe_op op_add (pv 1) (pe_op op_mul pe_int (pv 8))) pe_int) (fun _ _ => rfl)))
     (pss_cons (ps_set (i:=12) scBu.nd rfl (Or.inl rfl) (pe_op op_sub pe_int pe_int))
     (pss_cons (ps_if (pt_cmpR op_eq (pv 9) pe_str (nomark _))
      (pss_one (ps_expr (pe_meth (pv 3) T.cl_Yard T.M_Jx (ok_Jx T) (hr.mono (by decide)) hb_Jx_3 hd_Jx_3 pass0 (pa_cons (pv 9) (pa_cons (pv 10) pa_nil)))))
      (pss_one (ps_if (pt_cmpR op_lt (pe_call (ok_many T) (hr.mono (by decide)) (by rfl) T.m_many T.F_many.kp (b_many T) .nil pass0 (pa_cons (pv 9) pa_nil)) pe_int (nomark _))
        (pss_one (ps_expr (pe_meth (pv 3) T.cl_Yard T.M_Jx (ok_Jx T) (hr.mono (by decide)) hb_Jx_2 hd_Jx_2 pass0 (pa_cons (pv 9) pa_nil))))
        (pss_one (ps_if (PW.pt (pw_and (pt_cmpR op_eq (pe_op op_mod (pv 11) pe_int) pe_int (nomark _)) (pw_and1 (pt_cmpR op_gt (pe_callB call_len_seq (by rfl) T.z_len (by rfl) (pa_cons (pv 7) pa_nil)) pe_int (nomark _)))))
          (pss_cons (ps_set (i:=12) scBu.nd rfl (Or.inl rfl) (pe_op op_mod (pe_op op_fdiv (pv 11) pe_int) (pe_callB call_len_seq (by rfl) T.z_len (by rfl) (pa_cons (pv 7) pa_nil))))
           (pss_one (ps_expr (pe_meth (pv 3) T.cl_Yard T.M_Jx (ok_Jx T) (hr.mono (by decide)) hb_Jx_4 hd_Jx_4 pass0 (pa_cons (pv 9) (pa_cons pe_int (pa_cons (pv 12) pa_nil)))))))
          (pss_cons (ps_set (i:=12) scBu.nd rfl (Or.inl rfl) (pe_callB call_len_seq (by rfl) T.z_len (by rfl) (pa_cons (pv 7) pa_nil)))
           (pss_cons (ps_expr (pe_bm PySem.F.plainAttrs_list PySem.F.slot_list_append PySem.F.type_list_append mt_append (pv 7) (pa_cons pe_int pa_nil)))
           (pss_one (ps_expr (pe_meth (pv 3) T.cl_Yard T.M_Jx (ok_Jx T) (hr.mono (by decide)) hb_Jx_2 hd_Jx_2 pass0 (pa_cons (pv 9) pa_nil)))))))))))
     (pss_cons (ps_expr (pe_bm PySem.F.plainAttrs_list PySem.F.slot_list_append PySem.F.type_list_append mt_append (pv 4) (pa_cons (pv 9) pa_nil)))
     (pss_cons (ps_expr (pe_bm PySem.F.plainAttrs_list PySem.F.slot_list_append PySem.F.type_list_append mt_append (pv 5) (pa_cons (pv 10) pa_nil)))
     (pss_one (ps_expr (pe_bm PySem.F.plainAttrs_list PySem.F.slot_list_append PySem.F.type_list_append mt_append (pv 6) (pa_cons (pv 12) pa_nil))))))))))))
   (pss_one (ps_ret (pe_tup (pa_cons (pv 3) (pa_cons (pv 4) (pa_cons (pv 5) (pa_cons (pv 6) (pa_cons (pv 7) pa_nil)))))))))))))),?_⟩
  intro p1 dx1 hp1 hdx1 ne1
  refine ⟨p1,dx1,_,rfl,(hH.alloc hdx1 (.own p1)).alloc (by rw [upd_ne (Ne.symm ne1)]; exact hp1) (.ins t.c_Yard dx1 []),fun H2 A1 e1 h2 => ⟨rfl,?_⟩⟩
  subst e1
  refine ⟨by decide,fun kk hkk => ?_⟩
  have h3:=h2.alloc hkk (.lst [])
  generalize upd H2 kk _ = H3 at h3 ⊢
  refine ⟨by decide,fun nn hnn => ?_⟩
  have h4:=h3.alloc hnn (.lst [])
  generalize upd H3 nn _ = H4 at h4 ⊢
  refine ⟨by decide,fun rr hrr => ?_⟩
  have h5:=h4.alloc hrr (.lst [])
  generalize upd H4 rr _ = H5 at h5 ⊢
  refine ⟨by decide,fun sd hsd => ?_⟩
  have h6:=Has.comm (X:=[(sd,.lst []),(rr,.lst []),(nn,.lst []),(kk,.lst [])]) (Y:=yL t.c_Yard A1 y0) (R:=L) (h5.alloc hsd (.lst []))
  generalize upd H5 sd _ = H6 at h6 ⊢
  refine ⟨_,rfl,n,rfl,by omega,by omega,for_range (fun i σ H' => ∃ (A1:YA) (y:YR) (ks:List Kd) (ns rs ss:List Int) (o1 o2 o3 o4 o5:Option V),Blt y ks ns rs ss /\ ks.length = i /\ σ = [some (.ref d),some (.int a),some (.int n),some (.ref A1.p),some (.ref kk),some (.ref nn),some (.ref rr),some (.ref sd),o1,o2,o3,o4,o5] /\
   Has H' (yL t.c_Yard A1 y ++ ([(sd,.lst (ss.map V.int)),(rr,.lst (rs.map V.int)),(nn,.lst (ns.map V.int)),(kk,.lst (ksV ks))] ++ L))) ⟨_,_,_,_,_,_,_,_,_,_,_,Blt.nil,rfl,rfl,h6⟩ ?_ ?_⟩
  ·clear h2 h3 h4 h5 h6
   rintro i σ H6 hi ⟨A1,y,ks,ns,rs,ss,o1,o2,o3,o4,o5,B,lk,rfl,h6⟩
   have i24:i < 24:=by omega
   have hnl:=B.nl
   have hrl:=B.rl
   have hsl:=B.sl
   have hd1:SqL K H6 d (ds.map V.int):=SqL.of (h6.get (j + 13) (by simpa [yL] using hj))
   refine ⟨_,rfl,_,rfl,_,rfl,_,_,rfl,rfl,(.inl ⟨by decide,by decide⟩),_,_,rfl,rfl,d,_,_,_,rfl,rfl,hd1,atD (by omega) (by omega),_,_,rfl,h6,fun k H7 h7 => ?_⟩
   have hd2:SqL K H7 d (ds.map V.int):=SqL.of (h7.get (j + 13) (by simpa [yL] using hj))
   clear h6
   refine ⟨_,rfl,_,rfl,_,rfl,_,_,rfl,rfl,(.inl ⟨by decide,by decide⟩),_,_,rfl,rfl,_,_,rfl,rfl,d,_,_,_,rfl,rfl,hd2,atD (by omega) (by omega),_,_,rfl,rfl,(show (0:Int) < 10000 by decide),?_⟩
   refine ⟨_,rfl,_,rfl,_,rfl,_,_,rfl,rfl,(.inl ⟨by decide,by decide⟩),_,_,rfl,rfl,_,_,rfl,rfl,d,_,_,_,rfl,rfl,hd2,atD (by omega) (by omega),?_⟩
   refine ⟨_,_,rfl,rfl,?_⟩
   dsimp only
   have z0:=Int.emod_nonneg (ds.getD (a + 3 * (0 + (i:Int)) + 1).toNat 0) (show (10000:Int) ≠ 0 by decide)
   have z1:=Int.emod_lt_of_pos (ds.getD (a + 3 * (0 + (i:Int)) + 1).toNat 0) (show (0:Int) < 10000 by decide)
   generalize ds.getD (a + 3 * (0 + (i:Int)) + 1).toNat 0 % 10000 = z at z0 z1 ⊢
   generalize ds.getD (a + 3 * (0 + (i:Int)) + 2).toNat 0 = way
   have hz:0 <= z /\ z <= 9999:=⟨z0,by omega⟩
   refine ⟨_,rfl,rfl,_,rfl,?_⟩
   rw [k.isBell]
   refine ifd (fun kb => ?_) (fun kb => ?_)
   ·refine ⟨_,rfl,A1.p,A1.dx,_,rfl,h7.get 1 rfl,(fl_m _ _ _).1,_,rfl,_,rfl,A1,y,_,k,z,.non,rfl,h7,B.small (by omega),fun _ => hz,fun _ h => absurd rfl h,fun H9 q9 h9 => ?_⟩
    have kp:k.point = false:=by rw [kb]; rfl
    refine ⟨_,rfl,.inl ⟨rfl,_,SqL.of (h9.get 12 rfl)⟩,_,rfl,kk,_,_,rfl,rfl,h9.get 12 rfl,sizeOk (by unfold ksV; rw [List.length_map]; omega),?_⟩
    have h10:=h9.puti 12 rfl (.lst (ksV ks ++ [.str k.str]))
    refine ⟨_,rfl,.inl ⟨rfl,_,SqL.of (h10.get 11 rfl)⟩,_,rfl,nn,_,_,rfl,rfl,h10.get 11 rfl,sizeOk (by rw [List.length_map]; omega),?_⟩
    have h11:=h10.puti 11 rfl (.lst (ns.map V.int ++ [.int z]))
    refine ⟨_,rfl,.inl ⟨rfl,_,SqL.of (h11.get 10 rfl)⟩,_,rfl,rr,_,_,rfl,rfl,h11.get 10 rfl,sizeOk (by rw [List.length_map]; omega),?_⟩
    have h12:=h11.puti 10 rfl (.lst (rs.map V.int ++ [.int (0 - 1)]))
    refine ⟨{ A1 with tr:=q9 },_,ks ++ [k],ns ++ [z],rs ++ [(0 - 1)],ss,_,_,_,_,_,(B.lay k z z (0 - 1) .non ss hz (fun _ => rfl) (fun h => absurd (kp.symm.trans h) (by decide)) (fun _ => ⟨rfl,by decide⟩)),by simp [lk],rfl,?_⟩
    have e1:ksV (ks ++ [k]) = ksV ks ++ [.str k.str]:=by unfold ksV; rw [List.map_append]; rfl
    rw [e1,List.map_append (l₁:=ns),List.map_append (l₁:=rs)]
    exact h12
   ·refine ⟨_,rfl,k,rfl,_,_,rfl,rfl,_,rfl,if2 (fun km => ?_) (fun km => ?_)⟩
    ·refine ⟨_,rfl,A1.p,A1.dx,_,rfl,h7.get 1 rfl,(fl_m _ _ _).1,_,rfl,A1,y,_,k,0,.non,rfl,h7,B.small (by omega),fun h => absurd h kb,fun _ h => absurd rfl h,fun H9 q9 h9 => ?_⟩
     have kp:k.point = false:=by cases k <;> first | rfl | (exfalso; revert km; decide)
     refine ⟨_,rfl,.inl ⟨rfl,_,SqL.of (h9.get 12 rfl)⟩,_,rfl,kk,_,_,rfl,rfl,h9.get 12 rfl,sizeOk (by unfold ksV; rw [List.length_map]; omega),?_⟩
     have h10:=h9.puti 12 rfl (.lst (ksV ks ++ [.str k.str]))
     refine ⟨_,rfl,.inl ⟨rfl,_,SqL.of (h10.get 11 rfl)⟩,_,rfl,nn,_,_,rfl,rfl,h10.get 11 rfl,sizeOk (by rw [List.length_map]; omega),?_⟩
     have h11:=h10.puti 11 rfl (.lst (ns.map V.int ++ [.int z]))
     refine ⟨_,rfl,.inl ⟨rfl,_,SqL.of (h11.get 10 rfl)⟩,_,rfl,rr,_,_,rfl,rfl,h11.get 10 rfl,sizeOk (by rw [List.length_map]; omega),?_⟩
     have h12:=h11.puti 10 rfl (.lst (rs.map V.int ++ [.int (0 - 1)]))
     refine ⟨{ A1 with tr:=q9 },_,ks ++ [k],ns ++ [z],rs ++ [(0 - 1)],ss,_,_,_,_,_,(B.lay k z 0 (0 - 1) .non ss hz (fun h => absurd h kb) (fun h => absurd (kp.symm.trans h) (by decide)) (fun _ => ⟨rfl,by decide⟩)),by simp [lk],rfl,?_⟩
     have e1:ksV (ks ++ [k]) = ksV ks ++ [.str k.str]:=by unfold ksV; rw [List.map_append]; rfl
     rw [e1,List.map_append (l₁:=ns),List.map_append (l₁:=rs)]
     exact h12
    ·have kp:k.point = true:=by cases k <;> first | rfl | (exfalso; revert km; decide) | exact absurd rfl kb
     have hsd:SqL K H7 sd (ss.map V.int):=SqL.of (h7.get 9 rfl)
     have h8:Has (upd H7 sd (.lst (ss.map V.int ++ [.int 1]))) (yL t.c_Yard A1 y ++ ([(sd,.lst ((ss ++ [1]).map V.int)),(rr,.lst (rs.map V.int)),(nn,.lst (ns.map V.int)),(kk,.lst (ksV ks))] ++ L)):=by
      rw [List.map_append]
      exact h7.puti 9 rfl (.lst (ss.map V.int ++ [.int 1]))
     refine ⟨_,rfl,_,_,rfl,rfl,(show (0:Int) < 3 by decide),rfl,_,rfl,if2 (fun _ => ⟨_,rfl,sd,_,rfl,.inl hsd,_,_,rfl,rfl,_,rfl,if2 (fun hs => ?_) (fun hs => ?_)⟩) (fun _ => iteF ?_)⟩
     ·have s0:0 < ss.length:=by
       have:=of_decide_eq_true hs
       rw [List.length_map] at this
       omega
      refine ⟨_,rfl,_,_,rfl,rfl,⟨by decide,by decide⟩,_,rfl,sd,_,rfl,.inl hsd,_,_,rfl,rfl,(show (0:Int) < ((ss.map V.int).length:Int) by rw [List.length_map]; omega),?_⟩
      rw [List.length_map]
      dsimp only
      have b0:=Int.emod_nonneg (way / 3) (show ((ss.length:Nat):Int) ≠ 0 by omega)
      have b1:=Int.emod_lt_of_pos (way / 3) (show (0:Int) < ((ss.length:Nat):Int) by omega)
      generalize way / 3 % (ss.length:Int) = bar at b0 b1 ⊢
      refine ⟨_,rfl,A1.p,A1.dx,_,rfl,h7.get 1 rfl,(fl_m _ _ _).1,_,rfl,_,rfl,A1,y,_,k,0,.int bar,rfl,h7,B.small (by omega),fun h => absurd h kb,fun _ _ => ⟨bar,rfl,b0,by rw [B.sd,List.length_map]; exact b1⟩,fun H9 q9 h9 => ?_⟩
      refine ⟨_,rfl,.inl ⟨rfl,_,SqL.of (h9.get 12 rfl)⟩,_,rfl,kk,_,_,rfl,rfl,h9.get 12 rfl,sizeOk (by unfold ksV; rw [List.length_map]; omega),?_⟩
      have h10:=h9.puti 12 rfl (.lst (ksV ks ++ [.str k.str]))
      refine ⟨_,rfl,.inl ⟨rfl,_,SqL.of (h10.get 11 rfl)⟩,_,rfl,nn,_,_,rfl,rfl,h10.get 11 rfl,sizeOk (by rw [List.length_map]; omega),?_⟩
      have h11:=h10.puti 11 rfl (.lst (ns.map V.int ++ [.int z]))
      refine ⟨_,rfl,.inl ⟨rfl,_,SqL.of (h11.get 10 rfl)⟩,_,rfl,rr,_,_,rfl,rfl,h11.get 10 rfl,sizeOk (by rw [List.length_map]; omega),?_⟩
      have h12:=h11.puti 10 rfl (.lst (rs.map V.int ++ [.int bar]))
      refine ⟨{ A1 with tr:=q9 },_,ks ++ [k],ns ++ [z],rs ++ [bar],ss,_,_,_,_,_,(B.lay k z 0 bar (.int bar) ss hz (fun h => absurd h kb) (fun _ => .inr ⟨rfl,b0,b1,rfl⟩) (fun h => absurd (kp.symm.trans h) (by decide))),by simp [lk],rfl,?_⟩
      have e1:ksV (ks ++ [k]) = ksV ks ++ [.str k.str]:=by unfold ksV; rw [List.map_append]; rfl
      rw [e1,List.map_append (l₁:=ns),List.map_append (l₁:=rs)]
      exact h12
     all_goals
      refine ⟨_,rfl,sd,_,rfl,.inl hsd,?_⟩
      refine ⟨_,rfl,.inl ⟨rfl,_,hsd⟩,sd,_,_,rfl,rfl,h7.get 9 rfl,sizeOk (by rw [List.length_map]; omega),?_⟩
      refine ⟨_,rfl,A1.p,A1.dx,_,rfl,h8.get 1 rfl,(fl_m _ _ _).1,_,rfl,A1,y,_,k,0,.non,rfl,h8,B.small (by omega),fun h => absurd h kb,fun _ h => absurd rfl h,fun H9 q9 h9 => ?_⟩
      refine ⟨_,rfl,.inl ⟨rfl,_,SqL.of (h9.get 12 rfl)⟩,_,rfl,kk,_,_,rfl,rfl,h9.get 12 rfl,sizeOk (by unfold ksV; rw [List.length_map]; omega),?_⟩
      have h10:=h9.puti 12 rfl (.lst (ksV ks ++ [.str k.str]))
      refine ⟨_,rfl,.inl ⟨rfl,_,SqL.of (h10.get 11 rfl)⟩,_,rfl,nn,_,_,rfl,rfl,h10.get 11 rfl,sizeOk (by rw [List.length_map]; omega),?_⟩
      have h11:=h10.puti 11 rfl (.lst (ns.map V.int ++ [.int z]))
      refine ⟨_,rfl,.inl ⟨rfl,_,SqL.of (h11.get 10 rfl)⟩,_,rfl,rr,_,_,rfl,rfl,h11.get 10 rfl,sizeOk (by rw [List.length_map]; omega),?_⟩
      have h12:=h11.puti 10 rfl (.lst (rs.map V.int ++ [.int (((ss.map V.int).length:Int))]))
      refine ⟨{ A1 with tr:=q9 },_,ks ++ [k],ns ++ [z],rs ++ [(((ss.map V.int).length:Int))],(ss ++ [1]),_,_,_,_,_,(B.lay k z 0 (((ss.map V.int).length:Int)) .non (ss ++ [1]) hz (fun h => absurd h kb) (fun _ => .inl ⟨rfl,by rw [List.length_map],rfl⟩) (fun h => absurd (kp.symm.trans h) (by decide))),by simp [lk],rfl,?_⟩
      have e1:ksV (ks ++ [k]) = ksV ks ++ [.str k.str]:=by unfold ksV; rw [List.map_append]; rfl
      rw [e1,List.map_append (l₁:=ns),List.map_append (l₁:=rs)]
      exact h12
  ·rintro σ H6 ⟨A1,y,ks,ns,rs,ss,o1,o2,o3,o4,o5,B,lk,rfl,h6⟩
   refine ⟨_,rfl,_,rfl,_,rfl,_,rfl,_,rfl,(show 5 <= sizeLine by decide),fun tp htp => ?_⟩
   exact q _ A1 y ks ns rs ss tp sd rr nn kk B (by omega) (h6.alloc htp _)
end
def endsL (ks:List Kd):List (Int × Int):=ks.zipIdx.flatMap fun p => (List.range p.1.many.toNat).map fun e:Nat => ((p.2:Int),(e:Int))
theorem endsL_snoc (ks:List Kd) (k:Kd):endsL (ks ++ [k]) = endsL ks ++ (List.range k.many.toNat).map fun e:Nat => ((ks.length:Int),(e:Int)):=by
 unfold endsL
 rw [List.zipIdx_append,List.flatMap_append]
 simp
def esK (es:List (Addr × Int × Int)):Kn:=es.map fun x => (x.1,HO.tup [.int x.2.1,.int x.2.2])
def esV (es:List (Addr × Int × Int)):List V:=es.map fun x => V.ref x.1
theorem endsL_le (ks:List Kd):(endsL ks).length <= 3 * ks.length:=by
 unfold endsL
 have:∀ (l:List (Kd × Nat)),(l.flatMap fun p => (List.range p.1.many.toNat).map fun e:Nat => ((p.2:Int),(e:Int))).length <= 3 * l.length:=by
  intro l
  induction l with
  | nil => simp
  | cons p l ih =>
   rw [List.flatMap_cons,List.length_append,List.length_map,List.length_range,List.length_cons]
   have:p.1.many.toNat <= 3:=by cases p.1 <;> decide
   omega
 have h:=this ks.zipIdx
 rw [List.length_zipIdx] at h
 exact h
theorem endsL_there {ks:List Kd} {n e:Int} (h:(n,e) ∈ endsL ks):∃ (i:Nat) (k:Kd),n = i /\ ks[i]? = some k /\ 0 <= e /\ e < k.many:=by
 unfold endsL at h
 obtain ⟨p,hp,hq⟩:=List.mem_flatMap.mp h
 obtain ⟨x,hx,he⟩:=List.mem_map.mp hq
 rw [List.mem_range] at hx
 cases he
 refine ⟨p.2,p.1,rfl,?_,by omega,by omega⟩
 have:=List.mem_zipIdx_iff_getElem?.mp hp
 simpa using this
def sp_ends:Sp:=fun vs H Q _ => ∃ (kk:Addr) (ks:List Kd) (L:Kn) (j:Nat),vs = [.ref kk] /\ Has H L /\ L[j]? = some (kk,.lst (ksV ks)) /\ ks.length <= 1000 /\
 ∀ H' (el:Addr) (es:List (Addr × Int × Int)),es.map (·.2) = endsL ks -> Has H' ((el,.lst (esV es)) :: (esK es ++ L)) -> Q (.ref el) H'
section
variable {P:Program} {w:World} {K:PySem.W.Frag} {mg:Str -> Option Value} {base:Heap} {t:Adr}
theorem scEn:FnScope ["_law_kinds_here","_law_ends_here","_law_piece","_law_kind_here","_law_place"] ["_law_kinds_here"] (defScope s_ends):=⟨rfl,rfl,rfl,by decide +kernel,rfl,by decide +kernel,by decide +kernel⟩
theorem ok_ends (T:Txt K mg t):FnOk P w K mg base CX0 2 t.f_ends t.d_ends ["_law_kinds_here"] sp_ends:=by
 refine T.F_ends.ok scEn (fun vs H Q E h => ?_) (fun cdv A outer s H vs Q E hr h => ?_)
 ·obtain ⟨_,_,_,_,rfl,_⟩:=h
  rfl
 ·obtain ⟨kk,ks,L,j,rfl,hH,hj,hk,q⟩:=h
  refine ⟨_,(pss_cons (ps_set (i:=1) scEn.nd rfl (Or.inl rfl) (pe_lst pa_nil))
   (pss_cons (ps_for PassesOwn.never rfl (pi_enum (by rfl) T.z_enumerate (pa_cons (pv 0) pa_nil)) (pg_tup rfl (pgs_cons (pg_name (i:=2) scEn.nd rfl (Or.inl rfl)) (pgs_cons (pg_name (i:=3) scEn.nd rfl (Or.inl rfl)) pgs_nil)))
    (pss_one (ps_for PassesOwn.never rfl (pi_range1 (by rfl) T.z_range (pa_cons (pe_call (ok_many T) (hr.mono (by decide)) (by rfl) T.m_many T.F_many.kp (b_many T) .nil pass0 (pa_cons (pv 3) pa_nil)) pa_nil)) (pg_name (i:=4) scEn.nd rfl (Or.inl rfl))
      (pss_one (ps_expr (pe_bm PySem.F.plainAttrs_list PySem.F.slot_list_append PySem.F.type_list_append mt_append (pv 1) (@pa_cons _ _ _ _ _ (pe_tup (pa_cons (pv 2) (pa_cons (pv 4) pa_nil))) pa_nil (by rfl))))))))
   (pss_one (ps_ret (pv 1))))),?_⟩
  refine ⟨by decide,fun el hel => ?_⟩
  have h1:=hH.alloc hel (.lst [])
  generalize upd H el _ = H1 at h1 ⊢
  have gk:∀ {H:Hp} {x:HO} {M:Kn},Has H ((el,x) :: (M ++ L)) -> SqL K H kk (ksV ks):=fun {H x M} h => SqL.of (h.get (M.length + j + 1) (by
   rw [List.getElem?_cons_succ,List.getElem?_append_right (by omega),show M.length + j - M.length = j by omega]; exact hj))
  refine ⟨_,rfl,kk,rfl,⟨_,gk (M:=[]) h1⟩,for_enum (xs:=ksV ks) (fun i σ H' => ∃ (es:List (Addr × Int × Int)) (o1 o2 o3:Option V),es.map (·.2) = endsL (ks.take i) /\ σ = [some (.ref kk),some (.ref el),o1,o2,o3] /\ Has H' ((el,.lst (esV es)) :: (esK es ++ L)))
   ⟨[],_,_,_,rfl,rfl,h1⟩ (fun i σ H' _ ⟨es,_,_,_,_,_,h⟩ => gk h) ?_ ?_⟩
  ·rintro i x σ H2 p hx ⟨es,o1,o2,o3,hes,rfl,h2⟩ hp
   have hi:i < ks.length:=by
    have:=(List.getElem?_eq_some_iff.mp hx).1
    unfold ksV at this
    rw [List.length_map] at this; exact this
   have ex:x = .str (ks[i]).str:=by
    unfold ksV at hx
    rw [List.getElem?_map,List.getElem?_eq_getElem hi] at hx
    exact (Option.some.inj hx).symm
   subst ex
   have h3:=h2.alloc hp (.tup [.int i,.str (ks[i]).str])
   refine ⟨p,_,rfl,SqT.of (h3.get 0 rfl),rfl,_,_,rfl,_,_,rfl,rfl,?_⟩
   have h4:=h3.tail
   generalize upd H2 p _ = H3 at h4 ⊢
   clear h2 h3 hp
   have hm:1 <= (ks[i]).many /\ (ks[i]).many <= 3:=by cases ks[i] <;> decide
   have hti:(ks.take i).length = i:=by rw [List.length_take]; omega
   have hen:(endsL (ks.take i)).length <= 3000:=Nat.le_trans (endsL_le _) (by omega)
   refine ⟨_,rfl,ks[i],rfl,_,rfl,by omega,by omega,for_range (fun e σ H' => ∃ (es:List (Addr × Int × Int)) (o3:Option V),es.map (·.2) = endsL (ks.take i) ++ (List.range e).map (fun e:Nat => ((i:Int),(e:Int))) /\ σ = [some (.ref kk),some (.ref el),some (.int i),some (.str (ks[i]).str),o3] /\ Has H' ((el,.lst (esV es)) :: (esK es ++ L)))
    ⟨es,_,by rw [hes]; simp,rfl,h4⟩ ?_ ?_⟩
   ·clear h4 hes es o3
    rintro e σ H4 he ⟨es,o3,hes,rfl,h4⟩
    have hle:es.length <= 3003:=by
     have:=congrArg List.length hes
     rw [List.length_map,List.length_append,List.length_map,List.length_range] at this
     omega
    refine ⟨_,rfl,.inl ⟨rfl,_,SqL.of (h4.get 0 rfl)⟩,_,rfl,_,rfl,(show 2 <= sizeLine by decide),fun b hb => ?_⟩
    have h5:=h4.alloc hb (.tup [.int i,.int (0 + e)])
    refine ⟨el,_,_,rfl,rfl,h5.get 1 rfl,sizeOk (by unfold esV; rw [List.length_map]; omega),?_⟩
    have h6:=(h5.puti 1 rfl (.lst (esV es ++ [.ref b]))).swap2.perm (List.Perm.cons _ (List.perm_append_comm_assoc [_] (esK es) L))
    refine ⟨es ++ [(b,(i:Int),0 + (e:Int))],_,?_,rfl,?_⟩
    ·rw [List.map_append,hes,List.range_succ,List.map_append,List.append_assoc]
     simp
    ·have e1:esV (es ++ [(b,(i:Int),0 + (e:Int))]) = esV es ++ [.ref b]:=by unfold esV; rw [List.map_append]; rfl
     have e2:esK (es ++ [(b,(i:Int),0 + (e:Int))]) ++ L = esK es ++ ([(b,.tup [.int i,.int (0 + e)])] ++ L):=by unfold esK; rw [List.map_append,List.append_assoc]; rfl
     rw [e1,e2]
     exact h6
   ·rintro σ H4 ⟨es,o3,hes,rfl,h4⟩
    refine ⟨es,_,_,_,?_,rfl,h4⟩
    rw [hes,List.take_succ,List.getElem?_eq_getElem hi]
    show _ = endsL (ks.take i ++ [ks[i]])
    rw [endsL_snoc,hti]
  ·rintro σ H2 ⟨es,o1,o2,o3,hes,rfl,h2⟩
   refine ⟨_,rfl,?_⟩
   refine q _ el es ?_ h2
   rw [hes]
   unfold ksV
   rw [List.length_map,List.take_length]
end
theorem esK_get {es:List (Addr × Int × Int)} {i:Nat} {x:Addr × Int × Int} (L:Kn) (h:es[i]? = some x):(esK es ++ L)[i]? = some (x.1,.tup [.int x.2.1,.int x.2.2]):=by
 have hi:=(List.getElem?_eq_some_iff.mp h).1
 rw [List.getElem?_append_left (by unfold esK; rw [List.length_map]; exact hi)]
 unfold esK
 rw [List.getElem?_map,h]
 rfl
theorem esV_get {es:List (Addr × Int × Int)} {i:Nat} {x:Addr × Int × Int} (h:es[i]? = some x):(esV es)[i]? = some (.ref x.1):=by
 unfold esV
 rw [List.getElem?_map,h]
 rfl
end P
set_option Elab.async false
set_option linter.all false
set_option maxRecDepth 100000
set_option maxHeartbeats 4000000
namespace P
open PySem L2
theorem eraseIdx_mapL {α β:Type} (f:α -> β):∀ (l:List α) (k:Nat),(l.map f).eraseIdx k = (l.eraseIdx k).map f
 | [],_ => rfl
 | _ :: _,0 => rfl
 | a :: l,k + 1 => by
  show f a :: (l.map f).eraseIdx k = f a :: (l.eraseIdx k).map f
  rw [eraseIdx_mapL f l k]
theorem eraseIdx_permL {α:Type}:∀ (l:List α) (k:Nat) (h:k < l.length),(l[k] :: l.eraseIdx k).Perm l
 | [],k,h => absurd h (Nat.not_lt_zero k)
 | a :: l,0,h => List.Perm.refl _
 | a :: l,k + 1,h => (List.Perm.swap _ _ _).trans (List.Perm.cons a (eraseIdx_permL l k (by simpa using h)))
theorem endsL_nodup (ks:List Kd):(endsL ks).Nodup:=by
 have H:∀ i,i <= ks.length -> (endsL (ks.take i)).Nodup:=by
  intro i
  induction i with
  | zero => intro _; exact List.Pairwise.nil
  | succ i ih =>
   intro hi
   have hlt:i < ks.length:=by omega
   rw [List.take_succ,List.getElem?_eq_getElem hlt]
   show (endsL (ks.take i ++ [ks[i]])).Nodup
   rw [endsL_snoc]
   refine List.nodup_append.mpr ⟨ih (by omega),?_,?_⟩
   ·refine List.Pairwise.map _ (fun a b hab hc => hab ?_) List.nodup_range
    have:=congrArg Prod.snd hc
    exact Int.ofNat.inj this
   ·intro a ha b hb e
    subst e
    obtain ⟨x,_,hx⟩:=List.mem_map.mp hb
    obtain ⟨j,k,e1,e2,_⟩:=endsL_there (n:=a.1) (e:=a.2) ha
    have:a.1 = ((ks.take i).length:Int):=by rw [<- hx]
    have hj:=(List.getElem?_eq_some_iff.mp e2).1
    rw [List.length_take] at this hj
    omega
 have:=H ks.length (Nat.le_refl _)
 rwa [List.take_length] at this
def mfOf (es:List En) (m:List (List Key × V)) (n e:Int):Option En:=match valV m (kE n e) with | some (.ref b) => es.find? fun x => decide (x.1 = b) | _ => none
def MIn (es:List En) (m:List (List Key × V)):Prop:=∀ k v,valV m k = some v -> ∃ z ∈ es,v = .ref z.1
theorem mfOf_val {es:List En} {m:List (List Key × V)} (h:MIn es m) (n e:Int):valV m (kE n e) = (mfOf es m n e).map fun z => V.ref z.1:=by
 unfold mfOf
 cases hv:valV m (kE n e) with
 | none => rfl
 | some v =>
  obtain ⟨z,hz,rfl⟩:=h _ _ hv
  dsimp only
  cases hf:es.find? fun x => decide (x.1 = z.1) with
  | none => exact absurd (List.find?_eq_none.mp hf z hz) (by simp)
  | some x => have:=List.find?_some hf; rw [Option.map_some,of_decide_eq_true this]
theorem mfOf_mem {es:List En} {m:List (List Key × V)} {n e:Int} {z:En} (h:mfOf es m n e = some z):z ∈ es:=by
 unfold mfOf at h
 split at h
 ·exact List.mem_of_find?_eq_some h
 ·cases h
theorem MIn.nil (es:List En):MIn es []:=fun k v h => by cases h
theorem MIn.put {es:List En} {m:List (List Key × V)} (h:MIn es m) {x:En} (hx:x ∈ es) (k:List Key):MIn es (putK m k (.ref x.1)):=fun j v hv => by
 rw [valV_put] at hv
 split at hv
 ·exact ⟨x,hx,(Option.some.inj hv).symm⟩
 ·exact h j v hv
theorem MIn.mono {es es':List En} {m:List (List Key × V)} (h:MIn es m) (s:∀ x ∈ es,x ∈ es'):MIn es' m:=fun k v hv => let ⟨z,hz,e⟩:=h k v hv; ⟨z,s z hz,e⟩
def wOf (ks:List Kd) (ns rs:List Int) (es:List En) (m:List (List Key × V)):Wd:=⟨fun n => if 0 <= n then ks[n.toNat]? else none,fun n => ns.getD n.toNat 0,fun n => rs.getD n.toNat 0,mfOf es m⟩
theorem wOf_k {ks:List Kd} {ns rs:List Int} {es:List En} {m:List (List Key × V)} {n:Int} {k:Kd} (h:(wOf ks ns rs es m).kf n = some k):∃ i:Nat,n = i /\ ks[i]? = some k:=by
 unfold wOf at h
 dsimp only at h
 split at h
 ·exact ⟨n.toNat,by omega,h⟩
 ·cases h
theorem wOf_kn {ks:List Kd} {ns rs:List Int} {es:List En} {m:List (List Key × V)} (i:Nat):(wOf ks ns rs es m).kf i = ks[i]?:=by
 unfold wOf; dsimp only; rw [if_pos (by omega),Int.toNat_natCast]
theorem wOf_ok {ks:List Kd} {ns rs:List Int} {es:List En} {m:List (List Key × V)} {z:En} (h:z.2 ∈ endsL ks):(wOf ks ns rs es m).ok z:=by
 obtain ⟨i,k,e1,e2,e3,e4⟩:=endsL_there (n:=z.2.1) (e:=z.2.2) h
 exact ⟨k,by rw [e1,wOf_kn]; exact e2,e3,e4⟩
theorem Rep.of {y y':YR} {ks:List Kd} {ns rs ss ss':List Int} {es:List En} {m:List (List Key × V)} {u:Option En} (B:Blt y ks ns rs ss) (hm:MIn es m) (he:∀ x ∈ es,x.2 ∈ endsL ks) (hl:ss'.length = ss.length) (h12:∀ x ∈ ss',x = 1 ∨ x = 2) (hu:∀ z,u = some z -> z.2 ∈ endsL ks)
  (e1:y'.kinds = y.kinds) (e2:y'.notes = y.notes) (e3:y'.rods = y.rods) (e4:y'.mates = m) (e5:y'.sides = ss'.map V.int) (e6:y'.eng = enV u) (e7:y'.rung = []) :
  Rep (wOf ks ns rs es m) ⟨ss',u,[]⟩ y':=by
 refine ⟨fun n k h => ?_,fun n k h => ?_,fun n k h => ?_,fun n k h hp => ?_,e5,h12,fun n e => by rw [e4]; exact mfOf_val hm n e,fun n e z h => wOf_ok (he z (mfOf_mem h)),e6,fun z hz => wOf_ok (hu z hz),e7⟩
 all_goals obtain ⟨i,rfl,hk⟩:=wOf_k h
 ·rw [e1,B.kd,valV_kvOf,hk]; rfl
 ·rw [e2,B.no,hk]
  by_cases c:k = .bell
  ·rw [if_pos (by rw [c]),if_pos c]; unfold wOf; dsimp only; rw [Int.toNat_natCast]
  ·rw [if_neg (fun z => c (Option.some.inj z)),if_neg c]
 ·rw [e3,B.ro,hk]
  by_cases c:k.point = true
  ·rw [if_pos (by simp [c]),if_pos c]; unfold wOf; dsimp only; rw [Int.toNat_natCast]
  ·rw [if_neg (by simp [c]),if_neg c]
 ·have:=B.rr i (by rw [hk]; simp [hp])
  show 0 <= rs.getD (i:Int).toNat 0 /\ rs.getD (i:Int).toNat 0 < (ss'.length:Int)
  rw [Int.toNat_natCast,hl]
  exact this
theorem en_pool {es:List En} {M R:Kn} {z:En} (h:z ∈ es):∃ j:Nat,(M ++ (esK es ++ R))[j]? = some (z.1,HO.tup [.int z.2.1,.int z.2.2]):=by
 obtain ⟨i,hi⟩:=List.mem_iff_getElem?.mp h
 exact ⟨M.length + i,by rw [List.getElem?_append_right (by omega),show M.length + i - M.length = i by omega]; exact esK_get R hi⟩
theorem endsL_th {y:YR} {ks:List Kd} {ns rs ss:List Int} (B:Blt y ks ns rs ss) {y':YR} (e:y'.kinds = y.kinds) {p:Int × Int} (h:p ∈ endsL ks):There y' p.1 p.2:=by
 obtain ⟨i,k,e1,e2,e3,e4⟩:=endsL_there (n:=p.1) (e:=p.2) h
 exact ⟨k,by rw [e,e1,B.kd,valV_kvOf,e2]; rfl,e3,e4⟩
theorem seqIx {n:Nat} {x:Int} (h:0 < n):∃ k:Nat,k < n /\ x % (n:Int) = k /\ seqIndex? (x % (n:Int)) n = some k /\ -(2 ^ 63) <= x % (n:Int) /\ (n <= 1000000 -> x % (n:Int) < 2 ^ 63):=by
 have b0:=Int.emod_nonneg x (show ((n:Nat):Int) ≠ 0 by omega)
 have b1:=Int.emod_lt_of_pos x (show (0:Int) < ((n:Nat):Int) by omega)
 refine ⟨(x % (n:Int)).toNat,by omega,by omega,?_,by omega,fun hn => by omega⟩
 generalize x % (n:Int) = i at b0 b1
 unfold seqIndex?
 dsimp only
 rw [if_neg (show ¬ i < 0 by omega),if_pos (show (decide (0 <= i) && decide (i < (n:Int))) = true by rw [decide_eq_true b0,decide_eq_true b1]; rfl)]
theorem putK_keys {κ:Type} [DecidableEq κ] {kvs:List (κ × V)} {k:κ} {v:V} {x:κ} (h:x ∈ (putK kvs k v).map (·.1)):x ∈ kvs.map (·.1) ∨ x = k:=by
 unfold putK at h
 split at h
 ·left
  rw [List.map_map] at h
  obtain ⟨p,hp,e⟩:=List.mem_map.mp h
  refine List.mem_map.mpr ⟨p,hp,?_⟩
  rw [<- e]
  show p.1 = (if p.1 = k then (p.1,v) else p).1
  split <;> rfl
 ·rw [List.map_append,List.mem_append] at h
  rcases h with h | h
  ·exact .inl h
  ·right; simpa using h
theorem ek_put {ks:List Kd} {m:List (List Key × V)} (h:∀ k ∈ m.map (·.1),∃ p ∈ endsL ks,k = kE p.1 p.2) {k0:List Key} (h0:∃ p ∈ endsL ks,k0 = kE p.1 p.2) (v:V):∀ k ∈ (putK m k0 v).map (·.1),∃ p ∈ endsL ks,k = kE p.1 p.2:=fun k hk => by
 rcases putK_keys hk with hk | rfl
 ·exact h k hk
 ·exact h0
def sp_J31 (C:Addr):Sp:=fun vs H Q _ => ∃ (A:YA) (y:YR) (L:Kn) (kk d:Addr) (ks:List Kd) (ns rs ss ds:List Int) (a n:Int) (jk jd:Nat),vs = [.ref A.p,.ref kk,.ref d,.int a,.int n] /\ Has H (yL C A y ++ L) /\ Blt y ks ns rs ss /\ L[jk]? = some (kk,.lst (ksV ks)) /\ L[jd]? = some (d,.lst (ds.map V.int)) /\ ks.length <= 1000 /\ 0 <= a /\ 0 <= n /\ n <= 10000 /\ a + 2 * n <= ds.length /\
 ∀ (H':Hp) (q mh:Addr) (m:List (List Key × V)) (es:List En),MIn es m -> es.map (·.2) = endsL ks -> m.length <= 2 * n.toNat -> (∀ k ∈ m.map (·.1),∃ p ∈ endsL ks,k = kE p.1 p.2) -> Has H' (yL C { A with tr:=q } { y with mates:=m,trail:=[] } ++ ((mh,.dT m) :: (esK es ++ L))) -> Q (.ref mh) H'
def sp_J41 (C:Addr):Sp:=fun vs H Q _ => ∃ (A:YA) (y:YR) (L:Kn) (sd d:Addr) (ss ds:List Int) (a:Int) (jd:Nat),vs = [.ref A.p,.ref sd,.ref d,.int a] /\ Has H (yL C A y ++ ((sd,.lst (ss.map V.int)) :: L)) /\ y.sides = ss.map V.int /\ y.trail = [] /\ L[jd]? = some (d,.lst (ds.map V.int)) /\ 0 <= a /\ a + ss.length <= ds.length /\ ss.length <= 10000 /\
 ∀ (H':Hp) (q:Addr) (ss':List Int),ss'.length = ss.length -> (∀ x ∈ ss',x = 1 ∨ x = 2) -> Has H' (yL C { A with tr:=q } { y with sides:=ss'.map V.int,trail:=[] } ++ ((sd,.lst (ss'.map V.int)) :: L)) -> Q .non H'
def sp_links:Sp:=fun vs H Q _ => ∃ x:Int,vs = [.int x] /\ ∀ n:Int,0 <= n -> n <= 40 -> Q (.int n) H
section
variable {P:Program} {w:World} {K:PySem.W.Frag} {mg:Str -> Option Value} {base:Heap} {t:Adr}
theorem scLs:FnScope ["_law_draw"] ["_law_draw"] (defScope s_links):=⟨rfl,rfl,rfl,by decide +kernel,rfl,by decide +kernel,by decide +kernel⟩
theorem ok_links (T:Txt K mg t):FnOk P w K mg base CX0 1 t.f_links t.d_links ["_law_draw"] sp_links:=by
 refine T.F_links.ok scLs (fun vs H Q E h => ?_) (fun cdv A outer s H vs Q E hr h => ?_)
 ·obtain ⟨_,rfl,_⟩:=h
  rfl
 ·obtain ⟨x,rfl,q⟩:=h
  refine ⟨_,(pss_cons (ps_if (pt_cmpR op_gt (pe_op op_mod (pv 0) pe_int) pe_int (nomark _))
    (pss_one (ps_ret pe_int))
    pss_nil)
   (pss_one (ps_ret (pe_op op_mod (pe_op op_fdiv (pv 0) pe_int) pe_int)))),?_⟩
  refine ⟨_,rfl,_,_,rfl,rfl,(show (0:Int) < 3 by decide),_,_,rfl,rfl,_,rfl,if2 (fun _ => ?_) (fun _ => ?_)⟩
  ·exact q 40 (by decide) (by decide)
  ·refine ⟨_,rfl,_,_,rfl,rfl,⟨by decide,by decide⟩,_,_,rfl,rfl,(show (0:Int) < 40 by decide),?_⟩
   have l0:=Int.emod_nonneg (x / 3) (show (40:Int) ≠ 0 by decide)
   have l1:=Int.emod_lt_of_pos (x / 3) (show (0:Int) < 40 by decide)
   exact q _ (by omega) (by omega)
theorem scLd:FnScope ["_law_yard","_law_kinds_here","_law_d","_law_at","_law_many_here","_law_free","_law_mates","_law_turn","_law_one","_law_other"] ["_law_yard","_law_kinds_here","_law_d","_law_at","_law_many_here"] (defScope s_J31):=⟨rfl,rfl,rfl,by decide +kernel,rfl,by decide +kernel,by decide +kernel⟩
theorem ok_J31 (T:Txt K mg t):FnOk P w K mg base CX0 5 t.f_J31 t.d_J31 ["_law_yard","_law_kinds_here","_law_d","_law_at","_law_many_here"] (sp_J31 t.c_Yard):=by
 refine T.F_J31.ok scLd (fun vs H Q E h => ?_) (fun cdv A outer s H vs Q E hr h => ?_)
 ·obtain ⟨_,_,_,_,_,_,_,_,_,_,_,_,_,_,rfl,_⟩:=h
  rfl
 ·obtain ⟨A,y,L,kk,d,ks,ns,rs,ss,ds,a,n,jk,jd,rfl,hH,B,hjk,hjd,kl,a0,n0,n1,hds,q⟩:=h
  have hu:=hu_of hr
  refine ⟨_,(pss_cons (ps_set (i:=5) scLd.nd rfl (Or.inl rfl) (pe_call (ok_ends T) (hr.mono (by decide)) (by rfl) T.m_ends T.F_ends.kp (b_ends T) .nil pass0 (pa_cons (pv 1) pa_nil)))
   (pss_cons (ps_set (i:=6) scLd.nd rfl (Or.inl rfl) pe_dnewT)
   (pss_cons (ps_for PassesOwn.never rfl (pi_range1 (by rfl) T.z_range (pa_cons (pv 4) pa_nil)) (pg_name (i:=7) scLd.nd rfl (Or.inl rfl))
    (pss_one (ps_if (pt_cmpR op_gt (pe_callB call_len_seq (by rfl) T.z_len (by rfl) (pa_cons (pv 5) pa_nil)) pe_int (nomark _))
      (pss_cons (ps_set (i:=8) scLd.nd rfl (Or.inl rfl) (pe_bm PySem.F.plainAttrs_list PySem.F.slot_list_pop PySem.F.type_list_pop mt_popAt (pv 5) (pa_cons (pe_op op_mod (pe_ix ix_list (pv 2) (pe_op op_add (pv 3) (pe_op op_mul pe_int (pv 7))) (fun _ _ => rfl)) (pe_callB call_len_seq (by rfl) T.z_len (by rfl) (pa_cons (pv 5) pa_nil))) pa_nil)))
       (pss_cons (ps_set (i:=9) scLd.nd rfl (Or.inl rfl) (pe_bm PySem.F.plainAttrs_list PySem.F.slot_list_pop PySem.F.type_list_pop mt_popAt (pv 5) (pa_cons (pe_op op_mod (pe_ix ix_list (pv 2) (pe_op op_add (pe_op op_add (pv 3) (pe_op op_mul pe_int (pv 7))) pe_int) (fun _ _ => rfl)) (pe_callB call_len_seq (by rfl) T.z_len (by rfl) (pa_cons (pv 5) pa_nil))) pa_nil)))
       (pss_cons (ps_expr (pe_meth (pv 0) T.cl_Yard T.M_Jo (ok_Jo T) (hr.mono (by decide)) (b_Jo T) .nil pass0 (pa_cons (pv 8) (pa_cons (pv 9) pa_nil))))
       (pss_cons (ps_dput hu (pv 6) (pv 8) (pv 9) rfl)
       (pss_one (ps_dput hu (pv 6) (pv 9) (pv 8) rfl))))))
      pss_nil)))
   (pss_one (ps_ret (pv 6)))))),?_⟩
  refine ⟨_,rfl,kk,ks,_,jk + 9,rfl,hH,(by simpa [yL] using hjk),kl,fun H1 fl_ es hes h1 => ?_⟩
  intro mh hmh
  have h2:Has (upd H1 mh (.dT [])) (yL t.c_Yard A y ++ ((fl_,.lst (esV es)) :: (mh,.dT []) :: (esK es ++ L))) :=
   Has.comm (X:=(fl_,.lst (esV es)) :: (mh,.dT []) :: esK es) (Y:=yL t.c_Yard A y) (R:=L) (h1.alloc hmh (.dT [])).swap2
  generalize upd H1 mh _ = H2 at h2 ⊢
  clear h1 hmh hH
  have emem:∀ x ∈ es,x.2 ∈ endsL ks:=fun x hx => by rw [<- hes]; exact List.mem_map.mpr ⟨x,hx,rfl⟩
  have enod:(es.map (·.2)).Nodup:=by rw [hes]; exact endsL_nodup ks
  have elen:es.length <= 3000:=by have:=congrArg List.length hes; rw [List.length_map] at this; have:=endsL_le ks; omega
  refine ⟨_,rfl,_,rfl,by omega,by omega,for_range (fun i σ H' => ∃ (q1:Addr) (m:List (List Key × V)) (fs:List En) (o1 o2 o3:Option V),MIn es m /\ (∀ x ∈ fs,x ∈ es) /\ (fs.map (·.2)).Nodup /\ (∀ x ∈ fs,valV m (kE x.2.1 x.2.2) = none) /\ m.length <= 2 * i /\ fs.length <= 3000 /\ (∀ k ∈ m.map (·.1),∃ p ∈ endsL ks,k = kE p.1 p.2) /\
   σ = [some (.ref A.p),some (.ref kk),some (.ref d),some (.int a),some (.int n),some (.ref fl_),some (.ref mh),o1,o2,o3] /\ Has H' (yL t.c_Yard { A with tr:=q1 } { y with mates:=m,trail:=[] } ++ ((fl_,.lst (esV fs)) :: (mh,.dT m) :: (esK es ++ L))))
   ⟨A.tr,[],es,_,_,_,MIn.nil es,fun _ h => h,enod,fun _ _ => rfl,Nat.zero_le _,elen,(fun k hk => (nomatch hk)),rfl,?_⟩ ?_ ?_⟩
  ·have e:({ y with mates:=[],trail:=[] }:YR) = y:=by rw [<- B.mt,<- B.tl]
   rw [e]; exact h2
  ·clear h2
   rintro i σ H2 hi ⟨q1,m,fs,o1,o2,o3,M,fin,fnd,fno,ml,flen,ekm,rfl,h2⟩
   have gd:∀ {H:Hp} {A1:YA} {y1:YR} {f1 m1:HO},Has H (yL t.c_Yard A1 y1 ++ ((fl_,f1) :: (mh,m1) :: (esK es ++ L))) -> SqL K H d (ds.map V.int):=fun {H A1 y1 f1 m1} h => SqL.of (h.get (es.length + jd + 11) (by
    show (esK es ++ L)[es.length + jd]? = _
    have e:(esK es).length = es.length:=by unfold esK; rw [List.length_map]
    rw [List.getElem?_append_right (by omega),show es.length + jd - (esK es).length = jd by omega]
    exact hjd))
   have gs:∀ {H:Hp} {A1:YA} {y1:YR} {f1 m1:HO},Has H (yL t.c_Yard A1 y1 ++ ((fl_,f1) :: (mh,m1) :: (esK es ++ L))) -> ∀ x ∈ es,H x.1 = some (.tup [.int x.2.1,.int x.2.2]):=fun {H A1 y1 f1 m1} h x hx => by
    obtain ⟨j,hj⟩:=List.mem_iff_getElem?.mp hx
    exact h.get (j + 11) (esK_get L hj)
   have evl:∀ l:List En,(esV l).length = l.length:=fun l => by unfold esV; rw [List.length_map]
   have evx:∀ (l:List En) (k:Nat),(esV l).eraseIdx k = esV (l.eraseIdx k):=fun l k => by unfold esV; rw [eraseIdx_mapL]
   refine ⟨_,rfl,fl_,_,rfl,.inl (SqL.of (h2.get 9 rfl)),_,_,rfl,rfl,_,rfl,if2 (fun hc => ?_) (fun hc => ?_)⟩
   ·have f2:1 < fs.length:=by
     have:=of_decide_eq_true hc
     rw [evl] at this
     omega
    obtain ⟨k1,k1l,k1e,k1s,k1a,k1b⟩:=seqIx (n:=fs.length) (x:=ds.getD (a + 2 * (0 + (i:Int))).toNat 0) (by omega)
    refine ⟨_,rfl,.inl ⟨rfl,_,SqL.of (h2.get 9 rfl)⟩,?_⟩
    refine ⟨_,rfl,_,rfl,_,rfl,_,_,rfl,rfl,(.inl ⟨by decide,by decide⟩),_,_,rfl,rfl,d,_,_,_,rfl,rfl,gd h2,atD (by omega) (by omega),_,rfl,fl_,_,rfl,.inl (SqL.of (h2.get 9 rfl)),_,_,rfl,rfl,(show (0:Int) < ((esV fs).length:Int) by rw [evl]; omega),?_⟩
    rw [evl]
    refine ⟨fl_,_,_,k1,.ref (fs[k1]).1,rfl,rfl,h2.get 9 rfl,k1a,k1b (by omega),(by rw [evl]; exact k1s),esV_get (List.getElem?_eq_getElem k1l),?_⟩
    rw [evx]
    have h3:=h2.puti 9 rfl (.lst (esV (fs.eraseIdx k1)))
    generalize upd H2 fl_ _ = H3 at h3 ⊢
    have pm1:=eraseIdx_permL fs k1 k1l
    have l1:(fs.eraseIdx k1).length = fs.length - 1:=List.length_eraseIdx_of_lt k1l
    generalize hx:fs[k1] = x at *
    have nd1:(x.2 :: (fs.eraseIdx k1).map (·.2)).Nodup:=(pm1.map (fun x:En => x.2)).nodup_iff.mpr fnd
    have xin:x ∈ fs:=by rw [<- hx]; exact List.getElem_mem _
    have sub1:∀ z ∈ fs.eraseIdx k1,z ∈ fs:=fun z hz => List.mem_of_mem_eraseIdx hz
    generalize fs.eraseIdx k1 = fs1 at *
    obtain ⟨k2,k2l,k2e,k2s,k2a,k2b⟩:=seqIx (n:=fs1.length) (x:=ds.getD (a + 2 * (0 + (i:Int)) + 1).toNat 0) (by omega)
    refine ⟨_,rfl,.inl ⟨rfl,_,SqL.of (h3.get 9 rfl)⟩,?_⟩
    refine ⟨_,rfl,_,rfl,_,rfl,_,_,rfl,rfl,(.inl ⟨by decide,by decide⟩),_,_,rfl,rfl,_,_,rfl,rfl,d,_,_,_,rfl,rfl,gd h3,atD (by omega) (by omega),_,rfl,fl_,_,rfl,.inl (SqL.of (h3.get 9 rfl)),_,_,rfl,rfl,(show (0:Int) < ((esV fs1).length:Int) by rw [evl]; omega),?_⟩
    rw [evl]
    refine ⟨fl_,_,_,k2,.ref (fs1[k2]).1,rfl,rfl,h3.get 9 rfl,k2a,k2b (by omega),(by rw [evl]; exact k2s),esV_get (List.getElem?_eq_getElem k2l),?_⟩
    rw [evx]
    have h4:=h3.puti 9 rfl (.lst (esV (fs1.eraseIdx k2)))
    generalize upd H3 fl_ _ = H4 at h4 ⊢
    have pm2:=eraseIdx_permL fs1 k2 k2l
    have l2:(fs1.eraseIdx k2).length = fs1.length - 1:=List.length_eraseIdx_of_lt k2l
    generalize hz:fs1[k2] = z at *
    rw [List.nodup_cons] at nd1
    have nd2:(z.2 :: (fs1.eraseIdx k2).map (·.2)).Nodup:=(pm2.map (fun x:En => x.2)).nodup_iff.mpr nd1.2
    have zin:z ∈ fs1:=by rw [<- hz]; exact List.getElem_mem _
    have sub2:∀ z ∈ fs1.eraseIdx k2,z ∈ fs1:=fun z hz => List.mem_of_mem_eraseIdx hz
    generalize fs1.eraseIdx k2 = fs2 at *
    rw [List.nodup_cons] at nd2
    have kne:∀ {u v:En},¬ u.2 = v.2 -> ¬ kE u.2.1 u.2.2 = kE v.2.1 v.2.2:=fun {u v} c e => c (by
     injection e with e1 e2
     injection e2 with e2 _
     injection e1 with e1
     injection e2 with e2
     exact Prod.ext e1 e2)
    have xe:=fin x xin
    have ze:=fin z (sub1 z zin)
    have xz:¬ x.2 = z.2:=fun e => nd1.1 (by rw [e]; exact List.mem_map.mpr ⟨z,zin,rfl⟩)
    obtain ⟨ix,hix⟩:=List.mem_iff_getElem?.mp xe
    obtain ⟨iz,hiz⟩:=List.mem_iff_getElem?.mp ze
    refine ⟨_,rfl,A.p,A.dx,_,rfl,h4.get 1 rfl,(fl_m2 _ _ _).2.2.1,_,rfl,_,rfl,{ A with tr:=q1 },_,_,x.1,z.1,x.2.1,x.2.2,z.2.1,z.2.2,ix + 2,iz + 2,rfl,h4,esK_get _ hix,esK_get _ hiz,endsL_th B rfl (emem x xe),endsL_th B rfl (emem z ze),kne xz,fno x xin,fno z (sub1 z zin),(show m.length <= 30000 by omega),fun H5 q5 h5 => ?_⟩
    refine ⟨_,rfl,_,rfl,_,rfl,mh,_,rfl,DPut.t (k:=kE x.2.1 x.2.2) (h5.get 10 rfl) (gs h5 x xe) (sizeOk (by omega)),?_⟩
    have h6:=h5.puti 10 rfl (.dT (putK m (kE x.2.1 x.2.2) (.ref z.1)))
    refine ⟨_,rfl,_,rfl,_,rfl,mh,_,rfl,DPut.t (k:=kE z.2.1 z.2.2) (h6.get 10 rfl) (gs h6 z ze) (sizeOk (Nat.le_trans (length_putK _ _ _) (by omega))),?_⟩
    have h7:=h6.puti 10 rfl (.dT (putK (putK m (kE x.2.1 x.2.2) (.ref z.1)) (kE z.2.1 z.2.2) (.ref x.1)))
    refine ⟨q5,_,fs2,_,_,_,(M.put ze _).put xe _,fun u hu => fin u (sub1 u (sub2 u hu)),nd2.2,fun u hu => ?_,?_,by omega,(ek_put (ek_put ekm ⟨_,emem x xe,rfl⟩ _) ⟨_,emem z ze,rfl⟩ _),rfl,h7⟩
    ·rw [valV_put,if_neg (kne (fun e => nd2.1 (by rw [<- e]; exact List.mem_map.mpr ⟨u,hu,rfl⟩))),valV_put,if_neg (kne (fun e => nd1.1 (by rw [<- e]; exact List.mem_map.mpr ⟨u,sub2 u hu,rfl⟩)))]
     exact fno u (sub1 u (sub2 u hu))
    ·have b1:=length_putK m (kE x.2.1 x.2.2) (.ref z.1)
     have b2:=length_putK (putK m (kE x.2.1 x.2.2) (.ref z.1)) (kE z.2.1 z.2.2) (.ref x.1)
     omega
   ·exact ⟨q1,m,fs,_,_,_,M,fin,fnd,fno,by omega,flen,ekm,rfl,h2⟩
  ·rintro σ H2 ⟨q1,m,fs,o1,o2,o3,M,fin,fnd,fno,ml,flen,ekm,rfl,h2⟩
   refine ⟨_,rfl,q _ q1 mh m es M hes ml ekm ?_⟩
   exact (Has.comm (X:=yL t.c_Yard { A with tr:=q1 } { y with mates:=m,trail:=[] }) (Y:=[(fl_,.lst (esV fs))]) (R:=(mh,.dT m) :: (esK es ++ L)) h2).tail
theorem scTw:FnScope ["_law_yard","_law_sides","_law_d","_law_at","_law_rod"] ["_law_yard","_law_sides","_law_d","_law_at"] (defScope s_J41):=⟨rfl,rfl,rfl,by decide +kernel,rfl,by decide +kernel,by decide +kernel⟩
theorem ok_J41 (T:Txt K mg t):FnOk P w K mg base CX0 5 t.f_J41 t.d_J41 ["_law_yard","_law_sides","_law_d","_law_at"] (sp_J41 t.c_Yard):=by
 refine T.F_J41.ok scTw (fun vs H Q E h => ?_) (fun cdv A outer s H vs Q E hr h => ?_)
 ·obtain ⟨_,_,_,_,_,_,_,_,_,rfl,_⟩:=h
  rfl
 ·obtain ⟨A,y,L,sd,d,ss,ds,a,jd,rfl,hH,hsd,htr,hjd,a0,hds,sl,q⟩:=h
  refine ⟨_,(pss_one (ps_for PassesOwn.never rfl (pi_range1 (by rfl) T.z_range (pa_cons (pe_callB call_len_seq (by rfl) T.z_len (by rfl) (pa_cons (pv 1) pa_nil)) pa_nil)) (pg_name (i:=4) scTw.nd rfl (Or.inl rfl))
    (pss_cons (ps_asg (pe_op op_add pe_int (pe_op op_mod (pe_ix ix_list (pv 2) (pe_op op_add (pv 3) (pv 4)) (fun _ _ => rfl)) pe_int)) (pg_sub (pv 1) (pv 4) set_list))
     (pss_one (ps_expr (pe_meth (pv 0) T.cl_Yard T.M_Jh (ok_Jh T) (hr.mono (by decide)) (b_Jh T) .nil pass0 (pa_cons (pv 4) (pa_cons (pe_ix ix_list (pv 1) (pv 4) (fun _ _ => rfl)) pa_nil)))))))),?_⟩
  have gd:∀ {H:Hp} {A1:YA} {y1:YR} {x1:HO},Has H (yL t.c_Yard A1 y1 ++ ((sd,x1) :: L)) -> SqL K H d (ds.map V.int):=fun {H A1 y1 x1} h => SqL.of (h.get (jd + 10) (by simpa [yL] using hjd))
  refine ⟨_,rfl,sd,_,rfl,.inl (SqL.of (hH.get 9 rfl)),_,rfl,by omega,by rw [List.length_map]; omega,for_range (fun i σ H' => ∃ (q1:Addr) (s1:List Int) (o1:Option V),s1.length = ss.length /\ (∀ j,j < i -> ∀ x,s1[j]? = some x -> x = 1 ∨ x = 2) /\ σ = [some (.ref A.p),some (.ref sd),some (.ref d),some (.int a),o1] /\
   Has H' (yL t.c_Yard { A with tr:=q1 } { y with sides:=s1.map V.int,trail:=[] } ++ ((sd,.lst (s1.map V.int)) :: L))) ⟨A.tr,ss,_,rfl,fun j hj => absurd hj (Nat.not_lt_zero _),rfl,?_⟩ ?_ ?_⟩
  ·have e:({ y with sides:=ss.map V.int,trail:=[] }:YR) = y:=by rw [<- hsd,<- htr]
   rw [e]; exact hH
  ·rintro i σ H1 hi ⟨q1,s1,o1,l1,hs,rfl,h1⟩
   have hi':i < s1.length:=by rw [l1]; rw [List.length_map] at hi; omega
   refine ⟨_,rfl,_,rfl,_,rfl,_,_,rfl,rfl,d,_,_,_,rfl,rfl,gd h1,atD (by omega) (by rw [List.length_map] at hi; omega),_,_,rfl,rfl,(show (0:Int) < 2 by decide),_,_,rfl,rfl,?_⟩
   dsimp only
   have b0:=Int.emod_nonneg (ds.getD (a + (0 + (i:Int))).toNat 0) (show (2:Int) ≠ 0 by decide)
   have b1:=Int.emod_lt_of_pos (ds.getD (a + (0 + (i:Int))).toNat 0) (show (0:Int) < 2 by decide)
   generalize ds.getD (a + (0 + (i:Int))).toNat 0 % 2 = b at b0 b1 ⊢
   have hz:1 + b = 1 ∨ 1 + b = 2:=by omega
   have ejx:ixN (s1.map V.int).length (0 + (i:Int)) = some i:=by unfold ixN; rw [List.length_map,if_pos (by omega),if_pos (by omega)]; congr 1; omega
   refine ⟨_,rfl,_,rfl,sd,_,_,_,rfl,rfl,h1.get 9 rfl,ejx,?_⟩
   have h2:=h1.puti 9 rfl (.lst ((s1.map V.int).set i (.int (1 + b))))
   have ga:atI ((s1.map V.int).set i (.int (1 + b))) (0 + (i:Int)) = some (.int (1 + b)):=by
    rw [show 0 + (i:Int) = ((i:Nat):Int) by omega]
    exact atI_nat (by rw [List.getElem?_set_self (by rw [List.length_map]; exact hi')])
   refine ⟨_,rfl,A.p,A.dx,_,rfl,h2.get 1 rfl,(fl_m _ _ _).2.2.1,_,rfl,_,rfl,_,rfl,sd,_,_,_,rfl,rfl,SqL.of (h2.get 9 rfl),ga,{ A with tr:=q1 },_,_,0 + (i:Int),1 + b,rfl,h2,by omega,(show 0 + (i:Int) < ((s1.map V.int).length:Int) by rw [List.length_map]; omega),hz,fun H3 q3 h3 => ?_⟩
   refine ⟨q3,s1.set i (1 + b),_,by rw [List.length_set]; exact l1,fun j hj x hx => ?_,rfl,?_⟩
   ·by_cases c:j = i
    ·subst c
     rw [List.getElem?_set_self hi'] at hx
     cases hx
     exact hz
    ·rw [List.getElem?_set_ne (fun e => c e.symm)] at hx
     exact hs j (by omega) x hx
   ·rw [List.map_set]
    rw [show (0 + (i:Int)).toNat = i by omega] at h3
    exact h3
  ·rintro σ H1 ⟨q1,s1,o1,l1,hs,rfl,h1⟩
   refine q _ q1 s1 l1 (fun x hx => ?_) h1
   obtain ⟨j,hj⟩:=List.mem_iff_getElem?.mp hx
   exact hs j (by have:=(List.getElem?_eq_some_iff.mp hj).1; rw [List.length_map]; omega) x hj
end
end P
set_option Elab.async false
set_option linter.all false
set_option maxRecDepth 100000
set_option maxHeartbeats 4000000
namespace P
open PySem L2
structure Lw (W:Wd) (ks:List Kd) (ns rs:List Int) (m:List (List Key × V)):Prop where
 kf:∀ n k,W.kf n = some k -> ∃ i:Nat,n = i /\ ks[i]? = some k
 nf:∀ i:Nat,W.nf i = ns.getD i 0
 rf:∀ i:Nat,W.rf i = rs.getD i 0
 nl:ns.length = ks.length
 rl:rs.length = ks.length
 rn:∀ (i:Nat) k,ks[i]? = some k -> (k.point = true ↔ 0 <= rs.getD i 0)
 mt:∀ n e,valV m (kE n e) = (W.mf n e).map fun z => V.ref z.1
structure Okw (W:Wd) (s:Sd):Prop where
 rr:∀ n k,W.kf n = some k -> k.point = true -> 0 <= W.rf n /\ W.rf n < s.ss.length
 s12:∀ x ∈ s.ss,x = 1 ∨ x = 2
 mo:∀ n e z,W.mf n e = some z -> W.ok z
 eo:∀ z,s.at_ = some z -> W.ok z
theorem Rep.okw {W:Wd} {s:Sd} {y:YR} (R:Rep W s y):Okw W s:=⟨R.rr,R.s12,R.mo,R.eo⟩
theorem Okw.s1 {w:Wd} {s:Sd} (R:Okw w s) {n:Int} {k:Kd} (hk:w.kf n = some k) (hp:k.point = true):w.sv s n = 1 ∨ w.sv s n = 2:=by
 obtain ⟨h0,h1⟩:=R.rr n k hk hp
 refine R.s12 _ ?_
 unfold Wd.sv
 rw [List.getD_eq_getElem?_getD,List.getElem?_eq_getElem (by omega)]
 exact List.getElem_mem _
theorem Okw.step {w:Wd} {s:Sd} {z:En} {k:Kd} {z':En} {o:Int} (R:Okw w s) (hz:s.at_ = some z) (hk:w.kf z.2.1 = some k) (hm:w.mf z.2.1 o = some z'):Okw w (stepS w s z k z'):=by
 have hl:(stepS w s z k z').ss.length = s.ss.length:=by
  unfold stepS; dsimp only; split
  ·exact List.length_set
  ·rfl
 refine ⟨fun n k h1 h2 => by rw [hl]; exact R.rr n k h1 h2,fun x hx => ?_,R.mo,fun u hu => ?_⟩
 ·unfold stepS at hx
  dsimp only at hx
  split at hx
  ·rename_i hp
   rcases List.mem_or_eq_of_mem_set hx with hx | hx
   ·exact R.s12 x hx
   ·obtain ⟨k',h1,h2,h3⟩:=R.eo z hz
    rw [hk] at h1
    cases h1
    rw [hx]
    exact Kd.side12 h2 h3 (R.s1 hk hp)
  ·exact R.s12 x hx
 ·rw [stepS_at] at hu
  cases hu
  exact R.mo _ _ _ hm
theorem ksV_get {ks:List Kd} {i:Nat} {k:Kd} (h:ks[i]? = some k):(ksV ks)[i]? = some (.str k.str):=by unfold ksV; rw [List.getElem?_map,h]; rfl
theorem getD_get {l:List Int} {i:Nat} (h:i < l.length):(l.map V.int)[i]? = some (.int (l.getD i 0)):=by
 rw [List.getElem?_map,List.getElem?_eq_getElem h]; simp [List.getD,List.getElem?_eq_getElem h]
def walkInv (sd gg kk nn rr mh:Addr) (R:Kn) (W:Wd) (s:Sd) (m:Int) (r:Nat) (σ:St) (H:Hp):Prop :=
 ∃ (i:Nat) (s1:Sd) (o1 o2 o3 o4 o5:Option V),r = m.toNat - i /\ i <= m.toNat /\ σ = [some (.ref kk),some (.ref nn),some (.ref rr),some (.ref sd),some (.ref mh),some (.ref gg),some (enV s1.at_),some (.int m),some (.int i),o1,o2,o3,o4,o5] /\
  Has H ((sd,.lst (s1.ss.map V.int)) :: (gg,.lst (s1.rg.map V.int)) :: R) /\ Okw W s1 /\ Pool W s1 R /\ W.go m.toNat s = W.go (m.toNat - i) s1 /\ (W.hist m.toNat s).length = i + (W.hist (m.toNat - i) s1).length /\ s1.rg.length <= s.rg.length + i
def sp_walk:Sp:=fun vs H Q _ => ∃ (sd gg kk nn rr mh:Addr) (R:Kn) (W:Wd) (s:Sd) (m:Int) (ks:List Kd) (ns rs:List Int) (dm:List (List Key × V)) (jk jn jr jm:Nat),vs = [.ref kk,.ref nn,.ref rr,.ref sd,.ref mh,.ref gg,enV s.at_,.int m] /\
 Has H ((sd,.lst (s.ss.map V.int)) :: (gg,.lst (s.rg.map V.int)) :: R) /\ Lw W ks ns rs dm /\ Okw W s /\ Pool W s R /\ R[jk]? = some (kk,.lst (ksV ks)) /\ R[jn]? = some (nn,.lst (ns.map V.int)) /\ R[jr]? = some (rr,.lst (rs.map V.int)) /\ R[jm]? = some (mh,.dT dm) /\ s.rg.length + m <= 900000 /\
 ∀ H' tp,Has H' ((tp,.tup [enV (W.go m.toNat s).at_,.int (W.hist m.toNat s).length]) :: (sd,.lst ((W.go m.toNat s).ss.map V.int)) :: (gg,.lst ((W.go m.toNat s).rg.map V.int)) :: R) -> Okw W (W.go m.toNat s) -> Pool W (W.go m.toNat s) R -> (W.go m.toNat s).rg.length <= s.rg.length + m.toNat -> Q (.ref tp) H'
section
variable {P:Program} {w:World} {K:PySem.W.Frag} {mg:Str -> Option Value} {base:Heap} {t:Adr}
theorem scWk:FnScope ["_law_kinds_here","_law_notes","_law_rods","_law_sides","_law_mates","_law_rung","_law_at","_law_most","_law_done","_law_piece","_law_place","_law_side","_law_out","_law_behind"] ["_law_kinds_here","_law_notes","_law_rods","_law_sides","_law_mates","_law_rung","_law_at","_law_most"] (defScope s_walk):=⟨rfl,rfl,rfl,by decide +kernel,rfl,by decide +kernel,by decide +kernel⟩
theorem ok_walk (T:Txt K mg t):FnOk P w K mg base CX0 3 t.f_walk t.d_walk ["_law_kinds_here","_law_notes","_law_rods","_law_sides","_law_mates","_law_rung","_law_at","_law_most"] sp_walk:=by
 refine T.F_walk.ok scWk (fun vs H Q E h => ?_) (fun cdv A outer s H vs Q E hr h => ?_)
 ·obtain ⟨_,_,_,_,_,_,_,_,_,_,_,_,_,_,_,_,_,_,rfl,_⟩:=h
  rfl
 ·obtain ⟨sd,gg,kk,nn,rr,mh,R,W,s0,m,ks,ns,rs,dm,jk,jn,jr,jm,rfl,hH,lw,O,PL,hjk,hjn,hjr,hjm,bd,q⟩:=h
  have hu:=hu_of hr
  refine ⟨_,(pss_cons (ps_set (i:=8) scWk.nd rfl (Or.inl rfl) pe_int)
   (pss_cons (ps_while PassesOwn.never (PW.pt (pw_and (pt_cmpR op_lt (pv 8) (pv 7) (nomark _)) (pw_and1 (pt_cmpR op_notN (pv 6) pe_non (nomark _)))))
    (pss_cons (ps_asg (pv 6) (pg_tup rfl (pgs_cons (pg_name (i:=9) scWk.nd rfl (Or.inl rfl)) (pgs_cons (pg_name (i:=10) scWk.nd rfl (Or.inl rfl)) pgs_nil))))
     (pss_cons (ps_set (i:=11) scWk.nd rfl (Or.inl rfl) pe_int)
     (pss_cons (ps_if (pt_cmpR op_ge (pe_ix ix_list (pv 2) (pv 9) (fun _ _ => rfl)) pe_int (nomark _))
      (pss_one (ps_set (i:=11) scWk.nd rfl (Or.inl rfl) (pe_ix ix_list (pv 3) (pe_ix ix_list (pv 2) (pv 9) (fun _ _ => rfl)) (fun _ _ => rfl))))
      pss_nil)
     (pss_cons (ps_asg (pe_call (ok_J21 T) (hr.mono (by decide)) (by rfl) T.m_J21 T.F_J21.kp (b_J21 T) .nil pass0 (pa_cons (pe_ix ix_list (pv 0) (pv 9) (fun _ _ => rfl)) (pa_cons (pv 10) (pa_cons (pv 11) pa_nil)))) (pg_tup rfl (pgs_cons (pg_name (i:=12) scWk.nd rfl (Or.inl rfl)) (pgs_cons (pg_name (i:=13) scWk.nd rfl (Or.inl rfl)) pgs_nil))))
     (pss_cons (ps_if (pt_cmp (pc_dnotinN hu (pe_tup (pa_cons (pv 9) (pa_cons (pv 12) pa_nil))) (pv 4)))
      (pss_one (ps_ret (pe_tup (pa_cons (pv 6) (pa_cons (pv 8) pa_nil)))))
      pss_nil)
     (pss_cons (ps_if (pt_cmpR op_ge (pe_ix ix_list (pv 2) (pv 9) (fun _ _ => rfl)) pe_int (nomark _))
      (pss_one (ps_asg (pv 13) (pg_sub (pv 3) (pe_ix ix_list (pv 2) (pv 9) (fun _ _ => rfl)) set_list)))
      pss_nil)
     (pss_cons (ps_if (pt_cmpR op_eq (pe_ix ix_list (pv 0) (pv 9) (fun _ _ => rfl)) pe_str (nomark _))
      (pss_one (ps_expr (pe_bm PySem.F.plainAttrs_list PySem.F.slot_list_append PySem.F.type_list_append mt_append (pv 5) (pa_cons (pe_ix ix_list (pv 1) (pv 9) (fun _ _ => rfl)) pa_nil))))
      pss_nil)
     (pss_cons (ps_set (i:=6) scWk.nd rfl (Or.inl rfl) (pe_dget hu (pv 4) (pe_tup (pa_cons (pv 9) (pa_cons (pv 12) pa_nil))) (fun _ _ => rfl)))
     (pss_one (ps_set (i:=8) scWk.nd rfl (Or.inl rfl) (pe_op op_add (pv 8) pe_int))))))))))))
   (pss_one (ps_ret (pe_tup (pa_cons (pv 6) (pa_cons (pv 8) pa_nil))))))),?_⟩
  refine ⟨walkInv sd gg kk nn rr mh R W s0 m,⟨_,0,s0,_,_,_,_,_,rfl,Nat.zero_le _,rfl,hH,O,PL,rfl,by simp,Nat.le_refl _⟩,?_⟩
  rintro r σ H1 ⟨i,s1,o1,o2,o3,o4,o5,rfl,im,rfl,h1,O1,P1,eg,eh,rg⟩
  have fin:∀ (H2:Hp),Has H2 ((sd,.lst (s1.ss.map V.int)) :: (gg,.lst (s1.rg.map V.int)) :: R) -> W.go (m.toNat - i) s1 = s1 -> (W.hist (m.toNat - i) s1).length = 0 -> ∀ p,H2 p = none -> Q (.ref p) (upd H2 p (.tup [enV s1.at_,.int i])):=fun H2 h2 e1 e2 p hp => by
   rw [e1] at eg
   rw [e2] at eh
   refine q _ p ?_ (by rw [eg]; exact O1) (by rw [eg]; exact P1) (by rw [eg]; omega)
   rw [eg,eh]
   exact h2.alloc hp _
  refine ⟨_,rfl,_,rfl,_,_,rfl,rfl,_,rfl,if2 (fun hc => ?_) (fun hc => iteF ?_)⟩
  ·have hlt:(i:Int) < m:=of_decide_eq_true hc
   refine ⟨_,rfl,rfl,_,rfl,?_⟩
   cases hz:s1.at_ with
   | none =>
    refine iteF ?_
    have hn:=(why_none (w:=W) hz).1
    rw [hz] at fin
    exact ⟨_,rfl,_,rfl,(show 2 <= sizeLine by decide),fun p hp => fin _ h1 (go_held W hn _) (by rw [hist_held W hn]; rfl) p hp⟩
   | some z =>
    obtain ⟨zb,zn,ze⟩:=z
    obtain ⟨j,hj⟩:=P1.e _ hz
    obtain ⟨k,hk,e0,e1⟩:=O1.eo _ hz
    obtain ⟨i0,ei,hki⟩:=lw.kf _ _ hk
    dsimp only at ei e0 e1 hj hk
    subst ei
    have il:i0 < ks.length:=(List.getElem?_eq_some_iff.mp hki).1
    refine iteT ⟨fun σ' H' => ∃ r',r' < m.toNat - i /\ walkInv sd gg kk nn rr mh R W s0 m r' σ' H',fun _ _ h => h,?_⟩
    refine ⟨_,rfl,zb,_,rfl,SqT.of (h1.get (j + 2) hj),rfl,_,_,rfl,_,_,rfl,rfl,?_⟩
    have grr:∀ {H:Hp} {x1 x2:HO},Has H ((sd,x1) :: (gg,x2) :: R) -> SqL K H rr (rs.map V.int):=fun {H x1 x2} h => SqL.of (h.get (jr + 2) hjr)
    have ari:atI (rs.map V.int) (i0:Int) = some (.int (rs.getD i0 0)):=atI_nat (getD_get (show i0 < rs.length by rw [lw.rl]; exact il))
    refine ⟨_,rfl,_,rfl,rr,_,_,_,rfl,rfl,grr h1,ari,_,_,rfl,rfl,_,rfl,if2 (fun hr0 => ?_) (fun hr0 => ?_)⟩
    ·have r0:0 <= rs.getD i0 0:=of_decide_eq_true hr0
     have hp:k.point = true:=(lw.rn i0 k hki).mpr r0
     have rr1:=O1.rr _ _ hk hp
     rw [lw.rf] at rr1
     have esv:W.sv s1 (i0:Int) = s1.ss.getD (rs.getD i0 0).toNat 0:=by unfold Wd.sv; rw [lw.rf]
     have asd:atI (s1.ss.map V.int) (rs.getD i0 0) = some (.int (W.sv s1 (i0:Int))):=by
      rw [show rs.getD i0 0 = (((rs.getD i0 0).toNat:Nat):Int) by omega,esv]
      exact atI_nat (by rw [getD_get (by omega)])
     refine ⟨_,rfl,_,rfl,_,rfl,rr,_,_,_,rfl,rfl,grr h1,ari,sd,_,_,_,rfl,rfl,SqL.of (h1.get 0 rfl),asd,?_⟩
     refine ⟨_,rfl,_,rfl,kk,_,_,_,rfl,rfl,SqL.of (h1.get (jk + 2) hjk),atI_nat (ksV_get hki),_,rfl,_,rfl,k,ze,(W.sv s1 (i0:Int)),rfl,e0,e1,fun p hp1 => ?_⟩
     have eo:k.out ze (W.sv s1 (i0:Int)) = k.out ze (W.sv s1 (i0:Int)):=rfl
     have h2:=h1.alloc hp1 (.tup [k.out ze (W.sv s1 (i0:Int)),.int (k.side ze (W.sv s1 (i0:Int)))])
     refine ⟨p,_,rfl,SqT.of (h2.get 0 rfl),rfl,_,_,rfl,_,_,rfl,rfl,?_⟩
     replace h2:=h2.tail
     generalize upd H1 p _ = H2 at h2 ⊢
     rw [eo]
     refine ⟨_,rfl,_,rfl,(show 2 <= sizeLine by decide),fun b hb => ?_⟩
     have h3:=h2.alloc hb (.tup [.int (i0:Int),k.out ze (W.sv s1 (i0:Int))])
     have hcase:(W.nx s1 = none /\ DGetN (upd H2 b (.tup [.int (i0:Int),k.out ze (W.sv s1 (i0:Int))])) mh (.ref b) none) ∨ ∃ (o:Int) (z':En),k.out ze (W.sv s1 (i0:Int)) = .int o /\ W.mf (i0:Int) o = some z':=by
      by_cases c:k.out ze (W.sv s1 (i0:Int)) = .non
      ·refine .inl ⟨(why_stop hz hk c).1,.inr ⟨_,(i0:Int),b,.inl (h3.get (jm + 3) hjm),rfl,?_,rfl⟩⟩
       rw [c]; exact upd_same
      ·obtain ⟨o,ho⟩:=Kd.out_int (k:=k) (fun e => c (by unfold Kd.out; rw [if_pos e])) ze (W.sv s1 (i0:Int))
       cases hm:W.mf (i0:Int) o with
       | none =>
        refine .inl ⟨(why_loose hz hk ho hm).1,.inl ?_⟩
        have:=DGet.t (k:=kE (i0:Int) o) (h3.get (jm + 3) hjm) (by rw [ho]; exact upd_same)
        rw [lw.mt,hm] at this
        exact this
       | some z' => exact .inr ⟨o,z',ho,hm⟩
     rcases hcase with ⟨hn,hg⟩ | ⟨o,z',ho,hm⟩
     ·refine ⟨_,rfl,mh,none,rfl,hg,_,rfl,iteT ?_⟩
      rw [hz] at fin
      exact ⟨_,rfl,_,rfl,(show 2 <= sizeLine by decide),fun p hp => fin _ h3.tail (go_held W hn _) (by rw [hist_held W hn]; rfl) p hp⟩
     have hn:=nx_of hz hk ho hm
     have vm:valV dm (kE (i0:Int) o) = some (.ref z'.1):=by rw [lw.mt,hm]; rfl
     rw [ho] at h3 ⊢
     refine ⟨_,rfl,mh,_,rfl,.inl (DGet.t (k:=kE (i0:Int) o) (h3.get (jm + 3) hjm) (h3.get 0 rfl)),_,rfl,ifF (by rw [vm]; rfl) ?_⟩
     have h4:=h3.tail
     generalize upd H2 b _ = H4 at h4 ⊢
     clear h3 h2 hb
     refine ⟨_,rfl,_,rfl,rr,_,_,_,rfl,rfl,grr h4,ari,_,_,rfl,rfl,_,rfl,ifT hr0 ?_⟩
     have ejx:ixN (s1.ss.map V.int).length (rs.getD i0 0) = some (rs.getD i0 0).toNat:=by unfold ixN; rw [List.length_map,if_pos r0,if_pos (by omega)]
     refine ⟨_,rfl,_,rfl,_,rfl,_,rfl,rr,_,_,_,rfl,rfl,grr h4,ari,sd,_,_,_,rfl,rfl,h4.get 0 rfl,ejx,?_⟩
     have h5:=h4.puti 0 rfl (.lst ((s1.ss.map V.int).set (rs.getD i0 0).toNat (.int (k.side ze (W.sv s1 (i0:Int))))))
     generalize upd H4 sd _ = H5 at h5 ⊢
     have es:(stepS W s1 (zb,(i0:Int),ze) k z').ss.map V.int = (s1.ss.map V.int).set (rs.getD i0 0).toNat (.int (k.side ze (W.sv s1 (i0:Int)))):=by unfold stepS; dsimp only; rw [if_pos hp,List.map_set,lw.rf]
     refine ⟨_,rfl,_,rfl,kk,_,_,_,rfl,rfl,SqL.of (h5.get (jk + 2) hjk),atI_nat (ksV_get hki),rfl,_,rfl,?_⟩
     rw [k.isBell]
     refine ifd (fun kb => ?_) (fun kb => ?_)
     ·refine ⟨_,rfl,.inl ⟨rfl,_,SqL.of (h5.get 1 rfl)⟩,_,rfl,_,rfl,nn,_,_,_,rfl,rfl,SqL.of (h5.get (jn + 2) hjn),atI_nat (getD_get (show i0 < ns.length by rw [lw.nl]; exact il)),gg,_,_,rfl,rfl,h5.get 1 rfl,sizeOk (by rw [List.length_map]; omega),?_⟩
      have h7:=h5.puti 1 rfl (.lst (s1.rg.map V.int ++ [.int (ns.getD i0 0)]))
      have er:(stepS W s1 (zb,(i0:Int),ze) k z').rg.map V.int = s1.rg.map V.int ++ [.int (ns.getD i0 0)]:=by unfold stepS; dsimp only; rw [if_pos kb,List.map_append,lw.nf]; rfl
      generalize upd _ gg _ = H7 at h7 ⊢
      rw [<- er,<- es] at h7
      refine ⟨_,rfl,_,rfl,_,rfl,(show 2 <= sizeLine by decide),fun b8 hb8 => ?_⟩
      have h8:=h7.alloc hb8 (.tup [.int (i0:Int),.int o])
      refine ⟨mh,_,rfl,(by rw [<- vm]; exact DGet.t (k:=kE (i0:Int) o) (h8.get (jm + 3) hjm) (h8.get 0 rfl)),?_⟩
      refine ⟨_,rfl,_,_,rfl,rfl,?_⟩
      have em:m.toNat - i = (m.toNat - (i + 1)) + 1:=by omega
      rw [em,go_succ W hn] at eg
      rw [em,hist_succ W hn,List.length_cons] at eh
      refine ⟨m.toNat - (i + 1),by omega,i + 1,stepS W s1 (zb,(i0:Int),ze) k z',_,_,_,_,_,rfl,by omega,rfl,h8.tail,O1.step hz hk hm,P1.step hn,eg,by omega,?_⟩
      have:=stepS_rg_le (w:=W) (s:=s1) (z:=(zb,(i0:Int),ze)) (k:=k) (z':=z')
      omega
     ·have er:(stepS W s1 (zb,(i0:Int),ze) k z').rg.map V.int = s1.rg.map V.int:=by unfold stepS; dsimp only; rw [if_neg kb]
      have h7:=h5
      rw [<- er,<- es] at h7
      refine ⟨_,rfl,_,rfl,_,rfl,(show 2 <= sizeLine by decide),fun b8 hb8 => ?_⟩
      have h8:=h7.alloc hb8 (.tup [.int (i0:Int),.int o])
      refine ⟨mh,_,rfl,(by rw [<- vm]; exact DGet.t (k:=kE (i0:Int) o) (h8.get (jm + 3) hjm) (h8.get 0 rfl)),?_⟩
      refine ⟨_,rfl,_,_,rfl,rfl,?_⟩
      have em:m.toNat - i = (m.toNat - (i + 1)) + 1:=by omega
      rw [em,go_succ W hn] at eg
      rw [em,hist_succ W hn,List.length_cons] at eh
      refine ⟨m.toNat - (i + 1),by omega,i + 1,stepS W s1 (zb,(i0:Int),ze) k z',_,_,_,_,_,rfl,by omega,rfl,h8.tail,O1.step hz hk hm,P1.step hn,eg,by omega,?_⟩
      have:=stepS_rg_le (w:=W) (s:=s1) (z:=(zb,(i0:Int),ze)) (k:=k) (z':=z')
      omega
    ·have r0:¬ 0 <= rs.getD i0 0:=of_decide_eq_false hr0
     have hp:¬ k.point = true:=fun h => r0 ((lw.rn i0 k hki).mp h)
     refine ⟨_,rfl,_,rfl,kk,_,_,_,rfl,rfl,SqL.of (h1.get (jk + 2) hjk),atI_nat (ksV_get hki),_,rfl,_,rfl,k,ze,0,rfl,e0,e1,fun p hp1 => ?_⟩
     have eo:k.out ze 0 = k.out ze (W.sv s1 (i0:Int)):=Kd.out_np hp _ _ _
     have h2:=h1.alloc hp1 (.tup [k.out ze 0,.int (k.side ze 0)])
     refine ⟨p,_,rfl,SqT.of (h2.get 0 rfl),rfl,_,_,rfl,_,_,rfl,rfl,?_⟩
     replace h2:=h2.tail
     generalize upd H1 p _ = H2 at h2 ⊢
     rw [eo]
     refine ⟨_,rfl,_,rfl,(show 2 <= sizeLine by decide),fun b hb => ?_⟩
     have h3:=h2.alloc hb (.tup [.int (i0:Int),k.out ze (W.sv s1 (i0:Int))])
     have hcase:(W.nx s1 = none /\ DGetN (upd H2 b (.tup [.int (i0:Int),k.out ze (W.sv s1 (i0:Int))])) mh (.ref b) none) ∨ ∃ (o:Int) (z':En),k.out ze (W.sv s1 (i0:Int)) = .int o /\ W.mf (i0:Int) o = some z':=by
      by_cases c:k.out ze (W.sv s1 (i0:Int)) = .non
      ·refine .inl ⟨(why_stop hz hk c).1,.inr ⟨_,(i0:Int),b,.inl (h3.get (jm + 3) hjm),rfl,?_,rfl⟩⟩
       rw [c]; exact upd_same
      ·obtain ⟨o,ho⟩:=Kd.out_int (k:=k) (fun e => c (by unfold Kd.out; rw [if_pos e])) ze (W.sv s1 (i0:Int))
       cases hm:W.mf (i0:Int) o with
       | none =>
        refine .inl ⟨(why_loose hz hk ho hm).1,.inl ?_⟩
        have:=DGet.t (k:=kE (i0:Int) o) (h3.get (jm + 3) hjm) (by rw [ho]; exact upd_same)
        rw [lw.mt,hm] at this
        exact this
       | some z' => exact .inr ⟨o,z',ho,hm⟩
     rcases hcase with ⟨hn,hg⟩ | ⟨o,z',ho,hm⟩
     ·refine ⟨_,rfl,mh,none,rfl,hg,_,rfl,iteT ?_⟩
      rw [hz] at fin
      exact ⟨_,rfl,_,rfl,(show 2 <= sizeLine by decide),fun p hp => fin _ h3.tail (go_held W hn _) (by rw [hist_held W hn]; rfl) p hp⟩
     have hn:=nx_of hz hk ho hm
     have vm:valV dm (kE (i0:Int) o) = some (.ref z'.1):=by rw [lw.mt,hm]; rfl
     rw [ho] at h3 ⊢
     refine ⟨_,rfl,mh,_,rfl,.inl (DGet.t (k:=kE (i0:Int) o) (h3.get (jm + 3) hjm) (h3.get 0 rfl)),_,rfl,ifF (by rw [vm]; rfl) ?_⟩
     have h4:=h3.tail
     generalize upd H2 b _ = H4 at h4 ⊢
     clear h3 h2 hb
     refine ⟨_,rfl,_,rfl,rr,_,_,_,rfl,rfl,grr h4,ari,_,_,rfl,rfl,_,rfl,ifF hr0 ?_⟩
     have es:(stepS W s1 (zb,(i0:Int),ze) k z').ss.map V.int = s1.ss.map V.int:=by unfold stepS; dsimp only; rw [if_neg hp]
     refine ⟨_,rfl,_,rfl,kk,_,_,_,rfl,rfl,SqL.of (h4.get (jk + 2) hjk),atI_nat (ksV_get hki),rfl,_,rfl,?_⟩
     rw [k.isBell]
     refine ifd (fun kb => ?_) (fun kb => ?_)
     ·refine ⟨_,rfl,.inl ⟨rfl,_,SqL.of (h4.get 1 rfl)⟩,_,rfl,_,rfl,nn,_,_,_,rfl,rfl,SqL.of (h4.get (jn + 2) hjn),atI_nat (getD_get (show i0 < ns.length by rw [lw.nl]; exact il)),gg,_,_,rfl,rfl,h4.get 1 rfl,sizeOk (by rw [List.length_map]; omega),?_⟩
      have h7:=h4.puti 1 rfl (.lst (s1.rg.map V.int ++ [.int (ns.getD i0 0)]))
      have er:(stepS W s1 (zb,(i0:Int),ze) k z').rg.map V.int = s1.rg.map V.int ++ [.int (ns.getD i0 0)]:=by unfold stepS; dsimp only; rw [if_pos kb,List.map_append,lw.nf]; rfl
      generalize upd _ gg _ = H7 at h7 ⊢
      rw [<- er,<- es] at h7
      refine ⟨_,rfl,_,rfl,_,rfl,(show 2 <= sizeLine by decide),fun b8 hb8 => ?_⟩
      have h8:=h7.alloc hb8 (.tup [.int (i0:Int),.int o])
      refine ⟨mh,_,rfl,(by rw [<- vm]; exact DGet.t (k:=kE (i0:Int) o) (h8.get (jm + 3) hjm) (h8.get 0 rfl)),?_⟩
      refine ⟨_,rfl,_,_,rfl,rfl,?_⟩
      have em:m.toNat - i = (m.toNat - (i + 1)) + 1:=by omega
      rw [em,go_succ W hn] at eg
      rw [em,hist_succ W hn,List.length_cons] at eh
      refine ⟨m.toNat - (i + 1),by omega,i + 1,stepS W s1 (zb,(i0:Int),ze) k z',_,_,_,_,_,rfl,by omega,rfl,h8.tail,O1.step hz hk hm,P1.step hn,eg,by omega,?_⟩
      have:=stepS_rg_le (w:=W) (s:=s1) (z:=(zb,(i0:Int),ze)) (k:=k) (z':=z')
      omega
     ·have er:(stepS W s1 (zb,(i0:Int),ze) k z').rg.map V.int = s1.rg.map V.int:=by unfold stepS; dsimp only; rw [if_neg kb]
      have h7:=h4
      rw [<- er,<- es] at h7
      refine ⟨_,rfl,_,rfl,_,rfl,(show 2 <= sizeLine by decide),fun b8 hb8 => ?_⟩
      have h8:=h7.alloc hb8 (.tup [.int (i0:Int),.int o])
      refine ⟨mh,_,rfl,(by rw [<- vm]; exact DGet.t (k:=kE (i0:Int) o) (h8.get (jm + 3) hjm) (h8.get 0 rfl)),?_⟩
      refine ⟨_,rfl,_,_,rfl,rfl,?_⟩
      have em:m.toNat - i = (m.toNat - (i + 1)) + 1:=by omega
      rw [em,go_succ W hn] at eg
      rw [em,hist_succ W hn,List.length_cons] at eh
      refine ⟨m.toNat - (i + 1),by omega,i + 1,stepS W s1 (zb,(i0:Int),ze) k z',_,_,_,_,_,rfl,by omega,rfl,h8.tail,O1.step hz hk hm,P1.step hn,eg,by omega,?_⟩
      have:=stepS_rg_le (w:=W) (s:=s1) (z:=(zb,(i0:Int),ze)) (k:=k) (z':=z')
      omega
  ·have hge:¬ (i:Int) < m:=of_decide_eq_false hc
   have ez:m.toNat - i = 0:=by omega
   rw [ez] at fin
   exact ⟨_,rfl,_,rfl,(show 2 <= sizeLine by decide),fun p hp => fin _ h1 rfl rfl p hp⟩
end
end P
set_option Elab.async false
set_option linter.all false
set_option maxRecDepth 100000
set_option maxHeartbeats 4000000
namespace P
open PySem L2
theorem Blt.lw {y:YR} {ks:List Kd} {ns rs ss:List Int} (B:Blt y ks ns rs ss) {es:List En} {m:List (List Key × V)} (M:MIn es m):Lw (wOf ks ns rs es m) ks ns rs m:=by
 refine ⟨fun n k h => wOf_k h,fun i => by unfold wOf; dsimp only; rw [Int.toNat_natCast],fun i => by unfold wOf; dsimp only; rw [Int.toNat_natCast],B.nl,B.rl,fun i k hk => ⟨fun hp => ?_,fun h0 => ?_⟩,fun n e => mfOf_val M n e⟩
 ·exact (B.rr i (by rw [hk]; simp [hp])).1
 ·cases hp:k.point with
  | true => rfl
  | false => have:=B.rn i (by rw [hk]; simp [hp]); omega
theorem esK_app (a b:List En) (L:Kn):esK (a ++ b) ++ L = esK a ++ (esK b ++ L):=by unfold esK; rw [List.map_append,List.append_assoc]
theorem endsL_pos {ks:List Kd} (h:0 < ks.length):0 < (endsL ks).length:=by
 obtain ⟨k,ks',rfl⟩:∃ k ks',ks = k :: ks':=by cases ks with | nil => simp at h | cons a b => exact ⟨a,b,rfl⟩
 unfold endsL
 rw [List.zipIdx_cons,List.flatMap_cons,List.length_append,List.length_map,List.length_range]
 have:1 <= k.many.toNat:=by cases k <;> decide
 show 0 < k.many.toNat + _
 omega
theorem Has.dropL {H:Hp}:∀ (X:Kn) {L:Kn},Has H (X ++ L) -> Has H L
 | [],_,h => h
 | _ :: X,_,h => Has.dropL X (Has.tail h)
structure SetOk (y:YR) (ks:List Kd) (ns rs ss:List Int) (es:List En) (m:List (List Key × V)) (z:En):Prop where
 R:Rep (wOf ks ns rs es m) ⟨ss,some z,[]⟩ y
 lw:Lw (wOf ks ns rs es m) ks ns rs m
 zi:z ∈ es
 ei:∀ x ∈ es,x.2 ∈ endsL ks
 mi:MIn es m
 nx:y.next = ks.length
 kd:y.kinds = kvOf ks
 mt:y.mates = m
 tl:y.trail = []
 rg:y.rung = []
 k1:1 <= ks.length
 k24:ks.length <= 24
 sl:ss.length <= 24
 ml:m.length <= 80
 nr:∀ x ∈ ns,0 <= x /\ x <= 9999
 nlen:y.notes.length <= 24
 rlen:y.rods.length <= 24
 fr:∀ i:Nat,ks.length <= i -> valV y.notes (Sum.inl (i:Int)) = none /\ valV y.rods (Sum.inl (i:Int)) = none
 mks:∀ k ∈ m.map (·.1),∃ p ∈ endsL ks,k = kE p.1 p.2
def sp_set (C:Addr):Sp:=fun vs H Q _ => ∃ (d:Addr) (ds:List Int) (a:Int) (L:Kn) (j:Nat),vs = [.ref d,.int a] /\ Has H L /\ L[j]? = some (d,.lst (ds.map V.int)) /\ 0 <= a /\ a + 184 <= ds.length /\
 ∀ (H':Hp) (tp:Addr) (A:YA) (y:YR) (ks:List Kd) (ns rs ss:List Int) (es:List En) (m:List (List Key × V)) (z:En) (sd mh rr nn kk:Addr),SetOk y ks ns rs ss es m z ->
  Has H' ((tp,.tup [.ref A.p,.ref kk,.ref nn,.ref rr,.ref sd,.ref mh,.ref z.1]) :: (yL C A y ++ ((sd,.lst (ss.map V.int)) :: (mh,.dT m) :: (rr,.lst (rs.map V.int)) :: (nn,.lst (ns.map V.int)) :: (kk,.lst (ksV ks)) :: (esK es ++ L)))) -> Q (.ref tp) H'
section
variable {P:Program} {w:World} {K:PySem.W.Frag} {mg:Str -> Option Value} {base:Heap} {t:Adr}
theorem scSe:FnScope ["_law_d","_law_at","_law_yard","_law_kinds_here","_law_notes","_law_rods","_law_sides","_law_mates","_law_start"] ["_law_d","_law_at"] (defScope s_set):=⟨rfl,rfl,rfl,by decide +kernel,rfl,by decide +kernel,by decide +kernel⟩
theorem ok_set (T:Txt K mg t):FnOk P w K mg base CX0 6 t.f_set t.d_set ["_law_d","_law_at"] (sp_set t.c_Yard):=by
 refine T.F_set.ok scSe (fun vs H Q E h => ?_) (fun cdv A outer s H vs Q E hr h => ?_)
 ·obtain ⟨_,_,_,_,_,rfl,_⟩:=h
  rfl
 ·obtain ⟨d,ds,a,L,j,rfl,hH,hj,a0,hds,q⟩:=h
  refine ⟨_,(pss_cons (ps_asg (pe_call (ok_built T) (hr.mono (by decide)) (by rfl) T.m_built T.F_built.kp (b_built T) .nil pass0 (pa_cons (pv 0) (pa_cons (pe_op op_add (pv 1) pe_int) (pa_cons (pe_call (ok_size T) (hr.mono (by decide)) (by rfl) T.m_size T.F_size.kp (b_size T) .nil pass0 (pa_cons (pe_ix ix_list (pv 0) (pv 1) (fun _ _ => rfl)) pa_nil)) pa_nil)))) (pg_tup rfl (pgs_cons (pg_name (i:=2) scSe.nd rfl (Or.inl rfl)) (pgs_cons (pg_name (i:=3) scSe.nd rfl (Or.inl rfl)) (pgs_cons (pg_name (i:=4) scSe.nd rfl (Or.inl rfl)) (pgs_cons (pg_name (i:=5) scSe.nd rfl (Or.inl rfl)) (pgs_cons (pg_name (i:=6) scSe.nd rfl (Or.inl rfl)) pgs_nil)))))))
   (pss_cons (ps_set (i:=7) scSe.nd rfl (Or.inl rfl) (pe_call (ok_J31 T) (hr.mono (by decide)) (by rfl) T.m_J31 T.F_J31.kp (b_J31 T) .nil pass0 (pa_cons (pv 2) (pa_cons (pv 3) (pa_cons (pv 0) (pa_cons (pe_op op_add (pv 1) pe_int) (pa_cons (pe_call (ok_links T) (hr.mono (by decide)) (by rfl) T.m_links T.F_links.kp (b_links T) .nil pass0 (pa_cons (pe_ix ix_list (pv 0) (pe_op op_add (pv 1) pe_int) (fun _ _ => rfl)) pa_nil)) pa_nil)))))))
   (pss_cons (ps_expr (pe_call (ok_J41 T) (hr.mono (by decide)) (by rfl) T.m_J41 T.F_J41.kp (b_J41 T) .nil pass0 (pa_cons (pv 2) (pa_cons (pv 6) (pa_cons (pv 0) (pa_cons (pe_op op_add (pv 1) pe_int) pa_nil))))))
   (pss_cons (ps_set (i:=8) scSe.nd rfl (Or.inl rfl) (pe_ix ix_list (pe_call (ok_ends T) (hr.mono (by decide)) (by rfl) T.m_ends T.F_ends.kp (b_ends T) .nil pass0 (pa_cons (pv 3) pa_nil)) (pe_op op_mod (pe_ix ix_list (pv 0) (pe_op op_add (pv 1) pe_int) (fun _ _ => rfl)) (pe_callB call_len_seq (by rfl) T.z_len (by rfl) (pa_cons (pe_call (ok_ends T) (hr.mono (by decide)) (by rfl) T.m_ends T.F_ends.kp (b_ends T) .nil pass0 (pa_cons (pv 3) pa_nil)) pa_nil))) (fun _ _ => rfl)))
   (pss_cons (ps_expr (pe_meth (pv 2) T.cl_Yard T.M_Jy (ok_Jy T) (hr.mono (by decide)) (b_Jy T) .nil pass0 (pa_cons (pv 8) pa_nil)))
   (pss_one (ps_ret (pe_tup (pa_cons (pv 2) (pa_cons (pv 3) (pa_cons (pv 4) (pa_cons (pv 5) (pa_cons (pv 6) (pa_cons (pv 7) (pa_cons (pv 8) pa_nil))))))))))))))),?_⟩
  have gd:SqL K H d (ds.map V.int):=SqL.of (hH.get j hj)
  refine ⟨_,rfl,_,rfl,_,_,rfl,rfl,_,rfl,_,rfl,d,_,_,_,rfl,rfl,gd,atD (by omega) (by omega),_,rfl,fun n n1 n24 => ?_⟩
  refine ⟨d,ds,a + 3,n,L,j,rfl,hH,hj,by omega,by omega,by omega,by omega,fun H2 A1 y ks ns rs ss tp sd rr nn kk B lk h2 => ?_⟩
  refine ⟨tp,_,rfl,SqT.of (h2.get 0 rfl),rfl,_,_,rfl,_,_,rfl,_,_,rfl,_,_,rfl,_,_,rfl,rfl,?_⟩
  have h3:=h2.tail
  clear h2 hH gd
  have gd:∀ {H:Hp} {M:Kn},Has H (M ++ L) -> SqL K H d (ds.map V.int):=fun {H M} h => SqL.of (h.get (M.length + j) (by rw [List.getElem?_append_right (by omega),show M.length + j - M.length = j by omega]; exact hj))
  refine ⟨_,rfl,_,rfl,_,rfl,_,rfl,_,_,rfl,rfl,_,rfl,_,rfl,_,_,rfl,rfl,d,_,_,_,rfl,rfl,gd (M:=_ ++ _) (by rw [List.append_assoc]; exact h3),atD (by omega) (by omega),_,rfl,fun n2 m0 m40 => ?_⟩
  refine ⟨A1,y,_,kk,d,ks,ns,rs,ss,ds,a + 78,n2,3,j + 4,rfl,h3,B,rfl,(by simpa using hj),by omega,by omega,by omega,by omega,by omega,fun H4 q4 mh m es M hes ml ekm h4 => ?_⟩
  clear h3
  have h5:=h4.perm (List.Perm.append_left _ ((List.Perm.cons (mh,HO.dT m) (List.perm_append_comm_assoc (esK es) [(sd,HO.lst (ss.map V.int)),(rr,.lst (rs.map V.int)),(nn,.lst (ns.map V.int)),(kk,.lst (ksV ks))] L)).trans (List.Perm.swap _ _ _)))
  clear h4
  have jL:∀ (X:Kn) (es:List En),(X ++ (esK es ++ L))[X.length + es.length + j]? = some (d,.lst (ds.map V.int)):=fun X es => by
   have e:(esK es).length = es.length:=by unfold esK; rw [List.length_map]
   rw [List.getElem?_append_right (by omega),List.getElem?_append_right (by omega),show X.length + es.length + j - X.length - (esK es).length = j by omega]
   exact hj
  have emem:∀ x ∈ es,x.2 ∈ endsL ks:=fun x hx => by rw [<- hes]; exact List.mem_map.mpr ⟨x,hx,rfl⟩
  have ssl:=B.sl
  refine ⟨_,rfl,_,rfl,_,rfl,_,rfl,_,_,rfl,rfl,{ A1 with tr:=q4 },_,_,sd,d,ss,ds,a + 160,_,rfl,h5,B.sd,rfl,jL [(mh,HO.dT m),(rr,.lst (rs.map V.int)),(nn,.lst (ns.map V.int)),(kk,.lst (ksV ks))] es,by omega,by omega,by omega,fun H6 q6 ss' hl h12 h6 => ?_⟩
  clear h5
  refine ⟨_,rfl,kk,ks,_,13,rfl,h6,rfl,by omega,fun H7 el es2 hes2 h7 => ?_⟩
  have g7:SqL K H7 d (ds.map V.int):=SqL.of (h7.get (es2.length + (5 + es.length + j) + 10) (by
   have e:(esK es2).length = es2.length:=by unfold esK; rw [List.length_map]
   show (esK es2 ++ (yL t.c_Yard _ _ ++ _))[es2.length + (5 + es.length + j) + 9]? = _
   rw [List.getElem?_append_right (by omega),show es2.length + (5 + es.length + j) + 9 - (esK es2).length = (5 + es.length + j) + 9 by omega]
   exact jL [(sd,HO.lst (ss'.map V.int)),(mh,HO.dT m),(rr,.lst (rs.map V.int)),(nn,.lst (ns.map V.int)),(kk,.lst (ksV ks))] es))
  refine ⟨_,rfl,_,rfl,_,_,rfl,rfl,d,_,_,_,rfl,rfl,g7,atD (by omega) (by omega),?_⟩
  refine ⟨_,rfl,kk,ks,_,es2.length + 14,rfl,h7,(by
   have e:(esK es2).length = es2.length:=by unfold esK; rw [List.length_map]
   show (esK es2 ++ (yL t.c_Yard _ _ ++ _))[es2.length + 13]? = _
   rw [List.getElem?_append_right (by omega),show es2.length + 13 - (esK es2).length = 13 by omega]
   rfl),by omega,fun H8 el3 es3 hes3 h8 => ?_⟩
  have e2:es2.length = (endsL ks).length:=by have:=congrArg List.length hes2; rw [List.length_map] at this; exact this
  have e3:(esV es3).length = es2.length:=by have:=congrArg List.length hes3; rw [List.length_map] at this; unfold esV; rw [List.length_map]; omega
  have ep:=endsL_pos (ks:=ks) (by omega)
  refine ⟨el3,_,rfl,.inl (SqL.of (h8.get 0 rfl)),_,_,rfl,rfl,(show (0:Int) < ((esV es3).length:Int) by omega),?_⟩
  rw [e3]
  replace h8:=Has.dropL (esK es3) h8.tail
  obtain ⟨i,il,ie,_⟩:=seqIx (n:=es2.length) (x:=ds.getD (a + 2).toNat 0) (by omega)
  refine ⟨el,_,_,_,rfl,rfl,SqL.of (h8.get 0 rfl),(by rw [ie]; exact atI_nat (esV_get (List.getElem?_eq_getElem il))),?_⟩
  have zi:es2[i] ∈ es2:=List.getElem_mem il
  generalize es2[i] = z at zi ⊢
  have h9:=(h8.tail).perm ((List.perm_append_comm_assoc (esK es2) (yL t.c_Yard _ _) _).trans (List.Perm.append_left _ (List.perm_append_comm_assoc (esK es2) [(sd,HO.lst (ss'.map V.int)),(mh,HO.dT m),(rr,.lst (rs.map V.int)),(nn,.lst (ns.map V.int)),(kk,.lst (ksV ks))] (esK es ++ L))))
  rw [<- esK_app] at h9
  clear h8 h7 h6 g7
  have zin:z.2 ∈ endsL ks:=by rw [<- hes2]; exact List.mem_map.mpr ⟨z,zi,rfl⟩
  have zi':z ∈ es2 ++ es:=List.mem_append_left _ zi
  obtain ⟨jz,hjz⟩:=en_pool (M:=[(sd,HO.lst (ss'.map V.int)),(mh,HO.dT m),(rr,.lst (rs.map V.int)),(nn,.lst (ns.map V.int)),(kk,.lst (ksV ks))]) (R:=L) zi'
  refine ⟨_,rfl,A1.p,A1.dx,_,rfl,h9.get 1 rfl,(fl_m4 _ _ _).1,_,rfl,{ A1 with tr:=q6 },_,_,z.1,z.2.1,z.2.2,jz,rfl,h9,hjz,endsL_th B rfl zin,fun H10 q10 h10 => ?_⟩
  refine ⟨_,rfl,_,rfl,_,rfl,_,rfl,_,rfl,_,rfl,_,rfl,(show 7 <= sizeLine by decide),fun tp htp => ?_⟩
  have emem':∀ x ∈ es2 ++ es,x.2 ∈ endsL ks:=fun x hx => by
   rcases List.mem_append.mp hx with h | h
   ·rw [<- hes2]; exact List.mem_map.mpr ⟨x,h,rfl⟩
   ·exact emem x h
  have M':MIn (es2 ++ es) m:=M.mono (fun x hx => List.mem_append_right _ hx)
  refine q _ tp { A1 with tr:=q10 } _ ks ns rs ss' (es2 ++ es) m z sd mh rr nn kk ?_ (h10.alloc htp _)
  have nl:=B.nlen
  have rl:=B.rlen
  refine ⟨Rep.of B M' emem' hl h12 (fun u hu => by cases hu; exact zin) rfl rfl rfl rfl rfl rfl B.rg,B.lw M',zi',emem',M',B.nx,B.kd,rfl,rfl,B.rg,by omega,by omega,by omega,by omega,B.nr,by show y.notes.length <= 24; omega,by show y.rods.length <= 24; omega,fun i hi => ⟨by show valV y.notes _ = none; rw [B.no,List.getElem?_eq_none hi,if_neg (fun e => nomatch e)],by show valV y.rods _ = none; rw [B.ro,List.getElem?_eq_none hi,if_neg (fun e => nomatch e)]⟩,ekm⟩
end
end P
set_option Elab.async false
set_option linter.all false
set_option maxRecDepth 100000
set_option maxHeartbeats 4000000
namespace P
open PySem L2
theorem hcast {H:Hp} {L L':Kn} (h:Has H L) (e:L = L'):Has H L':=e ▸ h
theorem sz {n:Nat} (h:n <= 1000000):n <= sizeLine:=Nat.le_of_lt (sizeOk h)
def lnT (y:Str) (ns:List Int):Str:=Txt.join " " (y :: ns.map nT)
def Nums (ns:List Int):Prop:=ns.length <= 1000 /\ ∀ n ∈ ns,0 <= n /\ n < 10 ^ 10
def sp_wl (K:PySem.W.Frag):Sp:=fun vs H Q _ => ∃ (y:Str) (a:Addr) (b:Bool) (ns:List Int) (L:Kn),vs = [.str y,.ref a] /\ Has H L /\ ((b = true /\ (a,HO.lst (ns.map V.int)) ∈ L) ∨ (b = false /\ (a,HO.tup (ns.map V.int)) ∈ L)) /\ y.length <= 100 /\ Nums ns /\ ∀ H',Has H' L -> Q (.str (lnT y ns)) H'
theorem nT_log {n:Int} (h0:0 <= n) (h1:n < 10 ^ 10):n.natAbs.log2 < 1920:=by
 exact small_of (Nat.lt_of_le_of_lt (show n.natAbs <= 10 ^ 10 by omega) (by decide))
theorem joinLen {sep:Str} {ys:List Str} {M:Nat} (h:∀ y ∈ ys,y.length <= M):(Txt.join sep ys).length <= ys.length * (M + sep.length):=by
 show (Builtin.Str.glued sep ys).length <= _
 rw [StrLaws.glued_eq_join]
 refine Nat.le_trans (StrLaws.join_length_le sep ys) ?_
 have:(ys.map (·.length)).sum <= ys.length * M:=by
  induction ys with
  | nil => simp
  | cons a r ih =>
   rw [List.map_cons,List.sum_cons,List.length_cons,Nat.succ_mul]
   have:=h a List.mem_cons_self
   have:=ih fun y hy => h y (List.mem_cons_of_mem _ hy)
   omega
 rw [Nat.mul_add]
 omega
theorem ln_items {y:Str} {ns:List Int} (hy:y.length <= 100) (hn:Nums ns):∀ x ∈ y :: ns.map nT,x.length <= 100:=fun x hx => by
 rcases List.mem_cons.mp hx with rfl | hx
 ·exact hy
 ·obtain ⟨n,hn',rfl⟩:=List.mem_map.mp hx
  exact Nat.le_trans (nT_len (hn.2 n hn').1 (hn.2 n hn').2) (by decide)
section
variable {P:Program} {w:World} {K:PySem.W.Frag} {mg:Str -> Option Value} {base:Heap} {t:Adr}
theorem scWl:FnScope ["word","numbers"] ["word","numbers"] (defScope s_Jb):=⟨rfl,rfl,rfl,by decide +kernel,rfl,by decide +kernel,by decide +kernel⟩
theorem ok_Jb (T:Txt K mg t):FnOk P w K mg base CX0 1 t.f_Jb t.d_Jb ["word","numbers"] (sp_wl K):=by
 refine T.F_Jb.ok scWl (fun vs H Q E h => ?_) (fun cdv A outer s H vs Q E hr h => ?_)
 ·obtain ⟨_,_,_,_,_,rfl,_⟩:=h
  rfl
 ·obtain ⟨y,a,b,ns,L,rfl,hH,ha,hy,hns,q⟩:=h
  have sq:∀ {H':Hp} {X:Kn},Has H' (X ++ L) -> SqB b K H' a (ns.map V.int):=fun h => by
   rcases ha with ⟨rfl,m⟩ | ⟨rfl,m⟩
   ·exact SqL.of (h.at_ _ (List.mem_append_right _ m))
   ·exact SqT.of (h.at_ _ (List.mem_append_right _ m))
  refine ⟨_,(pss_one (ps_ret (pe_bm PySem.F.plainAttrs_str PySem.F.slot_str_join PySem.F.type_str_join mt_join pe_str (pa_cons (pe_op op_addL (pe_lst (pa_cons (pv 0) pa_nil)) (pe_lc (esc:=defScope s_Jb) (k:=1) ["number","word","numbers"] rfl (pi_seq (pv 1)) (fun _ _ _ _ _ => by exact (pg_name (i:=0) (show List.Nodup (["number","word","numbers"]:List Str) from by decide +kernel) rfl (Or.inl rfl))) (fun _ _ _ _ _ => by exact pts_nil) (fun _ _ _ _ _ => by exact (pe_callTy call_str_int (by rfl) T.z_str (by rfl) (pa_cons (pv 0) pa_nil))) rfl (by decide +kernel) (by decide +kernel) rfl (by decide +kernel) (by rfl) (fun _ _ h _ => h) (by decide +kernel))) pa_nil)))),?_⟩
  refine ⟨rfl,_,rfl,sz (show 1 <= 1000000 by decide),fun l1 hl1 => ?_⟩
  have h1:=hH.alloc hl1 (.lst [.str y])
  refine ⟨_,rfl,a,b,rfl,⟨_,sq (X:=[_]) h1⟩,fun D hD => ?_⟩
  refine ⟨fun n m zs H' => m = ns.length - n /\ n <= ns.length /\ zs = (ns.take n).map (fun x => V.str (nT x)) /\ Has H' ((D,.lst zs) :: (l1,.lst [.str y]) :: L),⟨_,rfl,Nat.zero_le _,rfl,h1.alloc hD _⟩,?_⟩
  rintro n m zs H2 ⟨rfl,hn,ez,h2⟩
  refine ⟨h2.get 0 rfl,?_⟩
  have g0:=sq (X:=[_,_]) h2
  have lz:zs.length <= 1000:=by rw [ez,List.length_map,List.length_take]; have:=hns.1; omega
  by_cases hlt:n < ns.length
  ·have hx0:(ns.map V.int)[n]? = some (.int ns[n]):=by rw [List.getElem?_map,List.getElem?_eq_getElem hlt]; rfl
   refine .inr ⟨ItB.go g0 hx0,?_⟩
   intro x H3 hy3
   obtain ⟨rfl,hx⟩:=ItB.yld hy3 g0
   rw [hx0] at hx
   cases hx
   have nb:=hns.2 ns[n] (List.getElem_mem hlt)
   refine ⟨rfl,tTrueT ?_⟩
   refine ⟨_,rfl,_,rfl,nT_log nb.1 nb.2,?_⟩
   refine ⟨sizeOk (by omega),h2.get 0 rfl,ns.length - (n + 1),by omega,rfl,hlt,?_,h2.puti 0 rfl _⟩
   rw [ez,List.take_succ,List.getElem?_eq_getElem hlt,List.map_append]
   rfl
  ·refine .inl ⟨ItB.stop g0 (by rw [List.length_map]; omega),?_⟩
   have en:n = ns.length:=by omega
   rw [en,List.take_length] at ez
   refine ⟨l1,D,_,_,rfl,rfl,SqL.of (h2.get 1 rfl),SqL.of (h2.get 0 rfl),Nat.le_trans (show [V.str y].length + zs.length <= 1001 by simp; omega) (sz (show 1001 <= 1000000 by decide)),fun l hl => ?_⟩
   have h3:=h2.alloc hl (.lst ([.str y] ++ zs))
   have e3:[V.str y] ++ zs = (y :: ns.map nT).map V.str:=by rw [ez]; simp
   rw [e3] at h3 ⊢
   refine ⟨_,l,y :: ns.map nT,rfl,rfl,SqL.of (h3.get 0 rfl),joinOk (M:=100) (fun x hx => ?_) ?_,q _ h3.tail.tail.tail⟩
   ·rcases List.mem_cons.mp hx with rfl | hx
    ·exact hy
    ·obtain ⟨n,hn,rfl⟩:=List.mem_map.mp hx
     exact Nat.le_trans (nT_len (hns.2 n hn).1 (hns.2 n hn).2) (by decide)
   ·have:=hns.1
    rw [List.length_cons,List.length_map,show (Str.ofString " ").length = 1 from rfl]
    exact Nat.le_trans (show (ns.length + 1) * (100 + 1) <= 1000000 by omega) (sz (Nat.le_refl _))
end
end P
set_option Elab.async false
set_option linter.all false
set_option maxRecDepth 100000
set_option maxHeartbeats 4000000
namespace P
open PySem L2
def sp_lift (C:Addr):Sp:=fun vs H Q _ => ∃ (A:YA) (y:YR) (L:Kn) (n:Int) (k:Kd),vs = [.ref A.p,.int n] /\ Has H (yL C A y ++ L) /\ valV y.kinds (Sum.inl n) = some (.str k.str) /\ (∀ e:Int,0 <= e -> e < k.many -> valV y.mates (kE n e) = none) /\ (y.eng = .non ∨ ∃ (b:Addr) (n1 e1:Int),y.eng = .ref b /\ (b,HO.tup [.int n1,.int e1]) ∈ L /\ n1 ≠ n) /\
 ∀ H' q,Has H' (yL C { A with tr:=q } { y with kinds:=dropK y.kinds (Sum.inl n),notes:=dropK y.notes (Sum.inl n),rods:=dropK y.rods (Sum.inl n),trail:=[] } ++ L) -> Q .non H'
theorem fl_m6 (A:YA) (next:Int) (eng:V):(fl A next eng).lookup ("lift" : Str) = none:=by kernel_rfl
theorem dropK_none {κ:Type} [DecidableEq κ] {kvs:List (κ × V)} {k:κ} (h:valV kvs k = none):dropK kvs k = kvs:=by
 induction kvs with
 | nil => rfl
 | cons p r ih =>
  by_cases e:p.1 = k
  ·rw [valV_pos e] at h; cases h
  ·rw [valV_neg e] at h
   rw [dropK_neg e,ih h]
section
variable {P:Program} {w:World} {K:PySem.W.Frag} {mg:Str -> Option Value} {base:Heap} {t:Adr}
theorem scLf:FnScope ["self","piece","end"] ["self","piece"] (defScope s_Jn):=⟨rfl,rfl,rfl,by decide +kernel,rfl,by decide +kernel,by decide +kernel⟩
theorem ok_Jn (T:Txt K mg t):FnOk P w K mg base CX0 2 t.f_Jn t.d_Jn ["self","piece"] (sp_lift t.c_Yard):=by
 refine T.F_Jn.ok scLf (fun vs H Q E h => ?_) (fun cdv A outer s H vs Q E hr h => ?_)
 ·obtain ⟨_,_,_,_,_,rfl,_⟩:=h
  rfl
 ·obtain ⟨A,y,L,n,k,rfl,hH,hk,hm,en,q⟩:=h
  have hu:=hu_of hr
  refine ⟨_,(pss_cons (ps_expr (pe_meth (pv 0) T.cl_Yard T.M_J0 (ok_J0 T) (hr.mono (by decide)) (b_J0 T) .nil pass0 (pa_cons (pv 1) pa_nil)))
   (pss_cons (ps_for PassesOwn.never rfl (pi_range1 (by rfl) T.z_range (pa_cons (pe_call (ok_J11 T) (hr.mono (by decide)) (by rfl) T.m_J11 T.F_J11.kp (b_J11 T) .nil pass0 (pa_cons (pe_dget hu (pe_fld (pv 0) rfl) (pv 1) (fun _ _ => rfl)) pa_nil)) pa_nil)) (pg_name (i:=2) scLf.nd rfl (Or.inl rfl))
    (pss_one (ps_if (pt_cmp (pc_din hu (pe_tup (pa_cons (pv 1) (pa_cons (pv 2) pa_nil))) (pe_fld (pv 0) rfl)))
      (pss_one ps_never)
      pss_nil)))
   (pss_cons (ps_if (PW.pt (pw_and (pt_cmpR op_notN (pe_fld (pv 0) rfl) pe_non (nomark _)) (pw_and1 (pt_cmpR op_eq (pe_ix ix_tup (pe_fld (pv 0) rfl) pe_int (fun _ _ => rfl)) (pv 1) (nomark _)))))
    (pss_one ps_never)
    pss_nil)
   (pss_cons (ps_ddel (pe_fld (pv 0) rfl) (pv 1))
   (pss_cons (ps_expr (pe_dpop2 (pe_fld (pv 0) rfl) (pv 1) pe_non ⟨rfl,rfl,rfl,rfl⟩))
   (pss_cons (ps_expr (pe_dpop2 (pe_fld (pv 0) rfl) (pv 1) pe_non ⟨rfl,rfl,rfl,rfl⟩))
   (pss_one (ps_expr (pe_meth0 (pv 0) T.cl_Yard T.M_J2 (ok_J2 T) (hr.mono (by decide)) (b_J2 T) .nil pass0))))))))),?_⟩
  refine ⟨_,rfl,A.p,A.dx,_,rfl,hH.get 1 rfl,(fl_m _ _ _).2.2.2.2.2.2.2.1,_,rfl,A,y,L,n,_,rfl,hH,hk,?_⟩
  have km:1 <= k.many /\ k.many <= 3:=by cases k <;> decide
  refine ⟨_,rfl,A.p,_,A.dx,_,_,rfl,hH.get 1 rfl,T.cl_Yard,T.n_Yard_kinds,fl_kinds _ _ _,_,rfl,A.k,_,rfl,(by rw [<- hk]; exact DGet.k (k:=Sum.inl n) (hH.get 3 rfl)),k,rfl,k.many,rfl,by omega,by omega,for_range (fun i σ H' => ∃ o1:Option V,σ = [some (.ref A.p),some (.int n),o1] /\ Has H' (yL t.c_Yard A y ++ L)) ⟨_,rfl,hH⟩ ?_ ?_⟩
  ·rintro i σ H1 hi ⟨o1,rfl,h1⟩
   refine ⟨_,rfl,_,rfl,(show 2 <= sizeLine by decide),fun b hb => ?_⟩
   have h2:=h1.alloc hb (.tup [.int n,.int (0 + (i:Int))])
   refine ⟨_,rfl,A.p,_,A.dx,_,_,rfl,h2.get 2 rfl,T.cl_Yard,T.n_Yard_mates,fl_mates _ _ _,A.m,_,rfl,DGet.t (k:=kE n (0 + (i:Int))) (h2.get 8 rfl) (h2.get 0 rfl),_,rfl,ifF (by rw [hm _ (by omega) (by omega)]; rfl) ?_⟩
   exact ⟨_,rfl,h2.tail⟩
  ·rintro σ H1 ⟨o1,rfl,h1⟩
   rcases en with en | ⟨eb,n1,e1,en,eL,ne⟩
   ·refine ⟨_,rfl,A.p,_,A.dx,_,_,rfl,h1.get 1 rfl,T.cl_Yard,T.n_J7_end,fl_eng _ _ _,rfl,_,rfl,ifF (by rw [en]; rfl) (iteF ?_)⟩
    refine ⟨_,rfl,A.p,_,A.dx,_,_,rfl,h1.get 1 rfl,T.cl_Yard,T.n_Yard_kinds,fl_kinds _ _ _,_,rfl,A.k,_,Sum.inl n,rfl,h1.get 3 rfl,rfl,by rw [hk]; rfl,?_⟩
    have h2:Has _ (yL t.c_Yard A { y with kinds:=dropK y.kinds (Sum.inl n) } ++ L):=h1.puti 3 rfl (.dK (dropK y.kinds (Sum.inl n)))
    generalize upd H1 A.k _ = H2 at h2 ⊢
    refine ⟨_,rfl,A.p,_,A.dx,_,_,rfl,h2.get 1 rfl,T.cl_Yard,T.n_Yard_notes,fl_notes _ _ _,A.n,rfl,.inl ⟨_,.inl (h2.get 4 rfl)⟩,_,rfl,_,Sum.inl n,h2.get 4 rfl,rfl,fun v hv => ?_,fun hv => ?_⟩
    ·have h3:Has _ (yL t.c_Yard A { y with kinds:=dropK y.kinds (Sum.inl n),notes:=dropK y.notes (Sum.inl n) } ++ L):=h2.puti 4 rfl (.dK (dropK y.notes (Sum.inl n)))
     refine ⟨_,rfl,A.p,_,A.dx,_,_,rfl,h3.get 1 rfl,T.cl_Yard,T.n_Js_under,fl_rods _ _ _,A.r,rfl,.inl ⟨_,.inl (h3.get 5 rfl)⟩,_,rfl,_,Sum.inl n,h3.get 5 rfl,rfl,fun v hv => ?_,fun hv => ?_⟩
     ·have h4:Has _ (yL t.c_Yard A { y with kinds:=dropK y.kinds (Sum.inl n),notes:=dropK y.notes (Sum.inl n),rods:=dropK y.rods (Sum.inl n) } ++ L):=h3.puti 5 rfl (.dK (dropK y.rods (Sum.inl n)))
      exact ⟨_,rfl,A.p,A.dx,_,rfl,h4.get 1 rfl,(fl_m _ _ _).2.2.2.2.2.2.1,A,_,L,rfl,h4,fun H' a h5 => q H' a h5⟩
     ·have h4':∀ H,Has H (yL t.c_Yard A { y with kinds:=dropK y.kinds (Sum.inl n),notes:=dropK y.notes (Sum.inl n) } ++ L) -> Has H (yL t.c_Yard A { y with kinds:=dropK y.kinds (Sum.inl n),notes:=dropK y.notes (Sum.inl n),rods:=dropK y.rods (Sum.inl n) } ++ L):=fun H h => by rw [dropK_none (kvs:=y.rods) hv]; exact h
      have h4:=h4' _ h3
      exact ⟨_,rfl,A.p,A.dx,_,rfl,h4.get 1 rfl,(fl_m _ _ _).2.2.2.2.2.2.1,A,_,L,rfl,h4,fun H' a h5 => q H' a h5⟩
    ·have h3:Has H2 (yL t.c_Yard A { y with kinds:=dropK y.kinds (Sum.inl n),notes:=dropK y.notes (Sum.inl n) } ++ L):=by rw [dropK_none (kvs:=y.notes) hv]; exact h2
     refine ⟨_,rfl,A.p,_,A.dx,_,_,rfl,h3.get 1 rfl,T.cl_Yard,T.n_Js_under,fl_rods _ _ _,A.r,rfl,.inl ⟨_,.inl (h3.get 5 rfl)⟩,_,rfl,_,Sum.inl n,h3.get 5 rfl,rfl,fun v hv => ?_,fun hv => ?_⟩
     ·have h4:Has _ (yL t.c_Yard A { y with kinds:=dropK y.kinds (Sum.inl n),notes:=dropK y.notes (Sum.inl n),rods:=dropK y.rods (Sum.inl n) } ++ L):=h3.puti 5 rfl (.dK (dropK y.rods (Sum.inl n)))
      exact ⟨_,rfl,A.p,A.dx,_,rfl,h4.get 1 rfl,(fl_m _ _ _).2.2.2.2.2.2.1,A,_,L,rfl,h4,fun H' a h5 => q H' a h5⟩
     ·have h4':∀ H,Has H (yL t.c_Yard A { y with kinds:=dropK y.kinds (Sum.inl n),notes:=dropK y.notes (Sum.inl n) } ++ L) -> Has H (yL t.c_Yard A { y with kinds:=dropK y.kinds (Sum.inl n),notes:=dropK y.notes (Sum.inl n),rods:=dropK y.rods (Sum.inl n) } ++ L):=fun H h => by rw [dropK_none (kvs:=y.rods) hv]; exact h
      have h4:=h4' _ h3
      exact ⟨_,rfl,A.p,A.dx,_,rfl,h4.get 1 rfl,(fl_m _ _ _).2.2.2.2.2.2.1,A,_,L,rfl,h4,fun H' a h5 => q H' a h5⟩
   ·refine ⟨_,rfl,A.p,_,A.dx,_,_,rfl,h1.get 1 rfl,T.cl_Yard,T.n_J7_end,fl_eng _ _ _,rfl,_,rfl,ifT (by rw [en]; rfl) ?_⟩
    have gb:H1 eb = some (.tup [.int n1,.int e1]):=h1.at_ _ (List.mem_append_right _ eL)
    refine ⟨_,rfl,A.p,_,A.dx,_,_,rfl,h1.get 1 rfl,T.cl_Yard,T.n_J7_end,fl_eng _ _ _,eb,_,_,_,en,rfl,SqT.of gb,rfl,_,rfl,rfl,_,rfl,ifF (decide_eq_false (fun e => ne (by injection e))) ?_⟩
    refine ⟨_,rfl,A.p,_,A.dx,_,_,rfl,h1.get 1 rfl,T.cl_Yard,T.n_Yard_kinds,fl_kinds _ _ _,_,rfl,A.k,_,Sum.inl n,rfl,h1.get 3 rfl,rfl,by rw [hk]; rfl,?_⟩
    have h2:Has _ (yL t.c_Yard A { y with kinds:=dropK y.kinds (Sum.inl n) } ++ L):=h1.puti 3 rfl (.dK (dropK y.kinds (Sum.inl n)))
    generalize upd H1 A.k _ = H2 at h2 ⊢
    refine ⟨_,rfl,A.p,_,A.dx,_,_,rfl,h2.get 1 rfl,T.cl_Yard,T.n_Yard_notes,fl_notes _ _ _,A.n,rfl,.inl ⟨_,.inl (h2.get 4 rfl)⟩,_,rfl,_,Sum.inl n,h2.get 4 rfl,rfl,fun v hv => ?_,fun hv => ?_⟩
    ·have h3:Has _ (yL t.c_Yard A { y with kinds:=dropK y.kinds (Sum.inl n),notes:=dropK y.notes (Sum.inl n) } ++ L):=h2.puti 4 rfl (.dK (dropK y.notes (Sum.inl n)))
     refine ⟨_,rfl,A.p,_,A.dx,_,_,rfl,h3.get 1 rfl,T.cl_Yard,T.n_Js_under,fl_rods _ _ _,A.r,rfl,.inl ⟨_,.inl (h3.get 5 rfl)⟩,_,rfl,_,Sum.inl n,h3.get 5 rfl,rfl,fun v hv => ?_,fun hv => ?_⟩
     ·have h4:Has _ (yL t.c_Yard A { y with kinds:=dropK y.kinds (Sum.inl n),notes:=dropK y.notes (Sum.inl n),rods:=dropK y.rods (Sum.inl n) } ++ L):=h3.puti 5 rfl (.dK (dropK y.rods (Sum.inl n)))
      exact ⟨_,rfl,A.p,A.dx,_,rfl,h4.get 1 rfl,(fl_m _ _ _).2.2.2.2.2.2.1,A,_,L,rfl,h4,fun H' a h5 => q H' a h5⟩
     ·have h4':∀ H,Has H (yL t.c_Yard A { y with kinds:=dropK y.kinds (Sum.inl n),notes:=dropK y.notes (Sum.inl n) } ++ L) -> Has H (yL t.c_Yard A { y with kinds:=dropK y.kinds (Sum.inl n),notes:=dropK y.notes (Sum.inl n),rods:=dropK y.rods (Sum.inl n) } ++ L):=fun H h => by rw [dropK_none (kvs:=y.rods) hv]; exact h
      have h4:=h4' _ h3
      exact ⟨_,rfl,A.p,A.dx,_,rfl,h4.get 1 rfl,(fl_m _ _ _).2.2.2.2.2.2.1,A,_,L,rfl,h4,fun H' a h5 => q H' a h5⟩
    ·have h3:Has H2 (yL t.c_Yard A { y with kinds:=dropK y.kinds (Sum.inl n),notes:=dropK y.notes (Sum.inl n) } ++ L):=by rw [dropK_none (kvs:=y.notes) hv]; exact h2
     refine ⟨_,rfl,A.p,_,A.dx,_,_,rfl,h3.get 1 rfl,T.cl_Yard,T.n_Js_under,fl_rods _ _ _,A.r,rfl,.inl ⟨_,.inl (h3.get 5 rfl)⟩,_,rfl,_,Sum.inl n,h3.get 5 rfl,rfl,fun v hv => ?_,fun hv => ?_⟩
     ·have h4:Has _ (yL t.c_Yard A { y with kinds:=dropK y.kinds (Sum.inl n),notes:=dropK y.notes (Sum.inl n),rods:=dropK y.rods (Sum.inl n) } ++ L):=h3.puti 5 rfl (.dK (dropK y.rods (Sum.inl n)))
      exact ⟨_,rfl,A.p,A.dx,_,rfl,h4.get 1 rfl,(fl_m _ _ _).2.2.2.2.2.2.1,A,_,L,rfl,h4,fun H' a h5 => q H' a h5⟩
     ·have h4':∀ H,Has H (yL t.c_Yard A { y with kinds:=dropK y.kinds (Sum.inl n),notes:=dropK y.notes (Sum.inl n) } ++ L) -> Has H (yL t.c_Yard A { y with kinds:=dropK y.kinds (Sum.inl n),notes:=dropK y.notes (Sum.inl n),rods:=dropK y.rods (Sum.inl n) } ++ L):=fun H h => by rw [dropK_none (kvs:=y.rods) hv]; exact h
      have h4:=h4' _ h3
      exact ⟨_,rfl,A.p,A.dx,_,rfl,h4.get 1 rfl,(fl_m _ _ _).2.2.2.2.2.2.1,A,_,L,rfl,h4,fun H' a h5 => q H' a h5⟩
end
def NT (z:Addr × HO):Prop:=∀ ps,z.2 ≠ .tbl ps
theorem has_mid {H:Hp} {Z X Y R:Kn} (h:Has H (Z ++ (X ++ (Y ++ R)))):Has H (Z ++ (Y ++ (X ++ R))):=h.perm (List.Perm.append_left Z (by rw [<- List.append_assoc,<- List.append_assoc]; exact List.perm_append_comm.append_right R))
def Stb (K:PySem.W.Frag) (M:Kn) (d:PyData) (v:V):Prop:=∀ H:Hp,(∀ z ∈ M,NT z -> H z.1 = some z.2) -> DV K H d v
def Stbs (K:PySem.W.Frag) (M:Kn) (ds:List PyData) (vs:List V):Prop:=∀ H:Hp,(∀ z ∈ M,NT z -> H z.1 = some z.2) -> DVs K H ds vs
theorem DVs.app {K:PySem.W.Frag} {H:Hp}:∀ {ds:List PyData} {vs:List V} {d:PyData} {v:V},DVs K H ds vs -> DV K H d v -> DVs K H (ds ++ [d]) (vs ++ [v])
 | [],vs,d,v,h,h2 => by
  have e:vs = []:=by unfold DVs at h; exact h
  subst e
  show DVs K H [d] [v]
  unfold DVs
  exact ⟨v,[],rfl,h2,by unfold DVs; rfl⟩
 | d0 :: ds,vs,d,v,h,h2 => by
  unfold DVs at h
  obtain ⟨v0,r,rfl,h3,h4⟩:=h
  show DVs K H (d0 :: (ds ++ [d])) (v0 :: (r ++ [v]))
  unfold DVs
  exact ⟨v0,_,rfl,h3,DVs.app h4 h2⟩
theorem Stbs.snoc {K:PySem.W.Frag} {M:Kn} {ds:List PyData} {vs:List V} {d:PyData} {v:V} (h:Stbs K M ds vs) (h2:Stb K M d v):Stbs K M (ds ++ [d]) (vs ++ [v]):=fun H hM => DVs.app (h H hM) (h2 H hM)
theorem Stbs.nil {K:PySem.W.Frag} {M:Kn}:Stbs K M [] []:=fun H _ => by unfold DVs; rfl
theorem Stb.mono {K:PySem.W.Frag} {M M':Kn} {d:PyData} {v:V} (h:Stb K M d v) (s:∀ z ∈ M,NT z -> z ∈ M'):Stb K M' d v:=fun H hM => h H fun z hz nt => hM z (s z hz nt) nt
theorem Stbs.mono {K:PySem.W.Frag} {M M':Kn} {ds:List PyData} {vs:List V} (h:Stbs K M ds vs) (s:∀ z ∈ M,NT z -> z ∈ M'):Stbs K M' ds vs:=fun H hM => h H fun z hz nt => hM z (s z hz nt) nt
theorem Stb.int {K:PySem.W.Frag} {M:Kn} (i:Int):Stb K M (.int i) (.int i):=fun H _ => by unfold DV; rfl
theorem Stb.str {K:PySem.W.Frag} {M:Kn} (x:Str):Stb K M (.str x) (.str x):=fun H _ => by unfold DV; rfl
theorem Stb.lst {K:PySem.W.Frag} {M:Kn} {l:Addr} {vs:List V} {ds:List PyData} (m:(l,HO.lst vs) ∈ M) (h:Stbs K M ds vs):Stb K M (.list ds) (.ref l):=fun H hM => by
 unfold DV
 exact ⟨l,vs,rfl,SqL.of (hM _ m (fun _ e => nomatch e)),h H hM⟩
theorem Stbs.ints {K:PySem.W.Frag} {M:Kn} (ns:List Int):Stbs K M (ns.map PyData.int) (ns.map V.int):=fun H _ => DVs.map _ _ _ fun x _ => by unfold DV; rfl
def endD:Option En -> PyData
 | none => .none
 | some z => .tuple [.int z.2.1,.int z.2.2]
theorem Stb.en {K:PySem.W.Frag} {M:Kn} {u:Option En} (h:∀ z,u = some z -> (z.1,HO.tup [.int z.2.1,.int z.2.2]) ∈ M):Stb K M (endD u) (enV u):=fun H hM => by
 cases u with
 | none => show DV K H .none .non; unfold DV; rfl
 | some z =>
  show DV K H (.tuple [.int z.2.1,.int z.2.2]) (.ref z.1)
  unfold DV
  refine ⟨z.1,_,rfl,SqT.of (hM _ (h z rfl) (fun _ e => nomatch e)),?_⟩
  exact DVs.map PyData.int V.int [z.2.1,z.2.2] fun x _ => by unfold DV; rfl
def pieceD (w:Wd) (p:Int × Kd):List PyData:=[.str p.2.str] ++ (if p.2 = .bell then [.int (w.nf p.1)] else []) ++ (if p.2.point = true then [.int (w.rf p.1)] else []) ++ (List.range p.2.many.toNat).map fun e:Nat => endD (w.mf p.1 e)
def look0 (s:Sd) (KS:List (Int × Kd)):List PyData:=[.list ((KS.map (·.1)).map .int),.list (((List.range s.ss.length).map fun i:Nat => (i:Int)).map .int),endD s.at_,.list (s.rg.map .int)]
def lookD (w:Wd) (s:Sd) (KS:List (Int × Kd)):PyData:=.list (look0 s KS ++ KS.flatMap (pieceD w) ++ s.ss.map .int)
theorem endD_lay (u:Option En):(endD u).canLay0 = true /\ (endD u).depth <= 2:=by cases u <;> simp [endD,PyData.canLay0,PyData.canLayAll0,PyData.depth,PyData.depthAll]
theorem Kd.strOk (k:Kd):PyData.strOk k.str = true:=by cases k <;> decide +kernel
theorem canLayAll_of:∀ (l:List PyData),(∀ x ∈ l,x.canLay0 = true) -> PyData.canLayAll0 l = true
 | [],_ => rfl
 | x :: l,h => by rw [PyData.canLayAll0,h x List.mem_cons_self,canLayAll_of l fun y hy => h y (List.mem_cons_of_mem _ hy)]; rfl
theorem depthAll_of (n:Nat):∀ (l:List PyData),(∀ x ∈ l,x.depth <= n) -> PyData.depthAll l <= n
 | [],_ => Nat.zero_le _
 | x :: l,h => by
  rw [PyData.depthAll]
  exact Nat.max_le.mpr ⟨h x List.mem_cons_self,depthAll_of n l fun y hy => h y (List.mem_cons_of_mem _ hy)⟩
theorem intsLay (ns:List Int):(PyData.list (ns.map .int)).canLay0 = true /\ (PyData.list (ns.map .int)).depth <= 2:=by
 constructor
 ·rw [PyData.canLay0]; exact canLayAll_map _ _ fun x _ => by simp [PyData.canLay0]
 ·rw [PyData.depth]
  have:=depthAll_map PyData.int 1 ns (fun x _ => by simp [PyData.depth])
  omega
theorem pieceD_lay (w:Wd) (p:Int × Kd):∀ x ∈ pieceD w p,x.canLay0 = true /\ x.depth <= 2:=by
 intro x hx
 unfold pieceD at hx
 rcases List.mem_append.mp hx with hx | hx
 ·rcases List.mem_append.mp hx with hx | hx
  ·rcases List.mem_append.mp hx with hx | hx
   ·rw [List.mem_singleton.mp hx]; exact ⟨by rw [PyData.canLay0]; exact p.2.strOk,by simp [PyData.depth]⟩
   ·split at hx
    ·rw [List.mem_singleton.mp hx]; simp [PyData.canLay0,PyData.depth]
    ·cases hx
  ·split at hx
   ·rw [List.mem_singleton.mp hx]; simp [PyData.canLay0,PyData.depth]
   ·cases hx
 ·obtain ⟨e,_,rfl⟩:=List.mem_map.mp hx
  exact endD_lay _
theorem look_lay (w:Wd) (s:Sd) (KS:List (Int × Kd)):(lookD w s KS).canLay0 = true /\ (lookD w s KS).depth <= 3:=by
 have h:∀ x ∈ look0 s KS ++ KS.flatMap (pieceD w) ++ s.ss.map .int,x.canLay0 = true /\ x.depth <= 2:=fun x hx => by
  rcases List.mem_append.mp hx with hx | hx
  ·rcases List.mem_append.mp hx with hx | hx
   ·unfold look0 at hx
    simp only [List.mem_cons,List.not_mem_nil,or_false] at hx
    rcases hx with rfl | rfl | rfl | rfl
    ·exact intsLay _
    ·exact intsLay _
    ·exact endD_lay _
    ·exact intsLay _
   ·obtain ⟨p,_,hp⟩:=List.mem_flatMap.mp hx
    exact pieceD_lay w p x hp
  ·obtain ⟨i,_,rfl⟩:=List.mem_map.mp hx
   simp [PyData.canLay0,PyData.depth]
 constructor
 ·unfold lookD; rw [PyData.canLay0]; exact canLayAll_of _ fun x hx => (h x hx).1
 ·unfold lookD; rw [PyData.depth]
  have:=depthAll_of 2 _ fun x hx => (h x hx).2
  omega
theorem look_sh (w:Wd) (s:Sd) (KS:List (Int × Kd)):SeqAt.shaped (lookD w s KS) = true:=shaped_of (look_lay w s KS).1 (by have:=(look_lay w s KS).2; omega)
def kmap (KS:List (Int × Kd)):List (Key × V):=KS.map fun p => ((Sum.inl p.1:Key),V.str p.2.str)
theorem kmap_keys (KS:List (Int × Kd)):(kmap KS).map (fun kv => kV kv.1) = (KS.map (·.1)).map V.int:=by
 unfold kmap; rw [List.map_map,List.map_map]; rfl
def sp_look (K:PySem.W.Frag) (C:Addr):Sp:=fun vs H Q _ => ∃ (A:YA) (y:YR) (L:Kn) (w:Wd) (s:Sd) (KS:List (Int × Kd)),vs = [.ref A.p] /\ Has H (yL C A y ++ L) /\ Rep w s y /\ Pool w s L /\ Small y /\ y.kinds = kmap KS /\ (∀ p ∈ KS,w.kf p.1 = some p.2) /\
 ∀ H' l N,Stb K (N ++ L) (lookD w s KS) (.ref l) -> Has H' (yL C A y ++ (N ++ L)) -> Q (.ref l) H'
def LkI (K:PySem.W.Frag) (C:Addr) (A:YA) (y:YR) (L:Kn) (rw:Addr) (N:Kn) (ds:List PyData) (c:Nat) (H:Hp):Prop:=∃ vs:List V,Stbs K (N ++ L) ds vs /\ vs.length <= c /\ Has H (yL C A y ++ ((rw,HO.lst vs) :: (N ++ L)))
theorem intsV_eq (n:Nat):intsV n = ((List.range n).map fun i:Nat => (i:Int)).map V.int:=by
 unfold intsV; rw [List.map_map]; rfl
section
variable {P:Program} {w:World} {K:PySem.W.Frag} {mg:Str -> Option Value} {base:Heap} {t:Adr}
theorem scLo:FnScope ["_law_yard","_law_row","_law_piece","_law_kind_here","_law_place","_law_rod"] ["_law_yard"] (defScope s_look):=⟨rfl,rfl,rfl,by decide +kernel,rfl,by decide +kernel,by decide +kernel⟩
theorem ok_look (T:Txt K mg t):FnOk P w K mg base CX0 6 t.f_look t.d_look ["_law_yard"] (sp_look K t.c_Yard):=by
 refine T.F_look.ok scLo (fun vs H Q E h => ?_) (fun cdv A outer s H vs Q E hr h => ?_)
 ·obtain ⟨_,_,_,_,_,_,rfl,_⟩:=h
  rfl
 ·obtain ⟨A,y,L,W,sd,KS,rfl,hH,R,PL,sm,ek,hK,q⟩:=h
  have tupIn:∀ {u:Option En} {N:Kn},(∀ z,u = some z -> ∃ j:Nat,L[j]? = some (z.1,HO.tup [.int z.2.1,.int z.2.2])) -> Stb K (N ++ L) (endD u) (enV u):=fun h => Stb.en fun z hz => by
   obtain ⟨j,hj⟩:=h z hz
   exact List.mem_append_right _ (List.mem_of_getElem? hj)
  have kl:KS.length <= 10000:=by have:=sm.k; rw [ek] at this; unfold kmap at this; rw [List.length_map] at this; exact this
  have sl:sd.ss.length <= 10000:=by have:=sm.s; rw [R.sd,List.length_map] at this; exact this
  refine ⟨_,(pss_cons (ps_set (i:=1) scLo.nd rfl (Or.inl rfl) (pe_lst (pa_cons (pe_meth0 (pv 0) T.cl_Yard T.M_J8 (ok_J8 T) (hr.mono (by decide)) (b_J8 T) .nil pass0) (pa_cons (pe_meth0 (pv 0) T.cl_Yard T.M_Js (ok_Js T) (hr.mono (by decide)) (b_Js T) .nil pass0) (pa_cons (pe_meth0 (pv 0) T.cl_Yard T.M_J7 (ok_J7 T) (hr.mono (by decide)) (b_J7 T) .nil pass0) (pa_cons (pe_meth0 (pv 0) T.cl_Yard T.M_Jj (ok_Jj T) (hr.mono (by decide)) (b_Jj T) .nil pass0) pa_nil))))))
   (pss_cons (ps_for PassesOwn.never rfl (pi_list (pe_meth0 (pv 0) T.cl_Yard T.M_J8 (ok_J8 T) (hr.mono (by decide)) (b_J8 T) .nil pass0)) (pg_name (i:=2) scLo.nd rfl (Or.inl rfl))
    (pss_cons (ps_set (i:=3) scLo.nd rfl (Or.inl rfl) (pe_meth (pv 0) T.cl_Yard T.M_Jp (ok_Jp T) (hr.mono (by decide)) (b_Jp T) .nil pass0 (pa_cons (pv 2) pa_nil)))
     (pss_cons (ps_expr (pe_bm PySem.F.plainAttrs_list PySem.F.slot_list_append PySem.F.type_list_append mt_append (pv 1) (pa_cons (pv 3) pa_nil)))
     (pss_cons (ps_cut (ps_if (pt_cmpR op_eq (pv 3) pe_str (nomark _))
      (pss_one (ps_expr (pe_bm PySem.F.plainAttrs_list PySem.F.slot_list_append PySem.F.type_list_append mt_append (pv 1) (pa_cons (pe_meth (pv 0) T.cl_Yard T.M_Jt (ok_Jt T) (hr.mono (by decide)) (b_Jt T) .nil pass0 (pa_cons (pv 2) pa_nil)) pa_nil))))
      pss_nil))
     (pss_cons (ps_cut (ps_if (pt_cmpR op_eq (pe_call (ok_many T) (hr.mono (by decide)) (by rfl) T.m_many T.F_many.kp (b_many T) .nil pass0 (pa_cons (pv 3) pa_nil)) pe_int (nomark _))
      (pss_one (ps_expr (pe_bm PySem.F.plainAttrs_list PySem.F.slot_list_append PySem.F.type_list_append mt_append (pv 1) (pa_cons (pe_meth (pv 0) T.cl_Yard T.M_Jz (ok_Jz T) (hr.mono (by decide)) (b_Jz T) .nil pass0 (pa_cons (pv 2) pa_nil)) pa_nil))))
      pss_nil))
     (pss_one (ps_for PassesOwn.never rfl (pi_range1 (by rfl) T.z_range (pa_cons (pe_call (ok_many T) (hr.mono (by decide)) (by rfl) T.m_many T.F_many.kp (b_many T) .nil pass0 (pa_cons (pv 3) pa_nil)) pa_nil)) (pg_name (i:=4) scLo.nd rfl (Or.inl rfl))
      (pss_one (ps_expr (pe_bm PySem.F.plainAttrs_list PySem.F.slot_list_append PySem.F.type_list_append mt_append (pv 1) (pa_cons (pe_meth (pv 0) T.cl_Yard T.M_Jq (ok_Jq T) (hr.mono (by decide)) (b_Jq T) .nil pass0 (@pa_cons _ _ _ _ _ (pe_tup (pa_cons (pv 2) (pa_cons (pv 4) pa_nil))) pa_nil (by rfl))) pa_nil)))))))))))
   (pss_cons (ps_for PassesOwn.never rfl (pi_list (pe_meth0 (pv 0) T.cl_Yard T.M_Js (ok_Js T) (hr.mono (by decide)) (b_Js T) .nil pass0)) (pg_name (i:=5) scLo.nd rfl (Or.inl rfl))
    (pss_one (ps_expr (pe_bm PySem.F.plainAttrs_list PySem.F.slot_list_append PySem.F.type_list_append mt_append (pv 1) (pa_cons (pe_meth (pv 0) T.cl_Yard T.M_Jr (ok_Jr T) (hr.mono (by decide)) (b_Jr T) .nil pass0 (pa_cons (pv 5) pa_nil)) pa_nil)))))
   (pss_one (ps_ret (pv 1)))))),?_⟩
  rw [show L2.start ["_law_yard","_law_row","_law_piece","_law_kind_here","_law_place","_law_rod"] [V.ref A.p] = ([some (V.ref A.p),none,none,none,none,none]:St) from rfl]
  refine ⟨_,rfl,A.p,A.dx,_,rfl,hH.get 1 rfl,(fl_m4 _ _ _).2.2.2.1,A,y,_,rfl,hH,fun H1 l1 h1 => ?_⟩
  replace h1:=Has.comm (X:=[_]) (Y:=yL t.c_Yard A y) (R:=L) h1
  refine ⟨_,rfl,A.p,A.dx,_,rfl,h1.get 1 rfl,(fl_m _ _ _).2.2.2.1,A,y,_,rfl,h1,sm,fun H2 l2 h2 => ?_⟩
  replace h2:=Has.comm (X:=[_]) (Y:=yL t.c_Yard A y) h2
  refine ⟨_,rfl,A.p,A.dx,_,rfl,h2.get 1 rfl,(fl_m4 _ _ _).2.2.2.2.2.2.1,A,y,_,rfl,h2,?_⟩
  refine ⟨_,rfl,A.p,A.dx,_,rfl,h2.get 1 rfl,(fl_m4 _ _ _).2.2.2.2.2.2.2.1,A,y,_,rfl,h2,fun H3 l3 h3 => ?_⟩
  replace h3:=Has.comm (X:=[_]) (Y:=yL t.c_Yard A y) h3
  refine ⟨sz (show 4 <= 1000000 by decide),fun rw_ hrw => ?_⟩
  have h4:=Has.comm (X:=[_]) (Y:=yL t.c_Yard A y) (h3.alloc hrw (.lst [.ref l1,.ref l2,y.eng,.ref l3]))
  generalize upd H3 rw_ _ = H4 at h4 ⊢
  clear h3 h2 h1 hH hrw
  dsimp only [List.set]
  have eI:intsV y.sides.length = ((List.range sd.ss.length).map fun i:Nat => (i:Int)).map V.int:=by rw [R.sd,List.length_map]; exact intsV_eq _
  have ekk:(y.kinds.map fun kv => kV kv.1) = (KS.map (·.1)).map V.int:=by rw [ek]; exact kmap_keys _
  rw [R.rg,eI,ekk,R.en] at h4
  obtain ⟨N0,eN0⟩:∃ N0:Kn,[(l3,HO.lst (sd.rg.map V.int)),(l2,HO.lst (((List.range sd.ss.length).map fun i:Nat => (i:Int)).map V.int)),(l1,HO.lst ((KS.map (·.1)).map V.int))] = N0:=⟨_,rfl⟩
  have L4:LkI K t.c_Yard A y L rw_ N0 (look0 sd KS) 4 H4:=by
   subst eN0
   refine ⟨[.ref l1,.ref l2,enV sd.at_,.ref l3],?_,Nat.le_refl 4,h4⟩
   have a1:=Stbs.nil.snoc (K:=K) (Stb.lst (l:=l1) (M:=[(l3,HO.lst (sd.rg.map V.int)),(l2,HO.lst (((List.range sd.ss.length).map fun i:Nat => (i:Int)).map V.int)),(l1,HO.lst ((KS.map (·.1)).map V.int))] ++ L) (by simp) (Stbs.ints (KS.map (·.1))))
   have a2:=a1.snoc (Stb.lst (l:=l2) (by simp) (Stbs.ints ((List.range sd.ss.length).map fun i:Nat => (i:Int))))
   have a3:=a2.snoc (tupIn (u:=sd.at_) PL.e)
   exact a3.snoc (Stb.lst (l:=l3) (by simp) (Stbs.ints sd.rg))
  clear h4 eN0
  obtain ⟨vs4,sv4,lv4,h4⟩:=L4
  refine ⟨_,rfl,A.p,A.dx,_,rfl,h4.get 1 rfl,(fl_m4 _ _ _).2.2.2.1,A,y,_,rfl,h4,fun H5 pl h5 => ?_⟩
  rw [ekk] at h5
  have h5':=hcast (has_mid (Z:=[]) (X:=[(pl,HO.lst ((KS.map (·.1)).map V.int))]) (Y:=yL t.c_Yard A y ++ [(rw_,HO.lst vs4)]) (R:=N0 ++ L) (hcast h5 (by simp))) (L':=yL t.c_Yard A y ++ ((rw_,HO.lst vs4) :: (((pl,HO.lst ((KS.map (·.1)).map V.int)) :: N0) ++ L))) (by simp)
  obtain ⟨N1,eN1⟩:∃ N1:Kn,(pl,HO.lst ((KS.map (·.1)).map V.int)) :: N0 = N1:=⟨_,rfl⟩
  rw [eN1] at h5'
  have mpl:(pl,HO.lst ((KS.map (·.1)).map V.int)) ∈ N1:=by rw [<- eN1]; exact List.mem_cons_self
  have L5:LkI K t.c_Yard A y L rw_ N1 (look0 sd KS) 4 H5:=⟨vs4,sv4.mono (fun z hz _ => by rw [<- eN1]; exact List.mem_cons_of_mem _ hz),lv4,h5'⟩
  clear h5 h5' h4 sv4 lv4 eN1
  have gpl:∀ {ds c H'},LkI K t.c_Yard A y L rw_ N1 ds c H' -> SqL K H' pl ((KS.map (·.1)).map V.int):=fun ⟨vs,_,_,h⟩ => SqL.of (h.at_ _ (List.mem_append_right _ (List.mem_cons_of_mem _ (List.mem_append_left _ mpl))))
  refine ⟨pl,rfl,⟨_,gpl L5⟩,for_list (xs:=(KS.map (·.1)).map V.int) (fun i σ H' => ∃ o1 o2 o3:Option V,σ = [some (.ref A.p),some (.ref rw_),o1,o2,o3,none] /\ LkI K t.c_Yard A y L rw_ N1 (look0 sd KS ++ (KS.take i).flatMap (pieceD W)) (4 + 6 * i) H') ⟨_,_,_,rfl,by simpa using L5⟩ (fun i σ H' _ ⟨_,_,_,_,h⟩ => gpl h) ?_ ?_⟩
  ·clear L5
   rintro i x σ H6 hx ⟨o1,o2,o3,rfl,L6⟩
   have hi:i < KS.length:=by have:=(List.getElem?_eq_some_iff.mp hx).1; simpa using this
   have ex:x = .int KS[i].1:=by
    rw [List.getElem?_map,List.getElem?_map,List.getElem?_eq_getElem hi] at hx
    exact (Option.some.inj hx).symm
   subst ex
   obtain ⟨p,ep⟩:∃ p,KS[i] = p:=⟨_,rfl⟩
   have mp:p ∈ KS:=by rw [<- ep]; exact List.getElem_mem hi
   have hk:=hK p mp
   have tk:KS.take (i + 1) = KS.take i ++ [p]:=by rw [List.take_succ,List.getElem?_eq_getElem hi,ep]; rfl
   rw [ep]
   obtain ⟨D0,eD0⟩:∃ D0,look0 sd KS ++ (KS.take i).flatMap (pieceD W) = D0:=⟨_,rfl⟩
   have eD1:look0 sd KS ++ (KS.take (i + 1)).flatMap (pieceD W) = D0 ++ pieceD W p:=by rw [tk,List.flatMap_append,<- List.append_assoc,eD0]; simp
   rw [eD0] at L6
   rw [eD1]
   clear eD1 eD0 tk ep hx
   obtain ⟨vs,sv,lv,h6⟩:=L6
   have km:1 <= p.2.many /\ p.2.many <= 3:=by cases p.2 <;> decide
   dsimp only [List.set]
   refine ⟨_,rfl,A.p,A.dx,_,rfl,h6.get 1 rfl,(fl_m4 _ _ _).2.2.2.2.1,_,rfl,A,y,_,p.1,_,rfl,h6,R.kd _ _ hk,?_⟩
   dsimp only [List.set]
   refine ⟨_,rfl,.inl ⟨rfl,_,SqL.of (h6.get 9 rfl)⟩,_,rfl,rw_,_,_,rfl,rfl,h6.get 9 rfl,sizeOk (by omega),?_⟩
   have h7:Has _ (yL t.c_Yard A y ++ ((rw_,HO.lst (vs ++ [.str p.2.str])) :: (N1 ++ L))):=h6.puti 9 rfl (.lst (vs ++ [.str p.2.str]))
   generalize upd H6 rw_ _ = H7 at h7 ⊢
   have L7:LkI K t.c_Yard A y L rw_ N1 (D0 ++ [.str p.2.str]) (4 + 6 * i + 1) H7:=⟨_,sv.snoc (Stb.str _),by rw [List.length_append,List.length_singleton]; omega,h7⟩
   clear h7 h6 sv lv
   refine ⟨fun σ' H' => σ' = [some (.ref A.p),some (.ref rw_),some (.int p.1),some (.str p.2.str),o3,none] /\ LkI K t.c_Yard A y L rw_ N1 (D0 ++ ([.str p.2.str] ++ (if p.2 = .bell then [.int (W.nf p.1)] else []))) (4 + 6 * i + 2) H',?_,?_⟩
   ·obtain ⟨vs,sv,lv,h7⟩:=L7
    refine ⟨_,rfl,rfl,_,rfl,?_⟩
    rw [p.2.isBell]
    refine ifd (fun c => ?_) (fun c => ?_)
    ·refine ⟨_,rfl,.inl ⟨rfl,_,SqL.of (h7.get 9 rfl)⟩,_,rfl,A.p,A.dx,_,rfl,h7.get 1 rfl,(fl_m4 _ _ _).2.2.2.2.2.1,_,rfl,A,y,_,p.1,_,_,rfl,h7,R.kd _ _ hk,(by rw [R.no _ _ hk,if_pos c]),rw_,_,_,rfl,rfl,h7.get 9 rfl,sizeOk (by omega),?_⟩
     refine ⟨rfl,_,?_,?_,h7.puti 9 rfl (.lst (vs ++ [.int (W.nf p.1)]))⟩
     ·rw [if_pos c,<- List.append_assoc]; exact sv.snoc (Stb.int _)
     ·rw [List.length_append,List.length_singleton]; omega
    ·refine ⟨rfl,vs,?_,by omega,h7⟩
     rw [if_neg c,List.append_nil]; exact sv
   clear L7
   rintro σ' H7 ⟨rfl,L7⟩
   obtain ⟨D1,eD1⟩:∃ D1:List PyData,[PyData.str p.2.str] ++ (if p.2 = .bell then [.int (W.nf p.1)] else []) = D1:=⟨_,rfl⟩
   rw [eD1] at L7
   refine ⟨fun σ' H' => σ' = [some (.ref A.p),some (.ref rw_),some (.int p.1),some (.str p.2.str),o3,none] /\ LkI K t.c_Yard A y L rw_ N1 (D0 ++ (D1 ++ (if p.2.point = true then [.int (W.rf p.1)] else []))) (4 + 6 * i + 3) H',?_,?_⟩
   ·obtain ⟨vs,sv,lv,h7⟩:=L7
    refine ⟨_,rfl,p.2,rfl,rfl,_,rfl,?_⟩
    rw [decInt,show decide (p.2.many = 3) = p.2.point by cases p.2 <;> rfl]
    refine if2 (fun c => ?_) (fun c => ?_)
    ·refine ⟨_,rfl,.inl ⟨rfl,_,SqL.of (h7.get 9 rfl)⟩,_,rfl,A.p,A.dx,_,rfl,h7.get 1 rfl,(fl_m _ _ _).2.2.2.2.1,_,rfl,A,y,_,p.1,_,_,rfl,h7,R.kd _ _ hk,(by rw [R.ro _ _ hk,if_pos c]),rw_,_,_,rfl,rfl,h7.get 9 rfl,sizeOk (by omega),?_⟩
     refine ⟨rfl,_,?_,?_,h7.puti 9 rfl (.lst (vs ++ [.int (W.rf p.1)]))⟩
     ·rw [if_pos c,<- List.append_assoc]; exact sv.snoc (Stb.int _)
     ·rw [List.length_append,List.length_singleton]; omega
    ·refine ⟨rfl,vs,?_,by omega,h7⟩
     rw [if_neg (by rw [c]; exact Bool.false_ne_true),List.append_nil]; exact sv
   clear L7
   rintro σ' H7 ⟨rfl,L7⟩
   obtain ⟨D2,eD2⟩:∃ D2:List PyData,D1 ++ (if p.2.point = true then [.int (W.rf p.1)] else []) = D2:=⟨_,rfl⟩
   rw [eD2] at L7
   have ePD:pieceD W p = D2 ++ (List.range p.2.many.toNat).map fun e:Nat => endD (W.mf p.1 e):=by unfold pieceD; rw [eD1,eD2]
   rw [ePD]
   refine ⟨_,rfl,p.2,rfl,p.2.many,rfl,by omega,by omega,for_range (fun e σ H' => ∃ o3:Option V,σ = [some (.ref A.p),some (.ref rw_),some (.int p.1),some (.str p.2.str),o3,none] /\ LkI K t.c_Yard A y L rw_ N1 (D0 ++ (D2 ++ (List.range e).map fun e:Nat => endD (W.mf p.1 e))) (4 + 6 * i + 3 + e) H') ⟨_,rfl,by simpa using L7⟩ ?_ ?_⟩
   ·clear L7
    rintro e σ H8 he ⟨o3,rfl,vs,sv,lv,h8⟩
    have he3:e < 3:=by omega
    dsimp only [List.set]
    rw [Int.zero_add]
    refine ⟨_,rfl,.inl ⟨rfl,_,SqL.of (h8.get 9 rfl)⟩,_,rfl,A.p,A.dx,_,rfl,h8.get 1 rfl,(fl_m2 _ _ _).2.1,_,rfl,_,rfl,(show 2 <= sizeLine by decide),fun b hb => ?_⟩
    have h9:=h8.alloc hb (.tup [.int p.1,.int (e:Int)])
    generalize upd H8 b _ = H9 at h9 ⊢
    refine ⟨A,y,_,b,p.1,(e:Int),0,rfl,Has.comm (X:=[_]) (Y:=yL t.c_Yard A y) h9,rfl,⟨p.2,R.kd _ _ hk,by omega,by omega⟩,?_⟩
    replace h9:=h9.tail
    rw [show (valV y.mates (kE p.1 (e:Int))).getD .non = enV (W.mf p.1 e) by rw [R.mt]; cases W.mf p.1 e <;> rfl]
    refine ⟨rw_,_,_,rfl,rfl,h9.get 9 rfl,sizeOk (by omega),?_⟩
    refine ⟨_,rfl,_,?_,?_,h9.puti 9 rfl (.lst (vs ++ [enV (W.mf p.1 e)]))⟩
    ·rw [List.range_succ,List.map_append,<- List.append_assoc,<- List.append_assoc]
     rw [<- List.append_assoc] at sv
     exact sv.snoc (tupIn (fun z hz => PL.m _ _ z hz))
    ·rw [List.length_append,List.length_singleton]; omega
   ·rintro σ H8 ⟨o3,rfl,vs,sv,lv,h8⟩
    exact ⟨_,_,_,rfl,vs,sv,by omega,h8⟩
  ·clear L5
   rintro σ H6 ⟨o1,o2,o3,rfl,L6⟩
   have e1:((KS.map (·.1)).map V.int).length = KS.length:=by simp
   rw [e1,List.take_length] at L6
   obtain ⟨vs,sv,lv,h6⟩:=L6
   refine ⟨_,rfl,A.p,A.dx,_,rfl,h6.get 1 rfl,(fl_m _ _ _).2.2.2.1,A,y,_,rfl,h6,sm,fun H7 rl h7 => ?_⟩
   rw [eI] at h7
   have h7':=hcast (has_mid (Z:=[]) (X:=[(rl,HO.lst (((List.range sd.ss.length).map fun i:Nat => (i:Int)).map V.int))]) (Y:=yL t.c_Yard A y ++ [(rw_,HO.lst vs)]) (R:=N1 ++ L) (hcast h7 (by simp))) (L':=yL t.c_Yard A y ++ ((rw_,HO.lst vs) :: (((rl,HO.lst (((List.range sd.ss.length).map fun i:Nat => (i:Int)).map V.int)) :: N1) ++ L))) (by simp)
   obtain ⟨N2,eN2⟩:∃ N2:Kn,(rl,HO.lst (((List.range sd.ss.length).map fun i:Nat => (i:Int)).map V.int)) :: N1 = N2:=⟨_,rfl⟩
   rw [eN2] at h7'
   have mrl:(rl,HO.lst (((List.range sd.ss.length).map fun i:Nat => (i:Int)).map V.int)) ∈ N2:=by rw [<- eN2]; exact List.mem_cons_self
   have L7:LkI K t.c_Yard A y L rw_ N2 (look0 sd KS ++ KS.flatMap (pieceD W)) (4 + 6 * KS.length) H7:=⟨vs,sv.mono (fun z hz _ => by rw [<- eN2]; exact List.mem_cons_of_mem _ hz),lv,h7'⟩
   clear h7 h7' h6 sv lv eN2
   have grl:∀ {ds c H'},LkI K t.c_Yard A y L rw_ N2 ds c H' -> SqL K H' rl (((List.range sd.ss.length).map fun i:Nat => (i:Int)).map V.int):=fun ⟨vs,_,_,h⟩ => SqL.of (h.at_ _ (List.mem_append_right _ (List.mem_cons_of_mem _ (List.mem_append_left _ mrl))))
   refine ⟨rl,rfl,⟨_,grl L7⟩,for_list (xs:=((List.range sd.ss.length).map fun i:Nat => (i:Int)).map V.int) (fun i σ H' => ∃ o0:Option V,σ = [some (.ref A.p),some (.ref rw_),o1,o2,o3,o0] /\ LkI K t.c_Yard A y L rw_ N2 (look0 sd KS ++ KS.flatMap (pieceD W) ++ (sd.ss.take i).map .int) (4 + 6 * KS.length + i) H') ⟨_,rfl,by simpa using L7⟩ (fun i σ H' _ ⟨_,_,h⟩ => grl h) ?_ ?_⟩
   ·clear L7
    rintro i x σ H8 hx ⟨o0,rfl,vs,sv,lv,h8⟩
    have hi:i < sd.ss.length:=by have:=(List.getElem?_eq_some_iff.mp hx).1; simpa using this
    have ex:x = .int (i:Int):=by
     rw [List.getElem?_map,List.getElem?_map,List.getElem?_eq_getElem (by simpa using hi)] at hx
     simpa using (Option.some.inj hx).symm
    subst ex
    dsimp only [List.set]
    refine ⟨_,rfl,.inl ⟨rfl,_,SqL.of (h8.get 9 rfl)⟩,_,rfl,A.p,A.dx,_,rfl,h8.get 1 rfl,(fl_m _ _ _).2.2.2.2.2.1,_,rfl,A,y,_,(i:Int),.int sd.ss[i],rfl,h8,by omega,(by rw [R.sd,Int.toNat_natCast,List.getElem?_map,List.getElem?_eq_getElem hi]; rfl),rw_,_,_,rfl,rfl,h8.get 9 rfl,sizeOk (by omega),?_⟩
    refine ⟨_,rfl,_,?_,?_,h8.puti 9 rfl (.lst (vs ++ [.int sd.ss[i]]))⟩
    ·rw [List.take_succ,List.getElem?_eq_getElem hi,List.map_append,<- List.append_assoc]
     exact sv.snoc (Stb.int _)
    ·rw [List.length_append,List.length_singleton]; omega
   ·clear L7
    rintro σ H8 ⟨o0,rfl,vs,sv,lv,h8⟩
    have e2:(((List.range sd.ss.length).map fun i:Nat => (i:Int)).map V.int).length = sd.ss.length:=by simp
    rw [e2,List.take_length] at sv
    refine ⟨_,rfl,q H8 rw_ ((rw_,HO.lst vs) :: N2) ?_ h8⟩
    exact Stb.lst (vs:=vs) List.mem_cons_self (sv.mono fun z hz _ => List.mem_cons_of_mem _ hz)
end
end P
set_option Elab.async false
set_option linter.all false
set_option maxRecDepth 100000
set_option maxHeartbeats 4000000
namespace P
open PySem L2
def lnkF (W:Wd) (n:Int) (e:Nat):List (List Int):=match W.mf n e with
 | some z => if HT.lexLt [n,(e:Int)] [z.2.1,z.2.2] = true then [[n,(e:Int),z.2.1,z.2.2]] else []
 | none => []
def pcN (W:Wd) (p:Int × Kd):List Int:=if p.2 = .bell then [p.1,W.nf p.1] else if p.2.point = true then [p.1,W.rf p.1] else [p.1]
def pcL (W:Wd) (p:Int × Kd):Str:=lnT p.2.str (pcN W p)
def lkP (W:Wd) (p:Int × Kd) (m:Nat):List Str:=(List.range m).flatMap fun e => (lnkF W p.1 e).map (lnT "link")
def lkL (W:Wd) (KS:List (Int × Kd)):List Str:=KS.flatMap fun p => lkP W p p.2.many.toNat
def rdL (s:Sd):List Str:=(List.range s.ss.length).map fun i:Nat => lnT "rod" [(i:Int),s.ss.getD i 0]
def enL (s:Sd):List Str:=match s.at_ with
 | some z => [lnT "engine" [z.2.1,z.2.2]]
 | none => []
def rgL (s:Sd):List Str:=if s.rg = [] then [] else [lnT "rung" s.rg]
def ytL (W:Wd) (s:Sd) (KS:List (Int × Kd)) (nx:Int):List Str:=lnT "next" [nx,(s.ss.length:Int)] :: (rdL s ++ (KS.map (pcL W) ++ (lkL W KS ++ (enL s ++ rgL s))))
def ytT (W:Wd) (s:Sd) (KS:List (Int × Kd)) (nx:Int):Str:=Txt.join "\n" (ytL W s KS nx)
structure YFit (W:Wd) (s:Sd) (KS:List (Int × Kd)) (nx:Int):Prop where
 nx:0 <= nx /\ nx < 10000
 k:∀ n k,W.kf n = some k -> 0 <= n /\ n < 10000
 n:∀ n k,W.kf n = some k -> k = .bell -> 0 <= W.nf n /\ W.nf n <= 9999
 ks:∀ p ∈ KS,W.kf p.1 = some p.2
 kl:KS.length <= 30
 sl:s.ss.length <= 30
 rl:s.rg.length <= 30
 rg:∀ x ∈ s.rg,0 <= x /\ x <= 9999
theorem nums1 {a:Int} (h:0 <= a /\ a < 100000):Nums [a]:=⟨show 1 <= 1000 by decide,fun n hn => by cases List.mem_singleton.mp hn; omega⟩
theorem nums2 {a b:Int} (h:0 <= a /\ a < 100000) (h2:0 <= b /\ b < 100000):Nums [a,b]:=⟨show 2 <= 1000 by decide,fun n hn => by
 simp only [List.mem_cons,List.not_mem_nil,or_false] at hn
 rcases hn with rfl | rfl <;> omega⟩
theorem nums4 {a b c d:Int} (h:0 <= a /\ a < 100000) (h2:0 <= b /\ b < 100000) (h3:0 <= c /\ c < 100000) (h4:0 <= d /\ d < 100000):Nums [a,b,c,d]:=⟨show 4 <= 1000 by decide,fun n hn => by
 simp only [List.mem_cons,List.not_mem_nil,or_false] at hn
 rcases hn with rfl | rfl | rfl | rfl <;> omega⟩
theorem Kd.strl (k:Kd):k.str.length <= 10:=by cases k <;> decide +kernel
theorem Kd.m3 (k:Kd):1 <= k.many /\ k.many <= 3:=by cases k <;> decide
theorem pc_nums {W:Wd} {s:Sd} {KS:List (Int × Kd)} {nx:Int} {y:YR} (f:YFit W s KS nx) (R:Rep W s y) {p:Int × Kd} (hp:W.kf p.1 = some p.2):Nums (pcN W p):=by
 have h1:=f.k _ _ hp
 unfold pcN
 split
 ·have:=f.n _ _ hp (by assumption)
  exact nums2 ⟨h1.1,by omega⟩ ⟨this.1,by omega⟩
 ·split
  ·have:=R.rr _ _ hp (by assumption)
   have:=f.sl
   exact nums2 ⟨h1.1,by omega⟩ ⟨by omega,by omega⟩
  ·exact nums1 ⟨h1.1,by omega⟩
theorem ok_nums {W:Wd} {s:Sd} {KS:List (Int × Kd)} {nx:Int} (f:YFit W s KS nx) {z:En} (h:W.ok z):(0 <= z.2.1 /\ z.2.1 < 100000) /\ (0 <= z.2.2 /\ z.2.2 < 100000):=by
 obtain ⟨k,h1,h2,h3⟩:=h
 have:=f.k _ _ h1
 have:=k.m3
 exact ⟨⟨by omega,by omega⟩,⟨h2,by omega⟩⟩
theorem lkP_len (W:Wd) (p:Int × Kd) (m:Nat):(lkP W p m).length <= m:=by
 unfold lkP
 induction m with
 | zero => simp
 | succ m ih =>
  rw [List.range_succ,List.flatMap_append,List.length_append]
  have:((lnkF W p.1 m).map (lnT "link")).length <= 1:=by
   rw [List.length_map]
   unfold lnkF
   split
   ·split <;> simp
   ·simp
  simp only [List.flatMap_cons,List.flatMap_nil,List.append_nil]
  omega
theorem lkL_len (W:Wd):∀ KS:List (Int × Kd),(lkL W KS).length <= KS.length * 3
 | [] => by simp [lkL]
 | p :: KS => by
  have h1:=lkL_len W KS
  have h2:=lkP_len W p p.2.many.toNat
  have h3:=p.2.m3
  unfold lkL at h1 ⊢
  rw [List.flatMap_cons,List.length_append,List.length_cons]
  omega
theorem lnT_short {x:Str} {ns:List Int} (hx:x.length <= 10) (hn:Nums ns) (hl:ns.length <= 30):(lnT x ns).length <= 400:=by
 have h1:∀ y ∈ x :: ns.map nT,y.length <= 10:=fun y hy => by
  rcases List.mem_cons.mp hy with rfl | hy
  ·exact hx
  ·obtain ⟨n,hn',rfl⟩:=List.mem_map.mp hy
   exact nT_len (hn.2 n hn').1 (hn.2 n hn').2
 refine Nat.le_trans (joinLen h1) ?_
 rw [List.length_cons,List.length_map,show (Str.ofString " ").length = 1 from rfl]
 omega
theorem rg_nums {W:Wd} {s:Sd} {KS:List (Int × Kd)} {nx:Int} (f:YFit W s KS nx):Nums s.rg:=⟨by have:=f.rl; omega,fun n hn => by have:=f.rg n hn; omega⟩
theorem yt_short {W:Wd} {s:Sd} {KS:List (Int × Kd)} {nx:Int} {y:YR} (f:YFit W s KS nx) (R:Rep W s y):∀ x ∈ ytL W s KS nx,x.length <= 400:=by
 intro x hx
 have sl:=f.sl
 unfold ytL at hx
 rcases List.mem_cons.mp hx with rfl | hx
 ·exact lnT_short (by decide +kernel) (nums2 ⟨f.nx.1,by have:=f.nx.2; omega⟩ ⟨by omega,by omega⟩) (show 2 <= 30 by decide)
 rcases List.mem_append.mp hx with hx | hx
 ·unfold rdL at hx
  obtain ⟨i,hi,rfl⟩:=List.mem_map.mp hx
  have hi:=List.mem_range.mp hi
  have gs:s.ss[i]? = some (s.ss.getD i 0):=by rw [List.getD_eq_getElem?_getD,List.getElem?_eq_getElem hi]; rfl
  have v12:=R.s12 _ (List.mem_of_getElem? gs)
  exact lnT_short (by decide +kernel) (nums2 ⟨by omega,by omega⟩ ⟨by omega,by omega⟩) (show 2 <= 30 by decide)
 rcases List.mem_append.mp hx with hx | hx
 ·obtain ⟨p,hp,rfl⟩:=List.mem_map.mp hx
  refine lnT_short p.2.strl (pc_nums f R (f.ks p hp)) ?_
  unfold pcN
  split
  ·show 2 <= 30; decide
  ·split
   ·show 2 <= 30; decide
   ·show 1 <= 30; decide
 rcases List.mem_append.mp hx with hx | hx
 ·obtain ⟨p,hp,hx⟩:=List.mem_flatMap.mp hx
  obtain ⟨e,he,hx⟩:=List.mem_flatMap.mp hx
  obtain ⟨ns,hns,rfl⟩:=List.mem_map.mp hx
  have he:=List.mem_range.mp he
  have h3:=p.2.m3
  have kn:=f.k _ _ (f.ks p hp)
  unfold lnkF at hns
  split at hns
  ·rename_i z hz
   split at hns
   ·cases List.mem_singleton.mp hns
    have oz:=ok_nums f (R.mo _ _ _ hz)
    exact lnT_short (by decide +kernel) (nums4 ⟨kn.1,by omega⟩ ⟨by omega,by omega⟩ oz.1 oz.2) (show 4 <= 30 by decide)
   ·cases hns
  ·cases hns
 rcases List.mem_append.mp hx with hx | hx
 ·unfold enL at hx
  split at hx
  ·rename_i z hz
   cases List.mem_singleton.mp hx
   have oz:=ok_nums f (R.eo _ hz)
   exact lnT_short (by decide +kernel) (nums2 oz.1 oz.2) (show 2 <= 30 by decide)
  ·cases hx
 ·unfold rgL at hx
  split at hx
  ·cases hx
  ·cases List.mem_singleton.mp hx
   exact lnT_short (by decide +kernel) (rg_nums f) f.rl
theorem yt_join {W:Wd} {s:Sd} {KS:List (Int × Kd)} {nx:Int} {y:YR} (f:YFit W s KS nx) (R:Rep W s y):JoinOk "\n" (ytL W s KS nx) = true:=by
 refine joinOk (M:=400) (yt_short f R) ?_
 have h1:=lkL_len W KS
 have h2:=f.kl
 have h3:=f.sl
 have h4:(enL s).length <= 1:=by unfold enL; split <;> simp
 have h5:(rgL s).length <= 1:=by unfold rgL; split <;> simp
 have h6:(rdL s).length = s.ss.length:=by unfold rdL; rw [List.length_map,List.length_range]
 unfold ytL
 rw [show (Str.ofString "\n").length = 1 from rfl,List.length_cons,List.length_append,List.length_append,List.length_append,List.length_append,List.length_map]
 refine sz ?_
 omega
def sp_pcl (C:Addr):Sp:=fun vs H Q _ => ∃ (A:YA) (y:YR) (L:Kn) (W:Wd) (s:Sd) (KS:List (Int × Kd)) (nx:Int) (p:Int × Kd),vs = [.ref A.p,.int p.1] /\ Has H (yL C A y ++ L) /\ Rep W s y /\ YFit W s KS nx /\ W.kf p.1 = some p.2 /\
 ∀ H',Has H' (yL C A y ++ L) -> Q (.str (pcL W p)) H'
def sp_lkl (C:Addr):Sp:=fun vs H Q _ => ∃ (A:YA) (y:YR) (L:Kn) (W:Wd) (s:Sd) (KS:List (Int × Kd)) (nx:Int),vs = [.ref A.p] /\ Has H (yL C A y ++ L) /\ Rep W s y /\ Pool W s L /\ YFit W s KS nx /\ y.kinds = kmap KS /\
 ∀ H' l,Has H' (yL C A y ++ ((l,.lst ((lkL W KS).map V.str)) :: L)) -> Q (.ref l) H'
def sp_wy (C:Addr):Sp:=fun vs H Q _ => ∃ (A:YA) (y:YR) (L:Kn) (W:Wd) (s:Sd) (KS:List (Int × Kd)),vs = [.ref A.p] /\ Has H (yL C A y ++ L) /\ Rep W s y /\ Pool W s L /\ Small y /\ YFit W s KS y.next /\ y.kinds = kmap KS /\
 ∀ H',Has H' (yL C A y ++ L) -> Q (.str (ytT W s KS y.next)) H'
section
variable {P:Program} {w:World} {K:PySem.W.Frag} {mg:Str -> Option Value} {base:Heap} {t:Adr}
theorem scPl:FnScope ["yard","piece","kind"] ["yard","piece"] (defScope s_Jd):=⟨rfl,rfl,rfl,by decide +kernel,rfl,by decide +kernel,by decide +kernel⟩
theorem ok_Jd (T:Txt K mg t):FnOk P w K mg base CX0 4 t.f_Jd t.d_Jd ["yard","piece"] (sp_pcl t.c_Yard):=by
 refine T.F_Jd.ok scPl (fun vs H Q E h => ?_) (fun cdv A outer s H vs Q E hr h => ?_)
 ·obtain ⟨_,_,_,_,_,_,_,_,rfl,_⟩:=h
  rfl
 ·obtain ⟨A,y,L,W,sd,KS,nx,p,rfl,hH,R,f,hp,q⟩:=h
  refine ⟨_,(pss_cons (ps_set (i:=2) scPl.nd rfl (Or.inl rfl) (pe_meth (pv 0) T.cl_Yard T.M_Jp (ok_Jp T) (hr.mono (by decide)) (b_Jp T) .nil pass0 (pa_cons (pv 1) pa_nil)))
   (pss_cons (ps_if (pt_cmpR op_eq (pv 2) pe_str (nomark _))
    (pss_one (ps_ret (pe_call (ok_Jb T) (hr.mono (by decide)) (by rfl) T.m_Jb T.F_Jb.kp (b_Jb T) .nil pass0 (@pa_cons _ _ _ _ _ (pv 2) (@pa_cons _ _ _ _ _ (pe_lst (pa_cons (pv 1) (pa_cons (pe_meth (pv 0) T.cl_Yard T.M_Jt (ok_Jt T) (hr.mono (by decide)) (b_Jt T) .nil pass0 (pa_cons (pv 1) pa_nil)) pa_nil))) pa_nil (by rfl)) (by rfl)))))
    pss_nil)
   (pss_cons (ps_if (pt_val (pe_call (ok_Jv T) (hr.mono (by decide)) (by rfl) T.m_Jv T.F_Jv.kp (b_Jv T) .nil pass0 (pa_cons (pv 2) pa_nil)))
    (pss_one (ps_ret (pe_call (ok_Jb T) (hr.mono (by decide)) (by rfl) T.m_Jb T.F_Jb.kp (b_Jb T) .nil pass0 (@pa_cons _ _ _ _ _ (pv 2) (@pa_cons _ _ _ _ _ (pe_lst (pa_cons (pv 1) (pa_cons (pe_meth (pv 0) T.cl_Yard T.M_Jz (ok_Jz T) (hr.mono (by decide)) (b_Jz T) .nil pass0 (pa_cons (pv 1) pa_nil)) pa_nil))) pa_nil (by rfl)) (by rfl)))))
    pss_nil)
   (pss_one (ps_ret (pe_call (ok_Jb T) (hr.mono (by decide)) (by rfl) T.m_Jb T.F_Jb.kp (b_Jb T) .nil pass0 (@pa_cons _ _ _ _ _ (pv 2) (@pa_cons _ _ _ _ _ (pe_lst (pa_cons (pv 1) pa_nil)) pa_nil (by rfl)) (by rfl)))))))),?_⟩
  refine ⟨_,rfl,A.p,A.dx,_,rfl,hH.get 1 rfl,(fl_m4 _ _ _).2.2.2.2.1,_,rfl,A,y,_,p.1,_,rfl,hH,R.kd _ _ hp,?_⟩
  refine ⟨_,rfl,rfl,_,rfl,?_⟩
  rw [p.2.isBell]
  have nm:=pc_nums f R hp
  have sl:p.2.str.length <= 100:=Nat.le_trans p.2.strl (by decide)
  refine ifd (fun c => ?_) (fun c => ?_)
  ·have e:pcN W p = [p.1,W.nf p.1]:=by unfold pcN; rw [if_pos c]
   unfold pcL at q
   rw [e] at q nm
   refine ⟨_,rfl,_,rfl,_,rfl,A.p,A.dx,_,rfl,hH.get 1 rfl,(fl_m4 _ _ _).2.2.2.2.2.1,_,rfl,A,y,_,p.1,_,_,rfl,hH,R.kd _ _ hp,(by rw [R.no _ _ hp,if_pos c]),sz (show 2 <= 1000000 by decide),fun l hl => ?_⟩
   exact ⟨p.2.str,l,true,[p.1,W.nf p.1],_,rfl,hH.alloc hl _,.inl ⟨rfl,List.mem_cons_self⟩,sl,nm,fun H2 h2 => q _ h2.tail⟩
  refine ⟨_,rfl,p.2,rfl,_,rfl,?_⟩
  refine if2 (fun c2 => ?_) (fun c2 => ?_)
  ·have e:pcN W p = [p.1,W.rf p.1]:=by unfold pcN; rw [if_neg c,if_pos c2]
   unfold pcL at q
   rw [e] at q nm
   refine ⟨_,rfl,_,rfl,_,rfl,A.p,A.dx,_,rfl,hH.get 1 rfl,(fl_m _ _ _).2.2.2.2.1,_,rfl,A,y,_,p.1,_,_,rfl,hH,R.kd _ _ hp,(by rw [R.ro _ _ hp,if_pos c2]),sz (show 2 <= 1000000 by decide),fun l hl => ?_⟩
   exact ⟨p.2.str,l,true,[p.1,W.rf p.1],_,rfl,hH.alloc hl _,.inl ⟨rfl,List.mem_cons_self⟩,sl,nm,fun H2 h2 => q _ h2.tail⟩
  ·have e:pcN W p = [p.1]:=by unfold pcN; rw [if_neg c,if_neg (by rw [c2]; exact Bool.false_ne_true)]
   unfold pcL at q
   rw [e] at q nm
   refine ⟨_,rfl,_,rfl,sz (show 1 <= 1000000 by decide),fun l hl => ?_⟩
   exact ⟨p.2.str,l,true,[p.1],_,rfl,hH.alloc hl _,.inl ⟨rfl,List.mem_cons_self⟩,sl,nm,fun H2 h2 => q _ h2.tail⟩
theorem scLl:FnScope ["yard","lines","piece","end","mate"] ["yard"] (defScope s_Jc):=⟨rfl,rfl,rfl,by decide +kernel,rfl,by decide +kernel,by decide +kernel⟩
theorem ok_Jc (T:Txt K mg t):FnOk P w K mg base CX0 5 t.f_Jc t.d_Jc ["yard"] (sp_lkl t.c_Yard):=by
 refine T.F_Jc.ok scLl (fun vs H Q E h => ?_) (fun cdv A outer s H vs Q E hr h => ?_)
 ·obtain ⟨_,_,_,_,_,_,_,rfl,_⟩:=h
  rfl
 ·obtain ⟨A,y,L,W,sd,KS,nx,rfl,hH,R,PL,f,ek,q⟩:=h
  refine ⟨_,(pss_cons (ps_set (i:=1) scLl.nd rfl (Or.inl rfl) (pe_lst pa_nil))
   (pss_cons (ps_for PassesOwn.never rfl (pi_list (pe_meth0 (pv 0) T.cl_Yard T.M_J8 (ok_J8 T) (hr.mono (by decide)) (b_J8 T) .nil pass0)) (pg_name (i:=2) scLl.nd rfl (Or.inl rfl))
    (pss_one (ps_for PassesOwn.never rfl (pi_range1 (by rfl) T.z_range (pa_cons (pe_call (ok_J11 T) (hr.mono (by decide)) (by rfl) T.m_J11 T.F_J11.kp (b_J11 T) .nil pass0 (pa_cons (pe_meth (pv 0) T.cl_Yard T.M_Jp (ok_Jp T) (hr.mono (by decide)) (b_Jp T) .nil pass0 (pa_cons (pv 2) pa_nil)) pa_nil)) pa_nil)) (pg_name (i:=3) scLl.nd rfl (Or.inl rfl))
      (pss_cons (ps_set (i:=4) scLl.nd rfl (Or.inl rfl) (pe_meth (pv 0) T.cl_Yard T.M_Jq (ok_Jq T) (hr.mono (by decide)) (b_Jq T) .nil pass0 (@pa_cons _ _ _ _ _ (pe_tup (pa_cons (pv 2) (pa_cons (pv 3) pa_nil))) pa_nil (by rfl))))
       (pss_one (ps_if (PW.pt (pw_and (pt_cmpR op_notN (pv 4) pe_non (nomark _)) (pw_and1 (pt_cmpR (op_ltT (Nat.lt_of_le_of_lt (Nat.le_add_right _ 64) hr.units)) (pe_tup (pa_cons (pv 2) (pa_cons (pv 3) pa_nil))) (pv 4) (nomark _)))))
        (pss_one (ps_expr (pe_bm PySem.F.plainAttrs_list PySem.F.slot_list_append PySem.F.type_list_append mt_append (pv 1) (pa_cons (pe_call (ok_Jb T) (hr.mono (by decide)) (by rfl) T.m_Jb T.F_Jb.kp (b_Jb T) .nil pass0 (@pa_cons _ _ _ _ _ pe_str (@pa_cons _ _ _ _ _ (pe_lst (pa_cons (pv 2) (pa_cons (pv 3) (pa_cons (pe_ix ix_tup (pv 4) pe_int (fun _ _ => rfl)) (pa_cons (pe_ix ix_tup (pv 4) pe_int (fun _ _ => rfl)) pa_nil))))) pa_nil (by rfl)) (by rfl))) pa_nil))))
        pss_nil))))))
   (pss_one (ps_ret (pv 1))))),?_⟩
  rw [show L2.start ["yard","lines","piece","end","mate"] [V.ref A.p] = ([some (V.ref A.p),none,none,none,none]:St) from rfl]
  have ekk:(y.kinds.map fun kv => kV kv.1) = (KS.map (·.1)).map V.int:=by rw [ek]; exact kmap_keys _
  refine ⟨sz (show 0 <= 1000000 by decide),fun ll hll => ?_⟩
  have h1:=Has.comm (X:=[_]) (Y:=yL t.c_Yard A y) (hH.alloc hll (.lst []))
  generalize upd H ll _ = H1 at h1 ⊢
  dsimp only [List.set]
  refine ⟨_,rfl,A.p,A.dx,_,rfl,h1.get 1 rfl,(fl_m4 _ _ _).2.2.2.1,A,y,_,rfl,h1,fun H2 pl h2 => ?_⟩
  rw [ekk] at h2
  have h2:=Has.comm (X:=[_]) (Y:=yL t.c_Yard A y) h2
  have h2:Has H2 (yL t.c_Yard A y ++ ((ll,HO.lst []) :: (pl,.lst ((KS.map (·.1)).map V.int)) :: L)):=h2.perm (List.Perm.append_left _ (List.Perm.swap _ _ _))
  have kb:=f.kl
  have lk2:∀ p ∈ KS,∀ m:Nat,(lkP W p m).length <= m:=fun p hp m => by
   unfold lkP
   induction m with
   | zero => simp
   | succ m ih =>
    rw [List.range_succ,List.flatMap_append,List.length_append]
    have:((lnkF W p.1 m).map (lnT "link")).length <= 1:=by
     rw [List.length_map]
     unfold lnkF
     split
     ·split <;> simp
     ·simp
    simp only [List.flatMap_cons,List.flatMap_nil,List.append_nil]
    omega
  have lkl:∀ i,(lkL W (KS.take i)).length <= i * 3:=fun i => by
   induction i with
   | zero => simp [lkL]
   | succ i ih =>
    rw [List.take_succ]
    cases e:KS[i]? with
    | none => rw [Option.toList_none,List.append_nil]; omega
    | some p =>
     have h3:=lk2 p (List.mem_of_getElem? e) p.2.many.toNat
     have h4:=p.2.m3
     unfold lkL at ih ⊢
     rw [List.flatMap_append,List.length_append]
     simp only [Option.toList,List.flatMap_cons,List.flatMap_nil,List.append_nil]
     omega
  refine ⟨pl,rfl,⟨_,SqL.of (h2.get 10 rfl)⟩,for_list (xs:=(KS.map (·.1)).map V.int) (fun i σ H' => ∃ o2 o3 o4:Option V,σ = [some (.ref A.p),some (.ref ll),o2,o3,o4] /\ Has H' (yL t.c_Yard A y ++ ((ll,HO.lst ((lkL W (KS.take i)).map V.str)) :: (pl,.lst ((KS.map (·.1)).map V.int)) :: L))) ⟨_,_,_,rfl,h2⟩ (fun i σ H' _ ⟨_,_,_,_,h⟩ => SqL.of (h.get 10 rfl)) ?_ ?_⟩
  ·clear h2 h1
   rintro i x σ H3 hx ⟨o2,o3,o4,rfl,h3⟩
   have hi:i < KS.length:=by have:=(List.getElem?_eq_some_iff.mp hx).1; simpa using this
   have ex:x = .int KS[i].1:=by
    rw [List.getElem?_map,List.getElem?_map,List.getElem?_eq_getElem hi] at hx
    exact (Option.some.inj hx).symm
   subst ex
   obtain ⟨p,ep⟩:∃ p,KS[i] = p:=⟨_,rfl⟩
   have mp:p ∈ KS:=by rw [<- ep]; exact List.getElem_mem hi
   have hk:=f.ks p mp
   have tk:KS.take (i + 1) = KS.take i ++ [p]:=by rw [List.take_succ,List.getElem?_eq_getElem hi,ep]; rfl
   have eD1:lkL W (KS.take (i + 1)) = lkL W (KS.take i) ++ lkP W p p.2.many.toNat:=by unfold lkL; rw [tk,List.flatMap_append]; simp
   rw [ep,eD1]
   have lD:=lkl i
   obtain ⟨D0,eD0⟩:∃ D0,lkL W (KS.take i) = D0:=⟨_,rfl⟩
   rw [eD0] at h3 lD ⊢
   have km:=p.2.m3
   have kn:=f.k _ _ hk
   dsimp only [List.set]
   refine ⟨_,rfl,A.p,A.dx,_,rfl,h3.get 1 rfl,(fl_m4 _ _ _).2.2.2.2.1,_,rfl,A,y,_,p.1,_,rfl,h3,R.kd _ _ hk,?_⟩
   refine ⟨p.2,rfl,p.2.many,rfl,by omega,by omega,for_range (fun e σ H' => ∃ o3 o4:Option V,σ = [some (.ref A.p),some (.ref ll),some (.int p.1),o3,o4] /\ Has H' (yL t.c_Yard A y ++ ((ll,HO.lst ((D0 ++ lkP W p e).map V.str)) :: (pl,.lst ((KS.map (·.1)).map V.int)) :: L))) ⟨_,_,rfl,by simpa [lkP] using h3⟩ ?_ ?_⟩
   ·clear h3
    rintro e σ H4 he ⟨o3,o4,rfl,h4⟩
    have he3:e < 3:=by omega
    have l2:=lk2 p mp e
    have eP:lkP W p (e + 1) = lkP W p e ++ (lnkF W p.1 e).map (lnT "link"):=by unfold lkP; rw [List.range_succ,List.flatMap_append]; simp
    dsimp only [List.set]
    rw [Int.zero_add]
    refine ⟨_,rfl,A.p,A.dx,_,rfl,h4.get 1 rfl,(fl_m2 _ _ _).2.1,_,rfl,_,rfl,(show 2 <= sizeLine by decide),fun b hb => ?_⟩
    have h5:=h4.alloc hb (.tup [.int p.1,.int (e:Int)])
    generalize upd H4 b _ = H5 at h5 ⊢
    refine ⟨A,y,_,b,p.1,(e:Int),0,rfl,Has.comm (X:=[_]) (Y:=yL t.c_Yard A y) h5,rfl,⟨p.2,R.kd _ _ hk,by omega,by omega⟩,?_⟩
    replace h5:=h5.tail
    rw [show (valV y.mates (kE p.1 (e:Int))).getD .non = enV (W.mf p.1 e) by rw [R.mt]; cases W.mf p.1 e <;> rfl]
    dsimp only [List.set]
    refine ⟨_,rfl,rfl,_,rfl,?_⟩
    cases hm:W.mf p.1 e with
    | none =>
     refine ifF (by rfl) ?_
     refine ⟨_,_,rfl,?_⟩
     rw [eP,show lnkF W p.1 e = [] by unfold lnkF; rw [hm]]
     simpa using h5
    | some z =>
     refine ifT (by rfl) ?_
     obtain ⟨jz,hz⟩:=PL.m _ _ z hm
     have oz:=ok_nums f (R.mo _ _ _ hm)
     refine ⟨_,rfl,_,rfl,(show 2 <= sizeLine by decide),fun b2 hb2 => ?_⟩
     have h6:=h5.alloc hb2 (.tup [.int p.1,.int (e:Int)])
     generalize upd H5 b2 _ = H6 at h6 ⊢
     have gz:∀ {H':Hp} {X:Kn},Has H' (X ++ (yL t.c_Yard A y ++ ((ll,HO.lst ((D0 ++ lkP W p e).map V.str)) :: (pl,.lst ((KS.map (·.1)).map V.int)) :: L))) -> H' z.1 = some (.tup [.int z.2.1,.int z.2.2]):=fun h => h.at_ _ (List.mem_append_right _ (List.mem_append_right _ (List.mem_cons_of_mem _ (List.mem_cons_of_mem _ (List.mem_of_getElem? hz)))))
     refine ⟨_,rfl,b2,z.1,[p.1,(e:Int)],[z.2.1,z.2.2],rfl,rfl,SqT.of (h6.get 0 rfl),SqT.of (gz (X:=[_]) h6),_,rfl,?_⟩
     have h6:=h6.tail
     cases hlt:HT.lexLt [p.1,(e:Int)] [z.2.1,z.2.2] with
     | false =>
      refine iteF ?_
      refine ⟨_,_,rfl,?_⟩
      rw [eP,show lnkF W p.1 e = [] by unfold lnkF; rw [hm]; dsimp only; rw [hlt]; rfl]
      simpa using h6
     | true =>
      refine iteT ?_
      have el:lnkF W p.1 e = [[p.1,(e:Int),z.2.1,z.2.2]]:=by unfold lnkF; rw [hm]; dsimp only; rw [hlt]; rfl
      have g6:=gz (X:=[]) h6
      refine ⟨_,rfl,.inl ⟨rfl,_,SqL.of (h6.get 9 rfl)⟩,_,rfl,_,rfl,_,rfl,z.1,_,_,_,rfl,rfl,SqT.of g6,atI_nat (j:=0) rfl,_,rfl,z.1,_,_,_,rfl,rfl,SqT.of g6,atI_nat (j:=1) rfl,sz (show 4 <= 1000000 by decide),fun l4 hl4 => ?_⟩
      have h7:=h6.alloc hl4 (.lst [.int p.1,.int (e:Int),.int z.2.1,.int z.2.2])
      generalize upd H6 l4 _ = H7 at h7 ⊢
      refine ⟨"link",l4,true,[p.1,(e:Int),z.2.1,z.2.2],_,rfl,h7,.inl ⟨rfl,List.mem_cons_self⟩,by decide +kernel,nums4 ⟨kn.1,by omega⟩ ⟨by omega,by omega⟩ oz.1 oz.2,fun H8 h8 => ?_⟩
      have h8:=h8.tail
      refine ⟨ll,_,_,rfl,rfl,h8.get 9 rfl,sizeOk (by rw [List.length_map,List.length_append]; omega),?_⟩
      refine ⟨_,_,rfl,?_⟩
      have e9:(D0 ++ lkP W p (e + 1)).map V.str = (D0 ++ lkP W p e).map V.str ++ [.str (lnT "link" [p.1,(e:Int),z.2.1,z.2.2])]:=by rw [eP,el]; simp
      rw [e9]
      exact h8.puti 9 rfl _
   ·rintro σ H4 ⟨o3,o4,rfl,h4⟩
    exact ⟨_,_,_,rfl,h4⟩
  ·rintro σ H3 ⟨o2,o3,o4,rfl,h3⟩
   rw [show ((KS.map (·.1)).map V.int).length = KS.length by simp,List.take_length] at h3
   refine ⟨_,rfl,q _ ll ?_⟩
   exact h3.sub ((List.Sublist.refl _).append (.cons_cons _ (.cons _ (List.Sublist.refl _))))
theorem scWy:FnScope ["yard","lines","rod","piece"] ["yard"] (defScope s_Ja):=⟨rfl,rfl,rfl,by decide +kernel,rfl,by decide +kernel,by decide +kernel⟩
theorem ok_Ja (T:Txt K mg t):FnOk P w K mg base CX0 7 t.f_Ja t.d_Ja ["yard"] (sp_wy t.c_Yard):=by
 refine T.F_Ja.ok scWy (fun vs H Q E h => ?_) (fun cdv A outer s H vs Q E hr h => ?_)
 ·obtain ⟨_,_,_,_,_,_,rfl,_⟩:=h
  rfl
 ·obtain ⟨A,y,L,W,sd,KS,rfl,hH,R,PL,sm,f,ek,q⟩:=h
  refine ⟨_,(pss_cons (ps_set (i:=1) scWy.nd rfl (Or.inl rfl) (pe_lst (pa_cons (pe_call (ok_Jb T) (hr.mono (by decide)) (by rfl) T.m_Jb T.F_Jb.kp (b_Jb T) .nil pass0 (@pa_cons _ _ _ _ _ pe_str (@pa_cons _ _ _ _ _ (pe_lst (pa_cons (pe_fld (pv 0) rfl) (pa_cons (pe_callB call_len_seq (by rfl) T.z_len (by rfl) (pa_cons (pe_fld (pv 0) rfl) pa_nil)) pa_nil))) pa_nil (by rfl)) (by rfl))) pa_nil)))
   (pss_cons (ps_for PassesOwn.never rfl (pi_list (pe_meth0 (pv 0) T.cl_Yard T.M_Js (ok_Js T) (hr.mono (by decide)) (b_Js T) .nil pass0)) (pg_name (i:=2) scWy.nd rfl (Or.inl rfl))
    (pss_one (ps_expr (pe_bm PySem.F.plainAttrs_list PySem.F.slot_list_append PySem.F.type_list_append mt_append (pv 1) (pa_cons (pe_call (ok_Jb T) (hr.mono (by decide)) (by rfl) T.m_Jb T.F_Jb.kp (b_Jb T) .nil pass0 (@pa_cons _ _ _ _ _ pe_str (@pa_cons _ _ _ _ _ (pe_lst (pa_cons (pv 2) (pa_cons (pe_meth (pv 0) T.cl_Yard T.M_Jr (ok_Jr T) (hr.mono (by decide)) (b_Jr T) .nil pass0 (pa_cons (pv 2) pa_nil)) pa_nil))) pa_nil (by rfl)) (by rfl))) pa_nil)))))
   (pss_cons (ps_for PassesOwn.never rfl (pi_list (pe_meth0 (pv 0) T.cl_Yard T.M_J8 (ok_J8 T) (hr.mono (by decide)) (b_J8 T) .nil pass0)) (pg_name (i:=3) scWy.nd rfl (Or.inl rfl))
    (pss_one (ps_expr (pe_bm PySem.F.plainAttrs_list PySem.F.slot_list_append PySem.F.type_list_append mt_append (pv 1) (pa_cons (pe_call (ok_Jd T) (hr.mono (by decide)) (by rfl) T.m_Jd T.F_Jd.kp (b_Jd T) .nil pass0 (pa_cons (pv 0) (pa_cons (pv 3) pa_nil))) pa_nil)))))
   (pss_cons (ps_expr (pe_bm PySem.F.plainAttrs_list PySem.F.slot_list_extend PySem.F.type_list_extend mt_extend (pv 1) (pa_cons (pe_call (ok_Jc T) (hr.mono (by decide)) (by rfl) T.m_Jc T.F_Jc.kp (b_Jc T) .nil pass0 (pa_cons (pv 0) pa_nil)) pa_nil)))
   (pss_cons (ps_cut (ps_if (pt_cmpR op_notN (pe_meth0 (pv 0) T.cl_Yard T.M_J7 (ok_J7 T) (hr.mono (by decide)) (b_J7 T) .nil pass0) pe_non (nomark _))
    (pss_one (ps_expr (pe_bm PySem.F.plainAttrs_list PySem.F.slot_list_append PySem.F.type_list_append mt_append (pv 1) (pa_cons (pe_call (ok_Jb T) (hr.mono (by decide)) (by rfl) T.m_Jb T.F_Jb.kp (b_Jb T) .nil pass0 (pa_cons pe_str (pa_cons (pe_meth0 (pv 0) T.cl_Yard T.M_J7 (ok_J7 T) (hr.mono (by decide)) (b_J7 T) .nil pass0) pa_nil))) pa_nil))))
    pss_nil))
   (pss_cons (ps_cut (ps_if (pt_truth (pe_meth0 (pv 0) T.cl_Yard T.M_Jj (ok_Jj T) (hr.mono (by decide)) (b_Jj T) .nil pass0) (by intro _; rfl))
    (pss_one (ps_expr (pe_bm PySem.F.plainAttrs_list PySem.F.slot_list_append PySem.F.type_list_append mt_append (pv 1) (pa_cons (pe_call (ok_Jb T) (hr.mono (by decide)) (by rfl) T.m_Jb T.F_Jb.kp (b_Jb T) .nil pass0 (pa_cons pe_str (pa_cons (pe_meth0 (pv 0) T.cl_Yard T.M_Jj (ok_Jj T) (hr.mono (by decide)) (b_Jj T) .nil pass0) pa_nil))) pa_nil))))
    pss_nil))
   (pss_one (ps_ret (pe_bm PySem.F.plainAttrs_str PySem.F.slot_str_join PySem.F.type_str_join mt_join pe_str (pa_cons (pv 1) pa_nil)))))))))),?_⟩
  rw [show L2.start ["yard","lines","rod","piece"] [V.ref A.p] = ([some (V.ref A.p),none,none,none]:St) from rfl]
  have ekk:(y.kinds.map fun kv => kV kv.1) = (KS.map (·.1)).map V.int:=by rw [ek]; exact kmap_keys _
  have sl:=f.sl
  have kb:=f.kl
  refine ⟨_,rfl,A.p,_,A.dx,_,_,rfl,hH.get 1 rfl,T.cl_Yard,T.n_Yard_next_piece,fl_next _ _ _,_,rfl,A.p,_,A.dx,_,_,rfl,hH.get 1 rfl,T.cl_Yard,T.n_Yard_sides,fl_sides _ _ _,A.s,_,rfl,.inl (SqL.of (hH.get 6 rfl)),sz (show 2 <= 1000000 by decide),fun l0 hl0 => ?_⟩
  have eSL:(y.sides.length:Int) = (sd.ss.length:Int):=by rw [R.sd,List.length_map]
  have h1:=hH.alloc hl0 (.lst [.int y.next,.int y.sides.length])
  generalize upd H l0 _ = H1 at h1 ⊢
  rw [eSL] at h1
  refine ⟨"next",l0,true,[y.next,(sd.ss.length:Int)],_,rfl,h1,.inl ⟨rfl,List.mem_cons_self⟩,by decide +kernel,nums2 ⟨f.nx.1,by have:=f.nx.2; omega⟩ ⟨by omega,by omega⟩,fun H2 h2 => ?_⟩
  have h2:=h2.tail
  refine ⟨sz (show 1 <= 1000000 by decide),fun ll hll => ?_⟩
  obtain ⟨N0,eN0⟩:∃ N0:List Str,[lnT "next" [y.next,(sd.ss.length:Int)]] = N0:=⟨_,rfl⟩
  have l0:N0.length = 1:=by rw [<- eN0]; rfl
  have h3:=Has.comm (X:=[_]) (Y:=yL t.c_Yard A y) (h2.alloc hll (.lst (N0.map V.str)))
  have e3:[V.str (lnT "next" [y.next,(sd.ss.length:Int)])] = N0.map V.str:=by rw [<- eN0]; rfl
  rw [e3]
  generalize upd H2 ll _ = H3 at h3 ⊢
  clear h2 h1 hH
  dsimp only [List.set]
  refine ⟨_,rfl,A.p,A.dx,_,rfl,h3.get 1 rfl,(fl_m _ _ _).2.2.2.1,A,y,_,rfl,h3,sm,fun H4 rl h4 => ?_⟩
  have eI:intsV y.sides.length = ((List.range sd.ss.length).map fun i:Nat => (i:Int)).map V.int:=by rw [R.sd,List.length_map]; exact intsV_eq _
  rw [eI] at h4
  have h4:=Has.comm (X:=[_]) (Y:=yL t.c_Yard A y) h4
  have h4:Has H4 (yL t.c_Yard A y ++ ((ll,HO.lst (N0.map V.str)) :: (rl,.lst (((List.range sd.ss.length).map fun i:Nat => (i:Int)).map V.int)) :: L)):=h4.perm (List.Perm.append_left _ (List.Perm.swap _ _ _))
  have rdk:∀ i,i < sd.ss.length -> (rdL sd).take (i + 1) = (rdL sd).take i ++ [lnT "rod" [(i:Int),sd.ss.getD i 0]]:=fun i hi => by
   rw [List.take_succ]
   congr 1
   unfold rdL
   rw [List.getElem?_map,List.getElem?_eq_getElem (by rw [List.length_range]; exact hi)]
   simp
  refine ⟨rl,rfl,⟨_,SqL.of (h4.get 10 rfl)⟩,for_list (xs:=((List.range sd.ss.length).map fun i:Nat => (i:Int)).map V.int) (fun i σ H' => ∃ o2 o3:Option V,σ = [some (.ref A.p),some (.ref ll),o2,o3] /\ Has H' (yL t.c_Yard A y ++ ((ll,HO.lst ((N0 ++ (rdL sd).take i).map V.str)) :: (rl,.lst (((List.range sd.ss.length).map fun i:Nat => (i:Int)).map V.int)) :: L))) ⟨_,_,rfl,by simpa using h4⟩ (fun i σ H' _ ⟨_,_,_,h⟩ => SqL.of (h.get 10 rfl)) ?_ ?_⟩
  ·clear h4 h3
   rintro i x σ H5 hx ⟨o2,o3,rfl,h5⟩
   have hi:i < sd.ss.length:=by have:=(List.getElem?_eq_some_iff.mp hx).1; simpa using this
   have ex:x = .int (i:Int):=by
    rw [List.getElem?_map,List.getElem?_map,List.getElem?_eq_getElem (by simpa using hi)] at hx
    simpa using (Option.some.inj hx).symm
   subst ex
   dsimp only [List.set]
   have gs:sd.ss[i]? = some (sd.ss.getD i 0):=by rw [List.getD_eq_getElem?_getD,List.getElem?_eq_getElem hi]; rfl
   have v12:=R.s12 _ (List.mem_of_getElem? gs)
   refine ⟨_,rfl,.inl ⟨rfl,_,SqL.of (h5.get 9 rfl)⟩,_,rfl,_,rfl,A.p,A.dx,_,rfl,h5.get 1 rfl,(fl_m _ _ _).2.2.2.2.2.1,_,rfl,A,y,_,(i:Int),.int (sd.ss.getD i 0),rfl,h5,by omega,(by rw [R.sd,Int.toNat_natCast,List.getElem?_map,gs]; rfl),sz (show 2 <= 1000000 by decide),fun l5 hl5 => ?_⟩
   have h6:=h5.alloc hl5 (.lst [.int (i:Int),.int (sd.ss.getD i 0)])
   generalize upd H5 l5 _ = H6 at h6 ⊢
   refine ⟨"rod",l5,true,[(i:Int),sd.ss.getD i 0],_,rfl,h6,.inl ⟨rfl,List.mem_cons_self⟩,by decide +kernel,nums2 ⟨by omega,by omega⟩ ⟨by omega,by omega⟩,fun H7 h7 => ?_⟩
   have h7:=h7.tail
   have lt:((rdL sd).take i).length <= 30:=by rw [List.length_take]; omega
   refine ⟨ll,_,_,rfl,rfl,h7.get 9 rfl,sizeOk (by rw [List.length_map,List.length_append]; omega),?_⟩
   refine ⟨_,_,rfl,?_⟩
   rw [rdk i hi,<- List.append_assoc,List.map_append (l₁:=N0 ++ (rdL sd).take i)]
   exact h7.puti 9 rfl _
  clear h4 h3
  rintro σ H4 ⟨o2,o3,rfl,h4⟩
  have lr:(rdL sd).length = sd.ss.length:=by unfold rdL; rw [List.length_map,List.length_range]
  rw [show (((List.range sd.ss.length).map fun i:Nat => (i:Int)).map V.int).length = (rdL sd).length by rw [lr]; simp,List.take_length] at h4
  obtain ⟨N1,eN1⟩:∃ N1:List Str,N0 ++ rdL sd = N1:=⟨_,rfl⟩
  have l1:N1.length <= 31:=by rw [<- eN1,List.length_append]; omega
  rw [eN1] at h4
  have h4:Has H4 (yL t.c_Yard A y ++ ((ll,HO.lst (N1.map V.str)) :: L)):=h4.sub ((List.Sublist.refl _).append (.cons_cons _ (.cons _ (List.Sublist.refl _))))
  refine ⟨_,rfl,A.p,A.dx,_,rfl,h4.get 1 rfl,(fl_m4 _ _ _).2.2.2.1,A,y,_,rfl,h4,fun H5 pl h5 => ?_⟩
  rw [ekk] at h5
  have h5:=Has.comm (X:=[_]) (Y:=yL t.c_Yard A y) h5
  have h5:Has H5 (yL t.c_Yard A y ++ ((ll,HO.lst (N1.map V.str)) :: (pl,.lst ((KS.map (·.1)).map V.int)) :: L)):=h5.perm (List.Perm.append_left _ (List.Perm.swap _ _ _))
  refine ⟨pl,rfl,⟨_,SqL.of (h5.get 10 rfl)⟩,for_list (xs:=(KS.map (·.1)).map V.int) (fun i σ H' => ∃ o2 o3:Option V,σ = [some (.ref A.p),some (.ref ll),o2,o3] /\ Has H' (yL t.c_Yard A y ++ ((ll,HO.lst ((N1 ++ (KS.map (pcL W)).take i).map V.str)) :: (pl,.lst ((KS.map (·.1)).map V.int)) :: L))) ⟨_,_,rfl,by simpa using h5⟩ (fun i σ H' _ ⟨_,_,_,h⟩ => SqL.of (h.get 10 rfl)) ?_ ?_⟩
  ·clear h5 h4
   rintro i x σ H6 hx ⟨o2,o3,rfl,h6⟩
   have hi:i < KS.length:=by have:=(List.getElem?_eq_some_iff.mp hx).1; simpa using this
   have ex:x = .int KS[i].1:=by
    rw [List.getElem?_map,List.getElem?_map,List.getElem?_eq_getElem hi] at hx
    exact (Option.some.inj hx).symm
   subst ex
   have hk:=f.ks _ (List.getElem_mem hi)
   dsimp only [List.set]
   refine ⟨_,rfl,.inl ⟨rfl,_,SqL.of (h6.get 9 rfl)⟩,_,rfl,_,rfl,A,y,_,W,sd,KS,y.next,KS[i],rfl,h6,R,f,hk,fun H7 h7 => ?_⟩
   have lt:((KS.map (pcL W)).take i).length <= 30:=by rw [List.length_take,List.length_map]; omega
   refine ⟨ll,_,_,rfl,rfl,h7.get 9 rfl,sizeOk (by rw [List.length_map,List.length_append]; omega),?_⟩
   refine ⟨_,_,rfl,?_⟩
   have tk:(KS.map (pcL W)).take (i + 1) = (KS.map (pcL W)).take i ++ [pcL W KS[i]]:=by rw [List.take_succ,List.getElem?_map,List.getElem?_eq_getElem hi]; rfl
   rw [tk,<- List.append_assoc,List.map_append (l₁:=N1 ++ (KS.map (pcL W)).take i)]
   exact h7.puti 9 rfl _
  clear h5 h4
  rintro σ H5 ⟨o2,o3,rfl,h5⟩
  rw [show ((KS.map (·.1)).map V.int).length = (KS.map (pcL W)).length by simp,List.take_length] at h5
  obtain ⟨N2,eN2⟩:∃ N2:List Str,N1 ++ KS.map (pcL W) = N2:=⟨_,rfl⟩
  have l2:N2.length <= 61:=by rw [<- eN2,List.length_append,List.length_map]; omega
  rw [eN2] at h5
  have h5:Has H5 (yL t.c_Yard A y ++ ((ll,HO.lst (N2.map V.str)) :: L)):=h5.sub ((List.Sublist.refl _).append (.cons_cons _ (.cons _ (List.Sublist.refl _))))
  refine ⟨_,rfl,.inl ⟨rfl,_,SqL.of (h5.get 9 rfl)⟩,_,rfl,A,y,_,W,sd,KS,y.next,rfl,h5,R,PL.app [_],f,ek,fun H6 lk h6 => ?_⟩
  have h6:Has H6 (yL t.c_Yard A y ++ ((ll,HO.lst (N2.map V.str)) :: (lk,.lst ((lkL W KS).map V.str)) :: L)):=h6.perm (List.Perm.append_left _ (List.Perm.swap _ _ _))
  have lkl:=lkL_len W KS
  refine ⟨ll,lk,_,_,rfl,rfl,h6.get 9 rfl,h6.get 10 rfl,sz (by rw [List.length_map,List.length_map]; omega),?_⟩
  obtain ⟨N3,eN3⟩:∃ N3:List Str,N2 ++ lkL W KS = N3:=⟨_,rfl⟩
  have l3:N3.length <= 151:=by rw [<- eN3,List.length_append]; omega
  have e3:N2.map V.str ++ (lkL W KS).map V.str = N3.map V.str:=by rw [<- eN3,List.map_append]
  rw [e3]
  have h7:Has _ (yL t.c_Yard A y ++ ((ll,HO.lst (N3.map V.str)) :: (lk,.lst ((lkL W KS).map V.str)) :: L)):=h6.puti 9 rfl (.lst (N3.map V.str))
  generalize upd H6 ll _ = H7 at h7 ⊢
  have h7:Has H7 (yL t.c_Yard A y ++ ((ll,HO.lst (N3.map V.str)) :: L)):=h7.sub ((List.Sublist.refl _).append (.cons_cons _ (.cons _ (List.Sublist.refl _))))
  clear h6 h5
  dsimp only [List.set]
  refine ⟨fun σ' H' => σ' = [some (.ref A.p),some (.ref ll),o2,o3] /\ Has H' (yL t.c_Yard A y ++ ((ll,HO.lst ((N3 ++ enL sd).map V.str)) :: L)),?_,?_⟩
  ·refine ⟨_,rfl,A.p,A.dx,_,rfl,h7.get 1 rfl,(fl_m4 _ _ _).2.2.2.2.2.2.1,A,y,_,rfl,h7,rfl,_,rfl,?_⟩
   rw [R.en]
   cases ha:sd.at_ with
   | none =>
    refine ifF (by rfl) ⟨rfl,?_⟩
    rw [show enL sd = [] by unfold enL; rw [ha],List.append_nil]
    exact h7
   | some z =>
    refine ifT (by rfl) ?_
    obtain ⟨jz,hz⟩:=PL.e z ha
    have oz:=ok_nums f (R.eo _ ha)
    refine ⟨_,rfl,.inl ⟨rfl,_,SqL.of (h7.get 9 rfl)⟩,_,rfl,A.p,A.dx,_,rfl,h7.get 1 rfl,(fl_m4 _ _ _).2.2.2.2.2.2.1,A,y,_,rfl,h7,?_⟩
    rw [R.en,ha]
    refine ⟨"engine",z.1,false,[z.2.1,z.2.2],_,rfl,h7,.inr ⟨rfl,List.mem_append_right _ (List.mem_cons_of_mem _ (List.mem_of_getElem? hz))⟩,by decide +kernel,nums2 oz.1 oz.2,fun H8 h8 => ?_⟩
    refine ⟨ll,_,_,rfl,rfl,h8.get 9 rfl,sizeOk (by rw [List.length_map]; omega),rfl,?_⟩
    rw [show enL sd = [lnT "engine" [z.2.1,z.2.2]] by unfold enL; rw [ha],List.map_append]
    exact h8.puti 9 rfl _
  clear h7
  rintro σ' H7 ⟨rfl,h7⟩
  obtain ⟨N4,eN4⟩:∃ N4:List Str,N3 ++ enL sd = N4:=⟨_,rfl⟩
  have l4:N4.length <= 152:=by
   have:(enL sd).length <= 1:=by unfold enL; split <;> simp
   rw [<- eN4,List.length_append]; omega
  rw [eN4] at h7
  refine ⟨fun σ' H' => σ' = [some (.ref A.p),some (.ref ll),o2,o3] /\ Has H' (yL t.c_Yard A y ++ ((ll,HO.lst ((N4 ++ rgL sd).map V.str)) :: L)),?_,?_⟩
  ·refine ⟨_,rfl,A.p,A.dx,_,rfl,h7.get 1 rfl,(fl_m4 _ _ _).2.2.2.2.2.2.2.1,A,y,_,rfl,h7,fun H8 b8 h8 => ?_⟩
   rw [R.rg] at h8
   by_cases hg:sd.rg = []
   ·refine ⟨false,.inl ⟨_,SqL.of (h8.get 0 rfl),by rw [hg]; rfl⟩,iteF ⟨rfl,?_⟩⟩
    rw [show rgL sd = [] by unfold rgL; rw [if_pos hg],List.append_nil]
    exact h8.tail
   ·refine ⟨true,.inl ⟨_,SqL.of (h8.get 0 rfl),?_⟩,iteT ?_⟩
    ·cases e:sd.rg with
     | nil => exact absurd e hg
     | cons a b => rfl
    have h9:=h8.tail
    refine ⟨_,rfl,.inl ⟨rfl,_,SqL.of (h9.get 9 rfl)⟩,_,rfl,A.p,A.dx,_,rfl,h9.get 1 rfl,(fl_m4 _ _ _).2.2.2.2.2.2.2.1,A,y,_,rfl,h9,fun H10 b10 h10 => ?_⟩
    rw [R.rg] at h10
    refine ⟨"rung",b10,true,sd.rg,_,rfl,h10,.inl ⟨rfl,List.mem_cons_self⟩,by decide +kernel,rg_nums f,fun H11 h11 => ?_⟩
    have h11:=h11.tail
    refine ⟨ll,_,_,rfl,rfl,h11.get 9 rfl,sizeOk (by rw [List.length_map]; omega),rfl,?_⟩
    rw [show rgL sd = [lnT "rung" sd.rg] by unfold rgL; rw [if_neg hg],List.map_append]
    exact h11.puti 9 rfl _
  clear h7
  rintro σ' H7 ⟨rfl,h7⟩
  have eA:N4 ++ rgL sd = ytL W sd KS y.next:=by
   rw [<- eN4,<- eN3,<- eN2,<- eN1,<- eN0]
   unfold ytL
   simp
  rw [eA] at h7
  exact ⟨rfl,_,rfl,_,ll,ytL W sd KS y.next,rfl,rfl,SqL.of (h7.get 9 rfl),yt_join f R,q _ (h7.sub ((List.Sublist.refl _).append (.cons _ (List.Sublist.refl _))))⟩
end
end P
set_option Elab.async false
set_option linter.all false
set_option maxRecDepth 100000
set_option maxHeartbeats 4000000
namespace P
open PySem L2
theorem has_adds {H:Hp} {L:Kn} (h:Has H L):∀ (ps:Kn),(∀ x ∈ ps,H x.1 = some x.2) -> ∃ N,Has H (N ++ L) /\ ∀ x ∈ ps,x ∈ N ++ L
 | [],_ => ⟨[],h,fun x hx => by cases hx⟩
 | p :: ps,hp => by
  obtain ⟨N,h1,h2⟩:=has_adds h ps fun x hx => hp x (List.mem_cons_of_mem _ hx)
  have e:=hp p List.mem_cons_self
  by_cases hm:p.1 ∈ (N ++ L).map (·.1)
  ·obtain ⟨x,hx,ex⟩:=List.mem_map.mp hm
   have e2:=h1.at_ x hx
   rw [ex,e] at e2
   have:p = x:=Prod.ext ex.symm (Option.some.inj e2)
   exact ⟨N,h1,fun y hy => by
    rcases List.mem_cons.mp hy with rfl | hy
    ·rw [this]; exact hx
    ·exact h2 y hy⟩
  ·refine ⟨p :: N,⟨?_,fun x hx => ?_⟩,fun y hy => ?_⟩
   ·show ((p :: (N ++ L)).map (·.1)).Nodup
    rw [List.map_cons]
    exact List.nodup_cons.mpr ⟨hm,h1.nd⟩
   ·rcases List.mem_cons.mp hx with rfl | hx
    ·exact e
    ·exact h1.at_ x hx
   ·rcases List.mem_cons.mp hy with rfl | hy
    ·exact List.mem_cons_self
    ·exact List.mem_cons_of_mem _ (h2 y hy)
theorem rise_eq {α:Type} (g:α -> Int):∀ {a b:List α},a.Pairwise (fun x y => g x < g y) -> b.Pairwise (fun x y => g x < g y) -> (∀ x,x ∈ a ↔ x ∈ b) -> a = b
 | [],[],_,_,_ => rfl
 | [],y :: b,_,_,h => absurd ((h y).mpr List.mem_cons_self) (by simp)
 | x :: a,[],_,_,h => absurd ((h x).mp List.mem_cons_self) (by simp)
 | x :: a,y :: b,ha,hb,h => by
  obtain ⟨h1,h2⟩:=List.pairwise_cons.mp ha
  obtain ⟨h3,h4⟩:=List.pairwise_cons.mp hb
  have e:x = y:=by
   rcases List.mem_cons.mp ((h x).mp List.mem_cons_self) with e | m
   ·exact e
   ·rcases List.mem_cons.mp ((h y).mpr List.mem_cons_self) with e | m2
    ·exact e.symm
    ·have:=h1 y m2
     have:=h3 x m
     omega
  subst e
  rw [rise_eq g h2 h4 fun z => ⟨fun m => ?_,fun m => ?_⟩]
  ·rcases List.mem_cons.mp ((h z).mp (List.mem_cons_of_mem _ m)) with e | m2
   ·subst e; have:=h1 z m; omega
   ·exact m2
  ·rcases List.mem_cons.mp ((h z).mpr (List.mem_cons_of_mem _ m)) with e | m2
   ·subst e; have:=h3 z m; omega
   ·exact m2
def kEn (ks:List Kd):List (Int × Kd):=ks.zipIdx.map fun p => ((p.2:Int),p.1)
theorem kEn_kmap (ks:List Kd):kmap (kEn ks) = kvOf ks:=by unfold kmap kEn kvOf; rw [List.map_map]; rfl
theorem kEn_len (ks:List Kd):(kEn ks).length = ks.length:=by unfold kEn; simp
theorem kEn_get {ks:List Kd} {i:Nat} (hi:i < ks.length):(kEn ks)[i]? = some ((i:Int),ks[i]):=by
 unfold kEn
 rw [List.getElem?_map,List.getElem?_zipIdx,List.getElem?_eq_getElem hi]
 simp
theorem kEn_mem {ks:List Kd} {p:Int × Kd} (h:p ∈ kEn ks):∃ i:Nat,p.1 = i /\ ks[i]? = some p.2:=by
 unfold kEn at h
 obtain ⟨x,hx,rfl⟩:=List.mem_map.mp h
 exact ⟨x.2,rfl,by simpa using List.mem_zipIdx_iff_getElem?.mp hx⟩
def lkE (W:Wd) (x:Int × Int):List Str:=(lnkF W x.1 x.2.toNat).map (lnT "link")
theorem lkL_ends (W:Wd) (ks:List Kd):lkL W (kEn ks) = (endsL ks).flatMap (lkE W):=by
 unfold lkL kEn endsL
 rw [List.flatMap_map,List.flatMap_assoc]
 congr 1
 funext p
 unfold lkP
 rw [List.flatMap_map]
 congr 1
theorem endsL_rise (ks:List Kd):(endsL ks).Pairwise fun x y => So.pk x.1 x.2 < So.pk y.1 y.2:=by
 have key:∀ (l:List Kd) (n:Nat),((l.zipIdx n).flatMap fun p => (List.range p.1.many.toNat).map fun e:Nat => ((p.2:Int),(e:Int))).Pairwise (fun x y => So.pk x.1 x.2 < So.pk y.1 y.2) /\ ∀ x ∈ ((l.zipIdx n).flatMap fun p => (List.range p.1.many.toNat).map fun e:Nat => ((p.2:Int),(e:Int))),(n:Int) <= x.1 /\ 0 <= x.2 /\ x.2 < 3:=by
  intro l
  induction l with
  | nil => intro n; simp
  | cons k l ih =>
   intro n
   obtain ⟨h1,h2⟩:=ih (n + 1)
   have km:=k.m3
   rw [List.zipIdx_cons,List.flatMap_cons]
   refine ⟨List.pairwise_append.mpr ⟨?_,h1,fun x hx y hy => ?_⟩,fun x hx => ?_⟩
   ·rw [List.pairwise_map]
    refine List.Pairwise.imp_of_mem ?_ List.pairwise_lt_range
    intro a b _ _ hab
    unfold So.pk
    dsimp only
    omega
   ·obtain ⟨e,he,rfl⟩:=List.mem_map.mp hx
    have he:=List.mem_range.mp he
    have:=h2 y hy
    unfold So.pk
    dsimp only at *
    omega
   ·rcases List.mem_append.mp hx with hx | hx
    ·obtain ⟨e,he,rfl⟩:=List.mem_map.mp hx
     have he:=List.mem_range.mp he
     dsimp only at *
     omega
    ·have:=h2 x hx
     omega
 exact (key ks 0).1
theorem valV_key {κ:Type} [DecidableEq κ]:∀ {kvs:List (κ × V)} {k:κ} {v:V},valV kvs k = some v -> k ∈ kvs.map (·.1)
 | [],k,v,h => by rw [valV_nil] at h; cases h
 | p :: r,k,v,h => by
  by_cases e:p.1 = k
  ·rw [List.map_cons,e]; exact .head _
  ·rw [valV_neg e] at h
   rw [List.map_cons]; exact .tail _ (valV_key h)
theorem valV_has {κ:Type} [DecidableEq κ]:∀ {kvs:List (κ × V)} {k:κ},k ∈ kvs.map (·.1) -> ∃ v,valV kvs k = some v
 | [],k,h => by cases h
 | p :: r,k,h => by
  by_cases e:p.1 = k
  ·exact ⟨p.2,valV_pos e⟩
  ·rw [valV_neg e]
   rw [List.map_cons] at h
   rcases List.mem_cons.mp h with h | h
   ·exact absurd h.symm e
   ·exact valV_has h
def kp (k:List Key):Int × Int:=match k with
 | [.inl a,.inl b] => (a,b)
 | _ => (0,0)
theorem kp_kE (n e:Int):kp (kE n e) = (n,e):=rfl
def prOf (as:List Addr) (m:List (List Key × V)):List Pr:=(as.zip m).map fun x => (x.1,kp x.2.1)
theorem prOf_V:∀ (as:List Addr) (m:List (List Key × V)),as.length = m.length -> prV (prOf as m) = as.map V.ref
 | [],[],_ => rfl
 | a :: as,x :: m,h => by
  have:=prOf_V as m (by simpa using h)
  unfold prV prOf at this ⊢
  rw [List.zip_cons_cons,List.map_cons,List.map_cons,this]
  rfl
theorem prOf_2:∀ (as:List Addr) (m:List (List Key × V)),as.length = m.length -> (prOf as m).map (·.2) = m.map fun x => kp x.1
 | [],[],_ => rfl
 | a :: as,x :: m,h => by
  have:=prOf_2 as m (by simpa using h)
  unfold prOf at this ⊢
  rw [List.zip_cons_cons,List.map_cons,List.map_cons,this]
  rfl
theorem prOf_mem {as:List Addr} {m:List (List Key × V)} {z:Pr} (h:z ∈ prOf as m):∃ (i:Nat) (x:List Key × V),as[i]? = some z.1 /\ m[i]? = some x /\ z.2 = kp x.1:=by
 unfold prOf at h
 obtain ⟨y,hy,rfl⟩:=List.mem_map.mp h
 obtain ⟨i,hi⟩:=List.getElem?_of_mem hy
 rw [List.getElem?_zip_eq_some] at hi
 exact ⟨i,y.2,hi.1,hi.2,rfl⟩
theorem lk_all {W:Wd} {ks:List Kd} {m:List (List Key × V)} {ps qs:List Pr} (mt:∀ n e,valV m (kE n e) = (W.mf n e).map fun z => V.ref z.1) (mks:∀ k ∈ m.map (·.1),∃ p ∈ endsL ks,k = kE p.1 p.2)
  (e2:ps.map (·.2) = m.map fun x => kp x.1) (hp:qs.Perm ps) (hs:qs.Pairwise PrLt):(qs.flatMap fun x => lkE W x.2) = lkL W (kEn ks):=by
 rw [lkL_ends]
 have e1:qs.map (·.2) = (endsL ks).filter fun x => (W.mf x.1 x.2).isSome:=by
  refine rise_eq (fun x:Int × Int => So.pk x.1 x.2) ?_ ((endsL_rise ks).filter _) fun x => ?_
  ·rw [List.pairwise_map]
   exact hs
  ·rw [(hp.map (·.2)).mem_iff,e2,List.mem_filter]
   constructor
   ·intro h
    obtain ⟨kv,hkv,rfl⟩:=List.mem_map.mp h
    have hk:=List.mem_map_of_mem (f:=(·.1)) hkv
    obtain ⟨p,h1,h2⟩:=mks _ hk
    obtain ⟨v,hv⟩:=valV_has hk
    rw [h2] at hv ⊢
    rw [mt] at hv
    refine ⟨by rw [kp_kE]; exact h1,?_⟩
    rw [kp_kE]
    cases e:W.mf p.1 p.2 with
    | none => rw [e] at hv; cases hv
    | some z => rfl
   ·rintro ⟨h1,h2⟩
    cases e:W.mf x.1 x.2 with
    | none => rw [e] at h2; cases h2
    | some z =>
     have hv:=mt x.1 x.2
     rw [e] at hv
     obtain ⟨kv,h3,h4⟩:=List.mem_map.mp (valV_key hv)
     exact List.mem_map.mpr ⟨kv,h3,by rw [h4]; exact kp_kE _ _⟩
 rw [show (qs.flatMap fun x => lkE W x.2) = (qs.map (·.2)).flatMap (lkE W) by rw [List.flatMap_map],e1]
 generalize hE:endsL ks = E
 have hE0:∀ x ∈ E,0 <= x.2:=fun x hx => by
  rw [<- hE] at hx
  obtain ⟨_,_,_,_,h,_⟩:=endsL_there (n:=x.1) (e:=x.2) hx
  exact h
 clear hE e1
 induction E with
 | nil => rfl
 | cons x E ih =>
  rw [List.flatMap_cons,<- ih fun y hy => hE0 y (List.mem_cons_of_mem _ hy),List.filter_cons]
  split
  ·rw [List.flatMap_cons]
  ·rename_i h
   have:lkE W x = []:=by
    unfold lkE lnkF
    have h0:=hE0 x List.mem_cons_self
    rw [Int.toNat_of_nonneg h0]
    cases e:W.mf x.1 x.2 with
    | none => rfl
    | some z => rw [e] at h; exact absurd rfl h
   rw [this,List.nil_append]
def sp_ll:Sp:=fun vs H Q _ => ∃ (x:Str) (a:Addr) (ns:List Int) (L:Kn),vs = [.str x,.ref a] /\ Has H L /\ (a,HO.lst (ns.map V.int)) ∈ L /\ x.length <= 100 /\ Nums ns /\ ∀ H',Has H' L -> Q (.str (lnT x ns)) H'
def sp_yl:Sp:=fun vs H Q _ => ∃ (kk nn rr sd mh gg:Addr) (ks:List Kd) (ns rs:List Int) (es:List En) (m:List (List Key × V)) (s:Sd) (on:Int) (y:YR) (L:Kn),vs = [.ref kk,.ref nn,.ref rr,.ref sd,.ref mh,.ref gg,enV s.at_,.int on] /\ Has H L /\
 (kk,HO.lst (ksV ks)) ∈ L /\ (nn,HO.lst (ns.map V.int)) ∈ L /\ (rr,HO.lst (rs.map V.int)) ∈ L /\ (sd,HO.lst (s.ss.map V.int)) ∈ L /\ (mh,HO.dT m) ∈ L /\ (gg,HO.lst (s.rg.map V.int)) ∈ L /\ Lw (wOf ks ns rs es m) ks ns rs m /\ (∀ k ∈ m.map (·.1),∃ p ∈ endsL ks,k = kE p.1 p.2) /\ m.length <= 80 /\
 Rep (wOf ks ns rs es m) s y /\ YFit (wOf ks ns rs es m) s (kEn ks) on /\ Pool (wOf ks ns rs es m) s L /\
 ∀ H' l,Has H' ((l,.lst ((ytL (wOf ks ns rs es m) s (kEn ks) on).map V.str)) :: L) -> Q (.ref l) H'
section
variable {P:Program} {w:World} {K:PySem.W.Frag} {mg:Str -> Option Value} {base:Heap} {t:Adr}
theorem scLi:FnScope ["_law_word","_law_numbers"] ["_law_word","_law_numbers"] (defScope s_line):=⟨rfl,rfl,rfl,by decide +kernel,rfl,by decide +kernel,by decide +kernel⟩
theorem ok_line (T:Txt K mg t):FnOk P w K mg base CX0 1 t.f_line t.d_line ["_law_word","_law_numbers"] sp_ll:=by
 refine T.F_line.ok scLi (fun vs H Q E h => ?_) (fun cdv A outer s H vs Q E hr h => ?_)
 ·obtain ⟨_,_,_,_,rfl,_⟩:=h
  rfl
 ·obtain ⟨y,a,ns,L,rfl,hH,ma,hy,hns,q⟩:=h
  have sq:∀ {H':Hp} {X:Kn},Has H' (X ++ L) -> SqL K H' a (ns.map V.int):=fun h => SqL.of (h.at_ (a,_) (List.mem_append_right _ ma))
  refine ⟨_,(pss_one (ps_ret (pe_bm PySem.F.plainAttrs_str PySem.F.slot_str_join PySem.F.type_str_join mt_join pe_str (pa_cons (pe_op op_addL (pe_lst (pa_cons (pv 0) pa_nil)) (pe_lc (esc:=defScope s_line) (k:=1) ["_law_number","_law_word","_law_numbers"] rfl (pi_list (pv 1)) (fun _ _ _ _ _ => by exact (pg_name (i:=0) (show List.Nodup (["_law_number","_law_word","_law_numbers"]:List Str) from by decide +kernel) rfl (Or.inl rfl))) (fun _ _ _ _ _ => by exact pts_nil) (fun _ _ _ _ _ => by exact (pe_callTy call_str_int (by rfl) T.z_str (by rfl) (pa_cons (pv 0) pa_nil))) rfl (by decide +kernel) (by decide +kernel) rfl (by decide +kernel) (by rfl) (fun _ _ h _ => h) (by decide +kernel))) pa_nil)))),?_⟩
  refine ⟨rfl,_,rfl,sz (show 1 <= 1000000 by decide),fun l1 hl1 => ?_⟩
  have h1:=hH.alloc hl1 (.lst [.str y])
  refine ⟨_,rfl,a,rfl,⟨_,sq (X:=[_]) h1⟩,fun D hD => ?_⟩
  refine ⟨fun n m zs H' => m = ns.length - n /\ n <= ns.length /\ zs = (ns.take n).map (fun x => V.str (nT x)) /\ Has H' ((D,.lst zs) :: (l1,.lst [.str y]) :: L),⟨_,rfl,Nat.zero_le _,rfl,h1.alloc hD _⟩,?_⟩
  rintro n m zs H2 ⟨rfl,hn,ez,h2⟩
  refine ⟨h2.get 0 rfl,?_⟩
  have g0:=sq (X:=[_,_]) h2
  have lz:zs.length <= 1000:=by rw [ez,List.length_map,List.length_take]; have:=hns.1; omega
  by_cases hlt:n < ns.length
  ·have hx0:(ns.map V.int)[n]? = some (.int ns[n]):=by rw [List.getElem?_map,List.getElem?_eq_getElem hlt]; rfl
   refine .inr ⟨⟨_,_,g0,hx0⟩,?_⟩
   rintro x H3 ⟨rfl,hx⟩
   have e1:=hx _ g0
   rw [hx0] at e1
   cases e1
   have nb:=hns.2 ns[n] (List.getElem_mem hlt)
   refine ⟨rfl,tTrueT ?_⟩
   refine ⟨_,rfl,_,rfl,nT_log nb.1 nb.2,?_⟩
   refine ⟨sizeOk (by omega),h2.get 0 rfl,ns.length - (n + 1),by omega,rfl,hlt,?_,h2.puti 0 rfl _⟩
   rw [ez,List.take_succ,List.getElem?_eq_getElem hlt,List.map_append]
   rfl
  ·refine .inl ⟨⟨_,g0,by rw [List.length_map]; omega⟩,?_⟩
   have en:n = ns.length:=by omega
   rw [en,List.take_length] at ez
   refine ⟨l1,D,_,_,rfl,rfl,SqL.of (h2.get 1 rfl),SqL.of (h2.get 0 rfl),Nat.le_trans (show [V.str y].length + zs.length <= 1001 by simp; omega) (sz (show 1001 <= 1000000 by decide)),fun l hl => ?_⟩
   have h3:=h2.alloc hl (.lst ([.str y] ++ zs))
   have e3:[V.str y] ++ zs = (y :: ns.map nT).map V.str:=by rw [ez]; simp
   rw [e3] at h3 ⊢
   refine ⟨_,l,y :: ns.map nT,rfl,rfl,SqL.of (h3.get 0 rfl),joinOk (M:=100) (ln_items hy hns) ?_,q _ h3.tail.tail.tail⟩
   have:=hns.1
   rw [List.length_cons,List.length_map,show (Str.ofString " ").length = 1 from rfl]
   exact sz (by omega)
theorem scYl:FnScope ["_law_kinds_here","_law_notes","_law_rods","_law_sides","_law_mates","_law_rung","_law_at","_law_on","_law_lines","_law_bar","_law_side","_law_piece","_law_kind_here","_law_numbers","_law_end"] ["_law_kinds_here","_law_notes","_law_rods","_law_sides","_law_mates","_law_rung","_law_at","_law_on"] (defScope s_Je):=⟨rfl,rfl,rfl,by decide +kernel,rfl,by decide +kernel,by decide +kernel⟩
theorem ok_Je (T:Txt K mg t):FnOk P w K mg base CX0 3 t.f_Je t.d_Je ["_law_kinds_here","_law_notes","_law_rods","_law_sides","_law_mates","_law_rung","_law_at","_law_on"] sp_yl:=by
 refine T.F_Je.ok scYl (fun vs H Q E h => ?_) (fun cdv A outer s H vs Q E hr h => ?_)
 ·obtain ⟨_,_,_,_,_,_,_,_,_,_,_,_,_,_,_,rfl,_⟩:=h
  rfl
 ·obtain ⟨kk,nn,rr,sd,mh,gg,ks,ns,rs,es,m,s,on,y,L,rfl,hH,mk,mn,mr,ms,mm,mg_,lw,mks,ml,R,f,PL,q⟩:=h
  have hu:=hu_of hr
  refine ⟨_,(pss_cons (ps_set (i:=8) scYl.nd rfl (Or.inl rfl) (pe_lst (pa_cons (pe_call (ok_line T) (hr.mono (by decide)) (by rfl) T.m_line T.F_line.kp (b_line T) .nil pass0 (@pa_cons _ _ _ _ _ pe_str (@pa_cons _ _ _ _ _ (pe_lst (pa_cons (pv 7) (pa_cons (pe_callB call_len_seq (by rfl) T.z_len (by rfl) (pa_cons (pv 3) pa_nil)) pa_nil))) pa_nil (by rfl)) (by rfl))) pa_nil)))
   (pss_cons (ps_for PassesOwn.never rfl (pi_enum (by rfl) T.z_enumerate (pa_cons (pv 3) pa_nil)) (pg_tup rfl (pgs_cons (pg_name (i:=9) scYl.nd rfl (Or.inl rfl)) (pgs_cons (pg_name (i:=10) scYl.nd rfl (Or.inl rfl)) pgs_nil)))
    (pss_one (ps_expr (pe_bm PySem.F.plainAttrs_list PySem.F.slot_list_append PySem.F.type_list_append mt_append (pv 8) (pa_cons (pe_call (ok_line T) (hr.mono (by decide)) (by rfl) T.m_line T.F_line.kp (b_line T) .nil pass0 (@pa_cons _ _ _ _ _ pe_str (@pa_cons _ _ _ _ _ (pe_lst (pa_cons (pv 9) (pa_cons (pv 10) pa_nil))) pa_nil (by rfl)) (by rfl))) pa_nil)))))
   (pss_cons (ps_for PassesOwn.never rfl (pi_enum (by rfl) T.z_enumerate (pa_cons (pv 0) pa_nil)) (pg_tup rfl (pgs_cons (pg_name (i:=11) scYl.nd rfl (Or.inl rfl)) (pgs_cons (pg_name (i:=12) scYl.nd rfl (Or.inl rfl)) pgs_nil)))
    (pss_cons (ps_set (i:=13) scYl.nd rfl (Or.inl rfl) (pe_lst (pa_cons (pv 11) pa_nil)))
     (pss_cons (ps_cut (ps_if (pt_cmpR op_eq (pv 12) pe_str (nomark _))
      (pss_one (ps_expr (pe_bm PySem.F.plainAttrs_list PySem.F.slot_list_append PySem.F.type_list_append mt_append (pv 13) (pa_cons (pe_ix ix_list (pv 1) (pv 11) (fun _ _ => rfl)) pa_nil))))
      pss_nil))
     (pss_cons (ps_cut (ps_if (pt_cmpR op_eq (pe_call (ok_many T) (hr.mono (by decide)) (by rfl) T.m_many T.F_many.kp (b_many T) .nil pass0 (pa_cons (pv 12) pa_nil)) pe_int (nomark _))
      (pss_one (ps_expr (pe_bm PySem.F.plainAttrs_list PySem.F.slot_list_append PySem.F.type_list_append mt_append (pv 13) (pa_cons (pe_ix ix_list (pv 2) (pv 11) (fun _ _ => rfl)) pa_nil))))
      pss_nil))
     (pss_one (ps_expr (pe_bm PySem.F.plainAttrs_list PySem.F.slot_list_append PySem.F.type_list_append mt_append (pv 8) (pa_cons (pe_call (ok_line T) (hr.mono (by decide)) (by rfl) T.m_line T.F_line.kp (b_line T) .nil pass0 (pa_cons (pv 12) (pa_cons (pv 13) pa_nil))) pa_nil))))))))
   (pss_cons (ps_for PassesOwn.never rfl (pi_list (pe_callB call_sortedL (by rfl) T.z_sorted (by rfl) (pa_cons (pe_callTy (call_list_dT rfl) (by rfl) T.z_list (by rfl) (pa_cons (pv 4) pa_nil)) pa_nil))) (pg_name (i:=14) scYl.nd rfl (Or.inl rfl))
    (pss_one (ps_cut (ps_if (pt_cmpR (op_ltT (Nat.lt_of_le_of_lt (Nat.le_add_right _ 64) hr.units)) (pv 14) (pe_dget hu (pv 4) (pv 14) (fun _ _ => rfl)) (nomark _))
      (pss_one (ps_expr (pe_bm PySem.F.plainAttrs_list PySem.F.slot_list_append PySem.F.type_list_append mt_append (pv 8) (pa_cons (pe_call (ok_line T) (hr.mono (by decide)) (by rfl) T.m_line T.F_line.kp (b_line T) .nil pass0 (pa_cons pe_str (pa_cons (pe_op op_addL (pe_callTy call_list_of (by rfl) T.z_list (by rfl) (pa_cons (pv 14) pa_nil)) (pe_callTy call_list_of (by rfl) T.z_list (by rfl) (pa_cons (pe_dget hu (pv 4) (pv 14) (fun _ _ => rfl)) pa_nil))) pa_nil))) pa_nil))))
      pss_nil))))
   (pss_cons (ps_cut (ps_if (pt_cmpR op_notN (pv 6) pe_non (nomark _))
    (pss_one (ps_expr (pe_bm PySem.F.plainAttrs_list PySem.F.slot_list_append PySem.F.type_list_append mt_append (pv 8) (pa_cons (pe_call (ok_line T) (hr.mono (by decide)) (by rfl) T.m_line T.F_line.kp (b_line T) .nil pass0 (pa_cons pe_str (pa_cons (pe_callTy call_list_of (by rfl) T.z_list (by rfl) (pa_cons (pv 6) pa_nil)) pa_nil))) pa_nil))))
    pss_nil))
   (pss_cons (ps_cut (ps_if (pt_cmpR (op_neL hr.units) (pv 5) (pe_lst pa_nil) (nomark _))
    (pss_one (ps_expr (pe_bm PySem.F.plainAttrs_list PySem.F.slot_list_append PySem.F.type_list_append mt_append (pv 8) (pa_cons (pe_call (ok_line T) (hr.mono (by decide)) (by rfl) T.m_line T.F_line.kp (b_line T) .nil pass0 (pa_cons pe_str (pa_cons (pv 5) pa_nil))) pa_nil))))
    pss_nil))
   (pss_one (ps_ret (pv 8))))))))),?_⟩
  rw []
  have gL:∀ {H':Hp} {X:Kn} {z:Addr × HO},Has H' (X ++ L) -> z ∈ L -> H' z.1 = some z.2:=fun h m => h.at_ _ (List.mem_append_right _ m)
  obtain ⟨W,eW⟩:∃ W,wOf ks ns rs es m = W:=⟨_,rfl⟩
  have kfi:∀ i:Nat,W.kf i = ks[i]?:=fun i => by rw [<- eW]; exact wOf_kn i
  rw [eW] at lw R f PL q
  have sl:=f.sl
  have kb:=f.kl
  rw [kEn_len] at kb
  refine ⟨_,rfl,_,rfl,sd,_,rfl,.inl (SqL.of (gL (X:=[]) hH ms)),sz (show 2 <= 1000000 by decide),fun l0 hl0 => ?_⟩
  rw [List.length_map]
  have h1:=hH.alloc hl0 (.lst [.int on,.int s.ss.length])
  generalize upd H l0 _ = H1 at h1 ⊢
  refine ⟨"next",l0,[on,(s.ss.length:Int)],_,rfl,h1,List.mem_cons_self,by decide +kernel,nums2 ⟨f.nx.1,by have:=f.nx.2; omega⟩ ⟨by omega,by omega⟩,fun H2 h2 => ?_⟩
  have h2:=h2.tail
  refine ⟨sz (show 1 <= 1000000 by decide),fun ll hll => ?_⟩
  obtain ⟨N0,eN0⟩:∃ N0:List Str,[lnT "next" [on,(s.ss.length:Int)]] = N0:=⟨_,rfl⟩
  have l0:N0.length = 1:=by rw [<- eN0]; rfl
  have h3:=h2.alloc hll (.lst (N0.map V.str))
  have e3:[V.str (lnT "next" [on,(s.ss.length:Int)])] = N0.map V.str:=by rw [<- eN0]; rfl
  rw [e3]
  generalize upd H2 ll _ = H3 at h3 ⊢
  clear h2 h1 hH
  dsimp only [List.set]
  have rdk:∀ i,i < s.ss.length -> (rdL s).take (i + 1) = (rdL s).take i ++ [lnT "rod" [(i:Int),s.ss.getD i 0]]:=fun i hi => by
   rw [List.take_succ]
   congr 1
   unfold rdL
   rw [List.getElem?_map,List.getElem?_eq_getElem (by rw [List.length_range]; exact hi)]
   simp
  have lr:(rdL s).length = s.ss.length:=by unfold rdL; rw [List.length_map,List.length_range]
  refine ⟨_,rfl,sd,rfl,⟨_,SqL.of (gL (X:=[_]) h3 ms)⟩,for_enum (xs:=s.ss.map V.int) (fun i σ H' => ∃ o1 o2:Option V,σ = [some (.ref kk),some (.ref nn),some (.ref rr),some (.ref sd),some (.ref mh),some (.ref gg),some (enV s.at_),some (.int on),some (.ref ll),o1,o2,none,none,none,none] /\ Has H' ((ll,HO.lst ((N0 ++ (rdL s).take i).map V.str)) :: L)) ⟨_,_,rfl,by simpa using h3⟩ (fun i σ H' _ ⟨_,_,_,h⟩ => SqL.of (gL (X:=[_]) h ms)) ?_ ?_⟩
  ·clear h3
   rintro i x σ H4 p hx ⟨o1,o2,rfl,h4⟩ hp
   have hi:i < s.ss.length:=by have:=(List.getElem?_eq_some_iff.mp hx).1; simpa using this
   have gs:s.ss[i]? = some (s.ss.getD i 0):=by rw [List.getD_eq_getElem?_getD,List.getElem?_eq_getElem hi]; rfl
   have ex:x = .int (s.ss.getD i 0):=by
    rw [List.getElem?_map,gs] at hx
    exact (Option.some.inj hx).symm
   subst ex
   have v12:=R.s12 _ (List.mem_of_getElem? gs)
   have h5:=h4.alloc hp (.tup [.int i,.int (s.ss.getD i 0)])
   generalize upd H4 p _ = H5 at h5 ⊢
   refine ⟨p,_,rfl,SqT.of (h5.get 0 rfl),rfl,_,_,rfl,_,_,rfl,rfl,?_⟩
   have h5:=h5.tail
   dsimp only [List.set]
   refine ⟨_,rfl,.inl ⟨rfl,_,SqL.of (h5.get 0 rfl)⟩,_,rfl,_,rfl,sz (show 2 <= 1000000 by decide),fun l5 hl5 => ?_⟩
   have h6:=h5.alloc hl5 (.lst [.int (i:Int),.int (s.ss.getD i 0)])
   generalize upd H5 l5 _ = H6 at h6 ⊢
   refine ⟨"rod",l5,[(i:Int),s.ss.getD i 0],_,rfl,h6,List.mem_cons_self,by decide +kernel,nums2 ⟨by omega,by omega⟩ ⟨by omega,by omega⟩,fun H7 h7 => ?_⟩
   have h7:=h7.tail
   have lt:((rdL s).take i).length <= 30:=by rw [List.length_take]; omega
   refine ⟨ll,_,_,rfl,rfl,h7.get 0 rfl,sizeOk (by rw [List.length_map,List.length_append]; omega),?_⟩
   refine ⟨_,_,rfl,?_⟩
   rw [rdk i hi,<- List.append_assoc,List.map_append (l₁:=N0 ++ (rdL s).take i)]
   exact h7.puti 0 rfl _
  clear h3
  rintro σ H4 ⟨o1,o2,rfl,h4⟩
  rw [show (s.ss.map V.int).length = (rdL s).length by rw [lr]; simp,List.take_length] at h4
  obtain ⟨N1,eN1⟩:∃ N1:List Str,N0 ++ rdL s = N1:=⟨_,rfl⟩
  have l1:N1.length <= 31:=by rw [<- eN1,List.length_append]; omega
  rw [eN1] at h4
  refine ⟨_,rfl,kk,rfl,⟨_,SqL.of (gL (X:=[_]) h4 mk)⟩,for_enum (xs:=ksV ks) (fun i σ H' => ∃ o3 o4 o5:Option V,σ = [some (.ref kk),some (.ref nn),some (.ref rr),some (.ref sd),some (.ref mh),some (.ref gg),some (enV s.at_),some (.int on),some (.ref ll),o1,o2,o3,o4,o5,none] /\ Has H' ((ll,HO.lst ((N1 ++ ((kEn ks).map (pcL W)).take i).map V.str)) :: L)) ⟨_,_,_,rfl,by simpa using h4⟩ (fun i σ H' _ ⟨_,_,_,_,h⟩ => SqL.of (gL (X:=[_]) h mk)) ?_ ?_⟩
  ·clear h4
   rintro i x σ H4 p hx ⟨o3,o4,o5,rfl,h4⟩ hp
   have hi:i < ks.length:=by have:=(List.getElem?_eq_some_iff.mp hx).1; unfold ksV at this; simpa using this
   obtain ⟨k,ekk⟩:∃ k,ks[i] = k:=⟨_,rfl⟩
   have gk:ks[i]? = some k:=by rw [List.getElem?_eq_getElem hi,ekk]
   have hk:W.kf (i:Int) = some k:=by rw [kfi,gk]
   have ex:x = .str k.str:=by
    unfold ksV at hx
    rw [List.getElem?_map,gk] at hx
    exact (Option.some.inj hx).symm
   subst ex
   have tk:((kEn ks).map (pcL W)).take (i + 1) = ((kEn ks).map (pcL W)).take i ++ [pcL W ((i:Int),k)]:=by rw [List.take_succ,List.getElem?_map,kEn_get hi,ekk]; rfl
   have lt:(((kEn ks).map (pcL W)).take i).length <= 30:=by rw [List.length_take,List.length_map,kEn_len]; omega
   have h5:=h4.alloc hp (.tup [.int i,.str k.str])
   generalize upd H4 p _ = H5 at h5 ⊢
   refine ⟨p,_,rfl,SqT.of (h5.get 0 rfl),rfl,_,_,rfl,_,_,rfl,rfl,?_⟩
   have h5:=h5.tail
   dsimp only [List.set]
   refine ⟨_,rfl,sz (show 1 <= 1000000 by decide),fun np hnp => ?_⟩
   have h6:=h5.alloc hnp (.lst ([(i:Int)].map V.int))
   have e6:[V.int (i:Int)] = [(i:Int)].map V.int:=rfl
   rw [e6]
   generalize upd H5 np _ = H6 at h6 ⊢
   dsimp only [List.set]
   obtain ⟨D,eD⟩:∃ D:List Str,N1 ++ ((kEn ks).map (pcL W)).take i = D:=⟨_,rfl⟩
   have lD:D.length <= 61:=by rw [<- eD,List.length_append]; omega
   rw [tk,<- List.append_assoc,eD]
   rw [eD] at h6
   refine ⟨fun σ' H' => σ' = [some (.ref kk),some (.ref nn),some (.ref rr),some (.ref sd),some (.ref mh),some (.ref gg),some (enV s.at_),some (.int on),some (.ref ll),o1,o2,some (.int i),some (.str k.str),some (.ref np),none] /\ Has H' ((np,HO.lst (([(i:Int)] ++ (if k = .bell then [W.nf i] else [])).map V.int)) :: (ll,HO.lst (D.map V.str)) :: L),?_,?_⟩
   ·refine ⟨_,rfl,rfl,_,rfl,?_⟩
    rw [k.isBell]
    refine ifd (fun c => ?_) (fun c => ?_)
    ·have hn:(ns.map V.int)[i]? = some (.int (W.nf i)):=by
      rw [lw.nf i,List.getD_eq_getElem?_getD,List.getElem?_map,List.getElem?_eq_getElem (by rw [lw.nl]; exact hi)]
      rfl
     refine ⟨_,rfl,.inl ⟨rfl,_,SqL.of (h6.get 0 rfl)⟩,_,rfl,_,rfl,nn,_,_,_,rfl,rfl,SqL.of (gL (X:=[_,_]) h6 mn),atI_nat hn,np,_,_,rfl,rfl,h6.get 0 rfl,sizeOk (by simp),rfl,?_⟩
     rw [if_pos c,List.map_append]
     exact h6.puti 0 rfl _
    ·refine ⟨rfl,?_⟩
     rw [if_neg c,List.append_nil]
     exact h6
   clear h6
   rintro σ' H6 ⟨rfl,h6⟩
   obtain ⟨D1,eD1⟩:∃ D1:List Int,[(i:Int)] ++ (if k = .bell then [W.nf i] else []) = D1:=⟨_,rfl⟩
   have lD1:D1.length <= 2:=by rw [<- eD1,List.length_append]; split <;> simp
   rw [eD1] at h6
   refine ⟨fun σ' H' => σ' = [some (.ref kk),some (.ref nn),some (.ref rr),some (.ref sd),some (.ref mh),some (.ref gg),some (enV s.at_),some (.int on),some (.ref ll),o1,o2,some (.int i),some (.str k.str),some (.ref np),none] /\ Has H' ((np,HO.lst ((D1 ++ (if k.point = true then [W.rf i] else [])).map V.int)) :: (ll,HO.lst (D.map V.str)) :: L),?_,?_⟩
   ·refine ⟨_,rfl,k,rfl,rfl,_,rfl,?_⟩
    rw [decInt,show decide (k.many = 3) = k.point by cases k <;> rfl]
    refine if2 (fun c => ?_) (fun c => ?_)
    ·have hn:(rs.map V.int)[i]? = some (.int (W.rf i)):=by
      rw [lw.rf i,List.getD_eq_getElem?_getD,List.getElem?_map,List.getElem?_eq_getElem (by rw [lw.rl]; exact hi)]
      rfl
     refine ⟨_,rfl,.inl ⟨rfl,_,SqL.of (h6.get 0 rfl)⟩,_,rfl,_,rfl,rr,_,_,_,rfl,rfl,SqL.of (gL (X:=[_,_]) h6 mr),atI_nat hn,np,_,_,rfl,rfl,h6.get 0 rfl,sizeOk (by rw [List.length_map]; omega),rfl,?_⟩
     rw [if_pos c,List.map_append]
     exact h6.puti 0 rfl _
    ·refine ⟨rfl,?_⟩
     rw [if_neg (by rw [c]; exact Bool.false_ne_true),List.append_nil]
     exact h6
   clear h6
   rintro σ' H6 ⟨rfl,h6⟩
   have eD2:D1 ++ (if k.point = true then [W.rf i] else []) = pcN W ((i:Int),k):=by
    rw [<- eD1]
    unfold pcN
    dsimp only
    by_cases c:k = .bell
    ·rw [if_pos c,if_pos c,c]; rfl
    ·rw [if_neg c,if_neg c]
     by_cases c2:k.point = true
     ·rw [if_pos c2,if_pos c2]; rfl
     ·rw [if_neg c2,if_neg c2]; rfl
   rw [eD2] at h6
   refine ⟨_,rfl,.inl ⟨rfl,_,SqL.of (h6.get 1 rfl)⟩,_,rfl,_,rfl,k.str,np,pcN W ((i:Int),k),_,rfl,h6,List.mem_cons_self,Nat.le_trans k.strl (by decide),pc_nums f R (p:=((i:Int),k)) hk,fun H7 h7 => ?_⟩
   have h7:=h7.tail
   refine ⟨ll,_,_,rfl,rfl,h7.get 0 rfl,sizeOk (by rw [List.length_map]; omega),?_⟩
   refine ⟨_,_,_,rfl,?_⟩
   rw [List.map_append]
   exact h7.puti 0 rfl _
  clear h4
  rintro σ H4 ⟨o3,o4,o5,rfl,h4⟩
  rw [show (ksV ks).length = ((kEn ks).map (pcL W)).length by unfold ksV; rw [List.length_map,List.length_map,kEn_len],List.take_length] at h4
  obtain ⟨N2,eN2⟩:∃ N2:List Str,N1 ++ (kEn ks).map (pcL W) = N2:=⟨_,rfl⟩
  have l2:N2.length <= 61:=by rw [<- eN2,List.length_append,List.length_map,kEn_len]; omega
  rw [eN2] at h4
  refine ⟨_,rfl,mh,m,rfl,gL (X:=[_]) h4 mm,fun l1 as hl1 las nd hks => ?_⟩
  obtain ⟨ps,eps⟩:∃ ps,prOf as m = ps:=⟨_,rfl⟩
  have ev:as.map V.ref = prV ps:=by rw [<- eps,prOf_V _ _ las]
  have ev2:ps.map (·.2) = m.map fun x => kp x.1:=by rw [<- eps,prOf_2 _ _ las]
  have pT:∀ z ∈ ps,H4 z.1 = some (.tup [.int z.2.1,.int z.2.2]) /\ z.2 ∈ endsL ks /\ ∃ v,valV m (kE z.2.1 z.2.2) = some v:=fun z hz => by
   rw [<- eps] at hz
   obtain ⟨i,x,h5,h6,h7⟩:=prOf_mem hz
   have hkm:x.1 ∈ m.map (·.1):=List.mem_map_of_mem (List.mem_of_getElem? h6)
   obtain ⟨p,hp1,hp2⟩:=mks _ hkm
   have h8:=hks i x.1 x.2 z.1 (by rw [h6]) h5
   rw [hp2,kp_kE] at h7
   rw [h7]
   exact ⟨by rw [hp2] at h8; exact h8,hp1,by rw [<- hp2]; exact valV_has hkm⟩
  have lps:ps.length = m.length:=by simpa using congrArg List.length ev2
  rw [ev]
  have h5:=h4.alloc hl1 (.lst (prV ps))
  have pT5:∀ x ∈ (ps.map fun z => (z.1,HO.tup [.int z.2.1,.int z.2.2]):Kn),upd H4 l1 (.lst (prV ps)) x.1 = some x.2:=fun x hx => by
   obtain ⟨z,hz,rfl⟩:=List.mem_map.mp hx
   have:=(pT z hz).1
   rw [upd_ne (fun e => by dsimp only at e; rw [e,hl1] at this; cases this)]
   exact this
  obtain ⟨N,h6,hN⟩:=has_adds h5 _ pT5
  generalize upd H4 l1 _ = H5 at h6 ⊢
  obtain ⟨M,eM⟩:∃ M:Kn,N ++ [(l1,HO.lst (prV ps))] = M:=⟨_,rfl⟩
  have h6:Has H5 ((ll,HO.lst (N2.map V.str)) :: (M ++ L)):=by
   rw [<- eM]
   refine h6.perm ?_
   rw [show N ++ (l1,HO.lst (prV ps)) :: (ll,HO.lst (N2.map V.str)) :: L = (N ++ [(l1,HO.lst (prV ps))]) ++ (ll,HO.lst (N2.map V.str)) :: L by simp]
   exact List.perm_middle
  have hM:∀ z ∈ ps,(z.1,HO.tup [.int z.2.1,.int z.2.2]) ∈ M ++ L:=fun z hz => by
   have h7:=hN _ (List.mem_map_of_mem (f:=fun z:Pr => (z.1,HO.tup [.int z.2.1,.int z.2.2])) hz)
   rw [<- eM]
   simp only [List.mem_append,List.mem_cons,List.not_mem_nil,or_false] at h7 ⊢
   rcases h7 with h7 | h7 | h7 | h7
   ·exact .inl (.inl h7)
   ·exact .inl (.inr h7)
   ·cases h7
   ·exact .inr h7
  have ml1:(l1,HO.lst (prV ps)) ∈ M ++ L:=by rw [<- eM]; simp
  have mL:∀ z ∈ L,z ∈ M ++ L:=fun z hz => List.mem_append_right _ hz
  clear h4 h5 pT5 eM hN hks
  have hndp:(ps.map (·.2)).Nodup:=by
   rw [ev2]
   rw [show (m.map fun x => kp x.1) = (m.map (·.1)).map kp by rw [List.map_map]; rfl]
   unfold List.Nodup at nd ⊢
   rw [List.pairwise_map]
   refine List.Pairwise.imp_of_mem ?_ nd
   intro a b ha hb hne e
   obtain ⟨p,_,rfl⟩:=mks a ha
   obtain ⟨p2,_,rfl⟩:=mks b hb
   rw [kp_kE,kp_kE] at e
   exact hne (by injection e with e1 e2; rw [e1,e2])
  have pin:∀ z ∈ ps,0 <= z.2.2 /\ z.2.2 < 3:=fun z hz => by
   obtain ⟨_,k,_,_,h5,h6⟩:=endsL_there (n:=z.2.1) (e:=z.2.2) (pT z hz).2.1
   have:=k.m3
   exact ⟨h5,by omega⟩
  refine ⟨l1,ps,rfl,SqL.of (h6.tail.at_ _ ml1),⟨fun z hz => SqT.of (h6.tail.at_ _ (hM z hz)),fun z hz => ⟨(pin z hz).1,by have:=(pin z hz).2; omega⟩,hndp,by omega⟩,fun l2 qs hl2 hqp hqs => ?_⟩
  have h7:=(h6.alloc hl2 (.lst (prV qs))).swap2
  generalize upd H5 l2 _ = H6 at h7 ⊢
  clear h6
  have lq:qs.length = m.length:=by rw [hqp.length_eq,lps]
  have lkq:∀ i,((qs.take i).flatMap fun x => lkE W x.2).length <= i:=fun i => by
   induction i with
   | zero => simp
   | succ i ih =>
    rw [List.take_succ,List.flatMap_append,List.length_append]
    have:∀ o:Option Pr,(o.toList.flatMap fun x => lkE W x.2).length <= 1:=fun o => by
     cases o with
     | none => simp
     | some x =>
      simp only [Option.toList,List.flatMap_cons,List.flatMap_nil,List.append_nil]
      unfold lkE lnkF
      rw [List.length_map]
      split
      ·split <;> simp
      ·simp
    have:=this qs[i]?
    omega
  refine ⟨l2,rfl,⟨_,SqL.of (h7.get 1 rfl)⟩,for_list (xs:=prV qs) (fun i σ H' => ∃ o6:Option V,σ = [some (.ref kk),some (.ref nn),some (.ref rr),some (.ref sd),some (.ref mh),some (.ref gg),some (enV s.at_),some (.int on),some (.ref ll),o1,o2,o3,o4,o5,o6] /\ Has H' ((ll,HO.lst ((N2 ++ (qs.take i).flatMap fun x => lkE W x.2).map V.str)) :: (l2,.lst (prV qs)) :: (M ++ L))) ⟨_,rfl,by simpa using h7⟩ (fun i σ H' _ ⟨_,_,h⟩ => SqL.of (h.get 1 rfl)) ?_ ?_⟩
  ·clear h7
   rintro i x σ H7 hx ⟨o6,rfl,h7⟩
   unfold prV at hx
   rw [List.getElem?_map] at hx
   obtain ⟨z,hz,rfl⟩:=Option.map_eq_some_iff.mp hx
   have iq:=(List.getElem?_eq_some_iff.mp hz).1
   have zm:=hqp.mem_iff.mp (List.mem_of_getElem? hz)
   obtain ⟨_,zE,v,hv⟩:=pT z zm
   obtain ⟨z',hz'⟩:∃ z',W.mf z.2.1 z.2.2 = some z':=by
    have:=lw.mt z.2.1 z.2.2
    rw [hv] at this
    cases e:W.mf z.2.1 z.2.2 with
    | none => rw [e] at this; cases this
    | some z' => exact ⟨z',rfl⟩
   have hv':valV m (kE z.2.1 z.2.2) = some (.ref z'.1):=by rw [lw.mt,hz']; rfl
   obtain ⟨jz,hjz⟩:=PL.m _ _ z' hz'
   have mz':=mL _ (List.mem_of_getElem? hjz)
   have oz:=ok_nums f (R.mo _ _ _ hz')
   have z0:=(pin z zm).1
   have z3:=(pin z zm).2
   obtain ⟨k0,hk0,_⟩:∃ k,W.kf z.2.1 = some k /\ True:=by
    obtain ⟨j,k,h8,h9,_⟩:=endsL_there (n:=z.2.1) (e:=z.2.2) zE
    exact ⟨k,by rw [h8,kfi]; exact h9,trivial⟩
   have kn:=f.k _ _ hk0
   have tk:((qs.take (i + 1)).flatMap fun x => lkE W x.2) = ((qs.take i).flatMap fun x => lkE W x.2) ++ lkE W z.2:=by rw [List.take_succ,hz,List.flatMap_append]; simp
   have lt:=lkq i
   obtain ⟨D,eD⟩:∃ D:List Str,(N2 ++ (qs.take i).flatMap fun x => lkE W x.2) = D:=⟨_,rfl⟩
   have lD:D.length <= 200:=by rw [<- eD,List.length_append]; omega
   rw [tk,<- List.append_assoc,eD]
   rw [eD] at h7
   have gM:∀ {H':Hp} {X:Kn} {u:Addr × HO},Has H' (X ++ (M ++ L)) -> u ∈ M ++ L -> H' u.1 = some u.2:=fun h m => h.at_ _ (List.mem_append_right _ m)
   have dg:∀ {H':Hp} {X:Kn},Has H' (X ++ (M ++ L)) -> DGet H' mh (.ref z.1) (some (.ref z'.1)):=fun h => by
    rw [<- hv']
    exact DGet.t (k:=kE z.2.1 z.2.2) (gM h (mL _ mm)) (gM h (hM z zm))
   dsimp only [List.set]
   refine ⟨fun σ' H' => σ' = [some (.ref kk),some (.ref nn),some (.ref rr),some (.ref sd),some (.ref mh),some (.ref gg),some (enV s.at_),some (.int on),some (.ref ll),o1,o2,o3,o4,o5,some (.ref z.1)] /\ Has H' ((ll,HO.lst ((D ++ lkE W z.2).map V.str)) :: (l2,.lst (prV qs)) :: (M ++ L)),?_,?_⟩
   ·refine ⟨_,rfl,_,rfl,_,rfl,mh,_,rfl,dg (X:=[_,_]) h7,z.1,z'.1,[z.2.1,z.2.2],[z'.2.1,z'.2.2],rfl,rfl,SqT.of (gM (X:=[_,_]) h7 (hM z zm)),SqT.of (gM (X:=[_,_]) h7 mz'),_,rfl,?_⟩
    have elk:lkE W z.2 = if HT.lexLt [z.2.1,z.2.2] [z'.2.1,z'.2.2] = true then [lnT "link" [z.2.1,z.2.2,z'.2.1,z'.2.2]] else []:=by
     unfold lkE lnkF
     rw [Int.toNat_of_nonneg z0,hz']
     dsimp only
     split <;> rfl
    cases hlt:HT.lexLt [z.2.1,z.2.2] [z'.2.1,z'.2.2] with
    | false =>
     refine iteF ⟨rfl,?_⟩
     rw [elk,hlt,if_neg (by simp),List.append_nil]
     exact h7
    | true =>
     refine iteT ?_
     rw [elk,hlt,if_pos rfl]
     refine ⟨_,rfl,.inl ⟨rfl,_,SqL.of (h7.get 0 rfl)⟩,_,rfl,z.1,_,rfl,.inr (SqT.of (gM (X:=[_,_]) h7 (hM z zm))),fun la hla => ?_⟩
     have h8:=h7.alloc hla (.lst [.int z.2.1,.int z.2.2])
     generalize upd H7 la _ = H8 at h8 ⊢
     refine ⟨_,rfl,_,rfl,mh,_,rfl,dg (X:=[_,_,_]) h8,z'.1,_,rfl,.inr (SqT.of (gM (X:=[_,_,_]) h8 mz')),fun lb hlb => ?_⟩
     have h9:=h8.alloc hlb (.lst [.int z'.2.1,.int z'.2.2])
     generalize upd H8 lb _ = H9 at h9 ⊢
     refine ⟨la,lb,_,_,rfl,rfl,SqL.of (h9.get 1 rfl),SqL.of (h9.get 0 rfl),sz (show 4 <= 1000000 by decide),fun lc hlc => ?_⟩
     have h10:=h9.alloc hlc (.lst ([z.2.1,z.2.2,z'.2.1,z'.2.2].map V.int))
     refine ⟨"link",lc,[z.2.1,z.2.2,z'.2.1,z'.2.2],_,rfl,h10,List.mem_cons_self,by decide +kernel,nums4 ⟨kn.1,by omega⟩ ⟨z0,by omega⟩ oz.1 oz.2,fun H11 h11 => ?_⟩
     have h11:=h11.tail.tail.tail
     refine ⟨ll,_,_,rfl,rfl,h11.get 0 rfl,sizeOk (by rw [List.length_map]; omega),rfl,?_⟩
     rw [List.map_append]
     exact h11.puti 0 rfl _
   ·rintro σ' H8 ⟨rfl,h8⟩
    exact ⟨_,rfl,h8⟩
  clear h7
  rintro σ H7 ⟨o6,rfl,h7⟩
  rw [show (prV qs).length = qs.length by unfold prV; rw [List.length_map],List.take_length,lk_all lw.mt mks ev2 hqp hqs] at h7
  have h7:Has H7 ((ll,HO.lst ((N2 ++ lkL W (kEn ks)).map V.str)) :: L):=h7.sub (.cons_cons _ (.cons _ (List.sublist_append_right _ _)))
  have lkl:=lkL_len W (kEn ks)
  rw [kEn_len] at lkl
  obtain ⟨N3,eN3⟩:∃ N3:List Str,N2 ++ lkL W (kEn ks) = N3:=⟨_,rfl⟩
  have l3:N3.length <= 151:=by rw [<- eN3,List.length_append]; omega
  rw [eN3] at h7
  refine ⟨fun σ' H' => σ' = [some (.ref kk),some (.ref nn),some (.ref rr),some (.ref sd),some (.ref mh),some (.ref gg),some (enV s.at_),some (.int on),some (.ref ll),o1,o2,o3,o4,o5,o6] /\ Has H' ((ll,HO.lst ((N3 ++ enL s).map V.str)) :: L),?_,?_⟩
  ·refine ⟨_,rfl,rfl,_,rfl,?_⟩
   cases ha:s.at_ with
   | none =>
    refine ifF (by rfl) ⟨rfl,?_⟩
    rw [show enL s = [] by unfold enL; rw [ha],List.append_nil]
    exact h7
   | some z =>
    refine ifT (by rfl) ?_
    obtain ⟨jz,hz⟩:=PL.e z ha
    have oz:=ok_nums f (R.eo _ ha)
    refine ⟨_,rfl,.inl ⟨rfl,_,SqL.of (h7.get 0 rfl)⟩,_,rfl,z.1,_,rfl,.inr (SqT.of (gL (X:=[_]) h7 (List.mem_of_getElem? hz))),fun la hla => ?_⟩
    have h8:=h7.alloc hla (.lst ([z.2.1,z.2.2].map V.int))
    refine ⟨"engine",la,[z.2.1,z.2.2],_,rfl,h8,List.mem_cons_self,by decide +kernel,nums2 oz.1 oz.2,fun H9 h9 => ?_⟩
    have h9:=h9.tail
    refine ⟨ll,_,_,rfl,rfl,h9.get 0 rfl,sizeOk (by rw [List.length_map]; omega),rfl,?_⟩
    rw [show enL s = [lnT "engine" [z.2.1,z.2.2]] by unfold enL; rw [ha],List.map_append]
    exact h9.puti 0 rfl _
  clear h7
  rintro σ' H7 ⟨rfl,h7⟩
  obtain ⟨N4,eN4⟩:∃ N4:List Str,N3 ++ enL s = N4:=⟨_,rfl⟩
  have l4:N4.length <= 152:=by
   have:(enL s).length <= 1:=by unfold enL; split <;> simp
   rw [<- eN4,List.length_append]; omega
  rw [eN4] at h7
  refine ⟨fun σ' H' => σ' = [some (.ref kk),some (.ref nn),some (.ref rr),some (.ref sd),some (.ref mh),some (.ref gg),some (enV s.at_),some (.int on),some (.ref ll),o1,o2,o3,o4,o5,o6] /\ Has H' ((ll,HO.lst ((N4 ++ rgL s).map V.str)) :: L),?_,?_⟩
  ·refine ⟨_,rfl,sz (show 0 <= 1000000 by decide),fun le hle => ?_⟩
   have h8:=h7.alloc hle (.lst (([]:List Int).map V.int))
   have g8:=gL (X:=[_,_]) h8 mg_
   refine ⟨gg,le,s.rg,[],rfl,rfl,SqL.of g8,SqL.of (h8.get 0 rfl),_,rfl,?_⟩
   by_cases hg:s.rg = []
   ·refine ifF (by rw [hg]; rfl) ⟨rfl,?_⟩
    rw [show rgL s = [] by unfold rgL; rw [if_pos hg],List.append_nil]
    exact h8.tail
   ·refine ifT (by simp [hg]) ?_
    have h9:=h8.tail
    refine ⟨_,rfl,.inl ⟨rfl,_,SqL.of (h9.get 0 rfl)⟩,_,rfl,"rung",gg,s.rg,_,rfl,h9,List.mem_cons_of_mem _ mg_,by decide +kernel,rg_nums f,fun H10 h10 => ?_⟩
    refine ⟨ll,_,_,rfl,rfl,h10.get 0 rfl,sizeOk (by rw [List.length_map]; omega),rfl,?_⟩
    rw [show rgL s = [lnT "rung" s.rg] by unfold rgL; rw [if_neg hg],List.map_append]
    exact h10.puti 0 rfl _
  clear h7
  rintro σ' H7 ⟨rfl,h7⟩
  have eA:N4 ++ rgL s = ytL W s (kEn ks) on:=by
   rw [<- eN4,<- eN3,<- eN2,<- eN1,<- eN0]
   unfold ytL
   simp
  rw [eA] at h7
  exact ⟨_,rfl,q _ ll h7⟩
end
end P
set_option Elab.async false
set_option linter.all false
set_option maxRecDepth 100000
set_option maxHeartbeats 4000000
namespace P
open PySem L2
theorem SetOk.pool {y:YR} {ks:List Kd} {ns rs ss:List Int} {es:List En} {m:List (List Key × V)} {z:En} (S:SetOk y ks ns rs ss es m z) {s:Sd} (hs:s.at_ = some z) {L:Kn} (h:∀ z ∈ es,∃ j:Nat,L[j]? = some (z.1,HO.tup [.int z.2.1,.int z.2.2])):Pool (wOf ks ns rs es m) s L :=
 ⟨fun n e u hu => h u (mfOf_mem hu),fun u hu => by rw [hs] at hu; cases hu; exact h z S.zi⟩
theorem mem_ix {Z:Kn} {x:Addr × HO} (h:x ∈ Z):∃ j:Nat,Z[j]? = some x:=List.mem_iff_getElem?.mp h
theorem esK_mem {es:List En} {z:En} (h:z ∈ es):(z.1,HO.tup [.int z.2.1,.int z.2.2]) ∈ esK es:=List.mem_map.mpr ⟨z,h,rfl⟩
theorem dropK_put {κ:Type} [DecidableEq κ] {kvs:List (κ × V)} {k:κ} {v:V} (h:valV kvs k = none):dropK (putK kvs k v) k = kvs:=by
 rw [putK_new _ h]
 have:=dropK_none h
 unfold dropK at this ⊢
 rw [List.filter_append,this]
 simp
theorem go_notes (w:Wd) (hb:∀ n k,w.kf n = some k -> k = .bell -> 0 <= w.nf n /\ w.nf n <= 9999):∀ (n:Nat) (s:Sd),(∀ x ∈ s.rg,0 <= x /\ x <= 9999) -> ∀ x ∈ (w.go n s).rg,0 <= x /\ x <= 9999
 | 0,s,h => h
 | n + 1,s,h => by
  cases e:w.nx s with
  | none => rw [go_held w e]; exact h
  | some s' =>
   rw [go_succ w e]
   refine go_notes w hb n s' ?_
   obtain ⟨z,k,o,z',_,hk,_,_,rfl⟩:=nx_some e
   intro x hx
   unfold stepS at hx
   dsimp only at hx
   split at hx
   ·rename_i hbell
    rcases List.mem_append.mp hx with hx | hx
    ·exact h x hx
    ·cases List.mem_singleton.mp hx
     exact hb _ _ hk hbell
   ·exact h x hx
theorem hist_le (w:Wd):∀ (n:Nat) (s:Sd),(w.hist n s).length <= n
 | 0,s => Nat.le_refl 0
 | n + 1,s => by
  cases e:w.nx s with
  | none => rw [show w.hist (n + 1) s = [] by show (match w.nx s with | none => [] | some s' => s :: w.hist n s') = []; rw [e]]; exact Nat.zero_le _
  | some s' =>
   rw [show w.hist (n + 1) s = s :: w.hist n s' by show (match w.nx s with | none => [] | some s' => s :: w.hist n s') = _; rw [e],List.length_cons]
   exact Nat.succ_le_succ (hist_le w n s')
theorem Rep.offed {W:Wd} {s:Sd} {y:YR} (R:Rep W s y):Rep W { s with at_:=none } { y with eng:=.non,trail:=[] }:=⟨R.kd,R.no,R.ro,R.rr,R.sd,R.s12,R.mt,R.mo,rfl,fun z h => (by cases h),R.rg⟩
theorem Rep.nexted {W:Wd} {s:Sd} {y:YR} (R:Rep W s y) (n:Int):Rep W s { y with next:=n,trail:=[] }:=⟨R.kd,R.no,R.ro,R.rr,R.sd,R.s12,R.mt,R.mo,R.en,R.eo,R.rg⟩
theorem Pool.offed {W:Wd} {s:Sd} {L:Kn} (p:Pool W s L):Pool W { s with at_:=none } L:=⟨p.m,fun z h => (by cases h)⟩
structure TsOk (y:YR) (ks:List Kd) (ns rs:List Int) (es:List En) (m:List (List Key × V)) (s:Sd) (on:Int) (kk nn rr sd mh gg:Addr) (L:Kn):Prop where
 lw:Lw (wOf ks ns rs es m) ks ns rs m
 mks:∀ k ∈ m.map (·.1),∃ p ∈ endsL ks,k = kE p.1 p.2
 ml:m.length <= 80
 R:Rep (wOf ks ns rs es m) s y
 f:YFit (wOf ks ns rs es m) s (kEn ks) on
 nx:y.next = on
 P:Pool (wOf ks ns rs es m) s L
 kd:y.kinds = kvOf ks
 sm:Small y
 xk:(kk,HO.lst (ksV ks)) ∈ L
 xn:(nn,HO.lst (ns.map V.int)) ∈ L
 xr:(rr,HO.lst (rs.map V.int)) ∈ L
 xs:(sd,HO.lst (s.ss.map V.int)) ∈ L
 xm:(mh,HO.dT m) ∈ L
 xg:(gg,HO.lst (s.rg.map V.int)) ∈ L
def sp_ts (C:Addr):Sp:=fun vs H Q _ => ∃ (d:Addr) (ds:List Int),vs = [.ref d,.int 0] /\ Has H [(d,.lst (ds.map V.int))] /\ 200 <= ds.length /\
 ∀ (H':Hp) (tp:Addr) (A:YA) (y:YR) (ks:List Kd) (ns rs:List Int) (es:List En) (m:List (List Key × V)) (s:Sd) (on:Int) (kk nn rr sd mh gg:Addr) (L:Kn),TsOk y ks ns rs es m s on kk nn rr sd mh gg L -> Has H' ((tp,.tup [.ref A.p,.ref kk,.ref nn,.ref rr,.ref sd,.ref mh,.ref gg,enV s.at_,.int on]) :: (yL C A y ++ L)) -> Q (.ref tp) H'
section
variable {P:Program} {w:World} {K:PySem.W.Frag} {mg:Str -> Option Value} {base:Heap} {t:Adr}
theorem scTs:FnScope ["_law_d","_law_at","_law_yard","_law_kinds_here","_law_notes","_law_rods","_law_sides","_law_mates","_law_start","_law_turn","_law_rung","_law_here","_law_on"] ["_law_d","_law_at"] (defScope s_Ju):=⟨rfl,rfl,rfl,by decide +kernel,rfl,by decide +kernel,by decide +kernel⟩
theorem ok_Ju (T:Txt K mg t):FnOk P w K mg base CX0 8 t.f_Ju t.d_Ju ["_law_d","_law_at"] (sp_ts t.c_Yard):=by
 obtain ⟨_,hd_Jx_2,hb_Jx_2⟩:=bD_Jx_2 T
 refine T.F_Ju.ok scTs (fun vs H Q E h => ?_) (fun cdv A outer s H vs Q E hr h => ?_)
 ·obtain ⟨_,_,rfl,_⟩:=h
  rfl
 ·obtain ⟨d,ds,rfl,h1,hds,q⟩:=h
  refine ⟨_,(pss_cons (ps_asg (pe_call (ok_set T) (hr.mono (by decide)) (by rfl) T.m_set T.F_set.kp (b_set T) .nil pass0 (pa_cons (pv 0) (pa_cons (pe_op op_add (pv 1) pe_int) pa_nil))) (pg_tup rfl (pgs_cons (pg_name (i:=2) scTs.nd rfl (Or.inl rfl)) (pgs_cons (pg_name (i:=3) scTs.nd rfl (Or.inl rfl)) (pgs_cons (pg_name (i:=4) scTs.nd rfl (Or.inl rfl)) (pgs_cons (pg_name (i:=5) scTs.nd rfl (Or.inl rfl)) (pgs_cons (pg_name (i:=6) scTs.nd rfl (Or.inl rfl)) (pgs_cons (pg_name (i:=7) scTs.nd rfl (Or.inl rfl)) (pgs_cons (pg_name (i:=8) scTs.nd rfl (Or.inl rfl)) pgs_nil)))))))))
   (pss_cons (ps_for PassesOwn.never rfl (pi_range1 (by rfl) T.z_range (pa_cons (pe_op op_mod (pe_ix ix_list (pv 0) (pv 1) (fun _ _ => rfl)) pe_int) pa_nil)) (pg_name (i:=9) scTs.nd rfl (Or.inl rfl))
    (pss_one (ps_expr (pe_meth (pv 2) T.cl_Yard T.M_Jn (ok_Jn T) (hr.mono (by decide)) (b_Jn T) .nil pass0 (pa_cons (pe_meth (pv 2) T.cl_Yard T.M_Jx (ok_Jx T) (hr.mono (by decide)) hb_Jx_2 hd_Jx_2 pass0 (pa_cons pe_str pa_nil)) pa_nil)))))
   (pss_cons (ps_set (i:=10) scTs.nd rfl (Or.inl rfl) (pe_lst pa_nil))
   (pss_cons (ps_set (i:=11) scTs.nd rfl (Or.inl rfl) (pe_ix ix_tup (pe_call (ok_walk T) (hr.mono (by decide)) (by rfl) T.m_walk T.F_walk.kp (b_walk T) .nil pass0 (pa_cons (pv 3) (pa_cons (pv 4) (pa_cons (pv 5) (pa_cons (pv 6) (pa_cons (pv 7) (pa_cons (pv 10) (pa_cons (pv 8) (pa_cons (pe_op op_mod (pe_ix ix_list (pv 0) (pe_op op_add (pv 1) pe_int) (fun _ _ => rfl)) pe_int) pa_nil))))))))) pe_int (fun _ _ => rfl)))
   (pss_cons (ps_expr (pe_call (ok_run T) (hr.mono (by decide)) (by rfl) T.m_run T.F_run.kp (b_run T) .nil pass0 (pa_cons (pv 2) (pa_cons (pe_op op_mod (pe_ix ix_list (pv 0) (pe_op op_add (pv 1) pe_int) (fun _ _ => rfl)) pe_int) pa_nil))))
   (pss_cons (ps_cut (ps_if (pt_cmpR op_eq (pe_op op_mod (pe_ix ix_list (pv 0) (pe_op op_add (pv 1) pe_int) (fun _ _ => rfl)) pe_int) pe_int (nomark _))
    (pss_cons (ps_expr (pe_meth0 (pv 2) T.cl_Yard T.M_Jw (ok_Jw T) (hr.mono (by decide)) (b_Jw T) .nil pass0))
     (pss_one (ps_set (i:=11) scTs.nd rfl (Or.inl rfl) pe_non)))
    pss_nil))
   (pss_cons (ps_set (i:=12) scTs.nd rfl (Or.inl rfl) (pe_op op_add (pe_callB call_len_seq (by rfl) T.z_len (by rfl) (pa_cons (pv 3) pa_nil)) (pe_op op_mod (pe_ix ix_list (pv 0) (pv 1) (fun _ _ => rfl)) pe_int)))
   (pss_one (ps_ret (pe_tup (pa_cons (pv 2) (pa_cons (pv 3) (pa_cons (pv 4) (pa_cons (pv 5) (pa_cons (pv 6) (pa_cons (pv 7) (pa_cons (pv 10) (pa_cons (pv 11) (pa_cons (pv 12) pa_nil))))))))))))))))))),?_⟩
  rw [show L2.start ["_law_d","_law_at","_law_yard","_law_kinds_here","_law_notes","_law_rods","_law_sides","_law_mates","_law_start","_law_turn","_law_rung","_law_here","_law_on"] [V.ref d,V.int 0] = ([some (V.ref d),some (V.int 0),none,none,none,none,none,none,none,none,none,none,none]:St) from rfl]
  refine ⟨_,rfl,_,rfl,_,_,rfl,rfl,d,ds,3,_,0,rfl,h1,rfl,by omega,by omega,fun H2 tp A1 y ks ns rs ss es m z sd mh rr nn kk S h2 => ?_⟩
  refine ⟨tp,_,rfl,SqT.of (h2.get 0 rfl),rfl,_,_,rfl,_,_,rfl,_,_,rfl,_,_,rfl,_,_,rfl,_,_,rfl,_,_,rfl,rfl,?_⟩
  replace h2:=h2.tail
  dsimp only [List.set]
  obtain ⟨Z,hZ,xm,xr,xn,xk,xd,zp⟩:∃ Z:Kn,[(mh,HO.dT m),(rr,.lst (rs.map V.int)),(nn,.lst (ns.map V.int)),(kk,.lst (ksV ks))] ++ (esK es ++ [(d,.lst (ds.map V.int))]) = Z /\
    (mh,HO.dT m) ∈ Z /\ (rr,HO.lst (rs.map V.int)) ∈ Z /\ (nn,HO.lst (ns.map V.int)) ∈ Z /\ (kk,HO.lst (ksV ks)) ∈ Z /\ (d,HO.lst (ds.map V.int)) ∈ Z /\ ∀ z ∈ es,(z.1,HO.tup [.int z.2.1,.int z.2.2]) ∈ Z :=
   ⟨_,rfl,by simp,by simp,by simp,by simp,by simp,fun z hz => List.mem_append_right _ (List.mem_append_left _ (esK_mem hz))⟩
  replace h2:Has H2 (yL t.c_Yard A1 y ++ ((sd,.lst (ss.map V.int)) :: Z)):=by rw [<- hZ]; exact h2
  clear hZ h1
  have gd:∀ {H:Hp} {X:Kn},Has H (X ++ Z) -> SqL K H d (ds.map V.int):=fun {H X} h => SqL.of (h.at_ _ (List.mem_append_right _ xd))
  have k24:=S.k24
  have k1:=S.k1
  have sl:=S.sl
  have zin:=S.ei z S.zi
  obtain ⟨zi,zk,ze1,ze2,ze3,ze4⟩:=endsL_there (n:=z.2.1) (e:=z.2.2) zin
  have zl:=(List.getElem?_eq_some_iff.mp ze2).1
  have nlen:=S.nlen
  have rlen:=S.rlen
  have mlen:=S.ml
  obtain ⟨x0,ex0⟩:∃ x0,ds.getD (0:Int).toNat 0 = x0:=⟨_,rfl⟩
  have a0':atI (ds.map V.int) (0:Int) = some (.int x0):=by rw [<- ex0]; exact atD (by omega) (by omega)
  obtain ⟨g,hg⟩:∃ g:Nat,x0 % 3 = g:=⟨(x0 % 3).toNat,by omega⟩
  have g3:g < 3:=by omega
  obtain ⟨W,hW⟩:∃ W,wOf ks ns rs es m = W:=⟨_,rfl⟩
  have mnone:∀ (n:Nat) (e:Int),ks.length <= n -> valV m (kE n e) = none:=fun n e hn => by
   cases hv:valV m (kE n e) with
   | none => rfl
   | some v =>
    obtain ⟨p,hp,e⟩:=S.mks _ (valV_key hv)
    obtain ⟨i,k,e1,e2,_⟩:=endsL_there (n:=p.1) (e:=p.2) hp
    have il:=(List.getElem?_eq_some_iff.mp e2).1
    injection e with e3 _
    injection e3 with e3
    omega
  refine ⟨_,rfl,_,rfl,d,_,_,_,rfl,rfl,gd (X:=yL t.c_Yard A1 y ++ [_]) (by rw [List.append_assoc]; exact h2),a0',_,_,rfl,rfl,(show (0:Int) < 3 by decide),?_⟩
  refine ⟨x0 % 3,rfl,by omega,by omega,for_range (fun i σ H' => ∃ (A:YA) (y1:YR) (o1:Option V),σ = [some (.ref d),some (.int 0),some (.ref A.p),some (.ref kk),some (.ref nn),some (.ref rr),some (.ref sd),some (.ref mh),some (.ref z.1),o1,none,none,none] /\
   y1.next = ((ks.length + i:Nat):Int) /\ y1.kinds = kvOf ks /\ y1.notes = y.notes /\ y1.rods = y.rods /\ y1.mates = m /\ y1.trail = [] /\ y1.rung = [] /\ Rep W ⟨ss,some z,[]⟩ y1 /\ Has H' (yL t.c_Yard A y1 ++ ((sd,.lst (ss.map V.int)) :: Z)))
   ⟨A1,y,_,rfl,S.nx,S.kd,rfl,rfl,S.mt,S.tl,S.rg,by rw [<- hW]; exact S.R,h2⟩ ?_ ?_⟩
  ·clear h2
   rintro i σ H3 hi ⟨A,y1,o1,rfl,nx,kd,no,ro,mt,tl,rg,R,h3⟩
   have hi:i < g:=by have:i < (x0 % 3).toNat:=hi; omega
   have sm:Small y1:=⟨by rw [kd,kvOf_length]; omega,by rw [no]; omega,by rw [ro]; omega,by rw [R.sd,List.length_map]; show ss.length <= 10000; omega,by rw [mt]; omega,by rw [rg]; decide,by rw [tl]; decide⟩
   have vk:valV y1.kinds (Sum.inl y1.next) = none:=by rw [kd,nx,valV_kvOf,List.getElem?_eq_none (by omega)]; rfl
   have vn:valV y1.notes (Sum.inl y1.next) = none:=by rw [no,nx]; exact (S.fr _ (by omega)).1
   have vr:valV y1.rods (Sum.inl y1.next) = none:=by rw [ro,nx]; exact (S.fr _ (by omega)).2
   dsimp only [List.set]
   refine ⟨_,rfl,A.p,A.dx,_,rfl,h3.get 1 rfl,fl_m6 _ _ _,?_⟩
   refine ⟨_,rfl,A.p,A.dx,_,rfl,h3.get 1 rfl,(fl_m _ _ _).1,A,y1,_,.bell,0,.non,rfl,h3,sm,(fun _ => ⟨by decide,by decide⟩),(fun h => nomatch h),fun H4 q4 h4 => ?_⟩
   refine ⟨{ A with tr:=q4 },layY y1 .bell 0 .non,_,y1.next,.bell,rfl,h4,(by show valV (putK y1.kinds (Sum.inl y1.next) (.str Kd.bell.str)) _ = _; rw [valV_put,if_pos rfl]),(fun e _ _ => by show valV y1.mates _ = none; rw [mt,nx]; exact mnone _ _ (by omega)),.inr ⟨z.1,z.2.1,z.2.2,R.en,.tail _ (zp z S.zi),by rw [nx,ze1]; omega⟩,fun H5 q5 h5 => ?_⟩
   have ey:({ layY y1 .bell 0 .non with kinds:=dropK (layY y1 .bell 0 .non).kinds (Sum.inl y1.next),notes:=dropK (layY y1 .bell 0 .non).notes (Sum.inl y1.next),rods:=dropK (layY y1 .bell 0 .non).rods (Sum.inl y1.next),trail:=[] }:YR) = { y1 with next:=y1.next + 1,trail:=[] }:=by
    have e1:dropK (layY y1 .bell 0 .non).kinds (Sum.inl y1.next) = y1.kinds:=dropK_put vk
    have e2:dropK (layY y1 .bell 0 .non).notes (Sum.inl y1.next) = y1.notes:=dropK_put vn
    have e3:dropK (layY y1 .bell 0 .non).rods (Sum.inl y1.next) = y1.rods:=dropK_none vr
    rw [e1,e2,e3]
    rfl
   rw [ey] at h5
   exact ⟨{ A with tr:=q5 },{ y1 with next:=y1.next + 1,trail:=[] },_,rfl,by show y1.next + 1 = _; rw [nx]; rfl,kd,no,ro,mt,rfl,rg,R.nexted (y1.next + 1),h5⟩
  clear h2
  rintro σ H3 ⟨A,y1,o1,rfl,nx,kd,no,ro,mt,tl,rg,R,h3⟩
  rw [show (x0 % 3).toNat = g by omega] at nx
  obtain ⟨s0,hs0⟩:∃ s0:Sd,(⟨ss,some z,[]⟩:Sd) = s0:=⟨_,rfl⟩
  have a0:s0.at_ = some z:=by rw [<- hs0]
  have r0:s0.rg = []:=by rw [<- hs0]
  have e0:ss = s0.ss:=by rw [<- hs0]
  rw [hs0] at R
  rw [e0] at h3 sl
  clear hs0 e0
  have p0:Pool W s0 Z:=by rw [<- hW]; exact S.pool a0 (fun u hu => mem_ix (zp u hu))
  have lw:Lw W ks ns rs m:=by rw [<- hW]; exact S.lw
  obtain ⟨n1,hn1,n1b⟩:∃ n1:Nat,ds.getD (0 + 1:Int).toNat 0 % 20 = n1 /\ n1 < 20:=⟨(ds.getD (0 + 1:Int).toNat 0 % 20).toNat,by omega,by omega⟩
  dsimp only [List.set]
  refine ⟨sz (show 0 <= 1000000 by decide),fun gg hgg => ?_⟩
  have h5:Has (upd H3 gg (.lst [])) ((sd,.lst (s0.ss.map V.int)) :: (gg,.lst (s0.rg.map V.int)) :: (yL t.c_Yard A y1 ++ Z)):=by
   rw [r0]; exact (Has.perm (h3.alloc hgg (.lst [])) (List.Perm.cons _ List.perm_middle)).swap2
  generalize upd H3 gg _ = H4 at h5 ⊢
  clear h3 hgg
  dsimp only [List.set]
  obtain ⟨jk,hjk⟩:=mem_ix (show (kk,HO.lst (ksV ks)) ∈ yL t.c_Yard A y1 ++ Z from List.mem_append_right _ xk)
  obtain ⟨jn,hjn⟩:=mem_ix (show (nn,HO.lst (ns.map V.int)) ∈ yL t.c_Yard A y1 ++ Z from List.mem_append_right _ xn)
  obtain ⟨jr,hjr⟩:=mem_ix (show (rr,HO.lst (rs.map V.int)) ∈ yL t.c_Yard A y1 ++ Z from List.mem_append_right _ xr)
  obtain ⟨jm,hjm⟩:=mem_ix (show (mh,HO.dT m) ∈ yL t.c_Yard A y1 ++ Z from List.mem_append_right _ xm)
  refine ⟨_,rfl,_,rfl,_,rfl,_,rfl,_,rfl,_,rfl,_,rfl,_,rfl,_,rfl,_,_,rfl,rfl,d,_,_,_,rfl,rfl,gd (X:=_ :: _ :: yL t.c_Yard A y1) h5,atD (by omega) (by omega),_,_,rfl,rfl,(show (0:Int) < 20 by decide),?_⟩
  dsimp only
  rw [hn1]
  refine ⟨sd,gg,kk,nn,rr,mh,_,W,s0,n1,ks,ns,rs,m,jk,jn,jr,jm,(by rw [a0]; rfl),h5,lw,R.okw,p0.app _,hjk,hjn,hjr,hjm,(by rw [r0]; show (0:Int) + n1 <= 900000; omega),fun H6 tp2 h6 O1 _ g6 => ?_⟩
  rw [Int.toNat_natCast] at h6 O1 g6
  refine ⟨tp2,_,_,_,rfl,rfl,SqT.of (h6.get 0 rfl),atI_nat (j:=0) rfl,?_⟩
  clear hjk hjn hjr hjm jk jn jr jm h5
  dsimp only [List.set]
  have h7:=Has.comm (X:=[_,_]) (Y:=yL t.c_Yard A y1) (R:=Z) h6.tail
  clear h6
  refine ⟨_,rfl,_,rfl,_,rfl,_,_,rfl,rfl,d,_,_,_,rfl,rfl,gd (X:=yL t.c_Yard A y1 ++ [_,_]) (by rw [List.append_assoc]; exact h7),atD (by omega) (by omega),_,_,rfl,rfl,(show (0:Int) < 20 by decide),?_⟩
  dsimp only
  rw [hn1]
  have rg1:y1.rung.length = 0:=by rw [rg]; rfl
  refine ⟨A,y1,_,W,s0,[],n1,rfl,h7,R,p0.app [_,_],tl,(by show ((0:Nat):Int) + n1 <= 900000; omega),(by rw [rg1]; omega),(by show 0 <= 900000; omega),(by rw [rg1]; omega),fun H8 y2 ts h8 R8 t8 hs8 nx8 kd8 no8 ro8 mt8 P8 => ?_⟩
  rw [Int.toNat_natCast] at R8 hs8 P8
  rw [List.nil_append] at h8 t8
  clear h7
  obtain ⟨s1,es1⟩:∃ s1,W.go n1 s0 = s1:=⟨_,rfl⟩
  have gl1:=go_len W n1 s0
  have hb1:=hist_le W n1 s0
  have lts:ts.length <= 20:=by
   have:=congrArg List.length hs8
   rw [List.length_map] at this
   omega
  have bell:∀ n k,W.kf n = some k -> k = .bell -> 0 <= W.nf n /\ W.nf n <= 9999:=fun n k hk _ => by
   obtain ⟨i,e1,e2⟩:=lw.kf n k hk
   rw [e1,lw.nf i,List.getD_eq_getElem?_getD,List.getElem?_eq_getElem (by rw [lw.nl]; exact (List.getElem?_eq_some_iff.mp e2).1)]
   exact S.nr _ (List.getElem_mem _)
  have nt1:=go_notes W bell n1 s0 (by rw [r0]; intro x hx; cases hx)
  rw [r0] at g6
  rw [es1] at R8 P8 h8 gl1 nt1 g6 ⊢
  obtain ⟨L8,eL8⟩:∃ L8:Kn,trK W ts ++ ((sd,HO.lst (s1.ss.map V.int)) :: (gg,.lst (s1.rg.map V.int)) :: Z) = L8:=⟨_,rfl⟩
  have h8:Has H8 (yL t.c_Yard A y2 ++ L8):=by rw [<- eL8]; exact h8
  have P8:Pool W s1 L8:=by rw [<- eL8]; exact P8.app _
  have mZ:∀ z ∈ Z,z ∈ L8:=fun z hz => by rw [<- eL8]; simp [hz]
  have ms8:(sd,HO.lst (s1.ss.map V.int)) ∈ L8:=by rw [<- eL8]; simp
  have mg8:(gg,HO.lst (s1.rg.map V.int)) ∈ L8:=by rw [<- eL8]; simp
  have gd8:∀ {H:Hp} {X:Kn},Has H (X ++ L8) -> SqL K H d (ds.map V.int):=fun {H X} h => SqL.of (h.at_ _ (List.mem_append_right _ (mZ _ xd)))
  dsimp only [List.set]
  refine ⟨fun σ' H' => ∃ (A':YA) (y':YR) (s':Sd),σ' = [some (.ref d),some (.int 0),some (.ref A'.p),some (.ref kk),some (.ref nn),some (.ref rr),some (.ref sd),some (.ref mh),some (.ref z.1),o1,some (.ref gg),some (enV s'.at_),none] /\ s'.ss = s1.ss /\ s'.rg = s1.rg /\ Rep W s' y' /\ Pool W s' L8 /\ y'.next = y2.next /\ y'.kinds = y2.kinds /\ y'.notes = y2.notes /\ y'.rods = y2.rods /\ y'.mates = y2.mates /\ y'.trail.length <= 20 /\ Has H' (yL t.c_Yard A' y' ++ L8),?_,?_⟩
  ·refine ⟨_,rfl,_,rfl,_,_,rfl,rfl,d,_,_,_,rfl,rfl,gd8 h8,atD (by omega) (by omega),_,_,rfl,rfl,(show (0:Int) < 4 by decide),rfl,_,rfl,?_⟩
   refine if2 (fun _ => ?_) (fun _ => ?_)
   ·refine ⟨_,rfl,A.p,A.dx,_,rfl,h8.get 1 rfl,(fl_m4 _ _ _).2.1,A,y2,_,rfl,h8,fun H9 q9 h9 => ?_⟩
    exact ⟨{ A with tr:=q9 },{ y2 with eng:=.non,trail:=[] },{ s1 with at_:=none },rfl,rfl,rfl,R8.offed,P8.offed,rfl,rfl,rfl,rfl,rfl,Nat.zero_le _,h9⟩
   ·exact ⟨A,y2,s1,rfl,rfl,rfl,R8,P8,rfl,rfl,rfl,rfl,rfl,by rw [t8]; unfold trV; rw [List.length_map]; exact lts,h8⟩
  clear h8
  rintro σ' H9 ⟨A9,y9,s9,rfl,e1,e2,R9,P9,nx9,kd9,no9,ro9,mt9,tl9,h9⟩
  rw [<- e1] at ms8 gl1
  rw [<- e2] at mg8 nt1 g6
  refine ⟨_,rfl,kk,_,rfl,.inl (SqL.of (h9.at_ _ (List.mem_append_right _ (mZ _ xk)))),_,rfl,_,rfl,d,_,_,_,rfl,rfl,gd8 h9,a0',_,_,rfl,rfl,(show (0:Int) < 3 by decide),_,_,rfl,rfl,?_⟩
  dsimp only [List.set]
  have eon:((ksV ks).length:Int) + x0 % 3 = ((ks.length + g:Nat):Int):=by unfold ksV; rw [List.length_map,hg]; omega
  rw [eon]
  refine ⟨_,rfl,_,rfl,_,rfl,_,rfl,_,rfl,_,rfl,_,rfl,_,rfl,_,rfl,sz (show 9 <= 1000000 by decide),fun tp9 htp9 => ?_⟩
  have rl9:s9.rg.length <= 20:=by
   have:s9.rg.length <= ([]:List Int).length + n1:=g6
   simp at this
   omega
  have f:YFit W s9 (kEn ks) ((ks.length + g:Nat):Int):=by
   refine ⟨⟨by omega,by omega⟩,fun n k hk => ?_,bell,fun p hp => ?_,by rw [kEn_len]; omega,by omega,by omega,nt1⟩
   ·obtain ⟨i,e3,e4⟩:=lw.kf n k hk
    have:=(List.getElem?_eq_some_iff.mp e4).1
    omega
   ·obtain ⟨i,e3,e4⟩:=kEn_mem hp
    rw [e3,<- hW,wOf_kn]
    exact e4
  have sm9:Small y9:=⟨by rw [kd9,kd8,kd,kvOf_length]; omega,by rw [no9,no8,no]; omega,by rw [ro9,ro8,ro]; omega,by rw [R9.sd,List.length_map]; omega,by rw [mt9,mt8,mt]; omega,by rw [R9.rg,List.length_map]; omega,by omega⟩
  rw [<- hW] at R9 f P9 lw
  exact q _ tp9 A9 y9 ks ns rs es m s9 _ kk nn rr sd mh gg L8 ⟨lw,S.mks,S.ml,R9,f,by rw [nx9,nx8,nx],P9,by rw [kd9,kd8,kd],sm9,mZ _ xk,mZ _ xn,mZ _ xr,ms8,mZ _ xm,mg8⟩ (h9.alloc htp9 _)
end
end P
set_option Elab.async false
set_option linter.all false
set_option maxRecDepth 100000
set_option maxHeartbeats 4000000
namespace P
open PySem L2
theorem eqvR (d:PyData) (h:d.canLay0 = true):PyData.eqv d d = true:=PySem.SeqAt.eqv_refl d h
def sp_law (K:PySem.W.Frag):Sp:=fun vs H Q _ => ∃ (a:Addr) (ns:List Int),vs = [.ref a] /\ SqL K H a (ns.map V.int) /\ ns.length <= 63 /\ ∀ H',Q (.bl true) H'
theorem law_binds {K:PySem.W.Frag} {mg:Str -> Option Value} {t:Adr} (T:Txt K mg t) (s:Shared) (u:Value):BindsTo s t.d_law ⟨[u],[]⟩ [("_law_script",u)]:=by
 obtain ⟨oc,od,kV,doc,pm,an,cdv,ct,osl,e,lk,hcd⟩:=T.F_law.ex
 rw [e,T.e_law]
 exact .of_eq rfl
theorem law_start {K:PySem.W.Frag} {H:Hp} {a:Addr} {ns:List Int} (hl:ns.length <= 63) (hS:SqL K H a (ns.map V.int)) {E:XK}:sp_law K [.ref a] H (fun v _ => v = .bl true) E:=⟨a,ns,rfl,hS,hl,fun _ => rfl⟩
section
variable {P:Program} {w:World} {K:PySem.W.Frag} {mg:Str -> Option Value} {base:Heap} {t:Adr}
theorem scLa:FnScope ["_law_script","_law_d","_law_made","_law_yard","_law_kinds_here","_law_notes","_law_rods","_law_sides","_law_mates","_law_rung","_law_here","_law_on","_law_due","_law_before","_law_trail","_law_found"] ["_law_script"] (defScope s_law):=⟨rfl,rfl,rfl,by decide +kernel,rfl,by decide +kernel,by decide +kernel⟩
theorem ok_law (T:Txt K mg t):FnOk P w K mg base CX0 12 t.f_law t.d_law ["_law_script"] (sp_law K):=by
 refine T.F_law.ok scLa (fun vs H Q E h => ?_) (fun cdv A outer s H vs Q E hr h => ?_)
 ·obtain ⟨_,_,rfl,_⟩:=h
  rfl
 ·obtain ⟨a,ns0,rfl,hS,hns,q⟩:=h
  refine ⟨_,(pss_cons (ps_set (i:=1) scLa.nd rfl (Or.inl rfl) (pe_call (ok_draws T) (hr.mono (by decide)) (by rfl) T.m_draws T.F_draws.kp (b_draws T) .nil pass0 (pa_cons (pv 0) (pa_cons pe_int pa_nil))))
   (pss_cons (ps_set (i:=2) scLa.nd rfl (Or.inl rfl) (pe_call (ok_Ju T) (hr.mono (by decide)) (by rfl) T.m_Ju T.F_Ju.kp (b_Ju T) .nil pass0 (pa_cons (pv 1) (pa_cons pe_int pa_nil))))
   (pss_cons (ps_asg (pe_slice sl_tup (pv 2) po_none (po_some pe_int)) (pg_tup rfl (pgs_cons (pg_name (i:=3) scLa.nd rfl (Or.inl rfl)) (pgs_cons (pg_name (i:=4) scLa.nd rfl (Or.inl rfl)) (pgs_cons (pg_name (i:=5) scLa.nd rfl (Or.inl rfl)) (pgs_cons (pg_name (i:=6) scLa.nd rfl (Or.inl rfl)) (pgs_cons (pg_name (i:=7) scLa.nd rfl (Or.inl rfl)) pgs_nil)))))))
   (pss_cons (ps_asg (pe_slice sl_tup (pv 2) (po_some pe_int) po_none) (pg_tup rfl (pgs_cons (pg_name (i:=8) scLa.nd rfl (Or.inl rfl)) (pgs_cons (pg_name (i:=9) scLa.nd rfl (Or.inl rfl)) (pgs_cons (pg_name (i:=10) scLa.nd rfl (Or.inl rfl)) (pgs_cons (pg_name (i:=11) scLa.nd rfl (Or.inl rfl)) pgs_nil))))))
   (pss_cons (ps_set (i:=12) scLa.nd rfl (Or.inl rfl) (pe_bm PySem.F.plainAttrs_str PySem.F.slot_str_join PySem.F.type_str_join mt_join pe_str (pa_cons (pe_call (ok_Je T) (hr.mono (by decide)) (by rfl) T.m_Je T.F_Je.kp (b_Je T) .nil pass0 (pa_cons (pv 4) (pa_cons (pv 5) (pa_cons (pv 6) (pa_cons (pv 7) (pa_cons (pv 8) (pa_cons (pv 9) (pa_cons (pv 10) (pa_cons (pv 11) pa_nil))))))))) pa_nil)))
   (pss_cons (ps_set (i:=13) scLa.nd rfl (Or.inl rfl) (pe_call (ok_look T) (hr.mono (by decide)) (by rfl) T.m_look T.F_look.kp (b_look T) .nil pass0 (pa_cons (pv 3) pa_nil)))
   (pss_cons (ps_set (i:=14) scLa.nd rfl (Or.inl rfl) (pe_meth0 (pv 3) T.cl_Yard T.M_Jg (ok_Jg T) (hr.mono (by decide)) (b_Jg T) .nil pass0))
   (pss_cons (ps_set (i:=15) scLa.nd rfl (Or.inl rfl) (pe_call (ok_Ja T) (hr.mono (by decide)) (by rfl) T.m_Ja T.F_Ja.kp (b_Ja T) .nil pass0 (pa_cons (pv 3) pa_nil)))
   (pss_cons (ps_if (PW.pt (pw_or (pt_not (pt_val (pe_callB call_isi (by rfl) T.z_isinstance (by rfl) (pa_cons (pv 15) (pa_cons (pe_bltn (v:=.ty "str") (by rfl) T.z_str (by rfl) rfl) pa_nil))))) (pw_or1 (pt_cmpR op_ne (pv 15) (pv 12) (nomark _)))))
    (pss_one (ps_ret pe_bl))
    pss_nil)
   (pss_one (ps_ret (pe_and (pe_cmpR (op_eqD hr.units) (pe_call (ok_look T) (hr.mono (by decide)) (by rfl) T.m_look T.F_look.kp (b_look T) .nil pass0 (pa_cons (pv 3) pa_nil)) (pv 13) (nomark _)) (pe_and (pe_call (ok_is T) (hr.mono (by decide)) (by rfl) T.m_is T.F_is.kp (b_is T) .nil pass0 (pa_cons (pe_meth0 (pv 3) T.cl_Yard T.M_Jg (ok_Jg T) (hr.mono (by decide)) (b_Jg T) .nil pass0) (pa_cons (pv 14) pa_nil))) (pe_one (pe_cmpR op_eq (pe_call (ok_Ja T) (hr.mono (by decide)) (by rfl) T.m_Ja T.F_Ja.kp (b_Ja T) .nil pass0 (pa_cons (pv 3) pa_nil)) (pv 12) (nomark _)))))))))))))))),?_⟩
  rw [show L2.start ["_law_script","_law_d","_law_made","_law_yard","_law_kinds_here","_law_notes","_law_rods","_law_sides","_law_mates","_law_rung","_law_here","_law_on","_law_due","_law_before","_law_trail","_law_found"] [V.ref a] = ([some (V.ref a),none,none,none,none,none,none,none,none,none,none,none,none,none,none,none]:St) from rfl]
  refine ⟨_,rfl,a,ns0,200,[],rfl,hS,hns,by decide,by decide,Has.nil,fun H1 d ds h1 hds hdr => ?_⟩
  clear hS hns hdr
  dsimp only [List.set]
  refine ⟨_,rfl,d,ds,rfl,h1,by have:ds.length = 200:=hds; omega,fun H2 tp A1 y ks ns rs es m sd_ on kk nn rr sd mh gg L S h2 => ?_⟩
  dsimp only [List.set]
  obtain ⟨tv,etv⟩:∃ tv:List V,[V.ref A1.p,.ref kk,.ref nn,.ref rr,.ref sd,.ref mh,.ref gg,enV sd_.at_,.int on] = tv:=⟨_,rfl⟩
  have c1:cutV tv none (some 5) = [V.ref A1.p,.ref kk,.ref nn,.ref rr,.ref sd]:=by rw [<- etv]; rfl
  have c2:cutV tv (some 5) none = [V.ref mh,.ref gg,enV sd_.at_,.int on]:=by rw [<- etv]; rfl
  have ltv:tv.length = 9:=by rw [<- etv]; rfl
  rw [etv] at h2
  refine ⟨_,rfl,_,rfl,tp,tv,rfl,SqT.of (h2.get 0 rfl),(by rw [ltv]; decide),fun p1 hp1 => ?_⟩
  have h3:=h2.alloc hp1 (.tup (cutV tv none (some 5)))
  rw [c1] at h3 ⊢
  refine ⟨p1,_,rfl,SqT.of (h3.get 0 rfl),rfl,_,_,rfl,_,_,rfl,_,_,rfl,_,_,rfl,_,_,rfl,rfl,?_⟩
  dsimp only [List.set]
  generalize upd H2 p1 _ = H3 at h3 ⊢
  refine ⟨_,rfl,_,rfl,tp,tv,rfl,SqT.of (h3.get 1 rfl),(by rw [ltv]; decide),fun p2 hp2 => ?_⟩
  have h4:=h3.alloc hp2 (.tup (cutV tv (some 5) none))
  rw [c2] at h4 ⊢
  refine ⟨p2,_,rfl,SqT.of (h4.get 0 rfl),rfl,_,_,rfl,_,_,rfl,_,_,rfl,_,_,rfl,rfl,?_⟩
  dsimp only [List.set]
  have h4:=h4.tail.tail.tail
  generalize upd H3 p2 _ = H4 at h4 ⊢
  clear h3 h2 etv c1 c2 ltv
  have mL:∀ z ∈ L,z ∈ yL t.c_Yard A1 y ++ L:=fun z hz => List.mem_append_right _ hz
  refine ⟨rfl,_,rfl,_,rfl,_,rfl,_,rfl,_,rfl,_,rfl,_,rfl,_,rfl,kk,nn,rr,sd,mh,gg,ks,ns,rs,es,m,sd_,on,y,_,rfl,h4,mL _ S.xk,mL _ S.xn,mL _ S.xr,mL _ S.xs,mL _ S.xm,mL _ S.xg,S.lw,S.mks,S.ml,S.R,S.f,S.P.app _,fun H5 ll h5 => ?_⟩
  refine ⟨_,ll,ytL (wOf ks ns rs es m) sd_ (kEn ks) on,rfl,rfl,SqL.of (h5.get 0 rfl),yt_join S.f S.R,?_⟩
  have h5:=h5.tail
  dsimp only [List.set]
  have ek:y.kinds = kmap (kEn ks):=by rw [S.kd,kEn_kmap]
  refine ⟨_,rfl,A1,y,L,wOf ks ns rs es m,sd_,kEn ks,rfl,h5,S.R,S.P,S.sm,ek,S.f.ks,fun H6 l6 N6 st6 h6 => ?_⟩
  dsimp only [List.set]
  refine ⟨_,rfl,A1.p,A1.dx,_,rfl,h6.get 1 rfl,(fl_m4 _ _ _).2.2.2.2.2.2.2.2,A1,y,_,rfl,h6,?_⟩
  dsimp only [List.set]
  have f:YFit (wOf ks ns rs es m) sd_ (kEn ks) y.next:=by rw [S.nx]; exact S.f
  refine ⟨_,rfl,A1,y,_,wOf ks ns rs es m,sd_,kEn ks,rfl,h6,S.R,S.P.app N6,S.sm,f,ek,fun H7 h7 => ?_⟩
  rw [S.nx]
  dsimp only [List.set]
  refine ⟨_,rfl,_,_,_,_,rfl,TyOf.str _,rfl,_,rfl,ifF rfl ?_⟩
  refine ⟨_,rfl,_,rfl,rfl,_,rfl,ifF ?_ ?_⟩
  ·show (!decide (V.str (ytT _ _ _ _) = V.str (Txt.join "\n" (ytL _ _ _ _)))) = false
   unfold ytT
   rw [decide_eq_true rfl]
   rfl
  refine ⟨_,rfl,A1,y,_,wOf ks ns rs es m,sd_,kEn ks,rfl,h7,S.R,S.P.app N6,S.sm,ek,S.f.ks,fun H8 l8 N8 st8 h8 => ?_⟩
  have k8:∀ z ∈ N8 ++ (N6 ++ L),NT z -> H8 z.1 = some z.2:=fun z hz _ => h8.at_ _ (List.mem_append_right _ hz)
  refine ⟨_,rfl,lookD (wOf ks ns rs es m) sd_ (kEn ks),lookD (wOf ks ns rs es m) sd_ (kEn ks),st8 H8 k8,st6 H8 (fun z hz nt => k8 z (List.mem_append_right _ hz) nt),look_sh _ _ _,look_sh _ _ _,?_⟩
  rw [eqvR _ (look_lay _ _ _).1]
  refine ⟨_,rfl,iteT ?_⟩
  refine ⟨_,rfl,A1.p,A1.dx,_,rfl,h8.get 1 rfl,(fl_m4 _ _ _).2.2.2.2.2.2.2.2,A1,y,_,rfl,h8,_,rfl,_,_,rfl,?_⟩
  rw [decide_eq_true rfl]
  refine ⟨_,rfl,iteT ?_⟩
  refine ⟨_,rfl,A1,y,_,wOf ks ns rs es m,sd_,kEn ks,rfl,h8,S.R,(S.P.app N6).app N8,S.sm,f,ek,fun H9 h9 => ?_⟩
  rw [S.nx]
  refine ⟨_,rfl,rfl,?_⟩
  rw [show decide (V.str (ytT (wOf ks ns rs es m) sd_ (kEn ks) on) = V.str (Txt.join "\n" (ytL (wOf ks ns rs es m) sd_ (kEn ks) on))) = true from decide_eq_true rfl]
  exact q _
end
end P
set_option Elab.async false
set_option linter.all false
set_option maxRecDepth 100000
set_option maxHeartbeats 4000000
namespace P
open PySem L2
theorem txt_mk {K:PySem.W.Frag} {h:Heap} {mg:Str -> Option Value} (KX:K.In h) (G:h.Ns mainGlobals mg)
  {z0:Addr} {z1 z2:Option Addr} {z3:Array (Option Value)} {z4 z5 z6 z7 z8 z9 za:Value}
  {zb:Addr} {zc zd:Option Addr} {ze:Array (Option Value)} {zf zg zh zi zj zk zl:Value}
  {zm:Addr} {zn zo:Option Addr} {zp:Array (Option Value)} {zq zr zs zt zu zv zw:Value}
  {zx:Addr} {zy zz:Option Addr} {z10:Array (Option Value)} {z11 z12 z13 z14 z15 z16 z17:Value}
  {z18:Addr} {z19 z1a:Option Addr} {z1b:Array (Option Value)} {z1c z1d z1e z1f z1g z1h z1i:Value}
  {z1j:Addr} {z1k z1l:Option Addr} {z1m:Array (Option Value)} {z1n z1o z1p z1q z1r z1s z1t:Value}
  {z1u:Addr} {z1v z1w:Option Addr} {z1x:Array (Option Value)} {z1y z1z z20 z21 z22 z23 z24:Value}
  {z25:Addr} {z26 z27:Option Addr} {z28:Array (Option Value)} {z29 z2a z2b z2c z2d z2e z2f:Value}
  {z2g:Addr} {z2h z2i:Option Addr} {z2j:Array (Option Value)} {z2k z2l z2m z2n z2o z2p z2q:Value}
  {z2r:Addr} {z2s z2t:Option Addr} {z2u:Array (Option Value)} {z2v z2w z2x z2y z2z z30 z31:Value}
  {z32:Addr} {z33 z34:Option Addr} {z35:Array (Option Value)} {z36 z37 z38 z39 z3a z3b z3c:Value}
  {z3d:Addr} {z3e z3f:Option Addr} {z3g:Array (Option Value)} {z3h z3i z3j z3k z3l z3m z3n:Value}
  {z3o:Addr} {z3p z3q:Option Addr} {z3r:Array (Option Value)} {z3s z3t z3u z3v z3w z3x z3y:Value}
  {z3z:Addr} {z40 z41:Option Addr} {z42:Array (Option Value)} {z43 z44 z45 z46 z47 z48 z49:Value}
  {z4a:Addr} {z4b z4c:Option Addr} {z4d:Array (Option Value)} {z4e z4f z4g z4h z4i z4j z4k:Value}
  {z4l:Addr} {z4m z4n:Option Addr} {z4o:Array (Option Value)} {z4p z4q z4r z4s z4t z4u z4v:Value}
  {z4w:Addr} {z4x z4y:Option Addr} {z4z:Array (Option Value)} {z50 z51 z52 z53 z54 z55 z56:Value}
  {z57:Addr} {z58 z59:Option Addr} {z5a:Array (Option Value)} {z5b z5c z5d z5e z5f z5g z5h:Value}
  {z5i:Addr} {z5j z5k:Option Addr} {z5l:Array (Option Value)} {z5m z5n z5o z5p z5q z5r z5s:Value}
  {z5t:Addr} {z5u z5v:Option Addr} {z5w:Array (Option Value)} {z5x z5y z5z z60 z61 z62 z63:Value}
  {z64:Addr} {z65 z66:Option Addr} {z67:Array (Option Value)} {z68 z69 z6a z6b z6c z6d z6e:Value}
  {z6f:Addr} {z6g z6h:Option Addr} {z6i:Array (Option Value)} {z6j z6k z6l z6m z6n z6o z6p:Value}
  {z6q:Addr} {z6r z6s:Option Addr} {z6t:Array (Option Value)} {z6u z6v z6w z6x z6y z6z z70:Value}
  {z71:Addr} {z72 z73:Option Addr} {z74:Array (Option Value)} {z75 z76 z77 z78 z79 z7a z7b:Value}
  {z7c:Addr} {z7d z7e:Option Addr} {z7f:Array (Option Value)} {z7g z7h z7i z7j z7k z7l z7m:Value}
  {z7n:Addr} {z7o z7p:Option Addr} {z7q:Array (Option Value)} {z7r z7s z7t z7u z7v z7w z7x:Value}
  {z7y:Addr} {z7z z80:Option Addr} {z81:Array (Option Value)} {z82 z83 z84 z85 z86 z87 z88:Value}
  {z89:Addr} {z8a z8b:Option Addr} {z8c:Array (Option Value)} {z8d z8e z8f z8g z8h z8i z8j:Value}
  {z8k:Addr} {z8l z8m:Option Addr} {z8n:Array (Option Value)} {z8o z8p z8q z8r z8s z8t z8u:Value}
  {z8v:Addr} {z8w z8x:Option Addr} {z8y:Array (Option Value)} {z8z z90 z91 z92 z93 z94 z95:Value}
  {z96:Addr} {z97 z98:Option Addr} {z99:Array (Option Value)} {z9a z9b z9c z9d z9e z9f z9g:Value}
  {z9h:Addr} {z9i z9j:Option Addr} {z9k:Array (Option Value)} {z9l z9m z9n z9o z9p z9q z9r:Value}
  {z9s:Addr} {z9t z9u:Option Addr} {z9v:Array (Option Value)} {z9w z9x z9y z9z za0 za1 za2:Value}
  {za3:Addr} {za4 za5:Option Addr} {za6:Array (Option Value)} {za7 za8 za9 zaa zab zac zad:Value}
  {zae:Addr} {zaf zag:Option Addr} {zah:Array (Option Value)} {zai zaj zak zal zam zan zao:Value}
  {zap:Addr} {zaq zar:Option Addr} {zas:Array (Option Value)} {zat zau zav zaw zax zay zaz:Value}
  {zb0:Addr} {zb1 zb2:Option Addr} {zb3:Array (Option Value)} {zb4 zb5 zb6 zb7 zb8 zb9 zba:Value}
  {zbb:Addr} {zbc zbd:Option Addr} {zbe:Array (Option Value)} {zbf zbg zbh zbi zbj zbk zbl:Value}
  {zbm:Addr} {zbn zbo:Option Addr} {zbp:Array (Option Value)} {zbq zbr zbs zbt zbu zbv zbw:Value}
  {zbx:Addr} {zby zbz:Option Addr} {zc0:Array (Option Value)} {zc1 zc2 zc3 zc4 zc5 zc6 zc7:Value}
  {zc8:Addr} {zc9 zca:Option Addr} {zcb:Array (Option Value)} {zcc zcd zce zcf zcg zch zci:Value}
  {zcj:Addr} {zck zcl:Option Addr} {zcm:Array (Option Value)} {zcn zco zcp zcq zcr zcs zct:Value}
  {zcu:Addr} {zcv zcw:Option Addr} {zcx:Array (Option Value)} {zcy zcz zd0 zd1 zd2 zd3 zd4:Value}
  {zd5:Addr} {zd6 zd7:Option Addr} {zd8:Array (Option Value)} {zd9 zda zdb zdc zdd zde zdf:Value}
  {zdg:Addr} {zdh zdi:Option Addr} {zdj:Array (Option Value)} {zdk zdl zdm zdn zdo zdp zdq:Value}
  {zdr:Addr} {zds zdt:Option Addr} {zdu:Array (Option Value)} {zdv zdw zdx zdy zdz ze0 ze1:Value}
  {ze2:Addr} {ze3 ze4:Option Addr} {ze5:Array (Option Value)} {ze6 ze7 ze8 ze9 zea zeb zec:Value}
  {zed:Addr} {zee zef:Option Addr} {zeg:Array (Option Value)} {zeh zei zej zek zel zem zen:Value}
  {zeo:Addr} {zep zeq:Option Addr} {zer:Array (Option Value)} {zes zet zeu zev zew zex zey:Value}
  {zez:Addr} {zf0 zf1:Option Addr} {zf2:Array (Option Value)} {zf3 zf4 zf5 zf6 zf7 zf8 zf9:Value}
  {zfa:Addr} {zfb zfc:Option Addr} {zfd:Array (Option Value)} {zfe zff zfg zfh zfi zfj zfk:Value}
  {zfl:Addr} {zfm zfn:Option Addr} {zfo:Array (Option Value)} {zfp zfq zfr zfs zft zfu zfv:Value}
  {zfw:Addr} {zfx zfy:Option Addr} {zfz:Array (Option Value)} {zg0 zg1 zg2 zg3 zg4 zg5 zg6:Value}
  {zg7:Addr} {zg8 zg9:Option Addr} {zga:Array (Option Value)} {zgb zgc zgd zge zgf zgg zgh:Value}
  {zgi:Addr} {zgj zgk:Option Addr} {zgl:Array (Option Value)} {zgm zgn zgo zgp zgq zgr zgs:Value}
  {zgt:Addr} {zgu zgv:Option Addr} {zgw:Array (Option Value)} {zgx zgy zgz zh0 zh1 zh2 zh3:Value}
  {zh4:Addr}
  {zh5:Value}
  {zh6:Value}
  {zh7:Value}
  {zh8:Value}
  {zh9:Addr} {zha:Option Addr} {zhb:Nat} {zhc:Array (Option Value)} {zhd:Tok}
  {zhe:Addr} {zhf:Option Addr} {zhg:Nat} {zhh:Array (Option Value)} {zhi:Tok}
  {zhj:Addr} {zhk:Option Addr} {zhl:Array Value} {zhm:Nat} {zhn:Array (Option Value)}
  (zho:PySem.W.nsIn K mainGlobals "Yard" = some (some (.ref zh4)))
  (zhp:PySem.W.nsIn K mainGlobals "law" = some (some (.ref z0)))
  (zhq:K.lookup z0 = some ⟨z4,z1,.func (PySem.W.fnOf "law" "law" (defArgs s_law) (defBody s_law) (defScope s_law) z5 z6 z7 z8 z2 z9 za),z3⟩)
  (zhr:PySem.W.codeIn K z9 "law" = true)
  (zhs:PySem.W.keepIn K (.ref z0) = true)
  (zht:z5 = .none)
  (zhu:PySem.W.nsIn K mainGlobals "_law_draws" = some (some (.ref zb)))
  (zhv:K.lookup zb = some ⟨zf,zc,.func (PySem.W.fnOf "_law_draws" "_law_draws" (defArgs s_draws) (defBody s_draws) (defScope s_draws) zg zh zi zj zd zk zl),ze⟩)
  (zhw:PySem.W.codeIn K zk "_law_draws" = true)
  (zhx:PySem.W.keepIn K (.ref zb) = true)
  (zhy:zg = .none)
  (zhz:PySem.W.nsIn K mainGlobals "_law_text_set" = some (some (.ref zm)))
  (zi0:K.lookup zm = some ⟨zq,zn,.func (PySem.W.fnOf "_law_text_set" "_law_text_set" (defArgs s_Ju) (defBody s_Ju) (defScope s_Ju) zr zs zt zu zo zv zw),zp⟩)
  (zi1:PySem.W.codeIn K zv "_law_text_set" = true)
  (zi2:PySem.W.keepIn K (.ref zm) = true)
  (zi3:zr = .none)
  (zi4:PySem.W.nsIn K mainGlobals "_law_set" = some (some (.ref zx)))
  (zi5:K.lookup zx = some ⟨z11,zy,.func (PySem.W.fnOf "_law_set" "_law_set" (defArgs s_set) (defBody s_set) (defScope s_set) z12 z13 z14 z15 zz z16 z17),z10⟩)
  (zi6:PySem.W.codeIn K z16 "_law_set" = true)
  (zi7:PySem.W.keepIn K (.ref zx) = true)
  (zi8:z12 = .none)
  (zi9:PySem.W.nsIn K mainGlobals "_law_built" = some (some (.ref z18)))
  (zia:K.lookup z18 = some ⟨z1c,z19,.func (PySem.W.fnOf "_law_built" "_law_built" (defArgs s_built) (defBody s_built) (defScope s_built) z1d z1e z1f z1g z1a z1h z1i),z1b⟩)
  (zib:PySem.W.codeIn K z1h "_law_built" = true)
  (zic:PySem.W.keepIn K (.ref z18) = true)
  (zid:z1d = .none)
  (zie:PySem.W.nsIn K mainGlobals "_law_kind" = some (some (.ref z1j)))
  (zif:K.lookup z1j = some ⟨z1n,z1k,.func (PySem.W.fnOf "_law_kind" "_law_kind" (defArgs s_kind) (defBody s_kind) (defScope s_kind) z1o z1p z1q z1r z1l z1s z1t),z1m⟩)
  (zig:PySem.W.codeIn K z1s "_law_kind" = true)
  (zih:PySem.W.keepIn K (.ref z1j) = true)
  (zii:z1o = .none)
  (zij:PySem.W.nsIn K mainGlobals "_law_kinds" = some (some (.ref z1u)))
  (zik:K.lookup z1u = some ⟨z1y,z1v,.func (PySem.W.fnOf "_law_kinds" "_law_kinds" (defArgs s_kinds) (defBody s_kinds) (defScope s_kinds) z1z z20 z21 z22 z1w z23 z24),z1x⟩)
  (zil:PySem.W.codeIn K z23 "_law_kinds" = true)
  (zim:PySem.W.keepIn K (.ref z1u) = true)
  (zin:z1z = .none)
  (zio:PySem.W.nsIn K mainGlobals "_law_many" = some (some (.ref z25)))
  (zip:K.lookup z25 = some ⟨z29,z26,.func (PySem.W.fnOf "_law_many" "_law_many" (defArgs s_many) (defBody s_many) (defScope s_many) z2a z2b z2c z2d z27 z2e z2f),z28⟩)
  (ziq:PySem.W.codeIn K z2e "_law_many" = true)
  (zir:PySem.W.keepIn K (.ref z25) = true)
  (zis:z2a = .none)
  (zit:PySem.W.nsIn K mainGlobals "_law_linked" = some (some (.ref z2g)))
  (ziu:K.lookup z2g = some ⟨z2k,z2h,.func (PySem.W.fnOf "_law_linked" "_law_linked" (defArgs s_J31) (defBody s_J31) (defScope s_J31) z2l z2m z2n z2o z2i z2p z2q),z2j⟩)
  (ziv:PySem.W.codeIn K z2p "_law_linked" = true)
  (ziw:PySem.W.keepIn K (.ref z2g) = true)
  (zix:z2l = .none)
  (ziy:PySem.W.nsIn K mainGlobals "_law_ends" = some (some (.ref z2r)))
  (ziz:K.lookup z2r = some ⟨z2v,z2s,.func (PySem.W.fnOf "_law_ends" "_law_ends" (defArgs s_ends) (defBody s_ends) (defScope s_ends) z2w z2x z2y z2z z2t z30 z31),z2u⟩)
  (zj0:PySem.W.codeIn K z30 "_law_ends" = true)
  (zj1:PySem.W.keepIn K (.ref z2r) = true)
  (zj2:z2w = .none)
  (zj3:PySem.W.nsIn K mainGlobals "_law_thrown" = some (some (.ref z32)))
  (zj4:K.lookup z32 = some ⟨z36,z33,.func (PySem.W.fnOf "_law_thrown" "_law_thrown" (defArgs s_J41) (defBody s_J41) (defScope s_J41) z37 z38 z39 z3a z34 z3b z3c),z35⟩)
  (zj5:PySem.W.codeIn K z3b "_law_thrown" = true)
  (zj6:PySem.W.keepIn K (.ref z32) = true)
  (zj7:z37 = .none)
  (zj8:PySem.W.nsIn K mainGlobals "_law_size" = some (some (.ref z3d)))
  (zj9:K.lookup z3d = some ⟨z3h,z3e,.func (PySem.W.fnOf "_law_size" "_law_size" (defArgs s_size) (defBody s_size) (defScope s_size) z3i z3j z3k z3l z3f z3m z3n),z3g⟩)
  (zja:PySem.W.codeIn K z3m "_law_size" = true)
  (zjb:PySem.W.keepIn K (.ref z3d) = true)
  (zjc:z3i = .none)
  (zjd:PySem.W.nsIn K mainGlobals "_law_links" = some (some (.ref z3o)))
  (zje:K.lookup z3o = some ⟨z3s,z3p,.func (PySem.W.fnOf "_law_links" "_law_links" (defArgs s_links) (defBody s_links) (defScope s_links) z3t z3u z3v z3w z3q z3x z3y),z3r⟩)
  (zjf:PySem.W.codeIn K z3x "_law_links" = true)
  (zjg:PySem.W.keepIn K (.ref z3o) = true)
  (zjh:z3t = .none)
  (zji:PySem.W.nsIn K mainGlobals "run" = some (some (.ref z3z)))
  (zjj:K.lookup z3z = some ⟨z43,z40,.func (PySem.W.fnOf "run" "run" (defArgs s_run) (defBody s_run) (defScope s_run) z44 z45 z46 z47 z41 z48 z49),z42⟩)
  (zjk:PySem.W.codeIn K z48 "run" = true)
  (zjl:PySem.W.keepIn K (.ref z3z) = true)
  (zjm:z44 = .none)
  (zjn:PySem.W.nsIn K mainGlobals "next_step" = some (some (.ref z4a)))
  (zjo:K.lookup z4a = some ⟨z4e,z4b,.func (PySem.W.fnOf "next_step" "next_step" (defArgs s_Jk) (defBody s_Jk) (defScope s_Jk) z4f z4g z4h z4i z4c z4j z4k),z4d⟩)
  (zjp:PySem.W.codeIn K z4j "next_step" = true)
  (zjq:PySem.W.keepIn K (.ref z4a) = true)
  (zjr:z4f = .none)
  (zjs:PySem.W.nsIn K mainGlobals "passage" = some (some (.ref z4l)))
  (zjt:K.lookup z4l = some ⟨z4p,z4m,.func (PySem.W.fnOf "passage" "passage" (defArgs s_J01) (defBody s_J01) (defScope s_J01) z4q z4r z4s z4t z4n z4u z4v),z4o⟩)
  (zju:PySem.W.codeIn K z4u "passage" = true)
  (zjv:PySem.W.keepIn K (.ref z4l) = true)
  (zjw:z4q = .none)
  (zjx:PySem.W.nsIn K mainGlobals "check_end" = some (some (.ref z4w)))
  (zjy:K.lookup z4w = some ⟨z50,z4x,.func (PySem.W.fnOf "check_end" "check_end" (defArgs s_Jl) (defBody s_Jl) (defScope s_Jl) z51 z52 z53 z54 z4y z55 z56),z4z⟩)
  (zjz:PySem.W.codeIn K z55 "check_end" = true)
  (zk0:PySem.W.keepIn K (.ref z4w) = true)
  (zk1:z51 = .none)
  (zk2:PySem.W.nsIn K mainGlobals "ends_of" = some (some (.ref z57)))
  (zk3:K.lookup z57 = some ⟨z5b,z58,.func (PySem.W.fnOf "ends_of" "ends_of" (defArgs s_J11) (defBody s_J11) (defScope s_J11) z5c z5d z5e z5f z59 z5g z5h),z5a⟩)
  (zk4:PySem.W.codeIn K z5g "ends_of" = true)
  (zk5:PySem.W.keepIn K (.ref z57) = true)
  (zk6:z5c = .none)
  (zk7:PySem.W.nsIn K mainGlobals "is_point" = some (some (.ref z5i)))
  (zk8:K.lookup z5i = some ⟨z5m,z5j,.func (PySem.W.fnOf "is_point" "is_point" (defArgs s_Jv) (defBody s_Jv) (defScope s_Jv) z5n z5o z5p z5q z5k z5r z5s),z5l⟩)
  (zk9:PySem.W.codeIn K z5r "is_point" = true)
  (zka:PySem.W.keepIn K (.ref z5i) = true)
  (zkb:z5n = .none)
  (zkc:PySem.W.nsIn K mainGlobals "check_side" = some (some (.ref z5t)))
  (zkd:K.lookup z5t = some ⟨z5x,z5u,.func (PySem.W.fnOf "check_side" "check_side" (defArgs s_J9) (defBody s_J9) (defScope s_J9) z5y z5z z60 z61 z5v z62 z63),z5w⟩)
  (zke:PySem.W.codeIn K z62 "check_side" = true)
  (zkf:PySem.W.keepIn K (.ref z5t) = true)
  (zkg:z5y = .none)
  (zkh:PySem.W.nsIn K mainGlobals "point_passage" = some (some (.ref z64)))
  (zki:K.lookup z64 = some ⟨z68,z65,.func (PySem.W.fnOf "point_passage" "point_passage" (defArgs s_J5) (defBody s_J5) (defScope s_J5) z69 z6a z6b z6c z66 z6d z6e),z67⟩)
  (zkj:PySem.W.codeIn K z6d "point_passage" = true)
  (zkk:PySem.W.keepIn K (.ref z64) = true)
  (zkl:z69 = .none)
  (zkm:PySem.W.nsIn K mainGlobals "_law_walk" = some (some (.ref z6f)))
  (zkn:K.lookup z6f = some ⟨z6j,z6g,.func (PySem.W.fnOf "_law_walk" "_law_walk" (defArgs s_walk) (defBody s_walk) (defScope s_walk) z6k z6l z6m z6n z6h z6o z6p),z6i⟩)
  (zko:PySem.W.codeIn K z6o "_law_walk" = true)
  (zkp:PySem.W.keepIn K (.ref z6f) = true)
  (zkq:z6k = .none)
  (zkr:PySem.W.nsIn K mainGlobals "_law_passing" = some (some (.ref z6q)))
  (zks:K.lookup z6q = some ⟨z6u,z6r,.func (PySem.W.fnOf "_law_passing" "_law_passing" (defArgs s_J21) (defBody s_J21) (defScope s_J21) z6v z6w z6x z6y z6s z6z z70),z6t⟩)
  (zkt:PySem.W.codeIn K z6z "_law_passing" = true)
  (zku:PySem.W.keepIn K (.ref z6q) = true)
  (zkv:z6v = .none)
  (zkw:PySem.W.nsIn K mainGlobals "_law_look" = some (some (.ref z71)))
  (zkx:K.lookup z71 = some ⟨z75,z72,.func (PySem.W.fnOf "_law_look" "_law_look" (defArgs s_look) (defBody s_look) (defScope s_look) z76 z77 z78 z79 z73 z7a z7b),z74⟩)
  (zky:PySem.W.codeIn K z7a "_law_look" = true)
  (zkz:PySem.W.keepIn K (.ref z71) = true)
  (zl0:z76 = .none)
  (zl1:PySem.W.nsIn K mainGlobals "write_yard" = some (some (.ref z7c)))
  (zl2:K.lookup z7c = some ⟨z7g,z7d,.func (PySem.W.fnOf "write_yard" "write_yard" (defArgs s_Ja) (defBody s_Ja) (defScope s_Ja) z7h z7i z7j z7k z7e z7l z7m),z7f⟩)
  (zl3:PySem.W.codeIn K z7l "write_yard" = true)
  (zl4:PySem.W.keepIn K (.ref z7c) = true)
  (zl5:z7h = .none)
  (zl6:PySem.W.nsIn K mainGlobals "write_line" = some (some (.ref z7n)))
  (zl7:K.lookup z7n = some ⟨z7r,z7o,.func (PySem.W.fnOf "write_line" "write_line" (defArgs s_Jb) (defBody s_Jb) (defScope s_Jb) z7s z7t z7u z7v z7p z7w z7x),z7q⟩)
  (zl8:PySem.W.codeIn K z7w "write_line" = true)
  (zl9:PySem.W.keepIn K (.ref z7n) = true)
  (zla:z7s = .none)
  (zlb:PySem.W.nsIn K mainGlobals "link_lines" = some (some (.ref z7y)))
  (zlc:K.lookup z7y = some ⟨z82,z7z,.func (PySem.W.fnOf "link_lines" "link_lines" (defArgs s_Jc) (defBody s_Jc) (defScope s_Jc) z83 z84 z85 z86 z80 z87 z88),z81⟩)
  (zld:PySem.W.codeIn K z87 "link_lines" = true)
  (zle:PySem.W.keepIn K (.ref z7y) = true)
  (zlf:z83 = .none)
  (zlg:PySem.W.nsIn K mainGlobals "piece_line" = some (some (.ref z89)))
  (zlh:K.lookup z89 = some ⟨z8d,z8a,.func (PySem.W.fnOf "piece_line" "piece_line" (defArgs s_Jd) (defBody s_Jd) (defScope s_Jd) z8e z8f z8g z8h z8b z8i z8j),z8c⟩)
  (zli:PySem.W.codeIn K z8i "piece_line" = true)
  (zlj:PySem.W.keepIn K (.ref z89) = true)
  (zlk:z8e = .none)
  (zll:PySem.W.nsIn K mainGlobals "_law_yard_lines" = some (some (.ref z8k)))
  (zlm:K.lookup z8k = some ⟨z8o,z8l,.func (PySem.W.fnOf "_law_yard_lines" "_law_yard_lines" (defArgs s_Je) (defBody s_Je) (defScope s_Je) z8p z8q z8r z8s z8m z8t z8u),z8n⟩)
  (zln:PySem.W.codeIn K z8t "_law_yard_lines" = true)
  (zlo:PySem.W.keepIn K (.ref z8k) = true)
  (zlp:z8p = .none)
  (zlq:PySem.W.nsIn K mainGlobals "_law_line" = some (some (.ref z8v)))
  (zlr:K.lookup z8v = some ⟨z8z,z8w,.func (PySem.W.fnOf "_law_line" "_law_line" (defArgs s_line) (defBody s_line) (defScope s_line) z90 z91 z92 z93 z8x z94 z95),z8y⟩)
  (zls:PySem.W.codeIn K z94 "_law_line" = true)
  (zlt:PySem.W.keepIn K (.ref z8v) = true)
  (zlu:z90 = .none)
  (zlv:PySem.W.nsIn K mainGlobals "_law_is" = some (some (.ref z96)))
  (zlw:K.lookup z96 = some ⟨z9a,z97,.func (PySem.W.fnOf "_law_is" "_law_is" (defArgs s_is) (defBody s_is) (defScope s_is) z9b z9c z9d z9e z98 z9f z9g),z99⟩)
  (zlx:PySem.W.codeIn K z9f "_law_is" = true)
  (zly:PySem.W.keepIn K (.ref z96) = true)
  (zlz:z9b = .none)
  (zm0:PySem.W.nsIn K mainGlobals "_law_whole" = some (some (.ref z9h)))
  (zm1:K.lookup z9h = some ⟨z9l,z9i,.func (PySem.W.fnOf "_law_whole" "_law_whole" (defArgs s_whole) (defBody s_whole) (defScope s_whole) z9m z9n z9o z9p z9j z9q z9r),z9k⟩)
  (zm2:PySem.W.codeIn K z9q "_law_whole" = true)
  (zm3:PySem.W.keepIn K (.ref z9h) = true)
  (zm4:z9m = .none)
  (zm5:PySem.W.nsIn K mainGlobals "check_note" = some (some (.ref z9s)))
  (zm6:K.lookup z9s = some ⟨z9w,z9t,.func (PySem.W.fnOf "check_note" "check_note" (defArgs s_Jf) (defBody s_Jf) (defScope s_Jf) z9x z9y z9z za0 z9u za1 za2),z9v⟩)
  (zm7:PySem.W.codeIn K za1 "check_note" = true)
  (zm8:PySem.W.keepIn K (.ref z9s) = true)
  (zm9:z9x = .none)
  (zma:PySem.W.findIn K (.ref zh4) "__init__" = some (some (.ref za3)))
  (zmb:PySem.W.isFn K (.ref za3) = true)
  (zmc:K.lookup za3 = some ⟨za7,za4,.func (PySem.W.fnOf "__init__" "Yard.__init__" (defArgs s_Jm) (defBody s_Jm) (defScope s_Jm) za8 za9 zaa zab za5 zac zad),za6⟩)
  (zmd:PySem.W.codeIn K zac "Yard.__init__" = true)
  (zme:PySem.W.keepIn K (.ref za3) = true)
  (zmf:za8 = .none)
  (zmg:PySem.W.findIn K (.ref zh4) "steps" = some (some (.ref zae)))
  (zmh:PySem.W.isFn K (.ref zae) = true)
  (zmi:K.lookup zae = some ⟨zai,zaf,.func (PySem.W.fnOf "steps" "Yard.steps" (defArgs s_Jg) (defBody s_Jg) (defScope s_Jg) zaj zak zal zam zag zan zao),zah⟩)
  (zmj:PySem.W.codeIn K zan "Yard.steps" = true)
  (zmk:PySem.W.keepIn K (.ref zae) = true)
  (zml:zaj = .none)
  (zmm:PySem.W.findIn K (.ref zh4) "lift" = some (some (.ref zap)))
  (zmn:PySem.W.isFn K (.ref zap) = true)
  (zmo:K.lookup zap = some ⟨zat,zaq,.func (PySem.W.fnOf "lift" "Yard.lift" (defArgs s_Jn) (defBody s_Jn) (defScope s_Jn) zau zav zaw zax zar zay zaz),zas⟩)
  (zmp:PySem.W.codeIn K zay "Yard.lift" = true)
  (zmq:PySem.W.keepIn K (.ref zap) = true)
  (zmr:zau = .none)
  (zms:PySem.W.findIn K (.ref zh4) "check_piece" = some (some (.ref zb0)))
  (zmt:PySem.W.isFn K (.ref zb0) = true)
  (zmu:K.lookup zb0 = some ⟨zb4,zb1,.func (PySem.W.fnOf "check_piece" "Yard.check_piece" (defArgs s_J0) (defBody s_J0) (defScope s_J0) zb5 zb6 zb7 zb8 zb2 zb9 zba),zb3⟩)
  (zmv:PySem.W.codeIn K zb9 "Yard.check_piece" = true)
  (zmw:PySem.W.keepIn K (.ref zb0) = true)
  (zmx:zb5 = .none)
  (zmy:PySem.W.findIn K (.ref zh4) "end_trail" = some (some (.ref zbb)))
  (zmz:PySem.W.isFn K (.ref zbb) = true)
  (zn0:K.lookup zbb = some ⟨zbf,zbc,.func (PySem.W.fnOf "end_trail" "Yard.end_trail" (defArgs s_J2) (defBody s_J2) (defScope s_J2) zbg zbh zbi zbj zbd zbk zbl),zbe⟩)
  (zn1:PySem.W.codeIn K zbk "Yard.end_trail" = true)
  (zn2:PySem.W.keepIn K (.ref zbb) = true)
  (zn3:zbg = .none)
  (zn4:PySem.W.findIn K (.ref zh4) "off" = some (some (.ref zbm)))
  (zn5:PySem.W.isFn K (.ref zbm) = true)
  (zn6:K.lookup zbm = some ⟨zbq,zbn,.func (PySem.W.fnOf "off" "Yard.off" (defArgs s_Jw) (defBody s_Jw) (defScope s_Jw) zbr zbs zbt zbu zbo zbv zbw),zbp⟩)
  (zn7:PySem.W.codeIn K zbv "Yard.off" = true)
  (zn8:PySem.W.keepIn K (.ref zbm) = true)
  (zn9:zbr = .none)
  (zna:PySem.W.findIn K (.ref zh4) "lay" = some (some (.ref zbx)))
  (znb:PySem.W.isFn K (.ref zbx) = true)
  (znc:K.lookup zbx = some ⟨zc1,zby,.func (PySem.W.fnOf "lay" "Yard.lay" (defArgs s_Jx) (defBody s_Jx) (defScope s_Jx) zc2 zc3 zc4 zc5 zbz zc6 zc7),zc0⟩)
  (znd:PySem.W.codeIn K zc6 "Yard.lay" = true)
  (zne:PySem.W.keepIn K (.ref zbx) = true)
  (znf:zc2 = .ref zh9)
  (zng:K.lookup zh9 = some ⟨.type "tuple",zha,.seq #[.int 0 zhd,.none] zhb,zhc⟩)
  (znh:PySem.W.findIn K (.ref zh4) "check_rod" = some (some (.ref zc8)))
  (zni:PySem.W.isFn K (.ref zc8) = true)
  (znj:K.lookup zc8 = some ⟨zcc,zc9,.func (PySem.W.fnOf "check_rod" "Yard.check_rod" (defArgs s_J3) (defBody s_J3) (defScope s_J3) zcd zce zcf zcg zca zch zci),zcb⟩)
  (znk:PySem.W.codeIn K zch "Yard.check_rod" = true)
  (znl:PySem.W.keepIn K (.ref zc8) = true)
  (znm:zcd = .none)
  (znn:PySem.W.findIn K (.ref zh4) "new_rod" = some (some (.ref zcj)))
  (zno:PySem.W.isFn K (.ref zcj) = true)
  (znp:K.lookup zcj = some ⟨zcn,zck,.func (PySem.W.fnOf "new_rod" "Yard.new_rod" (defArgs s_J6) (defBody s_J6) (defScope s_J6) zco zcp zcq zcr zcl zcs zct),zcm⟩)
  (znq:PySem.W.codeIn K zcs "Yard.new_rod" = true)
  (znr:PySem.W.keepIn K (.ref zcj) = true)
  (zns:zco = .ref zhe)
  (znt:K.lookup zhe = some ⟨.type "tuple",zhf,.seq #[.int 1 zhi] zhg,zhh⟩)
  (znu:PySem.W.findIn K (.ref zh4) "put" = some (some (.ref zcu)))
  (znv:PySem.W.isFn K (.ref zcu) = true)
  (znw:K.lookup zcu = some ⟨zcy,zcv,.func (PySem.W.fnOf "put" "Yard.put" (defArgs s_Jy) (defBody s_Jy) (defScope s_Jy) zcz zd0 zd1 zd2 zcw zd3 zd4),zcx⟩)
  (znx:PySem.W.codeIn K zd3 "Yard.put" = true)
  (zny:PySem.W.keepIn K (.ref zcu) = true)
  (znz:zcz = .none)
  (zo0:PySem.W.findIn K (.ref zh4) "check_there" = some (some (.ref zd5)))
  (zo1:PySem.W.isFn K (.ref zd5) = true)
  (zo2:K.lookup zd5 = some ⟨zd9,zd6,.func (PySem.W.fnOf "check_there" "Yard.check_there" (defArgs s_J1) (defBody s_J1) (defScope s_J1) zda zdb zdc zdd zd7 zde zdf),zd8⟩)
  (zo3:PySem.W.codeIn K zde "Yard.check_there" = true)
  (zo4:PySem.W.keepIn K (.ref zd5) = true)
  (zo5:zda = .none)
  (zo6:PySem.W.findIn K (.ref zh4) "link" = some (some (.ref zdg)))
  (zo7:PySem.W.isFn K (.ref zdg) = true)
  (zo8:K.lookup zdg = some ⟨zdk,zdh,.func (PySem.W.fnOf "link" "Yard.link" (defArgs s_Jo) (defBody s_Jo) (defScope s_Jo) zdl zdm zdn zdo zdi zdp zdq),zdj⟩)
  (zo9:PySem.W.codeIn K zdp "Yard.link" = true)
  (zoa:PySem.W.keepIn K (.ref zdg) = true)
  (zob:zdl = .none)
  (zoc:PySem.W.findIn K (.ref zh4) "throw" = some (some (.ref zdr)))
  (zod:PySem.W.isFn K (.ref zdr) = true)
  (zoe:K.lookup zdr = some ⟨zdv,zds,.func (PySem.W.fnOf "throw" "Yard.throw" (defArgs s_Jh) (defBody s_Jh) (defScope s_Jh) zdw zdx zdy zdz zdt ze0 ze1),zdu⟩)
  (zof:PySem.W.codeIn K ze0 "Yard.throw" = true)
  (zog:PySem.W.keepIn K (.ref zdr) = true)
  (zoh:zdw = .none)
  (zoi:PySem.W.findIn K (.ref zh4) "carry" = some (some (.ref ze2)))
  (zoj:PySem.W.isFn K (.ref ze2) = true)
  (zok:K.lookup ze2 = some ⟨ze6,ze3,.func (PySem.W.fnOf "carry" "Yard.carry" (defArgs s_Ji) (defBody s_Ji) (defScope s_Ji) ze7 ze8 ze9 zea ze4 zeb zec),ze5⟩)
  (zol:PySem.W.codeIn K zeb "Yard.carry" = true)
  (zom:PySem.W.keepIn K (.ref ze2) = true)
  (zon:ze7 = .none)
  (zoo:PySem.W.findIn K (.ref zh4) "engine" = some (some (.ref zed)))
  (zop:PySem.W.isFn K (.ref zed) = true)
  (zoq:K.lookup zed = some ⟨zeh,zee,.func (PySem.W.fnOf "engine" "Yard.engine" (defArgs s_J7) (defBody s_J7) (defScope s_J7) zei zej zek zel zef zem zen),zeg⟩)
  (zor:PySem.W.codeIn K zem "Yard.engine" = true)
  (zos:PySem.W.keepIn K (.ref zed) = true)
  (zot:zei = .none)
  (zou:PySem.W.findIn K (.ref zh4) "kind" = some (some (.ref zeo)))
  (zov:PySem.W.isFn K (.ref zeo) = true)
  (zow:K.lookup zeo = some ⟨zes,zep,.func (PySem.W.fnOf "kind" "Yard.kind" (defArgs s_Jp) (defBody s_Jp) (defScope s_Jp) zet zeu zev zew zeq zex zey),zer⟩)
  (zox:PySem.W.codeIn K zex "Yard.kind" = true)
  (zoy:PySem.W.keepIn K (.ref zeo) = true)
  (zoz:zet = .none)
  (zp0:PySem.W.findIn K (.ref zh4) "mate" = some (some (.ref zez)))
  (zp1:PySem.W.isFn K (.ref zez) = true)
  (zp2:K.lookup zez = some ⟨zf3,zf0,.func (PySem.W.fnOf "mate" "Yard.mate" (defArgs s_Jq) (defBody s_Jq) (defScope s_Jq) zf4 zf5 zf6 zf7 zf1 zf8 zf9),zf2⟩)
  (zp3:PySem.W.codeIn K zf8 "Yard.mate" = true)
  (zp4:PySem.W.keepIn K (.ref zez) = true)
  (zp5:zf4 = .none)
  (zp6:PySem.W.findIn K (.ref zh4) "side" = some (some (.ref zfa)))
  (zp7:PySem.W.isFn K (.ref zfa) = true)
  (zp8:K.lookup zfa = some ⟨zfe,zfb,.func (PySem.W.fnOf "side" "Yard.side" (defArgs s_Jr) (defBody s_Jr) (defScope s_Jr) zff zfg zfh zfi zfc zfj zfk),zfd⟩)
  (zp9:PySem.W.codeIn K zfj "Yard.side" = true)
  (zpa:PySem.W.keepIn K (.ref zfa) = true)
  (zpb:zff = .none)
  (zpc:PySem.W.findIn K (.ref zh4) "rod" = some (some (.ref zfl)))
  (zpd:PySem.W.isFn K (.ref zfl) = true)
  (zpe:K.lookup zfl = some ⟨zfp,zfm,.func (PySem.W.fnOf "rod" "Yard.rod" (defArgs s_Jz) (defBody s_Jz) (defScope s_Jz) zfq zfr zfs zft zfn zfu zfv),zfo⟩)
  (zpf:PySem.W.codeIn K zfu "Yard.rod" = true)
  (zpg:PySem.W.keepIn K (.ref zfl) = true)
  (zph:zfq = .none)
  (zpi:PySem.W.findIn K (.ref zh4) "pieces" = some (some (.ref zfw)))
  (zpj:PySem.W.isFn K (.ref zfw) = true)
  (zpk:K.lookup zfw = some ⟨zg0,zfx,.func (PySem.W.fnOf "pieces" "Yard.pieces" (defArgs s_J8) (defBody s_J8) (defScope s_J8) zg1 zg2 zg3 zg4 zfy zg5 zg6),zfz⟩)
  (zpl:PySem.W.codeIn K zg5 "Yard.pieces" = true)
  (zpm:PySem.W.keepIn K (.ref zfw) = true)
  (zpn:zg1 = .none)
  (zpo:PySem.W.findIn K (.ref zh4) "rods" = some (some (.ref zg7)))
  (zpp:PySem.W.isFn K (.ref zg7) = true)
  (zpq:K.lookup zg7 = some ⟨zgb,zg8,.func (PySem.W.fnOf "rods" "Yard.rods" (defArgs s_Js) (defBody s_Js) (defScope s_Js) zgc zgd zge zgf zg9 zgg zgh),zga⟩)
  (zpr:PySem.W.codeIn K zgg "Yard.rods" = true)
  (zps:PySem.W.keepIn K (.ref zg7) = true)
  (zpt:zgc = .none)
  (zpu:PySem.W.findIn K (.ref zh4) "bells" = some (some (.ref zgi)))
  (zpv:PySem.W.isFn K (.ref zgi) = true)
  (zpw:K.lookup zgi = some ⟨zgm,zgj,.func (PySem.W.fnOf "bells" "Yard.bells" (defArgs s_Jj) (defBody s_Jj) (defScope s_Jj) zgn zgo zgp zgq zgk zgr zgs),zgl⟩)
  (zpx:PySem.W.codeIn K zgr "Yard.bells" = true)
  (zpy:PySem.W.keepIn K (.ref zgi) = true)
  (zpz:zgn = .none)
  (zq0:PySem.W.findIn K (.ref zh4) "note" = some (some (.ref zgt)))
  (zq1:PySem.W.isFn K (.ref zgt) = true)
  (zq2:K.lookup zgt = some ⟨zgx,zgu,.func (PySem.W.fnOf "note" "Yard.note" (defArgs s_Jt) (defBody s_Jt) (defScope s_Jt) zgy zgz zh0 zh1 zgv zh2 zh3),zgw⟩)
  (zq3:PySem.W.codeIn K zh2 "Yard.note" = true)
  (zq4:PySem.W.keepIn K (.ref zgt) = true)
  (zq5:zgy = .none)
  (zq6:PySem.W.plainGet K zh4 Str.empty = true)
  (zq7:PySem.W.hasDictIn K zh4 = true)
  (zq8:PySem.W.plainOver K zh4 = true)
  (zq9:PySem.W.findIn K (.ref zh4) "__setattr__" = some (some (.builtin "object.__setattr__")))
  (zqa:PySem.W.makesIn K zh4 = true)
  (zqb:PySem.W.keepIn K (.ref zh4) = true)
  (zqc:PySem.W.findIn K (.ref zh4) "next_piece" = some none)
  (zqd:PySem.W.findIn K (.ref zh4) "kinds" = some none)
  (zqe:PySem.W.findIn K (.ref zh4) "notes" = some none)
  (zqf:PySem.W.findIn K (.ref zh4) "rods_under" = some none)
  (zqg:PySem.W.findIn K (.ref zh4) "sides" = some none)
  (zqh:PySem.W.findIn K (.ref zh4) "mates" = some none)
  (zqi:PySem.W.findIn K (.ref zh4) "engine_end" = some none)
  (zqj:PySem.W.findIn K (.ref zh4) "rung" = some none)
  (zqk:PySem.W.findIn K (.ref zh4) "trail" = some none)
  (zql:PySem.W.nsIn K mainGlobals "abs" = some none)
  (zqm:PySem.W.nsIn K mainGlobals "bool" = some none)
  (zqn:PySem.W.nsIn K mainGlobals "enumerate" = some none)
  (zqo:PySem.W.nsIn K mainGlobals "int" = some none)
  (zqp:PySem.W.nsIn K mainGlobals "isinstance" = some none)
  (zqq:PySem.W.nsIn K mainGlobals "len" = some none)
  (zqr:PySem.W.nsIn K mainGlobals "list" = some none)
  (zqs:PySem.W.nsIn K mainGlobals "range" = some none)
  (zqt:PySem.W.nsIn K mainGlobals "sorted" = some none)
  (zqu:PySem.W.nsIn K mainGlobals "str" = some none)
  (zqv:PySem.W.nsIn K mainGlobals "ENDS" = some (some zh5))
  (zqw:∃ a,zh5 = .ref a /\ TabK K a [("line",.int 2),("bell",.int 2),("stop",.int 1),("still",.int 3),("lazy",.int 3),("turning",.int 3)])
  (zqx:PySem.W.nsIn K mainGlobals "LAST_NOTE" = some (some zh6))
  (zqy:RelV (.int 9999) zh6)
  (zqz:PySem.W.nsIn K mainGlobals "POINTS" = some (some zh7))
  (zr0:zh7 = .ref zhj)
  (zr1:K.lookup zhj = some ⟨.type "tuple",zhk,.seq zhl zhm,zhn⟩)
  (zr2:zhl.size <= sizeLine)
  (zr3:Vals [.str "still",.str "lazy",.str "turning"] zhl.toList)
  (zr4:PySem.W.nsIn K mainGlobals "STEM" = some (some zh8))
  (zr5:RelV (.int 0) zh8) :
  Txt K mg ⟨z0,PySem.W.fnOf "law" "law" (defArgs s_law) (defBody s_law) (defScope s_law) z5 z6 z7 z8 z2 z9 za,z5,zb,PySem.W.fnOf "_law_draws" "_law_draws" (defArgs s_draws) (defBody s_draws) (defScope s_draws) zg zh zi zj zd zk zl,zg,zm,PySem.W.fnOf "_law_text_set" "_law_text_set" (defArgs s_Ju) (defBody s_Ju) (defScope s_Ju) zr zs zt zu zo zv zw,zr,zx,PySem.W.fnOf "_law_set" "_law_set" (defArgs s_set) (defBody s_set) (defScope s_set) z12 z13 z14 z15 zz z16 z17,z12,z18,PySem.W.fnOf "_law_built" "_law_built" (defArgs s_built) (defBody s_built) (defScope s_built) z1d z1e z1f z1g z1a z1h z1i,z1d,z1j,PySem.W.fnOf "_law_kind" "_law_kind" (defArgs s_kind) (defBody s_kind) (defScope s_kind) z1o z1p z1q z1r z1l z1s z1t,z1o,z1u,PySem.W.fnOf "_law_kinds" "_law_kinds" (defArgs s_kinds) (defBody s_kinds) (defScope s_kinds) z1z z20 z21 z22 z1w z23 z24,z1z,z25,PySem.W.fnOf "_law_many" "_law_many" (defArgs s_many) (defBody s_many) (defScope s_many) z2a z2b z2c z2d z27 z2e z2f,z2a,z2g,PySem.W.fnOf "_law_linked" "_law_linked" (defArgs s_J31) (defBody s_J31) (defScope s_J31) z2l z2m z2n z2o z2i z2p z2q,z2l,z2r,PySem.W.fnOf "_law_ends" "_law_ends" (defArgs s_ends) (defBody s_ends) (defScope s_ends) z2w z2x z2y z2z z2t z30 z31,z2w,z32,PySem.W.fnOf "_law_thrown" "_law_thrown" (defArgs s_J41) (defBody s_J41) (defScope s_J41) z37 z38 z39 z3a z34 z3b z3c,z37,z3d,PySem.W.fnOf "_law_size" "_law_size" (defArgs s_size) (defBody s_size) (defScope s_size) z3i z3j z3k z3l z3f z3m z3n,z3i,z3o,PySem.W.fnOf "_law_links" "_law_links" (defArgs s_links) (defBody s_links) (defScope s_links) z3t z3u z3v z3w z3q z3x z3y,z3t,z3z,PySem.W.fnOf "run" "run" (defArgs s_run) (defBody s_run) (defScope s_run) z44 z45 z46 z47 z41 z48 z49,z44,z4a,PySem.W.fnOf "next_step" "next_step" (defArgs s_Jk) (defBody s_Jk) (defScope s_Jk) z4f z4g z4h z4i z4c z4j z4k,z4f,z4l,PySem.W.fnOf "passage" "passage" (defArgs s_J01) (defBody s_J01) (defScope s_J01) z4q z4r z4s z4t z4n z4u z4v,z4q,z4w,PySem.W.fnOf "check_end" "check_end" (defArgs s_Jl) (defBody s_Jl) (defScope s_Jl) z51 z52 z53 z54 z4y z55 z56,z51,z57,PySem.W.fnOf "ends_of" "ends_of" (defArgs s_J11) (defBody s_J11) (defScope s_J11) z5c z5d z5e z5f z59 z5g z5h,z5c,z5i,PySem.W.fnOf "is_point" "is_point" (defArgs s_Jv) (defBody s_Jv) (defScope s_Jv) z5n z5o z5p z5q z5k z5r z5s,z5n,z5t,PySem.W.fnOf "check_side" "check_side" (defArgs s_J9) (defBody s_J9) (defScope s_J9) z5y z5z z60 z61 z5v z62 z63,z5y,z64,PySem.W.fnOf "point_passage" "point_passage" (defArgs s_J5) (defBody s_J5) (defScope s_J5) z69 z6a z6b z6c z66 z6d z6e,z69,z6f,PySem.W.fnOf "_law_walk" "_law_walk" (defArgs s_walk) (defBody s_walk) (defScope s_walk) z6k z6l z6m z6n z6h z6o z6p,z6k,z6q,PySem.W.fnOf "_law_passing" "_law_passing" (defArgs s_J21) (defBody s_J21) (defScope s_J21) z6v z6w z6x z6y z6s z6z z70,z6v,z71,PySem.W.fnOf "_law_look" "_law_look" (defArgs s_look) (defBody s_look) (defScope s_look) z76 z77 z78 z79 z73 z7a z7b,z76,z7c,PySem.W.fnOf "write_yard" "write_yard" (defArgs s_Ja) (defBody s_Ja) (defScope s_Ja) z7h z7i z7j z7k z7e z7l z7m,z7h,z7n,PySem.W.fnOf "write_line" "write_line" (defArgs s_Jb) (defBody s_Jb) (defScope s_Jb) z7s z7t z7u z7v z7p z7w z7x,z7s,z7y,PySem.W.fnOf "link_lines" "link_lines" (defArgs s_Jc) (defBody s_Jc) (defScope s_Jc) z83 z84 z85 z86 z80 z87 z88,z83,z89,PySem.W.fnOf "piece_line" "piece_line" (defArgs s_Jd) (defBody s_Jd) (defScope s_Jd) z8e z8f z8g z8h z8b z8i z8j,z8e,z8k,PySem.W.fnOf "_law_yard_lines" "_law_yard_lines" (defArgs s_Je) (defBody s_Je) (defScope s_Je) z8p z8q z8r z8s z8m z8t z8u,z8p,z8v,PySem.W.fnOf "_law_line" "_law_line" (defArgs s_line) (defBody s_line) (defScope s_line) z90 z91 z92 z93 z8x z94 z95,z90,z96,PySem.W.fnOf "_law_is" "_law_is" (defArgs s_is) (defBody s_is) (defScope s_is) z9b z9c z9d z9e z98 z9f z9g,z9b,z9h,PySem.W.fnOf "_law_whole" "_law_whole" (defArgs s_whole) (defBody s_whole) (defScope s_whole) z9m z9n z9o z9p z9j z9q z9r,z9m,z9s,PySem.W.fnOf "check_note" "check_note" (defArgs s_Jf) (defBody s_Jf) (defScope s_Jf) z9x z9y z9z za0 z9u za1 za2,z9x,za3,PySem.W.fnOf "__init__" "Yard.__init__" (defArgs s_Jm) (defBody s_Jm) (defScope s_Jm) za8 za9 zaa zab za5 zac zad,za8,zae,PySem.W.fnOf "steps" "Yard.steps" (defArgs s_Jg) (defBody s_Jg) (defScope s_Jg) zaj zak zal zam zag zan zao,zaj,zap,PySem.W.fnOf "lift" "Yard.lift" (defArgs s_Jn) (defBody s_Jn) (defScope s_Jn) zau zav zaw zax zar zay zaz,zau,zb0,PySem.W.fnOf "check_piece" "Yard.check_piece" (defArgs s_J0) (defBody s_J0) (defScope s_J0) zb5 zb6 zb7 zb8 zb2 zb9 zba,zb5,zbb,PySem.W.fnOf "end_trail" "Yard.end_trail" (defArgs s_J2) (defBody s_J2) (defScope s_J2) zbg zbh zbi zbj zbd zbk zbl,zbg,zbm,PySem.W.fnOf "off" "Yard.off" (defArgs s_Jw) (defBody s_Jw) (defScope s_Jw) zbr zbs zbt zbu zbo zbv zbw,zbr,zbx,PySem.W.fnOf "lay" "Yard.lay" (defArgs s_Jx) (defBody s_Jx) (defScope s_Jx) zc2 zc3 zc4 zc5 zbz zc6 zc7,zc2,zc8,PySem.W.fnOf "check_rod" "Yard.check_rod" (defArgs s_J3) (defBody s_J3) (defScope s_J3) zcd zce zcf zcg zca zch zci,zcd,zcj,PySem.W.fnOf "new_rod" "Yard.new_rod" (defArgs s_J6) (defBody s_J6) (defScope s_J6) zco zcp zcq zcr zcl zcs zct,zco,zcu,PySem.W.fnOf "put" "Yard.put" (defArgs s_Jy) (defBody s_Jy) (defScope s_Jy) zcz zd0 zd1 zd2 zcw zd3 zd4,zcz,zd5,PySem.W.fnOf "check_there" "Yard.check_there" (defArgs s_J1) (defBody s_J1) (defScope s_J1) zda zdb zdc zdd zd7 zde zdf,zda,zdg,PySem.W.fnOf "link" "Yard.link" (defArgs s_Jo) (defBody s_Jo) (defScope s_Jo) zdl zdm zdn zdo zdi zdp zdq,zdl,zdr,PySem.W.fnOf "throw" "Yard.throw" (defArgs s_Jh) (defBody s_Jh) (defScope s_Jh) zdw zdx zdy zdz zdt ze0 ze1,zdw,ze2,PySem.W.fnOf "carry" "Yard.carry" (defArgs s_Ji) (defBody s_Ji) (defScope s_Ji) ze7 ze8 ze9 zea ze4 zeb zec,ze7,zed,PySem.W.fnOf "engine" "Yard.engine" (defArgs s_J7) (defBody s_J7) (defScope s_J7) zei zej zek zel zef zem zen,zei,zeo,PySem.W.fnOf "kind" "Yard.kind" (defArgs s_Jp) (defBody s_Jp) (defScope s_Jp) zet zeu zev zew zeq zex zey,zet,zez,PySem.W.fnOf "mate" "Yard.mate" (defArgs s_Jq) (defBody s_Jq) (defScope s_Jq) zf4 zf5 zf6 zf7 zf1 zf8 zf9,zf4,zfa,PySem.W.fnOf "side" "Yard.side" (defArgs s_Jr) (defBody s_Jr) (defScope s_Jr) zff zfg zfh zfi zfc zfj zfk,zff,zfl,PySem.W.fnOf "rod" "Yard.rod" (defArgs s_Jz) (defBody s_Jz) (defScope s_Jz) zfq zfr zfs zft zfn zfu zfv,zfq,zfw,PySem.W.fnOf "pieces" "Yard.pieces" (defArgs s_J8) (defBody s_J8) (defScope s_J8) zg1 zg2 zg3 zg4 zfy zg5 zg6,zg1,zg7,PySem.W.fnOf "rods" "Yard.rods" (defArgs s_Js) (defBody s_Js) (defScope s_Js) zgc zgd zge zgf zg9 zgg zgh,zgc,zgi,PySem.W.fnOf "bells" "Yard.bells" (defArgs s_Jj) (defBody s_Jj) (defScope s_Jj) zgn zgo zgp zgq zgk zgr zgs,zgn,zgt,PySem.W.fnOf "note" "Yard.note" (defArgs s_Jt) (defBody s_Jt) (defScope s_Jt) zgy zgz zh0 zh1 zgv zh2 zh3,zgy,zh4,zh5,zh6,zh7,zh8⟩ where
 F_law:=funG_mk zhq zhr zhs
 F_draws:=funG_mk zhv zhw zhx
 F_Ju:=funG_mk zi0 zi1 zi2
 F_set:=funG_mk zi5 zi6 zi7
 F_built:=funG_mk zia zib zic
 F_kind:=funG_mk zif zig zih
 F_kinds:=funG_mk zik zil zim
 F_many:=funG_mk zip ziq zir
 F_J31:=funG_mk ziu ziv ziw
 F_ends:=funG_mk ziz zj0 zj1
 F_J41:=funG_mk zj4 zj5 zj6
 F_size:=funG_mk zj9 zja zjb
 F_links:=funG_mk zje zjf zjg
 F_run:=funG_mk zjj zjk zjl
 F_Jk:=funG_mk zjo zjp zjq
 F_J01:=funG_mk zjt zju zjv
 F_Jl:=funG_mk zjy zjz zk0
 F_J11:=funG_mk zk3 zk4 zk5
 F_Jv:=funG_mk zk8 zk9 zka
 F_J9:=funG_mk zkd zke zkf
 F_J5:=funG_mk zki zkj zkk
 F_walk:=funG_mk zkn zko zkp
 F_J21:=funG_mk zks zkt zku
 F_look:=funG_mk zkx zky zkz
 F_Ja:=funG_mk zl2 zl3 zl4
 F_Jb:=funG_mk zl7 zl8 zl9
 F_Jc:=funG_mk zlc zld zle
 F_Jd:=funG_mk zlh zli zlj
 F_Je:=funG_mk zlm zln zlo
 F_line:=funG_mk zlr zls zlt
 F_is:=funG_mk zlw zlx zly
 F_whole:=funG_mk zm1 zm2 zm3
 F_Jf:=funG_mk zm6 zm7 zm8
 F_Jm:=funG_mk zmc zmd zme
 F_Jg:=funG_mk zmi zmj zmk
 F_Jn:=funG_mk zmo zmp zmq
 F_J0:=funG_mk zmu zmv zmw
 F_J2:=funG_mk zn0 zn1 zn2
 F_Jw:=funG_mk zn6 zn7 zn8
 F_Jx:=funG_mk znc znd zne
 F_J3:=funG_mk znj znk znl
 F_J6:=funG_mk znp znq znr
 F_Jy:=funG_mk znw znx zny
 F_J1:=funG_mk zo2 zo3 zo4
 F_Jo:=funG_mk zo8 zo9 zoa
 F_Jh:=funG_mk zoe zof zog
 F_Ji:=funG_mk zok zol zom
 F_J7:=funG_mk zoq zor zos
 F_Jp:=funG_mk zow zox zoy
 F_Jq:=funG_mk zp2 zp3 zp4
 F_Jr:=funG_mk zp8 zp9 zpa
 F_Jz:=funG_mk zpe zpf zpg
 F_J8:=funG_mk zpk zpl zpm
 F_Js:=funG_mk zpq zpr zps
 F_Jj:=funG_mk zpw zpx zpy
 F_Jt:=funG_mk zq2 zq3 zq4
 m_law:=PySem.W.mg_of KX G zhp
 e_law:=zht
 m_draws:=PySem.W.mg_of KX G zhu
 e_draws:=zhy
 m_Ju:=PySem.W.mg_of KX G zhz
 e_Ju:=zi3
 m_set:=PySem.W.mg_of KX G zi4
 e_set:=zi8
 m_built:=PySem.W.mg_of KX G zi9
 e_built:=zid
 m_kind:=PySem.W.mg_of KX G zie
 e_kind:=zii
 m_kinds:=PySem.W.mg_of KX G zij
 e_kinds:=zin
 m_many:=PySem.W.mg_of KX G zio
 e_many:=zis
 m_J31:=PySem.W.mg_of KX G zit
 e_J31:=zix
 m_ends:=PySem.W.mg_of KX G ziy
 e_ends:=zj2
 m_J41:=PySem.W.mg_of KX G zj3
 e_J41:=zj7
 m_size:=PySem.W.mg_of KX G zj8
 e_size:=zjc
 m_links:=PySem.W.mg_of KX G zjd
 e_links:=zjh
 m_run:=PySem.W.mg_of KX G zji
 e_run:=zjm
 m_Jk:=PySem.W.mg_of KX G zjn
 e_Jk:=zjr
 m_J01:=PySem.W.mg_of KX G zjs
 e_J01:=zjw
 m_Jl:=PySem.W.mg_of KX G zjx
 e_Jl:=zk1
 m_J11:=PySem.W.mg_of KX G zk2
 e_J11:=zk6
 m_Jv:=PySem.W.mg_of KX G zk7
 e_Jv:=zkb
 m_J9:=PySem.W.mg_of KX G zkc
 e_J9:=zkg
 m_J5:=PySem.W.mg_of KX G zkh
 e_J5:=zkl
 m_walk:=PySem.W.mg_of KX G zkm
 e_walk:=zkq
 m_J21:=PySem.W.mg_of KX G zkr
 e_J21:=zkv
 m_look:=PySem.W.mg_of KX G zkw
 e_look:=zl0
 m_Ja:=PySem.W.mg_of KX G zl1
 e_Ja:=zl5
 m_Jb:=PySem.W.mg_of KX G zl6
 e_Jb:=zla
 m_Jc:=PySem.W.mg_of KX G zlb
 e_Jc:=zlf
 m_Jd:=PySem.W.mg_of KX G zlg
 e_Jd:=zlk
 m_Je:=PySem.W.mg_of KX G zll
 e_Je:=zlp
 m_line:=PySem.W.mg_of KX G zlq
 e_line:=zlu
 m_is:=PySem.W.mg_of KX G zlv
 e_is:=zlz
 m_whole:=PySem.W.mg_of KX G zm0
 e_whole:=zm4
 m_Jf:=PySem.W.mg_of KX G zm5
 e_Jf:=zm9
 e_Jm:=zmf
 M_Jg:=⟨zmg,zmh,zmk⟩
 e_Jg:=zml
 M_Jn:=⟨zmm,zmn,zmq⟩
 e_Jn:=zmr
 M_J0:=⟨zms,zmt,zmw⟩
 e_J0:=zmx
 M_J2:=⟨zmy,zmz,zn2⟩
 e_J2:=zn3
 M_Jw:=⟨zn4,zn5,zn8⟩
 e_Jw:=zn9
 M_Jx:=⟨zna,znb,zne⟩
 D_Jx:=⟨zh9,zha,zhb,zhc,zhd,znf,zng⟩
 M_J3:=⟨znh,zni,znl⟩
 e_J3:=znm
 M_J6:=⟨znn,zno,znr⟩
 D_J6:=⟨zhe,zhf,zhg,zhh,zhi,zns,znt⟩
 M_Jy:=⟨znu,znv,zny⟩
 e_Jy:=znz
 M_J1:=⟨zo0,zo1,zo4⟩
 e_J1:=zo5
 M_Jo:=⟨zo6,zo7,zoa⟩
 e_Jo:=zob
 M_Jh:=⟨zoc,zod,zog⟩
 e_Jh:=zoh
 M_Ji:=⟨zoi,zoj,zom⟩
 e_Ji:=zon
 M_J7:=⟨zoo,zop,zos⟩
 e_J7:=zot
 M_Jp:=⟨zou,zov,zoy⟩
 e_Jp:=zoz
 M_Jq:=⟨zp0,zp1,zp4⟩
 e_Jq:=zp5
 M_Jr:=⟨zp6,zp7,zpa⟩
 e_Jr:=zpb
 M_Jz:=⟨zpc,zpd,zpg⟩
 e_Jz:=zph
 M_J8:=⟨zpi,zpj,zpm⟩
 e_J8:=zpn
 M_Js:=⟨zpo,zpp,zps⟩
 e_Js:=zpt
 M_Jj:=⟨zpu,zpv,zpy⟩
 e_Jj:=zpz
 M_Jt:=⟨zq0,zq1,zq4⟩
 e_Jt:=zq5
 cl_Yard:=⟨zq6,zq7,zq8,zq9⟩
 m_Yard:=PySem.W.mg_of KX G zho
 mk_Yard:=⟨zqa,zma,zmb,zqb⟩
 n_Yard_next_piece:=zqc
 n_Yard_kinds:=zqd
 n_Yard_notes:=zqe
 n_Js_under:=zqf
 n_Yard_sides:=zqg
 n_Yard_mates:=zqh
 n_J7_end:=zqi
 n_Yard_rung:=zqj
 n_Yard_trail:=zqk
 z_abs:=PySem.W.mg_none_of KX G zql
 z_bool:=PySem.W.mg_none_of KX G zqm
 z_enumerate:=PySem.W.mg_none_of KX G zqn
 z_int:=PySem.W.mg_none_of KX G zqo
 z_isinstance:=PySem.W.mg_none_of KX G zqp
 z_len:=PySem.W.mg_none_of KX G zqq
 z_list:=PySem.W.mg_none_of KX G zqr
 z_range:=PySem.W.mg_none_of KX G zqs
 z_sorted:=PySem.W.mg_none_of KX G zqt
 z_str:=PySem.W.mg_none_of KX G zqu
 g_ENDS:=PySem.W.mg_of KX G zqv
 x_ENDS:=zqw
 g_LAST_NOTE:=PySem.W.mg_of KX G zqx
 r_LAST_NOTE:=zqy
 g_POINTS:=PySem.W.mg_of KX G zqz
 x_POINTS:=⟨zhj,_,zhl,zhm,zr0,zr1,rfl,rfl,zr2,zr3⟩
 g_STEM:=PySem.W.mg_of KX G zr4
 r_STEM:=zr5
end P
namespace PySem.W.Fast
def tw10014631881819615597:=()
def tw10016221580735732709:=()
def tw10020092783108266135:=()
def tw10027500930864908384:=()
def tw10036195392580903432:=()
def tw1004840011843900846:=()
def tw10057165261609763900:=()
def tw10058900437352695186:=()
def tw10069545014105955840:=()
def tw10098132628912769559:=()
def tw10115752772766120798:=()
def tw10121707206136515890:=()
def tw10139999916658172694:=()
def tw10221453721850579696:=()
def tw10279278696693106394:=()
def tw10280502323063967137:=()
def tw10292158359778861866:=()
def tw10316815845000712818:=()
def tw10321091483214548826:=()
def tw1032686061797729924:=()
def tw1037580544613532271:=()
def tw10392921261479202674:=()
def tw10399835480839193479:=()
def tw10402418157914032883:=()
def tw10424270016973233741:=()
def tw10458744413517410328:=()
def tw10459226248692255811:=()
def tw1049500579362026388:=()
def tw10495508111005363686:=()
def tw10517455241627618319:=()
def tw10531386890261934935:=()
def tw10595591518803488047:=()
def tw10596439287756165402:=()
def tw10687577821980032361:=()
def tw10741490611804137057:=()
def tw10746334264229585805:=()
def tw10762569307909358476:=()
def tw10772678025536190897:=()
def tw10794327673596321974:=()
def tw10834993238058152573:=()
def tw10840619554895617239:=()
def tw10877339746567134900:=()
def tw10893184990808497449:=()
def tw10973740752001959403:=()
def tw11005140883477224925:=()
def tw11039605768011004627:=()
def tw11056796845870207143:=()
def tw11065407460336241916:=()
def tw11087151519388441930:=()
def tw11096933439894701406:=()
def tw11112845175953544905:=()
def tw11116669592384803200:=()
def tw11173254316171873250:=()
def tw11183411240532627228:=()
def tw11196694812272463374:=()
def tw11201476996720441539:=()
def tw11201878326273211229:=()
def tw11220889378445936813:=()
def tw11228161319550996524:=()
def tw11251193803980562594:=()
def tw11278539653807278613:=()
def tw11304979097527403019:=()
def tw11335709755674001806:=()
def tw11339460577474577097:=()
def tw11339980981265245226:=()
def tw11354704898365246817:=()
def tw11355326870211457853:=()
def tw11372713759061577694:=()
def tw11381302350013268686:=()
def tw11388849825688173840:=()
def tw11411715647739493162:=()
def tw11436186389191257062:=()
def tw11445063992873879778:=()
def tw11447152642694791285:=()
def tw11504731968244618015:=()
def tw11513708921942468787:=()
def tw11521858502313628614:=()
def tw11574244791534783240:=()
def tw1159488322940812868:=()
def tw11601491138857843276:=()
def tw11623512510461103420:=()
def tw11643347414983489272:=()
def tw11648566157900009628:=()
def tw11687305371962785813:=()
def tw11687646217240203383:=()
def tw11693339782515308907:=()
def tw11695699369781809213:=()
def tw11696085374089644004:=()
def tw11696377053044737946:=()
def tw11708808387616744069:=()
def tw11710976822153678003:=()
def tw11725449010872948926:=()
def tw11753453734768026034:=()
def tw11774869923680838582:=()
def tw11778517716358020935:=()
def tw11827186030263709405:=()
def tw11864165380900282421:=()
def tw1186969827992115043:=()
def tw11937493048538753432:=()
def tw11944468924964489052:=()
def tw11985453864715683693:=()
def tw11992299832843987894:=()
def tw12005550587165962021:=()
def tw120576178856387701:=()
def tw12077546941903048503:=()
def tw12080910581403838655:=()
def tw12084776474729606985:=()
def tw12175783257483512210:=()
def tw12213116911699255090:=()
def tw12249037543496586729:=()
def tw12316983137540245216:=()
def tw12356619434271702881:=()
def tw12371364999952142475:=()
def tw12416581317458302416:=()
def tw12440898520033865508:=()
def tw12444307436526683361:=()
def tw12451314675649159001:=()
def tw12498598968214502484:=()
def tw12506827382523734465:=()
def tw12520712618868657263:=()
def tw12545106532087695485:=()
def tw12550782999553994241:=()
def tw12551408053104602596:=()
def tw12570783233322793299:=()
def tw12589916872890009994:=()
def tw12610227633997208181:=()
def tw12627601527923659902:=()
def tw12673004083388487804:=()
def tw12681460293846036492:=()
def tw12688133556172434973:=()
def tw12689209741098921988:=()
def tw12730661187170339970:=()
def tw12743121858497720390:=()
def tw12744329540205859475:=()
def tw12745925978070978397:=()
def tw12753774755582692620:=()
def tw12771554598676861394:=()
def tw1279105814980395536:=()
def tw12796385216246497817:=()
def tw12840826285628721192:=()
def tw12841256869497686909:=()
def tw1286803500455630067:=()
def tw12869819030087516218:=()
def tw12889754609885186366:=()
def tw12901078830838635713:=()
def tw12915047565433436396:=()
def tw12957123514415770025:=()
def tw1296609705969365679:=()
def tw12968010805743013796:=()
def tw13006532302931538866:=()
def tw13027210750991960990:=()
def tw13081980629157003107:=()
def tw13120550891615476228:=()
def tw13160689184915873323:=()
def tw13203702117312495731:=()
def tw13207732853462983067:=()
def tw13208372709028327707:=()
def tw13215256845514120817:=()
def tw13216303708614882842:=()
def tw13230278594111770129:=()
def tw13257140806831538274:=()
def tw13267032552593961110:=()
def tw13273669171091179141:=()
def tw1327894195969458174:=()
def tw13326597637053145670:=()
def tw13369143575218136023:=()
def tw13384091390364061010:=()
def tw13455496554909128850:=()
def tw13496991784373975594:=()
def tw13518782525479998967:=()
def tw13519080045907941689:=()
def tw13565873459467007655:=()
def tw13596513529679742458:=()
def tw13599972360482852972:=()
def tw13601109066620869961:=()
def tw13649795157207651006:=()
def tw13650799647511141717:=()
def tw1365976113732504222:=()
def tw13672699804877513641:=()
def tw13691745955282920206:=()
def tw13702754241279988481:=()
def tw1371029131810102153:=()
def tw13761322973704784050:=()
def tw13764032136277796412:=()
def tw13794736710731313761:=()
def tw13799725097558132449:=()
def tw13851156789287205273:=()
def tw13890184129501436527:=()
def tw13902003647733949548:=()
def tw13907505443379268692:=()
def tw13911812814263584889:=()
def tw13936201358573471412:=()
def tw13938476790448703786:=()
def tw1401473383465250491:=()
def tw14092729057526654963:=()
def tw14097947412589902367:=()
def tw14122392842376200304:=()
def tw14145416587135437675:=()
def tw14237327392585135925:=()
def tw14238969748014708758:=()
def tw14243799674270963430:=()
def tw14245651901124899120:=()
def tw14257784216256529555:=()
def tw14261281104508944416:=()
def tw14288904921878700300:=()
def tw14310815853949982437:=()
def tw14320518165206218283:=()
def tw14406422192051744196:=()
def tw14407332001588958904:=()
def tw14427735056259551860:=()
def tw14471395328773996635:=()
def tw14471803243348925636:=()
def tw1448322079815474784:=()
def tw14497807752153913111:=()
def tw14512269740368320607:=()
def tw14557495628532019697:=()
def tw14581197215806894729:=()
def tw14604757914482425385:=()
def tw14637022651139326249:=()
def tw14637297376791064557:=()
def tw14645985602850654950:=()
def tw1466306211040685435:=()
def tw14691453799167460492:=()
def tw14719994796871104508:=()
def tw14744712298897739999:=()
def tw14778158674710611532:=()
def tw14785089685903610724:=()
def tw14790788127090436109:=()
def tw14797991668193545791:=()
def tw14798552319798088206:=()
def tw1480295458390161268:=()
def tw14827764827516087542:=()
def tw14946445980413347873:=()
def tw15046507844880849010:=()
def tw15083706533399851002:=()
def tw15086534178760543490:=()
def tw15126778668712102784:=()
def tw1512873530028235509:=()
def tw15129644236505525758:=()
def tw15140173730048189207:=()
def tw15145348202166887192:=()
def tw1516735648944374674:=()
def tw15184512760814866055:=()
def tw15191768399665345907:=()
def tw15231976092300054969:=()
def tw15242652183266463206:=()
def tw15258336568543971406:=()
def tw15366691260457768563:=()
def tw15368688752380604379:=()
def tw15399245528035288948:=()
def tw15407848193068297233:=()
def tw15440248144801074692:=()
def tw15446030747033439035:=()
def tw15476057573310706349:=()
def tw15490484207063591628:=()
def tw1551750040698016742:=()
def tw15566713131712070789:=()
def tw15588481130233251308:=()
def tw15596213399498893674:=()
def tw15700882077495505378:=()
def tw15743124014014456228:=()
def tw15814157235479338302:=()
def tw15830544939260860526:=()
def tw15840074581903708726:=()
def tw15857457156744525418:=()
def tw15919958077956181528:=()
def tw15929192390382862792:=()
def tw15957877601796362019:=()
def tw15964054245068608403:=()
def tw15992822422646554034:=()
def tw15993233785644632307:=()
def tw15994554900801745631:=()
def tw15997061934681363386:=()
def tw16030991250642419036:=()
def tw16050247293067934798:=()
def tw16108921485486098180:=()
def tw16109898446903664231:=()
def tw16111339854171951739:=()
def tw16113879875177280592:=()
def tw16120429015185024771:=()
def tw16168168647989896966:=()
def tw16180267736745265980:=()
def tw16187570647000509747:=()
def tw16222354094200963989:=()
def tw16223346795756560984:=()
def tw16243379930330819710:=()
def tw16265465119005786827:=()
def tw16316764155321162572:=()
def tw16319617512235849730:=()
def tw16330355583171957991:=()
def tw1643112816247300927:=()
def tw16450124711831557025:=()
def tw16493583464111352779:=()
def tw16543559472912040327:=()
def tw16590455582425399001:=()
def tw16603269412887459352:=()
def tw16631364022258192435:=()
def tw16640724649169634675:=()
def tw16658156834343491780:=()
def tw16665914636150746096:=()
def tw16687821444781558694:=()
def tw16703668873288295943:=()
def tw16705883376942450034:=()
def tw16740255707492497333:=()
def tw16741395998479723110:=()
def tw1676895821764101379:=()
def tw16810076367754387509:=()
def tw16836577851793484682:=()
def tw16967747638163429774:=()
def tw16977539445817509758:=()
def tw16978255908885352982:=()
def tw17012012250394318112:=()
def tw17068284740670635550:=()
def tw17101089974422833932:=()
def tw17261380345988254551:=()
def tw17263097803399777353:=()
def tw17295222144514925958:=()
def tw17301595688561414394:=()
def tw17301885432851016639:=()
def tw17309413684584536006:=()
def tw17331164538169946184:=()
def tw17357649193724261736:=()
def tw17367192306029000550:=()
def tw17374250728230265925:=()
def tw17401338500504206850:=()
def tw17413211424447400185:=()
def tw17418366036464769501:=()
def tw17427865537965163818:=()
def tw17458202796262663327:=()
def tw17482528860064462453:=()
def tw17559736960385810213:=()
def tw17582609279982269687:=()
def tw17611796710502155467:=()
def tw17618783602210373493:=()
def tw17654293871574906336:=()
def tw176548410110820834:=()
def tw17687954725432077539:=()
def tw17699514673767047770:=()
def tw17722072498202310955:=()
def tw17735941901735117007:=()
def tw17810180677000159330:=()
def tw17810533565773826940:=()
def tw17828245013120638958:=()
def tw17835141581524481822:=()
def tw17870336565655746098:=()
def tw1788244767716695296:=()
def tw17931615115333072509:=()
def tw1793198089764592351:=()
def tw17987809213150232126:=()
def tw18002788822003323388:=()
def tw18046180480235016140:=()
def tw18049598272363076899:=()
def tw18057107520330944776:=()
def tw18079809310622147229:=()
def tw18109945262482175078:=()
def tw18111564959002622663:=()
def tw18158376588264904904:=()
def tw18164018338320659721:=()
def tw18165828172779979204:=()
def tw18166319615081083528:=()
def tw18189389450970305779:=()
def tw1820762321047680443:=()
def tw18236566395262377632:=()
def tw18281665505954022677:=()
def tw18313337909593933157:=()
def tw18319370958315292485:=()
def tw18337709841837988993:=()
def tw1835387810706250186:=()
def tw18379648450901011054:=()
def tw18390637513906055270:=()
def tw1847546276455451295:=()
def tw184808294004285657:=()
def tw1851328179765087876:=()
def tw1963586600355833954:=()
def tw197763930716881488:=()
def tw1989534870846129582:=()
def tw2009397606446972117:=()
def tw2035557701464157151:=()
def tw205358790747567638:=()
def tw2069753734596349243:=()
def tw207329921506827207:=()
def tw2125854088401132187:=()
def tw2126417617607618970:=()
def tw2141493763345005662:=()
def tw2171871053027118091:=()
def tw2172026395335382275:=()
def tw2191532995860310221:=()
def tw2198412107990838462:=()
def tw2199685903289684914:=()
def tw2247640572532506337:=()
def tw2250178169743683012:=()
def tw228792222667382239:=()
def tw2298027227655776499:=()
def tw2323098991227181115:=()
def tw2325125467941707629:=()
def tw2327152290776589547:=()
def tw2360602238029379423:=()
def tw2361341350844674124:=()
def tw2366454445038809020:=()
def tw241902122716853181:=()
def tw2426865823351213895:=()
def tw2446772596382805662:=()
def tw2456107123471753577:=()
def tw2469111591017747355:=()
def tw249576144988848323:=()
def tw2511425548718062078:=()
def tw2520863787011264312:=()
def tw2636917942482145875:=()
def tw2661885766380026899:=()
def tw2680720636342814611:=()
def tw272259490385749779:=()
def tw2725637620261498284:=()
def tw2727848250289792107:=()
def tw2736481883014565364:=()
def tw2765182426093768023:=()
def tw2847998810506239988:=()
def tw286415771109031579:=()
def tw2875698795894215438:=()
def tw2895556345911566354:=()
def tw2898641891751557619:=()
def tw2903124031043417200:=()
def tw2904470427393198401:=()
def tw2913250260297829088:=()
def tw2923344267705243844:=()
def tw2937539229567385875:=()
def tw2938347695679452994:=()
def tw2969709198359949243:=()
def tw2979381196554092579:=()
def tw3020705860689238891:=()
def tw3030957605585328650:=()
def tw3034803970498578378:=()
def tw3073231018414883911:=()
def tw3151121782802774383:=()
def tw3153507037740931241:=()
def tw316181079378812940:=()
def tw3276220481398626969:=()
def tw3290722446782007956:=()
def tw3293682249708238052:=()
def tw3304443559611223932:=()
def tw3315927275770674179:=()
def tw3326909459325261295:=()
def tw3329147642380137099:=()
def tw3349564427860682218:=()
def tw3351826056653269792:=()
def tw3523135227654949222:=()
def tw3536854957629248880:=()
def tw3562018394861938253:=()
def tw3572233577197181895:=()
def tw3577164512635509139:=()
def tw3608945248609183018:=()
def tw3611072129136940140:=()
def tw3621547597730077679:=()
def tw3630514932485431292:=()
def tw3630812835942055812:=()
def tw3634643725586487585:=()
def tw3647636313579189732:=()
def tw3659778353762297271:=()
def tw3660284256343818881:=()
def tw3701155209780103215:=()
def tw3724549575439869367:=()
def tw3738555851804753875:=()
def tw3767893524866085089:=()
def tw3771845038533148330:=()
def tw3773111873548471045:=()
def tw3777875553061350684:=()
def tw3781367690768515573:=()
def tw3787197238911393409:=()
def tw3805654352387409260:=()
def tw3842619045599920067:=()
def tw3863417786537672937:=()
def tw3878526718526716700:=()
def tw390015275968450949:=()
def tw3922048876621731566:=()
def tw3952275359932422566:=()
def tw3986968358591930112:=()
def tw4017062195992668798:=()
def tw4031053057557383640:=()
def tw4038084074794408438:=()
def tw4047791190062720407:=()
def tw4049176851480424923:=()
def tw4065526926581906517:=()
def tw4074393816539699917:=()
def tw4089615560181272888:=()
def tw4134511304653475602:=()
def tw4171155408585403907:=()
def tw4186291282118722954:=()
def tw4214744742225662288:=()
def tw4251493116411609848:=()
def tw4254373089269369207:=()
def tw4265006580022562056:=()
def tw4297151997791865971:=()
def tw4304489272847911557:=()
def tw4324951000046561351:=()
def tw4340428538323130609:=()
def tw4368450762602851426:=()
def tw4380779209983830570:=()
def tw4417263799616846124:=()
def tw4432797709877603435:=()
def tw4567905513085954056:=()
def tw4584478777231136355:=()
def tw4601558053241511153:=()
def tw4650507794675120804:=()
def tw4724818330444882775:=()
def tw4762000668151163621:=()
def tw4774951974684512453:=()
def tw4805486330966755485:=()
def tw4847332913109364829:=()
def tw4915729106563011560:=()
def tw4937668522166958878:=()
def tw4946370630426995088:=()
def tw496914862874317765:=()
def tw5006334609381287411:=()
def tw5032891558398702188:=()
def tw5063667447803232991:=()
def tw5064039033924955374:=()
def tw5126855108106361316:=()
def tw5128205793033044339:=()
def tw5130780502931996141:=()
def tw5147700814789006685:=()
def tw516411793503417957:=()
def tw5168815200885224249:=()
def tw5183077824481718259:=()
def tw5260233114146898926:=()
def tw5287277784184140984:=()
def tw5313918904570984151:=()
def tw533230863753356011:=()
def tw5370303872252718163:=()
def tw5399467489228171821:=()
def tw5434812146413544743:=()
def tw5445213708902793824:=()
def tw5474963082208029528:=()
def tw5497431876971525547:=()
def tw5530696665681398435:=()
def tw554367192172341550:=()
def tw5551992741454806513:=()
def tw5578976939928515637:=()
def tw5609517008211356832:=()
def tw5619549007059627608:=()
def tw5625149499346335582:=()
def tw5626205583610901175:=()
def tw563407632501340442:=()
def tw5664860347994560633:=()
def tw5733894517065010206:=()
def tw5770458005518255595:=()
def tw577143167821981141:=()
def tw5794476378842944591:=()
def tw5867118589069520028:=()
def tw5916703766049662464:=()
def tw5959409089386028224:=()
def tw600172386457670979:=()
def tw6024212441506172514:=()
def tw6041077006808278995:=()
def tw6044295833959856752:=()
def tw6064156985962518931:=()
def tw6077080190257741508:=()
def tw6090333547115473326:=()
def tw6104640063797597794:=()
def tw6106708627965109933:=()
def tw6180195026607490058:=()
def tw618773445450694661:=()
def tw6189066595318326794:=()
def tw6233239218507049397:=()
def tw6263924215985420995:=()
def tw6296524055495877979:=()
def tw6302439709713189899:=()
def tw6314206287229200914:=()
def tw6327394100691380162:=()
def tw63279075080025842:=()
def tw6336176280014535758:=()
def tw6345088099032518702:=()
def tw6359960785903912848:=()
def tw6363303254106855266:=()
def tw6375305666747313441:=()
def tw6383107812579009919:=()
def tw6403169418892943378:=()
def tw6428434108893954314:=()
def tw6453083817574438539:=()
def tw6481740638883528883:=()
def tw6521237814058383136:=()
def tw657996528983038596:=()
def tw6590506551933267798:=()
def tw6601248962652955371:=()
def tw6605017230595043033:=()
def tw6606188418126640250:=()
def tw6652698686811773219:=()
def tw6658955267280616001:=()
def tw6711100309273358879:=()
def tw6725052887581595484:=()
def tw6753087189523794810:=()
def tw6757583019187023092:=()
def tw68273438971754167:=()
def tw6844069313327337877:=()
def tw6859156140617488374:=()
def tw690775230265869946:=()
def tw6915849422935819437:=()
def tw6959174823112896383:=()
def tw6975809299303088768:=()
def tw7008514891830303839:=()
def tw7012787980941158289:=()
def tw7033197261045332869:=()
def tw7036779335633433157:=()
def tw7051492854375348523:=()
def tw7055843488964516679:=()
def tw7078027639142194089:=()
def tw7093388760227599737:=()
def tw7106660662138376390:=()
def tw7141989045886424216:=()
def tw715303072214781658:=()
def tw7182488025522705739:=()
def tw7188025536698177896:=()
def tw7204685464172998676:=()
def tw7233679754382080973:=()
def tw7235455911317368286:=()
def tw7251843829537287006:=()
def tw7276250786037339984:=()
def tw732705778943439149:=()
def tw7327789341762305385:=()
def tw7347074341757996767:=()
def tw7347670534562925171:=()
def tw7389415338726295460:=()
def tw7400539207687032808:=()
def tw7436540296379619397:=()
def tw744449845639162349:=()
def tw7448705044555625897:=()
def tw7531200565741508991:=()
def tw7535558382492797128:=()
def tw7564018076177522856:=()
def tw7607549270758064531:=()
def tw7609067039080069093:=()
def tw7623916236253292909:=()
def tw7647808596379670634:=()
def tw7650618729186835546:=()
def tw765319370305960087:=()
def tw7697167335638215775:=()
def tw7772025790449133136:=()
def tw7774407259958180218:=()
def tw7820500925648104601:=()
def tw7828014107911483896:=()
def tw7909781091429829242:=()
def tw7932930687067763723:=()
def tw793768483559709114:=()
def tw7939558706270342622:=()
def tw7970601110583929022:=()
def tw8051542008266127517:=()
def tw8053300670521691653:=()
def tw8074499747425540873:=()
def tw8095064678972198486:=()
def tw8123238247755955069:=()
def tw8124831719920496174:=()
def tw8127972893015789272:=()
def tw8143453332142076453:=()
def tw8144801174334216848:=()
def tw814657780477256389:=()
def tw8176261284404520635:=()
def tw8203320488958951161:=()
def tw823268940169839162:=()
def tw8292873058824386931:=()
def tw829919965590814221:=()
def tw8318343614152776514:=()
def tw8389764499333214492:=()
def tw8391570658888947470:=()
def tw8398155792587979098:=()
def tw8403933608397713740:=()
def tw8427782567834459966:=()
def tw8461632245790646028:=()
def tw8465394284507074711:=()
def tw8484574386915643707:=()
def tw8502370859922287429:=()
def tw8529139661172131842:=()
def tw853493840978101755:=()
def tw8546102361124445631:=()
def tw8551277257398586121:=()
def tw8572221756683427157:=()
def tw8577659273857485204:=()
def tw8607932727313529822:=()
def tw8638777224635654384:=()
def tw8674045319203898296:=()
def tw8684321196707243512:=()
def tw8763828869651525175:=()
def tw8778003962006818913:=()
def tw8788373180107126328:=()
def tw8816092918565247837:=()
def tw8819116722094407512:=()
def tw890986974753430633:=()
def tw8914444301573370055:=()
def tw8923373789526737469:=()
def tw89563506588880862:=()
def tw9014318354837405809:=()
def tw9015033071436654368:=()
def tw9021409595771463469:=()
def tw9048083331864607650:=()
def tw9082107972727663417:=()
def tw9091094271031920918:=()
def tw9120081906653594924:=()
def tw9122469966338775729:=()
def tw9122899210877158693:=()
def tw9139153479834029210:=()
def tw9169201467880830696:=()
def tw923988215002017966:=()
def tw9247508815453080579:=()
def tw9249648531883698684:=()
def tw9278680933309870357:=()
def tw9280596409887947131:=()
def tw9286675320848959615:=()
def tw9295007854478851678:=()
def tw9305663904343342606:=()
def tw9306111573374532066:=()
def tw9314902519572212571:=()
def tw9402685433164385471:=()
def tw9435368020057323119:=()
def tw9454515657654206849:=()
def tw945912539781591047:=()
def tw9468467462440241342:=()
def tw9486469082430502480:=()
def tw9490850186229542336:=()
def tw9499016088199317466:=()
def tw9506157361062231088:=()
def tw9521431374127259132:=()
def tw953283545466749450:=()
def tw955772574092525429:=()
def tw9603835881651110385:=()
def tw961779180196140352:=()
def tw9618845510689503652:=()
def tw9622975839444077213:=()
def tw9626353614910939693:=()
def tw9647116737778954159:=()
def tw9653285504045137510:=()
def tw9658450463107366424:=()
def tw9687403800965473546:=()
def tw9691888526717235162:=()
def tw9696436103096954416:=()
def tw9706862395138849043:=()
def tw9708681031066860139:=()
def tw9723030536996275888:=()
def tw9728314689908245215:=()
def tw9733818330059671097:=()
def tw9735938402312217474:=()
def tw9749270031064389601:=()
def tw9796904880692792053:=()
def tw9819727874339661770:=()
def tw9831433561295360769:=()
def tw9948303141017677559:=()
def tw998729248277962325:=()
def tw9994401559763601848:=()
end PySem.W.Fast
open PySem PySem.W PyProof.Rows
set_option maxRecDepth 100000 in
set_option maxHeartbeats 0 in
theorem PySem.Challenge.cw_lazyrails_k49_yards_written_holds : PySem.Challenge.rw_lazyrails_k49_yards_written.Holds := by
 w_on; o_law; k_head; (case hw => w_witness2)
 k_fill
 refine L2.walk_ofK (l:=PySem.Challenge.rw_lazyrails_k49_yards_written) (n:=63) (k:=12) (x := "_law_script") (CX:=L2.CX0) (sp:=P.sp_law) rfl (by decide) rfl ⟨rfl,by decide,by decide,rfl⟩ (fun w h Y => PySem.W.kIn_of Y) ?F ?S ?C
 case F =>
  intro w mg fa h KX G hmg
  have T:∃ t,P.Txt (L2.KOf KX) mg t:=by
   dsimp only [L2.KOf]
   refine' ⟨_,P.txt_mk KX G ?zho ?zhp ?zhq ?zhr ?zhs ?zht ?zhu ?zhv ?zhw ?zhx ?zhy ?zhz ?zi0 ?zi1 ?zi2 ?zi3 ?zi4 ?zi5 ?zi6 ?zi7 ?zi8 ?zi9 ?zia ?zib ?zic ?zid ?zie ?zif ?zig ?zih ?zii ?zij ?zik ?zil ?zim ?zin ?zio ?zip ?ziq ?zir ?zis ?zit ?ziu ?ziv ?ziw ?zix ?ziy ?ziz ?zj0 ?zj1 ?zj2 ?zj3 ?zj4 ?zj5 ?zj6 ?zj7 ?zj8 ?zj9 ?zja ?zjb ?zjc ?zjd ?zje ?zjf ?zjg ?zjh ?zji ?zjj ?zjk ?zjl ?zjm ?zjn ?zjo ?zjp ?zjq ?zjr ?zjs ?zjt ?zju ?zjv ?zjw ?zjx ?zjy ?zjz ?zk0 ?zk1 ?zk2 ?zk3 ?zk4 ?zk5 ?zk6 ?zk7 ?zk8 ?zk9 ?zka ?zkb ?zkc ?zkd ?zke ?zkf ?zkg ?zkh ?zki ?zkj ?zkk ?zkl ?zkm ?zkn ?zko ?zkp ?zkq ?zkr ?zks ?zkt ?zku ?zkv ?zkw ?zkx ?zky ?zkz ?zl0 ?zl1 ?zl2 ?zl3 ?zl4 ?zl5 ?zl6 ?zl7 ?zl8 ?zl9 ?zla ?zlb ?zlc ?zld ?zle ?zlf ?zlg ?zlh ?zli ?zlj ?zlk ?zll ?zlm ?zln ?zlo ?zlp ?zlq ?zlr ?zls ?zlt ?zlu ?zlv ?zlw ?zlx ?zly ?zlz ?zm0 ?zm1 ?zm2 ?zm3 ?zm4 ?zm5 ?zm6 ?zm7 ?zm8 ?zm9 ?zma ?zmb ?zmc ?zmd ?zme ?zmf ?zmg ?zmh ?zmi ?zmj ?zmk ?zml ?zmm ?zmn ?zmo ?zmp ?zmq ?zmr ?zms ?zmt ?zmu ?zmv ?zmw ?zmx ?zmy ?zmz ?zn0 ?zn1 ?zn2 ?zn3 ?zn4 ?zn5 ?zn6 ?zn7 ?zn8 ?zn9 ?zna ?znb ?znc ?znd ?zne ?znf ?zng ?znh ?zni ?znj ?znk ?znl ?znm ?znn ?zno ?znp ?znq ?znr ?zns ?znt ?znu ?znv ?znw ?znx ?zny ?znz ?zo0 ?zo1 ?zo2 ?zo3 ?zo4 ?zo5 ?zo6 ?zo7 ?zo8 ?zo9 ?zoa ?zob ?zoc ?zod ?zoe ?zof ?zog ?zoh ?zoi ?zoj ?zok ?zol ?zom ?zon ?zoo ?zop ?zoq ?zor ?zos ?zot ?zou ?zov ?zow ?zox ?zoy ?zoz ?zp0 ?zp1 ?zp2 ?zp3 ?zp4 ?zp5 ?zp6 ?zp7 ?zp8 ?zp9 ?zpa ?zpb ?zpc ?zpd ?zpe ?zpf ?zpg ?zph ?zpi ?zpj ?zpk ?zpl ?zpm ?zpn ?zpo ?zpp ?zpq ?zpr ?zps ?zpt ?zpu ?zpv ?zpw ?zpx ?zpy ?zpz ?zq0 ?zq1 ?zq2 ?zq3 ?zq4 ?zq5 ?zq6 ?zq7 ?zq8 ?zq9 ?zqa ?zqb ?zqc ?zqd ?zqe ?zqf ?zqg ?zqh ?zqi ?zqj ?zqk ?zql ?zqm ?zqn ?zqo ?zqp ?zqq ?zqr ?zqs ?zqt ?zqu ?zqv ?zqw ?zqx ?zqy ?zqz ?zr0 ?zr1 ?zr2 ?zr3 ?zr4 ?zr5⟩
   (case zho => k_is)
   (case zhp => k_is)
   (case zhq => k_is)
   (case zhr => k_is)
   (case zhs => k_is)
   (case zht => exact rfl)
   (case zhu => k_is)
   (case zhv => k_is)
   (case zhw => k_is)
   (case zhx => k_is)
   (case zhy => exact rfl)
   (case zhz => k_is)
   (case zi0 => k_is)
   (case zi1 => k_is)
   (case zi2 => k_is)
   (case zi3 => exact rfl)
   (case zi4 => k_is)
   (case zi5 => k_is)
   (case zi6 => k_is)
   (case zi7 => k_is)
   (case zi8 => exact rfl)
   (case zi9 => k_is)
   (case zia => k_is)
   (case zib => k_is)
   (case zic => k_is)
   (case zid => exact rfl)
   (case zie => k_is)
   (case zif => k_is)
   (case zig => k_is)
   (case zih => k_is)
   (case zii => exact rfl)
   (case zij => k_is)
   (case zik => k_is)
   (case zil => k_is)
   (case zim => k_is)
   (case zin => exact rfl)
   (case zio => k_is)
   (case zip => k_is)
   (case ziq => k_is)
   (case zir => k_is)
   (case zis => exact rfl)
   (case zit => k_is)
   (case ziu => k_is)
   (case ziv => k_is)
   (case ziw => k_is)
   (case zix => exact rfl)
   (case ziy => k_is)
   (case ziz => k_is)
   (case zj0 => k_is)
   (case zj1 => k_is)
   (case zj2 => exact rfl)
   (case zj3 => k_is)
   (case zj4 => k_is)
   (case zj5 => k_is)
   (case zj6 => k_is)
   (case zj7 => exact rfl)
   (case zj8 => k_is)
   (case zj9 => k_is)
   (case zja => k_is)
   (case zjb => k_is)
   (case zjc => exact rfl)
   (case zjd => k_is)
   (case zje => k_is)
   (case zjf => k_is)
   (case zjg => k_is)
   (case zjh => exact rfl)
   (case zji => k_is)
   (case zjj => k_is)
   (case zjk => k_is)
   (case zjl => k_is)
   (case zjm => exact rfl)
   (case zjn => k_is)
   (case zjo => k_is)
   (case zjp => k_is)
   (case zjq => k_is)
   (case zjr => exact rfl)
   (case zjs => k_is)
   (case zjt => k_is)
   (case zju => k_is)
   (case zjv => k_is)
   (case zjw => exact rfl)
   (case zjx => k_is)
   (case zjy => k_is)
   (case zjz => k_is)
   (case zk0 => k_is)
   (case zk1 => exact rfl)
   (case zk2 => k_is)
   (case zk3 => k_is)
   (case zk4 => k_is)
   (case zk5 => k_is)
   (case zk6 => exact rfl)
   (case zk7 => k_is)
   (case zk8 => k_is)
   (case zk9 => k_is)
   (case zka => k_is)
   (case zkb => exact rfl)
   (case zkc => k_is)
   (case zkd => k_is)
   (case zke => k_is)
   (case zkf => k_is)
   (case zkg => exact rfl)
   (case zkh => k_is)
   (case zki => k_is)
   (case zkj => k_is)
   (case zkk => k_is)
   (case zkl => exact rfl)
   (case zkm => k_is)
   (case zkn => k_is)
   (case zko => k_is)
   (case zkp => k_is)
   (case zkq => exact rfl)
   (case zkr => k_is)
   (case zks => k_is)
   (case zkt => k_is)
   (case zku => k_is)
   (case zkv => exact rfl)
   (case zkw => k_is)
   (case zkx => k_is)
   (case zky => k_is)
   (case zkz => k_is)
   (case zl0 => exact rfl)
   (case zl1 => k_is)
   (case zl2 => k_is)
   (case zl3 => k_is)
   (case zl4 => k_is)
   (case zl5 => exact rfl)
   (case zl6 => k_is)
   (case zl7 => k_is)
   (case zl8 => k_is)
   (case zl9 => k_is)
   (case zla => exact rfl)
   (case zlb => k_is)
   (case zlc => k_is)
   (case zld => k_is)
   (case zle => k_is)
   (case zlf => exact rfl)
   (case zlg => k_is)
   (case zlh => k_is)
   (case zli => k_is)
   (case zlj => k_is)
   (case zlk => exact rfl)
   (case zll => k_is)
   (case zlm => k_is)
   (case zln => k_is)
   (case zlo => k_is)
   (case zlp => exact rfl)
   (case zlq => k_is)
   (case zlr => k_is)
   (case zls => k_is)
   (case zlt => k_is)
   (case zlu => exact rfl)
   (case zlv => k_is)
   (case zlw => k_is)
   (case zlx => k_is)
   (case zly => k_is)
   (case zlz => exact rfl)
   (case zm0 => k_is)
   (case zm1 => k_is)
   (case zm2 => k_is)
   (case zm3 => k_is)
   (case zm4 => exact rfl)
   (case zm5 => k_is)
   (case zm6 => k_is)
   (case zm7 => k_is)
   (case zm8 => k_is)
   (case zm9 => exact rfl)
   (case zma => k_is)
   (case zmb => k_is)
   (case zmc => k_is)
   (case zmd => k_is)
   (case zme => k_is)
   (case zmf => exact rfl)
   (case zmg => k_is)
   (case zmh => k_is)
   (case zmi => k_is)
   (case zmj => k_is)
   (case zmk => k_is)
   (case zml => exact rfl)
   (case zmm => k_is)
   (case zmn => k_is)
   (case zmo => k_is)
   (case zmp => k_is)
   (case zmq => k_is)
   (case zmr => exact rfl)
   (case zms => k_is)
   (case zmt => k_is)
   (case zmu => k_is)
   (case zmv => k_is)
   (case zmw => k_is)
   (case zmx => exact rfl)
   (case zmy => k_is)
   (case zmz => k_is)
   (case zn0 => k_is)
   (case zn1 => k_is)
   (case zn2 => k_is)
   (case zn3 => exact rfl)
   (case zn4 => k_is)
   (case zn5 => k_is)
   (case zn6 => k_is)
   (case zn7 => k_is)
   (case zn8 => k_is)
   (case zn9 => exact rfl)
   (case zna => k_is)
   (case znb => k_is)
   (case znc => k_is)
   (case znd => k_is)
   (case zne => k_is)
   (case znf => exact rfl)
   (case zng => k_is)
   (case znh => k_is)
   (case zni => k_is)
   (case znj => k_is)
   (case znk => k_is)
   (case znl => k_is)
   (case znm => exact rfl)
   (case znn => k_is)
   (case zno => k_is)
   (case znp => k_is)
   (case znq => k_is)
   (case znr => k_is)
   (case zns => exact rfl)
   (case znt => k_is)
   (case znu => k_is)
   (case znv => k_is)
   (case znw => k_is)
   (case znx => k_is)
   (case zny => k_is)
   (case znz => exact rfl)
   (case zo0 => k_is)
   (case zo1 => k_is)
   (case zo2 => k_is)
   (case zo3 => k_is)
   (case zo4 => k_is)
   (case zo5 => exact rfl)
   (case zo6 => k_is)
   (case zo7 => k_is)
   (case zo8 => k_is)
   (case zo9 => k_is)
   (case zoa => k_is)
   (case zob => exact rfl)
   (case zoc => k_is)
   (case zod => k_is)
   (case zoe => k_is)
   (case zof => k_is)
   (case zog => k_is)
   (case zoh => exact rfl)
   (case zoi => k_is)
   (case zoj => k_is)
   (case zok => k_is)
   (case zol => k_is)
   (case zom => k_is)
   (case zon => exact rfl)
   (case zoo => k_is)
   (case zop => k_is)
   (case zoq => k_is)
   (case zor => k_is)
   (case zos => k_is)
   (case zot => exact rfl)
   (case zou => k_is)
   (case zov => k_is)
   (case zow => k_is)
   (case zox => k_is)
   (case zoy => k_is)
   (case zoz => exact rfl)
   (case zp0 => k_is)
   (case zp1 => k_is)
   (case zp2 => k_is)
   (case zp3 => k_is)
   (case zp4 => k_is)
   (case zp5 => exact rfl)
   (case zp6 => k_is)
   (case zp7 => k_is)
   (case zp8 => k_is)
   (case zp9 => k_is)
   (case zpa => k_is)
   (case zpb => exact rfl)
   (case zpc => k_is)
   (case zpd => k_is)
   (case zpe => k_is)
   (case zpf => k_is)
   (case zpg => k_is)
   (case zph => exact rfl)
   (case zpi => k_is)
   (case zpj => k_is)
   (case zpk => k_is)
   (case zpl => k_is)
   (case zpm => k_is)
   (case zpn => exact rfl)
   (case zpo => k_is)
   (case zpp => k_is)
   (case zpq => k_is)
   (case zpr => k_is)
   (case zps => k_is)
   (case zpt => exact rfl)
   (case zpu => k_is)
   (case zpv => k_is)
   (case zpw => k_is)
   (case zpx => k_is)
   (case zpy => k_is)
   (case zpz => exact rfl)
   (case zq0 => k_is)
   (case zq1 => k_is)
   (case zq2 => k_is)
   (case zq3 => k_is)
   (case zq4 => k_is)
   (case zq5 => exact rfl)
   (case zq6 => k_is)
   (case zq7 => k_is)
   (case zq8 => k_is)
   (case zq9 => k_is)
   (case zqa => k_is)
   (case zqb => k_is)
   (case zqc => k_is)
   (case zqd => k_is)
   (case zqe => k_is)
   (case zqf => k_is)
   (case zqg => k_is)
   (case zqh => k_is)
   (case zqi => k_is)
   (case zqj => k_is)
   (case zqk => k_is)
   (case zql => k_is)
   (case zqm => k_is)
   (case zqn => k_is)
   (case zqo => k_is)
   (case zqp => k_is)
   (case zqq => k_is)
   (case zqr => k_is)
   (case zqs => k_is)
   (case zqt => k_is)
   (case zqu => k_is)
   (case zqv => k_is)
   (case zqw => exact ⟨_,rfl,by kernel_rfl⟩)
   (case zqx => k_is)
   (case zqy => exact ⟨_,rfl⟩)
   (case zqz => k_is)
   (case zr0 => exact rfl)
   (case zr1 => k_is)
   (case zr2 => exact (show 3 <= PySem.sizeLine by decide))
   (case zr3 => exact .cons ⟨_,rfl⟩ (.cons ⟨_,rfl⟩ (.cons ⟨_,rfl⟩ (.nil))))
   (case zr4 => k_is)
   (case zr5 => exact ⟨_,rfl⟩)
  obtain ⟨t,T⟩:=T
  have e0:=hmg.symm.trans T.m_law
  cases e0
  exact ⟨_,fun s u => P.law_binds T s u,fun base kb nb => P.ok_law T⟩
 case S => exact fun K H a ns hl hO hS => P.law_start hl hS
 case C => exact fun H s e s' z => z
