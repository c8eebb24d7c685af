import PyProof.Rows.All
import Wide.All
import OpenK.AllK
import Wide.FinOn
import Lean
import PyProof.EqAt
import PyProof.EqKinds
import PyProof.TupleCall
import PyProof.ZipIter
import PyProof.EnumMake
import PyProof.ListRange
import KE.KDictList
import KE.LcSums
import KE.KTabLook
import PyProof.P3In
import PySem.Challenge.RW_lazyrails_k09_yard_deeds_refused
set_option Elab.async false
set_option linter.all false
set_option maxRecDepth 100000
namespace L2
open PySem PySem.Spec PyProof.Rows
abbrev Key := Sum Int Str
def keyIs : Key -> Value -> Bool
 | .inl k, v => Value.isInt k v
 | .inr x, v => Value.isStrOf x v
def keyH (w : World) : Key -> Int
 | .inl k => hashInt k
 | .inr x => hashStr w x
theorem keyIs_shape : ∀ {k : Key} {v : Value}, keyIs k v = true -> (∃ i t, k = Sum.inl i /\ v = Value.int i t) ∨ (∃ x t, k = Sum.inr x /\ v = Value.str x t)
 | .inl i, v, h => by
  obtain ⟨t, e⟩ := Value.isInt_shape (k := i) (v := v) h
  exact .inl ⟨i, t, rfl, e⟩
 | .inr x, v, h => by
  obtain ⟨t, e⟩ := Value.isStrOf_shape (x := x) (v := v) h
  exact .inr ⟨x, t, rfl, e⟩
theorem keyIs_int (i : Int) (t : Tok) : keyIs (.inl i) (.int i t) = true := by simp [keyIs, Value.isInt]
theorem keyIs_str (x : Str) (t : Tok) : keyIs (.inr x) (.str x t) = true := by simp [keyIs, Value.isStrOf]
theorem key_ll (a b : Int) : decide ((Sum.inl a : Key) = Sum.inl b) = (a == b) := by
 by_cases e : a = b
 ·subst e; simp
 ·have h : ¬ (Sum.inl a : Key) = Sum.inl b := fun q => e (Sum.inl.inj q)
  rw [decide_eq_false h]
  exact (beq_eq_false_iff_ne.mpr e).symm
theorem key_rr (a b : Str) : decide ((Sum.inr a : Key) = Sum.inr b) = decide (a = b) := by
 by_cases e : a = b
 ·subst e; simp
 ·have h : ¬ (Sum.inr a : Key) = Sum.inr b := fun q => e (Sum.inr.inj q)
  rw [decide_eq_false h, decide_eq_false e]
theorem key_lr (a : Int) (b : Str) : decide ((Sum.inl a : Key) = Sum.inr b) = false := decide_eq_false (fun q => nomatch q)
theorem key_rl (a : Str) (b : Int) : decide ((Sum.inr a : Key) = Sum.inl b) = false := decide_eq_false (fun q => nomatch q)
def mixKind (prog : Program) (w : World) : PySem.KeyKind prog w Key where
 is := keyIs
 hash := keyH w
 inj := fun v a b ha hb => by
  rcases keyIs_shape ha with ⟨i, t, rfl, rfl⟩ | ⟨x, t, rfl, rfl⟩
  ·rcases keyIs_shape hb with ⟨j, u, rfl, e⟩ | ⟨y, u, rfl, e⟩
   ·injection e with e1 _; rw [e1]
   ·exact nomatch e
  ·rcases keyIs_shape hb with ⟨j, u, rfl, e⟩ | ⟨y, u, rfl, e⟩
   ·exact nomatch e
   ·injection e with e1 _; rw [e1]
 byValue := fun k v h => by
  rcases keyIs_shape h with ⟨i, t, rfl, rfl⟩ | ⟨x, t, rfl, rfl⟩ <;> rfl
 pyHash := fun hv h => by
  rcases keyIs_shape hv with ⟨i, t, rfl, rfl⟩ | ⟨x, t, rfl, rfl⟩
  ·exact wpAny_pyHash_int h
  ·exact wpAny_pyHash_str h
 eqBool := fun hu hv h => by
  rcases keyIs_shape hu with ⟨i, t, rfl, rfl⟩ | ⟨x, t, rfl, rfl⟩
  ·rcases keyIs_shape hv with ⟨j, u, rfl, rfl⟩ | ⟨y, u, rfl, rfl⟩
   ·rw [key_ll] at h; exact wpAny_eqBool_int h
   ·rw [key_lr] at h; exact SeqAt.EqAt.int_str i t y u _ _ _ _ h
  ·rcases keyIs_shape hv with ⟨j, u, rfl, rfl⟩ | ⟨y, u, rfl, rfl⟩
   ·rw [key_rl] at h; exact SeqAt.EqAt.str_int x t j u _ _ _ _ h
   ·rw [key_rr] at h; exact wpAny_eqBool_str h
 «strs» := fun k x t v h => by
  rcases keyIs_shape h with ⟨i, u, rfl, e⟩ | ⟨y, u, rfl, e⟩
  ·exact nomatch e
  ·injection e with e1 _
   subst e1
   cases v <;> rfl
theorem mixKind_int (prog : Program) (w : World) (i : Int) (t : Tok) : (mixKind prog w).is (.inl i) (.int i t) = true := keyIs_int i t
theorem mixKind_str (prog : Program) (w : World) (x : Str) (t : Tok) : (mixKind prog w).is (.inr x) (.str x t) = true := keyIs_str x t
end L2
namespace L2
open PySem PySem.Spec PyProof.Rows
inductive V where
 | non | bl (b : Bool) | int (i : Int) | str (x : Str) | byt (b : Array UInt8) | flt (b : UInt64) | ref (a : Addr) | ty (n : String)
 deriving DecidableEq
def RelV : V -> Value -> Prop
 | .non, u => u = Value.none
 | .bl b, u => u = Value.bool b
 | .int i, u => ∃ t, u = Value.int i t
 | .str x, u => ∃ t, u = Value.str x t
 | .byt b, u => ∃ t, u = Value.bytes b t
 | .flt b, u => ∃ t, u = Value.float b t
 | .ref a, u => u = Value.ref a
 | .ty n, u => u = Value.type n
abbrev Vals : List V -> List Value -> Prop := Paired RelV
theorem Vals.length {xs : List V} {us : List Value} (r : Vals xs us) : xs.length = us.length := Paired.length r
theorem Vals.get : ∀ {xs : List V} {us : List Value} {i : Nat} {x : V}, Vals xs us -> xs[i]? = some x -> ∃ u, us[i]? = some u /\ RelV x u
 | _, _, _, _, .nil, e => by simp at e
 | _, _, 0, _, .cons r _, e => by simp at e; subst e; exact ⟨_, rfl, r⟩
 | _, _, i + 1, x, .cons _ t, e => by
  obtain ⟨u, h1, h2⟩ := Vals.get (i := i) (x := x) t (by simpa using e)
  exact ⟨u, by simpa using h1, h2⟩
theorem Vals.set {x : V} {u : Value} (r : RelV x u) : ∀ {xs : List V} {us : List Value} (i : Nat), Vals xs us -> Vals (xs.set i x) (us.set i u)
 | _, _, _, .nil => .nil
 | _, _, 0, .cons _ t => .cons r t
 | _, _, i + 1, .cons q t => .cons q (Vals.set r i t)
theorem Vals.append : ∀ {xs ys : List V} {us ws : List Value}, Vals xs us -> Vals ys ws -> Vals (xs ++ ys) (us ++ ws)
 | _, _, _, _, .nil, s => s
 | _, _, _, _, .cons r t, s => .cons r (Vals.append t s)
theorem Vals.take : ∀ {xs : List V} {us : List Value} (n : Nat), Vals xs us -> Vals (xs.take n) (us.take n)
 | _, _, 0, _ => .nil
 | _, _, _ + 1, .nil => .nil
 | _, _, n + 1, .cons r t => .cons r (Vals.take n t)
theorem Vals.drop : ∀ {xs : List V} {us : List Value} (n : Nat), Vals xs us -> Vals (xs.drop n) (us.drop n)
 | _, _, 0, r => r
 | _, _, _ + 1, .nil => .nil
 | _, _, n + 1, .cons _ t => Vals.drop n t
theorem Vals.none_of : ∀ {xs : List V} {us : List Value} {i : Nat}, Vals xs us -> xs[i]? = none -> us[i]? = none := fun {xs us i} r e => by
 have h1 := r.length
 have h2 : xs.length <= i := List.getElem?_eq_none_iff.mp e
 exact List.getElem?_eq_none_iff.mpr (by omega)
def RelO : Option V -> Option Value -> Prop
 | some v, some u => RelV v u
 | none, none => True
 | _, _ => False
def KV {κ : Type} : List (κ × V) -> List (κ × Value) -> Prop := Paired fun (p : κ × V) (q : κ × Value) => p.1 = q.1 /\ RelV p.2 q.2
def kV : Key -> V
 | .inl i => .int i
 | .inr x => .str x
inductive HO where
  | lst (xs : List V)
  | tup (xs : List V)
  | dK (kvs : List (Key × V)) | dT (kvs : List (List Key × V))
  | set (S : Int -> Bool) (n : Nat)
  | ins (C dx : Addr) (fs : List (Str × V))
  | own (x : Addr)
  | xd (fs : List (Str × V))
  | met (f x : Addr)
  | rng (lo hi : Int)
  | frz (o : Obj) (u : HO)
  | tbl (ps : Array Value)
  | ext (φ : Heap -> Prop)
abbrev Hp := Addr -> Option HO
def upd (H : Hp) (a : Addr) (o : HO) : Hp := fun b => if b = a then some o else H b
theorem upd_same {H : Hp} {a : Addr} {o : HO} : upd H a o a = some o := by unfold upd; rw [if_pos rfl]
theorem upd_ne {H : Hp} {a b : Addr} {o : HO} (h : b ≠ a) : upd H a o b = H b := by unfold upd; rw [if_neg h]
theorem ne_of {H : Hp} {a b : Addr} {o u : HO} (h : H a = some o) (h' : H b = some u) (d : o ≠ u) : a ≠ b := by
 intro e; subst e; rw [h] at h'; exact d (Option.some.inj h')
theorem ne_of_none {H : Hp} {a b : Addr} {o : HO} (h : H a = some o) (h' : H b = none) : a ≠ b := by
 intro e; subst e; rw [h] at h'; cases h'
section
variable (P : Program) (w : World)
def ObjOk (H : Hp) (h : Heap) (a : Addr) : HO -> Prop
 | .lst xs => xs.length <= sizeLine /\ ∃ (its : List Value) (n : Nat), Vals xs its /\ h.get? a = some { cls := .type "list", data := .seq its.toArray n }
 | .tup xs => xs.length <= sizeLine /\ ∃ its : List Value, Vals xs its /\ IsTup h a its.toArray
 | .dK kvs => kvs.length <= sizeLine /\ (a == sysModules) = false /\ ∃ vs, KV kvs vs /\ h.DictOf (mixKind P w) a vs
 | .dT kvs => kvs.length <= sizeLine /\ (a == sysModules) = false /\ ∃ xs : List (List Key × Addr × Value),
   Paired (fun (p : List Key × V) (q : List Key × Addr × Value) => p.1 = q.1 /\ H q.2.1 = some (.tup (p.1.map kV)) /\ RelV p.2 q.2.2) kvs xs /\
   ∃ o es ep, h.get? a = some o /\ o.ExactDict /\ o.data = .dict es ep /\ es.toList = xs.map (entryOfKey (tupleKind (mixKind P w))) /\ (xs.map (·.1)).Nodup
 | .set S n => h.SetOf (intKind P w) a S n
 | .ins C dx fs => H dx = some (.own a) /\ fs.length <= 1000 /\ dx ≠ a /\ h.get? a = some (PySem.W.instObj C dx) /\
   ∃ mA, h.Ns1 dx mA /\ (∀ f, RelO (fs.lookup f) (mA f)) /\ PySem.Within mA (fs.map (·.1))
 | .own _ => ∃ o, h.get? a = some o
 | .xd fs => ∃ mA, h.Ns1 a mA /\ ∀ f, RelO (fs.lookup f) (mA f)
 | .rng lo hi => ∃ t u v, h.get? a = some { cls := .type "range", data := .fields #[.int lo t, .int hi u, .int 1 v] }
 | .frz o u => h.get? a = some o /\ ObjOk H h a u
 | .tbl ps => h.get? a = some { cls := .none, data := .fields ps }
 | .met f x => h.get? a = some (PySem.W.methodObj (.ref f) (.ref x))
 | .ext φ => φ h /\ (∃ o, h.get? a = some o) /\ ∀ h1 h2 : Heap, φ h1 -> (∀ o, h1.get? a = some o -> h2.get? a = some o) -> φ h2
def HOk (H : Hp) (h : Heap) : Prop := ∀ a o, H a = some o -> ObjOk P w H h a o
end
section
variable {P : Program} {w : World} {H H' : Hp} {h h' : Heap} {a : Addr} {o : HO}
theorem ObjOk.lt (x : ObjOk P w H h a o) : a < h.objs.size := by
 cases o with
 | lst xs => obtain ⟨_, _, _, _, e⟩ := x; exact Heap.lt_size e
 | tup xs => obtain ⟨_, _, _, p⟩ := x; exact p.lt
 | dK kvs => obtain ⟨_, _, _, _, o, _, _, e, _⟩ := x; exact Heap.lt_size e
 | dT kvs => obtain ⟨_, _, _, _, o, _, _, e, _⟩ := x; exact Heap.lt_size e
 | set S n => obtain ⟨o, _, _, _, e, _⟩ := x; exact Heap.lt_size e
 | ins C dx fs => obtain ⟨_, _, _, e, _⟩ := x; exact Heap.lt_size e
 | own y => obtain ⟨_, e⟩ := x; exact Heap.lt_size e
 | xd fs => obtain ⟨_, ⟨_, _, _, e, _⟩, _⟩ := x; exact Heap.lt_size e
 | rng lo hi => obtain ⟨_, _, _, e⟩ := x; exact Heap.lt_size e
 | frz ob u => obtain ⟨e, _⟩ := x; exact Heap.lt_size e
 | tbl ps => exact Heap.lt_size (show h.get? a = some _ from x)
 | met f y => exact Heap.lt_size (show h.get? a = some _ from x)
 | ext φ => obtain ⟨_, ⟨_, e⟩, _⟩ := x; exact Heap.lt_size e
theorem Paired.mapP {α β : Type} {F G : α -> β -> Prop} : ∀ {l₁ : List α} {l₂ : List β}, Paired F l₁ l₂ -> (∀ a b, F a b -> G a b) -> Paired G l₁ l₂
 | _, _, .nil, _ => .nil
 | _, _, .cons r t, f => .cons (f _ _ r) (Paired.mapP t f)
theorem ObjOk.stay (x : ObjOk P w H h a o) (k : ∀ b u, (b = a ∨ H b = some (.own a)) -> h.get? b = some u -> h'.get? b = some u)
  (ho : ∀ b, H b = some (.own a) -> H' b = some (.own a)) (ht : ∀ b xs, H b = some (.tup xs) -> H' b = some (.tup xs)) : ObjOk P w H' h' a o := by
 induction o with
 | lst xs => obtain ⟨z, its, n, r, e⟩ := x; exact ⟨z, its, n, r, k _ _ (.inl rfl) e⟩
 | tup xs => obtain ⟨z, its, r, ob, e, c⟩ := x; exact ⟨z, its, r, ob, k _ _ (.inl rfl) e, c⟩
 | dK kvs => obtain ⟨z, y, vs, r, ob, es, ep, e, c⟩ := x; exact ⟨z, y, vs, r, ob, es, ep, k _ _ (.inl rfl) e, c⟩
 | dT kvs =>
  obtain ⟨z, y, xs, r, ob, es, ep, e, c⟩ := x
  exact ⟨z, y, xs, Paired.mapP r fun p q z => ⟨z.1, ht _ _ z.2.1, z.2.2⟩, ob, es, ep, k _ _ (.inl rfl) e, c⟩
 | set S n => obtain ⟨ob, es, ep, t, e, c⟩ := x; exact ⟨ob, es, ep, t, k _ _ (.inl rfl) e, c⟩
 | ins C dx fs =>
  obtain ⟨d, z, ne, e, mA, ⟨od, es, ep, e2, c⟩, r⟩ := x
  exact ⟨ho _ d, z, ne, k _ _ (.inl rfl) e, mA, ⟨od, es, ep, k _ _ (.inr d) e2, c⟩, r⟩
 | own y => obtain ⟨ob, e⟩ := x; exact ⟨ob, k _ _ (.inl rfl) e⟩
 | xd fs => obtain ⟨mA, ⟨od, es, ep, e, c⟩, r⟩ := x; exact ⟨mA, ⟨od, es, ep, k _ _ (.inl rfl) e, c⟩, r⟩
 | rng lo hi => obtain ⟨t, u, v, e⟩ := x; exact ⟨t, u, v, k _ _ (.inl rfl) e⟩
 | frz ob u ih => obtain ⟨e, q⟩ := x; exact ⟨k _ _ (.inl rfl) e, ih q⟩
 | tbl ps =>
  have e : h.get? a = some { cls := .none, data := .fields ps } := x
  show h'.get? a = some { cls := .none, data := .fields ps }
  exact k a _ (.inl rfl) e
 | met f y =>
  have e : h.get? a = some (PySem.W.methodObj (.ref f) (.ref y)) := x
  show h'.get? a = some (PySem.W.methodObj (.ref f) (.ref y))
  exact k a _ (.inl rfl) e
 | ext φ => obtain ⟨p, ⟨o, e⟩, st⟩ := x; exact ⟨st _ _ p fun o q => k _ _ (.inl rfl) q, ⟨o, k _ _ (.inl rfl) e⟩, st⟩
theorem HOk.lt (x : HOk P w H h) (e : H a = some o) : a < h.objs.size := (x a o e).lt
theorem HOk.fresh (x : HOk P w H h) (e : h.objs.size <= a) : H a = none := by
 cases q : H a with
 | none => rfl
 | some u => exact absurd (Nat.lt_of_lt_of_le (x.lt q) e) (Nat.lt_irrefl _)
theorem HOk.kept (x : HOk P w H h) (k : ∀ b u, h.get? b = some u -> h'.get? b = some u) : HOk P w H h' := fun a o e =>
 (x a o e).stay (fun b u _ q => k b u q) (fun _ q => q) fun _ _ q => q
theorem HOk.laid (x : HOk P w H h) (k : ∀ b u, h.get? b = some u -> h'.get? b = some u) (hp : h.objs.size <= a) (new : ObjOk P w (upd H a o) h' a o) : HOk P w (upd H a o) h' := fun b u e => by
 have hn := x.fresh hp
 by_cases hb : b = a
 ·subst hb; rw [upd_same] at e; cases e; exact new
 ·rw [upd_ne hb] at e
  exact (x b u e).stay (fun c v _ q => k c v q) (fun c q => by rw [upd_ne (ne_of_none q hn)]; exact q) fun c xs q => by rw [upd_ne (ne_of_none q hn)]; exact q
end
def Rd (H : Hp) (a : Addr) (u : HO) : Prop := H a = some u ∨ ∃ o, H a = some (.frz o u)
theorem Rd.of {H : Hp} {a : Addr} {u : HO} (h : H a = some u) : Rd H a u := .inl h
theorem Rd.ok {P : Program} {w : World} {H : Hp} {h : Heap} {a : Addr} {u : HO} (r : Rd H a u) (x : HOk P w H h) : ObjOk P w H h a u := by
 rcases r with r | ⟨o, r⟩
 ·exact x a u r
 ·obtain ⟨_, q⟩ := x a _ r
  exact q
def Mut : Option HO -> Prop
 | some (.lst _) => True
 | some (.dK _) => True
 | some (.dT _) => True
 | some (.set _ _) => True
 | some (.ins _ _ _) => True
 | some (.ext _) => True
 | _ => False
section
variable {P : Program} {w : World} {H : Hp} {h h' : Heap} {x e : Addr} {o' : HO}
theorem HOk.write (ok : HOk P w H h) (mu : Mut (H x)) (he : e = x ∨ H e = some (.own x)) (k : ∀ b u, b ≠ e -> h.get? b = some u -> h'.get? b = some u) (heo : ∃ u, h'.get? e = some u)
  (new : ObjOk P w (upd H x o') h' x o') : HOk P w (upd H x o') h' := fun b u q => by
 have nown : ∀ c y, H c = some (.own y) -> c ≠ x := fun c y r z => by subst z; rw [r] at mu; exact mu
 have ntup : ∀ c xs, H c = some (.tup xs) -> c ≠ x := fun c xs r z => by subst z; rw [r] at mu; exact mu
 by_cases hb : b = x
 ·subst hb; rw [upd_same] at q; cases q; exact new
 ·rw [upd_ne hb] at q
  by_cases hbe : b = e
  ·have q' : H b = some (.own x) := by
    rcases he with z | z
    ·exact absurd (hbe.trans z) hb
    ·rw [hbe]; exact z
   rw [q] at q'; cases q'
   obtain ⟨v, hv⟩ := heo
   exact ⟨v, by rw [hbe]; exact hv⟩
  ·refine (ok b u q).stay (fun c v hc r => k c v ?_ r) (fun c r => by rw [upd_ne (nown c b r)]; exact r) fun c xs r => by rw [upd_ne (ntup c xs r)]; exact r
   rcases hc with rfl | hc
   ·exact hbe
   ·rintro rfl
    rcases he with z | z
    ·exact nown c b hc z
    ·rw [hc] at z; cases z; exact hb rfl
end
structure Un (fs ex : List Addr) (H H' : Hp) (h h' : Heap) : Prop where
 keep : ∀ b o, h.get? b = some o -> H b = none -> b ∉ fs -> b ∉ ex -> h'.get? b = some o
 slot : ∀ b o, h.get? b = some o -> H b = none -> b ∈ fs -> b ∉ ex -> ∃ sl, h'.get? b = some { o with slots := sl }
 free : ∀ b o, h.get? b = some o -> H b = none -> b ∉ ex -> H' b = none
 there : ∀ b o, h.get? b = some o -> b ∉ ex -> ∃ o', h'.get? b = some o'
 tups : ∀ b xs, H b = some (.tup xs) -> H' b = some (.tup xs)
 frzs : ∀ b o u, H b = some (.frz o u) -> H' b = some (.frz o u)
 tbls : ∀ b ps, H b = some (.tbl ps) -> ∃ more, H' b = some (.tbl (ps ++ more))
section
variable {fs fs' ex ex' : List Addr} {H H1 H2 : Hp} {h h1 h2 h' : Heap} {a x e : Addr} {o : HO}
theorem Un.any (u : Un fs ex H H1 h h1) {b : Addr} {ob : Obj} (q : h.get? b = some ob) (n : H b = none) (hx : b ∉ ex) : ∃ sl, h1.get? b = some { ob with slots := sl } := by
 by_cases hb : b ∈ fs
 ·exact u.slot b ob q n hb hx
 ·exact ⟨ob.slots, u.keep b ob q n hb hx⟩
theorem Un.trans (a : Un fs ex H H1 h h1) (b : Un fs ex H1 H2 h1 h2) : Un fs ex H H2 h h2 where
 keep := fun c ob q n hc hx => b.keep c ob (a.keep c ob q n hc hx) (a.free c ob q n hx) hc hx
 slot := fun c ob q n hc hx => by
  obtain ⟨sl, e1⟩ := a.slot c ob q n hc hx
  obtain ⟨sl', e2⟩ := b.slot c _ e1 (a.free c ob q n hx) hc hx
  exact ⟨sl', e2⟩
 free := fun c ob q n hx => by
  obtain ⟨o', e1⟩ := a.there c ob q hx
  exact b.free c o' e1 (a.free c ob q n hx) hx
 there := fun c ob q hx => by
  obtain ⟨o', e1⟩ := a.there c ob q hx
  exact b.there c o' e1 hx
 tups := fun c xs q => b.tups c xs (a.tups c xs q)
 frzs := fun c ob xs q => b.frzs c ob xs (a.frzs c ob xs q)
 tbls := fun c ps q => by
  obtain ⟨m1, e1⟩ := a.tbls c ps q
  obtain ⟨m2, e2⟩ := b.tbls c _ e1
  exact ⟨m1 ++ m2, by rw [e2, Array.append_assoc]⟩
theorem Un.kept (k : ∀ b u, h.get? b = some u -> h'.get? b = some u) : Un fs ex H H h h' :=
 ⟨fun b ob q _ _ _ => k b ob q, fun b ob q _ _ _ => ⟨ob.slots, k b ob q⟩, fun _ _ _ n _ => n, fun b ob q _ => ⟨ob, k b ob q⟩, fun _ _ q => q, fun _ _ _ q => q, fun _ ps q => ⟨#[], by rw [q]; simp⟩⟩
theorem Un.refl : Un fs ex H H h h := Un.kept fun _ _ q => q
theorem Un.laid (k : ∀ b u, h.get? b = some u -> h'.get? b = some u) (hp : h.objs.size <= a) (hn : H a = none) : Un fs ex H (upd H a o) h h' where
 keep := fun b u q _ _ _ => k b u q
 slot := fun b u q _ _ _ => ⟨u.slots, k b u q⟩
 free := fun b u q n _ => by rw [upd_ne (Nat.ne_of_lt (Nat.lt_of_lt_of_le (Heap.lt_size q) hp))]; exact n
 there := fun b u q _ => ⟨u, k b u q⟩
 tups := fun b xs q => by rw [upd_ne (ne_of_none q hn)]; exact q
 frzs := fun b u xs q => by rw [upd_ne (ne_of_none q hn)]; exact q
 tbls := fun b ps q => ⟨#[], by rw [upd_ne (ne_of_none q hn), q]; simp⟩
theorem Un.write (mu : Mut (H x)) (he : e = x ∨ H e = some (.own x)) (k : ∀ b u, b ≠ e -> h.get? b = some u -> h'.get? b = some u) (heo : ∃ u, h'.get? e = some u) : Un fs ex H (upd H x o) h h' := by
 have hx : ∀ b, H b = none -> b ≠ x := fun b n z => by subst z; rw [n] at mu; exact mu
 have hb : ∀ b, H b = none -> b ≠ e := fun b n z => by
  subst z
  rcases he with r | r
  ·exact hx b n r
  ·rw [n] at r; cases r
 have hm : ∀ b u, H b = some u -> ¬ Mut (some u) -> b ≠ x := fun b u q nm z => by subst z; rw [q] at mu; exact nm mu
 refine ⟨fun b u q n _ _ => k b u (hb b n) q, fun b u q n _ _ => ⟨u.slots, k b u (hb b n) q⟩, fun b u q n _ => by rw [upd_ne (hx b n)]; exact n, fun b u q _ => ?_,
  fun b xs q => by rw [upd_ne (hm b _ q fun z => z)]; exact q, fun b u xs q => by rw [upd_ne (hm b _ q fun z => z)]; exact q, fun b ps q => ⟨#[], by rw [upd_ne (hm b _ q fun z => z), q]; simp⟩⟩
 by_cases hbe : b = e
 ·subst hbe; exact heo
 ·exact ⟨u, k b u hbe q⟩
theorem Un.mono (u : Un fs ex H H1 h h1) (hs : ∀ b ∈ fs, b ∈ fs') (hx : ∀ b ∈ ex, b ∈ ex') : Un fs' ex' H H1 h h1 :=
 ⟨fun b ob q n hb he => u.keep b ob q n (fun z => hb (hs b z)) fun z => he (hx b z), fun _ _ q n _ he => u.any q n fun z => he (hx _ z), fun b ob q n he => u.free b ob q n fun z => he (hx b z), fun b ob q he => u.there b ob q fun z => he (hx b z), u.tups, u.frzs, u.tbls⟩
end
def trk (h : Heap) (H : Hp) : List Addr := (List.range h.objs.size).filter fun a => (H a).isSome
def hidT (h : Heap) (H : Hp) : Heap := PySem.W.hideAll h (trk h H)
theorem hidT_size (h : Heap) (H : Hp) : (hidT h H).objs.size = h.objs.size := PySem.W.hideAll_size _ _
theorem hidT_get {h : Heap} {H : Hp} {b : Addr} {o : Obj} (e : h.get? b = some o) (n : H b = none) : (hidT h H).get? b = some o :=
 PySem.W.hideAll_get _ e fun hm => by
  have q : (H b).isSome = true := (List.mem_filter.mp hm).2
  rw [n] at q; simp at q
theorem of_hidT {h : Heap} {H : Hp} {b : Addr} {o : Obj} (e : (hidT h H).get? b = some o) : h.get? b = some o /\ H b = none := by
 have e' : h.get? b = some o := PySem.W.of_hideAll (trk h H) e
 refine ⟨e', ?_⟩
 cases q : H b with
 | none => rfl
 | some x =>
  have hm : b ∈ trk h H := List.mem_filter.mpr ⟨List.mem_range.mpr (Heap.lt_size e'), by simp [q]⟩
  have z : (hidT h H).get? b = none := PySem.W.hideAll_none (trk h H) hm
  rw [z] at e; cases e
def allNews (g h : Heap) (L : Addr) : List (Addr × Obj) := (List.range h.objs.size).filterMap fun a => if a = L ∨ (g.get? a).isSome = true then none else (h.get? a).map fun o => (a, o)
def rest (g h : Heap) (L d : Addr) : List (Addr × Obj) := (allNews g h L).filter fun p => decide (p.1 ≠ d)
end L2
namespace L2
open PySem PySem.Spec PyProof.Rows
structure Mod (K : PySem.W.Frag) (mg : Str -> Option Value) (base : Heap) : Prop where
 kin : K.In base
 glob : base.Ns mainGlobals mg
 blt : ∃ mb, base.Ns builtinsNs mb /\ ∀ x : Str, x ≠ "__name__" -> mb x = bootBuiltins x
 nolimit : base.NoLimit
structure Cx where
 prog : Program
 w : World
 K : PySem.W.Frag
 mg : Str -> Option Value
 base : Heap
 A : Around
 N : List Str
 s₀ : Shared
 H₀ : Hp
 env : Env
 outer : List Env
 stack : List Env
 ex : List Addr
 fn : Str -> Bool
 calm : Bool
 pn : List (Addr × Obj)
 xe : Value -> Shared -> Prop
def frs (l : List Env) : List Addr := l.filterMap (·.frame)
abbrev Cx.fs (X : Cx) : List Addr := frs X.outer
def Vis (sc : Scope) (x : Str) : Prop := sc.names.lookup x = some .local ∨ sc.names.lookup x = some .cell ∨ sc.names.lookup x = some .free
def Loc (sc : Scope) (x : Str) : Prop := sc.names.lookup x = some .local ∨ sc.names.lookup x = some .cell
def Look (env : Env) (h : Heap) (m : Str -> Option Value) (x : Str) (u : Value) : Prop :=
 (env.kindOf x = some .local /\ m x = some u) ∨ ((env.kindOf x = some .cell ∨ env.kindOf x = some .free) /\ ∃ c, env.cells.lookup x = some c /\ h.IsCell c (some u))
structure Cx.Ok (X : Cx) : Prop where
 mod : Mod X.K X.mg X.base
 kind : X.env.scope.kind = .function
 glob : X.env.globals = mainGlobals
 blt : X.env.builtins = builtinsNs
 above : X.s₀.heap.objs.size <= X.env.locals
 inj : ∀ x y c, X.env.cells.lookup x = some c -> X.env.cells.lookup y = some c -> x = y
 has : ∀ x, (X.env.kindOf x = some .cell ∨ X.env.kindOf x = some .free) -> ∃ c, X.env.cells.lookup x = some c
 cab : ∀ x c, X.fn x = true -> X.env.cells.lookup x = some c -> X.s₀.heap.objs.size <= c
 hd : X.calm = true -> X.A.handled = none
 frames : X.A.frames = some X.stack
 stk : X.stack = X.outer ∨ (X.stack = X.env :: X.outer /\ X.env.frame = some X.env.locals)
 exf : ∀ b ∈ X.ex, b ≠ X.env.locals /\ ∀ x c, X.env.cells.lookup x = some c -> c ≠ b
 bs : ∀ b o, X.base.get? b = some o -> X.s₀.heap.get? b = some o /\ X.H₀ b = none
 bsz : X.base.objs.size <= X.s₀.heap.objs.size
 noex : ∀ b o, X.base.get? b = some o -> b ∉ X.ex
 exfs : ∀ b ∈ X.ex, b ∉ X.fs
 funs : X.s₀.heap.FunFrames X.base X.outer
 frf : ∀ b ∈ X.fs, X.H₀ b = none
structure Inv (X : Cx) (pins : List (Addr × Obj)) (σ : List (Option V)) (H : Hp) (s : Shared) : Prop where
 ok : X.Ok
 os : s.os = X.s₀.os
 bare : AllBare s.gens
 base : Un X.fs X.ex X.H₀ H X.s₀.heap s.heap
 loc : ∃ m, s.heap.Ns X.env.locals m /\ ∀ (i : Nat) (x : Str) (v : V), X.N[i]? = some x -> σ[i]? = some (some v) -> Vis X.env.scope x -> ∃ u, RelV v u /\ Look X.env s.heap m x u
 cell : ∀ x c, X.env.cells.lookup x = some c -> ∃ v, s.heap.IsCell c v
 free : H X.env.locals = none
 freeC : ∀ x c, X.env.cells.lookup x = some c -> H c = none
 pin : ∀ p ∈ X.pn ++ pins, s.heap.get? p.1 = some p.2 /\ H p.1 = none /\ p.1 ≠ X.env.locals /\ p.1 ∉ X.fs /\ ∀ v, p.2.data ≠ .cell v
 hok : HOk X.prog X.w H s.heap
 len : σ.length = X.N.length
section
variable {X : Cx} {pins : List (Addr × Obj)} {σ : List (Option V)} {H H' : Hp} {s : Shared} {h' : Heap}
theorem Cx.Ok.nofr (ok : X.Ok) {b : Addr} {o : Obj} (e : X.base.get? b = some o) : b ∉ X.fs := fun hb => by
 have := (ok.funs.mem hb).1
 rw [e] at this; cases this
theorem Inv.bs (I : Inv X pins σ H s) : ∀ b o, X.base.get? b = some o -> s.heap.get? b = some o /\ H b = none := fun b o e =>
 ⟨I.base.keep b o (I.ok.bs b o e).1 (I.ok.bs b o e).2 (I.ok.nofr e) (I.ok.noex b o e), I.base.free b o (I.ok.bs b o e).1 (I.ok.bs b o e).2 (I.ok.noex b o e)⟩
theorem Inv.bk (I : Inv X pins σ H s) : ∀ b o, X.base.get? b = some o -> s.heap.get? b = some o := fun b o e => (I.bs b o e).1
theorem Inv.mod (I : Inv X pins σ H s) : Mod X.K X.mg X.base := I.ok.mod
theorem Inv.kIn (I : Inv X pins σ H s) : X.K.In s.heap := I.ok.mod.kin.keeps I.bk
theorem Inv.nolimit (I : Inv X pins σ H s) : s.heap.NoLimit := I.ok.mod.nolimit.keeps I.bk
theorem Inv.fr (I : Inv X pins σ H s) : ∃ m, Fr X.base X.env.locals s.heap m :=
 let ⟨m, hn, _⟩ := I.loc
 ⟨m, hn, I.bk, Nat.le_trans I.ok.bsz I.ok.above⟩
theorem Inv.lt (I : Inv X pins σ H s) : X.env.locals < s.heap.objs.size := let ⟨_, hn, _⟩ := I.loc; hn.lt
theorem Inv.sz (I : Inv X pins σ H s) : X.s₀.heap.objs.size <= s.heap.objs.size := Nat.le_trans I.ok.above (Nat.le_of_lt I.lt)
theorem Inv.nofs (I : Inv X pins σ H s) {a : Addr} (h : s.heap.objs.size <= a) : a ∉ X.fs := fun hb => by
 obtain ⟨_, o, ho, _⟩ := I.ok.funs.mem hb
 exact absurd (Nat.lt_of_lt_of_le (Heap.lt_size ho) (Nat.le_trans I.sz h)) (Nat.lt_irrefl _)
theorem Inv.cne (I : Inv X pins σ H s) : ∀ x c, X.env.cells.lookup x = some c -> c ≠ X.env.locals := fun x c e z => by
 obtain ⟨v, o, ho, hd⟩ := I.cell x c e
 obtain ⟨m, ⟨o', es, ep, ho', hd', _⟩, _⟩ := I.loc
 rw [z, ho'] at ho; cases ho; rw [hd'] at hd; cases hd
theorem Inv.funs (I : Inv X pins σ H s) : s.heap.FunFrames X.base X.outer := by
 have all : ∀ (l : List Env), (∀ b ∈ frs l, b ∈ X.fs) -> X.s₀.heap.FunFrames X.base l -> s.heap.FunFrames X.base l := by
  intro l
  induction l with
  | nil => intro _ _; trivial
  | cons env r ih =>
   intro hs hl
   obtain ⟨hk, ⟨L, o, hf, hn, ho, hd⟩, hr⟩ := hl
   have hL : L ∈ X.fs := hs L (by unfold frs; rw [List.filterMap_cons, hf]; exact List.mem_cons_self)
   obtain ⟨sl, e⟩ := I.base.slot L o ho (I.ok.frf L hL) hL fun z => I.ok.exfs L z hL
   exact ⟨hk, ⟨L, _, hf, hn, e, hd⟩, ih (fun b hb => hs b (by unfold frs; rw [List.filterMap_cons, hf]; exact List.mem_cons_of_mem _ hb)) hr⟩
 exact all X.outer (fun _ hb => hb) I.ok.funs
theorem Inv.stack (I : Inv X pins σ H s) : s.heap.FunFrames X.base X.stack := by
 rcases I.ok.stk with e | ⟨e, hf⟩
 ·rw [e]; exact I.funs
 ·rw [e]
  obtain ⟨m, hn, _⟩ := I.loc
  refine .cons (by rw [I.ok.kind]; decide) hf hn ?_ I.funs
  exact Heap.get?_none_of_le (Nat.le_trans I.ok.bsz I.ok.above)
theorem Inv.stkSub (I : Inv X pins σ H s) : ∀ b ∈ frs X.stack, b ∈ X.env.locals :: X.fs := fun b hb => by
 rcases I.ok.stk with e | ⟨e, hf⟩
 ·rw [e] at hb; exact List.mem_cons_of_mem _ hb
 ·rw [e] at hb
  unfold frs at hb
  rw [List.filterMap_cons, hf] at hb
  exact hb
theorem Inv.stkFree (I : Inv X pins σ H s) : ∀ b ∈ frs X.stack, H b = none := fun b hb => by
 rcases List.mem_cons.mp (I.stkSub b hb) with e | hb
 ·rw [e]; exact I.free
 ·obtain ⟨_, o, ho, _⟩ := I.ok.funs.mem hb
  exact I.base.free b o ho (I.ok.frf b hb) fun z => I.ok.exfs b z hb
theorem Inv.step {g' : Array GenState} {t' : Nat} {d' : Drawn} {ch : List Addr} (I : Inv X pins σ H s)
  (hch : ∀ b ∈ ch, (b ∈ X.ex ∨ X.s₀.heap.objs.size <= b) /\ b ≠ X.env.locals /\ (∀ x c, X.env.cells.lookup x = some c -> c ≠ b) /\ ∀ p ∈ X.pn ++ pins, p.1 ≠ b)
  (keep : ∀ b o, b ≠ X.env.locals -> b ∉ X.fs -> b ∉ ch -> s.heap.get? b = some o -> H b = none -> h'.get? b = some o)
  (slot : ∀ b o, b ≠ X.env.locals -> b ∈ X.fs -> b ∉ ch -> s.heap.get? b = some o -> H b = none -> ∃ sl, h'.get? b = some { o with slots := sl }) (free : ∀ b o, b ∉ ch -> s.heap.get? b = some o -> H b = none -> H' b = none)
  (there : ∀ b o, b ∉ ch -> s.heap.get? b = some o -> ∃ o', h'.get? b = some o')
  (tups : ∀ b xs, H b = some (.tup xs) -> H' b = some (.tup xs)) (frzs : ∀ b o u, H b = some (.frz o u) -> H' b = some (.frz o u)) (tbls : ∀ b ps, H b = some (.tbl ps) -> ∃ more, H' b = some (.tbl (ps ++ more)))
  (ns : ∀ m, s.heap.Ns X.env.locals m -> h'.Ns X.env.locals m) (hok : HOk X.prog X.w H' h') (hg : AllBare g') :
  Inv X pins σ H' { s with heap := h', gens := g', drawn := d', toks := t' } := by
 have neL : ∀ b o, X.s₀.heap.get? b = some o -> b ≠ X.env.locals := fun b o e => Nat.ne_of_lt (Nat.lt_of_lt_of_le (Heap.lt_size e) I.ok.above)
 have neC : ∀ b o, X.s₀.heap.get? b = some o -> b ∉ X.ex -> b ∉ ch := fun b o e hx hb => by
  rcases (hch b hb).1 with z | z
  ·exact hx z
  ·exact absurd (Nat.lt_of_lt_of_le (Heap.lt_size e) z) (Nat.lt_irrefl _)
 have cellK : ∀ x c, X.env.cells.lookup x = some c -> ∀ v, s.heap.IsCell c v -> h'.IsCell c v := fun x c e v ⟨o, ho, hd⟩ => by
  have nch : c ∉ ch := fun z => (hch c z).2.2.1 x c e rfl
  by_cases hc : c ∈ X.fs
  ·obtain ⟨sl, q⟩ := slot c o (I.cne x c e) hc nch ho (I.freeC x c e)
   exact ⟨_, q, hd⟩
  ·exact ⟨o, keep c o (I.cne x c e) hc nch ho (I.freeC x c e), hd⟩
 refine ⟨I.ok, I.os, hg, ⟨fun b o e n hb hx => ?_, fun b o e n hb hx => ?_, fun b o e n hx => ?_, fun b o e hx => ?_, fun b xs e => tups b xs (I.base.tups b xs e), fun b o xs e => frzs b o xs (I.base.frzs b o xs e), fun b ps e => ?_⟩, ?_, fun x c e => ?_, ?_, fun x c e => ?_, fun p hp => ?_, hok, I.len⟩
 ·exact keep b o (neL b o e) hb (neC b o e hx) (I.base.keep b o e n hb hx) (I.base.free b o e n hx)
 ·obtain ⟨sl, e1⟩ := I.base.slot b o e n hb hx
  obtain ⟨sl', e2⟩ := slot b _ (neL b o e) hb (neC b o e hx) e1 (I.base.free b o e n hx)
  exact ⟨sl', e2⟩
 ·obtain ⟨o', e1⟩ := I.base.there b o e hx
  exact free b o' (neC b o e hx) e1 (I.base.free b o e n hx)
 ·obtain ⟨o', e1⟩ := I.base.there b o e hx
  exact there b o' (neC b o e hx) e1
 ·obtain ⟨m1, e1⟩ := I.base.tbls b ps e
  obtain ⟨m2, e2⟩ := tbls b _ e1
  exact ⟨m1 ++ m2, by rw [e2, Array.append_assoc]⟩
 ·obtain ⟨m, hn, hl⟩ := I.loc
  refine ⟨m, ns m hn, fun i x v e1 e2 e3 => ?_⟩
  obtain ⟨u, r, l⟩ := hl i x v e1 e2 e3
  refine ⟨u, r, ?_⟩
  rcases l with l | ⟨k, c, e, z⟩
  ·exact .inl l
  ·exact .inr ⟨k, c, e, cellK x c e _ z⟩
 ·obtain ⟨v, z⟩ := I.cell x c e
  exact ⟨v, cellK x c e v z⟩
 ·obtain ⟨m, ⟨o, _, _, ho, _⟩, _⟩ := I.loc
  exact free _ o (fun z => (hch _ z).2.1 rfl) ho I.free
 ·obtain ⟨v, o, ho, hd⟩ := I.cell x c e
  exact free c o (fun z => (hch c z).2.2.1 x c e rfl) ho (I.freeC x c e)
 ·obtain ⟨e, n, ne, nf, d⟩ := I.pin p hp
  have nch : p.1 ∉ ch := fun z => (hch p.1 z).2.2.2 p hp rfl
  exact ⟨keep p.1 p.2 ne nf nch e n, free p.1 p.2 nch e n, ne, nf, d⟩
theorem Inv.un {t' : Nat} (I : Inv X pins σ H s) (u : Un X.fs [] H H' s.heap h') (hok : HOk X.prog X.w H' h') : Inv X pins σ H' { s with heap := h', toks := t' } := by
 obtain ⟨m, ⟨o, es, ep, ho, r⟩, _⟩ := id I.loc
 obtain ⟨sl, hL⟩ := u.any ho I.free (by simp)
 exact I.step (g' := s.gens) (d' := s.drawn) (ch := []) (fun _ z => nomatch z) (fun b o _ hb _ e n => u.keep b o e n hb (by simp)) (fun b o _ hb _ e n => u.slot b o e n hb (by simp)) (fun b o _ e n => u.free b o e n (by simp)) (fun b o _ e => u.there b o e (by simp)) u.tups u.frzs u.tbls (fun m' hm => by
  obtain ⟨o', es', ep', ho', r'⟩ := hm
  rw [ho] at ho'; cases ho'
  exact ⟨_, es', ep', hL, r'⟩) hok I.bare
theorem Inv.call {g' : Array GenState} {t' : Nat} {d' : Drawn} {ch : List Addr} (I : Inv X pins σ H s) (u : Un (frs X.stack) ch H H' s.heap h') (hok : HOk X.prog X.w H' h') (hg : AllBare g')
  (hch : ∀ b ∈ ch, (b ∈ X.ex ∨ X.s₀.heap.objs.size <= b) /\ b ≠ X.env.locals /\ (∀ x c, X.env.cells.lookup x = some c -> c ≠ b) /\ ∀ p ∈ X.pn ++ pins, p.1 ≠ b) :
  Inv X pins σ H' { s with heap := h', gens := g', drawn := d', toks := t' } := by
 obtain ⟨m, ⟨o, es, ep, ho, r⟩, _⟩ := id I.loc
 obtain ⟨sl, hL⟩ := u.any ho I.free fun z => (hch _ z).2.1 rfl
 exact I.step (ch := ch) hch (fun b o hL hb hc e n => u.keep b o e n (fun z => (List.mem_cons.mp (I.stkSub b z)).elim hL hb) hc) (fun b o _ _ hc e n => u.any e n hc) (fun b o hc e n => u.free b o e n hc) (fun b o hc e => u.there b o e hc) u.tups u.frzs u.tbls (fun m' hm => by
  obtain ⟨o', es', ep', ho', r'⟩ := hm
  rw [ho] at ho'; cases ho'
  exact ⟨_, es', ep', hL, r'⟩) hok hg
theorem Inv.turned {t' : Nat} {it : Addr} (I : Inv X pins σ H s) (k : ∀ b o, b ≠ it -> s.heap.get? b = some o -> h'.get? b = some o) (hn : H it = none) (hL : it ≠ X.env.locals)
  (h1 : it ∈ X.ex ∨ X.s₀.heap.objs.size <= it) (h2 : ∀ x c, X.env.cells.lookup x = some c -> c ≠ it) (h3 : ∀ p ∈ X.pn ++ pins, p.1 ≠ it) : Inv X pins σ H { s with heap := h', toks := t' } := by
 have nit : ∀ b u, H b = some u -> b ≠ it := fun b u e z => by rw [z, hn] at e; cases e
 refine I.step (g' := s.gens) (d' := s.drawn) (ch := [it]) (fun b hb => ?_) (fun b o _ _ hc e _ => k b o (fun z => hc (by simp [z])) e) (fun b o _ _ hc e _ => ⟨o.slots, k b o (fun z => hc (by simp [z])) e⟩) (fun _ _ _ _ n => n)
  (fun b o hc e => ⟨o, k b o (fun z => hc (by simp [z])) e⟩) (fun _ _ e => e) (fun _ _ _ e => e) (fun b ps e => ⟨#[], by rw [e]; simp⟩) (fun m hm => ?_) (fun b u e => ?_) I.bare
 ·have e : b = it := by simpa using hb
  subst e
  exact ⟨h1, hL, h2, h3⟩
 ·obtain ⟨o, es, ep, ho, r⟩ := hm
  exact ⟨o, es, ep, k _ o (Ne.symm hL) ho, r⟩
 ·refine (I.hok b u e).stay (fun c v hc q => k c v ?_ q) (fun _ q => q) fun _ _ q => q
  rcases hc with z | z
  ·rw [z]; exact nit b u e
  ·exact nit c _ z
theorem Inv.tok (I : Inv X pins σ H s) (t : Nat) : Inv X pins σ H { s with toks := t } := I.un (h' := s.heap) (t' := t) Un.refl I.hok
theorem Inv.kept {t' : Nat} (I : Inv X pins σ H s) (k : ∀ b u, s.heap.get? b = some u -> h'.get? b = some u) : Inv X pins σ H { s with heap := h', toks := t' } := I.un (Un.kept k) (I.hok.kept k)
theorem Inv.laid {a : Addr} {o : HO} {t' : Nat} (I : Inv X pins σ H s) (k : ∀ b u, s.heap.get? b = some u -> h'.get? b = some u) (hp : s.heap.objs.size <= a) (new : ObjOk X.prog X.w (upd H a o) h' a o) :
  Inv X pins σ (upd H a o) { s with heap := h', toks := t' } := I.un (Un.laid k hp (I.hok.fresh hp)) (I.hok.laid k hp new)
theorem Inv.write {x e : Addr} {o : HO} {t' : Nat} (I : Inv X pins σ H s) (mu : Mut (H x)) (he : e = x ∨ H e = some (.own x)) (k : ∀ b u, b ≠ e -> s.heap.get? b = some u -> h'.get? b = some u) (heo : ∃ u, h'.get? e = some u)
  (new : ObjOk X.prog X.w (upd H x o) h' x o) : Inv X pins σ (upd H x o) { s with heap := h', toks := t' } := I.un (Un.write mu he k heo) (I.hok.write mu he k heo new)
theorem Inv.weak {σ' : List (Option V)} (I : Inv X pins σ H s) (hl : σ'.length = σ.length) (w : ∀ (i : Nat) v, σ'[i]? = some (some v) -> σ[i]? = some (some v)) : Inv X pins σ' H s :=
 ⟨I.ok, I.os, I.bare, I.base, let ⟨m, hn, hl'⟩ := I.loc; ⟨m, hn, fun i x v e1 e2 e3 => hl' i x v e1 (w i v e2) e3⟩, I.cell, I.free, I.freeC, I.pin, I.hok, hl.trans I.len⟩
theorem Inv.pins_of {pins' : List (Addr × Obj)} (I : Inv X pins σ H s) (h : ∀ p ∈ pins', s.heap.get? p.1 = some p.2 /\ H p.1 = none /\ p.1 ≠ X.env.locals /\ p.1 ∉ X.fs /\ ∀ v, p.2.data ≠ .cell v) : Inv X pins' σ H s :=
 ⟨I.ok, I.os, I.bare, I.base, I.loc, I.cell, I.free, I.freeC, fun p hp => (List.mem_append.mp hp).elim (fun z => I.pin p (List.mem_append_left _ z)) (h p), I.hok, I.len⟩
theorem nodup_ix {N : List Str} (hN : N.Nodup) {i j : Nat} {x : Str} (a : N[i]? = some x) (b : N[j]? = some x) : i = j := by
 obtain ⟨h1, e1⟩ := List.getElem?_eq_some_iff.mp a
 obtain ⟨h2, e2⟩ := List.getElem?_eq_some_iff.mp b
 exact (List.getElem_inj hN).mp (e1.trans e2.symm)
theorem store_ok2 {M : Model} {A : Around} {E : Value -> Shared -> Prop} {i : Nat} {x : Str} {v : V} {u : Value} {Q : Unit -> Shared -> Prop} (I : Inv X pins σ H s) (hN : X.N.Nodup) (hi : X.N[i]? = some x) (hx : Loc X.env.scope x) (r : RelV v u)
  (h : ∀ s', Inv X pins (σ.set i (some v)) H s' -> (∃ a, Heap.SameBut a s.heap s'.heap /\ (a = X.env.locals ∨ X.env.cells.lookup x = some a)) -> Q () s') (hf : X.fn x = true ∨ X.env.scope.names.lookup x = some .local := by first | exact .inl rfl | exact .inr rfl | assumption) : wpAny M A (storeName X.env x u) Q E s := by
 obtain ⟨m, hn, hl⟩ := id I.loc
 have hcls : (X.env.scope.kind == .class || (X.env.scope.kind == .module && X.env.locals != X.env.globals)) = false := by rw [I.ok.kind]; rfl
 have hiσ : i < σ.length := by rw [I.len]; exact (List.getElem?_eq_some_iff.mp hi).1
 have cne := I.cne
 have tracked : ∀ {a : Addr} {h' : Heap}, (∃ o, s.heap.get? a = some o /\ H a = none) -> Heap.SameBut a s.heap h' -> HOk X.prog X.w H h' := fun {a h'} ha hs b ob e => by
  obtain ⟨_, _, hfree⟩ := ha
  refine (I.hok b ob e).stay (fun c w' hc q => (hs.2 c ?_).trans q) (fun _ q => q) fun _ _ q => q
  rintro rfl
  rcases hc with rfl | hc
  ·rw [hfree] at e; cases e
  ·rw [hfree] at hc; cases hc
 rcases hx with hk | hk
 ·refine wpAny_storeName_local hk hn (fun h' hn' hs => ?_) hcls
  obtain ⟨oL, _, _, hoL, _⟩ := id hn
  refine h _ ⟨I.ok, I.os, I.bare, ⟨fun b o e n hb hx => ?_, fun b o e n hb hx => ?_, I.base.free, fun b o e hx => ?_, I.base.tups, I.base.frzs, I.base.tbls⟩, ⟨_, hn', fun j y v' e1 e2 e3 => ?_⟩, fun y c e => ?_, I.free, I.freeC, fun p hp => ?_, tracked ⟨oL, hoL, I.free⟩ hs, by simpa using I.len⟩ ⟨_, hs, .inl rfl⟩
  ·exact (hs.2 b (Nat.ne_of_lt (Nat.lt_of_lt_of_le (Heap.lt_size e) I.ok.above))).trans (I.base.keep b o e n hb hx)
  ·obtain ⟨sl, e1⟩ := I.base.slot b o e n hb hx
   exact ⟨sl, (hs.2 b (Nat.ne_of_lt (Nat.lt_of_lt_of_le (Heap.lt_size e) I.ok.above))).trans e1⟩
  ·obtain ⟨o', e1⟩ := I.base.there b o e hx
   exact ⟨o', (hs.2 b (Nat.ne_of_lt (Nat.lt_of_lt_of_le (Heap.lt_size e) I.ok.above))).trans e1⟩
  ·by_cases hj : j = i
   ·subst hj
    rw [hi] at e1; cases e1
    rw [List.getElem?_set_self hiσ] at e2
    cases e2
    exact ⟨u, r, .inl ⟨hk, by simp⟩⟩
   ·rw [List.getElem?_set_ne (Ne.symm hj)] at e2
    obtain ⟨u', r', q⟩ := hl j y v' e1 e2 e3
    refine ⟨u', r', ?_⟩
    rcases q with ⟨k, e⟩ | ⟨k, c, e, z⟩
    ·refine .inl ⟨k, ?_⟩
     have : y ≠ x := fun e => hj (nodup_ix hN e1 (e ▸ hi))
     simp [this, e]
    ·exact .inr ⟨k, c, e, z.sameBut hs (cne y c e)⟩
  ·obtain ⟨w', z⟩ := I.cell y c e
   exact ⟨w', z.sameBut hs (cne y c e)⟩
  ·obtain ⟨e, n, ne, nf, d⟩ := I.pin p hp
   exact ⟨(hs.2 p.1 ne).trans e, n, ne, nf, d⟩
 ·have hfn : X.fn x = true := by
   rcases hf with z | z
   ·exact z
   ·rw [z] at hk; cases hk
  obtain ⟨c, hc⟩ := I.ok.has x (.inl hk)
  obtain ⟨w', z⟩ := I.cell x c hc
  refine wpAny_storeName_cell I.ok.kind hk hc z (fun h' hc' hs => ?_)
  obtain ⟨oc, hoc, hocd⟩ := id z
  refine h { s with heap := h' } ⟨I.ok, I.os, I.bare, ⟨fun b o e n hb hx => ?_, fun b o e n hb hx => ?_, I.base.free, fun b o e hx => ?_, I.base.tups, I.base.frzs, I.base.tbls⟩, ⟨m, hn.sameBut hs (Ne.symm (cne x c hc)), fun j y v' e1 e2 e3 => ?_⟩, fun y c' e => ?_, I.free, I.freeC, fun p hp => ?_, tracked ⟨oc, hoc, I.freeC x c hc⟩ hs, by simpa using I.len⟩ ⟨c, hs, .inr hc⟩
  ·exact (hs.2 b (Nat.ne_of_lt (Nat.lt_of_lt_of_le (Heap.lt_size e) (I.ok.cab x c hfn hc)))).trans (I.base.keep b o e n hb hx)
  ·obtain ⟨sl, e1⟩ := I.base.slot b o e n hb hx
   exact ⟨sl, (hs.2 b (Nat.ne_of_lt (Nat.lt_of_lt_of_le (Heap.lt_size e) (I.ok.cab x c hfn hc)))).trans e1⟩
  ·obtain ⟨o', e1⟩ := I.base.there b o e hx
   exact ⟨o', (hs.2 b (Nat.ne_of_lt (Nat.lt_of_lt_of_le (Heap.lt_size e) (I.ok.cab x c hfn hc)))).trans e1⟩
  ·by_cases hj : j = i
   ·subst hj
    rw [hi] at e1; cases e1
    rw [List.getElem?_set_self hiσ] at e2
    cases e2
    exact ⟨u, r, .inr ⟨.inl hk, c, hc, hc'⟩⟩
   ·rw [List.getElem?_set_ne (Ne.symm hj)] at e2
    obtain ⟨u', r', q⟩ := hl j y v' e1 e2 e3
    refine ⟨u', r', ?_⟩
    rcases q with q | ⟨k, c', e, z'⟩
    ·exact .inl q
    ·refine .inr ⟨k, c', e, z'.sameBut hs ?_⟩
     rintro rfl
     exact hj (nodup_ix hN e1 (I.ok.inj _ _ _ e hc ▸ hi))
  ·by_cases hcc : c' = c
   ·subst hcc; exact ⟨_, hc'⟩
   ·obtain ⟨w2, z2⟩ := I.cell y c' e
    exact ⟨w2, z2.sameBut hs hcc⟩
  ·obtain ⟨e, n, ne, nf, d⟩ := I.pin p hp
   refine ⟨(hs.2 p.1 ?_).trans e, n, ne, nf, d⟩
   intro q
   rw [q, hoc] at e
   have q' : oc = p.2 := Option.some.inj e
   exact d w' (by rw [<- q']; exact hocd)
theorem store_ok {M : Model} {A : Around} {E : Value -> Shared -> Prop} {i : Nat} {x : Str} {v : V} {u : Value} {Q : Unit -> Shared -> Prop} (I : Inv X pins σ H s) (hN : X.N.Nodup) (hi : X.N[i]? = some x) (hx : Loc X.env.scope x) (r : RelV v u)
  (h : ∀ s', Inv X pins (σ.set i (some v)) H s' -> Q () s') (hf : X.fn x = true ∨ X.env.scope.names.lookup x = some .local := by first | exact .inl rfl | exact .inr rfl | assumption) : wpAny M A (storeName X.env x u) Q E s :=
 store_ok2 I hN hi hx r (fun s' I' _ => h s' I') hf
theorem Inv.call' {s' : Shared} {ch : List Addr} (I : Inv X pins σ H s) (ho : s'.os = s.os) (u : Un (frs X.stack) ch H H' s.heap s'.heap) (hok : HOk X.prog X.w H' s'.heap) (hg : AllBare s'.gens)
  (hch : ∀ b ∈ ch, (b ∈ X.ex ∨ X.s₀.heap.objs.size <= b) /\ b ≠ X.env.locals /\ (∀ x c, X.env.cells.lookup x = some c -> c ≠ b) /\ ∀ p ∈ X.pn ++ pins, p.1 ≠ b) : Inv X pins σ H' s' := by
 obtain ⟨h', g', d', t', o'⟩ := s'
 have e : o' = s.os := ho
 subst e
 exact I.call (g' := g') (t' := t') (d' := d') u hok hg hch
end
abbrev XK := Value -> Option Addr -> Hp -> Prop
abbrev St := List (Option V)
abbrev VK := V -> Hp -> Prop
abbrev TE := St -> Hp -> VK -> Prop
abbrev TT := St -> Hp -> (Bool -> Hp -> Prop) -> Prop
abbrev TA := St -> Hp -> (List V -> Hp -> Prop) -> Prop
structure Ends where
 nx : St -> Hp -> Prop
 rt : VK
 bk : St -> Hp -> Prop := fun _ _ => False
 ct : St -> Hp -> Prop := fun _ _ => False
abbrev TS := Ends -> St -> Hp -> Prop
def EP (X : Cx) (pins : List (Addr × Obj)) (σ : St) (Q : VK) (u : Value) (s' : Shared) : Prop := ∃ v H', Inv X pins σ H' s' /\ RelV v u /\ Q v H'
def TP (X : Cx) (pins : List (Addr × Obj)) (σ : St) (Q : Bool -> Hp -> Prop) (b : Bool) (s' : Shared) : Prop := ∃ H', Inv X pins σ H' s' /\ Q b H'
def AP (X : Cx) (pins : List (Addr × Obj)) (σ : St) (Q : List V -> Hp -> Prop) (us : List Value) (s' : Shared) : Prop := ∃ vs H', Inv X pins σ H' s' /\ Vals vs us /\ Q vs H'
def SP (X : Cx) (pins : List (Addr × Obj)) (D : Ends) (f : Flow) (s' : Shared) : Prop :=
 match f with
 | .next => ∃ σ' H', Inv X pins σ' H' s' /\ D.nx σ' H'
 | .brk => ∃ σ' H', Inv X pins σ' H' s' /\ D.bk σ' H'
 | .cont => ∃ σ' H', Inv X pins σ' H' s' /\ D.ct σ' H'
 | .ret u => ∃ v σ' H', Inv X pins σ' H' s' /\ RelV v u /\ D.rt v H'
def PE (X : Cx) (e : Expr) (t : TE) : Prop :=
 ∀ (pins : List (Addr × Obj)) (s : Shared) (σ : St) (H : Hp) (Q : VK), Inv X pins σ H s -> t σ H Q -> wpAny (model X.prog X.w) X.A (eval e X.env) (EP X pins σ Q) X.xe s
def PT (X : Cx) (e : Expr) (t : TT) : Prop :=
 ∀ (pins : List (Addr × Obj)) (s : Shared) (σ : St) (H : Hp) (Q : Bool -> Hp -> Prop), Inv X pins σ H s -> t σ H Q -> wpAny (model X.prog X.w) X.A (isTrue e X.env (eval e X.env)) (TP X pins σ Q) X.xe s
def PW (X : Cx) (e : Expr) (t : TT) : Prop :=
 ∀ (whole : Sem Value) (pins : List (Addr × Obj)) (s : Shared) (σ : St) (H : Hp) (Q : Bool -> Hp -> Prop), Inv X pins σ H s -> t σ H Q -> wpAny (model X.prog X.w) X.A (isTrue e X.env whole) (TP X pins σ Q) X.xe s
theorem PW.pt {X : Cx} {e : Expr} {t : TT} (h : PW X e t) : PT X e t := h _
def PA (X : Cx) (es : List Expr) (t : TA) : Prop :=
 ∀ (pos : Pos) (pins : List (Addr × Obj)) (s : Shared) (σ : St) (H : Hp) (Q : List V -> Hp -> Prop), Inv X pins σ H s -> t σ H Q -> wpAny (model X.prog X.w) X.A (spliced (backTo pos (starEach es X.env))) (AP X pins σ Q) X.xe s
def PS (X : Cx) (st : Stmt) (t : TS) : Prop :=
 ∀ (pins : List (Addr × Obj)) (s : Shared) (σ : St) (H : Hp) (D : Ends), Inv X pins σ H s -> t D σ H -> wpAny (model X.prog X.w) X.A (exec st X.env) (SP X pins D) X.xe s
def PSs (X : Cx) (st : List Stmt) (t : TS) : Prop :=
 ∀ (pins : List (Addr × Obj)) (s : Shared) (σ : St) (H : Hp) (D : Ends), Inv X pins σ H s -> t D σ H -> wpAny (model X.prog X.w) X.A (execs st X.env) (SP X pins D) X.xe s
theorem thn {α : Type} {t : Sem α} {Q Q' : α -> Shared -> Prop} {M : Model} {A : Around} {E : Value -> Shared -> Prop} {s : Shared} (h : wpAny M A t Q E s) (hQ : ∀ a s, Q a s -> Q' a s) : wpAny M A t Q' E s := wpAny_mono h hQ fun _ _ x => x
end L2
namespace L2
open PySem PySem.Spec PyProof.Rows
section
variable {X : Cx}
def tVar (i : Nat) : TE := fun σ H Q => ∃ v, σ[i]? = some (some v) /\ Q v H
def tC (v : V) : TE := fun _ H Q => Q v H
theorem pe_var {i : Nat} {x : Str} {pos : Pos} (hN : X.N[i]? = some x) (hv : Vis X.env.scope x) (hd : (x == ("__debug__" : Str)) = false := by decide) (hcd : (x == ("__classdict__" : Str)) = false := by decide) : PE X (.Name x pos) (tVar i) := by
 intro pins s σ H Q I h
 obtain ⟨v, e, h⟩ := h
 obtain ⟨m, hn, hl⟩ := I.loc
 obtain ⟨u, r, l⟩ := hl i x v hN e hv
 have fin : EP X pins σ Q u s := ⟨v, H, I, r, h⟩
 rcases l with ⟨hk, hm⟩ | ⟨hk, c, hc, hcell⟩
 ·exact wpAny_Name (wpAny_loadName_local I.ok.kind hk hn hm fin) hd
 ·rcases hk with hk | hk
  ·exact wpAny_Name (wpAny_loadName_cell I.ok.kind hk hc hcell fin) hd
  ·exact wpAny_Name (wpAny_loadName_free I.ok.kind hk hc hcell fin hcd) hd
theorem pe_int {i j pos} : PE X (.Constant (.int i) j pos) (tC (.int i)) := fun _ _ _ H _ I h => wpAny_Constant_int ⟨.int i, H, I.tok _, ⟨_, rfl⟩, h⟩
theorem pe_bl {b j pos} : PE X (.Constant (.bool b) j pos) (tC (.bl b)) := fun _ _ _ H _ I h => Constant_bool ⟨.bl b, H, I, rfl, h⟩
theorem pe_non {j pos} : PE X (.Constant .none j pos) (tC .non) := fun _ _ _ H _ I h => Constant_none ⟨.non, H, I, rfl, h⟩
theorem pe_str {x j pos} : PE X (.Constant (.str x) j pos) (tC (.str x)) := fun _ _ _ H _ I h => Calls.Constant_str ⟨.str x, H, I.tok _, ⟨_, rfl⟩, h⟩
def Gl (X : Cx) (x : Str) : Prop := X.env.kindOf x = some .globalImplicit
theorem ld_glob {E : Value -> Shared -> Prop} {pins : List (Addr × Obj)} {s : Shared} {σ : St} {H : Hp} {x : Str} {u : Value} {pos : Pos} {Q : Value -> Shared -> Prop} (I : Inv X pins σ H s) (hg : Gl X x) (hm : X.mg x = some u) (h : Q u s)
  (hd : (x == ("__debug__" : Str)) = false := by decide) : wpAny (model X.prog X.w) X.A (eval (.Name x pos) X.env) Q E s :=
 Calls.Name_function_global I.ok.kind hg (Calls.loadGlobal_global (by rw [I.ok.glob]; exact I.mod.glob.keeps I.bk) hm h) hd
theorem ld_blt {E : Value -> Shared -> Prop} {pins : List (Addr × Obj)} {s : Shared} {σ : St} {H : Hp} {x : Str} {u : Value} {pos : Pos} {Q : Value -> Shared -> Prop} (I : Inv X pins σ H s) (hg : Gl X x) (hm : X.mg x = none) (hv : bootBuiltins x = some u) (h : Q u s)
  (hn : x ≠ "__name__" := by decide) (hd : (x == ("__debug__" : Str)) = false := by decide) : wpAny (model X.prog X.w) X.A (eval (.Name x pos) X.env) Q E s := by
 obtain ⟨mb, h1, h2⟩ := I.mod.blt
 exact Calls.Name_function_global I.ok.kind hg (Calls.loadGlobal_builtin (by rw [I.ok.glob]; exact I.mod.glob.keeps I.bk) hm (by rw [I.ok.blt]; exact h1.keeps I.bk) ((h2 x hn).trans hv) h) hd
theorem pe_glob {x : Str} {v : V} {u : Value} {pos : Pos} (hg : Gl X x) (hm : X.mg x = some u) (r : RelV v u) (hd : (x == ("__debug__" : Str)) = false := by decide) : PE X (.Name x pos) (tC v) :=
 fun _ _ _ H _ I h => ld_glob I hg hm ⟨v, H, I, r, h⟩ hd
theorem pe_bltn {x : Str} {v : V} {u : Value} {pos : Pos} (hg : Gl X x) (hm : X.mg x = none) (hv : bootBuiltins x = some u) (r : RelV v u) (hn : x ≠ "__name__" := by decide) (hd : (x == ("__debug__" : Str)) = false := by decide) : PE X (.Name x pos) (tC v) :=
 fun _ _ _ H _ I h => ld_blt I hg hm hv ⟨v, H, I, r, h⟩ hn hd
variable {a b : Expr} {ta tb : TE} {pos : Pos}
def PC (X : Cx) (op : CmpOp) (a b : Expr) (t : TE) : Prop :=
 ∀ (pins : List (Addr × Obj)) (s : Shared) (σ : St) (H : Hp) (Q : VK), Inv X pins σ H s -> t σ H Q ->
  wpAny (model X.prog X.w) X.A (eval a X.env) (fun v s₁ => wpAny (model X.prog X.w) X.A (eval b X.env) (fun u s₂ => wpAny (model X.prog X.w) X.A (compareOp op v u) (EP X pins σ Q) X.xe s₂) X.xe s₁) X.xe s
theorem nobehind (b : Expr) {op : CmpOp} (h : op ≠ .In) (h2 : op ≠ .NotIn) : behindInMarks op b = false := by
 have e1 : (op == CmpOp.In) = false := by cases op <;> first | rfl | exact absurd rfl h
 have e2 : (op == CmpOp.NotIn) = false := by cases op <;> first | rfl | exact absurd rfl h2
 cases b <;> simp [behindInMarks, e1, e2]
def tB (t : TE) : TT := fun σ H Q => t σ H fun x H1 => ∃ c, x = .bl c /\ Q c H1
theorem pt_cmp {op : CmpOp} {t : TE} (h : PC X op a b t) (h1 : behindInMarks op b = false := by first | exact nobehind _ (by decide) (by decide) | rfl) : PT X (.Compare a [op] [b] pos) (tB t) := by
 intro pins s σ H Q I hw
 refine wpAny_isTrue_Compare1 (thn (h pins s σ H _ I hw) fun v s1 h1 => thn h1 fun u s2 h2 => thn h2 fun c s3 ⟨x, H1, I1, r1, q1⟩ => ?_) h1
 obtain ⟨d, rfl, q⟩ := q1
 cases r1
 exact wpAny_truthy_bool ⟨H1, I1, q⟩
theorem pt_val {e : Expr} {t : TE} (h : PE X e t) (he : ∀ whole, isTrue e X.env whole = (do let v <- whole; standAt e.pos; holding [v] (truthy v)) := by intro _; rfl) : PT X e (tB t) := by
 intro pins s σ H Q I hw
 refine isTrue_plain (thn (h pins s σ H _ I hw) fun v s1 ⟨x, H1, I1, r1, q1⟩ => ?_) (he _)
 obtain ⟨d, rfl, q⟩ := q1
 cases r1
 exact wpAny_truthy_bool ⟨H1, I1, q⟩
variable {tA tB' : TT} {rest : List Expr}
def tAnd (t u : TT) : TT := fun σ H Q => t σ H fun c H1 => if c = true then u σ H1 Q else Q false H1
def tOr (t u : TT) : TT := fun σ H Q => t σ H fun c H1 => if c = true then Q true H1 else u σ H1 Q
def tNot (t : TT) : TT := fun σ H Q => t σ H fun c H1 => Q (!c) H1
theorem pw_and1 (ha : PT X a tA) : PW X (.BoolOp .And [a] pos) tA := by
 intro wh pins s σ H Q I h
 refine isTrue_and (thn (ha pins s σ H Q I h) fun c s1 e => ?_)
 cases c with
 | true => exact isTrue_and_nil e
 | false => exact e
theorem pw_or1 (ha : PT X a tA) : PW X (.BoolOp .Or [a] pos) tA := by
 intro wh pins s σ H Q I h
 refine isTrue_or (thn (ha pins s σ H Q I h) fun c s1 e => ?_)
 cases c with
 | false => exact isTrue_or_nil e
 | true => exact e
theorem pw_and (ha : PT X a tA) (hb : PW X (.BoolOp .And (b :: rest) pos) tB') : PW X (.BoolOp .And (a :: b :: rest) pos) (tAnd tA tB') := by
 intro wh pins s σ H Q I h
 refine isTrue_and (thn (ha pins s σ H _ I h) fun c s1 ⟨H1, I1, q1⟩ => ?_)
 cases c with
 | true => exact hb wh pins s1 σ H1 Q I1 q1
 | false => exact ⟨H1, I1, q1⟩
theorem pw_or (ha : PT X a tA) (hb : PW X (.BoolOp .Or (b :: rest) pos) tB') : PW X (.BoolOp .Or (a :: b :: rest) pos) (tOr tA tB') := by
 intro wh pins s σ H Q I h
 refine isTrue_or (thn (ha pins s σ H _ I h) fun c s1 ⟨H1, I1, q1⟩ => ?_)
 cases c with
 | true => exact ⟨H1, I1, q1⟩
 | false => exact hb wh pins s1 σ H1 Q I1 q1
theorem pt_not (ha : PT X a tA) : PT X (.UnaryOp .Not a pos) (tNot tA) := by
 intro pins s σ H Q I h
 exact isTrue_not (ha pins s σ H (fun c H1 => Q (!c) H1) I h)
def tAndV (ta tb : TE) : TE := fun σ H Q => ta σ H fun x H1 => ∃ c, x = .bl c /\ if c = true then tb σ H1 Q else Q (.bl false) H1
def tNotV (ta : TE) : TE := fun σ H Q => ta σ H fun x H1 => ∃ c, x = .bl c /\ Q (.bl (!c)) H1
theorem pe_one {op} {t : TE} (h : PE X a t) : PE X (.BoolOp op [a] pos) t := fun pins s σ H Q I hw => BoolOp_one (h pins s σ H Q I hw)
theorem pe_and (ha : PE X a ta) (hb : PE X (.BoolOp .And (b :: rest) pos) tb) : PE X (.BoolOp .And (a :: b :: rest) pos) (tAndV ta tb) := by
 intro pins s σ H Q I h
 refine BoolOp_and (thn (ha pins s σ H _ I h) fun v s1 ⟨x, H1, I1, r1, q1⟩ => ?_)
 obtain ⟨c, rfl, q1⟩ := q1
 cases r1
 refine wpAny_truthy_bool ?_
 cases c with
 | true => exact hb pins s1 σ H1 Q I1 q1
 | false => exact ⟨.bl false, H1, I1, rfl, q1⟩
theorem pe_not (ha : PE X a ta) : PE X (.UnaryOp .Not a pos) (tNotV ta) := by
 intro pins s σ H Q I h
 refine UnaryOp_ (thn (ha pins s σ H _ I h) fun v s1 ⟨x, H1, I1, r1, q1⟩ => ?_)
 obtain ⟨c, rfl, q1⟩ := q1
 cases r1
 exact not_of (wpAny_truthy_bool ⟨.bl (!c), H1, I1, rfl, q1⟩)
def tIf (t : TT) (ta tb : TE) : TE := fun σ H Q => t σ H fun c H1 => if c = true then ta σ H1 Q else tb σ H1 Q
theorem pe_ifExp {c : Expr} (hc : PT X c tA) (ha : PE X a ta) (hb : PE X b tb) : PE X (.IfExp c a b pos) (tIf tA ta tb) := by
 intro pins s σ H Q I h
 refine wpAny_IfExp (thn (hc pins s σ H _ I h) fun d s1 ⟨H1, I1, q1⟩ => ?_)
 cases d with
 | true => exact ha pins s1 σ H1 Q I1 q1
 | false => exact hb pins s1 σ H1 Q I1 q1
end
end L2
namespace L2
open PySem PySem.Spec PyProof.Rows
def SqL (K : PySem.W.Frag) (H : Hp) (a : Addr) (xs : List V) : Prop :=
 Rd H a (.lst xs) ∨
  ∃ (o : Obj) (its : Array Value) (n : Nat), K.lookup a = some o /\ o.cls = .type "list" /\ o.dict = none /\ o.data = .seq its n /\ its.size <= sizeLine /\ Vals xs its.toList
def SqT (K : PySem.W.Frag) (H : Hp) (a : Addr) (xs : List V) : Prop :=
 Rd H a (.tup xs) ∨
  ∃ (o : Obj) (its : Array Value) (n : Nat), K.lookup a = some o /\ o.cls = .type "tuple" /\ o.data = .seq its n /\ its.size <= sizeLine /\ Vals xs its.toList
def absV : Value -> Option V
 | .none => some .non
 | .bool b => some (.bl b)
 | .int i _ => some (.int i)
 | .str x _ => some (.str x)
 | .bytes b _ => some (.byt b)
 | .float b _ => some (.flt b)
 | .ref a => some (.ref a)
 | .type n => some (.ty n)
 | _ => none
theorem RelV.abs {x : V} {u : Value} (r : RelV x u) : absV u = some x := by
 cases x with
 | non => cases r; rfl
 | bl _ => cases r; rfl
 | int _ => obtain ⟨t, rfl⟩ := r; rfl
 | str _ => obtain ⟨t, rfl⟩ := r; rfl
 | byt _ => obtain ⟨t, rfl⟩ := r; rfl
 | flt _ => obtain ⟨t, rfl⟩ := r; rfl
 | ref _ => cases r; rfl
 | ty _ => cases r; rfl
theorem RelV.inj {x y : V} {u : Value} (r : RelV x u) (q : RelV y u) : x = y := Option.some.inj (r.abs.symm.trans q.abs)
theorem Vals.inj : ∀ {xs ys : List V} {us : List Value}, Vals xs us -> Vals ys us -> xs = ys
 | _, _, _, .nil, .nil => rfl
 | _, _, _, .cons r t, .cons r' t' => by rw [r.inj r', Vals.inj t t']
section
variable {X : Cx} {pins : List (Addr × Obj)} {σ : St} {H : Hp} {s : Shared} {a : Addr} {xs ys : List V}
theorem SqL.of {K : PySem.W.Frag} (h : H a = some (.lst xs)) : SqL K H a xs := .inl (.inl h)
theorem SqT.of {K : PySem.W.Frag} (h : H a = some (.tup xs)) : SqT K H a xs := .inl (.inl h)
theorem Inv.list (I : Inv X pins σ H s) (h : SqL X.K H a xs) : ∃ its : List Value, Vals xs its /\ PlainL s.heap a its.toArray /\ xs.length <= sizeLine := by
 rcases h with h | ⟨o, its, n, hk, hc, hd, hs, hz, r⟩
 ·obtain ⟨z, its, n, r, e⟩ := h.ok I.hok
  exact ⟨its, r, ⟨_, n, e, rfl, rfl, rfl⟩, z⟩
 ·refine ⟨its.toList, r, ⟨o, n, I.kIn a o hk, hc, hd, by simpa using hs⟩, ?_⟩
  have e := r.length
  simp only [Array.length_toList] at e
  omega
theorem Inv.tuple (I : Inv X pins σ H s) (h : SqT X.K H a xs) : ∃ its : List Value, Vals xs its /\ IsTup s.heap a its.toArray /\ xs.length <= sizeLine := by
 rcases h with h | ⟨o, its, n, hk, hc, hs, hz, r⟩
 ·obtain ⟨z, its, r, p⟩ := h.ok I.hok
  exact ⟨its, r, p, z⟩
 ·refine ⟨its.toList, r, ⟨o, I.kIn a o hk, hc, n, by simpa using hs⟩, ?_⟩
  have e := r.length
  simp only [Array.length_toList] at e
  omega
theorem Inv.list_inj (I : Inv X pins σ H s) (h : SqL X.K H a xs) (h' : SqL X.K H a ys) : xs = ys := by
 obtain ⟨its, r, ⟨o, n, e, _, _, d⟩, _⟩ := I.list h
 obtain ⟨its', r', ⟨o', n', e', _, _, d'⟩, _⟩ := I.list h'
 rw [e] at e'; cases e'
 rw [d] at d'
 injection d' with d1 _
 have : its = its' := by simpa using congrArg Array.toList d1
 subst this
 exact r.inj r'
theorem Inv.tuple_inj (I : Inv X pins σ H s) (h : SqT X.K H a xs) (h' : SqT X.K H a ys) : xs = ys := by
 obtain ⟨its, r, ⟨o, e, _, n, d⟩, _⟩ := I.tuple h
 obtain ⟨its', r', ⟨o', e', _, n', d'⟩, _⟩ := I.tuple h'
 rw [e] at e'; cases e'
 rw [d] at d'
 injection d' with d1 _
 have : its = its' := by simpa using congrArg Array.toList d1
 subst this
 exact r.inj r'
end
abbrev Cx.wish (X : Cx) (E : Value -> Shared -> Prop) : Cx := { X with xe := E }
abbrev Cx.nox (X : Cx) : Cx := X.wish fun _ _ => False
theorem Cx.Ok.wish {X : Cx} (ok : X.Ok) (E : Value -> Shared -> Prop) : (X.wish E).Ok :=
 ⟨ok.mod, ok.kind, ok.glob, ok.blt, ok.above, ok.inj, ok.has, ok.cab, ok.hd, ok.frames, ok.stk, ok.exf, ok.bs, ok.bsz, ok.noex, ok.exfs, ok.funs, ok.frf⟩
theorem Cx.Ok.unwish {X : Cx} {E : Value -> Shared -> Prop} (ok : (X.wish E).Ok) : X.Ok :=
 ⟨ok.mod, ok.kind, ok.glob, ok.blt, ok.above, ok.inj, ok.has, ok.cab, ok.hd, ok.frames, ok.stk, ok.exf, ok.bs, ok.bsz, ok.noex, ok.exfs, ok.funs, ok.frf⟩
section
variable {X : Cx} {pins : List (Addr × Obj)} {σ : St} {H : Hp} {s : Shared} {E : Value -> Shared -> Prop}
theorem Inv.wish (I : Inv X pins σ H s) (E : Value -> Shared -> Prop) : Inv (X.wish E) pins σ H s := ⟨I.ok.wish E, I.os, I.bare, I.base, I.loc, I.cell, I.free, I.freeC, I.pin, I.hok, I.len⟩
theorem Inv.unwish (I : Inv (X.wish E) pins σ H s) : Inv X pins σ H s := ⟨I.ok.unwish, I.os, I.bare, I.base, I.loc, I.cell, I.free, I.freeC, I.pin, I.hok, I.len⟩
theorem SP.unwish {D : Ends} {f : Flow} {s' : Shared} (h : SP (X.wish E) pins D f s') : SP X pins D f s' := by
 cases f with
 | next => obtain ⟨σ', H', I, q⟩ := h; exact ⟨σ', H', I.unwish, q⟩
 | brk => obtain ⟨σ', H', I, q⟩ := h; exact ⟨σ', H', I.unwish, q⟩
 | cont => obtain ⟨σ', H', I, q⟩ := h; exact ⟨σ', H', I.unwish, q⟩
 | ret u => obtain ⟨v, σ', H', I, r, q⟩ := h; exact ⟨v, σ', H', I.unwish, r, q⟩
theorem PE.nox {e : Expr} {t : TE} (h : PE X.nox e t) : PE X e t := fun pins s σ H Q I hw =>
 wpAny_mono (h pins s σ H Q (I.wish _) hw) (fun _ _ ⟨v, H', I', r, q⟩ => ⟨v, H', I'.unwish, r, q⟩) fun _ _ z => False.elim z
theorem PT.nox {e : Expr} {t : TT} (h : PT X.nox e t) : PT X e t := fun pins s σ H Q I hw =>
 wpAny_mono (h pins s σ H Q (I.wish _) hw) (fun _ _ ⟨H', I', q⟩ => ⟨H', I'.unwish, q⟩) fun _ _ z => False.elim z
theorem PSs.nox {st : List Stmt} {t : TS} (h : PSs X.nox st t) : PSs X st t := fun pins s σ H D I hw =>
 wpAny_mono (h pins s σ H D (I.wish _) hw) (fun _ _ q => q.unwish) fun _ _ z => False.elim z
end
section
variable {X : Cx} {st : Stmt} {rest : List Stmt} {t u : TS} {e : Expr} {te : TE} {pos : Pos}
def tNext : TS := fun D σ H => D.nx σ H
def tSeq (t u : TS) : TS := fun D σ H => t { D with nx := u D } σ H
theorem pss_nil : PSs X [] tNext := fun _ _ σ H _ I h => wpAny_execs_nil ⟨σ, H, I, h⟩
theorem pss_cons (h1 : PS X st t) (h2 : PSs X rest u) : PSs X (st :: rest) (tSeq t u) := by
 intro pins s σ H D I h
 refine wpAny_execs_cons (thn (h1 pins s σ H { D with nx := u D } I h) fun f s1 q => ?_)
 cases f with
 | next =>
  obtain ⟨σ', H', I', q⟩ := q
  exact h2 pins s1 σ' H' D I' q
 | ret v => exact q
 | brk => exact q
 | cont => exact q
theorem pss_one (h1 : PS X st t) : PSs X [st] t := by
 intro pins s σ H D I h
 refine wpAny_execs_cons (thn (h1 pins s σ H D I h) fun f s1 q => ?_)
 cases f with
 | next => exact wpAny_execs_nil q
 | ret v => exact q
 | brk => exact q
 | cont => exact q
def tBreak : TS := fun D σ H => D.bk σ H
theorem ps_break : PS X (.Break pos) tBreak := fun _ _ σ H _ I h => wpAny_Break ⟨σ, H, I, h⟩
theorem Inv.quiet {pins : List (Addr × Obj)} {σ : St} {H : Hp} {s : Shared} (I : Inv X pins σ H s) : interactive X.env = false := by simp [interactive, I.ok.kind]
def tDrop (te : TE) : TS := fun D σ H => te σ H fun _ H1 => D.nx σ H1
theorem ps_expr (he : PE X e te) (hs : swapsWith e none pos.line X.env = pure false := by rfl) : PS X (.Expr e pos) (tDrop te) := by
 intro pins s σ H D I h
 exact wpAny_Expr_any (thn (he pins s σ H _ I h) fun v s1 ⟨x, H1, I1, r1, q1⟩ => ⟨σ, H1, I1, q1⟩) I.quiet hs
def tRet (te : TE) : TS := fun D σ H => te σ H D.rt
theorem ps_ret (he : PE X e te) : PS X (.Return (some e) pos) (tRet te) := by
 intro pins s σ H D I h
 exact wpAny_Return_some (thn (he pins s σ H _ I h) fun v s1 ⟨x, H1, I1, r1, q1⟩ => ⟨x, σ, H1, I1, r1, q1⟩)
def tIfS (c : TT) (t u : TS) : TS := fun D σ H => c σ H fun b H1 => if b = true then t D σ H1 else u D σ H1
theorem ps_if {c : Expr} {a b : List Stmt} {tc : TT} (hc : PT X c tc) (ha : PSs X a t) (hb : PSs X b u) : PS X (.If c a b pos) (tIfS tc t u) := by
 intro pins s σ H D I h
 refine wpAny_If (thn (hc pins s σ H _ I h) fun d s1 ⟨H1, I1, q1⟩ => ?_)
 cases d with
 | true => exact ha pins s1 σ H1 D I1 q1
 | false => exact hb pins s1 σ H1 D I1 q1
def tNever : TS := fun _ _ _ => False
theorem ps_never : PS X st tNever := fun _ _ _ _ _ _ h => h.elim
end
abbrev TG := V -> St -> Hp -> (St -> Hp -> Prop) -> Prop
abbrev TGs := List V -> St -> Hp -> (St -> Hp -> Prop) -> Prop
def PG (X : Cx) (target : Expr) (t : TG) : Prop :=
 ∀ (pins : List (Addr × Obj)) (s : Shared) (σ : St) (H : Hp) (v : V) (u : Value) (Q : St -> Hp -> Prop), Inv X pins σ H s -> RelV v u -> t v σ H Q ->
  wpAny (model X.prog X.w) X.A (assign target X.env u) (fun _ s' => ∃ σ' H', Inv X pins σ' H' s' /\ Q σ' H') X.xe s
def PGs (X : Cx) (ts : List Expr) (t : TGs) : Prop :=
 ∀ (pins : List (Addr × Obj)) (s : Shared) (σ : St) (H : Hp) (vs : List V) (us : List Value) (Q : St -> Hp -> Prop), Inv X pins σ H s -> Vals vs us -> t vs σ H Q ->
  wpAny (model X.prog X.w) X.A (assignInOrder ((assignEach ts X.env).map (·.2)) us) (fun _ s' => ∃ σ' H', Inv X pins σ' H' s' /\ Q σ' H') X.xe s
abbrev TSet := V -> V -> V -> Hp -> (Hp -> Prop) -> Prop
def PSet (X : Cx) (t : TSet) : Prop :=
 ∀ (pins : List (Addr × Obj)) (s : Shared) (σ : St) (H : Hp) (o i v : V) (ov iv u : Value) (Q : Hp -> Prop), Inv X pins σ H s -> RelV o ov -> RelV i iv -> RelV v u -> t o i v H Q ->
  wpAny (model X.prog X.w) X.A (setItem ov iv u) (fun _ s' => ∃ H', Inv X pins σ H' s' /\ Q H') X.xe s
abbrev TIp := V -> V -> Hp -> VK -> Prop
def PIp (X : Cx) (op : Operator) (t : TIp) : Prop :=
 ∀ (pins : List (Addr × Obj)) (s : Shared) (σ : St) (H : Hp) (x y : V) (v u : Value) (Q : VK), Inv X pins σ H s -> RelV x v -> RelV y u -> t x y H Q ->
  wpAny (model X.prog X.w) X.A (inplaceOp op v u) (EP X pins σ Q) X.xe s
section
variable {X : Cx} {pos : Pos}
def gName (i : Nat) : TG := fun v σ H Q => Q (σ.set i (some v)) H
theorem pg_name {i : Nat} {x : Str} (hN : X.N.Nodup) (hi : X.N[i]? = some x) (hx : Loc X.env.scope x) (hf : X.fn x = true ∨ X.env.scope.names.lookup x = some .local := by first | exact .inl rfl | exact .inr rfl | assumption) : PG X (.Name x pos) (gName i) := by
 intro pins s σ H v u Q I r h
 exact wpAny_assign_Name (store_ok I hN hi hx r (fun s' I' => ⟨_, H, I', h⟩) hf)
def gNil : TGs := fun vs σ H Q => vs = [] /\ Q σ H
def gCons (t : TG) (u : TGs) : TGs := fun vs σ H Q => ∃ v r, vs = v :: r /\ t v σ H fun σ' H' => u r σ' H' Q
theorem pgs_nil : PGs X [] gNil := by
 intro pins s σ H vs us Q I r h
 obtain ⟨e, h⟩ := h
 subst e
 cases r
 exact assignInOrder_nil ⟨σ, H, I, h⟩
theorem pgs_cons {e : Expr} {es : List Expr} {t : TG} {u : TGs} (h1 : PG X e t) (h2 : PGs X es u)
  (hs : (assignEach (e :: es) X.env).map (·.2) = assign e X.env :: (assignEach es X.env).map (·.2) := by rfl) : PGs X (e :: es) (gCons t u) := by
 intro pins s σ H vs us Q I r h
 obtain ⟨v, vr, e1, h⟩ := h
 subst e1
 cases r with
 | cons r rr =>
  rw [hs]
  refine assignInOrder_cons (thn (h1 pins s σ H _ _ _ I r h) fun _ s1 ⟨σ1, H1, I1, q1⟩ => ?_)
  exact h2 pins s1 σ1 H1 _ _ Q I1 rr q1
def gTup (K : PySem.W.Frag) (n : Nat) (t : TGs) : TG := fun v σ H Q => ∃ a xs, v = .ref a /\ SqT K H a xs /\ xs.length = n /\ t xs σ H Q
theorem pg_tup {es : List Expr} {k : Nat} {t : TGs} {n : Nat} (hc : X.calm = true) (h : PGs X es t)
  (hn : (assignEach es X.env).length = n := by rfl) (hst : (assignEach es X.env).findIdx? (·.1) = none := by rfl) : PG X (.Tuple es k pos) (gTup X.K n t) := by
 intro pins s σ H v u Q I r hw
 obtain ⟨a, xs, e1, hq, hl, hw⟩ := hw
 subst e1
 cases r
 obtain ⟨its, rv, ht, hz⟩ := I.tuple hq
 refine assign_Tuple_tuple (I.ok.hd hc) ht (by simp [hn, <- hl, rv.length]) hst fun h' hx => ?_
 have I1 : Inv X pins σ H { s with heap := h' } := I.kept (t' := s.toks) fun b o e => hx b o (Nat.ne_of_lt (Heap.lt_size e)) e
 exact h pins _ σ H xs _ Q I1 (by simpa using rv) hw
def gSub (to ti : TE) (t : TSet) : TG := fun v σ H Q => to σ H fun o H1 => ti σ H1 fun i H2 => t o i v H2 fun H3 => Q σ H3
theorem pg_sub {o i : Expr} {to ti : TE} {t : TSet} (ho : PE X o to) (hi : PE X i ti) (hs : PSet X t)
  (ha : ∀ v, assign (.Subscript o i pos) X.env v = (do
   let ov <- holding [v] (eval o X.env)
   let iv <- holding [v, ov] (eval i X.env)
   standAt pos
   holding [v, ov, iv] (setItem ov iv v)
   release [v, ov, iv] []) := by intro _; rfl) : PG X (.Subscript o i pos) (gSub to ti t) := by
 intro pins s σ H v u Q I r h
 rw [ha]
 refine wpAny_bind (wpAny_holding (thn (ho pins s σ H _ I h) fun ov s1 ⟨x, H1, I1, r1, q1⟩ => ?_))
 refine wpAny_bind (wpAny_holding (thn (hi pins s1 σ H1 _ I1 q1) fun iv s2 ⟨y, H2, I2, r2, q2⟩ => ?_))
 refine wpAny_bind (wpAny_standAt (wpAny_bind (wpAny_holding (thn (hs pins s2 σ H2 x y v ov iv u _ I2 r1 r2 r q2) fun _ s3 ⟨H3, I3, q3⟩ => ?_))))
 exact wpAny_release ⟨σ, H3, I3, q3⟩
def tAsg (te : TE) (g : TG) : TS := fun D σ H => te σ H fun x H1 => g x σ H1 D.nx
theorem ps_asg {tg e : Expr} {te : TE} {g : TG} (he : PE X e te) (hg : PG X tg g) (hs : swapsWithSole [tg] e pos.line X.env = pure false := by rfl) (hw : swappedStores [tg] e X.env = pure none := by rfl)
  (h1 : (assignEach [tg] X.env).map (·.2) = [assign tg X.env] := by rfl) : PS X (.Assign [tg] e pos) (tAsg te g) := by
 intro pins s σ H D I h
 refine wpAny_Assign_stores (thn (he pins s σ H _ I h) fun v s1 ⟨x, H1, I1, r1, q1⟩ => ?_) hs hw
 rw [h1]
 exact thn (hg pins s1 σ H1 x v _ I1 r1 q1) fun _ s2 q => q
theorem ps_set {i : Nat} {x : Str} {e : Expr} {te : TE} {pos' : Pos} (hN : X.N.Nodup) (hi : X.N[i]? = some x) (hx : Loc X.env.scope x) (he : PE X e te) (hs : swapsWith e (some (.Name x pos')) pos.line X.env = pure false := by rfl) (hf : X.fn x = true ∨ X.env.scope.names.lookup x = some .local := by first | exact .inl rfl | exact .inr rfl | assumption) :
  PS X (.Assign [.Name x pos'] e pos) (tAsg te (gName i)) := by
 intro pins s σ H D I h
 refine wpAny_Assign_Name (thn (he pins s σ H _ I h) fun v s1 ⟨y, H1, I1, r1, q1⟩ => ?_) hs
 exact store_ok I1 hN hi hx r1 (fun s2 I2 => ⟨_, H1, I2, q1⟩) hf
def tAug (i : Nat) (te : TE) (ti : TIp) : TS := fun D σ H => ∃ x, σ[i]? = some (some x) /\ te σ H fun y H1 => ti x y H1 fun z H2 => D.nx (σ.set i (some z)) H2
theorem ps_aug {i : Nat} {x : Str} {e : Expr} {te : TE} {op : Operator} {ti : TIp} {pos' : Pos} (hN : X.N.Nodup) (hi : X.N[i]? = some x) (hx : Loc X.env.scope x) (he : PE X e te) (ho : PIp X op ti) (hf : X.fn x = true ∨ X.env.scope.names.lookup x = some .local := by first | exact .inl rfl | exact .inr rfl | assumption) :
  PS X (.AugAssign (.Name x pos') op e pos) (tAug i te ti) := by
 intro pins s σ H D I h
 obtain ⟨v, e1, h⟩ := h
 obtain ⟨m, hn, hl⟩ := I.loc
 have vis : Vis X.env.scope x := by rcases hx with k | k; exact .inl k; exact .inr (.inl k)
 obtain ⟨u, r, l⟩ := hl i x v hi e1 vis
 refine wpAny_AugAssign_Name ?_
 have go : wpAny (model X.prog X.w) X.A (eval e X.env) (fun w s₂ => wpAny (model X.prog X.w) X.A (inplaceOp op u w) (fun r s₃ => wpAny (model X.prog X.w) X.A (storeName X.env x r) (fun _ => SP X pins D .next) X.xe s₃) X.xe s₂) X.xe s := by
  refine thn (he pins s σ H _ I h) fun w s1 ⟨y, H1, I1, r1, q1⟩ => ?_
  refine thn (ho pins s1 σ H1 v y u w _ I1 r r1 q1) fun z s2 ⟨zv, H2, I2, r2, q2⟩ => ?_
  exact store_ok I2 hN hi hx r2 (fun s3 I3 => ⟨_, H2, I3, q2⟩) hf
 rcases l with ⟨hk, hm⟩ | ⟨hk, c, hc, hcell⟩
 ·exact wpAny_loadName_local I.ok.kind hk hn hm go
 ·rcases hk with hk | hk
  ·exact wpAny_loadName_cell I.ok.kind hk hc hcell go
  ·rcases hx with k | k
   ·have : X.env.scope.names.lookup x = some .free := hk
    rw [k] at this; cases this
   ·have : X.env.scope.names.lookup x = some .free := hk
    rw [k] at this; cases this
def ipI (f : Int -> Int -> Int) : TIp := fun x y H Q => ∃ i j, x = .int i /\ y = .int j /\ Q (.int (f i j)) H
theorem ip_add : PIp X .Add (ipI fun i j => i + j) := by
 intro pins s σ H x y v u Q I r1 r2 h
 obtain ⟨i, j, e1, e2, q⟩ := h
 subst e1; subst e2
 obtain ⟨t, rfl⟩ := r1
 obtain ⟨t', rfl⟩ := r2
 exact iadd_int ⟨.int _, H, I.tok _, ⟨_, rfl⟩, q⟩
end
section
variable {X : Cx} {pos : Pos}
def tWhile (c : TT) (tb : TS) : TS := fun D σ H => ∃ W : Nat -> St -> Hp -> Prop, (∃ m, W m σ H) /\ ∀ m σ H, W m σ H ->
 c σ H fun b H1 => if b = true then ∃ N : St -> Hp -> Prop, (∀ σ' H', N σ' H' -> ∃ m', m' < m /\ W m' σ' H') /\ tb { D with nx := N, ct := N, bk := D.nx } σ H1 else D.nx σ H1
theorem ps_while {c : Expr} {body : List Stmt} {tc : TT} {tb : TS} (hp : PassesOwn (model X.prog X.w) X.A X.env X.xe) (hc : PT X c tc) (hb : PSs X body tb) : PS X (.While c body [] pos) (tWhile tc tb) := by
 intro pins s σ H D I h
 obtain ⟨W, ⟨m0, w0⟩, turn⟩ := h
 refine wpAny_While (codeAny_whileLoop (fun n s' => ∃ σ' H', Inv X pins σ' H' s' /\ W n σ' H') ?_ m0 ⟨σ, H, I, w0⟩)
 rintro n s1 ⟨σ1, H1, I1, w1⟩
 refine wpAny_passesOwn hp (thn (hc pins s1 σ1 H1 _ I1 (turn n σ1 H1 w1)) fun b s2 ⟨H2, I2, q2⟩ => ?_)
 cases b with
 | true =>
  obtain ⟨N, hN, q2⟩ := q2
  rw [if_pos rfl]
  refine wpAny_passesOwn hp (thn (hb pins s2 σ1 H2 _ I2 q2) fun f s3 q3 => ?_)
  cases f with
  | next =>
   obtain ⟨σ3, H3, I3, n3⟩ := q3
   obtain ⟨m', hm, w3⟩ := hN σ3 H3 n3
   exact ⟨m', hm, σ3, H3, I3, w3⟩
  | cont =>
   obtain ⟨σ3, H3, I3, n3⟩ := q3
   obtain ⟨m', hm, w3⟩ := hN σ3 H3 n3
   exact ⟨m', hm, σ3, H3, I3, w3⟩
  | brk => exact q3
  | ret v => exact q3
 | false =>
  rw [if_neg Bool.false_ne_true]
  exact wpAny_execs_nil ⟨σ1, H2, I2, q2⟩
end
structure It where
 go : Nat -> Hp -> Prop
 yld : Nat -> Hp -> V -> Hp -> Prop
 stop : Nat -> Hp -> Prop
def FpOk (X : Cx) (pins : List (Addr × Obj)) (H : Hp) (b : Addr) : Prop :=
 H b = none /\ b ≠ X.env.locals /\ b ∉ X.fs /\ (b ∈ X.ex ∨ X.s₀.heap.objs.size <= b) /\ (∀ x c, X.env.cells.lookup x = some c -> c ≠ b) /\ ∀ p ∈ X.pn ++ pins, p.1 ≠ b
theorem Inv.fpOk {X : Cx} {pins : List (Addr × Obj)} {σ : St} {H H' : Hp} {s : Shared} {b : Addr} (I : Inv X pins σ H s) (hb : s.heap.objs.size <= b) (hn : H' b = none) : FpOk X pins H' b := by
 refine ⟨hn, Nat.ne_of_gt (Nat.lt_of_lt_of_le I.lt hb), I.nofs hb, .inr (Nat.le_trans I.sz hb), fun x c e z => ?_, fun p hp z => ?_⟩
 ·obtain ⟨v, q⟩ := I.cell x c e
  exact absurd (Nat.lt_of_lt_of_le q.lt (by rw [z]; exact hb)) (Nat.lt_irrefl _)
 ·exact absurd (Nat.lt_of_lt_of_le (Heap.lt_size (I.pin p hp).1) (by rw [z]; exact hb)) (Nat.lt_irrefl _)
structure Turn (P : Program) (w : World) (K : PySem.W.Frag) (tg : Expr) (J : It) (fp : List Addr) (it : Addr) (tn : Nat -> Heap -> Prop) : Prop where
 mem : it ∈ fp
 obj : ∀ i h, tn i h -> ∀ b ∈ fp, ∃ o, h.get? b = some o /\ ∀ v, o.data ≠ .cell v
 keep : ∀ i h h', tn i h -> (∀ b ∈ fp, ∀ o, h.get? b = some o -> h'.get? b = some o) -> tn i h'
 item : ∀ (X : Cx), X.prog = P -> X.w = w -> X.K = K -> X.calm = true -> ∀ (i : Nat) (pins : List (Addr × Obj)) (s : Shared) (σ : St) (H : Hp) (E : Value -> Shared -> Prop), Inv X pins σ H s -> (∀ b ∈ fp, FpOk X pins H b) -> tn i s.heap -> J.go i H ->
  wpAny (model P w) X.A (pyNext (.ref it)) (fun r s1 => ∃ u, r = some u /\
   wpAny (model P w) X.A (letOwnedTupleGo tg (.ref it) u) (fun _ s2 => ∃ x H', Inv X pins σ H' s2 /\ RelV x u /\ J.yld i H x H' /\ tn (i + 1) s2.heap /\ ∀ b ∈ fp, H' b = none) E s1) E s
 done : ∀ (X : Cx), X.prog = P -> X.w = w -> X.K = K -> X.calm = true -> ∀ (i : Nat) (pins : List (Addr × Obj)) (s : Shared) (σ : St) (H : Hp) (E : Value -> Shared -> Prop), Inv X pins σ H s -> (∀ b ∈ fp, FpOk X pins H b) -> tn i s.heap -> J.stop i H ->
  wpAny (model P w) X.A (pyNext (.ref it)) (fun r s1 => r = none /\ Inv X pins σ H s1) E s
 self : ∀ (A : Around) (i : Nat) (s : Shared) (Q : Value -> Shared -> Prop) (E : Value -> Shared -> Prop), tn i s.heap -> Q (.ref it) s -> wpAny (model P w) A (pyIter (.ref it)) Q E s
abbrev TI := St -> Hp -> (It -> Hp -> Prop) -> Prop
def PIE (X : Cx) (pins : List (Addr × Obj)) (σ : St) (tg : Expr) (R : It -> Hp -> Prop) (itv : Value) (s2 : Shared) : Prop :=
 ∃ (it : Addr) (fp : List Addr) (tn : Nat -> Heap -> Prop) (J : It) (H' : Hp), itv = .ref it /\ Inv X pins σ H' s2 /\ Turn X.prog X.w X.K tg J fp it tn /\ tn 0 s2.heap /\ (∀ b ∈ fp, FpOk X pins H' b) /\ R J H'
def PI (X : Cx) (tg iter : Expr) (wi : TI) : Prop :=
 ∀ (pins : List (Addr × Obj)) (s : Shared) (σ : St) (H : Hp) (R : It -> Hp -> Prop), Inv X pins σ H s -> wi σ H R ->
  wpAny (model X.prog X.w) X.A (eval iter X.env) (fun v s1 => wpAny (model X.prog X.w) X.A (pyIter v) (PIE X pins σ tg R) X.xe s1) X.xe s
theorem go_of {M : Model} {A : Around} {E : Value -> Shared -> Prop} {s : Shared} {tg : Expr} {it : Addr} {u : Value} {o : Obj} {n : String} {vs : Array Value} {Q : Unit -> Shared -> Prop} (ho : s.heap.get? it = some o) (hc : o.cls = .type n) (hd : o.data = .fields vs)
    (hn : ["enumerate", "zip", "dict_itemiterator", "dict_reverseitemiterator", "odict_iterator", "itertools.zip_longest", "itertools.pairwise"].contains n = false) (hQ : Q () s) : wpAny M A (letOwnedTupleGo tg (.ref it) u) Q E s := by
  unfold letOwnedTupleGo
  cases tg <;> first
    | exact wpAny_pure hQ
    | (cases u <;> first
        | exact wpAny_pure hQ
        | (refine wpAny_bind (wpAny_load ho ?_)
           rw [hc, hd]
           show wpAny M A (if (["enumerate", "zip", "dict_itemiterator", "dict_reverseitemiterator", "odict_iterator", "itertools.zip_longest", "itertools.pairwise"].contains n && vs[0]? == some (rawInt _)) = true then _ else _) Q E s
           rw [if_neg (by intro h; rw [hn, Bool.false_and] at h; cases h)]
           exact wpAny_pure hQ))
def Itl (K : PySem.W.Frag) (a : Addr) : It :=
 ⟨fun i H => ∃ xs x, SqL K H a xs /\ xs[i]? = some x, fun i H x H' => H' = H /\ ∀ xs, SqL K H a xs -> xs[i]? = some x, fun i H => ∃ xs, SqL K H a xs /\ xs.length <= i⟩
def Itt (K : PySem.W.Frag) (a : Addr) : It :=
 ⟨fun i H => ∃ xs x, SqT K H a xs /\ xs[i]? = some x, fun i H x H' => H' = H /\ ∀ xs, SqT K H a xs -> xs[i]? = some x, fun i H => ∃ xs, SqT K H a xs /\ xs.length <= i⟩
def Itr (lo : Int) (n : Nat) : It := ⟨fun i _ => i < n, fun i H x H' => H' = H /\ x = .int (lo + i), fun i _ => n <= i⟩
theorem turn_list {P : Program} {w : World} {K : PySem.W.Frag} {tg : Expr} (a it : Addr) : Turn P w K tg (Itl K a) [it] it (fun i h => h.IsListIter it a i) where
 mem := by simp
 obj := fun i h st b hb => by
  have e : b = it := by simpa using hb
  subst e
  obtain ⟨o, e, c, d⟩ := st
  exact ⟨o, e, fun v z => by rw [d] at z; cases z⟩
 keep := fun i h h' st k => st.at fun o e => k it (by simp) o e
 item := by
  intro X hP hw hK hc i pins s σ H E I hf st hg
  subst hP hw hK
  obtain ⟨xs, x, hq, hx⟩ := hg
  obtain ⟨its, rv, p, hz⟩ := I.list hq
  obtain ⟨u, hu, ru⟩ := rv.get hx
  obtain ⟨f0, f1, f2, f3, f4, f5⟩ := hf it (by simp)
  refine wpAny_pyNext_list_item st p.isList (x := u) (by simpa using hu) fun h' st' sb => ?_
  have I1 : Inv X pins σ H { s with heap := h' } := I.turned (t' := s.toks) (fun b o hb e => (sb.2 b hb).trans e) f0 f1 f3 f4 f5
  obtain ⟨o, e, c, d⟩ := id st'
  exact ⟨u, rfl, go_of (s := { s with heap := h' }) e c d (by decide) ⟨x, H, I1, ru, ⟨rfl, fun ys hy => by rw [I.list_inj hy hq]; exact hx⟩, st', fun b hb => (hf b hb).1⟩⟩
 done := by
  intro X hP hw hK hc i pins s σ H E I hf st hg
  subst hP hw hK
  obtain ⟨xs, hq, hx⟩ := hg
  obtain ⟨its, rv, p, hz⟩ := I.list hq
  obtain ⟨f0, f1, f2, f3, f4, f5⟩ := hf it (by simp)
  have hl := rv.length
  exact wpAny_pyNext_list_end (I.ok.hd hc) st p.isList (by simp; omega) fun h' eb => ⟨rfl, I.turned (t' := s.toks) (fun b o hb e => eb b o hb e) f0 f1 f3 f4 f5⟩
 self := fun _ _ _ _ _ st h => wpAny_pyIter_listiter st h
theorem turn_tuple {P : Program} {w : World} {K : PySem.W.Frag} {tg : Expr} (a it : Addr) : Turn P w K tg (Itt K a) [it] it (fun i h => h.IsTupleIter it a i) where
 mem := by simp
 obj := fun i h st b hb => by
  have e : b = it := by simpa using hb
  subst e
  obtain ⟨o, e, c, d⟩ := st
  exact ⟨o, e, fun v z => by rw [d] at z; cases z⟩
 keep := fun i h h' st k => st.at fun o e => k it (by simp) o e
 item := by
  intro X hP hw hK hc i pins s σ H E I hf st hg
  subst hP hw hK
  obtain ⟨xs, x, hq, hx⟩ := hg
  obtain ⟨its, rv, p, hz⟩ := I.tuple hq
  obtain ⟨u, hu, ru⟩ := rv.get hx
  obtain ⟨f0, f1, f2, f3, f4, f5⟩ := hf it (by simp)
  refine wpAny_pyNext_tuple_item st (show s.heap.IsTuple a its.toArray from p) (x := u) (by simpa using hu) fun h' st' sb => ?_
  have I1 : Inv X pins σ H { s with heap := h' } := I.turned (t' := s.toks) (fun b o hb e => (sb.2 b hb).trans e) f0 f1 f3 f4 f5
  obtain ⟨o, e, c, d⟩ := id st'
  exact ⟨u, rfl, go_of (s := { s with heap := h' }) e c d (by decide) ⟨x, H, I1, ru, ⟨rfl, fun ys hy => by rw [I.tuple_inj hy hq]; exact hx⟩, st', fun b hb => (hf b hb).1⟩⟩
 done := by
  intro X hP hw hK hc i pins s σ H E I hf st hg
  subst hP hw hK
  obtain ⟨xs, hq, hx⟩ := hg
  obtain ⟨its, rv, p, hz⟩ := I.tuple hq
  obtain ⟨f0, f1, f2, f3, f4, f5⟩ := hf it (by simp)
  have hl := rv.length
  exact wpAny_pyNext_tuple_end (I.ok.hd hc) st (show s.heap.IsTuple a its.toArray from p) (by simp; omega) fun h' eb => ⟨rfl, I.turned (t' := s.toks) (fun b o hb e => eb b o hb e) f0 f1 f3 f4 f5⟩
 self := fun _ _ _ _ _ st h => wpAny_pyIter_tupleiter st h
theorem turn_range {P : Program} {w : World} {K : PySem.W.Frag} {tg : Expr} (it : Addr) (lo : Int) (n : Nat) : Turn P w K tg (Itr lo n) [it] it (fun i h => IsRangeIter h it (lo + (i : Nat) * 1) ((n : Int) - (i : Nat)) 1) where
 mem := by simp
 obj := fun i h st b hb => by
  have e : b = it := by simpa using hb
  subst e
  exact ⟨_, st, fun v z => by
   have z' : Data.fields _ = Data.cell v := z
   cases z'⟩
 keep := fun i h h' st k => k it (by simp) _ st
 item := by
  intro X hP hw hK hc i pins s σ H E I hf st hg
  subst hP hw hK
  obtain ⟨f0, f1, f2, f3, f4, f5⟩ := hf it (by simp)
  have W := Walks.range (prog := X.prog) (w := X.w) (I.ok.hd hc) it lo 1 n
  refine W.item i s _ _ hg st fun v h' tk hv st' kk => ?_
  obtain ⟨t, rfl⟩ := hv
  have I1 : Inv X pins σ H { s with heap := h', toks := tk } := I.turned (fun b o hb e => kk b o (by simpa using hb) e) f0 f1 f3 f4 f5
  refine ⟨_, rfl, go_of (s := { s with heap := h', toks := tk }) (n := "range_iterator") st' rfl rfl (by decide) ⟨.int (lo + i), H, I1, ⟨t, ?_⟩, ⟨rfl, rfl⟩, st', fun b hb => (hf b hb).1⟩⟩
  rw [Int.mul_one]
 done := by
  intro X hP hw hK hc i pins s σ H E I hf st hg
  subst hP hw hK
  obtain ⟨f0, f1, f2, f3, f4, f5⟩ := hf it (by simp)
  exact wpAny_pyNext_range_end (I.ok.hd hc) st (by have : n <= i := hg; omega) fun h' eb => ⟨rfl, I.turned (t' := s.toks) (fun b o hb e => eb b o hb e) f0 f1 f3 f4 f5⟩
 self := fun _ _ _ _ _ st h => wpAny_pyIter_rangeiter st h
end L2
namespace L2
open PySem PySem.Spec PyProof.Rows
section
variable {X : Cx} {tg : Expr}
def iList (K : PySem.W.Frag) (tl : TE) : TI := fun σ H R => tl σ H fun x H1 => ∃ a, x = .ref a /\ (∃ xs, SqL K H1 a xs) /\ R (Itl K a) H1
def iTup (K : PySem.W.Frag) (tl : TE) : TI := fun σ H R => tl σ H fun x H1 => ∃ a, x = .ref a /\ (∃ xs, SqT K H1 a xs) /\ R (Itt K a) H1
theorem pi_list {l : Expr} {tl : TE} (hl : PE X l tl) : PI X tg l (iList X.K tl) := by
 intro pins s σ H R I h
 refine thn (hl pins s σ H _ I h) fun v s1 ⟨x, H1, I1, r1, q1⟩ => ?_
 obtain ⟨a, e, ⟨xs, hq⟩, q⟩ := q1
 subst e
 cases r1
 obtain ⟨its, rv, p, hz⟩ := I1.list hq
 refine wpAny_pyIter_list p.isList ?_
 refine ⟨s1.heap.objs.size, [s1.heap.objs.size], _, _, H1, rfl, I1.kept (t' := s1.toks) fun b o e => Heap.get?_push_of_some _ e, turn_list a _, ⟨_, Heap.get?_push_size _ rfl, rfl, rfl⟩, fun b hb => ?_, q⟩
 have e : b = s1.heap.objs.size := by simpa using hb
 subst e
 exact I1.fpOk (Nat.le_refl _) (I1.hok.fresh (Nat.le_refl _))
theorem pi_tup {l : Expr} {tl : TE} (hl : PE X l tl) : PI X tg l (iTup X.K tl) := by
 intro pins s σ H R I h
 refine thn (hl pins s σ H _ I h) fun v s1 ⟨x, H1, I1, r1, q1⟩ => ?_
 obtain ⟨a, e, ⟨xs, hq⟩, q⟩ := q1
 subst e
 cases r1
 obtain ⟨its, rv, p, hz⟩ := I1.tuple hq
 refine wpAny_pyIter_tuple (show s1.heap.IsTuple a its.toArray from p) ?_
 refine ⟨s1.heap.objs.size, [s1.heap.objs.size], _, _, H1, rfl, I1.kept (t' := s1.toks) fun b o e => Heap.get?_push_of_some _ e, turn_tuple a _, ⟨_, Heap.get?_push_size _ rfl, rfl, rfl⟩, fun b hb => ?_, q⟩
 have e : b = s1.heap.objs.size := by simpa using hb
 subst e
 exact I1.fpOk (Nat.le_refl _) (I1.hok.fresh (Nat.le_refl _))
theorem range_it {pins : List (Addr × Obj)} {σ : St} {H : Hp} {s : Shared} {R : It -> Hp -> Prop} {E : Value -> Shared -> Prop} {lo hi : Int} {t u v : Tok} {tk : Nat} (I : Inv X pins σ H s) (h1 : -(2 ^ 62) <= lo) (h2 : lo < 2 ^ 62) (h3 : -(2 ^ 62) <= hi) (h4 : hi < 2 ^ 62)
  (q : R (Itr lo (hi - lo).toNat) H) : wpAny (model X.prog X.w) X.A (pyIter (.ref s.heap.objs.size)) (PIE X pins σ tg R) E { s with heap := s.heap.push { cls := .type "range", data := .fields #[.int lo t, .int hi u, .int 1 v] }, toks := tk } := by
 refine wpAny_pyIter_range (IsRange.new ..) (small_one h1 h2 h3 h4) ?_
 have I1 : Inv X pins σ H { s with heap := s.heap.push { cls := .type "range", data := .fields #[.int lo t, .int hi u, .int 1 v] }, toks := tk } := I.kept fun b o e => Heap.get?_push_of_some _ e
 refine ⟨(s.heap.push { cls := .type "range", data := .fields #[.int lo t, .int hi u, .int 1 v] }).objs.size, [(s.heap.push { cls := .type "range", data := .fields #[.int lo t, .int hi u, .int 1 v] }).objs.size], _, _, H, rfl,
  I1.kept (t' := tk) fun b o e => Heap.get?_push_of_some _ e, turn_range _ lo (hi - lo).toNat, ?_, fun b hb => ?_, q⟩
 ·have e1 : lo + ((0 : Nat) : Int) * 1 = lo := by simp
  have e2 : (((hi - lo).toNat : Nat) : Int) - ((0 : Nat) : Int) = Builtin.Range.rangeSize lo hi 1 := by rw [rangeSize_one]; split <;> omega
  show IsRangeIter _ _ (lo + ((0 : Nat) : Int) * 1) ((((hi - lo).toNat : Nat) : Int) - ((0 : Nat) : Int)) 1
  rw [e1, e2]
  exact Heap.get?_push_size _ rfl
 ·have e : b = (s.heap.push { cls := .type "range", data := .fields #[.int lo t, .int hi u, .int 1 v] }).objs.size := by simpa using hb
  subst e
  exact I1.fpOk (Nat.le_refl _) (I1.hok.fresh (Nat.le_refl _))
def iRng1 (ta : TA) : TI := fun σ H R => ta σ H fun vs H1 => ∃ j : Int, vs = [.int j] /\ -(2 ^ 62) <= j /\ j < 2 ^ 62 /\ R (Itr 0 j.toNat) H1
theorem pi_range1 {a : Expr} {ta : TA} {p pos : Pos} (hg : Gl X "range") (hm : X.mg "range" = none) (ha : PA X [a] ta) (hs : starEach [a] X.env = [(false, eval a X.env)] := by rfl) : PI X tg (.Call (.Name "range" p) [a] [] pos) (iRng1 ta) := by
 intro pins s σ H R I h
 refine Call_ (ld_blt I hg hm boot_range (PyProof.Rows.callWith_type1 (thn (ha pos pins s σ H _ I h) fun us s1 ⟨vs, H1, I1, r1, q1⟩ => ?_) hs rfl))
 obtain ⟨j, e, q1, q2, q⟩ := q1
 subst e
 cases r1 with
 | cons r rr =>
  cases rr
  obtain ⟨t, rfl⟩ := r
  exact call_range_1 (range_it I1 (by omega) (by omega) q1 q2 (by simpa using q))
def tFor (wi : TI) (g : TG) (tb : TS) : TS := fun D σ H => wi σ H fun J H1 => ∃ W : Nat -> Nat -> St -> Hp -> Prop, (∃ m, W 0 m σ H1) /\ ∀ i m σ H, W i m σ H ->
 (J.stop i H /\ D.nx σ H) ∨ (J.go i H /\ ∃ N : St -> Hp -> Prop, (∀ σ' H', N σ' H' -> ∃ m', m' < m /\ W (i + 1) m' σ' H') /\ ∀ x H', J.yld i H x H' -> g x σ H' fun σ2 H2 => tb { D with nx := N, ct := N, bk := D.nx } σ2 H2)
def pinsAt (fp : List Addr) (h : Heap) : List (Addr × Obj) := fp.filterMap fun b => (h.get? b).map fun o => (b, o)
theorem mem_pinsAt {fp : List Addr} {h : Heap} {b : Addr} {o : Obj} (hb : b ∈ fp) (e : h.get? b = some o) : (b, o) ∈ pinsAt fp h := List.mem_filterMap.mpr ⟨b, hb, by rw [e]; rfl⟩
theorem of_pinsAt {fp : List Addr} {h : Heap} {p : Addr × Obj} (hp : p ∈ pinsAt fp h) : p.1 ∈ fp /\ h.get? p.1 = some p.2 := by
 obtain ⟨b, hb, e⟩ := List.mem_filterMap.mp hp
 cases q : h.get? b with
 | none => rw [q] at e; cases e
 | some o =>
  rw [q] at e
  have e' : (b, o) = p := Option.some.inj e
  subst e'
  exact ⟨hb, q⟩
theorem Inv.pinned {pins : List (Addr × Obj)} {σ : St} {H : Hp} {s : Shared} {fp : List Addr} (I : Inv X pins σ H s) (hf : ∀ b ∈ fp, FpOk X pins H b) (ho : ∀ b ∈ fp, ∃ o, s.heap.get? b = some o /\ ∀ v, o.data ≠ .cell v) : Inv X (pins ++ pinsAt fp s.heap) σ H s :=
 I.pins_of fun p hp => (List.mem_append.mp hp).elim (fun z => I.pin p (List.mem_append_right _ z)) fun z => by
  obtain ⟨hb, e⟩ := of_pinsAt z
  obtain ⟨f0, f1, f2, _⟩ := hf p.1 hb
  obtain ⟨o, e', d⟩ := ho p.1 hb
  rw [e] at e'; cases e'
  exact ⟨e, f0, f1, f2, d⟩
theorem Inv.unpinned {pins pl : List (Addr × Obj)} {σ : St} {H : Hp} {s : Shared} (I : Inv X (pins ++ pl) σ H s) : Inv X pins σ H s := I.pins_of fun p hp => I.pin p (List.mem_append_right _ (List.mem_append_left _ hp))
theorem ps_for {iter : Expr} {body : List Stmt} {wi : TI} {g : TG} {tb : TS} {pos : Pos} (hp : PassesOwn (model X.prog X.w) X.A X.env X.xe) (hc : X.calm = true) (hi : PI X tg iter wi) (hg : PG X tg g) (hb : PSs X body tb)
  (hs : ∀ x, foldedSetIterable iter X.env x = pure x := by intro _; rfl) : PS X (.For tg iter body [] pos) (tFor wi g tb) := by
 intro pins s σ H D I h
 refine wpAny_For (thn (hi pins s σ H _ I h) fun v s1 h1 => thn h1 fun itv s2 h2 => ?_) hs
 obtain ⟨it, fp, tn, J, H2, e, I2, T, st2, f2, W, ⟨m0, w0⟩, turn⟩ := h2
 subst e
 have stat : ∀ {H' : Hp}, (∀ b ∈ fp, H' b = none) -> ∀ b ∈ fp, FpOk X pins H' b := fun hn b hb => ⟨hn b hb, (f2 b hb).2⟩
 refine codeAny_forLoop_any (fun n s' => ∃ i σ' H', Inv X pins σ' H' s' /\ tn i s'.heap /\ (∀ b ∈ fp, H' b = none) /\ W i n σ' H') ?_ m0 ⟨0, σ, H2, I2, st2, fun b hb => (f2 b hb).1, w0⟩
 rintro n s3 ⟨i, σ3, H3, I3, st3, fr3, w3⟩
 rcases turn i n σ3 H3 w3 with ⟨stop, qn⟩ | ⟨go, N, hN, step⟩
 ·refine wpAny_passesOwn hp (thn (T.done X rfl rfl rfl hc i pins s3 σ3 H3 X.xe I3 (stat fr3) st3 stop) fun r s4 ⟨hr, I4⟩ => ?_)
  subst hr
  exact wpAny_execs_nil ⟨σ3, H3, I4, qn⟩
 ·refine wpAny_passesOwn hp (thn (T.item X rfl rfl rfl hc i pins s3 σ3 H3 X.xe I3 (stat fr3) st3 go) fun r s4 ⟨u, hr, h4⟩ => ?_)
  subst hr
  refine wpAny_passesOwn hp (thn h4 fun _ s5 ⟨x, H5, I5, r5, y5, st5, fr5⟩ => ?_)
  have I5' := I5.pinned (stat fr5) (T.obj _ _ st5)
  refine wpAny_passesOwn hp (thn (hg _ s5 σ3 H5 x u _ I5' r5 (step x H5 y5)) fun _ s6 ⟨σ6, H6, I6, q6⟩ => ?_)
  refine wpAny_passesOwn hp (thn (hb _ s6 σ6 H6 _ I6 q6) fun f s7 q7 => ?_)
  have again : ∀ {σ7 : St} {H7 : Hp}, Inv X (pins ++ pinsAt fp s5.heap) σ7 H7 s7 -> N σ7 H7 -> ∃ m, m < n /\ ∃ i σ' H', Inv X pins σ' H' s7 /\ tn i s7.heap /\ (∀ b ∈ fp, H' b = none) /\ W i m σ' H' := fun {σ7 H7} I7 n7 => by
   obtain ⟨m', hm, w7⟩ := hN σ7 H7 n7
   refine ⟨m', hm, i + 1, σ7, H7, I7.unpinned, T.keep _ _ _ st5 fun b hb o e => (I7.pin (b, o) (List.mem_append_right _ (List.mem_append_right _ (mem_pinsAt hb e)))).1, fun b hb => ?_, w7⟩
   obtain ⟨o, e, d⟩ := T.obj _ _ st5 b hb
   exact (I7.pin (b, o) (List.mem_append_right _ (List.mem_append_right _ (mem_pinsAt hb e)))).2.1
  cases f with
  | next => obtain ⟨σ7, H7, I7, n7⟩ := q7; exact again I7 n7
  | cont => obtain ⟨σ7, H7, I7, n7⟩ := q7; exact again I7 n7
  | brk => obtain ⟨σ7, H7, I7, q7⟩ := q7; exact ⟨σ7, H7, I7.unpinned, q7⟩
  | ret v => obtain ⟨x7, σ7, H7, I7, r7, q7⟩ := q7; exact ⟨x7, σ7, H7, I7.unpinned, r7, q7⟩
end
theorem for_list {K : PySem.W.Frag} {a : Addr} {xs : List V} {g : TG} {tb : TS} {D : Ends} {σ : St} {H : Hp} (Pv : Nat -> St -> Hp -> Prop) (h0 : Pv 0 σ H) (hl : ∀ i σ H, i <= xs.length -> Pv i σ H -> SqL K H a xs)
  (hs : ∀ i x σ H, xs[i]? = some x -> Pv i σ H -> g x σ H fun σ2 H2 => tb { D with nx := Pv (i + 1), ct := Pv (i + 1), bk := D.nx } σ2 H2) (hd : ∀ σ H, Pv xs.length σ H -> D.nx σ H) :
  ∃ W : Nat -> Nat -> St -> Hp -> Prop, (∃ m, W 0 m σ H) /\ ∀ i m σ H, W i m σ H ->
   ((Itl K a).stop i H /\ D.nx σ H) ∨ ((Itl K a).go i H /\ ∃ N : St -> Hp -> Prop, (∀ σ' H', N σ' H' -> ∃ m', m' < m /\ W (i + 1) m' σ' H') /\ ∀ x H', (Itl K a).yld i H x H' -> g x σ H' fun σ2 H2 => tb { D with nx := N, ct := N, bk := D.nx } σ2 H2) := by
 refine ⟨fun i m σ H => m = xs.length - i /\ i <= xs.length /\ Pv i σ H, ⟨xs.length, by simp, Nat.zero_le _, h0⟩, ?_⟩
 rintro i m σ H ⟨rfl, hi, p⟩
 have q := hl i σ H hi p
 by_cases hlt : i < xs.length
 ·refine .inr ⟨⟨xs, xs[i], q, by simp [hlt]⟩, Pv (i + 1), fun σ' H' p' => ⟨xs.length - (i + 1), by omega, rfl, hlt, p'⟩, fun x H' y => ?_⟩
  obtain ⟨e, y⟩ := y
  subst e
  exact hs i x σ _ (y xs q) p
 ·have e : i = xs.length := by omega
  subst e
  exact .inl ⟨⟨xs, q, Nat.le_refl _⟩, hd σ H p⟩
theorem for_tup {K : PySem.W.Frag} {a : Addr} {xs : List V} {g : TG} {tb : TS} {D : Ends} {σ : St} {H : Hp} (Pv : Nat -> St -> Hp -> Prop) (h0 : Pv 0 σ H) (hl : ∀ i σ H, i <= xs.length -> Pv i σ H -> SqT K H a xs)
  (hs : ∀ i x σ H, xs[i]? = some x -> Pv i σ H -> g x σ H fun σ2 H2 => tb { D with nx := Pv (i + 1), ct := Pv (i + 1), bk := D.nx } σ2 H2) (hd : ∀ σ H, Pv xs.length σ H -> D.nx σ H) :
  ∃ W : Nat -> Nat -> St -> Hp -> Prop, (∃ m, W 0 m σ H) /\ ∀ i m σ H, W i m σ H ->
   ((Itt K a).stop i H /\ D.nx σ H) ∨ ((Itt K a).go i H /\ ∃ N : St -> Hp -> Prop, (∀ σ' H', N σ' H' -> ∃ m', m' < m /\ W (i + 1) m' σ' H') /\ ∀ x H', (Itt K a).yld i H x H' -> g x σ H' fun σ2 H2 => tb { D with nx := N, ct := N, bk := D.nx } σ2 H2) := by
 refine ⟨fun i m σ H => m = xs.length - i /\ i <= xs.length /\ Pv i σ H, ⟨xs.length, by simp, Nat.zero_le _, h0⟩, ?_⟩
 rintro i m σ H ⟨rfl, hi, p⟩
 have q := hl i σ H hi p
 by_cases hlt : i < xs.length
 ·refine .inr ⟨⟨xs, xs[i], q, by simp [hlt]⟩, Pv (i + 1), fun σ' H' p' => ⟨xs.length - (i + 1), by omega, rfl, hlt, p'⟩, fun x H' y => ?_⟩
  obtain ⟨e, y⟩ := y
  subst e
  exact hs i x σ _ (y xs q) p
 ·have e : i = xs.length := by omega
  subst e
  exact .inl ⟨⟨xs, q, Nat.le_refl _⟩, hd σ H p⟩
theorem for_range {lo : Int} {n : Nat} {g : TG} {tb : TS} {D : Ends} {σ : St} {H : Hp} (Pv : Nat -> St -> Hp -> Prop) (h0 : Pv 0 σ H)
  (hs : ∀ i σ H, i < n -> Pv i σ H -> g (.int (lo + i)) σ H fun σ2 H2 => tb { D with nx := Pv (i + 1), ct := Pv (i + 1), bk := D.nx } σ2 H2) (hd : ∀ σ H, Pv n σ H -> D.nx σ H) :
  ∃ W : Nat -> Nat -> St -> Hp -> Prop, (∃ m, W 0 m σ H) /\ ∀ i m σ H, W i m σ H ->
   ((Itr lo n).stop i H /\ D.nx σ H) ∨ ((Itr lo n).go i H /\ ∃ N : St -> Hp -> Prop, (∀ σ' H', N σ' H' -> ∃ m', m' < m /\ W (i + 1) m' σ' H') /\ ∀ x H', (Itr lo n).yld i H x H' -> g x σ H' fun σ2 H2 => tb { D with nx := N, ct := N, bk := D.nx } σ2 H2) := by
 refine ⟨fun i m σ H => m = n - i /\ i <= n /\ Pv i σ H, ⟨n, by simp, Nat.zero_le _, h0⟩, ?_⟩
 rintro i m σ H ⟨rfl, hi, p⟩
 by_cases hlt : i < n
 ·refine .inr ⟨hlt, Pv (i + 1), fun σ' H' p' => ⟨n - (i + 1), by omega, rfl, hlt, p'⟩, fun x H' y => ?_⟩
  obtain ⟨e, y⟩ := y
  subst e y
  exact hs i σ _ hlt p
 ·have e : i = n := by omega
  subst e
  exact .inl ⟨Nat.le_refl _, hd σ H p⟩
theorem while_by {c : TT} {tb : TS} {D : Ends} {σ : St} {H : Hp} (Pv : St -> Hp -> Prop) (μ : St -> Hp -> Nat) (h0 : Pv σ H)
  (hs : ∀ σ H, Pv σ H -> c σ H fun b H1 => if b = true then tb { D with nx := fun σ' H' => Pv σ' H' /\ μ σ' H' < μ σ H, ct := fun σ' H' => Pv σ' H' /\ μ σ' H' < μ σ H, bk := D.nx } σ H1 else D.nx σ H1)
  (mono : ∀ σ H Q Q', (∀ b H1, Q b H1 -> Q' b H1) -> c σ H Q -> c σ H Q') : tWhile c tb D σ H := by
 refine ⟨fun m σ H => m = μ σ H /\ Pv σ H, ⟨_, rfl, h0⟩, ?_⟩
 rintro m σ H ⟨rfl, p⟩
 refine mono σ H _ _ (fun b H1 q => ?_) (hs σ H p)
 cases b with
 | true => exact ⟨_, fun σ' H' ⟨p', l⟩ => ⟨_, l, rfl, p'⟩, q⟩
 | false => exact q
end L2
namespace L2
open PySem PySem.Spec PyProof.Rows
abbrev R2 := V -> V -> Hp -> VK -> Prop
def OpR (X : Cx) (f : Value -> Value -> Sem Value) (r : R2) : Prop :=
 ∀ (pins : List (Addr × Obj)) (s : Shared) (σ : St) (H : Hp) (x y : V) (v u : Value) (Q : VK), Inv X pins σ H s -> RelV x v -> RelV y u -> r x y H Q ->
  wpAny (model X.prog X.w) X.A (f v u) (EP X pins σ Q) X.xe s
def CallR (X : Cx) (f : Value) (r : List V -> Hp -> VK -> Prop) : Prop :=
 ∀ (pins : List (Addr × Obj)) (s : Shared) (σ : St) (H : Hp) (xs : List V) (us : List Value) (Q : VK), Inv X pins σ H s -> Vals xs us -> r xs H Q ->
  wpAny (model X.prog X.w) X.A (call f us) (EP X pins σ Q) X.xe s
def tOp (r : R2) (ta tb : TE) : TE := fun σ H Q => ta σ H fun x H1 => tb σ H1 fun y H2 => r x y H2 Q
def rI (C : Int -> Int -> Prop) (g : Int -> Int -> V) : R2 := fun x y H Q => ∃ i j, x = .int i /\ y = .int j /\ C i j /\ Q (g i j) H
def rI0 (g : Int -> Int -> V) : R2 := fun x y H Q => ∃ i j, x = .int i /\ y = .int j /\ Q (g i j) H
section
variable {X : Cx} {a b c : Expr} {ta tb tc : TE} {pos : Pos}
theorem binT (ha : PE X a ta) (hb : PE X b tb) {pins : List (Addr × Obj)} {s : Shared} {σ : St} {H : Hp} {R : V -> V -> Hp -> Prop} (I : Inv X pins σ H s)
  (h : ta σ H fun x H1 => tb σ H1 fun y H2 => R x y H2) {Q : Value -> Shared -> Prop} {f : Value -> Value -> Sem Value}
  (hf : ∀ v u s2 x y H2, Inv X pins σ H2 s2 -> RelV x v -> RelV y u -> R x y H2 -> wpAny (model X.prog X.w) X.A (f v u) Q X.xe s2) :
  wpAny (model X.prog X.w) X.A (eval a X.env) (fun v s₁ => wpAny (model X.prog X.w) X.A (eval b X.env) (fun u s₂ => wpAny (model X.prog X.w) X.A (f v u) Q X.xe s₂) X.xe s₁) X.xe s := by
 refine thn (ha pins s σ H _ I h) fun v s1 ⟨x, H1, I1, r1, q1⟩ => ?_
 refine thn (hb pins s1 σ H1 _ I1 q1) fun u s2 ⟨y, H2, I2, r2, q2⟩ => ?_
 exact hf v u s2 x y H2 I2 r1 r2 q2
theorem pe_op {op : Operator} {r : R2} (ho : OpR X (binaryOp op) r) (ha : PE X a ta) (hb : PE X b tb) : PE X (.BinOp a op b pos) (tOp r ta tb) := by
 intro pins s σ H Q I h
 exact wpAny_BinOp (binT ha hb I h fun v u s2 x y H2 I2 rx ry q => ho pins s2 σ H2 x y v u Q I2 rx ry q)
theorem opI {f : Value -> Value -> Sem Value} {C : Int -> Int -> Prop} {g : Int -> Int -> Int}
  (rule : ∀ (i j : Int) (t u : Tok) (s : Shared) (Q : Value -> Shared -> Prop) (E : Value -> Shared -> Prop), C i j -> Q (.int (g i j) s.toks) { s with toks := s.toks + 1 } -> wpAny (model X.prog X.w) X.A (f (.int i t) (.int j u)) Q E s) :
  OpR X f (rI C fun i j => .int (g i j)) := by
 intro pins s σ H x y v u Q I rx ry h
 obtain ⟨i, j, rfl, rfl, hc, q⟩ := h
 obtain ⟨t, rfl⟩ := rx
 obtain ⟨t', rfl⟩ := ry
 exact rule i j t t' s _ _ hc ⟨.int (g i j), H, I.tok _, ⟨_, rfl⟩, q⟩
theorem opI0 {f : Value -> Value -> Sem Value} {g : Int -> Int -> Int}
  (rule : ∀ (i j : Int) (t u : Tok) (s : Shared) (Q : Value -> Shared -> Prop) (E : Value -> Shared -> Prop), Q (.int (g i j) s.toks) { s with toks := s.toks + 1 } -> wpAny (model X.prog X.w) X.A (f (.int i t) (.int j u)) Q E s) :
  OpR X f (rI0 fun i j => .int (g i j)) := by
 intro pins s σ H x y v u Q I rx ry h
 obtain ⟨i, j, rfl, rfl, q⟩ := h
 obtain ⟨t, rfl⟩ := rx
 obtain ⟨t', rfl⟩ := ry
 exact rule i j t t' s _ _ ⟨.int (g i j), H, I.tok _, ⟨_, rfl⟩, q⟩
theorem opB0 {f : Value -> Value -> Sem Value} {g : Int -> Int -> Bool}
  (rule : ∀ (i j : Int) (t u : Tok) (s : Shared) (Q : Value -> Shared -> Prop) (E : Value -> Shared -> Prop), Q (.bool (g i j)) s -> wpAny (model X.prog X.w) X.A (f (.int i t) (.int j u)) Q E s) :
  OpR X f (rI0 fun i j => .bl (g i j)) := by
 intro pins s σ H x y v u Q I rx ry h
 obtain ⟨i, j, rfl, rfl, q⟩ := h
 obtain ⟨t, rfl⟩ := rx
 obtain ⟨t', rfl⟩ := ry
 exact rule i j t t' s _ _ ⟨.bl (g i j), H, I, rfl, q⟩
def CDiv (i j : Int) : Prop := 0 < j /\ j < 1073741824
def CPow (i j : Int) : Prop := 0 <= j /\ j <= 1000000 /\ i.natAbs < 2 ^ 64
def CMul (i j : Int) : Prop := (-(2 ^ 64) < i /\ i < 2 ^ 64) ∨ (-(2 ^ 64) < j /\ j < 2 ^ 64)
theorem CMul.ok {i j : Int} (h : CMul i j) : IntMulOk i j := by
 rcases h with ⟨h1, h2⟩ | ⟨h1, h2⟩
 ·exact .of_left (intBits_le_64 h1 h2)
 ·exact .of_right (intBits_le_64 h1 h2)
theorem op_add : OpR X (binaryOp .Add) (rI0 fun i j => .int (i + j)) := opI0 fun _ _ _ _ _ _ _ q => add_int q
theorem op_sub : OpR X (binaryOp .Sub) (rI0 fun i j => .int (i - j)) := opI0 fun _ _ _ _ _ _ _ q => sub_int q
theorem op_mul : OpR X (binaryOp .Mult) (rI CMul fun i j => .int (i * j)) := opI fun _ _ _ _ _ _ _ hc q => mul_int q hc.ok
theorem op_fdiv : OpR X (binaryOp .FloorDiv) (rI CDiv fun i j => .int (i / j)) := opI fun i j _ _ _ _ _ hc q => by
 have h1 : (0 : Int) < j := hc.1
 have h2 : j < 1073741824 := hc.2
 exact floordiv_int (by omega) (by rw [Int.fdiv_eq_ediv_of_nonneg i (by omega)]; exact q) (.inl (PyProof.noPylong_small (by omega)))
theorem op_mod : OpR X (binaryOp .Mod) (rI (fun _ j => 0 < j) fun i j => .int (i % j)) := opI fun i j _ _ _ _ _ hc q => by
 have h1 : (0 : Int) < j := hc
 exact mod_int' (by omega) (by rw [Int.fmod_eq_emod_of_nonneg i (by omega)]; exact q)
theorem op_pow : OpR X (binaryOp .Pow) (rI CPow fun i j => .int (i ^ j.toNat)) := opI fun _ _ _ _ _ _ _ hc q => pow_int_small hc.1 hc.2.1 hc.2.2 q
end
def scal : V -> V -> Bool
 | .non, .non => true | .non, .int _ => true | .int _, .non => true | .non, .bl _ => true | .bl _, .non => true | .non, .str _ => true | .str _, .non => true
 | .int _, .int _ => true | .bl _, .bl _ => true | .str _, .str _ => true | .byt _, .byt _ => true
 | .int _, .str _ => true | .str _, .int _ => true | .bl _, .str _ => true | .str _, .bl _ => true
 | _, _ => false
def rEq : R2 := fun x y H Q => scal x y = true /\ Q (.bl (decide (x = y))) H
def rNe : R2 := fun x y H Q => scal x y = true /\ Q (.bl (!decide (x = y))) H
theorem dec_int {i j : Int} : decide (V.int i = V.int j) = (i == j) := by
 rw [Bool.eq_iff_iff]
 simp
theorem dec_bl {i j : Bool} : decide (V.bl i = V.bl j) = (i == j) := by
 rw [Bool.eq_iff_iff]
 simp
theorem dec_str {i j : Str} : decide (V.str i = V.str j) = (i == j) := by
 rw [Bool.eq_iff_iff]
 simp
theorem dec_byt {i j : Array UInt8} : decide (V.byt i = V.byt j) = (i.toList == j.toList) := by
 rw [Bool.eq_iff_iff]
 cases i
 cases j
 simp
section
variable {X : Cx} {a b c : Expr} {ta tb tc : TE} {pos : Pos}
theorem fin_bl {pins : List (Addr × Obj)} {σ : St} {H : Hp} {s : Shared} {Q : VK} {k k' : Bool} (I : Inv X pins σ H s) (q : Q (.bl k) H) (e : k = k') : EP X pins σ Q (.bool k') s := by
 subst e
 exact ⟨.bl k, H, I, rfl, q⟩
theorem op_eq : OpR X (compareOp .Eq) rEq := by
 intro pins s σ H x y v u Q I rx ry h
 obtain ⟨hs, q⟩ := h
 cases x with
 | non =>
  cases rx
  cases y with
  | non => cases ry; exact PySem.EqNone.eq_none_none (fin_bl I q (by simp))
  | bl j => cases ry; exact PySem.EqNone.eq_none_bool (fin_bl I q (by simp))
  | int j => obtain ⟨t', rfl⟩ := ry; exact PySem.EqNone.eq_none_int (fin_bl I q (by simp))
  | str j => obtain ⟨t', rfl⟩ := ry; exact PySem.EqNone.eq_none_str (fin_bl I q (by simp))
  | _ => exact absurd (show false = true from hs) Bool.false_ne_true
 | bl i =>
  cases rx
  cases y with
  | non => cases ry; exact PySem.EqNone.eq_bool_none (fin_bl I q (by simp))
  | bl j => cases ry; exact eq_bool (fin_bl I q dec_bl)
  | str j => obtain ⟨t', rfl⟩ := ry; exact PySem.EqMixed.eq_bool_str (fin_bl I q (by simp))
  | _ => exact absurd (show false = true from hs) Bool.false_ne_true
 | int i =>
  obtain ⟨t, rfl⟩ := rx
  cases y with
  | non => cases ry; exact PySem.EqNone.eq_int_none (fin_bl I q (by simp))
  | int j => obtain ⟨t', rfl⟩ := ry; exact eq_int (fin_bl I q dec_int)
  | str j => obtain ⟨t', rfl⟩ := ry; exact PySem.EqMixed.eq_int_str (fin_bl I q (by simp))
  | _ => exact absurd (show false = true from hs) Bool.false_ne_true
 | str i =>
  obtain ⟨t, rfl⟩ := rx
  cases y with
  | non => cases ry; exact PySem.EqNone.eq_str_none (fin_bl I q (by simp))
  | bl j => cases ry; exact PySem.EqMixed.eq_str_bool (fin_bl I q (by simp))
  | int j => obtain ⟨t', rfl⟩ := ry; exact PySem.EqMixed.eq_str_int (fin_bl I q (by simp))
  | str j => obtain ⟨t', rfl⟩ := ry; exact eq_str (fin_bl I q dec_str)
  | _ => exact absurd (show false = true from hs) Bool.false_ne_true
 | byt i =>
  obtain ⟨t, rfl⟩ := rx
  cases y with
  | byt j => obtain ⟨t', rfl⟩ := ry; exact PySem.W.eq_bytes (fin_bl I q dec_byt)
  | _ => exact absurd (show false = true from hs) Bool.false_ne_true
 | _ => cases y <;> exact absurd (show false = true from hs) Bool.false_ne_true
theorem op_ne : OpR X (compareOp .NotEq) rNe := by
 intro pins s σ H x y v u Q I rx ry h
 obtain ⟨hs, q⟩ := h
 cases x with
 | non =>
  cases rx
  cases y with
  | non => cases ry; exact PySem.EqNone.ne_none_none (fin_bl I q (by simp))
  | bl j => cases ry; exact PySem.EqNone.ne_none_bool (fin_bl I q (by simp))
  | int j => obtain ⟨t', rfl⟩ := ry; exact PySem.EqNone.ne_none_int (fin_bl I q (by simp))
  | str j => obtain ⟨t', rfl⟩ := ry; exact PySem.EqNone.ne_none_str (fin_bl I q (by simp))
  | _ => exact absurd (show false = true from hs) Bool.false_ne_true
 | bl i =>
  cases rx
  cases y with
  | non => cases ry; exact PySem.EqNone.ne_bool_none (fin_bl I q (by simp))
  | bl j => cases ry; exact ne_bool (fin_bl I q (congrArg not dec_bl))
  | str j => obtain ⟨t', rfl⟩ := ry; exact PySem.EqMixed.ne_bool_str (fin_bl I q (by simp))
  | _ => exact absurd (show false = true from hs) Bool.false_ne_true
 | int i =>
  obtain ⟨t, rfl⟩ := rx
  cases y with
  | non => cases ry; exact PySem.EqNone.ne_int_none (fin_bl I q (by simp))
  | int j => obtain ⟨t', rfl⟩ := ry; exact ne_int (fin_bl I q (congrArg not dec_int))
  | str j => obtain ⟨t', rfl⟩ := ry; exact PySem.EqMixed.ne_int_str (fin_bl I q (by simp))
  | _ => exact absurd (show false = true from hs) Bool.false_ne_true
 | str i =>
  obtain ⟨t, rfl⟩ := rx
  cases y with
  | non => cases ry; exact PySem.EqNone.ne_str_none (fin_bl I q (by simp))
  | bl j => cases ry; exact PySem.EqMixed.ne_str_bool (fin_bl I q (by simp))
  | int j => obtain ⟨t', rfl⟩ := ry; exact PySem.EqMixed.ne_str_int (fin_bl I q (by simp))
  | str j => obtain ⟨t', rfl⟩ := ry; exact ne_str (fin_bl I q (congrArg not dec_str))
  | _ => exact absurd (show false = true from hs) Bool.false_ne_true
 | byt i =>
  obtain ⟨t, rfl⟩ := rx
  cases y with
  | byt j => obtain ⟨t', rfl⟩ := ry; exact PySem.W.ne_bytes (fin_bl I q (congrArg not dec_byt))
  | _ => exact absurd (show false = true from hs) Bool.false_ne_true
 | _ => cases y <;> exact absurd (show false = true from hs) Bool.false_ne_true
theorem op_lt : OpR X (compareOp .Lt) (rI0 fun i j => .bl (decide (i < j))) := opB0 fun _ _ _ _ _ _ _ q => lt_int q
theorem op_gt : OpR X (compareOp .Gt) (rI0 fun i j => .bl (decide (j < i))) := opB0 fun _ _ _ _ _ _ _ q => gt_int q
theorem op_ge : OpR X (compareOp .GtE) (rI0 fun i j => .bl (decide (j <= i))) := opB0 fun _ _ _ _ _ _ _ q => ge_int q
theorem op_isN : OpR X (compareOp .Is) (fun x y H Q => y = .non /\ Q (.bl (decide (x = .non))) H) := by
  intro pins s σ H x y v u Q I rx ry h
  obtain ⟨rfl, q⟩ := h
  cases ry
  refine is_none_gen (fin_bl I q ?_)
  cases x <;> first
    | (cases rx; rfl)
    | (obtain ⟨t, rfl⟩ := rx; rfl)
theorem op_notN : OpR X (compareOp .IsNot) (fun x y H Q => y = .non /\ Q (.bl (!decide (x = .non))) H) := by
  intro pins s σ H x y v u Q I rx ry h
  obtain ⟨rfl, q⟩ := h
  cases ry
  refine isnot_none_gen (fin_bl I q ?_)
  cases x <;> first
    | (cases rx; rfl)
    | (obtain ⟨t, rfl⟩ := rx; rfl)
theorem OpR.or {f : Value -> Value -> Sem Value} {r r' : R2} (h : OpR X f r) (h' : OpR X f r') : OpR X f (fun x y H Q => r x y H Q ∨ r' x y H Q) := by
 intro pins s σ H x y v u Q I rx ry q
 rcases q with q | q
 ·exact h pins s σ H x y v u Q I rx ry q
 ·exact h' pins s σ H x y v u Q I rx ry q
theorem nomark (b : Expr) {op : CmpOp} (h : op ≠ .In := by decide) (h2 : op ≠ .NotIn := by decide) : behindInMarks op b = false := by
 have e1 : (op == CmpOp.In) = false := by cases op <;> first | rfl | exact absurd rfl h
 have e2 : (op == CmpOp.NotIn) = false := by cases op <;> first | rfl | exact absurd rfl h2
 cases b <;> simp [behindInMarks, e1, e2]
theorem pe_cmpR {op : CmpOp} {r : R2} (ho : OpR X (compareOp op) r) (ha : PE X a ta) (hb : PE X b tb) (hm : behindInMarks op b = false) : PE X (.Compare a [op] [b] pos) (tOp r ta tb) := by
 intro pins s σ H Q I h
 exact wpAny_Compare1 (binT ha hb I h fun v u s2 x y H2 I2 rx ry q => ho pins s2 σ H2 x y v u Q I2 rx ry q) hm
def tTest (t : TE) : TT := fun σ H Q => t σ H fun x H' => ∃ k, x = .bl k /\ Q k H'
theorem pt_cmpR {op : CmpOp} {r : R2} (ho : OpR X (compareOp op) r) (ha : PE X a ta) (hb : PE X b tb) (hm : behindInMarks op b = false) : PT X (.Compare a [op] [b] pos) (tTest (tOp r ta tb)) := by
 intro pins s σ H Q I h
 refine wpAny_isTrue_Compare1 (thn (ha pins s σ H _ I h) fun v s1 ⟨x, H1, I1, r1, q1⟩ => thn (hb pins s1 σ H1 _ I1 q1) fun u s2 ⟨y, H2, I2, r2, q2⟩ =>
  thn (ho pins s2 σ H2 x y v u _ I2 r1 r2 q2) fun c s3 ⟨z, H3, I3, r3, k, e, q3⟩ => ?_) hm
 subst e
 cases r3
 exact wpAny_truthy_bool ⟨H3, I3, q3⟩
theorem line63 : (sizeLine : Nat) < 2 ^ 63 := by rw [sizeLine_eq]; decide
theorem op_add_str : OpR X (binaryOp .Add) (fun x y H Q => ∃ i j, x = .str i /\ y = .str j /\ i.length + j.length <= sizeLine /\ Q (.str (i ++ j)) H) := by
 intro pins s σ H x y v u Q I rx ry h
 obtain ⟨i, j, rfl, rfl, hz, q⟩ := h
 obtain ⟨t, rfl⟩ := rx
 obtain ⟨t', rfl⟩ := ry
 exact add_str (fun t' tk => ⟨.str (i ++ j), H, I.tok _, ⟨_, rfl⟩, q⟩) hz
theorem vals1 {x : V} {us : List Value} (r : Vals [x] us) : ∃ u, us = [u] /\ RelV x u := by
 cases r with
 | cons r1 r2 => cases r2; exact ⟨_, rfl, r1⟩
theorem vals2 {x y : V} {us : List Value} (r : Vals [x, y] us) : ∃ u w', us = [u, w'] /\ RelV x u /\ RelV y w' := by
 cases r with
 | cons r1 r2 =>
  cases r2 with
  | cons r3 r4 => cases r4; exact ⟨_, _, rfl, r1, r3⟩
theorem call_abs : CallR X (.builtin "abs") (fun xs H Q => ∃ i, xs = [.int i] /\ Q (.int (if i < 0 then -i else i)) H) := by
 intro pins s σ H xs us Q I r h
 obtain ⟨i, rfl, q⟩ := h
 obtain ⟨u, rfl, t, rfl⟩ := vals1 r
 exact call_abs_int fun u tk => ⟨.int (if i < 0 then -i else i), H, I.tok _, ⟨_, rfl⟩, q⟩
theorem call_int1 : CallR X (.type "int") (fun xs H Q => (∃ i, xs = [.int i] /\ Q (.int i) H) ∨ ∃ k, xs = [.bl k] /\ Q (.int (if k then 1 else 0)) H) := by
 intro pins s σ H xs us Q I r h
 rcases h with ⟨i, rfl, q⟩ | ⟨k, rfl, q⟩
 ·obtain ⟨u, rfl, t, rfl⟩ := vals1 r
  exact call_int_int ⟨.int i, H, I, ⟨_, rfl⟩, q⟩
 ·obtain ⟨u, rfl, r1⟩ := vals1 r
  cases r1
  exact call_int_bool ⟨.int (if k then 1 else 0), H, I.tok _, ⟨_, rfl⟩, q⟩
end
end L2
namespace L2
open PySem PySem.Spec PyProof.Rows
structure ObjM (h : Heap) (x dx C : Addr) (mA : Str -> Option Value) : Prop where
 obj : h.get? x = some (PySem.W.instObj C dx)
 ns : h.Ns1 dx mA
 ne : dx ≠ x
theorem lookIn_ns {h : Heap} {dx : Addr} {mA : Str -> Option Value} (n : h.Ns1 dx mA) : ∃ od, h.get? dx = some od /\ ∀ name, PySem.W.lookIn name od = some (mA name) := by
 obtain ⟨o, es, ep, ho, hd, hk, _, hm⟩ := n
 refine ⟨o, ho, fun name => ?_⟩
 have e := hm name
 unfold nsFind findBy at e
 rw [<- Array.find?_toList] at e
 unfold PySem.W.lookIn
 rw [hd]
 dsimp only
 split
 ·rename_i y q
  rw [q] at e
  exact congrArg some e
 ·rename_i q
  rw [q] at e
  have a : es.toList.any (·.refKey) = false := by
   rw [List.any_eq_false]
   intro y hy
   obtain ⟨z, t, hkey⟩ := hk y (Array.mem_toList_iff.mp hy)
   simp [DictEntry.refKey, hkey]
  have a' : ¬ es.toList.any (·.refKey) = true := by rw [a]; exact Bool.false_ne_true
  rw [if_neg a']
  exact congrArg some e
theorem ObjM.look {h : Heap} {x dx C : Addr} {mA : Str -> Option Value} (I : ObjM h x dx C mA) : ∃ od, PySem.W.InstAt h x (PySem.W.instObj C dx) C (some od) /\ ∀ name, PySem.W.lookIn name od = some (mA name) :=
 let ⟨od, ho, hl⟩ := lookIn_ns I.ns
 ⟨od, ⟨I.obj, rfl, rfl, ho⟩, hl⟩
section
variable {prog : Program} {w : World} {A : Around} {E : Value -> Shared -> Prop} {s : Shared} {K : PySem.W.Frag} {x dx C f : Addr} {mA : Str -> Option Value} {name : Str} {v : Value}
theorem get_map {expr : Bool} {Q : Value -> Shared -> Prop} (X : K.In s.heap) (I : ObjM s.heap x dx C mA) (hg : PySem.W.plainGet K C name = true) (hh : PySem.W.hasDictIn K C = true)
  (ha : PySem.W.findIn K (.ref C) name = some none) (hv : mA name = some v) (hv' : PySem.W.handedIn v = true) (h : Q v { s with toks := s.toks + 1 }) :
  wpAny (model prog w) A (getAttr (.ref x) name expr) Q E s := by
 obtain ⟨od, J, hl⟩ := I.look
 exact PySem.W.get_value X J (PySem.W.plainGet_of hg).1 (PySem.W.findObj_own hh ha rfl (by rw [hl, hv])) hv' h
theorem get_meth {pl : Sem Bool} {Q : Value × List Value -> Shared -> Prop} (X : K.In s.heap) (I : ObjM s.heap x dx C mA) (hg : PySem.W.plainGet K C name = true)
  (hf : PySem.W.findIn K (.ref C) name = some (some (.ref f))) (ht : PySem.W.isFn K (.ref f) = true) (hv : mA name = none) (h : Q (.ref f, [.ref x]) s) :
  wpAny (model prog w) A (getMethod (.ref x) name pl) Q E s := by
 obtain ⟨od, J, hl⟩ := I.look
 exact PySem.W.method_fn X J (PySem.W.plainGet_of hg).1 (PySem.W.plainGet_of hg).2 hf (beq_iff_eq.mp ht) (by show (PySem.W.lookIn name od).map (·.isSome) = some false; rw [hl, hv]; rfl) h
theorem set_map {ns : List Str} {Q : Unit -> Shared -> Prop} (X : K.In s.heap) (I : ObjM s.heap x dx C mA)
  (hs : PySem.W.findIn K (.ref C) "__setattr__" = some (some (.builtin "object.__setattr__"))) (hp : PySem.W.plainOver K C = true) (ht : PySem.W.takerIn K C name = some none) (hh : PySem.W.hasDictIn K C = true)
  (hw : PySem.Within mA ns) (hsz : ns.length <= sizeLine)
  (h : ∀ h', ObjM h' x dx C (fun y => if y = name then some v else mA y) -> Heap.SameBut dx s.heap h' -> Q () { s with heap := h', toks := s.toks + 2 }) :
  wpAny (model prog w) A (setAttr (.ref x) name v) Q E s := by
 obtain ⟨od, J, hl⟩ := I.look
 refine PySem.W.set_plain X J hs (PySem.W.osa_open (s := { s with toks := s.toks + 1 }) (r := none) X J hp ht fun b => ?_)
 obtain ⟨cd, hc, hd'⟩ := PySem.W.any_some hh
 have hx : s.heap.get? x = some ⟨.ref C, some dx, .plain, #[]⟩ := I.obj
 refine wpAny_bind (wpAny_pure (wpAny_bind (wpAny_bind (wpAny_loadPart hx (wpAny_bind (PySem.W.Looks.here (s := { s with toks := s.toks + 1 }) (PySem.W.looks_clsIn X hc) ?_))))))
 rw [hd']
 refine wpAny_pure (a := some dx) (wpAny_bind (wpAny_pure (wpAny_bind ?_)))
 refine wpAny_nsSet1 (s := { s with toks := s.toks + 1 }) I.ns fun h' hn2 hs2 => ?_
 obtain ⟨oD, esD, epD, hoD, hdD, hcD⟩ := hn2.count (PySem.Within.cons name v hw)
 refine wpAny_bind (wpAny_lookBehind hoD (by rw [hdD]; exact pastItsLine_dict (Nat.le_trans hcD (by rw [List.length_cons]; omega))) ?_)
 exact wpAny_pure (h _ ⟨(hs2.2 _ (Ne.symm I.ne)).trans I.obj, hn2, I.ne⟩ hs2)
theorem make_map {R : Result -> Shared -> Prop} {vs : List Value} {kw : List (Str × Value)} (X : K.In s.heap) (hm : PySem.W.makesIn K C = true)
  (hi : PySem.W.findIn K (.ref C) "__init__" = some (some (.ref f))) (hf : PySem.W.typeIn K (.ref f) = some (.type "function"))
  (h : codeAny (model prog w) (A.under (.builtin "type.__call__" ⟨.ref C :: vs, kw⟩)) (.call (.ref f) ⟨.ref (s.heap.objs.size + 1) :: vs, kw⟩) (PySem.W.InitBack (s.heap.objs.size + 1) R)
   { s with heap := (s.heap.push PySem.W.emptyDict).push (PySem.W.instObj C s.heap.objs.size) }) :
  codeAny (model prog w) A (.call (.ref C) ⟨vs, kw⟩) R s := by
 obtain ⟨hh, g, d, t, os⟩ := s
 exact PySem.W.make_core (PySem.W.makes_of X hm) (PySem.W.looks_findIn X hi) (fun self => PySem.W.bind_fn X self hf) (.inl rfl) h
end
def putF (f : Str) (v : V) : List (Str × V) -> List (Str × V)
  | [] => [(f, v)]
  | (g, x) :: r => if g = f then (g, v) :: r else (g, x) :: putF f v r
theorem lookup_putF (f g : Str) (v : V) : ∀ fs : List (Str × V), (putF f v fs).lookup g = if g = f then some v else fs.lookup g
  | [] => by
    show List.lookup g [(f, v)] = _
    by_cases h : g = f
    · have hb : (g == f) = true := beq_iff_eq.mpr h
      simp only [List.lookup, hb, if_pos h]
    · have hb : (g == f) = false := beq_eq_false_iff_ne.mpr h
      simp only [List.lookup, hb, if_neg h]
  | (k, x) :: r => by
    have ih := lookup_putF f g v r
    rw [show putF f v ((k, x) :: r) = (if k = f then (k, v) :: r else (k, x) :: putF f v r) from rfl]
    by_cases hk : k = f
    · rw [if_pos hk]
      by_cases h : g = k
      · have hb : (g == k) = true := beq_iff_eq.mpr h
        simp only [List.lookup, hb, if_pos (h.trans hk)]
      · have hb : (g == k) = false := beq_eq_false_iff_ne.mpr h
        simp only [List.lookup, hb, if_neg (fun e : g = f => h (e.trans hk.symm))]
    · rw [if_neg hk]
      by_cases h : g = k
      · have hb : (g == k) = true := beq_iff_eq.mpr h
        simp only [List.lookup, hb, if_neg (fun e : g = f => hk (h.symm.trans e))]
      · have hb : (g == k) = false := beq_eq_false_iff_ne.mpr h
        simp only [List.lookup, hb]
        exact ih
theorem keys_putF (f : Str) (v : V) : ∀ fs : List (Str × V), f ∈ (putF f v fs).map (·.1) /\ ∀ g, g ∈ fs.map (·.1) -> g ∈ (putF f v fs).map (·.1)
  | [] => ⟨by simp [putF], fun g h => by simp at h⟩
  | (k, x) :: r => by
    obtain ⟨i1, i2⟩ := keys_putF f v r
    rw [show putF f v ((k, x) :: r) = (if k = f then (k, v) :: r else (k, x) :: putF f v r) from rfl]
    by_cases hk : k = f
    · rw [if_pos hk]
      subst hk
      exact ⟨by simp, fun g h => by simpa using h⟩
    · rw [if_neg hk]
      refine ⟨?_, fun g h => ?_⟩
      · rw [List.map_cons]
        exact List.mem_cons_of_mem _ i1
      · rw [List.map_cons] at h ⊢
        rcases List.mem_cons.mp h with e | e
        · exact List.mem_cons.mpr (.inl e)
        · exact List.mem_cons_of_mem _ (i2 g e)
theorem length_putF (f : Str) (v : V) : ∀ fs : List (Str × V), (putF f v fs).length <= fs.length + 1
  | [] => by simp [putF]
  | (k, x) :: r => by
    have ih := length_putF f v r
    rw [show putF f v ((k, x) :: r) = (if k = f then (k, v) :: r else (k, x) :: putF f v r) from rfl]
    by_cases hk : k = f
    · rw [if_pos hk, List.length_cons, List.length_cons]; omega
    · rw [if_neg hk, List.length_cons, List.length_cons]; omega
theorem RelO.some_of {v : V} {o : Option Value} (r : RelO (some v) o) : ∃ u, o = some u /\ RelV v u := by
 cases o with
 | none => exact (show False from r).elim
 | some u => exact ⟨u, rfl, r⟩
theorem RelO.none_of {o : Option Value} (r : RelO none o) : o = none := by
 cases o with
 | none => rfl
 | some u => exact (show False from r).elim
theorem handed_of {v : V} {u : Value} (r : RelV v u) : PySem.W.handedIn u = true := by
 cases v with
 | non => cases (show u = Value.none from r); rfl
 | bl b => cases (show u = Value.bool b from r); rfl
 | int i => obtain ⟨t, e⟩ := (show ∃ t, u = Value.int i t from r); cases e; rfl
 | str x => obtain ⟨t, e⟩ := (show ∃ t, u = Value.str x t from r); cases e; rfl
 | byt b => obtain ⟨t, e⟩ := (show ∃ t, u = Value.bytes b t from r); cases e; rfl
 | flt b => obtain ⟨t, e⟩ := (show ∃ t, u = Value.float b t from r); cases e; rfl
 | ref a => cases (show u = Value.ref a from r); rfl
 | ty n => cases (show u = Value.type n from r); rfl
section
variable {P : Program} {w : World} {H H' : Hp} {h h' : Heap} {a C dx : Addr} {fs fs' : List (Str × V)}
theorem ins_get (hok : HOk P w H h) (e : H a = some (.ins C dx fs)) : ∃ mA, ObjM h a dx C mA /\ (∀ f, RelO (fs.lookup f) (mA f)) /\ PySem.Within mA (fs.map (·.1)) /\ fs.length <= 1000 /\ H dx = some (.own a) := by
 obtain ⟨d, z, ne, ob, mA, n, r, q⟩ := (show ObjOk P w H h a (.ins C dx fs) from hok a _ e)
 exact ⟨mA, ⟨ob, n, ne⟩, r, q, z, d⟩
end
structure Cls (K : PySem.W.Frag) (C : Addr) : Prop where
 pg : PySem.W.plainGet K C Str.empty = true
 hd : PySem.W.hasDictIn K C = true
 po : PySem.W.plainOver K C = true
 sa : PySem.W.findIn K (.ref C) "__setattr__" = some (some (.builtin "object.__setattr__"))
theorem Cls.get {K : PySem.W.Frag} {C : Addr} (c : Cls K C) (f : Str) : PySem.W.plainGet K C f = true := c.pg
def NoAttr (K : PySem.W.Frag) (C : Addr) (f : Str) : Prop := PySem.W.findIn K (.ref C) f = some none
theorem NoAttr.taker {K : PySem.W.Frag} {C : Addr} {f : Str} (n : NoAttr K C f) : PySem.W.takerIn K C f = some none := by
 unfold PySem.W.takerIn
 rw [show PySem.W.findIn K (.ref C) f = some none from n]
 rfl
structure Con (K : PySem.W.Frag) (C : Addr) (f : Str) (v : V) (u : Value) : Prop where
 at_ : PySem.W.findIn K (.ref C) f = some (some u)
 rel : RelV v u
 get : PySem.W.specialIn K u "__get__" = some none
 cp : PySem.W.copiedNames.contains f = false
structure Meth (K : PySem.W.Frag) (C : Addr) (m : Str) (f : Addr) : Prop where
 at_ : PySem.W.findIn K (.ref C) m = some (some (.ref f))
 fn : PySem.W.isFn K (.ref f) = true
 kp : PySem.W.keepIn K (.ref f) = true
section
variable {X : Cx} {pins : List (Addr × Obj)} {σ : St} {H : Hp} {s : Shared} {a C dx : Addr} {fs : List (Str × V)} {f : Str} {v : V} {A : Around} {E : Value -> Shared -> Prop}
theorem getattr_ok {b : Bool} {Q : Value -> Shared -> Prop} (I : Inv X pins σ H s) (e : H a = some (.ins C dx fs)) (c : Cls X.K C) (n : NoAttr X.K C f) (l : fs.lookup f = some v)
  (h : ∀ u s', Inv X pins σ H s' -> RelV v u -> Q u s') : wpAny (model X.prog X.w) A (getAttr (.ref a) f b) Q E s := by
 obtain ⟨mA, O, r, _, _, _⟩ := ins_get I.hok e
 obtain ⟨u, hu, ru⟩ := RelO.some_of (v := v) (o := mA f) (by rw [<- l]; exact r f)
 exact get_map I.kIn O (c.get f) c.hd n hu (handed_of ru) (h u _ (I.tok _) ru)
theorem getmeth_ok {m : Str} {g : Addr} {pl : Sem Bool} {Q : Value × List Value -> Shared -> Prop} (I : Inv X pins σ H s) (e : H a = some (.ins C dx fs)) (c : Cls X.K C) (k : Meth X.K C m g) (l : fs.lookup m = none)
  (h : Q (.ref g, [.ref a]) s) : wpAny (model X.prog X.w) A (getMethod (.ref a) m pl) Q E s := by
 obtain ⟨mA, O, r, _, _, _⟩ := ins_get I.hok e
 have hn : mA m = none := RelO.none_of (by rw [<- l]; exact r m)
 exact get_meth I.kIn O (c.get m) k.at_ k.fn hn h
theorem setattr_ok {y : V} {u : Value} {Q : Unit -> Shared -> Prop} (I : Inv X pins σ H s) (e : H a = some (.ins C dx fs)) (c : Cls X.K C) (n : NoAttr X.K C f) (hl : fs.length < 1000) (ry : RelV y u)
  (h : ∀ s', Inv X pins σ (upd H a (.ins C dx (putF f y fs))) s' -> Q () s') : wpAny (model X.prog X.w) A (setAttr (.ref a) f u) Q E s := by
 obtain ⟨mA, O, r, wi, _, ho⟩ := ins_get I.hok e
 have hz : (fs.map (·.1)).length <= sizeLine := by rw [List.length_map, sizeLine_eq]; omega
 refine set_map I.kIn O c.sa c.po n.taker c.hd wi hz fun h' O' sb => h _ ?_
 have hd : ∃ o, h'.get? dx = some o := let ⟨o, _, _, e', _⟩ := O'.ns; ⟨o, e'⟩
 refine I.write (x := a) (e := dx) (by rw [e]; exact True.intro) (.inr ho) (fun b q hb z => (sb.2 b hb).trans z) hd ?_
 refine ⟨by rw [upd_ne O.ne]; exact ho, ?_, O.ne, O'.obj, _, O'.ns, fun g => ?_, fun g hg => ?_⟩
 ·have := length_putF f y fs; omega
 ·show RelO ((putF f y fs).lookup g) (if g = f then some u else mA g)
  rw [lookup_putF]
  by_cases q : g = f
  ·rw [if_pos q, if_pos q]; exact ry
  ·rw [if_neg q, if_neg q]; exact r g
 ·by_cases q : g = f
  ·rw [q]; exact (keys_putF f y fs).1
  ·refine (keys_putF f y fs).2 g (wi g fun z => hg ?_)
   show (if g = f then some u else mA g) = none
   rw [if_neg q]; exact z
theorem Inv.made (I : Inv X pins σ H s) : Inv X pins σ (upd (upd H s.heap.objs.size (.own (s.heap.objs.size + 1))) (s.heap.objs.size + 1) (.ins C s.heap.objs.size []))
  { s with heap := (s.heap.push PySem.W.emptyDict).push (PySem.W.instObj C s.heap.objs.size) } := by
 have e1 : (s.heap.push PySem.W.emptyDict).get? s.heap.objs.size = some PySem.W.emptyDict := Heap.get?_push_size s.heap rfl
 have e2 : ((s.heap.push PySem.W.emptyDict).push (PySem.W.instObj C s.heap.objs.size)).get? (s.heap.objs.size + 1) = some (PySem.W.instObj C s.heap.objs.size) := by
  have := Heap.get?_push_size (s.heap.push PySem.W.emptyDict) (o := PySem.W.instObj C s.heap.objs.size) rfl
  rwa [Heap.size_push] at this
 have e3 : (s.heap.push PySem.W.emptyDict).Ns s.heap.objs.size (fun _ => none) := ⟨PySem.W.emptyDict, #[], _, e1, rfl, (fun e he => absurd he (by simp)), fun _ => rfl⟩
 have I1 := I.laid (a := s.heap.objs.size) (o := .own (s.heap.objs.size + 1)) (h' := s.heap.push PySem.W.emptyDict) (t' := s.toks) (fun b u q => Heap.get?_push_of_some _ q) (Nat.le_refl _) ⟨_, e1⟩
 refine I1.laid (a := s.heap.objs.size + 1) (o := .ins C s.heap.objs.size []) (t' := s.toks) (fun b u q => Heap.get?_push_of_some _ q) (Nat.le_of_eq (Heap.size_push _ _)) ?_
 have ne : s.heap.objs.size ≠ s.heap.objs.size + 1 := Nat.ne_of_lt (Nat.lt_succ_self _)
 refine ⟨by rw [upd_ne ne, upd_same], Nat.zero_le _, ne, e2, fun _ => none, (Heap.Ns1.of_empty e3).at fun o q => Heap.get?_push_of_some _ q, fun _ => True.intro, fun y hy => absurd rfl hy⟩
theorem attr_of {prog : Program} {w : World} {env : Env} {e : Expr} {f : Str} {pos : Pos} {s : Shared} {Q : Value -> Shared -> Prop} (hb : attributeBase e f env (eval e env) = eval e env)
  (h : wpAny (model prog w) A (eval e env) (fun o s₁ => wpAny (model prog w) A (getAttr o f true) Q E s₁) E s) : wpAny (model prog w) A (eval (.Attribute e f pos) env) Q E s :=
 Attribute_any_ h (by rw [arm_eval_Attribute, hb])
end
def tFld (K : PySem.W.Frag) (ta : TE) (f : Str) : TE := fun σ H Q => ta σ H fun x H1 => ∃ a C dx fs v, x = .ref a /\ H1 a = some (.ins C dx fs) /\ Cls K C /\ NoAttr K C f /\ fs.lookup f = some v /\ Q v H1
def sFld (K : PySem.W.Frag) (ta tv : TE) (f : Str) : TS := fun D σ H => tv σ H fun y H1 => ta σ H1 fun x H2 => ∃ a C dx fs, x = .ref a /\ H2 a = some (.ins C dx fs) /\ Cls K C /\ NoAttr K C f /\ fs.length < 1000 /\
 D.nx σ (upd H2 a (.ins C dx (putF f y fs)))
def InOp (X : Cx) (op : Operator) (rd : V -> V -> Hp -> VK -> Prop) : Prop :=
 ∀ (pins : List (Addr × Obj)) (s : Shared) (σ : St) (H : Hp) (x y : V) (u v : Value) (Q : VK), Inv X pins σ H s -> RelV x u -> RelV y v -> rd x y H Q -> wpAny (model X.prog X.w) X.A (inplaceOp op u v) (EP X pins σ Q) X.xe s
def sFldAug (K : PySem.W.Frag) (ta tv : TE) (rd : V -> V -> Hp -> VK -> Prop) (f : Str) : TS := fun D σ H => ta σ H fun x H1 => ∃ a C dx fs v, x = .ref a /\ H1 a = some (.ins C dx fs) /\ Cls K C /\ NoAttr K C f /\ fs.lookup f = some v /\
 tv σ H1 fun y H2 => rd v y H2 fun z H3 => ∃ dx' fs', H3 a = some (.ins C dx' fs') /\ fs'.length < 1000 /\ D.nx σ (upd H3 a (.ins C dx' (putF f z fs')))
section
variable {X : Cx} {o e value : Expr} {f : Str} {pos pos' tpos : Pos} {ta tv : TE}
theorem pe_fld (he : PE X e ta) (hb : attributeBase e f X.env (eval e X.env) = eval e X.env) : PE X (.Attribute e f pos) (tFld X.K ta f) := by
 intro pins s σ H Q I h
 refine attr_of hb (thn (he pins s σ H _ I h) fun u s1 ⟨x, H1, I1, rx, a, C, dx, fs, v, ex, ea, c, n, l, q⟩ => ?_)
 subst ex
 obtain rfl : u = Value.ref a := rx
 exact getattr_ok I1 ea c n l fun u' s2 I2 ru => ⟨v, H1, I2, ru, q⟩
theorem ps_fld (ha : PE X o ta) (hv : PE X value tv) (hs : swapsWith value (some (.Attribute o f pos')) pos.line X.env = pure false) : PS X (.Assign [.Attribute o f pos'] value pos) (sFld X.K ta tv f) := by
 intro pins s σ H D I h
 refine plainObj_wpAny_Assign_Attribute (thn (hv pins s σ H _ I h) fun u s1 ⟨y, H1, I1, ry, q⟩ => thn (ha pins s1 σ H1 _ I1 q) fun ov s2 ⟨x, H2, I2, rx, a, C, dx, fs, ex, ea, c, n, l, q2⟩ => ?_) hs
 subst ex
 obtain rfl : ov = Value.ref a := rx
 exact setattr_ok I2 ea c n l ry fun s3 I3 => ⟨σ, _, I3, q2⟩
theorem ps_fldaug {op : Operator} {rd : V -> V -> Hp -> VK -> Prop} (ha : PE X o ta) (hv : PE X value tv) (hop : InOp X op rd) : PS X (.AugAssign (.Attribute o f tpos) op value pos) (sFldAug X.K ta tv rd f) := by
 intro pins s σ H D I h
 refine wpAny_AugAssign_AttributeAny (thn (ha pins s σ H _ I h) fun ov s1 ⟨x, H1, I1, rx, a, C, dx, fs, v, ex, ea, c, n, l, q⟩ => ?_)
 subst ex
 obtain rfl : ov = Value.ref a := rx
 refine getattr_ok I1 ea c n l fun u s2 I2 ru => thn (hv pins s2 σ H1 _ I2 q) fun w3 s3 ⟨y, H2, I3, ry, q3⟩ => thn (hop pins s3 σ H2 v y u w3 _ I3 ru ry q3) fun w4 s4 ⟨z, H3, I4, rz, dx', fs', ea', l', q4⟩ => ?_
 exact setattr_ok I4 ea' c n l' rz fun s5 I5 => ⟨σ, _, I5, q4⟩
def rAdd : V -> V -> Hp -> VK -> Prop := fun x y H Q => ∃ i j, x = .int i /\ y = .int j /\ Q (.int (i + j)) H
theorem in_add : InOp X .Add rAdd := by
 rintro pins s σ H x y u v Q I rx ry ⟨i, j, rfl, rfl, q⟩
 obtain ⟨t, rfl⟩ := (show ∃ t, u = Value.int i t from rx)
 obtain ⟨t', rfl⟩ := (show ∃ t', v = Value.int j t' from ry)
 exact PyProof.Rows.iadd_int ⟨.int (i + j), H, I.tok _, ⟨_, rfl⟩, q⟩
end
section
variable {X : Cx} {pins : List (Addr × Obj)} {σ : St} {H : Hp} {s : Shared} {A : Around} {E : Value -> Shared -> Prop} {Q : Value -> Shared -> Prop} {c : Value} {b : Bool}
inductive TyOf (K : PySem.W.Frag) (H : Hp) : V -> Value -> Prop where
 | non : TyOf K H .non (.type "NoneType")
 | bl (x : Bool) : TyOf K H (.bl x) (.type "bool")
 | int (i : Int) : TyOf K H (.int i) (.type "int")
 | str (x : Str) : TyOf K H (.str x) (.type "str")
 | flt (x : UInt64) : TyOf K H (.flt x) (.type "float")
 | lst {a : Addr} {xs : List V} (e : H a = some (.lst xs)) : TyOf K H (.ref a) (.type "list")
 | frz {a : Addr} {o : Obj} {xs : List V} (e : H a = some (.frz o (.lst xs))) : TyOf K H (.ref a) (.type "list")
 | tup {a : Addr} {xs : List V} (e : H a = some (.tup xs)) : TyOf K H (.ref a) (.type "tuple")
 | dK {a : Addr} {kvs : List (Key × V)} (e : H a = some (.dK kvs)) : TyOf K H (.ref a) (.type "dict")
 | dT {a : Addr} {kvs : List (List Key × V)} (e : H a = some (.dT kvs)) : TyOf K H (.ref a) (.type "dict")
 | ins {a C dx : Addr} {fs : List (Str × V)} (e : H a = some (.ins C dx fs)) (cl : Cls K C) (ha : PySem.W.findIn K (.ref C) "__class__" = some (some (.builtin "object.__class__")))
   (hn : PySem.W.specialIn K (.builtin "object.__class__") "__get__" = some (some (.builtin "getset_descriptor.__get__"))) (htk : PySem.W.takesIn K (.builtin "object.__class__") = some true)
   (hm : PySem.W.mroIn K C (.type "object") = some true) : TyOf K H (.ref a) (.ref C)
theorem isinst_ok {x : V} {u t : Value} (I : Inv X pins σ H s) (rx : RelV x u) (ty : TyOf X.K H x t) (e : PySem.W.kitOne X.K t c = some b) (h : ∀ tk, Q (.bool b) { s with toks := tk }) :
  wpAny (model X.prog X.w) A (call (.builtin "isinstance") [u, c]) Q E s := by
 cases ty with
 | non => cases (show u = Value.none from rx); exact PySem.W.kia_one PySem.W.kitx_none I.kIn True.intro e (fun z => nomatch z) h
 | bl y => cases (show u = Value.bool y from rx); exact PySem.W.kia_one PySem.W.kitx_bool I.kIn True.intro e (fun z => nomatch z) h
 | int i => obtain ⟨t, q⟩ := (show ∃ t, u = Value.int i t from rx); cases q; exact PySem.W.kia_one PySem.W.kitx_int I.kIn True.intro e (fun z => nomatch z) h
 | str y => obtain ⟨t, q⟩ := (show ∃ t, u = Value.str y t from rx); cases q; exact PySem.W.kia_one PySem.W.kitx_str I.kIn True.intro e (fun z => nomatch z) h
 | flt y => obtain ⟨t, q⟩ := (show ∃ t, u = Value.float y t from rx); cases q; exact PySem.W.kia_one PySem.W.kitx_float I.kIn True.intro e (fun z => nomatch z) h
 | @lst a xs ea =>
  cases (show u = Value.ref a from rx)
  obtain ⟨_, _, n, _, h1⟩ := (show ObjOk X.prog X.w H s.heap a (.lst xs) from I.hok a _ ea)
  exact PySem.W.kia_one PySem.W.kitx_list I.kIn ⟨_, h1, rfl⟩ e (fun z => nomatch z) h
 | @frz a ob xs ea =>
  cases (show u = Value.ref a from rx)
  obtain ⟨_, _, _, n, _, h1⟩ := (show ObjOk X.prog X.w H s.heap a (.frz ob (.lst xs)) from I.hok a _ ea)
  exact PySem.W.kia_one PySem.W.kitx_list I.kIn ⟨_, h1, rfl⟩ e (fun z => nomatch z) h
 | @tup a xs ea =>
  cases (show u = Value.ref a from rx)
  obtain ⟨_, _, _, p⟩ := (show ObjOk X.prog X.w H s.heap a (.tup xs) from I.hok a _ ea)
  obtain ⟨o, h1, h2, _⟩ := p
  exact PySem.W.kia_one PySem.W.kitx_tuple I.kIn ⟨o, h1, h2⟩ e (fun z => nomatch z) h
 | @dK a kvs ea =>
  cases (show u = Value.ref a from rx)
  obtain ⟨_, _, vs, _, p⟩ := (show ObjOk X.prog X.w H s.heap a (.dK kvs) from I.hok a _ ea)
  obtain ⟨o, es, ep, h1, h2, _⟩ := p
  exact PySem.W.kia_one PySem.W.kitx_dict I.kIn ⟨o, h1, h2.1⟩ e (fun z => nomatch z) h
 | @dT a kvs ea =>
  cases (show u = Value.ref a from rx)
  obtain ⟨_, _, xs, _, o, es, ep, h1, h2, _⟩ := (show ObjOk X.prog X.w H s.heap a (.dT kvs) from I.hok a _ ea)
  exact PySem.W.kia_one PySem.W.kitx_dict I.kIn ⟨o, h1, h2.1⟩ e (fun z => nomatch z) h
 | @ins a C dx fs ea cl ha hn htk hm =>
  cases (show u = Value.ref a from rx)
  obtain ⟨mA, O, _⟩ := ins_get I.hok ea
  obtain ⟨od, J, _⟩ := O.look
  exact PySem.W.kia_one (PySem.W.kitx_own (cl.get _) cl.hd ha hn htk hm) I.kIn J e (fun z => nomatch z) h
end
end L2
namespace L2
open PySem PySem.Spec PyProof.Rows
structure Room (k : Nat) (A : Around) : Prop where
 hd : A.handled = none
 dp : A.depth + 3 * k + 5 < recursionLimit
 un : A.units + 16 * k + 200 < cLine
 gd : A.guards = some []
theorem Room.mono {j k : Nat} {A : Around} (r : Room k A) (h : j <= k) : Room j A := ⟨r.hd, by have := r.dp; omega, by have := r.un; omega, r.gd⟩
theorem Room.deeper {k : Nat} {A : Around} (r : Room (k + 1) A) (env : Env) : Room k (A.deeper env) :=
 ⟨r.hd, by have := r.dp; show A.depth + 1 + 3 * k + 5 < _; omega, by have := r.un; show A.units + 3 + 16 * k + 200 < _; omega, r.gd⟩
theorem Room.in1 {k : Nat} {A : Around} (r : Room (k + 1) A) : Room k A.in1 :=
 ⟨r.hd, by have := r.dp; show A.depth + 3 * k + 5 < _; omega, by have := r.un; show A.units + 1 + 16 * k + 200 < _; omega, r.gd⟩
theorem make_depth {A : Around} {C : Addr} {us : List Value} {kw : List (Str × Value)} : (A.under (.builtin "type.__call__" ⟨.ref C :: us, kw⟩)).depth = A.depth + 1 := by
 first | rfl | simp [Around.under, Code.weight, Code.isCreation, Code.isGuard, Code.isCaller, Code.frames, Code.isFrame, guardIds]
theorem make_units {A : Around} {C : Addr} {us : List Value} {kw : List (Str × Value)} : (A.under (.builtin "type.__call__" ⟨.ref C :: us, kw⟩)).units = A.units + 1 := by
 first | rfl | simp [Around.under, Code.cUnits, Code.frames, Code.isFrame]
theorem make_guards {A : Around} {C : Addr} {us : List Value} {kw : List (Str × Value)} : (A.under (.builtin "type.__call__" ⟨.ref C :: us, kw⟩)).guards = A.guards := by
 cases h : A.guards with
 | none => simp [Around.under, Code.guards, Code.isGuard, guardIds, pushGuards, h]
 | some l => simp [Around.under, Code.guards, Code.isGuard, guardIds, pushGuards, h]
theorem Room.make {k : Nat} {A : Around} (r : Room (k + 1) A) (C : Addr) (us : List Value) (kw : List (Str × Value)) : Room k (A.under (.builtin "type.__call__" ⟨.ref C :: us, kw⟩)) :=
 ⟨r.hd, by have := r.dp; rw [make_depth]; omega, by have := r.un; rw [make_units]; omega, by rw [make_guards]; exact r.gd⟩
theorem Room.depth {k : Nat} {A : Around} (r : Room k A) : A.depth < recursionLimit := by have := r.dp; omega
theorem Room.units {k : Nat} {A : Around} (r : Room k A) : A.units + 64 < cLine := by have := r.un; omega
def tNil : TA := fun _ H Q => Q [] H
def tCons (ta : TE) (tr : TA) : TA := fun σ H Q => ta σ H fun x H1 => tr σ H1 fun xs H2 => Q (x :: xs) H2
section
variable {X : Cx} {e : Expr} {es : List Expr} {te : TE} {t : TA} {pos : Pos}
theorem pa_nil : PA X [] tNil := fun _ _ _ _ H Q I h => Calls.spliced_nil ⟨[], H, I, .nil, h⟩
theorem pa_cons (ha : PE X e te) (hr : PA X es t) (hs : starEach (e :: es) X.env = (false, eval e X.env) :: starEach es X.env := by rfl) : PA X (e :: es) (tCons te t) := by
 intro pos pins s σ H Q I h
 rw [hs]
 show wpAny _ _ (spliced ((false, eval e X.env) :: backTo pos (starEach es X.env))) _ _ s
 refine Calls.spliced_cons (thn (ha pins s σ H _ I h) fun u s1 ⟨x, H1, I1, r1, q1⟩ => ?_)
 exact thn (hr pos pins s1 σ H1 _ I1 q1) fun us s2 ⟨xs, H2, I2, r2, q2⟩ => ⟨x :: xs, H2, I2, .cons r1 r2, q2⟩
def tTup (t : TA) : TE := fun σ H Q => t σ H fun xs H1 => xs.length <= sizeLine /\ ∀ p, H1 p = none -> Q (.ref p) (upd H1 p (.tup xs))
def tLst (t : TA) : TE := fun σ H Q => t σ H fun xs H1 => xs.length <= sizeLine /\ ∀ p, H1 p = none -> Q (.ref p) (upd H1 p (.lst xs))
theorem pe_tup {x1} (h : PA X es t) : PE X (.Tuple es x1 pos) (tTup t) := by
 intro pins s σ H Q I hq
 refine wpAny_Tuple_spliced (thn (h pos pins s σ H _ I hq) fun us s1 ⟨xs, H1, I1, r, z, q⟩ => ⟨by rw [<- r.length]; exact z, ?_⟩)
 have hf : H1 s1.heap.objs.size = none := I1.hok.fresh (Nat.le_refl _)
 refine ⟨.ref s1.heap.objs.size, upd H1 s1.heap.objs.size (.tup xs), I1.laid (t' := s1.toks) (fun b u e => Heap.get?_push_of_some _ e) (Nat.le_refl _) ?_, rfl, q _ hf⟩
 exact ⟨z, us, r, ⟨_, Heap.get?_push_size _ rfl, rfl, _, rfl⟩⟩
theorem pe_lst (h : PA X es t) : PE X (.List es pos) (tLst t) := by
 intro pins s σ H Q I hq
 refine wpAny_List_spliced (thn (h pos pins s σ H _ I hq) fun us s1 ⟨xs, H1, I1, r, z, q⟩ => ⟨by rw [<- r.length]; exact z, ?_⟩)
 have hf : H1 s1.heap.objs.size = none := I1.hok.fresh (Nat.le_refl _)
 refine ⟨.ref s1.heap.objs.size, upd H1 s1.heap.objs.size (.lst xs), I1.laid (t' := s1.toks) (fun b u e => Heap.get?_push_of_some _ e) (Nat.le_refl _) ?_, rfl, q _ hf⟩
 exact ⟨z, us, 0, r, Heap.get?_push_size _ rfl⟩
end
abbrev Sp := List V -> Hp -> VK -> XK -> Prop
abbrev CXT := List Env -> Hp -> Shared -> XK -> Value -> Shared -> Prop
structure Env0 (P : Program) (w : World) (K : PySem.W.Frag) (mg : Str -> Option Value) (base : Heap) (A : Around) (outer : List Env) (s : Shared) (H : Hp) : Prop where
 frames : A.frames = some outer
 mod : Mod K mg base
 bs : ∀ b o, base.get? b = some o -> s.heap.get? b = some o /\ H b = none
 bsz : base.objs.size <= s.heap.objs.size
 funs : s.heap.FunFrames base outer
 frf : ∀ b ∈ frs outer, H b = none
 hok : HOk P w H s.heap
 bare : AllBare s.gens
def CE (outer : List Env) (P : Program) (w : World) (H : Hp) (s : Shared) (Q : VK) (u : Value) (s' : Shared) : Prop :=
 ∃ v H', s'.os = s.os /\ AllBare s'.gens /\ Un (frs outer) [] H H' s.heap s'.heap /\ HOk P w H' s'.heap /\ RelV v u /\ Q v H'
def CR (CX : CXT) (outer : List Env) (P : Program) (w : World) (H : Hp) (s : Shared) (Q : VK) (E : XK) (r : Result) (s' : Shared) : Prop :=
 match r with
 | .ok (.ret u) => CE outer P w H s Q u s'
 | .ok _ => False
 | .error e => CX outer H s E e s'
structure FnOk (P : Program) (w : World) (K : PySem.W.Frag) (mg : Str -> Option Value) (base : Heap) (CX : CXT) (k : Nat) (f : Addr) (fd : FuncData) (ps : List Str) (sp : Sp) : Prop where
 len : ∀ vs H Q E, sp vs H Q E -> vs.length = ps.length
 run : ∀ (A : Around) (outer : List Env) (s : Shared) (H : Hp) (args : Args) (us : List Value) (vs : List V) (Q : VK) (E : XK), Room k A -> Env0 P w K mg base A outer s H -> BindsTo s fd args (ps.zip us) -> Vals vs us -> sp vs H Q E ->
  codeAny (model P w) A (.call (.ref f) args) (CR CX outer P w H s Q E) s
theorem FnOk.mono {P : Program} {w : World} {K : PySem.W.Frag} {mg : Str -> Option Value} {base : Heap} {CX : CXT} {j k : Nat} {f : Addr} {fd : FuncData} {ps : List Str} {sp : Sp} (F : FnOk P w K mg base CX j f fd ps sp) (h : j <= k) :
  FnOk P w K mg base CX k f fd ps sp := ⟨F.len, fun A outer s H args us vs Q E hr => F.run A outer s H args us vs Q E (hr.mono h)⟩
theorem FnOk.imp {P : Program} {w : World} {K : PySem.W.Frag} {mg : Str -> Option Value} {base : Heap} {CX : CXT} {k : Nat} {f : Addr} {fd : FuncData} {ps : List Str} {sp sp' : Sp} (F : FnOk P w K mg base CX k f fd ps sp)
  (h : ∀ vs H Q E, sp' vs H Q E -> sp vs H Q E) : FnOk P w K mg base CX k f fd ps sp' :=
 ⟨fun vs H Q E q => F.len vs H Q E (h _ _ _ _ q), fun A outer s H args us vs Q E hr he hb hv hs => F.run A outer s H args us vs Q E hr he hb hv (h _ _ _ _ hs)⟩
theorem Env0.make {P : Program} {w : World} {K : PySem.W.Frag} {mg : Str -> Option Value} {base : Heap} {A : Around} {outer : List Env} {s : Shared} {H : Hp} (e : Env0 P w K mg base A outer s H) (C : Addr) (us : List Value) (kw : List (Str × Value)) :
  Env0 P w K mg base (A.under (.builtin "type.__call__" ⟨.ref C :: us, kw⟩)) outer s H := ⟨by first | exact e.frames | (simpa [Around.under, Code.envs, Code.isFrame, pushEnvs] using e.frames), e.mod, e.bs, e.bsz, e.funs, e.frf, e.hok, e.bare⟩
theorem Env0.in1 {P : Program} {w : World} {K : PySem.W.Frag} {mg : Str -> Option Value} {base : Heap} {A : Around} {outer : List Env} {s : Shared} {H : Hp} (e : Env0 P w K mg base A outer s H) :
  Env0 P w K mg base A.in1 outer s H := ⟨e.frames, e.mod, e.bs, e.bsz, e.funs, e.frf, e.hok, e.bare⟩
section
variable {X : Cx} {pins : List (Addr × Obj)} {σ : St} {H : Hp} {s s' : Shared}
theorem Inv.env0 (I : Inv X pins σ H s) : Env0 X.prog X.w X.K X.mg X.base X.A X.stack s H :=
 ⟨I.ok.frames, I.ok.mod, I.bs, Nat.le_trans I.ok.bsz I.sz, I.stack, I.stkFree, I.hok, I.bare⟩
theorem Inv.after {Q : VK} {u : Value} (I : Inv X pins σ H s) (h : CE X.stack X.prog X.w H s Q u s') : EP X pins σ Q u s' := by
 obtain ⟨v, H', os, bare, un, hok, r, q⟩ := h
 obtain ⟨hh, g, d, t, os'⟩ := s'
 obtain rfl : os' = s.os := os
 exact ⟨v, H', I.call (h' := hh) (g' := g) (d' := d) (t' := t) (ch := []) un hok bare (fun b z => absurd z (by simp)), r, q⟩
end
def tCall (sp : Sp) (dvs : List V) (E : XK) (t : TA) : TE := fun σ H Q => t σ H fun vs H1 => sp (vs ++ dvs) H1 Q E
def tMeth (C : Addr) (m : Str) (sp : Sp) (dvs : List V) (E : XK) (ta : TE) (t : TA) : TE := fun σ H Q => ta σ H fun x H1 => ∃ a dx fs, x = .ref a /\ H1 a = some (.ins C dx fs) /\ fs.lookup m = none /\
 t σ H1 fun vs H2 => sp (x :: (vs ++ dvs)) H2 Q E
def tMake (C : Addr) (sp : Sp) (dvs : List V) (E : XK) (t : TA) : TE := fun σ H Q => t σ H fun vs H1 => ∀ x dx, H1 x = none -> H1 dx = none -> dx ≠ x ->
 sp (.ref x :: (vs ++ dvs)) (upd (upd H1 dx (.own x)) x (.ins C dx [])) (fun v H2 => v = .non /\ Q (.ref x) H2) E
def Binds (K : PySem.W.Frag) (fd : FuncData) (ps : List Str) (ds : List Value) : Prop :=
 ∀ (s : Shared) (us : List Value), K.In s.heap -> (us ++ ds).length = ps.length -> BindsTo s fd ⟨us, []⟩ (ps.zip (us ++ ds))
theorem Binds.all {K : PySem.W.Frag} {fd : FuncData} {ps : List Str} (h : ∀ us : List Value, us.length = ps.length -> bindArgs fd ⟨us, []⟩ = pure (ps.zip us)) : Binds K fd ps [] := fun s us _ hl => by
 rw [List.append_nil] at hl ⊢
 exact .of_eq (h us hl)
def Passes (CX : CXT) (X : Cx) (E : XK) : Prop := ∀ (pins : List (Addr × Obj)) (σ : St) (H : Hp) (s : Shared) (e : Value) (s' : Shared), Inv X pins σ H s -> CX X.stack H s E e s' -> X.xe e s'
section
variable {X : Cx} {CX : CXT} {k : Nat} {f C : Addr} {fd : FuncData} {ps : List Str} {sp : Sp} {dvs : List V} {ds : List Value} {E : XK} {x m : Str} {p pos apos : Pos} {e o : Expr} {es : List Expr} {ta : TE} {t : TA}
theorem run_fn {pins : List (Addr × Obj)} {σ : St} {H : Hp} {s : Shared} {Q : VK} {us : List Value} {vs : List V} (F : FnOk X.prog X.w X.K X.mg X.base CX k f fd ps sp) (hr : Room k X.A) (hb : Binds X.K fd ps ds) (hd : Vals dvs ds) (hx : Passes CX X E)
  (I : Inv X pins σ H s) (r : Vals vs us) (h : sp (vs ++ dvs) H Q E) : wpAny (model X.prog X.w) X.A (call (.ref f) us) (EP X pins σ Q) X.xe s := by
 have r2 : Vals (vs ++ dvs) (us ++ ds) := r.append hd
 have hl : (us ++ ds).length = ps.length := by rw [<- r2.length]; exact F.len _ _ _ _ h
 refine wpAny_call (codeAny_mono (F.run X.A X.stack s H ⟨us, []⟩ (us ++ ds) (vs ++ dvs) Q E hr I.env0 (hb s us I.kIn hl) r2 h) fun r s' hq => ?_)
 cases r with
 | error e => exact hx pins σ H s e s' I hq
 | ok fl =>
  cases fl with
  | ret u => exact I.after hq
  | next => exact False.elim hq
  | brk => exact False.elim hq
  | cont => exact False.elim hq
theorem pe_call (F : FnOk X.prog X.w X.K X.mg X.base CX k f fd ps sp) (hr : Room k X.A) (hg : Gl X x) (hm : X.mg x = some (.ref f)) (hk : PySem.W.keepIn X.K (.ref f) = true) (hb : Binds X.K fd ps ds) (hd : Vals dvs ds) (hx : Passes CX X E)
  (ha : PA X (e :: es) t) (hdb : (x == ("__debug__" : Str)) = false := by decide) (he : starEach (e :: es) X.env = (false, eval e X.env) :: starEach es X.env := by rfl) (hpl : (backTo pos (starEach es X.env)).any (·.1) = false := by rfl) :
  PE X (.Call (.Name x p) (e :: es) [] pos) (tCall sp dvs E t) := by
 intro pins s σ H Q I h
 refine wpAny_Call_Name_kw (ld_glob I hg hm ?_ hdb)
 refine PySem.W.callWith_K (h₀ := X.base) I.ok.mod.kin hk (thn (ha pos pins s σ H _ I h) fun us s1 ⟨vs, H1, I1, r, q⟩ => ⟨I1.kIn, ?_⟩) he hpl
 exact run_fn F hr hb hd hx I1 r q
theorem pe_call0 (F : FnOk X.prog X.w X.K X.mg X.base CX k f fd ps sp) (hr : Room k X.A) (hg : Gl X x) (hm : X.mg x = some (.ref f)) (hk : PySem.W.keepIn X.K (.ref f) = true) (hb : Binds X.K fd ps ds) (hd : Vals dvs ds) (hx : Passes CX X E)
  (hdb : (x == ("__debug__" : Str)) = false := by decide) : PE X (.Call (.Name x p) [] [] pos) (tCall sp dvs E tNil) := by
 intro pins s σ H Q I h
 refine wpAny_Call_Name_kw (ld_glob I hg hm ?_ hdb)
 exact PySem.W.callWith_K0 I.kIn hk (run_fn (us := []) F hr hb hd hx I .nil h)
theorem pe_meth {pl : Sem Bool} (he : PE X o ta) (c : Cls X.K C) (hm : Meth X.K C m f) (F : FnOk X.prog X.w X.K X.mg X.base CX k f fd ps sp) (hr : Room k X.A) (hb : Binds X.K fd ps ds) (hd : Vals dvs ds) (hx : Passes CX X E) (ha : PA X (e :: es) t)
  (hst : starEach (e :: es) X.env = (false, eval e X.env) :: starEach es X.env := by rfl) (hpl : (backTo pos (starEach es X.env)).any (·.1) = false := by rfl)
  (ht : eval (.Call (.Attribute o m apos) (e :: es) [] pos) X.env = (do
   let ov <- eval o X.env
   standAt apos.atName
   let (f, first) <- holding [ov] (getMethod ov m pl)
   callWith pos f first (backTo pos (starEach (e :: es) X.env)) (backToKw pos (keywordEach [] X.env))) := by rfl) :
  PE X (.Call (.Attribute o m apos) (e :: es) [] pos) (tMeth C m sp dvs E ta t) := by
 intro pins s σ H Q I h
 refine PySem.W.methodCall_KW (pl := pl) (thn (he pins s σ H _ I h) fun u s1 ⟨x, H1, I1, rx, a, dx, fs, ex, ea, l, q⟩ => ?_) ht
 subst ex
 obtain rfl : u = Value.ref a := rx
 refine getmeth_ok I1 ea c hm l ?_
 refine PySem.W.callWith_K (first := [.ref a]) (h₀ := X.base) I.ok.mod.kin hm.kp (thn (ha pos pins s1 σ H1 _ I1 q) fun us s2 ⟨vs, H2, I2, r, q2⟩ => ⟨I2.kIn, ?_⟩) hst hpl
 exact run_fn (us := .ref a :: us) (vs := .ref a :: vs) F hr hb hd hx I2 (.cons rfl r) q2
theorem pe_meth0 {pl : Sem Bool} (he : PE X o ta) (c : Cls X.K C) (hm : Meth X.K C m f) (F : FnOk X.prog X.w X.K X.mg X.base CX k f fd ps sp) (hr : Room k X.A) (hb : Binds X.K fd ps ds) (hd : Vals dvs ds) (hx : Passes CX X E)
  (ht : eval (.Call (.Attribute o m apos) [] [] pos) X.env = (do
   let ov <- eval o X.env
   standAt apos.atName
   let (f, first) <- holding [ov] (getMethod ov m pl)
   callWith pos f first (backTo pos (starEach [] X.env)) (backToKw pos (keywordEach [] X.env))) := by rfl) :
  PE X (.Call (.Attribute o m apos) [] [] pos) (tMeth C m sp dvs E ta tNil) := by
 intro pins s σ H Q I h
 refine PySem.W.methodCall_KW (pl := pl) (thn (he pins s σ H _ I h) fun u s1 ⟨x, H1, I1, rx, a, dx, fs, ex, ea, l, q⟩ => ?_) ht
 subst ex
 obtain rfl : u = Value.ref a := rx
 refine getmeth_ok I1 ea c hm l ?_
 exact PySem.W.callWith_K0 (first := [.ref a]) I1.kIn hm.kp (run_fn (us := [.ref a]) (vs := [.ref a]) F hr hb hd hx I1 (.cons rfl .nil) q)
structure Mk (K : PySem.W.Frag) (C f : Addr) : Prop where
 makes : PySem.W.makesIn K C = true
 init : PySem.W.findIn K (.ref C) "__init__" = some (some (.ref f))
 fn : PySem.W.isFn K (.ref f) = true
 kp : PySem.W.keepIn K (.ref C) = true
theorem run_make {pins : List (Addr × Obj)} {σ : St} {H : Hp} {s : Shared} {Q : VK} {us : List Value} {vs : List V} (M : Mk X.K C f) (F : FnOk X.prog X.w X.K X.mg X.base CX k f fd ps sp) (hr : Room (k + 1) X.A) (hb : Binds X.K fd ps ds) (hd : Vals dvs ds)
  (hx : Passes CX X E) (I : Inv X pins σ H s) (r : Vals vs us)
  (h : ∀ x dx, H x = none -> H dx = none -> dx ≠ x -> sp (.ref x :: (vs ++ dvs)) (upd (upd H dx (.own x)) x (.ins C dx [])) (fun v H2 => v = .non /\ Q (.ref x) H2) E) :
  wpAny (model X.prog X.w) X.A (call (.ref C) us) (EP X pins σ Q) X.xe s := by
 have hq := h (s.heap.objs.size + 1) s.heap.objs.size (I.hok.fresh (Nat.le_succ _)) (I.hok.fresh (Nat.le_refl _)) (Nat.ne_of_lt (Nat.lt_succ_self _))
 have I2 := Inv.made (C := C) I
 have r2 : Vals (V.ref (s.heap.objs.size + 1) :: (vs ++ dvs)) (Value.ref (s.heap.objs.size + 1) :: (us ++ ds)) := .cons rfl (r.append hd)
 have hl : (Value.ref (s.heap.objs.size + 1) :: us ++ ds).length = ps.length := by
  have e := r2.length
  rw [F.len _ _ _ _ hq] at e
  exact e.symm
 refine wpAny_call (make_map (f := f) I.kIn M.makes M.init (beq_iff_eq.mp M.fn) (codeAny_mono (F.run _ X.stack _ _ ⟨Value.ref (s.heap.objs.size + 1) :: us, []⟩ (Value.ref (s.heap.objs.size + 1) :: (us ++ ds)) _ _ E (hr.make C us [])
  (I2.env0.make C us []) (hb _ (Value.ref (s.heap.objs.size + 1) :: us) I2.kIn hl) r2 hq) fun r s' hq' => ?_))
 cases r with
 | error e => exact hx pins σ _ _ e s' I2 hq'
 | ok fl =>
  cases fl with
  | ret u =>
   obtain ⟨v, H', I3, rv, ev, q3⟩ := I2.after hq'
   subst ev
   exact ⟨rv, ⟨V.ref (s.heap.objs.size + 1), H', I3, rfl, q3⟩⟩
  | next => exact False.elim hq'
  | brk => exact False.elim hq'
  | cont => exact False.elim hq'
theorem pe_make0 (M : Mk X.K C f) (F : FnOk X.prog X.w X.K X.mg X.base CX k f fd ps sp) (hr : Room (k + 1) X.A) (hg : Gl X x) (hm : X.mg x = some (.ref C)) (hb : Binds X.K fd ps ds) (hd : Vals dvs ds) (hx : Passes CX X E)
  (hdb : (x == ("__debug__" : Str)) = false := by decide) : PE X (.Call (.Name x p) [] [] pos) (tMake C sp dvs E tNil) := by
 intro pins s σ H Q I h
 refine wpAny_Call_Name_kw (ld_glob I hg hm ?_ hdb)
 exact PySem.W.callWith_K0 I.kIn M.kp (run_make (us := []) M F hr hb hd hx I .nil h)
end
section
variable {X : Cx} {CX : CXT} {k : Nat} {f C : Addr} {fd : FuncData} {ps ks : List Str} {sp : Sp} {E : XK} {x m : Str} {p pos apos kpos : Pos} {e o : Expr} {es : List Expr} {kws : List Keyword} {te ta : TE} {t tk : TA} {nm : Option Str}
structure KBinds (K : PySem.W.Frag) (fd : FuncData) (ps ks : List Str) (g : List Value -> List Value -> List Value) (gV : List V -> List V -> List V) : Prop where
 to : ∀ (s : Shared) (us ws : List Value), K.In s.heap -> (g us ws).length = ps.length -> BindsTo s fd ⟨us, ks.zip ws⟩ (ps.zip (g us ws))
 rel : ∀ {vs : List V} {us : List Value} {zs : List V} {ws : List Value}, Vals vs us -> Vals zs ws -> Vals (gV vs zs) (g us ws)
variable {g : List Value -> List Value -> List Value} {gV : List V -> List V -> List V}
end
structure FnScope (N P : List Str) (sc : Scope) : Prop where
 kind : sc.kind = .function
 co : sc.isCoroutine = false
 gen : sc.isGenerator = false
 nd : N.Nodup
 pre : N.take P.length = P
 par : ∀ x ∈ P, sc.names.lookup x = some .local ∨ sc.names.lookup x = some .cell
 nofree : ∀ y ∈ sc.names, y.2 ≠ .free
theorem bindL_out {kindOf : Str -> Option NameKind} {x : Str} : ∀ {binds : List (Str × Value)} {m : Str -> Option Value}, (∀ v, (x, v) ∉ binds) -> bindL kindOf binds m x = m x
  | [], _, _ => rfl
  | (n, v) :: r, m, h => by
    unfold bindL
    rw [bindL_out fun w hw => h w (List.mem_cons_of_mem _ hw)]
    split
    · have : x ≠ n := by rintro rfl; exact h v List.mem_cons_self
      simp [this]
    · rfl
theorem bindC_out {kindOf : Str -> Option NameKind} {x : Str} : ∀ {binds : List (Str × Value)} {m : Str -> Option Value}, (∀ v, (x, v) ∉ binds) -> bindC kindOf binds m x = m x
  | [], _, _ => rfl
  | (n, v) :: r, m, h => by
    unfold bindC
    rw [bindC_out fun w hw => h w (List.mem_cons_of_mem _ hw)]
    split
    · rfl
    · have : x ≠ n := by rintro rfl; exact h v List.mem_cons_self
      simp [this]
theorem bindL_get {kindOf : Str -> Option NameKind} {x : Str} {v : Value} : ∀ {P : List Str} {vs : List Value} {i : Nat} {m : Str -> Option Value}, P.Nodup -> P[i]? = some x -> vs[i]? = some v -> kindOf x = some .local ->
  bindL kindOf (P.zip vs) m x = some v
 | [], _, _, _, _, h, _, _ => by simp at h
 | _ :: _, [], _, _, _, _, h, _ => by simp at h
 | p :: P, w :: vs, 0, m, nd, h1, h2, hk => by
  simp at h1 h2; subst h1; subst h2
  show bindL kindOf ((p, w) :: P.zip vs) m p = _
  unfold bindL
  rw [bindL_out fun v hv => (List.nodup_cons.mp nd).1 (List.of_mem_zip hv).1, if_pos hk]
  simp
 | p :: P, w :: vs, i + 1, m, nd, h1, h2, hk => by
  show bindL kindOf ((p, w) :: P.zip vs) m x = _
  unfold bindL
  exact bindL_get (i := i) (List.nodup_cons.mp nd).2 (by simpa using h1) (by simpa using h2) hk
theorem bindC_get {kindOf : Str -> Option NameKind} {x : Str} {v : Value} : ∀ {P : List Str} {vs : List Value} {i : Nat} {m : Str -> Option Value}, P.Nodup -> P[i]? = some x -> vs[i]? = some v -> kindOf x ≠ some .local ->
  bindC kindOf (P.zip vs) m x = some v
 | [], _, _, _, _, h, _, _ => by simp at h
 | _ :: _, [], _, _, _, _, h, _ => by simp at h
 | p :: P, w :: vs, 0, m, nd, h1, h2, hk => by
  simp at h1 h2; subst h1; subst h2
  show bindC kindOf ((p, w) :: P.zip vs) m p = _
  unfold bindC
  rw [bindC_out fun v hv => (List.nodup_cons.mp nd).1 (List.of_mem_zip hv).1, if_neg hk]
  simp
 | p :: P, w :: vs, i + 1, m, nd, h1, h2, hk => by
  show bindC kindOf ((p, w) :: P.zip vs) m x = _
  unfold bindC
  exact bindC_get (i := i) (List.nodup_cons.mp nd).2 (by simpa using h1) (by simpa using h2) hk
def start (N : List Str) (vs : List V) : St := vs.map some ++ List.replicate (N.length - vs.length) none
def cxOf (CX : CXT) (P : Program) (w : World) (K : PySem.W.Frag) (mg : Str -> Option Value) (base : Heap) (N : List Str) (qual : Str) (scope : Scope) (f : Addr) (cd : Value) (A : Around) (outer : List Env) (s : Shared) (H : Hp) (E : XK) : Cx where
 prog := P
 w := w
 K := K
 mg := mg
 base := base
 A := A.deeper (envOfC qual scope s.heap.objs.size f cd)
 N := N
 s₀ := s
 H₀ := H
 env := envOfC qual scope s.heap.objs.size f cd
 outer := outer
 stack := envOfC qual scope s.heap.objs.size f cd :: outer
 ex := []
 calm := true
 fn := fun _ => true
 pn := []
 xe := fun e s' => wpAny (model P w) (A.deeper (envOfC qual scope s.heap.objs.size f cd)) (leaving (envOfC qual scope s.heap.objs.size f cd) e) (fun _ s'' => CX outer H s E e s'') (fun e' s'' => CX outer H s E e' s'') s'
theorem cell_has {sc : Scope} {n : Nat} {x : Str} (h : sc.names.lookup x = some .cell) : ∃ c, (cellsFrom n sc.names []).lookup x = some c := by
 have q := PySem.W.cellsFrom_some sc.names n [] (.inl h)
 exact Option.isSome_iff_exists.mp q
theorem inv_start {CX : CXT} {P : Program} {w : World} {K : PySem.W.Frag} {mg : Str -> Option Value} {base : Heap} {N ps : List Str} {qual : Str} {scope : Scope} {f : Addr} {cd : Value} {A : Around} {outer : List Env} {s s1 : Shared} {H : Hp} {E : XK} {us : List Value} {vs : List V}
  (S : FnScope N ps scope) (hd : A.handled = none) (e0 : Env0 P w K mg base A outer s H) (hl : vs.length = ps.length) (r : Vals vs us)
  (x : InCallC s s.heap.objs.size (bindL (envOfC qual scope s.heap.objs.size f cd).kindOf (ps.zip us) fun _ => none) (cellsFrom (s.heap.objs.size + 1) scope.names []) (bindC (envOfC qual scope s.heap.objs.size f cd).kindOf (ps.zip us) fun _ => none) s1) :
  Inv (cxOf CX P w K mg base N qual scope f cd A outer s H E) [] (start N vs) H s1 := by
 have hpl : ps.length <= N.length := by have := congrArg List.length S.pre; rw [List.length_take] at this; omega
 obtain ⟨h1, tk, rfl, hk⟩ := x.done
 have noA : ∀ b : Addr, b ∉ (cxOf CX P w K mg base N qual scope f cd A outer s H E).ex := fun b z => absurd (show b ∈ ([] : List Addr) from z) (by simp)
 refine ⟨⟨e0.mod, S.kind, rfl, rfl, Nat.le_refl _, fun y z c h1 h2 => ?_, fun y hy => ?_, fun y c _ h => ?_, fun _ => hd, Around.frames_deeper e0.frames, .inr ⟨rfl, rfl⟩, fun b z => absurd z (noA b), e0.bs, e0.bsz, fun b _ _ => noA b, fun b z => absurd z (noA b), e0.funs, e0.frf⟩,
  rfl, e0.bare, Un.kept hk, ⟨_, x.toInCall.ns, fun i y v h1 h2 h3 => ?_⟩, fun y c h => ⟨_, x.cell y c h⟩, e0.hok.fresh (Nat.le_refl _), fun y c h => ?_, fun p hp => absurd (show p ∈ ([] : List (Addr × Obj)) from hp) (by simp), e0.hok.kept hk, ?_⟩
 ·exact name_of_addr x.apart (PySem.mem_of_lookup h1) (PySem.mem_of_lookup h2)
 ·have hy : scope.names.lookup y = some .cell ∨ scope.names.lookup y = some .free := hy
  rcases hy with hy | hy
  ·exact cell_has hy
  ·exact absurd rfl (S.nofree _ (PySem.mem_of_lookup hy))
 ·exact Nat.le_of_lt (x.above y c (PySem.mem_of_lookup h))
 ·have hi : i < vs.length := by
   unfold start at h2
   by_cases hi : i < vs.length
   ·exact hi
   ·rw [List.getElem?_append_right (by simpa using hi)] at h2
    rw [List.getElem?_replicate] at h2
    split at h2 <;> cases h2
  have ha : vs[i]? = some v := by
   unfold start at h2
   rw [List.getElem?_append_left (by simpa using hi), List.getElem?_map] at h2
   cases e : vs[i]? with
   | none => rw [e] at h2; cases h2
   | some a => rw [e] at h2; cases h2; rfl
  obtain ⟨u, hu, rv⟩ := r.get ha
  have hp : ps[i]? = some y := by
   rw [<- S.pre, List.getElem?_take_of_lt (by omega)]; exact h1
  have ndP : ps.Nodup := by rw [<- S.pre]; exact S.nd.sublist (List.take_sublist _ _)
  refine ⟨u, rv, ?_⟩
  rcases S.par y (List.mem_of_getElem? hp) with k | k
  ·exact .inl ⟨k, bindL_get ndP hp hu k⟩
  ·obtain ⟨c, e⟩ := cell_has (n := s.heap.objs.size + 1) k
   refine .inr ⟨.inl k, c, e, ?_⟩
   have q := x.cell y c e
   rw [bindC_get ndP hp hu (by show scope.names.lookup y ≠ _; rw [k]; decide)] at q
   exact q
 ·exact e0.hok.fresh (Nat.le_of_lt (x.above y c (PySem.mem_of_lookup h)))
 ·unfold start
  show _ = N.length
  rw [List.length_append, List.length_map, List.length_replicate]
  omega
theorem fn_of {CX : CXT} {P : Program} {w : World} {K : PySem.W.Frag} {mg : Str -> Option Value} {base : Heap} {k : Nat} {f : Addr} {name qual : Str} {params : Arguments} {body : List Stmt} {scope : Scope} {dV kV doc pm cdv ct oc : Value} {an od : Option Addr}
  {osl : Array (Option Value)} {N ps : List Str} {sp : Sp} (lk : K.lookup f = some ⟨oc, od, .func (PySem.W.fnOf name qual params body scope dV kV doc pm an cdv ct), osl⟩) (hcd : PySem.W.codeIn K cdv qual = true) (S : FnScope N ps scope)
  (len : ∀ vs H Q E, sp vs H Q E -> vs.length = ps.length)
  (hbody : ∀ (A : Around) (outer : List Env) (s : Shared) (H : Hp) (vs : List V) (Q : VK) (E : XK), Room k (A.deeper (envOfC qual scope s.heap.objs.size f cdv)) -> sp vs H Q E ->
   ∃ t, PSs (cxOf CX P w K mg base N qual scope f cdv A outer s H E) body t /\ t { nx := fun _ H' => Q .non H', rt := Q } (start N vs) H) :
  FnOk P w K mg base CX (k + 1) f (PySem.W.fnOf name qual params body scope dV kV doc pm an cdv ct) ps sp := by
 refine ⟨len, fun A outer s H args us vs Q E hr e0 hb r hsp => ?_⟩
 have hl := len _ _ _ _ hsp
 have KX : K.In s.heap := e0.mod.kin.keeps fun b o e => (e0.bs b o e).1
 have lim : s.heap.NoLimit := e0.mod.nolimit.keeps fun b o e => (e0.bs b o e).1
 have hkind : ∀ y ∈ ps.zip us, scope.names.lookup y.1 = some .local ∨ (scope.names.lookup y.1 = some .cell /\ ((cellsFrom (s.heap.objs.size + 1) scope.names []).lookup y.1).isSome = true) := fun ⟨n, v⟩ hy => by
  rcases S.par n (List.of_mem_zip hy).1 with q | q
  ·exact .inl q
  ·exact .inr ⟨q, PySem.W.cellsFrom_some _ _ _ (.inl q)⟩
 refine codeAny_call_function hr.depth (KX _ _ lk) rfl S.co S.gen rfl (PySem.W.codeRec_of KX hcd) (hb _ _ _ _ ?_)
 refine wpAny_newFunctionEnv_cells S.kind hkind fun env he s1 x => ?_
 subst he
 refine ⟨lim.keeps x.toInCall.keep, codeAny_func ?_⟩
 obtain ⟨t, ht, hq⟩ := hbody A outer s H vs Q E (hr.deeper _) hsp
 have I : Inv (cxOf CX P w K mg base N qual scope f cdv A outer s H E) [] (start N vs) H s1 := inv_start S hr.hd e0 hl r x
 refine wpAny_mono (ht [] s1 (start N vs) H _ I hq) (fun fl s' hs => ?_) fun e s' hs => hs
 have fin : ∀ {σ' : St} {H' : Hp} {v : V} {u : Value}, Inv (cxOf CX P w K mg base N qual scope f cdv A outer s H E) [] σ' H' s' -> RelV v u -> Q v H' -> CE outer P w H s Q u s' :=
  fun {σ' H' v u} J rv q => ⟨v, H', J.os, J.bare, J.base, J.hok, rv, q⟩
 cases fl with
 | ret u =>
  obtain ⟨v, σ', H', J, rv, q⟩ := hs
  exact fin J rv q
 | next =>
  obtain ⟨σ', H', J, q⟩ := hs
  exact fin (v := V.non) (u := Value.none) J rfl q
 | brk =>
  obtain ⟨_, _, _, q⟩ := hs
  exact False.elim q
 | cont =>
  obtain ⟨_, _, _, q⟩ := hs
  exact False.elim q
end L2
namespace L2
open PySem PySem.Spec PyProof.Rows
section
variable {X : Cx} {x : Str} {p pos : Pos} {e : Expr} {es : List Expr} {t : TA} {id T : String} {r : List V -> Hp -> VK -> Prop}
def tCB (r : List V -> Hp -> VK -> Prop) (t : TA) : TE := fun σ H Q => t σ H fun vs H1 => r vs H1 Q
theorem pe_callB (hc : CallR X (.builtin id) r) (hg : Gl X x) (hm : X.mg x = none) (hv : bootBuiltins x = some (.builtin id)) (ha : PA X (e :: es) t) (hn : x ≠ "__name__" := by decide) (hdb : (x == ("__debug__" : Str)) = false := by decide)
  (he : starEach (e :: es) X.env = (false, eval e X.env) :: starEach es X.env := by rfl) (hpl : (backTo pos (starEach es X.env)).any (·.1) = false := by rfl) : PE X (.Call (.Name x p) (e :: es) [] pos) (tCB r t) := by
 intro pins s σ H Q I h
 refine wpAny_Call_Name_kw (ld_blt I hg hm hv ?_ hn hdb)
 exact PyProof.Rows.callWith_builtin1 (thn (ha pos pins s σ H _ I h) fun us s1 ⟨vs, H1, I1, r1, q1⟩ => hc pins s1 σ H1 vs us Q I1 r1 q1) he hpl
theorem pe_callTy (hc : CallR X (.type T) r) (hg : Gl X x) (hm : X.mg x = none) (hv : bootBuiltins x = some (.type T)) (ha : PA X (e :: es) t) (hn : x ≠ "__name__" := by decide) (hdb : (x == ("__debug__" : Str)) = false := by decide)
  (he : starEach (e :: es) X.env = (false, eval e X.env) :: starEach es X.env := by rfl) (hpl : (backTo pos (starEach es X.env)).any (·.1) = false := by rfl) : PE X (.Call (.Name x p) (e :: es) [] pos) (tCB r t) := by
 intro pins s σ H Q I h
 refine wpAny_Call_Name_kw (ld_blt I hg hm hv ?_ hn hdb)
 exact PyProof.Rows.callWith_type1 (thn (ha pos pins s σ H _ I h) fun us s1 ⟨vs, H1, I1, r1, q1⟩ => hc pins s1 σ H1 vs us Q I1 r1 q1) he hpl
end
end L2
namespace L2
open PySem PySem.Spec PyProof.Rows
section
variable {κ : Type} [DecidableEq κ]
def valV (kvs : List (κ × V)) (k : κ) : Option V := (kvs.find? fun kv => decide (kv.1 = k)).map (·.2)
def putK (kvs : List (κ × V)) (k : κ) (v : V) : List (κ × V) :=
 if (kvs.any fun kv => decide (kv.1 = k)) = true then kvs.map (fun kv => if kv.1 = k then (kv.1, v) else kv) else kvs ++ [(k, v)]
def dropK (kvs : List (κ × V)) (k : κ) : List (κ × V) := kvs.filter fun kv => decide (kv.1 ≠ k)
theorem valV_nil {k : κ} : valV ([] : List (κ × V)) k = none := rfl
theorem valV_pos {p : κ × V} {r : List (κ × V)} {k : κ} (e : p.1 = k) : valV (p :: r) k = some p.2 := by simp [valV, List.find?_cons, e]
theorem valV_neg {p : κ × V} {r : List (κ × V)} {k : κ} (e : ¬ p.1 = k) : valV (p :: r) k = valV r k := by simp [valV, List.find?_cons, e]
theorem valV_any (k : κ) : ∀ kvs : List (κ × V), (kvs.any fun kv => decide (kv.1 = k)) = (valV kvs k).isSome
 | [] => rfl
 | p :: r => by
  rw [List.any_cons]
  by_cases e : p.1 = k
  ·simp only [valV_pos e, decide_eq_true e, Bool.true_or, Option.isSome_some]
  ·rw [valV_neg e, decide_eq_false e, Bool.false_or]; exact valV_any k r
theorem valV_map (k j : κ) (y : V) : ∀ kvs : List (κ × V), valV (kvs.map fun kv => if kv.1 = k then (kv.1, y) else kv) j = (valV kvs j).map fun x => if j = k then y else x
 | [] => rfl
 | p :: r => by
  have ih := valV_map k j y r
  rw [List.map_cons]
  by_cases h : p.1 = k
  ·rw [if_pos h]
   by_cases e : p.1 = j
   ·rw [valV_pos (p := (p.1, y)) e, valV_pos e, Option.map_some, if_pos (e.symm.trans h)]
   ·rw [valV_neg (p := (p.1, y)) e, valV_neg e, ih]
  ·rw [if_neg h]
   by_cases e : p.1 = j
   ·rw [valV_pos (p := p) e, valV_pos e, Option.map_some, if_neg (fun z => h (e.trans z))]
   ·rw [valV_neg (p := p) e, valV_neg e, ih]
theorem valV_snoc (k j : κ) (y : V) : ∀ kvs : List (κ × V), valV kvs k = none -> valV (kvs ++ [(k, y)]) j = if j = k then some y else valV kvs j
 | [], _ => by
  by_cases e : k = j
  ·rw [if_pos e.symm]; exact valV_pos (p := (k, y)) e
  ·rw [if_neg (fun z => e z.symm)]; exact valV_neg (p := (k, y)) e
 | p :: r, hn => by
  rw [List.cons_append]
  have hk : ¬ p.1 = k := fun z => by rw [valV_pos z] at hn; cases hn
  rw [valV_neg hk] at hn
  have ih := valV_snoc k j y r hn
  by_cases e : p.1 = j
  ·rw [valV_pos e, valV_pos e, if_neg (fun z => hk (e.trans z))]
  ·rw [valV_neg e, valV_neg e, ih]
theorem valV_put (kvs : List (κ × V)) (k j : κ) (y : V) : valV (putK kvs k y) j = if j = k then some y else valV kvs j := by
 unfold putK
 by_cases a : (kvs.any fun kv => decide (kv.1 = k)) = true
 ·rw [if_pos a, valV_map]
  rw [valV_any] at a
  by_cases e : j = k
  ·obtain ⟨x, hx⟩ := Option.isSome_iff_exists.mp a
   rw [if_pos e, e, hx, Option.map_some, if_pos rfl]
  ·rw [if_neg e]
   cases valV kvs j with
   | none => rfl
   | some x => rw [Option.map_some, if_neg e]
 ·rw [if_neg a]
  refine valV_snoc k j y kvs ?_
  rw [valV_any] at a
  cases q : valV kvs k with
  | none => rfl
  | some x => rw [q] at a; exact (a rfl).elim
theorem length_putK (kvs : List (κ × V)) (k : κ) (v : V) : (putK kvs k v).length <= kvs.length + 1 := by
 unfold putK
 split
 ·rw [List.length_map]; omega
 ·rw [List.length_append, List.length_cons, List.length_nil]; omega
theorem putK_new {kvs : List (κ × V)} {k : κ} (v : V) (h : valV kvs k = none) : putK kvs k v = kvs ++ [(k, v)] := by
 unfold putK
 rw [valV_any, h]
 exact if_neg (by decide)
theorem RelO.isSome_eq {o : Option V} {u : Option Value} (r : RelO o u) : o.isSome = u.isSome := by
 cases o with
 | none => cases u with
  | none => rfl
  | some _ => exact (show False from r).elim
 | some _ => cases u with
  | none => exact (show False from r).elim
  | some _ => rfl
theorem RelO.getD {o : Option V} {u : Option Value} {d : V} {d' : Value} (r : RelO o u) (rd : RelV d d') : RelV (o.getD d) (u.getD d') := by
 cases o with
 | none => cases u with
  | none => exact rd
  | some _ => exact (show False from r).elim
 | some _ => cases u with
  | none => exact (show False from r).elim
  | some _ => exact r
theorem KV.val {kvs : List (κ × V)} {vs : List (κ × Value)} (r : KV kvs vs) (k : κ) : RelO (valV kvs k) (valueAt vs k) := by
 unfold KV at r
 induction r with
 | nil => exact True.intro
 | @cons p q ps qs h t ih =>
  obtain ⟨h1, h2⟩ := h
  by_cases e : p.1 = k
  ·have e' : q.1 = k := h1.symm.trans e
   have b : valueAt (q :: qs) k = some q.2 := by simp [valueAt, List.find?_cons, e']
   rw [valV_pos e, b]; exact h2
  ·have e' : ¬ q.1 = k := fun z => e (h1.trans z)
   have b : valueAt (q :: qs) k = valueAt qs k := by simp [valueAt, List.find?_cons, e']
   rw [valV_neg e, b]; exact ih
theorem KV.any {kvs : List (κ × V)} {vs : List (κ × Value)} (r : KV kvs vs) (k : κ) : (kvs.any fun kv => decide (kv.1 = k)) = vs.any fun kv => decide (kv.1 = k) := by
 unfold KV at r
 induction r with
 | nil => rfl
 | cons h t ih => rw [List.any_cons, List.any_cons, ih, h.1]
theorem KV.repl {kvs : List (κ × V)} {vs : List (κ × Value)} (r : KV kvs vs) (k : κ) {y : V} {u : Value} (ry : RelV y u) :
  KV (kvs.map fun kv => if kv.1 = k then (kv.1, y) else kv) (vs.map fun kv => if kv.1 = k then (kv.1, u) else kv) := by
 unfold KV at r ⊢
 induction r with
 | nil => exact .nil
 | @cons p q ps qs h t ih =>
  rw [List.map_cons, List.map_cons]
  refine .cons ?_ ih
  obtain ⟨h1, h2⟩ := h
  by_cases e : p.1 = k
  ·rw [if_pos e, if_pos (h1.symm.trans e)]; exact ⟨h1, ry⟩
  ·rw [if_neg e, if_neg (fun z => e (h1.trans z))]; exact ⟨h1, h2⟩
theorem KV.put {kvs : List (κ × V)} {vs : List (κ × Value)} (r : KV kvs vs) (k : κ) {y : V} {u : Value} (ry : RelV y u) : KV (putK kvs k y) (stored vs k u) := by
 unfold putK stored
 rw [r.any k]
 by_cases e : (vs.any fun kv => decide (kv.1 = k)) = true
 ·rw [if_pos e, if_pos e]; exact r.repl k ry
 ·rw [if_neg e, if_neg e]; exact Paired.snoc r ⟨rfl, ry⟩
theorem KV.drop {kvs : List (κ × V)} {vs : List (κ × Value)} (r : KV kvs vs) (k : κ) : KV (dropK kvs k) (without vs k) := by
 unfold KV at r ⊢
 unfold dropK without
 induction r with
 | nil => exact .nil
 | @cons p q ps qs h t ih =>
  obtain ⟨h1, h2⟩ := h
  rw [List.filter_cons, List.filter_cons]
  by_cases e : p.1 = k
  ·have a : ¬ decide (p.1 ≠ k) = true := by simp [e]
   have b : ¬ decide (q.1 ≠ k) = true := by simp [h1.symm.trans e]
   rw [if_neg a, if_neg b]; exact ih
  ·have e' : ¬ q.1 = k := fun z => e (h1.trans z)
   have a : decide (p.1 ≠ k) = true := by simp [e]
   have b : decide (q.1 ≠ k) = true := by simp [e']
   rw [if_pos a, if_pos b]; exact .cons ⟨h1, h2⟩ ih
theorem KV.keys {kvs : List (κ × V)} {vs : List (κ × Value)} (r : KV kvs vs) : kvs.map (·.1) = vs.map (·.1) := by
 unfold KV at r
 induction r with
 | nil => rfl
 | cons h t ih => rw [List.map_cons, List.map_cons, ih, h.1]
theorem KV.length {kvs : List (κ × V)} {vs : List (κ × Value)} (r : KV kvs vs) : kvs.length = vs.length := Paired.length r
theorem dropK_le (kvs : List (κ × V)) (k : κ) : (dropK kvs k).length <= kvs.length := List.length_filter_le _ _
end
theorem kV_is {P : Program} {w : World} {k : Key} {u : Value} (r : RelV (kV k) u) : (mixKind P w).is k u = true := by
 cases k with
 | inl i => obtain ⟨t, e⟩ := (show ∃ t, u = Value.int i t from r); subst e; exact mixKind_int P w i t
 | inr x => obtain ⟨t, e⟩ := (show ∃ t, u = Value.str x t from r); subst e; exact mixKind_str P w x t
theorem items_are {P : Program} {w : World} : ∀ {ks : List Key} {us : List Value}, Vals (ks.map kV) us -> ItemsAre (mixKind P w) ks us
 | [], _, r => by rw [List.map_nil] at r; cases r; exact .nil
 | k :: ks, _, r => by
  rw [List.map_cons] at r
  cases r with
  | cons h t => exact .cons (kV_is h) (items_are t)
abbrev KT (H : Hp) : List (List Key × V) -> List (List Key × Addr × Value) -> Prop := Paired fun p q => p.1 = q.1 /\ H q.2.1 = some (.tup (p.1.map kV)) /\ RelV p.2 q.2.2
theorem KT.val {H : Hp} {kvs : List (List Key × V)} {xs : List (List Key × Addr × Value)} (r : KT H kvs xs) (k : List Key) : RelO (valV kvs k) ((atKey xs k).map (·.2)) := by
 induction r with
 | nil => exact True.intro
 | @cons p q ps qs h t ih =>
  obtain ⟨h1, _, h2⟩ := h
  by_cases e : p.1 = k
  ·have e' : q.1 = k := h1.symm.trans e
   have b : atKey (q :: qs) k = some q.2 := by simp [atKey, List.find?_cons, e']
   rw [valV_pos e, b]; exact h2
  ·have e' : ¬ q.1 = k := fun z => e (h1.trans z)
   have b : atKey (q :: qs) k = atKey qs k := by simp [atKey, List.find?_cons, e']
   rw [valV_neg e, b]; exact ih
theorem KT.repl {H : Hp} {kvs : List (List Key × V)} {xs : List (List Key × Addr × Value)} (r : KT H kvs xs) (k : List Key) {y : V} {u : Value} (ry : RelV y u) :
  KT H (kvs.map fun kv => if kv.1 = k then (kv.1, y) else kv) (xs.map (putAt k u)) := by
 induction r with
 | nil => exact .nil
 | @cons p q ps qs h t ih =>
  rw [List.map_cons, List.map_cons]
  refine .cons ?_ ih
  obtain ⟨h1, h2, h3⟩ := h
  unfold putAt
  by_cases e : p.1 = k
  ·rw [if_pos e, if_pos (h1.symm.trans e)]; exact ⟨h1, h2, ry⟩
  ·rw [if_neg e, if_neg (fun z => e (h1.trans z))]; exact ⟨h1, h2, h3⟩
theorem KT.put {H : Hp} {kvs : List (List Key × V)} {xs : List (List Key × Addr × Value)} (r : KT H kvs xs) (k : List Key) {b : Addr} {y : V} {u : Value} (hb : H b = some (.tup (k.map kV))) (ry : RelV y u) :
  KT H (putK kvs k y) (storedH xs k b u) := by
 have e : (kvs.any fun kv => decide (kv.1 = k)) = (atKey xs k).isSome := by
  rw [valV_any, (r.val k).isSome_eq, Option.isSome_map]
 unfold putK storedH
 rw [e]
 by_cases q : (atKey xs k).isSome = true
 ·rw [if_pos q, if_pos q]; exact r.repl k ry
 ·rw [if_neg q, if_neg q]; exact Paired.snoc r ⟨rfl, hb, ry⟩
theorem KT.keeps {H H' : Hp} {kvs : List (List Key × V)} {xs : List (List Key × Addr × Value)} (r : KT H kvs xs) (ht : ∀ b ys, H b = some (.tup ys) -> H' b = some (.tup ys)) : KT H' kvs xs :=
 Paired.mapP r fun _ _ z => ⟨z.1, ht _ _ z.2.1, z.2.2⟩
section
variable {P : Program} {w : World} {H : Hp} {h : Heap} {a : Addr}
theorem rd_of {u : HO} (ok : HOk P w H h) (e : Rd H a u) : ObjOk P w H h a u := e.ok ok
theorem dk_rd {kvs : List (Key × V)} (ok : HOk P w H h) (e : Rd H a (.dK kvs)) : kvs.length <= sizeLine /\ (a == sysModules) = false /\ ∃ vs, KV kvs vs /\ h.DictOf (mixKind P w) a vs :=
 show ObjOk P w H h a (.dK kvs) from rd_of ok e
theorem dk_of {kvs : List (Key × V)} (ok : HOk P w H h) (e : H a = some (.dK kvs)) : kvs.length <= sizeLine /\ (a == sysModules) = false /\ ∃ vs, KV kvs vs /\ h.DictOf (mixKind P w) a vs := dk_rd ok (.inl e)
theorem key_of {ks : List Key} (ok : HOk P w H h) (e : H a = some (.tup (ks.map kV))) : (tupleKind (mixKind P w)).is h ks a := by
 obtain ⟨_, its, r, o, h1, h2, n, h3⟩ := (show ObjOk P w H h a (.tup (ks.map kV)) from ok a _ e)
 exact ⟨o, its.toArray, n, h1, h2, h3, by simpa using items_are r⟩
theorem dt_rd {kvs : List (List Key × V)} (ok : HOk P w H h) (e : Rd H a (.dT kvs)) : kvs.length <= sizeLine /\ (a == sysModules) = false /\
  ∃ xs, KT H kvs xs /\ h.DictOfH (tupleKind (mixKind P w)) a xs := by
 obtain ⟨z, y, xs, r, o, es, ep, h1, h2, h3, h4, h5⟩ := (show ObjOk P w H h a (.dT kvs) from rd_of ok e)
 refine ⟨z, y, xs, r, o, es, ep, h1, h2, h3, h4, fun x hx => ?_, h5⟩
 have all : ∀ {l : List (List Key × V)} {m : List (List Key × Addr × Value)}, KT H l m -> ∀ x ∈ m, (tupleKind (mixKind P w)).is h x.1 x.2.1 := by
  intro l m q
  induction q with
  | nil => intro x hx; exact nomatch hx
  | @cons p q ps qs hq t ih =>
   intro x hx
   rcases List.mem_cons.mp hx with e | hx
   ·subst e
    exact key_of ok (by rw [<- hq.1]; exact hq.2.1)
   ·exact ih x hx
 exact all r x hx
theorem dt_of {kvs : List (List Key × V)} (ok : HOk P w H h) (e : H a = some (.dT kvs)) : kvs.length <= sizeLine /\ (a == sysModules) = false /\
  ∃ xs, KT H kvs xs /\ h.DictOfH (tupleKind (mixKind P w)) a xs := dt_rd ok (.inl e)
end
def DGet (H : Hp) (a : Addr) (y : V) (r : Option V) : Prop :=
 (∃ kvs k, Rd H a (.dK kvs) /\ y = kV k /\ r = valV kvs k) ∨ ∃ kvs k b, Rd H a (.dT kvs) /\ y = .ref b /\ H b = some (.tup (k.map kV)) /\ r = valV kvs k
def DPut (H : Hp) (a : Addr) (y v : V) (H' : Hp) : Prop :=
 (∃ kvs k, H a = some (.dK kvs) /\ y = kV k /\ kvs.length < sizeLine /\ H' = upd H a (.dK (putK kvs k v))) ∨
 ∃ kvs k b, H a = some (.dT kvs) /\ y = .ref b /\ H b = some (.tup (k.map kV)) /\ kvs.length < sizeLine /\ H' = upd H a (.dT (putK kvs k v))
theorem DGet.k {H : Hp} {a : Addr} {kvs : List (Key × V)} {k : Key} (e : H a = some (.dK kvs)) : DGet H a (kV k) (valV kvs k) := .inl ⟨kvs, k, .inl e, rfl, rfl⟩
theorem DGet.t {H : Hp} {a b : Addr} {kvs : List (List Key × V)} {k : List Key} (e : H a = some (.dT kvs)) (eb : H b = some (.tup (k.map kV))) : DGet H a (.ref b) (valV kvs k) := .inr ⟨kvs, k, b, .inl e, rfl, eb, rfl⟩
theorem DPut.k {H : Hp} {a : Addr} {kvs : List (Key × V)} {k : Key} {v : V} (e : H a = some (.dK kvs)) (hl : kvs.length < sizeLine) : DPut H a (kV k) v (upd H a (.dK (putK kvs k v))) := .inl ⟨kvs, k, e, rfl, hl, rfl⟩
theorem DPut.t {H : Hp} {a b : Addr} {kvs : List (List Key × V)} {k : List Key} {v : V} (e : H a = some (.dT kvs)) (eb : H b = some (.tup (k.map kV))) (hl : kvs.length < sizeLine) :
  DPut H a (.ref b) v (upd H a (.dT (putK kvs k v))) := .inr ⟨kvs, k, b, e, rfl, eb, hl, rfl⟩
section
variable {X : Cx} {pins : List (Addr × Obj)} {σ : St} {H : Hp} {s : Shared} {a : Addr} {y v : V} {u r : Value} {o : Option V} {A : Around} {E : Value -> Shared -> Prop}
theorem Inv.big (I : Inv X pins σ H s) : sysModules < s.heap.objs.size := by
 have h : mainGlobals < s.heap.objs.size := (I.mod.glob.keeps I.bk).lt
 exact Nat.lt_trans (by decide) h
theorem d_getItem {Q : Value -> Shared -> Prop} (hu : A.units + 1 < cLine) (I : Inv X pins σ H s) (g : DGet H a y (some v)) (ry : RelV y u) (h : ∀ w' s', Inv X pins σ H s' -> RelV v w' -> Q w' s') :
  wpAny (model X.prog X.w) A (getItem (.ref a) u) Q E s := by
 rcases g with ⟨kvs, k, e, ey, l⟩ | ⟨kvs, k, b, e, ey, eb, l⟩
 ·subst ey
  obtain ⟨z, hd, vs, rel, dd⟩ := dk_rd I.hok e
  obtain ⟨w', hw, rw'⟩ := RelO.some_of (v := v) (o := valueAt vs k) (by rw [l]; exact rel.val k)
  exact wpAny_getItem_of (kV_is ry) dd.mapOf hw (h w' _ (I.tok _) rw')
 ·subst ey
  cases (show u = Value.ref b from ry)
  obtain ⟨z, hd, xs, rel, dd⟩ := dt_rd I.hok e
  obtain ⟨w', hw, rw'⟩ := RelO.some_of (v := v) (o := (atKey xs k).map (·.2)) (by rw [l]; exact rel.val k)
  obtain ⟨p, hp, hp2⟩ := Option.map_eq_some_iff.mp hw
  refine wpAny_getItem_heap (tupleKind_room_in1 hu) (key_of I.hok eb) dd hp ?_
  rw [hp2]
  exact h w' _ (I.tok _) rw'
theorem d_in {Q : Value -> Shared -> Prop} (hu : A.units + 1 < cLine) (I : Inv X pins σ H s) (g : DGet H a y o) (ry : RelV y u) (h : ∀ s', Inv X pins σ H s' -> Q (.bool o.isSome) s') :
  wpAny (model X.prog X.w) A (compareOp .In u (.ref a)) Q E s := by
 rcases g with ⟨kvs, k, e, ey, l⟩ | ⟨kvs, k, b, e, ey, eb, l⟩
 ·subst ey
  obtain ⟨z, hd, vs, rel, dd⟩ := dk_rd I.hok e
  refine wpAny_in_of (kV_is ry) hd dd.mapOf ?_
  rw [<- (rel.val k).isSome_eq, <- l]
  exact h _ (I.tok _)
 ·subst ey
  cases (show u = Value.ref b from ry)
  obtain ⟨z, hd, xs, rel, dd⟩ := dt_rd I.hok e
  refine wpAny_in_heap (tupleKind_room_in1 hu) (key_of I.hok eb) hd dd ?_
  have q := (rel.val k).isSome_eq
  rw [Option.isSome_map] at q
  rw [<- q, <- l]
  exact h _ (I.tok _)
theorem d_notIn {Q : Value -> Shared -> Prop} (hu : A.units + 1 < cLine) (I : Inv X pins σ H s) (g : DGet H a y o) (ry : RelV y u) (h : ∀ s', Inv X pins σ H s' -> Q (.bool (!o.isSome)) s') :
  wpAny (model X.prog X.w) A (compareOp .NotIn u (.ref a)) Q E s := by
 rcases g with ⟨kvs, k, e, ey, l⟩ | ⟨kvs, k, b, e, ey, eb, l⟩
 ·subst ey
  obtain ⟨z, hd, vs, rel, dd⟩ := dk_rd I.hok e
  refine wpAny_notIn_of (kV_is ry) hd dd.mapOf ?_
  rw [<- (rel.val k).isSome_eq, <- l]
  exact h _ (I.tok _)
 ·subst ey
  cases (show u = Value.ref b from ry)
  obtain ⟨z, hd, xs, rel, dd⟩ := dt_rd I.hok e
  refine wpAny_notIn_heap (tupleKind_room_in1 hu) (key_of I.hok eb) hd dd ?_
  have q := (rel.val k).isSome_eq
  rw [Option.isSome_map] at q
  rw [<- q, <- l]
  exact h _ (I.tok _)
theorem d_write {h' : Heap} {t' : Nat} {ob : HO} (I : Inv X pins σ H s) (mu : Mut (H a)) (hs : Heap.SameBut a s.heap h') (he : ∃ q, h'.get? a = some q) (new : ObjOk X.prog X.w (upd H a ob) h' a ob) :
  Inv X pins σ (upd H a ob) { s with heap := h', toks := t' } :=
 I.write (x := a) (e := a) mu (.inl rfl) (fun b q hb z => (hs.2 b hb).trans z) he new
theorem dk_new {P : Program} {w : World} {H' : Hp} {h' : Heap} {kvs : List (Key × V)} {vs : List (Key × Value)} (z : kvs.length <= sizeLine) (hd : (a == sysModules) = false) (rel : KV kvs vs) (dd : h'.DictOf (mixKind P w) a vs) :
  ObjOk P w H' h' a (.dK kvs) := ⟨z, hd, vs, rel, dd⟩
theorem d_setItem {H' : Hp} {Q : Unit -> Shared -> Prop} (hu : A.units + 1 < cLine) (I : Inv X pins σ H s) (g : DPut H a y v H') (ry : RelV y u) (rv : RelV v r) (h : ∀ s', Inv X pins σ H' s' -> Q () s') :
  wpAny (model X.prog X.w) A (setItem (.ref a) u r) Q E s := by
 rcases g with ⟨kvs, k, e, ey, l, eH⟩ | ⟨kvs, k, b, e, ey, eb, l, eH⟩
 ·subst ey eH
  obtain ⟨z, hd, vs, rel, dd⟩ := dk_of I.hok e
  have hz : vs.length <= sizeLine := by rw [<- rel.length]; exact z
  have hl : (putK kvs k v).length <= sizeLine := by have := length_putK kvs k v; omega
  refine wpAny_setItem_pairs (hsz := hz) (kV_is ry) dd fun h' dd' hs => h _ ?_
  have he : ∃ q, h'.get? a = some q := let ⟨q, _, _, hq, _⟩ := dd'; ⟨q, hq⟩
  exact d_write I (by rw [e]; exact True.intro) hs he (dk_new hl hd (rel.put k rv) dd')
 ·subst ey eH
  cases (show u = Value.ref b from ry)
  obtain ⟨z, hd, xs, rel, dd⟩ := dt_of I.hok e
  have hz : xs.length <= sizeLine := by rw [<- Paired.length rel]; exact z
  have hl : (putK kvs k v).length <= sizeLine := by have := length_putK kvs k v; omega
  refine wpAny_setItem_heap (hsz := hz) (tupleKind_room_in1 hu) (key_of I.hok eb) dd fun h' dd' hs => h _ ?_
  obtain ⟨q, es, ep, hq, h2, h3, h4, _, h5⟩ := dd'
  refine d_write I (by rw [e]; exact True.intro) hs ⟨q, hq⟩ ⟨hl, hd, _, (rel.put k eb rv).keeps fun c ys ec => ?_, q, es, ep, hq, h2, h3, h4, h5⟩
  rw [upd_ne (ne_of ec e (fun z => nomatch z))]
  exact ec
end
section
variable {X : Cx} {pins : List (Addr × Obj)} {σ : St} {H : Hp} {s : Shared} {a : Addr} {kvs : List (Key × V)} {k : Key} {u : Value} {A : Around} {E : Value -> Shared -> Prop}
theorem d_delItem {Q : Unit -> Shared -> Prop} (I : Inv X pins σ H s) (e : H a = some (.dK kvs)) (ry : RelV (kV k) u) (l : (valV kvs k).isSome = true) (h : ∀ s', Inv X pins σ (upd H a (.dK (dropK kvs k))) s' -> Q () s') :
  wpAny (model X.prog X.w) A (delItem (.ref a) u) Q E s := by
 obtain ⟨z, hd, vs, rel, dd⟩ := dk_of I.hok e
 refine wpAny_delItem_slot dd.typeIs (by decide) PySem.F.slot_dict_delitem
  (call_meetsIn PySem.F.slot_dict_delitem dd.typeIs PySem.F.entry_dict_delitem (PySem.F.args_dict_delitem_2 _ _) (meets_dict_delitem_pairs (mixKind X.prog X.w) a (kV_is ry)) ⟨vs, dd, by rw [<- rel.length]; exact z, by rw [<- (rel.val k).isSome_eq]; exact l, fun h' dd' hs => h _ ?_⟩)
 have he : ∃ q, h'.get? a = some q := let ⟨q, _, _, hq, _⟩ := dd'; ⟨q, hq⟩
 exact d_write I (by rw [e]; exact True.intro) hs he (dk_new (Nat.le_trans (dropK_le kvs k) z) hd (rel.drop k) dd')
theorem d_pop {v : V} {more : List Value} {Q : Value -> Shared -> Prop} (I : Inv X pins σ H s) (e : H a = some (.dK kvs)) (ry : RelV (kV k) u) (l : valV kvs k = some v) (hm : more = [] ∨ ∃ x, more = [x])
  (h : ∀ w' s', Inv X pins σ (upd H a (.dK (dropK kvs k))) s' -> RelV v w' -> Q w' s') : wpAny (model X.prog X.w) A (call (.builtin "dict.pop") (.ref a :: u :: more)) Q E s := by
 obtain ⟨z, hd, vs, rel, dd⟩ := dk_of I.hok e
 obtain ⟨w', hw, rw'⟩ := RelO.some_of (v := v) (o := valueAt vs k) (by rw [<- l]; exact rel.val k)
 have hp : (keyPart u).isSome = true := by
  cases k with
  | inl i => obtain ⟨t, q⟩ := (show ∃ t, u = Value.int i t from ry); subst q; rfl
  | inr x => obtain ⟨t, q⟩ := (show ∃ t, u = Value.str x t from ry); subst q; rfl
 have ha : argsOk "dict.pop" ⟨.ref a :: u :: more, []⟩ := by
  rcases hm with q | ⟨x, q⟩
  ·subst q; exact PySem.F.args_dict_pop_2 _ _
  ·subst q; exact PySem.F.args_dict_pop_3 _ _ _
 refine call_meetsIn PySem.F.slot_dict_pop dd.typeIs PySem.F.entry_dict_pop ha (meets_dict_pop_there (mixKind X.prog X.w) a (kV_is ry) more hm hp)
  ⟨vs, w', dd, by rw [<- rel.length]; exact z, hw, fun h' dd' hs => h w' _ ?_ rw'⟩
 have he : ∃ q, h'.get? a = some q := let ⟨q, _, _, hq, _⟩ := dd'; ⟨q, hq⟩
 exact d_write I (by rw [e]; exact True.intro) hs he (dk_new (Nat.le_trans (dropK_le kvs k) z) hd (rel.drop k) dd')
theorem d_popD {r : Value} {Q : Value -> Shared -> Prop} (I : Inv X pins σ H s) (e : H a = some (.dK kvs)) (ry : RelV (kV k) u) (l : valV kvs k = none) (h : ∀ s', Inv X pins σ H s' -> Q r s') :
  wpAny (model X.prog X.w) A (call (.builtin "dict.pop") [.ref a, u, r]) Q E s := by
 obtain ⟨z, hd, vs, rel, dd⟩ := dk_of I.hok e
 have hn : valueAt vs k = none := RelO.none_of (by rw [<- l]; exact rel.val k)
 have hp : (keyPart u).isSome = true := by
  cases k with
  | inl i => obtain ⟨t, q⟩ := (show ∃ t, u = Value.int i t from ry); subst q; rfl
  | inr x => obtain ⟨t, q⟩ := (show ∃ t, u = Value.str x t from ry); subst q; rfl
 exact call_meetsIn PySem.F.slot_dict_pop dd.typeIs PySem.F.entry_dict_pop (PySem.F.args_dict_pop_3 _ _ _) (meets_dict_pop_default (mixKind X.prog X.w) a (kV_is ry) hd hp r) ⟨vs, dd, hn, h _ (I.tok _)⟩
end
def NoSl (i : Expr) : Prop := ∀ ov iv, subscripted i false ov iv = operate [ov, iv] (getItem ov iv)
theorem subD_of {prog : Program} {w : World} {A : Around} {E : Value -> Shared -> Prop} {s : Shared} {env : Env} {value slice : Expr} {pos : Pos} {T id : String} {Q : Value -> Shared -> Prop}
  (hl : typeLookup (.type T) "__getitem__" = pure (some (.builtin id))) (hs : NoSl slice)
  (h : wpAny (model prog w) A (eval value env) (fun o s₁ => wpAny (model prog w) A (eval slice env) (fun i s₂ => s₂.TypeIs o T /\ wpAny (model prog w) A (getItem o i) Q E s₂) E s₁) E s) :
  wpAny (model prog w) A (eval (.Subscript value slice pos) env) Q E s := by
 refine Subscript_ (wpAny_mono h (fun o s₁ h₁ => wpAny_mono h₁ (fun i s₂ h₂ => ?_) fun _ _ x => x) fun _ _ x => x)
 obtain ⟨hT, h₂⟩ := h₂
 unfold subscriptTail
 refine wpAny_bind ?_
 rw [getitemInPython_of_ne hT.not_modules]
 refine wpAny_bind (wpAny_specialOf hT hl ?_)
 have fin : wpAny (model prog w) A (subscripted slice false o i) (fun r s₃ => wpAny (model prog w) A (letTemporaryGo value o r >>= fun _ => pure r) Q E s₃) E s₂ := by
  rw [hs o i]
  exact wpAny_operating (wpAny_mono h₂ (fun r s₃ h₃ => wpAny_bind (wpAny_letTemporaryGo (wpAny_pure h₃))) fun _ _ x => x)
 first
  | exact wpAny_pure (wpAny_bind fin)
  | exact wpAny_bind (wpAny_pure (wpAny_bind fin))
  | exact wpAny_bind fin
theorem dict_typeIs {X : Cx} {pins : List (Addr × Obj)} {σ : St} {H : Hp} {s : Shared} {a : Addr} {y : V} {o : Option V} (I : Inv X pins σ H s) (g : DGet H a y o) : s.TypeIs (.ref a) "dict" := by
 rcases g with ⟨kvs, k, e, _, _⟩ | ⟨kvs, k, b, e, _, _, _⟩
 ·obtain ⟨_, _, vs, _, dd⟩ := dk_rd I.hok e
  exact dd.typeIs
 ·obtain ⟨_, _, xs, _, dd⟩ := dt_rd I.hok e
  exact dd.typeIs
def tDGet (td ty : TE) : TE := fun σ H Q => td σ H fun x H1 => ty σ H1 fun y H2 => ∃ a v, x = .ref a /\ DGet H2 a y (some v) /\ Q v H2
def tDIn (ty td : TE) : TE := fun σ H Q => ty σ H fun y H1 => td σ H1 fun x H2 => ∃ a o, x = .ref a /\ DGet H2 a y o /\ Q (.bl o.isSome) H2
def tDNotIn (ty td : TE) : TE := fun σ H Q => ty σ H fun y H1 => td σ H1 fun x H2 => ∃ a o, x = .ref a /\ DGet H2 a y o /\ Q (.bl (!o.isSome)) H2
def sDPut (td ty tv : TE) : TS := fun D σ H => tv σ H fun v H1 => td σ H1 fun x H2 => ty σ H2 fun y H3 => ∃ a H4, x = .ref a /\ DPut H3 a y v H4 /\ D.nx σ H4
def sDDel (td ty : TE) : TS := fun D σ H => td σ H fun x H1 => ty σ H1 fun y H2 => ∃ a kvs k, x = .ref a /\ H2 a = some (.dK kvs) /\ y = kV k /\ (valV kvs k).isSome = true /\ D.nx σ (upd H2 a (.dK (dropK kvs k)))
section
variable {X : Cx} {o i e value : Expr} {pos pos' tpos : Pos} {td ty tv : TE}
theorem pe_dget (hu : X.A.units + 1 < cLine) (ho : PE X o td) (hi : PE X i ty) (hs : NoSl i) : PE X (.Subscript o i pos) (tDGet td ty) := by
 intro pins s σ H Q I h
 refine subD_of PySem.F.slot_dict_getitem.lookup hs (thn (ho pins s σ H _ I h) fun u s1 ⟨x, H1, I1, rx, q1⟩ => thn (hi pins s1 σ H1 _ I1 q1) fun iv s2 ⟨y, H2, I2, ry, a, v, ex, g, q2⟩ => ?_)
 subst ex
 obtain rfl : u = Value.ref a := rx
 exact ⟨dict_typeIs I2 g, d_getItem hu I2 g ry fun w' s3 I3 rw' => ⟨v, H2, I3, rw', q2⟩⟩
theorem pc_din (hu : X.A.units + 1 < cLine) (hi : PE X i ty) (ho : PE X o td) : PC X .In i o (tDIn ty td) := by
 intro pins s σ H Q I h
 refine thn (hi pins s σ H _ I h) fun iv s1 ⟨y, H1, I1, ry, q1⟩ => thn (ho pins s1 σ H1 _ I1 q1) fun u s2 ⟨x, H2, I2, rx, a, ov, ex, g, q2⟩ => ?_
 subst ex
 obtain rfl : u = Value.ref a := rx
 exact d_in hu I2 g ry fun s3 I3 => ⟨.bl ov.isSome, H2, I3, rfl, q2⟩
theorem pc_dnotin (hu : X.A.units + 1 < cLine) (hi : PE X i ty) (ho : PE X o td) : PC X .NotIn i o (tDNotIn ty td) := by
 intro pins s σ H Q I h
 refine thn (hi pins s σ H _ I h) fun iv s1 ⟨y, H1, I1, ry, q1⟩ => thn (ho pins s1 σ H1 _ I1 q1) fun u s2 ⟨x, H2, I2, rx, a, ov, ex, g, q2⟩ => ?_
 subst ex
 obtain rfl : u = Value.ref a := rx
 exact d_notIn hu I2 g ry fun s3 I3 => ⟨.bl (!ov.isSome), H2, I3, rfl, q2⟩
theorem ps_dput (hu : X.A.units + 1 < cLine) (ho : PE X o td) (hi : PE X i ty) (hv : PE X value tv) (hs : swapsWith value (some (.Subscript o i pos')) pos.line X.env = pure false) :
  PS X (.Assign [.Subscript o i pos'] value pos) (sDPut td ty tv) := by
 intro pins s σ H D I h
 refine wpAny_Assign_Subscript (thn (hv pins s σ H _ I h) fun r s1 ⟨v, H1, I1, rv, q1⟩ => thn (ho pins s1 σ H1 _ I1 q1) fun u s2 ⟨x, H2, I2, rx, q2⟩ => thn (hi pins s2 σ H2 _ I2 q2) fun iv s3 ⟨y, H3, I3, ry, a, H4, ex, g, q3⟩ => ?_) hs
 subst ex
 obtain rfl : u = Value.ref a := rx
 exact d_setItem hu I3 g ry rv fun s4 I4 => ⟨σ, H4, I4, q3⟩
theorem ps_ddel (ho : PE X o td) (hi : PE X i ty) : PS X (.Delete [.Subscript o i tpos] pos) (sDDel td ty) := by
 intro pins s σ H D I h
 refine wpAny_Delete (wpAny_deleteEach_cons (wpAny_delete_Subscript (thn (ho pins s σ H _ I h) fun u s1 ⟨x, H1, I1, rx, q1⟩ => thn (hi pins s1 σ H1 _ I1 q1) fun iv s2 ⟨y, H2, I2, ry, a, kvs, k, ex, e, ey, l, q2⟩ => ?_)))
 subst ex ey
 obtain rfl : u = Value.ref a := rx
 exact d_delItem I2 e ry l fun s3 I3 => wpAny_deleteEach_nil ⟨σ, _, I3, q2⟩
end
theorem dk_empty {P : Program} {w : World} {H : Hp} (h : Heap) (hb : sysModules < h.objs.size) : ObjOk P w H (h.push { cls := .type "dict", data := .dict #[] }) h.objs.size (.dK []) :=
 ⟨Nat.zero_le _, beq_eq_false_iff_ne.mpr (Ne.symm (Nat.ne_of_lt hb)), [], .nil, Heap.DictOf.new h⟩
theorem dt_empty {P : Program} {w : World} {H : Hp} (h : Heap) (hb : sysModules < h.objs.size) : ObjOk P w H (h.push { cls := .type "dict", data := .dict #[] }) h.objs.size (.dT []) :=
 ⟨Nat.zero_le _, beq_eq_false_iff_ne.mpr (Ne.symm (Nat.ne_of_lt hb)), [], .nil, _, #[], 0, Heap.get?_push_size _ rfl, ⟨rfl, rfl, rfl⟩, rfl, rfl, List.nodup_nil⟩
def tDNewK : TE := fun _ H Q => ∀ p, H p = none -> Q (.ref p) (upd H p (.dK []))
def tDNewT : TE := fun _ H Q => ∀ p, H p = none -> Q (.ref p) (upd H p (.dT []))
section
variable {X : Cx} {pos : Pos}
theorem pe_dnewK : PE X (.Dict [] [] pos) tDNewK := fun pins s σ H Q I h =>
 wpAny_Dict_empty ⟨.ref s.heap.objs.size, _, I.laid (a := s.heap.objs.size) (o := .dK []) (t' := s.toks) (fun _ _ q => Heap.get?_push_of_some _ q) (Nat.le_refl _) (dk_empty s.heap I.big), rfl, h _ (I.hok.fresh (Nat.le_refl _))⟩
theorem pe_dnewT : PE X (.Dict [] [] pos) tDNewT := fun pins s σ H Q I h =>
 wpAny_Dict_empty ⟨.ref s.heap.objs.size, _, I.laid (a := s.heap.objs.size) (o := .dT []) (t' := s.toks) (fun _ _ q => Heap.get?_push_of_some _ q) (Nat.le_refl _) (dt_empty s.heap I.big), rfl, h _ (I.hok.fresh (Nat.le_refl _))⟩
end
structure M1 (X : Cx) (o : Expr) (m : Str) (apos : Pos) (e : Expr) (cpos : Pos) : Prop where
 base : attributeBase o m X.env (eval o X.env) = eval o X.env
 few : ((backTo cpos (starEach [e] X.env)).all (fun x => !x.1) && (backToKw cpos (keywordEach [] X.env)).all (fun x => x.1.isSome)
  && decide (([e] : List Expr).length + ([] : List Keyword).length + (if ([] : List Keyword).isEmpty then 0 else 1) < 30)) = true
 line : (apos.endLine == cpos.line) = true
 trees : backTo cpos (starEach [e] X.env) = [(false, eval e X.env)]
structure M2 (X : Cx) (o : Expr) (m : Str) (apos : Pos) (e f : Expr) (cpos : Pos) : Prop where
 base : attributeBase o m X.env (eval o X.env) = eval o X.env
 few : ((backTo cpos (starEach [e, f] X.env)).all (fun x => !x.1) && (backToKw cpos (keywordEach [] X.env)).all (fun x => x.1.isSome)
  && decide (([e, f] : List Expr).length + ([] : List Keyword).length + (if ([] : List Keyword).isEmpty then 0 else 1) < 30)) = true
 line : (apos.endLine == cpos.line) = true
 trees : backTo cpos (starEach [e, f] X.env) = [(false, eval e X.env), (false, eval f X.env)]
def IsD (H : Hp) (a : Addr) : Prop := (∃ kvs, Rd H a (.dK kvs)) ∨ ∃ kvs, Rd H a (.dT kvs)
theorem isD_at {X : Cx} {pins : List (Addr × Obj)} {σ : St} {H : Hp} {s : Shared} {a : Addr} (I : Inv X pins σ H s) (d : IsD H a) :
  s.TypeIs (.ref a) "dict" /\ (∀ b, Value.ref a = .ref b -> ∃ ob, s.heap.get? b = some ob /\ ob.dict = none) /\ (a == sysModules) = false := by
 rcases d with ⟨kvs, e⟩ | ⟨kvs, e⟩
 ·obtain ⟨_, hd, vs, _, dd⟩ := dk_rd I.hok e
  refine ⟨dd.typeIs, fun b q => ?_, hd⟩
  cases q
  obtain ⟨ob, _, _, h1, h2, _⟩ := dd
  exact ⟨ob, h1, h2.2.1⟩
 ·obtain ⟨_, hd, xs, _, dd⟩ := dt_rd I.hok e
  refine ⟨dd.typeIs, fun b q => ?_, hd⟩
  cases q
  obtain ⟨ob, _, _, h1, h2, _⟩ := dd
  exact ⟨ob, h1, h2.2.1⟩
section
variable {X : Cx} {pins : List (Addr × Obj)} {σ : St} {H : Hp} {s : Shared} {a : Addr} {y d : V} {u r : Value} {o : Option V} {A : Around} {E : Value -> Shared -> Prop}
theorem d_get1 {Q : Value -> Shared -> Prop} (hu : A.units + 1 < cLine) (I : Inv X pins σ H s) (g : DGet H a y o) (ry : RelV y u) (h : ∀ w' s', Inv X pins σ H s' -> RelV (o.getD .non) w' -> Q w' s') :
  wpAny (model X.prog X.w) A (call (.builtin "dict.get") [.ref a, u]) Q E s := by
 rcases g with ⟨kvs, k, e, ey, l⟩ | ⟨kvs, k, b, e, ey, eb, l⟩
 ·subst ey
  obtain ⟨z, hd, vs, rel, dd⟩ := dk_rd I.hok e
  refine call_meetsIn PySem.F.slot_dict_get dd.typeIs PySem.F.entry_dict_get (PySem.F.args_dict_get_2 _ _) (meets_dict_get (mixKind X.prog X.w) a (kV_is ry) hd) ⟨_, dd.mapOf, h _ _ (I.tok _) ?_⟩
  rw [l]
  exact (rel.val k).getD rfl
 ·subst ey
  cases (show u = Value.ref b from ry)
  obtain ⟨z, hd, xs, rel, dd⟩ := dt_rd I.hok e
  refine call_meetsIn PySem.F.slot_dict_get dd.typeIs PySem.F.entry_dict_get (PySem.F.args_dict_get_2 _ _) (meetsH_dict_get (tupleKind (mixKind X.prog X.w)) a b hd) ⟨tupleKind_room_in1 hu, k, xs, key_of I.hok eb, dd, h _ _ (I.tok _) ?_⟩
  rw [l]
  exact (rel.val k).getD rfl
end
def tDGet1 (td ty : TE) : TE := fun σ H Q => td σ H fun x H1 => ∃ a, x = .ref a /\ IsD H1 a /\ ty σ H1 fun y H2 => ∃ o, DGet H2 a y o /\ Q (o.getD .non) H2
def tDPop2 (td ty tx : TE) : TE := fun σ H Q => td σ H fun x H1 => ∃ a, x = .ref a /\ IsD H1 a /\ ty σ H1 fun y H2 => tx σ H2 fun z H3 => ∃ kvs k, H3 a = some (.dK kvs) /\ y = kV k /\
 (∀ v, valV kvs k = some v -> Q v (upd H3 a (.dK (dropK kvs k)))) /\ (valV kvs k = none -> Q z H3)
section
variable {X : Cx} {o e f : Expr} {apos cpos : Pos} {td ty tx : TE}
theorem pe_dget1 (hu : X.A.units + 1 < cLine) (ho : PE X o td) (he : PE X e ty) (m : M1 X o "get" apos e cpos) : PE X (.Call (.Attribute o "get" apos) [e] [] cpos) (tDGet1 td ty) := by
 intro pins s σ H Q I h
 refine wpAny_Call_method m.base m.few m.line PySem.F.plainAttrs_dict PySem.F.slot_dict_get PySem.F.type_dict_get (thn (ho pins s σ H _ I h) fun u s1 ⟨x, H1, I1, rx, a, ex, d, q1⟩ => ?_)
 subst ex
 obtain rfl : u = Value.ref a := rx
 obtain ⟨t1, t2, _⟩ := isD_at I1 d
 refine ⟨t1, t2, ?_⟩
 rw [m.trees]
 refine Calls.callWith_builtin rfl (Calls.evalArgs_plain (Calls.spliced_cons (thn (he pins s1 σ H1 _ I1 q1) fun iv s2 ⟨y, H2, I2, ry, ov, g, q2⟩ => Calls.spliced_nil ?_)))
 exact d_get1 hu I2 g ry fun w' s3 I3 rw' => ⟨_, H2, I3, rw', q2⟩
theorem pe_dpop2 (ho : PE X o td) (he : PE X e ty) (hf : PE X f tx) (m : M2 X o "pop" apos e f cpos) : PE X (.Call (.Attribute o "pop" apos) [e, f] [] cpos) (tDPop2 td ty tx) := by
 intro pins s σ H Q I h
 refine wpAny_Call_method m.base m.few m.line PySem.F.plainAttrs_dict PySem.F.slot_dict_pop PySem.F.type_dict_pop (thn (ho pins s σ H _ I h) fun u s1 ⟨x, H1, I1, rx, a, ex, d, q1⟩ => ?_)
 subst ex
 obtain rfl : u = Value.ref a := rx
 obtain ⟨t1, t2, _⟩ := isD_at I1 d
 refine ⟨t1, t2, ?_⟩
 rw [m.trees]
 refine Calls.callWith_builtin rfl (Calls.evalArgs_plain (Calls.spliced_cons (thn (he pins s1 σ H1 _ I1 q1) fun iv s2 ⟨y, H2, I2, ry, q2⟩ =>
  Calls.spliced_cons (thn (hf pins s2 σ H2 _ I2 q2) fun fv s3 ⟨z, H3, I3, rz, kvs, k, ea, ey, q3, q4⟩ => Calls.spliced_nil ?_))))
 subst ey
 cases l : valV kvs k with
 | some v => exact d_pop I3 ea ry l (.inr ⟨fv, rfl⟩) fun w' s4 I4 rw' => ⟨v, _, I4, rw', q3 v l⟩
 | none => exact d_popD I3 ea ry l fun s4 I4 => ⟨z, H3, I4, rz, q4 l⟩
end
section
variable {X : Cx} {pins : List (Addr × Obj)} {σ : St} {H : Hp} {s : Shared} {a : Addr} {kvs : List (Key × V)} {A : Around} {E : Value -> Shared -> Prop}
end
section
variable {X : Cx} {pins : List (Addr × Obj)} {σ : St} {H : Hp} {s : Shared} {a : Addr} {y : V} {u : Value} {A : Around} {E : Value -> Shared -> Prop}
end
end L2
namespace HT
open PySem PyProof.Rows
section
open PySem.SeqAt
open PySem.AutoSeq1 (wpAny_loadPart')
open PySem.MeetsSeq PySem.MeetsSeq2 PySem.MeetsSeq3
end
section
variable {prog : Program} {w : World} {A : Around} {E : Value -> Shared -> Prop} {s : Shared}
def sIx (n d : Nat) : Option Int -> Nat
 | none => d
 | some v => if v < 0 then (v + (n : Int)).toNat else min v.toNat n
end
end HT
namespace L2
open PySem PySem.Spec PyProof.Rows
abbrev TO := St -> Hp -> (Option Int -> Hp -> Prop) -> Prop
def PO (X : Cx) (e : Option Expr) (t : TO) : Prop :=
 ∀ (pins : List (Addr × Obj)) (s : Shared) (σ : St) (H : Hp) (Q : Option Int -> Hp -> Prop), Inv X pins σ H s -> t σ H Q ->
  wpAny (model X.prog X.w) X.A (evalPart e X.env) (fun u s' => ∃ o H', Inv X pins σ H' s' /\ IsPart u o /\ Q o H') X.xe s
def tNoPart : TO := fun _ H Q => Q none H
def tPart (t : TE) : TO := fun σ H Q => t σ H fun x H1 => ∃ i, x = .int i /\ Q (some i) H1
section
variable {X : Cx} {e : Expr} {te : TE} {lo hi : Option Expr} {tl th : TO} {pos p2 : Pos}
theorem po_none : PO X none tNoPart := by
 intro pins s σ H Q I h
 rw [evalPart_none]
 exact wpAny_pure ⟨none, H, I, .none, h⟩
theorem po_some (h : PE X e te) : PO X (some e) (tPart te) := by
 intro pins s σ H Q I hw
 rw [evalPart_some]
 refine thn (h pins s σ H _ I hw) fun u s1 ⟨x, H1, I1, r1, q1⟩ => ?_
 obtain ⟨i, rfl, q⟩ := q1
 obtain ⟨t, rfl⟩ := r1
 exact ⟨some i, H1, I1, .int i t, q⟩
def SlR (X : Cx) (r : V -> Option Int -> Option Int -> Hp -> VK -> Prop) : Prop :=
 ∀ (pins : List (Addr × Obj)) (s : Shared) (σ : St) (H : Hp) (x : V) (v vl vu : Value) (lo hi : Option Int) (sl : Addr) (Q : VK), Inv X pins σ H s -> RelV x v -> s.heap.IsSliceOf sl vl vu .none -> IsPart vl lo -> IsPart vu hi -> r x lo hi H Q ->
  ∃ T id, typeLookup (.type T) "__getitem__" = pure (some (.builtin id)) /\ s.TypeIs v T /\ wpAny (model X.prog X.w) X.A (getItem v (.ref sl)) (EP X pins σ Q) X.xe s
theorem SlR.or {r r' : V -> Option Int -> Option Int -> Hp -> VK -> Prop} (h : SlR X r) (h' : SlR X r') : SlR X (fun x lo hi H Q => r x lo hi H Q ∨ r' x lo hi H Q) := by
 intro pins s σ H x v vl vu lo hi sl Q I rx hs pl pu q
 rcases q with q | q
 ·exact h pins s σ H x v vl vu lo hi sl Q I rx hs pl pu q
 ·exact h' pins s σ H x v vl vu lo hi sl Q I rx hs pl pu q
def tSl (r : V -> Option Int -> Option Int -> Hp -> VK -> Prop) (te : TE) (tl th : TO) : TE := fun σ H Q => te σ H fun x H1 => tl σ H1 fun l H2 => th σ H2 fun u H3 => r x l u H3 Q
theorem pe_slice {r : V -> Option Int -> Option Int -> Hp -> VK -> Prop} (hr : SlR X r) (he : PE X e te) (hl : PO X lo tl) (hu : PO X hi th) : PE X (.Subscript e (.Slice lo hi none p2) pos) (tSl r te tl th) := by
 intro pins s σ H Q I h
 refine Subscript_ (thn (he pins s σ H _ I h) fun v s1 ⟨x, H1, I1, r1, q1⟩ => ?_)
 refine wpAny_Slice (thn (hl pins s1 σ H1 _ I1 q1) fun vl s2 ⟨l, H2, I2, pl, q2⟩ => thn (hu pins s2 σ H2 _ I2 q2) fun vu s3 ⟨u, H3, I3, pu, q3⟩ => ?_)
 rw [evalPart_none]
 refine wpAny_pure ?_
 have I4 : Inv X pins σ H3 { s3 with heap := s3.heap.push { cls := .type "slice", data := .fields #[vl, vu, .none] } } := I3.kept (t' := s3.toks) fun b ob q => Heap.get?_push_of_some _ q
 obtain ⟨T, id, hT, ht, hg⟩ := hr pins { s3 with heap := s3.heap.push { cls := .type "slice", data := .fields #[vl, vu, .none] } } σ H3 x v vl vu l u s3.heap.objs.size Q I4 r1 (Heap.IsSliceOf.new ..) pl pu q3
 show wpAny (model X.prog X.w) X.A (subscriptTail e (.Slice lo hi none p2) v (.ref s3.heap.objs.size)) (EP X pins σ Q) X.xe { s3 with heap := s3.heap.push { cls := .type "slice", data := .fields #[vl, vu, .none] } }
 exact tail_any (ops := [.ref s3.heap.objs.size, v]) ht hT hg (by with_unfolding_all rfl)
def cutV (xs : List V) (lo hi : Option Int) : List V := (xs.drop (HT.sIx xs.length 0 lo)).take (HT.sIx xs.length xs.length hi - HT.sIx xs.length 0 lo)
theorem cutV_length (xs : List V) (lo hi : Option Int) : (cutV xs lo hi).length <= xs.length := by
 unfold cutV
 rw [List.length_take, List.length_drop]
 omega
end
end L2
namespace L2
open PySem PySem.Spec PyProof.Rows
def ixN (n : Nat) (i : Int) : Option Nat := if 0 <= i then (if i < n then some i.toNat else none) else if -(n : Int) <= i then some (i + n).toNat else none
def atI {α : Type} (xs : List α) (i : Int) : Option α := (ixN xs.length i).bind fun j => xs[j]?
theorem ixN_seq {n : Nat} {i : Int} {j : Nat} (h : ixN n i = some j) : seqIndex? i n = some j /\ j < n /\ -(n : Int) <= i /\ i < n := by
 unfold ixN at h
 by_cases h0 : 0 <= i
 ·rw [if_pos h0] at h
  by_cases h1 : i < n
  ·rw [if_pos h1] at h
   have e : i.toNat = j := Option.some.inj h
   exact ⟨by rw [seqIndex_of h0 h1, e], by omega, by omega, h1⟩
  ·rw [if_neg h1] at h; cases h
 ·rw [if_neg h0] at h
  by_cases h1 : -(n : Int) <= i
  ·rw [if_pos h1] at h
   have e : (i + n).toNat = j := Option.some.inj h
   exact ⟨by rw [seqIndex_neg (by omega) h1, e], by omega, h1, by omega⟩
  ·rw [if_neg h1] at h; cases h
theorem atI_get {α : Type} {xs : List α} {i : Int} {v : α} (h : atI xs i = some v) : ∃ j, seqIndex? i xs.length = some j /\ xs[j]? = some v /\ j < xs.length /\ -(xs.length : Int) <= i /\ i < xs.length := by
 unfold atI at h
 cases e : ixN xs.length i with
 | none => rw [e] at h; cases h
 | some j =>
  rw [e] at h
  obtain ⟨h1, h2, h3, h4⟩ := ixN_seq e
  exact ⟨j, h1, h, h2, h3, h4⟩
theorem atI_nat {α : Type} {xs : List α} {j : Nat} {v : α} (h : xs[j]? = some v) : atI xs (j : Int) = some v := by
 have hj : j < xs.length := (List.getElem?_eq_some_iff.mp h).1
 have e : ixN xs.length (j : Int) = some j := by
  unfold ixN
  rw [if_pos (by omega), if_pos (by omega)]; simp
 unfold atI; rw [e]; exact h
def PlainIx (b : Expr) : Prop := ∀ o i, subscripted b false o i = operate [o, i] (getItem o i)
def IxR (X : Cx) (r : R2) : Prop :=
 ∀ (value slice : Expr) (pins : List (Addr × Obj)) (s : Shared) (σ : St) (H : Hp) (x y : V) (v u : Value) (Q : VK), Inv X pins σ H s -> RelV x v -> RelV y u -> r x y H Q ->
  subscripted slice false v u = operate [v, u] (getItem v u) -> wpAny (model X.prog X.w) X.A (subscriptTail value slice v u) (EP X pins σ Q) X.xe s
def MtR (X : Cx) (id : String) (r : V -> List V -> Hp -> VK -> Prop) : Prop :=
 ∀ (pins : List (Addr × Obj)) (s : Shared) (σ : St) (H : Hp) (x : V) (xs : List V) (v : Value) (us : List Value) (Q : VK), Inv X pins σ H s -> RelV x v -> Vals xs us -> r x xs H Q ->
  wpAny (model X.prog X.w) X.A (call (.builtin id) (v :: us)) (EP X pins σ Q) X.xe s
section
variable {X : Cx} {a b : Expr} {ta tb : TE} {pos : Pos}
theorem IxR.or {r r' : R2} (h : IxR X r) (h' : IxR X r') : IxR X (fun x y H Q => r x y H Q ∨ r' x y H Q) := by
 intro value slice pins s σ H x y v u Q I rx ry q hs
 rcases q with q | q
 ·exact h value slice pins s σ H x y v u Q I rx ry q hs
 ·exact h' value slice pins s σ H x y v u Q I rx ry q hs
theorem MtR.or {id : String} {r r' : V -> List V -> Hp -> VK -> Prop} (h : MtR X id r) (h' : MtR X id r') : MtR X id (fun x xs H Q => r x xs H Q ∨ r' x xs H Q) := by
 intro pins s σ H x xs v us Q I rx rs q
 rcases q with q | q
 ·exact h pins s σ H x xs v us Q I rx rs q
 ·exact h' pins s σ H x xs v us Q I rx rs q
theorem pe_ix {r : R2} (hr : IxR X r) (ha : PE X a ta) (hb : PE X b tb) (hs : PlainIx b) : PE X (.Subscript a b pos) (tOp r ta tb) := by
 intro pins s σ H Q I h
 exact Subscript_ (binT ha hb I h fun v u s2 x y H2 I2 rx ry q => hr a b pins s2 σ H2 x y v u Q I2 rx ry q (hs _ _))
def rIxL (K : PySem.W.Frag) : R2 := fun x y H Q => ∃ p xs i v, x = .ref p /\ y = .int i /\ SqL K H p xs /\ atI xs i = some v /\ Q v H
def rIxT (K : PySem.W.Frag) : R2 := fun x y H Q => ∃ p xs i v, x = .ref p /\ y = .int i /\ SqT K H p xs /\ atI xs i = some v /\ Q v H
def rIxS : R2 := fun x y H Q => ∃ z i c, x = .str z /\ y = .int i /\ z.length <= sizeLine /\ atI z.cps.toList i = some c /\ Q (.str ⟨#[c]⟩) H
theorem ix_list : IxR X (rIxL X.K) := by
 intro value slice pins s σ H x y v u Q I rx ry h hs
 obtain ⟨p, xs, i, z, rfl, rfl, hq, he, q⟩ := h
 cases rx
 obtain ⟨t, rfl⟩ := ry
 obtain ⟨its, r, pl, hz⟩ := I.list hq
 obtain ⟨j, h1, h2, h3, h4, h5⟩ := atI_get he
 obtain ⟨w, ew, rw'⟩ := r.get h2
 have hl := r.length
 have hn := line63
 have fin : EP X pins σ Q w s := ⟨z, H, I, rw', q⟩
 by_cases h0 : 0 <= i
 ·have hj : i.toNat = j := by
   rw [seqIndex_of h0 h5] at h1
   exact Option.some.inj h1
  exact item_listR pl.isList h0 (by omega) (by rw [hj]; simpa using ew) fin hs
 ·have hj : (i + (its.toArray.size : Int)).toNat = j := by
   rw [seqIndex_neg (by omega) h4] at h1
   rw [List.size_toArray, <- hl]
   exact Option.some.inj h1
  exact subscriptTail_builtinR (x := w) pl.isList.typeIs slot_list_getitem.lookup
   (wpAny_getItem_list_neg (Q := fun r s' => r = w /\ EP X pins σ Q r s') pl.isList (by omega) (by rw [List.size_toArray] <;> omega) (by omega) (by rw [hj]; simpa using ew) ⟨rfl, fin⟩) hs
theorem ix_tup : IxR X (rIxT X.K) := by
 intro value slice pins s σ H x y v u Q I rx ry h hs
 obtain ⟨p, xs, i, z, rfl, rfl, hq, he, q⟩ := h
 cases rx
 obtain ⟨t, rfl⟩ := ry
 obtain ⟨its, r, pl, hz⟩ := I.tuple hq
 obtain ⟨j, h1, h2, h3, h4, h5⟩ := atI_get he
 obtain ⟨w, ew, rw'⟩ := r.get h2
 have hl := r.length
 have hn := line63
 have fin : EP X pins σ Q w s := ⟨z, H, I, rw', q⟩
 exact subscriptTail_builtinR (x := w) pl.typeIs slot_tuple_getitem.lookup
  (getItem_tuple (j := j) (Q := fun r s' => r = w /\ EP X pins σ Q r s') pl (by omega) (by omega) (by rw [List.size_toArray, <- hl]; exact h1) (by simpa using ew) ⟨rfl, fin⟩) hs
theorem ix_str : IxR X rIxS := by
 intro value slice pins s σ H x y v u Q I rx ry h hs
 obtain ⟨z, i, c, rfl, rfl, hz, he, q⟩ := h
 obtain ⟨t, rfl⟩ := rx
 obtain ⟨t', rfl⟩ := ry
 obtain ⟨j, h1, h2, h3, h4, h5⟩ := atI_get he
 have hl : z.cps.toList.length = z.length := by simp [Str.length]
 rw [hl] at h1 h4 h5
 have hn := line63
 exact tail_any (typeIs_str s z t) slot_str_getitem.lookup (getItem_str (c := c) (by
  have e1 : decide (i < -(2 ^ 63 : Int)) = false := decide_eq_false (by omega)
  have e2 : decide (i ≥ 2 ^ 63) = false := decide_eq_false (by omega)
  rw [e1, e2, Bool.or_false]) (by rw [h1]; simpa using h2) ⟨.str ⟨#[c]⟩, H, I.tok _, ⟨_, rfl⟩, q⟩) hs
theorem mapSeq_set (its : List Value) (n j : Nat) (u : Value) : Obj.mapSeq (·.setIfInBounds j u) { cls := .type "list", data := .seq its.toArray n } = { cls := .type "list", data := .seq (its.set j u).toArray n } := by
 simp [Obj.mapSeq]
theorem Inv.lst {pins : List (Addr × Obj)} {σ : St} {H : Hp} {s : Shared} {p : Addr} {xs : List V} (I : Inv X pins σ H s) (h : H p = some (.lst xs)) :
  ∃ (its : List Value) (n : Nat), Vals xs its /\ s.heap.get? p = some { cls := .type "list", data := .seq its.toArray n } /\ xs.length <= sizeLine := by
 obtain ⟨z, its, n, r, e⟩ := I.hok p _ h
 exact ⟨its, n, r, e, z⟩
theorem Inv.lstUpd {pins : List (Addr × Obj)} {σ : St} {H : Hp} {s : Shared} {p : Addr} {xs ys : List V} {its its' : List Value} {n n' : Nat} {f : Obj -> Obj} (I : Inv X pins σ H s) (h : H p = some (.lst xs))
  (ho : s.heap.get? p = some { cls := .type "list", data := .seq its.toArray n }) (hf : f { cls := .type "list", data := .seq its.toArray n } = { cls := .type "list", data := .seq its'.toArray n' }) (r : Vals ys its') (hz : ys.length <= sizeLine) (t : Nat) :
  Inv X pins σ (upd H p (.lst ys)) { s with heap := s.heap.update p f, toks := t } := by
 have e : (s.heap.update p f).get? p = some { cls := .type "list", data := .seq its'.toArray n' } := by
  rw [Heap.get?_update_self f ho (by rw [hf] <;> rfl), hf]
 refine I.write (x := p) (e := p) (by rw [h]; trivial) (.inl rfl) (fun b u hb q => (Heap.get?_update_other _ _ (Ne.symm hb)).trans q) ⟨_, e⟩ ?_
 exact ⟨hz, its', n', r, e⟩
def rSetL : V -> V -> V -> Hp -> (Hp -> Prop) -> Prop := fun o i v H Q => ∃ p xs k j, o = .ref p /\ i = .int k /\ H p = some (.lst xs) /\ ixN xs.length k = some j /\ Q (upd H p (.lst (xs.set j v)))
theorem set_list : PSet X rSetL := by
 intro pins s σ H o i v ov iv u Q I ro ri rv h
 obtain ⟨p, xs, k, j, rfl, rfl, hp, hj, q⟩ := h
 cases ro
 obtain ⟨t, rfl⟩ := ri
 obtain ⟨its, n, r, ho, hz⟩ := I.lst hp
 obtain ⟨h1, h2, h3, h4⟩ := ixN_seq hj
 have hl := r.length
 have hn := line63
 have I' : Inv X pins σ (upd H p (.lst (xs.set j v))) { s with heap := s.heap.update p (Obj.mapSeq (·.setIfInBounds j u)) } :=
  I.lstUpd hp ho (mapSeq_set its n j u) (r.set rv j) (by rw [List.length_set]; exact hz) s.toks
 by_cases h0 : 0 <= k
 ·have hk : k.toNat = j := by
   rw [seqIndex_of h0 h4] at h1
   exact Option.some.inj h1
  exact PySem.W.ki_setAt ho h0 (by omega) (by rw [List.size_toArray, <- hl]; exact h4) (by rw [hk]; exact ⟨_, I', q⟩)
 ·have hk : (k + (its.toArray.size : Int)).toNat = j := by
   rw [seqIndex_neg (by omega) h3] at h1
   rw [List.size_toArray, <- hl]
   exact Option.some.inj h1
  exact PySem.W.ki_setBack ho (by omega) (by rw [List.size_toArray, <- hl]; exact h3) (by omega) (by rw [hk]; exact ⟨_, I', q⟩)
theorem slice_bounds (lo hi : Option Int) (n : Nat) : (sliceBounds lo hi none n).1 = ((HT.sIx n 0 lo : Nat) : Int) /\ (sliceBounds lo hi none n).2.1 = ((HT.sIx n n hi : Nat) : Int) /\ (sliceBounds lo hi none n).2.2 = 1 := by
 refine ⟨?_, ?_, rfl⟩
 ·cases lo with
  | none => simp [sliceBounds, HT.sIx]
  | some i =>
   simp only [sliceBounds, HT.sIx, Option.getD_none, show (1 : Int) > 0 by decide, if_true]
   by_cases h : i < 0
   ·simp only [h, if_true] <;> omega
   ·simp only [h, if_false] <;> omega
 ·cases hi with
  | none => simp [sliceBounds, HT.sIx]
  | some i =>
   simp only [sliceBounds, HT.sIx, Option.getD_none, show (1 : Int) > 0 by decide, if_true]
   by_cases h : i < 0
   ·simp only [h, if_true] <;> omega
   ·simp only [h, if_false] <;> omega
theorem slicePick_cut (its : List Value) (lo hi : Option Int) : slicePick its.toArray lo hi none = ((its.drop (HT.sIx its.length 0 lo)).take (HT.sIx its.length its.length hi - HT.sIx its.length 0 lo)).toArray := by
 obtain ⟨h1, h2, h3⟩ := slice_bounds lo hi its.toArray.size
 unfold slicePick
 rw [h1, h2, h3]
 simp only [sliceRange_one, pick_run, List.size_toArray] <;> rfl
def rSlL (K : PySem.W.Frag) : V -> Option Int -> Option Int -> Hp -> VK -> Prop := fun x lo hi H Q => ∃ a xs, x = .ref a /\ SqL K H a xs /\ ∀ p, H p = none -> Q (.ref p) (upd H p (.lst (cutV xs lo hi)))
theorem sl_list : SlR X (rSlL X.K) := by
 intro pins s σ H x v vl vu lo hi sl Q I rx hs pl pu h
 obtain ⟨a, xs, rfl, hx, q⟩ := h
 cases rx
 obtain ⟨its, r, ht, hz⟩ := I.list hx
 have hlen := r.length
 refine ⟨"list", _, slot_list_getitem.lookup, ht.isList.typeIs, ?_⟩
 refine wpAny_getItem_list_slice ht.isList hs pl pu .none (by simp) ?_ (by rw [List.size_toArray] <;> omega)
 rw [slicePick_cut, <- hlen]
 refine ⟨.ref s.heap.objs.size, _, I.laid (t' := s.toks) (o := .lst (cutV xs lo hi)) (fun b ob q => Heap.get?_push_of_some _ q) (Nat.le_refl _) ?_, rfl, q _ (I.hok.fresh (Nat.le_refl _))⟩
 exact ⟨Nat.le_trans (cutV_length xs lo hi) hz, _, 0, (r.drop (HT.sIx xs.length 0 lo)).take (HT.sIx xs.length xs.length hi - HT.sIx xs.length 0 lo), Heap.get?_push_size _ rfl⟩
def flatV : V -> Bool
 | .non => true
 | .bl _ => true
 | .int _ => true
 | .str _ => true
 | _ => false
def eqV : V -> V -> Bool
 | .non, .non => true
 | .bl a, .bl b => a == b
 | .bl a, .int b => (if a then 1 else 0) == b
 | .int a, .bl b => a == (if b then 1 else 0)
 | .int a, .int b => a == b
 | .str a, .str b => a == b
 | _, _ => false
theorem eqAt_V {A : Around} {s : Shared} {y x : V} {u v : Value} (ry : RelV y u) (rx : RelV x v) (fy : flatV y = true) (fx : flatV x = true) : SeqAt.EqAt A s u v (eqV y x) := by
 cases y with
 | non =>
  cases ry
  cases x with
  | non => cases rx; exact SeqAt.EqAt.same _
  | bl b => cases rx; exact SeqAt.EqAt.none_bool b
  | int b => obtain ⟨t, rfl⟩ := rx; exact SeqAt.EqAt.none_int b t
  | str b => obtain ⟨t, rfl⟩ := rx; exact SeqAt.EqAt.none_str b t
  | _ => exact absurd (show false = true from fx) Bool.false_ne_true
 | bl a =>
  cases ry
  cases x with
  | non => cases rx; exact SeqAt.EqAt.bool_none a
  | bl b => cases rx; exact SeqAt.EqAt.bool_bool a b
  | int b => obtain ⟨t, rfl⟩ := rx; exact SeqAt.EqAt.bool_int a b t
  | str b => obtain ⟨t, rfl⟩ := rx; exact SeqAt.EqAt.bool_str a b t
  | _ => exact absurd (show false = true from fx) Bool.false_ne_true
 | int a =>
  obtain ⟨t', rfl⟩ := ry
  cases x with
  | non => cases rx; exact SeqAt.EqAt.int_none a t'
  | bl b => cases rx; exact SeqAt.EqAt.int_bool a t' b
  | int b => obtain ⟨t, rfl⟩ := rx; exact SeqAt.EqAt.int_int a t' b t
  | str b => obtain ⟨t, rfl⟩ := rx; exact SeqAt.EqAt.int_str a t' b t
  | _ => exact absurd (show false = true from fx) Bool.false_ne_true
 | str a =>
  obtain ⟨t', rfl⟩ := ry
  cases x with
  | non => cases rx; exact SeqAt.EqAt.str_none a t'
  | bl b => cases rx; exact SeqAt.EqAt.str_bool a t' b
  | int b => obtain ⟨t, rfl⟩ := rx; exact SeqAt.EqAt.str_int a t' b t
  | str b => obtain ⟨t, rfl⟩ := rx; exact SeqAt.EqAt.str_str a t' b t
  | _ => exact absurd (show false = true from fx) Bool.false_ne_true
 | _ => exact absurd (show false = true from fy) Bool.false_ne_true
def eqU (x : V) (u : Value) : Bool := match u with
 | .none => eqV .non x
 | .bool b => eqV (.bl b) x
 | .int i _ => eqV (.int i) x
 | .str z _ => eqV (.str z) x
 | _ => false
theorem eqU_of {x y : V} {u : Value} (r : RelV y u) (f : flatV y = true) : eqU x u = eqV y x := by
 cases y with
 | non => cases r; rfl
 | bl b => cases r; rfl
 | int i => obtain ⟨t, rfl⟩ := r; rfl
 | str z => obtain ⟨t, rfl⟩ := r; rfl
 | _ => exact absurd (show false = true from f) Bool.false_ne_true
theorem any_eqU {x : V} : ∀ {xs : List V} {us : List Value}, Vals xs us -> xs.all flatV = true -> us.any (eqU x) = xs.any fun y => eqV y x
 | _, _, .nil, _ => rfl
 | y :: xs, u :: us, .cons r t, f => by
  rw [List.all_cons, Bool.and_eq_true] at f
  rw [List.any_cons, List.any_cons, eqU_of r f.1, any_eqU t f.2]
theorem mem_eqAt {A : Around} {s : Shared} {x : V} {v : Value} (rx : RelV x v) (fx : flatV x = true) : ∀ {xs : List V} {us : List Value}, Vals xs us -> xs.all flatV = true -> ∀ u ∈ us, SeqAt.EqAt A s u v (eqU x u)
 | _, _, .nil, _ => fun u hu => by cases hu
 | y :: xs, u :: us, .cons r t, f => fun u' hu => by
  rw [List.all_cons, Bool.and_eq_true] at f
  rcases List.mem_cons.mp hu with rfl | hu
  ·rw [eqU_of r f.1]; exact eqAt_V r rx f.1 fx
  ·exact mem_eqAt rx fx t f.2 u' hu
def inV (x : V) (xs : List V) : Bool := xs.any fun y => eqV y x
def rIn (K : PySem.W.Frag) (neg : Bool) : R2 := fun x y H Q => ∃ p xs, y = .ref p /\ (SqL K H p xs ∨ SqT K H p xs) /\ flatV x = true /\ xs.all flatV = true /\ Q (.bl (if neg then !inV x xs else inV x xs)) H
theorem op_in_seq : OpR X (compareOp .In) (rIn X.K false) := by
 intro pins s σ H x y v u Q I rx ry h
 obtain ⟨p, xs, rfl, hq, fx, fs, q⟩ := h
 cases ry
 rcases hq with hq | hq
 ·obtain ⟨its, r, pl, hz⟩ := I.list hq
  refine SeqAt.in_listAt (eqU x) pl.isList (fun w hw => mem_eqAt rx fx r fs w (by simpa using hw)) ⟨.bl _, H, I, rfl, ?_⟩
  rw [show its.toArray.any (eqU x) = its.any (eqU x) by simp, any_eqU r fs]
  exact q
 ·obtain ⟨its, r, pl, hz⟩ := I.tuple hq
  refine SeqAt.in_tupleAt (eqU x) pl (fun w hw => mem_eqAt rx fx r fs w (by simpa using hw)) ⟨.bl _, H, I, rfl, ?_⟩
  rw [show its.toArray.any (eqU x) = its.any (eqU x) by simp, any_eqU r fs]
  exact q
theorem call_len_seq : CallR X (.builtin "len") (fun xs H Q => ∃ p ys, xs = [.ref p] /\ (SqL X.K H p ys ∨ SqT X.K H p ys) /\ Q (.int ys.length) H) := by
 intro pins s σ H xs us Q I r h
 obtain ⟨p, ys, rfl, hq, q⟩ := h
 obtain ⟨u, rfl, rx⟩ := vals1 r
 cases rx
 have hn := line63
 rcases hq with hq | hq
 ·obtain ⟨its, r', pl, hz⟩ := I.list hq
  have hlen := r'.length
  exact Calls.call_len_list pl.isList (by simp only [List.size_toArray] <;> omega) ⟨.int ys.length, H, I.tok _, ⟨s.toks + 1, by rw [List.size_toArray, hlen]⟩, q⟩
 ·obtain ⟨its, r', pl, hz⟩ := I.tuple hq
  have hlen := r'.length
  exact len_tuple pl (by simp only [List.size_toArray] <;> omega) ⟨.int ys.length, H, I.tok _, ⟨s.toks + 1, by rw [List.size_toArray, hlen]⟩, q⟩
theorem call_len_str : CallR X (.builtin "len") (fun xs H Q => ∃ z, xs = [.str z] /\ z.length <= sizeLine /\ Q (.int z.length) H) := by
 intro pins s σ H xs us Q I r h
 obtain ⟨z, rfl, hz, q⟩ := h
 obtain ⟨u, rfl, t, rfl⟩ := vals1 r
 have hn := line63
 exact len_str (by omega) ⟨.int z.length, H, I.tok _, ⟨_, rfl⟩, q⟩
theorem CallR.or {f : Value} {r r' : List V -> Hp -> VK -> Prop} (h : CallR X f r) (h' : CallR X f r') : CallR X f (fun xs H Q => r xs H Q ∨ r' xs H Q) := by
 intro pins s σ H xs us Q I rs q
 rcases q with q | q
 ·exact h pins s σ H xs us Q I rs q
 ·exact h' pins s σ H xs us Q I rs q
theorem call_list_of : CallR X (.type "list") (fun xs H Q => ∃ p ys, xs = [.ref p] /\ (SqL X.K H p ys ∨ SqT X.K H p ys) /\ ∀ l, H l = none -> Q (.ref l) (upd H l (.lst ys))) := by
 intro pins s σ H xs us Q I r h
 obtain ⟨p, ys, rfl, hq, q⟩ := h
 obtain ⟨u, rfl, rx⟩ := vals1 r
 cases rx
 have fin : ∀ (its : List Value), Vals ys its -> ys.length <= sizeLine -> ∀ (h' : Heap) (c' : Nat), (∀ b o', s.heap.get? b = some o' -> h'.get? b = some o') ->
   h'.get? s.heap.objs.size = some { cls := .type "list", dict := none, data := .seq its.toArray c', slots := #[] } -> EP X pins σ Q (.ref s.heap.objs.size) { s with heap := h' } := fun its r' hz h' c' kp e =>
  ⟨.ref s.heap.objs.size, _, I.laid (t' := s.toks) kp (Nat.le_refl _) (show ObjOk X.prog X.w _ h' _ (.lst ys) from ⟨hz, its, c', r', e⟩), rfl, q _ (I.hok.fresh (Nat.le_refl _))⟩
 rcases hq with hq | hq
 ·obtain ⟨its, r', pl, hz⟩ := I.list hq
  have hlen := r'.length
  obtain ⟨o, ho, hc, n, hd⟩ := pl.isList
  exact call_list_seq p (.inl rfl) ho hc hd (fun h' c' kp e => fin its r' hz h' c' kp e) (by simp only [List.size_toArray] <;> omega)
 ·obtain ⟨its, r', pl, hz⟩ := I.tuple hq
  have hlen := r'.length
  obtain ⟨o, ho, hc, n, hd⟩ := pl
  exact call_list_seq p (.inr rfl) ho hc hd (fun h' c' kp e => fin its r' hz h' c' kp e) (by simp only [List.size_toArray] <;> omega)
def tyV (K : PySem.W.Frag) (T : String) (x : V) (H : Hp) : Prop := match x with
 | .str _ => T = "str"
 | .int _ => T = "int"
 | .ref p => (T = "list" /\ ∃ xs, SqL K H p xs) ∨ (T = "tuple" /\ ∃ o, K.lookup p = some o /\ o.cls = .type "tuple" /\ o.dict = none) ∨
   (T = "dict" /\ ((∃ kvs, H p = some (.dK kvs)) ∨ ∃ kvs, H p = some (.dT kvs))) ∨ (T = "set" /\ ∃ S n, H p = some (.set S n))
 | _ => False
theorem tyV_is {pins : List (Addr × Obj)} {σ : St} {H : Hp} {s : Shared} {T : String} {x : V} {v : Value} (I : Inv X pins σ H s) (r : RelV x v) (ty : tyV X.K T x H) :
  s.TypeIs v T /\ ∀ a, v = .ref a -> ∃ ob, s.heap.get? a = some ob /\ ob.dict = none := by
 cases x with
 | str z =>
  obtain ⟨t, rfl⟩ := r
  cases (show T = "str" from ty)
  exact ⟨typeIs_str s z t, fun _ e => nomatch e⟩
 | int i =>
  obtain ⟨t, rfl⟩ := r
  cases (show T = "int" from ty)
  exact ⟨typeIs_int s i t, fun _ e => nomatch e⟩
 | ref p =>
  cases r
  rcases ty with ⟨rfl, xs, hq⟩ | ⟨rfl, o, hk, hc, hd⟩ | ⟨rfl, hk⟩ | ⟨rfl, S, n, hk⟩
  ·obtain ⟨its, _, pl, _⟩ := I.list hq
   refine ⟨pl.isList.typeIs, fun a e => ?_⟩
   cases e
   obtain ⟨o, n, e, c, hd, _⟩ := pl
   exact ⟨o, e, hd⟩
  ·refine ⟨⟨o, I.kIn p o hk, hc⟩, fun a e => ?_⟩
   cases e
   exact ⟨o, I.kIn _ o hk, hd⟩
  ·have z : ∃ o, s.heap.get? p = some o /\ o.ExactDict := by
    rcases hk with ⟨kvs, hk⟩ | ⟨kvs, hk⟩
    ·obtain ⟨_, _, _, _, o, _, _, e, ex, _⟩ := I.hok p _ hk
     exact ⟨o, e, ex⟩
    ·obtain ⟨_, _, _, _, o, _, _, e, ex, _⟩ := I.hok p _ hk
     exact ⟨o, e, ex⟩
   obtain ⟨o, e, ex⟩ := z
   refine ⟨⟨o, e, ex.1⟩, fun a e2 => ?_⟩
   cases e2
   exact ⟨o, e, ex.2.1⟩
  ·obtain ⟨o, _, _, _, e, ex, _⟩ := I.hok p _ hk
   refine ⟨⟨o, e, ex.1⟩, fun a e2 => ?_⟩
   cases e2
   exact ⟨o, e, ex.2.1⟩
 | _ => exact False.elim ty
def tBM0 (K : PySem.W.Frag) (T : String) (r : V -> List V -> Hp -> VK -> Prop) (to : TE) : TE := fun σ H Q => to σ H fun x H1 => tyV K T x H1 /\ r x [] H1 Q
def tBM (K : PySem.W.Frag) (T : String) (r : V -> List V -> Hp -> VK -> Prop) (to : TE) (t : TA) : TE := fun σ H Q => to σ H fun x H1 => tyV K T x H1 /\ t σ H1 fun xs H2 => r x xs H2 Q
variable {o e : Expr} {es : List Expr} {to : TE} {t : TA} {name : Str} {apos cpos : Pos} {T id : String} {r : V -> List V -> Hp -> VK -> Prop}
theorem pe_bm0 (pa : PlainAttrs T) (slot : Slot T name id) (hty : typeOf (.builtin id) = pure (.type "method_descriptor")) (hm : MtR X id r) (ho : PE X o to)
  (hbase : attributeBase o name X.env (eval o X.env) = eval o X.env := by rfl) (hline : (apos.endLine == cpos.line) = true := by rfl) : PE X (.Call (.Attribute o name apos) [] [] cpos) (tBM0 X.K T r to) := by
 intro pins s σ H Q I h
 refine wpAny_Call_method0_late hbase hline (thn (ho pins s σ H _ I h) fun v s1 ⟨x, H1, I1, r1, ty, q1⟩ => ?_)
 obtain ⟨h1, h2⟩ := tyV_is I1 r1 ty
 exact ⟨T, id, pa, slot, hty, h1, h2, Calls.callWith_builtin rfl (PySem.evalArgs_none (hm pins s1 σ H1 x [] v [] Q I1 r1 .nil q1))⟩
theorem pe_bm (pa : PlainAttrs T) (slot : Slot T name id) (hty : typeOf (.builtin id) = pure (.type "method_descriptor")) (hm : MtR X id r) (ho : PE X o to) (ha : PA X (e :: es) t)
  (hbase : attributeBase o name X.env (eval o X.env) = eval o X.env := by rfl)
  (hfew : ((backTo cpos (starEach (e :: es) X.env)).all (fun x => !x.1) && (backToKw cpos (keywordEach [] X.env)).all (fun x => x.1.isSome)
   && decide ((e :: es).length + ([] : List Keyword).length + (if ([] : List Keyword).isEmpty then 0 else 1) < 30)) = true := by rfl)
  (hline : (apos.endLine == cpos.line) = true := by rfl) (hs : starEach (e :: es) X.env = (false, eval e X.env) :: starEach es X.env := by rfl) (hplain : (backTo cpos (starEach es X.env)).any (·.1) = false := by rfl) :
  PE X (.Call (.Attribute o name apos) (e :: es) [] cpos) (tBM X.K T r to t) := by
 intro pins s σ H Q I h
 refine wpAny_Call_method_late hbase hfew hline rfl (thn (ho pins s σ H _ I h) fun v s1 ⟨x, H1, I1, r1, ty, q1⟩ => ?_)
 obtain ⟨h1, h2⟩ := tyV_is I1 r1 ty
 refine ⟨T, id, pa, slot, hty, h1, h2, ?_⟩
 have hA := ha cpos pins s1 σ H1 _ I1 q1
 rw [hs] at hA ⊢
 refine Calls.callWith_builtin (by show (false || (backTo cpos (starEach es X.env)).any (·.1)) = false; rw [hplain] <;> rfl) (Calls.evalArgs_plain ?_)
 exact thn hA fun us s2 ⟨vs, H2, I2, r2, q2⟩ => hm pins s2 σ H2 x vs v us Q I2 r1 r2 q2
/- xs.append(e), list.index on a module's tuple .. are MtR facts of 06m -/
end
end L2
namespace L2
open PySem PySem.Spec PyProof.Rows
def MtM (X : Cx) (id : String) (r : V -> List V -> Hp -> VK -> Prop) : Prop :=
 ∀ (pins : List (Addr × Obj)) (s : Shared) (σ : St) (H : Hp) (x : V) (xs : List V) (v : Value) (us : List Value) (Q : VK), Inv X pins σ H s -> RelV x v -> Vals xs us -> r x xs H Q ->
  wpAny (model X.prog X.w) X.A (call (.builtin id) (v :: us)) (EP X pins σ Q) X.xe s
theorem Vals.one : ∀ {x : V} {us : List Value}, Vals [x] us -> ∃ u, us = [u] /\ RelV x u
 | _, _, .cons r .nil => ⟨_, rfl, r⟩
theorem Vals.two : ∀ {x y : V} {us : List Value}, Vals [x, y] us -> ∃ u v, us = [u, v] /\ RelV x u /\ RelV y v
 | _, _, _, .cons r (.cons q .nil) => ⟨_, _, rfl, r, q⟩
theorem Vals.zero : ∀ {us : List Value}, Vals [] us -> us = []
 | _, .nil => rfl
theorem Vals.eraseIdx : ∀ {xs : List V} {us : List Value} (i : Nat), Vals xs us -> Vals (xs.eraseIdx i) (us.eraseIdx i)
 | _, _, _, .nil => .nil
 | _, _, 0, .cons _ t => t
 | _, _, i + 1, .cons r t => .cons r (Vals.eraseIdx i t)
theorem Vals.reverse {xs : List V} {us : List Value} (h : Vals xs us) : Vals xs.reverse us.reverse := by
 induction h with
 | nil => exact .nil
 | cons r t ih => rw [List.reverse_cons, List.reverse_cons]; exact Vals.append ih (.cons r .nil)
theorem len_erase {α : Type} : ∀ (l : List α) (i : Nat), (l.eraseIdx i).length <= l.length
 | [], _ => Nat.le_refl _
 | _ :: _, 0 => Nat.le_succ _
 | _ :: r, i + 1 => Nat.succ_le_succ (len_erase r i)
section
variable {X : Cx} {pins : List (Addr × Obj)} {σ : St} {H : Hp} {s : Shared} {l b : Addr} {xs ys zs : List V}
theorem Inv.lset {its its' : List Value} {n : Nat} {f : Array Value -> Array Value} {t' : Nat} (I : Inv X pins σ H s) (hH : H l = some (.lst xs))
  (e : s.heap.get? l = some { cls := .type "list", data := .seq its.toArray n }) (hf : f its.toArray = its'.toArray) (hv : Vals ys its') (hz : ys.length <= sizeLine) :
  Inv X pins σ (upd H l (.lst ys)) { s with heap := s.heap.update l (Obj.mapSeq f), toks := t' } := by
 have q := PySem.IsL.update e f
 rw [hf] at q
 refine I.write (x := l) (e := l) (by rw [hH]; exact trivial) (.inl rfl) (fun b' u hb hu => (Heap.get?_update_other s.heap (Obj.mapSeq f) (Ne.symm hb)).trans hu) ⟨_, q⟩ ?_
 exact ⟨hz, its', _, hv, q⟩
theorem Inv.fresh (I : Inv X pins σ H s) : H s.heap.objs.size = none := I.hok.fresh (Nat.le_refl _)
theorem Inv.lstM (I : Inv X pins σ H s) (hH : H l = some (.lst xs)) : xs.length <= sizeLine /\ ∃ (its : List Value) (n : Nat), Vals xs its /\ xs.length = its.length /\ s.heap.get? l = some { cls := .type "list", data := .seq its.toArray n } := by
 obtain ⟨z, its, n, r, e⟩ := I.hok l _ hH
 exact ⟨z, its, n, r, r.length, e⟩
end
section
variable {X : Cx}
def rAppend : V -> List V -> Hp -> VK -> Prop := fun x vs H Q => ∃ l xs y, x = .ref l /\ vs = [y] /\ H l = some (.lst xs) /\ xs.length < sizeLine /\ Q .non (upd H l (.lst (xs ++ [y])))
theorem mt_append : MtM X "list.append" rAppend := by
 intro pins s σ H x vs v us Q I rx rv h
 obtain ⟨l, xs, y, rfl, rfl, hH, hz, q⟩ := h
 cases rx
 obtain ⟨u, rfl, ru⟩ := rv.one
 obtain ⟨z, its, n, r, hl, e⟩ := I.lstM hH
 refine call_meets F.slot_list_append ⟨_, e, rfl⟩ F.entry_list_append (F.args_list_append_2 _ _) (PySem.list_append l its.toArray n u (by rw [List.size_toArray]; omega)) ⟨e, ?_⟩
 refine ⟨.non, _, I.lset (its' := its ++ [u]) hH e (by simp) (r.append (.cons ru .nil)) ?_, rfl, q⟩
 rw [List.length_append, List.length_singleton]
 omega
def rPopAt : V -> List V -> Hp -> VK -> Prop := fun x vs H Q => ∃ l xs i k y, x = .ref l /\ vs = [.int i] /\ H l = some (.lst xs) /\ -(2 ^ 63) <= i /\ i < 2 ^ 63 /\ seqIndex? i xs.length = some k /\ xs[k]? = some y /\ Q y (upd H l (.lst (xs.eraseIdx k)))
theorem mt_popAt : MtM X "list.pop" rPopAt := by
 intro pins s σ H x vs v us Q I rx rv h
 obtain ⟨l, xs, i, k, y, rfl, rfl, hH, h1, h2, hk, hy, q⟩ := h
 cases rx
 obtain ⟨u, rfl, ru⟩ := rv.one
 obtain ⟨t, rfl⟩ := ru
 obtain ⟨z, its, n, r, hl, e⟩ := I.lstM hH
 obtain ⟨w, hw, rw'⟩ := r.get hy
 refine call_meets F.slot_list_pop ⟨_, e, rfl⟩ F.entry_list_pop (F.args_list_pop_2 _ _)
  (MeetsSeq.list_pop_at l its.toArray n i t k w (fitsIndex_both h1 h2) (by rw [List.size_toArray, <- hl]; exact hk) (by rw [<- Array.getElem?_toList]; exact hw) (by rw [List.size_toArray]; omega)) ⟨e, ?_⟩
 refine ⟨y, _, I.lset (its' := its.eraseIdx k) hH e ?_ (r.eraseIdx k) ?_, rw', q⟩
 ·show its.toArray.eraseIdxIfInBounds k = (its.eraseIdx k).toArray
  rw [List.eraseIdxIfInBounds_toArray]
 ·have := len_erase xs k
  omega
end
section
variable {prog : Program} {w : World} {A : Around} {E : Value -> Shared -> Prop} {s : Shared}
end
section
variable {X : Cx}
end
end L2
namespace Att
open PySem PySem.W PySem.Calls PyProof.Rows
theorem ints_of_wellAll {P : Params} {h : Heap} : ∀ (ns : List Int) (vs : List Value), WellAll P h vs (ns.map WData.int) -> IntsAre vs ns := by
 intro ns
 induction ns with
 | nil =>
  intro vs w
  rw [List.map_nil] at w
  cases w
  exact .nil
 | cons n ns ih =>
  intro vs w
  rw [List.map_cons] at w
  cases w with
  | cons a b =>
   cases a
   exact .cons _ _ (ih _ b)
theorem script_of {l : OpenLaw} {n : Nat} (hn : l.most = some n) {P : Params} {h : Heap} {args : List WData} {vals : List Value}
    (hpre : l.row.toRowW.claim.pre args = true) (hwl : WellAll P h vals args) :
    ∃ a vs ns, vals = [Value.ref a] /\ args = [WData.list (ns.map WData.int)] /\ h.get? a = some { cls := .type "list", data := .seq vs.toArray } /\ IntsAre vs ns /\ ns.length <= n := by
  have hsh : WShape.hasAll [] args [.list .int] = true := (pre_splitW hpre).1
  have hc : l.pre.holds [] { args := args } = true := (pre_splitW hpre).2
  obtain ⟨d, r, rfl, h1, h2⟩ := hasAllW_cons hsh
  obtain rfl := hasAllW_nil h2
  obtain ⟨xs, rfl, h3⟩ := hasW_list h1
  obtain ⟨ns, rfl⟩ := items_int h3
  have hlen : ns.length <= n := by
    unfold OpenLaw.pre at hc
    have h4 : (WTm.not (.lt (.lit (.int (n : Int))) (.len (.arg 0)))).holds [] { args := [.list (ns.map .int)] } = true := by
      have h4 := (holds_andW hc).1
      rw [hn] at h4
      exact h4
    have h5 := condW_of h4 (w_not (w_lt w_lit (w_len_list (w_arg rfl))))
    rw [List.length_map] at h5
    refine Nat.le_of_not_lt fun q => ?_
    have q' : (n : Int) < ((ns.length : Nat) : Int) := by omega
    first
      | (rw [decide_eq_true q'] at h5; exact absurd h5 (by decide))
      | (simp at h5; omega)
  cases hwl with
  | cons w1 w2 =>
    cases w2
    cases w1 with
    | list ho hall => exact ⟨_, _, ns, rfl, rfl, ho, ints_of_wellAll ns _ hall, hlen⟩
theorem post_true (l : OpenLaw) (args : List WData) : l.row.toRowW.claim.post args (.bool true) args = true :=
 postW_of (r := l.row.toRowW) (X := (true == true))
  (show WShape.has [] (.bool true) .bool = true by first | rfl | decide | simp [WShape.has, WShape.arms, WShape.armsAll])
  (show (WTm.eq .res (.lit (.bool true))).value [] { args := args, res := some (.bool true), after := args } = some (.bool (true == true)) from w_eq_bool (w_res rfl) w_lit) rfl
theorem attach_call {l : OpenLaw} {n : Nat} {q : Program} {loose : List Str} {XP : (Str -> Option Value) -> Heap -> Prop} {YP : World -> Heap -> Prop} {d : DefRec}
  (hn : l.most = some n) (hdf : d.params.defaults = [])
  (call : ∀ (w : World) (s₀ s₁ : Shared) (mg mb : Str -> Option Value) (fa : Addr) (o : Obj) (pm cd doc : Value) (a : Addr) (vs : List Value) (ns : List Int),
   Ground q loose [] XP w s₀ mg mb s₁.heap -> YP w s₁.heap ->
   s₁.heap.get? fa = some o -> o.data = .func (docDef d.name d.params d.body d.scope pm cd doc) -> s₁.heap.CodeRec cd d.name -> mg d.name = some (.ref fa) ->
   s₁.heap.get? a = some { cls := .type "list", data := .seq vs.toArray } -> IntsAre vs ns -> ns.length <= n -> s₁.gens = #[] ->
   codeAny (model l.prog w) callerA (.call (.ref fa) ⟨[.ref a], []⟩) (fun r s' => r = .ok (.ret (.bool true)) /\ OldK s₁.heap s'.heap /\ s'.os = s₁.os /\ AllBare s'.gens) s₁) :
  WalkO q loose XP YP l.row.toRowW d [] (fun f vs => PySem.call f vs) := by
 intro w s₀ s₁ mg mb G Y fa o pm cd doc dV kV ho hd hcd hD hmg hg args vals as hpre hlay hrd hwl hlo
 obtain rfl : dV = .none := Dflts.none hD hdf
 obtain rfl : kV = .none := Dflts.noKw hD
 obtain ⟨a, vs, ns, rfl, rfl, hobj, hints, hlen⟩ := script_of hn hpre hwl
 refine enter_call (codeAny_mono (call w s₀ s₁ mg mb fa o pm cd doc a vs ns G Y ho (fd_plain hd) hcd hmg hobj hints hlen hg) fun r s' hq => ?_)
 obtain ⟨rfl, h2, h3, h4⟩ := hq
 exact ⟨.inl ⟨.bool true, .bool true, [], rfl, fun _ => rfl, .bool true, post_true l _, fun _ => ⟨List.Pairwise.nil, fun _ hm => (nomatch hm)⟩⟩, h2, h3, h4⟩
section
variable {prog : Program} {w : World} {A : Around} {E : Value -> Shared -> Prop} {s : Shared} {K : Frag}
def ledger (h : Heap) (L d : Addr) : List (Addr × Obj) := (List.range h.objs.size).filterMap fun a => if a = L ∨ a = d then none else (h.get? a).map fun o => (a, o)
end
end Att
namespace L2
open PySem PySem.Spec PyProof.Rows
theorem vals_ints : ∀ {vs : List Value} {ns : List Int}, IntsAre vs ns -> Vals (ns.map V.int) vs
 | _, _, .nil => .nil
 | _, _, .cons n t h => .cons ⟨t, rfl⟩ (vals_ints h)
end L2
namespace L2
open PySem PySem.Spec PyProof.Rows
end L2
namespace L2
open PySem PySem.Spec PyProof.Rows
def inClass (s : Stmt) (j : Nat) : Stmt := match s with
 | .ClassDef _ _ _ body _ _ _ _ _ _ _ => body.getD j (.Pass ⟨0, 0, 0, 0⟩)
 | _ => .Pass ⟨0, 0, 0, 0⟩
def defArgs (s : Stmt) : Arguments := match s with
 | .FunctionDef _ a _ _ _ _ _ _ _ _ => a
 | _ => { posonlyargs := [], args := [], vararg := none, kwonlyargs := [], kw_defaults := [], kwarg := none, defaults := [] }
def defBody (s : Stmt) : List Stmt := match s with
 | .FunctionDef _ _ b _ _ _ _ _ _ _ => b
 | _ => []
def defScope (s : Stmt) : Scope := match s with
 | .FunctionDef _ _ _ _ _ _ sc _ _ _ => sc
 | _ => { kind := .function, names := [], isGenerator := false, isCoroutine := false }
abbrev CX0 : CXT := fun _ _ _ _ _ _ => False
abbrev E0 : XK := fun _ _ _ => False
theorem pass0 {X : Cx} : Passes CX0 X E0 := fun _ _ _ _ _ _ _ h => h.elim
structure Fun (K : PySem.W.Frag) (x qual : Str) (st : Stmt) (f : Addr) (fd : FuncData) : Prop where
 ex : ∃ (oc : Value) (od : Option Addr) (kV doc pm : Value) (an : Option Addr) (cdv ct : Value) (osl : Array (Option Value)),
  fd = PySem.W.fnOf x qual (defArgs st) (defBody st) (defScope st) .none kV doc pm an cdv ct /\ K.lookup f = some ⟨oc, od, .func fd, osl⟩ /\ PySem.W.codeIn K cdv qual = true
 kp : PySem.W.keepIn K (.ref f) = true
section
variable {P : Program} {w : World} {K : PySem.W.Frag} {mg : Str -> Option Value} {base : Heap}
theorem Fun.ok {x qual : Str} {st : Stmt} {f : Addr} {fd : FuncData} {N ps : List Str} {k : Nat} {sp : Sp} (F : Fun K x qual st f fd) (S : FnScope N ps (defScope st)) (len : ∀ vs H Q E, sp vs H Q E -> vs.length = ps.length)
  (hbody : ∀ (cdv : Value) (A : Around) (outer : List Env) (s : Shared) (H : Hp) (vs : List V) (Q : VK) (E : XK), Room k (A.deeper (envOfC qual (defScope st) s.heap.objs.size f cdv)) -> sp vs H Q E ->
   ∃ t, PSs (cxOf CX0 P w K mg base N qual (defScope st) f cdv A outer s H E).nox (defBody st) t /\ t { nx := fun _ H' => Q .non H', rt := Q } (start N vs) H) : FnOk P w K mg base CX0 (k + 1) f fd ps sp := by
 obtain ⟨oc, od, kV, doc, pm, an, cdv, ct, osl, rfl, lk, hcd⟩ := F.ex
 refine fn_of lk hcd S len fun A outer s H vs Q E hr hsp => ?_
 obtain ⟨t, h, q⟩ := hbody cdv A outer s H vs Q E hr hsp
 exact ⟨t, h.nox, q⟩
theorem Fun.binds {x qual : Str} {st : Stmt} {f : Addr} {fd : FuncData} {ps : List Str} (F : Fun K x qual st f fd)
  (h : ∀ (kV doc pm : Value) (an : Option Addr) (cdv ct : Value) (us : List Value), us.length = ps.length -> bindArgs (PySem.W.fnOf x qual (defArgs st) (defBody st) (defScope st) .none kV doc pm an cdv ct) ⟨us, []⟩ = pure (ps.zip us)) : Binds K fd ps [] := by
 obtain ⟨oc, od, kV, doc, pm, an, cdv, ct, osl, rfl, lk, hcd⟩ := F.ex
 exact .all (h kV doc pm an cdv ct)
end
theorem hu_of {A : Around} {k : Nat} (hr : Room k A) : A.units + 1 < cLine := Nat.lt_of_le_of_lt (Nat.add_le_add_left (by decide : 1 <= 64) _) hr.units
section
variable {X : Cx}
theorem pv (i : Nat) {x : Str} {pos : Pos} (hN : X.N[i]? = some x := by rfl) (hv : Vis X.env.scope x := by first | exact Or.inl rfl | exact Or.inr (Or.inl rfl) | exact Or.inr (Or.inr rfl)) (hd : (x == ("__debug__" : Str)) = false := by decide)
  (hcd : (x == ("__classdict__" : Str)) = false := by decide) : PE X (.Name x pos) (tVar i) := pe_var hN hv hd hcd
end
theorem iteF {A B : Prop} (h : B) : if false = true then A else B := by
 rw [if_neg Bool.false_ne_true]
 exact h
theorem iteT {A B : Prop} (h : A) : if true = true then A else B := by
 rw [if_pos rfl]
 exact h
theorem ite2 {c A B : Prop} [Decidable c] (h1 : c -> A) (h2 : ¬ c -> B) : if c then A else B := by
 by_cases h : c
 ·rw [if_pos h]
  exact h1 h
 ·rw [if_neg h]
  exact h2 h
def Same (H H' : Hp) : Prop := ∀ b o, H b = some o -> H' b = some o
theorem Same.refl (H : Hp) : Same H H := fun _ _ h => h
theorem Same.trans {H H1 H2 : Hp} (a : Same H H1) (b : Same H1 H2) : Same H H2 := fun c o h => b c o (a c o h)
theorem Same.free {H H' : Hp} (e : Same H H') {l : Addr} (h : H' l = Option.none) : H l = Option.none := by
 cases q : H l with
 | none => rfl
 | some o =>
  rw [e l o q] at h
  cases h
theorem Same.seq {K : PySem.W.Frag} {H H' : Hp} {a : Addr} {xs : List V} (e : Same H H') (h : SqL K H a xs) : SqL K H' a xs := by
 rcases h with (h | ⟨o, h⟩) | h
 ·exact .inl (.inl (e _ _ h))
 ·exact .inl (.inr ⟨o, e _ _ h⟩)
 ·exact .inr h
section
variable {κ : Type} [DecidableEq κ]
end
end L2
set_option Elab.async false
set_option linter.all false
set_option maxRecDepth 100000
namespace L2
open PySem PySem.Spec PyProof.Rows
abbrev Kn := List (Addr × HO)
structure Has (H : Hp) (L : Kn) : Prop where
 nd : (L.map (·.1)).Nodup
 at_ : ∀ x ∈ L, H x.1 = some x.2
namespace Has
variable {H H' : Hp} {L L' X Y R : Kn} {a p : Addr} {o o' : HO} {x y : Addr × HO}
theorem nil : Has H [] := ⟨List.nodup_nil, fun _ h => nomatch h⟩
theorem get (h : Has H L) (i : Nat) (e : L[i]? = some (a, o)) : H a = some o := h.at_ (a, o) (List.mem_of_getElem? e)
theorem alloc (h : Has H L) (hp : H p = none) (o : HO) : Has (upd H p o) ((p, o) :: L) := by
 have ne : ∀ x ∈ L, x.1 ≠ p := fun x hx e => by
  have := h.at_ x hx
  rw [e, hp] at this; cases this
 refine ⟨?_, fun x hx => ?_⟩
 ·rw [List.map_cons, List.nodup_cons]
  refine ⟨fun m => ?_, h.nd⟩
  obtain ⟨x, hx, e⟩ := List.mem_map.mp m
  exact ne x hx e
 ·rcases List.mem_cons.mp hx with rfl | hx
  ·exact upd_same
  ·rw [upd_ne (ne x hx)]; exact h.at_ x hx
theorem same (h : Has H L) (s : Same H H') : Has H' L := ⟨h.nd, fun x hx => s _ _ (h.at_ x hx)⟩
theorem sub (h : Has H L) (s : L'.Sublist L) : Has H L' := ⟨h.nd.sublist (s.map _), fun x hx => h.at_ x (s.subset hx)⟩
theorem perm (h : Has H L) (s : L.Perm L') : Has H L' := ⟨(s.map _).nodup_iff.mp h.nd, fun x hx => h.at_ x (s.mem_iff.mpr hx)⟩
theorem tail (h : Has H (x :: L)) : Has H L := h.sub (List.sublist_cons_self _ _)
theorem right (h : Has H (X ++ R)) : Has H R := h.sub (List.sublist_append_right _ _)
theorem left (h : Has H (X ++ R)) : Has H X := h.sub (List.sublist_append_left _ _)
theorem swap2 (h : Has H (x :: y :: L)) : Has H (y :: x :: L) := h.perm (List.Perm.swap _ _ _)
theorem comm (h : Has H (X ++ (Y ++ R))) : Has H (Y ++ (X ++ R)) := h.perm (by rw [<- List.append_assoc, <- List.append_assoc]; exact List.perm_append_comm.append_right R)
theorem inn (h : Has H (x :: (Y ++ R))) : Has H (Y ++ (x :: R)) := h.perm List.perm_middle.symm
theorem out (h : Has H (Y ++ (x :: R))) : Has H (x :: (Y ++ R)) := h.perm List.perm_middle
theorem ne2 (h : Has H ((a, o) :: R)) {b : Addr} (m : b ∈ R.map (·.1)) : b ≠ a := fun e => by
 have := List.nodup_cons.mp (show ((a :: R.map (·.1)).Nodup) from h.nd)
 exact this.1 (e ▸ m)
theorem put (h : Has H ((a, o) :: R)) (o' : HO) : Has (upd H a o') ((a, o') :: R) := by
 refine ⟨h.nd, fun x hx => ?_⟩
 rcases List.mem_cons.mp hx with rfl | hx
 ·exact upd_same
 ·rw [upd_ne (h.ne2 (List.mem_map_of_mem hx))]; exact h.at_ x (List.mem_cons_of_mem _ hx)
theorem map_set_fst : ∀ (L : Kn) (i : Nat), L[i]? = some (a, o) -> (L.set i (a, o')).map (·.1) = L.map (·.1)
 | [], i, e => by simp at e
 | x :: L, 0, e => by simp at e; subst e; rfl
 | x :: L, i + 1, e => by
  simp only [List.set_cons_succ, List.map_cons]
  rw [map_set_fst L i (by simpa using e)]
theorem puti (h : Has H L) (i : Nat) (e : L[i]? = some (a, o)) (o' : HO) : Has (upd H a o') (L.set i (a, o')) := by
 have hi : i < L.length := (List.getElem?_eq_some_iff.mp e).1
 refine ⟨by rw [map_set_fst (o' := o') L i e]; exact h.nd, fun x hx => ?_⟩
 obtain ⟨j, hj⟩ := List.getElem?_of_mem hx
 by_cases hij : j = i
 ·subst hij
  rw [List.getElem?_set_self hi] at hj
  cases hj
  exact upd_same
 ·rw [List.getElem?_set_ne (Ne.symm hij)] at hj
  have hx' : x ∈ L := List.mem_of_getElem? hj
  have : x.1 ≠ a := fun z => by
   have e1 : (L.map (·.1))[i]? = some a := by rw [List.getElem?_map, e]; rfl
   have e2 : (L.map (·.1))[j]? = some a := by rw [List.getElem?_map, hj, <- z]; rfl
   obtain ⟨l1, q1⟩ := List.getElem?_eq_some_iff.mp e1
   obtain ⟨l2, q2⟩ := List.getElem?_eq_some_iff.mp e2
   exact hij ((List.getElem_inj h.nd).mp (q2.trans q1.symm))
  rw [upd_ne this]
  exact h.at_ x hx'
theorem ne (h : Has H L) (i j : Nat) {b : Addr} {u : HO} (e : L[i]? = some (a, o)) (e' : L[j]? = some (b, u)) (hij : i ≠ j) : a ≠ b := fun z => by
 have e1 : (L.map (·.1))[i]? = some a := by rw [List.getElem?_map, e]; rfl
 have e2 : (L.map (·.1))[j]? = some a := by rw [List.getElem?_map, e', <- z]; rfl
 obtain ⟨l1, q1⟩ := List.getElem?_eq_some_iff.mp e1
 obtain ⟨l2, q2⟩ := List.getElem?_eq_some_iff.mp e2
 exact hij ((List.getElem_inj h.nd).mp (q1.trans q2.symm))
end Has
section
variable {X : Cx}
theorem call_isi : CallR X (.builtin "isinstance") (fun xs H Q => ∃ x T t b, xs = [x, .ty T] /\ TyOf X.K H x t /\ PySem.W.kitOne X.K t (.type T) = some b /\ Q (.bl b) H) := by
 intro pins s σ H xs us Q I r h
 obtain ⟨x, T, t, b, rfl, ty, e, q⟩ := h
 obtain ⟨u1, u2, rfl, r1, r2⟩ := vals2 r
 cases (show u2 = Value.type T from r2)
 exact isinst_ok I r1 ty e fun tk => ⟨.bl b, H, I.tok _, rfl, q⟩
end
end L2
namespace L2
open PySem PySem.Spec PyProof.Rows
theorem SqL.alloc {K : PySem.W.Frag} {H : Hp} {a p : Addr} {xs : List V} {o : HO} (h : SqL K H a xs) (hp : H p = none) : SqL K (upd H p o) a xs :=
 Same.seq (fun b u e => by rw [upd_ne (ne_of_none e hp)]; exact e) h
theorem cut_take (xs : List V) (n : Int) (h0 : 0 <= n) : cutV xs none (some n) = xs.take n.toNat := by
 show ((xs.drop 0).take ((if n < 0 then (n + (xs.length : Int)).toNat else min n.toNat xs.length) - 0)) = _
 rw [if_neg (by omega), List.drop_zero, Nat.sub_zero]
 by_cases hl : n.toNat <= xs.length
 ·rw [Nat.min_eq_left hl]
 ·rw [Nat.min_eq_right (by omega), List.take_of_length_le (Nat.le_refl _), List.take_of_length_le (by omega)]
end L2
namespace L2
open PySem PySem.Spec PyProof.Rows
theorem sizeOk {n : Nat} (h : n <= 1000000) : n < sizeLine := Nat.lt_of_le_of_lt h (by decide)
theorem sizeOk' {n : Nat} (h : n <= 1000000) : n <= sizeLine := Nat.le_of_lt (sizeOk h)
end L2
namespace L2
theorem ifF {b : Bool} {A B : Prop} (e : b = false) (h : B) : if b = true then A else B := by subst e; exact iteF h
theorem ifT {b : Bool} {A B : Prop} (e : b = true) (h : A) : if b = true then A else B := by subst e; exact iteT h
theorem if2 {b : Bool} {A B : Prop} (h1 : b = true -> A) (h2 : b = false -> B) : if b = true then A else B := by
 cases b
 ·exact iteF (h2 rfl)
 ·exact iteT (h1 rfl)
theorem ifd {c : Prop} [Decidable c] {A B : Prop} (h1 : c -> A) (h2 : ¬ c -> B) : if decide c = true then A else B := by
 by_cases h : c
 ·exact ifT (decide_eq_true h) (h1 h)
 ·exact ifF (decide_eq_false h) (h2 h)
theorem ifdn {c : Prop} [Decidable c] {A B : Prop} (h1 : ¬ c -> A) (h2 : c -> B) : if (!decide c) = true then A else B := by
 by_cases h : c
 ·exact ifF (by simp [h]) (h2 h)
 ·exact ifT (by simp [h]) (h1 h)
end L2
set_option Elab.async false
set_option linter.all false
set_option maxRecDepth 100000
namespace L2
open PySem PySem.Spec PyProof.Rows
def clOf (cells : List (Str × Addr)) : List (Str × NameKind) -> List (Str × Addr) -> List (Str × Addr)
  | [], acc => acc
  | (n, k) :: r, acc => if k == .free then clOf cells r ((n, (cells.lookup n).getD 0) :: acc) else clOf cells r acc
theorem closure_eq (scope : Scope) (env : Env) (h : ∀ y ∈ scope.names, y.2 = .free -> ∃ c, env.cells.lookup y.1 = some c) : closureFor scope env = pure (clOf env.cells scope.names []) := by
  unfold closureFor
  have all : ∀ (l : List (Str × NameKind)) (acc : List (Str × Addr)), (∀ y ∈ l, y.2 = .free -> ∃ c, env.cells.lookup y.1 = some c) ->
      (forIn l acc fun x r => match x with
        | (name, kind) => if (kind == .free) = true then do let a <- cellOf env name; pure (ForInStep.yield ((name, a) :: r)) else pure (ForInStep.yield r)) = (pure (clOf env.cells l acc) : Sem _) := by
    intro l
    induction l with
    | nil => intro acc _; rfl
    | cons y l ih =>
      obtain ⟨n, k⟩ := y
      intro acc hl
      rw [List.forIn_cons]
      by_cases hk : (k == NameKind.free) = true
      · obtain ⟨c, hc⟩ := hl (n, k) List.mem_cons_self (by simpa using hk)
        have e : cellOf env n = pure c := by unfold cellOf; rw [hc]
        simp only [hk, if_true, e, pure_bind, clOf, hc, Option.getD_some]
        exact ih _ fun y hy => hl y (List.mem_cons_of_mem _ hy)
      · simp only [hk, if_false, pure_bind, clOf]
        exact ih _ fun y hy => hl y (List.mem_cons_of_mem _ hy)
  have := all scope.names [] h
  simp only [this, pure_bind]
theorem clOf_sub {cells : List (Str × Addr)} {x : Str} {c : Addr} : ∀ (l : List (Str × NameKind)) (acc : List (Str × Addr)), (∀ y ∈ l, y.2 = .free -> ∃ c, cells.lookup y.1 = some c) ->
    (∀ y d, acc.lookup y = some d -> cells.lookup y = some d) -> (clOf cells l acc).lookup x = some c -> cells.lookup x = some c
  | [], acc, _, ha, h => ha x c h
  | (n, k) :: r, acc, hl, ha, h => by
    unfold clOf at h
    split at h
    · rename_i hk
      obtain ⟨d, hd⟩ := hl (n, k) List.mem_cons_self (by simpa using hk)
      refine clOf_sub r _ (fun y hy => hl y (List.mem_cons_of_mem _ hy)) (fun y e he => ?_) h
      rw [List.lookup_cons] at he
      split at he
      · rename_i hyn
        have : y = n := by simpa using hyn
        subst this
        cases he
        rw [hd]; rfl
      · exact ha y e he
    · exact clOf_sub r _ (fun y hy => hl y (List.mem_cons_of_mem _ hy)) ha h
theorem clOf_acc {cells : List (Str × Addr)} {x : Str} : ∀ (l : List (Str × NameKind)) (acc : List (Str × Addr)), (∃ c, acc.lookup x = some c) -> ∃ c, (clOf cells l acc).lookup x = some c
  | [], acc, h => h
  | (n, k) :: r, acc, h => by
    unfold clOf
    split
    · refine clOf_acc r _ ?_
      rw [List.lookup_cons]
      split
      · exact ⟨_, rfl⟩
      · exact h
    · exact clOf_acc r _ h
theorem clOf_has {cells : List (Str × Addr)} {x : Str} : ∀ (l : List (Str × NameKind)) (acc : List (Str × Addr)), (x, NameKind.free) ∈ l -> ∃ c, (clOf cells l acc).lookup x = some c
  | [], _, h => nomatch h
  | (n, k) :: r, acc, h => by
    unfold clOf
    rcases List.mem_cons.mp h with e | h
    · cases e
      rw [if_pos (by rfl)]
      exact clOf_acc r _ ⟨(cells.lookup x).getD 0, by rw [List.lookup_cons]; simp⟩
    · split
      · exact clOf_has r _ h
      · exact clOf_has r _ h
theorem relabel_cf {env : Env} {x : Str} : ∀ (l : List (Str × NameKind)), (∀ y ∈ l, y.2 ≠ .cell) ->
    ((l.map fun (n, k) => if (k == NameKind.free && env.scope.kind == .function && env.kindOf n == some .cell) then (n, NameKind.cell) else (n, k)).lookup x = some .cell ∨
     (l.map fun (n, k) => if (k == NameKind.free && env.scope.kind == .function && env.kindOf n == some .cell) then (n, NameKind.cell) else (n, k)).lookup x = some .free) -> (x, NameKind.free) ∈ l
  | [], _, h => by simp at h
  | (n, k) :: r, hl, h => by
    have ih := relabel_cf (env := env) (x := x) r fun y hy => hl y (List.mem_cons_of_mem _ hy)
    by_cases hc : (k == NameKind.free && env.scope.kind == .function && env.kindOf n == some .cell) = true
    · have hkf : k = .free := by
        rw [Bool.and_eq_true, Bool.and_eq_true] at hc
        simpa using hc.1.1
      subst hkf
      simp only [List.map_cons, hc, if_true, List.lookup_cons] at h
      cases hx : x == n with
      | true =>
        have : x = n := by simpa using hx
        subst this
        exact List.mem_cons_self
      | false =>
        simp only [hx] at h
        exact List.mem_cons_of_mem _ (ih h)
    · simp only [List.map_cons, if_neg hc, List.lookup_cons] at h
      cases hx : x == n with
      | true =>
        have : x = n := by simpa using hx
        subst this
        simp only [hx] at h
        rcases h with h | h
        · cases h
          exact absurd rfl (hl (x, .cell) List.mem_cons_self)
        · cases h
          exact List.mem_cons_self
      | false =>
        simp only [hx] at h
        exact List.mem_cons_of_mem _ (ih h)
def PTs (X : Cx) (ifs : List Expr) (t : TT) : Prop :=
 ∀ (pins : List (Addr × Obj)) (s : Shared) (σ : St) (H : Hp) (Q : Bool -> Hp -> Prop), Inv X pins σ H s -> t σ H Q ->
  wpAny (model X.prog X.w) X.A (forIn ifs true fun c r => if r = true then do let ok <- isTrue c X.env (eval c X.env); pure (ForInStep.yield ok) else pure (ForInStep.yield r)) (TP X pins σ Q) X.xe s
def tTrue : TT := fun _ H Q => Q true H
theorem pts_nil {X : Cx} : PTs X [] tTrue := fun _ _ _ H _ I h => wpAny_tests_nil ⟨H, I, h⟩
theorem pts_one {X : Cx} {c : Expr} {t : TT} (h : PT X c t) : PTs X [c] t := fun pins s σ H Q I q => wpAny_tests_one (h pins s σ H Q I q)
theorem compLoop_go {prog : Program} {w : World} {A : Around} {R : Result -> Shared -> Prop} {s : Shared} {elt target iter : Expr} {ifs : List Expr} {scope : Scope} {pos : Pos} {it acc : Value} {env : Env} (I : Nat -> Shared -> Prop)
  (turn : ∀ n s, I n s -> wpAny (model prog w) A (pyNext it) (fun r s₁ => match r with
   | none => R (.ok .next) s₁
   | some v => wpAny (model prog w) A (letOwnedTupleGo target it v) (fun _ s₀ => wpAny (model prog w) A (assign target env v) (fun _ s₂ =>
     wpAny (model prog w) A (forIn ifs true fun c r => if r = true then do let ok <- isTrue c env (eval c env); pure (ForInStep.yield ok) else pure (ForInStep.yield r)) (fun ok s₃ =>
      if ok = true then wpAny (model prog w) A (eval elt env) (fun x s₄ =>
       wpAny (model prog w) A (call (.builtin "list.append") [acc, x]) (fun _ s₅ => ∃ m, m < n /\ I m s₅) (fun _ _ => False) s₄) (fun _ _ => False) s₃
      else ∃ m, m < n /\ I m s₃) (fun _ _ => False) s₂) (fun _ _ => False) s₀) (fun _ _ => False) s₁) (fun _ _ => False) s)
  (n : Nat) (h : I n s) :
  codeAny (model prog w) A (.compLoop (.ListComp elt [⟨target, iter, ifs, 0⟩] scope pos) 0 it acc env) R s := by
 have no : ∀ {α : Type} {t : Sem α} {Q : α -> Shared -> Prop} {s : Shared} {E : Value -> Shared -> Prop}, wpAny (model prog w) A t Q (fun _ _ => False) s -> wpAny (model prog w) A t Q E s := fun h => wpAny_mono h (fun _ _ q => q) fun _ _ z => False.elim z
 refine codeAny_loop rfl I (fun n s hI => ?_) n h
 show wpAny _ A ((compTurn (.ListComp elt [⟨target, iter, ifs, 0⟩] scope pos) 0 it acc env).onRaise (fun x => do noteFrame x env; theTreesLotGoes x)) _ _ s
 refine wpAny_noted ?_
 rw [compTurn_list]
 refine wpAny_bind (wpAny_standAt (wpAny_bind (wpAny_mono (no (turn n s hI)) (fun r s₁ h₁ => ?_) fun _ _ h' => h')))
 cases r with
 | none => exact wpAny_pure h₁
 | some v =>
  refine wpAny_bind (wpAny_mono (no h₁) (fun _ s₀ h₀ => ?_) fun _ _ h' => h')
  refine wpAny_bind (wpAny_mono (no h₀) (fun _ s₂ h₂ => wpAny_bind (wpAny_mono (no h₂) (fun ok s₃ h₃ => ?_) fun _ _ h' => h')) fun _ _ h' => h')
  cases ok with
  | false => exact wpAny_pure ⟨rfl, h₃⟩
  | true =>
   exact wpAny_bind (wpAny_bind (wpAny_mono (no h₃) (fun x s₄ h₄ => wpAny_bind (wpAny_mono (no h₄) (fun _ s₅ h₅ => wpAny_pure (wpAny_pure ⟨rfl, h₅⟩)) fun _ _ h' => h')) fun _ _ h' => h'))
end L2
set_option Elab.async false
set_option linter.all false
set_option maxRecDepth 100000
namespace L2
open PySem PySem.Spec PyProof.Rows
abbrev blk (X : Cx) (scope : Scope) (N' : List Str) (C : Addr) (s₀ : Shared) (H₀ : Hp) (fp : List Addr) (pins : List (Addr × Obj)) : Cx :=
 { X with N := N', s₀ := s₀, H₀ := H₀, env := compEnvC scope (clOf X.env.cells scope.names []) C X.env, outer := X.stack, stack := X.stack, ex := fp, fn := fun _ => false, pn := X.pn ++ pins, xe := fun _ _ => False }
def tLC (wi : TI) (k : Nat) (g : TG) (tc : TT) (te : TE) : TE := fun σ H Q => wi σ H fun J H1 => ∀ D, H1 D = none -> ∃ W : Nat -> Nat -> List V -> Hp -> Prop, (∃ m, W 0 m [] (upd H1 D (.lst []))) /\ ∀ i m ys H, W i m ys H -> H D = some (.lst ys) /\
 ((J.stop i H /\ Q (.ref D) H) ∨ (J.go i H /\ ∀ x H', J.yld i H x H' -> g x (List.replicate k none ++ σ) H' fun σ2 H2 => σ2.drop k = σ /\ tc σ2 H2 fun b H3 =>
  if b = true then te σ2 H3 fun y H4 => ys.length < sizeLine /\ H4 D = some (.lst ys) /\ ∃ m', m' < m /\ W (i + 1) m' (ys ++ [y]) (upd H4 D (.lst (ys ++ [y]))) else ∃ m', m' < m /\ W (i + 1) m' ys H3))
section
variable {X : Cx}
theorem pe_lc {elt tg iter : Expr} {ifs : List Expr} {scope : Scope} {pos : Pos} {wi : TI} {k : Nat} {g : TG} {tc : TT} {te : TE} (N' : List Str) (hc : X.calm = true) (hi : PI X tg iter wi)
  (hg : ∀ C s₀ H₀ fp pins, PG (blk X scope N' C s₀ H₀ fp pins) tg g) (ht : ∀ C s₀ H₀ fp pins, PTs (blk X scope N' C s₀ H₀ fp pins) ifs tc) (he : ∀ C s₀ H₀ fp pins, PE (blk X scope N' C s₀ H₀ fp pins) elt te)
  (hk : scope.kind = .function) (hcell : ∀ y ∈ scope.names, y.2 ≠ .cell) (hnames : ∀ y ∈ scope.names, y.2 = .local -> scope.names.lookup y.1 = some .local)
  {esc : Scope} (hsc : X.env.scope = esc) (hfr' : ∀ y ∈ scope.names, y.2 = .free -> esc.names.lookup y.1 = some .cell ∨ esc.names.lookup y.1 = some .free)
  (hlen : N'.length = k + X.N.length)
  (hN : ∀ (i : Nat) (x : Str), N'[i + k]? = some x -> (x, NameKind.free) ∈ scope.names -> X.N[i]? = some x)
  (hN2 : ∀ x ∈ N'.drop k, scope.names.lookup x ≠ some .local)
  (hs : ∀ x, foldedSetIterable iter X.env x = pure x := by intro _; rfl) :
  PE X (.ListComp elt [⟨tg, iter, ifs, 0⟩] scope pos) (tLC wi k g tc te) := by
 intro pins s σ H Q I h
 have hfr : ∀ y ∈ scope.names, y.2 = .free -> X.env.kindOf y.1 = some .cell ∨ X.env.kindOf y.1 = some .free := fun y hy hf => by
  show X.env.scope.names.lookup y.1 = _ ∨ X.env.scope.names.lookup y.1 = _
  rw [hsc]; exact hfr' y hy hf
 have hcells : ∀ y ∈ scope.names, y.2 = .free -> ∃ c, X.env.cells.lookup y.1 = some c := fun y hy hf => I.ok.has y.1 (hfr y hy hf)
 have hclos := closure_eq scope X.env hcells
 rw [eval_ListComp]
 refine wpAny_comprehension_free (use := none) rfl hs hclos hk hnames (thn (hi pins s σ H _ I h) fun v s1 h1 => thn h1 fun itv s2 h2 => ?_)
 obtain ⟨it, fp, tn, J, H2, e, I2, T, st2, f2, R⟩ := h2
 subst e
 refine wpAny_newObj_type ?_
 have hD : H2 s2.heap.objs.size = none := I2.hok.fresh (Nat.le_refl _)
 obtain ⟨W, ⟨m0, w0⟩, turn⟩ := R _ hD
 generalize eD : s2.heap.objs.size = D at *
 have I3 : Inv X pins σ (upd H2 D (.lst [])) { s2 with heap := s2.heap.push { cls := .type "list", dict := none, data := .seq ([] : List Value).toArray } } :=
  I2.laid (a := D) (o := .lst []) (t' := s2.toks) (fun b u e => Heap.get?_push_of_some _ e) (Nat.le_of_eq eD) ⟨Nat.zero_le _, [], 0, .nil, by rw [<- eD]; exact Heap.get?_push_size _ rfl⟩
 generalize e3 : ({ s2 with heap := s2.heap.push { cls := .type "list", dict := none, data := .seq ([] : List Value).toArray } } : Shared) = s3 at *
 have st3 : tn 0 s3.heap := T.keep _ _ _ st2 fun b _ o e => by rw [<- e3]; exact Heap.get?_push_of_some _ e
 have lt2 : ∀ b ∈ fp, b < s2.heap.objs.size := fun b hb => by
  obtain ⟨o, e, _⟩ := T.obj _ _ st2 b hb
  exact Heap.lt_size e
 have neD : ∀ b ∈ fp, b ≠ D := fun b hb => by
  have := lt2 b hb
  rw [eD] at this
  exact Nat.ne_of_lt this
 have f3 : ∀ b ∈ fp, FpOk X pins (upd H2 D (.lst [])) b := fun b hb => ⟨by rw [upd_ne (neD b hb)]; exact (f2 b hb).1, (f2 b hb).2⟩
 generalize upd H2 D (.lst []) = H3 at *
 refine wpAny_newFunctionEnv hcell (by intro y hy; simp at hy) (fun h₁ hns₁ hsb₁ => ?_) hk
 try dsimp only at hns₁ hsb₁ ⊢
 have lt3 : ∀ b ∈ fp, b < s3.heap.objs.size := fun b hb => by
  obtain ⟨o, e, _⟩ := T.obj _ _ st3 b hb
  exact Heap.lt_size e
 generalize eC : s3.heap.objs.size = C at *
 have kp : ∀ b o, s3.heap.get? b = some o -> h₁.get? b = some o := fun b o e => (hsb₁.2 b (by rw [<- eC]; exact Nat.ne_of_lt (Heap.lt_size e))).trans (Heap.get?_push_of_some _ e)
 have subC : ∀ x c, (clOf X.env.cells scope.names []).lookup x = some c -> X.env.cells.lookup x = some c := fun x c e => clOf_sub scope.names [] hcells (fun y d z => by simp at z) e
 have hCnone : H3 C = none := I3.hok.fresh (Nat.le_of_eq eC)
 have ok' : (blk X scope N' C s3 H3 fp pins).Ok := {
  mod := I3.ok.mod
  kind := hk
  glob := I3.ok.glob
  blt := I3.ok.blt
  above := Nat.le_of_eq eC
  inj := fun x y c a b => I3.ok.inj x y c (subC x c a) (subC y c b)
  has := fun x hx => clOf_has scope.names [] (relabel_cf scope.names hcell hx)
  cab := fun x c a _ => absurd a Bool.false_ne_true
  hd := I3.ok.hd
  frames := I3.ok.frames
  stk := .inl rfl
  exf := fun b hb => ⟨by have := lt3 b hb; exact Nat.ne_of_lt this, fun x c e => (f3 b hb).2.2.2.2.1 x c (subC x c e)⟩
  bs := I3.bs
  bsz := Nat.le_trans I3.ok.bsz I3.sz
  noex := fun b o e hb => by
   rcases (f3 b hb).2.2.2.1 with z | z
   ·exact I3.ok.noex b o e z
   ·exact absurd (Nat.lt_of_lt_of_le (Heap.lt_size e) (Nat.le_trans I3.ok.bsz z)) (Nat.lt_irrefl _)
  exfs := fun b hb z => by
   rcases List.mem_cons.mp (I3.stkSub b z) with e | e
   ·exact (f3 b hb).2.1 e
   ·exact (f3 b hb).2.2.1 e
  funs := I3.stack
  frf := I3.stkFree }
 have s4os : ({ s3 with heap := h₁, toks := s3.toks + ([] : List (Str × Value)).length } : Shared).os = s3.os := rfl
 generalize e4 : ({ s3 with heap := h₁, toks := s3.toks + ([] : List (Str × Value)).length } : Shared) = s4 at *
 have h4 : s4.heap = h₁ := by rw [<- e4]
 have J4 : Inv (blk X scope N' C s3 H3 fp pins) [] (List.replicate k none ++ σ) H3 s4 := by
  refine ⟨ok', s4os, by rw [<- e4]; exact I3.bare, ?_, ⟨_, by rw [h4]; exact hns₁, fun i x v e1 e2 e5 => ?_⟩, fun x c e => ?_, hCnone, fun x c e => I3.freeC x c (subC x c e), fun p hp => ?_, ?_, ?_⟩
  ·rw [h4]; exact Un.kept kp
  ·have hik : ¬ i < k := fun hlt => by
    rw [List.getElem?_append_left (by rw [List.length_replicate]; exact hlt), List.getElem?_replicate] at e2
    split at e2 <;> cases e2
   obtain ⟨j, rfl⟩ : ∃ j, i = j + k := ⟨i - k, by omega⟩
   have e2' : σ[j]? = some (some v) := by
    rw [List.getElem?_append_right (by rw [List.length_replicate]; omega), List.length_replicate] at e2
    have : j + k - k = j := by omega
    rw [this] at e2; exact e2
   have nl : (relabel scope X.env).names.lookup x ≠ some .local := fun z => by
    have q : ∀ (l : List (Str × NameKind)), (l.map fun (n, k) => if (k == NameKind.free && X.env.scope.kind == .function && X.env.kindOf n == some .cell) then (n, NameKind.cell) else (n, k)).lookup x = some .local -> l.lookup x = some .local := by
     intro l
     induction l with
     | nil => intro z; simp at z
     | cons y l ih =>
      obtain ⟨n, kk⟩ := y
      intro z
      by_cases hcc : (kk == NameKind.free && X.env.scope.kind == .function && X.env.kindOf n == some .cell) = true
      ·simp only [List.map_cons, if_pos hcc, List.lookup_cons] at z ⊢
       cases hx : x == n with
       | true => simp only [hx] at z; cases z
       | false => simp only [hx] at z ⊢; exact ih z
      ·simp only [List.map_cons, if_neg hcc, List.lookup_cons] at z ⊢
       cases hx : x == n with
       | true => simp only [hx] at z ⊢; exact z
       | false => simp only [hx] at z ⊢; exact ih z
    exact hN2 x (List.mem_of_getElem? (i := j) (by rw [List.getElem?_drop, Nat.add_comm]; exact e1)) (q _ z)
   have hcf : (relabel scope X.env).names.lookup x = some .cell ∨ (relabel scope X.env).names.lookup x = some .free := by
    rcases e5 with z | z | z
    ·exact absurd z nl
    ·exact .inl z
    ·exact .inr z
   have hmem : (x, NameKind.free) ∈ scope.names := relabel_cf scope.names hcell hcf
   have hx := hN j x e1 hmem
   obtain ⟨mo, _, hl⟩ := I3.loc
   have hkx := hfr (x, .free) hmem rfl
   obtain ⟨u, ru, lk⟩ := hl j x v hx e2' (by
    rcases hkx with z | z
    ·exact .inr (.inl z)
    ·exact .inr (.inr z))
   refine ⟨u, ru, .inr ⟨hcf, ?_⟩⟩
   rcases lk with ⟨z, _⟩ | ⟨_, c, hc1, hc2⟩
   ·rcases hkx with q | q
    ·rw [q] at z; cases z
    ·rw [q] at z; cases z
   ·obtain ⟨c', hc'⟩ := clOf_has (cells := X.env.cells) scope.names [] hmem
    have := subC x c' hc'
    rw [hc1] at this; cases this
    obtain ⟨oc, h5, h6⟩ := hc2
    exact ⟨c, hc', oc, by rw [h4]; exact kp _ _ h5, h6⟩
  ·obtain ⟨v, oc, h5, h6⟩ := I3.cell x c (subC x c e)
   exact ⟨v, oc, by rw [h4]; exact kp _ _ h5, h6⟩
  ·have hp' : p ∈ X.pn ++ pins := by simpa using hp
   obtain ⟨a1, a2, a3, a4, a5⟩ := I3.pin p hp'
   refine ⟨by rw [h4]; exact kp _ _ a1, a2, ?_, fun z => ?_, a5⟩
   ·have := Heap.lt_size a1
    rw [eC] at this
    exact Nat.ne_of_lt this
   ·rcases List.mem_cons.mp (I3.stkSub p.1 z) with q | q
    ·exact a3 q
    ·exact a4 q
  ·rw [h4]; exact I3.hok.kept kp
  ·rw [List.length_append, List.length_replicate, I3.len]; exact hlen.symm
 have stat : ∀ {H' : Hp}, (∀ b ∈ fp, H' b = none) -> ∀ b ∈ fp, FpOk (blk X scope N' C s3 H3 fp pins) [] H' b := fun hn b hb =>
  ⟨hn b hb, (ok'.exf b hb).1, ok'.exfs b hb, .inl hb, fun x c e => (ok'.exf b hb).2 x c e, fun p hp => (f3 b hb).2.2.2.2.2 p (by simpa using hp)⟩
 have fr4 : ∀ b ∈ fp, H3 b = none := fun b hb => (f3 b hb).1
 have st4 : tn 0 s4.heap := T.keep _ _ _ st3 fun b _ o e => by rw [h4]; exact kp _ _ e
 have loop : codeAny (model X.prog X.w) X.A (.compLoop (.ListComp elt [⟨tg, iter, ifs, 0⟩] scope pos) 0 (.ref it) (.ref D) (compEnvC scope (clOf X.env.cells scope.names []) C X.env))
   (compPost (model X.prog X.w) X.A X.xe none (EP X pins σ Q) (.ref D) C) s4 := by
  refine compLoop_go (fun n s' => ∃ i ys H', Inv (blk X scope N' C s3 H3 fp pins) [] (List.replicate k none ++ σ) H' s' /\ tn i s'.heap /\ (∀ b ∈ fp, H' b = none) /\ W i n ys H') ?_ m0 ⟨0, [], H3, J4, st4, fr4, w0⟩
  rintro n s5 ⟨i, ys, H5, I5, st5, fr5, w5⟩
  obtain ⟨hDl, stp⟩ := turn i n ys H5 w5
  rcases stp with ⟨stop, qn⟩ | ⟨go, step⟩
  ·refine thn (T.done (blk X scope N' C s3 H3 fp pins) rfl rfl rfl hc i [] s5 _ H5 (fun _ _ => False) I5 (stat fr5) st5 stop) fun r s6 ⟨hr, I6⟩ => ?_
   subst hr
   obtain ⟨m6, ns6, _⟩ := id I6.loc
   refine ⟨m6, ns6, fun h' hsb => ⟨.ref D, H5, ?_, rfl, qn⟩⟩
   have hC5 : H5 C = none := I6.free
   have un6 : Un (frs X.stack) fp H3 H5 s3.heap s6.heap := I6.base
   have neC : ∀ b o, s3.heap.get? b = some o -> b ≠ C := fun b o e => by
    have := Heap.lt_size e
    rw [eC] at this
    exact Nat.ne_of_lt this
   refine I3.call' (s' := { s6 with heap := h' }) (ch := fp) I6.os ⟨fun b o e a1 a2 a3 => ?_, fun b o e a1 a2 a3 => ?_, un6.free, fun b o e a3 => ?_, un6.tups, un6.frzs, un6.tbls⟩ ?_ I6.bare (fun b hb => ?_)
   ·exact (hsb.2 b (neC b o e)).trans (un6.keep b o e a1 a2 a3)
   ·obtain ⟨sl, z⟩ := un6.slot b o e a1 a2 a3
    exact ⟨sl, (hsb.2 b (neC b o e)).trans z⟩
   ·obtain ⟨o', z⟩ := un6.there b o e a3
    exact ⟨o', (hsb.2 b (neC b o e)).trans z⟩
   ·intro b u e
    refine (I6.hok b u e).stay (fun c w' hcc q => (hsb.2 c ?_).trans q) (fun _ q => q) fun _ _ q => q
    rintro rfl
    rcases hcc with z | z
    ·rw [z, e] at hC5; cases hC5
    ·rw [z] at hC5; cases hC5
   ·exact ⟨(f3 b hb).2.2.2.1, (f3 b hb).2.1, (f3 b hb).2.2.2.2.1, (f3 b hb).2.2.2.2.2⟩
  ·refine thn (T.item (blk X scope N' C s3 H3 fp pins) rfl rfl rfl hc i [] s5 _ H5 (fun _ _ => False) I5 (stat fr5) st5 go) fun r s6 ⟨u, hr, h6⟩ => ?_
   subst hr
   refine thn h6 fun _ s7 ⟨x, H7, I7, r7, y7, st7, fr7⟩ => ?_
   have I7' := I7.pinned (stat fr7) (T.obj _ _ st7)
   refine thn (hg C s3 H3 fp pins _ s7 _ H7 x u _ I7' r7 (step x H7 y7)) fun _ s8 ⟨σ8, H8, I8, d8, q8⟩ => ?_
   refine thn (ht C s3 H3 fp pins _ s8 σ8 H8 _ I8 q8) fun b s9 ⟨H9, I9, q9⟩ => ?_
   have kz : ∀ (j : Nat) v, (List.replicate k none ++ σ)[j]? = some (some v) -> σ8[j]? = some (some v) := fun j v e => by
    have hik : ¬ j < k := fun hlt => by
     rw [List.getElem?_append_left (by rw [List.length_replicate]; exact hlt), List.getElem?_replicate] at e
     split at e <;> cases e
    rw [List.getElem?_append_right (by rw [List.length_replicate]; omega), List.length_replicate, <- d8, List.getElem?_drop] at e
    have : k + (j - k) = j := by omega
    rw [this] at e; exact e
   have again : ∀ {Hz : Hp} {sz : Shared} {zs : List V} {m' : Nat}, Inv (blk X scope N' C s3 H3 fp pins) ([] ++ pinsAt fp s7.heap) σ8 Hz sz -> m' < n -> W (i + 1) m' zs Hz ->
     ∃ m, m < n /\ ∃ i ys H', Inv (blk X scope N' C s3 H3 fp pins) [] (List.replicate k none ++ σ) H' sz /\ tn i sz.heap /\ (∀ b ∈ fp, H' b = none) /\ W i m ys H' := fun {Hz sz zs m'} Iz hm wz => by
    refine ⟨m', hm, i + 1, zs, Hz, (Iz.unpinned).weak ?_ kz, T.keep _ _ _ st7 fun b hb o e => (Iz.pin (b, o) (List.mem_append_right _ (List.mem_append_right _ (mem_pinsAt hb e)))).1, fun b hb => ?_, wz⟩
    ·rw [Iz.len]; exact I5.len
    ·obtain ⟨o, e, d⟩ := T.obj _ _ st7 b hb
     exact (Iz.pin (b, o) (List.mem_append_right _ (List.mem_append_right _ (mem_pinsAt hb e)))).2.1
   cases b with
   | false =>
    obtain ⟨m', hm, w9⟩ := (show ∃ m', m' < n /\ W (i + 1) m' ys H9 by simpa using q9)
    rw [if_neg Bool.false_ne_true]
    exact again I9 hm w9
   | true =>
    rw [if_pos rfl] at q9 ⊢
    refine thn (he C s3 H3 fp pins _ s9 σ8 H9 _ I9 q9) fun u9 s10 ⟨y, H10, I10, r10, hz, hD10, m', hm, w10⟩ => ?_
    refine thn (mt_append (X := blk X scope N' C s3 H3 fp pins) _ s10 σ8 H10 (.ref D) [y] (.ref D) [u9] (fun _ H' => H' = upd H10 D (.lst (ys ++ [y]))) I10 rfl (.cons r10 .nil) ⟨D, ys, y, rfl, rfl, hD10, hz, rfl⟩) fun _ s11 ⟨_, H11, I11, _, e11⟩ => ?_
    subst e11
    exact again I11 hm w10
 exact codeAny_compStart_list loop (T.self _ 0 _ _ _ st4 loop)
end
end L2
set_option Elab.async false
set_option linter.all false
set_option maxRecDepth 100000
namespace L2
open PySem PySem.Spec PyProof.Rows
section
variable {X : Cx} {pins : List (Addr × Obj)} {σ : St} {H : Hp} {s : Shared} {h' : Heap}
theorem Inv.turnedL {t' : Nat} {fp : List Addr} (I : Inv X pins σ H s) (k : ∀ b o, b ∉ fp -> s.heap.get? b = some o -> h'.get? b = some o) (hf : ∀ b ∈ fp, FpOk X pins H b) : Inv X pins σ H { s with heap := h', toks := t' } := by
 have nit : ∀ b u, H b = some u -> b ∉ fp := fun b u e z => by rw [(hf b z).1] at e; cases e
 refine I.step (g' := s.gens) (d' := s.drawn) (ch := fp) (fun b hb => ⟨(hf b hb).2.2.2.1, (hf b hb).2.1, (hf b hb).2.2.2.2.1, (hf b hb).2.2.2.2.2⟩) (fun b o _ _ hc e _ => k b o hc e) (fun b o _ _ hc e _ => ⟨o.slots, k b o hc e⟩) (fun _ _ _ _ n => n)
  (fun b o hc e => ⟨o, k b o hc e⟩) (fun _ _ e => e) (fun _ _ _ e => e) (fun b ps e => ⟨#[], by rw [e]; simp⟩) (fun m hm => ?_) (fun b u e => ?_) I.bare
 ·obtain ⟨o, es, ep, ho, r⟩ := hm
  exact ⟨o, es, ep, k _ o (fun z => (hf _ z).2.1 rfl) ho, r⟩
 ·refine (I.hok b u e).stay (fun c v hc q => k c v ?_ q) (fun _ q => q) fun _ _ q => q
  rcases hc with z | z
  ·rw [z]; exact nit b u e
  ·exact nit c _ z
theorem Inv.track {p : Addr} {o : HO} (I : Inv X pins σ H s) (hp : X.s₀.heap.objs.size <= p) (hL : p ≠ X.env.locals) (hc : ∀ x c, X.env.cells.lookup x = some c -> c ≠ p) (hpin : ∀ q ∈ X.pn ++ pins, q.1 ≠ p) (hn : H p = none)
  (new : ObjOk X.prog X.w (upd H p o) s.heap p o) : Inv X pins σ (upd H p o) s := by
 refine ⟨I.ok, I.os, I.bare, ⟨I.base.keep, I.base.slot, fun b ob e n hx => ?_, I.base.there, fun b xs e => ?_, fun b ob u e => ?_, fun b ps e => ?_⟩, I.loc, I.cell, by rw [upd_ne (Ne.symm hL)]; exact I.free, fun x c e => by rw [upd_ne (hc x c e)]; exact I.freeC x c e, fun q hq => ?_, fun b u e => ?_, I.len⟩
 ·rw [upd_ne (Nat.ne_of_lt (Nat.lt_of_lt_of_le (Heap.lt_size e) hp))]; exact I.base.free b ob e n hx
 ·have := I.base.tups b xs e
  rw [upd_ne (ne_of_none this hn)]; exact this
 ·have := I.base.frzs b ob u e
  rw [upd_ne (ne_of_none this hn)]; exact this
 ·obtain ⟨more, e2⟩ := I.base.tbls b ps e
  exact ⟨more, by rw [upd_ne (ne_of_none e2 hn)]; exact e2⟩
 ·obtain ⟨a1, a2, a3, a4, a5⟩ := I.pin q hq
  exact ⟨a1, by rw [upd_ne (hpin q hq)]; exact a2, a3, a4, a5⟩
 ·by_cases hb : b = p
  ·subst hb; rw [upd_same] at e; cases e; exact new
  ·rw [upd_ne hb] at e
   exact (I.hok b u e).stay (fun _ _ _ q => q) (fun c q => by rw [upd_ne (ne_of_none q hn)]; exact q) fun c xs q => by rw [upd_ne (ne_of_none q hn)]; exact q
end
section
variable {X : Cx}
end
def Ite (K : PySem.W.Frag) (a : Addr) : It :=
 ⟨fun i H => ∃ xs x, SqL K H a xs /\ xs[i]? = some x,
  fun i H v H' => ∃ p x, v = .ref p /\ H p = none /\ H' = upd H p (.tup [.int i, x]) /\ ∀ xs, SqL K H a xs -> xs[i]? = some x,
  fun i H => ∃ xs, SqL K H a xs /\ xs.length <= i⟩
theorem turn_enum {P : Program} {w : World} {K : PySem.W.Frag} {es : List Expr} {x1} {pos : Pos} (a e it : Addr) : Turn P w K (.Tuple es x1 pos) (Ite K a) [e, it] e
  (fun i h => (∃ old, IsEnum h e it i old) /\ h.IsListIter it a i) where
 mem := by simp
 obj := fun i h ⟨⟨old, he⟩, h1⟩ c hc => by
  simp only [List.mem_cons, List.not_mem_nil, or_false] at hc
  rcases hc with rfl | rfl
  ·exact ⟨_, he, fun v q => by cases (show Data.fields _ = Data.cell v from q)⟩
  ·obtain ⟨o, e, _, d⟩ := h1
   exact ⟨o, e, fun v q => by rw [d] at q; cases q⟩
 keep := fun i h h' ⟨⟨old, he⟩, h1⟩ k => ⟨⟨old, k e (by simp) _ he⟩, h1.at fun o q => k it (by simp) o q⟩
 item := by
  intro X hP hw hK hc i pins s σ H E I hf ⟨⟨old, he⟩, h1⟩ hg
  subst hP hw hK
  obtain ⟨xs, x, hqa, hx⟩ := hg
  obtain ⟨its, rv, p, hsz⟩ := I.list hqa
  obtain ⟨ux, hux, rux⟩ := rv.get hx
  have hne : e ≠ it := fun z => by
   obtain ⟨o1, e1, c1, _⟩ := h1
   rw [<- z, he] at e1; cases e1
   exact absurd (show Value.type "enumerate" = Value.type "list_iterator" from c1) (by decide)
  refine wpAny_pyNext_enum_item he h1 p.isList (x := ux) (by simpa using hux) hne fun h' a1 a3 a5 a6 hk => ?_
  refine ⟨_, rfl, ?_⟩
  refine wpAny_letOwnedTupleGo_enum (s := { s with heap := h', toks := s.toks + 1 }) a1 fun h2' hz' hs' => ?_
  have lt : ∀ b ∈ [e, it], b < s.heap.objs.size := fun c hcm => by
   simp only [List.mem_cons, List.not_mem_nil, or_false] at hcm
   rcases hcm with rfl | rfl
   ·exact Heap.lt_size he
   ·obtain ⟨o, q, _⟩ := h1; exact Heap.lt_size q
  have h12 : h2'.IsListIter it a (i + 1) := a3.extBut hs'.extBut (Ne.symm hne)
  have pz : s.heap.objs.size ≠ e := Nat.ne_of_gt (Heap.lt_size he)
  have hp2 : h2'.get? s.heap.objs.size = some { cls := .type "tuple", data := .seq #[.int i s.toks, ux] } := hs'.extBut _ _ pz a5
  have kk : ∀ c o, c ∉ [e, it] -> s.heap.get? c = some o -> h2'.get? c = some o := fun c o hcm q => by
   simp only [List.mem_cons, List.not_mem_nil, or_false, not_or] at hcm
   exact hs'.extBut _ _ hcm.1 (hk c o hcm.1 hcm.2 q)
  have I1 : Inv X pins σ H { s with heap := h2', toks := s.toks + 1 } := I.turnedL kk hf
  have fP : FpOk X pins H s.heap.objs.size := I.fpOk (Nat.le_refl _) (I.hok.fresh (Nat.le_refl _))
  have I2 : Inv X pins σ (upd H s.heap.objs.size (.tup [.int i, x])) { s with heap := h2', toks := s.toks + 1 } := by
   refine I1.track I.sz (fP.2.1) fP.2.2.2.2.1 fP.2.2.2.2.2 fP.1 ?_
   exact ⟨(show 2 <= sizeLine by decide), [.int i s.toks, ux], .cons ⟨_, rfl⟩ (.cons rux .nil), ⟨_, hp2, rfl, _, rfl⟩⟩
  refine ⟨.ref s.heap.objs.size, _, I2, rfl, ⟨_, x, rfl, fP.1, rfl, fun zs hzs => by rw [I.list_inj hzs hqa]; exact hx⟩, ⟨⟨_, hz'⟩, h12⟩, fun c hcm => ?_⟩
  rw [upd_ne (Nat.ne_of_lt (lt c hcm))]
  exact (hf c hcm).1
 done := by
  intro X hP hw hK hc i pins s σ H E I hf ⟨⟨old, he⟩, h1⟩ hg
  subst hP hw hK
  obtain ⟨xs, hqa, hend⟩ := hg
  obtain ⟨its, rv, p, hsz⟩ := I.list hqa
  have e1 := rv.length
  refine wpAny_pyNext_enum_end (I.ok.hd hc) he h1 p.isList (i := i) (by simp; omega) fun h' hk => ⟨rfl, ?_⟩
  exact I.turnedL (t' := s.toks) (fun c o hcm q => by
   simp only [List.mem_cons, List.not_mem_nil, or_false, not_or] at hcm
   exact hk c o hcm.2 q) hf
 self := fun _ _ _ _ _ ⟨⟨_, st⟩, _⟩ h => wpAny_pyIter_enum st h
section
variable {X : Cx}
def iEnum (K : PySem.W.Frag) (ta : TA) : TI := fun σ H R => ta σ H fun vs H1 => ∃ a, vs = [.ref a] /\ (∃ xs, SqL K H1 a xs) /\ R (Ite K a) H1
theorem pi_enum {es : List Expr} {x1} {tpos : Pos} {e1 : Expr} {ta : TA} {p pos : Pos} (hg : Gl X "enumerate") (hm : X.mg "enumerate" = none) (ha : PA X [e1] ta) (hs : starEach [e1] X.env = [(false, eval e1 X.env)] := by rfl) :
  PI X (.Tuple es x1 tpos) (.Call (.Name "enumerate" p) [e1] [] pos) (iEnum X.K ta) := by
 intro pins s σ H R I h
 refine Call_ (ld_blt I hg hm (by rfl) (PyProof.Rows.callWith_type1 (thn (ha pos pins s σ H _ I h) fun us s1 ⟨vs, H1, I1, r1, q1⟩ => ?_) hs rfl))
 obtain ⟨a, rfl, ⟨xs, hqa⟩, q⟩ := q1
 obtain ⟨u1, rfl, ru1⟩ := vals1 r1
 cases (show u1 = Value.ref a from ru1)
 obtain ⟨its, rv, pa, hsz⟩ := I1.list hqa
 refine call_enumerate_list pa.isList fun h' hz h1 hsize hk => ?_
 refine wpAny_pyIter_enum (s := { s1 with heap := h' }) hz ?_
 refine ⟨_, _, _, _, H1, rfl, I1.kept (t' := s1.toks) hk, turn_enum a (s1.heap.objs.size + 1) s1.heap.objs.size, ⟨⟨_, hz⟩, h1⟩, fun c hc => ?_, q⟩
 have hge : s1.heap.objs.size <= c := by
  simp only [List.mem_cons, List.not_mem_nil, or_false] at hc
  rcases hc with h | h <;> (rw [h]; omega)
 exact I1.fpOk hge (I1.hok.fresh hge)
end
end L2
set_option Elab.async false
set_option linter.all false
set_option maxRecDepth 100000
namespace L2
open PySem PySem.Spec PyProof.Rows
theorem vals_of_items {P : Nat -> Value -> Prop} {acc : List Value} {xs : List V} (hl : acc.length = xs.length) (h : ∀ (j : Nat) (v : Value), acc[j]? = some v -> P j v) (hP : ∀ (j : Nat) v x, P j v -> xs[j]? = some x -> RelV x v) : Vals xs acc := by
 induction xs generalizing acc P with
 | nil =>
  cases acc with
  | nil => exact .nil
  | cons _ _ => simp at hl
 | cons x xs ih =>
  cases acc with
  | nil => simp at hl
  | cons u acc =>
   refine .cons (hP 0 u x (h 0 u rfl) rfl) (ih (P := fun j => P (j + 1)) (by simpa using hl) (fun j v e => h (j + 1) v (by simpa using e)) fun j v y p e => hP (j + 1) v y p (by simpa using e))
section
variable {X : Cx}
theorem bools_of : ∀ {bs : List Bool} {us : List Value}, Vals (bs.map V.bl) us -> LSm.BoolsAre us bs
 | [], _, .nil => .nil
 | b :: bs, _, .cons r t => by
  obtain rfl := (show _ = Value.bool b from r)
  exact .cons b (bools_of t)
theorem call_all (hc : X.calm = true) : CallR X (.builtin "all") (fun xs H Q => ∃ (a : Addr) (bs : List Bool), xs = [V.ref a] /\ SqL X.K H a (bs.map V.bl) /\ Q (.bl (bs.all id)) H) := by
 intro pins s σ H xs us Q I r h
 obtain ⟨a, bs, rfl, hq, q⟩ := h
 obtain ⟨u, rfl, ru⟩ := vals1 r
 cases (show u = Value.ref a from ru)
 obtain ⟨its, rv, p, hz⟩ := I.list hq
 obtain ⟨m, F⟩ := I.fr
 have hlt : a < s.heap.objs.size := by obtain ⟨_, e, _⟩ := p.isList; exact Heap.lt_size e
 have hb := bools_of rv
 refine call_all_walk (wpAny_pyIter_list p.isList ?_)
 refine ⟨s.heap.objs.size, [s.heap.objs.size, a], [s.heap.objs.size], its.toArray.size, _, _, fun i => (bs[i]?).getD true, rfl, Walks.list (A := X.A.in1) (I.ok.hd hc) _ a (Nat.ne_of_lt hlt) its.toArray,
  ⟨⟨_, Heap.get?_push_size _ rfl, rfl, rfl⟩, p.isList.push _⟩, fun i v s' Q' E' hP hQ => ?_, fun h' tk hk => ?_⟩
 ·obtain ⟨b, e, rfl⟩ := hb.get i v (by simpa using hP)
  simp only [e, Option.getD_some] at hQ
  exact wpAny_truthy_bool hQ
 ·have e : ((List.range its.toArray.size).all fun i => (bs[i]?).getD true) = bs.all id := by
   rw [List.size_toArray, hb.length]; exact LSm.range_all bs
  rw [e]
  exact ⟨.bl (bs.all id), H, I.kept (LSm.kept_iter hk), rfl, q⟩
theorem call_range1 : CallR X (.type "range") (fun xs H Q => ∃ j : Int, xs = [.int j] /\ ∀ p, H p = none -> Q (.ref p) (upd H p (.rng 0 j))) := by
 intro pins s σ H xs us Q I r h
 obtain ⟨j, rfl, q⟩ := h
 obtain ⟨u, rfl, t, rfl⟩ := vals1 r
 refine call_range_1 ⟨.ref s.heap.objs.size, _, I.laid (fun b o e => Heap.get?_push_of_some _ e) (Nat.le_refl _) ?_, rfl, q _ (I.hok.fresh (Nat.le_refl _))⟩
 exact ⟨_, _, _, Heap.get?_push_size _ rfl⟩
def intsV (n : Nat) : List V := (List.range n).map fun i => V.int (i : Nat)
theorem intsV_length (n : Nat) : (intsV n).length = n := by simp [intsV]
theorem intsV_get {n i : Nat} (h : i < n) : (intsV n)[i]? = some (.int i) := by simp [intsV, h]
theorem call_list_rng (hc : X.calm = true) : CallR X (.type "list") (fun xs H Q => ∃ p j, xs = [.ref p] /\ H p = some (.rng 0 j) /\ 0 <= j /\ j <= 2 ^ 24 /\ ∀ l, H l = none -> Q (.ref l) (upd H l (.lst (intsV j.toNat)))) := by
 intro pins s σ H xs us Q I r h
 obtain ⟨p, j, rfl, hp, h0, h1, q⟩ := h
 obtain ⟨u, rfl, ru⟩ := vals1 r
 cases (show u = Value.ref p from ru)
 obtain ⟨t, u, v, e⟩ := (show ObjOk X.prog X.w H s.heap p (.rng 0 j) from I.hok p _ hp)
 have sz : (j.toNat : Nat) <= sizeLine := by rw [sizeLine_eq]; omega
 refine call_list_range (n := j.toNat) (I.ok.hd hc) e (small_one (by omega) (by omega) (by omega) (by omega)) (by rw [rangeSize_one]; split <;> omega) (by omega) fun h' tk acc c hk hS hi => ?_
 refine ⟨.ref s.heap.objs.size, _, I.laid hk (Nat.le_refl _) ?_, rfl, q _ (I.hok.fresh (Nat.le_refl _))⟩
 refine ⟨by rw [intsV_length]; exact sz, acc.toList, c, vals_of_items (P := fun i v => ∃ t, v = .int ((0 : Int) + i * 1) t) (by rw [intsV_length, Array.length_toList]; exact hi.1) (fun i v e => hi.2 i v (by simpa using e)) (fun i v x ⟨t, e⟩ ex => ?_), by simpa using hS⟩
 subst e
 have hlt : i < j.toNat := by
  have := (List.getElem?_eq_some_iff.mp ex).1
  rw [intsV_length] at this; exact this
 rw [intsV_get hlt] at ex
 cases ex
 exact ⟨t, by congr 1; omega⟩
theorem call_list_dK (hc : X.calm = true) : CallR X (.type "list") (fun xs H Q => ∃ p kvs, xs = [.ref p] /\ Rd H p (.dK kvs) /\ ∀ l, H l = none -> Q (.ref l) (upd H l (.lst (kvs.map fun kv => kV kv.1)))) := by
 intro pins s σ H xs us Q I r h
 obtain ⟨p, kvs, rfl, hp, q⟩ := h
 obtain ⟨u, rfl, ru⟩ := vals1 r
 cases (show u = Value.ref p from ru)
 obtain ⟨z, hd, vs, rel, o, es, ep, g1, g2, g3, g4, g5, g6⟩ := dk_rd I.hok hp
 refine PySem.W.kdl_call (PySem.W.kdl_dict (knd := mixKind X.prog X.w) (kvs := vs) (ep := ep) hd) (I.ok.hd hc) ⟨o, es, g1, g2, g3, g4, g5, g6⟩ (by rw [<- rel.length]; exact z) fun h' tk acc c hk hS hi => ?_
 refine ⟨.ref s.heap.objs.size, _, I.laid hk (Nat.le_refl _) ?_, rfl, q _ (I.hok.fresh (Nat.le_refl _))⟩
 refine ⟨by rw [List.length_map]; exact z, acc.toList, c, vals_of_items (P := fun i v => ∃ k x, vs[i]? = some (k, x) /\ (mixKind X.prog X.w).is k v = true) (by rw [List.length_map, Array.length_toList, hi.1, rel.length]) (fun i v e => hi.2 i v (by simpa using e)) (fun i v x ⟨k, y, e1, e2⟩ ex => ?_), by simpa using hS⟩
 have hk1 : (kvs.map (·.1))[i]? = some k := by
  have := rel.keys
  rw [this, List.getElem?_map, e1]; rfl
 rw [List.getElem?_map] at ex hk1
 cases hkv : kvs[i]? with
 | none => rw [hkv] at ex; cases ex
 | some kv =>
  rw [hkv] at ex hk1
  cases ex
  have : kv.1 = k := by simpa using hk1
  subst this
  rcases keyIs_shape (k := kv.1) (v := v) e2 with ⟨i, t, e3, e4⟩ | ⟨x, t, e3, e4⟩
  ·show RelV (kV kv.1) v
   rw [e3, e4]; exact ⟨t, rfl⟩
  ·show RelV (kV kv.1) v
   rw [e3, e4]; exact ⟨t, rfl⟩
end
end L2
set_option Elab.async false
set_option linter.all false
set_option maxRecDepth 100000
namespace L2
open PySem PySem.Spec PyProof.Rows
theorem inKeys_map (k : Str) : ∀ D : List (Str × PyData), KTD.inKeys k (D.map fun p => (p.1, KTD.Dat.flat p.2)) = (D.any fun p => decide (k = p.1))
 | [] => rfl
 | p :: D => by rw [List.map_cons, List.any_cons, KTD.inKeys, inKeys_map k D]
section
variable {X : Cx}
abbrev TabK (K : PySem.W.Frag) (a : Addr) (D : List (Str × PyData)) : Prop := KTD.tabLook KTD.flatLooks (fun b => K.lookup b) a D = true
theorem tab_here {pins : List (Addr × Obj)} {σ : St} {H : Hp} {s : Shared} {a : Addr} {D : List (Str × PyData)} (I : Inv X pins σ H s) (T : TabK X.K a D) : KTD.Here s.heap s.heap a (D.map fun p => (p.1, KTD.Dat.flat p.2)) :=
 ⟨(KTD.tab_of_look (fun _ _ x => KTD.flat_of_looks x) (fun b o e => I.kIn b o e) T).text, fun _ _ e => e⟩
theorem op_notInK : OpR X (compareOp .NotIn) (fun x y H Q => ∃ k a D, x = V.str k /\ y = V.ref a /\ TabK X.K a D /\ Q (.bl (!(D.any fun p => decide (k = p.1)))) H) := by
 intro pins s σ H x y v u Q I rx ry h
 obtain ⟨k, a, D, rfl, rfl, T, q⟩ := h
 obtain ⟨t, rfl⟩ := (show ∃ t, v = Value.str k t from rx)
 cases (show u = Value.ref a from ry)
 refine KTD.notin_text (tab_here I T) ⟨.bl (!KTD.inKeys k (D.map fun (p : Str × PyData) => (p.1, KTD.Dat.flat p.2))), H, I.tok _, rfl, ?_⟩
 rw [inKeys_map]; exact q
theorem ix_K : IxR X (fun x y H Q => ∃ k a D i, x = V.ref a /\ y = V.str k /\ TabK X.K a D /\ D.lookup k = some (PyData.int i) /\ (D.all fun p => match p.2 with | .int _ => true | _ => false) = true /\ Q (.int i) H) := by
 intro value slice pins s σ H x y v u Q I rx ry h hs
 obtain ⟨k, a, D, i, rfl, rfl, T, e, hp, q⟩ := h
 cases (show v = Value.ref a from rx)
 obtain ⟨t, rfl⟩ := (show ∃ t, u = Value.str k t from ry)
 have e1 : ∀ D : List (Str × PyData), (D.all fun p => match p.2 with | .int _ => true | _ => false) = true -> ((D.map fun p => (p.1, KTD.Dat.flat p.2)).all fun p => KTD.plain p.2) = true := fun D hD => by
  rw [List.all_map]
  refine List.all_eq_true.mpr fun p hp' => ?_
  have := List.all_eq_true.mp hD p hp'
  cases hq : p.2 <;> simp [hq] at this <;> simp [Function.comp, hq, KTD.plain]
 have e2 : ∀ D : List (Str × PyData), KTD.datumAt k (D.map fun p => (p.1, KTD.Dat.flat p.2)) = (D.lookup k).map KTD.Dat.flat := fun D => by
  induction D with
  | nil => rfl
  | cons p D ih =>
   obtain ⟨x, d⟩ := p
   rw [List.map_cons, KTD.datumAt, List.lookup_cons, ih]
   by_cases hk : k = x
   ·subst hk; simp
   ·have : (k == x) = false := beq_eq_false_iff_ne.mpr hk
    simp [hk, this]
 have hT := tab_here I T
 have hat : KTD.datumAt k (D.map fun p => (p.1, KTD.Dat.flat p.2)) = some (KTD.Dat.flat (.int i)) := by rw [e2 D, e]; rfl
 have hmem : KTD.inKeys k (D.map fun p => (p.1, KTD.Dat.flat p.2)) = true := by rw [<- KTD.isSome_datumAt, hat]; rfl
 refine subscriptTail_builtin_flat hT.typeIs slot_dict_getitem.lookup ?_ hs
 unfold getItem
 try with_reducible refine wpAny_holding ?_
 refine wpAny_bind (wpAny_sequenceKey hT.typeIs (by decide) ?_)
 refine wpAny_bind (wpAny_callSpecial?_slot (name := Str.ofString "__getitem__") hT.typeIs slot_dict_getitem
  (wpAny_call_entry slot_dict_getitem hT.typeIs entry_dict_getitem ?_ (args_dict_getitem _ _)))
 show wpAny _ _ (dictGet a (.str k t) >>= _) _ _ s
 refine wpAny_bind (KTD.dictGet_text hT (fun d v ha hv => wpAny_pure ⟨v, rfl, wpAny_pure ⟨KTD.notRef_of_plain (KTD.plain_at (e1 D hp) ha) hv, ?_⟩⟩) fun hn => absurd hn (KTD.at_of_mem hmem))
 rw [hat] at ha
 cases ha
 obtain ⟨t', rfl⟩ : ∃ t, v = Value.int i t := by
  exact PyProof.V.Flat.int_inv (show PyProof.V.Flat v (PyData.int i) from hv)
 exact ⟨.int i, H, I.tok _, ⟨_, rfl⟩, q⟩
end
end L2
set_option Elab.async false
set_option linter.all false
set_option maxRecDepth 100000
namespace L2
open PySem PySem.Spec PyProof.Rows
structure FunG (K : PySem.W.Frag) (x qual : Str) (st : Stmt) (dV : Value) (f : Addr) (fd : FuncData) : Prop where
 ex : ∃ (oc : Value) (od : Option Addr) (kV doc pm : Value) (an : Option Addr) (cdv ct : Value) (osl : Array (Option Value)),
  fd = PySem.W.fnOf x qual (defArgs st) (defBody st) (defScope st) dV kV doc pm an cdv ct /\ K.lookup f = some ⟨oc, od, .func fd, osl⟩ /\ PySem.W.codeIn K cdv qual = true
 kp : PySem.W.keepIn K (.ref f) = true
section
variable {P : Program} {w : World} {K : PySem.W.Frag} {mg : Str -> Option Value} {base : Heap}
theorem FunG.ok {x qual : Str} {st : Stmt} {dV : Value} {f : Addr} {fd : FuncData} {N ps : List Str} {k : Nat} {sp : Sp} (F : FunG K x qual st dV f fd) (S : FnScope N ps (defScope st)) (len : ∀ vs H Q E, sp vs H Q E -> vs.length = ps.length)
  (hbody : ∀ (cdv : Value) (A : Around) (outer : List Env) (s : Shared) (H : Hp) (vs : List V) (Q : VK) (E : XK), Room k (A.deeper (envOfC qual (defScope st) s.heap.objs.size f cdv)) -> sp vs H Q E ->
   ∃ t, PSs (cxOf CX0 P w K mg base N qual (defScope st) f cdv A outer s H E).nox (defBody st) t /\ t { nx := fun _ H' => Q .non H', rt := Q } (start N vs) H) : FnOk P w K mg base CX0 (k + 1) f fd ps sp := by
 obtain ⟨oc, od, kV, doc, pm, an, cdv, ct, osl, rfl, lk, hcd⟩ := F.ex
 refine fn_of lk hcd S len fun A outer s H vs Q E hr hsp => ?_
 obtain ⟨t, h, q⟩ := hbody cdv A outer s H vs Q E hr hsp
 exact ⟨t, h.nox, q⟩
theorem FunG.binds {x qual : Str} {st : Stmt} {dV : Value} {f : Addr} {fd : FuncData} {ps : List Str} (F : FunG K x qual st dV f fd)
  (h : ∀ (kV doc pm : Value) (an : Option Addr) (cdv ct : Value) (us : List Value), us.length = ps.length -> bindArgs (PySem.W.fnOf x qual (defArgs st) (defBody st) (defScope st) dV kV doc pm an cdv ct) ⟨us, []⟩ = pure (ps.zip us)) : Binds K fd ps [] := by
 obtain ⟨oc, od, kV, doc, pm, an, cdv, ct, osl, rfl, lk, hcd⟩ := F.ex
 exact .all (h kV doc pm an cdv ct)
theorem funG_mk {x qual : Str} {st : Stmt} {f : Addr} {oc : Value} {od an : Option Addr} {osl : Array (Option Value)} {dV kV doc pm cdv ct : Value} (l : K.lookup f = some ⟨oc, od, .func (PySem.W.fnOf x qual (defArgs st) (defBody st) (defScope st) dV kV doc pm an cdv ct), osl⟩)
  (c : PySem.W.codeIn K cdv qual = true) (k : PySem.W.keepIn K (.ref f) = true) : FunG K x qual st dV f (PySem.W.fnOf x qual (defArgs st) (defBody st) (defScope st) dV kV doc pm an cdv ct) := ⟨⟨oc, od, kV, doc, pm, an, cdv, ct, osl, rfl, l, c⟩, k⟩
end
end L2
set_option Elab.async false
set_option linter.all false
set_option maxRecDepth 100000
namespace L2
open PySem PySem.Spec PyProof.Rows
section
variable {X : Cx} {K : PySem.W.Frag}
theorem pg_tupK (hK : X.K = K) {es : List Expr} {k : Nat} {t : TGs} {n : Nat} {pos : Pos} (hc : X.calm = true) (h : PGs X es t)
  (hn : (assignEach es X.env).length = n := by rfl) (hst : (assignEach es X.env).findIdx? (·.1) = none := by rfl) : PG X (.Tuple es k pos) (gTup K n t) := by
 subst hK; exact pg_tup hc h hn hst
end
end L2
namespace L2
theorem tTrueT {σ : St} {H : Hp} {A B : Hp -> Prop} (h : A H) : tTrue σ H (fun b H3 => if b = true then A H3 else B H3) := (iteT h : if true = true then A H else B H)
end L2
namespace L2
open PySem PySem.Spec PyProof.Rows
section
variable {X : Cx} {CX : CXT} {k : Nat} {f C : Addr} {fd : FuncData} {ps ks : List Str} {sp : Sp} {E : XK} {x m : Str} {p pos apos kpos : Pos} {e o : Expr} {es : List Expr} {kws : List Keyword} {te ta : TE} {t tk : TA}
 {g : List Value -> List Value -> List Value} {gV : List V -> List V -> List V}
end
end L2
namespace L2
theorem ifJ {b : Bool} {A B : Prop} (hA : b = true -> B -> A) (g : B) : if b = true then A else B := by
 cases b
 ·exact iteF g
 ·exact iteT (hA rfl g)
end L2
set_option Elab.async false
set_option linter.all false
set_option maxRecDepth 100000
namespace L2
open PySem PySem.Spec PyProof.Rows
section
variable {prog : Program} {w : World} {K : Type} [DecidableEq K] {knd : HeapKind prog w K} {A : Around} {E : Value -> Shared -> Prop} {s : Shared} {d a : Addr} {k : K} {xs : List (K × Addr × Value)}
theorem filter_not_mem {α : Type} : ∀ {xs : List (K × α)} {k : K}, k ∉ xs.map (·.1) -> xs.filter (fun x => decide (x.1 ≠ k)) = xs
 | [], _, _ => rfl
 | x :: xs, k, h => by
  rw [List.map_cons, List.mem_cons, not_or] at h
  rw [List.filter_cons, if_pos (by simpa using fun e => h.1 e.symm), filter_not_mem h.2]
theorem erase_filter {α : Type} : ∀ {xs : List (K × α)} {j : Nat} {k : K} {p : α}, (xs.map (·.1)).Nodup -> xs[j]? = some (k, p) -> xs.eraseIdx j = xs.filter (fun x => decide (x.1 ≠ k))
 | [], _, _, _, _, h => by simp at h
 | x :: xs, 0, k, p, hn, h => by
  rw [List.map_cons, List.nodup_cons] at hn
  simp only [List.getElem?_cons_zero, Option.some.injEq] at h
  subst h
  rw [List.eraseIdx_cons_zero, List.filter_cons, if_neg (by simp), filter_not_mem hn.1]
 | x :: xs, j + 1, k, p, hn, h => by
  rw [List.map_cons, List.nodup_cons] at hn
  simp only [List.getElem?_cons_succ] at h
  have hmem : k ∈ xs.map (·.1) := List.mem_map.mpr ⟨(k, p), List.mem_of_getElem? h, rfl⟩
  have hne : ¬ x.1 = k := fun e => hn.1 (e ▸ hmem)
  rw [List.eraseIdx_cons_succ, erase_filter hn.2 h, List.filter_cons, if_pos (by simpa using hne)]
theorem eraseIdx_map {α β : Type} (f : α -> β) : ∀ (xs : List α) (j : Nat), (xs.map f).eraseIdx j = (xs.eraseIdx j).map f
 | [], _ => rfl
 | _ :: _, 0 => rfl
 | x :: xs, j + 1 => by rw [List.map_cons, List.eraseIdx_cons_succ, List.eraseIdx_cons_succ, List.map_cons, eraseIdx_map f xs j]
theorem takeOut_heap {Q : Option DictEntry -> Shared -> Prop} {p : Addr × Value} (hu : knd.room A) (hkey : knd.is s.heap k a) (hm : s.heap.DictOfH knd d xs) (hp : atKey xs k = some p)
  (hQ : ∀ h', h'.DictOfH knd d (xs.filter fun x => decide (x.1 ≠ k)) -> Heap.SameBut d s.heap h' -> Q (some ⟨knd.hash k, .ref p.1, p.2⟩) { s with heap := h', toks := s.toks + knd.draws k })
  (hsz : xs.length <= sizeLine) : wpAny (model prog w) A (Builtin.Dict.takeOut d (.ref a)) Q E s := by
 obtain ⟨o, es, ep, ho, hc, hd, he, his, hn⟩ := hm
 have hes : es.size <= sizeLine := by have e := size_of_entries he; omega
 unfold Builtin.Dict.takeOut
 try with_reducible refine wpAny_holding ?_
 refine wpAny_bind (knd.pyHash hu hkey (wpAny_bind (wpAny_dictFind_heap (s := { s with toks := s.toks + knd.draws k }) hu hkey ho hd he his hn ?_ ?_)))
 ·intro hno
  rw [atKey_none_of_get hno] at hp
  cases hp
 ·intro j q hj
  rw [atKey_of_get hn hj] at hp
  cases hp
  refine wpAny_bind (wpAny_dictEntries (s := { s with toks := s.toks + knd.draws k }) ho hd ?_)
  rw [entry_at he j, hj]
  show wpAny _ _ (updateDictKeys d (·.eraseIdxIfInBounds j) (keyPart (.ref a)) >>= _) _ _ _
  refine wpAny_bind (wpAny_updateDictKeys (hz := hes) (s := { s with toks := s.toks + knd.draws k }) ho hd (wpAny_pure (hQ _ ⟨_, _, ep + 1, Heap.get?_update_self _ ho (Obj.isFreed_of_dict (Obj.data_mapDictKeys hd _)),
   hc.mapDictKeys _, Obj.data_mapDictKeys hd _, ?_, ?_, ?_⟩ (Heap.SameBut.update ..))))
  ·rw [<- erase_filter hn hj, <- eraseIdx_map, <- he]
   obtain ⟨l⟩ := es
   simp
  ·intro x hx
   exact knd.keeps (his x (List.mem_filter.mp hx).1) ho hd (Heap.SameBut.update ..)
  ·exact hn.sublist ((List.filter_sublist).map _)
theorem meetsH_dict_delitem :
  MeetsIn prog w (Builtin.«dict.__delitem__» ⟨[.ref d, .ref a], []⟩) (fun A R s => knd.room A.in1 /\ ∃ k xs p, knd.is s.heap k a /\ s.heap.DictOfH knd d xs /\ xs.length <= sizeLine /\ atKey xs k = some p /\
   ∀ h', h'.DictOfH knd d (xs.filter fun x => decide (x.1 ≠ k)) -> Heap.SameBut d s.heap h' -> R (.ok (.ret .none)) { s with heap := h', toks := s.toks + knd.draws k }) :=
 .of_wp fun A R s ⟨hu, k, xs, p, hkey, hm, hsz, hp, h⟩ => by
  unfold Builtin.«dict.__delitem__»
  refine wpAny_bind ?_
  unfold Builtin.Dict.dictSlotArgs
  refine wpAny_bind (wpAny_notOrdered_dict hm.typeIs ?_)
  show wpAny _ _ (pure (Value.ref d, Value.ref a)) _ _ s
  refine wpAny_pure ?_
  show wpAny _ _ (Builtin.Dict.takeOut d (.ref a) >>= _) _ _ s
  refine wpAny_bind (takeOut_heap (hsz := hsz) hu hkey hm hp fun h' hm' hs' => ?_)
  exact wpAny_bind (wpAny_letGo (wpAny_pure ⟨.none, rfl, h h' hm' hs'⟩))
end
end L2
namespace L2
open PySem PySem.Spec PyProof.Rows
theorem KT.drop {H : Hp} {kvs : List (List Key × V)} {xs : List (List Key × Addr × Value)} (r : KT H kvs xs) (k : List Key) : KT H (dropK kvs k) (xs.filter fun x => decide (x.1 ≠ k)) := by
 unfold dropK
 induction r with
 | nil => exact .nil
 | @cons p q ps qs hq t ih =>
  rw [List.filter_cons, List.filter_cons]
  have e : p.1 = q.1 := hq.1
  by_cases c : q.1 = k
  ·rw [if_neg (by simpa using e.trans c), if_neg (by simpa using c)]; exact ih
  ·rw [if_pos (by simpa using fun z => c (e.symm.trans z)), if_pos (by simpa using c)]; exact .cons hq ih
section
variable {X : Cx} {pins : List (Addr × Obj)} {σ : St} {H : Hp} {s : Shared} {a b : Addr} {kvs : List (List Key × V)} {k : List Key} {u : Value} {A : Around} {E : Value -> Shared -> Prop}
theorem d_delItemT {v : V} {Q : Unit -> Shared -> Prop} (hu : A.units + 1 < cLine) (I : Inv X pins σ H s) (e : H a = some (.dT kvs)) (eb : H b = some (.tup (k.map kV))) (l : valV kvs k = some v)
  (h : ∀ s', Inv X pins σ (upd H a (.dT (dropK kvs k))) s' -> Q () s') : wpAny (model X.prog X.w) A (delItem (.ref a) (.ref b)) Q E s := by
 obtain ⟨z, hd, xs, rel, dd⟩ := dt_of I.hok e
 obtain ⟨w', hw, rw'⟩ := RelO.some_of (v := v) (o := (atKey xs k).map (·.2)) (by rw [<- l]; exact rel.val k)
 obtain ⟨p, hp, hp2⟩ := Option.map_eq_some_iff.mp hw
 have hz : xs.length <= sizeLine := by rw [<- Paired.length rel]; exact z
 refine wpAny_delItem_slot dd.typeIs (by decide) PySem.F.slot_dict_delitem
  (call_meetsIn PySem.F.slot_dict_delitem dd.typeIs PySem.F.entry_dict_delitem (PySem.F.args_dict_delitem_2 _ _) meetsH_dict_delitem ⟨tupleKind_room_in1 hu, k, xs, p, key_of I.hok eb, dd, hz, hp, fun h' dd' hs => h _ ?_⟩)
 obtain ⟨q, es, ep, hq, h2, h3, h4, _, h5⟩ := dd'
 refine d_write I (by rw [e]; exact True.intro) hs ⟨q, hq⟩ ⟨Nat.le_trans (dropK_le kvs k) z, hd, _, (rel.drop k).keeps fun c ys ec => ?_, q, es, ep, hq, h2, h3, h4, h5⟩
 rw [upd_ne (ne_of ec e (fun z => nomatch z))]
 exact ec
end
section
variable {X : Cx} {o i e : Expr} {td ty : TE} {tpos pos apos cpos : Pos}
def sDDelT (td ty : TE) : TS := fun D σ H => td σ H fun x H1 => ty σ H1 fun y H2 => ∃ a b kvs k v, x = .ref a /\ y = .ref b /\ H2 a = some (.dT kvs) /\ H2 b = some (.tup (k.map kV)) /\ valV kvs k = some v /\ D.nx σ (upd H2 a (.dT (dropK kvs k)))
theorem ps_ddelT (hu : X.A.units + 1 < cLine) (ho : PE X o td) (hi : PE X i ty) : PS X (.Delete [.Subscript o i tpos] pos) (sDDelT td ty) := by
 intro pins s σ H D I h
 refine wpAny_Delete (wpAny_deleteEach_cons (wpAny_delete_Subscript (thn (ho pins s σ H _ I h) fun u s1 ⟨x, H1, I1, rx, q1⟩ => thn (hi pins s1 σ H1 _ I1 q1) fun iv s2 ⟨y, H2, I2, ry, a, b, kvs, k, v, ex, ey, e, eb, l, q2⟩ => ?_)))
 subst ex ey
 obtain rfl : u = Value.ref a := rx
 obtain rfl : iv = Value.ref b := ry
 exact d_delItemT hu I2 e eb l fun s3 I3 => wpAny_deleteEach_nil ⟨σ, _, I3, q2⟩
theorem op_addL : OpR X (binaryOp .Add) (fun x y H Q => ∃ a b xs ys, x = .ref a /\ y = .ref b /\ SqL X.K H a xs /\ SqL X.K H b ys /\ xs.length + ys.length <= sizeLine /\ ∀ l, H l = none -> Q (.ref l) (upd H l (.lst (xs ++ ys)))) := by
 intro pins s σ H x y u v Q I rx ry h
 obtain ⟨a, b, xs, ys, rfl, rfl, ha, hb, hz, q⟩ := h
 cases (show u = Value.ref a from rx)
 cases (show v = Value.ref b from ry)
 obtain ⟨ia, ra, ⟨⟨cls, dd, data, sl⟩, n, ho, hc, _, hd⟩, _⟩ := I.list ha
 obtain ⟨ib, rb, ⟨⟨cls2, dd2, data2, sl2⟩, n2, ho2, hc2, _, hd2⟩, _⟩ := I.list hb
 simp only at hc hd hc2 hd2
 subst hc hd hc2 hd2
 have e : ia.toArray ++ ib.toArray = (ia ++ ib).toArray := by simp
 have e1 := ra.length
 have e2 := rb.length
 refine concat_meets ⟨_, ho, rfl⟩ ⟨_, ho2, rfl⟩ noFill_list_add seq_list_add PySem.F.slot_list_add PySem.F.entry_list_add (PySem.F.args_list_add_2 _ _) (list_addW a b ia.toArray ib.toArray n n2 dd dd2 sl sl2 (by simp; omega)) ⟨ho, ho2, ?_⟩
 rw [e]
 refine ⟨.ref s.heap.objs.size, _, I.laid (a := s.heap.objs.size) (o := .lst (xs ++ ys)) (t' := s.toks) (fun _ _ q => Heap.get?_push_of_some _ q) (Nat.le_refl _) ⟨by simpa using hz, ia ++ ib, 0, ra.append rb, Heap.get?_push_size _ rfl⟩, rfl, q _ (I.hok.fresh (Nat.le_refl _))⟩
theorem reads_ints {h : Heap} : ∀ {ns : List Int} {vs : List Value}, Vals (ns.map V.int) vs -> ReadsAll h vs (ns.map PyData.int) []
 | [], _, r => by cases r; exact .nil
 | n :: ns, _, r => by
  cases r with
  | cons r1 r2 =>
   obtain ⟨t, rfl⟩ := r1
   exact .cons (as := []) (.int _ t) (reads_ints r2)
theorem reads_tup {pins : List (Addr × Obj)} {s : Shared} {σ : St} {H : Hp} {a : Addr} {ns : List Int} (I : Inv X pins σ H s) (h : H a = some (.tup (ns.map V.int))) : Reads s.heap (.ref a) (.tuple (ns.map PyData.int)) [] := by
 obtain ⟨_, its, r, o, h1, h2, n, h3⟩ := (show ObjOk X.prog X.w H s.heap a (.tup (ns.map V.int)) from I.hok a _ h)
 exact reads_tuple_at h1 h2 h3 (by simpa using reads_ints r)
theorem shaped_tup (ns : List Int) : SeqAt.shaped (.tuple (ns.map PyData.int)) = true := by
 simp [SeqAt.shaped, PyData.canLay0, PyData.depth, PySem.W.ke_canLayAll0, PySem.W.ke_depthAll]
theorem same_tup (ns ms : List Int) : PySem.Spec.same (.tuple (ns.map PyData.int)) (.tuple (ms.map PyData.int)) = decide (ns = ms) := by
 simp only [PySem.Spec.same]; exact PySem.W.ke_sameAll ns ms
def rTup (neg : Bool) : R2 := fun x y H Q => ∃ (a b : Addr) (ns ms : List Int), x = .ref a /\ y = .ref b /\ H a = some (.tup (ns.map V.int)) /\ H b = some (.tup (ms.map V.int)) /\ Q (.bl (if neg then !decide (ns = ms) else decide (ns = ms))) H
theorem tup_has (ns : List Int) : (Shape.tuples .int).has (.tuple (ns.map PyData.int)) = true := by
 simp only [Shape.has]
 induction ns with
 | nil => rfl
 | cons n ns ih => simp [Shape.hasAll, Shape.has] at ih ⊢; try exact ih
theorem op_eqT (hu : X.A.units + 64 < cLine) : OpR X (compareOp .Eq) (rTup false) := by
 intro pins s σ H x y u v Q I rx ry h
 obtain ⟨a, b, ns, ms, rfl, rfl, ha, hb, q⟩ := h
 cases (show u = Value.ref a from rx)
 cases (show v = Value.ref b from ry)
 exact eq_dataH_same (reads_tup I ha) (reads_tup I hb) (shaped_tup _) (shaped_tup _) hu (SeqAt.noMix_of_shape (.tuples .int) rfl _ _ (tup_has ns) (tup_has ms)) (by rw [same_tup]; exact fin_bl I q (by simp))
end
end L2
namespace L2
open PySem PySem.Spec PyProof.Rows
theorem for_enum {K : PySem.W.Frag} {a : Addr} {xs : List V} {g : TG} {tb : TS} {D : Ends} {σ : St} {H : Hp} (Pv : Nat -> St -> Hp -> Prop) (h0 : Pv 0 σ H) (hl : ∀ i σ H, i <= xs.length -> Pv i σ H -> SqL K H a xs)
  (hs : ∀ i x σ H p, xs[i]? = some x -> Pv i σ H -> H p = none -> g (.ref p) σ (upd H p (.tup [.int i, x])) fun σ2 H2 => tb { D with nx := Pv (i + 1), ct := Pv (i + 1), bk := D.nx } σ2 H2) (hd : ∀ σ H, Pv xs.length σ H -> D.nx σ H) :
  ∃ W : Nat -> Nat -> St -> Hp -> Prop, (∃ m, W 0 m σ H) /\ ∀ i m σ H, W i m σ H ->
   ((Ite K a).stop i H /\ D.nx σ H) ∨ ((Ite K a).go i H /\ ∃ N : St -> Hp -> Prop, (∀ σ' H', N σ' H' -> ∃ m', m' < m /\ W (i + 1) m' σ' H') /\ ∀ x H', (Ite K a).yld i H x H' -> g x σ H' fun σ2 H2 => tb { D with nx := N, ct := N, bk := D.nx } σ2 H2) := by
 refine ⟨fun i m σ H => m = xs.length - i /\ i <= xs.length /\ Pv i σ H, ⟨xs.length, by simp, Nat.zero_le _, h0⟩, ?_⟩
 rintro i m σ H ⟨rfl, hi, p⟩
 have hq := hl i σ H hi p
 by_cases hlt : i < xs.length
 ·refine .inr ⟨⟨xs, xs[i], hq, List.getElem?_eq_getElem hlt⟩, Pv (i + 1), fun σ' H' p' => ⟨xs.length - (i + 1), by omega, rfl, hlt, p'⟩, fun x H' y => ?_⟩
  obtain ⟨b, z, rfl, hb, rfl, hz⟩ := y
  exact hs i z σ H b (hz xs hq) p hb
 ·have e : i = xs.length := by omega
  subst e
  exact .inl ⟨⟨xs, hq, Nat.le_refl _⟩, hd σ H p⟩
end L2
set_option Elab.async false
set_option linter.all false
set_option maxRecDepth 100000
namespace L2
open PySem PySem.Spec PyProof.Rows
section
variable {prog : Program} {w : World} {A : Around} {E : Value -> Shared -> Prop} {s : Shared}
end
section
variable {X : Cx} {pins : List (Addr × Obj)} {σ : St} {H : Hp} {s : Shared} {a : Addr} {y v : V} {u r : Value} {o : Option V} {A : Around} {E : Value -> Shared -> Prop}
end
end L2
set_option Elab.async false
set_option linter.all false
set_option maxRecDepth 100000
namespace L2
open PySem PySem.Spec PyProof.Rows
section
variable {X : Cx}
end
end L2
set_option Elab.async false
set_option linter.all false
set_option maxRecDepth 100000
namespace L2
open PySem PySem.Spec PyProof.Rows
section
variable {X : Cx}
end
section
variable {prog : Program} {w : World} {A : Around} {E : Value -> Shared -> Prop} {s : Shared} {K : Type} [DecidableEq K] {knd : PySem.KeyKind prog w K}
end
section
variable {X : Cx}
end
end L2
set_option Elab.async false
set_option linter.all false
set_option maxRecDepth 100000
namespace L2
open PySem PySem.Spec PyProof.Rows
section
variable {X : Cx}
end
end L2
set_option Elab.async false
set_option linter.all false
set_option maxRecDepth 100000
namespace L2
open PySem PySem.Spec PyProof.Rows
mutual
def DV (K : PySem.W.Frag) (H : Hp) : PyData -> V -> Prop
 | .none, v => v = .non
 | .bool b, v => v = .bl b
 | .int i, v => v = .int i
 | .str x, v => v = .str x
 | .list ds, v => ∃ (a : Addr) (xs : List V), v = .ref a /\ SqL K H a xs /\ DVs K H ds xs
 | .tuple ds, v => ∃ (a : Addr) (xs : List V), v = .ref a /\ SqT K H a xs /\ DVs K H ds xs
 | .dict _, _ => False
def DVs (K : PySem.W.Frag) (H : Hp) : List PyData -> List V -> Prop
 | [], xs => xs = []
 | d :: ds, xs => ∃ v r, xs = v :: r /\ DV K H d v /\ DVs K H ds r
end
section
variable {X : Cx} {pins : List (Addr × Obj)} {s : Shared} {σ : St} {H : Hp}
mutual
theorem DV.reads (I : Inv X pins σ H s) : ∀ (d : PyData) (v : V) (u : Value), DV X.K H d v -> RelV v u -> ∃ as, Reads s.heap u d as
 | .none, v, u, h, r => by
  unfold DV at h; subst h; cases (show u = Value.none from r); exact ⟨[], .none⟩
 | .bool b, v, u, h, r => by
  unfold DV at h; subst h; cases (show u = Value.bool b from r); exact ⟨[], .bool b⟩
 | .int i, v, u, h, r => by
  unfold DV at h; subst h; obtain ⟨t, e⟩ := (show ∃ t, u = Value.int i t from r); subst e; exact ⟨[], .int i t⟩
 | .str x, v, u, h, r => by
  unfold DV at h; subst h; obtain ⟨t, e⟩ := (show ∃ t, u = Value.str x t from r); subst e; exact ⟨[], .str x t⟩
 | .list ds, v, u, h, r => by
  unfold DV at h
  obtain ⟨a, xs, rfl, hs, hd⟩ := h
  cases (show u = Value.ref a from r)
  obtain ⟨its, r2, ⟨o, n, e, c, d, dd⟩, hz⟩ := I.list hs
  obtain ⟨as, ra⟩ := DVs.reads I ds xs its hd r2
  exact ⟨a :: as, .list e c dd (by simpa using ra)⟩
 | .tuple ds, v, u, h, r => by
  unfold DV at h
  obtain ⟨a, xs, rfl, hs, hd⟩ := h
  cases (show u = Value.ref a from r)
  obtain ⟨its, r2, ⟨o, e, c, n, dd⟩, hz⟩ := I.tuple hs
  obtain ⟨as, ra⟩ := DVs.reads I ds xs its hd r2
  exact ⟨as, .tuple e c dd (by simpa using ra)⟩
 | .dict _, v, u, h, r => by unfold DV at h; exact h.elim
theorem DVs.reads (I : Inv X pins σ H s) : ∀ (ds : List PyData) (xs : List V) (us : List Value), DVs X.K H ds xs -> Vals xs us -> ∃ as, ReadsAll s.heap us ds as
 | [], xs, us, h, r => by
  unfold DVs at h; subst h; cases r; exact ⟨[], .nil⟩
 | d :: ds, xs, us, h, r => by
  unfold DVs at h
  obtain ⟨v, r', rfl, h1, h2⟩ := h
  cases r with
  | cons ru rs =>
   obtain ⟨as, ra⟩ := DV.reads I d v _ h1 ru
   obtain ⟨bs, rb⟩ := DVs.reads I ds r' _ h2 rs
   exact ⟨as ++ bs, .cons ra rb⟩
end
def rDat (K : PySem.W.Frag) (neg : Bool) : R2 := fun x y H Q => ∃ (d e : PyData), DV K H d x /\ DV K H e y /\ SeqAt.shaped d = true /\ SeqAt.shaped e = true /\ Q (.bl (if neg then !PyData.eqv d e else PyData.eqv d e)) H
theorem op_eqD {X : Cx} (hu : X.A.units + 64 < cLine) : OpR X (compareOp .Eq) (rDat X.K false) := by
 intro pins s σ H x y u v Q I rx ry h
 obtain ⟨d, e, hd, he, sd, se, q⟩ := h
 obtain ⟨as, ra⟩ := DV.reads I d x u hd rx
 obtain ⟨bs, rb⟩ := DV.reads I e y v he ry
 exact eq_dataH ra rb sd se hu (fin_bl I q (by simp))
theorem op_neD {X : Cx} (hu : X.A.units + 64 < cLine) : OpR X (compareOp .NotEq) (rDat X.K true) := by
 intro pins s σ H x y u v Q I rx ry h
 obtain ⟨d, e, hd, he, sd, se, q⟩ := h
 obtain ⟨as, ra⟩ := DV.reads I d x u hd rx
 obtain ⟨bs, rb⟩ := DV.reads I e y v he ry
 exact ne_dataH ra rb sd se hu (fin_bl I q (by simp))
end
theorem canLayAll_map {α : Type} (f : α -> PyData) : ∀ (l : List α), (∀ x ∈ l, (f x).canLay0 = true) -> PyData.canLayAll0 (l.map f) = true
 | [], _ => rfl
 | x :: l, h => by
  rw [List.map_cons, PyData.canLayAll0, h x List.mem_cons_self, canLayAll_map f l fun y hy => h y (List.mem_cons_of_mem _ hy)]; rfl
theorem depthAll_map {α : Type} (f : α -> PyData) (n : Nat) : ∀ (l : List α), (∀ x ∈ l, (f x).depth <= n) -> PyData.depthAll (l.map f) <= n
 | [], _ => Nat.zero_le _
 | x :: l, h => by
  rw [List.map_cons, PyData.depthAll]
  exact Nat.max_le.mpr ⟨h x List.mem_cons_self, depthAll_map f n l fun y hy => h y (List.mem_cons_of_mem _ hy)⟩
theorem DVs.map {α : Type} {K : PySem.W.Frag} {H : Hp} (f : α -> PyData) (g : α -> V) : ∀ (l : List α), (∀ x ∈ l, DV K H (f x) (g x)) -> DVs K H (l.map f) (l.map g)
 | [], _ => by show DVs K H [] []; unfold DVs; rfl
 | x :: l, h => by
  show DVs K H (f x :: l.map f) (g x :: l.map g)
  unfold DVs
  exact ⟨_, _, rfl, h x List.mem_cons_self, DVs.map f g l fun y hy => h y (List.mem_cons_of_mem _ hy)⟩
theorem shaped_of {d : PyData} (h1 : d.canLay0 = true) (h2 : d.depth <= 64) : SeqAt.shaped d = true := by unfold SeqAt.shaped; rw [h1, decide_eq_true h2]; rfl
section
variable {X : Cx}
end
end L2
set_option Elab.async false
set_option linter.all false
set_option maxRecDepth 100000
namespace L2
open PySem PySem.Spec PyProof.Rows
def CXr (P : Program) (w : World) : CXT := fun outer H s E e s' => ∃ (a : Addr) (C a0 : Value) (H' : Hp) (B : Heap), e = .ref a /\ Heap.FlyingW B outer a C a0 s'.heap /\ s'.os = s.os /\ AllBare s'.gens /\ Un (frs outer) [] H H' s.heap s'.heap /\
 (∀ b o, s.heap.get? b = some o -> H b = none -> b ∉ frs outer -> B.get? b = some o) /\ (∀ b o, s.heap.get? b = some o -> b ∉ frs outer -> ∃ o', B.get? b = some o') /\ HOk P w H' B /\ E C (some a) H'
theorem funFrames_hide {h base : Heap} : ∀ {l : List Env} {m : List Addr}, h.FunFrames base l -> (∀ b ∈ frs l, b ∈ m) -> h.FunFrames (PySem.W.hideAll h m) l
 | [], _, _, _ => trivial
 | env :: r, m, ⟨hk, ⟨L, o, hf, hn, ho, hd⟩, hr⟩, hs => ⟨hk, ⟨L, o, hf, PySem.W.hideAll_none m (hs L (by unfold frs; rw [List.filterMap_cons, hf]; exact List.mem_cons_self)), ho, hd⟩, funFrames_hide hr fun b hb => hs b (by unfold frs; rw [List.filterMap_cons, hf]; exact List.mem_cons_of_mem _ hb)⟩
theorem hok_hide {P : Program} {w : World} {H : Hp} {h : Heap} {m : List Addr} (ok : HOk P w H h) (hm : ∀ b ∈ m, H b = none) : HOk P w H (PySem.W.hideAll h m) := fun a o e =>
 (ok a o e).stay (fun b u hb q => PySem.W.hideAll_get m q fun z => by
  have n := hm b z
  rcases hb with hb | hb
  ·rw [hb, e] at n; cases n
  ·rw [hb] at n; cases n) (fun _ q => q) fun _ _ q => q
section
variable {P : Program} {w : World} {K : PySem.W.Frag} {mg : Str -> Option Value} {base : Heap} {N : List Str} {qual : Str} {scope : Scope} {f : Addr} {cd : Value} {A : Around} {outer : List Env} {s₀ : Shared} {H₀ : Hp} {E : XK}
theorem raise_leaves {pins : List (Addr × Obj)} {σ : St} {H : Hp} {s : Shared} {h1 : Heap} {e : Addr} {C : Value} {args : List Value}
  (I : Inv (cxOf (CXr P w) P w K mg base N qual scope f cd A outer s₀ H₀ E) pins σ H s) (hm : Heap.MadeExcOf s.heap h1 e C args) (hE : E C (some e) H) :
  (cxOf (CXr P w) P w K mg base N qual scope f cd A outer s₀ H₀ E).xe (.ref e) { s with heap := h1 } := by
 have nox : ∀ b : Addr, b ∉ ([] : List Addr) := fun b z => nomatch z
 have hst : ∀ b ∈ frs (envOfC qual scope s₀.heap.objs.size f cd :: outer), H b = none := fun b hb => I.stkFree b hb
 have nfr : ∀ b o, s₀.heap.get? b = some o -> b ∉ frs outer -> b ∉ frs (envOfC qual scope s₀.heap.objs.size f cd :: outer) := fun b o eb hb z => by
  rcases List.mem_cons.mp (show b ∈ s₀.heap.objs.size :: frs outer from z) with z | z
  ·exact absurd (Heap.lt_size eb) (by rw [z]; exact Nat.lt_irrefl _)
  ·exact hb z
 refine wpAny_leaves_madeW (base := PySem.W.hideAll s.heap (frs (envOfC qual scope s₀.heap.objs.size f cd :: outer))) (h := s.heap) I.ok.frames rfl (fun b o q => PySem.W.of_hideAll _ q) (funFrames_hide I.stack fun _ hb => hb) hm fun h' t fl _ _ ups => ?_
 refine ⟨e, C, .ref t, H, _, rfl, fl, I.os, I.bare, ⟨fun b o q n hb _ => ?_, fun b o q n hb hx => ?_, fun b o q n hx => I.base.free b o q n (nox b), fun b o q hx => ?_, I.base.tups, I.base.frzs, I.base.tbls⟩, fun b o q n hb => ?_, fun b o q hb => ?_, hok_hide I.hok hst, hE⟩
 ·exact fl.1 b o (PySem.W.hideAll_get _ (I.base.keep b o q n hb (nox b)) (nfr b o q hb))
 ·obtain ⟨sl, e1⟩ := I.base.slot b o q n hb (nox b)
  obtain ⟨_, o2, ho2, hnf⟩ := I.stack.mem (show b ∈ frs (envOfC qual scope s₀.heap.objs.size f cd :: outer) from List.mem_cons_of_mem _ hb)
  rw [e1] at ho2
  cases ho2
  obtain ⟨sl2, e2⟩ := ups b _ (hm.keeps b _ e1) hnf
  exact ⟨sl2, e2⟩
 ·obtain ⟨o', e1⟩ := I.base.there b o q (nox b)
  by_cases hb : b ∈ frs (envOfC qual scope s₀.heap.objs.size f cd :: outer)
  ·obtain ⟨_, o2, ho2, hnf⟩ := I.stack.mem hb
   obtain ⟨sl2, e2⟩ := ups b _ (hm.keeps b _ ho2) hnf
   exact ⟨_, e2⟩
  ·exact ⟨o', fl.1 b o' (PySem.W.hideAll_get _ e1 hb)⟩
 ·exact PySem.W.hideAll_get _ (I.base.keep b o q n hb (nox b)) (nfr b o q hb)
 ·obtain ⟨o', e1⟩ := I.base.there b o q (nox b)
  exact ⟨o', PySem.W.hideAll_get _ e1 (nfr b o q hb)⟩
theorem passR : Passes (CXr P w) (cxOf (CXr P w) P w K mg base N qual scope f cd A outer s₀ H₀ E) E := by
 intro pins σ H s e s' I h
 obtain ⟨a, C, a0, H', B, rfl, fl, os, bare, un, kb, tb, hok, hE⟩ := h
 have nox : ∀ b : Addr, b ∉ ([] : List Addr) := fun b z => nomatch z
 have nfr : ∀ b o, s₀.heap.get? b = some o -> b ∉ frs outer -> b ∉ frs (envOfC qual scope s₀.heap.objs.size f cd :: outer) := fun b o eb hb z => by
  rcases List.mem_cons.mp (show b ∈ s₀.heap.objs.size :: frs outer from z) with z | z
  ·exact absurd (Heap.lt_size eb) (by rw [z]; exact Nat.lt_irrefl _)
  ·exact hb z
 refine wpAny_leaves_onW I.ok.frames rfl fl fun h' fl' ups => ?_
 refine ⟨a, C, a0, H', B, rfl, fl', os.trans I.os, bare, ⟨fun b o q n hb _ => ?_, fun b o q n hb hx => ?_, fun b o q n hx => ?_, fun b o q hx => ?_, fun b xs q => un.tups b xs (I.base.tups b xs q), fun b o u q => un.frzs b o u (I.base.frzs b o u q), fun b ps q => ?_⟩, fun b o q n hb => ?_, fun b o q hb => ?_, hok, hE⟩
 ·exact fl'.1 b o (kb b o (I.base.keep b o q n hb (nox b)) (I.base.free b o q n (nox b)) (nfr b o q hb))
 ·obtain ⟨sl, e1⟩ := I.base.slot b o q n hb (nox b)
  obtain ⟨sl2, e2⟩ := un.slot b _ e1 (I.base.free b o q n (nox b)) (List.mem_cons_of_mem _ hb) (nox b)
  obtain ⟨_, o2, ho2, hnf⟩ := fl.2.2.1.mem (show b ∈ frs (envOfC qual scope s₀.heap.objs.size f cd :: outer) from List.mem_cons_of_mem _ hb)
  rw [e2] at ho2
  cases ho2
  obtain ⟨sl3, e3⟩ := ups b _ e2 hnf
  exact ⟨sl3, e3⟩
 ·obtain ⟨sl, e1⟩ := I.base.any q n (nox b)
  exact un.free b _ e1 (I.base.free b o q n (nox b)) (nox b)
 ·obtain ⟨o1, e1⟩ := I.base.there b o q (nox b)
  by_cases hb : b ∈ frs (envOfC qual scope s₀.heap.objs.size f cd :: outer)
  ·obtain ⟨_, o2, ho2, hnf⟩ := fl.2.2.1.mem hb
   obtain ⟨sl2, e2⟩ := ups b _ ho2 hnf
   exact ⟨_, e2⟩
  ·obtain ⟨o2, e2⟩ := tb b o1 e1 hb
   exact ⟨o2, fl'.1 b o2 e2⟩
 ·obtain ⟨more, e1⟩ := I.base.tbls b ps q
  obtain ⟨more2, e2⟩ := un.tbls b _ e1
  exact ⟨more ++ more2, by rw [<- Array.append_assoc]; exact e2⟩
 ·exact kb b o (I.base.keep b o q n hb (nox b)) (I.base.free b o q n (nox b)) (nfr b o q hb)
 ·obtain ⟨o1, e1⟩ := I.base.there b o q (nox b)
  exact tb b o1 e1 (nfr b o q hb)
end
end L2
namespace L2
open PySem PySem.Spec PyProof.Rows
theorem excObj {K : PySem.W.Frag} {hp : Heap} {C : Addr} {tail : List Value} {mk : String} (inn : K.In hp) (isx : PySem.W.excIn K C tail mk = true) :
  ∃ up ns nm qn bs hd sn sub ab col dd x0 x1 x2 x3 x5 names, hp.get? C = some (excClassObj nm qn C ns bs up hd sn sub ab col dd x0 x1 x2 x3 x5 mk) /\ hp.Ns ns names /\ names "__init__" = none /\ OwnTail hp tail up := by
 unfold PySem.W.excIn at isx
 split at isx
 case h_2 => exact absurd isx Bool.false_ne_true
 rename_i dd cls slots found
 split at isx
 case h_2 => exact absurd isx Bool.false_ne_true
 rename_i C2 up x0 x1 x2 x3 nw x5 mroIs slotsIs
 rw [Bool.and_eq_true, Bool.and_eq_true, Bool.and_eq_true, Bool.and_eq_true, Bool.and_eq_true] at isx
 have p1 : C2 = C := eq_of_beq isx.1.1.1.1.1
 have p2 : nw = mk := eq_of_beq isx.1.1.1.1.2
 have p3 : cls.hasDel = false := by simpa using isx.1.1.1.2
 have p6 : PySem.W.nsIn K cls.ns "__init__" = some none := eq_of_beq isx.2
 have ob := inn _ _ found
 have sl : slots = #[x0, x1, x2, x3, some (.builtin nw), x5] := by rw [<- slotsIs]
 cases cls
 simp only at mroIs p3
 rw [mroIs, p3, sl, p1, p2] at ob
 exact ⟨up, _, _, _, _, _, _, _, _, _, _, x0, x1, x2, x3, x5, _, ob, .of_isNs (PySem.W.isNs_of_in inn isx.1.2), PySem.W.nsMap_none_of_in inn isx.1.2 p6, PySem.W.tail_of_in inn isx.1.1.2⟩
def Raises (X : Cx) (E : XK) : Prop := ∀ (pins : List (Addr × Obj)) (σ : St) (H : Hp) (s : Shared) (h1 : Heap) (e : Addr) (C : Value) (args : List Value), Inv X pins σ H s -> Heap.MadeExcOf s.heap h1 e C args -> E C (some e) H -> X.xe (.ref e) { s with heap := h1 }
theorem raisesR {P : Program} {w : World} {K : PySem.W.Frag} {mg : Str -> Option Value} {base : Heap} {N : List Str} {qual : Str} {scope : Scope} {f : Addr} {cd : Value} {A : Around} {outer : List Env} {s₀ : Shared} {H₀ : Hp} {E : XK} :
  Raises (cxOf (CXr P w) P w K mg base N qual scope f cd A outer s₀ H₀ E) E := fun _ _ _ _ _ _ _ _ I hm hE => raise_leaves I hm hE
def sRaise (E : XK) (C : Addr) (t : TE) : TS := fun D σ H => t σ H fun _ H1 => ∀ e, E (.ref C) (some e) H1
abbrev veTail : List Value := [.type "ValueError", .type "Exception", .type "BaseException", .type "object"]
section
variable {X : Cx} {E : XK} {C : Addr} {x : Str} {np cpos pos : Pos} {e₀ : Expr} {t : TE}
theorem ps_raise (hx : Raises X E) (hc : X.calm = true) (hg : Gl X x) (hm : X.mg x = some (.ref C)) (isx : PySem.W.excIn X.K C veTail "ValueError.__new__" = true) (ha : PE X e₀ t) (hdb : (x == ("__debug__" : Str)) = false := by decide)
  (he : starEach [e₀] X.env = [(false, eval e₀ X.env)] := by rfl) : PS X (.Raise (some (.Call (.Name x np) [e₀] [] cpos)) none pos) (sRaise E C t) := by
 intro pins s σ H D I h
 obtain ⟨up, ns, nm, qn, bs, hd, sn, sub, ab, col, dd, x0, x1, x2, x3, x5, names, hC, hN, hni, T⟩ := excObj I.mod.kin isx
 refine wpAny_Raise_call_subT (C := C) (nm := nm) (q := qn) (N := ns) (bs := bs) (bm := up) (hdct := hd) (sn := sn) (sub := sub) (ab := ab) (col := col) (dd := dd) (k0 := x0) (k1 := x1) (k2 := x2) (k3 := x3) (k5 := x5) (mN := names)
  PySem.F.excBase_ValueError (T.hasType PySem.F.excBase_ValueError.hasBase) (I.ok.hd hc) (by rw [he]; rfl) hni (ld_glob I hg hm ⟨rfl, ?_⟩ hdb)
 rw [he]
 refine Calls.evalArgs_plain (Calls.spliced_cons (thn (ha pins s σ H _ I h) fun u s1 ⟨v, H1, I1, r, q⟩ => Calls.spliced_nil ?_))
 exact ⟨rfl, (show 1 <= sizeLine by decide), I1.bk _ _ hC, hN.keeps I1.bk, T.keeps I1.bk, fun h' e hm => hx pins σ H1 s1 h' e _ _ I1 hm (q e)⟩
end
section
variable {P : Program} {w : World} {K : PySem.W.Frag} {mg : Str -> Option Value} {base : Heap}
theorem Fun.okR {x qual : Str} {st : Stmt} {f : Addr} {fd : FuncData} {N ps : List Str} {k : Nat} {sp : Sp} (F : Fun K x qual st f fd) (S : FnScope N ps (defScope st)) (len : ∀ vs H Q E, sp vs H Q E -> vs.length = ps.length)
  (hbody : ∀ (cdv : Value) (A : Around) (outer : List Env) (s : Shared) (H : Hp) (vs : List V) (Q : VK) (E : XK), Room k (A.deeper (envOfC qual (defScope st) s.heap.objs.size f cdv)) -> sp vs H Q E ->
   ∃ t, PSs (cxOf (CXr P w) P w K mg base N qual (defScope st) f cdv A outer s H E) (defBody st) t /\ t { nx := fun _ H' => Q .non H', rt := Q } (start N vs) H) : FnOk P w K mg base (CXr P w) (k + 1) f fd ps sp := by
 obtain ⟨oc, od, kV, doc, pm, an, cdv, ct, osl, rfl, lk, hcd⟩ := F.ex
 exact fn_of lk hcd S len fun A outer s H vs Q E hr hsp => hbody cdv A outer s H vs Q E hr hsp
end
end L2
namespace L2
open PySem PySem.Spec PyProof.Rows
abbrev TJ := Str -> St -> Hp -> VK -> Prop
section
variable {X : Cx} {e v1 v2 : Expr} {es : List Expr} {te : TE} {tr : TJ} {pos : Pos}
def PJ (X : Cx) (es : List Expr) (t : TJ) : Prop := ∀ (pins : List (Addr × Obj)) (s : Shared) (σ : St) (H : Hp) (acc : Str) (Q : VK), Inv X pins σ H s -> t acc σ H Q ->
 Joins (model X.prog X.w) X.A X.xe (evalEach es X.env) acc (fun out s1 => out.length <= sizeLine /\ EP X pins σ Q (.str out s1.toks) { s1 with toks := s1.toks + 1 }) s
def tJ0 : TJ := fun acc σ H Q => acc.length <= sizeLine /\ Q (.str acc) H
def tJ1 (te : TE) (tr : TJ) : TJ := fun acc σ H Q => te σ H fun v H1 => ∃ y, v = .str y /\ (acc ++ y).length <= sizeLine /\ tr (acc ++ y) σ H1 Q
theorem pj_nil : PJ X [] tJ0 := fun pins s σ H acc Q I h => ⟨h.1, .str acc, H, I.tok _, ⟨_, rfl⟩, h.2⟩
theorem pj_cons (h1 : PE X e te) (h2 : PJ X es tr) : PJ X (e :: es) (tJ1 te tr) := fun pins s σ H acc Q I h => by
 refine thn (h1 pins s σ H _ I h) fun u s1 ⟨v, H1, I1, r, y, ey, hz, q⟩ => ?_
 subst ey
 obtain ⟨t, rfl⟩ := r
 exact ⟨y, t, rfl, hz, h2 pins s1 σ H1 _ Q I1 q⟩
theorem pe_joined (h : PJ X (v1 :: v2 :: es) tr) : PE X (.JoinedStr (v1 :: v2 :: es) pos) (fun σ H Q => tr Str.empty σ H Q) := fun pins s σ H Q I hh => wpAny_JoinedStr (h pins s σ H _ Q I hh)
def tFmt (te : TE) : TE := fun σ H Q => te σ H fun v H1 => (∃ y, v = .str y /\ y.length <= sizeLine /\ Q (.str y) H1) ∨ ∃ i : Int, v = .int i /\ i.natAbs.log2 < 1920 /\ Q (.str (toString i)) H1
theorem pe_fmt (h : PE X e te) : PE X (.FormattedValue e (-1) none pos) (tFmt te) := fun pins s σ H Q I hh => by
 refine wpAny_FormattedValue_plain (thn (h pins s σ H _ I hh) fun u s1 ⟨v, H1, I1, r, q⟩ => ?_)
 rcases q with ⟨y, rfl, hz, q⟩ | ⟨i, rfl, hz, q⟩
 ·obtain ⟨t, rfl⟩ := r
  exact wpAny_formatField_str ⟨.str y, H1, I1, ⟨_, rfl⟩, q⟩ ⟨.str y, H1, I1.tok _, ⟨_, rfl⟩, q⟩ hz
 ·obtain ⟨t, rfl⟩ := r
  exact wpAny_formatField_int hz ⟨.str (toString i), H1, (I1.tok _).tok _, ⟨_, rfl⟩, q⟩
def tFmtR (te : TE) : TE := fun σ H Q => te σ H fun v H1 => ∃ y, v = .str y /\ (reprText y).length <= sizeLine /\ Q (.str (reprText y)) H1
theorem pe_fmtR (h : PE X e te) : PE X (.FormattedValue e 114 none pos) (tFmtR te) := fun pins s σ H Q I hh => by
 refine wpAny_FormattedValue_repr (thn (h pins s σ H _ I hh) fun u s1 ⟨v, H1, I1, r, y, ey, hz, q⟩ => ?_)
 subst ey
 obtain ⟨t, rfl⟩ := r
 refine wpAny_pyReprObj_gives (T := "str") rfl PySem.F.slot_str_repr PySem.F.entry_str_repr (PySem.F.args_str_repr_1 _) (gives_str_repr y t) ?_ rfl hz
 exact wpAny_formatField_str ⟨.str (reprText y), H1, I1.tok _, ⟨_, rfl⟩, q⟩ ⟨.str (reprText y), H1, (I1.tok _).tok _, ⟨_, rfl⟩, q⟩ hz
end
end L2
set_option Elab.async false
set_option linter.all false
set_option maxRecDepth 100000
namespace L2
open PySem PySem.Spec PyProof.Rows PySem.Calls
def ExcAt (x D : Addr) (h : Heap) : Prop := ∃ o vs, h.get? x = some o /\ o.cls = .ref D /\ o.data = .fields vs
theorem ExcAt.ty {M : Model} {x D : Addr} {h : Heap} (p : ExcAt x D h) : PySem.W.Looks M h (typeOf (.ref x)) (.ref D) := by
 obtain ⟨o, vs, h1, h2, _⟩ := p
 exact h2 ▸ (PySem.W.Looks.ld h1).andThen .now
structure ExcCls (K : PySem.W.Frag) (D : Addr) : Prop where
 ga : PySem.W.findIn K (.ref D) "__getattribute__" = some (some (.builtin "BaseException.__getattribute__"))
 gh : PySem.W.findIn K (.ref D) "__getattr__" = some none
 be : PySem.W.mroIn K D (.type "BaseException") = some true
 hd : PySem.W.hasDictIn K D = true
 at_ : PySem.W.findIn K (.ref D) "__class__" = some (some (.builtin "object.__class__"))
 gt : PySem.W.specialIn K (.builtin "object.__class__") "__get__" = some (some (.builtin "getset_descriptor.__get__"))
 tk : PySem.W.takesIn K (.builtin "object.__class__") = some true
 ob : PySem.W.mroIn K D (.type "object") = some true
section
variable {K : PySem.W.Frag} {x D : Addr}
open PySem.W Builtin Builtin.ObjectAttr in
theorem exc_find {M : Model} {h : Heap} (c : ExcCls K D) (X : K.In h) : Looks M h (find (.ref x) (.ref D) "__class__") (Found.bind (.builtin "getset_descriptor.__get__") (.builtin "object.__class__")) := by
 have l1 := looks_findIn (M := M) X c.at_
 have l2 : Looks M h (getOf (some (.builtin "object.__class__"))) (some (.builtin "getset_descriptor.__get__")) := looks_specialIn X c.gt
 have l3 := looks_takesIn (M := M) X c.tk
 have l4 : Looks M h (dataDescriptor? (some (.builtin "object.__class__")) (some (.builtin "getset_descriptor.__get__"))) (some (.builtin "getset_descriptor.__get__", .builtin "object.__class__")) := l3.andThen .now
 exact l1.andThen (l2.andThen (l4.andThen (Looks.tag .now)))
open PySem.W Builtin Builtin.ObjectAttr Builtin.Getset_descriptor in
theorem exc_class {prog : Program} {w : World} {A : Around} {R : Result -> Shared -> Prop} {s : Shared} {tp : Value} (c : ExcCls K D) (X : K.In s.heap) (p : ExcAt x D s.heap) (h : R (.ok (.ret (.ref D))) s) :
  codeAny (model prog w) A (.call (.builtin "getset_descriptor.__get__") ⟨[.builtin "object.__class__", .ref x, tp], []⟩) R s := by
 obtain ⟨hp, ge, dw, tt, oo⟩ := s
 have l0 := p.ty (M := model prog w)
 have l1 := looks_mroIn (M := model prog w) X c.ob
 refine codeAny_call_builtin KF.slot_gs.plain KF.entry_gs ?_
 refine KF.slot_gs.check _ _ _ _ _ _ _ _ KF.type_class (KF.args_gs _ _ _) ?_
 unfold Builtin.«getset_descriptor.__get__»; unfold descrGet
 rw [dga_obj]; refine wpAny_bind (wpAny_pure ?_)
 unfold descrGetter descrCheckInstance; unfold descrNameAndClass isInstance
 simp only [KF.owner_class]; repeat lk
 refine ⟨Code.quiet_builtin _ (by decide +kernel), ?_⟩
 refine codeAny_builtin KF.entry_class ?_
 unfold Builtin.«object.__class__»; unfold shownTypeOf
 repeat lk
 exact h
open PySem.W Builtin Builtin.ObjectAttr in
theorem exc_entry {prog : Program} {w : World} {A : Around} {E : Value -> Shared -> Prop} {s : Shared} {tk : Tok} {Q : Fin -> Shared -> Prop} (c : ExcCls K D) (X : K.In s.heap) (p : ExcAt x D s.heap) (h : Q (.done (.ret (.ref D))) s) :
  wpAny (model prog w) A (Builtin.«object.__getattribute__» ⟨[.ref x, .str "__class__" tk], []⟩) Q E s := by
 obtain ⟨hp, ge, dw, tt, oo⟩ := s
 have l0 := p.ty (M := model prog w)
 have l2 := exc_find (x := x) (M := model prog w) c X
 unfold Builtin.«object.__getattribute__»
 repeat (any_goals (first | assumption | lk | wp_step))
 show wpAny _ _ (run _ none) _ _ _
 refine wpAny_run (exc_class c X p ?_)
 exact wpAny_pure (wpAny_pure h)
open PySem.W Builtin Builtin.ObjectAttr in
theorem exc_ga {prog : Program} {w : World} {A : Around} {R : Result -> Shared -> Prop} {s : Shared} {tk : Tok} (c : ExcCls K D) (X : K.In s.heap) (p : ExcAt x D s.heap) (h : R (.ok (.ret (.ref D))) s) :
  codeAny (model prog w) A (.call (.builtin "BaseException.__getattribute__") ⟨[.ref x, .str "__class__" tk], []⟩) R s := by
 obtain ⟨hp, ge, dw, tt, oo⟩ := s
 have l0 := p.ty (M := model prog w)
 have l1 := looks_mroIn (M := model prog w) X c.be
 refine codeAny_call_builtin PySem.F.excAttr_ValueError.ga.plain PySem.F.entry_bexc_ga ?_
 have hk : builtinKind "BaseException.__getattribute__" = some .slot := by decide +kernel
 have hs : splitId "BaseException.__getattribute__" = some ("BaseException", "__getattribute__") := by decide +kernel
 have ha := PySem.F.args_bexc_ga (.ref x) (.str "__class__" tk)
 simp only [checkBuiltinCall, hk, hs]
 refine wpAny_bind ?_
 unfold isInstance
 refine wpAny_bind (l0.at (l1.at ?_))
 rw [if_neg (by decide)]
 unfold argsOk at ha
 have fin := exc_entry (prog := prog) (w := w) (A := A.in1) (E := fun e s' => R (.error e) s') (s := ⟨hp, ge, dw, tt, oo⟩) (tk := tk) (Q := fun fin s' => match fin with | .done f => R (.ok f) s' | .again c' => c'.quiet = true /\ codeAny (model prog w) A c' R s') c X p h
 generalize Manifest.signature? "BaseException.__getattribute__" = sg at ha ⊢
 cases sg with
 | none => exact wpAny_pure fin
 | some sig =>
  dsimp only at ha ⊢
  rw [ha]
  exact wpAny_pure fin
open PySem.W Builtin Builtin.ObjectAttr in
theorem exc_attr {prog : Program} {w : World} {A : Around} {E : Value -> Shared -> Prop} {s : Shared} {Q : Option Value -> Shared -> Prop} (c : ExcCls K D) (X : K.In s.heap) (p : ExcAt x D s.heap) (h : Q (some (.ref D)) { s with toks := s.toks + 1 }) :
  wpAny (model prog w) A (getAttr? (.ref x) "__class__") Q E s := by
 obtain ⟨hp, ge, dw, tt, oo⟩ := s
 have l0 := p.ty (M := model prog w)
 have l1 := looks_findIn (M := model prog w) X c.ga
 have l3 := looks_findIn (M := model prog w) X c.gh
 have f3 := PySem.F.excAttr_ValueError.ga.bind (.ref x)
 have hx2 : (Value.builtin "BaseException.__getattribute__" == Value.builtin "object.__getattribute__") = false := by decide +kernel
 have hx1 : (onTheHeap (Value.ref D) && Value.builtin "BaseException.__getattribute__" == Value.builtin "object.__getattribute__") = false := by rw [hx2]; rfl
 unfold getAttr? getAttrBy?; unfold getAttrBy
 refine wpAny_bind (wpAny_mkText (wpAny_bind (wpAny_attempt (wpAny_holding ?_))))
 refine wpAny_bind (l0.at (wpAny_bind (l1.at ?_)))
 simp only [hx1]
 show wpAny _ _ (getAttrByItsOwn _ _ _ _ _ _) _ _ _
 unfold getAttrByItsOwn hookBefore
 refine wpAny_bind ?_
 show wpAny _ _ (typeLookup (.ref D) "__getattr__") _ _ _
 refine l3.at ?_
 unfold callGetattribute boundAndCalled
 refine wpAny_bind (wpAny_attempt (wpAny_holding ?_))
 show wpAny _ _ (bindSpecial _ _ >>= _) _ _ _
 rw [f3]
 refine wpAny_bind (wpAny_pure ?_)
 refine wpAny_call (exc_ga (s := ⟨hp, ge, dw, tt + 1, oo⟩) c X p ?_)
 exact handed_on rfl (wpAny_pure h)
theorem kitx_exc (c : ExcCls K D) : PySem.W.KitX K (.ref x) (.ref D) (ExcAt x D) where
 ty := fun _ _ _ p => p.ty
 it := fun _ _ X _ => by
  obtain ⟨cd, hc, _⟩ := PySem.W.any_some c.hd
  unfold PySem.W.clsIn at hc
  split at hc
  ·rename_i c' d' cd' sl' ho
   intro A' Q' E' s' k q
   unfold isType loadHead
   exact wpAny_bind (wpAny_loadPart (k _ _ (X _ _ ho)) (wpAny_pure q))
  ·cases hc
 ne := fun h tp dd its n sl X htp => by
  obtain ⟨cd, hc, _⟩ := PySem.W.any_some c.hd
  refine Bool.eq_false_iff.mpr fun q => ?_
  have e : D = tp := Value.ref.inj (beq_iff_eq.mp q)
  subst e
  unfold PySem.W.clsIn at hc
  split at hc
  ·rename_i c' d' cd' sl' ho
   have z := (X _ _ ho).symm.trans htp
   cases z
  ·cases hc
 ca := fun X p k => exc_attr c X p k
end
end L2
set_option Elab.async false
set_option linter.all false
set_option maxRecDepth 100000
namespace L2
open PySem PySem.Spec PyProof.Rows
section
variable {P : Program} {w : World} {K : PySem.W.Frag} {mg : Str -> Option Value} {base : Heap} {CX : CXT} {k : Nat} {f : Addr} {fd : FuncData} {ps : List Str} {sp sp' : Sp}
theorem FnOk.lift (F : FnOk P w K mg base CX0 k f fd ps sp) : FnOk P w K mg base CX k f fd ps sp :=
 ⟨F.len, fun A outer s H args us vs Q E hr he hb hv hs => codeAny_mono (F.run A outer s H args us vs Q E hr he hb hv hs) fun r s' h => by
  cases r with
  | error e => exact False.elim h
  | ok fl => cases fl <;> exact h⟩
theorem FnOk.or (F : FnOk P w K mg base CX k f fd ps sp) (G : FnOk P w K mg base CX k f fd ps sp') : FnOk P w K mg base CX k f fd ps (fun vs H Q E => sp vs H Q E ∨ sp' vs H Q E) :=
 ⟨fun vs H Q E h => h.elim (F.len vs H Q E) (G.len vs H Q E), fun A outer s H args us vs Q E hr he hb hv hs => hs.elim (F.run A outer s H args us vs Q E hr he hb hv) (G.run A outer s H args us vs Q E hr he hb hv)⟩
end
structure Flt (P : Program) (w : World) (outer : List Env) (H : Hp) (s : Shared) (H' : Hp) (B h : Heap) : Prop where
 stays : B.StaysIn h
 frames : h.FunFrames B outer
 slot : ∀ b o, s.heap.get? b = some o -> H b = none -> b ∈ frs outer -> ∃ sl, h.get? b = some { o with slots := sl }
 free : ∀ b o, s.heap.get? b = some o -> H b = none -> H' b = none
 tups : ∀ b xs, H b = some (.tup xs) -> H' b = some (.tup xs)
 frzs : ∀ b o u, H b = some (.frz o u) -> H' b = some (.frz o u)
 tbls : ∀ b ps, H b = some (.tbl ps) -> ∃ more, H' b = some (.tbl (ps ++ more))
 kb : ∀ b o, s.heap.get? b = some o -> H b = none -> b ∉ frs outer -> B.get? b = some o
 tb : ∀ b o, s.heap.get? b = some o -> b ∉ frs outer -> ∃ o', B.get? b = some o'
 hok : HOk P w H' B
section
variable {P : Program} {w : World} {outer : List Env} {H H' : Hp} {s : Shared} {B h h' : Heap}
theorem Flt.un (f : Flt P w outer H s H' B h) : Un (frs outer) [] H H' s.heap h where
 keep := fun b o q n hb _ => f.stays b o (f.kb b o q n hb)
 slot := fun b o q n hb _ => f.slot b o q n hb
 free := fun b o q n _ => f.free b o q n
 there := fun b o q _ => by
  by_cases hb : b ∈ frs outer
  ·obtain ⟨_, o2, ho2, _⟩ := f.frames.mem hb
   exact ⟨o2, ho2⟩
  ·obtain ⟨o2, e2⟩ := f.tb b o q hb
   exact ⟨o2, f.stays b o2 e2⟩
 tups := f.tups
 frzs := f.frzs
 tbls := f.tbls
theorem Flt.ok (f : Flt P w outer H s H' B h) : HOk P w H' h := f.hok.kept f.stays
theorem Flt.next (f : Flt P w outer H s H' B h) (st : B.StaysIn h') (fr : h'.FunFrames B outer) (u : h.UpToSlots h') : Flt P w outer H s H' B h' :=
 ⟨st, fr, fun b o q n hb => by
  obtain ⟨sl, e1⟩ := f.slot b o q n hb
  obtain ⟨_, o2, ho2, hnf⟩ := f.frames.mem hb
  rw [e1] at ho2
  cases ho2
  obtain ⟨sl2, e2⟩ := u b _ e1 hnf
  exact ⟨sl2, e2⟩, f.free, f.tups, f.frzs, f.tbls, f.kb, f.tb, f.hok⟩
theorem ObjOk.there {H : Hp} {a : Addr} {o : HO} (x : ObjOk P w H h a o) : ∃ ob, h.get? a = some ob := by
 cases o with
 | lst xs => obtain ⟨_, _, _, _, e⟩ := x; exact ⟨_, e⟩
 | tup xs => obtain ⟨_, _, _, o, e, _⟩ := x; exact ⟨o, e⟩
 | dK kvs => obtain ⟨_, _, _, _, o, _, _, e, _⟩ := x; exact ⟨o, e⟩
 | dT kvs => obtain ⟨_, _, _, _, o, _, _, e, _⟩ := x; exact ⟨o, e⟩
 | set S n => obtain ⟨o, _, _, _, e, _⟩ := x; exact ⟨o, e⟩
 | ins C dx fs => obtain ⟨_, _, _, e, _⟩ := x; exact ⟨_, e⟩
 | own y => exact x
 | xd fs => obtain ⟨_, ⟨o, _, _, e, _⟩, _⟩ := x; exact ⟨o, e⟩
 | rng lo hi => obtain ⟨_, _, _, e⟩ := x; exact ⟨_, e⟩
 | frz ob u => obtain ⟨e, _⟩ := x; exact ⟨_, e⟩
 | tbl ps => exact ⟨_, show h.get? a = some _ from x⟩
 | met f y => exact ⟨_, show h.get? a = some _ from x⟩
 | ext φ => obtain ⟨_, e, _⟩ := x; exact e
end
section
variable {X : Cx} {pins : List (Addr × Obj)} {σ : St} {H : Hp} {s : Shared}
theorem Inv.tracked {a : Addr} {u : HO} (I : Inv X pins σ H s) (hn : H a = none) (new : X.s₀.heap.get? a = none) (hL : a ≠ X.env.locals) (hc : ∀ x c, X.env.cells.lookup x = some c -> c ≠ a) (hp : ∀ p ∈ X.pn ++ pins, p.1 ≠ a)
  (ok : ObjOk X.prog X.w (upd H a u) s.heap a u) : Inv X pins σ (upd H a u) s := by
 have ne : ∀ b o, H b = some o -> b ≠ a := fun b o e z => by rw [z, hn] at e; cases e
 have nw : ∀ b o, X.s₀.heap.get? b = some o -> b ≠ a := fun b o e z => by rw [z, new] at e; cases e
 refine ⟨I.ok, I.os, I.bare, ⟨I.base.keep, I.base.slot, fun b o q n hx => ?_, I.base.there, fun b xs q => ?_, fun b o v q => ?_, fun b ps q => ?_⟩, I.loc, I.cell, ?_, fun x c e => ?_, fun p h => ?_, fun b o e => ?_, I.len⟩
 ·rw [upd_ne (nw b o q)]; exact I.base.free b o q n hx
 ·have e := I.base.tups b xs q; rw [upd_ne (ne b _ e)]; exact e
 ·have e := I.base.frzs b o v q; rw [upd_ne (ne b _ e)]; exact e
 ·obtain ⟨m, e⟩ := I.base.tbls b ps q; exact ⟨m, by rw [upd_ne (ne b _ e)]; exact e⟩
 ·rw [upd_ne (Ne.symm hL)]; exact I.free
 ·rw [upd_ne (hc x c e)]; exact I.freeC x c e
 ·obtain ⟨e1, e2, e3⟩ := I.pin p h
  exact ⟨e1, by rw [upd_ne (hp p h)]; exact e2, e3⟩
 ·by_cases hb : b = a
  ·subst hb; rw [upd_same] at e; cases e; exact ok
  ·rw [upd_ne hb] at e
   exact (I.hok b o e).stay (fun _ _ _ q => q) (fun c q => by rw [upd_ne (ne c _ q)]; exact q) fun c xs q => by rw [upd_ne (ne c _ q)]; exact q
theorem Inv.gone {i : Nat} {x : Str} {h' : Heap} {v : Option Value} {m : Str -> Option Value} {t : Nat} (I : Inv X pins σ H s) (hN : X.N.Nodup) (hi : X.N[i]? = some x)
  (hm : ∀ (i : Nat) (x : Str) (v : V), X.N[i]? = some x -> σ[i]? = some (some v) -> Vis X.env.scope x -> ∃ u, RelV v u /\ Look X.env s.heap m x u)
  (hn' : h'.Ns X.env.locals (fun y => if y = x then v else m y)) (hs : Heap.SameBut X.env.locals s.heap h') : Inv X pins (σ.set i none) H { s with heap := h', toks := t } := by
 obtain ⟨m0, ⟨oL, es, ep, hoL, r0⟩, _⟩ := id I.loc
 have cne := I.cne
 refine ⟨I.ok, I.os, I.bare, ⟨fun b o e n hb hx => ?_, fun b o e n hb hx => ?_, I.base.free, fun b o e hx => ?_, I.base.tups, I.base.frzs, I.base.tbls⟩, ⟨_, hn', fun j y v' e1 e2 e3 => ?_⟩, fun y c e => ?_, I.free, I.freeC, fun p hp => ?_, fun b ob e => ?_, by simpa using I.len⟩
 ·exact (hs.2 b (Nat.ne_of_lt (Nat.lt_of_lt_of_le (Heap.lt_size e) I.ok.above))).trans (I.base.keep b o e n hb hx)
 ·obtain ⟨sl, e1⟩ := I.base.slot b o e n hb hx
  exact ⟨sl, (hs.2 b (Nat.ne_of_lt (Nat.lt_of_lt_of_le (Heap.lt_size e) I.ok.above))).trans e1⟩
 ·obtain ⟨o', e1⟩ := I.base.there b o e hx
  exact ⟨o', (hs.2 b (Nat.ne_of_lt (Nat.lt_of_lt_of_le (Heap.lt_size e) I.ok.above))).trans e1⟩
 ·by_cases hj : j = i
  ·subst hj
   rw [List.getElem?_set] at e2
   split at e2
   ·split at e2 <;> cases e2
   ·exact absurd rfl ‹¬ j = j›
  ·rw [List.getElem?_set_ne (Ne.symm hj)] at e2
   obtain ⟨u', r', q⟩ := hm j y v' e1 e2 e3
   refine ⟨u', r', ?_⟩
   rcases q with ⟨k, e⟩ | ⟨k, c, e, z⟩
   ·refine .inl ⟨k, ?_⟩
    have : y ≠ x := fun e => hj (nodup_ix hN e1 (e ▸ hi))
    simp [this, e]
   ·exact .inr ⟨k, c, e, z.sameBut hs (cne y c e)⟩
 ·obtain ⟨w', z⟩ := I.cell y c e
  exact ⟨w', z.sameBut hs (cne y c e)⟩
 ·obtain ⟨e, n, ne, nf, d⟩ := I.pin p hp
  exact ⟨(hs.2 p.1 ne).trans e, n, ne, nf, d⟩
 ·refine (I.hok b ob e).stay (fun c w' hc q => (hs.2 c ?_).trans q) (fun _ q => q) fun _ _ q => q
  rintro rfl
  rcases hc with rfl | hc
  ·rw [I.free] at e; cases e
  ·rw [I.free] at hc; cases hc
end
abbrev Cx.marked (X : Cx) (e : Addr) : Cx := { X with A := X.A.mark (some (.ref e)), calm := false, xe := fun _ _ => False }
theorem Inv.mark {X : Cx} {pins : List (Addr × Obj)} {σ : St} {H : Hp} {s : Shared} (I : Inv X pins σ H s) (e : Addr) : Inv (X.marked e) pins σ H s :=
 ⟨⟨I.ok.mod, I.ok.kind, I.ok.glob, I.ok.blt, I.ok.above, I.ok.inj, I.ok.has, I.ok.cab, fun z => Bool.noConfusion z, I.ok.frames, I.ok.stk, I.ok.exf, I.ok.bs, I.ok.bsz, I.ok.noex, I.ok.exfs, I.ok.funs, I.ok.frf⟩, I.os, I.bare, I.base, I.loc, I.cell, I.free, I.freeC, I.pin, I.hok, I.len⟩
theorem Inv.unmark {X : Cx} {pins : List (Addr × Obj)} {σ : St} {H : Hp} {s s0 : Shared} {pins0 : List (Addr × Obj)} {σ0 : St} {H0 : Hp} {e : Addr} (I : Inv (X.marked e) pins σ H s) (I0 : Inv X pins0 σ0 H0 s0) : Inv X pins σ H s :=
 ⟨I0.ok, I.os, I.bare, I.base, I.loc, I.cell, I.free, I.freeC, I.pin, I.hok, I.len⟩
structure RoomQ (k : Nat) (A : Around) : Prop where
 dp : A.depth + 3 * k + 5 < recursionLimit
 un : A.units + 16 * k + 200 < cLine
theorem Room.q {k : Nat} {A : Around} (r : Room k A) : RoomQ k A := ⟨r.dp, r.un⟩
theorem Room.qm {k : Nat} {A : Around} (r : Room k A) (e : Value) : RoomQ k (A.mark (some e)) := ⟨r.dp, r.un⟩
theorem RoomQ.mono {j k : Nat} {A : Around} (r : RoomQ k A) (h : j <= k) : RoomQ j A := ⟨by have := r.dp; omega, by have := r.un; omega⟩
theorem RoomQ.deeper {k : Nat} {A : Around} (r : RoomQ (k + 1) A) (env : Env) : RoomQ k (A.deeper env) :=
 ⟨by have := r.dp; show A.depth + 1 + 3 * k + 5 < _; omega, by have := r.un; show A.units + 3 + 16 * k + 200 < _; omega⟩
structure FnOkQ (P : Program) (w : World) (K : PySem.W.Frag) (mg : Str -> Option Value) (base : Heap) (k : Nat) (f : Addr) (fd : FuncData) (ps : List Str) (sp : Sp) : Prop where
 len : ∀ vs H Q E, sp vs H Q E -> vs.length = ps.length
 run : ∀ (A : Around) (outer : List Env) (s : Shared) (H : Hp) (args : Args) (us : List Value) (vs : List V) (Q : VK) (E : XK), RoomQ k A -> Env0 P w K mg base A outer s H -> BindsTo s fd args (ps.zip us) -> Vals vs us -> sp vs H Q E ->
  codeAny (model P w) A (.call (.ref f) args) (CR CX0 outer P w H s Q E) s
def cxOfQ (P : Program) (w : World) (K : PySem.W.Frag) (mg : Str -> Option Value) (base : Heap) (N : List Str) (qual : Str) (scope : Scope) (f : Addr) (cd : Value) (A : Around) (outer : List Env) (s : Shared) (H : Hp) (E : XK) : Cx :=
 { cxOf CX0 P w K mg base N qual scope f cd A outer s H E with calm := false, xe := fun _ _ => False }
theorem fn_ofQ {P : Program} {w : World} {K : PySem.W.Frag} {mg : Str -> Option Value} {base : Heap} {k : Nat} {f : Addr} {name qual : Str} {params : Arguments} {body : List Stmt} {scope : Scope} {dV kV doc pm cdv ct oc : Value} {an od : Option Addr}
  {osl : Array (Option Value)} {N ps : List Str} {sp : Sp} (lk : K.lookup f = some ⟨oc, od, .func (PySem.W.fnOf name qual params body scope dV kV doc pm an cdv ct), osl⟩) (hcd : PySem.W.codeIn K cdv qual = true) (S : FnScope N ps scope)
  (len : ∀ vs H Q E, sp vs H Q E -> vs.length = ps.length)
  (hbody : ∀ (A : Around) (outer : List Env) (s : Shared) (H : Hp) (vs : List V) (Q : VK) (E : XK), RoomQ k (A.deeper (envOfC qual scope s.heap.objs.size f cdv)) -> sp vs H Q E ->
   ∃ t, PSs (cxOfQ P w K mg base N qual scope f cdv A outer s H E) body t /\ t { nx := fun _ H' => Q .non H', rt := Q } (start N vs) H) :
  FnOkQ P w K mg base (k + 1) f (PySem.W.fnOf name qual params body scope dV kV doc pm an cdv ct) ps sp := by
 refine ⟨len, fun A outer s H args us vs Q E hr e0 hb r hsp => ?_⟩
 have hl := len _ _ _ _ hsp
 have KX : K.In s.heap := e0.mod.kin.keeps fun b o e => (e0.bs b o e).1
 have lim : s.heap.NoLimit := e0.mod.nolimit.keeps fun b o e => (e0.bs b o e).1
 have hkind : ∀ y ∈ ps.zip us, scope.names.lookup y.1 = some .local ∨ (scope.names.lookup y.1 = some .cell /\ ((cellsFrom (s.heap.objs.size + 1) scope.names []).lookup y.1).isSome = true) := fun ⟨n, v⟩ hy => by
  rcases S.par n (List.of_mem_zip hy).1 with q | q
  ·exact .inl q
  ·exact .inr ⟨q, PySem.W.cellsFrom_some _ _ _ (.inl q)⟩
 have hdp : A.depth < recursionLimit := by have := hr.dp; omega
 refine codeAny_call_function hdp (KX _ _ lk) rfl S.co S.gen rfl (PySem.W.codeRec_of KX hcd) (hb _ _ _ _ ?_)
 refine wpAny_newFunctionEnv_cells S.kind hkind fun env he s1 x => ?_
 subst he
 refine ⟨lim.keeps x.toInCall.keep, codeAny_func ?_⟩
 obtain ⟨t, ht, hq⟩ := hbody A outer s H vs Q E (hr.deeper _) hsp
 have e1 : Env0 P w K mg base { A with handled := none } outer s H := ⟨e0.frames, e0.mod, e0.bs, e0.bsz, e0.funs, e0.frf, e0.hok, e0.bare⟩
 have I0 : Inv (cxOf CX0 P w K mg base N qual scope f cdv { A with handled := none } outer s H E) [] (start N vs) H s1 := inv_start S rfl e1 hl r x
 have I : Inv (cxOfQ P w K mg base N qual scope f cdv A outer s H E) [] (start N vs) H s1 :=
  ⟨⟨I0.ok.mod, I0.ok.kind, I0.ok.glob, I0.ok.blt, I0.ok.above, I0.ok.inj, I0.ok.has, I0.ok.cab, fun z => Bool.noConfusion z, Around.frames_deeper e0.frames, I0.ok.stk, I0.ok.exf, I0.ok.bs, I0.ok.bsz, I0.ok.noex, I0.ok.exfs, I0.ok.funs, I0.ok.frf⟩, I0.os, I0.bare, I0.base, I0.loc, I0.cell, I0.free, I0.freeC, I0.pin, I0.hok, I0.len⟩
 refine wpAny_mono (ht [] s1 (start N vs) H _ I hq) (fun fl s' hs => ?_) fun e s' hs => False.elim hs
 have fin : ∀ {σ' : St} {H' : Hp} {v : V} {u : Value}, Inv (cxOfQ P w K mg base N qual scope f cdv A outer s H E) [] σ' H' s' -> RelV v u -> Q v H' -> CE outer P w H s Q u s' :=
  fun {σ' H' v u} J rv q => ⟨v, H', J.os, J.bare, J.base, J.hok, rv, q⟩
 cases fl with
 | ret u =>
  obtain ⟨v, σ', H', J, rv, q⟩ := hs
  exact fin J rv q
 | next =>
  obtain ⟨σ', H', J, q⟩ := hs
  exact fin (v := V.non) (u := Value.none) J rfl q
 | brk =>
  obtain ⟨_, _, _, q⟩ := hs
  exact False.elim q
 | cont =>
  obtain ⟨_, _, _, q⟩ := hs
  exact False.elim q
section
variable {X : Cx} {k : Nat} {f : Addr} {fd : FuncData} {ps : List Str} {sp : Sp} {x : Str} {p pos : Pos} {e : Expr} {es : List Expr} {t : TA}
theorem pe_callQ (F : FnOkQ X.prog X.w X.K X.mg X.base k f fd ps sp) (hr : RoomQ k X.A) (hg : Gl X x) (hm : X.mg x = some (.ref f)) (hk : PySem.W.keepIn X.K (.ref f) = true) (hb : Binds X.K fd ps [])
  (ha : PA X (e :: es) t) (hdb : (x == ("__debug__" : Str)) = false := by decide) (he : starEach (e :: es) X.env = (false, eval e X.env) :: starEach es X.env := by rfl) (hpl : (backTo pos (starEach es X.env)).any (·.1) = false := by rfl) :
  PE X (.Call (.Name x p) (e :: es) [] pos) (fun σ H Q => t σ H fun vs H1 => sp vs H1 Q E0) := by
 intro pins s σ H Q I h
 refine wpAny_Call_Name_kw (ld_glob I hg hm ?_ hdb)
 refine PySem.W.callWith_K (h₀ := X.base) I.ok.mod.kin hk (thn (ha pos pins s σ H _ I h) fun us s1 ⟨vs, H1, I1, r, q⟩ => ⟨I1.kIn, ?_⟩) he hpl
 have hl : us.length = ps.length := by rw [<- r.length]; exact F.len _ _ _ _ q
 have hb1 := hb s1 us I1.kIn (by rw [List.append_nil]; exact hl)
 rw [List.append_nil] at hb1
 refine wpAny_call (codeAny_mono (F.run X.A X.stack s1 H1 ⟨us, []⟩ us vs Q E0 hr I1.env0 hb1 r q) fun r s' hq => ?_)
 cases r with
 | error e => exact False.elim hq
 | ok fl =>
  cases fl with
  | ret u => exact I1.after hq
  | next => exact False.elim hq
  | brk => exact False.elim hq
  | cont => exact False.elim hq
def clsV : V -> Value
 | .ref a => .ref a
 | .ty n => .type n
 | _ => .none
theorem call_isiE : CallR X (.builtin "isinstance") (fun xs H Q => ∃ (a D : Addr) (c : V) (b : Bool), xs = [V.ref a, c] /\ (∃ z, c = .ref z ∨ ∃ n, c = .ty n) /\ H a = some (.ext (ExcAt a D)) /\ ExcCls X.K D /\ PySem.W.kitOne X.K (.ref D) (clsV c) = some b /\ Q (.bl b) H) := by
 intro pins s σ H xs us Q I r h
 obtain ⟨a, D, c, b, rfl, hc, ha, ec, ek, q⟩ := h
 obtain ⟨u1, u2, rfl, r1, r2⟩ := vals2 r
 cases (show u1 = Value.ref a from r1)
 have e2 : u2 = clsV c := by
  rcases hc with ⟨z, rfl | ⟨n, rfl⟩⟩
  ·exact r2
  ·exact r2
 subst e2
 obtain ⟨hx, _, _⟩ := (show ObjOk X.prog X.w H s.heap a (.ext (ExcAt a D)) from I.hok a _ ha)
 exact PySem.W.kia_one (kitx_exc ec) I.kIn hx ek (fun z => nomatch z) fun tk => ⟨.bl b, H, I.tok _, rfl, q⟩
end
end L2
set_option Elab.async false
set_option linter.all false
set_option maxRecDepth 100000
namespace L2
open PySem PySem.Spec PyProof.Rows
structure Deed (P : Program) (w : World) (K : PySem.W.Frag) (mg : Str -> Option Value) (base : Heap) (k : Nat) (s : Shared) (H : Hp) (outer : List Env) (g : Addr) (sp : Hp -> VK -> XK -> Prop) : Prop where
 fn : PySem.W.FnAt g s.heap
 un : H g = none
 nf : g ∉ frs outer
 run : ∀ (A' : Around) (outer' : List Env) (s' : Shared) (H' : Hp) (Q : VK) (E : XK), Room k A' -> Env0 P w K mg base A' outer' s' H' ->
  (∀ b o, s.heap.get? b = some o -> H b = none -> b ∉ frs outer -> s'.heap.get? b = some o /\ H' b = none) -> (∀ b o u, H b = some (.frz o u) -> H' b = some (.frz o u)) -> sp H' Q E -> codeAny (model P w) A' (.call (.ref g) ⟨[], []⟩) (CR (CXr P w) outer' P w H' s' Q E) s'
def sTry (K : PySem.W.Frag) (g R : Addr) (i j : Nat) (sp : Hp -> VK -> XK -> Prop) (tb : TS) : TS := fun D σ H => σ[i]? = some (some (.ref g)) /\ ∃ E : XK, sp H (fun _ H1 => D.nx σ H1) E /\
 ∀ C a H1, E C (some a) H1 -> H1 a = none -> ∃ Ca, C = .ref Ca /\ PySem.W.exmOne K (.ref Ca) (.ref R) = some true /\
  tb { nx := fun σ' H2 => D.nx (σ'.set j none) H2, rt := fun _ _ => False } (σ.set j (some (.ref a))) (upd H1 a (.ext (ExcAt a Ca)))
theorem ps_try {X : Cx} {k i j : Nat} {g R : Addr} {sp : Hp -> VK -> XK -> Prop} {x c en : Str} {np cp ep cp2 hp tp : Pos} {b₀ : Stmt} {suite : List Stmt} {tb : TS}
  (hd : Deed X.prog X.w X.K X.mg X.base k X.s₀ X.H₀ X.outer g sp) (hr : Room k X.A) (hex : X.ex = []) (hstk : X.stack = X.env :: X.outer) (hfr : X.env.frame = some X.env.locals)
  (hx : PE X.nox (.Name x np) (tVar i)) (hcg : Gl X c) (hcm : X.mg c = some (.ref R)) (hN : X.N.Nodup) (hj : X.N[j]? = some en) (hlj : X.env.scope.names.lookup en = some .local) (hs : ∀ e, PSs (X.marked e) (b₀ :: suite) tb)
  (hdb : (c == ("__debug__" : Str)) = false := by decide) (hsw : swapsWith (.Call (.Name x np) [] [] cp) none ep.line X.env = pure false := by rfl) :
  PS X (.Try [.Expr (.Call (.Name x np) [] [] cp) ep] [.ExceptHandler (some (.Name c cp2)) (some en) (b₀ :: suite) hp] [] [] tp) (sTry X.K g R i j sp tb) := by
 intro pins s σ H D I ⟨hg, E, hsp, hE⟩
 refine wpAny_Try_except (wpAny_execs_cons (wpAny_Expr_any (wpAny_Call_Name_kw ?_) I.quiet hsw))
 refine wpAny_mono (hx pins s σ H (fun v H1 => v = .ref g /\ H1 = H) (I.wish _) ⟨.ref g, hg, rfl, rfl⟩) (fun u s1 ⟨v, H1, I1, r1, ev, eH⟩ => ?_) fun _ _ z => False.elim z
 subst ev; subst eH
 obtain rfl : u = Value.ref g := r1
 have I1 : Inv X pins σ H1 s1 := I1.unwish
 have keep : ∀ b o, X.s₀.heap.get? b = some o -> X.H₀ b = none -> b ∉ frs X.outer -> s1.heap.get? b = some o /\ H1 b = none := fun b o q n hb =>
  ⟨I1.base.keep b o q n hb (by rw [hex]; exact fun z => nomatch z), I1.base.free b o q n (by rw [hex]; exact fun z => nomatch z)⟩
 have hfa : PySem.W.FnAt g s1.heap := by
  obtain ⟨oc, od, fd, sl, e⟩ := hd.fn
  exact ⟨oc, od, fd, sl, (keep g _ e hd.un hd.nf).1⟩
 refine PySem.W.callWith_F0 hfa (wpAny_call (codeAny_mono (hd.run X.A X.stack s1 H1 _ E hr I1.env0 keep I1.base.frzs hsp) fun r s' hq => ?_))
 cases r with
 | ok fl =>
  cases fl with
  | ret u =>
   obtain ⟨v, H2, I2, rv, q⟩ := I1.after hq
   exact wpAny_execs_nil (wpAny_execs_nil ⟨σ, H2, I2, q⟩)
  | next => exact False.elim hq
  | brk => exact False.elim hq
  | cont => exact False.elim hq
 | error e =>
  obtain ⟨a, C, a0, H', B, rfl, fl, os, bare, un, kb, tb', hok, hEq⟩ := hq
  have nox : ∀ b : Addr, b ∉ ([] : List Addr) := fun b z => nomatch z
  have f0 : Flt X.prog X.w X.stack H1 s1 H' B s'.heap := ⟨fl.1, fl.2.2.1, fun b o q n hb => un.slot b o q n hb (nox b), fun b o q n => un.free b o q n (nox b), un.tups, un.frzs, un.tbls, kb, tb', hok⟩
  have hAf : X.A.frames = some (X.env :: X.outer) := by rw [<- hstk]; exact I.ok.frames
  rw [hstk] at fl
  refine wpAny_looks_onW hAf hfr fl fun h2 held u2 => ?_
  have f2 := f0.next held.1 (by rw [hstk]; exact held.2.2.1) u2
  refine wpAny_landsW held fun h3 fl3 u3 => ?_
  have f3 := f2.next fl3.1 (by rw [hstk]; exact fl3.2.2.1) u3
  have hna : H' a = none := by
   cases q : H' a with
   | none => rfl
   | some o =>
    obtain ⟨ob, e⟩ := ObjOk.there (hok a o q)
    rw [fl3.2.1] at e; cases e
  obtain ⟨Ca, rfl, hex2, hq⟩ := hE C a H' hEq hna
  have I3 : Inv X pins σ H' { s' with heap := h3 } := I1.call' (s' := { s' with heap := h3 }) (ch := []) os f3.un f3.ok bare fun b z => absurd z (nox b)
  have xAt : ∀ {h : Heap}, Heap.FlyingW B (X.env :: X.outer) a (.ref Ca) a0 h -> ExcAt a Ca h := fun {h} z => by
   obtain ⟨oe, vs, e1, e2, e3, _⟩ := z.first
   exact ⟨oe, vs, e1, e2, e3⟩
  refine wpAny_handleBy_cons (codeAny_handlers_test ?_) (by intro q; cases q)
  refine ld_glob (X := X.marked a) (I3.mark a) hcg hcm ?_ hdb
  refine (PySem.W.exm_one (I3.kIn) (xAt fl3).ty hex2).here ?_
  refine codeAny_handlers_suite_as ?_
  refine wpAny_setFlight_noneW fl3.1 fl3.2.2.1 fl3.2.2.2 fun h4 k1 k2 k3 k4 => ?_
  have fl4 : Heap.FlyingW B (X.env :: X.outer) a (.ref Ca) a0 h4 := ⟨k1, fl3.2.1, k2, k3⟩
  have f4 := f3.next k1 (by rw [hstk]; exact k2) fun b o hb hn => ⟨o.slots, k4 b o hb hn⟩
  have I4 : Inv X pins σ H' { s' with heap := h4 } := I1.call' (s' := { s' with heap := h4 }) (ch := []) os f4.un f4.ok bare fun b z => absurd z (nox b)
  obtain ⟨ox, vx, ex1, ex2, ex3⟩ := xAt fl4
  have nfrm : a ∉ frs X.stack := fun z => by
   obtain ⟨_, o, ho, hnf⟩ := f4.frames.mem z
   rw [ex1] at ho; cases ho
   exact hnf vx ex3
  have old : ∀ b o, s1.heap.get? b = some o -> b ≠ a := fun b o q z => by
   subst z
   obtain ⟨o', e'⟩ := tb' b o q nfrm
   rw [fl3.2.1] at e'; cases e'
  have I5 : Inv X pins σ (upd H' a (.ext (ExcAt a Ca))) { s' with heap := h4 } := by
   refine I4.tracked hna ?_ ?_ ?_ ?_ ⟨xAt fl4, ⟨ox, ex1⟩, fun ha hb ⟨o, vs, y1, y2, y3⟩ kp => ⟨o, vs, kp o y1, y2, y3⟩⟩
   ·cases q : X.s₀.heap.get? a with
    | none => rfl
    | some o =>
     obtain ⟨o', e'⟩ := I1.base.there a o q (by rw [hex]; exact nox a)
     exact absurd rfl (old a o' e')
   ·obtain ⟨m, ⟨oL, _, _, hoL, _⟩, _⟩ := I1.loc
    exact Ne.symm (old _ _ hoL)
   ·intro y cc ec
    obtain ⟨v, o, ho, _⟩ := I1.cell y cc ec
    exact old _ _ ho
   ·intro p hp
    exact old _ _ (I1.pin p hp).1
  refine store_ok (X := X.marked a) (i := j) (v := .ref a) (I5.mark a) hN hj (.inl hlj) rfl (fun s5 I6 => ?_) (.inr hlj)
  refine wpAny_mono (hs a pins s5 (σ.set j (some (.ref a))) _ _ I6 hq) (fun f s6 z => ?_) fun _ _ z => False.elim z
  cases f with
  | next =>
   obtain ⟨σ', H2, I7, q⟩ := z
   have I7 : Inv X pins σ' H2 s6 := I7.unmark I
   obtain ⟨m, hn, hm⟩ := id I7.loc
   refine wpAny_nameGoes_keeps hlj hn (by rw [I.ok.kind]; rfl) fun h' v hn' hs' => ?_
   exact ⟨σ'.set j none, H2, I7.gone hN hj hm hn' hs', q⟩
  | ret u => obtain ⟨_, _, _, _, _, q⟩ := z; exact False.elim q
  | brk => obtain ⟨_, _, _, q⟩ := z; exact False.elim q
  | cont => obtain ⟨_, _, _, q⟩ := z; exact False.elim q
end L2
set_option Elab.async false
set_option linter.all false
set_option maxRecDepth 100000
namespace L2
open PySem PySem.Spec PyProof.Rows
theorem passG {X : Cx} {E : XK} (hstk : X.stack = X.env :: X.outer) (hfr : X.env.frame = some X.env.locals) (hex : X.ex = []) {pins : List (Addr × Obj)} {σ : St} {H : Hp} {s : Shared} {e : Value} {s' : Shared} (I : Inv X pins σ H s)
  (h : CXr X.prog X.w X.stack H s E e s') {E1 : Value -> Shared -> Prop} : wpAny (model X.prog X.w) X.A (leaving X.env e) (fun _ s'' => CXr X.prog X.w X.outer X.H₀ X.s₀ E e s'') E1 s' := by
 obtain ⟨a, C, a0, H', B, rfl, fl, os, bare, un, kb, tb, hok, hE⟩ := h
 have nox : ∀ b : Addr, b ∉ ([] : List Addr) := fun b z => nomatch z
 have nxx : ∀ b : Addr, b ∉ X.ex := fun b => by rw [hex]; exact nox b
 have f0 : Flt X.prog X.w X.stack H s H' B s'.heap := ⟨fl.1, fl.2.2.1, fun b o q n hb => un.slot b o q n hb (nox b), fun b o q n => un.free b o q n (nox b), un.tups, un.frzs, un.tbls, kb, tb, hok⟩
 have hAf : X.A.frames = some (X.env :: X.outer) := by rw [<- hstk]; exact I.ok.frames
 have sfr : frs X.stack = X.env.locals :: frs X.outer := by rw [hstk]; unfold frs; rw [List.filterMap_cons, hfr]
 have nfr : ∀ b o, X.s₀.heap.get? b = some o -> b ∉ frs X.outer -> b ∉ frs X.stack := fun b o eb hb z => by
  rw [sfr] at z
  rcases List.mem_cons.mp z with z | z
  ·exact absurd (Nat.lt_of_lt_of_le (Heap.lt_size eb) I.ok.above) (by rw [z]; exact Nat.lt_irrefl _)
  ·exact hb z
 rw [hstk] at fl
 refine wpAny_leaves_onW hAf hfr fl fun h' fl' ups => ?_
 refine ⟨a, C, a0, H', B, rfl, fl', os.trans I.os, bare, ⟨fun b o q n hb _ => ?_, fun b o q n hb hx => ?_, fun b o q n hx => ?_, fun b o q hx => ?_, fun b xs q => un.tups b xs (I.base.tups b xs q), fun b o u q => un.frzs b o u (I.base.frzs b o u q), fun b ps q => ?_⟩, fun b o q n hb => ?_, fun b o q hb => ?_, hok, hE⟩
 ·exact fl'.1 b o (kb b o (I.base.keep b o q n hb (nxx b)) (I.base.free b o q n (nxx b)) (nfr b o q hb))
 ·obtain ⟨sl, e1⟩ := I.base.slot b o q n hb (nxx b)
  obtain ⟨sl2, e2⟩ := un.slot b _ e1 (I.base.free b o q n (nxx b)) (by rw [sfr]; exact List.mem_cons_of_mem _ hb) (nox b)
  obtain ⟨_, o2, ho2, hnf⟩ := f0.frames.mem (show b ∈ frs X.stack by rw [sfr]; exact List.mem_cons_of_mem _ hb)
  rw [e2] at ho2
  cases ho2
  obtain ⟨sl3, e3⟩ := ups b _ e2 hnf
  exact ⟨sl3, e3⟩
 ·obtain ⟨sl, e1⟩ := I.base.any q n (nxx b)
  exact un.free b _ e1 (I.base.free b o q n (nxx b)) (nox b)
 ·obtain ⟨o1, e1⟩ := I.base.there b o q (nxx b)
  by_cases hb : b ∈ frs X.stack
  ·obtain ⟨_, o2, ho2, hnf⟩ := f0.frames.mem hb
   obtain ⟨sl2, e2⟩ := ups b _ ho2 hnf
   exact ⟨_, e2⟩
  ·obtain ⟨o2, e2⟩ := tb b o1 e1 hb
   exact ⟨o2, fl'.1 b o2 e2⟩
 ·obtain ⟨more, e1⟩ := I.base.tbls b ps q
  obtain ⟨more2, e2⟩ := un.tbls b _ e1
  exact ⟨more ++ more2, by rw [<- Array.append_assoc]; exact e2⟩
 ·exact kb b o (I.base.keep b o q n hb (nxx b)) (I.base.free b o q n (nxx b)) (nfr b o q hb)
 ·obtain ⟨o1, e1⟩ := I.base.there b o q (nxx b)
  exact tb b o1 e1 (nfr b o q hb)
def cxLam (P : Program) (w : World) (K : PySem.W.Frag) (mg : Str -> Option Value) (base : Heap) (N : List Str) (qual : Str) (scope : Scope) (g : Addr) (cd : Value) (cl : List (Str × Addr)) (A : Around) (outer : List Env) (s : Shared) (H : Hp) (E : XK) : Cx where
 prog := P
 w := w
 K := K
 mg := mg
 base := base
 A := A.deeper (PySem.W.envX qual scope s.heap.objs.size g cd cl)
 N := N
 s₀ := s
 H₀ := H
 env := PySem.W.envX qual scope s.heap.objs.size g cd cl
 outer := outer
 stack := PySem.W.envX qual scope s.heap.objs.size g cd cl :: outer
 ex := []
 calm := true
 fn := fun _ => false
 pn := []
 xe := fun e s' => wpAny (model P w) (A.deeper (PySem.W.envX qual scope s.heap.objs.size g cd cl)) (leaving (PySem.W.envX qual scope s.heap.objs.size g cd cl) e) (fun _ s'' => CXr P w outer H s E e s'') (fun e' s'' => CXr P w outer H s E e' s'') s'
theorem passL {P : Program} {w : World} {K : PySem.W.Frag} {mg : Str -> Option Value} {base : Heap} {N : List Str} {qual : Str} {scope : Scope} {g : Addr} {cd : Value} {cl : List (Str × Addr)} {A : Around} {outer : List Env} {s : Shared} {H : Hp} {E : XK} :
  Passes (CXr P w) (cxLam P w K mg base N qual scope g cd cl A outer s H E) E := fun pins σ H1 s1 e s' I h => passG (X := cxLam P w K mg base N qual scope g cd cl A outer s H E) rfl rfl rfl I h
structure LamAt (h : Heap) (H : Hp) (fs : List Addr) (N : List Str) (σ : St) (qual : Str) (params : Arguments) (body : Expr) (scope : Scope) (cl : List (Str × Addr)) (g c' : Addr) : Prop where
 fn : ∃ pm ctv, h.get? g = some (PySem.W.kla_obj "<lambda>" qual params body scope cl pm c' ctv)
 gn : H g = none /\ g ∉ fs
 code : ∃ o vs t, H c' = some (.frz o (.own 0)) /\ o.data = .fields vs /\ vs[1]? = some (.str qual t)
 cells : ∀ x c, cl.lookup x = some c -> (∃ v, h.IsCell c v) /\ H c = none /\ c ∉ fs
 vals : ∀ (i : Nat) (x : Str) (v : V), N[i]? = some x -> σ[i]? = some (some v) -> ∃ u c, RelV v u /\ cl.lookup x = some c /\ h.IsCell c (some u)
theorem deed_lam {P : Program} {w : World} {K : PySem.W.Frag} {mg : Str -> Option Value} {base : Heap} {k : Nat} {s : Shared} {H : Hp} {outer : List Env} {g c' : Addr} {N : List Str} {σ : St} {qual : Str} {params : Arguments} {body : Expr} {scope : Scope} {cl : List (Str × Addr)} {tb : XK -> TE}
  (L : LamAt s.heap H (frs outer) N σ qual params body scope cl g c') (hl : σ.length = N.length) (hk : scope.kind = .function) (hco : scope.isCoroutine = false) (hgen : scope.isGenerator = false) (hcell : ∀ x ∈ scope.names, x.2 ≠ .cell)
  (hfree : ∀ x : Str, scope.names.lookup x = some .free -> ∃ c, cl.lookup x = some c) (hN : ∀ x ∈ N, scope.names.lookup x = some .free) (hinj : ∀ x y c, cl.lookup x = some c -> cl.lookup y = some c -> x = y)
  (hbind : ∀ (pm cd ctv : Value), bindArgs (PySem.W.kla_fn "<lambda>" qual params body scope cl pm cd ctv) ⟨[], []⟩ = pure [])
  (hbody : ∀ (A : Around) (outer : List Env) (s : Shared) (H : Hp) (E : XK), Room k (A.deeper (PySem.W.envX qual scope s.heap.objs.size g (.ref c') cl)) -> PE (cxLam P w K mg base N qual scope g (.ref c') cl A outer s H E) body (tb E)) :
  Deed P w K mg base (k + 1) s H outer g (fun H1 Q E => tb E σ H1 Q) := by
 obtain ⟨pm, ctv, hg⟩ := L.fn
 refine ⟨⟨_, _, _, _, hg⟩, L.gn.1, L.gn.2, fun A' outer' s' H' Q E hr e0 keep kfrz hq => ?_⟩
 have hg' := (keep g _ hg L.gn.1 L.gn.2).1
 have lim : s'.heap.NoLimit := e0.mod.nolimit.keeps fun b o e => (e0.bs b o e).1
 obtain ⟨oc, vs, t, h1, h2, h3⟩ := L.code
 have hcode : s'.heap.CodeRec (.ref c') qual := by
  obtain ⟨e1, _⟩ := e0.hok c' _ (kfrz c' oc _ h1)
  exact ⟨c', oc, vs, t, rfl, e1, h2, h3⟩
 refine PySem.W.kla_callFunE hr.depth hg' rfl hco hgen rfl hcode ?_
 rw [hbind]
 refine wpAny_pure (wpAny_newFunctionEnv hcell (fun _ z => nomatch z) (fun h₁ hns hsb => ?_) hk)
 have hk₁ : ∀ b o, s'.heap.get? b = some o -> h₁.get? b = some o := fun b o e => (hsb.2 b (Nat.ne_of_lt (Heap.lt_size e))).trans (Heap.get?_push_of_some _ e)
 refine ⟨lim.keeps hk₁, ?_⟩
 show codeAny _ _ (.expr body (PySem.W.envX qual scope s'.heap.objs.size g (.ref c') cl)) _ _
 have hcl : ∀ x c, cl.lookup x = some c -> (∃ v, s'.heap.IsCell c v) /\ H' c = none := fun x c e => by
  obtain ⟨⟨v, o, ho, hv⟩, n, nf⟩ := L.cells x c e
  obtain ⟨k1, k2⟩ := keep c o ho n nf
  exact ⟨⟨v, o, k1, hv⟩, k2⟩
 have I : Inv (cxLam P w K mg base N qual scope g (.ref c') cl A' outer' s' H' E) [] σ H' { s' with heap := h₁, toks := s'.toks + 0 } := by
  refine ⟨⟨e0.mod, hk, rfl, rfl, Nat.le_refl _, hinj, fun y hy => ?_, fun y c z => Bool.noConfusion z, fun _ => hr.hd, Around.frames_deeper e0.frames, .inr ⟨rfl, rfl⟩, (fun b z => nomatch z), e0.bs, e0.bsz, (fun b _ _ z => nomatch z), (fun b z => nomatch z), e0.funs, e0.frf⟩,
   rfl, e0.bare, Un.kept hk₁, ⟨_, hns, fun i y v h1 h2 h3 => ?_⟩, fun y c h => ?_, e0.hok.fresh (Nat.le_refl _), fun y c h => (hcl y c h).2, (fun p hp => nomatch hp), e0.hok.kept hk₁, hl⟩
  ·have hy : scope.names.lookup y = some .cell ∨ scope.names.lookup y = some .free := hy
   rcases hy with hy | hy
   ·exact absurd rfl (hcell _ (PySem.mem_of_lookup hy))
   ·exact hfree y hy
  ·obtain ⟨u, c, r, e, o, ho, hv⟩ := L.vals i y v h1 h2
   refine ⟨u, r, .inr ⟨.inr (hN y (List.mem_of_getElem? h1)), c, e, ?_⟩⟩
   obtain ⟨_, n, nf⟩ := L.cells y c e
   exact ⟨o, hk₁ _ _ (keep c o ho n nf).1, hv⟩
  ·obtain ⟨⟨v, z⟩, _⟩ := hcl y c h
   exact ⟨v, z.keeps hk₁⟩
 refine PySem.W.kla_codeExpr (wpAny_mono (hbody A' outer' s' H' E (hr.deeper _) [] _ σ H' Q I hq) (fun u s2 ⟨v, H2, J, r, q⟩ => ?_) fun e s2 z => z)
 exact ⟨v, H2, J.os, J.bare, J.base, J.hok, r, q⟩
end L2
set_option Elab.async false
set_option linter.all false
set_option maxRecDepth 100000
namespace L2
open PySem PySem.Spec PyProof.Rows
def BM (base : Heap) (mg : Str -> Option Value) : Prop := ∃ bm ob, mg "__builtins__" = some (.ref bm) /\ bm ≠ builtinsNs /\ base.get? bm = some ob /\ ob.cls = .type "module" /\ ob.dict = some builtinsNs /\ ob.data = .plain
structure RefOk (P : Program) (w : World) (K : PySem.W.Frag) (mg : Str -> Option Value) (base : Heap) (k kd : Nat) (f : Addr) (rs : (Hp -> VK -> XK -> Prop) -> Hp -> VK -> Prop) : Prop where
 run : ∀ (A : Around) (outer : List Env) (s : Shared) (H : Hp) (g : Addr) (spD : Hp -> VK -> XK -> Prop) (Q : VK), Room k A -> Env0 P w K mg base A outer s H -> Deed P w K mg base kd s H outer g spD -> rs spD H Q ->
  codeAny (model P w) A (.call (.ref f) ⟨[.ref g], []⟩) (CR CX0 outer P w H s Q E0) s
def tRef (Pt : Addr) (qual : Str) (lpos : Pos) (js : List Nat) (rs : (Hp -> VK -> XK -> Prop) -> Hp -> VK -> Prop) (tb : XK -> TE) : TE := fun σ H Q => ∃ ps : Array Value, H Pt = some (.tbl ps) /\ TriplesOk ps.toList /\
 ((codeAmong lpos ps.toList = none /\ ∀ (c' : Addr) (oc : Obj) (vs : Array Value) (t : Tok), H c' = none -> oc.data = .fields vs -> vs[1]? = some (.str qual t) ->
   rs (fun H1 Q1 E1 => tb E1 (js.map fun j => (σ[j]?).join) H1 Q1) (upd (upd H Pt (.tbl (ps ++ #[rawInt lpos.line, rawInt lpos.col, .ref c']))) c' (.frz oc (.own 0))) Q) ∨
  ∃ (c' : Addr) (oc : Obj) (vs : Array Value) (t : Tok), codeAmong lpos ps.toList = some (.ref c') /\ H c' = some (.frz oc (.own 0)) /\ oc.data = .fields vs /\ vs[1]? = some (.str qual t) /\ rs (fun H1 Q1 E1 => tb E1 (js.map fun j => (σ[j]?).join) H1 Q1) H Q)
section
variable {X : Cx} {pins : List (Addr × Obj)} {σ : St} {H : Hp} {s : Shared} {c Pt : Addr} {ps : Array Value} {params : Arguments} {body : Expr} {scope : Scope} {lpos : Pos} {clos : List (Str × Addr)} {Q : Value -> Shared -> Prop} {E : Value -> Shared -> Prop}
theorem lam_bm (I : Inv X pins σ H s) (hbm : BM X.base X.mg) (hP : H Pt = some (.tbl ps)) : s.heap.BuiltinsAt X.mg Pt := by
 obtain ⟨bm, ob, b1, b2, b3, b4, b5, b6⟩ := hbm
 obtain ⟨e1, e2⟩ := I.bs _ _ b3
 refine ⟨bm, ob, b1, b2, fun q => ?_, fun q => ?_, e1, b4, b5, b6⟩
 ·obtain ⟨o, es, ep, e, hd, _⟩ := I.mod.glob
  rw [q, e] at b3; cases b3; rw [hd] at b6; cases b6
 ·rw [q, hP] at e2; cases e2
theorem lam_gP (I : Inv X pins σ H s) (hP : H Pt = some (.tbl ps)) : mainGlobals ≠ Pt := fun q => by
 obtain ⟨o, es, ep, e, _⟩ := I.mod.glob
 have := (I.bs _ _ e).2
 rw [q, hP] at this; cases this
theorem make_lam (I : Inv X pins σ H s) (hcode : X.env.code = .ref c) (hC : PySem.W.CodeHd X.base c Pt) (hbm : BM X.base X.mg) (hP : H Pt = some (.tbl ps)) (ht : TriplesOk ps.toList) (hcl : closureFor scope X.env = pure clos) (hdef : defaultsOf params X.env = ([], []))
  (hn : codeAmong lpos ps.toList = none)
  (h : ∀ (c' g : Addr) (s1 : Shared) (oc : Obj) (vs : Array Value) (t : Tok) (pm ctv : Value), Inv X pins σ (upd (upd H Pt (.tbl (ps ++ #[rawInt lpos.line, rawInt lpos.col, .ref c']))) c' (.frz oc (.own 0))) s1 -> H c' = none -> s.heap.objs.size <= c' -> oc.data = .fields vs -> vs[1]? = some (.str (X.env.qual ++ "<lambda>") t) ->
   s1.heap.get? g = some (PySem.W.kla_obj "<lambda>" (X.env.qual ++ "<lambda>") params body scope clos pm c' ctv) -> s.heap.objs.size <= g -> g ≠ c' -> (∀ b o, b ≠ Pt -> s.heap.get? b = some o -> s1.heap.get? b = some o) -> Q (.ref g) s1) :
  wpAny (model X.prog X.w) X.A (eval (.Lambda params body scope lpos) X.env) Q E s := by
 have hPg : s.heap.get? Pt = some (PySem.W.tabObj ps) := I.hok Pt _ hP
 refine PySem.W.kla_eval hdef (PySem.W.kla_makeFunction (mg := X.mg) hcl I.ok.glob (I.mod.glob.keeps I.bk) hcode (hC.keeps I.bk) hPg ht hn (lam_gP I hP) (lam_bm I hbm hP) fun c' ctv h' tk hx hge hlt hrec htb => ?_)
 obtain ⟨c2, oc, vs, t, e2, hoc, hd, hv⟩ := hrec
 cases e2
 have hcn : H c' = none := I.hok.fresh hge
 have hcP : c' ≠ Pt := fun z => by rw [z, hP] at hcn; cases hcn
 have hne : ∀ b u, H b = some u -> b ≠ c' := fun b u e z => by rw [z, hcn] at e; cases e
 have hPs : Pt < s.heap.objs.size := Heap.lt_size hPg
 have hsz : s.heap.objs.size <= h'.objs.size := Nat.le_of_lt (Nat.lt_of_le_of_lt hge hlt)
 refine h c' h'.objs.size _ oc vs t _ ctv (I.un (t' := tk) ⟨fun b o e n _ _ => ?_, fun b o e n _ _ => ⟨o.slots, ?_⟩, fun b o e n _ => ?_, fun b o e _ => ?_, fun b xs e => ?_, fun b o u e => ?_, fun b qs e => ?_⟩ fun b u e => ?_) hcn hge hd hv (Heap.get?_push_size _ rfl) hsz (Nat.ne_of_gt hlt)
  fun b o hb e => Heap.get?_push_of_some _ (hx b o hb e)
 ·exact Heap.get?_push_of_some _ (hx b o (fun z => by rw [z, hP] at n; cases n) e)
 ·exact Heap.get?_push_of_some _ (hx b o (fun z => by rw [z, hP] at n; cases n) e)
 ·rw [upd_ne (Nat.ne_of_lt (Nat.lt_of_lt_of_le (Heap.lt_size e) hge)), upd_ne (fun z => by rw [z, hP] at n; cases n)]; exact n
 ·by_cases hb : b = Pt
  ·subst hb; exact ⟨_, Heap.get?_push_of_some _ htb⟩
  ·exact ⟨o, Heap.get?_push_of_some _ (hx b o hb e)⟩
 ·rw [upd_ne (hne b _ e), upd_ne (fun z => by rw [z, hP] at e; cases e)]; exact e
 ·rw [upd_ne (hne b _ e), upd_ne (fun z => by rw [z, hP] at e; cases e)]; exact e
 ·by_cases hb : b = Pt
  ·subst hb
   rw [hP] at e; cases e
   exact ⟨_, by rw [upd_ne (Ne.symm hcP), upd_same]⟩
  ·exact ⟨#[], by rw [upd_ne (hne b _ e), upd_ne hb, e]; simp⟩
 ·by_cases hb : b = c'
  ·subst hb
   rw [upd_same] at e; cases e
   exact ⟨Heap.get?_push_of_some _ hoc, oc, Heap.get?_push_of_some _ hoc⟩
  ·rw [upd_ne hb] at e
   by_cases hb2 : b = Pt
   ·subst hb2
    rw [upd_same] at e; cases e
    exact Heap.get?_push_of_some _ htb
   ·rw [upd_ne hb2] at e
    refine (I.hok b u e).stay (fun d v hd2 q => Heap.get?_push_of_some _ (hx d v ?_ q)) (fun d q => ?_) fun d xs q => ?_
    ·rcases hd2 with z | z
     ·rw [z]; exact hb2
     ·intro y; rw [y, hP] at z; cases z
    ·rw [upd_ne (hne d _ q), upd_ne (fun z => by rw [z, hP] at q; cases q)]; exact q
    ·rw [upd_ne (hne d _ q), upd_ne (fun z => by rw [z, hP] at q; cases q)]; exact q
theorem make_lamHit {c' : Addr} (I : Inv X pins σ H s) (hcode : X.env.code = .ref c) (hC : PySem.W.CodeHd X.base c Pt) (hbm : BM X.base X.mg) (hP : H Pt = some (.tbl ps)) (ht : TriplesOk ps.toList) (hcl : closureFor scope X.env = pure clos) (hdef : defaultsOf params X.env = ([], []))
  (hn : codeAmong lpos ps.toList = some (.ref c'))
  (h : ∀ (g : Addr) (s1 : Shared) (pm ctv : Value), Inv X pins σ H s1 -> s1.heap.get? g = some (PySem.W.kla_obj "<lambda>" (X.env.qual ++ "<lambda>") params body scope clos pm c' ctv) -> s.heap.objs.size <= g -> (∀ b o, s.heap.get? b = some o -> s1.heap.get? b = some o) -> Q (.ref g) s1) :
  wpAny (model X.prog X.w) X.A (eval (.Lambda params body scope lpos) X.env) Q E s := by
 have hPg : s.heap.get? Pt = some (PySem.W.tabObj ps) := I.hok Pt _ hP
 refine PySem.W.kla_eval hdef (PySem.W.kla_makeFunctionHit (mg := X.mg) hcl I.ok.glob (I.mod.glob.keeps I.bk) hcode (hC.keeps I.bk) hPg ht hn (lam_bm I hbm hP) fun ctv h' tk hk hsz => ?_)
 have kp : ∀ b o, s.heap.get? b = some o -> (h'.push { cls := .type "function", data := .func (PySem.W.kla_fn "<lambda>" (X.env.qual ++ "<lambda>") params body scope clos ((X.mg "__name__").getD .none) (.ref c') ctv) }).get? b = some o := fun b o e => Heap.get?_push_of_some _ (hk b o e)
 exact h h'.objs.size _ _ ctv (I.kept (t' := tk) kp) (Heap.get?_push_size _ rfl) hsz kp
end
section
variable {X : Cx} {k kd : Nat} {f c Pt : Addr} {rs : (Hp -> VK -> XK -> Prop) -> Hp -> VK -> Prop} {x : Str} {p pos lpos : Pos} {params : Arguments} {body : Expr} {scope : Scope} {N' : List Str} {tb : XK -> TE}
theorem pe_refuse (js : List Nat) (F : RefOk X.prog X.w X.K X.mg X.base k (kd + 1) f rs) (hr : Room k X.A) (hg : Gl X x) (hm : X.mg x = some (.ref f)) (hk : PySem.W.keepIn X.K (.ref f) = true)
  (hcode : X.env.code = .ref c) (hC : PySem.W.CodeHd X.base c Pt) (hbm : BM X.base X.mg) (hfn : ∀ y, X.fn y = true) (hstk : X.stack = X.env :: X.outer) (hfrm : X.env.frame = some X.env.locals)
  (hkd : scope.kind = .function) (hco : scope.isCoroutine = false) (hgen : scope.isGenerator = false) (hcell : ∀ y ∈ scope.names, y.2 ≠ .cell) {esc : Scope} (hsc : X.env.scope = esc) (hcells' : ∀ y ∈ scope.names, y.2 = .free -> esc.names.lookup y.1 = some .cell)
  (hNF : ∀ y ∈ N', scope.names.lookup y = some .free) (hNJ : js.map (fun j => X.N[j]?) = N'.map some)
  (hbind : ∀ (qual : Str) (cl : List (Str × Addr)) (pm cd ctv : Value), bindArgs (PySem.W.kla_fn "<lambda>" qual params body scope cl pm cd ctv) ⟨[], []⟩ = pure [])
  (hbody : ∀ (g c' : Addr) (cl : List (Str × Addr)) (A : Around) (outer : List Env) (s : Shared) (H : Hp) (E : XK), Room kd (A.deeper (PySem.W.envX (X.env.qual ++ "<lambda>") scope s.heap.objs.size g (.ref c') cl)) ->
   PE (cxLam X.prog X.w X.K X.mg X.base N' (X.env.qual ++ "<lambda>") scope g (.ref c') cl A outer s H E) body (tb E))
  (hdef : defaultsOf params X.env = ([], []) := by rfl) (hdb : (x == ("__debug__" : Str)) = false := by decide) (he : starEach [.Lambda params body scope lpos] X.env = [(false, eval (.Lambda params body scope lpos) X.env)] := by rfl) :
  PE X (.Call (.Name x p) [.Lambda params body scope lpos] [] pos) (tRef Pt (X.env.qual ++ "<lambda>") lpos js rs tb) := by
 intro pins s σ H Q I ⟨ps, hP, ht, hq⟩
 have hcells : ∀ y ∈ scope.names, y.2 = .free -> X.env.kindOf y.1 = some .cell := fun y hy e => by
  show X.env.scope.names.lookup y.1 = _
  rw [hsc]; exact hcells' y hy e
 have hfr : ∀ y ∈ scope.names, y.2 = .free -> ∃ d, X.env.cells.lookup y.1 = some d := fun y hy e => I.ok.has _ (.inl (hcells y hy e))
 have hcl := closure_eq scope X.env hfr
 have csub : ∀ y d, (clOf X.env.cells scope.names []).lookup y = some d -> X.env.cells.lookup y = some d := fun y d e => clOf_sub scope.names [] hfr (fun _ _ z => nomatch z) e
 have hlen : js.length = N'.length := by have := congrArg List.length hNJ; simpa using this
 have hPg : s.heap.get? Pt = some (PySem.W.tabObj ps) := I.hok Pt _ hP
 have go : ∀ (g c' : Addr) (s1 : Shared) (H1 : Hp) (oc : Obj) (vs : Array Value) (t : Tok) (pm ctv : Value), Inv X pins σ H1 s1 -> H1 c' = some (.frz oc (.own 0)) -> oc.data = .fields vs -> vs[1]? = some (.str (X.env.qual ++ "<lambda>") t) ->
   s1.heap.get? g = some (PySem.W.kla_obj "<lambda>" (X.env.qual ++ "<lambda>") params body scope (clOf X.env.cells scope.names []) pm c' ctv) -> H1 g = none -> s.heap.objs.size <= g ->
   rs (fun H1 Q1 E1 => tb E1 (js.map fun j => (σ[j]?).join) H1 Q1) H1 Q -> wpAny (model X.prog X.w) X.A (call (.ref f) [.ref g]) (EP X pins σ Q) X.xe s1 := by
  intro g c' s1 H1 oc vs t pm ctv I1 h1 h2 h3 hgo hgn hge hrs
  have nst : ∀ b, b ∈ frs X.stack -> b < s.heap.objs.size := fun b hb => by
   obtain ⟨_, o, ho, _⟩ := I.stack.mem hb
   exact Heap.lt_size ho
  have hcc : ∀ y d, X.env.cells.lookup y = some d -> d ∉ frs X.stack := fun y d e z => by
   have z2 := I.stkSub d z
   rcases List.mem_cons.mp z2 with z2 | z2
   ·exact I.cne y d e z2
   ·obtain ⟨_, o, ho, _⟩ := I.ok.funs.mem z2
    exact absurd (Nat.lt_of_lt_of_le (Heap.lt_size ho) (I.ok.cab y d (hfn y) e)) (Nat.lt_irrefl _)
  have L : LamAt s1.heap H1 (frs X.stack) N' (js.map fun j => (σ[j]?).join) (X.env.qual ++ "<lambda>") params body scope (clOf X.env.cells scope.names []) g c' := by
   refine ⟨⟨pm, ctv, hgo⟩, ⟨hgn, fun z => absurd (Nat.lt_of_lt_of_le (nst g z) hge) (Nat.lt_irrefl _)⟩, ⟨oc, vs, t, h1, h2, h3⟩, fun y d e => ?_, fun i y v e1 e2 => ?_⟩
   ·exact ⟨I1.cell y d (csub y d e), I1.freeC y d (csub y d e), hcc y d (csub y d e)⟩
   ·have hyF := hNF y (List.mem_of_getElem? e1)
    obtain ⟨d, hd⟩ := clOf_has (cells := X.env.cells) scope.names [] (PySem.mem_of_lookup hyF)
    have hi : (js.map (fun j => X.N[j]?))[i]? = some (some y) := by rw [hNJ, List.getElem?_map, e1]; rfl
    rw [List.getElem?_map] at hi e2
    cases hj : js[i]? with
    | none => rw [hj] at hi; cases hi
    | some j =>
     rw [hj] at hi e2
     have hXN : X.N[j]? = some y := by simpa using hi
     have hσ : σ[j]? = some (some v) := by
      have e3 : (σ[j]?).join = some v := by simpa using e2
      cases q : σ[j]? with
      | none => rw [q] at e3; cases e3
      | some o => rw [q] at e3; cases o with
       | none => cases e3
       | some v' => cases e3; rfl
     obtain ⟨m, hn, hm⟩ := I1.loc
     have hkc := hcells _ (PySem.mem_of_lookup hyF) rfl
     obtain ⟨u, r, lk⟩ := hm j y v hXN hσ (.inr (.inl hkc))
     rcases lk with ⟨kk, _⟩ | ⟨_, d2, hd2, hcell2⟩
     ·rw [show X.env.kindOf y = some .cell from hkc] at kk; cases kk
     ·have e4 := csub y d hd
      rw [e4] at hd2; cases hd2
      exact ⟨u, d, r, hd, hcell2⟩
  have D := deed_lam (P := X.prog) (w := X.w) (K := X.K) (mg := X.mg) (base := X.base) (k := kd) (tb := tb) L (by rw [List.length_map, hlen]) hkd hco hgen hcell (fun y hy => clOf_has scope.names [] (PySem.mem_of_lookup hy)) hNF (fun y z d e1 e2 => I.ok.inj y z d (csub y d e1) (csub z d e2))
   (fun pm cd ctv => hbind _ _ pm cd ctv) (fun A outer s H E hr => hbody g c' _ A outer s H E hr)
  refine wpAny_call (codeAny_mono (F.run X.A X.stack s1 H1 g _ Q hr I1.env0 D hrs) fun r s' hq => ?_)
  cases r with
  | error e => exact False.elim hq
  | ok fl =>
   cases fl with
   | ret u => exact I1.after hq
   | next => exact False.elim hq
   | brk => exact False.elim hq
   | cont => exact False.elim hq
 refine wpAny_Call_Name_kw (ld_glob I hg hm ?_ hdb)
 refine PySem.W.callWith_K (h₀ := X.base) I.ok.mod.kin hk ?_ he rfl
 rw [he]
 show wpAny _ _ (spliced ((false, eval (.Lambda params body scope lpos) X.env) :: backTo pos [])) _ _ s
 refine Calls.spliced_cons ?_
 rcases hq with ⟨hn, hq⟩ | ⟨c', oc, vs, t, hn, h1, h2, h3, hq⟩
 ·refine make_lam I hcode hC hbm hP ht hcl hdef hn fun c' g s1 oc vs t pm ctv I1 hcn hcs h2 h3 hgo hge hgc kp => Calls.spliced_nil ⟨I1.kIn, ?_⟩
  have hgP : g ≠ Pt := Ne.symm (Nat.ne_of_lt (Nat.lt_of_lt_of_le (Heap.lt_size hPg) hge))
  exact go g c' s1 _ oc vs t pm ctv I1 upd_same h2 h3 hgo (by rw [upd_ne hgc, upd_ne hgP]; exact I.hok.fresh hge) hge (hq c' oc vs t hcn h2 h3)
 ·refine make_lamHit I hcode hC hbm hP ht hcl hdef hn fun g s1 pm ctv I1 hgo hge kp => Calls.spliced_nil ⟨I1.kIn, ?_⟩
  exact go g c' s1 _ oc vs t pm ctv I1 h1 h2 h3 hgo (I.hok.fresh hge) hge hq
end
end L2
set_option Elab.async false
set_option linter.all false
set_option maxRecDepth 100000
namespace L2
open PySem PySem.Spec PyProof.Rows
section
variable {P : Program} {w : World} {K : PySem.W.Frag} {mg : Str -> Option Value} {base : Heap}
theorem FunG.okC {x qual : Str} {st : Stmt} {dV : Value} {f : Addr} {fd : FuncData} {N ps : List Str} {k : Nat} {sp : Sp} (F : FunG K x qual st dV f fd) (S : FnScope N ps (defScope st)) (len : ∀ vs H Q E, sp vs H Q E -> vs.length = ps.length)
  (hbody : ∀ (cdv : Value) (A : Around) (outer : List Env) (s : Shared) (H : Hp) (vs : List V) (Q : VK) (E : XK), fd.code = cdv -> Room k (A.deeper (envOfC qual (defScope st) s.heap.objs.size f cdv)) -> sp vs H Q E ->
   ∃ t, PSs (cxOf CX0 P w K mg base N qual (defScope st) f cdv A outer s H E).nox (defBody st) t /\ t { nx := fun _ H' => Q .non H', rt := Q } (start N vs) H) : FnOk P w K mg base CX0 (k + 1) f fd ps sp := by
 obtain ⟨oc, od, kV, doc, pm, an, cdv, ct, osl, rfl, lk, hcd⟩ := F.ex
 refine fn_of lk hcd S len fun A outer s H vs Q E hr hsp => ?_
 obtain ⟨t, h, q⟩ := hbody cdv A outer s H vs Q E rfl hr hsp
 exact ⟨t, h.nox, q⟩
theorem FunG.okR {x qual : Str} {st : Stmt} {dV : Value} {f : Addr} {fd : FuncData} {N ps : List Str} {k : Nat} {sp : Sp} (F : FunG K x qual st dV f fd) (S : FnScope N ps (defScope st)) (len : ∀ vs H Q E, sp vs H Q E -> vs.length = ps.length)
  (hbody : ∀ (cdv : Value) (A : Around) (outer : List Env) (s : Shared) (H : Hp) (vs : List V) (Q : VK) (E : XK), Room k (A.deeper (envOfC qual (defScope st) s.heap.objs.size f cdv)) -> sp vs H Q E ->
   ∃ t, PSs (cxOf (CXr P w) P w K mg base N qual (defScope st) f cdv A outer s H E) (defBody st) t /\ t { nx := fun _ H' => Q .non H', rt := Q } (start N vs) H) : FnOk P w K mg base (CXr P w) (k + 1) f fd ps sp := by
 obtain ⟨oc, od, kV, doc, pm, an, cdv, ct, osl, rfl, lk, hcd⟩ := F.ex
 exact fn_of lk hcd S len fun A outer s H vs Q E hr hsp => hbody cdv A outer s H vs Q E hr hsp
theorem FunG.okQ {x qual : Str} {st : Stmt} {dV : Value} {f : Addr} {fd : FuncData} {N ps : List Str} {k : Nat} {sp : Sp} (F : FunG K x qual st dV f fd) (S : FnScope N ps (defScope st)) (len : ∀ vs H Q E, sp vs H Q E -> vs.length = ps.length)
  (hbody : ∀ (cdv : Value) (A : Around) (outer : List Env) (s : Shared) (H : Hp) (vs : List V) (Q : VK) (E : XK), RoomQ k (A.deeper (envOfC qual (defScope st) s.heap.objs.size f cdv)) -> sp vs H Q E ->
   ∃ t, PSs (cxOfQ P w K mg base N qual (defScope st) f cdv A outer s H E) (defBody st) t /\ t { nx := fun _ H' => Q .non H', rt := Q } (start N vs) H) : FnOkQ P w K mg base (k + 1) f fd ps sp := by
 obtain ⟨oc, od, kV, doc, pm, an, cdv, ct, osl, rfl, lk, hcd⟩ := F.ex
 exact fn_ofQ lk hcd S len fun A outer s H vs Q E hr hsp => hbody cdv A outer s H vs Q E hr hsp
theorem FunG.refOk {x qual y : Str} {st : Stmt} {f : Addr} {fd : FuncData} {N : List Str} {k kd : Nat} {rs : (Hp -> VK -> XK -> Prop) -> Hp -> VK -> Prop} (F : FunG K x qual st .none f fd) (S : FnScope N [y] (defScope st)) (hb : Binds K fd [y] [])
  (hbody : ∀ (cdv : Value) (A : Around) (outer : List Env) (s : Shared) (H : Hp) (g : Addr) (spD : Hp -> VK -> XK -> Prop) (Q : VK), Room k (A.deeper (envOfC qual (defScope st) s.heap.objs.size f cdv)) -> Deed P w K mg base kd s H outer g spD -> rs spD H Q ->
   ∃ t, PSs (cxOf CX0 P w K mg base N qual (defScope st) f cdv A outer s H E0).nox (defBody st) t /\ t { nx := fun _ H' => Q .non H', rt := Q } (start N [.ref g]) H) : RefOk P w K mg base (k + 1) kd f rs := by
 obtain ⟨oc, od, kV, doc, pm, an, cdv, ct, osl, rfl, lk, hcd⟩ := F.ex
 refine ⟨fun A outer s H g spD Q hr e0 D hrs => ?_⟩
 have r : Vals [V.ref g] [Value.ref g] := .cons rfl .nil
 have KX : K.In s.heap := e0.mod.kin.keeps fun b o e => (e0.bs b o e).1
 have lim : s.heap.NoLimit := e0.mod.nolimit.keeps fun b o e => (e0.bs b o e).1
 have hkind : ∀ z ∈ [y].zip [Value.ref g], (defScope st).names.lookup z.1 = some .local ∨ ((defScope st).names.lookup z.1 = some .cell /\ ((cellsFrom (s.heap.objs.size + 1) (defScope st).names []).lookup z.1).isSome = true) := fun ⟨n, v⟩ hy => by
  rcases S.par n (List.of_mem_zip hy).1 with q | q
  ·exact .inl q
  ·exact .inr ⟨q, PySem.W.cellsFrom_some _ _ _ (.inl q)⟩
 have hbt : BindsTo s (PySem.W.fnOf x qual (defArgs st) (defBody st) (defScope st) .none kV doc pm an cdv ct) ⟨[.ref g], []⟩ ([y].zip [Value.ref g]) := hb s [.ref g] KX rfl
 refine codeAny_call_function hr.depth (KX _ _ lk) rfl S.co S.gen rfl (PySem.W.codeRec_of KX hcd) (hbt _ _ _ _ ?_)
 refine wpAny_newFunctionEnv_cells S.kind hkind fun env he s1 z => ?_
 subst he
 refine ⟨lim.keeps z.toInCall.keep, codeAny_func ?_⟩
 obtain ⟨t, ht, hq⟩ := hbody cdv A outer s H g spD Q (hr.deeper _) D hrs
 have I : Inv (cxOf CX0 P w K mg base N qual (defScope st) f cdv A outer s H E0) [] (start N [.ref g]) H s1 := inv_start S hr.hd e0 rfl r z
 refine wpAny_mono (ht.nox [] s1 (start N [.ref g]) H _ I hq) (fun fl s' hs => ?_) fun e s' hs => hs
 have fin : ∀ {σ' : St} {H' : Hp} {v : V} {u : Value}, Inv (cxOf CX0 P w K mg base N qual (defScope st) f cdv A outer s H E0) [] σ' H' s' -> RelV v u -> Q v H' -> CE outer P w H s Q u s' :=
  fun {σ' H' v u} J rv q => ⟨v, H', J.os, J.bare, J.base, J.hok, rv, q⟩
 cases fl with
 | ret u =>
  obtain ⟨v, σ', H', J, rv, q⟩ := hs
  exact fin J rv q
 | next =>
  obtain ⟨σ', H', J, q⟩ := hs
  exact fin (v := V.non) (u := Value.none) J rfl q
 | brk =>
  obtain ⟨_, _, _, q⟩ := hs
  exact False.elim q
 | cont =>
  obtain ⟨_, _, _, q⟩ := hs
  exact False.elim q
end
end L2
set_option Elab.async false
set_option linter.all false
set_option maxRecDepth 100000
namespace L2
open PySem PySem.Spec PyProof.Rows
def excAll (K : PySem.W.Frag) (C R : Addr) (Ds : List (Addr × Bool)) : Bool :=
 ((PySem.W.findIn K (.ref C) "__getattribute__" == some (some (.builtin "BaseException.__getattribute__"))) && (PySem.W.findIn K (.ref C) "__getattr__" == some none) && (PySem.W.mroIn K C (.type "BaseException") == some true) && PySem.W.hasDictIn K C && (PySem.W.findIn K (.ref C) "__class__" == some (some (.builtin "object.__class__"))) && (PySem.W.specialIn K (.builtin "object.__class__") "__get__" == some (some (.builtin "getset_descriptor.__get__"))) &&
  (PySem.W.takesIn K (.builtin "object.__class__") == some true) && (PySem.W.mroIn K C (.type "object") == some true)) &&
 ((PySem.W.exmOne K (.ref C) (.ref R) == some true) && (Ds.all fun p => PySem.W.kitOne K (.ref C) (.ref p.1) == some p.2) && (PySem.W.kitOne K (.ref C) (.type "ValueError") == some true)) && PySem.W.excIn K C veTail "ValueError.__new__"
section
variable {K : PySem.W.Frag} {C R : Addr} {Ds : List (Addr × Bool)}
theorem excAll_in (h : excAll K C R Ds = true) : PySem.W.excIn K C veTail "ValueError.__new__" = true := by
 unfold excAll at h
 exact (Bool.and_eq_true_iff.mp h).2
theorem excAll_cls (h : excAll K C R Ds = true) : ExcCls K C := by
 unfold excAll at h
 simp only [Bool.and_eq_true, beq_iff_eq] at h
 obtain ⟨⟨⟨⟨⟨⟨⟨⟨⟨a0, b0⟩, c0⟩, a2⟩, a3⟩, a4⟩, a5⟩, a6⟩, _⟩, _⟩ := h
 exact ⟨a0, b0, c0, a2, a3, a4, a5, a6⟩
theorem excAll_exm (h : excAll K C R Ds = true) : PySem.W.exmOne K (.ref C) (.ref R) = some true := by
 unfold excAll at h
 simp only [Bool.and_eq_true, beq_iff_eq] at h
 exact h.1.2.1.1
theorem excAll_ve (h : excAll K C R Ds = true) : PySem.W.kitOne K (.ref C) (.type "ValueError") = some true := by
 unfold excAll at h
 simp only [Bool.and_eq_true, beq_iff_eq] at h
 exact h.1.2.2
theorem excAll_kit (h : excAll K C R Ds = true) (i : Nat) {D : Addr} {b : Bool} (e : Ds[i]? = some (D, b)) : PySem.W.kitOne K (.ref C) (.ref D) = some b := by
 unfold excAll at h
 simp only [Bool.and_eq_true, beq_iff_eq] at h
 have := List.all_eq_true.mp h.1.2.1.2 (D, b) (List.mem_of_getElem? e)
 simpa using this
end
def Small (i : Int) : Prop := i.natAbs.log2 < 1920
theorem small_of {i : Int} (h : i.natAbs < 2 ^ 1000) : Small i := by
 unfold Small
 by_cases h0 : i.natAbs = 0
 ·rw [h0]; decide
 ·have := (Nat.log2_lt h0).mpr (show i.natAbs < 2 ^ 1000 from h)
  omega
theorem smallLen {i : Int} (h : Small i) : (PySem.Str.ofString (toString i)).length <= 1921 := int_text_len_1921 h
theorem catLen (a b : Str) : (a ++ b).length = a.length + b.length := PySem.Str.length_append a b
theorem cat1 {a b : Str} {n m : Nat} (h1 : a.length <= n) (h2 : b.length <= m) : (a ++ b).length <= n + m := by rw [catLen]; omega
theorem emptyLen : (Str.empty).length <= 0 := by decide
section
variable {E : XK} {C : Addr} {D : Ends} {σ : St} {H : Hp} {x y : Str} {i j : Nat} {m n : Int}
theorem rz1 (hv : σ[i]? = some (some (.int n))) (hn : Small n) (q : ∀ e, E (.ref C) (some e) H) (hx : x.length <= 1000 := by decide +kernel) :
  sRaise E C (fun σ H Q => tJ1 (tC (.str x)) (tJ1 (tFmt (tVar i)) tJ0) Str.empty σ H Q) D σ H := by
 have l1 := cat1 emptyLen hx
 have l2 := cat1 l1 (smallLen hn)
 exact ⟨x, rfl, sizeOk' (by omega), .int n, hv, .inr ⟨n, rfl, hn, _, rfl, sizeOk' (by omega), sizeOk' (by omega), q⟩⟩
end
end L2
set_option Elab.async false
set_option linter.all false
set_option maxRecDepth 100000
namespace L2
open PySem PySem.Spec PyProof.Rows
def Asc (n : Nat) (y : Str) : Prop := y.length <= n /\ ∀ c ∈ y.cps.toList, c < 128
theorem Asc.mono {n m : Nat} {y : Str} (h : Asc n y) (hm : n <= m) : Asc m y := ⟨Nat.le_trans h.1 hm, h.2⟩
theorem Asc.cat {n m : Nat} {x y : Str} (h1 : Asc n x) (h2 : Asc m y) : Asc (n + m) (x ++ y) := by
 refine ⟨by rw [PySem.Str.length_append]; exact Nat.add_le_add h1.1 h2.1, fun c hc => ?_⟩
 rw [PySem.Str.cps_append, Array.toList_append] at hc
 rcases List.mem_append.mp hc with hc | hc
 ·exact h1.2 c hc
 ·exact h2.2 c hc
theorem Asc.repr {n : Nat} {y : Str} (h : Asc n y) : (reprText y).length <= 10 * n + 2 := by
 have := PySem.StrLaws.reprText_len y fun c hc => Nat.lt_of_lt_of_le (h.2 c hc) (by decide)
 have := h.1
 omega
theorem slice_mem {x : Str} {l u : Option Int} {c : Nat} (h : c ∈ (Txt.slice x l u).cps.toList) : c ∈ x.cps.toList := by
 unfold Txt.slice at h
 split at h
 ·exact h
 ·have h2 : c ∈ (Builtin.Str.strSliceIndices l u 1 x.length).filterMap (x.cps[·]?) := by simpa using h
  obtain ⟨i, _, e⟩ := List.mem_filterMap.mp h2
  exact Array.mem_toList_iff.mpr (Array.mem_of_getElem? e)
theorem Asc.slice {n : Nat} {y : Str} (h : Asc n y) (l u : Option Int) : Asc n (Txt.slice y l u) := ⟨Nat.le_trans (Txt.slice_le y l u) h.1, fun c hc => h.2 c (slice_mem hc)⟩
section
variable {X : Cx}
def rSlS : V -> Option Int -> Option Int -> Hp -> VK -> Prop := fun x lo hi H Q => ∃ z, x = .str z /\ z.length <= sizeLine /\ Q (.str (Txt.slice z lo hi)) H
theorem part_of {v : Value} {o : Option Int} (h : IsPart v o) : ∃ p : Option (Int × Tok), v = partValue p /\ p.map (·.1) = o := by
 cases h with
 | none => exact ⟨none, rfl, rfl⟩
 | int i t => exact ⟨some (i, t), rfl, rfl⟩
theorem sl_str : SlR X rSlS := by
 intro pins s σ H x v vl vu lo hi sl Q I rx hs pl pu h
 obtain ⟨z, rfl, hz, q⟩ := h
 obtain ⟨t, rfl⟩ := rx
 obtain ⟨p1, rfl, e1⟩ := part_of pl
 obtain ⟨p2, rfl, e2⟩ := part_of pu
 subst e1; subst e2
 refine ⟨"str", _, F.slot_str_getitem.lookup, typeIs_str _ _ _, ?_⟩
 refine wpAny_getItem_str_slice (l := p1) (u := p2) (st := none) hs rfl ?_
 exact post_val_or_str ⟨Nat.le_trans (Txt.slice_le z _ _) hz, fun t' k => ⟨.str (Txt.slice z (p1.map (·.1)) (p2.map (·.1))), H, I.tok _, ⟨t', rfl⟩, q⟩⟩
def rUpper : V -> List V -> Hp -> VK -> Prop := fun x vs H Q => ∃ z, x = .str z /\ vs = [] /\ (Txt.upper z).length <= sizeLine /\ Q (.str (Txt.upper z)) H
theorem fitOf {n : Nat} (h : n <= sizeLine) : Builtin.Str.tooLong n = false := by unfold Builtin.Str.tooLong; exact decide_eq_false (by omega)
theorem mt_upper : MtM X "str.upper" rUpper := by
 intro pins s σ H x vs v us Q I rx rv h
 obtain ⟨z, rfl, rfl, hz, q⟩ := h
 obtain ⟨t, rfl⟩ := rx
 have hus := rv.zero
 subst hus
 exact SC.upper (fitOf hz) ⟨.str (Txt.upper z), H, I.tok _, ⟨_, rfl⟩, q⟩
theorem strVals : ∀ {ys : List Str} {us : List Value}, Vals (ys.map V.str) us -> ∃ l : List (Str × Tok), us = strValues l /\ l.map (·.1) = ys
 | [], _, .nil => ⟨[], rfl, rfl⟩
 | y :: ys, _, .cons r t => by
  obtain ⟨k, e⟩ := (show ∃ k, _ = Value.str y k from r)
  subst e
  obtain ⟨l, rfl, rfl⟩ := strVals t
  exact ⟨(y, k) :: l, rfl, rfl⟩
def rJoin (K : PySem.W.Frag) : V -> List V -> Hp -> VK -> Prop := fun x vs H Q => ∃ (z : Str) (a : Addr) (ys : List Str), x = .str z /\ vs = [.ref a] /\ SqL K H a (ys.map V.str) /\ JoinOk z ys = true /\ Q (.str (Txt.join z ys)) H
theorem mt_join : MtM X "str.join" (rJoin X.K) := by
 intro pins s σ H x vs v us Q I rx rv h
 obtain ⟨z, a, ys, rfl, rfl, ha, hok, q⟩ := h
 obtain ⟨t, rfl⟩ := rx
 obtain ⟨u, rfl, ru⟩ := rv.one
 cases ru
 obtain ⟨its, r2, pl, hz⟩ := I.list ha
 obtain ⟨l, rfl, rfl⟩ := strVals r2
 exact SC.join (l := l) pl.isList rfl hok fun t' k => ⟨.str (Txt.join z (l.map (·.1))), H, I.tok _, ⟨t', rfl⟩, q⟩
end
theorem foldLen (k M : Nat) : ∀ (l : List Str) (acc : Nat), (∀ y ∈ l, y.length <= M) -> l.foldl (fun a y => a + y.length + k) acc <= acc + l.length * (M + k)
 | [], acc, _ => by simp
 | y :: l, acc, h => by
  have h1 := h y List.mem_cons_self
  have h2 := foldLen k M l (acc + y.length + k) fun z hz => h z (List.mem_cons_of_mem _ hz)
  rw [List.foldl_cons, List.length_cons, Nat.succ_mul]
  omega
theorem joinOk {sep : Str} {ys : List Str} {M : Nat} (h : ∀ y ∈ ys, y.length <= M) (hs : ys.length * (M + sep.length) <= sizeLine) : JoinOk sep ys = true := by
 unfold JoinOk
 rw [List.foldl_toArray]
 have := foldLen sep.length M ys 0 h
 rw [fitOf (by omega)]
 rfl
theorem ascJoin : ∀ {ys : List Str}, (∀ y ∈ ys, Asc 1 y) -> Asc ys.length (Str.join ⟨#[]⟩ ys)
 | [], _ => ⟨Nat.le_refl _, fun c hc => nomatch (show c ∈ ([] : List Nat) from hc)⟩
 | y :: ys, h => by
  rw [PyProof.Rows.join_nil_cons]
  have := (h y List.mem_cons_self).cat (ascJoin fun z hz => h z (List.mem_cons_of_mem _ hz))
  rw [List.length_cons, Nat.add_comm]
  exact this
end L2
set_option Elab.async false
set_option linter.all false
set_option maxRecDepth 100000
namespace L2
open PySem PySem.Spec PyProof.Rows
def tCut (t : TS) : TS := fun D σ H => ∃ Pn : St -> Hp -> Prop, t { D with nx := Pn } σ H /\ ∀ σ' H', Pn σ' H' -> D.nx σ' H'
theorem ps_cut {X : Cx} {st : Stmt} {t : TS} (h : PS X st t) : PS X st (tCut t) := by
 intro pins s σ H D I ⟨Pn, ht, hn⟩
 refine thn (h pins s σ H { D with nx := Pn } I ht) fun f s1 q => ?_
 cases f with
 | next => obtain ⟨σ', H', I', q⟩ := q; exact ⟨σ', H', I', hn _ _ q⟩
 | ret v => exact q
 | brk => exact q
 | cont => exact q
section
variable {E : XK} {C : Addr} {D : Ends} {σ : St} {H : Hp} {x x1 y : Str} {i j : Nat} {m n : Int}
theorem rzR (hv : σ[i]? = some (some (.str y))) (hy : (reprText y).length <= 1000) (q : ∀ e, E (.ref C) (some e) H) (hx : x.length <= 1000 := by decide +kernel) :
  sRaise E C (fun σ H Q => tJ1 (tC (.str x)) (tJ1 (tFmtR (tVar i)) tJ0) Str.empty σ H Q) D σ H := by
 have l1 := cat1 emptyLen hx
 have l2 := cat1 l1 hy
 exact ⟨x, rfl, sizeOk' (by omega), .str y, hv, y, rfl, sizeOk' (by omega), _, rfl, sizeOk' (by omega), sizeOk' (by omega), q⟩
theorem rz2 (hv : σ[i]? = some (some (.str y))) (hy : y.length <= 1000) (hw : σ[j]? = some (some (.int n))) (hn : Small n) (q : ∀ e, E (.ref C) (some e) H) (hx : x.length <= 1000 := by decide +kernel) (hx1 : x1.length <= 1000 := by decide +kernel) :
  sRaise E C (fun σ H Q => tJ1 (tC (.str x)) (tJ1 (tFmt (tVar i)) (tJ1 (tC (.str x1)) (tJ1 (tFmt (tVar j)) tJ0))) Str.empty σ H Q) D σ H := by
 have l1 := cat1 emptyLen hx
 have l2 := cat1 l1 hy
 have l3 := cat1 l2 hx1
 have l4 := cat1 l3 (smallLen hn)
 exact ⟨x, rfl, sizeOk' (by omega), .str y, hv, .inl ⟨y, rfl, sizeOk' (by omega), _, rfl, sizeOk' (by omega), _, rfl, sizeOk' (by omega), .int n, hw, .inr ⟨n, rfl, hn, _, rfl, sizeOk' (by omega), sizeOk' (by omega), q⟩⟩⟩
end
theorem law_callTs {P : Program} {w : World} {K : PySem.W.Frag} {mg mb : Str -> Option Value} {k : Nat} {fa a : Addr} {Ts : List Addr} {fd : FuncData} {x : Str} {sp : Sp} {s₁ : Shared} {vs : List Value} {ns : List Int}
  (KX : K.In s₁.heap) (hns : s₁.heap.Ns mainGlobals mg) (hb : s₁.heap.Ns builtinsNs mb) (hbb : ∀ x : Str, x ≠ "__name__" -> mb x = bootBuiltins x) (hlim : s₁.heap.NoLimit) (hg : s₁.gens = #[])
  (ha : s₁.heap.get? a = some { cls := .type "list", data := .seq vs.toArray }) (hi : IntsAre vs ns) (hl : ns.length <= sizeLine) (hr : Room k callerA)
  (hPt : ∀ p ∈ Ts, s₁.heap.get? p = some (PySem.W.tabObj #[]) /\ K.lookup p = none /\ ∃ c, PySem.W.CodeHd s₁.heap c p) (hbm : BM s₁.heap mg)
  (F : ∀ base : Heap, K.In base -> base.Ns mainGlobals mg -> BM base mg -> FnOk P w K mg base CX0 k fa fd [x] sp) (hbind : ∀ (s : Shared) (u : Value), BindsTo s fd ⟨[u], []⟩ [(x, u)])
  (hsp : ∀ H : Hp, (∀ p ∈ Ts, H p = some (.tbl #[])) -> SqL K H a (ns.map V.int) -> sp [.ref a] H (fun v _ => v = .bl true) fun _ _ _ => False) :
  codeAny (model P w) callerA (.call (.ref fa) ⟨[.ref a], []⟩) (fun r s' => r = .ok (.ret (.bool true)) /\ OldK s₁.heap s'.heap /\ s'.os = s₁.os /\ AllBare s'.gens) s₁ := by
 have rv := vals_ints hi
 have lenV := hi.length
 have haP : a ∉ Ts := fun z => by
  have := (hPt a z).1
  rw [ha] at this; cases this
 have core : ∀ H : Hp, (∀ p ∈ Ts, H p = some (.tbl #[])) -> (∀ b, b ∉ Ts -> H b = none ∨ ∃ o xs, H b = some (.frz o (.lst xs))) -> SqL K H a (ns.map V.int) -> HOk P w H s₁.heap -> (∀ b, H b ≠ none -> b = a ∨ b ∈ Ts) -> (H a ≠ none -> K.lookup a = none) ->
   codeAny (model P w) callerA (.call (.ref fa) ⟨[.ref a], []⟩) (fun r s' => r = .ok (.ret (.bool true)) /\ OldK s₁.heap s'.heap /\ s'.os = s₁.os /\ AllBare s'.gens) s₁ := by
  intro H hT hO hS hok hA hK
  have base_of : ∀ {b : Addr} {o : Obj}, s₁.heap.get? b = some o -> H b = none -> (hidT s₁.heap H).get? b = some o := fun e n => hidT_get e n
  have noA : ∀ {b : Addr} {o : Obj}, s₁.heap.get? b = some o -> (∀ vs n, o.data ≠ .seq vs n) -> (∀ vs, o.data ≠ .fields vs) -> H b = none := fun {b o} e d1 d2 => by
   cases q : H b with
   | none => rfl
   | some u =>
    rcases hA b (by rw [q]; simp) with e' | e'
    ·subst e'; rw [ha] at e; cases e; exact absurd rfl (d1 _ _)
    ·rw [(hPt b e').1] at e; cases e; exact absurd rfl (d2 _)
  have nsK : ∀ {b : Addr} {m : Str -> Option Value}, s₁.heap.Ns b m -> (hidT s₁.heap H).Ns b m := fun {b m} ⟨o, es, ep, e, d, r⟩ => ⟨o, es, ep, base_of e (noA e (fun _ _ z => by rw [d] at z; cases z) fun _ z => by rw [d] at z; cases z), d, r⟩
  have hKb : K.In (hidT s₁.heap H) := fun b o e => base_of (KX b o e) (by
   cases q : H b with
   | none => rfl
   | some u =>
    rcases hA b (by rw [q]; simp) with e' | e'
    ·subst e'; rw [hK (by rw [q]; simp)] at e; cases e
    ·rw [(hPt b e').2.1] at e; cases e)
  have hM : Mod K mg (hidT s₁.heap H) := ⟨hKb, nsK hns, ⟨mb, nsK hb, hbb⟩, let ⟨mc, h1, h2⟩ := hlim; ⟨mc, nsK h1, h2⟩⟩
  have hB : BM (hidT s₁.heap H) mg := by
   obtain ⟨bm, ob, b1, b2, b3, b4, b5, b6⟩ := hbm
   exact ⟨bm, ob, b1, b2, base_of b3 (noA b3 (fun _ _ z => by rw [b6] at z; cases z) fun _ z => by rw [b6] at z; cases z), b4, b5, b6⟩
  have e0 : Env0 P w K mg (hidT s₁.heap H) callerA [] s₁ H := ⟨rfl, hM, fun b o e => of_hidT e, Nat.le_of_eq (hidT_size _ _), trivial, fun b hb => absurd (show b ∈ ([] : List Addr) from hb) (by simp), hok, .of_eq hg⟩
  refine codeAny_mono ((F _ hKb (nsK hns) hB).run callerA [] s₁ H ⟨[.ref a], []⟩ [.ref a] [.ref a] _ _ hr e0 (hbind s₁ (.ref a)) (.cons rfl .nil) (hsp H hT hS)) fun r s' h => ?_
  cases r with
  | error e => exact False.elim h
  | ok fl =>
   cases fl with
   | next => exact False.elim h
   | brk => exact False.elim h
   | cont => exact False.elim h
   | ret u =>
    obtain ⟨v, H', os, bare, un, hok', r', q⟩ := h
    have q' : v = .bl true := q
    subst q'
    obtain rfl : u = Value.bool true := r'
    refine ⟨rfl, ⟨fun b o e => ?_, fun b o e => un.there b o e (by simp)⟩, os, bare⟩
    by_cases hbP : b ∈ Ts
    ·obtain ⟨e1, _, c, hC⟩ := hPt b hbP
     rw [e1] at e; cases e
     obtain ⟨more, e2⟩ := un.tbls b _ (hT b hbP)
     have e3 : s'.heap.get? b = some { cls := .none, data := .fields (#[] ++ more) } := hok' b _ e2
     exact .inr (.inl ⟨(hC.tab e1).isCodeTable, rfl, #[], more, rfl, e3⟩)
    ·refine .inl ?_
     cases q : H b with
     | none => exact un.keep b o e q (by intro z; exact absurd (show b ∈ ([] : List Addr) from z) (by simp)) (by simp)
     | some u =>
      rcases hO b hbP with z | ⟨ob, xs, z⟩
      ·rw [q] at z; cases z
      ·have z2 := un.frzs b ob _ z
       obtain ⟨e1, _⟩ := hok b _ z
       obtain ⟨e2, _⟩ := hok' b _ z2
       rw [e] at e1; cases e1
       exact e2
 cases hk : K.lookup a with
 | some o =>
  have e := KX a o hk
  rw [ha] at e
  cases e
  refine core (fun b => if b ∈ Ts then some (.tbl #[]) else none) (fun p hp => if_pos hp) (fun b hb => .inl (if_neg hb)) (.inr ⟨_, vs.toArray, _, hk, rfl, rfl, rfl, by rw [List.size_toArray, lenV]; exact hl, by simpa using rv⟩) (fun b u z => ?_) (fun b z => ?_) fun z => absurd (if_neg haP) z
  ·by_cases hb : b ∈ Ts
   ·have z' := (if_pos hb).symm.trans z
    cases z'
    exact (hPt b hb).1
   ·have z' := (if_neg hb).symm.trans z
    cases z'
  ·by_cases hb : b ∈ Ts
   ·exact .inr hb
   ·exact absurd (if_neg hb) z
 | none =>
  refine core (fun b => if b ∈ Ts then some (.tbl #[]) else if b = a then some (.frz { cls := .type "list", data := .seq vs.toArray } (.lst (ns.map V.int))) else none) (fun p hp => if_pos hp) (fun b hb => ?_) (.inl (.inr ⟨{ cls := .type "list", data := .seq vs.toArray }, (if_neg haP).trans (if_pos rfl)⟩)) (fun b u z => ?_) (fun b z => ?_) fun _ => hk
  ·by_cases hb2 : b = a
   ·exact .inr ⟨_, _, (if_neg hb).trans (if_pos hb2)⟩
   ·exact .inl ((if_neg hb).trans (if_neg hb2))
  ·by_cases hb : b ∈ Ts
   ·have z' := (if_pos hb).symm.trans z
    cases z'
    exact (hPt b hb).1
   ·have z1 := (if_neg hb).symm.trans z
    by_cases hb2 : b = a
    ·have z' := (if_pos hb2).symm.trans z1
     cases z'
     subst hb2
     exact ⟨ha, by rw [List.length_map]; exact hl, vs, _, rv, ha⟩
    ·have z' := (if_neg hb2).symm.trans z1
     cases z'
  ·by_cases hb : b ∈ Ts
   ·exact .inr hb
   ·by_cases hb2 : b = a
    ·exact .inl hb2
    ·exact absurd ((if_neg hb).trans (if_neg hb2)) z
theorem walk_ofTs {l : PySem.W.OpenLaw} {n k : Nat} {q : Program} {loose : List Str} {XP : (Str -> Option Value) -> Heap -> Prop} {YP : World -> Heap -> Prop} {d : DefRec} {K : Params -> PySem.W.Frag} {sp : PySem.W.Frag -> List Addr -> Sp} {x : Str} {Ts0 : List Addr}
  (hn : l.most = some n) (hn2 : n <= sizeLine) (hdf : d.params.defaults = []) (hr : Room k callerA)
  (hY : ∀ (w : World) (h : Heap), YP w h -> (K w.params).In h /\ ∀ p ∈ Ts0, h.get? p = some (PySem.W.tabObj #[]))
  (F : ∀ (w : World) (mg : Str -> Option Value) (fa : Addr) (h : Heap), (K w.params).In h -> h.Ns mainGlobals mg -> mg d.name = some (.ref fa) ->
   ∃ (fd : FuncData) (Ts : List Addr), (∀ p ∈ Ts, p ∈ Ts0 /\ (K w.params).lookup p = none /\ ∃ c, PySem.W.codeHdIn (K w.params) c p = true) /\ (∀ (s : Shared) (u : Value), BindsTo s fd ⟨[u], []⟩ [(x, u)]) /\
    (∀ base : Heap, (K w.params).In base -> base.Ns mainGlobals mg -> BM base mg -> FnOk l.prog w (K w.params) mg base CX0 k fa fd [x] (sp (K w.params) Ts)) /\
    ∀ (H : Hp) (a : Addr) (ns : List Int), ns.length <= n -> (∀ p ∈ Ts, H p = some (.tbl #[])) -> SqL (K w.params) H a (ns.map V.int) -> sp (K w.params) Ts [.ref a] H (fun v _ => v = .bl true) fun _ _ _ => False) :
  PySem.W.WalkO q loose XP YP l.row.toRowW d [] (fun f vs => PySem.call f vs) := by
 refine Att.attach_call hn hdf fun w s₀ s₁ mg mb fa o pm cd doc a vs ns G Y ho hd hcd hmg hobj hints hlen hg => ?_
 obtain ⟨KX, hPt⟩ := hY w _ Y
 obtain ⟨fd, Ts, hTs, hb, hF, hsp⟩ := F w mg fa _ KX G.T.g hmg
 obtain ⟨bm, ob, b1, b2, b3, b4, b5, b6⟩ := G.T.bmain
 refine law_callTs (Ts := Ts) KX G.T.g G.T.b G.T.builtins G.T.nolimit hg hobj hints (Nat.le_trans hlen hn2) hr (fun p hp => ?_) ⟨bm, ob, b1, b2, b3, b4, b5, b6⟩ hF hb fun H hT hS => hsp H a ns hlen hT hS
 obtain ⟨h1, h2, c, hc⟩ := hTs p hp
 exact ⟨hPt p h1, h2, c, PySem.W.codeHd_of_K KX hc⟩
end L2
set_option Elab.async false
set_option linter.all false
set_option maxRecDepth 100000
namespace L2
open PySem PySem.Spec PyProof.Rows
theorem among_snoc {pos p2 : Pos} {c : Value} : ∀ (l : List Value), TriplesOk l -> codeAmong pos (l ++ [rawInt p2.line, rawInt p2.col, c]) = (match codeAmong pos l with | some x => some x | none => if ((p2.line : Int) == (pos.line : Int) && (p2.col : Int) == (pos.col : Int)) = true then some c else none)
 | [], _ => by
  show codeAmong pos [rawInt p2.line, rawInt p2.col, c] = _
  unfold codeAmong rawInt
  rfl
 | .int a t :: .int b u :: x :: r, h => by
  have ih := among_snoc (pos := pos) (p2 := p2) (c := c) r h
  show codeAmong pos (.int a t :: .int b u :: x :: (r ++ [rawInt p2.line, rawInt p2.col, c])) = _
  unfold codeAmong
  by_cases hc : (a == (pos.line : Int) && b == (pos.col : Int)) = true
  ·rw [if_pos hc, if_pos hc]
  ·rw [if_neg hc, if_neg hc]
   exact ih
theorem triples_snoc {p2 : Pos} {c : Value} : ∀ (l : List Value), TriplesOk l -> TriplesOk (l ++ [rawInt p2.line, rawInt p2.col, c])
 | [], _ => trivial
 | .int a t :: .int b u :: x :: r, h => triples_snoc (p2 := p2) (c := c) r h
structure Tb (L : Kn) (Pt : Addr) (qual : Str) : Prop where
 ex : ∃ ps : Array Value, (Pt, HO.tbl ps) ∈ L /\ TriplesOk ps.toList /\ ∀ pos, codeAmong pos ps.toList = none ∨ ∃ (c' : Addr) (oc : Obj) (vs : Array Value) (t : Tok), codeAmong pos ps.toList = some (.ref c') /\ (c', HO.frz oc (.own 0)) ∈ L /\ oc.data = .fields vs /\ vs[1]? = some (.str qual t)
theorem Tb.mono {L L' : Kn} {Pt : Addr} {qual : Str} (T : Tb L Pt qual) (h : ∀ z ∈ L, z ∈ L') : Tb L' Pt qual := by
 obtain ⟨ps, m, tr, hp⟩ := T.ex
 exact ⟨ps, h _ m, tr, fun pos => (hp pos).imp id fun ⟨c', oc, vs, t, a, b, c, d⟩ => ⟨c', oc, vs, t, a, h _ b, c, d⟩⟩
theorem Tb.new {L : Kn} {Pt : Addr} {qual : Str} (h : (Pt, HO.tbl #[]) ∈ L) : Tb L Pt qual := ⟨#[], h, trivial, fun _ => .inl rfl⟩
theorem ref_tb {Z L : Kn} {H : Hp} {Pt : Addr} {qual : Str} {lpos : Pos} {js : List Nat} {rs : (Hp -> VK -> XK -> Prop) -> Hp -> VK -> Prop} {tb : XK -> TE} {σ : St} {Q : VK} (h : Has H (Z ++ L)) (T : Tb L Pt qual)
  (k : ∀ H' L', Has H' (Z ++ L') -> Tb L' Pt qual -> (∀ z ∈ L, z.1 ≠ Pt -> z ∈ L') -> rs (fun H1 Q1 E1 => tb E1 (js.map fun j => (σ[j]?).join) H1 Q1) H' Q) : tRef Pt qual lpos js rs tb σ H Q := by
 obtain ⟨ps, m, tr, hps⟩ := T.ex
 refine ⟨ps, h.at_ _ (List.mem_append_right _ m), tr, ?_⟩
 rcases hps lpos with hn | ⟨c', oc, vs, t, h1, h2, h3, h4⟩
 ·refine .inl ⟨hn, fun c' oc vs t hc' ho hv => ?_⟩
  obtain ⟨X, Y, rfl⟩ := List.append_of_mem m
  have hPne : c' ≠ Pt := fun z => by
   rw [z, h.at_ (Pt, _) (List.mem_append_right _ m)] at hc'
   cases hc'
  have h5 : Has H ((Pt, HO.tbl ps) :: (Z ++ (X ++ Y))) := by
   have : Has H ((Z ++ X) ++ (Pt, HO.tbl ps) :: Y) := by rw [List.append_assoc]; exact h
   have := this.out
   rw [List.append_assoc] at this
   exact this
  have h6 := (h5.put (.tbl (ps ++ #[rawInt lpos.line, rawInt lpos.col, .ref c']))).alloc (by rw [upd_ne hPne]; exact hc') (.frz oc (.own 0))
  have h7 := Has.comm (X := [(c', HO.frz oc (.own 0)), (Pt, HO.tbl (ps ++ #[rawInt lpos.line, rawInt lpos.col, .ref c']))]) (Y := Z) h6
  have etl : (ps ++ #[rawInt lpos.line, rawInt lpos.col, Value.ref c']).toList = ps.toList ++ [rawInt lpos.line, rawInt lpos.col, .ref c'] := by simp
  have keep : ∀ z ∈ X ++ (Pt, HO.tbl ps) :: Y, z.1 ≠ Pt -> z ∈ (c', HO.frz oc (.own 0)) :: (Pt, HO.tbl (ps ++ #[rawInt lpos.line, rawInt lpos.col, .ref c'])) :: (X ++ Y) := fun z hz ne => by
   rcases List.mem_append.mp hz with hz | hz
   ·simp [hz]
   ·rcases List.mem_cons.mp hz with rfl | hz
    ·exact absurd rfl ne
    ·simp [hz]
  refine k _ _ h7 ⟨_, List.mem_cons_of_mem _ List.mem_cons_self, by rw [etl]; exact triples_snoc _ tr, fun pos => ?_⟩ keep
  rw [etl, among_snoc _ tr]
  rcases hps pos with hn2 | ⟨c2, oc2, vs2, t2, g1, g2, g3, g4⟩
  ·rw [hn2]
   dsimp only
   by_cases hc : ((lpos.line : Int) == (pos.line : Int) && (lpos.col : Int) == (pos.col : Int)) = true
   ·rw [if_pos hc]
    exact .inr ⟨c', oc, vs, t, rfl, List.mem_cons_self, ho, hv⟩
   ·rw [if_neg hc]
    exact .inl rfl
  ·rw [g1]
   refine .inr ⟨c2, oc2, vs2, t2, rfl, keep _ g2 fun e => ?_, g3, g4⟩
   have q1 := h.at_ _ (List.mem_append_right _ g2)
   have q2 := h.at_ _ (List.mem_append_right _ m)
   dsimp only at q1 q2
   rw [show c2 = Pt from e, q2] at q1
   cases q1
 ·exact .inr ⟨c', oc, vs, t, h1, h.at_ _ (List.mem_append_right _ h2), h3, h4, k H L h T fun z hz _ => hz⟩
def tFmtT (te : TE) : TE := fun σ H Q => te σ H fun v H1 => ∃ (a : Addr) (m n : Int), v = .ref a /\ H1 a = some (.tup [.int m, .int n]) /\ Small m /\ Small n /\ ∀ y : Str, y.length <= 5000 -> Q (.str y) H1
theorem tupTextLen (m n : Int) (hm : Small m) (hn : Small n) : (PyData.tuple [.int m, .int n]).shown.length <= 5000 := by
 have e : (PyData.tuple [.int m, .int n]).shown = ("(" : Str) ++ ((Str.ofString (toString m)) ++ (", " : Str) ++ (Str.ofString (toString n))) ++ (")" : Str) := by
  simp only [PyData.shown, PyData.shownAll, tupleText]
  rfl
 rw [e, catLen, catLen, catLen, catLen]
 have a1 := smallLen hm
 have a2 := smallLen hn
 have b1 : ("(" : Str).length = 1 := rfl
 have b2 : (", " : Str).length = 2 := rfl
 have b3 : (")" : Str).length = 1 := rfl
 omega
section
variable {X : Cx} {e : Expr} {te : TE} {pos : Pos}
theorem pe_fmtT (hg : X.A.guards = some []) (hu : X.A.units + 64 < cLine) (h : PE X e te) : PE X (.FormattedValue e (-1) none pos) (tFmtT te) := fun pins s σ H Q I hh => by
 refine wpAny_FormattedValue_plain (thn (h pins s σ H _ I hh) fun u s1 ⟨v, H1, I1, r, a, m, n, ev, ha, hm, hn, q⟩ => ?_)
 subst ev
 cases (show u = Value.ref a from r)
 have rd := reads_tup (ns := [m, n]) I1 ha
 have hl := tupTextLen m n hm hn
 refine formatField_of_reads (d := .tuple [.int m, .int n]) rd ?_ (fun z => by simp [PyData.hasDict, PyData.hasDictAll] at z) hg ?_ (fun _ _ e => e) (fun h' u tk hk => ?_) (Nat.le_trans hl (sizeOk' (by decide)))
 ·simp only [PyData.showable, PyData.showableAll, Bool.and_true]
  exact Bool.and_eq_true_iff.mpr ⟨decide_eq_true hm, decide_eq_true hn⟩
 ·simp only [PyData.depth, PyData.depthAll]
  omega
 ·exact ⟨.str _, H1, I1.kept (t' := tk) hk, ⟨u, rfl⟩, q _ hl⟩
end
section
variable {E : XK} {C : Addr} {D : Ends} {σ : St} {H : Hp} {x x1 x2 : Str} {i j : Nat} {m n : Int} {a : Addr}
theorem rzT (hv : σ[i]? = some (some (.ref a))) (ha : H a = some (.tup [.int m, .int n])) (hm : Small m) (hn : Small n) (q : ∀ e, E (.ref C) (some e) H) (hx : x.length <= 1000 := by decide +kernel) :
  sRaise E C (fun σ H Q => tJ1 (tFmtT (tVar i)) (tJ1 (tC (.str x)) tJ0) Str.empty σ H Q) D σ H := by
 refine ⟨.ref a, hv, a, m, n, rfl, ha, hm, hn, fun y hy => ?_⟩
 have l1 := cat1 emptyLen hy
 have l2 := cat1 l1 hx
 exact ⟨y, rfl, sizeOk' (by omega), x, rfl, sizeOk' (by omega), sizeOk' (by omega), q⟩
theorem rz11c (hv : σ[i]? = some (some (.int m))) (hm : Small m) (hw : σ[j]? = some (some (.int n))) (hn : Small n) (q : ∀ e, E (.ref C) (some e) H) (hx : x.length <= 1000 := by decide +kernel) (hx1 : x1.length <= 1000 := by decide +kernel) (hx2 : x2.length <= 1000 := by decide +kernel) :
  sRaise E C (fun σ H Q => tJ1 (tC (.str x)) (tJ1 (tFmt (tVar i)) (tJ1 (tC (.str x1)) (tJ1 (tFmt (tVar j)) (tJ1 (tC (.str x2)) tJ0)))) Str.empty σ H Q) D σ H := by
 have l1 := cat1 emptyLen hx
 have l2 := cat1 l1 (smallLen hm)
 have l3 := cat1 l2 hx1
 have l4 := cat1 l3 (smallLen hn)
 have l5 := cat1 l4 hx2
 exact ⟨x, rfl, sizeOk' (by omega), .int m, hv, .inr ⟨m, rfl, hm, _, rfl, sizeOk' (by omega), _, rfl, sizeOk' (by omega), .int n, hw, .inr ⟨n, rfl, hn, _, rfl, sizeOk' (by omega), _, rfl, sizeOk' (by omega), sizeOk' (by omega), q⟩⟩⟩
end
end L2
set_option Elab.async false
set_option linter.all false
set_option maxRecDepth 100000
namespace L2
open PySem PySem.Spec PyProof.Rows
section
variable {X : Cx} {K : PySem.W.Frag}
theorem op_eqDK (hK : X.K = K) (hu : X.A.units + 64 < cLine) : OpR X (compareOp .Eq) (rDat K false) := by subst hK; exact op_eqD hu
end
end L2
set_option Elab.async false
set_option linter.all false
set_option maxRecDepth 100000
namespace L2
open PySem PySem.Spec PyProof.Rows
section
variable {prog : Program} {w : World} {A : Around} {E : Value -> Shared -> Prop} {s : Shared}
end
end L2
namespace L2
open PySem PySem.Spec PyProof.Rows
section
variable {X : Cx}
end
end L2
set_option Elab.async false
set_option linter.all false
set_option maxRecDepth 100000
namespace L2
open PySem PySem.Spec PyProof.Rows
section
variable {X : Cx} {pins : List (Addr × Obj)} {σ : St} {H : Hp} {s : Shared}
end
end L2
set_option Elab.async false
set_option linter.all false
set_option maxRecDepth 100000
namespace L2
open PySem PySem.Spec PyProof.Rows
section
variable {X : Cx}
end
end L2
set_option Elab.async false
set_option linter.all false
set_option maxRecDepth 100000
set_option maxHeartbeats 4000000
namespace P
open PySem L2
def top (i : Nat) : Stmt := PySem.Challenge.pw_lazyrails_k09_yard_deeds_refused.main.body.getD i (.Pass ⟨0, 0, 0, 0⟩)
abbrev s_law : Stmt := top 65
abbrev s_draws : Stmt := top 43
abbrev s_built : Stmt := top 55
abbrev s_kind : Stmt := top 49
abbrev s_kinds : Stmt := top 48
abbrev s_many : Stmt := top 50
abbrev s_J21 : Stmt := top 57
abbrev s_ends : Stmt := top 56
abbrev s_run : Stmt := top 41
abbrev s_Jk : Stmt := top 40
abbrev s_Jz : Stmt := top 35
abbrev s_Jl : Stmt := top 32
abbrev s_J01 : Stmt := top 30
abbrev s_Ju : Stmt := top 31
abbrev s_Jd : Stmt := top 33
abbrev s_J7 : Stmt := top 36
abbrev s_look : Stmt := top 59
abbrev s_Jv : Stmt := top 52
abbrev s_sign : Stmt := top 51
abbrev s_size : Stmt := top 60
abbrev s_J2 : Stmt := top 62
abbrev s_J11 : Stmt := top 54
abbrev s_names : Stmt := top 53
abbrev s_Je : Stmt := top 64
abbrev s_is : Stmt := top 45
abbrev s_whole : Stmt := top 44
abbrev s_J3 : Stmt := top 61
abbrev s_J8 : Stmt := top 63
abbrev s_Jf : Stmt := top 34
abbrev s_Jm : Stmt := inClass (top 38) 0
abbrev s_Jw : Stmt := inClass (top 38) 7
abbrev s_J0 : Stmt := inClass (top 38) 25
abbrev s_J1 : Stmt := inClass (top 38) 23
abbrev s_J5 : Stmt := inClass (top 38) 22
abbrev s_Jx : Stmt := inClass (top 38) 1
abbrev s_J6 : Stmt := inClass (top 38) 24
abbrev s_J9 : Stmt := inClass (top 38) 2
abbrev s_Jg : Stmt := inClass (top 38) 21
abbrev s_Jn : Stmt := inClass (top 38) 4
abbrev s_Jh : Stmt := inClass (top 38) 9
abbrev s_Ja : Stmt := inClass (top 38) 19
abbrev s_Jo : Stmt := inClass (top 38) 14
abbrev s_Jp : Stmt := inClass (top 38) 18
abbrev s_Jq : Stmt := inClass (top 38) 17
abbrev s_Jy : Stmt := inClass (top 38) 16
abbrev s_Jb : Stmt := inClass (top 38) 12
abbrev s_Jr : Stmt := inClass (top 38) 13
abbrev s_Ji : Stmt := inClass (top 38) 20
abbrev s_Js : Stmt := inClass (top 38) 15
abbrev s_Jc : Stmt := inClass (top 38) 5
abbrev s_Jt : Stmt := inClass (top 38) 3
abbrev s_Jj : Stmt := inClass (top 38) 6
structure Adr where
 f_law : Addr
 d_law : FuncData
 v_law : Value
 f_draws : Addr
 d_draws : FuncData
 v_draws : Value
 f_built : Addr
 d_built : FuncData
 v_built : Value
 f_kind : Addr
 d_kind : FuncData
 v_kind : Value
 f_kinds : Addr
 d_kinds : FuncData
 v_kinds : Value
 f_many : Addr
 d_many : FuncData
 v_many : Value
 f_J21 : Addr
 d_J21 : FuncData
 v_J21 : Value
 f_ends : Addr
 d_ends : FuncData
 v_ends : Value
 f_run : Addr
 d_run : FuncData
 v_run : Value
 f_Jk : Addr
 d_Jk : FuncData
 v_Jk : Value
 f_Jz : Addr
 d_Jz : FuncData
 v_Jz : Value
 f_Jl : Addr
 d_Jl : FuncData
 v_Jl : Value
 f_J01 : Addr
 d_J01 : FuncData
 v_J01 : Value
 f_Ju : Addr
 d_Ju : FuncData
 v_Ju : Value
 f_Jd : Addr
 d_Jd : FuncData
 v_Jd : Value
 f_J7 : Addr
 d_J7 : FuncData
 v_J7 : Value
 f_look : Addr
 d_look : FuncData
 v_look : Value
 f_Jv : Addr
 d_Jv : FuncData
 v_Jv : Value
 f_sign : Addr
 d_sign : FuncData
 v_sign : Value
 f_size : Addr
 d_size : FuncData
 v_size : Value
 f_J2 : Addr
 d_J2 : FuncData
 v_J2 : Value
 f_J11 : Addr
 d_J11 : FuncData
 v_J11 : Value
 f_names : Addr
 d_names : FuncData
 v_names : Value
 f_Je : Addr
 d_Je : FuncData
 v_Je : Value
 f_is : Addr
 d_is : FuncData
 v_is : Value
 f_whole : Addr
 d_whole : FuncData
 v_whole : Value
 f_J3 : Addr
 d_J3 : FuncData
 v_J3 : Value
 f_J8 : Addr
 d_J8 : FuncData
 v_J8 : Value
 f_Jf : Addr
 d_Jf : FuncData
 v_Jf : Value
 f_Jm : Addr
 d_Jm : FuncData
 v_Jm : Value
 f_Jw : Addr
 d_Jw : FuncData
 v_Jw : Value
 f_J0 : Addr
 d_J0 : FuncData
 v_J0 : Value
 f_J1 : Addr
 d_J1 : FuncData
 v_J1 : Value
 f_J5 : Addr
 d_J5 : FuncData
 v_J5 : Value
 f_Jx : Addr
 d_Jx : FuncData
 v_Jx : Value
 f_J6 : Addr
 d_J6 : FuncData
 v_J6 : Value
 f_J9 : Addr
 d_J9 : FuncData
 v_J9 : Value
 f_Jg : Addr
 d_Jg : FuncData
 v_Jg : Value
 f_Jn : Addr
 d_Jn : FuncData
 v_Jn : Value
 f_Jh : Addr
 d_Jh : FuncData
 v_Jh : Value
 f_Ja : Addr
 d_Ja : FuncData
 v_Ja : Value
 f_Jo : Addr
 d_Jo : FuncData
 v_Jo : Value
 f_Jp : Addr
 d_Jp : FuncData
 v_Jp : Value
 f_Jq : Addr
 d_Jq : FuncData
 v_Jq : Value
 f_Jy : Addr
 d_Jy : FuncData
 v_Jy : Value
 f_Jb : Addr
 d_Jb : FuncData
 v_Jb : Value
 f_Jr : Addr
 d_Jr : FuncData
 v_Jr : Value
 f_Ji : Addr
 d_Ji : FuncData
 v_Ji : Value
 f_Js : Addr
 d_Js : FuncData
 v_Js : Value
 f_Jc : Addr
 d_Jc : FuncData
 v_Jc : Value
 f_Jt : Addr
 d_Jt : FuncData
 v_Jt : Value
 f_Jj : Addr
 d_Jj : FuncData
 v_Jj : Value
 c_Yard : Addr
 c_NoKind : Addr
 c_NoEnd : Addr
 c_NoSide : Addr
 c_RailError : Addr
 c_NoNote : Addr
 c_NoPiece : Addr
 c_NoRod : Addr
 c_NoPoint : Addr
 c_NoBell : Addr
 c_SameEnd : Addr
 c_Linked : Addr
 c_NotLinked : Addr
 c_Occupied : Addr
 c_NoStand : Addr
 c_NoMany : Addr
 c_NoStretch : Addr
 c_NoRow : Addr
 c_NoMark : Addr
 c_NoCounter : Addr
 c_NoWidth : Addr
 c_NoValue : Addr
 c_FallsOut : Addr
 c_NoText : Addr
 p_J3 : Addr
 p_J2 : Addr
 p_J8 : Addr
 p_Je : Addr
 p_law : Addr
 u_ENDS : Value
 u_LAST_NOTE : Value
 u_POINTS : Value
 u_STEM : Value
def dsOf (t : Adr) (i : Nat) : List (Addr × Bool) := [(t.c_NoKind, i == 0), (t.c_NoEnd, i == 1), (t.c_NoSide, i == 2), (t.c_NoNote, i == 3), (t.c_NoPiece, i == 4), (t.c_NoRod, i == 5), (t.c_NoPoint, i == 6), (t.c_NoBell, i == 7), (t.c_SameEnd, i == 8), (t.c_Linked, i == 9), (t.c_NotLinked, i == 10), (t.c_Occupied, i == 11), (t.c_NoStand, i == 12), (t.c_NoMany, i == 13), (t.c_NoStretch, i == 14), (t.c_NoRow, i == 15), (t.c_NoMark, i == 16), (t.c_NoCounter, i == 17), (t.c_NoWidth, i == 18), (t.c_NoValue, i == 19), (t.c_FallsOut, i == 20), (t.c_NoText, i == 21)]
def flagsOf (i : Nat) : List (Str × Bool) := [("NoKind", i == 0), ("NoEnd", i == 1), ("NoSide", i == 2), ("NoNote", i == 3), ("NoPiece", i == 4), ("NoRod", i == 5), ("NoPoint", i == 6), ("NoBell", i == 7), ("SameEnd", i == 8), ("Linked", i == 9), ("NotLinked", i == 10), ("Occupied", i == 11), ("NoStand", i == 12), ("NoMany", i == 13), ("NoStretch", i == 14), ("NoRow", i == 15), ("NoMark", i == 16), ("NoCounter", i == 17), ("NoWidth", i == 18), ("NoValue", i == 19), ("FallsOut", i == 20), ("NoText", i == 21), ("plain", false)]
def nameAt (i : Nat) : Str := ((["NoKind", "NoEnd", "NoSide", "NoNote", "NoPiece", "NoRod", "NoPoint", "NoBell", "SameEnd", "Linked", "NotLinked", "Occupied", "NoStand", "NoMany", "NoStretch", "NoRow", "NoMark", "NoCounter", "NoWidth", "NoValue", "FallsOut", "NoText"] : List Str)[i]?).getD ""
structure Txt (K : PySem.W.Frag) (mg : Str -> Option Value) (t : Adr) : Prop where
 F_law : FunG K "law" "law" s_law t.v_law t.f_law t.d_law
 F_draws : FunG K "_law_draws" "_law_draws" s_draws t.v_draws t.f_draws t.d_draws
 F_built : FunG K "_law_built" "_law_built" s_built t.v_built t.f_built t.d_built
 F_kind : FunG K "_law_kind" "_law_kind" s_kind t.v_kind t.f_kind t.d_kind
 F_kinds : FunG K "_law_kinds" "_law_kinds" s_kinds t.v_kinds t.f_kinds t.d_kinds
 F_many : FunG K "_law_many" "_law_many" s_many t.v_many t.f_many t.d_many
 F_J21 : FunG K "_law_linked" "_law_linked" s_J21 t.v_J21 t.f_J21 t.d_J21
 F_ends : FunG K "_law_ends" "_law_ends" s_ends t.v_ends t.f_ends t.d_ends
 F_run : FunG K "run" "run" s_run t.v_run t.f_run t.d_run
 F_Jk : FunG K "next_step" "next_step" s_Jk t.v_Jk t.f_Jk t.d_Jk
 F_Jz : FunG K "passage" "passage" s_Jz t.v_Jz t.f_Jz t.d_Jz
 F_Jl : FunG K "check_end" "check_end" s_Jl t.v_Jl t.f_Jl t.d_Jl
 F_J01 : FunG K "ends_of" "ends_of" s_J01 t.v_J01 t.f_J01 t.d_J01
 F_Ju : FunG K "is_point" "is_point" s_Ju t.v_Ju t.f_Ju t.d_Ju
 F_Jd : FunG K "check_side" "check_side" s_Jd t.v_Jd t.f_Jd t.d_Jd
 F_J7 : FunG K "point_passage" "point_passage" s_J7 t.v_J7 t.f_J7 t.d_J7
 F_look : FunG K "_law_look" "_law_look" s_look t.v_look t.f_look t.d_look
 F_Jv : FunG K "_law_bad_kind" "_law_bad_kind" s_Jv t.v_Jv t.f_Jv t.d_Jv
 F_sign : FunG K "_law_sign" "_law_sign" s_sign t.v_sign t.f_sign t.d_sign
 F_size : FunG K "_law_size" "_law_size" s_size t.v_size t.f_size t.d_size
 F_J2 : FunG K "_law_bad_place_told" "_law_bad_place_told" s_J2 t.v_J2 t.f_J2 t.d_J2
 F_J11 : FunG K "_law_refused" "_law_refused" s_J11 t.v_J11 t.f_J11 t.d_J11
 F_names : FunG K "_law_names" "_law_names" s_names t.v_names t.f_names t.d_names
 F_Je : FunG K "_law_links_told" "_law_links_told" s_Je t.v_Je t.f_Je t.d_Je
 F_is : FunG K "_law_is" "_law_is" s_is t.v_is t.f_is t.d_is
 F_whole : FunG K "_law_whole" "_law_whole" s_whole t.v_whole t.f_whole t.d_whole
 F_J3 : FunG K "_law_bad_piece_told" "_law_bad_piece_told" s_J3 t.v_J3 t.f_J3 t.d_J3
 F_J8 : FunG K "_law_bad_rod_told" "_law_bad_rod_told" s_J8 t.v_J8 t.f_J8 t.d_J8
 F_Jf : FunG K "check_note" "check_note" s_Jf t.v_Jf t.f_Jf t.d_Jf
 F_Jm : FunG K "__init__" "Yard.__init__" s_Jm t.v_Jm t.f_Jm t.d_Jm
 F_Jw : FunG K "put" "Yard.put" s_Jw t.v_Jw t.f_Jw t.d_Jw
 F_J0 : FunG K "check_there" "Yard.check_there" s_J0 t.v_J0 t.f_J0 t.d_J0
 F_J1 : FunG K "check_piece" "Yard.check_piece" s_J1 t.v_J1 t.f_J1 t.d_J1
 F_J5 : FunG K "end_trail" "Yard.end_trail" s_J5 t.v_J5 t.f_J5 t.d_J5
 F_Jx : FunG K "lay" "Yard.lay" s_Jx t.v_Jx t.f_Jx t.d_Jx
 F_J6 : FunG K "check_rod" "Yard.check_rod" s_J6 t.v_J6 t.f_J6 t.d_J6
 F_J9 : FunG K "new_rod" "Yard.new_rod" s_J9 t.v_J9 t.f_J9 t.d_J9
 F_Jg : FunG K "steps" "Yard.steps" s_Jg t.v_Jg t.f_Jg t.d_Jg
 F_Jn : FunG K "link" "Yard.link" s_Jn t.v_Jn t.f_Jn t.d_Jn
 F_Jh : FunG K "carry" "Yard.carry" s_Jh t.v_Jh t.f_Jh t.d_Jh
 F_Ja : FunG K "engine" "Yard.engine" s_Ja t.v_Ja t.f_Ja t.d_Ja
 F_Jo : FunG K "kind" "Yard.kind" s_Jo t.v_Jo t.f_Jo t.d_Jo
 F_Jp : FunG K "mate" "Yard.mate" s_Jp t.v_Jp t.f_Jp t.d_Jp
 F_Jq : FunG K "side" "Yard.side" s_Jq t.v_Jq t.f_Jq t.d_Jq
 F_Jy : FunG K "rod" "Yard.rod" s_Jy t.v_Jy t.f_Jy t.d_Jy
 F_Jb : FunG K "pieces" "Yard.pieces" s_Jb t.v_Jb t.f_Jb t.d_Jb
 F_Jr : FunG K "rods" "Yard.rods" s_Jr t.v_Jr t.f_Jr t.d_Jr
 F_Ji : FunG K "bells" "Yard.bells" s_Ji t.v_Ji t.f_Ji t.d_Ji
 F_Js : FunG K "note" "Yard.note" s_Js t.v_Js t.f_Js t.d_Js
 F_Jc : FunG K "unlink" "Yard.unlink" s_Jc t.v_Jc t.f_Jc t.d_Jc
 F_Jt : FunG K "lift" "Yard.lift" s_Jt t.v_Jt t.f_Jt t.d_Jt
 F_Jj : FunG K "throw" "Yard.throw" s_Jj t.v_Jj t.f_Jj t.d_Jj
 m_law : mg "law" = some (.ref t.f_law)
 e_law : t.v_law = .none
 m_draws : mg "_law_draws" = some (.ref t.f_draws)
 e_draws : t.v_draws = .none
 m_built : mg "_law_built" = some (.ref t.f_built)
 e_built : t.v_built = .none
 m_kind : mg "_law_kind" = some (.ref t.f_kind)
 e_kind : t.v_kind = .none
 m_kinds : mg "_law_kinds" = some (.ref t.f_kinds)
 e_kinds : t.v_kinds = .none
 m_many : mg "_law_many" = some (.ref t.f_many)
 e_many : t.v_many = .none
 m_J21 : mg "_law_linked" = some (.ref t.f_J21)
 e_J21 : t.v_J21 = .none
 m_ends : mg "_law_ends" = some (.ref t.f_ends)
 e_ends : t.v_ends = .none
 m_run : mg "run" = some (.ref t.f_run)
 e_run : t.v_run = .none
 m_Jk : mg "next_step" = some (.ref t.f_Jk)
 e_Jk : t.v_Jk = .none
 m_Jz : mg "passage" = some (.ref t.f_Jz)
 e_Jz : t.v_Jz = .none
 m_Jl : mg "check_end" = some (.ref t.f_Jl)
 e_Jl : t.v_Jl = .none
 m_J01 : mg "ends_of" = some (.ref t.f_J01)
 e_J01 : t.v_J01 = .none
 m_Ju : mg "is_point" = some (.ref t.f_Ju)
 e_Ju : t.v_Ju = .none
 m_Jd : mg "check_side" = some (.ref t.f_Jd)
 e_Jd : t.v_Jd = .none
 m_J7 : mg "point_passage" = some (.ref t.f_J7)
 e_J7 : t.v_J7 = .none
 m_look : mg "_law_look" = some (.ref t.f_look)
 e_look : t.v_look = .none
 m_Jv : mg "_law_bad_kind" = some (.ref t.f_Jv)
 e_Jv : t.v_Jv = .none
 m_sign : mg "_law_sign" = some (.ref t.f_sign)
 e_sign : t.v_sign = .none
 m_size : mg "_law_size" = some (.ref t.f_size)
 e_size : t.v_size = .none
 m_J2 : mg "_law_bad_place_told" = some (.ref t.f_J2)
 e_J2 : t.v_J2 = .none
 m_J11 : mg "_law_refused" = some (.ref t.f_J11)
 e_J11 : t.v_J11 = .none
 m_names : mg "_law_names" = some (.ref t.f_names)
 e_names : t.v_names = .none
 m_Je : mg "_law_links_told" = some (.ref t.f_Je)
 e_Je : t.v_Je = .none
 m_is : mg "_law_is" = some (.ref t.f_is)
 e_is : t.v_is = .none
 m_whole : mg "_law_whole" = some (.ref t.f_whole)
 e_whole : t.v_whole = .none
 m_J3 : mg "_law_bad_piece_told" = some (.ref t.f_J3)
 e_J3 : t.v_J3 = .none
 m_J8 : mg "_law_bad_rod_told" = some (.ref t.f_J8)
 e_J8 : t.v_J8 = .none
 m_Jf : mg "check_note" = some (.ref t.f_Jf)
 e_Jf : t.v_Jf = .none
 e_Jm : t.v_Jm = .none
 M_Jw : Meth K t.c_Yard "put" t.f_Jw
 e_Jw : t.v_Jw = .none
 M_J0 : Meth K t.c_Yard "check_there" t.f_J0
 e_J0 : t.v_J0 = .none
 M_J1 : Meth K t.c_Yard "check_piece" t.f_J1
 e_J1 : t.v_J1 = .none
 M_J5 : Meth K t.c_Yard "end_trail" t.f_J5
 e_J5 : t.v_J5 = .none
 M_Jx : Meth K t.c_Yard "lay" t.f_Jx
 D_Jx : ∃ (T : Addr) (od : Option Addr) (n : Nat) (sl : Array (Option Value)) (tk0 : Tok), t.v_Jx = .ref T /\ K.lookup T = some ⟨.type "tuple", od, .seq #[.int 0 tk0, .none] n, sl⟩
 M_J6 : Meth K t.c_Yard "check_rod" t.f_J6
 e_J6 : t.v_J6 = .none
 M_J9 : Meth K t.c_Yard "new_rod" t.f_J9
 D_J9 : ∃ (T : Addr) (od : Option Addr) (n : Nat) (sl : Array (Option Value)) (tk0 : Tok), t.v_J9 = .ref T /\ K.lookup T = some ⟨.type "tuple", od, .seq #[.int 1 tk0] n, sl⟩
 M_Jg : Meth K t.c_Yard "steps" t.f_Jg
 e_Jg : t.v_Jg = .none
 M_Jn : Meth K t.c_Yard "link" t.f_Jn
 e_Jn : t.v_Jn = .none
 M_Jh : Meth K t.c_Yard "carry" t.f_Jh
 e_Jh : t.v_Jh = .none
 M_Ja : Meth K t.c_Yard "engine" t.f_Ja
 e_Ja : t.v_Ja = .none
 M_Jo : Meth K t.c_Yard "kind" t.f_Jo
 e_Jo : t.v_Jo = .none
 M_Jp : Meth K t.c_Yard "mate" t.f_Jp
 e_Jp : t.v_Jp = .none
 M_Jq : Meth K t.c_Yard "side" t.f_Jq
 e_Jq : t.v_Jq = .none
 M_Jy : Meth K t.c_Yard "rod" t.f_Jy
 e_Jy : t.v_Jy = .none
 M_Jb : Meth K t.c_Yard "pieces" t.f_Jb
 e_Jb : t.v_Jb = .none
 M_Jr : Meth K t.c_Yard "rods" t.f_Jr
 e_Jr : t.v_Jr = .none
 M_Ji : Meth K t.c_Yard "bells" t.f_Ji
 e_Ji : t.v_Ji = .none
 M_Js : Meth K t.c_Yard "note" t.f_Js
 e_Js : t.v_Js = .none
 M_Jc : Meth K t.c_Yard "unlink" t.f_Jc
 e_Jc : t.v_Jc = .none
 M_Jt : Meth K t.c_Yard "lift" t.f_Jt
 e_Jt : t.v_Jt = .none
 M_Jj : Meth K t.c_Yard "throw" t.f_Jj
 e_Jj : t.v_Jj = .none
 cl_Yard : Cls K t.c_Yard
 m_Yard : mg "Yard" = some (.ref t.c_Yard)
 mk_Yard : Mk K t.c_Yard t.f_Jm
 n_Yard_next_piece : NoAttr K t.c_Yard "next_piece"
 n_Yard_kinds : NoAttr K t.c_Yard "kinds"
 n_Yard_notes : NoAttr K t.c_Yard "notes"
 n_Jr_under : NoAttr K t.c_Yard "rods_under"
 n_Yard_sides : NoAttr K t.c_Yard "sides"
 n_Yard_mates : NoAttr K t.c_Yard "mates"
 n_Ja_end : NoAttr K t.c_Yard "engine_end"
 n_Yard_rung : NoAttr K t.c_Yard "rung"
 n_Yard_trail : NoAttr K t.c_Yard "trail"
 m_NoKind : mg "NoKind" = some (.ref t.c_NoKind)
 m_NoEnd : mg "NoEnd" = some (.ref t.c_NoEnd)
 m_NoSide : mg "NoSide" = some (.ref t.c_NoSide)
 m_RailError : mg "RailError" = some (.ref t.c_RailError)
 m_NoNote : mg "NoNote" = some (.ref t.c_NoNote)
 m_NoPiece : mg "NoPiece" = some (.ref t.c_NoPiece)
 m_NoRod : mg "NoRod" = some (.ref t.c_NoRod)
 m_NoPoint : mg "NoPoint" = some (.ref t.c_NoPoint)
 m_NoBell : mg "NoBell" = some (.ref t.c_NoBell)
 m_SameEnd : mg "SameEnd" = some (.ref t.c_SameEnd)
 m_Linked : mg "Linked" = some (.ref t.c_Linked)
 m_NotLinked : mg "NotLinked" = some (.ref t.c_NotLinked)
 m_Occupied : mg "Occupied" = some (.ref t.c_Occupied)
 m_NoStand : mg "NoStand" = some (.ref t.c_NoStand)
 m_NoMany : mg "NoMany" = some (.ref t.c_NoMany)
 m_NoStretch : mg "NoStretch" = some (.ref t.c_NoStretch)
 m_NoRow : mg "NoRow" = some (.ref t.c_NoRow)
 m_NoMark : mg "NoMark" = some (.ref t.c_NoMark)
 m_NoCounter : mg "NoCounter" = some (.ref t.c_NoCounter)
 m_NoWidth : mg "NoWidth" = some (.ref t.c_NoWidth)
 m_NoValue : mg "NoValue" = some (.ref t.c_NoValue)
 m_FallsOut : mg "FallsOut" = some (.ref t.c_FallsOut)
 m_NoText : mg "NoText" = some (.ref t.c_NoText)
 x_NoKind : excAll K t.c_NoKind t.c_RailError (dsOf t 0) = true
 x_NoEnd : excAll K t.c_NoEnd t.c_RailError (dsOf t 1) = true
 x_NoSide : excAll K t.c_NoSide t.c_RailError (dsOf t 2) = true
 x_NoNote : excAll K t.c_NoNote t.c_RailError (dsOf t 3) = true
 x_NoPiece : excAll K t.c_NoPiece t.c_RailError (dsOf t 4) = true
 x_NoRod : excAll K t.c_NoRod t.c_RailError (dsOf t 5) = true
 x_SameEnd : excAll K t.c_SameEnd t.c_RailError (dsOf t 8) = true
 x_Linked : excAll K t.c_Linked t.c_RailError (dsOf t 9) = true
 x_NotLinked : excAll K t.c_NotLinked t.c_RailError (dsOf t 10) = true
 x_NoBell : excAll K t.c_NoBell t.c_RailError (dsOf t 7) = true
 x_NoPoint : excAll K t.c_NoPoint t.c_RailError (dsOf t 6) = true
 x_Occupied : excAll K t.c_Occupied t.c_RailError (dsOf t 11) = true
 tb_J3 : ∃ c, t.d_J3.code = .ref c /\ PySem.W.codeHdIn K c t.p_J3 = true
 tn_J3 : K.lookup t.p_J3 = none
 tb_J2 : ∃ c, t.d_J2.code = .ref c /\ PySem.W.codeHdIn K c t.p_J2 = true
 tn_J2 : K.lookup t.p_J2 = none
 tb_J8 : ∃ c, t.d_J8.code = .ref c /\ PySem.W.codeHdIn K c t.p_J8 = true
 tn_J8 : K.lookup t.p_J8 = none
 tb_Je : ∃ c, t.d_Je.code = .ref c /\ PySem.W.codeHdIn K c t.p_Je = true
 tn_Je : K.lookup t.p_Je = none
 tb_law : ∃ c, t.d_law.code = .ref c /\ PySem.W.codeHdIn K c t.p_law = true
 tn_law : K.lookup t.p_law = none
 dj_J3_J2 : t.p_J3 ≠ t.p_J2
 dj_J3_J8 : t.p_J3 ≠ t.p_J8
 dj_J3_Je : t.p_J3 ≠ t.p_Je
 dj_J3_law : t.p_J3 ≠ t.p_law
 dj_J2_J8 : t.p_J2 ≠ t.p_J8
 dj_J2_Je : t.p_J2 ≠ t.p_Je
 dj_J2_law : t.p_J2 ≠ t.p_law
 dj_J8_Je : t.p_J8 ≠ t.p_Je
 dj_J8_law : t.p_J8 ≠ t.p_law
 dj_Je_law : t.p_Je ≠ t.p_law
 z_ValueError : mg "ValueError" = none
 z_abs : mg "abs" = none
 z_all : mg "all" = none
 z_bool : mg "bool" = none
 z_enumerate : mg "enumerate" = none
 z_int : mg "int" = none
 z_isinstance : mg "isinstance" = none
 z_len : mg "len" = none
 z_list : mg "list" = none
 z_range : mg "range" = none
 g_ENDS : mg "ENDS" = some t.u_ENDS
 x_ENDS : ∃ a, t.u_ENDS = .ref a /\ TabK K a [("line", .int 2), ("bell", .int 2), ("stop", .int 1), ("still", .int 3), ("lazy", .int 3), ("turning", .int 3)]
 g_LAST_NOTE : mg "LAST_NOTE" = some t.u_LAST_NOTE
 r_LAST_NOTE : RelV (.int 9999) t.u_LAST_NOTE
 g_POINTS : mg "POINTS" = some t.u_POINTS
 x_POINTS : ∃ (a : Addr) (o : Obj) (its : Array Value) (n : Nat), t.u_POINTS = .ref a /\ K.lookup a = some o /\ o.cls = .type "tuple" /\ o.data = .seq its n /\ its.size <= sizeLine /\ Vals [.str "still", .str "lazy", .str "turning"] its.toList
 g_STEM : mg "STEM" = some t.u_STEM
 r_STEM : RelV (.int 0) t.u_STEM
section
variable {K : PySem.W.Frag} {mg : Str -> Option Value} {t : Adr}
theorem b_draws (T : Txt K mg t) : Binds K t.d_draws ["_law_script", "_law_many_here"] [] := (T.e_draws ▸ T.F_draws).binds fun _ _ _ _ _ _ us hl => match us, hl with | [_, _], _ => rfl
theorem b_built (T : Txt K mg t) : Binds K t.d_built ["_law_d", "_law_at", "_law_many_here"] [] := (T.e_built ▸ T.F_built).binds fun _ _ _ _ _ _ us hl => match us, hl with | [_, _, _], _ => rfl
theorem b_kind (T : Txt K mg t) : Binds K t.d_kind ["_law_draw"] [] := (T.e_kind ▸ T.F_kind).binds fun _ _ _ _ _ _ us hl => match us, hl with | [_], _ => rfl
theorem b_kinds (T : Txt K mg t) : Binds K t.d_kinds [] [] := (T.e_kinds ▸ T.F_kinds).binds fun _ _ _ _ _ _ us hl => match us, hl with | [], _ => rfl
theorem b_many (T : Txt K mg t) : Binds K t.d_many ["_law_kind_here"] [] := (T.e_many ▸ T.F_many).binds fun _ _ _ _ _ _ us hl => match us, hl with | [_], _ => rfl
theorem b_J21 (T : Txt K mg t) : Binds K t.d_J21 ["_law_yard", "_law_kinds_here", "_law_d", "_law_at", "_law_many_here"] [] := (T.e_J21 ▸ T.F_J21).binds fun _ _ _ _ _ _ us hl => match us, hl with | [_, _, _, _, _], _ => rfl
theorem b_ends (T : Txt K mg t) : Binds K t.d_ends ["_law_kinds_here"] [] := (T.e_ends ▸ T.F_ends).binds fun _ _ _ _ _ _ us hl => match us, hl with | [_], _ => rfl
theorem b_run (T : Txt K mg t) : Binds K t.d_run ["yard", "most"] [] := (T.e_run ▸ T.F_run).binds fun _ _ _ _ _ _ us hl => match us, hl with | [_, _], _ => rfl
theorem b_Jk (T : Txt K mg t) : Binds K t.d_Jk ["yard"] [] := (T.e_Jk ▸ T.F_Jk).binds fun _ _ _ _ _ _ us hl => match us, hl with | [_], _ => rfl
theorem b_Jz (T : Txt K mg t) : Binds K t.d_Jz ["kind", "end", "side"] [] := (T.e_Jz ▸ T.F_Jz).binds fun _ _ _ _ _ _ us hl => match us, hl with | [_, _, _], _ => rfl
theorem b_Jl (T : Txt K mg t) : Binds K t.d_Jl ["kind", "end"] [] := (T.e_Jl ▸ T.F_Jl).binds fun _ _ _ _ _ _ us hl => match us, hl with | [_, _], _ => rfl
theorem b_J01 (T : Txt K mg t) : Binds K t.d_J01 ["kind"] [] := (T.e_J01 ▸ T.F_J01).binds fun _ _ _ _ _ _ us hl => match us, hl with | [_], _ => rfl
theorem b_Ju (T : Txt K mg t) : Binds K t.d_Ju ["kind"] [] := (T.e_Ju ▸ T.F_Ju).binds fun _ _ _ _ _ _ us hl => match us, hl with | [_], _ => rfl
theorem b_Jd (T : Txt K mg t) : Binds K t.d_Jd ["side"] [] := (T.e_Jd ▸ T.F_Jd).binds fun _ _ _ _ _ _ us hl => match us, hl with | [_], _ => rfl
theorem b_J7 (T : Txt K mg t) : Binds K t.d_J7 ["kind", "end", "side"] [] := (T.e_J7 ▸ T.F_J7).binds fun _ _ _ _ _ _ us hl => match us, hl with | [_, _, _], _ => rfl
theorem b_look (T : Txt K mg t) : Binds K t.d_look ["_law_yard"] [] := (T.e_look ▸ T.F_look).binds fun _ _ _ _ _ _ us hl => match us, hl with | [_], _ => rfl
theorem b_Jv (T : Txt K mg t) : Binds K t.d_Jv ["_law_kind_here", "_law_way", "_law_draw"] [] := (T.e_Jv ▸ T.F_Jv).binds fun _ _ _ _ _ _ us hl => match us, hl with | [_, _, _], _ => rfl
theorem b_sign (T : Txt K mg t) : Binds K t.d_sign ["_law_draw"] [] := (T.e_sign ▸ T.F_sign).binds fun _ _ _ _ _ _ us hl => match us, hl with | [_], _ => rfl
theorem b_size (T : Txt K mg t) : Binds K t.d_size ["_law_draw"] [] := (T.e_size ▸ T.F_size).binds fun _ _ _ _ _ _ us hl => match us, hl with | [_], _ => rfl
theorem b_J2 (T : Txt K mg t) : Binds K t.d_J2 ["_law_yard", "_law_end", "_law_good", "_law_bad"] [] := (T.e_J2 ▸ T.F_J2).binds fun _ _ _ _ _ _ us hl => match us, hl with | [_, _, _, _], _ => rfl
theorem b_J11 (T : Txt K mg t) : Binds K t.d_J11 ["_law_deed"] [] := (T.e_J11 ▸ T.F_J11).binds fun _ _ _ _ _ _ us hl => match us, hl with | [_], _ => rfl
theorem b_names (T : Txt K mg t) : Binds K t.d_names ["_law_e"] [] := (T.e_names ▸ T.F_names).binds fun _ _ _ _ _ _ us hl => match us, hl with | [_], _ => rfl
theorem b_Je (T : Txt K mg t) : Binds K t.d_Je ["_law_yard", "_law_one", "_law_other"] [] := (T.e_Je ▸ T.F_Je).binds fun _ _ _ _ _ _ us hl => match us, hl with | [_, _, _], _ => rfl
theorem b_is (T : Txt K mg t) : Binds K t.d_is ["_law_found", "_law_due"] [] := (T.e_is ▸ T.F_is).binds fun _ _ _ _ _ _ us hl => match us, hl with | [_, _], _ => rfl
theorem b_whole (T : Txt K mg t) : Binds K t.d_whole ["_law_found"] [] := (T.e_whole ▸ T.F_whole).binds fun _ _ _ _ _ _ us hl => match us, hl with | [_], _ => rfl
theorem b_J3 (T : Txt K mg t) : Binds K t.d_J3 ["_law_yard", "_law_bad", "_law_good", "_law_place"] [] := (T.e_J3 ▸ T.F_J3).binds fun _ _ _ _ _ _ us hl => match us, hl with | [_, _, _, _], _ => rfl
theorem b_J8 (T : Txt K mg t) : Binds K t.d_J8 ["_law_yard", "_law_rod", "_law_side", "_law_count"] [] := (T.e_J8 ▸ T.F_J8).binds fun _ _ _ _ _ _ us hl => match us, hl with | [_, _, _, _], _ => rfl
theorem b_Jf (T : Txt K mg t) : Binds K t.d_Jf ["note"] [] := (T.e_Jf ▸ T.F_Jf).binds fun _ _ _ _ _ _ us hl => match us, hl with | [_], _ => rfl
theorem b_Jm (T : Txt K mg t) : Binds K t.d_Jm ["self"] [] := (T.e_Jm ▸ T.F_Jm).binds fun _ _ _ _ _ _ us hl => match us, hl with | [_], _ => rfl
theorem b_Jw (T : Txt K mg t) : Binds K t.d_Jw ["self", "end"] [] := (T.e_Jw ▸ T.F_Jw).binds fun _ _ _ _ _ _ us hl => match us, hl with | [_, _], _ => rfl
theorem b_J0 (T : Txt K mg t) : Binds K t.d_J0 ["self", "end"] [] := (T.e_J0 ▸ T.F_J0).binds fun _ _ _ _ _ _ us hl => match us, hl with | [_, _], _ => rfl
theorem b_J1 (T : Txt K mg t) : Binds K t.d_J1 ["self", "piece"] [] := (T.e_J1 ▸ T.F_J1).binds fun _ _ _ _ _ _ us hl => match us, hl with | [_, _], _ => rfl
theorem b_J5 (T : Txt K mg t) : Binds K t.d_J5 ["self"] [] := (T.e_J5 ▸ T.F_J5).binds fun _ _ _ _ _ _ us hl => match us, hl with | [_], _ => rfl
theorem b_J6 (T : Txt K mg t) : Binds K t.d_J6 ["self", "rod"] [] := (T.e_J6 ▸ T.F_J6).binds fun _ _ _ _ _ _ us hl => match us, hl with | [_, _], _ => rfl
theorem b_Jg (T : Txt K mg t) : Binds K t.d_Jg ["self"] [] := (T.e_Jg ▸ T.F_Jg).binds fun _ _ _ _ _ _ us hl => match us, hl with | [_], _ => rfl
theorem b_Jn (T : Txt K mg t) : Binds K t.d_Jn ["self", "one", "other"] [] := (T.e_Jn ▸ T.F_Jn).binds fun _ _ _ _ _ _ us hl => match us, hl with | [_, _, _], _ => rfl
theorem b_Jh (T : Txt K mg t) : Binds K t.d_Jh ["self", "end", "side"] [] := (T.e_Jh ▸ T.F_Jh).binds fun _ _ _ _ _ _ us hl => match us, hl with | [_, _, _], _ => rfl
theorem b_Ja (T : Txt K mg t) : Binds K t.d_Ja ["self"] [] := (T.e_Ja ▸ T.F_Ja).binds fun _ _ _ _ _ _ us hl => match us, hl with | [_], _ => rfl
theorem b_Jo (T : Txt K mg t) : Binds K t.d_Jo ["self", "piece"] [] := (T.e_Jo ▸ T.F_Jo).binds fun _ _ _ _ _ _ us hl => match us, hl with | [_, _], _ => rfl
theorem b_Jp (T : Txt K mg t) : Binds K t.d_Jp ["self", "end"] [] := (T.e_Jp ▸ T.F_Jp).binds fun _ _ _ _ _ _ us hl => match us, hl with | [_, _], _ => rfl
theorem b_Jq (T : Txt K mg t) : Binds K t.d_Jq ["self", "rod"] [] := (T.e_Jq ▸ T.F_Jq).binds fun _ _ _ _ _ _ us hl => match us, hl with | [_, _], _ => rfl
theorem b_Jy (T : Txt K mg t) : Binds K t.d_Jy ["self", "piece"] [] := (T.e_Jy ▸ T.F_Jy).binds fun _ _ _ _ _ _ us hl => match us, hl with | [_, _], _ => rfl
theorem b_Jb (T : Txt K mg t) : Binds K t.d_Jb ["self"] [] := (T.e_Jb ▸ T.F_Jb).binds fun _ _ _ _ _ _ us hl => match us, hl with | [_], _ => rfl
theorem b_Jr (T : Txt K mg t) : Binds K t.d_Jr ["self"] [] := (T.e_Jr ▸ T.F_Jr).binds fun _ _ _ _ _ _ us hl => match us, hl with | [_], _ => rfl
theorem b_Ji (T : Txt K mg t) : Binds K t.d_Ji ["self"] [] := (T.e_Ji ▸ T.F_Ji).binds fun _ _ _ _ _ _ us hl => match us, hl with | [_], _ => rfl
theorem b_Js (T : Txt K mg t) : Binds K t.d_Js ["self", "piece"] [] := (T.e_Js ▸ T.F_Js).binds fun _ _ _ _ _ _ us hl => match us, hl with | [_, _], _ => rfl
theorem b_Jc (T : Txt K mg t) : Binds K t.d_Jc ["self", "end"] [] := (T.e_Jc ▸ T.F_Jc).binds fun _ _ _ _ _ _ us hl => match us, hl with | [_, _], _ => rfl
theorem b_Jt (T : Txt K mg t) : Binds K t.d_Jt ["self", "piece"] [] := (T.e_Jt ▸ T.F_Jt).binds fun _ _ _ _ _ _ us hl => match us, hl with | [_, _], _ => rfl
theorem b_Jj (T : Txt K mg t) : Binds K t.d_Jj ["self", "rod", "side"] [] := (T.e_Jj ▸ T.F_Jj).binds fun _ _ _ _ _ _ us hl => match us, hl with | [_, _, _], _ => rfl
theorem bD_Jx_4 (T : Txt K mg t) : ∃ ds : List Value, Vals [] ds /\ Binds K t.d_Jx ["self", "kind", "note", "rod"] ds := by
 obtain ⟨Td, od, n, sl, tk0, e1, e2⟩ := T.D_Jx
 obtain ⟨oc, od2, kV, doc, pm, an, cdv, ct, osl, e3, lk, hcd⟩ := T.F_Jx.ex
 refine ⟨[], .nil, fun s us X hl => ?_⟩
 have hl2 : us.length = 4 := by simpa using hl
 rw [e3, e1]
 match us, hl2 with
 | [_, _, _, _], _ => exact PySem.W.binds_K X rfl e2 rfl rfl rfl
theorem bD_Jx_3 (T : Txt K mg t) : ∃ ds : List Value, Vals [.non] ds /\ Binds K t.d_Jx ["self", "kind", "note", "rod"] ds := by
 obtain ⟨Td, od, n, sl, tk0, e1, e2⟩ := T.D_Jx
 obtain ⟨oc, od2, kV, doc, pm, an, cdv, ct, osl, e3, lk, hcd⟩ := T.F_Jx.ex
 refine ⟨[.none], .cons rfl (.nil), fun s us X hl => ?_⟩
 have hl2 : us.length = 3 := by simpa using hl
 rw [e3, e1]
 match us, hl2 with
 | [_, _, _], _ => exact PySem.W.binds_K X rfl e2 rfl rfl rfl
theorem bD_Jx_2 (T : Txt K mg t) : ∃ ds : List Value, Vals [.int 0, .non] ds /\ Binds K t.d_Jx ["self", "kind", "note", "rod"] ds := by
 obtain ⟨Td, od, n, sl, tk0, e1, e2⟩ := T.D_Jx
 obtain ⟨oc, od2, kV, doc, pm, an, cdv, ct, osl, e3, lk, hcd⟩ := T.F_Jx.ex
 refine ⟨[.int 0 tk0, .none], .cons ⟨_, rfl⟩ (.cons rfl (.nil)), fun s us X hl => ?_⟩
 have hl2 : us.length = 2 := by simpa using hl
 rw [e3, e1]
 match us, hl2 with
 | [_, _], _ => exact PySem.W.binds_K X rfl e2 rfl rfl rfl
theorem bD_J9_2 (T : Txt K mg t) : ∃ ds : List Value, Vals [] ds /\ Binds K t.d_J9 ["self", "side"] ds := by
 obtain ⟨Td, od, n, sl, tk0, e1, e2⟩ := T.D_J9
 obtain ⟨oc, od2, kV, doc, pm, an, cdv, ct, osl, e3, lk, hcd⟩ := T.F_J9.ex
 refine ⟨[], .nil, fun s us X hl => ?_⟩
 have hl2 : us.length = 2 := by simpa using hl
 rw [e3, e1]
 match us, hl2 with
 | [_, _], _ => exact PySem.W.binds_K X rfl e2 rfl rfl rfl
theorem bD_J9_1 (T : Txt K mg t) : ∃ ds : List Value, Vals [.int 1] ds /\ Binds K t.d_J9 ["self", "side"] ds := by
 obtain ⟨Td, od, n, sl, tk0, e1, e2⟩ := T.D_J9
 obtain ⟨oc, od2, kV, doc, pm, an, cdv, ct, osl, e3, lk, hcd⟩ := T.F_J9.ex
 refine ⟨[.int 1 tk0], .cons ⟨_, rfl⟩ (.nil), fun s us X hl => ?_⟩
 have hl2 : us.length = 1 := by simpa using hl
 rw [e3, e1]
 match us, hl2 with
 | [_], _ => exact PySem.W.binds_K X rfl e2 rfl rfl rfl
end
def Dr (ds : List Int) : Prop := ∀ d ∈ ds, 0 <= d /\ d < 10 ^ 18
def sp_draws (K : PySem.W.Frag) : Sp := fun vs H Q _ => ∃ (a : Addr) (ns : List Int) (n : Int) (L : Kn), vs = [.ref a, .int n] /\ SqL K H a (ns.map V.int) /\ ns.length <= 63 /\ 0 <= n /\ n <= 1000 /\ Has H L /\
 ∀ H' p ds, Has H' ((p, .lst (ds.map V.int)) :: L) -> ds.length = n.toNat -> Dr ds -> Q (.ref p) H'
section
variable {P : Program} {w : World} {K : PySem.W.Frag} {mg : Str -> Option Value} {base : Heap} {t : Adr}
theorem scD : FnScope ["_law_script", "_law_many_here", "_law_row", "_law_base", "_law_cell", "_law_left", "_law_turn"] ["_law_script", "_law_many_here"] (defScope s_draws) := ⟨rfl, rfl, rfl, by decide +kernel, rfl, by decide +kernel, by decide +kernel⟩
theorem Dr.snoc {ds : List Int} {d : Int} (h : Dr ds) (h0 : 0 <= d) (h1 : d < 10 ^ 18) : Dr (ds ++ [d]) := fun x hx => by
 rcases List.mem_append.mp hx with hx | hx
 ·exact h x hx
 ·have : x = d := by simpa using hx
  subst this; exact ⟨h0, h1⟩
theorem map_snoc (ds : List Int) (d : Int) : ds.map V.int ++ [V.int d] = (ds ++ [d]).map V.int := by simp
theorem ok_draws (T : Txt K mg t) : FnOk P w K mg base CX0 1 t.f_draws t.d_draws ["_law_script", "_law_many_here"] (sp_draws K) := by
 refine T.F_draws.ok scD (fun vs H Q E h => ?_) (fun cdv A outer s H vs Q E hr h => ?_)
 ·obtain ⟨_, _, _, _, rfl, _⟩ := h
  rfl
 ·obtain ⟨a, ns, n, L, rfl, hS, hns, hn0, hn1, hL, k⟩ := h
  refine ⟨_, (pss_cons (ps_set (i := 2) scD.nd rfl (Or.inl rfl) (pe_lst pa_nil))
   (pss_cons (ps_set (i := 3) scD.nd rfl (Or.inl rfl) pe_int)
   (pss_cons (ps_for PassesOwn.never rfl (pi_list (pe_slice sl_list (pv 0) po_none (po_some pe_int))) (pg_name (i := 4) scD.nd rfl (Or.inl rfl))
    (pss_cons (ps_set (i := 5) scD.nd rfl (Or.inl rfl) (pe_callB call_abs (by rfl) T.z_abs (by rfl) (pa_cons (pv 4) pa_nil)))
     (pss_cons (ps_set (i := 3) scD.nd rfl (Or.inl rfl) (pe_op op_mod (pe_op op_add (pe_op op_add (pe_op op_mul (pv 3) pe_int) (pv 5)) (pe_op op_mul pe_int (pe_callTy call_int1 (by rfl) T.z_int (by rfl) (pa_cons (pe_cmpR op_lt (pv 4) pe_int (nomark _)) pa_nil)))) pe_int))
     (pss_one (ps_if (pt_cmpR op_lt (pv 5) (pe_op op_pow pe_int pe_int) (nomark _))
      (pss_one (ps_expr (pe_bm PySem.F.plainAttrs_list PySem.F.slot_list_append PySem.F.type_list_append mt_append (pv 2) (pa_cons (pv 5) pa_nil))))
      (pss_one (ps_for PassesOwn.never rfl (pi_range1 (by rfl) T.z_range (pa_cons pe_int pa_nil)) (pg_name (i := 6) scD.nd rfl (Or.inl rfl))
        (pss_one (ps_if (pt_cmpR op_gt (pv 5) pe_int (nomark _))
          (pss_cons (ps_expr (pe_bm PySem.F.plainAttrs_list PySem.F.slot_list_append PySem.F.type_list_append mt_append (pv 2) (pa_cons (pe_op op_mod (pv 5) pe_int) pa_nil)))
           (pss_one (ps_set (i := 5) scD.nd rfl (Or.inl rfl) (pe_op op_fdiv (pv 5) pe_int))))
          pss_nil)))))))))
   (pss_cons (ps_while PassesOwn.never (pt_cmpR op_lt (pe_callB call_len_seq (by rfl) T.z_len (by rfl) (pa_cons (pv 2) pa_nil)) (pv 1) (nomark _))
    (pss_cons (ps_set (i := 3) scD.nd rfl (Or.inl rfl) (pe_op op_mod (pe_op op_add (pe_op op_mul (pv 3) pe_int) pe_int) pe_int))
     (pss_one (ps_expr (pe_bm PySem.F.plainAttrs_list PySem.F.slot_list_append PySem.F.type_list_append mt_append (pv 2) (pa_cons (pe_op op_mod (pe_op op_fdiv (pe_op op_mul (pv 3) (pv 3)) pe_int) pe_int) pa_nil))))))
   (pss_one (ps_ret (pe_slice sl_list (pv 2) po_none (po_some (pv 1))))))))), ?_⟩
  refine ⟨by decide, fun r hr0 => ?_⟩
  have h1 := hL.alloc hr0 (.lst [])
  have hS1 : SqL K (upd H r (.lst [])) a (ns.map V.int) := hS.alloc hr0
  generalize upd H r (.lst []) = H1 at *
  refine ⟨_, rfl, _, rfl, a, _, rfl, hS1, fun sl hsl => ?_⟩
  have h2 := h1.alloc hsl (.lst (cutV (ns.map V.int) none (some 63)))
  generalize upd H1 sl (.lst (cutV (ns.map V.int) none (some 63))) = H2 at *
  refine ⟨sl, rfl, ⟨_, SqL.of (h2.get 0 rfl)⟩, ?_⟩
  refine for_list (K := K) (a := sl) (xs := cutV (ns.map V.int) none (some 63)) (fun i σ H' => ∃ (row : List Int) (b : Int) (c l t : Option V), σ = [some (.ref a), some (.int n), some (.ref r), some (.int b), c, l, t] /\
   Has H' ((r, .lst (row.map V.int)) :: (sl, .lst (cutV (ns.map V.int) none (some 63))) :: L) /\ row.length <= 60 * i /\ Dr row /\ 0 <= b /\ b < 2147483647)
   ⟨[], 7, none, none, none, rfl, h2.swap2, Nat.zero_le _, (fun _ h => nomatch h), by decide, by decide⟩ (fun i σ H' _ ⟨row, b, c, l, t, _, h, _⟩ => SqL.of (h.get 1 rfl)) ?_ ?_
  ·rintro i y σ H' hi ⟨row, b, c, l, t, rfl, h3, hlen, hd, b0, b1⟩
   have hi63 : i < 63 := by
    have h5 := (List.getElem?_eq_some_iff.mp hi).1
    rw [cut_take _ _ (by decide), List.length_take, List.length_map] at h5
    omega
   obtain ⟨z, rfl⟩ : ∃ z, y = V.int z := by
    rw [cut_take _ _ (by decide), List.getElem?_take_of_lt (by omega), List.getElem?_map] at hi
    cases e : ns[i]? with
    | none => rw [e] at hi; cases hi
    | some z => rw [e] at hi; exact ⟨z, (Option.some.inj hi).symm⟩
   refine ⟨_, rfl, _, rfl, ?_⟩
   have hab : 0 <= (if z < 0 then -z else z) := by split <;> omega
   generalize (if z < 0 then -z else z) = left at *
   refine ⟨_, rfl, _, _, rfl, rfl, .inl ⟨by omega, by omega⟩, _, rfl, _, _, rfl, rfl, _, rfl, _, _, rfl, rfl, .inr ⟨_, rfl, _, _, rfl, rfl, .inl ⟨by decide, by decide⟩, _, _, rfl, rfl, _, _, rfl, rfl, (show (0 : Int) < 2147483647 by decide), ?_⟩⟩
   have hb0 := Int.emod_nonneg (b * 48271 + left + 2 * (if decide (z < 0) = true then 1 else 0)) (show (2147483647 : Int) ≠ 0 by decide)
   have hb1 := Int.emod_lt_of_pos (b * 48271 + left + 2 * (if decide (z < 0) = true then 1 else 0)) (show (0 : Int) < 2147483647 by decide)
   refine ⟨_, rfl, _, _, rfl, rfl, ⟨by decide, by decide, by decide⟩, _, _, rfl, rfl, _, rfl, ?_⟩
   refine ite2 (fun hc => ?_) (fun hc => ?_)
   ·have hc' : left < 10 ^ 18 := of_decide_eq_true hc
    refine ⟨_, rfl, .inl ⟨rfl, _, SqL.of (h3.get 0 rfl)⟩, _, rfl, r, _, _, rfl, rfl, h3.get 0 rfl, ?_, ?_⟩
    ·rw [List.length_map]
     exact sizeOk (by omega)
    ·refine ⟨row ++ [left], _, _, _, _, rfl, ?_, ?_, hd.snoc hab hc', hb0, hb1⟩
     ·rw [<- map_snoc]
      exact h3.puti 0 rfl _
     ·rw [List.length_append, List.length_singleton]; omega
   ·-- for turn in range(60)
    refine ⟨_, rfl, by decide, by decide, for_range (n := 60) (fun j σ H2 => ∃ (row2 : List Int) (l2 : Int) (t2 : Option V) (b2 : Int), 0 <= b2 /\ b2 < 2147483647 /\ σ = [some (.ref a), some (.int n), some (.ref r), some (.int b2), some (.int z), some (.int l2), t2] /\
     Has H2 ((r, .lst (row2.map V.int)) :: (sl, .lst (cutV (ns.map V.int) none (some 63))) :: L) /\ row2.length <= row.length + j /\ Dr row2 /\ 0 <= l2) ⟨row, _, _, _, hb0, hb1, rfl, h3, Nat.le_add_right _ _, hd, hab⟩ ?_ ?_⟩
    ·rintro j σ H2 hj ⟨row2, l2, t2, b2, hb20, hb21, rfl, h4, hlen2, hd2, hl2⟩
     refine ⟨_, rfl, _, _, rfl, rfl, _, rfl, ?_⟩
     refine ite2 (fun hc2 => ?_) (fun hc2 => ?_)
     ·refine ⟨_, rfl, .inl ⟨rfl, _, SqL.of (h4.get 0 rfl)⟩, _, rfl, _, _, rfl, rfl, (show (0 : Int) < 10007 by decide), r, _, _, rfl, rfl, h4.get 0 rfl, ?_, ?_⟩
      ·rw [List.length_map]
       exact sizeOk (by omega)
      ·refine ⟨_, rfl, _, _, rfl, rfl, ⟨by decide, by decide⟩, ?_⟩
       refine ⟨row2 ++ [l2 % 10007], _, _, _, hb20, hb21, rfl, ?_, ?_, hd2.snoc (Int.emod_nonneg _ (by decide)) (Int.lt_trans (Int.emod_lt_of_pos _ (by decide)) (by decide)), Int.ediv_nonneg hl2 (by decide)⟩
       ·rw [<- map_snoc]
        exact h4.puti 0 rfl _
       ·rw [List.length_append, List.length_singleton]; omega
     ·exact ⟨row2, l2, _, b2, hb20, hb21, rfl, h4, by omega, hd2, hl2⟩
    ·rintro σ H2 ⟨row2, l2, t2, b2, hb20, hb21, rfl, h4, hlen2, hd2, hl2⟩
     exact ⟨row2, b2, _, _, _, rfl, h4, by omega, hd2, hb20, hb21⟩
  ·rintro σ H' ⟨row, b, c, l, t, rfl, h3, hlen, hd, b0, b1⟩
   have hlx : (cutV (ns.map V.int) none (some 63)).length <= 63 := by
    rw [cut_take _ _ (by decide), List.length_take]; omega
   refine while_by (fun σ H' => ∃ (row : List Int) (b : Int) (c l t : Option V), σ = [some (.ref a), some (.int n), some (.ref r), some (.int b), c, l, t] /\ Has H' ((r, .lst (row.map V.int)) :: L) /\ row.length <= 4000 /\ Dr row /\ 0 <= b /\ b < 2147483647)
    (fun σ H' => match H' r with | some (.lst xs) => n.toNat - xs.length | _ => 0) ⟨row, b, c, l, t, rfl, h3.swap2.tail, by omega, hd, b0, b1⟩ ?_ ?_
   ·rintro σ H' ⟨row, b, c, l, t, rfl, h4, hlen, hd, b0, b1⟩
    refine ⟨_, rfl, r, _, rfl, .inl (SqL.of (h4.get 0 rfl)), _, rfl, _, _, rfl, rfl, _, rfl, ?_⟩
    rw [List.length_map]
    refine ite2 (fun hc => ?_) (fun hc => ?_)
    ·have hc' : (row.length : Int) < n := of_decide_eq_true hc
     refine ⟨_, rfl, _, _, rfl, rfl, .inl ⟨by omega, by omega⟩, _, _, rfl, rfl, _, _, rfl, rfl, (show (0 : Int) < 2147483647 by decide), ?_⟩
     have hb0 := Int.emod_nonneg (b * 69621 + 12289) (show (2147483647 : Int) ≠ 0 by decide)
     have hb1 := Int.emod_lt_of_pos (b * 69621 + 12289) (show (0 : Int) < 2147483647 by decide)
     refine ⟨_, rfl, .inl ⟨rfl, _, SqL.of (h4.get 0 rfl)⟩, _, rfl, _, rfl, _, _, rfl, rfl, .inl ⟨?_, ?_⟩, _, _, rfl, rfl, ⟨by decide, by decide⟩, _, _, rfl, rfl, (show (0 : Int) < 10007 by decide), r, _, _, rfl, rfl, h4.get 0 rfl, ?_, ?_⟩
     ·show -(2 ^ 64) < (b * 69621 + 12289) % 2147483647
      omega
     ·show (b * 69621 + 12289) % 2147483647 < 2 ^ 64
      omega
     ·rw [List.length_map]
      exact sizeOk (by omega)
     ·have hq0 := Int.emod_nonneg ((b * 69621 + 12289) % 2147483647 * ((b * 69621 + 12289) % 2147483647) / 4099) (show (10007 : Int) ≠ 0 by decide)
      have hq1 := Int.emod_lt_of_pos ((b * 69621 + 12289) % 2147483647 * ((b * 69621 + 12289) % 2147483647) / 4099) (show (0 : Int) < 10007 by decide)
      refine ⟨⟨row ++ [(b * 69621 + 12289) % 2147483647 * ((b * 69621 + 12289) % 2147483647) / 4099 % 10007], _, _, _, _, rfl, ?_, ?_, hd.snoc hq0 (Int.lt_trans hq1 (by decide)), hb0, hb1⟩, ?_⟩
      ·rw [<- map_snoc]
       exact h4.puti 0 rfl _
      ·rw [List.length_append, List.length_singleton]; omega
      ·have e1 : H' r = some (.lst (row.map V.int)) := h4.get 0 rfl
       simp only [e1, upd_same, List.length_append, List.length_map, List.length_singleton]
       omega
    ·have hc' : ¬ (row.length : Int) < n := fun z => hc (decide_eq_true z)
     refine ⟨_, rfl, _, rfl, _, rfl, r, _, rfl, SqL.of (h4.get 0 rfl), fun p hp => ?_⟩
     refine k _ p (row.take n.toNat) ?_ (by rw [List.length_take]; omega) (fun d hd' => hd d (List.mem_of_mem_take hd'))
     have h5 := (h4.tail).alloc hp (.lst (cutV (row.map V.int) none (some n)))
     rw [cut_take _ _ hn0, <- List.map_take] at h5 ⊢
     exact h5
   ·rintro σ H' Q1 Q2 hQ ⟨v, e, p, ys, e2, h, w', e3, i, j, e4, e5, c, e6, q⟩
    exact ⟨v, e, p, ys, e2, h, w', e3, i, j, e4, e5, c, e6, hQ _ _ q⟩
end
def sp_whole : Sp := fun vs H Q _ => ∃ i : Int, vs = [.int i] /\ Q (.bl true) H
def sp_is : Sp := fun vs H Q _ => ∃ i j : Int, vs = [.int i, .int j] /\ Q (.bl (decide (i = j))) H
theorem kit_ii (K : PySem.W.Frag) : PySem.W.kitOne K (.type "int") (.type "int") = some true := by kernel_rfl
theorem kit_ib (K : PySem.W.Frag) : PySem.W.kitOne K (.type "int") (.type "bool") = some false := by kernel_rfl
section
variable {P : Program} {w : World} {K : PySem.W.Frag} {mg : Str -> Option Value} {base : Heap} {t : Adr}
theorem scWh : FnScope ["_law_found"] ["_law_found"] (defScope s_whole) := ⟨rfl, rfl, rfl, by decide +kernel, rfl, by decide +kernel, by decide +kernel⟩
theorem ok_whole (T : Txt K mg t) : FnOk P w K mg base CX0 1 t.f_whole t.d_whole ["_law_found"] sp_whole := by
 refine T.F_whole.ok scWh (fun vs H Q E h => ?_) (fun cdv A outer s H vs Q E hr h => ?_)
 ·obtain ⟨_, rfl, _⟩ := h
  rfl
 ·obtain ⟨i, rfl, k⟩ := h
  refine ⟨_, (pss_one (ps_ret (pe_and (pe_callB call_isi (by rfl) T.z_isinstance (by rfl) (pa_cons (pv 0) (pa_cons (pe_bltn (v := .ty "int") (by rfl) T.z_int (by rfl) rfl) pa_nil))) (pe_one (pe_not (pe_callB call_isi (by rfl) T.z_isinstance (by rfl) (pa_cons (pv 0) (pa_cons (pe_bltn (v := .ty "bool") (by rfl) T.z_bool (by rfl) rfl) pa_nil)))))))), ?_⟩
  refine ⟨_, rfl, _, _, _, _, rfl, .int i, kit_ii K, _, rfl, iteT ?_⟩
  exact ⟨_, rfl, _, _, _, _, rfl, .int i, kit_ib K, _, rfl, k⟩
theorem scIs : FnScope ["_law_found", "_law_due"] ["_law_found", "_law_due"] (defScope s_is) := ⟨rfl, rfl, rfl, by decide +kernel, rfl, by decide +kernel, by decide +kernel⟩
theorem ok_is (T : Txt K mg t) : FnOk P w K mg base CX0 2 t.f_is t.d_is ["_law_found", "_law_due"] sp_is := by
 refine T.F_is.ok scIs (fun vs H Q E h => ?_) (fun cdv A outer s H vs Q E hr h => ?_)
 ·obtain ⟨_, _, rfl, _⟩ := h
  rfl
 ·obtain ⟨i, j, rfl, k⟩ := h
  refine ⟨_, (pss_one (ps_ret (pe_and (pe_call (ok_whole T) (hr.mono (by decide)) (by rfl) T.m_whole T.F_whole.kp (b_whole T) .nil pass0 (pa_cons (pv 0) pa_nil)) (pe_one (pe_cmpR op_eq (pv 0) (pv 1) (nomark _)))))), ?_⟩
  refine ⟨_, rfl, i, rfl, _, rfl, iteT ?_⟩
  refine ⟨_, rfl, _, rfl, rfl, ?_⟩
  have e : decide (V.int i = V.int j) = decide (i = j) := by by_cases h : i = j <;> simp [h]
  rw [e]
  exact k
end
inductive Kd where | line | bell | still | lazy | turning | stop
 deriving DecidableEq
def Kd.str : Kd -> Str
 | .line => "line" | .bell => "bell" | .still => "still" | .lazy => "lazy" | .turning => "turning" | .stop => "stop"
def Kd.many : Kd -> Int
 | .line => 2 | .bell => 2 | .still => 3 | .lazy => 3 | .turning => 3 | .stop => 1
def Kd.point : Kd -> Bool
 | .still => true | .lazy => true | .turning => true | _ => false
def endsD : List (Str × PyData) := [("line", .int 2), ("bell", .int 2), ("stop", .int 1), ("still", .int 3), ("lazy", .int 3), ("turning", .int 3)]
theorem Kd.inEnds (k : Kd) : (endsD.any fun p => decide (k.str = p.1)) = true := by cases k <;> decide +kernel
theorem Kd.atEnds (k : Kd) : endsD.lookup k.str = some (.int k.many) := by cases k <;> rfl
theorem endsD_int : (endsD.all fun p => match p.2 with | .int _ => true | _ => false) = true := by decide +kernel
theorem Kd.inPoints (k : Kd) : inV (.str k.str) [.str "still", .str "lazy", .str "turning"] = k.point := by cases k <;> decide +kernel
theorem Kd.isStop (k : Kd) : decide (V.str k.str = V.str "stop") = decide (k = .stop) := by cases k <;> decide +kernel
theorem Kd.isTurning (k : Kd) : decide (V.str k.str = V.str "turning") = decide (k = .turning) := by cases k <;> decide +kernel
theorem Kd.isLazy (k : Kd) : decide (V.str k.str = V.str "lazy") = decide (k = .lazy) := by cases k <;> decide +kernel
theorem Kd.isBell (k : Kd) : decide (V.str k.str = V.str "bell") = decide (k = .bell) := by cases k <;> decide +kernel
theorem Kd.isLine (k : Kd) : decide (V.str k.str = V.str "line") = decide (k = .line) := by cases k <;> decide +kernel
def Kd.out (k : Kd) (e s : Int) : V := if k = .stop then .non else if k.point then (if e = 0 then .int s else .int 0) else .int (1 - e)
def Kd.side (k : Kd) (e s : Int) : Int := if k.point then (if e = 0 then (if k = .turning then 3 - s else s) else (if k = .lazy then e else s)) else s
def sp_J01 : Sp := fun vs H Q _ => ∃ k : Kd, vs = [.str k.str] /\ Q (.int k.many) H
def sp_Ju : Sp := fun vs H Q _ => ∃ k : Kd, vs = [.str k.str] /\ Q (.bl k.point) H
def sp_Jl : Sp := fun vs H Q _ => ∃ (k : Kd) (e : Int), vs = [.str k.str, .int e] /\ 0 <= e /\ e < k.many /\ Q .non H
def sp_Jd : Sp := fun vs H Q _ => ∃ s : Int, vs = [.int s] /\ (s = 1 ∨ s = 2) /\ Q .non H
def sp_Jz : Sp := fun vs H Q _ => ∃ (k : Kd) (e s : Int) (v : V), vs = [.str k.str, .int e, v] /\ 0 <= e /\ e < k.many /\ (k.point = true -> v = .int s /\ (s = 1 ∨ s = 2)) /\ ∀ p, H p = none -> Q (.ref p) (upd H p (.tup [k.out e s, if k.point then .int (k.side e s) else v]))
def sp_J7 : Sp := fun vs H Q _ => ∃ (k : Kd) (e s : Int), vs = [.str k.str, .int e, .int s] /\ k.point = true /\ ∀ p, H p = none -> Q (.ref p) (upd H p (.tup [k.out e s, .int (k.side e s)]))
section
variable {P : Program} {w : World} {K : PySem.W.Frag} {mg : Str -> Option Value} {base : Heap} {t : Adr}
theorem decInt (i j : Int) : decide (V.int i = V.int j) = decide (i = j) := by by_cases h : i = j <;> simp [h]
theorem scEo : FnScope ["kind"] ["kind"] (defScope s_J01) := ⟨rfl, rfl, rfl, by decide +kernel, rfl, by decide +kernel, by decide +kernel⟩
theorem ok_J01 (T : Txt K mg t) : FnOk P w K mg base CX0 1 t.f_J01 t.d_J01 ["kind"] sp_J01 := by
 refine T.F_J01.ok scEo (fun vs H Q E h => ?_) (fun cdv A outer s H vs Q E hr h => ?_)
 ·obtain ⟨_, rfl, _⟩ := h
  rfl
 ·obtain ⟨k, rfl, q⟩ := h
  obtain ⟨aE, eE, hE⟩ := T.x_ENDS
  have T_r_ENDS : RelV (.ref aE) t.u_ENDS := by rw [eE]; rfl
  refine ⟨_, (pss_cons (ps_if (pt_cmpR op_notInK (pv 0) (pe_glob (by rfl) T.g_ENDS T_r_ENDS) (by rfl))
    (pss_one ps_never)
    pss_nil)
   (pss_one (ps_ret (pe_ix ix_K (pe_glob (by rfl) T.g_ENDS T_r_ENDS) (pv 0) (fun _ _ => rfl))))), ?_⟩
  refine ⟨_, rfl, _, aE, endsD, rfl, rfl, hE, _, rfl, ?_⟩
  rw [k.inEnds]
  exact ⟨_, rfl, _, aE, endsD, _, rfl, rfl, hE, k.atEnds, endsD_int, q⟩
theorem scIp : FnScope ["kind"] ["kind"] (defScope s_Ju) := ⟨rfl, rfl, rfl, by decide +kernel, rfl, by decide +kernel, by decide +kernel⟩
theorem ok_Ju (T : Txt K mg t) : FnOk P w K mg base CX0 1 t.f_Ju t.d_Ju ["kind"] sp_Ju := by
 refine T.F_Ju.ok scIp (fun vs H Q E h => ?_) (fun cdv A outer s H vs Q E hr h => ?_)
 ·obtain ⟨_, rfl, _⟩ := h
  rfl
 ·obtain ⟨k, rfl, q⟩ := h
  obtain ⟨aE, eE, hE⟩ := T.x_ENDS
  have T_r_ENDS : RelV (.ref aE) t.u_ENDS := by rw [eE]; rfl
  obtain ⟨aP, oP, its, n, eP, h1, h2, h3, h4, h5⟩ := T.x_POINTS
  have T_r_POINTS : RelV (.ref aP) t.u_POINTS := by rw [eP]; rfl
  refine ⟨_, (pss_cons (ps_if (pt_cmpR op_notInK (pv 0) (pe_glob (by rfl) T.g_ENDS T_r_ENDS) (by rfl))
    (pss_one ps_never)
    pss_nil)
   (pss_one (ps_ret (pe_cmpR op_in_seq (pv 0) (pe_glob (by rfl) T.g_POINTS T_r_POINTS) (by rfl))))), ?_⟩
  refine ⟨_, rfl, _, aE, endsD, rfl, rfl, hE, _, rfl, ?_⟩
  rw [k.inEnds]
  refine ⟨_, rfl, aP, _, rfl, .inr (.inr ⟨oP, its, n, h1, h2, h3, h4, h5⟩), rfl, by decide, ?_⟩
  rw [if_neg Bool.false_ne_true, k.inPoints]
  exact q
theorem scCe : FnScope ["kind", "end", "many"] ["kind", "end"] (defScope s_Jl) := ⟨rfl, rfl, rfl, by decide +kernel, rfl, by decide +kernel, by decide +kernel⟩
theorem ok_Jl (T : Txt K mg t) : FnOk P w K mg base CX0 2 t.f_Jl t.d_Jl ["kind", "end"] sp_Jl := by
 refine T.F_Jl.ok scCe (fun vs H Q E h => ?_) (fun cdv A outer s H vs Q E hr h => ?_)
 ·obtain ⟨_, _, rfl, _⟩ := h
  rfl
 ·obtain ⟨k, e, rfl, e0, e1, q⟩ := h
  refine ⟨_, (pss_cons (ps_set (i := 2) scCe.nd rfl (Or.inl rfl) (pe_call (ok_J01 T) (hr.mono (by decide)) (by rfl) T.m_J01 T.F_J01.kp (b_J01 T) .nil pass0 (pa_cons (pv 0) pa_nil)))
   (pss_one (ps_if (PW.pt (pw_or (pt_cmpR op_lt (pv 1) pe_int (nomark _)) (pw_or1 (pt_cmpR op_ge (pv 1) (pv 2) (nomark _)))))
    (pss_one ps_never)
    pss_nil))), ?_⟩
  refine ⟨_, rfl, k, rfl, ?_⟩
  refine ⟨_, rfl, _, _, rfl, rfl, _, rfl, ?_⟩
  refine ifF (decide_eq_false (by omega)) ?_
  refine ⟨_, rfl, _, rfl, _, _, rfl, rfl, _, rfl, ?_⟩
  exact ifF (decide_eq_false (by omega)) q
theorem scCs : FnScope ["side"] ["side"] (defScope s_Jd) := ⟨rfl, rfl, rfl, by decide +kernel, rfl, by decide +kernel, by decide +kernel⟩
theorem ok_Jd (T : Txt K mg t) : FnOk P w K mg base CX0 1 t.f_Jd t.d_Jd ["side"] sp_Jd := by
 refine T.F_Jd.ok scCs (fun vs H Q E h => ?_) (fun cdv A outer s H vs Q E hr h => ?_)
 ·obtain ⟨_, rfl, _⟩ := h
  rfl
 ·obtain ⟨z, rfl, hz, q⟩ := h
  refine ⟨_, (pss_one (ps_if (PW.pt (pw_and (pt_cmpR op_ne (pv 0) pe_int (nomark _)) (pw_and1 (pt_cmpR op_ne (pv 0) pe_int (nomark _)))))
    (pss_one ps_never)
    pss_nil)), ?_⟩
  refine ⟨_, rfl, rfl, _, rfl, ?_⟩
  rw [decInt]
  refine ifdn (fun hc => ?_) (fun hc => iteF q)
  refine ⟨_, rfl, rfl, _, rfl, ?_⟩
  rw [decInt]
  exact ifF (by simp; omega) q
theorem scPp : FnScope ["kind", "end", "side"] ["kind", "end", "side"] (defScope s_J7) := ⟨rfl, rfl, rfl, by decide +kernel, rfl, by decide +kernel, by decide +kernel⟩
theorem ok_J7 (T : Txt K mg t) : FnOk P w K mg base CX0 1 t.f_J7 t.d_J7 ["kind", "end", "side"] sp_J7 := by
 refine T.F_J7.ok scPp (fun vs H Q E h => ?_) (fun cdv A outer s H vs Q E hr h => ?_)
 ·obtain ⟨_, _, _, rfl, _⟩ := h
  rfl
 ·obtain ⟨k, e, z, rfl, hk, q⟩ := h
  have ns : ¬ k = .stop := fun h => by rw [h] at hk; cases hk
  refine ⟨_, (pss_cons (ps_if (pt_cmpR op_eq (pv 1) (pe_glob (by rfl) T.g_STEM T.r_STEM) (nomark _))
    (pss_one (ps_ret (pe_tup (pa_cons (pv 2) (pa_cons (pe_ifExp (pt_cmpR op_eq (pv 0) pe_str (nomark _)) (pe_op op_sub pe_int (pv 2)) (pv 2)) pa_nil)))))
    pss_nil)
   (pss_one (ps_ret (pe_tup (pa_cons (pe_glob (by rfl) T.g_STEM T.r_STEM) (pa_cons (pe_ifExp (pt_cmpR op_eq (pv 0) pe_str (nomark _)) (pv 1) (pv 2)) pa_nil)))))), ?_⟩
  refine ⟨_, rfl, rfl, _, rfl, ?_⟩
  rw [decInt]
  refine ite2 (fun hc => ?_) (fun hc => ?_)
  ·have he : e = 0 := of_decide_eq_true hc
   refine ⟨_, rfl, _, rfl, rfl, _, rfl, ?_⟩
   rw [k.isTurning]
   have o1 : k.out e z = .int z := by unfold Kd.out; rw [if_neg ns, if_pos hk, if_pos he]
   have o2 : k.side e z = if k = .turning then 3 - z else z := by unfold Kd.side; rw [if_pos hk, if_pos he]
   rw [o1, o2] at q
   refine ite2 (fun hc => ?_) (fun hc => ?_)
   ·rw [if_pos (of_decide_eq_true hc)] at q
    exact ⟨_, rfl, _, _, rfl, rfl, (show 2 <= sizeLine by decide), fun p hp => q p hp⟩
   ·rw [if_neg (fun h => hc (decide_eq_true h))] at q
    exact ⟨_, rfl, (show 2 <= sizeLine by decide), fun p hp => q p hp⟩
  ·have he : ¬ e = 0 := fun h => hc (decide_eq_true h)
   refine ⟨_, rfl, rfl, _, rfl, ?_⟩
   rw [k.isLazy]
   have o1 : k.out e z = .int 0 := by unfold Kd.out; rw [if_neg ns, if_pos hk, if_neg he]
   have o2 : k.side e z = if k = .lazy then e else z := by unfold Kd.side; rw [if_pos hk, if_neg he]
   rw [o1, o2] at q
   refine ite2 (fun hc => ?_) (fun hc => ?_)
   ·rw [if_pos (of_decide_eq_true hc)] at q
    exact ⟨_, rfl, (show 2 <= sizeLine by decide), fun p hp => q p hp⟩
   ·rw [if_neg (fun h => hc (decide_eq_true h))] at q
    exact ⟨_, rfl, (show 2 <= sizeLine by decide), fun p hp => q p hp⟩
theorem scPa : FnScope ["kind", "end", "side"] ["kind", "end", "side"] (defScope s_Jz) := ⟨rfl, rfl, rfl, by decide +kernel, rfl, by decide +kernel, by decide +kernel⟩
theorem ok_Jz (T : Txt K mg t) : FnOk P w K mg base CX0 3 t.f_Jz t.d_Jz ["kind", "end", "side"] sp_Jz := by
 refine T.F_Jz.ok scPa (fun vs H Q E h => ?_) (fun cdv A outer s H vs Q E hr h => ?_)
 ·obtain ⟨_, _, _, _, rfl, _⟩ := h
  rfl
 ·obtain ⟨k, e, z, v, rfl, e0, e1, hs, q⟩ := h
  refine ⟨_, (pss_cons (ps_expr (pe_call (ok_Jl T) (hr.mono (by decide)) (by rfl) T.m_Jl T.F_Jl.kp (b_Jl T) .nil pass0 (pa_cons (pv 0) (pa_cons (pv 1) pa_nil))))
   (pss_cons (ps_if (pt_val (pe_call (ok_Ju T) (hr.mono (by decide)) (by rfl) T.m_Ju T.F_Ju.kp (b_Ju T) .nil pass0 (pa_cons (pv 0) pa_nil)))
    (pss_cons (ps_expr (pe_call (ok_Jd T) (hr.mono (by decide)) (by rfl) T.m_Jd T.F_Jd.kp (b_Jd T) .nil pass0 (pa_cons (pv 2) pa_nil)))
     (pss_one (ps_ret (pe_call (ok_J7 T) (hr.mono (by decide)) (by rfl) T.m_J7 T.F_J7.kp (b_J7 T) .nil pass0 (pa_cons (pv 0) (pa_cons (pv 1) (pa_cons (pv 2) pa_nil)))))))
    pss_nil)
   (pss_cons (ps_if (pt_cmpR op_eq (pv 0) pe_str (nomark _))
    (pss_one (ps_ret (pe_tup (pa_cons pe_non (pa_cons (pv 2) pa_nil)))))
    pss_nil)
   (pss_one (ps_ret (pe_tup (pa_cons (pe_op op_sub pe_int (pv 1)) (pa_cons (pv 2) pa_nil)))))))), ?_⟩
  refine ⟨_, rfl, _, rfl, k, e, rfl, e0, e1, ?_⟩
  refine ⟨_, rfl, k, rfl, _, rfl, ?_⟩
  refine ite2 (fun hc => ?_) (fun hc => ?_)
  ·obtain ⟨rfl, hz⟩ := hs hc
   rw [if_pos hc] at q
   exact ⟨_, rfl, z, rfl, hz, _, rfl, _, rfl, _, rfl, k, e, z, rfl, hc, q⟩
  ·rw [if_neg hc] at q
   refine ⟨_, rfl, rfl, _, rfl, ?_⟩
   rw [k.isStop]
   refine ite2 (fun hc2 => ?_) (fun hc2 => ?_)
   ·have hk : k = .stop := of_decide_eq_true hc2
    subst hk
    exact ⟨_, rfl, (show 2 <= sizeLine by decide), fun p hp => q p hp⟩
   ·have hk : ¬ k = .stop := fun h => hc2 (decide_eq_true h)
    have o1 : k.out e z = .int (1 - e) := by unfold Kd.out; rw [if_neg hk, if_neg hc]
    rw [o1] at q
    exact ⟨_, rfl, _, _, rfl, rfl, _, rfl, (show 2 <= sizeLine by decide), fun p hp => q p hp⟩
end
def sp_many : Sp := fun vs H Q _ => ∃ k : Kd, vs = [.str k.str] /\ Q (.int k.many) H
section
variable {P : Program} {w : World} {K : PySem.W.Frag} {mg : Str -> Option Value} {base : Heap} {t : Adr}
theorem scMa : FnScope ["_law_kind_here"] ["_law_kind_here"] (defScope s_many) := ⟨rfl, rfl, rfl, by decide +kernel, rfl, by decide +kernel, by decide +kernel⟩
theorem ok_many (T : Txt K mg t) : FnOk P w K mg base CX0 1 t.f_many t.d_many ["_law_kind_here"] sp_many := by
 refine T.F_many.ok scMa (fun vs H Q E h => ?_) (fun cdv A outer s H vs Q E hr h => ?_)
 ·obtain ⟨_, rfl, _⟩ := h
  rfl
 ·obtain ⟨k, rfl, q⟩ := h
  refine ⟨_, (pss_cons (ps_if (pt_cmpR op_eq (pv 0) pe_str (nomark _))
    (pss_one (ps_ret pe_int))
    pss_nil)
   (pss_cons (ps_if (PW.pt (pw_or (pt_cmpR op_eq (pv 0) pe_str (nomark _)) (pw_or1 (pt_cmpR op_eq (pv 0) pe_str (nomark _)))))
    (pss_one (ps_ret pe_int))
    pss_nil)
   (pss_one (ps_ret pe_int)))), ?_⟩
  refine ⟨_, rfl, rfl, _, rfl, ?_⟩
  rw [k.isStop]
  refine ifd (fun h => ?_) (fun h1 => ?_)
  ·subst h; exact q
  refine ⟨_, rfl, rfl, _, rfl, ?_⟩
  rw [k.isLine]
  refine ifd (fun h => ?_) (fun h2 => ?_)
  ·subst h; exact iteT q
  refine ⟨_, rfl, rfl, _, rfl, ?_⟩
  rw [k.isBell]
  refine ifd (fun h => ?_) (fun h3 => ?_)
  ·subst h; exact q
  have e : k.many = 3 := by cases k <;> first | rfl | contradiction
  rw [e] at q
  exact q
end
theorem Kd.out_int {k : Kd} (h : ¬ k = .stop) (e s : Int) : ∃ i, k.out e s = .int i := by
 unfold Kd.out; rw [if_neg h]
 split
 ·split
  ·exact ⟨_, rfl⟩
  ·exact ⟨_, rfl⟩
 ·exact ⟨_, rfl⟩
theorem Kd.many_point {k : Kd} (h : k.point = true) : k.many = 3 := by cases k <;> first | rfl | cases h
theorem Kd.side12 {k : Kd} {e s : Int} (e0 : 0 <= e) (e1 : e < k.many) (h : s = 1 ∨ s = 2) : k.side e s = 1 ∨ k.side e s = 2 := by
 unfold Kd.side
 split
 ·rename_i hp
  have := Kd.many_point hp
  split
  ·split <;> omega
  ·split <;> omega
 ·exact h
structure YA where
 p : Addr
 dx : Addr
 tr : Addr
 k : Addr
 n : Addr
 r : Addr
 s : Addr
 m : Addr
 g : Addr
structure YR where
 next : Int
 kinds : List (Key × V)
 notes : List (Key × V)
 rods : List (Key × V)
 sides : List V
 mates : List (List Key × V)
 eng : V
 rung : List V
 trail : List V
def fl (A : YA) (next : Int) (eng : V) : List (Str × V) :=
 [("next_piece", .int next), ("kinds", .ref A.k), ("notes", .ref A.n), ("rods_under", .ref A.r), ("sides", .ref A.s), ("mates", .ref A.m), ("engine_end", eng), ("rung", .ref A.g), ("trail", .ref A.tr)]
def yL (C : Addr) (A : YA) (y : YR) : Kn :=
 [(A.tr, .lst y.trail), (A.p, .ins C A.dx (fl A y.next y.eng)), (A.dx, .own A.p), (A.k, .dK y.kinds), (A.n, .dK y.notes), (A.r, .dK y.rods), (A.s, .lst y.sides), (A.m, .dT y.mates), (A.g, .lst y.rung)]
def y0 : YR := ⟨0, [], [], [], [], [], .non, [], []⟩
section
variable (A : YA) (next : Int) (eng : V)
theorem fl_next : (fl A next eng).lookup ("next_piece" : Str) = some (.int next) := by kernel_rfl
theorem fl_kinds : (fl A next eng).lookup ("kinds" : Str) = some (.ref A.k) := by kernel_rfl
theorem fl_notes : (fl A next eng).lookup ("notes" : Str) = some (.ref A.n) := by kernel_rfl
theorem fl_rods : (fl A next eng).lookup ("rods_under" : Str) = some (.ref A.r) := by kernel_rfl
theorem fl_sides : (fl A next eng).lookup ("sides" : Str) = some (.ref A.s) := by kernel_rfl
theorem fl_mates : (fl A next eng).lookup ("mates" : Str) = some (.ref A.m) := by kernel_rfl
theorem fl_eng : (fl A next eng).lookup ("engine_end" : Str) = some eng := by kernel_rfl
theorem fl_rung : (fl A next eng).lookup ("rung" : Str) = some (.ref A.g) := by kernel_rfl
theorem fl_trail : (fl A next eng).lookup ("trail" : Str) = some (.ref A.tr) := by kernel_rfl
theorem fl_put_trail (q : Addr) : putF "trail" (.ref q) (fl A next eng) = fl { A with tr := q } next eng := by kernel_rfl
theorem fl_put_next (n' : Int) : putF "next_piece" (.int n') (fl A next eng) = fl A n' eng := by kernel_rfl
theorem fl_put_eng (e' : V) : putF "engine_end" e' (fl A next eng) = fl A next e' := by kernel_rfl
end
theorem fl_m (A : YA) (next : Int) (eng : V) : (fl A next eng).lookup ("lay" : Str) = none /\ (fl A next eng).lookup ("new_rod" : Str) = none /\ (fl A next eng).lookup ("throw" : Str) = none /\ (fl A next eng).lookup ("rods" : Str) = none /\ (fl A next eng).lookup ("rod" : Str) = none /\
  (fl A next eng).lookup ("side" : Str) = none /\ (fl A next eng).lookup ("end_trail" : Str) = none /\ (fl A next eng).lookup ("check_piece" : Str) = none /\ (fl A next eng).lookup ("check_rod" : Str) = none :=
 ⟨by kernel_rfl, by kernel_rfl, by kernel_rfl, by kernel_rfl, by kernel_rfl, by kernel_rfl, by kernel_rfl, by kernel_rfl, by kernel_rfl⟩
def sp_init (C : Addr) : Sp := fun vs H Q _ => ∃ (p dx : Addr) (L : Kn), vs = [.ref p] /\ Has H ((p, .ins C dx []) :: (dx, .own p) :: L) /\ ∀ H' A, A.p = p -> Has H' (yL C A y0 ++ L) -> Q .non H'
def sp_end_trail (C : Addr) : Sp := fun vs H Q _ => ∃ (A : YA) (y : YR) (L : Kn), vs = [.ref A.p] /\ Has H (yL C A y ++ L) /\ ∀ H' q, Has H' (yL C { A with tr := q } { y with trail := [] } ++ L) -> Q .non H'
theorem init_perm {H : Hp} {C p dx a1 a2 a3 a4 a5 a7 a8 : Addr} {fs : List (Str × V)} {L : Kn} (h : Has H ((a8, .lst []) :: (a7, .lst []) :: (a5, .dT []) :: (a4, .lst []) :: (a3, .dK []) :: (a2, .dK []) :: (a1, .dK []) :: (p, .ins C dx fs) :: (dx, .own p) :: L)) :
  Has H ([(a8, .lst []), (p, .ins C dx fs), (dx, .own p), (a1, .dK []), (a2, .dK []), (a3, .dK []), (a4, .lst []), (a5, .dT []), (a7, .lst [])] ++ L) := by
 refine h.perm ?_
 refine .cons _ ?_
 show List.Perm ([(a7, HO.lst []), (a5, .dT []), (a4, .lst []), (a3, .dK []), (a2, .dK []), (a1, .dK []), (p, .ins C dx fs), (dx, .own p)] ++ L) ([(p, .ins C dx fs), (dx, .own p), (a1, .dK []), (a2, .dK []), (a3, .dK []), (a4, .lst []), (a5, .dT []), (a7, .lst [])] ++ L)
 refine List.Perm.append_right L ?_
 have e : [(a7, HO.lst []), (a5, .dT []), (a4, .lst []), (a3, .dK []), (a2, .dK []), (a1, .dK []), (p, .ins C dx fs), (dx, .own p)] = [(a7, HO.lst []), (a5, .dT []), (a4, .lst []), (a3, .dK []), (a2, .dK []), (a1, .dK [])] ++ [(p, .ins C dx fs), (dx, .own p)] := rfl
 rw [e]
 refine List.perm_append_comm.trans ?_
 refine .cons _ (.cons _ ?_)
 exact List.reverse_perm [(a1, HO.dK []), (a2, .dK []), (a3, .dK []), (a4, .lst []), (a5, .dT []), (a7, .lst [])]
section
variable {P : Program} {w : World} {K : PySem.W.Frag} {mg : Str -> Option Value} {base : Heap} {t : Adr}
theorem scYi : FnScope ["self"] ["self"] (defScope s_Jm) := ⟨rfl, rfl, rfl, by decide +kernel, rfl, by decide +kernel, by decide +kernel⟩
theorem ok_Jm (T : Txt K mg t) : FnOk P w K mg base CX0 1 t.f_Jm t.d_Jm ["self"] (sp_init t.c_Yard) := by
 refine T.F_Jm.ok scYi (fun vs H Q E h => ?_) (fun cdv A outer s H vs Q E hr h => ?_)
 ·obtain ⟨_, _, _, rfl, _⟩ := h
  rfl
 ·obtain ⟨p, dx, L, rfl, hH, q⟩ := h
  refine ⟨_, (pss_cons (ps_fld (pv 0) pe_int rfl)
   (pss_cons (ps_fld (pv 0) pe_dnewK rfl)
   (pss_cons (ps_fld (pv 0) pe_dnewK rfl)
   (pss_cons (ps_fld (pv 0) pe_dnewK rfl)
   (pss_cons (ps_fld (pv 0) (pe_lst pa_nil) rfl)
   (pss_cons (ps_fld (pv 0) pe_dnewT rfl)
   (pss_cons (ps_fld (pv 0) pe_non rfl)
   (pss_cons (ps_fld (pv 0) (pe_lst pa_nil) rfl)
   (pss_one (ps_fld (pv 0) (pe_lst pa_nil) rfl)))))))))), ?_⟩
  refine ⟨_, rfl, p, _, dx, _, rfl, hH.get 0 rfl, T.cl_Yard, T.n_Yard_next_piece, (show 0 < 1000 by decide), ?_⟩
  have h1 := hH.puti 0 rfl (.ins t.c_Yard dx (putF ("next_piece" : Str) (V.int 0) ([] : List (Str × V))))
  rw [show putF ("next_piece" : Str) (V.int 0) ([] : List (Str × V)) = ([(("next_piece" : Str), V.int 0)] : List (Str × V)) from by kernel_rfl] at h1 ⊢
  generalize upd H p _ = H1 at h1 ⊢
  intro a1 n1
  refine ⟨_, rfl, p, _, dx, _, rfl, (h1.alloc n1 (.dK [])).get 1 rfl, T.cl_Yard, T.n_Yard_kinds, (show 1 < 1000 by decide), ?_⟩
  have h2 := (h1.alloc n1 (.dK [])).puti 1 rfl (.ins t.c_Yard dx (putF ("kinds" : Str) (V.ref a1) ([(("next_piece" : Str), V.int 0)] : List (Str × V))))
  rw [show putF ("kinds" : Str) (V.ref a1) ([(("next_piece" : Str), V.int 0)] : List (Str × V)) = ([(("next_piece" : Str), V.int 0), (("kinds" : Str), V.ref a1)] : List (Str × V)) from by kernel_rfl] at h2 ⊢
  generalize upd (upd H1 a1 _) p _ = H2 at h2 ⊢
  intro a2 n2
  refine ⟨_, rfl, p, _, dx, _, rfl, (h2.alloc n2 (.dK [])).get 2 rfl, T.cl_Yard, T.n_Yard_notes, (show 2 < 1000 by decide), ?_⟩
  have h3 := (h2.alloc n2 (.dK [])).puti 2 rfl (.ins t.c_Yard dx (putF ("notes" : Str) (V.ref a2) ([(("next_piece" : Str), V.int 0), (("kinds" : Str), V.ref a1)] : List (Str × V))))
  rw [show putF ("notes" : Str) (V.ref a2) ([(("next_piece" : Str), V.int 0), (("kinds" : Str), V.ref a1)] : List (Str × V)) = ([(("next_piece" : Str), V.int 0), (("kinds" : Str), V.ref a1), (("notes" : Str), V.ref a2)] : List (Str × V)) from by kernel_rfl] at h3 ⊢
  generalize upd (upd H2 a2 _) p _ = H3 at h3 ⊢
  intro a3 n3
  refine ⟨_, rfl, p, _, dx, _, rfl, (h3.alloc n3 (.dK [])).get 3 rfl, T.cl_Yard, T.n_Jr_under, (show 3 < 1000 by decide), ?_⟩
  have h4 := (h3.alloc n3 (.dK [])).puti 3 rfl (.ins t.c_Yard dx (putF ("rods_under" : Str) (V.ref a3) ([(("next_piece" : Str), V.int 0), (("kinds" : Str), V.ref a1), (("notes" : Str), V.ref a2)] : List (Str × V))))
  rw [show putF ("rods_under" : Str) (V.ref a3) ([(("next_piece" : Str), V.int 0), (("kinds" : Str), V.ref a1), (("notes" : Str), V.ref a2)] : List (Str × V)) = ([(("next_piece" : Str), V.int 0), (("kinds" : Str), V.ref a1), (("notes" : Str), V.ref a2), (("rods_under" : Str), V.ref a3)] : List (Str × V)) from by kernel_rfl] at h4 ⊢
  generalize upd (upd H3 a3 _) p _ = H4 at h4 ⊢
  refine ⟨by decide, fun a4 n4 => ?_⟩
  refine ⟨_, rfl, p, _, dx, _, rfl, (h4.alloc n4 (.lst [])).get 4 rfl, T.cl_Yard, T.n_Yard_sides, (show 4 < 1000 by decide), ?_⟩
  have h5 := (h4.alloc n4 (.lst [])).puti 4 rfl (.ins t.c_Yard dx (putF ("sides" : Str) (V.ref a4) ([(("next_piece" : Str), V.int 0), (("kinds" : Str), V.ref a1), (("notes" : Str), V.ref a2), (("rods_under" : Str), V.ref a3)] : List (Str × V))))
  rw [show putF ("sides" : Str) (V.ref a4) ([(("next_piece" : Str), V.int 0), (("kinds" : Str), V.ref a1), (("notes" : Str), V.ref a2), (("rods_under" : Str), V.ref a3)] : List (Str × V)) = ([(("next_piece" : Str), V.int 0), (("kinds" : Str), V.ref a1), (("notes" : Str), V.ref a2), (("rods_under" : Str), V.ref a3), (("sides" : Str), V.ref a4)] : List (Str × V)) from by kernel_rfl] at h5 ⊢
  generalize upd (upd H4 a4 _) p _ = H5 at h5 ⊢
  intro a5 n5
  refine ⟨_, rfl, p, _, dx, _, rfl, (h5.alloc n5 (.dT [])).get 5 rfl, T.cl_Yard, T.n_Yard_mates, (show 5 < 1000 by decide), ?_⟩
  have h6 := (h5.alloc n5 (.dT [])).puti 5 rfl (.ins t.c_Yard dx (putF ("mates" : Str) (V.ref a5) ([(("next_piece" : Str), V.int 0), (("kinds" : Str), V.ref a1), (("notes" : Str), V.ref a2), (("rods_under" : Str), V.ref a3), (("sides" : Str), V.ref a4)] : List (Str × V))))
  rw [show putF ("mates" : Str) (V.ref a5) ([(("next_piece" : Str), V.int 0), (("kinds" : Str), V.ref a1), (("notes" : Str), V.ref a2), (("rods_under" : Str), V.ref a3), (("sides" : Str), V.ref a4)] : List (Str × V)) = ([(("next_piece" : Str), V.int 0), (("kinds" : Str), V.ref a1), (("notes" : Str), V.ref a2), (("rods_under" : Str), V.ref a3), (("sides" : Str), V.ref a4), (("mates" : Str), V.ref a5)] : List (Str × V)) from by kernel_rfl] at h6 ⊢
  generalize upd (upd H5 a5 _) p _ = H6 at h6 ⊢
  refine ⟨_, rfl, p, _, dx, _, rfl, h6.get 5 rfl, T.cl_Yard, T.n_Ja_end, (show 6 < 1000 by decide), ?_⟩
  have h7 := h6.puti 5 rfl (.ins t.c_Yard dx (putF ("engine_end" : Str) (V.non) ([(("next_piece" : Str), V.int 0), (("kinds" : Str), V.ref a1), (("notes" : Str), V.ref a2), (("rods_under" : Str), V.ref a3), (("sides" : Str), V.ref a4), (("mates" : Str), V.ref a5)] : List (Str × V))))
  rw [show putF ("engine_end" : Str) (V.non) ([(("next_piece" : Str), V.int 0), (("kinds" : Str), V.ref a1), (("notes" : Str), V.ref a2), (("rods_under" : Str), V.ref a3), (("sides" : Str), V.ref a4), (("mates" : Str), V.ref a5)] : List (Str × V)) = ([(("next_piece" : Str), V.int 0), (("kinds" : Str), V.ref a1), (("notes" : Str), V.ref a2), (("rods_under" : Str), V.ref a3), (("sides" : Str), V.ref a4), (("mates" : Str), V.ref a5), (("engine_end" : Str), V.non)] : List (Str × V)) from by kernel_rfl] at h7 ⊢
  generalize upd H6 p _ = H7 at h7 ⊢
  refine ⟨by decide, fun a7 n7 => ?_⟩
  refine ⟨_, rfl, p, _, dx, _, rfl, (h7.alloc n7 (.lst [])).get 6 rfl, T.cl_Yard, T.n_Yard_rung, (show 7 < 1000 by decide), ?_⟩
  have h8 := (h7.alloc n7 (.lst [])).puti 6 rfl (.ins t.c_Yard dx (putF ("rung" : Str) (V.ref a7) ([(("next_piece" : Str), V.int 0), (("kinds" : Str), V.ref a1), (("notes" : Str), V.ref a2), (("rods_under" : Str), V.ref a3), (("sides" : Str), V.ref a4), (("mates" : Str), V.ref a5), (("engine_end" : Str), V.non)] : List (Str × V))))
  rw [show putF ("rung" : Str) (V.ref a7) ([(("next_piece" : Str), V.int 0), (("kinds" : Str), V.ref a1), (("notes" : Str), V.ref a2), (("rods_under" : Str), V.ref a3), (("sides" : Str), V.ref a4), (("mates" : Str), V.ref a5), (("engine_end" : Str), V.non)] : List (Str × V)) = ([(("next_piece" : Str), V.int 0), (("kinds" : Str), V.ref a1), (("notes" : Str), V.ref a2), (("rods_under" : Str), V.ref a3), (("sides" : Str), V.ref a4), (("mates" : Str), V.ref a5), (("engine_end" : Str), V.non), (("rung" : Str), V.ref a7)] : List (Str × V)) from by kernel_rfl] at h8 ⊢
  generalize upd (upd H7 a7 _) p _ = H8 at h8 ⊢
  refine ⟨by decide, fun a8 n8 => ?_⟩
  refine ⟨_, rfl, p, _, dx, _, rfl, (h8.alloc n8 (.lst [])).get 7 rfl, T.cl_Yard, T.n_Yard_trail, (show 8 < 1000 by decide), ?_⟩
  refine q _ ⟨p, dx, a8, a1, a2, a3, a4, a5, a7⟩ rfl ?_
  have h9 := (h8.alloc n8 (.lst [])).puti 7 rfl (.ins t.c_Yard dx (putF ("trail" : Str) (V.ref a8) ([(("next_piece" : Str), V.int 0), (("kinds" : Str), V.ref a1), (("notes" : Str), V.ref a2), (("rods_under" : Str), V.ref a3), (("sides" : Str), V.ref a4), (("mates" : Str), V.ref a5), (("engine_end" : Str), V.non), (("rung" : Str), V.ref a7)] : List (Str × V))))
  rw [show putF ("trail" : Str) (V.ref a8) ([(("next_piece" : Str), V.int 0), (("kinds" : Str), V.ref a1), (("notes" : Str), V.ref a2), (("rods_under" : Str), V.ref a3), (("sides" : Str), V.ref a4), (("mates" : Str), V.ref a5), (("engine_end" : Str), V.non), (("rung" : Str), V.ref a7)] : List (Str × V)) = ([(("next_piece" : Str), V.int 0), (("kinds" : Str), V.ref a1), (("notes" : Str), V.ref a2), (("rods_under" : Str), V.ref a3), (("sides" : Str), V.ref a4), (("mates" : Str), V.ref a5), (("engine_end" : Str), V.non), (("rung" : Str), V.ref a7), (("trail" : Str), V.ref a8)] : List (Str × V)) from by kernel_rfl] at h9 ⊢
  exact init_perm h9
end
def layY (y : YR) (k : Kd) (note : Int) (rod : V) : YR :=
 { y with next := y.next + 1, kinds := putK y.kinds (Sum.inl y.next) (.str k.str), notes := if k = .bell then putK y.notes (Sum.inl y.next) (.int note) else y.notes, rods := if k.point then putK y.rods (Sum.inl y.next) (if rod = .non then .int y.sides.length else rod) else y.rods, sides := if k.point /\ rod = .non then y.sides ++ [.int 1] else y.sides, trail := [] }
structure Small (y : YR) : Prop where
 k : y.kinds.length <= 10000
 n : y.notes.length <= 10000
 r : y.rods.length <= 10000
 s : y.sides.length <= 10000
 m : y.mates.length <= 30000
 g : y.rung.length <= 300000
 t : y.trail.length <= 300000
def sp_check_piece (C : Addr) : Sp := fun vs H Q _ => ∃ (A : YA) (y : YR) (L : Kn) (n : Int) (v : V), vs = [.ref A.p, .int n] /\ Has H (yL C A y ++ L) /\ valV y.kinds (Sum.inl n) = some v /\ Q .non H
def sp_check_rod (C : Addr) : Sp := fun vs H Q _ => ∃ (A : YA) (y : YR) (L : Kn) (r : Int), vs = [.ref A.p, .int r] /\ Has H (yL C A y ++ L) /\ 0 <= r /\ r < y.sides.length /\ Q .non H
def sp_Jf : Sp := fun vs H Q _ => ∃ n : Int, vs = [.int n] /\ 0 <= n /\ n <= 9999 /\ Q .non H
def sp_new_rod (C : Addr) : Sp := fun vs H Q _ => ∃ (A : YA) (y : YR) (L : Kn) (s : Int), vs = [.ref A.p, .int s] /\ Has H (yL C A y ++ L) /\ (s = 1 ∨ s = 2) /\ y.sides.length <= 10000 /\
 ∀ H' q, Has H' (yL C { A with tr := q } { y with sides := y.sides ++ [.int s], trail := [] } ++ L) -> Q (.int y.sides.length) H'
def sp_rods (C : Addr) : Sp := fun vs H Q _ => ∃ (A : YA) (y : YR) (L : Kn), vs = [.ref A.p] /\ Has H (yL C A y ++ L) /\ Small y /\ ∀ H' l, Has H' ((l, .lst (intsV y.sides.length)) :: (yL C A y ++ L)) -> Q (.ref l) H'
def sp_side (C : Addr) : Sp := fun vs H Q _ => ∃ (A : YA) (y : YR) (L : Kn) (r : Int) (v : V), vs = [.ref A.p, .int r] /\ Has H (yL C A y ++ L) /\ 0 <= r /\ y.sides[r.toNat]? = some v /\ Q v H
def sp_rod (C : Addr) : Sp := fun vs H Q _ => ∃ (A : YA) (y : YR) (L : Kn) (n : Int) (u v : V), vs = [.ref A.p, .int n] /\ Has H (yL C A y ++ L) /\ valV y.kinds (Sum.inl n) = some u /\ valV y.rods (Sum.inl n) = some v /\ Q v H
def sp_lay (C : Addr) : Sp := fun vs H Q _ => ∃ (A : YA) (y : YR) (L : Kn) (k : Kd) (note : Int) (rod : V), vs = [.ref A.p, .str k.str, .int note, rod] /\ Has H (yL C A y ++ L) /\ Small y /\ (k = .bell -> 0 <= note /\ note <= 9999) /\
 (k.point = true -> rod ≠ .non -> ∃ r : Int, rod = .int r /\ 0 <= r /\ r < y.sides.length) /\ ∀ H' q, Has H' (yL C { A with tr := q } (layY y k note rod) ++ L) -> Q (.int y.next) H'
section
variable {P : Program} {w : World} {K : PySem.W.Frag} {mg : Str -> Option Value} {base : Heap} {t : Adr}
theorem scEt : FnScope ["self"] ["self"] (defScope s_J5) := ⟨rfl, rfl, rfl, by decide +kernel, rfl, by decide +kernel, by decide +kernel⟩
theorem ok_J5 (T : Txt K mg t) : FnOk P w K mg base CX0 1 t.f_J5 t.d_J5 ["self"] (sp_end_trail t.c_Yard) := by
 refine T.F_J5.ok scEt (fun vs H Q E h => ?_) (fun cdv A outer s H vs Q E hr h => ?_)
 ·obtain ⟨_, _, _, rfl, _⟩ := h
  rfl
 ·obtain ⟨A, y, L, rfl, hH, q⟩ := h
  refine ⟨_, (pss_one (ps_fld (pv 0) (pe_lst pa_nil) rfl)), ?_⟩
  refine ⟨by decide, fun a ha => ?_⟩
  have h1 := hH.alloc ha (.lst [])
  refine ⟨_, rfl, A.p, _, A.dx, _, rfl, h1.get 2 rfl, T.cl_Yard, T.n_Yard_trail, (show 9 < 1000 by decide), ?_⟩
  refine q _ a ?_
  rw [fl_put_trail]
  have h2 := (h1.puti 2 rfl (.ins t.c_Yard A.dx (fl { A with tr := a } y.next y.eng)))
  exact (h2.swap2).tail
theorem scCr : FnScope ["self", "rod"] ["self", "rod"] (defScope s_J6) := ⟨rfl, rfl, rfl, by decide +kernel, rfl, by decide +kernel, by decide +kernel⟩
theorem ok_J6 (T : Txt K mg t) : FnOk P w K mg base CX0 1 t.f_J6 t.d_J6 ["self", "rod"] (sp_check_rod t.c_Yard) := by
 refine T.F_J6.ok scCr (fun vs H Q E h => ?_) (fun cdv A outer s H vs Q E hr h => ?_)
 ·obtain ⟨_, _, _, _, rfl, _⟩ := h
  rfl
 ·obtain ⟨A, y, L, r, rfl, hH, r0, r1, q⟩ := h
  refine ⟨_, (pss_one (ps_if (PW.pt (pw_or (pt_cmpR op_lt (pv 1) pe_int (nomark _)) (pw_or1 (pt_cmpR op_ge (pv 1) (pe_callB call_len_seq (by rfl) T.z_len (by rfl) (pa_cons (pe_fld (pv 0) rfl) pa_nil)) (nomark _)))))
    (pss_one ps_never)
    pss_nil)), ?_⟩
  refine ⟨_, rfl, _, _, rfl, rfl, _, rfl, ifF (decide_eq_false (by omega)) ?_⟩
  refine ⟨_, rfl, _, rfl, A.p, _, A.dx, _, _, rfl, hH.get 1 rfl, T.cl_Yard, T.n_Yard_sides, fl_sides _ _ _, A.s, _, rfl, .inl (SqL.of (hH.get 6 rfl)), _, _, rfl, rfl, _, rfl, ?_⟩
  exact ifF (decide_eq_false (by omega)) q
theorem scCn : FnScope ["note"] ["note"] (defScope s_Jf) := ⟨rfl, rfl, rfl, by decide +kernel, rfl, by decide +kernel, by decide +kernel⟩
theorem ok_Jf (T : Txt K mg t) : FnOk P w K mg base CX0 1 t.f_Jf t.d_Jf ["note"] sp_Jf := by
 refine T.F_Jf.ok scCn (fun vs H Q E h => ?_) (fun cdv A outer s H vs Q E hr h => ?_)
 ·obtain ⟨_, rfl, _⟩ := h
  rfl
 ·obtain ⟨n, rfl, n0, n1, q⟩ := h
  refine ⟨_, (pss_one (ps_if (PW.pt (pw_or (pt_cmpR op_lt (pv 0) pe_int (nomark _)) (pw_or1 (pt_cmpR op_gt (pv 0) (pe_glob (by rfl) T.g_LAST_NOTE T.r_LAST_NOTE) (nomark _)))))
    (pss_one ps_never)
    pss_nil)), ?_⟩
  refine ⟨_, rfl, _, _, rfl, rfl, _, rfl, ifF (decide_eq_false (by omega)) ?_⟩
  refine ⟨_, rfl, _, _, rfl, rfl, _, rfl, ifF (decide_eq_false (by omega)) q⟩
theorem scCp : FnScope ["self", "piece"] ["self", "piece"] (defScope s_J1) := ⟨rfl, rfl, rfl, by decide +kernel, rfl, by decide +kernel, by decide +kernel⟩
theorem ok_J1 (T : Txt K mg t) : FnOk P w K mg base CX0 1 t.f_J1 t.d_J1 ["self", "piece"] (sp_check_piece t.c_Yard) := by
 refine T.F_J1.ok scCp (fun vs H Q E h => ?_) (fun cdv A outer s H vs Q E hr h => ?_)
 ·obtain ⟨_, _, _, _, _, rfl, _⟩ := h
  rfl
 ·obtain ⟨A, y, L, n, v, rfl, hH, hv, q⟩ := h
  have hu := hu_of hr
  refine ⟨_, (pss_one (ps_if (pt_cmp (pc_dnotin hu (pv 1) (pe_fld (pv 0) rfl)))
    (pss_one ps_never)
    pss_nil)), ?_⟩
  refine ⟨_, rfl, _, rfl, A.p, _, A.dx, _, _, rfl, hH.get 1 rfl, T.cl_Yard, T.n_Yard_kinds, fl_kinds _ _ _, A.k, _, rfl, DGet.k (k := Sum.inl n) (hH.get 3 rfl), _, rfl, ?_⟩
  exact ifF (by rw [hv]; rfl) q
theorem scNr : FnScope ["self", "side"] ["self", "side"] (defScope s_J9) := ⟨rfl, rfl, rfl, by decide +kernel, rfl, by decide +kernel, by decide +kernel⟩
theorem ok_J9 (T : Txt K mg t) : FnOk P w K mg base CX0 2 t.f_J9 t.d_J9 ["self", "side"] (sp_new_rod t.c_Yard) := by
 refine T.F_J9.ok scNr (fun vs H Q E h => ?_) (fun cdv A outer s H vs Q E hr h => ?_)
 ·obtain ⟨_, _, _, _, rfl, _⟩ := h
  rfl
 ·obtain ⟨A, y, L, z, rfl, hH, hz, sm, q⟩ := h
  refine ⟨_, (pss_cons (ps_expr (pe_call (ok_Jd T) (hr.mono (by decide)) (by rfl) T.m_Jd T.F_Jd.kp (b_Jd T) .nil pass0 (pa_cons (pv 1) pa_nil)))
   (pss_cons (ps_expr (pe_bm PySem.F.plainAttrs_list PySem.F.slot_list_append PySem.F.type_list_append mt_append (pe_fld (pv 0) rfl) (pa_cons (pv 1) pa_nil)))
   (pss_cons (ps_expr (pe_meth0 (pv 0) T.cl_Yard T.M_J5 (ok_J5 T) (hr.mono (by decide)) (b_J5 T) .nil pass0))
   (pss_one (ps_ret (pe_op op_sub (pe_callB call_len_seq (by rfl) T.z_len (by rfl) (pa_cons (pe_fld (pv 0) rfl) pa_nil)) pe_int)))))), ?_⟩
  refine ⟨_, rfl, z, rfl, hz, ?_⟩
  refine ⟨_, rfl, A.p, _, A.dx, _, _, rfl, hH.get 1 rfl, T.cl_Yard, T.n_Yard_sides, fl_sides _ _ _, .inl ⟨rfl, _, SqL.of (hH.get 6 rfl)⟩, _, rfl, A.s, _, _, rfl, rfl, hH.get 6 rfl, sizeOk (by omega), ?_⟩
  have h1 : Has _ (yL t.c_Yard A { y with sides := y.sides ++ [.int z] } ++ L) := hH.puti 6 rfl (.lst (y.sides ++ [.int z]))
  refine ⟨_, rfl, A.p, A.dx, _, rfl, h1.get 1 rfl, (fl_m _ _ _).2.2.2.2.2.2.1, A, _, L, rfl, h1, fun H' a h2 => ?_⟩
  refine ⟨_, rfl, A.p, _, A.dx, _, _, rfl, h2.get 1 rfl, T.cl_Yard, T.n_Yard_sides, fl_sides _ _ _, A.s, _, rfl, .inl (SqL.of (h2.get 6 rfl)), _, _, rfl, rfl, ?_⟩
  have e : ((y.sides ++ [V.int z]).length : Int) - 1 = y.sides.length := by rw [List.length_append, List.length_singleton]; omega
  show Q (.int (((y.sides ++ [V.int z]).length : Int) - 1)) H'
  rw [e]
  exact q H' a h2
theorem scTh : FnScope ["self", "rod", "side"] ["self", "rod", "side"] (defScope s_Jj) := ⟨rfl, rfl, rfl, by decide +kernel, rfl, by decide +kernel, by decide +kernel⟩
theorem scRs : FnScope ["self"] ["self"] (defScope s_Jr) := ⟨rfl, rfl, rfl, by decide +kernel, rfl, by decide +kernel, by decide +kernel⟩
theorem ok_Jr (T : Txt K mg t) : FnOk P w K mg base CX0 1 t.f_Jr t.d_Jr ["self"] (sp_rods t.c_Yard) := by
 refine T.F_Jr.ok scRs (fun vs H Q E h => ?_) (fun cdv A outer s H vs Q E hr h => ?_)
 ·obtain ⟨_, _, _, rfl, _⟩ := h
  rfl
 ·obtain ⟨A, y, L, rfl, hH, sm, q⟩ := h
  refine ⟨_, (pss_one (ps_ret (pe_callTy (call_list_rng rfl) (by rfl) T.z_list (by rfl) (pa_cons (pe_callTy call_range1 (by rfl) T.z_range (by rfl) (pa_cons (pe_callB call_len_seq (by rfl) T.z_len (by rfl) (pa_cons (pe_fld (pv 0) rfl) pa_nil)) pa_nil)) pa_nil)))), ?_⟩
  have := sm.s
  refine ⟨_, rfl, A.p, _, A.dx, _, _, rfl, hH.get 1 rfl, T.cl_Yard, T.n_Yard_sides, fl_sides _ _ _, A.s, _, rfl, .inl (SqL.of (hH.get 6 rfl)), _, rfl, fun a ha => ?_⟩
  have h1 := hH.alloc ha (.rng 0 y.sides.length)
  refine ⟨a, _, rfl, h1.get 0 rfl, by omega, by omega, fun l hl => ?_⟩
  have h2 := h1.alloc hl (.lst (intsV ((y.sides.length : Int)).toNat))
  refine q _ l ?_
  exact h2.swap2.tail
theorem scSi : FnScope ["self", "rod"] ["self", "rod"] (defScope s_Jq) := ⟨rfl, rfl, rfl, by decide +kernel, rfl, by decide +kernel, by decide +kernel⟩
theorem ok_Jq (T : Txt K mg t) : FnOk P w K mg base CX0 2 t.f_Jq t.d_Jq ["self", "rod"] (sp_side t.c_Yard) := by
 refine T.F_Jq.ok scSi (fun vs H Q E h => ?_) (fun cdv A outer s H vs Q E hr h => ?_)
 ·obtain ⟨_, _, _, _, _, rfl, _⟩ := h
  rfl
 ·obtain ⟨A, y, L, r, v, rfl, hH, r0, hv, q⟩ := h
  have r1 : r < y.sides.length := by have := (List.getElem?_eq_some_iff.mp hv).1; omega
  have er : (r.toNat : Int) = r := by omega
  refine ⟨_, (pss_cons (ps_expr (pe_meth (pv 0) T.cl_Yard T.M_J6 (ok_J6 T) (hr.mono (by decide)) (b_J6 T) .nil pass0 (pa_cons (pv 1) pa_nil)))
   (pss_one (ps_ret (pe_ix ix_list (pe_fld (pv 0) rfl) (pv 1) (fun _ _ => rfl))))), ?_⟩
  refine ⟨_, rfl, A.p, A.dx, _, rfl, hH.get 1 rfl, (fl_m _ _ _).2.2.2.2.2.2.2.2, _, rfl, A, y, L, r, rfl, hH, r0, r1, ?_⟩
  exact ⟨_, rfl, A.p, _, A.dx, _, _, rfl, hH.get 1 rfl, T.cl_Yard, T.n_Yard_sides, fl_sides _ _ _, _, rfl, A.s, _, r, v, rfl, rfl, SqL.of (hH.get 6 rfl), (by rw [<- er]; exact atI_nat hv), q⟩
theorem scRo : FnScope ["self", "piece"] ["self", "piece"] (defScope s_Jy) := ⟨rfl, rfl, rfl, by decide +kernel, rfl, by decide +kernel, by decide +kernel⟩
theorem ok_Jy (T : Txt K mg t) : FnOk P w K mg base CX0 2 t.f_Jy t.d_Jy ["self", "piece"] (sp_rod t.c_Yard) := by
 refine T.F_Jy.ok scRo (fun vs H Q E h => ?_) (fun cdv A outer s H vs Q E hr h => ?_)
 ·obtain ⟨_, _, _, _, _, _, rfl, _⟩ := h
  rfl
 ·obtain ⟨A, y, L, n, u, v, rfl, hH, hk, hv, q⟩ := h
  have hu := hu_of hr
  refine ⟨_, (pss_cons (ps_expr (pe_meth (pv 0) T.cl_Yard T.M_J1 (ok_J1 T) (hr.mono (by decide)) (b_J1 T) .nil pass0 (pa_cons (pv 1) pa_nil)))
   (pss_cons (ps_if (pt_cmp (pc_dnotin hu (pv 1) (pe_fld (pv 0) rfl)))
    (pss_one ps_never)
    pss_nil)
   (pss_one (ps_ret (pe_dget hu (pe_fld (pv 0) rfl) (pv 1) (fun _ _ => rfl)))))), ?_⟩
  refine ⟨_, rfl, A.p, A.dx, _, rfl, hH.get 1 rfl, (fl_m _ _ _).2.2.2.2.2.2.2.1, _, rfl, A, y, L, n, u, rfl, hH, hk, ?_⟩
  refine ⟨_, rfl, _, rfl, A.p, _, A.dx, _, _, rfl, hH.get 1 rfl, T.cl_Yard, T.n_Jr_under, fl_rods _ _ _, A.r, _, rfl, DGet.k (k := Sum.inl n) (hH.get 5 rfl), _, rfl, ifF (by rw [hv]; rfl) ?_⟩
  refine ⟨_, rfl, A.p, _, A.dx, _, _, rfl, hH.get 1 rfl, T.cl_Yard, T.n_Jr_under, fl_rods _ _ _, _, rfl, A.r, _, rfl, ?_, q⟩
  rw [<- hv]
  exact DGet.k (k := Sum.inl n) (hH.get 5 rfl)
theorem scLy : FnScope ["self", "kind", "note", "rod", "point", "piece"] ["self", "kind", "note", "rod"] (defScope s_Jx) := ⟨rfl, rfl, rfl, by decide +kernel, rfl, by decide +kernel, by decide +kernel⟩
theorem ok_Jx (T : Txt K mg t) : FnOk P w K mg base CX0 3 t.f_Jx t.d_Jx ["self", "kind", "note", "rod"] (sp_lay t.c_Yard) := by
 obtain ⟨ds_nr, hd_J9_1, hb_J9_1⟩ := bD_J9_1 T
 refine T.F_Jx.ok scLy (fun vs H Q E h => ?_) (fun cdv A outer s H vs Q E hr h => ?_)
 ·obtain ⟨_, _, _, _, _, _, rfl, _⟩ := h
  rfl
 ·obtain ⟨A, y, L, k, note, rod, rfl, hH, sm, hnote, hrod, q⟩ := h
  have hu := hu_of hr
  refine ⟨_, (pss_cons (ps_set (i := 4) scLy.nd rfl (Or.inl rfl) (pe_call (ok_Ju T) (hr.mono (by decide)) (by rfl) T.m_Ju T.F_Ju.kp (b_Ju T) .nil pass0 (pa_cons (pv 1) pa_nil)))
   (pss_cons (ps_if (pt_cmpR op_eq (pv 1) pe_str (nomark _))
    (pss_one (ps_expr (pe_call (ok_Jf T) (hr.mono (by decide)) (by rfl) T.m_Jf T.F_Jf.kp (b_Jf T) .nil pass0 (pa_cons (pv 2) pa_nil))))
    pss_nil)
   (pss_cons (ps_if (PW.pt (pw_and (pt_val (pv 4)) (pw_and1 (pt_cmpR op_notN (pv 3) pe_non (nomark _)))))
    (pss_one (ps_expr (pe_meth (pv 0) T.cl_Yard T.M_J6 (ok_J6 T) (hr.mono (by decide)) (b_J6 T) .nil pass0 (pa_cons (pv 3) pa_nil))))
    pss_nil)
   (pss_cons (ps_set (i := 5) scLy.nd rfl (Or.inl rfl) (pe_fld (pv 0) rfl))
   (pss_cons (ps_fldaug (pv 0) pe_int in_add)
   (pss_cons (ps_dput hu (pe_fld (pv 0) rfl) (pv 5) (pv 1) rfl)
   (pss_cons (ps_if (pt_cmpR op_eq (pv 1) pe_str (nomark _))
    (pss_one (ps_dput hu (pe_fld (pv 0) rfl) (pv 5) (pv 2) rfl))
    pss_nil)
   (pss_cons (ps_if (pt_val (pv 4))
    (pss_one (ps_dput hu (pe_fld (pv 0) rfl) (pv 5) (pe_ifExp (pt_cmpR op_isN (pv 3) pe_non (nomark _)) (pe_meth0 (pv 0) T.cl_Yard T.M_J9 (ok_J9 T) (hr.mono (by decide)) hb_J9_1 hd_J9_1 pass0) (pv 3)) rfl))
    pss_nil)
   (pss_cons (ps_expr (pe_meth0 (pv 0) T.cl_Yard T.M_J5 (ok_J5 T) (hr.mono (by decide)) (b_J5 T) .nil pass0))
   (pss_one (ps_ret (pv 5)))))))))))), ?_⟩
  refine ⟨_, rfl, k, rfl, ?_⟩
  refine ⟨_, rfl, rfl, _, rfl, ifJ (fun hc g => ?_) ?_⟩
  ·rw [k.isBell] at hc
   have hb := hnote (of_decide_eq_true hc)
   exact ⟨_, rfl, note, rfl, hb.1, hb.2, g⟩
  refine ⟨_, rfl, _, rfl, ?_⟩
  refine (fun (g : _) => if2 (fun hp => ⟨_, rfl, rfl, _, rfl, ifJ (fun hc g' => ?a) g⟩) (fun hp => iteF g)) ?b
  case a =>
   have hn : rod ≠ .non := by simpa using hc
   obtain ⟨r, rfl, r0, r1⟩ := hrod hp hn
   exact ⟨_, rfl, A.p, A.dx, _, rfl, hH.get 1 rfl, (fl_m _ _ _).2.2.2.2.2.2.2.2, _, rfl, A, y, L, r, rfl, hH, r0, r1, g'⟩
  refine ⟨_, rfl, A.p, _, A.dx, _, _, rfl, hH.get 1 rfl, T.cl_Yard, T.n_Yard_next_piece, fl_next _ _ _, ?_⟩
  refine ⟨_, rfl, A.p, _, A.dx, _, _, rfl, hH.get 1 rfl, T.cl_Yard, T.n_Yard_next_piece, fl_next _ _ _, _, _, rfl, rfl, _, _, hH.get 1 rfl, (show 9 < 1000 by decide), ?_⟩
  rw [fl_put_next]
  have h1 : Has _ (yL t.c_Yard A { y with next := y.next + 1 } ++ L) := hH.puti 1 rfl (.ins t.c_Yard A.dx (fl A (y.next + 1) y.eng))
  generalize upd H A.p _ = H1 at h1 ⊢
  refine ⟨_, rfl, _, rfl, A.p, _, A.dx, _, _, rfl, h1.get 1 rfl, T.cl_Yard, T.n_Yard_kinds, fl_kinds _ _ _, _, rfl, A.k, _, rfl, DPut.k (k := Sum.inl y.next) (h1.get 3 rfl) (sizeOk (show y.kinds.length <= 1000000 by have := sm.k; omega)), ?_⟩
  have h2 : Has _ (yL t.c_Yard A { y with next := y.next + 1, kinds := putK y.kinds (Sum.inl y.next) (.str k.str) } ++ L) := h1.puti 3 rfl (.dK (putK y.kinds (Sum.inl y.next) (.str k.str)))
  generalize upd H1 A.k _ = H2 at h2 ⊢
  refine ⟨_, rfl, rfl, _, rfl, ?_⟩
  rw [k.isBell]
  have fin : ∀ (H3 : Hp) (A3 : YA) (y3 : YR), A3.p = A.p -> (∀ q, { A3 with tr := q } = { A with tr := q }) -> { y3 with trail := [] } = layY y k note rod -> Has H3 (yL t.c_Yard A3 y3 ++ L) ->
    tSeq (tDrop (tMeth t.c_Yard "end_trail" (sp_end_trail t.c_Yard) [] E0 (tVar 0) tNil)) (tRet (tVar 5)) { nx := fun _ H' => Q .non H', rt := Q } [some (.ref A.p), some (.str k.str), some (.int note), some rod, some (.bl k.point), some (.int y.next)] H3 := fun H3 A3 y3 e1 e2 e3 h3 => by
   have g1 := h3.get 1 rfl
   rw [e1] at g1
   refine ⟨_, rfl, A.p, A3.dx, _, rfl, g1, (fl_m _ _ _).2.2.2.2.2.2.1, A3, y3, L, (by rw [e1]; rfl), h3, fun H4 a h4 => ⟨_, rfl, ?_⟩⟩
   rw [e2, e3] at h4
   exact q H4 a h4
  refine ifd (fun hb => ?_) (fun hb => ?_)
  ·subst hb
   refine ⟨_, rfl, _, rfl, A.p, _, A.dx, _, _, rfl, h2.get 1 rfl, T.cl_Yard, T.n_Yard_notes, fl_notes _ _ _, _, rfl, A.n, _, rfl, DPut.k (k := Sum.inl y.next) (h2.get 4 rfl) (sizeOk (show y.notes.length <= 1000000 by have := sm.n; omega)), ?_⟩
   have h3 : Has _ (yL t.c_Yard A { y with next := y.next + 1, kinds := putK y.kinds (Sum.inl y.next) (.str Kd.bell.str), notes := putK y.notes (Sum.inl y.next) (.int note) } ++ L) := h2.puti 4 rfl (.dK (putK y.notes (Sum.inl y.next) (.int note)))
   refine ⟨_, rfl, _, rfl, iteF ?_⟩
   exact fin _ A _ rfl (fun _ => rfl) rfl h3
  ·refine ⟨_, rfl, _, rfl, if2 (fun hp => ?_) (fun hp => ?_)⟩
   ·refine ⟨_, rfl, rfl, _, rfl, ifd (fun hn => ?_) (fun hn => ?_)⟩
    ·subst hn
     refine ⟨_, rfl, A.p, A.dx, _, rfl, h2.get 1 rfl, (fl_m _ _ _).2.1, A, _, L, 1, rfl, h2, .inl rfl, sm.s, fun H3 a h3 => ?_⟩
     refine ⟨_, rfl, A.p, _, A.dx, _, _, rfl, h3.get 1 rfl, T.cl_Yard, T.n_Jr_under, fl_rods _ _ _, _, rfl, A.r, _, rfl, DPut.k (k := Sum.inl y.next) (h3.get 5 rfl) (sizeOk (show y.rods.length <= 1000000 by have := sm.r; omega)), ?_⟩
     have h4 : Has _ (yL t.c_Yard { A with tr := a } { y with next := y.next + 1, kinds := putK y.kinds (Sum.inl y.next) (.str k.str), rods := putK y.rods (Sum.inl y.next) (.int y.sides.length), sides := y.sides ++ [.int 1], trail := [] } ++ L) := h3.puti 5 rfl (.dK (putK y.rods (Sum.inl y.next) (.int y.sides.length)))
     exact fin _ { A with tr := a } _ rfl (fun _ => rfl) (by unfold layY; rw [if_neg hb, if_pos hp, if_pos rfl, if_pos ⟨hp, rfl⟩]) h4
    ·refine ⟨_, rfl, _, rfl, A.p, _, A.dx, _, _, rfl, h2.get 1 rfl, T.cl_Yard, T.n_Jr_under, fl_rods _ _ _, _, rfl, A.r, _, rfl, DPut.k (k := Sum.inl y.next) (h2.get 5 rfl) (sizeOk (show y.rods.length <= 1000000 by have := sm.r; omega)), ?_⟩
     have h3 : Has _ (yL t.c_Yard A { y with next := y.next + 1, kinds := putK y.kinds (Sum.inl y.next) (.str k.str), rods := putK y.rods (Sum.inl y.next) rod } ++ L) := h2.puti 5 rfl (.dK (putK y.rods (Sum.inl y.next) rod))
     exact fin _ A _ rfl (fun _ => rfl) (by unfold layY; rw [if_neg hb, if_pos hp, if_neg hn, if_neg (fun z => hn z.2)]) h3
   ·exact fin _ A _ rfl (fun _ => rfl) (by unfold layY; rw [if_neg hb, if_neg (by rw [hp]; exact Bool.false_ne_true), if_neg (fun z => by rw [hp] at z; exact Bool.false_ne_true z.1)]) h2
end
end P
set_option Elab.async false
set_option linter.all false
set_option maxRecDepth 100000
set_option maxHeartbeats 4000000
namespace P
open PySem L2
abbrev kE (n e : Int) : List Key := [Sum.inl n, Sum.inl e]
theorem fl_m2 (A : YA) (next : Int) (eng : V) : (fl A next eng).lookup ("check_there" : Str) = none /\ (fl A next eng).lookup ("mate" : Str) = none /\ (fl A next eng).lookup ("link" : Str) = none /\ (fl A next eng).lookup ("unlink" : Str) = none :=
 ⟨by kernel_rfl, by kernel_rfl, by kernel_rfl, by kernel_rfl⟩
def There (y : YR) (n e : Int) : Prop := ∃ k : Kd, valV y.kinds (Sum.inl n) = some (.str k.str) /\ 0 <= e /\ e < k.many
def sp_check_there (C : Addr) : Sp := fun vs H Q _ => ∃ (A : YA) (y : YR) (L : Kn) (b : Addr) (n e : Int) (j : Nat), vs = [.ref A.p, .ref b] /\ Has H (yL C A y ++ L) /\ L[j]? = some (b, .tup [.int n, .int e]) /\ There y n e /\ Q .non H
def sp_mate (C : Addr) : Sp := fun vs H Q _ => ∃ (A : YA) (y : YR) (L : Kn) (b : Addr) (n e : Int) (j : Nat), vs = [.ref A.p, .ref b] /\ Has H (yL C A y ++ L) /\ L[j]? = some (b, .tup [.int n, .int e]) /\ There y n e /\ Q ((valV y.mates (kE n e)).getD .non) H
def sp_link (C : Addr) : Sp := fun vs H Q _ => ∃ (A : YA) (y : YR) (L : Kn) (b1 b2 : Addr) (n1 e1 n2 e2 : Int) (j1 j2 : Nat), vs = [.ref A.p, .ref b1, .ref b2] /\ Has H (yL C A y ++ L) /\ L[j1]? = some (b1, .tup [.int n1, .int e1]) /\ L[j2]? = some (b2, .tup [.int n2, .int e2]) /\
 There y n1 e1 /\ There y n2 e2 /\ ¬ kE n1 e1 = kE n2 e2 /\ valV y.mates (kE n1 e1) = none /\ valV y.mates (kE n2 e2) = none /\ y.mates.length <= 30000 /\
 ∀ H' q, Has H' (yL C { A with tr := q } { y with mates := putK (putK y.mates (kE n1 e1) (.ref b2)) (kE n2 e2) (.ref b1), trail := [] } ++ L) -> Q .non H'
section
variable {P : Program} {w : World} {K : PySem.W.Frag} {mg : Str -> Option Value} {base : Heap} {t : Adr}
theorem scCt : FnScope ["self", "end", "piece", "place"] ["self", "end"] (defScope s_J0) := ⟨rfl, rfl, rfl, by decide +kernel, rfl, by decide +kernel, by decide +kernel⟩
theorem ok_J0 (T : Txt K mg t) : FnOk P w K mg base CX0 3 t.f_J0 t.d_J0 ["self", "end"] (sp_check_there t.c_Yard) := by
 refine T.F_J0.ok scCt (fun vs H Q E h => ?_) (fun cdv A outer s H vs Q E hr h => ?_)
 ·obtain ⟨_, _, _, _, _, _, _, rfl, _⟩ := h
  rfl
 ·obtain ⟨A, y, L, b, n, e, j, rfl, hH, hj, ⟨k, hk, e0, e1⟩, q⟩ := h
  have hu := hu_of hr
  refine ⟨_, (pss_cons (ps_asg (pv 1) (pg_tup rfl (pgs_cons (pg_name (i := 2) scCt.nd rfl (Or.inl rfl)) (pgs_cons (pg_name (i := 3) scCt.nd rfl (Or.inl rfl)) pgs_nil))))
   (pss_cons (ps_expr (pe_meth (pv 0) T.cl_Yard T.M_J1 (ok_J1 T) (hr.mono (by decide)) (b_J1 T) .nil pass0 (pa_cons (pv 2) pa_nil)))
   (pss_one (ps_expr (pe_call (ok_Jl T) (hr.mono (by decide)) (by rfl) T.m_Jl T.F_Jl.kp (b_Jl T) .nil pass0 (pa_cons (pe_dget hu (pe_fld (pv 0) rfl) (pv 2) (fun _ _ => rfl)) (pa_cons (pv 3) pa_nil))))))), ?_⟩
  have gb := hH.get (j + 9) (by simpa [yL] using hj)
  refine ⟨_, rfl, b, _, rfl, SqT.of gb, rfl, _, _, rfl, _, _, rfl, rfl, ?_⟩
  refine ⟨_, rfl, A.p, A.dx, _, rfl, hH.get 1 rfl, (fl_m _ _ _).2.2.2.2.2.2.2.1, _, rfl, A, y, L, n, _, rfl, hH, hk, ?_⟩
  refine ⟨_, rfl, A.p, _, A.dx, _, _, rfl, hH.get 1 rfl, T.cl_Yard, T.n_Yard_kinds, fl_kinds _ _ _, _, rfl, A.k, _, rfl, ?_, _, rfl, k, e, rfl, e0, e1, q⟩
  rw [<- hk]
  exact DGet.k (k := Sum.inl n) (hH.get 3 rfl)
theorem scMt : FnScope ["self", "end"] ["self", "end"] (defScope s_Jp) := ⟨rfl, rfl, rfl, by decide +kernel, rfl, by decide +kernel, by decide +kernel⟩
theorem ok_Jp (T : Txt K mg t) : FnOk P w K mg base CX0 4 t.f_Jp t.d_Jp ["self", "end"] (sp_mate t.c_Yard) := by
 refine T.F_Jp.ok scMt (fun vs H Q E h => ?_) (fun cdv A outer s H vs Q E hr h => ?_)
 ·obtain ⟨_, _, _, _, _, _, _, rfl, _⟩ := h
  rfl
 ·obtain ⟨A, y, L, b, n, e, j, rfl, hH, hj, th, q⟩ := h
  have hu := hu_of hr
  refine ⟨_, (pss_cons (ps_expr (pe_meth (pv 0) T.cl_Yard T.M_J0 (ok_J0 T) (hr.mono (by decide)) (b_J0 T) .nil pass0 (pa_cons (pv 1) pa_nil)))
   (pss_one (ps_ret (pe_dget1 hu (pe_fld (pv 0) rfl) (pv 1) ⟨rfl, rfl, rfl, rfl⟩)))), ?_⟩
  have gb := hH.get (j + 9) (by simpa [yL] using hj)
  refine ⟨_, rfl, A.p, A.dx, _, rfl, hH.get 1 rfl, (fl_m2 _ _ _).1, _, rfl, A, y, L, b, n, e, j, rfl, hH, hj, th, ?_⟩
  exact ⟨_, rfl, A.p, _, A.dx, _, _, rfl, hH.get 1 rfl, T.cl_Yard, T.n_Yard_mates, fl_mates _ _ _, A.m, rfl, .inr ⟨_, .inl (hH.get 7 rfl)⟩, _, rfl, _, DGet.t (k := kE n e) (hH.get 7 rfl) gb, q⟩
theorem scLk : FnScope ["self", "one", "other", "end"] ["self", "one", "other"] (defScope s_Jn) := ⟨rfl, rfl, rfl, by decide +kernel, rfl, by decide +kernel, by decide +kernel⟩
theorem ok_Jn (T : Txt K mg t) : FnOk P w K mg base CX0 4 t.f_Jn t.d_Jn ["self", "one", "other"] (sp_link t.c_Yard) := by
 refine T.F_Jn.ok scLk (fun vs H Q E h => ?_) (fun cdv A outer s H vs Q E hr h => ?_)
 ·obtain ⟨_, _, _, _, _, _, _, _, _, _, _, rfl, _⟩ := h
  rfl
 ·obtain ⟨A, y, L, b1, b2, n1, e1, n2, e2, j1, j2, rfl, hH, hj1, hj2, t1, t2, ne, v1, v2, hl, q⟩ := h
  have hu := hu_of hr
  refine ⟨_, (pss_cons (ps_expr (pe_meth (pv 0) T.cl_Yard T.M_J0 (ok_J0 T) (hr.mono (by decide)) (b_J0 T) .nil pass0 (pa_cons (pv 1) pa_nil)))
   (pss_cons (ps_expr (pe_meth (pv 0) T.cl_Yard T.M_J0 (ok_J0 T) (hr.mono (by decide)) (b_J0 T) .nil pass0 (pa_cons (pv 2) pa_nil)))
   (pss_cons (ps_if (pt_cmpR (op_eqT hr.units) (pv 1) (pv 2) (nomark _))
    (pss_one ps_never)
    pss_nil)
   (pss_cons (ps_for PassesOwn.never rfl (pi_tup (pe_tup (pa_cons (pv 1) (pa_cons (pv 2) pa_nil)))) (pg_name (i := 3) scLk.nd rfl (Or.inl rfl))
    (pss_one (ps_if (pt_cmp (pc_din hu (pv 3) (pe_fld (pv 0) rfl)))
      (pss_one ps_never)
      pss_nil)))
   (pss_cons (ps_dput hu (pe_fld (pv 0) rfl) (pv 1) (pv 2) rfl)
   (pss_cons (ps_dput hu (pe_fld (pv 0) rfl) (pv 2) (pv 1) rfl)
   (pss_one (ps_expr (pe_meth0 (pv 0) T.cl_Yard T.M_J5 (ok_J5 T) (hr.mono (by decide)) (b_J5 T) .nil pass0))))))))), ?_⟩
  have g1 := hH.get (j1 + 9) (by simpa [yL] using hj1)
  have g2 := hH.get (j2 + 9) (by simpa [yL] using hj2)
  refine ⟨_, rfl, A.p, A.dx, _, rfl, hH.get 1 rfl, (fl_m2 _ _ _).1, _, rfl, A, y, L, b1, n1, e1, j1, rfl, hH, hj1, t1, ?_⟩
  refine ⟨_, rfl, A.p, A.dx, _, rfl, hH.get 1 rfl, (fl_m2 _ _ _).1, _, rfl, A, y, L, b2, n2, e2, j2, rfl, hH, hj2, t2, ?_⟩
  have ne' : ¬ [n1, e1] = [n2, e2] := fun z => ne (by cases z; rfl)
  refine ⟨_, rfl, _, rfl, b1, b2, [n1, e1], [n2, e2], rfl, rfl, g1, g2, _, rfl, ifF (decide_eq_false ne') ?_⟩
  refine ⟨_, rfl, _, rfl, (show 2 <= sizeLine by decide), fun p hp => ?_⟩
  have h1 := (hH.alloc hp (.tup [.ref b1, .ref b2]))
  generalize upd H p _ = H1 at h1 ⊢
  refine ⟨p, rfl, ⟨_, SqT.of (h1.get 0 rfl)⟩, for_tup (xs := [.ref b1, .ref b2]) (fun i σ H' => H' = H1 /\ ∃ o, σ = [some (.ref A.p), some (.ref b1), some (.ref b2), o]) ⟨rfl, _, rfl⟩ (fun i σ H' _ ⟨e, _⟩ => by rw [e]; exact SqT.of (h1.get 0 rfl)) ?_ ?_⟩
  ·rintro i x σ H' hx ⟨rfl, o, rfl⟩
   have k1 := h1.get (j1 + 10) (by simpa [yL] using hj1)
   have k2 := h1.get (j2 + 10) (by simpa [yL] using hj2)
   match i, hx with
   | 0, hx =>
    cases hx
    refine ⟨_, rfl, _, rfl, A.p, _, A.dx, _, _, rfl, h1.get 2 rfl, T.cl_Yard, T.n_Yard_mates, fl_mates _ _ _, A.m, _, rfl, DGet.t (k := kE n1 e1) (h1.get 8 rfl) k1, _, rfl, ifF (by rw [v1]; rfl) ⟨rfl, _, rfl⟩⟩
   | 1, hx =>
    cases hx
    refine ⟨_, rfl, _, rfl, A.p, _, A.dx, _, _, rfl, h1.get 2 rfl, T.cl_Yard, T.n_Yard_mates, fl_mates _ _ _, A.m, _, rfl, DGet.t (k := kE n2 e2) (h1.get 8 rfl) k2, _, rfl, ifF (by rw [v2]; rfl) ⟨rfl, _, rfl⟩⟩
  ·rintro σ H' ⟨rfl, o, rfl⟩
   have h2 := h1.tail
   have k1 := h2.get (j1 + 9) (by simpa [yL] using hj1)
   refine ⟨_, rfl, _, rfl, A.p, _, A.dx, _, _, rfl, h2.get 1 rfl, T.cl_Yard, T.n_Yard_mates, fl_mates _ _ _, _, rfl, A.m, _, rfl, DPut.t (k := kE n1 e1) (h2.get 7 rfl) k1 (sizeOk (by omega)), ?_⟩
   have h3 : Has _ (yL t.c_Yard A { y with mates := putK y.mates (kE n1 e1) (.ref b2) } ++ L) := h2.puti 7 rfl (.dT (putK y.mates (kE n1 e1) (.ref b2)))
   generalize upd H' A.m _ = H3 at h3 ⊢
   have k2 := h3.get (j2 + 9) (by simpa [yL] using hj2)
   refine ⟨_, rfl, _, rfl, A.p, _, A.dx, _, _, rfl, h3.get 1 rfl, T.cl_Yard, T.n_Yard_mates, fl_mates _ _ _, _, rfl, A.m, _, rfl, DPut.t (k := kE n2 e2) (h3.get 7 rfl) k2 (sizeOk (Nat.le_trans (length_putK _ _ _) (by omega))), ?_⟩
   have h4 : Has _ (yL t.c_Yard A { y with mates := putK (putK y.mates (kE n1 e1) (.ref b2)) (kE n2 e2) (.ref b1) } ++ L) := h3.puti 7 rfl (.dT (putK (putK y.mates (kE n1 e1) (.ref b2)) (kE n2 e2) (.ref b1)))
   exact ⟨_, rfl, A.p, A.dx, _, rfl, h4.get 1 rfl, (fl_m _ _ _).2.2.2.2.2.2.1, A, _, L, rfl, h4, fun H' a h2 => q H' a h2⟩
theorem scUl : FnScope ["self", "end", "other"] ["self", "end"] (defScope s_Jc) := ⟨rfl, rfl, rfl, by decide +kernel, rfl, by decide +kernel, by decide +kernel⟩
end
theorem fl_m4 (A : YA) (next : Int) (eng : V) : (fl A next eng).lookup ("put" : Str) = none /\ (fl A next eng).lookup ("off" : Str) = none /\ (fl A next eng).lookup ("carry" : Str) = none /\ (fl A next eng).lookup ("pieces" : Str) = none /\ (fl A next eng).lookup ("kind" : Str) = none /\
  (fl A next eng).lookup ("note" : Str) = none /\ (fl A next eng).lookup ("engine" : Str) = none /\ (fl A next eng).lookup ("bells" : Str) = none /\ (fl A next eng).lookup ("steps" : Str) = none :=
 ⟨by kernel_rfl, by kernel_rfl, by kernel_rfl, by kernel_rfl, by kernel_rfl, by kernel_rfl, by kernel_rfl, by kernel_rfl, by kernel_rfl⟩
def sp_put (C : Addr) : Sp := fun vs H Q _ => ∃ (A : YA) (y : YR) (L : Kn) (b : Addr) (n e : Int) (j : Nat), vs = [.ref A.p, .ref b] /\ Has H (yL C A y ++ L) /\ L[j]? = some (b, .tup [.int n, .int e]) /\ There y n e /\
 ∀ H' q, Has H' (yL C { A with tr := q } { y with eng := .ref b, trail := [] } ++ L) -> Q .non H'
def sp_engine (C : Addr) : Sp := fun vs H Q _ => ∃ (A : YA) (y : YR) (L : Kn), vs = [.ref A.p] /\ Has H (yL C A y ++ L) /\ Q y.eng H
def sp_steps (C : Addr) : Sp := fun vs H Q _ => ∃ (A : YA) (y : YR) (L : Kn), vs = [.ref A.p] /\ Has H (yL C A y ++ L) /\ Q (.int y.trail.length) H
def sp_bells (C : Addr) : Sp := fun vs H Q _ => ∃ (A : YA) (y : YR) (L : Kn), vs = [.ref A.p] /\ Has H (yL C A y ++ L) /\ ∀ H' l, Has H' ((l, .lst y.rung) :: (yL C A y ++ L)) -> Q (.ref l) H'
def sp_pieces (C : Addr) : Sp := fun vs H Q _ => ∃ (A : YA) (y : YR) (L : Kn), vs = [.ref A.p] /\ Has H (yL C A y ++ L) /\ ∀ H' l, Has H' ((l, .lst (y.kinds.map fun kv => kV kv.1)) :: (yL C A y ++ L)) -> Q (.ref l) H'
def sp_ykind (C : Addr) : Sp := fun vs H Q _ => ∃ (A : YA) (y : YR) (L : Kn) (n : Int) (v : V), vs = [.ref A.p, .int n] /\ Has H (yL C A y ++ L) /\ valV y.kinds (Sum.inl n) = some v /\ Q v H
def sp_ynote (C : Addr) : Sp := fun vs H Q _ => ∃ (A : YA) (y : YR) (L : Kn) (n : Int) (u v : V), vs = [.ref A.p, .int n] /\ Has H (yL C A y ++ L) /\ valV y.kinds (Sum.inl n) = some u /\ valV y.notes (Sum.inl n) = some v /\ Q v H
section
variable {P : Program} {w : World} {K : PySem.W.Frag} {mg : Str -> Option Value} {base : Heap} {t : Adr}
theorem scPu : FnScope ["self", "end"] ["self", "end"] (defScope s_Jw) := ⟨rfl, rfl, rfl, by decide +kernel, rfl, by decide +kernel, by decide +kernel⟩
theorem ok_Jw (T : Txt K mg t) : FnOk P w K mg base CX0 4 t.f_Jw t.d_Jw ["self", "end"] (sp_put t.c_Yard) := by
 refine T.F_Jw.ok scPu (fun vs H Q E h => ?_) (fun cdv A outer s H vs Q E hr h => ?_)
 ·obtain ⟨_, _, _, _, _, _, _, rfl, _⟩ := h
  rfl
 ·obtain ⟨A, y, L, b, n, e, j, rfl, hH, hj, th, q⟩ := h
  refine ⟨_, (pss_cons (ps_expr (pe_meth (pv 0) T.cl_Yard T.M_J0 (ok_J0 T) (hr.mono (by decide)) (b_J0 T) .nil pass0 (pa_cons (pv 1) pa_nil)))
   (pss_cons (ps_fld (pv 0) (pv 1) rfl)
   (pss_one (ps_expr (pe_meth0 (pv 0) T.cl_Yard T.M_J5 (ok_J5 T) (hr.mono (by decide)) (b_J5 T) .nil pass0))))), ?_⟩
  refine ⟨_, rfl, A.p, A.dx, _, rfl, hH.get 1 rfl, (fl_m2 _ _ _).1, _, rfl, A, y, L, b, n, e, j, rfl, hH, hj, th, ?_⟩
  refine ⟨_, rfl, _, rfl, A.p, _, A.dx, _, rfl, hH.get 1 rfl, T.cl_Yard, T.n_Ja_end, (show 9 < 1000 by decide), ?_⟩
  rw [fl_put_eng]
  have h1 : Has _ (yL t.c_Yard A { y with eng := .ref b } ++ L) := hH.puti 1 rfl (.ins t.c_Yard A.dx (fl A y.next (.ref b)))
  exact ⟨_, rfl, A.p, A.dx, _, rfl, h1.get 1 rfl, (fl_m _ _ _).2.2.2.2.2.2.1, A, _, L, rfl, h1, fun H' a h2 => q H' a h2⟩
theorem scEg : FnScope ["self"] ["self"] (defScope s_Ja) := ⟨rfl, rfl, rfl, by decide +kernel, rfl, by decide +kernel, by decide +kernel⟩
theorem ok_Ja (T : Txt K mg t) : FnOk P w K mg base CX0 1 t.f_Ja t.d_Ja ["self"] (sp_engine t.c_Yard) := by
 refine T.F_Ja.ok scEg (fun vs H Q E h => ?_) (fun cdv A outer s H vs Q E hr h => ?_)
 ·obtain ⟨_, _, _, rfl, _⟩ := h
  rfl
 ·obtain ⟨A, y, L, rfl, hH, q⟩ := h
  refine ⟨_, (pss_one (ps_ret (pe_fld (pv 0) rfl))), ?_⟩
  exact ⟨_, rfl, A.p, _, A.dx, _, _, rfl, hH.get 1 rfl, T.cl_Yard, T.n_Ja_end, fl_eng _ _ _, q⟩
theorem scSt : FnScope ["self"] ["self"] (defScope s_Jg) := ⟨rfl, rfl, rfl, by decide +kernel, rfl, by decide +kernel, by decide +kernel⟩
theorem ok_Jg (T : Txt K mg t) : FnOk P w K mg base CX0 1 t.f_Jg t.d_Jg ["self"] (sp_steps t.c_Yard) := by
 refine T.F_Jg.ok scSt (fun vs H Q E h => ?_) (fun cdv A outer s H vs Q E hr h => ?_)
 ·obtain ⟨_, _, _, rfl, _⟩ := h
  rfl
 ·obtain ⟨A, y, L, rfl, hH, q⟩ := h
  refine ⟨_, (pss_one (ps_ret (pe_callB call_len_seq (by rfl) T.z_len (by rfl) (pa_cons (pe_fld (pv 0) rfl) pa_nil)))), ?_⟩
  exact ⟨_, rfl, A.p, _, A.dx, _, _, rfl, hH.get 1 rfl, T.cl_Yard, T.n_Yard_trail, fl_trail _ _ _, A.tr, _, rfl, .inl (SqL.of (hH.get 0 rfl)), q⟩
theorem scBe : FnScope ["self"] ["self"] (defScope s_Ji) := ⟨rfl, rfl, rfl, by decide +kernel, rfl, by decide +kernel, by decide +kernel⟩
theorem ok_Ji (T : Txt K mg t) : FnOk P w K mg base CX0 1 t.f_Ji t.d_Ji ["self"] (sp_bells t.c_Yard) := by
 refine T.F_Ji.ok scBe (fun vs H Q E h => ?_) (fun cdv A outer s H vs Q E hr h => ?_)
 ·obtain ⟨_, _, _, rfl, _⟩ := h
  rfl
 ·obtain ⟨A, y, L, rfl, hH, q⟩ := h
  refine ⟨_, (pss_one (ps_ret (pe_callTy call_list_of (by rfl) T.z_list (by rfl) (pa_cons (pe_fld (pv 0) rfl) pa_nil)))), ?_⟩
  exact ⟨_, rfl, A.p, _, A.dx, _, _, rfl, hH.get 1 rfl, T.cl_Yard, T.n_Yard_rung, fl_rung _ _ _, A.g, _, rfl, .inl (SqL.of (hH.get 8 rfl)), fun l hl => q _ l (hH.alloc hl _)⟩
theorem scPc : FnScope ["self"] ["self"] (defScope s_Jb) := ⟨rfl, rfl, rfl, by decide +kernel, rfl, by decide +kernel, by decide +kernel⟩
theorem ok_Jb (T : Txt K mg t) : FnOk P w K mg base CX0 1 t.f_Jb t.d_Jb ["self"] (sp_pieces t.c_Yard) := by
 refine T.F_Jb.ok scPc (fun vs H Q E h => ?_) (fun cdv A outer s H vs Q E hr h => ?_)
 ·obtain ⟨_, _, _, rfl, _⟩ := h
  rfl
 ·obtain ⟨A, y, L, rfl, hH, q⟩ := h
  refine ⟨_, (pss_one (ps_ret (pe_callTy (call_list_dK rfl) (by rfl) T.z_list (by rfl) (pa_cons (pe_fld (pv 0) rfl) pa_nil)))), ?_⟩
  exact ⟨_, rfl, A.p, _, A.dx, _, _, rfl, hH.get 1 rfl, T.cl_Yard, T.n_Yard_kinds, fl_kinds _ _ _, A.k, _, rfl, .inl (hH.get 3 rfl), fun l hl => q _ l (hH.alloc hl _)⟩
theorem scYk : FnScope ["self", "piece"] ["self", "piece"] (defScope s_Jo) := ⟨rfl, rfl, rfl, by decide +kernel, rfl, by decide +kernel, by decide +kernel⟩
theorem ok_Jo (T : Txt K mg t) : FnOk P w K mg base CX0 2 t.f_Jo t.d_Jo ["self", "piece"] (sp_ykind t.c_Yard) := by
 refine T.F_Jo.ok scYk (fun vs H Q E h => ?_) (fun cdv A outer s H vs Q E hr h => ?_)
 ·obtain ⟨_, _, _, _, _, rfl, _⟩ := h
  rfl
 ·obtain ⟨A, y, L, n, v, rfl, hH, hv, q⟩ := h
  have hu := hu_of hr
  refine ⟨_, (pss_cons (ps_expr (pe_meth (pv 0) T.cl_Yard T.M_J1 (ok_J1 T) (hr.mono (by decide)) (b_J1 T) .nil pass0 (pa_cons (pv 1) pa_nil)))
   (pss_one (ps_ret (pe_dget hu (pe_fld (pv 0) rfl) (pv 1) (fun _ _ => rfl))))), ?_⟩
  refine ⟨_, rfl, A.p, A.dx, _, rfl, hH.get 1 rfl, (fl_m _ _ _).2.2.2.2.2.2.2.1, _, rfl, A, y, L, n, v, rfl, hH, hv, ?_⟩
  refine ⟨_, rfl, A.p, _, A.dx, _, _, rfl, hH.get 1 rfl, T.cl_Yard, T.n_Yard_kinds, fl_kinds _ _ _, _, rfl, A.k, _, rfl, ?_, q⟩
  rw [<- hv]
  exact DGet.k (k := Sum.inl n) (hH.get 3 rfl)
theorem scYn : FnScope ["self", "piece"] ["self", "piece"] (defScope s_Js) := ⟨rfl, rfl, rfl, by decide +kernel, rfl, by decide +kernel, by decide +kernel⟩
theorem ok_Js (T : Txt K mg t) : FnOk P w K mg base CX0 2 t.f_Js t.d_Js ["self", "piece"] (sp_ynote t.c_Yard) := by
 refine T.F_Js.ok scYn (fun vs H Q E h => ?_) (fun cdv A outer s H vs Q E hr h => ?_)
 ·obtain ⟨_, _, _, _, _, _, rfl, _⟩ := h
  rfl
 ·obtain ⟨A, y, L, n, u, v, rfl, hH, hk, hv, q⟩ := h
  have hu := hu_of hr
  refine ⟨_, (pss_cons (ps_expr (pe_meth (pv 0) T.cl_Yard T.M_J1 (ok_J1 T) (hr.mono (by decide)) (b_J1 T) .nil pass0 (pa_cons (pv 1) pa_nil)))
   (pss_cons (ps_if (pt_cmp (pc_dnotin hu (pv 1) (pe_fld (pv 0) rfl)))
    (pss_one ps_never)
    pss_nil)
   (pss_one (ps_ret (pe_dget hu (pe_fld (pv 0) rfl) (pv 1) (fun _ _ => rfl)))))), ?_⟩
  refine ⟨_, rfl, A.p, A.dx, _, rfl, hH.get 1 rfl, (fl_m _ _ _).2.2.2.2.2.2.2.1, _, rfl, A, y, L, n, u, rfl, hH, hk, ?_⟩
  refine ⟨_, rfl, _, rfl, A.p, _, A.dx, _, _, rfl, hH.get 1 rfl, T.cl_Yard, T.n_Yard_notes, fl_notes _ _ _, A.n, _, rfl, DGet.k (k := Sum.inl n) (hH.get 4 rfl), _, rfl, ifF (by rw [hv]; rfl) ?_⟩
  refine ⟨_, rfl, A.p, _, A.dx, _, _, rfl, hH.get 1 rfl, T.cl_Yard, T.n_Yard_notes, fl_notes _ _ _, _, rfl, A.n, _, rfl, ?_, q⟩
  rw [<- hv]
  exact DGet.k (k := Sum.inl n) (hH.get 4 rfl)
end
def badK (y : Str) : Prop := (endsD.any fun p => decide (y = p.1)) = false
def spR_J01 (C : Addr) : Sp := fun vs H Q E => ∃ y : Str, vs = [.str y] /\ badK y /\ (reprText y).length <= 1000 /\ ∀ a, E (.ref C) (some a) H
def spR_Jl (CK CE : Addr) : Sp := fun vs H Q E => ∃ (y : Str) (e : Int), vs = [.str y, .int e] /\ ((badK y /\ (reprText y).length <= 1000 /\ ∀ a, E (.ref CK) (some a) H) ∨ ∃ k : Kd, y = k.str /\ (e < 0 ∨ k.many <= e) /\ L2.Small e /\ ∀ a, E (.ref CE) (some a) H)
def spR_Jd (C : Addr) : Sp := fun vs H Q E => ∃ s : Int, vs = [.int s] /\ s ≠ 1 /\ s ≠ 2 /\ L2.Small s /\ ∀ a, E (.ref C) (some a) H
theorem Kd.len (k : Kd) : k.str.length <= 7 /\ 4 <= k.str.length := by cases k <;> decide +kernel
section
variable {P : Program} {w : World} {K : PySem.W.Frag} {mg : Str -> Option Value} {base : Heap} {t : Adr}
theorem okR_J01 (T : Txt K mg t) : FnOk P w K mg base (CXr P w) 1 t.f_J01 t.d_J01 ["kind"] (spR_J01 t.c_NoKind) := by
 refine T.F_J01.okR scEo (fun vs H Q E h => ?_) (fun cdv A outer s H vs Q E hr h => ?_)
 ·obtain ⟨_, rfl, _⟩ := h
  rfl
 ·obtain ⟨y, rfl, hb, hy, q⟩ := h
  obtain ⟨aE, eE, hE⟩ := T.x_ENDS
  have T_r_ENDS : RelV (.ref aE) t.u_ENDS := by rw [eE]; rfl
  refine ⟨_, (pss_cons (ps_if (pt_cmpR op_notInK (pv 0) (pe_glob (by rfl) T.g_ENDS T_r_ENDS) (by rfl))
    (pss_one (ps_raise raisesR rfl (by rfl) T.m_NoKind (excAll_in T.x_NoKind) (pe_joined (pj_cons pe_str (pj_cons (pe_fmtR (pv 0)) pj_nil)))))
    pss_nil)
   (pss_one (ps_ret (pe_ix ix_K (pe_glob (by rfl) T.g_ENDS T_r_ENDS) (pv 0) (fun _ _ => rfl))))), ?_⟩
  refine ⟨_, rfl, _, aE, endsD, rfl, rfl, hE, _, rfl, ?_⟩
  rw [show (endsD.any fun p => decide (y = p.1)) = false from hb]
  exact iteT (rzR rfl hy q)
theorem okB_J01 (T : Txt K mg t) : FnOk P w K mg base (CXr P w) 1 t.f_J01 t.d_J01 ["kind"] (fun vs H Q E => sp_J01 vs H Q E ∨ spR_J01 t.c_NoKind vs H Q E) := (ok_J01 T).lift.or (okR_J01 T)
theorem okR_Ju (T : Txt K mg t) : FnOk P w K mg base (CXr P w) 1 t.f_Ju t.d_Ju ["kind"] (spR_J01 t.c_NoKind) := by
 refine T.F_Ju.okR scIp (fun vs H Q E h => ?_) (fun cdv A outer s H vs Q E hr h => ?_)
 ·obtain ⟨_, rfl, _⟩ := h
  rfl
 ·obtain ⟨y, rfl, hb, hy, q⟩ := h
  obtain ⟨aE, eE, hE⟩ := T.x_ENDS
  have T_r_ENDS : RelV (.ref aE) t.u_ENDS := by rw [eE]; rfl
  obtain ⟨aP, oP, its, n, eP, h1, h2, h3, h4, h5⟩ := T.x_POINTS
  have T_r_POINTS : RelV (.ref aP) t.u_POINTS := by rw [eP]; rfl
  refine ⟨_, (pss_cons (ps_if (pt_cmpR op_notInK (pv 0) (pe_glob (by rfl) T.g_ENDS T_r_ENDS) (by rfl))
    (pss_one (ps_raise raisesR rfl (by rfl) T.m_NoKind (excAll_in T.x_NoKind) (pe_joined (pj_cons pe_str (pj_cons (pe_fmtR (pv 0)) pj_nil)))))
    pss_nil)
   (pss_one (ps_ret (pe_cmpR op_in_seq (pv 0) (pe_glob (by rfl) T.g_POINTS T_r_POINTS) (by rfl))))), ?_⟩
  refine ⟨_, rfl, _, aE, endsD, rfl, rfl, hE, _, rfl, ?_⟩
  rw [show (endsD.any fun p => decide (y = p.1)) = false from hb]
  exact iteT (rzR rfl hy q)
theorem okB_Ju (T : Txt K mg t) : FnOk P w K mg base (CXr P w) 1 t.f_Ju t.d_Ju ["kind"] (fun vs H Q E => sp_Ju vs H Q E ∨ spR_J01 t.c_NoKind vs H Q E) := (ok_Ju T).lift.or (okR_Ju T)
theorem okR_Jl (T : Txt K mg t) : FnOk P w K mg base (CXr P w) 2 t.f_Jl t.d_Jl ["kind", "end"] (spR_Jl t.c_NoKind t.c_NoEnd) := by
 refine T.F_Jl.okR scCe (fun vs H Q E h => ?_) (fun cdv A outer s H vs Q E hr h => ?_)
 ·obtain ⟨_, _, rfl, _⟩ := h
  rfl
 ·obtain ⟨y, e, rfl, h⟩ := h
  refine ⟨_, (pss_cons (ps_set (i := 2) scCe.nd rfl (Or.inl rfl) (pe_call (okB_J01 T) (hr.mono (by decide)) (by rfl) T.m_J01 T.F_J01.kp (b_J01 T) .nil passR (pa_cons (pv 0) pa_nil)))
   (pss_one (ps_if (PW.pt (pw_or (pt_cmpR op_lt (pv 1) pe_int (nomark _)) (pw_or1 (pt_cmpR op_ge (pv 1) (pv 2) (nomark _)))))
    (pss_one (ps_raise raisesR rfl (by rfl) T.m_NoEnd (excAll_in T.x_NoEnd) (pe_joined (pj_cons pe_str (pj_cons (pe_fmt (pv 0)) (pj_cons pe_str (pj_cons (pe_fmt (pv 1)) pj_nil)))))))
    pss_nil))), ?_⟩
  rcases h with ⟨hb, hy, q⟩ | ⟨k, rfl, he, hs, q⟩
  ·exact ⟨_, rfl, .inr ⟨y, rfl, hb, hy, q⟩⟩
  ·refine ⟨_, rfl, .inl ⟨k, rfl, ?_⟩⟩
   have hl : k.str.length <= 1000 := Nat.le_trans k.len.1 (by decide)
   by_cases h0 : e < 0
   ·exact ⟨_, rfl, _, _, rfl, rfl, _, rfl, ifT (decide_eq_true h0) (iteT (rz2 rfl hl rfl hs q))⟩
   ·refine ⟨_, rfl, _, _, rfl, rfl, _, rfl, ifF (decide_eq_false h0) ?_⟩
    exact ⟨_, rfl, _, rfl, _, _, rfl, rfl, _, rfl, ifT (decide_eq_true (by omega)) (rz2 rfl hl rfl hs q)⟩
theorem okB_Jl (T : Txt K mg t) : FnOk P w K mg base (CXr P w) 2 t.f_Jl t.d_Jl ["kind", "end"] (fun vs H Q E => sp_Jl vs H Q E ∨ spR_Jl t.c_NoKind t.c_NoEnd vs H Q E) := (ok_Jl T).lift.or (okR_Jl T)
theorem okR_Jd (T : Txt K mg t) : FnOk P w K mg base (CXr P w) 1 t.f_Jd t.d_Jd ["side"] (spR_Jd t.c_NoSide) := by
 refine T.F_Jd.okR scCs (fun vs H Q E h => ?_) (fun cdv A outer s H vs Q E hr h => ?_)
 ·obtain ⟨_, rfl, _⟩ := h
  rfl
 ·obtain ⟨z, rfl, h1, h2, hs, q⟩ := h
  refine ⟨_, (pss_one (ps_if (PW.pt (pw_and (pt_cmpR op_ne (pv 0) pe_int (nomark _)) (pw_and1 (pt_cmpR op_ne (pv 0) pe_int (nomark _)))))
    (pss_one (ps_raise raisesR rfl (by rfl) T.m_NoSide (excAll_in T.x_NoSide) (pe_joined (pj_cons pe_str (pj_cons (pe_fmt (pv 0)) pj_nil)))))
    pss_nil)), ?_⟩
  refine ⟨_, rfl, rfl, _, rfl, ?_⟩
  rw [decInt]
  refine ifT (by simp [h1]) ?_
  refine ⟨_, rfl, rfl, _, rfl, ?_⟩
  rw [decInt]
  exact ifT (by simp [h2]) (rz1 rfl hs q)
theorem okB_Jd (T : Txt K mg t) : FnOk P w K mg base (CXr P w) 1 t.f_Jd t.d_Jd ["side"] (fun vs H Q E => sp_Jd vs H Q E ∨ spR_Jd t.c_NoSide vs H Q E) := (ok_Jd T).lift.or (okR_Jd T)
end
end P
set_option Elab.async false
set_option linter.all false
set_option maxRecDepth 100000
set_option maxHeartbeats 4000000
namespace P
open PySem L2
def NoThere (P E : Addr) (y : YR) (n e : Int) (X : XK) (H : Hp) : Prop :=
 (valV y.kinds (Sum.inl n) = none /\ L2.Small n /\ ∀ a, X (.ref P) (some a) H) ∨ ∃ k : Kd, valV y.kinds (Sum.inl n) = some (.str k.str) /\ (e < 0 ∨ k.many <= e) /\ L2.Small e /\ ∀ a, X (.ref E) (some a) H
def spR_check_piece (C X : Addr) : Sp := fun vs H _ E => ∃ (A : YA) (y : YR) (L : Kn) (n : Int), vs = [.ref A.p, .int n] /\ Has H (yL C A y ++ L) /\ valV y.kinds (Sum.inl n) = none /\ L2.Small n /\ ∀ a, E (.ref X) (some a) H
def spR_check_rod (C X : Addr) : Sp := fun vs H _ E => ∃ (A : YA) (y : YR) (L : Kn) (r : Int), vs = [.ref A.p, .int r] /\ Has H (yL C A y ++ L) /\ (r < 0 ∨ (y.sides.length : Int) <= r) /\ L2.Small r /\ ∀ a, E (.ref X) (some a) H
def spR_Jf (X : Addr) : Sp := fun vs H _ E => ∃ n : Int, vs = [.int n] /\ (n < 0 ∨ 9999 < n) /\ L2.Small n /\ ∀ a, E (.ref X) (some a) H
def spR_there (C P X : Addr) : Sp := fun vs H _ E => ∃ (A : YA) (y : YR) (L : Kn) (b : Addr) (n e : Int) (j : Nat), vs = [.ref A.p, .ref b] /\ Has H (yL C A y ++ L) /\ L[j]? = some (b, .tup [.int n, .int e]) /\ NoThere P X y n e E H
section
variable {P : Program} {w : World} {K : PySem.W.Frag} {mg : Str -> Option Value} {base : Heap} {t : Adr}
theorem okR_J1 (T : Txt K mg t) : FnOk P w K mg base (CXr P w) 1 t.f_J1 t.d_J1 ["self", "piece"] (spR_check_piece t.c_Yard t.c_NoPiece) := by
 refine T.F_J1.okR scCp (fun vs H Q E h => ?_) (fun cdv A outer s H vs Q E hr h => ?_)
 ·obtain ⟨_, _, _, _, rfl, _⟩ := h
  rfl
 ·obtain ⟨A, y, L, n, rfl, hH, hv, hs, q⟩ := h
  have hu := hu_of hr
  refine ⟨_, (pss_one (ps_if (pt_cmp (pc_dnotin hu (pv 1) (pe_fld (pv 0) rfl)))
    (pss_one (ps_raise raisesR rfl (by rfl) T.m_NoPiece (excAll_in T.x_NoPiece) (pe_joined (pj_cons pe_str (pj_cons (pe_fmt (pv 1)) pj_nil)))))
    pss_nil)), ?_⟩
  refine ⟨_, rfl, _, rfl, A.p, _, A.dx, _, _, rfl, hH.get 1 rfl, T.cl_Yard, T.n_Yard_kinds, fl_kinds _ _ _, A.k, _, rfl, DGet.k (k := Sum.inl n) (hH.get 3 rfl), _, rfl, ?_⟩
  exact ifT (by rw [hv]; rfl) (rz1 rfl hs q)
theorem okB_J1 (T : Txt K mg t) : FnOk P w K mg base (CXr P w) 1 t.f_J1 t.d_J1 ["self", "piece"] (fun vs H Q E => sp_check_piece t.c_Yard vs H Q E ∨ spR_check_piece t.c_Yard t.c_NoPiece vs H Q E) := (ok_J1 T).lift.or (okR_J1 T)
theorem okR_J6 (T : Txt K mg t) : FnOk P w K mg base (CXr P w) 1 t.f_J6 t.d_J6 ["self", "rod"] (spR_check_rod t.c_Yard t.c_NoRod) := by
 refine T.F_J6.okR scCr (fun vs H Q E h => ?_) (fun cdv A outer s H vs Q E hr h => ?_)
 ·obtain ⟨_, _, _, _, rfl, _⟩ := h
  rfl
 ·obtain ⟨A, y, L, r, rfl, hH, hb, hs, q⟩ := h
  refine ⟨_, (pss_one (ps_if (PW.pt (pw_or (pt_cmpR op_lt (pv 1) pe_int (nomark _)) (pw_or1 (pt_cmpR op_ge (pv 1) (pe_callB call_len_seq (by rfl) T.z_len (by rfl) (pa_cons (pe_fld (pv 0) rfl) pa_nil)) (nomark _)))))
    (pss_one (ps_raise raisesR rfl (by rfl) T.m_NoRod (excAll_in T.x_NoRod) (pe_joined (pj_cons pe_str (pj_cons (pe_fmt (pv 1)) pj_nil)))))
    pss_nil)), ?_⟩
  by_cases h0 : r < 0
  ·exact ⟨_, rfl, _, _, rfl, rfl, _, rfl, ifT (decide_eq_true h0) (iteT (rz1 rfl hs q))⟩
  ·refine ⟨_, rfl, _, _, rfl, rfl, _, rfl, ifF (decide_eq_false h0) ?_⟩
   refine ⟨_, rfl, _, rfl, A.p, _, A.dx, _, _, rfl, hH.get 1 rfl, T.cl_Yard, T.n_Yard_sides, fl_sides _ _ _, A.s, _, rfl, .inl (SqL.of (hH.get 6 rfl)), _, _, rfl, rfl, _, rfl, ?_⟩
   exact ifT (decide_eq_true (by omega)) (rz1 rfl hs q)
theorem okB_J6 (T : Txt K mg t) : FnOk P w K mg base (CXr P w) 1 t.f_J6 t.d_J6 ["self", "rod"] (fun vs H Q E => sp_check_rod t.c_Yard vs H Q E ∨ spR_check_rod t.c_Yard t.c_NoRod vs H Q E) := (ok_J6 T).lift.or (okR_J6 T)
theorem okR_Jf (T : Txt K mg t) : FnOk P w K mg base (CXr P w) 1 t.f_Jf t.d_Jf ["note"] (spR_Jf t.c_NoNote) := by
 refine T.F_Jf.okR scCn (fun vs H Q E h => ?_) (fun cdv A outer s H vs Q E hr h => ?_)
 ·obtain ⟨_, rfl, _⟩ := h
  rfl
 ·obtain ⟨n, rfl, hb, hs, q⟩ := h
  refine ⟨_, (pss_one (ps_if (PW.pt (pw_or (pt_cmpR op_lt (pv 0) pe_int (nomark _)) (pw_or1 (pt_cmpR op_gt (pv 0) (pe_glob (by rfl) T.g_LAST_NOTE T.r_LAST_NOTE) (nomark _)))))
    (pss_one (ps_raise raisesR rfl (by rfl) T.m_NoNote (excAll_in T.x_NoNote) (pe_joined (pj_cons pe_str (pj_cons (pe_fmt (pv 0)) pj_nil)))))
    pss_nil)), ?_⟩
  by_cases h0 : n < 0
  ·exact ⟨_, rfl, _, _, rfl, rfl, _, rfl, ifT (decide_eq_true h0) (iteT (rz1 rfl hs q))⟩
  ·refine ⟨_, rfl, _, _, rfl, rfl, _, rfl, ifF (decide_eq_false h0) ?_⟩
   exact ⟨_, rfl, _, _, rfl, rfl, _, rfl, ifT (decide_eq_true (by omega)) (rz1 rfl hs q)⟩
theorem okB_Jf (T : Txt K mg t) : FnOk P w K mg base (CXr P w) 1 t.f_Jf t.d_Jf ["note"] (fun vs H Q E => sp_Jf vs H Q E ∨ spR_Jf t.c_NoNote vs H Q E) := (ok_Jf T).lift.or (okR_Jf T)
theorem okR_J0 (T : Txt K mg t) : FnOk P w K mg base (CXr P w) 3 t.f_J0 t.d_J0 ["self", "end"] (spR_there t.c_Yard t.c_NoPiece t.c_NoEnd) := by
 refine T.F_J0.okR scCt (fun vs H Q E h => ?_) (fun cdv A outer s H vs Q E hr h => ?_)
 ·obtain ⟨_, _, _, _, _, _, _, rfl, _⟩ := h
  rfl
 ·obtain ⟨A, y, L, b, n, e, j, rfl, hH, hj, hN⟩ := h
  have hu := hu_of hr
  refine ⟨_, (pss_cons (ps_asg (pv 1) (pg_tup rfl (pgs_cons (pg_name (i := 2) scCt.nd rfl (Or.inl rfl)) (pgs_cons (pg_name (i := 3) scCt.nd rfl (Or.inl rfl)) pgs_nil))))
   (pss_cons (ps_expr (pe_meth (pv 0) T.cl_Yard T.M_J1 (okB_J1 T) (hr.mono (by decide)) (b_J1 T) .nil passR (pa_cons (pv 2) pa_nil)))
   (pss_one (ps_expr (pe_call (okB_Jl T) (hr.mono (by decide)) (by rfl) T.m_Jl T.F_Jl.kp (b_Jl T) .nil passR (pa_cons (pe_dget hu (pe_fld (pv 0) rfl) (pv 2) (fun _ _ => rfl)) (pa_cons (pv 3) pa_nil))))))), ?_⟩
  have gb := hH.get (j + 9) (by simpa [yL] using hj)
  refine ⟨_, rfl, b, _, rfl, SqT.of gb, rfl, _, _, rfl, _, _, rfl, rfl, ?_⟩
  rcases hN with ⟨hv, hs, q⟩ | ⟨k, hk, he, hs, q⟩
  ·exact ⟨_, rfl, A.p, A.dx, _, rfl, hH.get 1 rfl, (fl_m _ _ _).2.2.2.2.2.2.2.1, _, rfl, .inr ⟨A, y, L, n, rfl, hH, hv, hs, q⟩⟩
  ·refine ⟨_, rfl, A.p, A.dx, _, rfl, hH.get 1 rfl, (fl_m _ _ _).2.2.2.2.2.2.2.1, _, rfl, .inl ⟨A, y, L, n, _, rfl, hH, hk, ?_⟩⟩
   refine ⟨_, rfl, A.p, _, A.dx, _, _, rfl, hH.get 1 rfl, T.cl_Yard, T.n_Yard_kinds, fl_kinds _ _ _, _, rfl, A.k, _, rfl, (by rw [<- hk]; exact DGet.k (k := Sum.inl n) (hH.get 3 rfl)), _, rfl, .inr ⟨k.str, e, rfl, .inr ⟨k, rfl, he, hs, q⟩⟩⟩
theorem okB_J0 (T : Txt K mg t) : FnOk P w K mg base (CXr P w) 3 t.f_J0 t.d_J0 ["self", "end"] (fun vs H Q E => sp_check_there t.c_Yard vs H Q E ∨ spR_there t.c_Yard t.c_NoPiece t.c_NoEnd vs H Q E) := (ok_J0 T).lift.or (okR_J0 T)
theorem okR_Jo (T : Txt K mg t) : FnOk P w K mg base (CXr P w) 2 t.f_Jo t.d_Jo ["self", "piece"] (spR_check_piece t.c_Yard t.c_NoPiece) := by
 refine T.F_Jo.okR scYk (fun vs H Q E h => ?_) (fun cdv A outer s H vs Q E hr h => ?_)
 ·obtain ⟨_, _, _, _, rfl, _⟩ := h
  rfl
 ·obtain ⟨A, y, L, n, rfl, hH, hv, hs, q⟩ := h
  have hu := hu_of hr
  refine ⟨_, (pss_cons (ps_expr (pe_meth (pv 0) T.cl_Yard T.M_J1 (okB_J1 T) (hr.mono (by decide)) (b_J1 T) .nil passR (pa_cons (pv 1) pa_nil)))
   (pss_one (ps_ret (pe_dget hu (pe_fld (pv 0) rfl) (pv 1) (fun _ _ => rfl))))), ?_⟩
  exact ⟨_, rfl, A.p, A.dx, _, rfl, hH.get 1 rfl, (fl_m _ _ _).2.2.2.2.2.2.2.1, _, rfl, .inr ⟨A, y, L, n, rfl, hH, hv, hs, q⟩⟩
theorem okR_Js (T : Txt K mg t) : FnOk P w K mg base (CXr P w) 2 t.f_Js t.d_Js ["self", "piece"] (spR_check_piece t.c_Yard t.c_NoPiece) := by
 refine T.F_Js.okR scYn (fun vs H Q E h => ?_) (fun cdv A outer s H vs Q E hr h => ?_)
 ·obtain ⟨_, _, _, _, rfl, _⟩ := h
  rfl
 ·obtain ⟨A, y, L, n, rfl, hH, hv, hs, q⟩ := h
  have hu := hu_of hr
  refine ⟨_, (pss_cons (ps_expr (pe_meth (pv 0) T.cl_Yard T.M_J1 (okB_J1 T) (hr.mono (by decide)) (b_J1 T) .nil passR (pa_cons (pv 1) pa_nil)))
   (pss_cons (ps_if (pt_cmp (pc_dnotin hu (pv 1) (pe_fld (pv 0) rfl)))
    (pss_one (ps_raise raisesR rfl (by rfl) T.m_NoBell (excAll_in T.x_NoBell) (pe_joined (pj_cons pe_str (pj_cons (pe_fmt (pv 1)) (pj_cons pe_str pj_nil))))))
    pss_nil)
   (pss_one (ps_ret (pe_dget hu (pe_fld (pv 0) rfl) (pv 1) (fun _ _ => rfl)))))), ?_⟩
  exact ⟨_, rfl, A.p, A.dx, _, rfl, hH.get 1 rfl, (fl_m _ _ _).2.2.2.2.2.2.2.1, _, rfl, .inr ⟨A, y, L, n, rfl, hH, hv, hs, q⟩⟩
theorem okR_Jy (T : Txt K mg t) : FnOk P w K mg base (CXr P w) 2 t.f_Jy t.d_Jy ["self", "piece"] (spR_check_piece t.c_Yard t.c_NoPiece) := by
 refine T.F_Jy.okR scRo (fun vs H Q E h => ?_) (fun cdv A outer s H vs Q E hr h => ?_)
 ·obtain ⟨_, _, _, _, rfl, _⟩ := h
  rfl
 ·obtain ⟨A, y, L, n, rfl, hH, hv, hs, q⟩ := h
  have hu := hu_of hr
  refine ⟨_, (pss_cons (ps_expr (pe_meth (pv 0) T.cl_Yard T.M_J1 (okB_J1 T) (hr.mono (by decide)) (b_J1 T) .nil passR (pa_cons (pv 1) pa_nil)))
   (pss_cons (ps_if (pt_cmp (pc_dnotin hu (pv 1) (pe_fld (pv 0) rfl)))
    (pss_one (ps_raise raisesR rfl (by rfl) T.m_NoPoint (excAll_in T.x_NoPoint) (pe_joined (pj_cons pe_str (pj_cons (pe_fmt (pv 1)) (pj_cons pe_str pj_nil))))))
    pss_nil)
   (pss_one (ps_ret (pe_dget hu (pe_fld (pv 0) rfl) (pv 1) (fun _ _ => rfl)))))), ?_⟩
  exact ⟨_, rfl, A.p, A.dx, _, rfl, hH.get 1 rfl, (fl_m _ _ _).2.2.2.2.2.2.2.1, _, rfl, .inr ⟨A, y, L, n, rfl, hH, hv, hs, q⟩⟩
theorem okR_Jp (T : Txt K mg t) : FnOk P w K mg base (CXr P w) 4 t.f_Jp t.d_Jp ["self", "end"] (spR_there t.c_Yard t.c_NoPiece t.c_NoEnd) := by
 refine T.F_Jp.okR scMt (fun vs H Q E h => ?_) (fun cdv A outer s H vs Q E hr h => ?_)
 ·obtain ⟨_, _, _, _, _, _, _, rfl, _⟩ := h
  rfl
 ·obtain ⟨A, y, L, b, n, e, j, rfl, hH, hj, hN⟩ := h
  have hu := hu_of hr
  refine ⟨_, (pss_cons (ps_expr (pe_meth (pv 0) T.cl_Yard T.M_J0 (okB_J0 T) (hr.mono (by decide)) (b_J0 T) .nil passR (pa_cons (pv 1) pa_nil)))
   (pss_one (ps_ret (pe_dget1 hu (pe_fld (pv 0) rfl) (pv 1) ⟨rfl, rfl, rfl, rfl⟩)))), ?_⟩
  exact ⟨_, rfl, A.p, A.dx, _, rfl, hH.get 1 rfl, (fl_m2 _ _ _).1, _, rfl, .inr ⟨A, y, L, b, n, e, j, rfl, hH, hj, hN⟩⟩
theorem okR_Jw (T : Txt K mg t) : FnOk P w K mg base (CXr P w) 4 t.f_Jw t.d_Jw ["self", "end"] (spR_there t.c_Yard t.c_NoPiece t.c_NoEnd) := by
 refine T.F_Jw.okR scPu (fun vs H Q E h => ?_) (fun cdv A outer s H vs Q E hr h => ?_)
 ·obtain ⟨_, _, _, _, _, _, _, rfl, _⟩ := h
  rfl
 ·obtain ⟨A, y, L, b, n, e, j, rfl, hH, hj, hN⟩ := h
  have hu := hu_of hr
  refine ⟨_, (pss_cons (ps_expr (pe_meth (pv 0) T.cl_Yard T.M_J0 (okB_J0 T) (hr.mono (by decide)) (b_J0 T) .nil passR (pa_cons (pv 1) pa_nil)))
   (pss_cons (ps_fld (pv 0) (pv 1) rfl)
   (pss_one (ps_expr (pe_meth0 (pv 0) T.cl_Yard T.M_J5 (ok_J5 T) (hr.mono (by decide)) (b_J5 T) .nil pass0))))), ?_⟩
  exact ⟨_, rfl, A.p, A.dx, _, rfl, hH.get 1 rfl, (fl_m2 _ _ _).1, _, rfl, .inr ⟨A, y, L, b, n, e, j, rfl, hH, hj, hN⟩⟩
def spR_unlink (C P X Y : Addr) : Sp := fun vs H _ E => ∃ (A : YA) (y : YR) (L : Kn) (b : Addr) (n e : Int) (j : Nat), vs = [.ref A.p, .ref b] /\ Has H (yL C A y ++ L) /\ L[j]? = some (b, .tup [.int n, .int e]) /\ (NoThere P X y n e E H ∨ (There y n e /\ valV y.mates (kE n e) = none /\ L2.Small n /\ L2.Small e /\ ∀ a, E (.ref Y) (some a) H))
theorem okR_Jc (T : Txt K mg t) : FnOk P w K mg base (CXr P w) 4 t.f_Jc t.d_Jc ["self", "end"] (spR_unlink t.c_Yard t.c_NoPiece t.c_NoEnd t.c_NotLinked) := by
 refine T.F_Jc.okR scUl (fun vs H Q E h => ?_) (fun cdv A outer s H vs Q E hr h => ?_)
 ·obtain ⟨_, _, _, _, _, _, _, rfl, _⟩ := h
  rfl
 ·obtain ⟨A, y, L, b, n, e, j, rfl, hH, hj, hN⟩ := h
  have hu := hu_of hr
  have gb := hH.get (j + 9) (by simpa [yL] using hj)
  refine ⟨_, (pss_cons (ps_expr (pe_meth (pv 0) T.cl_Yard T.M_J0 (okB_J0 T) (hr.mono (by decide)) (b_J0 T) .nil passR (pa_cons (pv 1) pa_nil)))
   (pss_cons (ps_if (pt_cmp (pc_dnotin hu (pv 1) (pe_fld (pv 0) rfl)))
    (pss_one (ps_raise raisesR rfl (by rfl) T.m_NotLinked (excAll_in T.x_NotLinked) (pe_joined (pj_cons (pe_fmtT hr.gd hr.units (pv 1)) (pj_cons pe_str pj_nil)))))
    pss_nil)
   (pss_cons (ps_set (i := 2) scUl.nd rfl (Or.inl rfl) (pe_dget hu (pe_fld (pv 0) rfl) (pv 1) (fun _ _ => rfl)))
   (pss_cons (ps_ddelT hu (pe_fld (pv 0) rfl) (pv 1))
   (pss_cons (ps_ddelT hu (pe_fld (pv 0) rfl) (pv 2))
   (pss_one (ps_expr (pe_meth0 (pv 0) T.cl_Yard T.M_J5 (ok_J5 T) (hr.mono (by decide)) (b_J5 T) .nil pass0)))))))), ?_⟩
  rcases hN with hN | ⟨th, hv, sn, se, q⟩
  ·exact ⟨_, rfl, A.p, A.dx, _, rfl, hH.get 1 rfl, (fl_m2 _ _ _).1, _, rfl, .inr ⟨A, y, L, b, n, e, j, rfl, hH, hj, hN⟩⟩
  ·refine ⟨_, rfl, A.p, A.dx, _, rfl, hH.get 1 rfl, (fl_m2 _ _ _).1, _, rfl, .inl ⟨A, y, L, b, n, e, j, rfl, hH, hj, th, ?_⟩⟩
   refine ⟨_, rfl, _, rfl, A.p, _, A.dx, _, _, rfl, hH.get 1 rfl, T.cl_Yard, T.n_Yard_mates, fl_mates _ _ _, A.m, _, rfl, DGet.t (k := kE n e) (hH.get 7 rfl) gb, _, rfl, ifT (by rw [hv]; rfl) ?_⟩
   exact rzT rfl gb sn se q
def spR_link (C P X S Y : Addr) : Sp := fun vs H _ E => ∃ (A : YA) (y : YR) (L : Kn) (b1 b2 : Addr) (n1 e1 n2 e2 : Int) (j1 j2 : Nat), vs = [.ref A.p, .ref b1, .ref b2] /\ Has H (yL C A y ++ L) /\ L[j1]? = some (b1, .tup [.int n1, .int e1]) /\ L[j2]? = some (b2, .tup [.int n2, .int e2]) /\
 (NoThere P X y n1 e1 E H ∨ (There y n1 e1 /\ NoThere P X y n2 e2 E H) ∨
  (There y n1 e1 /\ There y n2 e2 /\ L2.Small n1 /\ L2.Small e1 /\ L2.Small n2 /\ L2.Small e2 /\ ((n1 = n2 /\ e1 = e2 /\ ∀ a, E (.ref S) (some a) H) ∨
   (¬ (n1 = n2 /\ e1 = e2) /\ (valV y.mates (kE n1 e1) ≠ none ∨ valV y.mates (kE n2 e2) ≠ none) /\ ∀ H' N a, Has H' (N ++ (yL C A y ++ L)) -> E (.ref Y) (some a) H'))))
theorem okR_Jn (T : Txt K mg t) : FnOk P w K mg base (CXr P w) 4 t.f_Jn t.d_Jn ["self", "one", "other"] (spR_link t.c_Yard t.c_NoPiece t.c_NoEnd t.c_SameEnd t.c_Linked) := by
 refine T.F_Jn.okR scLk (fun vs H Q E h => ?_) (fun cdv A outer s H vs Q E hr h => ?_)
 ·obtain ⟨_, _, _, _, _, _, _, _, _, _, _, rfl, _⟩ := h
  rfl
 ·obtain ⟨A, y, L, b1, b2, n1, e1, n2, e2, j1, j2, rfl, hH, hj1, hj2, hN⟩ := h
  have hu := hu_of hr
  have g1 := hH.get (j1 + 9) (by simpa [yL] using hj1)
  have g2 := hH.get (j2 + 9) (by simpa [yL] using hj2)
  refine ⟨_, (pss_cons (ps_expr (pe_meth (pv 0) T.cl_Yard T.M_J0 (okB_J0 T) (hr.mono (by decide)) (b_J0 T) .nil passR (pa_cons (pv 1) pa_nil)))
   (pss_cons (ps_expr (pe_meth (pv 0) T.cl_Yard T.M_J0 (okB_J0 T) (hr.mono (by decide)) (b_J0 T) .nil passR (pa_cons (pv 2) pa_nil)))
   (pss_cons (ps_if (pt_cmpR (op_eqT hr.units) (pv 1) (pv 2) (nomark _))
    (pss_one (ps_raise raisesR rfl (by rfl) T.m_SameEnd (excAll_in T.x_SameEnd) (pe_joined (pj_cons (pe_fmtT hr.gd hr.units (pv 1)) (pj_cons pe_str pj_nil)))))
    pss_nil)
   (pss_cons (ps_for PassesOwn.leaving rfl (pi_tup (pe_tup (pa_cons (pv 1) (pa_cons (pv 2) pa_nil)))) (pg_name (i := 3) scLk.nd rfl (Or.inl rfl))
    (pss_one (ps_if (pt_cmp (pc_din hu (pv 3) (pe_fld (pv 0) rfl)))
      (pss_one (ps_raise raisesR rfl (by rfl) T.m_Linked (excAll_in T.x_Linked) (pe_joined (pj_cons (pe_fmtT hr.gd hr.units (pv 3)) (pj_cons pe_str pj_nil)))))
      pss_nil)))
   (pss_cons (ps_dput hu (pe_fld (pv 0) rfl) (pv 1) (pv 2) rfl)
   (pss_cons (ps_dput hu (pe_fld (pv 0) rfl) (pv 2) (pv 1) rfl)
   (pss_one (ps_expr (pe_meth0 (pv 0) T.cl_Yard T.M_J5 (ok_J5 T) (hr.mono (by decide)) (b_J5 T) .nil pass0))))))))), ?_⟩
  rcases hN with hN | ⟨t1, hN⟩ | ⟨t1, t2, sn1, se1, sn2, se2, hN⟩
  ·exact ⟨_, rfl, A.p, A.dx, _, rfl, hH.get 1 rfl, (fl_m2 _ _ _).1, _, rfl, .inr ⟨A, y, L, b1, n1, e1, j1, rfl, hH, hj1, hN⟩⟩
  ·refine ⟨_, rfl, A.p, A.dx, _, rfl, hH.get 1 rfl, (fl_m2 _ _ _).1, _, rfl, .inl ⟨A, y, L, b1, n1, e1, j1, rfl, hH, hj1, t1, ?_⟩⟩
   exact ⟨_, rfl, A.p, A.dx, _, rfl, hH.get 1 rfl, (fl_m2 _ _ _).1, _, rfl, .inr ⟨A, y, L, b2, n2, e2, j2, rfl, hH, hj2, hN⟩⟩
  ·refine ⟨_, rfl, A.p, A.dx, _, rfl, hH.get 1 rfl, (fl_m2 _ _ _).1, _, rfl, .inl ⟨A, y, L, b1, n1, e1, j1, rfl, hH, hj1, t1, ?_⟩⟩
   refine ⟨_, rfl, A.p, A.dx, _, rfl, hH.get 1 rfl, (fl_m2 _ _ _).1, _, rfl, .inl ⟨A, y, L, b2, n2, e2, j2, rfl, hH, hj2, t2, ?_⟩⟩
   rcases hN with ⟨rfl, rfl, q⟩ | ⟨ne, hm, q⟩
   ·refine ⟨_, rfl, _, rfl, b1, b2, [n1, e1], [n1, e1], rfl, rfl, g1, g2, _, rfl, ifT (decide_eq_true rfl) ?_⟩
    exact rzT rfl g1 sn1 se1 q
   ·have ne' : ¬ [n1, e1] = [n2, e2] := fun z => ne (by cases z; exact ⟨rfl, rfl⟩)
    refine ⟨_, rfl, _, rfl, b1, b2, [n1, e1], [n2, e2], rfl, rfl, g1, g2, _, rfl, ifF (decide_eq_false ne') ?_⟩
    refine ⟨_, rfl, _, rfl, (show 2 <= sizeLine by decide), fun p hp => ?_⟩
    have h1 := (hH.alloc hp (.tup [.ref b1, .ref b2]))
    generalize upd H p _ = H1 at h1 ⊢
    refine ⟨p, rfl, ⟨_, SqT.of (h1.get 0 rfl)⟩, for_tup (xs := [.ref b1, .ref b2]) (fun i σ H' => H' = H1 /\ (∃ o, σ = [some (.ref A.p), some (.ref b1), some (.ref b2), o]) /\ (1 <= i -> valV y.mates (kE n1 e1) = none) /\ i <= 1) ⟨rfl, ⟨_, rfl⟩, fun h => absurd h (by decide), by decide⟩ (fun i σ H' _ ⟨e, _⟩ => by rw [e]; exact SqT.of (h1.get 0 rfl)) ?_ ?_⟩
    ·rintro i x σ H' hx ⟨rfl, ⟨o, rfl⟩, hv, hi⟩
     have k1 := h1.get (j1 + 10) (by simpa [yL] using hj1)
     have k2 := h1.get (j2 + 10) (by simpa [yL] using hj2)
     match i, hx, hv, hi with
     | 0, hx, hv, hi =>
      cases hx
      by_cases v1 : valV y.mates (kE n1 e1) = none
      ·exact ⟨_, rfl, _, rfl, A.p, _, A.dx, _, _, rfl, h1.get 2 rfl, T.cl_Yard, T.n_Yard_mates, fl_mates _ _ _, A.m, _, rfl, DGet.t (k := kE n1 e1) (h1.get 8 rfl) k1, _, rfl, ifF (by rw [v1]; rfl) ⟨rfl, ⟨_, rfl⟩, fun _ => v1, by decide⟩⟩
      ·refine ⟨_, rfl, _, rfl, A.p, _, A.dx, _, _, rfl, h1.get 2 rfl, T.cl_Yard, T.n_Yard_mates, fl_mates _ _ _, A.m, _, rfl, DGet.t (k := kE n1 e1) (h1.get 8 rfl) k1, _, rfl, ifT (by cases e : valV y.mates (kE n1 e1) with | none => exact absurd e v1 | some v => rfl) ?_⟩
       exact rzT rfl k1 sn1 se1 (fun a => q H' [_] a h1)
     | 1, hx, hv, hi =>
      cases hx
      have v2 : valV y.mates (kE n2 e2) ≠ none := hm.resolve_left (fun z => z (hv (by decide)))
      refine ⟨_, rfl, _, rfl, A.p, _, A.dx, _, _, rfl, h1.get 2 rfl, T.cl_Yard, T.n_Yard_mates, fl_mates _ _ _, A.m, _, rfl, DGet.t (k := kE n2 e2) (h1.get 8 rfl) k2, _, rfl, ifT (by cases e : valV y.mates (kE n2 e2) with | none => exact absurd e v2 | some v => rfl) ?_⟩
      exact rzT rfl k2 sn2 se2 (fun a => q H' [_] a h1)
    ·rintro σ H' ⟨rfl, _, _, hi⟩
     exact absurd hi (show ¬ 2 <= 1 by decide)
def spR_throw (C X Y : Addr) : Sp := fun vs H _ E => ∃ (A : YA) (y : YR) (L : Kn) (r s : Int), vs = [.ref A.p, .int r, .int s] /\ Has H (yL C A y ++ L) /\ (((r < 0 ∨ (y.sides.length : Int) <= r) /\ L2.Small r /\ ∀ a, E (.ref X) (some a) H) ∨ (0 <= r /\ r < y.sides.length /\ s ≠ 1 /\ s ≠ 2 /\ L2.Small s /\ ∀ a, E (.ref Y) (some a) H))
theorem okR_Jj (T : Txt K mg t) : FnOk P w K mg base (CXr P w) 2 t.f_Jj t.d_Jj ["self", "rod", "side"] (spR_throw t.c_Yard t.c_NoRod t.c_NoSide) := by
 refine T.F_Jj.okR scTh (fun vs H Q E h => ?_) (fun cdv A outer s H vs Q E hr h => ?_)
 ·obtain ⟨_, _, _, _, _, rfl, _⟩ := h
  rfl
 ·obtain ⟨A, y, L, r, z, rfl, hH, hN⟩ := h
  refine ⟨_, (pss_cons (ps_expr (pe_meth (pv 0) T.cl_Yard T.M_J6 (okB_J6 T) (hr.mono (by decide)) (b_J6 T) .nil passR (pa_cons (pv 1) pa_nil)))
   (pss_cons (ps_expr (pe_call (okB_Jd T) (hr.mono (by decide)) (by rfl) T.m_Jd T.F_Jd.kp (b_Jd T) .nil passR (pa_cons (pv 2) pa_nil)))
   (pss_cons (ps_asg (pv 2) (pg_sub (pe_fld (pv 0) rfl) (pv 1) set_list))
   (pss_one (ps_expr (pe_meth0 (pv 0) T.cl_Yard T.M_J5 (ok_J5 T) (hr.mono (by decide)) (b_J5 T) .nil pass0)))))), ?_⟩
  refine ⟨_, rfl, A.p, A.dx, _, rfl, hH.get 1 rfl, (fl_m _ _ _).2.2.2.2.2.2.2.2, _, rfl, ?_⟩
  rcases hN with ⟨hb, hs, q⟩ | ⟨r0, r1, s1, s2, hs, q⟩
  ·exact .inr ⟨A, y, L, r, rfl, hH, hb, hs, q⟩
  ·refine .inl ⟨A, y, L, r, rfl, hH, r0, r1, ?_⟩
   exact ⟨_, rfl, .inr ⟨z, rfl, s1, s2, hs, q⟩⟩
theorem okR_Jq (T : Txt K mg t) : FnOk P w K mg base (CXr P w) 2 t.f_Jq t.d_Jq ["self", "rod"] (spR_check_rod t.c_Yard t.c_NoRod) := by
 refine T.F_Jq.okR scSi (fun vs H Q E h => ?_) (fun cdv A outer s H vs Q E hr h => ?_)
 ·obtain ⟨_, _, _, _, rfl, _⟩ := h
  rfl
 ·obtain ⟨A, y, L, r, rfl, hH, hb, hs, q⟩ := h
  refine ⟨_, (pss_cons (ps_expr (pe_meth (pv 0) T.cl_Yard T.M_J6 (okB_J6 T) (hr.mono (by decide)) (b_J6 T) .nil passR (pa_cons (pv 1) pa_nil)))
   (pss_one (ps_ret (pe_ix ix_list (pe_fld (pv 0) rfl) (pv 1) (fun _ _ => rfl))))), ?_⟩
  exact ⟨_, rfl, A.p, A.dx, _, rfl, hH.get 1 rfl, (fl_m _ _ _).2.2.2.2.2.2.2.2, _, rfl, .inr ⟨A, y, L, r, rfl, hH, hb, hs, q⟩⟩
def spR_new_rod (X : Addr) : Sp := fun vs H _ E => ∃ (p : Addr) (s : Int), vs = [.ref p, .int s] /\ s ≠ 1 /\ s ≠ 2 /\ L2.Small s /\ ∀ a, E (.ref X) (some a) H
theorem okR_J9 (T : Txt K mg t) : FnOk P w K mg base (CXr P w) 2 t.f_J9 t.d_J9 ["self", "side"] (spR_new_rod t.c_NoSide) := by
 refine T.F_J9.okR scNr (fun vs H Q E h => ?_) (fun cdv A outer s H vs Q E hr h => ?_)
 ·obtain ⟨_, _, rfl, _⟩ := h
  rfl
 ·obtain ⟨p, z, rfl, s1, s2, hs, q⟩ := h
  refine ⟨_, (pss_cons (ps_expr (pe_call (okB_Jd T) (hr.mono (by decide)) (by rfl) T.m_Jd T.F_Jd.kp (b_Jd T) .nil passR (pa_cons (pv 1) pa_nil)))
   (pss_cons (ps_expr (pe_bm PySem.F.plainAttrs_list PySem.F.slot_list_append PySem.F.type_list_append mt_append (pe_fld (pv 0) rfl) (pa_cons (pv 1) pa_nil)))
   (pss_cons (ps_expr (pe_meth0 (pv 0) T.cl_Yard T.M_J5 (ok_J5 T) (hr.mono (by decide)) (b_J5 T) .nil pass0))
   (pss_one (ps_ret (pe_op op_sub (pe_callB call_len_seq (by rfl) T.z_len (by rfl) (pa_cons (pe_fld (pv 0) rfl) pa_nil)) pe_int)))))), ?_⟩
  exact ⟨_, rfl, .inr ⟨z, rfl, s1, s2, hs, q⟩⟩
end
end P
set_option Elab.async false
set_option linter.all false
set_option maxRecDepth 100000
set_option maxHeartbeats 4000000
namespace P
open PySem L2
theorem fl_m6 (A : YA) (next : Int) (eng : V) : (fl A next eng).lookup ("lift" : Str) = none := by kernel_rfl
def spR_lift (C P Y O : Addr) : Sp := fun vs H _ E => ∃ (A : YA) (y : YR) (L : Kn) (n : Int), vs = [.ref A.p, .int n] /\ Has H (yL C A y ++ L) /\ L2.Small n /\
 ((valV y.kinds (Sum.inl n) = none /\ ∀ a, E (.ref P) (some a) H) ∨ ∃ k : Kd, valV y.kinds (Sum.inl n) = some (.str k.str) /\
  (((∃ e : Int, 0 <= e /\ e < k.many /\ valV y.mates (kE n e) ≠ none) /\ ∀ H' N a, Has H' (N ++ (yL C A y ++ L)) -> E (.ref Y) (some a) H') ∨
   ((∀ e : Int, 0 <= e -> e < k.many -> valV y.mates (kE n e) = none) /\ (∃ (b : Addr) (m : Int), y.eng = .ref b /\ (b, HO.tup [.int n, .int m]) ∈ L) /\ ∀ H' a, Has H' (yL C A y ++ L) -> E (.ref O) (some a) H')))
section
variable {P : Program} {w : World} {K : PySem.W.Frag} {mg : Str -> Option Value} {base : Heap} {t : Adr}
theorem scLf : FnScope ["self", "piece", "end"] ["self", "piece"] (defScope s_Jt) := ⟨rfl, rfl, rfl, by decide +kernel, rfl, by decide +kernel, by decide +kernel⟩
theorem okR_Jt (T : Txt K mg t) : FnOk P w K mg base (CXr P w) 2 t.f_Jt t.d_Jt ["self", "piece"] (spR_lift t.c_Yard t.c_NoPiece t.c_Linked t.c_Occupied) := by
 refine T.F_Jt.okR scLf (fun vs H Q E h => ?_) (fun cdv A outer s H vs Q E hr h => ?_)
 ·obtain ⟨_, _, _, _, rfl, _⟩ := h
  rfl
 ·obtain ⟨A, y, L, n, rfl, hH, hs, hN⟩ := h
  have hu := hu_of hr
  refine ⟨_, (pss_cons (ps_expr (pe_meth (pv 0) T.cl_Yard T.M_J1 (okB_J1 T) (hr.mono (by decide)) (b_J1 T) .nil passR (pa_cons (pv 1) pa_nil)))
   (pss_cons (ps_for PassesOwn.leaving rfl (pi_range1 (by rfl) T.z_range (pa_cons (pe_call (okB_J01 T) (hr.mono (by decide)) (by rfl) T.m_J01 T.F_J01.kp (b_J01 T) .nil passR (pa_cons (pe_dget hu (pe_fld (pv 0) rfl) (pv 1) (fun _ _ => rfl)) pa_nil)) pa_nil)) (pg_name (i := 2) scLf.nd rfl (Or.inl rfl))
    (pss_one (ps_if (pt_cmp (pc_din hu (pe_tup (pa_cons (pv 1) (pa_cons (pv 2) pa_nil))) (pe_fld (pv 0) rfl)))
      (pss_one (ps_raise raisesR rfl (by rfl) T.m_Linked (excAll_in T.x_Linked) (pe_joined (pj_cons pe_str (pj_cons (pe_fmt (pv 2)) (pj_cons pe_str (pj_cons (pe_fmt (pv 1)) (pj_cons pe_str pj_nil))))))))
      pss_nil)))
   (pss_cons (ps_if (PW.pt (pw_and (pt_cmpR op_notN (pe_fld (pv 0) rfl) pe_non (nomark _)) (pw_and1 (pt_cmpR op_eq (pe_ix ix_tup (pe_fld (pv 0) rfl) pe_int (fun _ _ => rfl)) (pv 1) (nomark _)))))
    (pss_one (ps_raise raisesR rfl (by rfl) T.m_Occupied (excAll_in T.x_Occupied) (pe_joined (pj_cons pe_str (pj_cons (pe_fmt (pv 1)) pj_nil)))))
    pss_nil)
   (pss_cons (ps_ddel (pe_fld (pv 0) rfl) (pv 1))
   (pss_cons (ps_expr (pe_dpop2 (pe_fld (pv 0) rfl) (pv 1) pe_non ⟨rfl, rfl, rfl, rfl⟩))
   (pss_cons (ps_expr (pe_dpop2 (pe_fld (pv 0) rfl) (pv 1) pe_non ⟨rfl, rfl, rfl, rfl⟩))
   (pss_one (ps_expr (pe_meth0 (pv 0) T.cl_Yard T.M_J5 (ok_J5 T) (hr.mono (by decide)) (b_J5 T) .nil pass0))))))))), ?_⟩
  rcases hN with ⟨hk, q⟩ | ⟨k, hk, hN⟩
  ·exact ⟨_, rfl, A.p, A.dx, _, rfl, hH.get 1 rfl, (fl_m _ _ _).2.2.2.2.2.2.2.1, _, rfl, .inr ⟨A, y, L, n, rfl, hH, hk, hs, q⟩⟩
  have km : 1 <= k.many /\ k.many <= 3 := by cases k <;> decide
  refine ⟨_, rfl, A.p, A.dx, _, rfl, hH.get 1 rfl, (fl_m _ _ _).2.2.2.2.2.2.2.1, _, rfl, .inl ⟨A, y, L, n, _, rfl, hH, hk, ?_⟩⟩
  refine ⟨_, rfl, A.p, _, A.dx, _, _, rfl, hH.get 1 rfl, T.cl_Yard, T.n_Yard_kinds, fl_kinds _ _ _, _, rfl, A.k, _, rfl, (by rw [<- hk]; exact DGet.k (k := Sum.inl n) (hH.get 3 rfl)), .inl ⟨k, rfl, k.many, rfl, by omega, by omega, for_range (fun i σ H' => ∃ o1 : Option V, σ = [some (.ref A.p), some (.int n), o1] /\ Has H' (yL t.c_Yard A y ++ L) /\ ∀ e : Int, 0 <= e -> e < i -> valV y.mates (kE n e) = none) ⟨_, rfl, hH, fun e h0 h1 => absurd h1 (by omega)⟩ ?_ ?_⟩⟩
  ·rintro i σ H1 hi ⟨o1, rfl, h1, hv⟩
   refine ⟨_, rfl, _, rfl, (show 2 <= sizeLine by decide), fun b hb => ?_⟩
   have h2 := h1.alloc hb (.tup [.int n, .int (0 + (i : Int))])
   by_cases hm : valV y.mates (kE n (0 + (i : Int))) = none
   ·refine ⟨_, rfl, A.p, _, A.dx, _, _, rfl, h2.get 2 rfl, T.cl_Yard, T.n_Yard_mates, fl_mates _ _ _, A.m, _, rfl, DGet.t (k := kE n (0 + (i : Int))) (h2.get 8 rfl) (h2.get 0 rfl), _, rfl, ifF (by rw [hm]; rfl) ?_⟩
    refine ⟨_, rfl, h2.tail, fun e e0 e1 => ?_⟩
    by_cases c : e = 0 + (i : Int)
    ·rw [c]; exact hm
    ·exact hv e e0 (by omega)
   ·refine ⟨_, rfl, A.p, _, A.dx, _, _, rfl, h2.get 2 rfl, T.cl_Yard, T.n_Yard_mates, fl_mates _ _ _, A.m, _, rfl, DGet.t (k := kE n (0 + (i : Int))) (h2.get 8 rfl) (h2.get 0 rfl), _, rfl, ifT (by cases e : valV y.mates (kE n (0 + (i : Int))) with | none => exact absurd e hm | some v => rfl) ?_⟩
    have hi3 : i < 3 := by have := hi; omega
    rcases hN with ⟨_, q⟩ | ⟨hall, _⟩
    ·exact rz11c rfl (small_of (Nat.lt_of_le_of_lt (show (0 + (i : Int)).natAbs <= 3 by omega) (by decide))) rfl hs (fun a => q _ [_] a h2)
    ·exact absurd (hall _ (by omega) (by omega)) hm
  ·rintro σ H1 ⟨o1, rfl, h1, hv⟩
   have ek : ((k.many).toNat : Int) = k.many := by omega
   rcases hN with ⟨⟨e, e0, e1, hm⟩, _⟩ | ⟨_, ⟨b, m, en, mb⟩, q⟩
   ·exact absurd (hv e e0 (by omega)) hm
   ·refine ⟨_, rfl, A.p, _, A.dx, _, _, rfl, h1.get 1 rfl, T.cl_Yard, T.n_Ja_end, fl_eng _ _ _, rfl, _, rfl, ifT (by rw [en]; rfl) ?_⟩
    have gb := h1.at_ _ (List.mem_append_right _ mb)
    dsimp only at gb
    refine ⟨_, rfl, A.p, _, A.dx, _, _, rfl, h1.get 1 rfl, T.cl_Yard, T.n_Ja_end, fl_eng _ _ _, b, _, _, _, en, rfl, SqT.of gb, rfl, _, rfl, rfl, _, rfl, ?_⟩
    rw [decInt]
    exact ifT (decide_eq_true rfl) (rz1 rfl hs (fun a => q _ a h1))
def spR_lay (C KK N R : Addr) : Sp := fun vs H _ E => ∃ (A : YA) (y : YR) (L : Kn) (x : Str) (note : Int) (rod : V), vs = [.ref A.p, .str x, .int note, rod] /\ Has H (yL C A y ++ L) /\
 ((badK x /\ (reprText x).length <= 1000 /\ ∀ a, E (.ref KK) (some a) H) ∨ (x = Kd.bell.str /\ (note < 0 ∨ 9999 < note) /\ L2.Small note /\ ∀ a, E (.ref N) (some a) H) ∨
  ∃ (k : Kd) (r : Int), x = k.str /\ k.point = true /\ rod = .int r /\ (r < 0 ∨ (y.sides.length : Int) <= r) /\ L2.Small r /\ ∀ a, E (.ref R) (some a) H)
theorem okR_Jx (T : Txt K mg t) : FnOk P w K mg base (CXr P w) 3 t.f_Jx t.d_Jx ["self", "kind", "note", "rod"] (spR_lay t.c_Yard t.c_NoKind t.c_NoNote t.c_NoRod) := by
 obtain ⟨ds_nr, hd_J9_1, hb_J9_1⟩ := bD_J9_1 T
 refine T.F_Jx.okR scLy (fun vs H Q E h => ?_) (fun cdv A outer s H vs Q E hr h => ?_)
 ·obtain ⟨_, _, _, _, _, _, rfl, _⟩ := h
  rfl
 ·obtain ⟨A, y, L, x, note, rod, rfl, hH, hN⟩ := h
  have hu := hu_of hr
  refine ⟨_, (pss_cons (ps_set (i := 4) scLy.nd rfl (Or.inl rfl) (pe_call (okB_Ju T) (hr.mono (by decide)) (by rfl) T.m_Ju T.F_Ju.kp (b_Ju T) .nil passR (pa_cons (pv 1) pa_nil)))
   (pss_cons (ps_if (pt_cmpR op_eq (pv 1) pe_str (nomark _))
    (pss_one (ps_expr (pe_call (okB_Jf T) (hr.mono (by decide)) (by rfl) T.m_Jf T.F_Jf.kp (b_Jf T) .nil passR (pa_cons (pv 2) pa_nil))))
    pss_nil)
   (pss_cons (ps_if (PW.pt (pw_and (pt_val (pv 4)) (pw_and1 (pt_cmpR op_notN (pv 3) pe_non (nomark _)))))
    (pss_one (ps_expr (pe_meth (pv 0) T.cl_Yard T.M_J6 (okB_J6 T) (hr.mono (by decide)) (b_J6 T) .nil passR (pa_cons (pv 3) pa_nil))))
    pss_nil)
   (pss_cons (ps_set (i := 5) scLy.nd rfl (Or.inl rfl) (pe_fld (pv 0) rfl))
   (pss_cons (ps_fldaug (pv 0) pe_int in_add)
   (pss_cons (ps_dput hu (pe_fld (pv 0) rfl) (pv 5) (pv 1) rfl)
   (pss_cons (ps_if (pt_cmpR op_eq (pv 1) pe_str (nomark _))
    (pss_one (ps_dput hu (pe_fld (pv 0) rfl) (pv 5) (pv 2) rfl))
    pss_nil)
   (pss_cons (ps_if (pt_val (pv 4))
    (pss_one (ps_dput hu (pe_fld (pv 0) rfl) (pv 5) (pe_ifExp (pt_cmpR op_isN (pv 3) pe_non (nomark _)) (pe_meth0 (pv 0) T.cl_Yard T.M_J9 (okR_J9 T) (hr.mono (by decide)) hb_J9_1 hd_J9_1 passR) (pv 3)) rfl))
    pss_nil)
   (pss_cons (ps_expr (pe_meth0 (pv 0) T.cl_Yard T.M_J5 (ok_J5 T) (hr.mono (by decide)) (b_J5 T) .nil pass0))
   (pss_one (ps_ret (pv 5)))))))))))), ?_⟩
  rcases hN with ⟨hb, hl, q⟩ | ⟨rfl, hn, hs, q⟩ | ⟨k, r, rfl, kp, rfl, hb, hs, q⟩
  ·exact ⟨_, rfl, .inr ⟨x, rfl, hb, hl, q⟩⟩
  ·refine ⟨_, rfl, .inl ⟨Kd.bell, rfl, ?_⟩⟩
   refine ⟨_, rfl, rfl, _, rfl, ifT (by rfl) ?_⟩
   exact ⟨_, rfl, .inr ⟨note, rfl, hn, hs, q⟩⟩
  ·refine ⟨_, rfl, .inl ⟨k, rfl, ?_⟩⟩
   refine ⟨_, rfl, rfl, _, rfl, ?_⟩
   rw [k.isBell]
   refine ifF (decide_eq_false (fun e => by rw [e] at kp; cases kp)) ?_
   refine ⟨_, rfl, _, rfl, ifT kp ?_⟩
   refine ⟨_, rfl, rfl, _, rfl, ifT (by simp) ?_⟩
   exact ⟨_, rfl, A.p, A.dx, _, rfl, hH.get 1 rfl, (fl_m _ _ _).2.2.2.2.2.2.2.2, _, rfl, .inr ⟨A, y, L, r, rfl, hH, hb, hs, q⟩⟩
end
end P
set_option Elab.async false
set_option linter.all false
set_option maxRecDepth 100000
set_option maxHeartbeats 4000000
namespace P
open PySem L2
theorem hcast {H : Hp} {L L' : Kn} (h : Has H L) (e : L = L') : Has H L' := e ▸ h
theorem sz {n : Nat} (h : n <= 1000000) : n <= sizeLine := Nat.le_of_lt (sizeOk h)
theorem flags_fil : ∀ i, i < 22 -> ((flagsOf i).filter (·.2)).map (·.1) = [nameAt i]
 | 0, _ => rfl
 | 1, _ => rfl
 | 2, _ => rfl
 | 3, _ => rfl
 | 4, _ => rfl
 | 5, _ => rfl
 | 6, _ => rfl
 | 7, _ => rfl
 | 8, _ => rfl
 | 9, _ => rfl
 | 10, _ => rfl
 | 11, _ => rfl
 | 12, _ => rfl
 | 13, _ => rfl
 | 14, _ => rfl
 | 15, _ => rfl
 | 16, _ => rfl
 | 17, _ => rfl
 | 18, _ => rfl
 | 19, _ => rfl
 | 20, _ => rfl
 | 21, _ => rfl
 | i + 22, h => absurd h (by omega)
def tupsOf (ts : List (Addr × Str × Bool)) : Kn := ts.map fun z => (z.1, HO.tup [.str z.2.1, .bl z.2.2])
def refsOf (ts : List (Addr × Str × Bool)) : List V := ts.map fun z => V.ref z.1
def sp_names (K : PySem.W.Frag) (t : Adr) : Sp := fun vs H Q _ => ∃ (a C : Addr) (i : Nat) (L : Kn), vs = [.ref a] /\ Has H L /\ (a, HO.ext (ExcAt a C)) ∈ L /\ excAll K C t.c_RailError (dsOf t i) = true /\
 ∀ H' p ts, ts.map (·.2) = flagsOf i -> Has H' ((p, .lst (refsOf ts)) :: ((tupsOf ts).reverse ++ L)) -> Q (.ref p) H'
def refSp (K : PySem.W.Frag) (t : Adr) : (Hp -> VK -> XK -> Prop) -> Hp -> VK -> Prop := fun spD H Q => ∃ (X0 L : Kn) (R : V -> Kn -> Prop) (RX : Nat -> Kn -> Prop), Has H (X0 ++ L) /\
 (∀ H1 L1 Q1 E1, Has H1 (X0 ++ L1) -> (∀ v N H2, R v N -> Has H2 (N ++ L1) -> Q1 v H2) -> (∀ C a i N H2, RX i N -> i < 22 -> excAll K C t.c_RailError (dsOf t i) = true -> Has H2 (N ++ L1) -> E1 (.ref C) (some a) H2) -> spD H1 Q1 E1) /\
 (∀ v N r H2, R v N -> Has H2 ((r, .lst []) :: (N ++ L)) -> Q (.ref r) H2) /\
 (∀ i N r H2, RX i N -> i < 22 -> Has H2 ((r, .lst [.str (nameAt i)]) :: (N ++ L)) -> Q (.ref r) H2)
section
variable {P : Program} {w : World} {K : PySem.W.Frag} {mg : Str -> Option Value} {base : Heap} {t : Adr}
theorem scNm : FnScope ["_law_e"] ["_law_e"] (defScope s_names) := ⟨rfl, rfl, rfl, by decide +kernel, rfl, by decide +kernel, by decide +kernel⟩
theorem ok_names (T : Txt K mg t) : FnOkQ P w K mg base 1 t.f_names t.d_names ["_law_e"] (sp_names K t) := by
 refine T.F_names.okQ scNm (fun vs H Q E h => ?_) (fun cdv A outer s H vs Q E hr h => ?_)
 ·obtain ⟨_, _, _, _, rfl, _⟩ := h
  rfl
 ·obtain ⟨a, C, i, L, rfl, h0, m0, hx, q⟩ := h
  refine ⟨_, (pss_one (ps_ret (pe_lst (@pa_cons _ _ _ _ _ (pe_tup (pa_cons pe_str (pa_cons (pe_callB call_isiE (by rfl) T.z_isinstance (by rfl) (pa_cons (pv 0) (pa_cons (pe_glob (v := .ref t.c_NoKind) (by rfl) T.m_NoKind rfl) pa_nil))) pa_nil))) (@pa_cons _ _ _ _ _ (pe_tup (pa_cons pe_str (pa_cons (pe_callB call_isiE (by rfl) T.z_isinstance (by rfl) (pa_cons (pv 0) (pa_cons (pe_glob (v := .ref t.c_NoEnd) (by rfl) T.m_NoEnd rfl) pa_nil))) pa_nil))) (@pa_cons _ _ _ _ _ (pe_tup (pa_cons pe_str (pa_cons (pe_callB call_isiE (by rfl) T.z_isinstance (by rfl) (pa_cons (pv 0) (pa_cons (pe_glob (v := .ref t.c_NoSide) (by rfl) T.m_NoSide rfl) pa_nil))) pa_nil))) (@pa_cons _ _ _ _ _ (pe_tup (pa_cons pe_str (pa_cons (pe_callB call_isiE (by rfl) T.z_isinstance (by rfl) (pa_cons (pv 0) (pa_cons (pe_glob (v := .ref t.c_NoNote) (by rfl) T.m_NoNote rfl) pa_nil))) pa_nil))) (@pa_cons _ _ _ _ _ (pe_tup (pa_cons pe_str (pa_cons (pe_callB call_isiE (by rfl) T.z_isinstance (by rfl) (pa_cons (pv 0) (pa_cons (pe_glob (v := .ref t.c_NoPiece) (by rfl) T.m_NoPiece rfl) pa_nil))) pa_nil))) (@pa_cons _ _ _ _ _ (pe_tup (pa_cons pe_str (pa_cons (pe_callB call_isiE (by rfl) T.z_isinstance (by rfl) (pa_cons (pv 0) (pa_cons (pe_glob (v := .ref t.c_NoRod) (by rfl) T.m_NoRod rfl) pa_nil))) pa_nil))) (@pa_cons _ _ _ _ _ (pe_tup (pa_cons pe_str (pa_cons (pe_callB call_isiE (by rfl) T.z_isinstance (by rfl) (pa_cons (pv 0) (pa_cons (pe_glob (v := .ref t.c_NoPoint) (by rfl) T.m_NoPoint rfl) pa_nil))) pa_nil))) (@pa_cons _ _ _ _ _ (pe_tup (pa_cons pe_str (pa_cons (pe_callB call_isiE (by rfl) T.z_isinstance (by rfl) (pa_cons (pv 0) (pa_cons (pe_glob (v := .ref t.c_NoBell) (by rfl) T.m_NoBell rfl) pa_nil))) pa_nil))) (@pa_cons _ _ _ _ _ (pe_tup (pa_cons pe_str (pa_cons (pe_callB call_isiE (by rfl) T.z_isinstance (by rfl) (pa_cons (pv 0) (pa_cons (pe_glob (v := .ref t.c_SameEnd) (by rfl) T.m_SameEnd rfl) pa_nil))) pa_nil))) (@pa_cons _ _ _ _ _ (pe_tup (pa_cons pe_str (pa_cons (pe_callB call_isiE (by rfl) T.z_isinstance (by rfl) (pa_cons (pv 0) (pa_cons (pe_glob (v := .ref t.c_Linked) (by rfl) T.m_Linked rfl) pa_nil))) pa_nil))) (@pa_cons _ _ _ _ _ (pe_tup (pa_cons pe_str (pa_cons (pe_callB call_isiE (by rfl) T.z_isinstance (by rfl) (pa_cons (pv 0) (pa_cons (pe_glob (v := .ref t.c_NotLinked) (by rfl) T.m_NotLinked rfl) pa_nil))) pa_nil))) (@pa_cons _ _ _ _ _ (pe_tup (pa_cons pe_str (pa_cons (pe_callB call_isiE (by rfl) T.z_isinstance (by rfl) (pa_cons (pv 0) (pa_cons (pe_glob (v := .ref t.c_Occupied) (by rfl) T.m_Occupied rfl) pa_nil))) pa_nil))) (@pa_cons _ _ _ _ _ (pe_tup (pa_cons pe_str (pa_cons (pe_callB call_isiE (by rfl) T.z_isinstance (by rfl) (pa_cons (pv 0) (pa_cons (pe_glob (v := .ref t.c_NoStand) (by rfl) T.m_NoStand rfl) pa_nil))) pa_nil))) (@pa_cons _ _ _ _ _ (pe_tup (pa_cons pe_str (pa_cons (pe_callB call_isiE (by rfl) T.z_isinstance (by rfl) (pa_cons (pv 0) (pa_cons (pe_glob (v := .ref t.c_NoMany) (by rfl) T.m_NoMany rfl) pa_nil))) pa_nil))) (@pa_cons _ _ _ _ _ (pe_tup (pa_cons pe_str (pa_cons (pe_callB call_isiE (by rfl) T.z_isinstance (by rfl) (pa_cons (pv 0) (pa_cons (pe_glob (v := .ref t.c_NoStretch) (by rfl) T.m_NoStretch rfl) pa_nil))) pa_nil))) (@pa_cons _ _ _ _ _ (pe_tup (pa_cons pe_str (pa_cons (pe_callB call_isiE (by rfl) T.z_isinstance (by rfl) (pa_cons (pv 0) (pa_cons (pe_glob (v := .ref t.c_NoRow) (by rfl) T.m_NoRow rfl) pa_nil))) pa_nil))) (@pa_cons _ _ _ _ _ (pe_tup (pa_cons pe_str (pa_cons (pe_callB call_isiE (by rfl) T.z_isinstance (by rfl) (pa_cons (pv 0) (pa_cons (pe_glob (v := .ref t.c_NoMark) (by rfl) T.m_NoMark rfl) pa_nil))) pa_nil))) (@pa_cons _ _ _ _ _ (pe_tup (pa_cons pe_str (pa_cons (pe_callB call_isiE (by rfl) T.z_isinstance (by rfl) (pa_cons (pv 0) (pa_cons (pe_glob (v := .ref t.c_NoCounter) (by rfl) T.m_NoCounter rfl) pa_nil))) pa_nil))) (@pa_cons _ _ _ _ _ (pe_tup (pa_cons pe_str (pa_cons (pe_callB call_isiE (by rfl) T.z_isinstance (by rfl) (pa_cons (pv 0) (pa_cons (pe_glob (v := .ref t.c_NoWidth) (by rfl) T.m_NoWidth rfl) pa_nil))) pa_nil))) (@pa_cons _ _ _ _ _ (pe_tup (pa_cons pe_str (pa_cons (pe_callB call_isiE (by rfl) T.z_isinstance (by rfl) (pa_cons (pv 0) (pa_cons (pe_glob (v := .ref t.c_NoValue) (by rfl) T.m_NoValue rfl) pa_nil))) pa_nil))) (@pa_cons _ _ _ _ _ (pe_tup (pa_cons pe_str (pa_cons (pe_callB call_isiE (by rfl) T.z_isinstance (by rfl) (pa_cons (pv 0) (pa_cons (pe_glob (v := .ref t.c_FallsOut) (by rfl) T.m_FallsOut rfl) pa_nil))) pa_nil))) (@pa_cons _ _ _ _ _ (pe_tup (pa_cons pe_str (pa_cons (pe_callB call_isiE (by rfl) T.z_isinstance (by rfl) (pa_cons (pv 0) (pa_cons (pe_glob (v := .ref t.c_NoText) (by rfl) T.m_NoText rfl) pa_nil))) pa_nil))) (@pa_cons _ _ _ _ _ (pe_tup (pa_cons pe_str (pa_cons (pe_not (pe_callB call_isiE (by rfl) T.z_isinstance (by rfl) (pa_cons (pv 0) (pa_cons (pe_bltn (v := .ty "ValueError") (by rfl) T.z_ValueError (by rfl) rfl) pa_nil)))) pa_nil))) pa_nil (by rfl)) (by rfl)) (by rfl)) (by rfl)) (by rfl)) (by rfl)) (by rfl)) (by rfl)) (by rfl)) (by rfl)) (by rfl)) (by rfl)) (by rfl)) (by rfl)) (by rfl)) (by rfl)) (by rfl)) (by rfl)) (by rfl)) (by rfl)) (by rfl)) (by rfl)) (by rfl))))), ?_⟩
  refine ⟨_, rfl, a, C, _, _, rfl, ⟨_, .inl rfl⟩, h0.at_ _ m0, excAll_cls hx, excAll_kit hx 0 rfl, sizeOk' (show 2 <= 1000000 by decide), fun t0 ht0 => ?_⟩
  have h1 := h0.alloc ht0 (.tup [.str "NoKind", .bl (i == 0)])
  have m1 := List.mem_cons_of_mem (t0, HO.tup [.str "NoKind", .bl (i == 0)]) m0
  refine ⟨_, rfl, a, C, _, _, rfl, ⟨_, .inl rfl⟩, h1.at_ _ m1, excAll_cls hx, excAll_kit hx 1 rfl, sizeOk' (show 2 <= 1000000 by decide), fun t1 ht1 => ?_⟩
  have h2 := h1.alloc ht1 (.tup [.str "NoEnd", .bl (i == 1)])
  have m2 := List.mem_cons_of_mem (t1, HO.tup [.str "NoEnd", .bl (i == 1)]) m1
  refine ⟨_, rfl, a, C, _, _, rfl, ⟨_, .inl rfl⟩, h2.at_ _ m2, excAll_cls hx, excAll_kit hx 2 rfl, sizeOk' (show 2 <= 1000000 by decide), fun t2 ht2 => ?_⟩
  have h3 := h2.alloc ht2 (.tup [.str "NoSide", .bl (i == 2)])
  have m3 := List.mem_cons_of_mem (t2, HO.tup [.str "NoSide", .bl (i == 2)]) m2
  refine ⟨_, rfl, a, C, _, _, rfl, ⟨_, .inl rfl⟩, h3.at_ _ m3, excAll_cls hx, excAll_kit hx 3 rfl, sizeOk' (show 2 <= 1000000 by decide), fun t3 ht3 => ?_⟩
  have h4 := h3.alloc ht3 (.tup [.str "NoNote", .bl (i == 3)])
  have m4 := List.mem_cons_of_mem (t3, HO.tup [.str "NoNote", .bl (i == 3)]) m3
  refine ⟨_, rfl, a, C, _, _, rfl, ⟨_, .inl rfl⟩, h4.at_ _ m4, excAll_cls hx, excAll_kit hx 4 rfl, sizeOk' (show 2 <= 1000000 by decide), fun t4 ht4 => ?_⟩
  have h5 := h4.alloc ht4 (.tup [.str "NoPiece", .bl (i == 4)])
  have m5 := List.mem_cons_of_mem (t4, HO.tup [.str "NoPiece", .bl (i == 4)]) m4
  refine ⟨_, rfl, a, C, _, _, rfl, ⟨_, .inl rfl⟩, h5.at_ _ m5, excAll_cls hx, excAll_kit hx 5 rfl, sizeOk' (show 2 <= 1000000 by decide), fun t5 ht5 => ?_⟩
  have h6 := h5.alloc ht5 (.tup [.str "NoRod", .bl (i == 5)])
  have m6 := List.mem_cons_of_mem (t5, HO.tup [.str "NoRod", .bl (i == 5)]) m5
  refine ⟨_, rfl, a, C, _, _, rfl, ⟨_, .inl rfl⟩, h6.at_ _ m6, excAll_cls hx, excAll_kit hx 6 rfl, sizeOk' (show 2 <= 1000000 by decide), fun t6 ht6 => ?_⟩
  have h7 := h6.alloc ht6 (.tup [.str "NoPoint", .bl (i == 6)])
  have m7 := List.mem_cons_of_mem (t6, HO.tup [.str "NoPoint", .bl (i == 6)]) m6
  refine ⟨_, rfl, a, C, _, _, rfl, ⟨_, .inl rfl⟩, h7.at_ _ m7, excAll_cls hx, excAll_kit hx 7 rfl, sizeOk' (show 2 <= 1000000 by decide), fun t7 ht7 => ?_⟩
  have h8 := h7.alloc ht7 (.tup [.str "NoBell", .bl (i == 7)])
  have m8 := List.mem_cons_of_mem (t7, HO.tup [.str "NoBell", .bl (i == 7)]) m7
  refine ⟨_, rfl, a, C, _, _, rfl, ⟨_, .inl rfl⟩, h8.at_ _ m8, excAll_cls hx, excAll_kit hx 8 rfl, sizeOk' (show 2 <= 1000000 by decide), fun t8 ht8 => ?_⟩
  have h9 := h8.alloc ht8 (.tup [.str "SameEnd", .bl (i == 8)])
  have m9 := List.mem_cons_of_mem (t8, HO.tup [.str "SameEnd", .bl (i == 8)]) m8
  refine ⟨_, rfl, a, C, _, _, rfl, ⟨_, .inl rfl⟩, h9.at_ _ m9, excAll_cls hx, excAll_kit hx 9 rfl, sizeOk' (show 2 <= 1000000 by decide), fun t9 ht9 => ?_⟩
  have h10 := h9.alloc ht9 (.tup [.str "Linked", .bl (i == 9)])
  have m10 := List.mem_cons_of_mem (t9, HO.tup [.str "Linked", .bl (i == 9)]) m9
  refine ⟨_, rfl, a, C, _, _, rfl, ⟨_, .inl rfl⟩, h10.at_ _ m10, excAll_cls hx, excAll_kit hx 10 rfl, sizeOk' (show 2 <= 1000000 by decide), fun t10 ht10 => ?_⟩
  have h11 := h10.alloc ht10 (.tup [.str "NotLinked", .bl (i == 10)])
  have m11 := List.mem_cons_of_mem (t10, HO.tup [.str "NotLinked", .bl (i == 10)]) m10
  refine ⟨_, rfl, a, C, _, _, rfl, ⟨_, .inl rfl⟩, h11.at_ _ m11, excAll_cls hx, excAll_kit hx 11 rfl, sizeOk' (show 2 <= 1000000 by decide), fun t11 ht11 => ?_⟩
  have h12 := h11.alloc ht11 (.tup [.str "Occupied", .bl (i == 11)])
  have m12 := List.mem_cons_of_mem (t11, HO.tup [.str "Occupied", .bl (i == 11)]) m11
  refine ⟨_, rfl, a, C, _, _, rfl, ⟨_, .inl rfl⟩, h12.at_ _ m12, excAll_cls hx, excAll_kit hx 12 rfl, sizeOk' (show 2 <= 1000000 by decide), fun t12 ht12 => ?_⟩
  have h13 := h12.alloc ht12 (.tup [.str "NoStand", .bl (i == 12)])
  have m13 := List.mem_cons_of_mem (t12, HO.tup [.str "NoStand", .bl (i == 12)]) m12
  refine ⟨_, rfl, a, C, _, _, rfl, ⟨_, .inl rfl⟩, h13.at_ _ m13, excAll_cls hx, excAll_kit hx 13 rfl, sizeOk' (show 2 <= 1000000 by decide), fun t13 ht13 => ?_⟩
  have h14 := h13.alloc ht13 (.tup [.str "NoMany", .bl (i == 13)])
  have m14 := List.mem_cons_of_mem (t13, HO.tup [.str "NoMany", .bl (i == 13)]) m13
  refine ⟨_, rfl, a, C, _, _, rfl, ⟨_, .inl rfl⟩, h14.at_ _ m14, excAll_cls hx, excAll_kit hx 14 rfl, sizeOk' (show 2 <= 1000000 by decide), fun t14 ht14 => ?_⟩
  have h15 := h14.alloc ht14 (.tup [.str "NoStretch", .bl (i == 14)])
  have m15 := List.mem_cons_of_mem (t14, HO.tup [.str "NoStretch", .bl (i == 14)]) m14
  refine ⟨_, rfl, a, C, _, _, rfl, ⟨_, .inl rfl⟩, h15.at_ _ m15, excAll_cls hx, excAll_kit hx 15 rfl, sizeOk' (show 2 <= 1000000 by decide), fun t15 ht15 => ?_⟩
  have h16 := h15.alloc ht15 (.tup [.str "NoRow", .bl (i == 15)])
  have m16 := List.mem_cons_of_mem (t15, HO.tup [.str "NoRow", .bl (i == 15)]) m15
  refine ⟨_, rfl, a, C, _, _, rfl, ⟨_, .inl rfl⟩, h16.at_ _ m16, excAll_cls hx, excAll_kit hx 16 rfl, sizeOk' (show 2 <= 1000000 by decide), fun t16 ht16 => ?_⟩
  have h17 := h16.alloc ht16 (.tup [.str "NoMark", .bl (i == 16)])
  have m17 := List.mem_cons_of_mem (t16, HO.tup [.str "NoMark", .bl (i == 16)]) m16
  refine ⟨_, rfl, a, C, _, _, rfl, ⟨_, .inl rfl⟩, h17.at_ _ m17, excAll_cls hx, excAll_kit hx 17 rfl, sizeOk' (show 2 <= 1000000 by decide), fun t17 ht17 => ?_⟩
  have h18 := h17.alloc ht17 (.tup [.str "NoCounter", .bl (i == 17)])
  have m18 := List.mem_cons_of_mem (t17, HO.tup [.str "NoCounter", .bl (i == 17)]) m17
  refine ⟨_, rfl, a, C, _, _, rfl, ⟨_, .inl rfl⟩, h18.at_ _ m18, excAll_cls hx, excAll_kit hx 18 rfl, sizeOk' (show 2 <= 1000000 by decide), fun t18 ht18 => ?_⟩
  have h19 := h18.alloc ht18 (.tup [.str "NoWidth", .bl (i == 18)])
  have m19 := List.mem_cons_of_mem (t18, HO.tup [.str "NoWidth", .bl (i == 18)]) m18
  refine ⟨_, rfl, a, C, _, _, rfl, ⟨_, .inl rfl⟩, h19.at_ _ m19, excAll_cls hx, excAll_kit hx 19 rfl, sizeOk' (show 2 <= 1000000 by decide), fun t19 ht19 => ?_⟩
  have h20 := h19.alloc ht19 (.tup [.str "NoValue", .bl (i == 19)])
  have m20 := List.mem_cons_of_mem (t19, HO.tup [.str "NoValue", .bl (i == 19)]) m19
  refine ⟨_, rfl, a, C, _, _, rfl, ⟨_, .inl rfl⟩, h20.at_ _ m20, excAll_cls hx, excAll_kit hx 20 rfl, sizeOk' (show 2 <= 1000000 by decide), fun t20 ht20 => ?_⟩
  have h21 := h20.alloc ht20 (.tup [.str "FallsOut", .bl (i == 20)])
  have m21 := List.mem_cons_of_mem (t20, HO.tup [.str "FallsOut", .bl (i == 20)]) m20
  refine ⟨_, rfl, a, C, _, _, rfl, ⟨_, .inl rfl⟩, h21.at_ _ m21, excAll_cls hx, excAll_kit hx 21 rfl, sizeOk' (show 2 <= 1000000 by decide), fun t21 ht21 => ?_⟩
  have h22 := h21.alloc ht21 (.tup [.str "NoText", .bl (i == 21)])
  have m22 := List.mem_cons_of_mem (t21, HO.tup [.str "NoText", .bl (i == 21)]) m21
  refine ⟨_, rfl, a, C, _, _, rfl, ⟨0, .inr ⟨_, rfl⟩⟩, h22.at_ _ m22, excAll_cls hx, excAll_ve hx, _, rfl, sizeOk' (show 2 <= 1000000 by decide), fun t22 ht22 => ?_⟩
  have h23 := h22.alloc ht22 (.tup [.str "plain", .bl (!true)])
  refine ⟨sizeOk' (show 23 <= 1000000 by decide), fun p hp => ?_⟩
  exact q _ p [(t0, "NoKind", i == 0), (t1, "NoEnd", i == 1), (t2, "NoSide", i == 2), (t3, "NoNote", i == 3), (t4, "NoPiece", i == 4), (t5, "NoRod", i == 5), (t6, "NoPoint", i == 6), (t7, "NoBell", i == 7), (t8, "SameEnd", i == 8), (t9, "Linked", i == 9), (t10, "NotLinked", i == 10), (t11, "Occupied", i == 11), (t12, "NoStand", i == 12), (t13, "NoMany", i == 13), (t14, "NoStretch", i == 14), (t15, "NoRow", i == 15), (t16, "NoMark", i == 16), (t17, "NoCounter", i == 17), (t18, "NoWidth", i == 18), (t19, "NoValue", i == 19), (t20, "FallsOut", i == 20), (t21, "NoText", i == 21), (t22, "plain", false)] rfl (h23.alloc hp _)
theorem scRf : FnScope ["_law_deed", "_law_pairs", "_law_e"] ["_law_deed"] (defScope s_J11) := ⟨rfl, rfl, rfl, by decide +kernel, rfl, by decide +kernel, by decide +kernel⟩
theorem ok_J11 (T : Txt K mg t) : RefOk P w K mg base 10 8 t.f_J11 (refSp K t) := by
 refine (T.e_J11 ▸ T.F_J11).refOk (N := ["_law_deed", "_law_pairs", "_law_e"]) (y := "_law_deed") scRf (b_J11 T) (fun cdv A outer s H g spD Q hr D hrs => ?_)
 obtain ⟨X0, L, R, RX, hH, hD, hR, hRX⟩ := hrs
 obtain ⟨t3, h3, fin⟩ : ∃ t3 : TS, PSs (cxOf CX0 P w K mg base ["_law_deed", "_law_pairs", "_law_e"] "_law_refused" (defScope s_J11) t.f_J11 cdv A outer s H E0).nox ((defBody s_J11).drop 2) t3 /\
   ∀ (o : Option V) (H1 : Hp) (p : Addr) (ts : List (Addr × Str × Bool)) (L1 : Kn) (D1 : Ends), ts.length <= 1000 -> Has H1 ((p, .lst (refsOf ts)) :: ((tupsOf ts).reverse ++ L1)) ->
    (∀ H2 r, Has H2 ((r, .lst (((ts.map (·.2)).filter (·.2)).map fun z => .str z.1)) :: L1) -> D1.rt (.ref r) H2) -> t3 D1 [some (.ref g), some (.ref p), o] H1 := by
  refine ⟨_, (pss_one (ps_ret (pe_lc (esc := defScope s_J11) (k := 2) ["_law_name", "_law_so", "_law_deed", "_law_pairs", "_law_e"] rfl (pi_list (pv 1)) (fun _ _ _ _ _ => by exact (pg_tupK (K := K) (n := 2) rfl rfl (pgs_cons (pg_name (i := 0) (show List.Nodup (["_law_name", "_law_so", "_law_deed", "_law_pairs", "_law_e"] : List Str) from by decide +kernel) rfl (Or.inl rfl)) (pgs_cons (pg_name (i := 1) (show List.Nodup (["_law_name", "_law_so", "_law_deed", "_law_pairs", "_law_e"] : List Str) from by decide +kernel) rfl (Or.inl rfl)) pgs_nil)))) (fun _ _ _ _ _ => by exact (pts_one (pt_val (pv 1)))) (fun _ _ _ _ _ => by exact (pv 0)) rfl (by decide +kernel) (by decide +kernel) rfl (by decide +kernel) (by rfl) (fun _ _ h _ => h) (by decide +kernel)))), ?_⟩
  intro o H1 p ts L1 D1 hts h1 hq
  have inT : ∀ {H2 : Hp} {c : Addr × HO} {j : Nat} {z : Addr × Str × Bool}, Has H2 (c :: (p, .lst (refsOf ts)) :: ((tupsOf ts).reverse ++ L1)) -> ts[j]? = some z -> H2 z.1 = some (.tup [.str z.2.1, .bl z.2.2]) := fun {H2 c j z} h e => by
   refine h.at_ (z.1, _) (List.mem_cons_of_mem _ (List.mem_cons_of_mem _ (List.mem_append_left _ (List.mem_reverse.mpr ?_))))
   exact List.mem_map.mpr ⟨z, List.mem_of_getElem? e, rfl⟩
  refine ⟨_, rfl, p, rfl, ⟨_, SqL.of (h1.get 0 rfl)⟩, fun Dl hDl => ?_⟩
  refine ⟨fun n m zs H2 => m = ts.length - n /\ n <= ts.length /\ zs = (((ts.take n).map (·.2)).filter (·.2)).map (fun z => V.str z.1) /\ Has H2 ((Dl, .lst zs) :: (p, .lst (refsOf ts)) :: ((tupsOf ts).reverse ++ L1)), ⟨_, rfl, Nat.zero_le _, rfl, h1.alloc hDl _⟩, ?_⟩
  rintro n m zs H2 ⟨rfl, hn, ez, h2⟩
  refine ⟨h2.get 0 rfl, ?_⟩
  have g0 := h2.get 1 rfl
  by_cases hlt : n < ts.length
  ·have hx0 : (refsOf ts)[n]? = some (.ref ts[n].1) := by unfold refsOf; rw [List.getElem?_map, List.getElem?_eq_getElem hlt]; rfl
   have e0 : ts[n]? = some ts[n] := List.getElem?_eq_getElem hlt
   refine .inr ⟨⟨_, _, SqL.of g0, hx0⟩, ?_⟩
   rintro x H3 ⟨rfl, hx⟩
   have e1 := hx _ (SqL.of g0)
   rw [hx0] at e1
   cases e1
   have lz : zs.length <= 1000 := by
    rw [ez, List.length_map]
    refine Nat.le_trans (List.length_filter_le _ _) ?_
    rw [List.length_map, List.length_take]
    omega
   have tk : ts.take (n + 1) = ts.take n ++ [ts[n]] := by rw [List.take_succ, e0]; rfl
   refine ⟨ts[n].1, _, rfl, SqT.of (inT h2 e0), rfl, _, _, rfl, _, _, rfl, rfl, ?_⟩
   refine ⟨rfl, _, rfl, _, rfl, ?_⟩
   cases hb : ts[n].2.2 with
   | true =>
    refine iteT ⟨_, rfl, sizeOk (by omega), h2.get 0 rfl, ts.length - (n + 1), by omega, rfl, hlt, ?_, h2.puti 0 rfl _⟩
    rw [tk, List.map_append, List.filter_append, List.map_append, <- ez]
    show zs ++ [V.str ts[n].2.1] = zs ++ ((List.filter (·.2) [ts[n].2]).map fun z => V.str z.1)
    rw [List.filter_cons_of_pos hb]
    rfl
   | false =>
    refine iteF ⟨ts.length - (n + 1), by omega, rfl, hlt, ?_, h2⟩
    rw [tk, List.map_append, List.filter_append, List.map_append, <- ez]
    show zs = zs ++ ((List.filter (·.2) [ts[n].2]).map fun z => V.str z.1)
    rw [List.filter_cons_of_neg (by rw [hb]; exact Bool.false_ne_true)]
    simp
  ·have en : n = ts.length := by omega
   refine .inl ⟨⟨_, SqL.of g0, by unfold refsOf; rw [List.length_map]; omega⟩, ?_⟩
   rw [en, List.take_length] at ez
   subst ez
   exact hq _ Dl (h2.sub (.cons_cons _ (.cons _ (List.sublist_append_right _ _))))
 refine ⟨_, (pss_cons (ps_set (i := 1) scRf.nd rfl (Or.inl rfl) (pe_lst pa_nil)) (pss_cons (ps_try (i := 0) (j := 2) D (hr.mono (by decide)) rfl rfl rfl (pv 0) (by rfl) T.m_RailError scRf.nd rfl rfl (fun e => pss_one (ps_set (i := 1) scRf.nd rfl (Or.inl rfl) (pe_callQ (ok_names T) ((hr.mono (by decide)).qm _) (by rfl) T.m_names T.F_names.kp (b_names T) (pa_cons (pv 2) pa_nil))))) h3)), ?_⟩
 refine ⟨sizeOk' (show 0 <= 1000000 by decide), fun p0 hp0 => ?_⟩
 have h1 := hH.alloc hp0 (.lst [])
 refine ⟨rfl, fun Cv ao H2 => ∃ C a i N, Cv = .ref C /\ ao = some a /\ RX i N /\ i < 22 /\ excAll K C t.c_RailError (dsOf t i) = true /\ Has H2 (N ++ ((p0, .lst []) :: L)), hD _ ((p0, .lst []) :: L) _ _ h1.inn (fun v N H2 hRv h2 => ?_) (fun C a i N H2 r1 r2 r3 h2 => ⟨C, a, i, N, rfl, rfl, r1, r2, r3, h2⟩), ?_⟩
 ·exact fin _ _ p0 [] (N ++ L) _ (Nat.zero_le _) h2.out fun H3 r h3' => hR v N r H3 hRv h3'
 ·rintro C a H2 ⟨C', a', i, N, rfl, ea, r1, r2, r3, h2⟩ hn
  cases ea
  refine ⟨C', rfl, excAll_exm r3, ?_⟩
  have h4 := h2.alloc hn (.ext (ExcAt a C'))
  refine ⟨_, rfl, a, C', i, _, rfl, h4, List.mem_cons_self, r3, fun H3 p ts ets h5 => ?_⟩
  have h6 : Has H3 ((p, .lst (refsOf ts)) :: ((tupsOf ts).reverse ++ (N ++ L))) := by
   refine h5.sub (List.Sublist.cons_cons _ ?_)
   refine List.Sublist.append_left ?_ _
   exact List.Sublist.cons _ (List.Sublist.append_left (List.Sublist.cons _ (List.Sublist.refl _)) _)
  refine fin _ _ p ts (N ++ L) _ (by have := congrArg List.length ets; simp [flagsOf] at this; omega) h6 fun H4 r h7 => ?_
  rw [ets] at h7
  have e := flags_fil i r2
  refine hRX i N r H4 r1 r2 ?_
  have e2 : (((flagsOf i).filter (·.2)).map fun z => V.str z.1) = [V.str (nameAt i)] := by
   have := congrArg (List.map V.str) e
   rw [List.map_map] at this
   exact this
  rw [<- e2]
  exact h7
end
theorem eqvR (d : PyData) (h : d.canLay0 = true) : PyData.eqv d d = true := PySem.SeqAt.eqv_refl d h
def strsD (ns : List Str) : PyData := .list (ns.map PyData.str)
theorem strsD_dv {K : PySem.W.Frag} {H : Hp} {l : Addr} {ns : List Str} (h : H l = some (.lst (ns.map V.str))) : DV K H (strsD ns) (.ref l) := by
 unfold strsD DV
 exact ⟨l, _, rfl, SqL.of h, DVs.map _ _ _ fun x _ => by unfold DV; rfl⟩
def dueN : Option Nat -> List Str
 | none => []
 | some i => [nameAt i]
theorem nameAt_ok : ∀ i, i < 22 -> PyData.strOk (nameAt i) = true
 | 0, _ => by decide +kernel
 | 1, _ => by decide +kernel
 | 2, _ => by decide +kernel
 | 3, _ => by decide +kernel
 | 4, _ => by decide +kernel
 | 5, _ => by decide +kernel
 | 6, _ => by decide +kernel
 | 7, _ => by decide +kernel
 | 8, _ => by decide +kernel
 | 9, _ => by decide +kernel
 | 10, _ => by decide +kernel
 | 11, _ => by decide +kernel
 | 12, _ => by decide +kernel
 | 13, _ => by decide +kernel
 | 14, _ => by decide +kernel
 | 15, _ => by decide +kernel
 | 16, _ => by decide +kernel
 | 17, _ => by decide +kernel
 | 18, _ => by decide +kernel
 | 19, _ => by decide +kernel
 | 20, _ => by decide +kernel
 | 21, _ => by decide +kernel
 | i + 22, h => absurd h (by omega)
theorem dueLay (o : Option Nat) (h : ∀ i, o = some i -> i < 22) : (strsD (dueN o)).canLay0 = true := by
 cases o with
 | none => rfl
 | some i => simp [strsD, dueN, PyData.canLay0, PyData.canLayAll0, nameAt_ok i (h i rfl)]
theorem dueSh (o : Option Nat) (h : ∀ i, o = some i -> i < 22) : SeqAt.shaped (strsD (dueN o)) = true := by
 refine shaped_of (dueLay o h) ?_
 cases o <;> simp [strsD, dueN, PyData.depth, PyData.depthAll]
theorem dropL {H : Hp} {M : Kn} : ∀ {G : Kn}, Has H (G ++ M) -> Has H M
 | [], h => h
 | _ :: G, h => dropL (G := G) h.tail
def NT (z : Addr × HO) : Prop := ∀ ps, z.2 ≠ .tbl ps
theorem Tb.ne {H : Hp} {Z L : Kn} {Pt : Addr} {qual : Str} {z : Addr × HO} (T : Tb L Pt qual) (h : Has H (Z ++ L)) (m : z ∈ L) (hz : NT z) : z.1 ≠ Pt := fun e => by
 obtain ⟨ps, mp, _⟩ := T.ex
 have q1 := h.at_ _ (List.mem_append_right _ m)
 have q2 := h.at_ _ (List.mem_append_right _ mp)
 rw [e, q2] at q1
 exact hz _ (Option.some.inj q1).symm
theorem Tb.other {H : Hp} {Z L L' : Kn} {Pt Pf : Addr} {qual q2 : Str} (T : Tb L Pt qual) (F : Tb L Pf q2) (h : Has H (Z ++ L)) (ne : Pf ≠ Pt) (kp : ∀ z ∈ L, z.1 ≠ Pt -> z ∈ L') : Tb L' Pf q2 := by
 obtain ⟨ps, m, tr, hp⟩ := F.ex
 exact ⟨ps, kp _ m ne, tr, fun pos => (hp pos).imp id fun ⟨c', oc, vs, t, a, b, c, d⟩ => ⟨c', oc, vs, t, a, kp _ b (Tb.ne T h b (fun _ e => nomatch e)), c, d⟩⟩
end P
set_option Elab.async false
set_option linter.all false
set_option maxRecDepth 100000
set_option maxHeartbeats 4000000
namespace P
open PySem L2
abbrev En := Addr × Int × Int
structure Wd where
 kf : Int -> Option Kd
 nf : Int -> Int
 rf : Int -> Int
 mf : Int -> Int -> Option En
structure Sd where
 ss : List Int
 at_ : Option En
 rg : List Int
def Wd.sv (w : Wd) (s : Sd) (n : Int) : Int := s.ss.getD (w.rf n).toNat 0
def Wd.ok (w : Wd) (z : En) : Prop := ∃ k, w.kf z.2.1 = some k /\ 0 <= z.2.2 /\ z.2.2 < k.many
def stepS (w : Wd) (s : Sd) (z : En) (k : Kd) (z' : En) : Sd :=
 ⟨if k.point then s.ss.set (w.rf z.2.1).toNat (k.side z.2.2 (w.sv s z.2.1)) else s.ss, some z', if k = .bell then s.rg ++ [w.nf z.2.1] else s.rg⟩
def Wd.nx (w : Wd) (s : Sd) : Option Sd :=
 match s.at_ with
 | none => none
 | some z => match w.kf z.2.1 with
  | none => none
  | some k => match k.out z.2.2 (w.sv s z.2.1) with
   | .int o => (w.mf z.2.1 o).map (stepS w s z k)
   | _ => none
def Wd.why (w : Wd) (s : Sd) : V :=
 match s.at_ with
 | none => .str "none"
 | some z => match w.kf z.2.1 with
  | none => .non
  | some k => match k.out z.2.2 (w.sv s z.2.1) with
   | .int o => (match w.mf z.2.1 o with | none => .str "loose" | some _ => .non)
   | _ => .str "stop"
def Wd.go (w : Wd) : Nat -> Sd -> Sd
 | 0, s => s
 | n + 1, s => match w.nx s with | none => s | some s' => w.go n s'
def Wd.hist (w : Wd) : Nat -> Sd -> List Sd
 | 0, _ => []
 | n + 1, s => match w.nx s with | none => [] | some s' => s :: w.hist n s'
def Wd.tv (w : Wd) (s : Sd) (z : En) : V := match w.kf z.2.1 with | some k => if k.point then .int (w.sv s z.2.1) else .non | none => .non
def Wd.tr (w : Wd) (s : Sd) : HO := match s.at_ with | some z => .tup [.ref z.1, w.tv s z] | none => .tup []
def trK (w : Wd) (ts : List (Addr × Sd)) : Kn := ts.map fun x => (x.1, w.tr x.2)
def trV (ts : List (Addr × Sd)) : List V := ts.map fun x => V.ref x.1
def enV : Option En -> V
 | none => .non
 | some z => .ref z.1
structure Rep (w : Wd) (s : Sd) (y : YR) : Prop where
 kd : ∀ n k, w.kf n = some k -> valV y.kinds (Sum.inl n) = some (.str k.str)
 no : ∀ n k, w.kf n = some k -> valV y.notes (Sum.inl n) = if k = .bell then some (.int (w.nf n)) else none
 ro : ∀ n k, w.kf n = some k -> valV y.rods (Sum.inl n) = if k.point = true then some (.int (w.rf n)) else none
 rr : ∀ n k, w.kf n = some k -> k.point = true -> 0 <= w.rf n /\ w.rf n < s.ss.length
 sd : y.sides = s.ss.map V.int
 s12 : ∀ x ∈ s.ss, x = 1 ∨ x = 2
 mt : ∀ n e, valV y.mates (kE n e) = (w.mf n e).map fun z => V.ref z.1
 mo : ∀ n e z, w.mf n e = some z -> w.ok z
 en : y.eng = enV s.at_
 eo : ∀ z, s.at_ = some z -> w.ok z
 rg : y.rung = s.rg.map V.int
structure Pool (w : Wd) (s : Sd) (L : Kn) : Prop where
 m : ∀ n e z, w.mf n e = some z -> ∃ j : Nat, L[j]? = some (z.1, HO.tup [.int z.2.1, .int z.2.2])
 e : ∀ z, s.at_ = some z -> ∃ j : Nat, L[j]? = some (z.1, HO.tup [.int z.2.1, .int z.2.2])
theorem Rep.s1 {w : Wd} {s : Sd} {y : YR} (R : Rep w s y) {n : Int} {k : Kd} (hk : w.kf n = some k) (hp : k.point = true) : w.sv s n = 1 ∨ w.sv s n = 2 := by
 obtain ⟨h0, h1⟩ := R.rr n k hk hp
 refine R.s12 _ ?_
 unfold Wd.sv
 rw [List.getD_eq_getElem?_getD, List.getElem?_eq_getElem (by omega)]
 exact List.getElem_mem _
theorem Rep.sideAt {w : Wd} {s : Sd} {y : YR} (R : Rep w s y) {n : Int} {k : Kd} (hk : w.kf n = some k) (hp : k.point = true) : y.sides[(w.rf n).toNat]? = some (.int (w.sv s n)) := by
 obtain ⟨h0, h1⟩ := R.rr n k hk hp
 rw [R.sd, List.getElem?_map, List.getElem?_eq_getElem (by omega)]
 unfold Wd.sv
 rw [List.getD_eq_getElem?_getD, List.getElem?_eq_getElem (by omega)]
 rfl
theorem Kd.out_in {k : Kd} {e s o : Int} (e0 : 0 <= e) (e1 : e < k.many) (hs : k.point = true -> s = 1 ∨ s = 2) (h : k.out e s = .int o) : 0 <= o /\ o < k.many := by
 unfold Kd.out at h
 by_cases c : k = .stop
 ·rw [if_pos c] at h; cases h
 rw [if_neg c] at h
 by_cases p : k.point = true
 ·rw [if_pos p] at h
  have m := Kd.many_point p
  rcases hs p with r | r <;> split at h <;> (injection h with h; omega)
 ·rw [if_neg p] at h
  have m : k.many = 2 := by cases k <;> first | rfl | (exfalso; exact c rfl) | (exfalso; exact p rfl)
  injection h with h
  omega
theorem stepS_at (w : Wd) (s : Sd) (z : En) (k : Kd) (z' : En) : (stepS w s z k z').at_ = some z' := rfl
theorem nx_some {w : Wd} {s s' : Sd} (h : w.nx s = some s') : ∃ (z : En) (k : Kd) (o : Int) (z' : En), s.at_ = some z /\ w.kf z.2.1 = some k /\ k.out z.2.2 (w.sv s z.2.1) = .int o /\ w.mf z.2.1 o = some z' /\ s' = stepS w s z k z' := by
 unfold Wd.nx at h
 split at h
 ·cases h
 ·rename_i z hz
  split at h
  ·cases h
  ·rename_i k hk
   split at h
   ·rename_i o ho
    obtain ⟨z', hm, e⟩ := Option.map_eq_some_iff.mp h
    exact ⟨z, k, o, z', hz, hk, ho, hm, e.symm⟩
   ·cases h
theorem nx_of {w : Wd} {s : Sd} {z : En} {k : Kd} {o : Int} {z' : En} (hz : s.at_ = some z) (hk : w.kf z.2.1 = some k) (ho : k.out z.2.2 (w.sv s z.2.1) = .int o) (hm : w.mf z.2.1 o = some z') : w.nx s = some (stepS w s z k z') := by
 unfold Wd.nx
 simp only [hz, hk, ho, hm, Option.map_some]
theorem stepS_keep {w : Wd} {s : Sd} {y y' : YR} {z : En} {k : Kd} {z' : En} {o : Int} (R : Rep w s y) (hz : s.at_ = some z) (hk : w.kf z.2.1 = some k) (hm : w.mf z.2.1 o = some z')
  (e1 : y'.kinds = y.kinds) (e2 : y'.notes = y.notes) (e3 : y'.rods = y.rods) (e4 : y'.mates = y.mates) (e5 : y'.sides = (stepS w s z k z').ss.map V.int) (e6 : y'.eng = .ref z'.1) (e7 : y'.rung = (stepS w s z k z').rg.map V.int) :
  Rep w (stepS w s z k z') y' := by
 have hl : (stepS w s z k z').ss.length = s.ss.length := by
  unfold stepS; dsimp only; split
  ·exact List.length_set
  ·rfl
 refine ⟨fun n k h => by rw [e1]; exact R.kd n k h, fun n k h => by rw [e2]; exact R.no n k h, fun n k h => by rw [e3]; exact R.ro n k h, fun n k h1 h2 => by rw [hl]; exact R.rr n k h1 h2, e5, fun x hx => ?_, fun n e => by rw [e4]; exact R.mt n e, R.mo, e6, fun u hu => ?_, e7⟩
 ·unfold stepS at hx
  dsimp only at hx
  split at hx
  ·rename_i hp
   rcases List.mem_or_eq_of_mem_set hx with hx | hx
   ·exact R.s12 x hx
   ·obtain ⟨k', h1, h2, h3⟩ := R.eo z hz
    rw [hk] at h1
    cases h1
    rw [hx]
    exact Kd.side12 h2 h3 (R.s1 hk hp)
  ·exact R.s12 x hx
 ·rw [stepS_at] at hu
  cases hu
  exact R.mo _ _ _ hm
theorem Pool.step {w : Wd} {s s' : Sd} {L : Kn} (p : Pool w s L) (h : w.nx s = some s') : Pool w s' L := by
 obtain ⟨z, k, o, z', _, _, _, hm, rfl⟩ := nx_some h
 refine ⟨p.m, fun u hu => ?_⟩
 rw [stepS_at] at hu
 cases hu
 exact p.m _ _ _ hm
inductive Nxt (w : Wd) (s : Sd) : List V -> Prop
 | held (h : w.nx s = none) (x : Str) (e : w.why s = .str x) : Nxt w s [.str x, .non, .non]
 | goes (z : En) (k : Kd) (o : Int) (z' : En) (hz : s.at_ = some z) (hk : w.kf z.2.1 = some k) (ho : k.out z.2.2 (w.sv s z.2.1) = .int o) (hm : w.mf z.2.1 o = some z') :
   Nxt w s [.non, .ref z'.1, if k.point then .int (k.side z.2.2 (w.sv s z.2.1)) else .non]
def sp_carry (C : Addr) : Sp := fun vs H Q _ => ∃ (A : YA) (y : YR) (L : Kn) (w : Wd) (s : Sd) (z : En) (k : Kd) (z' : En), vs = [.ref A.p, .ref z'.1, if k.point then .int (k.side z.2.2 (w.sv s z.2.1)) else .non] /\ Has H (yL C A y ++ L) /\ Rep w s y /\ s.at_ = some z /\ w.kf z.2.1 = some k /\
 (∃ j : Nat, L[j]? = some (z.1, HO.tup [.int z.2.1, .int z.2.2])) /\ y.trail.length <= 900000 /\ y.rung.length <= 900000 /\
 ∀ H' a, Has H' (yL C A { y with sides := (stepS w s z k z').ss.map V.int, eng := .ref z'.1, rung := (stepS w s z k z').rg.map V.int, trail := y.trail ++ [.ref a] } ++ ((a, w.tr s) :: L)) -> Q .non H'
def sp_next (C : Addr) : Sp := fun vs H Q _ => ∃ (A : YA) (y : YR) (L : Kn) (w : Wd) (s : Sd), vs = [.ref A.p] /\ Has H (yL C A y ++ L) /\ Rep w s y /\ Pool w s L /\
 ∀ H' p xs, Nxt w s xs -> Has H' ((p, .tup xs) :: (yL C A y ++ L)) -> Q (.ref p) H'
def sp_run (C : Addr) : Sp := fun vs H Q _ => ∃ (A : YA) (y : YR) (L : Kn) (w : Wd) (s : Sd) (ts : List (Addr × Sd)) (m : Int), vs = [.ref A.p, .int m] /\ Has H (yL C A y ++ (trK w ts ++ L)) /\ Rep w s y /\ Pool w s L /\ y.trail = trV ts /\ ts.length + m <= 900000 /\ y.rung.length + m <= 900000 /\ ts.length <= 900000 /\ y.rung.length <= 900000 /\
 ∀ H' y' ts', Has H' (yL C A y' ++ (trK w (ts ++ ts') ++ L)) -> Rep w (w.go m.toNat s) y' -> y'.trail = trV (ts ++ ts') -> ts'.map (·.2) = w.hist m.toNat s -> y'.next = y.next -> y'.kinds = y.kinds -> y'.notes = y.notes -> y'.rods = y.rods -> y'.mates = y.mates -> Pool w (w.go m.toNat s) L -> Q (.int ts'.length) H'
theorem why_none {w : Wd} {s : Sd} (h : s.at_ = none) : w.nx s = none /\ w.why s = .str "none" := by
 unfold Wd.nx Wd.why; simp only [h]; exact ⟨trivial, trivial⟩
theorem why_stop {w : Wd} {s : Sd} {z : En} {k : Kd} (hz : s.at_ = some z) (hk : w.kf z.2.1 = some k) (ho : k.out z.2.2 (w.sv s z.2.1) = .non) : w.nx s = none /\ w.why s = .str "stop" := by
 unfold Wd.nx Wd.why; simp only [hz, hk, ho]; exact ⟨trivial, trivial⟩
theorem why_loose {w : Wd} {s : Sd} {z : En} {k : Kd} {o : Int} (hz : s.at_ = some z) (hk : w.kf z.2.1 = some k) (ho : k.out z.2.2 (w.sv s z.2.1) = .int o) (hm : w.mf z.2.1 o = none) : w.nx s = none /\ w.why s = .str "loose" := by
 unfold Wd.nx Wd.why; simp only [hz, hk, ho, hm, Option.map_none]; exact ⟨trivial, trivial⟩
theorem why_goes {w : Wd} {s : Sd} {z : En} {k : Kd} {o : Int} {z' : En} (hz : s.at_ = some z) (hk : w.kf z.2.1 = some k) (ho : k.out z.2.2 (w.sv s z.2.1) = .int o) (hm : w.mf z.2.1 o = some z') : w.why s = .non := by
 unfold Wd.why; simp only [hz, hk, ho, hm]
theorem Nxt.why {w : Wd} {s : Sd} {xs : List V} (h : Nxt w s xs) : xs.length = 3 /\ xs[0]? = some (w.why s) := by
 cases h with
 | held h x e => rw [e]; exact ⟨rfl, rfl⟩
 | goes z k o z' hz hk ho hm => rw [why_goes hz hk ho hm]; exact ⟨rfl, rfl⟩
theorem go_succ (w : Wd) {s s' : Sd} (h : w.nx s = some s') (n : Nat) : w.go (n + 1) s = w.go n s' := by show (match w.nx s with | none => s | some s' => w.go n s') = _; rw [h]
theorem hist_succ (w : Wd) {s s' : Sd} (h : w.nx s = some s') (n : Nat) : w.hist (n + 1) s = s :: w.hist n s' := by show (match w.nx s with | none => [] | some s' => s :: w.hist n s') = _; rw [h]
theorem go_held (w : Wd) {s : Sd} (h : w.nx s = none) : ∀ n, w.go n s = s
 | 0 => rfl
 | n + 1 => by show (match w.nx s with | none => s | some s' => w.go n s') = _; rw [h]
theorem hist_held (w : Wd) {s : Sd} (h : w.nx s = none) : ∀ n, w.hist n s = []
 | 0 => rfl
 | n + 1 => by show (match w.nx s with | none => [] | some s' => s :: w.hist n s') = _; rw [h]
theorem trK_snoc (w : Wd) (ts : List (Addr × Sd)) (a : Addr) (s : Sd) (L : Kn) : trK w (ts ++ [(a, s)]) ++ L = trK w ts ++ ((a, w.tr s) :: L) := by
 unfold trK; rw [List.map_append, List.append_assoc]; rfl
theorem stepS_rg_le {w : Wd} {s : Sd} {z : En} {k : Kd} {z' : En} : (stepS w s z k z').rg.length <= s.rg.length + 1 := by
 unfold stepS; dsimp only; split
 ·simp
 ·omega
theorem go_len (w : Wd) : ∀ (n : Nat) (s : Sd), (w.go n s).ss.length = s.ss.length
 | 0, s => rfl
 | n + 1, s => by
  cases h : w.nx s with
  | none => rw [go_held w h]
  | some s' =>
   rw [go_succ w h, go_len w n s']
   obtain ⟨z, k, o, z', _, _, _, _, rfl⟩ := nx_some h
   unfold stepS; dsimp only; split
   ·exact List.length_set
   ·rfl
theorem Pool.app {w : Wd} {s : Sd} {L : Kn} (p : Pool w s L) (M : Kn) : Pool w s (M ++ L) := by
 have sh : ∀ {x : Addr × HO}, (∃ j : Nat, L[j]? = some x) -> ∃ j : Nat, (M ++ L)[j]? = some x := fun {x} ⟨j, h⟩ => ⟨M.length + j, by rw [List.getElem?_append_right (by omega), show M.length + j - M.length = j by omega]; exact h⟩
 exact ⟨fun n e z h => sh (p.m n e z h), fun z h => sh (p.e z h)⟩
def runInv (C : Addr) (A : YA) (y : YR) (L : Kn) (W : Wd) (s : Sd) (ts : List (Addr × Sd)) (m : Int) (r : Nat) (σ : St) (H : Hp) : Prop :=
 ∃ (i : Nat) (y1 : YR) (ts1 : List (Addr × Sd)) (s1 : Sd) (o1 o2 o3 : Option V), r = m.toNat - i /\ i <= m.toNat /\ σ = [some (.ref A.p), some (.int m), some (.int i), o1, o2, o3] /\ Has H (yL C A y1 ++ (trK W (ts ++ ts1) ++ L)) /\ Rep W s1 y1 /\ Pool W s1 L /\ y1.trail = trV (ts ++ ts1) /\ ts1.length = i /\
  W.go m.toNat s = W.go (m.toNat - i) s1 /\ W.hist m.toNat s = ts1.map (·.2) ++ W.hist (m.toNat - i) s1 /\ y1.rung.length <= y.rung.length + i /\ y1.next = y.next /\ y1.kinds = y.kinds /\ y1.notes = y.notes /\ y1.rods = y.rods /\ y1.mates = y.mates
section
variable {P : Program} {w : World} {K : PySem.W.Frag} {mg : Str -> Option Value} {base : Heap} {t : Adr}
theorem scCy : FnScope ["self", "end", "side", "piece", "rod"] ["self", "end", "side"] (defScope s_Jh) := ⟨rfl, rfl, rfl, by decide +kernel, rfl, by decide +kernel, by decide +kernel⟩
theorem ok_Jh (T : Txt K mg t) : FnOk P w K mg base CX0 1 t.f_Jh t.d_Jh ["self", "end", "side"] (sp_carry t.c_Yard) := by
 refine T.F_Jh.ok scCy (fun vs H Q E h => ?_) (fun cdv A outer s H vs Q E hr h => ?_)
 ·obtain ⟨_, _, _, _, _, _, _, _, rfl, _⟩ := h
  rfl
 ·obtain ⟨A, y, L, W, s1, z, k, z', rfl, hH, R, hz, hk, ⟨j, hj⟩, tl, rl, q⟩ := h
  have hu := hu_of hr
  refine ⟨_, (pss_cons (ps_set (i := 3) scCy.nd rfl (Or.inl rfl) (pe_ix ix_tup (pe_fld (pv 0) rfl) pe_int (fun _ _ => rfl)))
   (pss_cons (ps_set (i := 4) scCy.nd rfl (Or.inl rfl) (pe_dget1 hu (pe_fld (pv 0) rfl) (pv 3) ⟨rfl, rfl, rfl, rfl⟩))
   (pss_cons (ps_expr (pe_bm PySem.F.plainAttrs_list PySem.F.slot_list_append PySem.F.type_list_append mt_append (pe_fld (pv 0) rfl) (@pa_cons _ _ _ _ _ (pe_tup (pa_cons (pe_fld (pv 0) rfl) (pa_cons (pe_ifExp (pt_cmpR op_isN (pv 4) pe_non (nomark _)) pe_non (pe_ix ix_list (pe_fld (pv 0) rfl) (pv 4) (fun _ _ => rfl))) pa_nil))) pa_nil (by rfl))))
   (pss_cons (ps_if (pt_cmpR op_notN (pv 4) pe_non (nomark _))
    (pss_one (ps_asg (pv 2) (pg_sub (pe_fld (pv 0) rfl) (pv 4) set_list)))
    pss_nil)
   (pss_cons (ps_if (pt_cmp (pc_din hu (pv 3) (pe_fld (pv 0) rfl)))
    (pss_one (ps_expr (pe_bm PySem.F.plainAttrs_list PySem.F.slot_list_append PySem.F.type_list_append mt_append (pe_fld (pv 0) rfl) (pa_cons (pe_dget hu (pe_fld (pv 0) rfl) (pv 3) (fun _ _ => rfl)) pa_nil))))
    pss_nil)
   (pss_one (ps_fld (pv 0) (pv 1) rfl))))))), ?_⟩
  have gz := hH.get (j + 9) (by simpa [yL] using hj)
  have en : y.eng = .ref z.1 := by rw [R.en, hz]; rfl
  refine ⟨_, rfl, A.p, _, A.dx, _, _, rfl, hH.get 1 rfl, T.cl_Yard, T.n_Ja_end, fl_eng _ _ _, z.1, _, _, _, en, rfl, SqT.of gz, rfl, ?_⟩
  refine ⟨_, rfl, A.p, _, A.dx, _, _, rfl, hH.get 1 rfl, T.cl_Yard, T.n_Jr_under, fl_rods _ _ _, A.r, rfl, .inl ⟨_, .inl (hH.get 5 rfl)⟩, _, rfl, _, DGet.k (k := Sum.inl z.2.1) (hH.get 5 rfl), ?_⟩
  refine ⟨_, rfl, A.p, _, A.dx, _, _, rfl, hH.get 1 rfl, T.cl_Yard, T.n_Yard_trail, fl_trail _ _ _, .inl ⟨rfl, _, SqL.of (hH.get 0 rfl)⟩, ?_⟩
  refine ⟨_, rfl, A.p, _, A.dx, _, _, rfl, hH.get 1 rfl, T.cl_Yard, T.n_Ja_end, fl_eng _ _ _, _, rfl, rfl, _, rfl, ?_⟩
  rw [R.ro _ _ hk, en]
  have etr : W.tr s1 = .tup [.ref z.1, if k.point then .int (W.sv s1 z.2.1) else .non] := by unfold Wd.tr; rw [hz]; show HO.tup [.ref z.1, W.tv s1 z] = _; unfold Wd.tv; rw [hk]
  by_cases hp : k.point = true
  ·rw [if_pos hp] at etr ⊢
   try rw [if_pos hp]
   obtain ⟨r0, r1⟩ := R.rr _ _ hk hp
   have sa := R.sideAt hk hp
   refine ifF rfl ?_
   refine ⟨_, rfl, A.p, _, A.dx, _, _, rfl, hH.get 1 rfl, T.cl_Yard, T.n_Yard_sides, fl_sides _ _ _, _, rfl, A.s, _, W.rf z.2.1, _, rfl, rfl, SqL.of (hH.get 6 rfl), (by rw [show W.rf z.2.1 = (((W.rf z.2.1).toNat : Nat) : Int) by omega]; exact atI_nat sa), ?_⟩
   refine ⟨(show 2 <= sizeLine by decide), fun a ha => ?_⟩
   have h1 := hH.alloc ha (.tup [.ref z.1, .int (W.sv s1 z.2.1)])
   refine ⟨A.tr, _, _, rfl, rfl, h1.get 1 rfl, sizeOk (by omega), ?_⟩
   have h2 := Has.comm (X := [_]) (Y := yL t.c_Yard A { y with trail := y.trail ++ [.ref a] }) (R := L) (h1.puti 1 rfl (.lst (y.trail ++ [.ref a])))
   generalize upd (upd H a _) A.tr _ = H2 at h2 ⊢
   replace h2 : Has H2 (yL t.c_Yard A { y with trail := y.trail ++ [.ref a] } ++ ((a, W.tr s1) :: L)) := by rw [etr]; exact h2
   clear h1 ha
   refine ⟨_, rfl, rfl, _, rfl, ifT rfl ?_⟩
   have sl : y.sides.length = s1.ss.length := by rw [R.sd, List.length_map]
   have hjx : ixN y.sides.length (W.rf z.2.1) = some (W.rf z.2.1).toNat := by unfold ixN; rw [if_pos r0, if_pos (by omega)]
   refine ⟨_, rfl, _, rfl, A.p, _, A.dx, _, _, rfl, h2.get 1 rfl, T.cl_Yard, T.n_Yard_sides, fl_sides _ _ _, _, rfl, A.s, _, _, _, rfl, rfl, h2.get 6 rfl, hjx, ?_⟩
   have h3 := h2.puti 6 rfl (.lst (y.sides.set (W.rf z.2.1).toNat (.int (k.side z.2.2 (W.sv s1 z.2.1)))))
   have es : (stepS W s1 z k z').ss.map V.int = y.sides.set (W.rf z.2.1).toNat (.int (k.side z.2.2 (W.sv s1 z.2.1))) := by unfold stepS; dsimp only; rw [if_pos hp, List.map_set, R.sd]
   have hT : Has _ (yL t.c_Yard A { y with sides := y.sides.set (W.rf z.2.1).toNat (.int (k.side z.2.2 (W.sv s1 z.2.1))), trail := y.trail ++ [.ref a] } ++ ((a, W.tr s1) :: L)) := h3
   refine ⟨_, rfl, _, rfl, A.p, _, A.dx, _, _, rfl, hT.get 1 rfl, T.cl_Yard, T.n_Yard_notes, fl_notes _ _ _, A.n, _, rfl, DGet.k (k := Sum.inl z.2.1) (hT.get 4 rfl), _, rfl, if2 (fun hb => ?_) (fun hb => ?_)⟩
   ·have kb : k = .bell := by
     rw [R.no _ _ hk] at hb
     by_cases c : k = .bell
     ·exact c
     ·rw [if_neg c] at hb; cases hb
    have nv : valV y.notes (Sum.inl z.2.1) = some (.int (W.nf z.2.1)) := by rw [R.no _ _ hk, if_pos kb]
    refine ⟨_, rfl, A.p, _, A.dx, _, _, rfl, hT.get 1 rfl, T.cl_Yard, T.n_Yard_rung, fl_rung _ _ _, .inl ⟨rfl, _, SqL.of (hT.get 8 rfl)⟩, _, rfl, A.p, _, A.dx, _, _, rfl, hT.get 1 rfl, T.cl_Yard, T.n_Yard_notes, fl_notes _ _ _, _, rfl, A.n, _, rfl, (by rw [<- nv]; exact DGet.k (k := Sum.inl z.2.1) (hT.get 4 rfl)), A.g, _, _, rfl, rfl, hT.get 8 rfl, sizeOk (show y.rung.length <= 1000000 by omega), ?_⟩
    have h4 : Has _ (yL t.c_Yard A { y with sides := y.sides.set (W.rf z.2.1).toNat (.int (k.side z.2.2 (W.sv s1 z.2.1))), rung := y.rung ++ [.int (W.nf z.2.1)], trail := y.trail ++ [.ref a] } ++ ((a, W.tr s1) :: L)) := hT.puti 8 rfl (.lst (y.rung ++ [.int (W.nf z.2.1)]))
    refine ⟨_, rfl, _, rfl, A.p, _, A.dx, _, rfl, h4.get 1 rfl, T.cl_Yard, T.n_Ja_end, (show 9 < 1000 by decide), ?_⟩
    rw [fl_put_eng]
    have h5 := h4.puti 1 rfl (.ins t.c_Yard A.dx (fl A y.next (.ref z'.1)))
    have er : (stepS W s1 z k z').rg.map V.int = y.rung ++ [.int (W.nf z.2.1)] := by unfold stepS; dsimp only; rw [if_pos kb, List.map_append, R.rg]; rfl
    refine q _ a ?_
    rw [er, es]
    exact h5
   ·have kb : ¬ k = .bell := fun c => by rw [R.no _ _ hk, if_pos c] at hb; cases hb
    refine ⟨_, rfl, _, rfl, A.p, _, A.dx, _, rfl, hT.get 1 rfl, T.cl_Yard, T.n_Ja_end, (show 9 < 1000 by decide), ?_⟩
    rw [fl_put_eng]
    have h5 := hT.puti 1 rfl (.ins t.c_Yard A.dx (fl A y.next (.ref z'.1)))
    have er : (stepS W s1 z k z').rg.map V.int = y.rung := by unfold stepS; dsimp only; rw [if_neg kb, R.rg]
    refine q _ a ?_
    rw [er, es]
    exact h5
  ·rw [if_neg hp] at etr ⊢
   try rw [if_neg hp]
   refine ifT rfl ?_
   refine ⟨(show 2 <= sizeLine by decide), fun a ha => ?_⟩
   have h1 := hH.alloc ha (.tup [.ref z.1, .non])
   refine ⟨A.tr, _, _, rfl, rfl, h1.get 1 rfl, sizeOk (by omega), ?_⟩
   have h2 := Has.comm (X := [_]) (Y := yL t.c_Yard A { y with trail := y.trail ++ [.ref a] }) (R := L) (h1.puti 1 rfl (.lst (y.trail ++ [.ref a])))
   generalize upd (upd H a _) A.tr _ = H2 at h2 ⊢
   replace h2 : Has H2 (yL t.c_Yard A { y with trail := y.trail ++ [.ref a] } ++ ((a, W.tr s1) :: L)) := by rw [etr]; exact h2
   clear h1 ha
   refine ⟨_, rfl, rfl, _, rfl, ifF rfl ?_⟩
   have h3 := h2
   have es : (stepS W s1 z k z').ss.map V.int = y.sides := by unfold stepS; dsimp only; rw [if_neg hp, R.sd]
   have hT : Has _ (yL t.c_Yard A { y with sides := y.sides, trail := y.trail ++ [.ref a] } ++ ((a, W.tr s1) :: L)) := h3
   refine ⟨_, rfl, _, rfl, A.p, _, A.dx, _, _, rfl, hT.get 1 rfl, T.cl_Yard, T.n_Yard_notes, fl_notes _ _ _, A.n, _, rfl, DGet.k (k := Sum.inl z.2.1) (hT.get 4 rfl), _, rfl, if2 (fun hb => ?_) (fun hb => ?_)⟩
   ·have kb : k = .bell := by
     rw [R.no _ _ hk] at hb
     by_cases c : k = .bell
     ·exact c
     ·rw [if_neg c] at hb; cases hb
    have nv : valV y.notes (Sum.inl z.2.1) = some (.int (W.nf z.2.1)) := by rw [R.no _ _ hk, if_pos kb]
    refine ⟨_, rfl, A.p, _, A.dx, _, _, rfl, hT.get 1 rfl, T.cl_Yard, T.n_Yard_rung, fl_rung _ _ _, .inl ⟨rfl, _, SqL.of (hT.get 8 rfl)⟩, _, rfl, A.p, _, A.dx, _, _, rfl, hT.get 1 rfl, T.cl_Yard, T.n_Yard_notes, fl_notes _ _ _, _, rfl, A.n, _, rfl, (by rw [<- nv]; exact DGet.k (k := Sum.inl z.2.1) (hT.get 4 rfl)), A.g, _, _, rfl, rfl, hT.get 8 rfl, sizeOk (show y.rung.length <= 1000000 by omega), ?_⟩
    have h4 : Has _ (yL t.c_Yard A { y with sides := y.sides, rung := y.rung ++ [.int (W.nf z.2.1)], trail := y.trail ++ [.ref a] } ++ ((a, W.tr s1) :: L)) := hT.puti 8 rfl (.lst (y.rung ++ [.int (W.nf z.2.1)]))
    refine ⟨_, rfl, _, rfl, A.p, _, A.dx, _, rfl, h4.get 1 rfl, T.cl_Yard, T.n_Ja_end, (show 9 < 1000 by decide), ?_⟩
    rw [fl_put_eng]
    have h5 := h4.puti 1 rfl (.ins t.c_Yard A.dx (fl A y.next (.ref z'.1)))
    have er : (stepS W s1 z k z').rg.map V.int = y.rung ++ [.int (W.nf z.2.1)] := by unfold stepS; dsimp only; rw [if_pos kb, List.map_append, R.rg]; rfl
    refine q _ a ?_
    rw [er, es]
    exact h5
   ·have kb : ¬ k = .bell := fun c => by rw [R.no _ _ hk, if_pos c] at hb; cases hb
    refine ⟨_, rfl, _, rfl, A.p, _, A.dx, _, rfl, hT.get 1 rfl, T.cl_Yard, T.n_Ja_end, (show 9 < 1000 by decide), ?_⟩
    rw [fl_put_eng]
    have h5 := hT.puti 1 rfl (.ins t.c_Yard A.dx (fl A y.next (.ref z'.1)))
    have er : (stepS W s1 z k z').rg.map V.int = y.rung := by unfold stepS; dsimp only; rw [if_neg kb, R.rg]
    refine q _ a ?_
    rw [er, es]
    exact h5
theorem scNs : FnScope ["yard", "stand", "piece", "end", "kind", "side", "out", "behind", "mate"] ["yard"] (defScope s_Jk) := ⟨rfl, rfl, rfl, by decide +kernel, rfl, by decide +kernel, by decide +kernel⟩
theorem ok_Jk (T : Txt K mg t) : FnOk P w K mg base CX0 5 t.f_Jk t.d_Jk ["yard"] (sp_next t.c_Yard) := by
 refine T.F_Jk.ok scNs (fun vs H Q E h => ?_) (fun cdv A outer s H vs Q E hr h => ?_)
 ·obtain ⟨_, _, _, _, _, rfl, _⟩ := h
  rfl
 ·obtain ⟨A, y, L, W, s1, rfl, hH, R, PL, q⟩ := h
  have three : 3 <= sizeLine := by decide
  refine ⟨_, (pss_cons (ps_set (i := 1) scNs.nd rfl (Or.inl rfl) (pe_meth0 (pv 0) T.cl_Yard T.M_Ja (ok_Ja T) (hr.mono (by decide)) (b_Ja T) .nil pass0))
   (pss_cons (ps_if (pt_cmpR op_isN (pv 1) pe_non (nomark _))
    (pss_one (ps_ret (pe_tup (pa_cons pe_str (pa_cons pe_non (pa_cons pe_non pa_nil))))))
    pss_nil)
   (pss_cons (ps_asg (pv 1) (pg_tup rfl (pgs_cons (pg_name (i := 2) scNs.nd rfl (Or.inl rfl)) (pgs_cons (pg_name (i := 3) scNs.nd rfl (Or.inl rfl)) pgs_nil))))
   (pss_cons (ps_set (i := 4) scNs.nd rfl (Or.inl rfl) (pe_meth (pv 0) T.cl_Yard T.M_Jo (ok_Jo T) (hr.mono (by decide)) (b_Jo T) .nil pass0 (pa_cons (pv 2) pa_nil)))
   (pss_cons (ps_set (i := 5) scNs.nd rfl (Or.inl rfl) (pe_ifExp (pt_val (pe_call (ok_Ju T) (hr.mono (by decide)) (by rfl) T.m_Ju T.F_Ju.kp (b_Ju T) .nil pass0 (pa_cons (pv 4) pa_nil))) (pe_meth (pv 0) T.cl_Yard T.M_Jq (ok_Jq T) (hr.mono (by decide)) (b_Jq T) .nil pass0 (pa_cons (pe_meth (pv 0) T.cl_Yard T.M_Jy (ok_Jy T) (hr.mono (by decide)) (b_Jy T) .nil pass0 (pa_cons (pv 2) pa_nil)) pa_nil)) pe_non))
   (pss_cons (ps_asg (pe_call (ok_Jz T) (hr.mono (by decide)) (by rfl) T.m_Jz T.F_Jz.kp (b_Jz T) .nil pass0 (pa_cons (pv 4) (pa_cons (pv 3) (pa_cons (pv 5) pa_nil)))) (pg_tup rfl (pgs_cons (pg_name (i := 6) scNs.nd rfl (Or.inl rfl)) (pgs_cons (pg_name (i := 7) scNs.nd rfl (Or.inl rfl)) pgs_nil))))
   (pss_cons (ps_if (pt_cmpR op_isN (pv 6) pe_non (nomark _))
    (pss_one (ps_ret (pe_tup (pa_cons pe_str (pa_cons pe_non (pa_cons pe_non pa_nil))))))
    pss_nil)
   (pss_cons (ps_set (i := 8) scNs.nd rfl (Or.inl rfl) (pe_meth (pv 0) T.cl_Yard T.M_Jp (ok_Jp T) (hr.mono (by decide)) (b_Jp T) .nil pass0 (@pa_cons _ _ _ _ _ (pe_tup (pa_cons (pv 2) (pa_cons (pv 6) pa_nil))) pa_nil (by rfl))))
   (pss_cons (ps_if (pt_cmpR op_isN (pv 8) pe_non (nomark _))
    (pss_one (ps_ret (pe_tup (pa_cons pe_str (pa_cons pe_non (pa_cons pe_non pa_nil))))))
    pss_nil)
   (pss_one (ps_ret (pe_tup (pa_cons pe_non (pa_cons (pv 8) (pa_cons (pv 7) pa_nil))))))))))))))), ?_⟩
  refine ⟨_, rfl, A.p, A.dx, _, rfl, hH.get 1 rfl, (fl_m4 _ _ _).2.2.2.2.2.2.1, A, y, L, rfl, hH, ?_⟩
  refine ⟨_, rfl, rfl, _, rfl, ?_⟩
  rw [R.en]
  cases hz : s1.at_ with
  | none =>
   obtain ⟨n1, n2⟩ := why_none (w := W) hz
   exact iteT ⟨three, fun p hp => q _ p _ (.held n1 _ n2) (hH.alloc hp _)⟩
  | some z =>
   obtain ⟨j, hj⟩ := PL.e z hz
   obtain ⟨k, hk, e0, e1⟩ := R.eo z hz
   have gz := hH.get (j + 9) (by simpa [yL] using hj)
   have vk : valV y.kinds (Sum.inl z.2.1) = some (.str k.str) := R.kd _ _ hk
   refine iteF ?_
   refine ⟨_, rfl, z.1, _, rfl, SqT.of gz, rfl, _, _, rfl, _, _, rfl, rfl, ?_⟩
   refine ⟨_, rfl, A.p, A.dx, _, rfl, hH.get 1 rfl, (fl_m4 _ _ _).2.2.2.2.1, _, rfl, A, y, L, z.2.1, _, rfl, hH, vk, ?_⟩
   refine ⟨_, rfl, k, rfl, _, rfl, ?_⟩
   have thr : ∀ o : Int, k.out z.2.2 (W.sv s1 z.2.1) = .int o -> There y z.2.1 o := fun o ho => by
    have := Kd.out_in e0 e1 (fun hp => R.s1 hk hp) ho
    exact ⟨k, vk, this.1, this.2⟩
   refine if2 (fun hp => ?_) (fun hp => ?_)
   ·obtain ⟨r0, r1⟩ := R.rr _ _ hk hp
    have vr : valV y.rods (Sum.inl z.2.1) = some (.int (W.rf z.2.1)) := by rw [R.ro _ _ hk, if_pos hp]
    refine ⟨_, rfl, A.p, A.dx, _, rfl, hH.get 1 rfl, (fl_m _ _ _).2.2.2.2.2.1, _, rfl, A.p, A.dx, _, rfl, hH.get 1 rfl, (fl_m _ _ _).2.2.2.2.1, _, rfl, A, y, L, z.2.1, _, _, rfl, hH, vk, vr, A, y, L, W.rf z.2.1, _, rfl, hH, r0, R.sideAt hk hp, ?_⟩
    refine ⟨_, rfl, _, rfl, _, rfl, k, z.2.2, W.sv s1 z.2.1, V.int (W.sv s1 z.2.1), rfl, e0, e1, (fun h => ⟨rfl, R.s1 hk hp⟩), fun p hp1 => ?_⟩
    have h1 := hH.alloc hp1 (.tup [k.out z.2.2 (W.sv s1 z.2.1), if k.point then .int (k.side z.2.2 (W.sv s1 z.2.1)) else V.int (W.sv s1 z.2.1)])
    refine ⟨p, _, rfl, SqT.of (h1.get 0 rfl), rfl, _, _, rfl, _, _, rfl, rfl, ?_⟩
    replace h1 := h1.tail
    generalize upd H p _ = H1 at h1 ⊢
    refine ⟨_, rfl, rfl, _, rfl, ?_⟩
    by_cases c : k.out z.2.2 (W.sv s1 z.2.1) = .non
    ·obtain ⟨n1, n2⟩ := why_stop hz hk c
     exact ifT (decide_eq_true c) ⟨three, fun p hp => q _ p _ (.held n1 _ n2) (h1.alloc hp _)⟩
    ·refine ifF (decide_eq_false c) ?_
     obtain ⟨o, ho⟩ := Kd.out_int (k := k) (fun e => c (by unfold Kd.out; rw [if_pos e])) z.2.2 (W.sv s1 z.2.1)
     rw [ho]
     refine ⟨_, rfl, A.p, A.dx, _, rfl, h1.get 1 rfl, (fl_m2 _ _ _).2.1, _, rfl, _, rfl, (show 2 <= sizeLine by decide), fun b hb => ?_⟩
     have h2 := Has.comm (X := [(b, .tup [.int z.2.1, .int o])]) (Y := yL t.c_Yard A y) (R := L) (h1.alloc hb (.tup [.int z.2.1, .int o]))
     generalize upd H1 b _ = H2 at h2 ⊢
     refine ⟨A, y, _, b, z.2.1, o, 0, rfl, h2, rfl, thr o ho, ?_⟩
     have h3 := (Has.comm (X := yL t.c_Yard A y) (Y := [(b, .tup [.int z.2.1, .int o])]) (R := L) h2).tail
     refine ⟨_, rfl, rfl, _, rfl, ?_⟩
     rw [R.mt]
     cases hm : W.mf z.2.1 o with
     | none =>
      obtain ⟨n1, n2⟩ := why_loose hz hk ho hm
      exact iteT ⟨three, fun p hp => q _ p _ (.held n1 _ n2) (h3.alloc hp _)⟩
     | some z' =>
      exact iteF ⟨_, rfl, _, rfl, three, fun p hp => q _ p _ (.goes z k o z' hz hk ho hm) (by rw [if_pos (by assumption : k.point = true)]; have := h3.alloc hp (.tup [.non, .ref z'.1, .int (k.side z.2.2 (W.sv s1 z.2.1))]); simpa [*] using this)⟩
   ·refine ⟨_, rfl, _, rfl, _, rfl, k, z.2.2, W.sv s1 z.2.1, V.non, rfl, e0, e1, (fun h => absurd h (by rw [hp]; decide)), fun p hp1 => ?_⟩
    have h1 := hH.alloc hp1 (.tup [k.out z.2.2 (W.sv s1 z.2.1), if k.point then .int (k.side z.2.2 (W.sv s1 z.2.1)) else V.non])
    refine ⟨p, _, rfl, SqT.of (h1.get 0 rfl), rfl, _, _, rfl, _, _, rfl, rfl, ?_⟩
    replace h1 := h1.tail
    generalize upd H p _ = H1 at h1 ⊢
    refine ⟨_, rfl, rfl, _, rfl, ?_⟩
    by_cases c : k.out z.2.2 (W.sv s1 z.2.1) = .non
    ·obtain ⟨n1, n2⟩ := why_stop hz hk c
     exact ifT (decide_eq_true c) ⟨three, fun p hp => q _ p _ (.held n1 _ n2) (h1.alloc hp _)⟩
    ·refine ifF (decide_eq_false c) ?_
     obtain ⟨o, ho⟩ := Kd.out_int (k := k) (fun e => c (by unfold Kd.out; rw [if_pos e])) z.2.2 (W.sv s1 z.2.1)
     rw [ho]
     refine ⟨_, rfl, A.p, A.dx, _, rfl, h1.get 1 rfl, (fl_m2 _ _ _).2.1, _, rfl, _, rfl, (show 2 <= sizeLine by decide), fun b hb => ?_⟩
     have h2 := Has.comm (X := [(b, .tup [.int z.2.1, .int o])]) (Y := yL t.c_Yard A y) (R := L) (h1.alloc hb (.tup [.int z.2.1, .int o]))
     generalize upd H1 b _ = H2 at h2 ⊢
     refine ⟨A, y, _, b, z.2.1, o, 0, rfl, h2, rfl, thr o ho, ?_⟩
     have h3 := (Has.comm (X := yL t.c_Yard A y) (Y := [(b, .tup [.int z.2.1, .int o])]) (R := L) h2).tail
     refine ⟨_, rfl, rfl, _, rfl, ?_⟩
     rw [R.mt]
     cases hm : W.mf z.2.1 o with
     | none =>
      obtain ⟨n1, n2⟩ := why_loose hz hk ho hm
      exact iteT ⟨three, fun p hp => q _ p _ (.held n1 _ n2) (h3.alloc hp _)⟩
     | some z' =>
      exact iteF ⟨_, rfl, _, rfl, three, fun p hp => q _ p _ (.goes z k o z' hz hk ho hm) (by exact h3.alloc hp _)⟩
theorem scRn : FnScope ["yard", "most", "done", "why", "end", "side"] ["yard", "most"] (defScope s_run) := ⟨rfl, rfl, rfl, by decide +kernel, rfl, by decide +kernel, by decide +kernel⟩
theorem ok_run (T : Txt K mg t) : FnOk P w K mg base CX0 6 t.f_run t.d_run ["yard", "most"] (sp_run t.c_Yard) := by
 refine T.F_run.ok scRn (fun vs H Q E h => ?_) (fun cdv A outer s H vs Q E hr h => ?_)
 ·obtain ⟨_, _, _, _, _, _, _, rfl, _⟩ := h
  rfl
 ·obtain ⟨A, y, L, W, s0, ts, m, rfl, hH, R, PL, tl, b1, b2, b3, b4, q⟩ := h
  refine ⟨_, (pss_cons (ps_set (i := 2) scRn.nd rfl (Or.inl rfl) pe_int)
   (pss_cons (ps_while PassesOwn.never (pt_cmpR op_lt (pv 2) (pv 1) (nomark _))
    (pss_cons (ps_asg (pe_call (ok_Jk T) (hr.mono (by decide)) (by rfl) T.m_Jk T.F_Jk.kp (b_Jk T) .nil pass0 (pa_cons (pv 0) pa_nil)) (pg_tup rfl (pgs_cons (pg_name (i := 3) scRn.nd rfl (Or.inl rfl)) (pgs_cons (pg_name (i := 4) scRn.nd rfl (Or.inl rfl)) (pgs_cons (pg_name (i := 5) scRn.nd rfl (Or.inl rfl)) pgs_nil)))))
     (pss_cons (ps_if (pt_cmpR op_notN (pv 3) pe_non (nomark _))
      (pss_one ps_break)
      pss_nil)
     (pss_cons (ps_expr (pe_meth (pv 0) T.cl_Yard T.M_Jh (ok_Jh T) (hr.mono (by decide)) (b_Jh T) .nil pass0 (pa_cons (pv 4) (pa_cons (pv 5) pa_nil))))
     (pss_one (ps_aug (i := 2) scRn.nd rfl (Or.inl rfl) pe_int ip_add))))))
   (pss_one (ps_ret (pv 2))))), ?_⟩
  refine ⟨runInv t.c_Yard A y L W s0 ts m, ⟨_, 0, y, [], s0, _, _, _, rfl, Nat.zero_le _, rfl, by rw [List.append_nil]; exact hH, R, PL, by rw [List.append_nil]; exact tl, rfl, rfl, rfl, Nat.le_refl _, rfl, rfl, rfl, rfl, rfl⟩, ?_⟩
  rintro r σ H1 ⟨i, y1, ts1, s1, o1, o2, o3, rfl, im, rfl, h1, R1, P1, tl1, li, eg, eh, rg, f1, f2, f3, f4, f5⟩
  refine ⟨_, rfl, _, rfl, _, _, rfl, rfl, _, rfl, if2 (fun hc => ?_) (fun hc => ?_)⟩
  ·have hlt : (i : Int) < m := of_decide_eq_true hc
   refine ⟨fun σ' H' => ∃ r', r' < m.toNat - i /\ runInv t.c_Yard A y L W s0 ts m r' σ' H', fun _ _ h => h, ?_⟩
   refine ⟨_, rfl, A, y1, _, W, s1, rfl, h1, R1, P1.app _, fun H2 p xs nx h2 => ?_⟩
   cases nx with
   | held hn x e =>
    refine ⟨p, _, rfl, SqT.of (h2.get 0 rfl), rfl, _, _, rfl, _, _, rfl, _, _, rfl, rfl, ?_⟩
    refine ⟨_, rfl, rfl, _, rfl, ifT rfl ?_⟩
    rw [go_held W hn] at eg
    rw [hist_held W hn, List.append_nil] at eh
    refine ⟨_, rfl, ?_⟩
    have := q H2 y1 ts1 h2.tail (by rw [eg]; exact R1) tl1 eh.symm f1 f2 f3 f4 f5 (by rw [eg]; exact P1)
    rw [li] at this
    exact this
   | goes z k o z' hz hk ho hm =>
    have hn := nx_of hz hk ho hm
    refine ⟨p, _, rfl, SqT.of (h2.get 0 rfl), rfl, _, _, rfl, _, _, rfl, _, _, rfl, rfl, ?_⟩
    refine ⟨_, rfl, rfl, _, rfl, ifF rfl ?_⟩
    replace h2 := h2.tail
    have tll : y1.trail.length = ts.length + i := by rw [tl1]; unfold trV; rw [List.length_map, List.length_append, li]
    refine ⟨_, rfl, A.p, A.dx, _, rfl, h2.get 1 rfl, (fl_m4 _ _ _).2.2.1, _, rfl, _, rfl, A, y1, _, W, s1, z, k, z', rfl, h2, R1, hz, hk, (P1.app _).e z hz, by omega, by omega, fun H3 a h3 => ?_⟩
    refine ⟨_, rfl, _, _, rfl, rfl, ?_⟩
    have em : m.toNat - i = (m.toNat - (i + 1)) + 1 := by omega
    rw [em, go_succ W hn] at eg
    rw [em, hist_succ W hn] at eh
    refine ⟨m.toNat - (i + 1), by omega, i + 1, { y1 with sides := (stepS W s1 z k z').ss.map V.int, eng := .ref z'.1, rung := (stepS W s1 z k z').rg.map V.int, trail := y1.trail ++ [.ref a] }, ts1 ++ [(a, s1)], stepS W s1 z k z', _, _, _, rfl, by omega, rfl, ?_, stepS_keep R1 hz hk hm rfl rfl rfl rfl rfl rfl rfl, P1.step hn, ?_, by simp [li], eg, by rw [eh]; simp, ?_, f1, f2, f3, f4, f5⟩
    ·rw [<- List.append_assoc ts ts1, trK_snoc]
     exact h3.perm (List.Perm.append_left _ List.perm_middle.symm)
    ·show y1.trail ++ [.ref a] = _
     rw [tl1]; unfold trV; simp
    ·show ((stepS W s1 z k z').rg.map V.int).length <= _
     have := stepS_rg_le (w := W) (s := s1) (z := z) (k := k) (z' := z')
     have e := congrArg List.length R1.rg
     rw [List.length_map] at e ⊢
     omega
  ·have hge : ¬ (i : Int) < m := of_decide_eq_false hc
   have e0 : m.toNat - i = 0 := by omega
   rw [e0] at eg eh
   refine ⟨_, rfl, ?_⟩
   have := q H1 y1 ts1 h1 (by rw [eg]; exact R1) tl1 (by rw [eh]; exact (List.append_nil _).symm) f1 f2 f3 f4 f5 (by rw [eg]; exact P1)
   rw [li] at this
   exact this
end
end P
set_option Elab.async false
set_option linter.all false
set_option maxRecDepth 100000
set_option maxHeartbeats 4000000
namespace P
open PySem L2
def kvOf (ks : List Kd) : List (Key × V) := ks.zipIdx.map fun p => ((Sum.inl (p.2 : Int) : Key), V.str p.1.str)
theorem kvOf_snoc (ks : List Kd) (k : Kd) : kvOf (ks ++ [k]) = kvOf ks ++ [((Sum.inl (ks.length : Int) : Key), V.str k.str)] := by
 unfold kvOf
 rw [List.zipIdx_append, List.map_append]
 simp
theorem kvOf_length (ks : List Kd) : (kvOf ks).length = ks.length := by unfold kvOf; simp
theorem valV_kv (f : Kd -> V) : ∀ (ks : List Kd) (n m : Nat), valV ((ks.zipIdx n).map fun p => ((Sum.inl (p.2 : Int) : Key), f p.1)) (Sum.inl (m : Int)) = if n <= m then (ks[m - n]?).map f else none
 | [], n, m => by simp [valV_nil]
 | k :: ks, n, m => by
  rw [List.zipIdx_cons, List.map_cons]
  by_cases e : n = m
  ·subst e
   rw [valV_pos rfl]; simp
  ·rw [valV_neg (fun z => e (by injection z with z; exact Int.ofNat.inj z)), valV_kv f ks (n + 1) m]
   by_cases c : n <= m
   ·rw [if_pos c, if_pos (by omega)]
    obtain ⟨d, rfl⟩ : ∃ d, m = n + 1 + d := ⟨m - (n + 1), by omega⟩
    rw [show n + 1 + d - (n + 1) = d by omega, show n + 1 + d - n = d + 1 by omega]
    rfl
   ·rw [if_neg c, if_neg (by omega)]
theorem valV_kvOf (ks : List Kd) (m : Nat) : valV (kvOf ks) (Sum.inl (m : Int)) = (ks[m]?).map fun k => V.str k.str := by
 have := valV_kv (fun k => V.str k.str) ks 0 m
 rw [if_pos (Nat.zero_le _)] at this
 exact this
structure Blt (y : YR) (ks : List Kd) (ns rs ss : List Int) : Prop where
 nx : y.next = ks.length
 kd : y.kinds = kvOf ks
 nl : ns.length = ks.length
 rl : rs.length = ks.length
 no : ∀ (i : Nat), valV y.notes (Sum.inl (i : Int)) = if ks[i]? = some .bell then some (.int (ns.getD i 0)) else none
 ro : ∀ (i : Nat), valV y.rods (Sum.inl (i : Int)) = if (ks[i]?.map Kd.point) = some true then some (.int (rs.getD i 0)) else none
 rr : ∀ (i : Nat), (ks[i]?.map Kd.point) = some true -> 0 <= rs.getD i 0 /\ rs.getD i 0 < ss.length
 nlen : y.notes.length <= ks.length
 rlen : y.rods.length <= ks.length
 sd : y.sides = ss.map V.int
 s12 : ∀ s ∈ ss, s = 1 ∨ s = 2
 sl : ss.length <= ks.length
 mt : y.mates = []
 en : y.eng = .non
 rg : y.rung = []
 tl : y.trail = []
 nr : ∀ x ∈ ns, 0 <= x /\ x <= 9999
 rn : ∀ (i : Nat), (ks[i]?.map Kd.point) = some false -> rs.getD i 0 < 0
theorem Blt.nil : Blt y0 [] [] [] [] := ⟨rfl, rfl, rfl, rfl, (fun i => rfl), (fun i => rfl), (fun i h => by simp at h), Nat.le_refl _, Nat.le_refl _, rfl, (fun _ h => nomatch h), Nat.le_refl _, rfl, rfl, rfl, rfl, (fun _ h => nomatch h), (fun i h => by simp at h)⟩
theorem Blt.small {y : YR} {ks : List Kd} {ns rs ss : List Int} (h : Blt y ks ns rs ss) (hk : ks.length <= 1000) : Small y :=
 ⟨by rw [h.kd, kvOf_length]; omega, by have := h.nlen; omega, by have := h.rlen; omega, by have := h.sl; rw [h.sd, List.length_map]; omega, by rw [h.mt]; decide, by rw [h.rg]; decide, by rw [h.tl]; decide⟩
theorem getD_snoc {xs : List Int} {x : Int} {i : Nat} (h : i < xs.length) : (xs ++ [x]).getD i 0 = xs.getD i 0 := by simp [List.getD, List.getElem?_append_left h]
theorem getD_last {xs : List Int} {x : Int} : (xs ++ [x]).getD xs.length 0 = x := by simp [List.getD]
theorem Blt.lay {y : YR} {ks : List Kd} {ns rs ss : List Int} (h : Blt y ks ns rs ss) (k : Kd) (z note bar : Int) (rod : V) (ss' : List Int) (hz : 0 <= z /\ z <= 9999) (hb : k = .bell -> note = z)
  (hp : k.point = true -> (rod = .non /\ bar = ss.length /\ ss' = ss ++ [1]) ∨ (rod = .int bar /\ 0 <= bar /\ bar < ss.length /\ ss' = ss)) (hn : k.point = false -> ss' = ss /\ bar < 0) :
  Blt (layY y k note rod) (ks ++ [k]) (ns ++ [z]) (rs ++ [bar]) ss' := by
 have hnl := h.nl
 have hrl := h.rl
 have up : ss.length <= ss'.length /\ ss'.length <= ss.length + 1 := by
  cases e : k.point with
  | false => rw [(hn e).1]; omega
  | true => rcases hp e with ⟨_, _, r⟩ | ⟨_, _, _, r⟩ <;> rw [r] <;> simp
 have fresh : valV y.kinds (Sum.inl (ks.length : Int)) = none := by rw [h.kd, valV_kvOf, List.getElem?_eq_none (Nat.le_refl _)]; rfl
 have ne : ∀ {i : Nat}, ¬ i = ks.length -> ¬ (Sum.inl (i : Int) : Key) = Sum.inl (ks.length : Int) := fun {i} c e => c (by injection e with e; exact Int.ofNat.inj e)
 have out : ∀ {i : Nat}, ¬ i = ks.length -> ¬ i < ks.length -> (ks ++ [k])[i]? = none /\ ks[i]? = none := fun {i} c1 c2 => ⟨List.getElem?_eq_none (by simp; omega), List.getElem?_eq_none (by omega)⟩
 refine ⟨?_, ?_, by simp [hnl], by simp [hrl], fun i => ?_, fun i => ?_, fun i hi => ?_, ?_, ?_, ?_, ?_, ?_, h.mt, h.en, h.rg, rfl, ?_, fun i hi => ?_⟩
 ·show y.next + 1 = _
  rw [h.nx]; simp
 ·show putK y.kinds (Sum.inl y.next) (.str k.str) = _
  rw [h.nx, putK_new _ fresh, h.kd, kvOf_snoc]
 ·show valV (if k = .bell then putK y.notes (Sum.inl y.next) (.int note) else y.notes) _ = _
  rw [h.nx]
  by_cases c : i = ks.length
  ·subst c
   rw [List.getElem?_concat_length]
   by_cases kb : k = .bell
   ·rw [if_pos kb, valV_put, if_pos rfl, if_pos (by rw [kb]), <- hnl, getD_last, hb kb]
   ·rw [if_neg kb, h.no, List.getElem?_eq_none (Nat.le_refl _), if_neg (by intro z; cases z), if_neg (by intro z; exact kb (Option.some.inj z))]
  ·have e : valV (if k = .bell then putK y.notes (Sum.inl (ks.length : Int)) (.int note) else y.notes) (Sum.inl (i : Int)) = valV y.notes (Sum.inl (i : Int)) := by
    by_cases kb : k = .bell
    ·rw [if_pos kb, valV_put, if_neg (ne c)]
    ·rw [if_neg kb]
   rw [e, h.no]
   by_cases c2 : i < ks.length
   ·rw [List.getElem?_append_left c2, getD_snoc (by omega)]
   ·rw [(out c c2).1, (out c c2).2, if_neg (by intro z; cases z), if_neg (by intro z; cases z)]
 ·show valV (if k.point = true then putK y.rods (Sum.inl y.next) (if rod = .non then .int y.sides.length else rod) else y.rods) _ = _
  rw [h.nx]
  by_cases c : i = ks.length
  ·subst c
   rw [List.getElem?_concat_length, <- hrl, getD_last, hrl]
   cases kp : k.point with
   | true =>
    rw [if_pos rfl, valV_put, if_pos rfl, if_pos (show Option.map Kd.point (some k) = some true by simp [kp])]
    rcases hp kp with ⟨r1, r2, _⟩ | ⟨r1, _, _, _⟩
    ·rw [if_pos r1, h.sd, List.length_map, r2]
    ·rw [r1, if_neg (by intro z; cases z)]
   | false =>
    rw [if_neg Bool.false_ne_true, h.ro, List.getElem?_eq_none (Nat.le_refl _), if_neg (by intro z; cases z), if_neg (by simp [kp])]
  ·have e : valV (if k.point = true then putK y.rods (Sum.inl (ks.length : Int)) (if rod = .non then .int y.sides.length else rod) else y.rods) (Sum.inl (i : Int)) = valV y.rods (Sum.inl (i : Int)) := by
    by_cases kb : k.point = true
    ·rw [if_pos kb, valV_put, if_neg (ne c)]
    ·rw [if_neg kb]
   rw [e, h.ro]
   by_cases c2 : i < ks.length
   ·rw [List.getElem?_append_left c2, getD_snoc (by omega)]
   ·rw [(out c c2).1, (out c c2).2, if_neg (by intro z; cases z), if_neg (by intro z; cases z)]
 ·by_cases c : i = ks.length
  ·subst c
   rw [List.getElem?_concat_length] at hi
   rw [<- hrl, getD_last]
   rcases hp (by simpa using hi) with ⟨_, r2, r3⟩ | ⟨_, r2, r3, r4⟩
   ·refine ⟨by omega, ?_⟩
    rw [r3, r2, List.length_append, List.length_singleton]
    omega
   ·rw [r4]; exact ⟨r2, r3⟩
  ·by_cases c2 : i < ks.length
   ·rw [List.getElem?_append_left c2] at hi
    rw [getD_snoc (by omega)]
    have := h.rr i hi
    exact ⟨this.1, by omega⟩
   ·rw [(out c c2).1] at hi; cases hi
 ·show (if k = .bell then putK y.notes (Sum.inl y.next) (.int note) else y.notes).length <= _
  have := h.nlen
  have := length_putK y.notes (Sum.inl y.next) (.int note)
  rw [List.length_append, List.length_singleton]
  split <;> omega
 ·show (if k.point = true then putK y.rods (Sum.inl y.next) (if rod = .non then .int y.sides.length else rod) else y.rods).length <= _
  have := h.rlen
  have := length_putK y.rods (Sum.inl y.next) (if rod = .non then .int y.sides.length else rod)
  rw [List.length_append, List.length_singleton]
  split <;> omega
 ·show (if k.point = true /\ rod = .non then y.sides ++ [.int 1] else y.sides) = _
  cases kp : k.point with
  | true =>
   rcases hp kp with ⟨r1, _, r3⟩ | ⟨r1, _, _, r4⟩
   ·rw [if_pos ⟨rfl, r1⟩, h.sd, r3, List.map_append]; rfl
   ·rw [if_neg (by rw [r1]; intro z; cases z.2), h.sd, r4]
  | false => rw [if_neg (fun z => Bool.false_ne_true z.1), h.sd, (hn kp).1]
 ·intro s hs
  cases kp : k.point with
  | true =>
   rcases hp kp with ⟨r1, _, r3⟩ | ⟨r1, _, _, r4⟩
   ·rw [r3, List.mem_append] at hs
    rcases hs with hs | hs
    ·exact h.s12 s hs
    ·exact .inl (by simpa using hs)
   ·rw [r4] at hs; exact h.s12 s hs
  | false => rw [(hn kp).1] at hs; exact h.s12 s hs
 ·have := h.sl
  rw [List.length_append, List.length_singleton]
  omega
 ·intro x hx
  rw [List.mem_append] at hx
  rcases hx with hx | hx
  ·exact h.nr x hx
  ·rw [List.mem_singleton.mp hx]; exact hz
 ·by_cases c : i = ks.length
  ·subst c
   rw [List.getElem?_concat_length] at hi
   rw [<- hrl, getD_last]
   exact (hn (by simpa using hi)).2
  ·by_cases c2 : i < ks.length
   ·rw [List.getElem?_append_left c2] at hi
    rw [getD_snoc (by omega)]
    exact h.rn i hi
   ·rw [(out c c2).1] at hi; cases hi
def sp_kinds : Sp := fun vs H Q _ => vs = [] /\ ∀ p, H p = none -> Q (.ref p) (upd H p (.lst [.str "line", .str "bell", .str "still", .str "lazy", .str "turning", .str "stop"]))
def sp_kind : Sp := fun vs H Q _ => ∃ (x : Int) (L : Kn), vs = [.int x] /\ Has H L /\ ∀ (k : Kd) H', Has H' L -> Q (.str k.str) H'
def sp_size : Sp := fun vs H Q _ => ∃ x : Int, vs = [.int x] /\ ∀ n : Int, 1 <= n -> n <= 24 -> Q (.int n) H
def ksV (ks : List Kd) : List V := ks.map fun k => V.str k.str
def sp_built (C : Addr) : Sp := fun vs H Q _ => ∃ (d : Addr) (ds : List Int) (a n : Int) (L : Kn) (j : Nat), vs = [.ref d, .int a, .int n] /\ Has H L /\ L[j]? = some (d, .lst (ds.map V.int)) /\ 0 <= a /\ 0 <= n /\ n <= 24 /\ a + 3 * n <= ds.length /\
 ∀ H' A y (ks : List Kd) (ns rs ss : List Int) (tp sd rr nn kk : Addr), Blt y ks ns rs ss -> (ks.length : Int) = n ->
  Has H' ((tp, .tup [.ref A.p, .ref kk, .ref nn, .ref rr, .ref sd]) :: (yL C A y ++ ([(sd, .lst (ss.map V.int)), (rr, .lst (rs.map V.int)), (nn, .lst (ns.map V.int)), (kk, .lst (ksV ks))] ++ L))) -> Q (.ref tp) H'
theorem Kd.of11 (x : Int) : ∃ k : Kd, atI ([V.str "line", .str "bell", .str "still", .str "lazy", .str "turning", .str "stop"] ++ [V.str "lazy", .str "turning", .str "bell", .str "still", .str "line"]) (x % 11) = some (.str k.str) := by
 have l0 := Int.emod_nonneg x (show (11 : Int) ≠ 0 by decide)
 have l1 := Int.emod_lt_of_pos x (show (0 : Int) < 11 by decide)
 generalize x % 11 = m at *
 have : m = 0 ∨ m = 1 ∨ m = 2 ∨ m = 3 ∨ m = 4 ∨ m = 5 ∨ m = 6 ∨ m = 7 ∨ m = 8 ∨ m = 9 ∨ m = 10 := by omega
 rcases this with rfl | rfl | rfl | rfl | rfl | rfl | rfl | rfl | rfl | rfl | rfl
 ·exact ⟨.line, rfl⟩
 ·exact ⟨.bell, rfl⟩
 ·exact ⟨.still, rfl⟩
 ·exact ⟨.lazy, rfl⟩
 ·exact ⟨.turning, rfl⟩
 ·exact ⟨.stop, rfl⟩
 ·exact ⟨.lazy, rfl⟩
 ·exact ⟨.turning, rfl⟩
 ·exact ⟨.bell, rfl⟩
 ·exact ⟨.still, rfl⟩
 ·exact ⟨.line, rfl⟩
theorem atD {ds : List Int} {i : Int} (h0 : 0 <= i) (h1 : i < ds.length) : atI (ds.map V.int) i = some (.int (ds.getD i.toNat 0)) := by
 obtain ⟨m, rfl⟩ : ∃ m : Nat, i = m := ⟨i.toNat, by omega⟩
 have hl : m < ds.length := by omega
 rw [Int.toNat_natCast]
 refine atI_nat ?_
 rw [List.getElem?_map, List.getElem?_eq_getElem hl]
 simp [List.getD, List.getElem?_eq_getElem hl]
section
variable {P : Program} {w : World} {K : PySem.W.Frag} {mg : Str -> Option Value} {base : Heap} {t : Adr}
theorem scKs : FnScope [] [] (defScope s_kinds) := ⟨rfl, rfl, rfl, by decide +kernel, rfl, by decide +kernel, by decide +kernel⟩
theorem ok_kinds (T : Txt K mg t) : FnOk P w K mg base CX0 1 t.f_kinds t.d_kinds [] sp_kinds := by
 refine T.F_kinds.ok scKs (fun vs H Q E h => ?_) (fun cdv A outer s H vs Q E hr h => ?_)
 ·obtain ⟨rfl, _⟩ := h
  rfl
 ·obtain ⟨rfl, q⟩ := h
  refine ⟨_, (pss_one (ps_ret (pe_lst (pa_cons pe_str (pa_cons pe_str (pa_cons pe_str (pa_cons pe_str (pa_cons pe_str (pa_cons pe_str pa_nil))))))))), ?_⟩
  exact ⟨(show 6 <= sizeLine by decide), fun p hp => q p hp⟩
theorem scKn : FnScope ["_law_draw"] ["_law_draw"] (defScope s_kind) := ⟨rfl, rfl, rfl, by decide +kernel, rfl, by decide +kernel, by decide +kernel⟩
theorem ok_kind (T : Txt K mg t) : FnOk P w K mg base CX0 2 t.f_kind t.d_kind ["_law_draw"] sp_kind := by
 refine T.F_kind.ok scKn (fun vs H Q E h => ?_) (fun cdv A outer s H vs Q E hr h => ?_)
 ·obtain ⟨_, _, rfl, _⟩ := h
  rfl
 ·obtain ⟨x, L, rfl, hH, q⟩ := h
  refine ⟨_, (pss_one (ps_ret (pe_ix ix_list (pe_op op_addL (pe_call0 (ok_kinds T) (hr.mono (by decide)) (by rfl) T.m_kinds T.F_kinds.kp (b_kinds T) .nil pass0) (pe_lst (pa_cons pe_str (pa_cons pe_str (pa_cons pe_str (pa_cons pe_str (pa_cons pe_str pa_nil))))))) (pe_op op_mod (pv 0) pe_int) (fun _ _ => rfl)))), ?_⟩
  refine ⟨rfl, fun p1 hp1 => ?_⟩
  have h1 := hH.alloc hp1 (.lst [.str "line", .str "bell", .str "still", .str "lazy", .str "turning", .str "stop"])
  refine ⟨(show 5 <= sizeLine by decide), fun p2 hp2 => ?_⟩
  have h2 := h1.alloc hp2 (.lst [.str "lazy", .str "turning", .str "bell", .str "still", .str "line"])
  refine ⟨p1, p2, _, _, rfl, rfl, SqL.of (h2.get 1 rfl), SqL.of (h2.get 0 rfl), (show 11 <= sizeLine by decide), fun p3 hp3 => ?_⟩
  have h3 := h2.alloc hp3 (.lst ([V.str "line", .str "bell", .str "still", .str "lazy", .str "turning", .str "stop"] ++ [V.str "lazy", .str "turning", .str "bell", .str "still", .str "line"]))
  obtain ⟨k, hk⟩ := Kd.of11 x
  refine ⟨_, rfl, _, _, rfl, rfl, (show (0 : Int) < 11 by decide), p3, _, _, _, rfl, rfl, SqL.of (h3.get 0 rfl), hk, ?_⟩
  exact q k _ h3.tail.tail.tail
theorem scSz : FnScope ["_law_draw"] ["_law_draw"] (defScope s_size) := ⟨rfl, rfl, rfl, by decide +kernel, rfl, by decide +kernel, by decide +kernel⟩
theorem ok_size (T : Txt K mg t) : FnOk P w K mg base CX0 1 t.f_size t.d_size ["_law_draw"] sp_size := by
 refine T.F_size.ok scSz (fun vs H Q E h => ?_) (fun cdv A outer s H vs Q E hr h => ?_)
 ·obtain ⟨_, rfl, _⟩ := h
  rfl
 ·obtain ⟨x, rfl, q⟩ := h
  refine ⟨_, (pss_cons (ps_if (pt_cmpR op_eq (pe_op op_mod (pe_op op_fdiv (pv 0) pe_int) pe_int) pe_int (nomark _))
    (pss_one (ps_ret pe_int))
    pss_nil)
   (pss_one (ps_ret (pe_op op_add pe_int (pe_op op_mod (pv 0) pe_int))))), ?_⟩
  refine ⟨_, rfl, _, _, rfl, rfl, ⟨by decide, by decide⟩, _, _, rfl, rfl, (show (0 : Int) < 6 by decide), rfl, _, rfl, if2 (fun _ => ?_) (fun _ => ?_)⟩
  ·exact q 24 (by decide) (by decide)
  ·refine ⟨_, rfl, _, _, rfl, rfl, (show (0 : Int) < 9 by decide), _, _, rfl, rfl, ?_⟩
   have l0 := Int.emod_nonneg x (show (9 : Int) ≠ 0 by decide)
   have l1 := Int.emod_lt_of_pos x (show (0 : Int) < 9 by decide)
   exact q _ (by omega) (by omega)
theorem scBu : FnScope ["_law_d", "_law_at", "_law_many_here", "_law_yard", "_law_kinds_here", "_law_notes", "_law_rods", "_law_sides", "_law_piece", "_law_kind_here", "_law_note", "_law_way", "_law_bar"] ["_law_d", "_law_at", "_law_many_here"] (defScope s_built) := ⟨rfl, rfl, rfl, by decide +kernel, rfl, by decide +kernel, by decide +kernel⟩
theorem ok_built (T : Txt K mg t) : FnOk P w K mg base CX0 5 t.f_built t.d_built ["_law_d", "_law_at", "_law_many_here"] (sp_built t.c_Yard) := by
 obtain ⟨_, hd_Jx_2, hb_Jx_2⟩ := bD_Jx_2 T
 obtain ⟨_, hd_Jx_3, hb_Jx_3⟩ := bD_Jx_3 T
 obtain ⟨_, hd_Jx_4, hb_Jx_4⟩ := bD_Jx_4 T
 refine T.F_built.ok scBu (fun vs H Q E h => ?_) (fun cdv A outer s H vs Q E hr h => ?_)
 ·obtain ⟨_, _, _, _, _, _, rfl, _⟩ := h
  rfl
 ·obtain ⟨d, ds, a, n, L, j, rfl, hH, hj, a0, n0, n24, hds, q⟩ := h
  refine ⟨_, (pss_cons (ps_set (i := 3) scBu.nd rfl (Or.inl rfl) (pe_make0 T.mk_Yard (ok_Jm T) (hr.mono (by decide)) (by rfl) T.m_Yard (b_Jm T) .nil pass0))
   (pss_cons (ps_set (i := 4) scBu.nd rfl (Or.inl rfl) (pe_lst pa_nil))
   (pss_cons (ps_set (i := 5) scBu.nd rfl (Or.inl rfl) (pe_lst pa_nil))
   (pss_cons (ps_set (i := 6) scBu.nd rfl (Or.inl rfl) (pe_lst pa_nil))
   (pss_cons (ps_set (i := 7) scBu.nd rfl (Or.inl rfl) (pe_lst pa_nil))
   (pss_cons (ps_for PassesOwn.never rfl (pi_range1 (by rfl) T.z_range (pa_cons (pv 2) pa_nil)) (pg_name (i := 8) scBu.nd rfl (Or.inl rfl))
    (pss_cons (ps_set (i := 9) scBu.nd rfl (Or.inl rfl) (pe_call (ok_kind T) (hr.mono (by decide)) (by rfl) T.m_kind T.F_kind.kp (b_kind T) .nil pass0 (pa_cons (pe_ix ix_list (pv 0) (pe_op op_add (pv 1) (pe_op op_mul pe_int (pv 8))) (fun _ _ => rfl)) pa_nil)))
     (pss_cons (ps_set (i := 10) scBu.nd rfl (Or.inl rfl) (pe_op op_mod (pe_ix ix_list (pv 0) (pe_op op_add (pe_op op_add (pv 1) (pe_op op_mul pe_int (pv 8))) pe_int) (fun _ _ => rfl)) pe_int))
     (pss_cons (ps_set (i := 11) scBu.nd rfl (Or.inl rfl) (pe_ix ix_list (pv 0) (pe_op op_add (pe_op op_add (pv 1) (pe_op op_mul pe_int (pv 8))) pe_int) (fun _ _ => rfl)))
     (pss_cons (ps_set (i := 12) scBu.nd rfl (Or.inl rfl) (pe_op op_sub pe_int pe_int))
     (pss_cons (ps_if (pt_cmpR op_eq (pv 9) pe_str (nomark _))
      (pss_one (ps_expr (pe_meth (pv 3) T.cl_Yard T.M_Jx (ok_Jx T) (hr.mono (by decide)) hb_Jx_3 hd_Jx_3 pass0 (pa_cons (pv 9) (pa_cons (pv 10) pa_nil)))))
      (pss_one (ps_if (pt_cmpR op_lt (pe_call (ok_many T) (hr.mono (by decide)) (by rfl) T.m_many T.F_many.kp (b_many T) .nil pass0 (pa_cons (pv 9) pa_nil)) pe_int (nomark _))
        (pss_one (ps_expr (pe_meth (pv 3) T.cl_Yard T.M_Jx (ok_Jx T) (hr.mono (by decide)) hb_Jx_2 hd_Jx_2 pass0 (pa_cons (pv 9) pa_nil))))
        (pss_one (ps_if (PW.pt (pw_and (pt_cmpR op_eq (pe_op op_mod (pv 11) pe_int) pe_int (nomark _)) (pw_and1 (pt_cmpR op_gt (pe_callB call_len_seq (by rfl) T.z_len (by rfl) (pa_cons (pv 7) pa_nil)) pe_int (nomark _)))))
          (pss_cons (ps_set (i := 12) scBu.nd rfl (Or.inl rfl) (pe_op op_mod (pe_op op_fdiv (pv 11) pe_int) (pe_callB call_len_seq (by rfl) T.z_len (by rfl) (pa_cons (pv 7) pa_nil))))
           (pss_one (ps_expr (pe_meth (pv 3) T.cl_Yard T.M_Jx (ok_Jx T) (hr.mono (by decide)) hb_Jx_4 hd_Jx_4 pass0 (pa_cons (pv 9) (pa_cons pe_int (pa_cons (pv 12) pa_nil)))))))
          (pss_cons (ps_set (i := 12) scBu.nd rfl (Or.inl rfl) (pe_callB call_len_seq (by rfl) T.z_len (by rfl) (pa_cons (pv 7) pa_nil)))
           (pss_cons (ps_expr (pe_bm PySem.F.plainAttrs_list PySem.F.slot_list_append PySem.F.type_list_append mt_append (pv 7) (pa_cons pe_int pa_nil)))
           (pss_one (ps_expr (pe_meth (pv 3) T.cl_Yard T.M_Jx (ok_Jx T) (hr.mono (by decide)) hb_Jx_2 hd_Jx_2 pass0 (pa_cons (pv 9) pa_nil)))))))))))
     (pss_cons (ps_expr (pe_bm PySem.F.plainAttrs_list PySem.F.slot_list_append PySem.F.type_list_append mt_append (pv 4) (pa_cons (pv 9) pa_nil)))
     (pss_cons (ps_expr (pe_bm PySem.F.plainAttrs_list PySem.F.slot_list_append PySem.F.type_list_append mt_append (pv 5) (pa_cons (pv 10) pa_nil)))
     (pss_one (ps_expr (pe_bm PySem.F.plainAttrs_list PySem.F.slot_list_append PySem.F.type_list_append mt_append (pv 6) (pa_cons (pv 12) pa_nil))))))))))))
   (pss_one (ps_ret (pe_tup (pa_cons (pv 3) (pa_cons (pv 4) (pa_cons (pv 5) (pa_cons (pv 6) (pa_cons (pv 7) pa_nil)))))))))))))), ?_⟩
  intro p1 dx1 hp1 hdx1 ne1
  refine ⟨p1, dx1, _, rfl, (hH.alloc hdx1 (.own p1)).alloc (by rw [upd_ne (Ne.symm ne1)]; exact hp1) (.ins t.c_Yard dx1 []), fun H2 A1 e1 h2 => ⟨rfl, ?_⟩⟩
  subst e1
  refine ⟨by decide, fun kk hkk => ?_⟩
  have h3 := h2.alloc hkk (.lst [])
  generalize upd H2 kk _ = H3 at h3 ⊢
  refine ⟨by decide, fun nn hnn => ?_⟩
  have h4 := h3.alloc hnn (.lst [])
  generalize upd H3 nn _ = H4 at h4 ⊢
  refine ⟨by decide, fun rr hrr => ?_⟩
  have h5 := h4.alloc hrr (.lst [])
  generalize upd H4 rr _ = H5 at h5 ⊢
  refine ⟨by decide, fun sd hsd => ?_⟩
  have h6 := Has.comm (X := [(sd, .lst []), (rr, .lst []), (nn, .lst []), (kk, .lst [])]) (Y := yL t.c_Yard A1 y0) (R := L) (h5.alloc hsd (.lst []))
  generalize upd H5 sd _ = H6 at h6 ⊢
  refine ⟨_, rfl, n, rfl, by omega, by omega, for_range (fun i σ H' => ∃ (A1 : YA) (y : YR) (ks : List Kd) (ns rs ss : List Int) (o1 o2 o3 o4 o5 : Option V), Blt y ks ns rs ss /\ ks.length = i /\ σ = [some (.ref d), some (.int a), some (.int n), some (.ref A1.p), some (.ref kk), some (.ref nn), some (.ref rr), some (.ref sd), o1, o2, o3, o4, o5] /\
   Has H' (yL t.c_Yard A1 y ++ ([(sd, .lst (ss.map V.int)), (rr, .lst (rs.map V.int)), (nn, .lst (ns.map V.int)), (kk, .lst (ksV ks))] ++ L))) ⟨_, _, _, _, _, _, _, _, _, _, _, Blt.nil, rfl, rfl, h6⟩ ?_ ?_⟩
  ·clear h2 h3 h4 h5 h6
   rintro i σ H6 hi ⟨A1, y, ks, ns, rs, ss, o1, o2, o3, o4, o5, B, lk, rfl, h6⟩
   have i24 : i < 24 := by omega
   have hnl := B.nl
   have hrl := B.rl
   have hsl := B.sl
   have hd1 : SqL K H6 d (ds.map V.int) := SqL.of (h6.get (j + 13) (by simpa [yL] using hj))
   refine ⟨_, rfl, _, rfl, _, rfl, _, _, rfl, rfl, (.inl ⟨by decide, by decide⟩), _, _, rfl, rfl, d, _, _, _, rfl, rfl, hd1, atD (by omega) (by omega), _, _, rfl, h6, fun k H7 h7 => ?_⟩
   have hd2 : SqL K H7 d (ds.map V.int) := SqL.of (h7.get (j + 13) (by simpa [yL] using hj))
   clear h6
   refine ⟨_, rfl, _, rfl, _, rfl, _, _, rfl, rfl, (.inl ⟨by decide, by decide⟩), _, _, rfl, rfl, _, _, rfl, rfl, d, _, _, _, rfl, rfl, hd2, atD (by omega) (by omega), _, _, rfl, rfl, (show (0 : Int) < 10000 by decide), ?_⟩
   refine ⟨_, rfl, _, rfl, _, rfl, _, _, rfl, rfl, (.inl ⟨by decide, by decide⟩), _, _, rfl, rfl, _, _, rfl, rfl, d, _, _, _, rfl, rfl, hd2, atD (by omega) (by omega), ?_⟩
   refine ⟨_, _, rfl, rfl, ?_⟩
   dsimp only
   have z0 := Int.emod_nonneg (ds.getD (a + 3 * (0 + (i : Int)) + 1).toNat 0) (show (10000 : Int) ≠ 0 by decide)
   have z1 := Int.emod_lt_of_pos (ds.getD (a + 3 * (0 + (i : Int)) + 1).toNat 0) (show (0 : Int) < 10000 by decide)
   generalize ds.getD (a + 3 * (0 + (i : Int)) + 1).toNat 0 % 10000 = z at z0 z1 ⊢
   generalize ds.getD (a + 3 * (0 + (i : Int)) + 2).toNat 0 = way
   have hz : 0 <= z /\ z <= 9999 := ⟨z0, by omega⟩
   refine ⟨_, rfl, rfl, _, rfl, ?_⟩
   rw [k.isBell]
   refine ifd (fun kb => ?_) (fun kb => ?_)
   ·refine ⟨_, rfl, A1.p, A1.dx, _, rfl, h7.get 1 rfl, (fl_m _ _ _).1, _, rfl, _, rfl, A1, y, _, k, z, .non, rfl, h7, B.small (by omega), fun _ => hz, fun _ h => absurd rfl h, fun H9 q9 h9 => ?_⟩
    have kp : k.point = false := by rw [kb]; rfl
    refine ⟨_, rfl, .inl ⟨rfl, _, SqL.of (h9.get 12 rfl)⟩, _, rfl, kk, _, _, rfl, rfl, h9.get 12 rfl, sizeOk (by unfold ksV; rw [List.length_map]; omega), ?_⟩
    have h10 := h9.puti 12 rfl (.lst (ksV ks ++ [.str k.str]))
    refine ⟨_, rfl, .inl ⟨rfl, _, SqL.of (h10.get 11 rfl)⟩, _, rfl, nn, _, _, rfl, rfl, h10.get 11 rfl, sizeOk (by rw [List.length_map]; omega), ?_⟩
    have h11 := h10.puti 11 rfl (.lst (ns.map V.int ++ [.int z]))
    refine ⟨_, rfl, .inl ⟨rfl, _, SqL.of (h11.get 10 rfl)⟩, _, rfl, rr, _, _, rfl, rfl, h11.get 10 rfl, sizeOk (by rw [List.length_map]; omega), ?_⟩
    have h12 := h11.puti 10 rfl (.lst (rs.map V.int ++ [.int (0 - 1)]))
    refine ⟨{ A1 with tr := q9 }, _, ks ++ [k], ns ++ [z], rs ++ [(0 - 1)], ss, _, _, _, _, _, (B.lay k z z (0 - 1) .non ss hz (fun _ => rfl) (fun h => absurd (kp.symm.trans h) (by decide)) (fun _ => ⟨rfl, by decide⟩)), by simp [lk], rfl, ?_⟩
    have e1 : ksV (ks ++ [k]) = ksV ks ++ [.str k.str] := by unfold ksV; rw [List.map_append]; rfl
    rw [e1, List.map_append (l₁ := ns), List.map_append (l₁ := rs)]
    exact h12
   ·refine ⟨_, rfl, k, rfl, _, _, rfl, rfl, _, rfl, if2 (fun km => ?_) (fun km => ?_)⟩
    ·refine ⟨_, rfl, A1.p, A1.dx, _, rfl, h7.get 1 rfl, (fl_m _ _ _).1, _, rfl, A1, y, _, k, 0, .non, rfl, h7, B.small (by omega), fun h => absurd h kb, fun _ h => absurd rfl h, fun H9 q9 h9 => ?_⟩
     have kp : k.point = false := by cases k <;> first | rfl | (exfalso; revert km; decide)
     refine ⟨_, rfl, .inl ⟨rfl, _, SqL.of (h9.get 12 rfl)⟩, _, rfl, kk, _, _, rfl, rfl, h9.get 12 rfl, sizeOk (by unfold ksV; rw [List.length_map]; omega), ?_⟩
     have h10 := h9.puti 12 rfl (.lst (ksV ks ++ [.str k.str]))
     refine ⟨_, rfl, .inl ⟨rfl, _, SqL.of (h10.get 11 rfl)⟩, _, rfl, nn, _, _, rfl, rfl, h10.get 11 rfl, sizeOk (by rw [List.length_map]; omega), ?_⟩
     have h11 := h10.puti 11 rfl (.lst (ns.map V.int ++ [.int z]))
     refine ⟨_, rfl, .inl ⟨rfl, _, SqL.of (h11.get 10 rfl)⟩, _, rfl, rr, _, _, rfl, rfl, h11.get 10 rfl, sizeOk (by rw [List.length_map]; omega), ?_⟩
     have h12 := h11.puti 10 rfl (.lst (rs.map V.int ++ [.int (0 - 1)]))
     refine ⟨{ A1 with tr := q9 }, _, ks ++ [k], ns ++ [z], rs ++ [(0 - 1)], ss, _, _, _, _, _, (B.lay k z 0 (0 - 1) .non ss hz (fun h => absurd h kb) (fun h => absurd (kp.symm.trans h) (by decide)) (fun _ => ⟨rfl, by decide⟩)), by simp [lk], rfl, ?_⟩
     have e1 : ksV (ks ++ [k]) = ksV ks ++ [.str k.str] := by unfold ksV; rw [List.map_append]; rfl
     rw [e1, List.map_append (l₁ := ns), List.map_append (l₁ := rs)]
     exact h12
    ·have kp : k.point = true := by cases k <;> first | rfl | (exfalso; revert km; decide) | exact absurd rfl kb
     have hsd : SqL K H7 sd (ss.map V.int) := SqL.of (h7.get 9 rfl)
     have h8 : Has (upd H7 sd (.lst (ss.map V.int ++ [.int 1]))) (yL t.c_Yard A1 y ++ ([(sd, .lst ((ss ++ [1]).map V.int)), (rr, .lst (rs.map V.int)), (nn, .lst (ns.map V.int)), (kk, .lst (ksV ks))] ++ L)) := by
      rw [List.map_append]
      exact h7.puti 9 rfl (.lst (ss.map V.int ++ [.int 1]))
     refine ⟨_, rfl, _, _, rfl, rfl, (show (0 : Int) < 3 by decide), rfl, _, rfl, if2 (fun _ => ⟨_, rfl, sd, _, rfl, .inl hsd, _, _, rfl, rfl, _, rfl, if2 (fun hs => ?_) (fun hs => ?_)⟩) (fun _ => iteF ?_)⟩
     ·have s0 : 0 < ss.length := by
       have := of_decide_eq_true hs
       rw [List.length_map] at this
       omega
      refine ⟨_, rfl, _, _, rfl, rfl, ⟨by decide, by decide⟩, _, rfl, sd, _, rfl, .inl hsd, _, _, rfl, rfl, (show (0 : Int) < ((ss.map V.int).length : Int) by rw [List.length_map]; omega), ?_⟩
      rw [List.length_map]
      dsimp only
      have b0 := Int.emod_nonneg (way / 3) (show ((ss.length : Nat) : Int) ≠ 0 by omega)
      have b1 := Int.emod_lt_of_pos (way / 3) (show (0 : Int) < ((ss.length : Nat) : Int) by omega)
      generalize way / 3 % (ss.length : Int) = bar at b0 b1 ⊢
      refine ⟨_, rfl, A1.p, A1.dx, _, rfl, h7.get 1 rfl, (fl_m _ _ _).1, _, rfl, _, rfl, A1, y, _, k, 0, .int bar, rfl, h7, B.small (by omega), fun h => absurd h kb, fun _ _ => ⟨bar, rfl, b0, by rw [B.sd, List.length_map]; exact b1⟩, fun H9 q9 h9 => ?_⟩
      refine ⟨_, rfl, .inl ⟨rfl, _, SqL.of (h9.get 12 rfl)⟩, _, rfl, kk, _, _, rfl, rfl, h9.get 12 rfl, sizeOk (by unfold ksV; rw [List.length_map]; omega), ?_⟩
      have h10 := h9.puti 12 rfl (.lst (ksV ks ++ [.str k.str]))
      refine ⟨_, rfl, .inl ⟨rfl, _, SqL.of (h10.get 11 rfl)⟩, _, rfl, nn, _, _, rfl, rfl, h10.get 11 rfl, sizeOk (by rw [List.length_map]; omega), ?_⟩
      have h11 := h10.puti 11 rfl (.lst (ns.map V.int ++ [.int z]))
      refine ⟨_, rfl, .inl ⟨rfl, _, SqL.of (h11.get 10 rfl)⟩, _, rfl, rr, _, _, rfl, rfl, h11.get 10 rfl, sizeOk (by rw [List.length_map]; omega), ?_⟩
      have h12 := h11.puti 10 rfl (.lst (rs.map V.int ++ [.int bar]))
      refine ⟨{ A1 with tr := q9 }, _, ks ++ [k], ns ++ [z], rs ++ [bar], ss, _, _, _, _, _, (B.lay k z 0 bar (.int bar) ss hz (fun h => absurd h kb) (fun _ => .inr ⟨rfl, b0, b1, rfl⟩) (fun h => absurd (kp.symm.trans h) (by decide))), by simp [lk], rfl, ?_⟩
      have e1 : ksV (ks ++ [k]) = ksV ks ++ [.str k.str] := by unfold ksV; rw [List.map_append]; rfl
      rw [e1, List.map_append (l₁ := ns), List.map_append (l₁ := rs)]
      exact h12
     all_goals
      refine ⟨_, rfl, sd, _, rfl, .inl hsd, ?_⟩
      refine ⟨_, rfl, .inl ⟨rfl, _, hsd⟩, sd, _, _, rfl, rfl, h7.get 9 rfl, sizeOk (by rw [List.length_map]; omega), ?_⟩
      refine ⟨_, rfl, A1.p, A1.dx, _, rfl, h8.get 1 rfl, (fl_m _ _ _).1, _, rfl, A1, y, _, k, 0, .non, rfl, h8, B.small (by omega), fun h => absurd h kb, fun _ h => absurd rfl h, fun H9 q9 h9 => ?_⟩
      refine ⟨_, rfl, .inl ⟨rfl, _, SqL.of (h9.get 12 rfl)⟩, _, rfl, kk, _, _, rfl, rfl, h9.get 12 rfl, sizeOk (by unfold ksV; rw [List.length_map]; omega), ?_⟩
      have h10 := h9.puti 12 rfl (.lst (ksV ks ++ [.str k.str]))
      refine ⟨_, rfl, .inl ⟨rfl, _, SqL.of (h10.get 11 rfl)⟩, _, rfl, nn, _, _, rfl, rfl, h10.get 11 rfl, sizeOk (by rw [List.length_map]; omega), ?_⟩
      have h11 := h10.puti 11 rfl (.lst (ns.map V.int ++ [.int z]))
      refine ⟨_, rfl, .inl ⟨rfl, _, SqL.of (h11.get 10 rfl)⟩, _, rfl, rr, _, _, rfl, rfl, h11.get 10 rfl, sizeOk (by rw [List.length_map]; omega), ?_⟩
      have h12 := h11.puti 10 rfl (.lst (rs.map V.int ++ [.int (((ss.map V.int).length : Int))]))
      refine ⟨{ A1 with tr := q9 }, _, ks ++ [k], ns ++ [z], rs ++ [(((ss.map V.int).length : Int))], (ss ++ [1]), _, _, _, _, _, (B.lay k z 0 (((ss.map V.int).length : Int)) .non (ss ++ [1]) hz (fun h => absurd h kb) (fun _ => .inl ⟨rfl, by rw [List.length_map], rfl⟩) (fun h => absurd (kp.symm.trans h) (by decide))), by simp [lk], rfl, ?_⟩
      have e1 : ksV (ks ++ [k]) = ksV ks ++ [.str k.str] := by unfold ksV; rw [List.map_append]; rfl
      rw [e1, List.map_append (l₁ := ns), List.map_append (l₁ := rs)]
      exact h12
  ·rintro σ H6 ⟨A1, y, ks, ns, rs, ss, o1, o2, o3, o4, o5, B, lk, rfl, h6⟩
   refine ⟨_, rfl, _, rfl, _, rfl, _, rfl, _, rfl, (show 5 <= sizeLine by decide), fun tp htp => ?_⟩
   exact q _ A1 y ks ns rs ss tp sd rr nn kk B (by omega) (h6.alloc htp _)
end
def endsL (ks : List Kd) : List (Int × Int) := ks.zipIdx.flatMap fun p => (List.range p.1.many.toNat).map fun e : Nat => ((p.2 : Int), (e : Int))
theorem endsL_snoc (ks : List Kd) (k : Kd) : endsL (ks ++ [k]) = endsL ks ++ (List.range k.many.toNat).map fun e : Nat => ((ks.length : Int), (e : Int)) := by
 unfold endsL
 rw [List.zipIdx_append, List.flatMap_append]
 simp
def esK (es : List (Addr × Int × Int)) : Kn := es.map fun x => (x.1, HO.tup [.int x.2.1, .int x.2.2])
def esV (es : List (Addr × Int × Int)) : List V := es.map fun x => V.ref x.1
theorem endsL_le (ks : List Kd) : (endsL ks).length <= 3 * ks.length := by
 unfold endsL
 have : ∀ (l : List (Kd × Nat)), (l.flatMap fun p => (List.range p.1.many.toNat).map fun e : Nat => ((p.2 : Int), (e : Int))).length <= 3 * l.length := by
  intro l
  induction l with
  | nil => simp
  | cons p l ih =>
   rw [List.flatMap_cons, List.length_append, List.length_map, List.length_range, List.length_cons]
   have : p.1.many.toNat <= 3 := by cases p.1 <;> decide
   omega
 have h := this ks.zipIdx
 rw [List.length_zipIdx] at h
 exact h
theorem endsL_there {ks : List Kd} {n e : Int} (h : (n, e) ∈ endsL ks) : ∃ (i : Nat) (k : Kd), n = i /\ ks[i]? = some k /\ 0 <= e /\ e < k.many := by
 unfold endsL at h
 obtain ⟨p, hp, hq⟩ := List.mem_flatMap.mp h
 obtain ⟨x, hx, he⟩ := List.mem_map.mp hq
 rw [List.mem_range] at hx
 cases he
 refine ⟨p.2, p.1, rfl, ?_, by omega, by omega⟩
 have := List.mem_zipIdx_iff_getElem?.mp hp
 simpa using this
def sp_ends : Sp := fun vs H Q _ => ∃ (kk : Addr) (ks : List Kd) (L : Kn) (j : Nat), vs = [.ref kk] /\ Has H L /\ L[j]? = some (kk, .lst (ksV ks)) /\ ks.length <= 1000 /\
 ∀ H' (el : Addr) (es : List (Addr × Int × Int)), es.map (·.2) = endsL ks -> Has H' ((el, .lst (esV es)) :: (esK es ++ L)) -> Q (.ref el) H'
section
variable {P : Program} {w : World} {K : PySem.W.Frag} {mg : Str -> Option Value} {base : Heap} {t : Adr}
theorem scEn : FnScope ["_law_kinds_here", "_law_ends_here", "_law_piece", "_law_kind_here", "_law_place"] ["_law_kinds_here"] (defScope s_ends) := ⟨rfl, rfl, rfl, by decide +kernel, rfl, by decide +kernel, by decide +kernel⟩
theorem ok_ends (T : Txt K mg t) : FnOk P w K mg base CX0 2 t.f_ends t.d_ends ["_law_kinds_here"] sp_ends := by
 refine T.F_ends.ok scEn (fun vs H Q E h => ?_) (fun cdv A outer s H vs Q E hr h => ?_)
 ·obtain ⟨_, _, _, _, rfl, _⟩ := h
  rfl
 ·obtain ⟨kk, ks, L, j, rfl, hH, hj, hk, q⟩ := h
  refine ⟨_, (pss_cons (ps_set (i := 1) scEn.nd rfl (Or.inl rfl) (pe_lst pa_nil))
   (pss_cons (ps_for PassesOwn.never rfl (pi_enum (by rfl) T.z_enumerate (pa_cons (pv 0) pa_nil)) (pg_tup rfl (pgs_cons (pg_name (i := 2) scEn.nd rfl (Or.inl rfl)) (pgs_cons (pg_name (i := 3) scEn.nd rfl (Or.inl rfl)) pgs_nil)))
    (pss_one (ps_for PassesOwn.never rfl (pi_range1 (by rfl) T.z_range (pa_cons (pe_call (ok_many T) (hr.mono (by decide)) (by rfl) T.m_many T.F_many.kp (b_many T) .nil pass0 (pa_cons (pv 3) pa_nil)) pa_nil)) (pg_name (i := 4) scEn.nd rfl (Or.inl rfl))
      (pss_one (ps_expr (pe_bm PySem.F.plainAttrs_list PySem.F.slot_list_append PySem.F.type_list_append mt_append (pv 1) (@pa_cons _ _ _ _ _ (pe_tup (pa_cons (pv 2) (pa_cons (pv 4) pa_nil))) pa_nil (by rfl))))))))
   (pss_one (ps_ret (pv 1))))), ?_⟩
  refine ⟨by decide, fun el hel => ?_⟩
  have h1 := hH.alloc hel (.lst [])
  generalize upd H el _ = H1 at h1 ⊢
  have gk : ∀ {H : Hp} {x : HO} {M : Kn}, Has H ((el, x) :: (M ++ L)) -> SqL K H kk (ksV ks) := fun {H x M} h => SqL.of (h.get (M.length + j + 1) (by
   rw [List.getElem?_cons_succ, List.getElem?_append_right (by omega), show M.length + j - M.length = j by omega]; exact hj))
  refine ⟨_, rfl, kk, rfl, ⟨_, gk (M := []) h1⟩, for_enum (xs := ksV ks) (fun i σ H' => ∃ (es : List (Addr × Int × Int)) (o1 o2 o3 : Option V), es.map (·.2) = endsL (ks.take i) /\ σ = [some (.ref kk), some (.ref el), o1, o2, o3] /\ Has H' ((el, .lst (esV es)) :: (esK es ++ L)))
   ⟨[], _, _, _, rfl, rfl, h1⟩ (fun i σ H' _ ⟨es, _, _, _, _, _, h⟩ => gk h) ?_ ?_⟩
  ·rintro i x σ H2 p hx ⟨es, o1, o2, o3, hes, rfl, h2⟩ hp
   have hi : i < ks.length := by
    have := (List.getElem?_eq_some_iff.mp hx).1
    unfold ksV at this
    rw [List.length_map] at this; exact this
   have ex : x = .str (ks[i]).str := by
    unfold ksV at hx
    rw [List.getElem?_map, List.getElem?_eq_getElem hi] at hx
    exact (Option.some.inj hx).symm
   subst ex
   have h3 := h2.alloc hp (.tup [.int i, .str (ks[i]).str])
   refine ⟨p, _, rfl, SqT.of (h3.get 0 rfl), rfl, _, _, rfl, _, _, rfl, rfl, ?_⟩
   have h4 := h3.tail
   generalize upd H2 p _ = H3 at h4 ⊢
   clear h2 h3 hp
   have hm : 1 <= (ks[i]).many /\ (ks[i]).many <= 3 := by cases ks[i] <;> decide
   have hti : (ks.take i).length = i := by rw [List.length_take]; omega
   have hen : (endsL (ks.take i)).length <= 3000 := Nat.le_trans (endsL_le _) (by omega)
   refine ⟨_, rfl, ks[i], rfl, _, rfl, by omega, by omega, for_range (fun e σ H' => ∃ (es : List (Addr × Int × Int)) (o3 : Option V), es.map (·.2) = endsL (ks.take i) ++ (List.range e).map (fun e : Nat => ((i : Int), (e : Int))) /\ σ = [some (.ref kk), some (.ref el), some (.int i), some (.str (ks[i]).str), o3] /\ Has H' ((el, .lst (esV es)) :: (esK es ++ L)))
    ⟨es, _, by rw [hes]; simp, rfl, h4⟩ ?_ ?_⟩
   ·clear h4 hes es o3
    rintro e σ H4 he ⟨es, o3, hes, rfl, h4⟩
    have hle : es.length <= 3003 := by
     have := congrArg List.length hes
     rw [List.length_map, List.length_append, List.length_map, List.length_range] at this
     omega
    refine ⟨_, rfl, .inl ⟨rfl, _, SqL.of (h4.get 0 rfl)⟩, _, rfl, _, rfl, (show 2 <= sizeLine by decide), fun b hb => ?_⟩
    have h5 := h4.alloc hb (.tup [.int i, .int (0 + e)])
    refine ⟨el, _, _, rfl, rfl, h5.get 1 rfl, sizeOk (by unfold esV; rw [List.length_map]; omega), ?_⟩
    have h6 := (h5.puti 1 rfl (.lst (esV es ++ [.ref b]))).swap2.perm (List.Perm.cons _ (List.perm_append_comm_assoc [_] (esK es) L))
    refine ⟨es ++ [(b, (i : Int), 0 + (e : Int))], _, ?_, rfl, ?_⟩
    ·rw [List.map_append, hes, List.range_succ, List.map_append, List.append_assoc]
     simp
    ·have e1 : esV (es ++ [(b, (i : Int), 0 + (e : Int))]) = esV es ++ [.ref b] := by unfold esV; rw [List.map_append]; rfl
     have e2 : esK (es ++ [(b, (i : Int), 0 + (e : Int))]) ++ L = esK es ++ ([(b, .tup [.int i, .int (0 + e)])] ++ L) := by unfold esK; rw [List.map_append, List.append_assoc]; rfl
     rw [e1, e2]
     exact h6
   ·rintro σ H4 ⟨es, o3, hes, rfl, h4⟩
    refine ⟨es, _, _, _, ?_, rfl, h4⟩
    rw [hes, List.take_succ, List.getElem?_eq_getElem hi]
    show _ = endsL (ks.take i ++ [ks[i]])
    rw [endsL_snoc, hti]
  ·rintro σ H2 ⟨es, o1, o2, o3, hes, rfl, h2⟩
   refine ⟨_, rfl, ?_⟩
   refine q _ el es ?_ h2
   rw [hes]
   unfold ksV
   rw [List.length_map, List.take_length]
end
theorem esK_get {es : List (Addr × Int × Int)} {i : Nat} {x : Addr × Int × Int} (L : Kn) (h : es[i]? = some x) : (esK es ++ L)[i]? = some (x.1, .tup [.int x.2.1, .int x.2.2]) := by
 have hi := (List.getElem?_eq_some_iff.mp h).1
 rw [List.getElem?_append_left (by unfold esK; rw [List.length_map]; exact hi)]
 unfold esK
 rw [List.getElem?_map, h]
 rfl
theorem esV_get {es : List (Addr × Int × Int)} {i : Nat} {x : Addr × Int × Int} (h : es[i]? = some x) : (esV es)[i]? = some (.ref x.1) := by
 unfold esV
 rw [List.getElem?_map, h]
 rfl
end P
set_option Elab.async false
set_option linter.all false
set_option maxRecDepth 100000
set_option maxHeartbeats 4000000
namespace P
open PySem L2
theorem eraseIdx_mapL {α β : Type} (f : α -> β) : ∀ (l : List α) (k : Nat), (l.map f).eraseIdx k = (l.eraseIdx k).map f
 | [], _ => rfl
 | _ :: _, 0 => rfl
 | a :: l, k + 1 => by
  show f a :: (l.map f).eraseIdx k = f a :: (l.eraseIdx k).map f
  rw [eraseIdx_mapL f l k]
theorem eraseIdx_permL {α : Type} : ∀ (l : List α) (k : Nat) (h : k < l.length), (l[k] :: l.eraseIdx k).Perm l
 | [], k, h => absurd h (Nat.not_lt_zero k)
 | a :: l, 0, h => List.Perm.refl _
 | a :: l, k + 1, h => (List.Perm.swap _ _ _).trans (List.Perm.cons a (eraseIdx_permL l k (by simpa using h)))
theorem endsL_nodup (ks : List Kd) : (endsL ks).Nodup := by
 have H : ∀ i, i <= ks.length -> (endsL (ks.take i)).Nodup := by
  intro i
  induction i with
  | zero => intro _; exact List.Pairwise.nil
  | succ i ih =>
   intro hi
   have hlt : i < ks.length := by omega
   rw [List.take_succ, List.getElem?_eq_getElem hlt]
   show (endsL (ks.take i ++ [ks[i]])).Nodup
   rw [endsL_snoc]
   refine List.nodup_append.mpr ⟨ih (by omega), ?_, ?_⟩
   ·refine List.Pairwise.map _ (fun a b hab hc => hab ?_) List.nodup_range
    have := congrArg Prod.snd hc
    exact Int.ofNat.inj this
   ·intro a ha b hb e
    subst e
    obtain ⟨x, _, hx⟩ := List.mem_map.mp hb
    obtain ⟨j, k, e1, e2, _⟩ := endsL_there (n := a.1) (e := a.2) ha
    have : a.1 = ((ks.take i).length : Int) := by rw [<- hx]
    have hj := (List.getElem?_eq_some_iff.mp e2).1
    rw [List.length_take] at this hj
    omega
 have := H ks.length (Nat.le_refl _)
 rwa [List.take_length] at this
def mfOf (es : List En) (m : List (List Key × V)) (n e : Int) : Option En := match valV m (kE n e) with | some (.ref b) => es.find? fun x => decide (x.1 = b) | _ => none
def MIn (es : List En) (m : List (List Key × V)) : Prop := ∀ k v, valV m k = some v -> ∃ z ∈ es, v = .ref z.1
theorem mfOf_val {es : List En} {m : List (List Key × V)} (h : MIn es m) (n e : Int) : valV m (kE n e) = (mfOf es m n e).map fun z => V.ref z.1 := by
 unfold mfOf
 cases hv : valV m (kE n e) with
 | none => rfl
 | some v =>
  obtain ⟨z, hz, rfl⟩ := h _ _ hv
  dsimp only
  cases hf : es.find? fun x => decide (x.1 = z.1) with
  | none => exact absurd (List.find?_eq_none.mp hf z hz) (by simp)
  | some x => have := List.find?_some hf; rw [Option.map_some, of_decide_eq_true this]
theorem mfOf_mem {es : List En} {m : List (List Key × V)} {n e : Int} {z : En} (h : mfOf es m n e = some z) : z ∈ es := by
 unfold mfOf at h
 split at h
 ·exact List.mem_of_find?_eq_some h
 ·cases h
theorem MIn.nil (es : List En) : MIn es [] := fun k v h => by cases h
theorem MIn.put {es : List En} {m : List (List Key × V)} (h : MIn es m) {x : En} (hx : x ∈ es) (k : List Key) : MIn es (putK m k (.ref x.1)) := fun j v hv => by
 rw [valV_put] at hv
 split at hv
 ·exact ⟨x, hx, (Option.some.inj hv).symm⟩
 ·exact h j v hv
theorem MIn.mono {es es' : List En} {m : List (List Key × V)} (h : MIn es m) (s : ∀ x ∈ es, x ∈ es') : MIn es' m := fun k v hv => let ⟨z, hz, e⟩ := h k v hv; ⟨z, s z hz, e⟩
def wOf (ks : List Kd) (ns rs : List Int) (es : List En) (m : List (List Key × V)) : Wd := ⟨fun n => if 0 <= n then ks[n.toNat]? else none, fun n => ns.getD n.toNat 0, fun n => rs.getD n.toNat 0, mfOf es m⟩
theorem wOf_k {ks : List Kd} {ns rs : List Int} {es : List En} {m : List (List Key × V)} {n : Int} {k : Kd} (h : (wOf ks ns rs es m).kf n = some k) : ∃ i : Nat, n = i /\ ks[i]? = some k := by
 unfold wOf at h
 dsimp only at h
 split at h
 ·exact ⟨n.toNat, by omega, h⟩
 ·cases h
theorem wOf_kn {ks : List Kd} {ns rs : List Int} {es : List En} {m : List (List Key × V)} (i : Nat) : (wOf ks ns rs es m).kf i = ks[i]? := by
 unfold wOf; dsimp only; rw [if_pos (by omega), Int.toNat_natCast]
theorem wOf_ok {ks : List Kd} {ns rs : List Int} {es : List En} {m : List (List Key × V)} {z : En} (h : z.2 ∈ endsL ks) : (wOf ks ns rs es m).ok z := by
 obtain ⟨i, k, e1, e2, e3, e4⟩ := endsL_there (n := z.2.1) (e := z.2.2) h
 exact ⟨k, by rw [e1, wOf_kn]; exact e2, e3, e4⟩
theorem Rep.of {y y' : YR} {ks : List Kd} {ns rs ss ss' : List Int} {es : List En} {m : List (List Key × V)} {u : Option En} (B : Blt y ks ns rs ss) (hm : MIn es m) (he : ∀ x ∈ es, x.2 ∈ endsL ks) (hl : ss'.length = ss.length) (h12 : ∀ x ∈ ss', x = 1 ∨ x = 2) (hu : ∀ z, u = some z -> z.2 ∈ endsL ks)
  (e1 : y'.kinds = y.kinds) (e2 : y'.notes = y.notes) (e3 : y'.rods = y.rods) (e4 : y'.mates = m) (e5 : y'.sides = ss'.map V.int) (e6 : y'.eng = enV u) (e7 : y'.rung = []) :
  Rep (wOf ks ns rs es m) ⟨ss', u, []⟩ y' := by
 refine ⟨fun n k h => ?_, fun n k h => ?_, fun n k h => ?_, fun n k h hp => ?_, e5, h12, fun n e => by rw [e4]; exact mfOf_val hm n e, fun n e z h => wOf_ok (he z (mfOf_mem h)), e6, fun z hz => wOf_ok (hu z hz), e7⟩
 all_goals obtain ⟨i, rfl, hk⟩ := wOf_k h
 ·rw [e1, B.kd, valV_kvOf, hk]; rfl
 ·rw [e2, B.no, hk]
  by_cases c : k = .bell
  ·rw [if_pos (by rw [c]), if_pos c]; unfold wOf; dsimp only; rw [Int.toNat_natCast]
  ·rw [if_neg (fun z => c (Option.some.inj z)), if_neg c]
 ·rw [e3, B.ro, hk]
  by_cases c : k.point = true
  ·rw [if_pos (by simp [c]), if_pos c]; unfold wOf; dsimp only; rw [Int.toNat_natCast]
  ·rw [if_neg (by simp [c]), if_neg c]
 ·have := B.rr i (by rw [hk]; simp [hp])
  show 0 <= rs.getD (i : Int).toNat 0 /\ rs.getD (i : Int).toNat 0 < (ss'.length : Int)
  rw [Int.toNat_natCast, hl]
  exact this
theorem endsL_th {y : YR} {ks : List Kd} {ns rs ss : List Int} (B : Blt y ks ns rs ss) {y' : YR} (e : y'.kinds = y.kinds) {p : Int × Int} (h : p ∈ endsL ks) : There y' p.1 p.2 := by
 obtain ⟨i, k, e1, e2, e3, e4⟩ := endsL_there (n := p.1) (e := p.2) h
 exact ⟨k, by rw [e, e1, B.kd, valV_kvOf, e2]; rfl, e3, e4⟩
theorem seqIx {n : Nat} {x : Int} (h : 0 < n) : ∃ k : Nat, k < n /\ x % (n : Int) = k /\ seqIndex? (x % (n : Int)) n = some k /\ -(2 ^ 63) <= x % (n : Int) /\ (n <= 1000000 -> x % (n : Int) < 2 ^ 63) := by
 have b0 := Int.emod_nonneg x (show ((n : Nat) : Int) ≠ 0 by omega)
 have b1 := Int.emod_lt_of_pos x (show (0 : Int) < ((n : Nat) : Int) by omega)
 refine ⟨(x % (n : Int)).toNat, by omega, by omega, ?_, by omega, fun hn => by omega⟩
 generalize x % (n : Int) = i at b0 b1
 unfold seqIndex?
 dsimp only
 rw [if_neg (show ¬ i < 0 by omega), if_pos (show (decide (0 <= i) && decide (i < (n : Int))) = true by rw [decide_eq_true b0, decide_eq_true b1]; rfl)]
def sp_J21 (C : Addr) : Sp := fun vs H Q _ => ∃ (A : YA) (y : YR) (L : Kn) (kk d : Addr) (ks : List Kd) (ns rs ss ds : List Int) (a n : Int) (jk jd : Nat), vs = [.ref A.p, .ref kk, .ref d, .int a, .int n] /\ Has H (yL C A y ++ L) /\ Blt y ks ns rs ss /\ L[jk]? = some (kk, .lst (ksV ks)) /\ L[jd]? = some (d, .lst (ds.map V.int)) /\ ks.length <= 1000 /\ 0 <= a /\ 0 <= n /\ n <= 10000 /\ a + 2 * n <= ds.length /\
 ∀ (H' : Hp) (q mh : Addr) (m : List (List Key × V)) (es : List En), MIn es m -> es.map (·.2) = endsL ks -> m.length <= 2 * n.toNat -> Has H' (yL C { A with tr := q } { y with mates := m, trail := [] } ++ ((mh, .dT m) :: (esK es ++ L))) -> Q (.ref mh) H'
section
variable {P : Program} {w : World} {K : PySem.W.Frag} {mg : Str -> Option Value} {base : Heap} {t : Adr}
theorem scLd : FnScope ["_law_yard", "_law_kinds_here", "_law_d", "_law_at", "_law_many_here", "_law_free", "_law_mates", "_law_turn", "_law_one", "_law_other"] ["_law_yard", "_law_kinds_here", "_law_d", "_law_at", "_law_many_here"] (defScope s_J21) := ⟨rfl, rfl, rfl, by decide +kernel, rfl, by decide +kernel, by decide +kernel⟩
theorem ok_J21 (T : Txt K mg t) : FnOk P w K mg base CX0 5 t.f_J21 t.d_J21 ["_law_yard", "_law_kinds_here", "_law_d", "_law_at", "_law_many_here"] (sp_J21 t.c_Yard) := by
 refine T.F_J21.ok scLd (fun vs H Q E h => ?_) (fun cdv A outer s H vs Q E hr h => ?_)
 ·obtain ⟨_, _, _, _, _, _, _, _, _, _, _, _, _, _, rfl, _⟩ := h
  rfl
 ·obtain ⟨A, y, L, kk, d, ks, ns, rs, ss, ds, a, n, jk, jd, rfl, hH, B, hjk, hjd, kl, a0, n0, n1, hds, q⟩ := h
  have hu := hu_of hr
  refine ⟨_, (pss_cons (ps_set (i := 5) scLd.nd rfl (Or.inl rfl) (pe_call (ok_ends T) (hr.mono (by decide)) (by rfl) T.m_ends T.F_ends.kp (b_ends T) .nil pass0 (pa_cons (pv 1) pa_nil)))
   (pss_cons (ps_set (i := 6) scLd.nd rfl (Or.inl rfl) pe_dnewT)
   (pss_cons (ps_for PassesOwn.never rfl (pi_range1 (by rfl) T.z_range (pa_cons (pv 4) pa_nil)) (pg_name (i := 7) scLd.nd rfl (Or.inl rfl))
    (pss_one (ps_if (pt_cmpR op_gt (pe_callB call_len_seq (by rfl) T.z_len (by rfl) (pa_cons (pv 5) pa_nil)) pe_int (nomark _))
      (pss_cons (ps_set (i := 8) scLd.nd rfl (Or.inl rfl) (pe_bm PySem.F.plainAttrs_list PySem.F.slot_list_pop PySem.F.type_list_pop mt_popAt (pv 5) (pa_cons (pe_op op_mod (pe_ix ix_list (pv 2) (pe_op op_add (pv 3) (pe_op op_mul pe_int (pv 7))) (fun _ _ => rfl)) (pe_callB call_len_seq (by rfl) T.z_len (by rfl) (pa_cons (pv 5) pa_nil))) pa_nil)))
       (pss_cons (ps_set (i := 9) scLd.nd rfl (Or.inl rfl) (pe_bm PySem.F.plainAttrs_list PySem.F.slot_list_pop PySem.F.type_list_pop mt_popAt (pv 5) (pa_cons (pe_op op_mod (pe_ix ix_list (pv 2) (pe_op op_add (pe_op op_add (pv 3) (pe_op op_mul pe_int (pv 7))) pe_int) (fun _ _ => rfl)) (pe_callB call_len_seq (by rfl) T.z_len (by rfl) (pa_cons (pv 5) pa_nil))) pa_nil)))
       (pss_cons (ps_expr (pe_meth (pv 0) T.cl_Yard T.M_Jn (ok_Jn T) (hr.mono (by decide)) (b_Jn T) .nil pass0 (pa_cons (pv 8) (pa_cons (pv 9) pa_nil))))
       (pss_cons (ps_dput hu (pv 6) (pv 8) (pv 9) rfl)
       (pss_one (ps_dput hu (pv 6) (pv 9) (pv 8) rfl))))))
      pss_nil)))
   (pss_one (ps_ret (pv 6)))))), ?_⟩
  refine ⟨_, rfl, kk, ks, _, jk + 9, rfl, hH, (by simpa [yL] using hjk), kl, fun H1 fl_ es hes h1 => ?_⟩
  intro mh hmh
  have h2 : Has (upd H1 mh (.dT [])) (yL t.c_Yard A y ++ ((fl_, .lst (esV es)) :: (mh, .dT []) :: (esK es ++ L))) :=
   Has.comm (X := (fl_, .lst (esV es)) :: (mh, .dT []) :: esK es) (Y := yL t.c_Yard A y) (R := L) (h1.alloc hmh (.dT [])).swap2
  generalize upd H1 mh _ = H2 at h2 ⊢
  clear h1 hmh hH
  have emem : ∀ x ∈ es, x.2 ∈ endsL ks := fun x hx => by rw [<- hes]; exact List.mem_map.mpr ⟨x, hx, rfl⟩
  have enod : (es.map (·.2)).Nodup := by rw [hes]; exact endsL_nodup ks
  have elen : es.length <= 3000 := by have := congrArg List.length hes; rw [List.length_map] at this; have := endsL_le ks; omega
  refine ⟨_, rfl, _, rfl, by omega, by omega, for_range (fun i σ H' => ∃ (q1 : Addr) (m : List (List Key × V)) (fs : List En) (o1 o2 o3 : Option V), MIn es m /\ (∀ x ∈ fs, x ∈ es) /\ (fs.map (·.2)).Nodup /\ (∀ x ∈ fs, valV m (kE x.2.1 x.2.2) = none) /\ m.length <= 2 * i /\ fs.length <= 3000 /\
   σ = [some (.ref A.p), some (.ref kk), some (.ref d), some (.int a), some (.int n), some (.ref fl_), some (.ref mh), o1, o2, o3] /\ Has H' (yL t.c_Yard { A with tr := q1 } { y with mates := m, trail := [] } ++ ((fl_, .lst (esV fs)) :: (mh, .dT m) :: (esK es ++ L))))
   ⟨A.tr, [], es, _, _, _, MIn.nil es, fun _ h => h, enod, fun _ _ => rfl, Nat.zero_le _, elen, rfl, ?_⟩ ?_ ?_⟩
  ·have e : ({ y with mates := [], trail := [] } : YR) = y := by rw [<- B.mt, <- B.tl]
   rw [e]; exact h2
  ·clear h2
   rintro i σ H2 hi ⟨q1, m, fs, o1, o2, o3, M, fin, fnd, fno, ml, flen, rfl, h2⟩
   have gd : ∀ {H : Hp} {A1 : YA} {y1 : YR} {f1 m1 : HO}, Has H (yL t.c_Yard A1 y1 ++ ((fl_, f1) :: (mh, m1) :: (esK es ++ L))) -> SqL K H d (ds.map V.int) := fun {H A1 y1 f1 m1} h => SqL.of (h.get (es.length + jd + 11) (by
    show (esK es ++ L)[es.length + jd]? = _
    have e : (esK es).length = es.length := by unfold esK; rw [List.length_map]
    rw [List.getElem?_append_right (by omega), show es.length + jd - (esK es).length = jd by omega]
    exact hjd))
   have gs : ∀ {H : Hp} {A1 : YA} {y1 : YR} {f1 m1 : HO}, Has H (yL t.c_Yard A1 y1 ++ ((fl_, f1) :: (mh, m1) :: (esK es ++ L))) -> ∀ x ∈ es, H x.1 = some (.tup [.int x.2.1, .int x.2.2]) := fun {H A1 y1 f1 m1} h x hx => by
    obtain ⟨j, hj⟩ := List.mem_iff_getElem?.mp hx
    exact h.get (j + 11) (esK_get L hj)
   have evl : ∀ l : List En, (esV l).length = l.length := fun l => by unfold esV; rw [List.length_map]
   have evx : ∀ (l : List En) (k : Nat), (esV l).eraseIdx k = esV (l.eraseIdx k) := fun l k => by unfold esV; rw [eraseIdx_mapL]
   refine ⟨_, rfl, fl_, _, rfl, .inl (SqL.of (h2.get 9 rfl)), _, _, rfl, rfl, _, rfl, if2 (fun hc => ?_) (fun hc => ?_)⟩
   ·have f2 : 1 < fs.length := by
     have := of_decide_eq_true hc
     rw [evl] at this
     omega
    obtain ⟨k1, k1l, k1e, k1s, k1a, k1b⟩ := seqIx (n := fs.length) (x := ds.getD (a + 2 * (0 + (i : Int))).toNat 0) (by omega)
    refine ⟨_, rfl, .inl ⟨rfl, _, SqL.of (h2.get 9 rfl)⟩, ?_⟩
    refine ⟨_, rfl, _, rfl, _, rfl, _, _, rfl, rfl, (.inl ⟨by decide, by decide⟩), _, _, rfl, rfl, d, _, _, _, rfl, rfl, gd h2, atD (by omega) (by omega), _, rfl, fl_, _, rfl, .inl (SqL.of (h2.get 9 rfl)), _, _, rfl, rfl, (show (0 : Int) < ((esV fs).length : Int) by rw [evl]; omega), ?_⟩
    rw [evl]
    refine ⟨fl_, _, _, k1, .ref (fs[k1]).1, rfl, rfl, h2.get 9 rfl, k1a, k1b (by omega), (by rw [evl]; exact k1s), esV_get (List.getElem?_eq_getElem k1l), ?_⟩
    rw [evx]
    have h3 := h2.puti 9 rfl (.lst (esV (fs.eraseIdx k1)))
    generalize upd H2 fl_ _ = H3 at h3 ⊢
    have pm1 := eraseIdx_permL fs k1 k1l
    have l1 : (fs.eraseIdx k1).length = fs.length - 1 := List.length_eraseIdx_of_lt k1l
    generalize hx : fs[k1] = x at *
    have nd1 : (x.2 :: (fs.eraseIdx k1).map (·.2)).Nodup := (pm1.map (fun x : En => x.2)).nodup_iff.mpr fnd
    have xin : x ∈ fs := by rw [<- hx]; exact List.getElem_mem _
    have sub1 : ∀ z ∈ fs.eraseIdx k1, z ∈ fs := fun z hz => List.mem_of_mem_eraseIdx hz
    generalize fs.eraseIdx k1 = fs1 at *
    obtain ⟨k2, k2l, k2e, k2s, k2a, k2b⟩ := seqIx (n := fs1.length) (x := ds.getD (a + 2 * (0 + (i : Int)) + 1).toNat 0) (by omega)
    refine ⟨_, rfl, .inl ⟨rfl, _, SqL.of (h3.get 9 rfl)⟩, ?_⟩
    refine ⟨_, rfl, _, rfl, _, rfl, _, _, rfl, rfl, (.inl ⟨by decide, by decide⟩), _, _, rfl, rfl, _, _, rfl, rfl, d, _, _, _, rfl, rfl, gd h3, atD (by omega) (by omega), _, rfl, fl_, _, rfl, .inl (SqL.of (h3.get 9 rfl)), _, _, rfl, rfl, (show (0 : Int) < ((esV fs1).length : Int) by rw [evl]; omega), ?_⟩
    rw [evl]
    refine ⟨fl_, _, _, k2, .ref (fs1[k2]).1, rfl, rfl, h3.get 9 rfl, k2a, k2b (by omega), (by rw [evl]; exact k2s), esV_get (List.getElem?_eq_getElem k2l), ?_⟩
    rw [evx]
    have h4 := h3.puti 9 rfl (.lst (esV (fs1.eraseIdx k2)))
    generalize upd H3 fl_ _ = H4 at h4 ⊢
    have pm2 := eraseIdx_permL fs1 k2 k2l
    have l2 : (fs1.eraseIdx k2).length = fs1.length - 1 := List.length_eraseIdx_of_lt k2l
    generalize hz : fs1[k2] = z at *
    rw [List.nodup_cons] at nd1
    have nd2 : (z.2 :: (fs1.eraseIdx k2).map (·.2)).Nodup := (pm2.map (fun x : En => x.2)).nodup_iff.mpr nd1.2
    have zin : z ∈ fs1 := by rw [<- hz]; exact List.getElem_mem _
    have sub2 : ∀ z ∈ fs1.eraseIdx k2, z ∈ fs1 := fun z hz => List.mem_of_mem_eraseIdx hz
    generalize fs1.eraseIdx k2 = fs2 at *
    rw [List.nodup_cons] at nd2
    have kne : ∀ {u v : En}, ¬ u.2 = v.2 -> ¬ kE u.2.1 u.2.2 = kE v.2.1 v.2.2 := fun {u v} c e => c (by
     injection e with e1 e2
     injection e2 with e2 _
     injection e1 with e1
     injection e2 with e2
     exact Prod.ext e1 e2)
    have xe := fin x xin
    have ze := fin z (sub1 z zin)
    have xz : ¬ x.2 = z.2 := fun e => nd1.1 (by rw [e]; exact List.mem_map.mpr ⟨z, zin, rfl⟩)
    obtain ⟨ix, hix⟩ := List.mem_iff_getElem?.mp xe
    obtain ⟨iz, hiz⟩ := List.mem_iff_getElem?.mp ze
    refine ⟨_, rfl, A.p, A.dx, _, rfl, h4.get 1 rfl, (fl_m2 _ _ _).2.2.1, _, rfl, _, rfl, { A with tr := q1 }, _, _, x.1, z.1, x.2.1, x.2.2, z.2.1, z.2.2, ix + 2, iz + 2, rfl, h4, esK_get _ hix, esK_get _ hiz, endsL_th B rfl (emem x xe), endsL_th B rfl (emem z ze), kne xz, fno x xin, fno z (sub1 z zin), (show m.length <= 30000 by omega), fun H5 q5 h5 => ?_⟩
    refine ⟨_, rfl, _, rfl, _, rfl, mh, _, rfl, DPut.t (k := kE x.2.1 x.2.2) (h5.get 10 rfl) (gs h5 x xe) (sizeOk (by omega)), ?_⟩
    have h6 := h5.puti 10 rfl (.dT (putK m (kE x.2.1 x.2.2) (.ref z.1)))
    refine ⟨_, rfl, _, rfl, _, rfl, mh, _, rfl, DPut.t (k := kE z.2.1 z.2.2) (h6.get 10 rfl) (gs h6 z ze) (sizeOk (Nat.le_trans (length_putK _ _ _) (by omega))), ?_⟩
    have h7 := h6.puti 10 rfl (.dT (putK (putK m (kE x.2.1 x.2.2) (.ref z.1)) (kE z.2.1 z.2.2) (.ref x.1)))
    refine ⟨q5, _, fs2, _, _, _, (M.put ze _).put xe _, fun u hu => fin u (sub1 u (sub2 u hu)), nd2.2, fun u hu => ?_, ?_, by omega, rfl, h7⟩
    ·rw [valV_put, if_neg (kne (fun e => nd2.1 (by rw [<- e]; exact List.mem_map.mpr ⟨u, hu, rfl⟩))), valV_put, if_neg (kne (fun e => nd1.1 (by rw [<- e]; exact List.mem_map.mpr ⟨u, sub2 u hu, rfl⟩)))]
     exact fno u (sub1 u (sub2 u hu))
    ·have b1 := length_putK m (kE x.2.1 x.2.2) (.ref z.1)
     have b2 := length_putK (putK m (kE x.2.1 x.2.2) (.ref z.1)) (kE z.2.1 z.2.2) (.ref x.1)
     omega
   ·exact ⟨q1, m, fs, _, _, _, M, fin, fnd, fno, by omega, flen, rfl, h2⟩
  ·rintro σ H2 ⟨q1, m, fs, o1, o2, o3, M, fin, fnd, fno, ml, flen, rfl, h2⟩
   refine ⟨_, rfl, q _ q1 mh m es M hes ml ?_⟩
   exact (Has.comm (X := yL t.c_Yard { A with tr := q1 } { y with mates := m, trail := [] }) (Y := [(fl_, .lst (esV fs))]) (R := (mh, .dT m) :: (esK es ++ L)) h2).tail
end
theorem Rep.eng {w : Wd} {s : Sd} {y : YR} (R : Rep w s y) (u : Option En) (hu : ∀ z, u = some z -> w.ok z) (tr : List V) : Rep w { s with at_ := u } { y with eng := enV u, trail := tr } :=
 ⟨R.kd, R.no, R.ro, R.rr, R.sd, R.s12, R.mt, R.mo, rfl, hu, R.rg⟩
end P
set_option Elab.async false
set_option linter.all false
set_option maxRecDepth 100000
set_option maxHeartbeats 4000000
namespace P
open PySem L2
def kindsV : List V := [.str "line", .str "bell", .str "still", .str "lazy", .str "turning", .str "stop"]
def sp_sign : Sp := fun vs H Q _ => ∃ x : Int, vs = [.int x] /\ ∀ y, Asc 1 y -> Q (.str y) H
def sp_Jv : Sp := fun vs H Q _ => ∃ (k : Kd) (way draw : Int) (L : Kn), vs = [.str k.str, .int way, .int draw] /\ 0 <= draw /\ draw < 10 ^ 18 /\ Has H L /\ ∀ H' y, badK y -> Asc 30 y -> Has H' L -> Q (.str y) H'
theorem Kd.asc (k : Kd) : Asc 7 k.str := ⟨k.len.1, by cases k <;> decide +kernel⟩
theorem asc1 (c : Nat) (h : c < 128) : Asc 1 ⟨#[c]⟩ := ⟨Nat.le_refl _, fun d hd => by
 have : d = c := by simpa using hd
 omega⟩
theorem badK_of {y : Str} (h : inV (.str y) kindsV = false) : badK y := by
 have h2 : ∀ z ∈ kindsV, eqV z (.str y) = false := fun z hz => by
  unfold inV at h
  exact Bool.eq_false_iff.mpr fun e => by
   have := List.any_eq_true (p := fun z => eqV z (.str y)).mpr ⟨z, hz, e⟩
   rw [h] at this
   cases this
 have ne : ∀ x : Str, V.str x ∈ kindsV -> y ≠ x := fun x hx e => by
  have := h2 _ hx
  subst e
  simp [eqV] at this
 unfold badK endsD
 simp only [List.any_cons, List.any_nil, Bool.or_false, Bool.or_eq_false_iff, decide_eq_false_iff_not]
 exact ⟨ne _ (by simp [kindsV]), ne _ (by simp [kindsV]), ne _ (by simp [kindsV]), ne _ (by simp [kindsV]), ne _ (by simp [kindsV]), ne _ (by simp [kindsV])⟩
theorem inKinds {y : Str} (h : inV (.str y) kindsV = true) : ∃ k : Kd, y = k.str := by
 unfold inV at h
 obtain ⟨z, hz, e⟩ := List.any_eq_true.mp h
 have : ∀ x : Str, eqV (.str x) (.str y) = true -> y = x := fun x e => by
  simp [eqV] at e
  exact e.symm
 simp only [kindsV, List.mem_cons, List.not_mem_nil, or_false] at hz
 rcases hz with rfl | rfl | rfl | rfl | rfl | rfl
 ·exact ⟨.line, this _ e⟩
 ·exact ⟨.bell, this _ e⟩
 ·exact ⟨.still, this _ e⟩
 ·exact ⟨.lazy, this _ e⟩
 ·exact ⟨.turning, this _ e⟩
 ·exact ⟨.stop, this _ e⟩
theorem Kd.bang (k : Kd) : badK (k.str ++ "!") := by cases k <;> (unfold badK; decide +kernel)
theorem upperAsc {c : Nat} (h : c < 128) : Asc 1 (Txt.upper ⟨#[c]⟩) := by
 rw [PySem.W.KOpn.upper_one h]
 exact asc1 _ (by split <;> omega)
theorem atS {y : Str} {i : Int} (h0 : 0 <= i) (h1 : i < y.length) : ∃ c, atI y.cps.toList i = some c /\ c ∈ y.cps.toList := by
 obtain ⟨j, rfl⟩ := Int.eq_ofNat_of_zero_le h0
 have hj : j < y.cps.toList.length := by
  have : y.length = y.cps.toList.length := by unfold PySem.Str.length; simp
  omega
 exact ⟨y.cps.toList[j], atI_nat (List.getElem?_eq_getElem hj), List.getElem_mem hj⟩
section
variable {P : Program} {w : World} {K : PySem.W.Frag} {mg : Str -> Option Value} {base : Heap} {t : Adr}
theorem scSg : FnScope ["_law_draw", "_law_signs"] ["_law_draw"] (defScope s_sign) := ⟨rfl, rfl, rfl, by decide +kernel, rfl, by decide +kernel, by decide +kernel⟩
theorem ok_sign (T : Txt K mg t) : FnOk P w K mg base CX0 1 t.f_sign t.d_sign ["_law_draw"] sp_sign := by
 refine T.F_sign.ok scSg (fun vs H Q E h => ?_) (fun cdv A outer s H vs Q E hr h => ?_)
 ·obtain ⟨_, rfl, _⟩ := h
  rfl
 ·obtain ⟨x, rfl, q⟩ := h
  refine ⟨_, (pss_cons (ps_set (i := 1) scSg.nd rfl (Or.inl rfl) pe_str)
   (pss_one (ps_ret (pe_ix ix_str (pv 1) (pe_op op_mod (pv 0) (pe_callB call_len_str (by rfl) T.z_len (by rfl) (pa_cons (pv 1) pa_nil))) (fun _ _ => rfl))))), ?_⟩
  obtain ⟨S, eS⟩ : ∃ S : Str, (" !#$&'()*+,-./0123456789:;<=>?@ABCDEFGHIJKLMNOPQRSTUVWXYZ[]^_abcdefghijklmnopqrstuvwxyz{|}~" : Str) = S := ⟨_, rfl⟩
  have hS : S.length <= 1000 /\ 1 <= S.length /\ ∀ c ∈ S.cps.toList, c < 128 := by rw [<- eS]; decide +kernel
  rw [eS]
  have l0 := Int.emod_nonneg x (show (S.length : Int) ≠ 0 by omega)
  have l1 := Int.emod_lt_of_pos x (show (0 : Int) < S.length by omega)
  obtain ⟨c, hc, mc⟩ := atS l0 l1
  exact ⟨_, rfl, _, rfl, _, rfl, S, rfl, sizeOk' (by omega), _, _, rfl, rfl, (show (0 : Int) < S.length by omega), S, _, c, rfl, rfl, sizeOk' (by omega), hc, q _ (asc1 c (hS.2.2 c mc))⟩
theorem scBk : FnScope ["_law_kind_here", "_law_way", "_law_draw", "_law_place", "_law_text"] ["_law_kind_here", "_law_way", "_law_draw"] (defScope s_Jv) := ⟨rfl, rfl, rfl, by decide +kernel, rfl, by decide +kernel, by decide +kernel⟩
theorem ok_Jv (T : Txt K mg t) : FnOk P w K mg base CX0 3 t.f_Jv t.d_Jv ["_law_kind_here", "_law_way", "_law_draw"] sp_Jv := by
 refine T.F_Jv.ok scBk (fun vs H Q E h => ?_) (fun cdv A outer s H vs Q E hr h => ?_)
 ·obtain ⟨_, _, _, _, rfl, _⟩ := h
  rfl
 ·obtain ⟨k, way, draw, L, rfl, d0, d1, hH, q⟩ := h
  refine ⟨_, (pss_cons (ps_set (i := 3) scBk.nd rfl (Or.inl rfl) (pe_op op_mod (pe_op op_fdiv (pv 2) pe_int) (pe_callB call_len_str (by rfl) T.z_len (by rfl) (pa_cons (pv 0) pa_nil))))
   (pss_cons (ps_set (i := 4) scBk.nd rfl (Or.inl rfl) (pe_op op_add_str (pv 0) pe_str))
   (pss_cons (ps_cut (ps_if (pt_cmpR op_eq (pe_op op_mod (pv 1) pe_int) pe_int (nomark _))
    (pss_one (ps_set (i := 4) scBk.nd rfl (Or.inl rfl) pe_str))
    pss_nil))
   (pss_cons (ps_cut (ps_if (pt_cmpR op_eq (pe_op op_mod (pv 1) pe_int) pe_int (nomark _))
    (pss_one (ps_set (i := 4) scBk.nd rfl (Or.inl rfl) (pe_op op_add_str (pe_op op_add_str (pe_slice sl_str (pv 0) po_none (po_some (pv 3))) (pe_call (ok_sign T) (hr.mono (by decide)) (by rfl) T.m_sign T.F_sign.kp (b_sign T) .nil pass0 (pa_cons (pv 2) pa_nil))) (pe_slice sl_str (pv 0) (po_some (pv 3)) po_none))))
    pss_nil))
   (pss_cons (ps_cut (ps_if (pt_cmpR op_eq (pe_op op_mod (pv 1) pe_int) pe_int (nomark _))
    (pss_one (ps_set (i := 4) scBk.nd rfl (Or.inl rfl) (pe_op op_add_str (pe_op op_add_str (pe_slice sl_str (pv 0) po_none (po_some (pv 3))) (pe_bm0 PySem.F.plainAttrs_str PySem.F.slot_str_upper PySem.F.type_str_upper mt_upper (pe_ix ix_str (pv 0) (pv 3) (fun _ _ => rfl)))) (pe_slice sl_str (pv 0) (po_some (pe_op op_add (pv 3) pe_int)) po_none))))
    pss_nil))
   (pss_cons (ps_cut (ps_if (pt_cmpR op_eq (pe_op op_mod (pv 1) pe_int) pe_int (nomark _))
    (pss_one (ps_set (i := 4) scBk.nd rfl (Or.inl rfl) (pe_op op_add_str (pe_slice sl_str (pv 0) po_none (po_some (pv 3))) (pe_slice sl_str (pv 0) (po_some (pe_op op_add (pv 3) pe_int)) po_none))))
    pss_nil))
   (pss_cons (ps_cut (ps_if (pt_cmpR op_eq (pe_op op_mod (pv 1) pe_int) pe_int (nomark _))
    (pss_one (ps_set (i := 4) scBk.nd rfl (Or.inl rfl) (pe_bm PySem.F.plainAttrs_str PySem.F.slot_str_join PySem.F.type_str_join mt_join pe_str (pa_cons (pe_lc (esc := defScope s_Jv) (k := 1) ["_law_turn", "_law_kind_here", "_law_way", "_law_draw", "_law_place", "_law_text"] rfl (pi_range1 (by rfl) T.z_range (pa_cons (pe_op op_add pe_int (pe_op op_mod (pv 2) pe_int)) pa_nil)) (fun _ _ _ _ _ => by exact (pg_name (i := 0) (show List.Nodup (["_law_turn", "_law_kind_here", "_law_way", "_law_draw", "_law_place", "_law_text"] : List Str) from by decide +kernel) rfl (Or.inl rfl))) (fun _ _ _ _ _ => by exact pts_nil) (fun _ _ _ _ _ => by exact (pe_call (ok_sign T) (hr.mono (by decide)) (by rfl) T.m_sign T.F_sign.kp (b_sign T) .nil pass0 (pa_cons (pe_op op_add (pe_op op_fdiv (pv 3) (pe_op op_add (pv 0) pe_int)) (pe_op op_mul pe_int (pv 0))) pa_nil))) rfl (by decide +kernel) (by decide +kernel) rfl (by decide +kernel) (by rfl) (fun _ _ h _ => h) (by decide +kernel)) pa_nil))))
    pss_nil))
   (pss_cons (ps_cut (ps_if (pt_cmpR op_in_seq (pv 4) (pe_call0 (ok_kinds T) (hr.mono (by decide)) (by rfl) T.m_kinds T.F_kinds.kp (b_kinds T) .nil pass0) (by rfl))
    (pss_one (ps_set (i := 4) scBk.nd rfl (Or.inl rfl) (pe_op op_add_str (pv 4) pe_str)))
    pss_nil))
   (pss_one (ps_ret (pv 4))))))))))), ?_⟩
  rw [show L2.start ["_law_kind_here", "_law_way", "_law_draw", "_law_place", "_law_text"] [V.str k.str, V.int way, V.int draw] = ([some (V.str k.str), some (V.int way), some (V.int draw), none, none] : St) from rfl]
  have kl := k.len
  have p0 := Int.emod_nonneg (draw / 7) (show (k.str.length : Int) ≠ 0 by omega)
  have p1 := Int.emod_lt_of_pos (draw / 7) (show (0 : Int) < k.str.length by omega)
  have ka := k.asc
  have szk : k.str.length <= sizeLine := sizeOk' (by omega)
  refine ⟨_, rfl, _, _, rfl, rfl, ⟨by decide, by decide⟩, _, rfl, k.str, rfl, szk, _, _, rfl, rfl, (show (0 : Int) < k.str.length by omega), ?_⟩
  dsimp only [List.set]
  obtain ⟨pl, epl⟩ : ∃ pl, draw / 7 % (k.str.length : Int) = pl := ⟨_, rfl⟩
  rw [epl] at p0 p1 ⊢
  obtain ⟨c, hc, mc⟩ := atS (y := k.str) p0 p1
  have hc128 := ka.2 c mc
  have sl : ∀ {n : Nat} {y : Str}, Asc n y -> n <= 1000 -> y.length <= 1000 := fun h hn => Nat.le_trans h.1 hn
  have as1 : Asc 1 ("s" : Str) := by constructor <;> decide +kernel
  refine ⟨_, rfl, _, _, rfl, rfl, sizeOk' (by have := as1.1; omega), ?_⟩
  dsimp only [List.set]
  obtain ⟨Pv, ePv⟩ : ∃ Pv : St -> Hp -> Prop, (fun σ' H' => ∃ y : Str, σ' = [some (.str k.str), some (.int way), some (.int draw), some (.int pl), some (.str y)] /\ Asc 20 y /\ Has H' L) = Pv := ⟨_, rfl⟩
  have mkP : ∀ {H' : Hp} {y : Str}, Asc 20 y -> Has H' L -> Pv [some (.str k.str), some (.int way), some (.int draw), some (.int pl), some (.str y)] H' := fun {H' y} h1 h2 => by rw [<- ePv]; exact ⟨y, rfl, h1, h2⟩
  have unP : ∀ {σ' : St} {H' : Hp}, Pv σ' H' -> ∃ y : Str, σ' = [some (.str k.str), some (.int way), some (.int draw), some (.int pl), some (.str y)] /\ Asc 20 y /\ Has H' L := fun {σ' H'} h => by rw [<- ePv] at h; exact h
  clear ePv
  have A0 : Asc 7 (Txt.slice k.str none (some pl)) := ka.slice _ _
  have A1 : Asc 7 (Txt.slice k.str (some pl) none) := ka.slice _ _
  have A2 : Asc 7 (Txt.slice k.str (some (pl + 1)) none) := ka.slice _ _
  refine ⟨Pv, ?_, fun σ' H1 h => ?_⟩
  ·refine ⟨_, rfl, _, _, rfl, rfl, (show (0 : Int) < 6 by decide), rfl, _, rfl, if2 (fun _ => ?_) (fun _ => mkP ((ka.cat as1).mono (by decide)) hH)⟩
   exact mkP (y := "") ⟨by decide, fun c hc => nomatch (show c ∈ ([] : List Nat) from hc)⟩ hH
  obtain ⟨y1, rfl, hy1, h1⟩ := unP h
  refine ⟨Pv, ?_, fun σ' H2 h => ?_⟩
  ·refine ⟨_, rfl, _, _, rfl, rfl, (show (0 : Int) < 6 by decide), rfl, _, rfl, if2 (fun _ => ?_) (fun _ => mkP hy1 h1)⟩
   refine ⟨_, rfl, _, rfl, pl, rfl, k.str, rfl, szk, _, rfl, draw, rfl, fun y hy => ?_⟩
   refine ⟨_, _, rfl, rfl, sizeOk' (by have := A0.1; have := hy.1; omega), _, rfl, _, rfl, pl, rfl, k.str, rfl, szk, ?_⟩
   have A01 := A0.cat hy
   refine ⟨_, _, rfl, rfl, sizeOk' (by have := A01.1; have := A1.1; omega), ?_⟩
   exact mkP ((A01.cat A1).mono (by decide)) h1
  obtain ⟨y2, rfl, hy2, h2⟩ := unP h
  refine ⟨Pv, ?_, fun σ' H3 h => ?_⟩
  ·refine ⟨_, rfl, _, _, rfl, rfl, (show (0 : Int) < 6 by decide), rfl, _, rfl, if2 (fun _ => ?_) (fun _ => mkP hy2 h2)⟩
   have Au := upperAsc hc128
   refine ⟨_, rfl, _, rfl, pl, rfl, k.str, rfl, szk, _, rfl, _, rfl, k.str, pl, c, rfl, rfl, szk, hc, rfl, _, rfl, rfl, sizeOk' (by have := Au.1; omega), ?_⟩
   have A01 := A0.cat Au
   refine ⟨_, _, rfl, rfl, sizeOk' (by have := A0.1; have := Au.1; omega), _, rfl, _, rfl, _, _, rfl, rfl, pl + 1, rfl, k.str, rfl, szk, ?_⟩
   refine ⟨_, _, rfl, rfl, sizeOk' (by have := A01.1; have := A2.1; omega), ?_⟩
   exact mkP ((A01.cat A2).mono (by decide)) h2
  obtain ⟨y3, rfl, hy3, h3⟩ := unP h
  refine ⟨Pv, ?_, fun σ' H4 h => ?_⟩
  ·refine ⟨_, rfl, _, _, rfl, rfl, (show (0 : Int) < 6 by decide), rfl, _, rfl, if2 (fun _ => ?_) (fun _ => mkP hy3 h3)⟩
   refine ⟨_, rfl, _, rfl, pl, rfl, k.str, rfl, szk, _, rfl, _, rfl, _, _, rfl, rfl, pl + 1, rfl, k.str, rfl, szk, ?_⟩
   refine ⟨_, _, rfl, rfl, sizeOk' (by have := A0.1; have := A2.1; omega), ?_⟩
   exact mkP ((A0.cat A2).mono (by decide)) h3
  obtain ⟨y4, rfl, hy4, h4⟩ := unP h
  refine ⟨Pv, ?_, fun σ' H5 h => ?_⟩
  ·refine ⟨_, rfl, _, _, rfl, rfl, (show (0 : Int) < 6 by decide), rfl, _, rfl, if2 (fun _ => ?_) (fun _ => mkP hy4 h4)⟩
   refine ⟨rfl, ?_⟩
   have d7 : 0 <= draw % 7 /\ draw % 7 < 7 := ⟨by omega, by omega⟩
   refine ⟨_, rfl, _, _, rfl, rfl, (show (0 : Int) < 7 by decide), _, _, rfl, rfl, _, rfl, by omega, by omega, fun D hD => ?_⟩
   obtain ⟨n, en⟩ : ∃ n : Nat, 1 + draw % 7 = (n : Int) := Int.eq_ofNat_of_zero_le (by omega)
   rw [en, Int.toNat_natCast]
   refine ⟨fun i m zs H' => m = n - i /\ i <= n /\ ∃ ys : List Str, zs = ys.map V.str /\ ys.length = i /\ (∀ y ∈ ys, Asc 1 y) /\ Has H' ((D, .lst zs) :: L), ⟨_, rfl, Nat.zero_le _, [], rfl, rfl, by simp, h4.alloc hD _⟩, ?_⟩
   rintro i m zs H6 ⟨rfl, hi, ys, rfl, hyl, hys, h6⟩
   refine ⟨h6.get 0 rfl, ?_⟩
   by_cases hlt : i < n
   ·refine .inr ⟨hlt, ?_⟩
    rintro x H7 ⟨rfl, rfl⟩
    refine ⟨rfl, tTrueT ?_⟩
    refine ⟨_, rfl, _, rfl, _, _, rfl, rfl, _, _, rfl, rfl, ⟨by omega, by omega⟩, _, rfl, _, _, rfl, rfl, .inl ⟨by decide, by decide⟩, _, _, rfl, rfl, _, rfl, fun y hy => ?_⟩
    refine ⟨sizeOk (by rw [List.length_map]; omega), h6.get 0 rfl, n - (i + 1), by omega, rfl, hlt, ys ++ [y], by rw [List.map_append]; rfl, by simp [hyl], fun z hz => ?_, h6.puti 0 rfl _⟩
    rcases List.mem_append.mp hz with hz | hz
    ·exact hys z hz
    ·cases List.mem_singleton.mp hz
     exact hy
   ·have en2 : i = n := by omega
    refine .inl ⟨(show n <= i by omega), ?_⟩
    refine ⟨_, D, ys, rfl, rfl, SqL.of (h6.get 0 rfl), joinOk (M := 1) (fun y hy => (hys y hy).1) (by rw [show (Str.ofString "").length = 0 from rfl]; exact sizeOk' (by omega)), ?_⟩
    have aj := ascJoin hys
    have aj2 : Asc 20 (Txt.join ("" : Str) ys) := by
     unfold Txt.join
     rw [PySem.StrLaws.glued_eq_join]
     exact aj.mono (m := 20) (by omega)
    exact mkP aj2 h6.tail
  obtain ⟨y5, rfl, hy5, h5⟩ := unP h
  refine ⟨fun σ' H' => ∃ y : Str, σ' = [some (.str k.str), some (.int way), some (.int draw), some (.int pl), some (.str y)] /\ badK y /\ Asc 30 y /\ Has H' L, ?_, ?_⟩
  ·refine ⟨_, rfl, rfl, fun p hp => ?_⟩
   have h6 := h5.alloc hp (.lst kindsV)
   refine ⟨p, kindsV, rfl, .inl (SqL.of (h6.get 0 rfl)), rfl, rfl, _, rfl, ?_⟩
   rw [if_neg Bool.false_ne_true]
   refine if2 (fun hin => ?_) (fun hin => ⟨y5, rfl, badK_of hin, hy5.mono (by decide), h6.tail⟩)
   obtain ⟨k2, rfl⟩ := inKinds hin
   have ab : Asc 1 ("!" : Str) := by constructor <;> decide +kernel
   refine ⟨_, rfl, _, _, rfl, rfl, sizeOk' (by have := k2.len; have := ab.1; omega), ?_⟩
   exact ⟨_, rfl, k2.bang, (k2.asc.cat ab).mono (by decide), h6.tail⟩
  ·rintro σ' H' ⟨y, rfl, hb, ha, h6⟩
   exact ⟨_, rfl, q _ y hb ha h6⟩
end
end P
set_option Elab.async false
set_option linter.all false
set_option maxRecDepth 100000
set_option maxHeartbeats 4000000
namespace P
open PySem L2
theorem has_mid {H : Hp} {Z X Y R : Kn} (h : Has H (Z ++ (X ++ (Y ++ R)))) : Has H (Z ++ (Y ++ (X ++ R))) := h.perm (List.Perm.append_left Z (by rw [<- List.append_assoc, <- List.append_assoc]; exact List.perm_append_comm.append_right R))
def Stb (K : PySem.W.Frag) (M : Kn) (d : PyData) (v : V) : Prop := ∀ H : Hp, (∀ z ∈ M, NT z -> H z.1 = some z.2) -> DV K H d v
def Stbs (K : PySem.W.Frag) (M : Kn) (ds : List PyData) (vs : List V) : Prop := ∀ H : Hp, (∀ z ∈ M, NT z -> H z.1 = some z.2) -> DVs K H ds vs
theorem DVs.app {K : PySem.W.Frag} {H : Hp} : ∀ {ds : List PyData} {vs : List V} {d : PyData} {v : V}, DVs K H ds vs -> DV K H d v -> DVs K H (ds ++ [d]) (vs ++ [v])
 | [], vs, d, v, h, h2 => by
  have e : vs = [] := by unfold DVs at h; exact h
  subst e
  show DVs K H [d] [v]
  unfold DVs
  exact ⟨v, [], rfl, h2, by unfold DVs; rfl⟩
 | d0 :: ds, vs, d, v, h, h2 => by
  unfold DVs at h
  obtain ⟨v0, r, rfl, h3, h4⟩ := h
  show DVs K H (d0 :: (ds ++ [d])) (v0 :: (r ++ [v]))
  unfold DVs
  exact ⟨v0, _, rfl, h3, DVs.app h4 h2⟩
theorem Stbs.snoc {K : PySem.W.Frag} {M : Kn} {ds : List PyData} {vs : List V} {d : PyData} {v : V} (h : Stbs K M ds vs) (h2 : Stb K M d v) : Stbs K M (ds ++ [d]) (vs ++ [v]) := fun H hM => DVs.app (h H hM) (h2 H hM)
theorem Stbs.nil {K : PySem.W.Frag} {M : Kn} : Stbs K M [] [] := fun H _ => by unfold DVs; rfl
theorem Stb.mono {K : PySem.W.Frag} {M M' : Kn} {d : PyData} {v : V} (h : Stb K M d v) (s : ∀ z ∈ M, NT z -> z ∈ M') : Stb K M' d v := fun H hM => h H fun z hz nt => hM z (s z hz nt) nt
theorem Stbs.mono {K : PySem.W.Frag} {M M' : Kn} {ds : List PyData} {vs : List V} (h : Stbs K M ds vs) (s : ∀ z ∈ M, NT z -> z ∈ M') : Stbs K M' ds vs := fun H hM => h H fun z hz nt => hM z (s z hz nt) nt
theorem Stb.int {K : PySem.W.Frag} {M : Kn} (i : Int) : Stb K M (.int i) (.int i) := fun H _ => by unfold DV; rfl
theorem Stb.str {K : PySem.W.Frag} {M : Kn} (x : Str) : Stb K M (.str x) (.str x) := fun H _ => by unfold DV; rfl
theorem Stb.lst {K : PySem.W.Frag} {M : Kn} {l : Addr} {vs : List V} {ds : List PyData} (m : (l, HO.lst vs) ∈ M) (h : Stbs K M ds vs) : Stb K M (.list ds) (.ref l) := fun H hM => by
 unfold DV
 exact ⟨l, vs, rfl, SqL.of (hM _ m (fun _ e => nomatch e)), h H hM⟩
theorem Stbs.ints {K : PySem.W.Frag} {M : Kn} (ns : List Int) : Stbs K M (ns.map PyData.int) (ns.map V.int) := fun H _ => DVs.map _ _ _ fun x _ => by unfold DV; rfl
def endD : Option En -> PyData
 | none => .none
 | some z => .tuple [.int z.2.1, .int z.2.2]
theorem Stb.en {K : PySem.W.Frag} {M : Kn} {u : Option En} (h : ∀ z, u = some z -> (z.1, HO.tup [.int z.2.1, .int z.2.2]) ∈ M) : Stb K M (endD u) (enV u) := fun H hM => by
 cases u with
 | none => show DV K H .none .non; unfold DV; rfl
 | some z =>
  show DV K H (.tuple [.int z.2.1, .int z.2.2]) (.ref z.1)
  unfold DV
  refine ⟨z.1, _, rfl, SqT.of (hM _ (h z rfl) (fun _ e => nomatch e)), ?_⟩
  exact DVs.map PyData.int V.int [z.2.1, z.2.2] fun x _ => by unfold DV; rfl
def pieceD (w : Wd) (p : Int × Kd) : List PyData := [.str p.2.str] ++ (if p.2 = .bell then [.int (w.nf p.1)] else []) ++ (if p.2.point = true then [.int (w.rf p.1)] else []) ++ (List.range p.2.many.toNat).map fun e : Nat => endD (w.mf p.1 e)
def look0 (s : Sd) (KS : List (Int × Kd)) : List PyData := [.list ((KS.map (·.1)).map .int), .list (((List.range s.ss.length).map fun i : Nat => (i : Int)).map .int), endD s.at_, .list (s.rg.map .int)]
def lookD (w : Wd) (s : Sd) (KS : List (Int × Kd)) : PyData := .list (look0 s KS ++ KS.flatMap (pieceD w) ++ s.ss.map .int)
theorem endD_lay (u : Option En) : (endD u).canLay0 = true /\ (endD u).depth <= 2 := by cases u <;> simp [endD, PyData.canLay0, PyData.canLayAll0, PyData.depth, PyData.depthAll]
theorem Kd.strOk (k : Kd) : PyData.strOk k.str = true := by cases k <;> decide +kernel
theorem canLayAll_of : ∀ (l : List PyData), (∀ x ∈ l, x.canLay0 = true) -> PyData.canLayAll0 l = true
 | [], _ => rfl
 | x :: l, h => by rw [PyData.canLayAll0, h x List.mem_cons_self, canLayAll_of l fun y hy => h y (List.mem_cons_of_mem _ hy)]; rfl
theorem depthAll_of (n : Nat) : ∀ (l : List PyData), (∀ x ∈ l, x.depth <= n) -> PyData.depthAll l <= n
 | [], _ => Nat.zero_le _
 | x :: l, h => by
  rw [PyData.depthAll]
  exact Nat.max_le.mpr ⟨h x List.mem_cons_self, depthAll_of n l fun y hy => h y (List.mem_cons_of_mem _ hy)⟩
theorem intsLay (ns : List Int) : (PyData.list (ns.map .int)).canLay0 = true /\ (PyData.list (ns.map .int)).depth <= 2 := by
 constructor
 ·rw [PyData.canLay0]; exact canLayAll_map _ _ fun x _ => by simp [PyData.canLay0]
 ·rw [PyData.depth]
  have := depthAll_map PyData.int 1 ns (fun x _ => by simp [PyData.depth])
  omega
theorem pieceD_lay (w : Wd) (p : Int × Kd) : ∀ x ∈ pieceD w p, x.canLay0 = true /\ x.depth <= 2 := by
 intro x hx
 unfold pieceD at hx
 rcases List.mem_append.mp hx with hx | hx
 ·rcases List.mem_append.mp hx with hx | hx
  ·rcases List.mem_append.mp hx with hx | hx
   ·rw [List.mem_singleton.mp hx]; exact ⟨by rw [PyData.canLay0]; exact p.2.strOk, by simp [PyData.depth]⟩
   ·split at hx
    ·rw [List.mem_singleton.mp hx]; simp [PyData.canLay0, PyData.depth]
    ·cases hx
  ·split at hx
   ·rw [List.mem_singleton.mp hx]; simp [PyData.canLay0, PyData.depth]
   ·cases hx
 ·obtain ⟨e, _, rfl⟩ := List.mem_map.mp hx
  exact endD_lay _
theorem look_lay (w : Wd) (s : Sd) (KS : List (Int × Kd)) : (lookD w s KS).canLay0 = true /\ (lookD w s KS).depth <= 3 := by
 have h : ∀ x ∈ look0 s KS ++ KS.flatMap (pieceD w) ++ s.ss.map .int, x.canLay0 = true /\ x.depth <= 2 := fun x hx => by
  rcases List.mem_append.mp hx with hx | hx
  ·rcases List.mem_append.mp hx with hx | hx
   ·unfold look0 at hx
    simp only [List.mem_cons, List.not_mem_nil, or_false] at hx
    rcases hx with rfl | rfl | rfl | rfl
    ·exact intsLay _
    ·exact intsLay _
    ·exact endD_lay _
    ·exact intsLay _
   ·obtain ⟨p, _, hp⟩ := List.mem_flatMap.mp hx
    exact pieceD_lay w p x hp
  ·obtain ⟨i, _, rfl⟩ := List.mem_map.mp hx
   simp [PyData.canLay0, PyData.depth]
 constructor
 ·unfold lookD; rw [PyData.canLay0]; exact canLayAll_of _ fun x hx => (h x hx).1
 ·unfold lookD; rw [PyData.depth]
  have := depthAll_of 2 _ fun x hx => (h x hx).2
  omega
theorem look_sh (w : Wd) (s : Sd) (KS : List (Int × Kd)) : SeqAt.shaped (lookD w s KS) = true := shaped_of (look_lay w s KS).1 (by have := (look_lay w s KS).2; omega)
def kmap (KS : List (Int × Kd)) : List (Key × V) := KS.map fun p => ((Sum.inl p.1 : Key), V.str p.2.str)
theorem kmap_keys (KS : List (Int × Kd)) : (kmap KS).map (fun kv => kV kv.1) = (KS.map (·.1)).map V.int := by
 unfold kmap; rw [List.map_map, List.map_map]; rfl
def sp_look (K : PySem.W.Frag) (C : Addr) : Sp := fun vs H Q _ => ∃ (A : YA) (y : YR) (L : Kn) (w : Wd) (s : Sd) (KS : List (Int × Kd)), vs = [.ref A.p] /\ Has H (yL C A y ++ L) /\ Rep w s y /\ Pool w s L /\ Small y /\ y.kinds = kmap KS /\ (∀ p ∈ KS, w.kf p.1 = some p.2) /\
 ∀ H' l N, Stb K (N ++ L) (lookD w s KS) (.ref l) -> Has H' (yL C A y ++ (N ++ L)) -> Q (.ref l) H'
def LkI (K : PySem.W.Frag) (C : Addr) (A : YA) (y : YR) (L : Kn) (rw : Addr) (N : Kn) (ds : List PyData) (c : Nat) (H : Hp) : Prop := ∃ vs : List V, Stbs K (N ++ L) ds vs /\ vs.length <= c /\ Has H (yL C A y ++ ((rw, HO.lst vs) :: (N ++ L)))
theorem intsV_eq (n : Nat) : intsV n = ((List.range n).map fun i : Nat => (i : Int)).map V.int := by
 unfold intsV; rw [List.map_map]; rfl
section
variable {P : Program} {w : World} {K : PySem.W.Frag} {mg : Str -> Option Value} {base : Heap} {t : Adr}
theorem scLo : FnScope ["_law_yard", "_law_row", "_law_piece", "_law_kind_here", "_law_place", "_law_rod"] ["_law_yard"] (defScope s_look) := ⟨rfl, rfl, rfl, by decide +kernel, rfl, by decide +kernel, by decide +kernel⟩
theorem ok_look (T : Txt K mg t) : FnOk P w K mg base CX0 6 t.f_look t.d_look ["_law_yard"] (sp_look K t.c_Yard) := by
 refine T.F_look.ok scLo (fun vs H Q E h => ?_) (fun cdv A outer s H vs Q E hr h => ?_)
 ·obtain ⟨_, _, _, _, _, _, rfl, _⟩ := h
  rfl
 ·obtain ⟨A, y, L, W, sd, KS, rfl, hH, R, PL, sm, ek, hK, q⟩ := h
  have tupIn : ∀ {u : Option En} {N : Kn}, (∀ z, u = some z -> ∃ j : Nat, L[j]? = some (z.1, HO.tup [.int z.2.1, .int z.2.2])) -> Stb K (N ++ L) (endD u) (enV u) := fun h => Stb.en fun z hz => by
   obtain ⟨j, hj⟩ := h z hz
   exact List.mem_append_right _ (List.mem_of_getElem? hj)
  have kl : KS.length <= 10000 := by have := sm.k; rw [ek] at this; unfold kmap at this; rw [List.length_map] at this; exact this
  have sl : sd.ss.length <= 10000 := by have := sm.s; rw [R.sd, List.length_map] at this; exact this
  refine ⟨_, (pss_cons (ps_set (i := 1) scLo.nd rfl (Or.inl rfl) (pe_lst (pa_cons (pe_meth0 (pv 0) T.cl_Yard T.M_Jb (ok_Jb T) (hr.mono (by decide)) (b_Jb T) .nil pass0) (pa_cons (pe_meth0 (pv 0) T.cl_Yard T.M_Jr (ok_Jr T) (hr.mono (by decide)) (b_Jr T) .nil pass0) (pa_cons (pe_meth0 (pv 0) T.cl_Yard T.M_Ja (ok_Ja T) (hr.mono (by decide)) (b_Ja T) .nil pass0) (pa_cons (pe_meth0 (pv 0) T.cl_Yard T.M_Ji (ok_Ji T) (hr.mono (by decide)) (b_Ji T) .nil pass0) pa_nil))))))
   (pss_cons (ps_for PassesOwn.never rfl (pi_list (pe_meth0 (pv 0) T.cl_Yard T.M_Jb (ok_Jb T) (hr.mono (by decide)) (b_Jb T) .nil pass0)) (pg_name (i := 2) scLo.nd rfl (Or.inl rfl))
    (pss_cons (ps_set (i := 3) scLo.nd rfl (Or.inl rfl) (pe_meth (pv 0) T.cl_Yard T.M_Jo (ok_Jo T) (hr.mono (by decide)) (b_Jo T) .nil pass0 (pa_cons (pv 2) pa_nil)))
     (pss_cons (ps_expr (pe_bm PySem.F.plainAttrs_list PySem.F.slot_list_append PySem.F.type_list_append mt_append (pv 1) (pa_cons (pv 3) pa_nil)))
     (pss_cons (ps_cut (ps_if (pt_cmpR op_eq (pv 3) pe_str (nomark _))
      (pss_one (ps_expr (pe_bm PySem.F.plainAttrs_list PySem.F.slot_list_append PySem.F.type_list_append mt_append (pv 1) (pa_cons (pe_meth (pv 0) T.cl_Yard T.M_Js (ok_Js T) (hr.mono (by decide)) (b_Js T) .nil pass0 (pa_cons (pv 2) pa_nil)) pa_nil))))
      pss_nil))
     (pss_cons (ps_cut (ps_if (pt_cmpR op_eq (pe_call (ok_many T) (hr.mono (by decide)) (by rfl) T.m_many T.F_many.kp (b_many T) .nil pass0 (pa_cons (pv 3) pa_nil)) pe_int (nomark _))
      (pss_one (ps_expr (pe_bm PySem.F.plainAttrs_list PySem.F.slot_list_append PySem.F.type_list_append mt_append (pv 1) (pa_cons (pe_meth (pv 0) T.cl_Yard T.M_Jy (ok_Jy T) (hr.mono (by decide)) (b_Jy T) .nil pass0 (pa_cons (pv 2) pa_nil)) pa_nil))))
      pss_nil))
     (pss_one (ps_for PassesOwn.never rfl (pi_range1 (by rfl) T.z_range (pa_cons (pe_call (ok_many T) (hr.mono (by decide)) (by rfl) T.m_many T.F_many.kp (b_many T) .nil pass0 (pa_cons (pv 3) pa_nil)) pa_nil)) (pg_name (i := 4) scLo.nd rfl (Or.inl rfl))
      (pss_one (ps_expr (pe_bm PySem.F.plainAttrs_list PySem.F.slot_list_append PySem.F.type_list_append mt_append (pv 1) (pa_cons (pe_meth (pv 0) T.cl_Yard T.M_Jp (ok_Jp T) (hr.mono (by decide)) (b_Jp T) .nil pass0 (@pa_cons _ _ _ _ _ (pe_tup (pa_cons (pv 2) (pa_cons (pv 4) pa_nil))) pa_nil (by rfl))) pa_nil)))))))))))
   (pss_cons (ps_for PassesOwn.never rfl (pi_list (pe_meth0 (pv 0) T.cl_Yard T.M_Jr (ok_Jr T) (hr.mono (by decide)) (b_Jr T) .nil pass0)) (pg_name (i := 5) scLo.nd rfl (Or.inl rfl))
    (pss_one (ps_expr (pe_bm PySem.F.plainAttrs_list PySem.F.slot_list_append PySem.F.type_list_append mt_append (pv 1) (pa_cons (pe_meth (pv 0) T.cl_Yard T.M_Jq (ok_Jq T) (hr.mono (by decide)) (b_Jq T) .nil pass0 (pa_cons (pv 5) pa_nil)) pa_nil)))))
   (pss_one (ps_ret (pv 1)))))), ?_⟩
  rw [show L2.start ["_law_yard", "_law_row", "_law_piece", "_law_kind_here", "_law_place", "_law_rod"] [V.ref A.p] = ([some (V.ref A.p), none, none, none, none, none] : St) from rfl]
  refine ⟨_, rfl, A.p, A.dx, _, rfl, hH.get 1 rfl, (fl_m4 _ _ _).2.2.2.1, A, y, _, rfl, hH, fun H1 l1 h1 => ?_⟩
  replace h1 := Has.comm (X := [_]) (Y := yL t.c_Yard A y) (R := L) h1
  refine ⟨_, rfl, A.p, A.dx, _, rfl, h1.get 1 rfl, (fl_m _ _ _).2.2.2.1, A, y, _, rfl, h1, sm, fun H2 l2 h2 => ?_⟩
  replace h2 := Has.comm (X := [_]) (Y := yL t.c_Yard A y) h2
  refine ⟨_, rfl, A.p, A.dx, _, rfl, h2.get 1 rfl, (fl_m4 _ _ _).2.2.2.2.2.2.1, A, y, _, rfl, h2, ?_⟩
  refine ⟨_, rfl, A.p, A.dx, _, rfl, h2.get 1 rfl, (fl_m4 _ _ _).2.2.2.2.2.2.2.1, A, y, _, rfl, h2, fun H3 l3 h3 => ?_⟩
  replace h3 := Has.comm (X := [_]) (Y := yL t.c_Yard A y) h3
  refine ⟨sz (show 4 <= 1000000 by decide), fun rw_ hrw => ?_⟩
  have h4 := Has.comm (X := [_]) (Y := yL t.c_Yard A y) (h3.alloc hrw (.lst [.ref l1, .ref l2, y.eng, .ref l3]))
  generalize upd H3 rw_ _ = H4 at h4 ⊢
  clear h3 h2 h1 hH hrw
  dsimp only [List.set]
  have eI : intsV y.sides.length = ((List.range sd.ss.length).map fun i : Nat => (i : Int)).map V.int := by rw [R.sd, List.length_map]; exact intsV_eq _
  have ekk : (y.kinds.map fun kv => kV kv.1) = (KS.map (·.1)).map V.int := by rw [ek]; exact kmap_keys _
  rw [R.rg, eI, ekk, R.en] at h4
  obtain ⟨N0, eN0⟩ : ∃ N0 : Kn, [(l3, HO.lst (sd.rg.map V.int)), (l2, HO.lst (((List.range sd.ss.length).map fun i : Nat => (i : Int)).map V.int)), (l1, HO.lst ((KS.map (·.1)).map V.int))] = N0 := ⟨_, rfl⟩
  have L4 : LkI K t.c_Yard A y L rw_ N0 (look0 sd KS) 4 H4 := by
   subst eN0
   refine ⟨[.ref l1, .ref l2, enV sd.at_, .ref l3], ?_, Nat.le_refl 4, h4⟩
   have a1 := Stbs.nil.snoc (K := K) (Stb.lst (l := l1) (M := [(l3, HO.lst (sd.rg.map V.int)), (l2, HO.lst (((List.range sd.ss.length).map fun i : Nat => (i : Int)).map V.int)), (l1, HO.lst ((KS.map (·.1)).map V.int))] ++ L) (by simp) (Stbs.ints (KS.map (·.1))))
   have a2 := a1.snoc (Stb.lst (l := l2) (by simp) (Stbs.ints ((List.range sd.ss.length).map fun i : Nat => (i : Int))))
   have a3 := a2.snoc (tupIn (u := sd.at_) PL.e)
   exact a3.snoc (Stb.lst (l := l3) (by simp) (Stbs.ints sd.rg))
  clear h4 eN0
  obtain ⟨vs4, sv4, lv4, h4⟩ := L4
  refine ⟨_, rfl, A.p, A.dx, _, rfl, h4.get 1 rfl, (fl_m4 _ _ _).2.2.2.1, A, y, _, rfl, h4, fun H5 pl h5 => ?_⟩
  rw [ekk] at h5
  have h5' := hcast (has_mid (Z := []) (X := [(pl, HO.lst ((KS.map (·.1)).map V.int))]) (Y := yL t.c_Yard A y ++ [(rw_, HO.lst vs4)]) (R := N0 ++ L) (hcast h5 (by simp))) (L' := yL t.c_Yard A y ++ ((rw_, HO.lst vs4) :: (((pl, HO.lst ((KS.map (·.1)).map V.int)) :: N0) ++ L))) (by simp)
  obtain ⟨N1, eN1⟩ : ∃ N1 : Kn, (pl, HO.lst ((KS.map (·.1)).map V.int)) :: N0 = N1 := ⟨_, rfl⟩
  rw [eN1] at h5'
  have mpl : (pl, HO.lst ((KS.map (·.1)).map V.int)) ∈ N1 := by rw [<- eN1]; exact List.mem_cons_self
  have L5 : LkI K t.c_Yard A y L rw_ N1 (look0 sd KS) 4 H5 := ⟨vs4, sv4.mono (fun z hz _ => by rw [<- eN1]; exact List.mem_cons_of_mem _ hz), lv4, h5'⟩
  clear h5 h5' h4 sv4 lv4 eN1
  have gpl : ∀ {ds c H'}, LkI K t.c_Yard A y L rw_ N1 ds c H' -> SqL K H' pl ((KS.map (·.1)).map V.int) := fun ⟨vs, _, _, h⟩ => SqL.of (h.at_ _ (List.mem_append_right _ (List.mem_cons_of_mem _ (List.mem_append_left _ mpl))))
  refine ⟨pl, rfl, ⟨_, gpl L5⟩, for_list (xs := (KS.map (·.1)).map V.int) (fun i σ H' => ∃ o1 o2 o3 : Option V, σ = [some (.ref A.p), some (.ref rw_), o1, o2, o3, none] /\ LkI K t.c_Yard A y L rw_ N1 (look0 sd KS ++ (KS.take i).flatMap (pieceD W)) (4 + 6 * i) H') ⟨_, _, _, rfl, by simpa using L5⟩ (fun i σ H' _ ⟨_, _, _, _, h⟩ => gpl h) ?_ ?_⟩
  ·clear L5
   rintro i x σ H6 hx ⟨o1, o2, o3, rfl, L6⟩
   have hi : i < KS.length := by have := (List.getElem?_eq_some_iff.mp hx).1; simpa using this
   have ex : x = .int KS[i].1 := by
    rw [List.getElem?_map, List.getElem?_map, List.getElem?_eq_getElem hi] at hx
    exact (Option.some.inj hx).symm
   subst ex
   obtain ⟨p, ep⟩ : ∃ p, KS[i] = p := ⟨_, rfl⟩
   have mp : p ∈ KS := by rw [<- ep]; exact List.getElem_mem hi
   have hk := hK p mp
   have tk : KS.take (i + 1) = KS.take i ++ [p] := by rw [List.take_succ, List.getElem?_eq_getElem hi, ep]; rfl
   rw [ep]
   obtain ⟨D0, eD0⟩ : ∃ D0, look0 sd KS ++ (KS.take i).flatMap (pieceD W) = D0 := ⟨_, rfl⟩
   have eD1 : look0 sd KS ++ (KS.take (i + 1)).flatMap (pieceD W) = D0 ++ pieceD W p := by rw [tk, List.flatMap_append, <- List.append_assoc, eD0]; simp
   rw [eD0] at L6
   rw [eD1]
   clear eD1 eD0 tk ep hx
   obtain ⟨vs, sv, lv, h6⟩ := L6
   have km : 1 <= p.2.many /\ p.2.many <= 3 := by cases p.2 <;> decide
   dsimp only [List.set]
   refine ⟨_, rfl, A.p, A.dx, _, rfl, h6.get 1 rfl, (fl_m4 _ _ _).2.2.2.2.1, _, rfl, A, y, _, p.1, _, rfl, h6, R.kd _ _ hk, ?_⟩
   dsimp only [List.set]
   refine ⟨_, rfl, .inl ⟨rfl, _, SqL.of (h6.get 9 rfl)⟩, _, rfl, rw_, _, _, rfl, rfl, h6.get 9 rfl, sizeOk (by omega), ?_⟩
   have h7 : Has _ (yL t.c_Yard A y ++ ((rw_, HO.lst (vs ++ [.str p.2.str])) :: (N1 ++ L))) := h6.puti 9 rfl (.lst (vs ++ [.str p.2.str]))
   generalize upd H6 rw_ _ = H7 at h7 ⊢
   have L7 : LkI K t.c_Yard A y L rw_ N1 (D0 ++ [.str p.2.str]) (4 + 6 * i + 1) H7 := ⟨_, sv.snoc (Stb.str _), by rw [List.length_append, List.length_singleton]; omega, h7⟩
   clear h7 h6 sv lv
   refine ⟨fun σ' H' => σ' = [some (.ref A.p), some (.ref rw_), some (.int p.1), some (.str p.2.str), o3, none] /\ LkI K t.c_Yard A y L rw_ N1 (D0 ++ ([.str p.2.str] ++ (if p.2 = .bell then [.int (W.nf p.1)] else []))) (4 + 6 * i + 2) H', ?_, ?_⟩
   ·obtain ⟨vs, sv, lv, h7⟩ := L7
    refine ⟨_, rfl, rfl, _, rfl, ?_⟩
    rw [p.2.isBell]
    refine ifd (fun c => ?_) (fun c => ?_)
    ·refine ⟨_, rfl, .inl ⟨rfl, _, SqL.of (h7.get 9 rfl)⟩, _, rfl, A.p, A.dx, _, rfl, h7.get 1 rfl, (fl_m4 _ _ _).2.2.2.2.2.1, _, rfl, A, y, _, p.1, _, _, rfl, h7, R.kd _ _ hk, (by rw [R.no _ _ hk, if_pos c]), rw_, _, _, rfl, rfl, h7.get 9 rfl, sizeOk (by omega), ?_⟩
     refine ⟨rfl, _, ?_, ?_, h7.puti 9 rfl (.lst (vs ++ [.int (W.nf p.1)]))⟩
     ·rw [if_pos c, <- List.append_assoc]; exact sv.snoc (Stb.int _)
     ·rw [List.length_append, List.length_singleton]; omega
    ·refine ⟨rfl, vs, ?_, by omega, h7⟩
     rw [if_neg c, List.append_nil]; exact sv
   clear L7
   rintro σ' H7 ⟨rfl, L7⟩
   obtain ⟨D1, eD1⟩ : ∃ D1 : List PyData, [PyData.str p.2.str] ++ (if p.2 = .bell then [.int (W.nf p.1)] else []) = D1 := ⟨_, rfl⟩
   rw [eD1] at L7
   refine ⟨fun σ' H' => σ' = [some (.ref A.p), some (.ref rw_), some (.int p.1), some (.str p.2.str), o3, none] /\ LkI K t.c_Yard A y L rw_ N1 (D0 ++ (D1 ++ (if p.2.point = true then [.int (W.rf p.1)] else []))) (4 + 6 * i + 3) H', ?_, ?_⟩
   ·obtain ⟨vs, sv, lv, h7⟩ := L7
    refine ⟨_, rfl, p.2, rfl, rfl, _, rfl, ?_⟩
    rw [decInt, show decide (p.2.many = 3) = p.2.point by cases p.2 <;> rfl]
    refine if2 (fun c => ?_) (fun c => ?_)
    ·refine ⟨_, rfl, .inl ⟨rfl, _, SqL.of (h7.get 9 rfl)⟩, _, rfl, A.p, A.dx, _, rfl, h7.get 1 rfl, (fl_m _ _ _).2.2.2.2.1, _, rfl, A, y, _, p.1, _, _, rfl, h7, R.kd _ _ hk, (by rw [R.ro _ _ hk, if_pos c]), rw_, _, _, rfl, rfl, h7.get 9 rfl, sizeOk (by omega), ?_⟩
     refine ⟨rfl, _, ?_, ?_, h7.puti 9 rfl (.lst (vs ++ [.int (W.rf p.1)]))⟩
     ·rw [if_pos c, <- List.append_assoc]; exact sv.snoc (Stb.int _)
     ·rw [List.length_append, List.length_singleton]; omega
    ·refine ⟨rfl, vs, ?_, by omega, h7⟩
     rw [if_neg (by rw [c]; exact Bool.false_ne_true), List.append_nil]; exact sv
   clear L7
   rintro σ' H7 ⟨rfl, L7⟩
   obtain ⟨D2, eD2⟩ : ∃ D2 : List PyData, D1 ++ (if p.2.point = true then [.int (W.rf p.1)] else []) = D2 := ⟨_, rfl⟩
   rw [eD2] at L7
   have ePD : pieceD W p = D2 ++ (List.range p.2.many.toNat).map fun e : Nat => endD (W.mf p.1 e) := by unfold pieceD; rw [eD1, eD2]
   rw [ePD]
   refine ⟨_, rfl, p.2, rfl, p.2.many, rfl, by omega, by omega, for_range (fun e σ H' => ∃ o3 : Option V, σ = [some (.ref A.p), some (.ref rw_), some (.int p.1), some (.str p.2.str), o3, none] /\ LkI K t.c_Yard A y L rw_ N1 (D0 ++ (D2 ++ (List.range e).map fun e : Nat => endD (W.mf p.1 e))) (4 + 6 * i + 3 + e) H') ⟨_, rfl, by simpa using L7⟩ ?_ ?_⟩
   ·clear L7
    rintro e σ H8 he ⟨o3, rfl, vs, sv, lv, h8⟩
    have he3 : e < 3 := by omega
    dsimp only [List.set]
    rw [Int.zero_add]
    refine ⟨_, rfl, .inl ⟨rfl, _, SqL.of (h8.get 9 rfl)⟩, _, rfl, A.p, A.dx, _, rfl, h8.get 1 rfl, (fl_m2 _ _ _).2.1, _, rfl, _, rfl, (show 2 <= sizeLine by decide), fun b hb => ?_⟩
    have h9 := h8.alloc hb (.tup [.int p.1, .int (e : Int)])
    generalize upd H8 b _ = H9 at h9 ⊢
    refine ⟨A, y, _, b, p.1, (e : Int), 0, rfl, Has.comm (X := [_]) (Y := yL t.c_Yard A y) h9, rfl, ⟨p.2, R.kd _ _ hk, by omega, by omega⟩, ?_⟩
    replace h9 := h9.tail
    rw [show (valV y.mates (kE p.1 (e : Int))).getD .non = enV (W.mf p.1 e) by rw [R.mt]; cases W.mf p.1 e <;> rfl]
    refine ⟨rw_, _, _, rfl, rfl, h9.get 9 rfl, sizeOk (by omega), ?_⟩
    refine ⟨_, rfl, _, ?_, ?_, h9.puti 9 rfl (.lst (vs ++ [enV (W.mf p.1 e)]))⟩
    ·rw [List.range_succ, List.map_append, <- List.append_assoc, <- List.append_assoc]
     rw [<- List.append_assoc] at sv
     exact sv.snoc (tupIn (fun z hz => PL.m _ _ z hz))
    ·rw [List.length_append, List.length_singleton]; omega
   ·rintro σ H8 ⟨o3, rfl, vs, sv, lv, h8⟩
    exact ⟨_, _, _, rfl, vs, sv, by omega, h8⟩
  ·clear L5
   rintro σ H6 ⟨o1, o2, o3, rfl, L6⟩
   have e1 : ((KS.map (·.1)).map V.int).length = KS.length := by simp
   rw [e1, List.take_length] at L6
   obtain ⟨vs, sv, lv, h6⟩ := L6
   refine ⟨_, rfl, A.p, A.dx, _, rfl, h6.get 1 rfl, (fl_m _ _ _).2.2.2.1, A, y, _, rfl, h6, sm, fun H7 rl h7 => ?_⟩
   rw [eI] at h7
   have h7' := hcast (has_mid (Z := []) (X := [(rl, HO.lst (((List.range sd.ss.length).map fun i : Nat => (i : Int)).map V.int))]) (Y := yL t.c_Yard A y ++ [(rw_, HO.lst vs)]) (R := N1 ++ L) (hcast h7 (by simp))) (L' := yL t.c_Yard A y ++ ((rw_, HO.lst vs) :: (((rl, HO.lst (((List.range sd.ss.length).map fun i : Nat => (i : Int)).map V.int)) :: N1) ++ L))) (by simp)
   obtain ⟨N2, eN2⟩ : ∃ N2 : Kn, (rl, HO.lst (((List.range sd.ss.length).map fun i : Nat => (i : Int)).map V.int)) :: N1 = N2 := ⟨_, rfl⟩
   rw [eN2] at h7'
   have mrl : (rl, HO.lst (((List.range sd.ss.length).map fun i : Nat => (i : Int)).map V.int)) ∈ N2 := by rw [<- eN2]; exact List.mem_cons_self
   have L7 : LkI K t.c_Yard A y L rw_ N2 (look0 sd KS ++ KS.flatMap (pieceD W)) (4 + 6 * KS.length) H7 := ⟨vs, sv.mono (fun z hz _ => by rw [<- eN2]; exact List.mem_cons_of_mem _ hz), lv, h7'⟩
   clear h7 h7' h6 sv lv eN2
   have grl : ∀ {ds c H'}, LkI K t.c_Yard A y L rw_ N2 ds c H' -> SqL K H' rl (((List.range sd.ss.length).map fun i : Nat => (i : Int)).map V.int) := fun ⟨vs, _, _, h⟩ => SqL.of (h.at_ _ (List.mem_append_right _ (List.mem_cons_of_mem _ (List.mem_append_left _ mrl))))
   refine ⟨rl, rfl, ⟨_, grl L7⟩, for_list (xs := ((List.range sd.ss.length).map fun i : Nat => (i : Int)).map V.int) (fun i σ H' => ∃ o0 : Option V, σ = [some (.ref A.p), some (.ref rw_), o1, o2, o3, o0] /\ LkI K t.c_Yard A y L rw_ N2 (look0 sd KS ++ KS.flatMap (pieceD W) ++ (sd.ss.take i).map .int) (4 + 6 * KS.length + i) H') ⟨_, rfl, by simpa using L7⟩ (fun i σ H' _ ⟨_, _, h⟩ => grl h) ?_ ?_⟩
   ·clear L7
    rintro i x σ H8 hx ⟨o0, rfl, vs, sv, lv, h8⟩
    have hi : i < sd.ss.length := by have := (List.getElem?_eq_some_iff.mp hx).1; simpa using this
    have ex : x = .int (i : Int) := by
     rw [List.getElem?_map, List.getElem?_map, List.getElem?_eq_getElem (by simpa using hi)] at hx
     simpa using (Option.some.inj hx).symm
    subst ex
    dsimp only [List.set]
    refine ⟨_, rfl, .inl ⟨rfl, _, SqL.of (h8.get 9 rfl)⟩, _, rfl, A.p, A.dx, _, rfl, h8.get 1 rfl, (fl_m _ _ _).2.2.2.2.2.1, _, rfl, A, y, _, (i : Int), .int sd.ss[i], rfl, h8, by omega, (by rw [R.sd, Int.toNat_natCast, List.getElem?_map, List.getElem?_eq_getElem hi]; rfl), rw_, _, _, rfl, rfl, h8.get 9 rfl, sizeOk (by omega), ?_⟩
    refine ⟨_, rfl, _, ?_, ?_, h8.puti 9 rfl (.lst (vs ++ [.int sd.ss[i]]))⟩
    ·rw [List.take_succ, List.getElem?_eq_getElem hi, List.map_append, <- List.append_assoc]
     exact sv.snoc (Stb.int _)
    ·rw [List.length_append, List.length_singleton]; omega
   ·clear L7
    rintro σ H8 ⟨o0, rfl, vs, sv, lv, h8⟩
    have e2 : (((List.range sd.ss.length).map fun i : Nat => (i : Int)).map V.int).length = sd.ss.length := by simp
    rw [e2, List.take_length] at sv
    refine ⟨_, rfl, q H8 rw_ ((rw_, HO.lst vs) :: N2) ?_ h8⟩
    exact Stb.lst (vs := vs) List.mem_cons_self (sv.mono fun z hz _ => List.mem_cons_of_mem _ hz)
end
end P
set_option Elab.async false
set_option linter.all false
set_option maxRecDepth 100000
set_option maxHeartbeats 4000000
namespace P
open PySem L2
theorem ref_oneM {K : PySem.W.Frag} {t : Adr} {Z L : Kn} {H : Hp} {Pt : Addr} {qual : Str} {lpos : Pos} {js : List Nat} {tb : XK -> TE} {σ : St} {Q : VK} (i : Nat) (hi : i < 22) (C : Addr) (hC : excAll K C t.c_RailError (dsOf t i) = true) (h : Has H (Z ++ L)) (T : Tb L Pt qual)
  (hd : ∀ H1 W Q1 E1, Has H1 (Z ++ W) -> (∀ z ∈ L, z.1 ≠ Pt -> z ∈ W) -> (∀ H2 G a, Has H2 (G ++ (Z ++ W)) -> E1 (.ref C) (some a) H2) -> tb E1 (js.map fun j => (σ[j]?).join) H1 Q1)
  (k : ∀ H' L' r, Has H' ((r, HO.lst [.str (nameAt i)]) :: (Z ++ L')) -> Tb L' Pt qual -> (∀ z ∈ L, z.1 ≠ Pt -> z ∈ L') -> Q (.ref r) H') : tRef Pt qual lpos js (refSp K t) tb σ H Q := by
 refine ref_tb h T (fun H3 L3 s3 tb3 kp3 => ?_)
 refine ⟨Z ++ L3, [], fun _ _ => False, fun i' N => i' = i /\ ∃ G, N = G ++ (Z ++ L3), by rw [List.append_nil]; exact s3, fun H1' L1' Q1 E1 s1' _ hX => ?_, fun _ _ _ _ z => z.elim, ?_⟩
 ·refine hd H1' (L3 ++ L1') Q1 E1 (by rw [<- List.append_assoc]; exact s1') (fun z hz ne => List.mem_append_left _ (kp3 z hz ne)) (fun H2 G a h2 => ?_)
  exact hX C a i (G ++ (Z ++ L3)) H2 ⟨rfl, G, rfl⟩ hi hC (by simpa [List.append_assoc] using h2)
 ·rintro i' N r H2 ⟨rfl, G, rfl⟩ _ s2
  rw [List.append_nil] at s2
  exact k H2 L3 r (dropL (Has.comm (X := [(r, HO.lst [.str (nameAt i')])]) (Y := G) (R := Z ++ L3) s2)) tb3 kp3
theorem all_true (n : Nat) : (List.replicate n true).all id = true := by induction n with | zero => rfl | succ n ih => rw [List.replicate_succ, List.all_cons, ih]; rfl
theorem hE_mid0 {H : Hp} {Y C P W : Kn} (h : Has H (Y ++ (C ++ (P ++ W)))) : Has H (C ++ ((Y ++ P) ++ W)) := hcast (has_mid (Z := []) h) (by simp)
theorem nameOk (i : Nat) (h : i < 22) : (strsD [nameAt i]).canLay0 = true /\ SeqAt.shaped (strsD [nameAt i]) = true := ⟨dueLay (some i) (fun j e => by cases e; exact h), dueSh (some i) (fun j e => by cases e; exact h)⟩
def q_J3 : Str := ("_law_bad_piece_told" : Str) ++ Str.ofString ".<locals>." ++ "<lambda>"
def sp_bpt (C Pt : Addr) : Sp := fun vs H Q _ => ∃ (A : YA) (y : YR) (L : Kn) (bad place gn ge : Int) (gd : Addr), vs = [.ref A.p, .int bad, .ref gd, .int place] /\ Has H (yL C A y ++ L) /\ Tb L Pt q_J3 /\ valV y.kinds (Sum.inl bad) = none /\ L2.Small bad /\ (gd, HO.tup [.int gn, .int ge]) ∈ L /\ There y gn ge /\
 ∀ H' L', Has H' (yL C A y ++ L') -> (∀ z ∈ L, z.1 ≠ Pt -> z ∈ L') -> Q (.bl true) H'
section
variable {P : Program} {w : World} {K : PySem.W.Frag} {mg : Str -> Option Value} {base : Heap} {t : Adr}
theorem scBp : FnScope ["_law_yard", "_law_bad", "_law_good", "_law_place", "_law_rows"] ["_law_yard", "_law_bad", "_law_good", "_law_place"] (defScope s_J3) := ⟨rfl, rfl, rfl, by decide +kernel, rfl, by decide +kernel, by decide +kernel⟩
theorem okM_J3 (T : Txt K mg t) (kb : K.In base) (hbm : BM base mg) : FnOk P w K mg base CX0 11 t.f_J3 t.d_J3 ["_law_yard", "_law_bad", "_law_good", "_law_place"] (sp_bpt t.c_Yard t.p_J3) := by
 refine T.F_J3.okC scBp (fun vs H Q E h => ?_) (fun cdv A outer s H vs Q E hcdv hr h => ?_)
 ·obtain ⟨_, _, _, _, _, _, _, _, rfl, _⟩ := h
  rfl
 ·obtain ⟨A, y, L, bad, place, gn, ge, gd, rfl, hH, tb, hb, sb, m_g, th, q⟩ := h
  obtain ⟨cc, ecd, hch⟩ := T.tb_J3
  have ecdv : cdv = .ref cc := hcdv.symm.trans ecd
  subst ecdv
  have hCH : PySem.W.CodeHd base cc t.p_J3 := PySem.W.codeHd_of_K kb hch
  have two : 2 <= sizeLine := by decide
  have keep : ∀ {L1 L2' L3 : Kn}, (∀ z ∈ L1, z.1 ≠ t.p_J3 -> z ∈ L2') -> (∀ z ∈ L2', z.1 ≠ t.p_J3 -> z ∈ L3) -> ∀ z ∈ L1, z.1 ≠ t.p_J3 -> z ∈ L3 := fun a b z m ne => b z (a z m ne) ne
  refine ⟨_, (pss_cons (ps_if (pt_cmpR (op_neD hr.units) (pe_refuse (kd := 7) (N' := ["_law_bad", "_law_yard"]) [1, 0] (ok_J11 T) (hr.mono (by decide)) (by rfl) T.m_J11 T.F_J11.kp rfl hCH hbm (fun _ => rfl) rfl rfl rfl rfl rfl (by decide +kernel) (esc := defScope s_J3) rfl (by decide +kernel) (by decide +kernel) (by rfl) (fun _ _ _ _ _ => rfl) (fun _ _ _ _ _ _ _ _ hr1 => by exact (pe_meth (pv 1) T.cl_Yard T.M_Jt (okR_Jt T) (hr1.mono (by decide)) (b_Jt T) .nil passL (pa_cons (pv 0) pa_nil)))) (pe_lst (pa_cons pe_str pa_nil)) (nomark _))
    (pss_one (ps_ret pe_bl))
    pss_nil)
   (pss_cons (ps_set (i := 4) scBp.nd rfl (Or.inl rfl) (pe_lst (pa_cons (pe_refuse (kd := 7) (N' := ["_law_bad", "_law_yard"]) [1, 0] (ok_J11 T) (hr.mono (by decide)) (by rfl) T.m_J11 T.F_J11.kp rfl hCH hbm (fun _ => rfl) rfl rfl rfl rfl rfl (by decide +kernel) (esc := defScope s_J3) rfl (by decide +kernel) (by decide +kernel) (by rfl) (fun _ _ _ _ _ => rfl) (fun _ _ _ _ _ _ _ _ hr1 => by exact (pe_meth (pv 1) T.cl_Yard T.M_Jo (okR_Jo T) (hr1.mono (by decide)) (b_Jo T) .nil passL (pa_cons (pv 0) pa_nil)))) pa_nil)))
   (pss_cons (ps_expr (pe_bm PySem.F.plainAttrs_list PySem.F.slot_list_append PySem.F.type_list_append mt_append (pv 4) (pa_cons (pe_refuse (kd := 7) (N' := ["_law_bad", "_law_yard"]) [1, 0] (ok_J11 T) (hr.mono (by decide)) (by rfl) T.m_J11 T.F_J11.kp rfl hCH hbm (fun _ => rfl) rfl rfl rfl rfl rfl (by decide +kernel) (esc := defScope s_J3) rfl (by decide +kernel) (by decide +kernel) (by rfl) (fun _ _ _ _ _ => rfl) (fun _ _ _ _ _ _ _ _ hr1 => by exact (pe_meth (pv 1) T.cl_Yard T.M_Js (okR_Js T) (hr1.mono (by decide)) (b_Js T) .nil passL (pa_cons (pv 0) pa_nil)))) pa_nil)))
   (pss_cons (ps_expr (pe_bm PySem.F.plainAttrs_list PySem.F.slot_list_append PySem.F.type_list_append mt_append (pv 4) (pa_cons (pe_refuse (kd := 7) (N' := ["_law_bad", "_law_yard"]) [1, 0] (ok_J11 T) (hr.mono (by decide)) (by rfl) T.m_J11 T.F_J11.kp rfl hCH hbm (fun _ => rfl) rfl rfl rfl rfl rfl (by decide +kernel) (esc := defScope s_J3) rfl (by decide +kernel) (by decide +kernel) (by rfl) (fun _ _ _ _ _ => rfl) (fun _ _ _ _ _ _ _ _ hr1 => by exact (pe_meth (pv 1) T.cl_Yard T.M_Jy (okR_Jy T) (hr1.mono (by decide)) (b_Jy T) .nil passL (pa_cons (pv 0) pa_nil)))) pa_nil)))
   (pss_cons (ps_expr (pe_bm PySem.F.plainAttrs_list PySem.F.slot_list_append PySem.F.type_list_append mt_append (pv 4) (pa_cons (pe_refuse (kd := 7) (N' := ["_law_yard", "_law_bad", "_law_place"]) [0, 1, 3] (ok_J11 T) (hr.mono (by decide)) (by rfl) T.m_J11 T.F_J11.kp rfl hCH hbm (fun _ => rfl) rfl rfl rfl rfl rfl (by decide +kernel) (esc := defScope s_J3) rfl (by decide +kernel) (by decide +kernel) (by rfl) (fun _ _ _ _ _ => rfl) (fun _ _ _ _ _ _ _ _ hr1 => by exact (pe_meth (pv 0) T.cl_Yard T.M_Jn (okR_Jn T) (hr1.mono (by decide)) (b_Jn T) .nil passL (@pa_cons _ _ _ _ _ (pe_tup (pa_cons (pv 1) (pa_cons (pv 2) pa_nil))) (@pa_cons _ _ _ _ _ (pe_tup (pa_cons (pv 1) (pa_cons (pv 2) pa_nil))) pa_nil (by rfl)) (by rfl))))) pa_nil)))
   (pss_cons (ps_expr (pe_bm PySem.F.plainAttrs_list PySem.F.slot_list_append PySem.F.type_list_append mt_append (pv 4) (pa_cons (pe_refuse (kd := 7) (N' := ["_law_good", "_law_yard", "_law_bad", "_law_place"]) [2, 0, 1, 3] (ok_J11 T) (hr.mono (by decide)) (by rfl) T.m_J11 T.F_J11.kp rfl hCH hbm (fun _ => rfl) rfl rfl rfl rfl rfl (by decide +kernel) (esc := defScope s_J3) rfl (by decide +kernel) (by decide +kernel) (by rfl) (fun _ _ _ _ _ => rfl) (fun _ _ _ _ _ _ _ _ hr1 => by exact (pe_meth (pv 1) T.cl_Yard T.M_Jn (okR_Jn T) (hr1.mono (by decide)) (b_Jn T) .nil passL (@pa_cons _ _ _ _ _ (pv 0) (@pa_cons _ _ _ _ _ (pe_tup (pa_cons (pv 2) (pa_cons (pv 3) pa_nil))) pa_nil (by rfl)) (by rfl))))) pa_nil)))
   (pss_cons (ps_expr (pe_bm PySem.F.plainAttrs_list PySem.F.slot_list_append PySem.F.type_list_append mt_append (pv 4) (pa_cons (pe_refuse (kd := 7) (N' := ["_law_yard", "_law_bad", "_law_place"]) [0, 1, 3] (ok_J11 T) (hr.mono (by decide)) (by rfl) T.m_J11 T.F_J11.kp rfl hCH hbm (fun _ => rfl) rfl rfl rfl rfl rfl (by decide +kernel) (esc := defScope s_J3) rfl (by decide +kernel) (by decide +kernel) (by rfl) (fun _ _ _ _ _ => rfl) (fun _ _ _ _ _ _ _ _ hr1 => by exact (pe_meth (pv 0) T.cl_Yard T.M_Jc (okR_Jc T) (hr1.mono (by decide)) (b_Jc T) .nil passL (@pa_cons _ _ _ _ _ (pe_tup (pa_cons (pv 1) (pa_cons (pv 2) pa_nil))) pa_nil (by rfl))))) pa_nil)))
   (pss_cons (ps_expr (pe_bm PySem.F.plainAttrs_list PySem.F.slot_list_append PySem.F.type_list_append mt_append (pv 4) (pa_cons (pe_refuse (kd := 7) (N' := ["_law_yard", "_law_bad", "_law_place"]) [0, 1, 3] (ok_J11 T) (hr.mono (by decide)) (by rfl) T.m_J11 T.F_J11.kp rfl hCH hbm (fun _ => rfl) rfl rfl rfl rfl rfl (by decide +kernel) (esc := defScope s_J3) rfl (by decide +kernel) (by decide +kernel) (by rfl) (fun _ _ _ _ _ => rfl) (fun _ _ _ _ _ _ _ _ hr1 => by exact (pe_meth (pv 0) T.cl_Yard T.M_Jw (okR_Jw T) (hr1.mono (by decide)) (b_Jw T) .nil passL (@pa_cons _ _ _ _ _ (pe_tup (pa_cons (pv 1) (pa_cons (pv 2) pa_nil))) pa_nil (by rfl))))) pa_nil)))
   (pss_cons (ps_expr (pe_bm PySem.F.plainAttrs_list PySem.F.slot_list_append PySem.F.type_list_append mt_append (pv 4) (pa_cons (pe_refuse (kd := 7) (N' := ["_law_yard", "_law_bad", "_law_place"]) [0, 1, 3] (ok_J11 T) (hr.mono (by decide)) (by rfl) T.m_J11 T.F_J11.kp rfl hCH hbm (fun _ => rfl) rfl rfl rfl rfl rfl (by decide +kernel) (esc := defScope s_J3) rfl (by decide +kernel) (by decide +kernel) (by rfl) (fun _ _ _ _ _ => rfl) (fun _ _ _ _ _ _ _ _ hr1 => by exact (pe_meth (pv 0) T.cl_Yard T.M_Jp (okR_Jp T) (hr1.mono (by decide)) (b_Jp T) .nil passL (@pa_cons _ _ _ _ _ (pe_tup (pa_cons (pv 1) (pa_cons (pv 2) pa_nil))) pa_nil (by rfl))))) pa_nil)))
   (pss_one (ps_ret (pe_callB (call_all rfl) (by rfl) T.z_all (by rfl) (pa_cons (pe_lc (esc := defScope s_J3) (k := 1) ["_law_row", "_law_yard", "_law_bad", "_law_good", "_law_place", "_law_rows"] rfl (pi_list (pv 4)) (fun _ _ _ _ _ => by exact (pg_name (i := 0) (show List.Nodup (["_law_row", "_law_yard", "_law_bad", "_law_good", "_law_place", "_law_rows"] : List Str) from by decide +kernel) rfl (Or.inl rfl))) (fun _ _ _ _ _ => by exact pts_nil) (fun _ _ _ _ _ => by exact (pe_cmpR (op_eqDK (K := K) rfl hr.units) (pv 0) (pe_lst (pa_cons pe_str pa_nil)) (nomark _))) rfl (by decide +kernel) (by decide +kernel) rfl (by decide +kernel) (by rfl) (fun _ _ h _ => h) (by decide +kernel)) pa_nil))))))))))))), ?_⟩
  rw [show L2.start ["_law_yard", "_law_bad", "_law_good", "_law_place", "_law_rows"] [V.ref A.p, V.int bad, V.ref gd, V.int place] = ([some (V.ref A.p), some (V.int bad), some (V.ref gd), some (V.int place), none] : St) from rfl]
  have ne_g : gd ≠ t.p_J3 := Tb.ne tb hH m_g (fun _ e => nomatch e)
  refine ref_oneM (t := t) 4 (by decide) t.c_NoPiece T.x_NoPiece (Z := yL t.c_Yard A y) (L := L) (hcast hH (by simp)) tb (fun H1 W Q1 E1 g' kW hE => ?_) (fun G1 L1 r1 v1 tb1 kp1 => ?_)
  ·have g : Has H1 (yL t.c_Yard A y ++ (([] : Kn) ++ W)) := hcast g' (by simp)
   have w_g : (gd, HO.tup [.int gn, .int ge]) ∈ W := kW _ m_g ne_g
   exact ⟨_, rfl, A.p, A.dx, _, rfl, g.get 1 rfl, fl_m6 _ _ _, _, rfl, A, y, _, bad, rfl, g, sb, .inl ⟨hb, fun a => hE H1 [] a g'⟩⟩
  have m_g1 : (gd, HO.tup [.int gn, .int ge]) ∈ L1 := kp1 _ m_g ne_g
  refine ⟨sz (show 1 <= 1000000 by decide), fun l1 hl1 => ?_⟩
  have u1 := v1.alloc hl1 (.lst [.str "NoPiece"])
  refine ⟨strsD [nameAt 4], strsD [nameAt 4], strsD_dv (ns := [nameAt 4]) (u1.get 1 rfl), strsD_dv (ns := [nameAt 4]) (u1.get 0 rfl), (nameOk 4 (by decide)).2, (nameOk 4 (by decide)).2, ?_⟩
  rw [eqvR _ (nameOk 4 (by decide)).1]
  have h1 : Has _ (yL t.c_Yard A y ++ L1) := u1.tail.tail
  generalize upd G1 l1 _ = K1 at h1 ⊢
  clear u1 v1 hl1
  refine ⟨_, rfl, iteF ?_⟩
  refine ref_oneM (t := t) 4 (by decide) t.c_NoPiece T.x_NoPiece (Z := yL t.c_Yard A y) (L := L1) (hcast h1 (by simp)) tb1 (fun H1 W Q1 E1 g' kW hE => ?_) (fun G2 L2 r2 v2 tb2 kp2 => ?_)
  ·have g : Has H1 (yL t.c_Yard A y ++ (([] : Kn) ++ W)) := hcast g' (by simp)
   have w_g : (gd, HO.tup [.int gn, .int ge]) ∈ W := kW _ m_g1 ne_g
   exact ⟨_, rfl, A.p, A.dx, _, rfl, g.get 1 rfl, (fl_m4 _ _ _).2.2.2.2.1, _, rfl, A, y, _, bad, rfl, g, hb, sb, fun a => hE H1 [] a g'⟩
  have m_g2 : (gd, HO.tup [.int gn, .int ge]) ∈ L2 := kp2 _ m_g1 ne_g
  refine ⟨sz (show 1 <= 1000000 by decide), fun rl hrl => ?_⟩
  have h2 : Has _ (yL t.c_Yard A y ++ ([(rl, HO.lst [.ref r2]), (r2, HO.lst [.str "NoPiece"])] ++ L2)) := Has.comm (X := [_, _]) (Y := yL t.c_Yard A y) (R := L2) (v2.alloc hrl (.lst [.ref r2]))
  generalize upd G2 rl _ = K2 at h2 ⊢
  dsimp only [List.set]
  clear v2 hrl
  refine ⟨_, rfl, .inl ⟨rfl, _, SqL.of (h2.get 9 rfl)⟩, ?_⟩
  refine ref_oneM (t := t) 4 (by decide) t.c_NoPiece T.x_NoPiece (Z := yL t.c_Yard A y ++ [(rl, HO.lst [.ref r2]), (r2, HO.lst [.str "NoPiece"])]) (L := L2) (hcast h2 (by simp)) tb2 (fun H1 W Q1 E1 g' kW hE => ?_) (fun G3 L3 r3 v3 tb3 kp3 => ?_)
  ·have g : Has H1 (yL t.c_Yard A y ++ ([(rl, HO.lst [.ref r2]), (r2, HO.lst [.str "NoPiece"])] ++ W)) := hcast g' (by simp)
   have w_g : (gd, HO.tup [.int gn, .int ge]) ∈ W := kW _ m_g2 ne_g
   exact ⟨_, rfl, A.p, A.dx, _, rfl, g.get 1 rfl, (fl_m4 _ _ _).2.2.2.2.2.1, _, rfl, A, y, _, bad, rfl, g, hb, sb, fun a => hE H1 [] a g'⟩
  have m_g3 : (gd, HO.tup [.int gn, .int ge]) ∈ L3 := kp3 _ m_g2 ne_g
  have u3 : Has G3 (yL t.c_Yard A y ++ ((r3, HO.lst [.str "NoPiece"]) :: ([(rl, HO.lst [.ref r2]), (r2, HO.lst [.str "NoPiece"])] ++ L3))) := Has.comm (X := [_]) (Y := yL t.c_Yard A y) (hcast v3 (by simp [nameAt]))
  refine ⟨rl, _, _, rfl, rfl, u3.get 10 rfl, sizeOk (show 1 <= 1000000 by decide), ?_⟩
  have h3 : Has _ (yL t.c_Yard A y ++ ([(r3, HO.lst [.str "NoPiece"]), (rl, HO.lst [.ref r2, .ref r3]), (r2, HO.lst [.str "NoPiece"])] ++ L3)) := u3.puti 10 rfl (.lst ([.ref r2] ++ [.ref r3]))
  generalize upd G3 rl _ = K3 at h3 ⊢
  clear u3 v3
  refine ⟨_, rfl, .inl ⟨rfl, _, SqL.of (h3.get 10 rfl)⟩, ?_⟩
  refine ref_oneM (t := t) 4 (by decide) t.c_NoPiece T.x_NoPiece (Z := yL t.c_Yard A y ++ [(r3, HO.lst [.str "NoPiece"]), (rl, HO.lst [.ref r2, .ref r3]), (r2, HO.lst [.str "NoPiece"])]) (L := L3) (hcast h3 (by simp)) tb3 (fun H1 W Q1 E1 g' kW hE => ?_) (fun G4 L4 r4 v4 tb4 kp4 => ?_)
  ·have g : Has H1 (yL t.c_Yard A y ++ ([(r3, HO.lst [.str "NoPiece"]), (rl, HO.lst [.ref r2, .ref r3]), (r2, HO.lst [.str "NoPiece"])] ++ W)) := hcast g' (by simp)
   have w_g : (gd, HO.tup [.int gn, .int ge]) ∈ W := kW _ m_g3 ne_g
   exact ⟨_, rfl, A.p, A.dx, _, rfl, g.get 1 rfl, (fl_m _ _ _).2.2.2.2.1, _, rfl, A, y, _, bad, rfl, g, hb, sb, fun a => hE H1 [] a g'⟩
  have m_g4 : (gd, HO.tup [.int gn, .int ge]) ∈ L4 := kp4 _ m_g3 ne_g
  have u4 : Has G4 (yL t.c_Yard A y ++ ((r4, HO.lst [.str "NoPiece"]) :: ([(r3, HO.lst [.str "NoPiece"]), (rl, HO.lst [.ref r2, .ref r3]), (r2, HO.lst [.str "NoPiece"])] ++ L4))) := Has.comm (X := [_]) (Y := yL t.c_Yard A y) (hcast v4 (by simp [nameAt]))
  refine ⟨rl, _, _, rfl, rfl, u4.get 11 rfl, sizeOk (show 2 <= 1000000 by decide), ?_⟩
  have h4 : Has _ (yL t.c_Yard A y ++ ([(r4, HO.lst [.str "NoPiece"]), (r3, HO.lst [.str "NoPiece"]), (rl, HO.lst [.ref r2, .ref r3, .ref r4]), (r2, HO.lst [.str "NoPiece"])] ++ L4)) := u4.puti 11 rfl (.lst ([.ref r2, .ref r3] ++ [.ref r4]))
  generalize upd G4 rl _ = K4 at h4 ⊢
  clear u4 v4
  refine ⟨_, rfl, .inl ⟨rfl, _, SqL.of (h4.get 11 rfl)⟩, ?_⟩
  refine ref_oneM (t := t) 4 (by decide) t.c_NoPiece T.x_NoPiece (Z := yL t.c_Yard A y ++ [(r4, HO.lst [.str "NoPiece"]), (r3, HO.lst [.str "NoPiece"]), (rl, HO.lst [.ref r2, .ref r3, .ref r4]), (r2, HO.lst [.str "NoPiece"])]) (L := L4) (hcast h4 (by simp)) tb4 (fun H1 W Q1 E1 g' kW hE => ?_) (fun G5 L5 r5 v5 tb5 kp5 => ?_)
  ·have g : Has H1 (yL t.c_Yard A y ++ ([(r4, HO.lst [.str "NoPiece"]), (r3, HO.lst [.str "NoPiece"]), (rl, HO.lst [.ref r2, .ref r3, .ref r4]), (r2, HO.lst [.str "NoPiece"])] ++ W)) := hcast g' (by simp)
   have w_g : (gd, HO.tup [.int gn, .int ge]) ∈ W := kW _ m_g4 ne_g
   refine ⟨_, rfl, A.p, A.dx, _, rfl, g.get 1 rfl, (fl_m2 _ _ _).2.2.1, _, rfl, _, rfl, two, fun c1 hc1 => ?_⟩
   have g2 := g.alloc hc1 (.tup [.int bad, .int place])
   refine ⟨_, rfl, _, rfl, two, fun c2 hc2 => ?_⟩
   have g3 := Has.comm (X := [_, _]) (Y := yL t.c_Yard A y) (g2.alloc hc2 (.tup [.int bad, .int place]))
   exact ⟨A, y, _, c1, c2, bad, place, bad, place, 1, 0, rfl, g3, rfl, rfl, .inl (.inl ⟨hb, sb, fun a => hE _ _ a (hE_mid0 g3)⟩)⟩
  have m_g5 : (gd, HO.tup [.int gn, .int ge]) ∈ L5 := kp5 _ m_g4 ne_g
  have u5 : Has G5 (yL t.c_Yard A y ++ ((r5, HO.lst [.str "NoPiece"]) :: ([(r4, HO.lst [.str "NoPiece"]), (r3, HO.lst [.str "NoPiece"]), (rl, HO.lst [.ref r2, .ref r3, .ref r4]), (r2, HO.lst [.str "NoPiece"])] ++ L5))) := Has.comm (X := [_]) (Y := yL t.c_Yard A y) (hcast v5 (by simp [nameAt]))
  refine ⟨rl, _, _, rfl, rfl, u5.get 12 rfl, sizeOk (show 3 <= 1000000 by decide), ?_⟩
  have h5 : Has _ (yL t.c_Yard A y ++ ([(r5, HO.lst [.str "NoPiece"]), (r4, HO.lst [.str "NoPiece"]), (r3, HO.lst [.str "NoPiece"]), (rl, HO.lst [.ref r2, .ref r3, .ref r4, .ref r5]), (r2, HO.lst [.str "NoPiece"])] ++ L5)) := u5.puti 12 rfl (.lst ([.ref r2, .ref r3, .ref r4] ++ [.ref r5]))
  generalize upd G5 rl _ = K5 at h5 ⊢
  clear u5 v5
  refine ⟨_, rfl, .inl ⟨rfl, _, SqL.of (h5.get 12 rfl)⟩, ?_⟩
  refine ref_oneM (t := t) 4 (by decide) t.c_NoPiece T.x_NoPiece (Z := yL t.c_Yard A y ++ [(r5, HO.lst [.str "NoPiece"]), (r4, HO.lst [.str "NoPiece"]), (r3, HO.lst [.str "NoPiece"]), (rl, HO.lst [.ref r2, .ref r3, .ref r4, .ref r5]), (r2, HO.lst [.str "NoPiece"])]) (L := L5) (hcast h5 (by simp)) tb5 (fun H1 W Q1 E1 g' kW hE => ?_) (fun G6 L6 r6 v6 tb6 kp6 => ?_)
  ·have g : Has H1 (yL t.c_Yard A y ++ ([(r5, HO.lst [.str "NoPiece"]), (r4, HO.lst [.str "NoPiece"]), (r3, HO.lst [.str "NoPiece"]), (rl, HO.lst [.ref r2, .ref r3, .ref r4, .ref r5]), (r2, HO.lst [.str "NoPiece"])] ++ W)) := hcast g' (by simp)
   have w_g : (gd, HO.tup [.int gn, .int ge]) ∈ W := kW _ m_g5 ne_g
   refine ⟨_, rfl, A.p, A.dx, _, rfl, g.get 1 rfl, (fl_m2 _ _ _).2.2.1, _, rfl, _, rfl, _, rfl, two, fun c1 hc1 => ?_⟩
   have g3 := Has.comm (X := [_]) (Y := yL t.c_Yard A y) (g.alloc hc1 (.tup [.int bad, .int place]))
   obtain ⟨j, hj⟩ := List.mem_iff_getElem?.mp (List.mem_append_right [(c1, HO.tup [.int bad, .int place])] (List.mem_append_right [(r5, HO.lst [.str "NoPiece"]), (r4, HO.lst [.str "NoPiece"]), (r3, HO.lst [.str "NoPiece"]), (rl, HO.lst [.ref r2, .ref r3, .ref r4, .ref r5]), (r2, HO.lst [.str "NoPiece"])] w_g))
   exact ⟨A, y, _, gd, c1, gn, ge, bad, place, j, 0, rfl, g3, hj, rfl, .inr (.inl ⟨th, .inl ⟨hb, sb, fun a => hE _ _ a (hE_mid0 g3)⟩⟩)⟩
  have m_g6 : (gd, HO.tup [.int gn, .int ge]) ∈ L6 := kp6 _ m_g5 ne_g
  have u6 : Has G6 (yL t.c_Yard A y ++ ((r6, HO.lst [.str "NoPiece"]) :: ([(r5, HO.lst [.str "NoPiece"]), (r4, HO.lst [.str "NoPiece"]), (r3, HO.lst [.str "NoPiece"]), (rl, HO.lst [.ref r2, .ref r3, .ref r4, .ref r5]), (r2, HO.lst [.str "NoPiece"])] ++ L6))) := Has.comm (X := [_]) (Y := yL t.c_Yard A y) (hcast v6 (by simp [nameAt]))
  refine ⟨rl, _, _, rfl, rfl, u6.get 13 rfl, sizeOk (show 4 <= 1000000 by decide), ?_⟩
  have h6 : Has _ (yL t.c_Yard A y ++ ([(r6, HO.lst [.str "NoPiece"]), (r5, HO.lst [.str "NoPiece"]), (r4, HO.lst [.str "NoPiece"]), (r3, HO.lst [.str "NoPiece"]), (rl, HO.lst [.ref r2, .ref r3, .ref r4, .ref r5, .ref r6]), (r2, HO.lst [.str "NoPiece"])] ++ L6)) := u6.puti 13 rfl (.lst ([.ref r2, .ref r3, .ref r4, .ref r5] ++ [.ref r6]))
  generalize upd G6 rl _ = K6 at h6 ⊢
  clear u6 v6
  refine ⟨_, rfl, .inl ⟨rfl, _, SqL.of (h6.get 13 rfl)⟩, ?_⟩
  refine ref_oneM (t := t) 4 (by decide) t.c_NoPiece T.x_NoPiece (Z := yL t.c_Yard A y ++ [(r6, HO.lst [.str "NoPiece"]), (r5, HO.lst [.str "NoPiece"]), (r4, HO.lst [.str "NoPiece"]), (r3, HO.lst [.str "NoPiece"]), (rl, HO.lst [.ref r2, .ref r3, .ref r4, .ref r5, .ref r6]), (r2, HO.lst [.str "NoPiece"])]) (L := L6) (hcast h6 (by simp)) tb6 (fun H1 W Q1 E1 g' kW hE => ?_) (fun G7 L7 r7 v7 tb7 kp7 => ?_)
  ·have g : Has H1 (yL t.c_Yard A y ++ ([(r6, HO.lst [.str "NoPiece"]), (r5, HO.lst [.str "NoPiece"]), (r4, HO.lst [.str "NoPiece"]), (r3, HO.lst [.str "NoPiece"]), (rl, HO.lst [.ref r2, .ref r3, .ref r4, .ref r5, .ref r6]), (r2, HO.lst [.str "NoPiece"])] ++ W)) := hcast g' (by simp)
   have w_g : (gd, HO.tup [.int gn, .int ge]) ∈ W := kW _ m_g6 ne_g
   refine ⟨_, rfl, A.p, A.dx, _, rfl, g.get 1 rfl, (fl_m2 _ _ _).2.2.2, _, rfl, _, rfl, two, fun c1 hc1 => ?_⟩
   have g3 := Has.comm (X := [_]) (Y := yL t.c_Yard A y) (g.alloc hc1 (.tup [.int bad, .int place]))
   exact ⟨A, y, _, c1, bad, place, 0, rfl, g3, rfl, .inl (.inl ⟨hb, sb, fun a => hE _ _ a (hE_mid0 g3)⟩)⟩
  have m_g7 : (gd, HO.tup [.int gn, .int ge]) ∈ L7 := kp7 _ m_g6 ne_g
  have u7 : Has G7 (yL t.c_Yard A y ++ ((r7, HO.lst [.str "NoPiece"]) :: ([(r6, HO.lst [.str "NoPiece"]), (r5, HO.lst [.str "NoPiece"]), (r4, HO.lst [.str "NoPiece"]), (r3, HO.lst [.str "NoPiece"]), (rl, HO.lst [.ref r2, .ref r3, .ref r4, .ref r5, .ref r6]), (r2, HO.lst [.str "NoPiece"])] ++ L7))) := Has.comm (X := [_]) (Y := yL t.c_Yard A y) (hcast v7 (by simp [nameAt]))
  refine ⟨rl, _, _, rfl, rfl, u7.get 14 rfl, sizeOk (show 5 <= 1000000 by decide), ?_⟩
  have h7 : Has _ (yL t.c_Yard A y ++ ([(r7, HO.lst [.str "NoPiece"]), (r6, HO.lst [.str "NoPiece"]), (r5, HO.lst [.str "NoPiece"]), (r4, HO.lst [.str "NoPiece"]), (r3, HO.lst [.str "NoPiece"]), (rl, HO.lst [.ref r2, .ref r3, .ref r4, .ref r5, .ref r6, .ref r7]), (r2, HO.lst [.str "NoPiece"])] ++ L7)) := u7.puti 14 rfl (.lst ([.ref r2, .ref r3, .ref r4, .ref r5, .ref r6] ++ [.ref r7]))
  generalize upd G7 rl _ = K7 at h7 ⊢
  clear u7 v7
  refine ⟨_, rfl, .inl ⟨rfl, _, SqL.of (h7.get 14 rfl)⟩, ?_⟩
  refine ref_oneM (t := t) 4 (by decide) t.c_NoPiece T.x_NoPiece (Z := yL t.c_Yard A y ++ [(r7, HO.lst [.str "NoPiece"]), (r6, HO.lst [.str "NoPiece"]), (r5, HO.lst [.str "NoPiece"]), (r4, HO.lst [.str "NoPiece"]), (r3, HO.lst [.str "NoPiece"]), (rl, HO.lst [.ref r2, .ref r3, .ref r4, .ref r5, .ref r6, .ref r7]), (r2, HO.lst [.str "NoPiece"])]) (L := L7) (hcast h7 (by simp)) tb7 (fun H1 W Q1 E1 g' kW hE => ?_) (fun G8 L8 r8 v8 tb8 kp8 => ?_)
  ·have g : Has H1 (yL t.c_Yard A y ++ ([(r7, HO.lst [.str "NoPiece"]), (r6, HO.lst [.str "NoPiece"]), (r5, HO.lst [.str "NoPiece"]), (r4, HO.lst [.str "NoPiece"]), (r3, HO.lst [.str "NoPiece"]), (rl, HO.lst [.ref r2, .ref r3, .ref r4, .ref r5, .ref r6, .ref r7]), (r2, HO.lst [.str "NoPiece"])] ++ W)) := hcast g' (by simp)
   have w_g : (gd, HO.tup [.int gn, .int ge]) ∈ W := kW _ m_g7 ne_g
   refine ⟨_, rfl, A.p, A.dx, _, rfl, g.get 1 rfl, (fl_m4 _ _ _).1, _, rfl, _, rfl, two, fun c1 hc1 => ?_⟩
   have g3 := Has.comm (X := [_]) (Y := yL t.c_Yard A y) (g.alloc hc1 (.tup [.int bad, .int place]))
   exact ⟨A, y, _, c1, bad, place, 0, rfl, g3, rfl, .inl ⟨hb, sb, fun a => hE _ _ a (hE_mid0 g3)⟩⟩
  have m_g8 : (gd, HO.tup [.int gn, .int ge]) ∈ L8 := kp8 _ m_g7 ne_g
  have u8 : Has G8 (yL t.c_Yard A y ++ ((r8, HO.lst [.str "NoPiece"]) :: ([(r7, HO.lst [.str "NoPiece"]), (r6, HO.lst [.str "NoPiece"]), (r5, HO.lst [.str "NoPiece"]), (r4, HO.lst [.str "NoPiece"]), (r3, HO.lst [.str "NoPiece"]), (rl, HO.lst [.ref r2, .ref r3, .ref r4, .ref r5, .ref r6, .ref r7]), (r2, HO.lst [.str "NoPiece"])] ++ L8))) := Has.comm (X := [_]) (Y := yL t.c_Yard A y) (hcast v8 (by simp [nameAt]))
  refine ⟨rl, _, _, rfl, rfl, u8.get 15 rfl, sizeOk (show 6 <= 1000000 by decide), ?_⟩
  have h8 : Has _ (yL t.c_Yard A y ++ ([(r8, HO.lst [.str "NoPiece"]), (r7, HO.lst [.str "NoPiece"]), (r6, HO.lst [.str "NoPiece"]), (r5, HO.lst [.str "NoPiece"]), (r4, HO.lst [.str "NoPiece"]), (r3, HO.lst [.str "NoPiece"]), (rl, HO.lst [.ref r2, .ref r3, .ref r4, .ref r5, .ref r6, .ref r7, .ref r8]), (r2, HO.lst [.str "NoPiece"])] ++ L8)) := u8.puti 15 rfl (.lst ([.ref r2, .ref r3, .ref r4, .ref r5, .ref r6, .ref r7] ++ [.ref r8]))
  generalize upd G8 rl _ = K8 at h8 ⊢
  clear u8 v8
  refine ⟨_, rfl, .inl ⟨rfl, _, SqL.of (h8.get 15 rfl)⟩, ?_⟩
  refine ref_oneM (t := t) 4 (by decide) t.c_NoPiece T.x_NoPiece (Z := yL t.c_Yard A y ++ [(r8, HO.lst [.str "NoPiece"]), (r7, HO.lst [.str "NoPiece"]), (r6, HO.lst [.str "NoPiece"]), (r5, HO.lst [.str "NoPiece"]), (r4, HO.lst [.str "NoPiece"]), (r3, HO.lst [.str "NoPiece"]), (rl, HO.lst [.ref r2, .ref r3, .ref r4, .ref r5, .ref r6, .ref r7, .ref r8]), (r2, HO.lst [.str "NoPiece"])]) (L := L8) (hcast h8 (by simp)) tb8 (fun H1 W Q1 E1 g' kW hE => ?_) (fun G9 L9 r9 v9 tb9 kp9 => ?_)
  ·have g : Has H1 (yL t.c_Yard A y ++ ([(r8, HO.lst [.str "NoPiece"]), (r7, HO.lst [.str "NoPiece"]), (r6, HO.lst [.str "NoPiece"]), (r5, HO.lst [.str "NoPiece"]), (r4, HO.lst [.str "NoPiece"]), (r3, HO.lst [.str "NoPiece"]), (rl, HO.lst [.ref r2, .ref r3, .ref r4, .ref r5, .ref r6, .ref r7, .ref r8]), (r2, HO.lst [.str "NoPiece"])] ++ W)) := hcast g' (by simp)
   have w_g : (gd, HO.tup [.int gn, .int ge]) ∈ W := kW _ m_g8 ne_g
   refine ⟨_, rfl, A.p, A.dx, _, rfl, g.get 1 rfl, (fl_m2 _ _ _).2.1, _, rfl, _, rfl, two, fun c1 hc1 => ?_⟩
   have g3 := Has.comm (X := [_]) (Y := yL t.c_Yard A y) (g.alloc hc1 (.tup [.int bad, .int place]))
   exact ⟨A, y, _, c1, bad, place, 0, rfl, g3, rfl, .inl ⟨hb, sb, fun a => hE _ _ a (hE_mid0 g3)⟩⟩
  have m_g9 : (gd, HO.tup [.int gn, .int ge]) ∈ L9 := kp9 _ m_g8 ne_g
  have u9 : Has G9 (yL t.c_Yard A y ++ ((r9, HO.lst [.str "NoPiece"]) :: ([(r8, HO.lst [.str "NoPiece"]), (r7, HO.lst [.str "NoPiece"]), (r6, HO.lst [.str "NoPiece"]), (r5, HO.lst [.str "NoPiece"]), (r4, HO.lst [.str "NoPiece"]), (r3, HO.lst [.str "NoPiece"]), (rl, HO.lst [.ref r2, .ref r3, .ref r4, .ref r5, .ref r6, .ref r7, .ref r8]), (r2, HO.lst [.str "NoPiece"])] ++ L9))) := Has.comm (X := [_]) (Y := yL t.c_Yard A y) (hcast v9 (by simp [nameAt]))
  refine ⟨rl, _, _, rfl, rfl, u9.get 16 rfl, sizeOk (show 7 <= 1000000 by decide), ?_⟩
  have h9 : Has _ (yL t.c_Yard A y ++ ([(r9, HO.lst [.str "NoPiece"]), (r8, HO.lst [.str "NoPiece"]), (r7, HO.lst [.str "NoPiece"]), (r6, HO.lst [.str "NoPiece"]), (r5, HO.lst [.str "NoPiece"]), (r4, HO.lst [.str "NoPiece"]), (r3, HO.lst [.str "NoPiece"]), (rl, HO.lst [.ref r2, .ref r3, .ref r4, .ref r5, .ref r6, .ref r7, .ref r8, .ref r9]), (r2, HO.lst [.str "NoPiece"])] ++ L9)) := u9.puti 16 rfl (.lst ([.ref r2, .ref r3, .ref r4, .ref r5, .ref r6, .ref r7, .ref r8] ++ [.ref r9]))
  generalize upd G9 rl _ = K9 at h9 ⊢
  clear u9 v9
  obtain ⟨X, eX⟩ : ∃ X : Kn, yL t.c_Yard A y ++ ([(r9, HO.lst [.str "NoPiece"]), (r8, HO.lst [.str "NoPiece"]), (r7, HO.lst [.str "NoPiece"]), (r6, HO.lst [.str "NoPiece"]), (r5, HO.lst [.str "NoPiece"]), (r4, HO.lst [.str "NoPiece"]), (r3, HO.lst [.str "NoPiece"]), (rl, HO.lst [.ref r2, .ref r3, .ref r4, .ref r5, .ref r6, .ref r7, .ref r8, .ref r9]), (r2, HO.lst [.str "NoPiece"])] ++ L9) = X := ⟨_, rfl⟩
  have hX := hcast h9 eX
  have mrl : (rl, HO.lst [.ref r2, .ref r3, .ref r4, .ref r5, .ref r6, .ref r7, .ref r8, .ref r9]) ∈ X := by rw [<- eX]; simp
  have mall : ∀ r ∈ [r2, r3, r4, r5, r6, r7, r8, r9], (r, HO.lst [.str (nameAt 4)]) ∈ X := fun r hr => by
   rw [<- eX]
   simp only [List.mem_cons, List.not_mem_nil, or_false] at hr
   rcases hr with rfl | rfl | rfl | rfl | rfl | rfl | rfl | rfl <;> simp [nameAt]
  refine ⟨_, rfl, rl, rfl, ⟨_, SqL.of (hX.at_ _ mrl)⟩, fun Dl hDl => ?_⟩
  refine ⟨fun n m zs H' => m = 8 - n /\ n <= 8 /\ zs = (List.replicate n true).map V.bl /\ ∃ N : Kn, Has H' ((Dl, .lst zs) :: (N ++ X)), ⟨_, rfl, Nat.zero_le _, rfl, [], hX.alloc hDl _⟩, ?_⟩
  rintro n0 m zs H2 ⟨rfl, hn, rfl, N, h12⟩
  refine ⟨h12.get 0 rfl, ?_⟩
  have g0 := h12.tail.at_ _ (List.mem_append_right N mrl)
  dsimp only at g0
  by_cases hlt : n0 < 8
  ·obtain ⟨r, hr⟩ : ∃ r, [r2, r3, r4, r5, r6, r7, r8, r9][n0]? = some r := ⟨_, List.getElem?_eq_getElem (show n0 < [r2, r3, r4, r5, r6, r7, r8, r9].length from hlt)⟩
   have er : ([.ref r2, .ref r3, .ref r4, .ref r5, .ref r6, .ref r7, .ref r8, .ref r9] : List V)[n0]? = some (.ref r) := by
    have := congrArg (Option.map V.ref) hr
    rw [<- List.getElem?_map] at this
    exact this
   refine .inr ⟨⟨_, .ref r, SqL.of g0, er⟩, ?_⟩
   rintro x H3 ⟨rfl, hx⟩
   have e1 := hx _ (SqL.of g0)
   rw [er] at e1
   cases e1
   refine ⟨rfl, tTrueT ?_⟩
   refine ⟨_, rfl, sz (show 1 <= 1000000 by decide), fun a ha => ?_⟩
   have h13 := h12.alloc ha (.lst [.str "NoPiece"])
   have gr := h13.tail.tail.at_ _ (List.mem_append_right N (mall r (List.mem_of_getElem? hr)))
   refine ⟨strsD [nameAt 4], strsD [nameAt 4], strsD_dv (ns := [nameAt 4]) gr, strsD_dv (ns := [nameAt 4]) (h13.get 0 rfl), (nameOk 4 (by decide)).2, (nameOk 4 (by decide)).2, ?_⟩
   rw [eqvR _ (nameOk 4 (by decide)).1]
   refine ⟨sizeOk (by rw [List.length_map, List.length_replicate]; omega), h13.get 1 rfl, 8 - (n0 + 1), by omega, rfl, hlt, by rw [List.replicate_succ', List.map_append]; rfl, _ :: N, (h13.puti 1 rfl _).swap2⟩
  ·have en : n0 = 8 := by omega
   subst en
   refine .inl ⟨⟨_, SqL.of g0, Nat.le_refl 8⟩, ?_⟩
   refine ⟨Dl, List.replicate 8 true, rfl, SqL.of (h12.get 0 rfl), ?_⟩
   rw [all_true]
   have h14 := dropL h12.tail
   rw [<- eX] at h14
   have h15 := dropL (G := [(r9, HO.lst [.str "NoPiece"]), (r8, HO.lst [.str "NoPiece"]), (r7, HO.lst [.str "NoPiece"]), (r6, HO.lst [.str "NoPiece"]), (r5, HO.lst [.str "NoPiece"]), (r4, HO.lst [.str "NoPiece"]), (r3, HO.lst [.str "NoPiece"]), (rl, HO.lst [.ref r2, .ref r3, .ref r4, .ref r5, .ref r6, .ref r7, .ref r8, .ref r9]), (r2, HO.lst [.str "NoPiece"])]) (Has.comm (X := yL t.c_Yard A y) (Y := [(r9, HO.lst [.str "NoPiece"]), (r8, HO.lst [.str "NoPiece"]), (r7, HO.lst [.str "NoPiece"]), (r6, HO.lst [.str "NoPiece"]), (r5, HO.lst [.str "NoPiece"]), (r4, HO.lst [.str "NoPiece"]), (r3, HO.lst [.str "NoPiece"]), (rl, HO.lst [.ref r2, .ref r3, .ref r4, .ref r5, .ref r6, .ref r7, .ref r8, .ref r9]), (r2, HO.lst [.str "NoPiece"])]) (R := L9) h14)
   exact q _ L9 h15 (keep kp1 (keep kp2 (keep kp3 (keep kp4 (keep kp5 (keep kp6 (keep kp7 (keep kp8 kp9))))))))
end
def q_J2 : Str := ("_law_bad_place_told" : Str) ++ Str.ofString ".<locals>." ++ "<lambda>"
def sp_bpl (C Pt : Addr) : Sp := fun vs H Q _ => ∃ (A : YA) (y : YR) (L : Kn) (bad en ee gn ge : Int) (gd ed : Addr) (k : Kd), vs = [.ref A.p, .ref ed, .ref gd, .int bad] /\ Has H (yL C A y ++ L) /\ Tb L Pt q_J2 /\ (ed, HO.tup [.int en, .int ee]) ∈ L /\ (gd, HO.tup [.int gn, .int ge]) ∈ L /\ There y gn ge /\ valV y.kinds (Sum.inl en) = some (.str k.str) /\ (ee < 0 ∨ k.many <= ee) /\ L2.Small ee /\
 ∀ H' L', Has H' (yL C A y ++ L') -> (∀ z ∈ L, z.1 ≠ Pt -> z ∈ L') -> Q (.bl true) H'
section
variable {P : Program} {w : World} {K : PySem.W.Frag} {mg : Str -> Option Value} {base : Heap} {t : Adr}
theorem scBl : FnScope ["_law_yard", "_law_end", "_law_good", "_law_bad", "_law_rows"] ["_law_yard", "_law_end", "_law_good", "_law_bad"] (defScope s_J2) := ⟨rfl, rfl, rfl, by decide +kernel, rfl, by decide +kernel, by decide +kernel⟩
theorem okM_J2 (T : Txt K mg t) (kb : K.In base) (hbm : BM base mg) : FnOk P w K mg base CX0 11 t.f_J2 t.d_J2 ["_law_yard", "_law_end", "_law_good", "_law_bad"] (sp_bpl t.c_Yard t.p_J2) := by
 refine T.F_J2.okC scBl (fun vs H Q E h => ?_) (fun cdv A outer s H vs Q E hcdv hr h => ?_)
 ·obtain ⟨_, _, _, _, _, _, _, _, _, _, _, rfl, _⟩ := h
  rfl
 ·obtain ⟨A, y, L, bad, en, ee, gn, ge, gd, ed, k, rfl, hH, tb, m_e, m_g, th, hk, he, se, q⟩ := h
  obtain ⟨cc, ecd, hch⟩ := T.tb_J2
  have ecdv : cdv = .ref cc := hcdv.symm.trans ecd
  subst ecdv
  have hCH : PySem.W.CodeHd base cc t.p_J2 := PySem.W.codeHd_of_K kb hch
  have two : 2 <= sizeLine := by decide
  have keep : ∀ {L1 L2' L3 : Kn}, (∀ z ∈ L1, z.1 ≠ t.p_J2 -> z ∈ L2') -> (∀ z ∈ L2', z.1 ≠ t.p_J2 -> z ∈ L3) -> ∀ z ∈ L1, z.1 ≠ t.p_J2 -> z ∈ L3 := fun a b z m ne => b z (a z m ne) ne
  refine ⟨_, (pss_cons (ps_set (i := 4) scBl.nd rfl (Or.inl rfl) (pe_lst (pa_cons (pe_refuse (kd := 7) (N' := ["_law_end", "_law_yard", "_law_bad"]) [1, 0, 3] (ok_J11 T) (hr.mono (by decide)) (by rfl) T.m_J11 T.F_J11.kp rfl hCH hbm (fun _ => rfl) rfl rfl rfl rfl rfl (by decide +kernel) (esc := defScope s_J2) rfl (by decide +kernel) (by decide +kernel) (by rfl) (fun _ _ _ _ _ => rfl) (fun _ _ _ _ _ _ _ _ hr1 => by exact (pe_meth (pv 1) T.cl_Yard T.M_Jn (okR_Jn T) (hr1.mono (by decide)) (b_Jn T) .nil passL (@pa_cons _ _ _ _ _ (pv 0) (@pa_cons _ _ _ _ _ (pe_tup (pa_cons (pv 2) (pa_cons pe_int pa_nil))) pa_nil (by rfl)) (by rfl))))) pa_nil)))
   (pss_cons (ps_expr (pe_bm PySem.F.plainAttrs_list PySem.F.slot_list_append PySem.F.type_list_append mt_append (pv 4) (pa_cons (pe_refuse (kd := 7) (N' := ["_law_good", "_law_end", "_law_yard"]) [2, 1, 0] (ok_J11 T) (hr.mono (by decide)) (by rfl) T.m_J11 T.F_J11.kp rfl hCH hbm (fun _ => rfl) rfl rfl rfl rfl rfl (by decide +kernel) (esc := defScope s_J2) rfl (by decide +kernel) (by decide +kernel) (by rfl) (fun _ _ _ _ _ => rfl) (fun _ _ _ _ _ _ _ _ hr1 => by exact (pe_meth (pv 2) T.cl_Yard T.M_Jn (okR_Jn T) (hr1.mono (by decide)) (b_Jn T) .nil passL (pa_cons (pv 0) (pa_cons (pv 1) pa_nil))))) pa_nil)))
   (pss_cons (ps_expr (pe_bm PySem.F.plainAttrs_list PySem.F.slot_list_append PySem.F.type_list_append mt_append (pv 4) (pa_cons (pe_refuse (kd := 7) (N' := ["_law_end", "_law_yard"]) [1, 0] (ok_J11 T) (hr.mono (by decide)) (by rfl) T.m_J11 T.F_J11.kp rfl hCH hbm (fun _ => rfl) rfl rfl rfl rfl rfl (by decide +kernel) (esc := defScope s_J2) rfl (by decide +kernel) (by decide +kernel) (by rfl) (fun _ _ _ _ _ => rfl) (fun _ _ _ _ _ _ _ _ hr1 => by exact (pe_meth (pv 1) T.cl_Yard T.M_Jn (okR_Jn T) (hr1.mono (by decide)) (b_Jn T) .nil passL (pa_cons (pv 0) (pa_cons (pv 0) pa_nil))))) pa_nil)))
   (pss_cons (ps_expr (pe_bm PySem.F.plainAttrs_list PySem.F.slot_list_append PySem.F.type_list_append mt_append (pv 4) (pa_cons (pe_refuse (kd := 7) (N' := ["_law_end", "_law_yard"]) [1, 0] (ok_J11 T) (hr.mono (by decide)) (by rfl) T.m_J11 T.F_J11.kp rfl hCH hbm (fun _ => rfl) rfl rfl rfl rfl rfl (by decide +kernel) (esc := defScope s_J2) rfl (by decide +kernel) (by decide +kernel) (by rfl) (fun _ _ _ _ _ => rfl) (fun _ _ _ _ _ _ _ _ hr1 => by exact (pe_meth (pv 1) T.cl_Yard T.M_Jc (okR_Jc T) (hr1.mono (by decide)) (b_Jc T) .nil passL (pa_cons (pv 0) pa_nil)))) pa_nil)))
   (pss_cons (ps_expr (pe_bm PySem.F.plainAttrs_list PySem.F.slot_list_append PySem.F.type_list_append mt_append (pv 4) (pa_cons (pe_refuse (kd := 7) (N' := ["_law_end", "_law_yard"]) [1, 0] (ok_J11 T) (hr.mono (by decide)) (by rfl) T.m_J11 T.F_J11.kp rfl hCH hbm (fun _ => rfl) rfl rfl rfl rfl rfl (by decide +kernel) (esc := defScope s_J2) rfl (by decide +kernel) (by decide +kernel) (by rfl) (fun _ _ _ _ _ => rfl) (fun _ _ _ _ _ _ _ _ hr1 => by exact (pe_meth (pv 1) T.cl_Yard T.M_Jw (okR_Jw T) (hr1.mono (by decide)) (b_Jw T) .nil passL (pa_cons (pv 0) pa_nil)))) pa_nil)))
   (pss_cons (ps_expr (pe_bm PySem.F.plainAttrs_list PySem.F.slot_list_append PySem.F.type_list_append mt_append (pv 4) (pa_cons (pe_refuse (kd := 7) (N' := ["_law_end", "_law_yard"]) [1, 0] (ok_J11 T) (hr.mono (by decide)) (by rfl) T.m_J11 T.F_J11.kp rfl hCH hbm (fun _ => rfl) rfl rfl rfl rfl rfl (by decide +kernel) (esc := defScope s_J2) rfl (by decide +kernel) (by decide +kernel) (by rfl) (fun _ _ _ _ _ => rfl) (fun _ _ _ _ _ _ _ _ hr1 => by exact (pe_meth (pv 1) T.cl_Yard T.M_Jp (okR_Jp T) (hr1.mono (by decide)) (b_Jp T) .nil passL (pa_cons (pv 0) pa_nil)))) pa_nil)))
   (pss_one (ps_ret (pe_callB (call_all rfl) (by rfl) T.z_all (by rfl) (pa_cons (pe_lc (esc := defScope s_J2) (k := 1) ["_law_row", "_law_yard", "_law_end", "_law_good", "_law_bad", "_law_rows"] rfl (pi_list (pv 4)) (fun _ _ _ _ _ => by exact (pg_name (i := 0) (show List.Nodup (["_law_row", "_law_yard", "_law_end", "_law_good", "_law_bad", "_law_rows"] : List Str) from by decide +kernel) rfl (Or.inl rfl))) (fun _ _ _ _ _ => by exact pts_nil) (fun _ _ _ _ _ => by exact (pe_cmpR (op_eqDK (K := K) rfl hr.units) (pv 0) (pe_lst (pa_cons pe_str pa_nil)) (nomark _))) rfl (by decide +kernel) (by decide +kernel) rfl (by decide +kernel) (by rfl) (fun _ _ h _ => h) (by decide +kernel)) pa_nil)))))))))), ?_⟩
  rw [show L2.start ["_law_yard", "_law_end", "_law_good", "_law_bad", "_law_rows"] [V.ref A.p, V.ref ed, V.ref gd, V.int bad] = ([some (V.ref A.p), some (V.ref ed), some (V.ref gd), some (V.int bad), none] : St) from rfl]
  have ne_e : ed ≠ t.p_J2 := Tb.ne tb hH m_e (fun _ e => nomatch e)
  have ne_g : gd ≠ t.p_J2 := Tb.ne tb hH m_g (fun _ e => nomatch e)
  refine ref_oneM (t := t) 1 (by decide) t.c_NoEnd T.x_NoEnd (Z := yL t.c_Yard A y) (L := L) (hcast hH (by simp)) tb (fun H1 W Q1 E1 g' kW hE => ?_) (fun G1 L1 r1 v1 tb1 kp1 => ?_)
  ·have g : Has H1 (yL t.c_Yard A y ++ (([] : Kn) ++ W)) := hcast g' (by simp)
   have w_e : (ed, HO.tup [.int en, .int ee]) ∈ W := kW _ m_e ne_e
   have w_g : (gd, HO.tup [.int gn, .int ge]) ∈ W := kW _ m_g ne_g
   refine ⟨_, rfl, A.p, A.dx, _, rfl, g.get 1 rfl, (fl_m2 _ _ _).2.2.1, _, rfl, _, rfl, two, fun c1 hc1 => ?_⟩
   have g3 := Has.comm (X := [_]) (Y := yL t.c_Yard A y) (g.alloc hc1 (.tup [.int bad, .int 0]))
   obtain ⟨je, hje⟩ := List.mem_iff_getElem?.mp (List.mem_append_right [(c1, HO.tup [.int bad, .int 0])] (List.mem_append_right ([] : Kn) w_e))
   exact ⟨A, y, _, ed, c1, en, ee, bad, 0, je, 0, rfl, g3, hje, rfl, .inl (.inr ⟨k, hk, he, se, fun a => hE _ _ a (hE_mid0 g3)⟩)⟩
  have m_e1 : (ed, HO.tup [.int en, .int ee]) ∈ L1 := kp1 _ m_e ne_e
  have m_g1 : (gd, HO.tup [.int gn, .int ge]) ∈ L1 := kp1 _ m_g ne_g
  refine ⟨sz (show 1 <= 1000000 by decide), fun rl hrl => ?_⟩
  have h1 : Has _ (yL t.c_Yard A y ++ ([(rl, HO.lst [.ref r1]), (r1, HO.lst [.str "NoEnd"])] ++ L1)) := Has.comm (X := [_, _]) (Y := yL t.c_Yard A y) (R := L1) (v1.alloc hrl (.lst [.ref r1]))
  generalize upd G1 rl _ = K1 at h1 ⊢
  dsimp only [List.set]
  clear v1 hrl
  refine ⟨_, rfl, .inl ⟨rfl, _, SqL.of (h1.get 9 rfl)⟩, ?_⟩
  refine ref_oneM (t := t) 1 (by decide) t.c_NoEnd T.x_NoEnd (Z := yL t.c_Yard A y ++ [(rl, HO.lst [.ref r1]), (r1, HO.lst [.str "NoEnd"])]) (L := L1) (hcast h1 (by simp)) tb1 (fun H1 W Q1 E1 g' kW hE => ?_) (fun G2 L2 r2 v2 tb2 kp2 => ?_)
  ·have g : Has H1 (yL t.c_Yard A y ++ ([(rl, HO.lst [.ref r1]), (r1, HO.lst [.str "NoEnd"])] ++ W)) := hcast g' (by simp)
   have w_e : (ed, HO.tup [.int en, .int ee]) ∈ W := kW _ m_e1 ne_e
   have w_g : (gd, HO.tup [.int gn, .int ge]) ∈ W := kW _ m_g1 ne_g
   obtain ⟨je, hje⟩ := List.mem_iff_getElem?.mp (List.mem_append_right [(rl, HO.lst [.ref r1]), (r1, HO.lst [.str "NoEnd"])] w_e)
   obtain ⟨jg, hjg⟩ := List.mem_iff_getElem?.mp (List.mem_append_right [(rl, HO.lst [.ref r1]), (r1, HO.lst [.str "NoEnd"])] w_g)
   exact ⟨_, rfl, A.p, A.dx, _, rfl, g.get 1 rfl, (fl_m2 _ _ _).2.2.1, _, rfl, _, rfl, A, y, _, gd, ed, gn, ge, en, ee, jg, je, rfl, g, hjg, hje, .inr (.inl ⟨th, .inr ⟨k, hk, he, se, fun a => hE H1 [] a g'⟩⟩)⟩
  have m_e2 : (ed, HO.tup [.int en, .int ee]) ∈ L2 := kp2 _ m_e1 ne_e
  have m_g2 : (gd, HO.tup [.int gn, .int ge]) ∈ L2 := kp2 _ m_g1 ne_g
  have u2 : Has G2 (yL t.c_Yard A y ++ ((r2, HO.lst [.str "NoEnd"]) :: ([(rl, HO.lst [.ref r1]), (r1, HO.lst [.str "NoEnd"])] ++ L2))) := Has.comm (X := [_]) (Y := yL t.c_Yard A y) (hcast v2 (by simp [nameAt]))
  refine ⟨rl, _, _, rfl, rfl, u2.get 10 rfl, sizeOk (show 1 <= 1000000 by decide), ?_⟩
  have h2 : Has _ (yL t.c_Yard A y ++ ([(r2, HO.lst [.str "NoEnd"]), (rl, HO.lst [.ref r1, .ref r2]), (r1, HO.lst [.str "NoEnd"])] ++ L2)) := u2.puti 10 rfl (.lst ([.ref r1] ++ [.ref r2]))
  generalize upd G2 rl _ = K2 at h2 ⊢
  clear u2 v2
  refine ⟨_, rfl, .inl ⟨rfl, _, SqL.of (h2.get 10 rfl)⟩, ?_⟩
  refine ref_oneM (t := t) 1 (by decide) t.c_NoEnd T.x_NoEnd (Z := yL t.c_Yard A y ++ [(r2, HO.lst [.str "NoEnd"]), (rl, HO.lst [.ref r1, .ref r2]), (r1, HO.lst [.str "NoEnd"])]) (L := L2) (hcast h2 (by simp)) tb2 (fun H1 W Q1 E1 g' kW hE => ?_) (fun G3 L3 r3 v3 tb3 kp3 => ?_)
  ·have g : Has H1 (yL t.c_Yard A y ++ ([(r2, HO.lst [.str "NoEnd"]), (rl, HO.lst [.ref r1, .ref r2]), (r1, HO.lst [.str "NoEnd"])] ++ W)) := hcast g' (by simp)
   have w_e : (ed, HO.tup [.int en, .int ee]) ∈ W := kW _ m_e2 ne_e
   have w_g : (gd, HO.tup [.int gn, .int ge]) ∈ W := kW _ m_g2 ne_g
   obtain ⟨je, hje⟩ := List.mem_iff_getElem?.mp (List.mem_append_right [(r2, HO.lst [.str "NoEnd"]), (rl, HO.lst [.ref r1, .ref r2]), (r1, HO.lst [.str "NoEnd"])] w_e)
   exact ⟨_, rfl, A.p, A.dx, _, rfl, g.get 1 rfl, (fl_m2 _ _ _).2.2.1, _, rfl, _, rfl, A, y, _, ed, ed, en, ee, en, ee, je, je, rfl, g, hje, hje, .inl (.inr ⟨k, hk, he, se, fun a => hE H1 [] a g'⟩)⟩
  have m_e3 : (ed, HO.tup [.int en, .int ee]) ∈ L3 := kp3 _ m_e2 ne_e
  have m_g3 : (gd, HO.tup [.int gn, .int ge]) ∈ L3 := kp3 _ m_g2 ne_g
  have u3 : Has G3 (yL t.c_Yard A y ++ ((r3, HO.lst [.str "NoEnd"]) :: ([(r2, HO.lst [.str "NoEnd"]), (rl, HO.lst [.ref r1, .ref r2]), (r1, HO.lst [.str "NoEnd"])] ++ L3))) := Has.comm (X := [_]) (Y := yL t.c_Yard A y) (hcast v3 (by simp [nameAt]))
  refine ⟨rl, _, _, rfl, rfl, u3.get 11 rfl, sizeOk (show 2 <= 1000000 by decide), ?_⟩
  have h3 : Has _ (yL t.c_Yard A y ++ ([(r3, HO.lst [.str "NoEnd"]), (r2, HO.lst [.str "NoEnd"]), (rl, HO.lst [.ref r1, .ref r2, .ref r3]), (r1, HO.lst [.str "NoEnd"])] ++ L3)) := u3.puti 11 rfl (.lst ([.ref r1, .ref r2] ++ [.ref r3]))
  generalize upd G3 rl _ = K3 at h3 ⊢
  clear u3 v3
  refine ⟨_, rfl, .inl ⟨rfl, _, SqL.of (h3.get 11 rfl)⟩, ?_⟩
  refine ref_oneM (t := t) 1 (by decide) t.c_NoEnd T.x_NoEnd (Z := yL t.c_Yard A y ++ [(r3, HO.lst [.str "NoEnd"]), (r2, HO.lst [.str "NoEnd"]), (rl, HO.lst [.ref r1, .ref r2, .ref r3]), (r1, HO.lst [.str "NoEnd"])]) (L := L3) (hcast h3 (by simp)) tb3 (fun H1 W Q1 E1 g' kW hE => ?_) (fun G4 L4 r4 v4 tb4 kp4 => ?_)
  ·have g : Has H1 (yL t.c_Yard A y ++ ([(r3, HO.lst [.str "NoEnd"]), (r2, HO.lst [.str "NoEnd"]), (rl, HO.lst [.ref r1, .ref r2, .ref r3]), (r1, HO.lst [.str "NoEnd"])] ++ W)) := hcast g' (by simp)
   have w_e : (ed, HO.tup [.int en, .int ee]) ∈ W := kW _ m_e3 ne_e
   have w_g : (gd, HO.tup [.int gn, .int ge]) ∈ W := kW _ m_g3 ne_g
   obtain ⟨je, hje⟩ := List.mem_iff_getElem?.mp (List.mem_append_right [(r3, HO.lst [.str "NoEnd"]), (r2, HO.lst [.str "NoEnd"]), (rl, HO.lst [.ref r1, .ref r2, .ref r3]), (r1, HO.lst [.str "NoEnd"])] w_e)
   exact ⟨_, rfl, A.p, A.dx, _, rfl, g.get 1 rfl, (fl_m2 _ _ _).2.2.2, _, rfl, A, y, _, ed, en, ee, je, rfl, g, hje, .inl (.inr ⟨k, hk, he, se, fun a => hE H1 [] a g'⟩)⟩
  have m_e4 : (ed, HO.tup [.int en, .int ee]) ∈ L4 := kp4 _ m_e3 ne_e
  have m_g4 : (gd, HO.tup [.int gn, .int ge]) ∈ L4 := kp4 _ m_g3 ne_g
  have u4 : Has G4 (yL t.c_Yard A y ++ ((r4, HO.lst [.str "NoEnd"]) :: ([(r3, HO.lst [.str "NoEnd"]), (r2, HO.lst [.str "NoEnd"]), (rl, HO.lst [.ref r1, .ref r2, .ref r3]), (r1, HO.lst [.str "NoEnd"])] ++ L4))) := Has.comm (X := [_]) (Y := yL t.c_Yard A y) (hcast v4 (by simp [nameAt]))
  refine ⟨rl, _, _, rfl, rfl, u4.get 12 rfl, sizeOk (show 3 <= 1000000 by decide), ?_⟩
  have h4 : Has _ (yL t.c_Yard A y ++ ([(r4, HO.lst [.str "NoEnd"]), (r3, HO.lst [.str "NoEnd"]), (r2, HO.lst [.str "NoEnd"]), (rl, HO.lst [.ref r1, .ref r2, .ref r3, .ref r4]), (r1, HO.lst [.str "NoEnd"])] ++ L4)) := u4.puti 12 rfl (.lst ([.ref r1, .ref r2, .ref r3] ++ [.ref r4]))
  generalize upd G4 rl _ = K4 at h4 ⊢
  clear u4 v4
  refine ⟨_, rfl, .inl ⟨rfl, _, SqL.of (h4.get 12 rfl)⟩, ?_⟩
  refine ref_oneM (t := t) 1 (by decide) t.c_NoEnd T.x_NoEnd (Z := yL t.c_Yard A y ++ [(r4, HO.lst [.str "NoEnd"]), (r3, HO.lst [.str "NoEnd"]), (r2, HO.lst [.str "NoEnd"]), (rl, HO.lst [.ref r1, .ref r2, .ref r3, .ref r4]), (r1, HO.lst [.str "NoEnd"])]) (L := L4) (hcast h4 (by simp)) tb4 (fun H1 W Q1 E1 g' kW hE => ?_) (fun G5 L5 r5 v5 tb5 kp5 => ?_)
  ·have g : Has H1 (yL t.c_Yard A y ++ ([(r4, HO.lst [.str "NoEnd"]), (r3, HO.lst [.str "NoEnd"]), (r2, HO.lst [.str "NoEnd"]), (rl, HO.lst [.ref r1, .ref r2, .ref r3, .ref r4]), (r1, HO.lst [.str "NoEnd"])] ++ W)) := hcast g' (by simp)
   have w_e : (ed, HO.tup [.int en, .int ee]) ∈ W := kW _ m_e4 ne_e
   have w_g : (gd, HO.tup [.int gn, .int ge]) ∈ W := kW _ m_g4 ne_g
   obtain ⟨je, hje⟩ := List.mem_iff_getElem?.mp (List.mem_append_right [(r4, HO.lst [.str "NoEnd"]), (r3, HO.lst [.str "NoEnd"]), (r2, HO.lst [.str "NoEnd"]), (rl, HO.lst [.ref r1, .ref r2, .ref r3, .ref r4]), (r1, HO.lst [.str "NoEnd"])] w_e)
   exact ⟨_, rfl, A.p, A.dx, _, rfl, g.get 1 rfl, (fl_m4 _ _ _).1, _, rfl, A, y, _, ed, en, ee, je, rfl, g, hje, .inr ⟨k, hk, he, se, fun a => hE H1 [] a g'⟩⟩
  have m_e5 : (ed, HO.tup [.int en, .int ee]) ∈ L5 := kp5 _ m_e4 ne_e
  have m_g5 : (gd, HO.tup [.int gn, .int ge]) ∈ L5 := kp5 _ m_g4 ne_g
  have u5 : Has G5 (yL t.c_Yard A y ++ ((r5, HO.lst [.str "NoEnd"]) :: ([(r4, HO.lst [.str "NoEnd"]), (r3, HO.lst [.str "NoEnd"]), (r2, HO.lst [.str "NoEnd"]), (rl, HO.lst [.ref r1, .ref r2, .ref r3, .ref r4]), (r1, HO.lst [.str "NoEnd"])] ++ L5))) := Has.comm (X := [_]) (Y := yL t.c_Yard A y) (hcast v5 (by simp [nameAt]))
  refine ⟨rl, _, _, rfl, rfl, u5.get 13 rfl, sizeOk (show 4 <= 1000000 by decide), ?_⟩
  have h5 : Has _ (yL t.c_Yard A y ++ ([(r5, HO.lst [.str "NoEnd"]), (r4, HO.lst [.str "NoEnd"]), (r3, HO.lst [.str "NoEnd"]), (r2, HO.lst [.str "NoEnd"]), (rl, HO.lst [.ref r1, .ref r2, .ref r3, .ref r4, .ref r5]), (r1, HO.lst [.str "NoEnd"])] ++ L5)) := u5.puti 13 rfl (.lst ([.ref r1, .ref r2, .ref r3, .ref r4] ++ [.ref r5]))
  generalize upd G5 rl _ = K5 at h5 ⊢
  clear u5 v5
  refine ⟨_, rfl, .inl ⟨rfl, _, SqL.of (h5.get 13 rfl)⟩, ?_⟩
  refine ref_oneM (t := t) 1 (by decide) t.c_NoEnd T.x_NoEnd (Z := yL t.c_Yard A y ++ [(r5, HO.lst [.str "NoEnd"]), (r4, HO.lst [.str "NoEnd"]), (r3, HO.lst [.str "NoEnd"]), (r2, HO.lst [.str "NoEnd"]), (rl, HO.lst [.ref r1, .ref r2, .ref r3, .ref r4, .ref r5]), (r1, HO.lst [.str "NoEnd"])]) (L := L5) (hcast h5 (by simp)) tb5 (fun H1 W Q1 E1 g' kW hE => ?_) (fun G6 L6 r6 v6 tb6 kp6 => ?_)
  ·have g : Has H1 (yL t.c_Yard A y ++ ([(r5, HO.lst [.str "NoEnd"]), (r4, HO.lst [.str "NoEnd"]), (r3, HO.lst [.str "NoEnd"]), (r2, HO.lst [.str "NoEnd"]), (rl, HO.lst [.ref r1, .ref r2, .ref r3, .ref r4, .ref r5]), (r1, HO.lst [.str "NoEnd"])] ++ W)) := hcast g' (by simp)
   have w_e : (ed, HO.tup [.int en, .int ee]) ∈ W := kW _ m_e5 ne_e
   have w_g : (gd, HO.tup [.int gn, .int ge]) ∈ W := kW _ m_g5 ne_g
   obtain ⟨je, hje⟩ := List.mem_iff_getElem?.mp (List.mem_append_right [(r5, HO.lst [.str "NoEnd"]), (r4, HO.lst [.str "NoEnd"]), (r3, HO.lst [.str "NoEnd"]), (r2, HO.lst [.str "NoEnd"]), (rl, HO.lst [.ref r1, .ref r2, .ref r3, .ref r4, .ref r5]), (r1, HO.lst [.str "NoEnd"])] w_e)
   exact ⟨_, rfl, A.p, A.dx, _, rfl, g.get 1 rfl, (fl_m2 _ _ _).2.1, _, rfl, A, y, _, ed, en, ee, je, rfl, g, hje, .inr ⟨k, hk, he, se, fun a => hE H1 [] a g'⟩⟩
  have m_e6 : (ed, HO.tup [.int en, .int ee]) ∈ L6 := kp6 _ m_e5 ne_e
  have m_g6 : (gd, HO.tup [.int gn, .int ge]) ∈ L6 := kp6 _ m_g5 ne_g
  have u6 : Has G6 (yL t.c_Yard A y ++ ((r6, HO.lst [.str "NoEnd"]) :: ([(r5, HO.lst [.str "NoEnd"]), (r4, HO.lst [.str "NoEnd"]), (r3, HO.lst [.str "NoEnd"]), (r2, HO.lst [.str "NoEnd"]), (rl, HO.lst [.ref r1, .ref r2, .ref r3, .ref r4, .ref r5]), (r1, HO.lst [.str "NoEnd"])] ++ L6))) := Has.comm (X := [_]) (Y := yL t.c_Yard A y) (hcast v6 (by simp [nameAt]))
  refine ⟨rl, _, _, rfl, rfl, u6.get 14 rfl, sizeOk (show 5 <= 1000000 by decide), ?_⟩
  have h6 : Has _ (yL t.c_Yard A y ++ ([(r6, HO.lst [.str "NoEnd"]), (r5, HO.lst [.str "NoEnd"]), (r4, HO.lst [.str "NoEnd"]), (r3, HO.lst [.str "NoEnd"]), (r2, HO.lst [.str "NoEnd"]), (rl, HO.lst [.ref r1, .ref r2, .ref r3, .ref r4, .ref r5, .ref r6]), (r1, HO.lst [.str "NoEnd"])] ++ L6)) := u6.puti 14 rfl (.lst ([.ref r1, .ref r2, .ref r3, .ref r4, .ref r5] ++ [.ref r6]))
  generalize upd G6 rl _ = K6 at h6 ⊢
  clear u6 v6
  obtain ⟨X, eX⟩ : ∃ X : Kn, yL t.c_Yard A y ++ ([(r6, HO.lst [.str "NoEnd"]), (r5, HO.lst [.str "NoEnd"]), (r4, HO.lst [.str "NoEnd"]), (r3, HO.lst [.str "NoEnd"]), (r2, HO.lst [.str "NoEnd"]), (rl, HO.lst [.ref r1, .ref r2, .ref r3, .ref r4, .ref r5, .ref r6]), (r1, HO.lst [.str "NoEnd"])] ++ L6) = X := ⟨_, rfl⟩
  have hX := hcast h6 eX
  have mrl : (rl, HO.lst [.ref r1, .ref r2, .ref r3, .ref r4, .ref r5, .ref r6]) ∈ X := by rw [<- eX]; simp
  have mall : ∀ r ∈ [r1, r2, r3, r4, r5, r6], (r, HO.lst [.str (nameAt 1)]) ∈ X := fun r hr => by
   rw [<- eX]
   simp only [List.mem_cons, List.not_mem_nil, or_false] at hr
   rcases hr with rfl | rfl | rfl | rfl | rfl | rfl <;> simp [nameAt]
  refine ⟨_, rfl, rl, rfl, ⟨_, SqL.of (hX.at_ _ mrl)⟩, fun Dl hDl => ?_⟩
  refine ⟨fun n m zs H' => m = 6 - n /\ n <= 6 /\ zs = (List.replicate n true).map V.bl /\ ∃ N : Kn, Has H' ((Dl, .lst zs) :: (N ++ X)), ⟨_, rfl, Nat.zero_le _, rfl, [], hX.alloc hDl _⟩, ?_⟩
  rintro n0 m zs H2 ⟨rfl, hn, rfl, N, h12⟩
  refine ⟨h12.get 0 rfl, ?_⟩
  have g0 := h12.tail.at_ _ (List.mem_append_right N mrl)
  dsimp only at g0
  by_cases hlt : n0 < 6
  ·obtain ⟨r, hr⟩ : ∃ r, [r1, r2, r3, r4, r5, r6][n0]? = some r := ⟨_, List.getElem?_eq_getElem (show n0 < [r1, r2, r3, r4, r5, r6].length from hlt)⟩
   have er : ([.ref r1, .ref r2, .ref r3, .ref r4, .ref r5, .ref r6] : List V)[n0]? = some (.ref r) := by
    have := congrArg (Option.map V.ref) hr
    rw [<- List.getElem?_map] at this
    exact this
   refine .inr ⟨⟨_, .ref r, SqL.of g0, er⟩, ?_⟩
   rintro x H3 ⟨rfl, hx⟩
   have e1 := hx _ (SqL.of g0)
   rw [er] at e1
   cases e1
   refine ⟨rfl, tTrueT ?_⟩
   refine ⟨_, rfl, sz (show 1 <= 1000000 by decide), fun a ha => ?_⟩
   have h13 := h12.alloc ha (.lst [.str "NoEnd"])
   have gr := h13.tail.tail.at_ _ (List.mem_append_right N (mall r (List.mem_of_getElem? hr)))
   refine ⟨strsD [nameAt 1], strsD [nameAt 1], strsD_dv (ns := [nameAt 1]) gr, strsD_dv (ns := [nameAt 1]) (h13.get 0 rfl), (nameOk 1 (by decide)).2, (nameOk 1 (by decide)).2, ?_⟩
   rw [eqvR _ (nameOk 1 (by decide)).1]
   refine ⟨sizeOk (by rw [List.length_map, List.length_replicate]; omega), h13.get 1 rfl, 6 - (n0 + 1), by omega, rfl, hlt, by rw [List.replicate_succ', List.map_append]; rfl, _ :: N, (h13.puti 1 rfl _).swap2⟩
  ·have en : n0 = 6 := by omega
   subst en
   refine .inl ⟨⟨_, SqL.of g0, Nat.le_refl 6⟩, ?_⟩
   refine ⟨Dl, List.replicate 6 true, rfl, SqL.of (h12.get 0 rfl), ?_⟩
   rw [all_true]
   have h14 := dropL h12.tail
   rw [<- eX] at h14
   have h15 := dropL (G := [(r6, HO.lst [.str "NoEnd"]), (r5, HO.lst [.str "NoEnd"]), (r4, HO.lst [.str "NoEnd"]), (r3, HO.lst [.str "NoEnd"]), (r2, HO.lst [.str "NoEnd"]), (rl, HO.lst [.ref r1, .ref r2, .ref r3, .ref r4, .ref r5, .ref r6]), (r1, HO.lst [.str "NoEnd"])]) (Has.comm (X := yL t.c_Yard A y) (Y := [(r6, HO.lst [.str "NoEnd"]), (r5, HO.lst [.str "NoEnd"]), (r4, HO.lst [.str "NoEnd"]), (r3, HO.lst [.str "NoEnd"]), (r2, HO.lst [.str "NoEnd"]), (rl, HO.lst [.ref r1, .ref r2, .ref r3, .ref r4, .ref r5, .ref r6]), (r1, HO.lst [.str "NoEnd"])]) (R := L6) h14)
   exact q _ L6 h15 (keep kp1 (keep kp2 (keep kp3 (keep kp4 (keep kp5 kp6)))))
end
def q_J8 : Str := ("_law_bad_rod_told" : Str) ++ Str.ofString ".<locals>." ++ "<lambda>"
def sp_brt (C Pt : Addr) : Sp := fun vs H Q _ => ∃ (A : YA) (y : YR) (L : Kn) (rod sd : Int), vs = [.ref A.p, .int rod, .int sd, .int y.sides.length] /\ Has H (yL C A y ++ L) /\ Tb L Pt q_J8 /\ (rod < 0 ∨ (y.sides.length : Int) <= rod) /\ L2.Small rod /\ sd ≠ 1 /\ sd ≠ 2 /\ L2.Small sd /\
 ∀ H' L', Has H' (yL C A y ++ L') -> (∀ z ∈ L, z.1 ≠ Pt -> z ∈ L') -> Q (.bl true) H'
section
variable {P : Program} {w : World} {K : PySem.W.Frag} {mg : Str -> Option Value} {base : Heap} {t : Adr}
theorem scBr : FnScope ["_law_yard", "_law_rod", "_law_side", "_law_count"] ["_law_yard", "_law_rod", "_law_side", "_law_count"] (defScope s_J8) := ⟨rfl, rfl, rfl, by decide +kernel, rfl, by decide +kernel, by decide +kernel⟩
theorem okM_J8 (T : Txt K mg t) (kb : K.In base) (hbm : BM base mg) : FnOk P w K mg base CX0 11 t.f_J8 t.d_J8 ["_law_yard", "_law_rod", "_law_side", "_law_count"] (sp_brt t.c_Yard t.p_J8) := by
 obtain ⟨_, hd_Jx_4, hb_Jx_4⟩ := bD_Jx_4 T
 obtain ⟨_, hd_J9_2, hb_J9_2⟩ := bD_J9_2 T
 refine T.F_J8.okC scBr (fun vs H Q E h => ?_) (fun cdv A outer s H vs Q E hcdv hr h => ?_)
 ·obtain ⟨_, _, _, _, _, rfl, _⟩ := h
  rfl
 ·obtain ⟨A, y, L, rod, sd, rfl, hH, tb, hb, sb, s1, s2, ss, q⟩ := h
  obtain ⟨cc, ecd, hch⟩ := T.tb_J8
  have ecdv : cdv = .ref cc := hcdv.symm.trans ecd
  subst ecdv
  have hCH : PySem.W.CodeHd base cc t.p_J8 := PySem.W.codeHd_of_K kb hch
  have two : 2 <= sizeLine := by decide
  have keep : ∀ {L1 L2' L3 : Kn}, (∀ z ∈ L1, z.1 ≠ t.p_J8 -> z ∈ L2') -> (∀ z ∈ L2', z.1 ≠ t.p_J8 -> z ∈ L3) -> ∀ z ∈ L1, z.1 ≠ t.p_J8 -> z ∈ L3 := fun a b z m ne => b z (a z m ne) ne
  refine ⟨_, (pss_cons (ps_cut (ps_if (pt_cmpR (op_neD hr.units) (pe_refuse (kd := 7) (N' := ["_law_rod", "_law_side", "_law_yard"]) [1, 2, 0] (ok_J11 T) (hr.mono (by decide)) (by rfl) T.m_J11 T.F_J11.kp rfl hCH hbm (fun _ => rfl) rfl rfl rfl rfl rfl (by decide +kernel) (esc := defScope s_J8) rfl (by decide +kernel) (by decide +kernel) (by rfl) (fun _ _ _ _ _ => rfl) (fun _ _ _ _ _ _ _ _ hr1 => by exact (pe_meth (pv 2) T.cl_Yard T.M_Jj (okR_Jj T) (hr1.mono (by decide)) (b_Jj T) .nil passL (pa_cons (pv 0) (pa_cons (pv 1) pa_nil))))) (pe_lst (pa_cons pe_str pa_nil)) (nomark _))
    (pss_one (ps_ret pe_bl))
    pss_nil))
   (pss_cons (ps_cut (ps_if (pt_cmpR (op_neD hr.units) (pe_refuse (kd := 7) (N' := ["_law_rod", "_law_yard"]) [1, 0] (ok_J11 T) (hr.mono (by decide)) (by rfl) T.m_J11 T.F_J11.kp rfl hCH hbm (fun _ => rfl) rfl rfl rfl rfl rfl (by decide +kernel) (esc := defScope s_J8) rfl (by decide +kernel) (by decide +kernel) (by rfl) (fun _ _ _ _ _ => rfl) (fun _ _ _ _ _ _ _ _ hr1 => by exact (pe_meth (pv 1) T.cl_Yard T.M_Jq (okR_Jq T) (hr1.mono (by decide)) (b_Jq T) .nil passL (pa_cons (pv 0) pa_nil)))) (pe_lst (pa_cons pe_str pa_nil)) (nomark _))
    (pss_one (ps_ret pe_bl))
    pss_nil))
   (pss_cons (ps_cut (ps_if (pt_cmpR (op_neD hr.units) (pe_refuse (kd := 7) (N' := ["_law_rod", "_law_yard"]) [1, 0] (ok_J11 T) (hr.mono (by decide)) (by rfl) T.m_J11 T.F_J11.kp rfl hCH hbm (fun _ => rfl) rfl rfl rfl rfl rfl (by decide +kernel) (esc := defScope s_J8) rfl (by decide +kernel) (by decide +kernel) (by rfl) (fun _ _ _ _ _ => rfl) (fun _ _ _ _ _ _ _ _ hr1 => by exact (pe_meth (pv 1) T.cl_Yard T.M_Jx (okR_Jx T) (hr1.mono (by decide)) hb_Jx_4 hd_Jx_4 passL (pa_cons pe_str (pa_cons pe_int (pa_cons (pv 0) pa_nil)))))) (pe_lst (pa_cons pe_str pa_nil)) (nomark _))
    (pss_one (ps_ret pe_bl))
    pss_nil))
   (pss_cons (ps_cut (ps_if (PW.pt (pw_and (pt_cmpR op_gt (pv 3) pe_int (nomark _)) (pw_and1 (pt_cmpR (op_neD hr.units) (pe_refuse (kd := 7) (N' := ["_law_side", "_law_yard", "_law_count"]) [2, 0, 3] (ok_J11 T) (hr.mono (by decide)) (by rfl) T.m_J11 T.F_J11.kp rfl hCH hbm (fun _ => rfl) rfl rfl rfl rfl rfl (by decide +kernel) (esc := defScope s_J8) rfl (by decide +kernel) (by decide +kernel) (by rfl) (fun _ _ _ _ _ => rfl) (fun _ _ _ _ _ _ _ _ hr1 => by exact (pe_meth (pv 1) T.cl_Yard T.M_Jj (okR_Jj T) (hr1.mono (by decide)) (b_Jj T) .nil passL (pa_cons (pe_op op_sub (pv 2) pe_int) (pa_cons (pv 0) pa_nil))))) (pe_lst (pa_cons pe_str pa_nil)) (nomark _)))))
    (pss_one (ps_ret pe_bl))
    pss_nil))
   (pss_one (ps_ret (pe_cmpR (op_eqD hr.units) (pe_refuse (kd := 7) (N' := ["_law_side", "_law_yard"]) [2, 0] (ok_J11 T) (hr.mono (by decide)) (by rfl) T.m_J11 T.F_J11.kp rfl hCH hbm (fun _ => rfl) rfl rfl rfl rfl rfl (by decide +kernel) (esc := defScope s_J8) rfl (by decide +kernel) (by decide +kernel) (by rfl) (fun _ _ _ _ _ => rfl) (fun _ _ _ _ _ _ _ _ hr1 => by exact (pe_meth (pv 1) T.cl_Yard T.M_J9 (okR_J9 T) (hr1.mono (by decide)) hb_J9_2 hd_J9_2 passL (pa_cons (pv 0) pa_nil)))) (pe_lst (pa_cons pe_str pa_nil)) (nomark _)))))))), ?_⟩
  rw [show L2.start ["_law_yard", "_law_rod", "_law_side", "_law_count"] [V.ref A.p, V.int rod, V.int sd, V.int y.sides.length] = ([some (V.ref A.p), some (V.int rod), some (V.int sd), some (V.int y.sides.length)] : St) from rfl]
  refine ⟨_, ?_, fun _ _ h => h⟩
  refine ref_oneM (t := t) 5 (by decide) t.c_NoRod T.x_NoRod (Z := yL t.c_Yard A y) (L := L) (hcast hH (by simp)) tb (fun H1 W Q1 E1 g' kW hE => ?_) (fun G1 L1 r1 v1 tb1 kp1 => ?_)
  ·have g : Has H1 (yL t.c_Yard A y ++ (([] : Kn) ++ W)) := hcast g' (by simp)
   exact ⟨_, rfl, A.p, A.dx, _, rfl, g.get 1 rfl, (fl_m _ _ _).2.2.1, _, rfl, _, rfl, A, y, _, rod, sd, rfl, g, .inl ⟨hb, sb, fun a => hE H1 [] a g'⟩⟩
  refine ⟨sz (show 1 <= 1000000 by decide), fun l1 hl1 => ?_⟩
  have u1 := v1.alloc hl1 (.lst [.str "NoRod"])
  refine ⟨strsD [nameAt 5], strsD [nameAt 5], strsD_dv (ns := [nameAt 5]) (u1.get 1 rfl), strsD_dv (ns := [nameAt 5]) (u1.get 0 rfl), (nameOk 5 (by decide)).2, (nameOk 5 (by decide)).2, ?_⟩
  rw [eqvR _ (nameOk 5 (by decide)).1]
  have h1 : Has _ (yL t.c_Yard A y ++ L1) := u1.tail.tail
  generalize upd G1 l1 _ = K1 at h1 ⊢
  clear u1 v1 hl1
  refine ⟨_, rfl, iteF ?_⟩
  refine ⟨_, ?_, fun _ _ h => h⟩
  refine ref_oneM (t := t) 5 (by decide) t.c_NoRod T.x_NoRod (Z := yL t.c_Yard A y) (L := L1) (hcast h1 (by simp)) tb1 (fun H1 W Q1 E1 g' kW hE => ?_) (fun G2 L2 r2 v2 tb2 kp2 => ?_)
  ·have g : Has H1 (yL t.c_Yard A y ++ (([] : Kn) ++ W)) := hcast g' (by simp)
   exact ⟨_, rfl, A.p, A.dx, _, rfl, g.get 1 rfl, (fl_m _ _ _).2.2.2.2.2.1, _, rfl, A, y, _, rod, rfl, g, hb, sb, fun a => hE H1 [] a g'⟩
  refine ⟨sz (show 1 <= 1000000 by decide), fun l2 hl2 => ?_⟩
  have u2 := v2.alloc hl2 (.lst [.str "NoRod"])
  refine ⟨strsD [nameAt 5], strsD [nameAt 5], strsD_dv (ns := [nameAt 5]) (u2.get 1 rfl), strsD_dv (ns := [nameAt 5]) (u2.get 0 rfl), (nameOk 5 (by decide)).2, (nameOk 5 (by decide)).2, ?_⟩
  rw [eqvR _ (nameOk 5 (by decide)).1]
  have h2 : Has _ (yL t.c_Yard A y ++ L2) := u2.tail.tail
  generalize upd G2 l2 _ = K2 at h2 ⊢
  clear u2 v2 hl2
  refine ⟨_, rfl, iteF ?_⟩
  refine ⟨_, ?_, fun _ _ h => h⟩
  refine ref_oneM (t := t) 5 (by decide) t.c_NoRod T.x_NoRod (Z := yL t.c_Yard A y) (L := L2) (hcast h2 (by simp)) tb2 (fun H1 W Q1 E1 g' kW hE => ?_) (fun G3 L3 r3 v3 tb3 kp3 => ?_)
  ·have g : Has H1 (yL t.c_Yard A y ++ (([] : Kn) ++ W)) := hcast g' (by simp)
   exact ⟨_, rfl, A.p, A.dx, _, rfl, g.get 1 rfl, (fl_m _ _ _).1, _, rfl, A, y, _, Kd.lazy.str, 0, .int rod, rfl, g, .inr (.inr ⟨.lazy, rod, rfl, rfl, rfl, hb, sb, fun a => hE H1 [] a g'⟩)⟩
  refine ⟨sz (show 1 <= 1000000 by decide), fun l3 hl3 => ?_⟩
  have u3 := v3.alloc hl3 (.lst [.str "NoRod"])
  refine ⟨strsD [nameAt 5], strsD [nameAt 5], strsD_dv (ns := [nameAt 5]) (u3.get 1 rfl), strsD_dv (ns := [nameAt 5]) (u3.get 0 rfl), (nameOk 5 (by decide)).2, (nameOk 5 (by decide)).2, ?_⟩
  rw [eqvR _ (nameOk 5 (by decide)).1]
  have h3 : Has _ (yL t.c_Yard A y ++ L3) := u3.tail.tail
  generalize upd G3 l3 _ = K3 at h3 ⊢
  clear u3 v3 hl3
  refine ⟨_, rfl, iteF ?_⟩
  refine ⟨fun σ' H' => ∃ L4, σ' = [some (.ref A.p), some (.int rod), some (.int sd), some (.int y.sides.length)] /\ Has H' (yL t.c_Yard A y ++ L4) /\ Tb L4 t.p_J8 q_J8 /\ (∀ z ∈ L, z.1 ≠ t.p_J8 -> z ∈ L4), ?_, ?_⟩
  ·refine ⟨_, rfl, _, _, rfl, rfl, _, rfl, if2 (fun c => ?_) (fun c => iteF ⟨L3, rfl, h3, tb3, (keep kp1 (keep kp2 kp3))⟩)⟩
   have c0 := of_decide_eq_true c
   refine ref_oneM (t := t) 2 (by decide) t.c_NoSide T.x_NoSide (Z := yL t.c_Yard A y) (L := L3) (hcast h3 (by simp)) tb3 (fun H1 W Q1 E1 g' kW hE => ?_) (fun G4 L4 r4 v4 tb4 kp4 => ?_)
   ·have g : Has H1 (yL t.c_Yard A y ++ (([] : Kn) ++ W)) := hcast g' (by simp)
    exact ⟨_, rfl, A.p, A.dx, _, rfl, g.get 1 rfl, (fl_m _ _ _).2.2.1, _, rfl, _, _, rfl, rfl, _, rfl, A, y, _, (y.sides.length : Int) - 1, sd, rfl, g, .inr ⟨by omega, by omega, s1, s2, ss, fun a => hE H1 [] a g'⟩⟩
   refine ⟨sz (show 1 <= 1000000 by decide), fun l4 hl4 => ?_⟩
   have u4 := v4.alloc hl4 (.lst [.str "NoSide"])
   refine ⟨strsD [nameAt 2], strsD [nameAt 2], strsD_dv (ns := [nameAt 2]) (u4.get 1 rfl), strsD_dv (ns := [nameAt 2]) (u4.get 0 rfl), (nameOk 2 (by decide)).2, (nameOk 2 (by decide)).2, ?_⟩
   rw [eqvR _ (nameOk 2 (by decide)).1]
   have h4 : Has _ (yL t.c_Yard A y ++ L4) := u4.tail.tail
   generalize upd G4 l4 _ = K4 at h4 ⊢
   clear u4 v4 hl4
   refine ⟨_, rfl, iteF ?_⟩
   exact ⟨L4, rfl, h4, tb4, (keep kp1 (keep kp2 (keep kp3 kp4)))⟩
  clear h3 tb3
  rintro σ' H5 ⟨L5, rfl, h5, tb5, kp5⟩
  refine ref_oneM (t := t) 2 (by decide) t.c_NoSide T.x_NoSide (Z := yL t.c_Yard A y) (L := L5) (hcast h5 (by simp)) tb5 (fun H1 W Q1 E1 g' kW hE => ?_) (fun G6 L6 r6 v6 tb6 kp6 => ?_)
  ·have g : Has H1 (yL t.c_Yard A y ++ (([] : Kn) ++ W)) := hcast g' (by simp)
   exact ⟨_, rfl, A.p, A.dx, _, rfl, g.get 1 rfl, (fl_m _ _ _).2.1, _, rfl, A.p, sd, rfl, s1, s2, ss, fun a => hE H1 [] a g'⟩
  refine ⟨sz (show 1 <= 1000000 by decide), fun l6 hl6 => ?_⟩
  have u6 := v6.alloc hl6 (.lst [.str "NoSide"])
  refine ⟨strsD [nameAt 2], strsD [nameAt 2], strsD_dv (ns := [nameAt 2]) (u6.get 1 rfl), strsD_dv (ns := [nameAt 2]) (u6.get 0 rfl), (nameOk 2 (by decide)).2, (nameOk 2 (by decide)).2, ?_⟩
  rw [eqvR _ (nameOk 2 (by decide)).1]
  have h6 : Has _ (yL t.c_Yard A y ++ L6) := u6.tail.tail
  generalize upd G6 l6 _ = K6 at h6 ⊢
  clear u6 v6 hl6
  exact q _ L6 h6 (keep kp5 kp6)
end
end P
set_option Elab.async false
set_option linter.all false
set_option maxRecDepth 100000
set_option maxHeartbeats 4000000
namespace P
open PySem L2
def q_Je : Str := ("_law_links_told" : Str) ++ Str.ofString ".<locals>." ++ "<lambda>"
theorem eqv_no (i : Nat) : PyData.eqv (strsD (dueN (some i))) (strsD (dueN none)) = false := rfl
def sp_lkt (C Pt : Addr) : Sp := fun vs H Q _ => ∃ (A : YA) (y : YR) (L : Kn) (w : Wd) (s : Sd) (n1 e1 n2 e2 : Int) (o1 o2 : Addr), vs = [.ref A.p, .ref o1, .ref o2] /\ Has H (yL C A y ++ L) /\ Tb L Pt q_Je /\ Rep w s y /\ (o1, HO.tup [.int n1, .int e1]) ∈ L /\ (o2, HO.tup [.int n2, .int e2]) ∈ L /\ There y n1 e1 /\ There y n2 e2 /\ L2.Small n1 /\ L2.Small e1 /\ L2.Small n2 /\ L2.Small e2 /\
 ∀ H' L', Has H' (yL C A y ++ L') -> (∀ z ∈ L, z.1 ≠ Pt -> z ∈ L') -> Q (.bl true) H'
section
variable {P : Program} {w : World} {K : PySem.W.Frag} {mg : Str -> Option Value} {base : Heap} {t : Adr}
theorem scLt : FnScope ["_law_yard", "_law_one", "_law_other", "_law_due"] ["_law_yard", "_law_one", "_law_other"] (defScope s_Je) := ⟨rfl, rfl, rfl, by decide +kernel, rfl, by decide +kernel, by decide +kernel⟩
theorem okM_Je (T : Txt K mg t) (kb : K.In base) (hbm : BM base mg) : FnOk P w K mg base CX0 11 t.f_Je t.d_Je ["_law_yard", "_law_one", "_law_other"] (sp_lkt t.c_Yard t.p_Je) := by
 refine T.F_Je.okC scLt (fun vs H Q E h => ?_) (fun cdv A outer s H vs Q E hcdv hr h => ?_)
 ·obtain ⟨_, _, _, _, _, _, _, _, _, _, _, rfl, _⟩ := h
  rfl
 ·obtain ⟨A, y, L, W, sd, n1, e1, n2, e2, o1, o2, rfl, hH, tb, R, m_a, m_b, t1, t2, s1, s2, s3, s4, q⟩ := h
  obtain ⟨cc, ecd, hch⟩ := T.tb_Je
  have ecdv : cdv = .ref cc := hcdv.symm.trans ecd
  subst ecdv
  have hCH : PySem.W.CodeHd base cc t.p_Je := PySem.W.codeHd_of_K kb hch
  have two : 2 <= sizeLine := by decide
  have keep : ∀ {L1 L2' L3 : Kn}, (∀ z ∈ L1, z.1 ≠ t.p_Je -> z ∈ L2') -> (∀ z ∈ L2', z.1 ≠ t.p_Je -> z ∈ L3) -> ∀ z ∈ L1, z.1 ≠ t.p_Je -> z ∈ L3 := fun a b z m ne => b z (a z m ne) ne
  refine ⟨_, (pss_cons (ps_set (i := 3) scLt.nd rfl (Or.inl rfl) (pe_lst pa_nil))
   (pss_cons (ps_cut (ps_if (PW.pt (pw_or (pt_cmpR op_notN (pe_meth (pv 0) T.cl_Yard T.M_Jp (ok_Jp T) (hr.mono (by decide)) (b_Jp T) .nil pass0 (pa_cons (pv 1) pa_nil)) pe_non (nomark _)) (pw_or1 (pt_cmpR op_notN (pe_meth (pv 0) T.cl_Yard T.M_Jp (ok_Jp T) (hr.mono (by decide)) (b_Jp T) .nil pass0 (pa_cons (pv 2) pa_nil)) pe_non (nomark _)))))
    (pss_one (ps_set (i := 3) scLt.nd rfl (Or.inl rfl) (pe_lst (pa_cons pe_str pa_nil))))
    pss_nil))
   (pss_cons (ps_cut (ps_if (pt_cmpR (op_eqT hr.units) (pv 1) (pv 2) (nomark _))
    (pss_one (ps_set (i := 3) scLt.nd rfl (Or.inl rfl) (pe_lst (pa_cons pe_str pa_nil))))
    pss_nil))
   (pss_cons (ps_cut (ps_if (PW.pt (pw_and (pt_cmpR (op_neD hr.units) (pv 3) (pe_lst pa_nil) (nomark _)) (pw_and1 (pt_cmpR (op_neD hr.units) (pe_refuse (kd := 7) (N' := ["_law_one", "_law_other", "_law_yard"]) [1, 2, 0] (ok_J11 T) (hr.mono (by decide)) (by rfl) T.m_J11 T.F_J11.kp rfl hCH hbm (fun _ => rfl) rfl rfl rfl rfl rfl (by decide +kernel) (esc := defScope s_Je) rfl (by decide +kernel) (by decide +kernel) (by rfl) (fun _ _ _ _ _ => rfl) (fun _ _ _ _ _ _ _ _ hr1 => by exact (pe_meth (pv 2) T.cl_Yard T.M_Jn (okR_Jn T) (hr1.mono (by decide)) (b_Jn T) .nil passL (pa_cons (pv 0) (pa_cons (pv 1) pa_nil))))) (pv 3) (nomark _)))))
    (pss_one (ps_ret pe_bl))
    pss_nil))
   (pss_cons (ps_cut (ps_if (pt_cmpR op_notN (pe_meth (pv 0) T.cl_Yard T.M_Jp (ok_Jp T) (hr.mono (by decide)) (b_Jp T) .nil pass0 (pa_cons (pv 1) pa_nil)) pe_non (nomark _))
    (pss_one (ps_ret (pe_cmpR (op_eqD hr.units) (pe_refuse (kd := 7) (N' := ["_law_one", "_law_yard"]) [1, 0] (ok_J11 T) (hr.mono (by decide)) (by rfl) T.m_J11 T.F_J11.kp rfl hCH hbm (fun _ => rfl) rfl rfl rfl rfl rfl (by decide +kernel) (esc := defScope s_Je) rfl (by decide +kernel) (by decide +kernel) (by rfl) (fun _ _ _ _ _ => rfl) (fun _ _ _ _ _ _ _ _ hr1 => by exact (pe_meth (pv 1) T.cl_Yard T.M_Jn (okR_Jn T) (hr1.mono (by decide)) (b_Jn T) .nil passL (pa_cons (pv 0) (pa_cons (pv 0) pa_nil))))) (pe_lst (pa_cons pe_str pa_nil)) (nomark _))))
    pss_nil))
   (pss_one (ps_ret (pe_cmpR (op_eqD hr.units) (pe_refuse (kd := 7) (N' := ["_law_one", "_law_yard"]) [1, 0] (ok_J11 T) (hr.mono (by decide)) (by rfl) T.m_J11 T.F_J11.kp rfl hCH hbm (fun _ => rfl) rfl rfl rfl rfl rfl (by decide +kernel) (esc := defScope s_Je) rfl (by decide +kernel) (by decide +kernel) (by rfl) (fun _ _ _ _ _ => rfl) (fun _ _ _ _ _ _ _ _ hr1 => by exact (pe_meth (pv 1) T.cl_Yard T.M_Jc (okR_Jc T) (hr1.mono (by decide)) (b_Jc T) .nil passL (pa_cons (pv 0) pa_nil)))) (pe_lst (pa_cons pe_str pa_nil)) (nomark _))))))))), ?_⟩
  rw [show L2.start ["_law_yard", "_law_one", "_law_other", "_law_due"] [V.ref A.p, V.ref o1, V.ref o2] = ([some (V.ref A.p), some (V.ref o1), some (V.ref o2), none] : St) from rfl]
  have ne_a : o1 ≠ t.p_Je := Tb.ne tb hH m_a (fun _ e => nomatch e)
  have ne_b : o2 ≠ t.p_Je := Tb.ne tb hH m_b (fun _ e => nomatch e)
  have mv : ∀ n e, (valV y.mates (kE n e)).getD .non = enV (W.mf n e) := fun n e => by rw [R.mt]; cases W.mf n e <;> rfl
  have mn : ∀ n e, W.mf n e ≠ none -> valV y.mates (kE n e) ≠ none := fun n e h => by
   rw [R.mt]
   cases c : W.mf n e with
   | none => exact absurd c h
   | some z => exact fun h => nomatch h
  refine ⟨sz (show 0 <= 1000000 by decide), fun d0 hd0 => ?_⟩
  have h1 := Has.comm (X := [_]) (Y := yL t.c_Yard A y) (R := L) (hH.alloc hd0 (.lst []))
  generalize upd H d0 _ = H1 at h1 ⊢
  dsimp only [List.set]
  obtain ⟨x1, ex1⟩ : ∃ x1 : Option Nat, (if W.mf n1 e1 ≠ none ∨ W.mf n2 e2 ≠ none then some 9 else none) = x1 := ⟨_, rfl⟩
  obtain ⟨j1, hj1⟩ := List.mem_iff_getElem?.mp (List.mem_append_right [(d0, HO.lst [])] m_a)
  obtain ⟨j2, hj2⟩ := List.mem_iff_getElem?.mp (List.mem_append_right [(d0, HO.lst [])] m_b)
  refine ⟨fun σ' H' => ∃ du, σ' = [some (.ref A.p), some (.ref o1), some (.ref o2), some (.ref du)] /\ Has H' (yL t.c_Yard A y ++ ((du, HO.lst ((dueN x1).map V.str)) :: L)), ?_, ?_⟩
  ·refine ⟨_, rfl, A.p, A.dx, _, rfl, h1.get 1 rfl, (fl_m2 _ _ _).2.1, _, rfl, A, y, _, o1, n1, e1, j1, rfl, h1, hj1, t1, rfl, _, rfl, ?_⟩
   rw [mv]
   cases c1 : W.mf n1 e1 with
   | some z =>
    refine iteT (iteT ?_)
    refine ⟨sz (show 1 <= 1000000 by decide), fun d2 hd2 => ?_⟩
    rw [if_pos (.inl (by rw [c1]; exact fun h => nomatch h))] at ex1
    subst ex1
    exact ⟨d2, rfl, hcast (dropL (G := [_]) (Has.comm (X := (d2, HO.lst [.str "Linked"]) :: yL t.c_Yard A y) (Y := [(d0, HO.lst [])]) (R := L) (hcast (h1.alloc hd2 (.lst [.str "Linked"])) (by simp))) |> fun h => Has.comm (X := [(d2, HO.lst [.str "Linked"])]) (Y := yL t.c_Yard A y) (R := L) h) (by simp [dueN, nameAt])⟩
   | none =>
    refine iteF ?_
    refine ⟨_, rfl, A.p, A.dx, _, rfl, h1.get 1 rfl, (fl_m2 _ _ _).2.1, _, rfl, A, y, _, o2, n2, e2, j2, rfl, h1, hj2, t2, rfl, _, rfl, ?_⟩
    rw [mv]
    cases c2 : W.mf n2 e2 with
    | some z =>
     refine iteT ?_
     refine ⟨sz (show 1 <= 1000000 by decide), fun d2 hd2 => ?_⟩
     rw [if_pos (.inr (by rw [c2]; exact fun h => nomatch h))] at ex1
     subst ex1
     exact ⟨d2, rfl, hcast (dropL (G := [_]) (Has.comm (X := (d2, HO.lst [.str "Linked"]) :: yL t.c_Yard A y) (Y := [(d0, HO.lst [])]) (R := L) (hcast (h1.alloc hd2 (.lst [.str "Linked"])) (by simp))) |> fun h => Has.comm (X := [(d2, HO.lst [.str "Linked"])]) (Y := yL t.c_Yard A y) (R := L) h) (by simp [dueN, nameAt])⟩
    | none =>
     refine iteF ?_
     rw [if_neg (fun h => h.elim (fun h => h c1) (fun h => h c2))] at ex1
     subst ex1
     exact ⟨d0, rfl, h1⟩
  clear h1 hd0 hj1 hj2
  rintro σ' H2 ⟨du, rfl, h2⟩
  obtain ⟨x2, ex2⟩ : ∃ x2 : Option Nat, (if [n1, e1] = [n2, e2] then some 8 else x1) = x2 := ⟨_, rfl⟩
  have g1 := h2.at_ _ (List.mem_append_right _ (List.mem_cons_of_mem _ m_a))
  have g2 := h2.at_ _ (List.mem_append_right _ (List.mem_cons_of_mem _ m_b))
  refine ⟨fun σ' H' => ∃ du, σ' = [some (.ref A.p), some (.ref o1), some (.ref o2), some (.ref du)] /\ Has H' (yL t.c_Yard A y ++ ((du, HO.lst ((dueN x2).map V.str)) :: L)), ?_, ?_⟩
  ·refine ⟨_, rfl, _, rfl, o1, o2, [n1, e1], [n2, e2], rfl, rfl, g1, g2, _, rfl, ifd (fun c => ?_) (fun c => ?_)⟩
   ·refine ⟨sz (show 1 <= 1000000 by decide), fun d2 hd2 => ?_⟩
    rw [if_pos c] at ex2
    subst ex2
    exact ⟨d2, rfl, hcast (dropL (G := [_]) (Has.comm (X := (d2, HO.lst [.str "SameEnd"]) :: yL t.c_Yard A y) (Y := [(du, HO.lst ((dueN x1).map V.str))]) (R := L) (hcast (h2.alloc hd2 (.lst [.str "SameEnd"])) (by simp))) |> fun h => Has.comm (X := [(d2, HO.lst [.str "SameEnd"])]) (Y := yL t.c_Yard A y) (R := L) h) (by simp [dueN, nameAt])⟩
   ·rw [if_neg c] at ex2
    subst ex2
    exact ⟨du, rfl, h2⟩
  clear h2 g1 g2
  rintro σ' H3 ⟨du, rfl, h3⟩
  have hx2 : ∀ i, x2 = some i -> i < 22 /\ ((i = 8 /\ n1 = n2 /\ e1 = e2) ∨ (i = 9 /\ ¬ (n1 = n2 /\ e1 = e2) /\ (W.mf n1 e1 ≠ none ∨ W.mf n2 e2 ≠ none))) := fun i hi => by
   by_cases c : [n1, e1] = [n2, e2]
   ·rw [if_pos c, hi] at ex2
    cases ex2
    cases c
    exact ⟨by decide, .inl ⟨rfl, rfl, rfl⟩⟩
   ·rw [if_neg c, hi] at ex2
    rw [ex2] at ex1
    by_cases c2 : W.mf n1 e1 ≠ none ∨ W.mf n2 e2 ≠ none
    ·rw [if_pos c2] at ex1
     cases ex1
     exact ⟨by decide, .inr ⟨rfl, fun h => c (by rw [h.1, h.2]), c2⟩⟩
    ·rw [if_neg c2] at ex1
     cases ex1
  refine ⟨fun σ' H' => ∃ L4, σ' = [some (.ref A.p), some (.ref o1), some (.ref o2), some (.ref du)] /\ Has H' (yL t.c_Yard A y ++ L4) /\ Tb L4 t.p_Je q_Je /\ (∀ z ∈ L, z.1 ≠ t.p_Je -> z ∈ L4), ?_, ?_⟩
  ·refine ⟨_, rfl, sz (show 0 <= 1000000 by decide), fun ea hea => ?_⟩
   have h4 := h3.alloc hea (.lst [])
   have hnone : ∀ i, (none : Option Nat) = some i -> i < 22 := fun i e => by cases e
   cases hx : x2 with
   | none =>
    rw [hx] at h4
    refine ⟨strsD (dueN none), strsD (dueN none), strsD_dv (h4.get 10 rfl), strsD_dv (h4.get 0 rfl), dueSh _ hnone, dueSh _ hnone, ?_⟩
    rw [eqvR _ (dueLay _ hnone)]
    refine ⟨_, rfl, iteF (iteF ?_)⟩
    exact ⟨_, rfl, h4.tail, tb.mono (fun z hz => List.mem_cons_of_mem _ hz), fun z hz _ => List.mem_cons_of_mem _ hz⟩
   | some i =>
    obtain ⟨hi, hi2⟩ := hx2 i hx
    have hoi : ∀ j, (some i : Option Nat) = some j -> j < 22 := fun j e => by cases e; exact hi
    rw [hx] at h4
    refine ⟨strsD (dueN (some i)), strsD (dueN none), strsD_dv (h4.get 10 rfl), strsD_dv (h4.get 0 rfl), dueSh _ hoi, dueSh _ hnone, ?_⟩
    rw [eqv_no]
    refine ⟨_, rfl, iteT ?_⟩
    have h5 : Has _ (yL t.c_Yard A y ++ ((du, HO.lst [.str (nameAt i)]) :: L)) := h4.tail
    generalize upd H3 ea _ = H5 at h5 ⊢
    obtain ⟨C, hC, hcs⟩ : ∃ C : Addr, excAll K C t.c_RailError (dsOf t i) = true /\ ((C = t.c_SameEnd /\ n1 = n2 /\ e1 = e2) ∨ (C = t.c_Linked /\ ¬ (n1 = n2 /\ e1 = e2) /\ (W.mf n1 e1 ≠ none ∨ W.mf n2 e2 ≠ none))) := by
     rcases hi2 with ⟨rfl, a1, a2⟩ | ⟨rfl, a1, a2⟩
     ·exact ⟨_, T.x_SameEnd, .inl ⟨rfl, a1, a2⟩⟩
     ·exact ⟨_, T.x_Linked, .inr ⟨rfl, a1, a2⟩⟩
    refine ref_oneM (t := t) i hi C hC (Z := yL t.c_Yard A y ++ [(du, HO.lst [.str (nameAt i)])]) (L := L) (hcast h5 (by simp)) tb (fun H1 W1 Q1 E1 g' kW hE => ?_) (fun G4 L4 r4 v4 tb4 kp4 => ?_)
    ·have g : Has H1 (yL t.c_Yard A y ++ ([(du, HO.lst [.str (nameAt i)])] ++ W1)) := hcast g' (by simp)
     obtain ⟨j1, hj1⟩ := List.mem_iff_getElem?.mp (List.mem_append_right [(du, HO.lst [.str (nameAt i)])] (kW _ m_a ne_a))
     obtain ⟨j2, hj2⟩ := List.mem_iff_getElem?.mp (List.mem_append_right [(du, HO.lst [.str (nameAt i)])] (kW _ m_b ne_b))
     refine ⟨_, rfl, A.p, A.dx, _, rfl, g.get 1 rfl, (fl_m2 _ _ _).2.2.1, _, rfl, _, rfl, A, y, _, o1, o2, n1, e1, n2, e2, j1, j2, rfl, g, hj1, hj2, .inr (.inr ⟨t1, t2, s1, s2, s3, s4, ?_⟩)⟩
     rcases hcs with ⟨rfl, a1, a2⟩ | ⟨rfl, a1, a2⟩
     ·exact .inl ⟨a1, a2, fun a => hE H1 [] a g'⟩
     ·exact .inr ⟨a1, a2.elim (fun h => .inl (mn _ _ h)) (fun h => .inr (mn _ _ h)), fun H2 N a h2 => hE H2 N a (hcast h2 (by simp))⟩
    ·have v5 := hcast v4 (L' := (r4, HO.lst [.str (nameAt i)]) :: (yL t.c_Yard A y ++ ((du, HO.lst [.str (nameAt i)]) :: L4))) (by simp)
     refine ⟨_, rfl, strsD [nameAt i], strsD [nameAt i], strsD_dv (ns := [nameAt i]) (v5.get 0 rfl), strsD_dv (ns := [nameAt i]) (v5.get 10 rfl), (nameOk i hi).2, (nameOk i hi).2, ?_⟩
     rw [eqvR _ (nameOk i hi).1]
     refine ⟨_, rfl, iteF ?_⟩
     exact ⟨_, rfl, v5.tail, tb4.mono (fun z hz => List.mem_cons_of_mem _ hz), fun z hz ne => List.mem_cons_of_mem _ (kp4 z hz ne)⟩
  clear h3 hx2 ex1 ex2
  rintro σ' H4 ⟨L4, rfl, h4, tb4, kp4⟩
  have m_a4 := kp4 _ m_a ne_a
  have m_b4 := kp4 _ m_b ne_b
  obtain ⟨j1, hj1⟩ := List.mem_iff_getElem?.mp m_a4
  refine ⟨_, ?_, fun _ _ h => h⟩
  refine ⟨_, rfl, A.p, A.dx, _, rfl, h4.get 1 rfl, (fl_m2 _ _ _).2.1, _, rfl, A, y, _, o1, n1, e1, j1, rfl, h4, hj1, t1, rfl, _, rfl, ?_⟩
  rw [mv]
  cases c1 : W.mf n1 e1 with
  | some z =>
   refine iteT ?_
   refine ref_oneM (t := t) 8 (by decide) t.c_SameEnd T.x_SameEnd (Z := yL t.c_Yard A y) (L := L4) (hcast h4 (by simp)) tb4 (fun H1 W Q1 E1 g' kW hE => ?_) (fun G5 L5 r5 v5 tb5 kp5 => ?_)
   ·have g : Has H1 (yL t.c_Yard A y ++ (([] : Kn) ++ W)) := hcast g' (by simp)
    have w_a : (o1, HO.tup [.int n1, .int e1]) ∈ W := kW _ m_a4 ne_a
    have w_b : (o2, HO.tup [.int n2, .int e2]) ∈ W := kW _ m_b4 ne_b
    obtain ⟨je, hje⟩ := List.mem_iff_getElem?.mp (List.mem_append_right ([] : Kn) w_a)
    exact ⟨_, rfl, A.p, A.dx, _, rfl, g.get 1 rfl, (fl_m2 _ _ _).2.2.1, _, rfl, _, rfl, A, y, _, o1, o1, n1, e1, n1, e1, je, je, rfl, g, hje, hje, .inr (.inr ⟨t1, t1, s1, s2, s1, s2, .inl ⟨rfl, rfl, fun a => hE H1 [] a g'⟩⟩)⟩
   have m_a5 : (o1, HO.tup [.int n1, .int e1]) ∈ L5 := kp5 _ m_a4 ne_a
   have m_b5 : (o2, HO.tup [.int n2, .int e2]) ∈ L5 := kp5 _ m_b4 ne_b
   refine ⟨sz (show 1 <= 1000000 by decide), fun l5 hl5 => ?_⟩
   have u5 := v5.alloc hl5 (.lst [.str "SameEnd"])
   refine ⟨strsD [nameAt 8], strsD [nameAt 8], strsD_dv (ns := [nameAt 8]) (u5.get 1 rfl), strsD_dv (ns := [nameAt 8]) (u5.get 0 rfl), (nameOk 8 (by decide)).2, (nameOk 8 (by decide)).2, ?_⟩
   rw [eqvR _ (nameOk 8 (by decide)).1]
   have h5 : Has _ (yL t.c_Yard A y ++ L5) := u5.tail.tail
   generalize upd G5 l5 _ = K5 at h5 ⊢
   clear u5 v5 hl5
   exact q _ L5 h5 (keep kp4 kp5)
  | none =>
   refine iteF ?_
   refine ref_oneM (t := t) 10 (by decide) t.c_NotLinked T.x_NotLinked (Z := yL t.c_Yard A y) (L := L4) (hcast h4 (by simp)) tb4 (fun H1 W Q1 E1 g' kW hE => ?_) (fun G5 L5 r5 v5 tb5 kp5 => ?_)
   ·have g : Has H1 (yL t.c_Yard A y ++ (([] : Kn) ++ W)) := hcast g' (by simp)
    have w_a : (o1, HO.tup [.int n1, .int e1]) ∈ W := kW _ m_a4 ne_a
    have w_b : (o2, HO.tup [.int n2, .int e2]) ∈ W := kW _ m_b4 ne_b
    obtain ⟨je, hje⟩ := List.mem_iff_getElem?.mp (List.mem_append_right ([] : Kn) w_a)
    exact ⟨_, rfl, A.p, A.dx, _, rfl, g.get 1 rfl, (fl_m2 _ _ _).2.2.2, _, rfl, A, y, _, o1, n1, e1, je, rfl, g, hje, .inr ⟨t1, (by rw [R.mt, c1]; rfl), s1, s2, fun a => hE H1 [] a g'⟩⟩
   have m_a5 : (o1, HO.tup [.int n1, .int e1]) ∈ L5 := kp5 _ m_a4 ne_a
   have m_b5 : (o2, HO.tup [.int n2, .int e2]) ∈ L5 := kp5 _ m_b4 ne_b
   refine ⟨sz (show 1 <= 1000000 by decide), fun l5 hl5 => ?_⟩
   have u5 := v5.alloc hl5 (.lst [.str "NotLinked"])
   refine ⟨strsD [nameAt 10], strsD [nameAt 10], strsD_dv (ns := [nameAt 10]) (u5.get 1 rfl), strsD_dv (ns := [nameAt 10]) (u5.get 0 rfl), (nameOk 10 (by decide)).2, (nameOk 10 (by decide)).2, ?_⟩
   rw [eqvR _ (nameOk 10 (by decide)).1]
   have h5 : Has _ (yL t.c_Yard A y ++ L5) := u5.tail.tail
   generalize upd G5 l5 _ = K5 at h5 ⊢
   clear u5 v5 hl5
   exact q _ L5 h5 (keep kp4 kp5)
end
end P
set_option Elab.async false
set_option linter.all false
set_option maxRecDepth 100000
set_option maxHeartbeats 4000000
namespace P
open PySem L2
theorem endsL_pos {ks : List Kd} (h : 0 < ks.length) : 0 < (endsL ks).length := by
 obtain ⟨k, ks', rfl⟩ : ∃ k ks', ks = k :: ks' := by cases ks with | nil => simp at h | cons a b => exact ⟨a, b, rfl⟩
 unfold endsL
 rw [List.zipIdx_cons, List.flatMap_cons, List.length_append, List.length_map, List.length_range]
 have : 1 <= k.many.toNat := by cases k <;> decide
 show 0 < k.many.toNat + _
 omega
def sp_lawTs (K : PySem.W.Frag) (Ts : List Addr) : Sp := fun vs H Q _ => ∃ (a : Addr) (ns : List Int), vs = [.ref a] /\ SqL K H a (ns.map V.int) /\ ns.length <= 63 /\ (∀ p ∈ Ts, H p = some (.tbl #[])) /\ ∀ H', Q (.bl true) H'
theorem law_binds {K : PySem.W.Frag} {mg : Str -> Option Value} {t : Adr} (T : Txt K mg t) (s : Shared) (u : Value) : BindsTo s t.d_law ⟨[u], []⟩ [("_law_script", u)] := by
 obtain ⟨oc, od, kV, doc, pm, an, cdv, ct, osl, e, lk, hcd⟩ := T.F_law.ex
 rw [e, T.e_law]
 exact .of_eq rfl
theorem pick4 {a x : Int} (ha : 0 <= a) (hx : 0 <= x) : ∃ b : Int, atI [V.int a, V.int (0 - 1), V.int (a + x), V.int (0 - 1 - x)] (x % 4) = some (.int b) /\ (b < 0 ∨ a <= b) /\ b.natAbs <= a.natAbs + x.natAbs + 1 := by
 have b0 := Int.emod_nonneg x (show (4 : Int) ≠ 0 by decide)
 have b1 := Int.emod_lt_of_pos x (show (0 : Int) < 4 by decide)
 generalize x % 4 = i at b0 b1
 rcases (show i = 0 ∨ i = 1 ∨ i = 2 ∨ i = 3 by omega) with rfl | rfl | rfl | rfl
 ·exact ⟨_, rfl, by omega, by omega⟩
 ·exact ⟨_, rfl, by omega, by omega⟩
 ·exact ⟨_, rfl, by omega, by omega⟩
 ·exact ⟨_, rfl, by omega, by omega⟩
theorem pick6 {x : Int} (hx : 0 <= x) : ∃ b : Int, atI [V.int 0, V.int 3, V.int (0 - 1), V.int 4, V.int (0 - x), V.int (3 + x)] (x % 6) = some (.int b) /\ b ≠ 1 /\ b ≠ 2 /\ b.natAbs <= x.natAbs + 4 := by
 have b0 := Int.emod_nonneg x (show (6 : Int) ≠ 0 by decide)
 have b1 := Int.emod_lt_of_pos x (show (0 : Int) < 6 by decide)
 generalize x % 6 = i at b0 b1
 rcases (show i = 0 ∨ i = 1 ∨ i = 2 ∨ i = 3 ∨ i = 4 ∨ i = 5 by omega) with rfl | rfl | rfl | rfl | rfl | rfl
 ·exact ⟨_, rfl, by omega, by omega, by omega⟩
 ·exact ⟨_, rfl, by omega, by omega, by omega⟩
 ·exact ⟨_, rfl, by omega, by omega, by omega⟩
 ·exact ⟨_, rfl, by omega, by omega, by omega⟩
 ·exact ⟨_, rfl, by omega, by omega, by omega⟩
 ·exact ⟨_, rfl, by omega, by omega, by omega⟩
theorem dgM {ds : List Int} (i : Int) (h0 : 0 <= i) (h1 : i < ds.length) : ds.getD i.toNat 0 ∈ ds := by
 have hl : i.toNat < ds.length := by omega
 have : ds.getD i.toNat 0 = ds[i.toNat] := by simp [List.getD, List.getElem?_eq_getElem hl]
 rw [this]
 exact List.getElem_mem hl
theorem hist_le (w : Wd) : ∀ (n : Nat) (s : Sd), (w.hist n s).length <= n
 | 0, s => Nat.le_refl _
 | n + 1, s => by
  cases h : w.nx s with
  | none => rw [hist_held w h]; exact Nat.zero_le _
  | some s' => rw [hist_succ w h, List.length_cons]; have := hist_le w n s'; omega
def ksOf (ks : List Kd) : List (Int × Kd) := ks.zipIdx.map fun p => ((p.2 : Int), p.1)
theorem kvOf_kmap (ks : List Kd) : kvOf ks = kmap (ksOf ks) := by unfold kvOf kmap ksOf; rw [List.map_map]; rfl
theorem ksOf_kf {ks : List Kd} {ns rs : List Int} {es : List En} {m : List (List Key × V)} : ∀ p ∈ ksOf ks, (wOf ks ns rs es m).kf p.1 = some p.2 := fun p hp => by
 obtain ⟨q, hq, rfl⟩ := List.mem_map.mp hp
 rw [wOf_kn]
 have := List.mem_zipIdx_iff_getElem?.mp hq
 exact this
section
variable {P : Program} {w : World} {K : PySem.W.Frag} {mg : Str -> Option Value} {base : Heap} {t : Adr}
theorem scLa : FnScope ["_law_script", "_law_d", "_law_yard", "_law_kinds_here", "_law_notes", "_law_rods", "_law_sides", "_law_ends_here", "_law_good", "_law_trail", "_law_before", "_law_bad", "_law_many_here", "_law_place", "_law_side", "_law_rod", "_law_note", "_law_kind_here"] ["_law_script"] (defScope s_law) := ⟨rfl, rfl, rfl, by decide +kernel, rfl, by decide +kernel, by decide +kernel⟩
theorem ok_law (T : Txt K mg t) (kb : K.In base) (hbm : BM base mg) : FnOk P w K mg base CX0 14 t.f_law t.d_law ["_law_script"] (sp_lawTs K [t.p_J3, t.p_J2, t.p_J8, t.p_Je, t.p_law]) := by
 have ok_J3 : ∀ (T : Txt K mg t), FnOk P w K mg base CX0 11 t.f_J3 t.d_J3 ["_law_yard", "_law_bad", "_law_good", "_law_place"] (sp_bpt t.c_Yard t.p_J3) := fun T => okM_J3 T kb hbm
 have ok_J2 : ∀ (T : Txt K mg t), FnOk P w K mg base CX0 11 t.f_J2 t.d_J2 ["_law_yard", "_law_end", "_law_good", "_law_bad"] (sp_bpl t.c_Yard t.p_J2) := fun T => okM_J2 T kb hbm
 have ok_J8 : ∀ (T : Txt K mg t), FnOk P w K mg base CX0 11 t.f_J8 t.d_J8 ["_law_yard", "_law_rod", "_law_side", "_law_count"] (sp_brt t.c_Yard t.p_J8) := fun T => okM_J8 T kb hbm
 have ok_Je : ∀ (T : Txt K mg t), FnOk P w K mg base CX0 11 t.f_Je t.d_Je ["_law_yard", "_law_one", "_law_other"] (sp_lkt t.c_Yard t.p_Je) := fun T => okM_Je T kb hbm
 obtain ⟨_, hd_Jx_2, hb_Jx_2⟩ := bD_Jx_2 T
 obtain ⟨_, hd_Jx_3, hb_Jx_3⟩ := bD_Jx_3 T
 obtain ⟨_, hd_Jx_4, hb_Jx_4⟩ := bD_Jx_4 T
 obtain ⟨_, hd_J9_1, hb_J9_1⟩ := bD_J9_1 T
 refine T.F_law.okC scLa (fun vs H Q E h => ?_) (fun cdv A outer s H vs Q E hcdv hr h => ?_)
 ·obtain ⟨_, _, rfl, _⟩ := h
  rfl
 ·obtain ⟨a, ns0, rfl, hS, hns, hT, q⟩ := h
  obtain ⟨cc, ecd, hch⟩ := T.tb_law
  have ecdv : cdv = .ref cc := hcdv.symm.trans ecd
  subst ecdv
  have hCH : PySem.W.CodeHd base cc t.p_law := PySem.W.codeHd_of_K kb hch
  have sm : ∀ b : Int, b.natAbs <= 10 ^ 18 + 20000 -> L2.Small b := fun b hb => small_of (Nat.lt_of_le_of_lt hb (by decide))
  obtain ⟨Tb0, eTb⟩ : ∃ Tb0 : Kn, [(t.p_J3, HO.tbl #[]), (t.p_J2, HO.tbl #[]), (t.p_J8, HO.tbl #[]), (t.p_Je, HO.tbl #[]), (t.p_law, HO.tbl #[])] = Tb0 := ⟨_, rfl⟩
  have h0 : Has H Tb0 := by
   rw [<- eTb]
   refine ⟨?_, ?_⟩
   ·simp [T.dj_J3_J2, T.dj_J3_J8, T.dj_J3_Je, T.dj_J3_law, T.dj_J2_J8, T.dj_J2_Je, T.dj_J2_law, T.dj_J8_Je, T.dj_J8_law, T.dj_Je_law]
   ·intro z hz
    simp only [List.mem_cons, List.not_mem_nil, or_false] at hz
    rcases hz with rfl | rfl | rfl | rfl | rfl <;> exact hT _ (by simp)
  have mt1 : (t.p_J3, HO.tbl #[]) ∈ Tb0 := by rw [<- eTb]; simp
  have mt2 : (t.p_J2, HO.tbl #[]) ∈ Tb0 := by rw [<- eTb]; simp
  have mt3 : (t.p_J8, HO.tbl #[]) ∈ Tb0 := by rw [<- eTb]; simp
  have mt4 : (t.p_Je, HO.tbl #[]) ∈ Tb0 := by rw [<- eTb]; simp
  have mt5 : (t.p_law, HO.tbl #[]) ∈ Tb0 := by rw [<- eTb]; simp
  clear eTb hT
  have two : 2 <= sizeLine := by decide
  refine ⟨_, (pss_cons (ps_set (i := 1) scLa.nd rfl (Or.inl rfl) (pe_call (ok_draws T) (hr.mono (by decide)) (by rfl) T.m_draws T.F_draws.kp (b_draws T) .nil pass0 (pa_cons (pv 0) (pa_cons pe_int pa_nil))))
   (pss_cons (ps_asg (pe_call (ok_built T) (hr.mono (by decide)) (by rfl) T.m_built T.F_built.kp (b_built T) .nil pass0 (pa_cons (pv 1) (pa_cons pe_int (pa_cons (pe_call (ok_size T) (hr.mono (by decide)) (by rfl) T.m_size T.F_size.kp (b_size T) .nil pass0 (pa_cons (pe_ix ix_list (pv 1) pe_int (fun _ _ => rfl)) pa_nil)) pa_nil)))) (pg_tup rfl (pgs_cons (pg_name (i := 2) scLa.nd rfl (Or.inr rfl)) (pgs_cons (pg_name (i := 3) scLa.nd rfl (Or.inl rfl)) (pgs_cons (pg_name (i := 4) scLa.nd rfl (Or.inl rfl)) (pgs_cons (pg_name (i := 5) scLa.nd rfl (Or.inl rfl)) (pgs_cons (pg_name (i := 6) scLa.nd rfl (Or.inl rfl)) pgs_nil)))))))
   (pss_cons (ps_expr (pe_call (ok_J21 T) (hr.mono (by decide)) (by rfl) T.m_J21 T.F_J21.kp (b_J21 T) .nil pass0 (pa_cons (pv 2) (pa_cons (pv 3) (pa_cons (pv 1) (pa_cons pe_int (pa_cons (pe_op op_mod (pe_ix ix_list (pv 1) pe_int (fun _ _ => rfl)) pe_int) pa_nil)))))))
   (pss_cons (ps_set (i := 7) scLa.nd rfl (Or.inl rfl) (pe_call (ok_ends T) (hr.mono (by decide)) (by rfl) T.m_ends T.F_ends.kp (b_ends T) .nil pass0 (pa_cons (pv 3) pa_nil)))
   (pss_cons (ps_set (i := 8) scLa.nd rfl (Or.inl rfl) (pe_ix ix_list (pv 7) (pe_op op_mod (pe_ix ix_list (pv 1) pe_int (fun _ _ => rfl)) (pe_callB call_len_seq (by rfl) T.z_len (by rfl) (pa_cons (pv 7) pa_nil))) (fun _ _ => rfl)))
   (pss_cons (ps_expr (pe_meth (pv 2) T.cl_Yard T.M_Jw (ok_Jw T) (hr.mono (by decide)) (b_Jw T) .nil pass0 (pa_cons (pe_ix ix_list (pv 7) (pe_op op_mod (pe_ix ix_list (pv 1) pe_int (fun _ _ => rfl)) (pe_callB call_len_seq (by rfl) T.z_len (by rfl) (pa_cons (pv 7) pa_nil))) (fun _ _ => rfl)) pa_nil)))
   (pss_cons (ps_set (i := 9) scLa.nd rfl (Or.inl rfl) (pe_call (ok_run T) (hr.mono (by decide)) (by rfl) T.m_run T.F_run.kp (b_run T) .nil pass0 (pa_cons (pv 2) (pa_cons (pe_op op_mod (pe_ix ix_list (pv 1) pe_int (fun _ _ => rfl)) pe_int) pa_nil))))
   (pss_cons (ps_set (i := 10) scLa.nd rfl (Or.inl rfl) (pe_call (ok_look T) (hr.mono (by decide)) (by rfl) T.m_look T.F_look.kp (b_look T) .nil pass0 (pa_cons (pv 2) pa_nil)))
   (pss_cons (ps_set (i := 11) scLa.nd rfl (Or.inl rfl) (pe_ix ix_list (pe_lst (pa_cons (pe_callB call_len_seq (by rfl) T.z_len (by rfl) (pa_cons (pv 3) pa_nil)) (pa_cons (pe_op op_sub pe_int pe_int) (pa_cons (pe_op op_add (pe_callB call_len_seq (by rfl) T.z_len (by rfl) (pa_cons (pv 3) pa_nil)) (pe_ix ix_list (pv 1) pe_int (fun _ _ => rfl))) (pa_cons (pe_op op_sub (pe_op op_sub pe_int pe_int) (pe_ix ix_list (pv 1) pe_int (fun _ _ => rfl))) pa_nil))))) (pe_op op_mod (pe_ix ix_list (pv 1) pe_int (fun _ _ => rfl)) pe_int) (fun _ _ => rfl)))
   (pss_cons (ps_set (i := 12) scLa.nd rfl (Or.inl rfl) (pe_call (ok_many T) (hr.mono (by decide)) (by rfl) T.m_many T.F_many.kp (b_many T) .nil pass0 (pa_cons (pe_ix ix_list (pv 3) (pe_ix ix_tup (pv 8) pe_int (fun _ _ => rfl)) (fun _ _ => rfl)) pa_nil)))
   (pss_cons (ps_set (i := 13) scLa.nd rfl (Or.inl rfl) (pe_ix ix_list (pe_lst (pa_cons (pv 12) (pa_cons (pe_op op_sub pe_int pe_int) (pa_cons (pe_op op_add (pv 12) (pe_ix ix_list (pv 1) pe_int (fun _ _ => rfl))) (pa_cons (pe_op op_sub (pe_op op_sub pe_int pe_int) (pe_ix ix_list (pv 1) pe_int (fun _ _ => rfl))) pa_nil))))) (pe_op op_mod (pe_ix ix_list (pv 1) pe_int (fun _ _ => rfl)) pe_int) (fun _ _ => rfl)))
   (pss_cons (ps_set (i := 14) scLa.nd rfl (Or.inl rfl) (pe_ix ix_list (pe_lst (pa_cons pe_int (pa_cons pe_int (pa_cons (pe_op op_sub pe_int pe_int) (pa_cons pe_int (pa_cons (pe_op op_sub pe_int (pe_ix ix_list (pv 1) pe_int (fun _ _ => rfl))) (pa_cons (pe_op op_add pe_int (pe_ix ix_list (pv 1) pe_int (fun _ _ => rfl))) pa_nil))))))) (pe_op op_mod (pe_ix ix_list (pv 1) pe_int (fun _ _ => rfl)) pe_int) (fun _ _ => rfl)))
   (pss_cons (ps_set (i := 15) scLa.nd rfl (Or.inr rfl) (pe_ix ix_list (pe_lst (pa_cons (pe_callB call_len_seq (by rfl) T.z_len (by rfl) (pa_cons (pv 6) pa_nil)) (pa_cons (pe_op op_sub pe_int pe_int) (pa_cons (pe_op op_add (pe_callB call_len_seq (by rfl) T.z_len (by rfl) (pa_cons (pv 6) pa_nil)) (pe_ix ix_list (pv 1) pe_int (fun _ _ => rfl))) (pa_cons (pe_op op_sub (pe_op op_sub pe_int pe_int) (pe_ix ix_list (pv 1) pe_int (fun _ _ => rfl))) pa_nil))))) (pe_op op_mod (pe_ix ix_list (pv 1) pe_int (fun _ _ => rfl)) pe_int) (fun _ _ => rfl)))
   (pss_cons (ps_set (i := 16) scLa.nd rfl (Or.inr rfl) (pe_ix ix_list (pe_lst (pa_cons pe_int (pa_cons (pe_op op_sub pe_int pe_int) (pa_cons (pe_op op_add pe_int (pe_ix ix_list (pv 1) pe_int (fun _ _ => rfl))) (pa_cons (pe_op op_sub (pe_op op_sub pe_int pe_int) (pe_ix ix_list (pv 1) pe_int (fun _ _ => rfl))) pa_nil))))) (pe_op op_mod (pe_ix ix_list (pv 1) pe_int (fun _ _ => rfl)) pe_int) (fun _ _ => rfl)))
   (pss_cons (ps_set (i := 17) scLa.nd rfl (Or.inr rfl) (pe_call (ok_Jv T) (hr.mono (by decide)) (by rfl) T.m_Jv T.F_Jv.kp (b_Jv T) .nil pass0 (pa_cons (pe_ix ix_list (pv 3) pe_int (fun _ _ => rfl)) (pa_cons (pe_ix ix_list (pv 1) pe_int (fun _ _ => rfl)) (pa_cons (pe_ix ix_list (pv 1) pe_int (fun _ _ => rfl)) pa_nil)))))
   (pss_cons (ps_if (PW.pt (pw_or (pt_not (pt_val (pe_call (ok_J3 T) (hr.mono (by decide)) (by rfl) T.m_J3 T.F_J3.kp (b_J3 T) .nil pass0 (pa_cons (pv 2) (pa_cons (pv 11) (pa_cons (pv 8) (pa_cons (pv 13) pa_nil))))))) (pw_or1 (pt_not (pt_val (pe_call (ok_J8 T) (hr.mono (by decide)) (by rfl) T.m_J8 T.F_J8.kp (b_J8 T) .nil pass0 (pa_cons (pv 2) (pa_cons (pv 15) (pa_cons (pv 14) (pa_cons (pe_callB call_len_seq (by rfl) T.z_len (by rfl) (pa_cons (pv 6) pa_nil)) pa_nil))))))))))
    (pss_one (ps_ret pe_bl))
    pss_nil)
   (pss_cons (ps_if (pt_not (pt_val (pe_call (ok_J2 T) (hr.mono (by decide)) (by rfl) T.m_J2 T.F_J2.kp (b_J2 T) .nil pass0 (@pa_cons _ _ _ _ _ (pv 2) (@pa_cons _ _ _ _ _ (pe_tup (pa_cons (pe_ix ix_tup (pv 8) pe_int (fun _ _ => rfl)) (pa_cons (pv 13) pa_nil))) (@pa_cons _ _ _ _ _ (pv 8) (@pa_cons _ _ _ _ _ (pv 11) pa_nil (by rfl)) (by rfl)) (by rfl)) (by rfl)))))
    (pss_one (ps_ret pe_bl))
    pss_nil)
   (pss_cons (ps_if (pt_not (pt_val (pe_call (ok_Je T) (hr.mono (by decide)) (by rfl) T.m_Je T.F_Je.kp (b_Je T) .nil pass0 (pa_cons (pv 2) (pa_cons (pv 8) (pa_cons (pe_ix ix_list (pv 7) (pe_op op_mod (pe_ix ix_list (pv 1) pe_int (fun _ _ => rfl)) (pe_callB call_len_seq (by rfl) T.z_len (by rfl) (pa_cons (pv 7) pa_nil))) (fun _ _ => rfl)) pa_nil))))))
    (pss_one (ps_ret pe_bl))
    pss_nil)
   (pss_cons (ps_if (pt_cmpR (op_neD hr.units) (pe_refuse (kd := 7) (N' := ["_law_note", "_law_yard"]) [16, 2] (ok_J11 T) (hr.mono (by decide)) (by rfl) T.m_J11 T.F_J11.kp rfl hCH hbm (fun _ => rfl) rfl rfl rfl rfl rfl (by decide +kernel) (esc := defScope s_law) rfl (by decide +kernel) (by decide +kernel) (by rfl) (fun _ _ _ _ _ => rfl) (fun _ _ _ _ _ _ _ _ hr1 => by exact (pe_meth (pv 1) T.cl_Yard T.M_Jx (okR_Jx T) (hr1.mono (by decide)) hb_Jx_3 hd_Jx_3 passL (pa_cons pe_str (pa_cons (pv 0) pa_nil))))) (pe_lst (pa_cons pe_str pa_nil)) (nomark _))
    (pss_one (ps_ret pe_bl))
    pss_nil)
   (pss_cons (ps_if (pt_cmpR (op_neD hr.units) (pe_refuse (kd := 7) (N' := ["_law_kind_here", "_law_note", "_law_rod", "_law_yard"]) [17, 16, 15, 2] (ok_J11 T) (hr.mono (by decide)) (by rfl) T.m_J11 T.F_J11.kp rfl hCH hbm (fun _ => rfl) rfl rfl rfl rfl rfl (by decide +kernel) (esc := defScope s_law) rfl (by decide +kernel) (by decide +kernel) (by rfl) (fun _ _ _ _ _ => rfl) (fun _ _ _ _ _ _ _ _ hr1 => by exact (pe_meth (pv 3) T.cl_Yard T.M_Jx (okR_Jx T) (hr1.mono (by decide)) hb_Jx_4 hd_Jx_4 passL (pa_cons (pv 0) (pa_cons (pv 1) (pa_cons (pv 2) pa_nil)))))) (pe_lst (pa_cons pe_str pa_nil)) (nomark _))
    (pss_one (ps_ret pe_bl))
    pss_nil)
   (pss_cons (ps_if (PW.pt (pw_or (pt_cmpR (op_neD hr.units) (pe_call (ok_look T) (hr.mono (by decide)) (by rfl) T.m_look T.F_look.kp (b_look T) .nil pass0 (pa_cons (pv 2) pa_nil)) (pv 10) (nomark _)) (pw_or1 (pt_not (pt_val (pe_call (ok_is T) (hr.mono (by decide)) (by rfl) T.m_is T.F_is.kp (b_is T) .nil pass0 (pa_cons (pe_meth0 (pv 2) T.cl_Yard T.M_Jg (ok_Jg T) (hr.mono (by decide)) (b_Jg T) .nil pass0) (pa_cons (pv 9) pa_nil))))))))
    (pss_one (ps_ret pe_bl))
    pss_nil)
   (pss_one (ps_ret (pe_and (pe_call (ok_is T) (hr.mono (by decide)) (by rfl) T.m_is T.F_is.kp (b_is T) .nil pass0 (pa_cons (pe_meth (pv 2) T.cl_Yard T.M_Jx (ok_Jx T) (hr.mono (by decide)) hb_Jx_2 hd_Jx_2 pass0 (pa_cons pe_str pa_nil)) (pa_cons (pe_callB call_len_seq (by rfl) T.z_len (by rfl) (pa_cons (pv 3) pa_nil)) pa_nil))) (pe_one (pe_call (ok_is T) (hr.mono (by decide)) (by rfl) T.m_is T.F_is.kp (b_is T) .nil pass0 (pa_cons (pe_meth0 (pv 2) T.cl_Yard T.M_J9 (ok_J9 T) (hr.mono (by decide)) hb_J9_1 hd_J9_1 pass0) (pa_cons (pe_callB call_len_seq (by rfl) T.z_len (by rfl) (pa_cons (pv 6) pa_nil)) pa_nil)))))))))))))))))))))))))))), ?_⟩
  rw [show L2.start ["_law_script", "_law_d", "_law_yard", "_law_kinds_here", "_law_notes", "_law_rods", "_law_sides", "_law_ends_here", "_law_good", "_law_trail", "_law_before", "_law_bad", "_law_many_here", "_law_place", "_law_side", "_law_rod", "_law_note", "_law_kind_here"] [V.ref a] = ([some (V.ref a), none, none, none, none, none, none, none, none, none, none, none, none, none, none, none, none, none] : St) from rfl]
  refine ⟨_, rfl, a, ns0, 190, _, rfl, hS, hns, by decide, by decide, h0, fun H1 d ds h1 hds hdr => ?_⟩
  clear hS hns h0
  have hds : ds.length = 190 := hds
  dsimp only [List.set]
  have dr : ∀ i : Int, 0 <= i -> i < 190 -> 0 <= ds.getD i.toNat 0 /\ ds.getD i.toNat 0 < 10 ^ 18 := fun i h0 h1 => hdr _ (dgM i h0 (by omega))
  refine ⟨_, rfl, _, rfl, d, _, _, _, rfl, rfl, SqL.of (h1.get 0 rfl), atD (by omega) (by omega), _, rfl, fun n n1 n24 => ?_⟩
  refine ⟨d, ds, 14, n, _, 0, rfl, h1, rfl, by omega, by omega, by omega, by omega, fun H2 A1 y ks ns rs ss tp sd rr nn kk B lk h2 => ?_⟩
  refine ⟨tp, _, rfl, SqT.of (h2.get 0 rfl), rfl, _, _, rfl, _, _, rfl, _, _, rfl, _, _, rfl, _, _, rfl, rfl, ?_⟩
  replace h2 := h2.tail
  clear h1
  dsimp only [List.set]
  have l0 := Int.emod_nonneg (ds.getD (1 : Int).toNat 0) (show (20 : Int) ≠ 0 by decide)
  have l1 := Int.emod_lt_of_pos (ds.getD (1 : Int).toNat 0) (show (0 : Int) < 20 by decide)
  refine ⟨_, rfl, _, rfl, _, rfl, _, rfl, d, _, _, _, rfl, rfl, SqL.of (h2.get 13 rfl), atD (by omega) (by omega), _, _, rfl, rfl, (show (0 : Int) < 20 by decide), ?_⟩
  refine ⟨A1, y, _, kk, d, ks, ns, rs, ss, ds, 90, _, 3, 4, rfl, h2, B, rfl, rfl, by omega, by omega, l0, by omega, by omega, fun H4 q4 mh m es1 M hes ml h4 => ?_⟩
  clear h2
  have ml' : m.length <= 40 := by omega
  obtain ⟨jk, hjk⟩ : ∃ jk : Nat, (yL t.c_Yard { A1 with tr := q4 } { y with mates := m, trail := [] } ++ ((mh, HO.dT m) :: (esK es1 ++ ([(sd, HO.lst (ss.map V.int)), (rr, .lst (rs.map V.int)), (nn, .lst (ns.map V.int)), (kk, .lst (ksV ks))] ++ ((d, .lst (ds.map V.int)) :: Tb0)))))[jk]? = some (kk, HO.lst (ksV ks)) := List.mem_iff_getElem?.mp (by simp)
  refine ⟨_, rfl, kk, ks, _, jk, rfl, h4, hjk, by omega, fun H5 el es2 hes2 h5 => ?_⟩
  dsimp only [List.set]
  have h6 := Has.comm (X := (el, HO.lst (esV es2)) :: esK es2) (Y := yL t.c_Yard { A1 with tr := q4 } { y with mates := m, trail := [] }) h5
  clear h5 h4 hjk
  have emem : ∀ x ∈ es2 ++ es1, x.2 ∈ endsL ks := fun x hx => by
   rcases List.mem_append.mp hx with h | h
   ·rw [<- hes2]; exact List.mem_map.mpr ⟨x, h, rfl⟩
   ·rw [<- hes]; exact List.mem_map.mpr ⟨x, h, rfl⟩
  have M' : MIn (es2 ++ es1) m := M.mono (fun x hx => List.mem_append_right _ hx)
  obtain ⟨L, eL⟩ : ∃ L : Kn, ((el, HO.lst (esV es2)) :: esK es2) ++ ((mh, HO.dT m) :: (esK es1 ++ ([(sd, HO.lst (ss.map V.int)), (rr, .lst (rs.map V.int)), (nn, .lst (ns.map V.int)), (kk, .lst (ksV ks))] ++ ((d, .lst (ds.map V.int)) :: Tb0)))) = L := ⟨_, rfl⟩
  have mel : (el, HO.lst (esV es2)) ∈ L := by rw [<- eL]; simp
  have mkk : (kk, HO.lst (ksV ks)) ∈ L := by rw [<- eL]; simp
  have msd : (sd, HO.lst (ss.map V.int)) ∈ L := by rw [<- eL]; simp
  have md : (d, HO.lst (ds.map V.int)) ∈ L := by rw [<- eL]; simp
  have mT : ∀ z ∈ Tb0, z ∈ L := fun z hz => by rw [<- eL]; simp [hz]
  have mes : ∀ z ∈ es2 ++ es1, (z.1, HO.tup [.int z.2.1, .int z.2.2]) ∈ L := fun z hz => by
   rw [<- eL]
   have : (z.1, HO.tup [.int z.2.1, .int z.2.2]) ∈ esK es2 ∨ (z.1, HO.tup [.int z.2.1, .int z.2.2]) ∈ esK es1 := by
    rcases List.mem_append.mp hz with h | h
    ·exact .inl (List.mem_map.mpr ⟨z, h, rfl⟩)
    ·exact .inr (List.mem_map.mpr ⟨z, h, rfl⟩)
   rcases this with h | h <;> simp [h]
  rw [eL] at h6
  clear eL
  have e2 : 0 < es2.length := by have := congrArg List.length hes2; rw [List.length_map] at this; have := endsL_pos (ks := ks) (by omega); omega
  have e2' : es2.length <= 72 := by have := congrArg List.length hes2; rw [List.length_map] at this; have := endsL_le ks; omega
  have e2m : ∀ x ∈ es2, x ∈ es2 ++ es1 := fun x hx => List.mem_append_left _ hx
  generalize es2 ++ es1 = es at *
  have evl : (esV es2).length = es2.length := by unfold esV; rw [List.length_map]
  have pick : ∀ x : Int, ∃ e ∈ es2, atI (esV es2) (x % ((esV es2).length : Int)) = some (.ref e.1) := fun x => by
   obtain ⟨i, il, ie, _⟩ := seqIx (n := es2.length) (x := x) e2
   exact ⟨es2[i], List.getElem_mem il, by rw [evl, ie]; exact atI_nat (esV_get (List.getElem?_eq_getElem il))⟩
  have ep : (0 : Int) < ((esV es2).length : Int) := by omega
  obtain ⟨W, eW⟩ : ∃ W, wOf ks ns rs es m = W := ⟨_, rfl⟩
  have okE : ∀ z ∈ es, W.ok z := fun z hz => by rw [<- eW]; exact wOf_ok (emem z hz)
  have kfE : ∀ p ∈ ksOf ks, W.kf p.1 = some p.2 := by rw [<- eW]; exact ksOf_kf
  have R6 : Rep W ⟨ss, none, []⟩ { y with mates := m, trail := [] } := by rw [<- eW]; exact Rep.of B M' emem rfl B.s12 (fun _ h => nomatch h) rfl rfl rfl rfl B.sd B.en B.rg
  have mfE : ∀ n e z, W.mf n e = some z -> z ∈ es := fun n e z h => by rw [<- eW] at h; exact mfOf_mem h
  have toJ : ∀ {x : Addr × HO} {L : Kn}, x ∈ L -> ∃ j : Nat, L[j]? = some x := fun h => List.mem_iff_getElem?.mp h
  have gd : ∀ {H : Hp} {X : Kn}, Has H (X ++ L) -> SqL K H d (ds.map V.int) := fun h => SqL.of (h.at_ _ (List.mem_append_right _ md))
  have ge : ∀ {H : Hp} {X : Kn}, Has H (X ++ L) -> SqL K H el (esV es2) := fun h => SqL.of (h.at_ _ (List.mem_append_right _ mel))
  obtain ⟨zg, zg2, pkg⟩ := pick (ds.getD (2 : Int).toNat 0)
  refine ⟨_, rfl, _, rfl, d, _, _, _, rfl, rfl, gd h6, atD (by omega) (by omega), _, rfl, el, _, rfl, .inl (ge h6), _, _, rfl, rfl, ep, el, _, _, _, rfl, rfl, ge h6, pkg, ?_⟩
  dsimp only [List.set]
  obtain ⟨zp, zp2, pkp⟩ := pick (ds.getD (3 : Int).toNat 0)
  obtain ⟨jz, hjz⟩ := toJ (mes zp (e2m zp zp2))
  have thE : ∀ {y1 : YR} {s1 : Sd}, Rep W s1 y1 -> ∀ z ∈ es, There y1 z.2.1 z.2.2 := fun {y1 s1} R z hz => by
   obtain ⟨k, hk, e0, e1⟩ := okE z hz
   exact ⟨k, R.kd _ _ hk, e0, e1⟩
  refine ⟨_, rfl, A1.p, _, _, rfl, h6.get 1 rfl, (fl_m4 _ _ _).1, _, rfl, _, rfl, d, _, _, _, rfl, rfl, gd h6, atD (by omega) (by omega), _, rfl, el, _, rfl, .inl (ge h6), _, _, rfl, rfl, ep, el, _, _, _, rfl, rfl, ge h6, pkp, { A1 with tr := q4 }, { y with mates := m, trail := [] }, L, zp.1, zp.2.1, zp.2.2, jz, rfl, h6, hjz, thE R6 zp (e2m zp zp2), fun H7 q7 h7 => ?_⟩
  have R7 := R6.eng (some zp) (fun v hv => by cases hv; exact okE zp (e2m zp zp2)) []
  obtain ⟨A2, hA2⟩ : ∃ A2 : YA, ({ A1 with tr := q7 } : YA) = A2 := ⟨_, rfl⟩
  have epp : A1.p = A2.p := by rw [<- hA2]
  replace h7 : Has H7 (yL t.c_Yard A2 { y with mates := m, eng := enV (some zp), trail := [] } ++ L) := by rw [<- hA2]; exact h7
  rw [epp]
  clear hA2 epp h6 R6
  obtain ⟨y2, ey2⟩ : ∃ y2 : YR, ({ y with mates := m, eng := enV (some zp), trail := [] } : YR) = y2 := ⟨_, rfl⟩
  replace R7 : Rep W ⟨ss, some zp, []⟩ y2 := by rw [<- ey2]; exact R7
  have t2 : y2.trail = trV [] := by rw [<- ey2]; rfl
  have k2 : y2.kinds = kmap (ksOf ks) := by rw [<- ey2, <- kvOf_kmap]; exact B.kd
  have n2 : y2.next = ks.length := by rw [<- ey2]; exact B.nx
  have l2 : y2.notes.length <= 24 /\ y2.rods.length <= 24 /\ y2.mates.length <= 40 := by rw [<- ey2]; exact ⟨by have := B.nlen; show y.notes.length <= 24; omega, by have := B.rlen; show y.rods.length <= 24; omega, ml'⟩
  have kn : ∀ b : Int, (b < 0 ∨ (ks.length : Int) <= b) -> valV y2.kinds (Sum.inl b) = none := fun b hb => by
   rw [<- ey2]
   show valV y.kinds (Sum.inl b) = none
   rw [B.kd]
   cases c : valV (kvOf ks) (Sum.inl b) with
   | none => rfl
   | some v =>
    exfalso
    have : (Sum.inl b : Key) ∈ (kvOf ks).map (·.1) := by
     by_cases h : (Sum.inl b : Key) ∈ (kvOf ks).map (·.1)
     ·exact h
     ·exfalso
      have hn : ∀ (kvs : List (Key × V)), (Sum.inl b : Key) ∉ kvs.map (·.1) -> valV kvs (Sum.inl b) = none := fun kvs => by
       induction kvs with
       | nil => intro _; rfl
       | cons p r ih =>
        intro hm
        rw [List.map_cons, List.mem_cons] at hm
        rw [valV_neg (fun e => hm (.inl e.symm))]
        exact ih (fun e => hm (.inr e))
      rw [hn _ h] at c
      cases c
    obtain ⟨kv, hkv, e⟩ := List.mem_map.mp this
    unfold kvOf at hkv
    obtain ⟨p, hp, rfl⟩ := List.mem_map.mp hkv
    have e : (p.2 : Int) = b := Sum.inl.inj e
    have := (List.getElem?_eq_some_iff.mp (List.mem_zipIdx_iff_getElem?.mp hp)).1
    omega
  rw [ey2] at h7
  clear ey2
  have PL : Pool W ⟨ss, some zp, []⟩ L := ⟨fun n e z h => toJ (mes z (mfE n e z h)), fun z hz => by cases hz; exact toJ (mes zp (e2m zp zp2))⟩
  obtain ⟨mo, emo⟩ : ∃ mo : Nat, ds.getD (4 : Int).toNat 0 % 9 = mo := by
   have := Int.emod_nonneg (ds.getD (4 : Int).toNat 0) (show (9 : Int) ≠ 0 by decide)
   exact ⟨(ds.getD (4 : Int).toNat 0 % 9).toNat, by omega⟩
  have mo9 : mo < 9 := by have := Int.emod_lt_of_pos (ds.getD (4 : Int).toNat 0) (show (0 : Int) < 9 by decide); omega
  have g2 : y2.rung = [] := R7.rg
  refine ⟨_, rfl, _, rfl, d, _, _, _, rfl, rfl, gd h7, atD (by omega) (by omega), _, _, rfl, rfl, (show (0 : Int) < 9 by decide), ?_⟩
  dsimp only
  rw [emo]
  refine ⟨A2, y2, L, W, ⟨ss, some zp, []⟩, [], mo, rfl, h7, R7, PL, t2, (show (0 : Int) + mo <= 900000 by omega), (by rw [g2]; show (0 : Int) + mo <= 900000; omega), Nat.zero_le _, (by rw [g2]; exact Nat.zero_le _), fun H8 y3 ts h8 R8 t8 m8 f1 f2 f3 f4 f5 P8 => ?_⟩
  rw [Int.toNat_natCast] at R8 m8 P8
  rw [List.nil_append] at h8 t8
  dsimp only [List.set]
  clear h7 R7 PL t2
  have tl : ts.length <= mo := by rw [<- List.length_map (f := fun x : Addr × Sd => x.2), m8]; exact hist_le W mo _
  clear m8
  obtain ⟨s8, es8⟩ : ∃ s8, W.go mo ⟨ss, some zp, []⟩ = s8 := ⟨_, rfl⟩
  have sl8 : s8.ss.length = ss.length := by rw [<- es8]; exact go_len W mo ⟨ss, some zp, []⟩
  have rg8 : s8.rg.length <= 9 := by
   have rgl : ∀ (n : Nat) (s : Sd), (W.go n s).rg.length <= s.rg.length + n := by
    intro n
    induction n with
    | zero => intro s; exact Nat.le_refl _
    | succ n ih =>
     intro s
     cases hnx : W.nx s with
     | none => rw [go_held W hnx]; omega
     | some s' =>
      rw [go_succ W hnx]
      obtain ⟨z, k, o, z', _, _, _, _, rfl⟩ := nx_some hnx
      have := stepS_rg_le (w := W) (s := s) (z := z) (k := k) (z' := z')
      have := ih (stepS W s z k z')
      omega
   have := rgl mo ⟨ss, some zp, []⟩
   rw [es8] at this
   have : s8.rg.length <= 0 + mo := this
   omega
  rw [es8] at R8 P8
  clear es8
  have tl8 : y3.trail.length = ts.length := by rw [t8]; unfold trV; rw [List.length_map]
  have kl24 : ks.length <= 24 := by omega
  have ss24 := B.sl
  have smY : Small y3 := ⟨by rw [f2, k2]; unfold kmap ksOf; rw [List.length_map, List.length_map, List.length_zipIdx]; omega, by rw [f3]; omega, by rw [f4]; omega, by rw [R8.sd, List.length_map, sl8]; omega, by rw [f5]; omega, by rw [R8.rg, List.length_map]; omega, by omega⟩
  have k3 : y3.kinds = kmap (ksOf ks) := by rw [f2]; exact k2
  have kn3 : ∀ b : Int, (b < 0 ∨ (ks.length : Int) <= b) -> valV y3.kinds (Sum.inl b) = none := fun b hb => by rw [f2]; exact kn b hb
  have sl3 : y3.sides.length = ss.length := by rw [R8.sd, List.length_map]; exact sl8
  have h8' : Has H8 ((yL t.c_Yard A2 y3 ++ trK W ts) ++ L) := by rw [List.append_assoc]; exact h8
  refine ⟨_, rfl, A2, y3, _, W, s8, ksOf ks, rfl, h8, R8, P8.app _, smY, k3, kfE, fun H9 bf N9 S9 h9 => ?_⟩
  dsimp only [List.set]
  clear h8 h8'
  obtain ⟨L9, eL9⟩ : ∃ L9 : Kn, N9 ++ (trK W ts ++ L) = L9 := ⟨_, rfl⟩
  have up : ∀ z ∈ L, z ∈ L9 := fun z hz => by rw [<- eL9]; exact List.mem_append_right _ (List.mem_append_right _ hz)
  rw [eL9] at h9 S9
  clear eL9
  replace mel := up _ mel
  replace mkk := up _ mkk
  replace msd := up _ msd
  replace md := up _ md
  replace mT := fun z hz => up z (mT z hz)
  replace mes := fun z hz => up _ (mes z hz)
  clear gd ge
  have gd : ∀ {H : Hp} {X : Kn}, Has H (X ++ L9) -> SqL K H d (ds.map V.int) := fun h => SqL.of (h.at_ _ (List.mem_append_right _ md))
  have gk : ∀ {H : Hp} {X : Kn}, Has H (X ++ L9) -> SqL K H kk (ksV ks) := fun h => SqL.of (h.at_ _ (List.mem_append_right _ mkk))
  have gs : ∀ {H : Hp} {X : Kn}, Has H (X ++ L9) -> SqL K H sd (ss.map V.int) := fun h => SqL.of (h.at_ _ (List.mem_append_right _ msd))
  have ge : ∀ {H : Hp} {X : Kn}, Has H (X ++ L9) -> SqL K H el (esV es2) := fun h => SqL.of (h.at_ _ (List.mem_append_right _ mel))
  have gg : ∀ {H : Hp} {X : Kn}, Has H (X ++ L9) -> H zg.1 = some (.tup [.int zg.2.1, .int zg.2.2]) := fun h => h.at_ (zg.1, HO.tup [.int zg.2.1, .int zg.2.2]) (List.mem_append_right _ (mes zg (e2m zg zg2)))
  have klv : (ksV ks).length = ks.length := by unfold ksV; rw [List.length_map]
  have slv : (ss.map V.int).length = ss.length := List.length_map ..
  have four : 4 <= sizeLine := by decide
  obtain ⟨x5, ex5⟩ : ∃ x5, ds.getD (5 : Int).toNat 0 = x5 := ⟨_, rfl⟩
  have d5 := dr 5 (by decide) (by decide)
  have a5 : atI (ds.map V.int) 5 = some (.int x5) := by rw [<- ex5]; exact atD (by decide) (by omega)
  rw [ex5] at d5
  obtain ⟨bad, pb, hbad, nb⟩ := pick4 (a := ks.length) (x := x5) (by omega) d5.1
  refine ⟨_, rfl, kk, _, rfl, .inl (gk h9), _, _, rfl, rfl, _, rfl, kk, _, rfl, .inl (gk h9), _, rfl, d, _, _, _, rfl, rfl, gd h9, a5, _, _, rfl, rfl, _, _, rfl, rfl, _, rfl, d, _, _, _, rfl, rfl, gd h9, a5, _, _, rfl, rfl, four, fun p5 hp5 => ?_⟩
  dsimp only
  rw [klv]
  have h10 := h9.alloc hp5 (.lst [.int ks.length, .int (0 - 1), .int ((ks.length : Int) + x5), .int (0 - 1 - x5)])
  refine ⟨_, rfl, d, _, _, _, rfl, rfl, gd (X := _ :: yL t.c_Yard A2 y3) h10, a5, _, _, rfl, rfl, (show (0 : Int) < 4 by decide), p5, _, _, _, rfl, rfl, SqL.of (h10.get 0 rfl), pb, ?_⟩
  dsimp only [List.set]
  replace h10 := h10.tail
  generalize upd H9 p5 _ = H10 at h10 ⊢
  clear h9 hp5
  obtain ⟨kg, hkg, eg0, eg1⟩ := okE zg (e2m zg zg2)
  obtain ⟨ig, eig, hkg2⟩ : ∃ i : Nat, zg.2.1 = i /\ ks[i]? = some kg := by rw [<- eW] at hkg; exact wOf_k hkg
  have kgm : 1 <= kg.many /\ kg.many <= 3 := by cases kg <;> decide
  refine ⟨_, rfl, _, rfl, zg.1, _, _, _, rfl, rfl, SqT.of (gg h10), rfl, kk, _, _, _, rfl, rfl, gk h10, (by rw [eig]; exact atI_nat (show (ksV ks)[ig]? = some (.str kg.str) by unfold ksV; rw [List.getElem?_map, hkg2]; rfl)), kg, rfl, ?_⟩
  dsimp only [List.set]
  obtain ⟨x6, ex6⟩ : ∃ x6, ds.getD (6 : Int).toNat 0 = x6 := ⟨_, rfl⟩
  have d6 := dr 6 (by decide) (by decide)
  have a6 : atI (ds.map V.int) 6 = some (.int x6) := by rw [<- ex6]; exact atD (by decide) (by omega)
  rw [ex6] at d6
  obtain ⟨place, pp, hplace, np⟩ := pick4 (a := kg.many) (x := x6) (by omega) d6.1
  refine ⟨_, rfl, _, _, rfl, rfl, _, rfl, _, rfl, d, _, _, _, rfl, rfl, gd h10, a6, _, _, rfl, rfl, _, _, rfl, rfl, _, rfl, d, _, _, _, rfl, rfl, gd h10, a6, _, _, rfl, rfl, four, fun p6 hp6 => ?_⟩
  dsimp only
  have h11 := h10.alloc hp6 (.lst [.int kg.many, .int (0 - 1), .int (kg.many + x6), .int (0 - 1 - x6)])
  refine ⟨_, rfl, d, _, _, _, rfl, rfl, gd (X := _ :: yL t.c_Yard A2 y3) h11, a6, _, _, rfl, rfl, (show (0 : Int) < 4 by decide), p6, _, _, _, rfl, rfl, SqL.of (h11.get 0 rfl), pp, ?_⟩
  dsimp only [List.set]
  replace h11 := h11.tail
  generalize upd H10 p6 _ = H11 at h11 ⊢
  clear h10 hp6
  obtain ⟨x7, ex7⟩ : ∃ x7, ds.getD (7 : Int).toNat 0 = x7 := ⟨_, rfl⟩
  have d7 := dr 7 (by decide) (by decide)
  have a7 : atI (ds.map V.int) 7 = some (.int x7) := by rw [<- ex7]; exact atD (by decide) (by omega)
  rw [ex7] at d7
  obtain ⟨sid, ps, sd1, sd2, nsd⟩ := pick6 (x := x7) d7.1
  refine ⟨_, _, rfl, rfl, _, rfl, d, _, _, _, rfl, rfl, gd h11, a7, _, _, rfl, rfl, _, rfl, d, _, _, _, rfl, rfl, gd h11, a7, _, _, rfl, rfl, (show 6 <= sizeLine by decide), fun p7 hp7 => ?_⟩
  dsimp only
  have h12 := h11.alloc hp7 (.lst [.int 0, .int 3, .int (0 - 1), .int 4, .int (0 - x7), .int (3 + x7)])
  refine ⟨_, rfl, d, _, _, _, rfl, rfl, gd (X := _ :: yL t.c_Yard A2 y3) h12, a7, _, _, rfl, rfl, (show (0 : Int) < 6 by decide), p7, _, _, _, rfl, rfl, SqL.of (h12.get 0 rfl), ps, ?_⟩
  dsimp only [List.set]
  replace h12 := h12.tail
  generalize upd H11 p7 _ = H12 at h12 ⊢
  clear h11 hp7
  obtain ⟨x8, ex8⟩ : ∃ x8, ds.getD (8 : Int).toNat 0 = x8 := ⟨_, rfl⟩
  have d8 := dr 8 (by decide) (by decide)
  have a8 : atI (ds.map V.int) 8 = some (.int x8) := by rw [<- ex8]; exact atD (by decide) (by omega)
  rw [ex8] at d8
  obtain ⟨rod, pr, hrod, nrd⟩ := pick4 (a := ss.length) (x := x8) (by omega) d8.1
  refine ⟨_, rfl, sd, _, rfl, .inl (gs h12), _, _, rfl, rfl, _, rfl, sd, _, rfl, .inl (gs h12), _, rfl, d, _, _, _, rfl, rfl, gd h12, a8, _, _, rfl, rfl, _, _, rfl, rfl, _, rfl, d, _, _, _, rfl, rfl, gd h12, a8, _, _, rfl, rfl, four, fun p8 hp8 => ?_⟩
  dsimp only
  rw [slv]
  have h13 := h12.alloc hp8 (.lst [.int ss.length, .int (0 - 1), .int ((ss.length : Int) + x8), .int (0 - 1 - x8)])
  refine ⟨_, rfl, d, _, _, _, rfl, rfl, gd (X := _ :: yL t.c_Yard A2 y3) h13, a8, _, _, rfl, rfl, (show (0 : Int) < 4 by decide), p8, _, _, _, rfl, rfl, SqL.of (h13.get 0 rfl), pr, ?_⟩
  dsimp only [List.set]
  replace h13 := h13.tail
  generalize upd H12 p8 _ = H13 at h13 ⊢
  clear h12 hp8
  obtain ⟨x9, ex9⟩ : ∃ x9, ds.getD (9 : Int).toNat 0 = x9 := ⟨_, rfl⟩
  have d9 := dr 9 (by decide) (by decide)
  have a9 : atI (ds.map V.int) 9 = some (.int x9) := by rw [<- ex9]; exact atD (by decide) (by omega)
  rw [ex9] at d9
  obtain ⟨nt, pn, hnt, nnt⟩ := pick4 (a := 10000) (x := x9) (by omega) d9.1
  refine ⟨_, _, rfl, rfl, _, rfl, d, _, _, _, rfl, rfl, gd h13, a9, _, _, rfl, rfl, _, _, rfl, rfl, _, rfl, d, _, _, _, rfl, rfl, gd h13, a9, _, _, rfl, rfl, four, fun p9 hp9 => ?_⟩
  dsimp only
  have h14 := h13.alloc hp9 (.lst [.int 10000, .int (0 - 1), .int (10000 + x9), .int (0 - 1 - x9)])
  refine ⟨_, rfl, d, _, _, _, rfl, rfl, gd (X := _ :: yL t.c_Yard A2 y3) h14, a9, _, _, rfl, rfl, (show (0 : Int) < 4 by decide), p9, _, _, _, rfl, rfl, SqL.of (h14.get 0 rfl), pn, ?_⟩
  dsimp only [List.set]
  replace h14 := h14.tail
  generalize upd H13 p9 _ = H14 at h14 ⊢
  clear h13 hp9
  have d11 := dr 11 (by decide) (by decide)
  obtain ⟨k0, hk0⟩ : ∃ k0, ks[0]? = some k0 := ⟨_, List.getElem?_eq_getElem (by omega)⟩
  refine ⟨_, rfl, kk, _, _, _, rfl, rfl, gk h14, atI_nat (j := 0) (show (ksV ks)[0]? = some (.str k0.str) by unfold ksV; rw [List.getElem?_map, hk0]; rfl), _, rfl, d, _, _, _, rfl, rfl, gd h14, atD (by omega) (by omega), _, rfl, d, _, _, _, rfl, rfl, gd h14, atD (by omega) (by omega), k0, _, _, _, rfl, d11.1, d11.2, h14, fun H15 bk hbk abk h15 => ?_⟩
  dsimp only [List.set]
  clear h14
  have thG := thE R8 zg (e2m zg zg2)
  have sml : ∀ x : Int, (0 <= x /\ x < 10 ^ 18) -> x.natAbs <= 10 ^ 18 := fun x hx => by omega
  have s5 := sml _ d5
  have s6 := sml _ d6
  have s7 := sml _ d7
  have s8' := sml _ d8
  have s9 := sml _ d9
  refine ⟨_, rfl, _, rfl, _, rfl, _, rfl, A2, y3, L9, bad, place, zg.2.1, zg.2.2, zg.1, rfl, h15, Tb.new (mT _ mt1), kn3 bad hbad, sm bad (by omega), mes zg (e2m zg zg2), thG, fun H16 L10 h16 kp16 => ?_⟩
  refine ⟨_, rfl, iteF ?_⟩
  have tb1 : Tb L9 t.p_J3 q_J3 := Tb.new (mT _ mt1)
  have k16 : ∀ z ∈ L9, NT z -> z ∈ L10 := fun z hz nt => kp16 z hz (Tb.ne tb1 h15 hz nt)
  have j2 := kp16 _ (mT _ mt2) (Ne.symm T.dj_J3_J2)
  have j3 := kp16 _ (mT _ mt3) (Ne.symm T.dj_J3_J8)
  have j4 := kp16 _ (mT _ mt4) (Ne.symm T.dj_J3_Je)
  have j5 := kp16 _ (mT _ mt5) (Ne.symm T.dj_J3_law)
  clear h15 kp16 tb1
  have gs16 : SqL K H16 sd (ss.map V.int) := SqL.of (h16.at_ _ (List.mem_append_right _ (k16 _ msd (fun _ e => nomatch e))))
  refine ⟨_, rfl, _, rfl, _, rfl, _, rfl, sd, _, rfl, .inl gs16, ?_⟩
  rw [slv]
  refine ⟨A2, y3, L10, rod, sid, by rw [sl3]; rfl, h16, Tb.new j3, by rw [sl3]; exact hrod, sm rod (by omega), sd1, sd2, sm sid (by omega), fun H17 L11 h17 kp17 => ?_⟩
  refine ⟨_, rfl, iteF ?_⟩
  have tb3 : Tb L10 t.p_J8 q_J8 := Tb.new j3
  have k17 : ∀ z ∈ L9, NT z -> z ∈ L11 := fun z hz nt => kp17 z (k16 z hz nt) (Tb.ne tb3 h16 (k16 z hz nt) nt)
  replace j2 := kp17 _ j2 T.dj_J2_J8
  replace j4 := kp17 _ j4 (Ne.symm T.dj_J8_Je)
  replace j5 := kp17 _ j5 (Ne.symm T.dj_J8_law)
  clear h16 kp17 tb3 j3 k16 gs16
  have gg17 : H17 zg.1 = some (.tup [.int zg.2.1, .int zg.2.2]) := h17.at_ (zg.1, HO.tup [.int zg.2.1, .int zg.2.2]) (List.mem_append_right _ (k17 _ (mes zg (e2m zg zg2)) (fun _ e => nomatch e)))
  refine ⟨_, rfl, _, rfl, zg.1, _, _, _, rfl, rfl, SqT.of gg17, rfl, _, rfl, two, fun ed hed => ?_⟩
  have h18 := Has.comm (X := [_]) (Y := yL t.c_Yard A2 y3) (R := L11) (h17.alloc hed (.tup [.int zg.2.1, .int place]))
  generalize upd H17 ed _ = H18 at h18 ⊢
  refine ⟨_, rfl, _, rfl, A2, y3, _, bad, zg.2.1, place, zg.2.1, zg.2.2, zg.1, ed, kg, rfl, h18, Tb.new (List.mem_cons_of_mem _ j2), List.mem_cons_self, List.mem_cons_of_mem _ (k17 _ (mes zg (e2m zg zg2)) (fun _ e => nomatch e)), thG, R8.kd _ _ hkg, hplace, sm place (by omega), fun H19 L12 h19 kp19 => ?_⟩
  refine ⟨_, rfl, iteF ?_⟩
  have tb2 : Tb ((ed, HO.tup [.int zg.2.1, .int place]) :: L11) t.p_J2 q_J2 := Tb.new (List.mem_cons_of_mem _ j2)
  have k19 : ∀ z ∈ L9, NT z -> z ∈ L12 := fun z hz nt => kp19 z (List.mem_cons_of_mem _ (k17 z hz nt)) (Tb.ne tb2 h18 (List.mem_cons_of_mem _ (k17 z hz nt)) nt)
  replace j4 := kp19 _ (List.mem_cons_of_mem _ j4) (Ne.symm T.dj_J2_Je)
  replace j5 := kp19 _ (List.mem_cons_of_mem _ j5) (Ne.symm T.dj_J2_law)
  clear h17 h18 kp19 tb2 j2 k17 gg17 hed
  obtain ⟨zo, zo2, pko⟩ := pick (ds.getD (12 : Int).toNat 0)
  have gd19 : SqL K H19 d (ds.map V.int) := SqL.of (h19.at_ _ (List.mem_append_right _ (k19 _ md (fun _ e => nomatch e))))
  have ge19 : SqL K H19 el (esV es2) := SqL.of (h19.at_ _ (List.mem_append_right _ (k19 _ mel (fun _ e => nomatch e))))
  have smE : ∀ z ∈ es, L2.Small z.2.1 /\ L2.Small z.2.2 := fun z hz => by
   obtain ⟨k, hk, e0, e1⟩ := okE z hz
   rw [<- eW] at hk
   obtain ⟨i, ei, hi⟩ := wOf_k hk
   have := (List.getElem?_eq_some_iff.mp hi).1
   have km : k.many <= 3 := by cases k <;> decide
   exact ⟨sm _ (by omega), sm _ (by omega)⟩
  refine ⟨_, rfl, _, rfl, _, rfl, _, rfl, d, _, _, _, rfl, rfl, gd19, atD (by omega) (by omega), _, rfl, el, _, rfl, .inl ge19, _, _, rfl, rfl, ep, el, _, _, _, rfl, rfl, ge19, pko, A2, y3, L12, W, s8, zg.2.1, zg.2.2, zo.2.1, zo.2.2, zg.1, zo.1, rfl, h19, Tb.new j4, R8, k19 _ (mes zg (e2m zg zg2)) (fun _ e => nomatch e), k19 _ (mes zo (e2m zo zo2)) (fun _ e => nomatch e), thG, thE R8 zo (e2m zo zo2), (smE zg (e2m zg zg2)).1, (smE zg (e2m zg zg2)).2, (smE zo (e2m zo zo2)).1, (smE zo (e2m zo zo2)).2, fun H20 L13 h20 kp20 => ?_⟩
  refine ⟨_, rfl, iteF ?_⟩
  have tb4 : Tb L12 t.p_Je q_Je := Tb.new j4
  have k20 : ∀ z ∈ L9, NT z -> z ∈ L13 := fun z hz nt => kp20 z (k19 z hz nt) (Tb.ne tb4 h19 (k19 z hz nt) nt)
  replace j5 := kp20 _ j5 (Ne.symm T.dj_Je_law)
  clear h19 kp20 tb4 j4 k19 gd19 ge19
  have tb5 : Tb L13 t.p_law ("law.<locals>.<lambda>" : Str) := Tb.new j5
  refine ref_oneM (t := t) 3 (by decide) t.c_NoNote T.x_NoNote (Z := yL t.c_Yard A2 y3) (L := L13) h20 tb5 (fun H1 W1 Q1 E1 g kW hE => ?_) (fun G1 L14 r1 v1 tb6 kp21 => ?_)
  ·exact ⟨_, rfl, A2.p, A2.dx, _, rfl, g.get 1 rfl, (fl_m _ _ _).1, _, rfl, A2, y3, _, Kd.bell.str, nt, .non, rfl, g, .inr (.inl ⟨rfl, by omega, sm nt (by omega), fun a => hE H1 [] a g⟩)⟩
  have u1 := v1
  refine ⟨sz (show 1 <= 1000000 by decide), fun l1 hl1 => ?_⟩
  have w1 := u1.alloc hl1 (.lst [.str "NoNote"])
  refine ⟨strsD [nameAt 3], strsD [nameAt 3], strsD_dv (ns := [nameAt 3]) (w1.get 1 rfl), strsD_dv (ns := [nameAt 3]) (w1.get 0 rfl), (nameOk 3 (by decide)).2, (nameOk 3 (by decide)).2, ?_⟩
  rw [eqvR _ (nameOk 3 (by decide)).1]
  have h21 : Has _ (yL t.c_Yard A2 y3 ++ L14) := w1.tail.tail
  generalize upd G1 l1 _ = H21 at h21 ⊢
  refine ⟨_, rfl, iteF ?_⟩
  have k21 : ∀ z ∈ L9, NT z -> z ∈ L14 := fun z hz nt => kp21 z (k20 z hz nt) (Tb.ne tb5 h20 (k20 z hz nt) nt)
  clear u1 v1 w1 hl1 h20 kp21 k20
  refine ref_oneM (t := t) 0 (by decide) t.c_NoKind T.x_NoKind (Z := yL t.c_Yard A2 y3) (L := L14) h21 tb6 (fun H1 W1 Q1 E1 g kW hE => ?_) (fun G2 L15 r2 v2 tb7 kp22 => ?_)
  ·exact ⟨_, rfl, A2.p, A2.dx, _, rfl, g.get 1 rfl, (fl_m _ _ _).1, _, rfl, _, rfl, _, rfl, A2, y3, _, bk, nt, .int rod, rfl, g, .inl ⟨hbk, Nat.le_trans abk.repr (by decide), fun a => hE H1 [] a g⟩⟩
  refine ⟨sz (show 1 <= 1000000 by decide), fun l2 hl2 => ?_⟩
  have w2 := v2.alloc hl2 (.lst [.str "NoKind"])
  refine ⟨strsD [nameAt 0], strsD [nameAt 0], strsD_dv (ns := [nameAt 0]) (w2.get 1 rfl), strsD_dv (ns := [nameAt 0]) (w2.get 0 rfl), (nameOk 0 (by decide)).2, (nameOk 0 (by decide)).2, ?_⟩
  rw [eqvR _ (nameOk 0 (by decide)).1]
  have h22 : Has _ (yL t.c_Yard A2 y3 ++ L15) := w2.tail.tail
  generalize upd G2 l2 _ = H22 at h22 ⊢
  refine ⟨_, rfl, iteF ?_⟩
  have k22 : ∀ z ∈ L9, NT z -> z ∈ L15 := fun z hz nt => kp22 z (k21 z hz nt) (Tb.ne tb6 h21 (k21 z hz nt) nt)
  clear v2 w2 hl2 h21 kp22 k21 tb6 tb7
  have P22 : Pool W s8 L15 := ⟨fun n e z h => toJ (k22 _ (mes z (mfE n e z h)) (fun _ e => nomatch e)), fun z hz => by
   obtain ⟨j, hj⟩ := P8.e z hz
   exact toJ (k22 _ (up _ (List.mem_of_getElem? hj)) (fun _ e => nomatch e))⟩
  refine ⟨_, rfl, A2, y3, _, W, s8, ksOf ks, rfl, h22, R8, P22, smY, k3, kfE, fun H23 l23 N23 S23 h23 => ?_⟩
  refine ⟨_, rfl, lookD W s8 (ksOf ks), lookD W s8 (ksOf ks), S23 H23 (fun z hz _ => h23.at_ z (List.mem_append_right _ hz)), S9 H23 (fun z hz nt => h23.at_ z (List.mem_append_right _ (List.mem_append_right _ (k22 z hz nt)))), look_sh _ _ _, look_sh _ _ _, ?_⟩
  rw [eqvR _ (look_lay _ _ _).1]
  refine ⟨_, rfl, iteF ?_⟩
  refine ⟨_, rfl, A2.p, A2.dx, _, rfl, h23.get 1 rfl, (fl_m4 _ _ _).2.2.2.2.2.2.2.2, A2, y3, _, rfl, h23, _, rfl, _, _, rfl, ?_⟩
  rw [tl8, decide_eq_true rfl]
  refine ⟨_, rfl, iteF ?_⟩
  have gk23 : ∀ {X : Kn} {H : Hp}, Has H (X ++ (N23 ++ L15)) -> SqL K H kk (ksV ks) := fun h => SqL.of (h.at_ _ (List.mem_append_right _ (List.mem_append_right _ (k22 _ mkk (fun _ e => nomatch e)))))
  have gs23 : ∀ {X : Kn} {H : Hp}, Has H (X ++ (N23 ++ L15)) -> SqL K H sd (ss.map V.int) := fun h => SqL.of (h.at_ _ (List.mem_append_right _ (List.mem_append_right _ (k22 _ msd (fun _ e => nomatch e)))))
  refine ⟨_, rfl, A2.p, A2.dx, _, rfl, h23.get 1 rfl, (fl_m _ _ _).1, A2, y3, _, .line, 0, .non, rfl, h23, smY, (fun h => nomatch h), (fun h => nomatch h), fun H24 q24 h24 => ?_⟩
  refine ⟨_, rfl, kk, _, rfl, .inl (gk23 h24), _, _, rfl, ?_⟩
  rw [klv, decide_eq_true (show y3.next = (ks.length : Int) by rw [f1]; exact n2)]
  have e8 : (layY y3 .line 0 .non).sides = y3.sides := by
   show (if Kd.line.point = true /\ V.non = V.non then y3.sides ++ [.int 1] else y3.sides) = _
   exact if_neg (fun c => Bool.false_ne_true c.1)
  refine ⟨_, rfl, iteT ?_⟩
  refine ⟨_, rfl, A2.p, A2.dx, _, rfl, h24.get 1 rfl, (fl_m _ _ _).2.1, { A2 with tr := q24 }, layY y3 .line 0 .non, _, 1, rfl, h24, .inl rfl, (by rw [e8, sl3]; omega), fun H25 q25 h25 => ?_⟩
  refine ⟨_, rfl, sd, _, rfl, .inl (gs23 h25), _, _, rfl, ?_⟩
  rw [slv, e8, decide_eq_true (show (y3.sides.length : Int) = (ss.length : Int) by rw [sl3])]
  exact q _
end
theorem finFs {P : Program} {w : World} {K : PySem.W.Frag} {mg : Str -> Option Value} {fa : Addr} {Ts0 : List Addr} (hmg : mg "law" = some (.ref fa)) (h : ∃ t, Txt K mg t /\ t.p_J3 ∈ Ts0 /\ t.p_J2 ∈ Ts0 /\ t.p_J8 ∈ Ts0 /\ t.p_Je ∈ Ts0 /\ t.p_law ∈ Ts0) :
  ∃ (fd : FuncData) (Ts : List Addr), (∀ p ∈ Ts, p ∈ Ts0 /\ K.lookup p = none /\ ∃ c, PySem.W.codeHdIn K c p = true) /\ (∀ (s : Shared) (u : Value), BindsTo s fd ⟨[u], []⟩ [("_law_script", u)]) /\
   (∀ base : Heap, K.In base -> base.Ns mainGlobals mg -> BM base mg -> FnOk P w K mg base CX0 14 fa fd ["_law_script"] (sp_lawTs K Ts)) /\
   ∀ (H : Hp) (a : Addr) (ns : List Int), ns.length <= 63 -> (∀ p ∈ Ts, H p = some (.tbl #[])) -> SqL K H a (ns.map V.int) -> sp_lawTs K Ts [.ref a] H (fun v _ => v = .bl true) fun _ _ _ => False := by
 obtain ⟨t, T, m1, m2, m3, m4, m5⟩ := h
 have e0 := hmg.symm.trans T.m_law
 cases e0
 obtain ⟨c1, _, hc1⟩ := T.tb_J3
 obtain ⟨c2, _, hc2⟩ := T.tb_J2
 obtain ⟨c3, _, hc3⟩ := T.tb_J8
 obtain ⟨c4, _, hc4⟩ := T.tb_Je
 obtain ⟨c5, _, hc5⟩ := T.tb_law
 refine ⟨_, [t.p_J3, t.p_J2, t.p_J8, t.p_Je, t.p_law], fun p hp => ?_, fun s u => law_binds T s u, fun base kb nb hbm => ok_law T kb hbm, fun H a ns hl hT hS => ⟨a, ns, rfl, hS, hl, hT, fun _ => rfl⟩⟩
 simp only [List.mem_cons, List.not_mem_nil, or_false] at hp
 rcases hp with rfl | rfl | rfl | rfl | rfl
 ·exact ⟨m1, T.tn_J3, c1, hc1⟩
 ·exact ⟨m2, T.tn_J2, c2, hc2⟩
 ·exact ⟨m3, T.tn_J8, c3, hc3⟩
 ·exact ⟨m4, T.tn_Je, c4, hc4⟩
 ·exact ⟨m5, T.tn_law, c5, hc5⟩
end P
set_option Elab.async false
set_option linter.all false
set_option maxRecDepth 100000
set_option maxHeartbeats 4000000
namespace P
open PySem L2
theorem txt_mk {K : PySem.W.Frag} {h : Heap} {mg : Str -> Option Value} (KX : K.In h) (G : h.Ns mainGlobals mg)
  {z0 : Addr} {z1 z2 : Option Addr} {z3 : Array (Option Value)} {z4 z5 z6 z7 z8 z9 za : Value}
  {zb : Addr} {zc zd : Option Addr} {ze : Array (Option Value)} {zf zg zh zi zj zk zl : Value}
  {zm : Addr} {zn zo : Option Addr} {zp : Array (Option Value)} {zq zr zs zt zu zv zw : Value}
  {zx : Addr} {zy zz : Option Addr} {z10 : Array (Option Value)} {z11 z12 z13 z14 z15 z16 z17 : Value}
  {z18 : Addr} {z19 z1a : Option Addr} {z1b : Array (Option Value)} {z1c z1d z1e z1f z1g z1h z1i : Value}
  {z1j : Addr} {z1k z1l : Option Addr} {z1m : Array (Option Value)} {z1n z1o z1p z1q z1r z1s z1t : Value}
  {z1u : Addr} {z1v z1w : Option Addr} {z1x : Array (Option Value)} {z1y z1z z20 z21 z22 z23 z24 : Value}
  {z25 : Addr} {z26 z27 : Option Addr} {z28 : Array (Option Value)} {z29 z2a z2b z2c z2d z2e z2f : Value}
  {z2g : Addr} {z2h z2i : Option Addr} {z2j : Array (Option Value)} {z2k z2l z2m z2n z2o z2p z2q : Value}
  {z2r : Addr} {z2s z2t : Option Addr} {z2u : Array (Option Value)} {z2v z2w z2x z2y z2z z30 z31 : Value}
  {z32 : Addr} {z33 z34 : Option Addr} {z35 : Array (Option Value)} {z36 z37 z38 z39 z3a z3b z3c : Value}
  {z3d : Addr} {z3e z3f : Option Addr} {z3g : Array (Option Value)} {z3h z3i z3j z3k z3l z3m z3n : Value}
  {z3o : Addr} {z3p z3q : Option Addr} {z3r : Array (Option Value)} {z3s z3t z3u z3v z3w z3x z3y : Value}
  {z3z : Addr} {z40 z41 : Option Addr} {z42 : Array (Option Value)} {z43 z44 z45 z46 z47 z48 z49 : Value}
  {z4a : Addr} {z4b z4c : Option Addr} {z4d : Array (Option Value)} {z4e z4f z4g z4h z4i z4j z4k : Value}
  {z4l : Addr} {z4m z4n : Option Addr} {z4o : Array (Option Value)} {z4p z4q z4r z4s z4t z4u z4v : Value}
  {z4w : Addr} {z4x z4y : Option Addr} {z4z : Array (Option Value)} {z50 z51 z52 z53 z54 z55 z56 : Value}
  {z57 : Addr} {z58 z59 : Option Addr} {z5a : Array (Option Value)} {z5b z5c z5d z5e z5f z5g z5h : Value}
  {z5i : Addr} {z5j z5k : Option Addr} {z5l : Array (Option Value)} {z5m z5n z5o z5p z5q z5r z5s : Value}
  {z5t : Addr} {z5u z5v : Option Addr} {z5w : Array (Option Value)} {z5x z5y z5z z60 z61 z62 z63 : Value}
  {z64 : Addr} {z65 z66 : Option Addr} {z67 : Array (Option Value)} {z68 z69 z6a z6b z6c z6d z6e : Value}
  {z6f : Addr} {z6g z6h : Option Addr} {z6i : Array (Option Value)} {z6j z6k z6l z6m z6n z6o z6p : Value}
  {z6q : Addr} {z6r z6s : Option Addr} {z6t : Array (Option Value)} {z6u z6v z6w z6x z6y z6z z70 : Value}
  {z71 : Addr} {z72 z73 : Option Addr} {z74 : Array (Option Value)} {z75 z76 z77 z78 z79 z7a z7b : Value}
  {z7c : Addr} {z7d z7e : Option Addr} {z7f : Array (Option Value)} {z7g z7h z7i z7j z7k z7l z7m : Value}
  {z7n : Addr} {z7o z7p : Option Addr} {z7q : Array (Option Value)} {z7r z7s z7t z7u z7v z7w z7x : Value}
  {z7y : Addr} {z7z z80 : Option Addr} {z81 : Array (Option Value)} {z82 z83 z84 z85 z86 z87 z88 : Value}
  {z89 : Addr} {z8a z8b : Option Addr} {z8c : Array (Option Value)} {z8d z8e z8f z8g z8h z8i z8j : Value}
  {z8k : Addr} {z8l z8m : Option Addr} {z8n : Array (Option Value)} {z8o z8p z8q z8r z8s z8t z8u : Value}
  {z8v : Addr} {z8w z8x : Option Addr} {z8y : Array (Option Value)} {z8z z90 z91 z92 z93 z94 z95 : Value}
  {z96 : Addr} {z97 z98 : Option Addr} {z99 : Array (Option Value)} {z9a z9b z9c z9d z9e z9f z9g : Value}
  {z9h : Addr} {z9i z9j : Option Addr} {z9k : Array (Option Value)} {z9l z9m z9n z9o z9p z9q z9r : Value}
  {z9s : Addr} {z9t z9u : Option Addr} {z9v : Array (Option Value)} {z9w z9x z9y z9z za0 za1 za2 : Value}
  {za3 : Addr} {za4 za5 : Option Addr} {za6 : Array (Option Value)} {za7 za8 za9 zaa zab zac zad : Value}
  {zae : Addr} {zaf zag : Option Addr} {zah : Array (Option Value)} {zai zaj zak zal zam zan zao : Value}
  {zap : Addr} {zaq zar : Option Addr} {zas : Array (Option Value)} {zat zau zav zaw zax zay zaz : Value}
  {zb0 : Addr} {zb1 zb2 : Option Addr} {zb3 : Array (Option Value)} {zb4 zb5 zb6 zb7 zb8 zb9 zba : Value}
  {zbb : Addr} {zbc zbd : Option Addr} {zbe : Array (Option Value)} {zbf zbg zbh zbi zbj zbk zbl : Value}
  {zbm : Addr} {zbn zbo : Option Addr} {zbp : Array (Option Value)} {zbq zbr zbs zbt zbu zbv zbw : Value}
  {zbx : Addr} {zby zbz : Option Addr} {zc0 : Array (Option Value)} {zc1 zc2 zc3 zc4 zc5 zc6 zc7 : Value}
  {zc8 : Addr} {zc9 zca : Option Addr} {zcb : Array (Option Value)} {zcc zcd zce zcf zcg zch zci : Value}
  {zcj : Addr} {zck zcl : Option Addr} {zcm : Array (Option Value)} {zcn zco zcp zcq zcr zcs zct : Value}
  {zcu : Addr} {zcv zcw : Option Addr} {zcx : Array (Option Value)} {zcy zcz zd0 zd1 zd2 zd3 zd4 : Value}
  {zd5 : Addr} {zd6 zd7 : Option Addr} {zd8 : Array (Option Value)} {zd9 zda zdb zdc zdd zde zdf : Value}
  {zdg : Addr} {zdh zdi : Option Addr} {zdj : Array (Option Value)} {zdk zdl zdm zdn zdo zdp zdq : Value}
  {zdr : Addr} {zds zdt : Option Addr} {zdu : Array (Option Value)} {zdv zdw zdx zdy zdz ze0 ze1 : Value}
  {ze2 : Addr} {ze3 ze4 : Option Addr} {ze5 : Array (Option Value)} {ze6 ze7 ze8 ze9 zea zeb zec : Value}
  {zed : Addr} {zee zef : Option Addr} {zeg : Array (Option Value)} {zeh zei zej zek zel zem zen : Value}
  {zeo : Addr} {zep zeq : Option Addr} {zer : Array (Option Value)} {zes zet zeu zev zew zex zey : Value}
  {zez : Addr} {zf0 zf1 : Option Addr} {zf2 : Array (Option Value)} {zf3 zf4 zf5 zf6 zf7 zf8 zf9 : Value}
  {zfa : Addr} {zfb zfc : Option Addr} {zfd : Array (Option Value)} {zfe zff zfg zfh zfi zfj zfk : Value}
  {zfl : Addr} {zfm zfn : Option Addr} {zfo : Array (Option Value)} {zfp zfq zfr zfs zft zfu zfv : Value}
  {zfw : Addr}
  {zfx : Addr}
  {zfy : Addr}
  {zfz : Addr}
  {zg0 : Addr}
  {zg1 : Addr}
  {zg2 : Addr}
  {zg3 : Addr}
  {zg4 : Addr}
  {zg5 : Addr}
  {zg6 : Addr}
  {zg7 : Addr}
  {zg8 : Addr}
  {zg9 : Addr}
  {zga : Addr}
  {zgb : Addr}
  {zgc : Addr}
  {zgd : Addr}
  {zge : Addr}
  {zgf : Addr}
  {zgg : Addr}
  {zgh : Addr}
  {zgi : Addr}
  {zgj : Addr}
  {zgk zgl : Addr} {zgm : Value} {zgn : Option Addr} {zgo : Array Value} {zgp : Array (Option Value)}
  {zgq zgr : Addr} {zgs : Value} {zgt : Option Addr} {zgu : Array Value} {zgv : Array (Option Value)}
  {zgw zgx : Addr} {zgy : Value} {zgz : Option Addr} {zh0 : Array Value} {zh1 : Array (Option Value)}
  {zh2 zh3 : Addr} {zh4 : Value} {zh5 : Option Addr} {zh6 : Array Value} {zh7 : Array (Option Value)}
  {zh8 zh9 : Addr} {zha : Value} {zhb : Option Addr} {zhc : Array Value} {zhd : Array (Option Value)}
  {zhe : Value}
  {zhf : Value}
  {zhg : Value}
  {zhh : Value}
  {zhi : Addr} {zhj : Option Addr} {zhk : Nat} {zhl : Array (Option Value)} {zhm : Tok}
  {zhn : Addr} {zho : Option Addr} {zhp : Nat} {zhq : Array (Option Value)} {zhr : Tok}
  {zhs : Addr} {zht : Option Addr} {zhu : Array Value} {zhv : Nat} {zhw : Array (Option Value)}
  (zhx : PySem.W.nsIn K mainGlobals "Yard" = some (some (.ref zfw)))
  (zhy : PySem.W.nsIn K mainGlobals "law" = some (some (.ref z0)))
  (zhz : K.lookup z0 = some ⟨z4, z1, .func (PySem.W.fnOf "law" "law" (defArgs s_law) (defBody s_law) (defScope s_law) z5 z6 z7 z8 z2 z9 za), z3⟩)
  (zi0 : PySem.W.codeIn K z9 "law" = true)
  (zi1 : PySem.W.keepIn K (.ref z0) = true)
  (zi2 : z5 = .none)
  (zi3 : PySem.W.nsIn K mainGlobals "_law_draws" = some (some (.ref zb)))
  (zi4 : K.lookup zb = some ⟨zf, zc, .func (PySem.W.fnOf "_law_draws" "_law_draws" (defArgs s_draws) (defBody s_draws) (defScope s_draws) zg zh zi zj zd zk zl), ze⟩)
  (zi5 : PySem.W.codeIn K zk "_law_draws" = true)
  (zi6 : PySem.W.keepIn K (.ref zb) = true)
  (zi7 : zg = .none)
  (zi8 : PySem.W.nsIn K mainGlobals "_law_built" = some (some (.ref zm)))
  (zi9 : K.lookup zm = some ⟨zq, zn, .func (PySem.W.fnOf "_law_built" "_law_built" (defArgs s_built) (defBody s_built) (defScope s_built) zr zs zt zu zo zv zw), zp⟩)
  (zia : PySem.W.codeIn K zv "_law_built" = true)
  (zib : PySem.W.keepIn K (.ref zm) = true)
  (zic : zr = .none)
  (zid : PySem.W.nsIn K mainGlobals "_law_kind" = some (some (.ref zx)))
  (zie : K.lookup zx = some ⟨z11, zy, .func (PySem.W.fnOf "_law_kind" "_law_kind" (defArgs s_kind) (defBody s_kind) (defScope s_kind) z12 z13 z14 z15 zz z16 z17), z10⟩)
  (zif : PySem.W.codeIn K z16 "_law_kind" = true)
  (zig : PySem.W.keepIn K (.ref zx) = true)
  (zih : z12 = .none)
  (zii : PySem.W.nsIn K mainGlobals "_law_kinds" = some (some (.ref z18)))
  (zij : K.lookup z18 = some ⟨z1c, z19, .func (PySem.W.fnOf "_law_kinds" "_law_kinds" (defArgs s_kinds) (defBody s_kinds) (defScope s_kinds) z1d z1e z1f z1g z1a z1h z1i), z1b⟩)
  (zik : PySem.W.codeIn K z1h "_law_kinds" = true)
  (zil : PySem.W.keepIn K (.ref z18) = true)
  (zim : z1d = .none)
  (zin : PySem.W.nsIn K mainGlobals "_law_many" = some (some (.ref z1j)))
  (zio : K.lookup z1j = some ⟨z1n, z1k, .func (PySem.W.fnOf "_law_many" "_law_many" (defArgs s_many) (defBody s_many) (defScope s_many) z1o z1p z1q z1r z1l z1s z1t), z1m⟩)
  (zip : PySem.W.codeIn K z1s "_law_many" = true)
  (ziq : PySem.W.keepIn K (.ref z1j) = true)
  (zir : z1o = .none)
  (zis : PySem.W.nsIn K mainGlobals "_law_linked" = some (some (.ref z1u)))
  (zit : K.lookup z1u = some ⟨z1y, z1v, .func (PySem.W.fnOf "_law_linked" "_law_linked" (defArgs s_J21) (defBody s_J21) (defScope s_J21) z1z z20 z21 z22 z1w z23 z24), z1x⟩)
  (ziu : PySem.W.codeIn K z23 "_law_linked" = true)
  (ziv : PySem.W.keepIn K (.ref z1u) = true)
  (ziw : z1z = .none)
  (zix : PySem.W.nsIn K mainGlobals "_law_ends" = some (some (.ref z25)))
  (ziy : K.lookup z25 = some ⟨z29, z26, .func (PySem.W.fnOf "_law_ends" "_law_ends" (defArgs s_ends) (defBody s_ends) (defScope s_ends) z2a z2b z2c z2d z27 z2e z2f), z28⟩)
  (ziz : PySem.W.codeIn K z2e "_law_ends" = true)
  (zj0 : PySem.W.keepIn K (.ref z25) = true)
  (zj1 : z2a = .none)
  (zj2 : PySem.W.nsIn K mainGlobals "run" = some (some (.ref z2g)))
  (zj3 : K.lookup z2g = some ⟨z2k, z2h, .func (PySem.W.fnOf "run" "run" (defArgs s_run) (defBody s_run) (defScope s_run) z2l z2m z2n z2o z2i z2p z2q), z2j⟩)
  (zj4 : PySem.W.codeIn K z2p "run" = true)
  (zj5 : PySem.W.keepIn K (.ref z2g) = true)
  (zj6 : z2l = .none)
  (zj7 : PySem.W.nsIn K mainGlobals "next_step" = some (some (.ref z2r)))
  (zj8 : K.lookup z2r = some ⟨z2v, z2s, .func (PySem.W.fnOf "next_step" "next_step" (defArgs s_Jk) (defBody s_Jk) (defScope s_Jk) z2w z2x z2y z2z z2t z30 z31), z2u⟩)
  (zj9 : PySem.W.codeIn K z30 "next_step" = true)
  (zja : PySem.W.keepIn K (.ref z2r) = true)
  (zjb : z2w = .none)
  (zjc : PySem.W.nsIn K mainGlobals "passage" = some (some (.ref z32)))
  (zjd : K.lookup z32 = some ⟨z36, z33, .func (PySem.W.fnOf "passage" "passage" (defArgs s_Jz) (defBody s_Jz) (defScope s_Jz) z37 z38 z39 z3a z34 z3b z3c), z35⟩)
  (zje : PySem.W.codeIn K z3b "passage" = true)
  (zjf : PySem.W.keepIn K (.ref z32) = true)
  (zjg : z37 = .none)
  (zjh : PySem.W.nsIn K mainGlobals "check_end" = some (some (.ref z3d)))
  (zji : K.lookup z3d = some ⟨z3h, z3e, .func (PySem.W.fnOf "check_end" "check_end" (defArgs s_Jl) (defBody s_Jl) (defScope s_Jl) z3i z3j z3k z3l z3f z3m z3n), z3g⟩)
  (zjj : PySem.W.codeIn K z3m "check_end" = true)
  (zjk : PySem.W.keepIn K (.ref z3d) = true)
  (zjl : z3i = .none)
  (zjm : PySem.W.nsIn K mainGlobals "ends_of" = some (some (.ref z3o)))
  (zjn : K.lookup z3o = some ⟨z3s, z3p, .func (PySem.W.fnOf "ends_of" "ends_of" (defArgs s_J01) (defBody s_J01) (defScope s_J01) z3t z3u z3v z3w z3q z3x z3y), z3r⟩)
  (zjo : PySem.W.codeIn K z3x "ends_of" = true)
  (zjp : PySem.W.keepIn K (.ref z3o) = true)
  (zjq : z3t = .none)
  (zjr : PySem.W.nsIn K mainGlobals "is_point" = some (some (.ref z3z)))
  (zjs : K.lookup z3z = some ⟨z43, z40, .func (PySem.W.fnOf "is_point" "is_point" (defArgs s_Ju) (defBody s_Ju) (defScope s_Ju) z44 z45 z46 z47 z41 z48 z49), z42⟩)
  (zjt : PySem.W.codeIn K z48 "is_point" = true)
  (zju : PySem.W.keepIn K (.ref z3z) = true)
  (zjv : z44 = .none)
  (zjw : PySem.W.nsIn K mainGlobals "check_side" = some (some (.ref z4a)))
  (zjx : K.lookup z4a = some ⟨z4e, z4b, .func (PySem.W.fnOf "check_side" "check_side" (defArgs s_Jd) (defBody s_Jd) (defScope s_Jd) z4f z4g z4h z4i z4c z4j z4k), z4d⟩)
  (zjy : PySem.W.codeIn K z4j "check_side" = true)
  (zjz : PySem.W.keepIn K (.ref z4a) = true)
  (zk0 : z4f = .none)
  (zk1 : PySem.W.nsIn K mainGlobals "point_passage" = some (some (.ref z4l)))
  (zk2 : K.lookup z4l = some ⟨z4p, z4m, .func (PySem.W.fnOf "point_passage" "point_passage" (defArgs s_J7) (defBody s_J7) (defScope s_J7) z4q z4r z4s z4t z4n z4u z4v), z4o⟩)
  (zk3 : PySem.W.codeIn K z4u "point_passage" = true)
  (zk4 : PySem.W.keepIn K (.ref z4l) = true)
  (zk5 : z4q = .none)
  (zk6 : PySem.W.nsIn K mainGlobals "_law_look" = some (some (.ref z4w)))
  (zk7 : K.lookup z4w = some ⟨z50, z4x, .func (PySem.W.fnOf "_law_look" "_law_look" (defArgs s_look) (defBody s_look) (defScope s_look) z51 z52 z53 z54 z4y z55 z56), z4z⟩)
  (zk8 : PySem.W.codeIn K z55 "_law_look" = true)
  (zk9 : PySem.W.keepIn K (.ref z4w) = true)
  (zka : z51 = .none)
  (zkb : PySem.W.nsIn K mainGlobals "_law_bad_kind" = some (some (.ref z57)))
  (zkc : K.lookup z57 = some ⟨z5b, z58, .func (PySem.W.fnOf "_law_bad_kind" "_law_bad_kind" (defArgs s_Jv) (defBody s_Jv) (defScope s_Jv) z5c z5d z5e z5f z59 z5g z5h), z5a⟩)
  (zkd : PySem.W.codeIn K z5g "_law_bad_kind" = true)
  (zke : PySem.W.keepIn K (.ref z57) = true)
  (zkf : z5c = .none)
  (zkg : PySem.W.nsIn K mainGlobals "_law_sign" = some (some (.ref z5i)))
  (zkh : K.lookup z5i = some ⟨z5m, z5j, .func (PySem.W.fnOf "_law_sign" "_law_sign" (defArgs s_sign) (defBody s_sign) (defScope s_sign) z5n z5o z5p z5q z5k z5r z5s), z5l⟩)
  (zki : PySem.W.codeIn K z5r "_law_sign" = true)
  (zkj : PySem.W.keepIn K (.ref z5i) = true)
  (zkk : z5n = .none)
  (zkl : PySem.W.nsIn K mainGlobals "_law_size" = some (some (.ref z5t)))
  (zkm : K.lookup z5t = some ⟨z5x, z5u, .func (PySem.W.fnOf "_law_size" "_law_size" (defArgs s_size) (defBody s_size) (defScope s_size) z5y z5z z60 z61 z5v z62 z63), z5w⟩)
  (zkn : PySem.W.codeIn K z62 "_law_size" = true)
  (zko : PySem.W.keepIn K (.ref z5t) = true)
  (zkp : z5y = .none)
  (zkq : PySem.W.nsIn K mainGlobals "_law_bad_place_told" = some (some (.ref z64)))
  (zkr : K.lookup z64 = some ⟨z68, z65, .func (PySem.W.fnOf "_law_bad_place_told" "_law_bad_place_told" (defArgs s_J2) (defBody s_J2) (defScope s_J2) z69 z6a z6b z6c z66 z6d z6e), z67⟩)
  (zks : PySem.W.codeIn K z6d "_law_bad_place_told" = true)
  (zkt : PySem.W.keepIn K (.ref z64) = true)
  (zku : z69 = .none)
  (zkv : PySem.W.nsIn K mainGlobals "_law_refused" = some (some (.ref z6f)))
  (zkw : K.lookup z6f = some ⟨z6j, z6g, .func (PySem.W.fnOf "_law_refused" "_law_refused" (defArgs s_J11) (defBody s_J11) (defScope s_J11) z6k z6l z6m z6n z6h z6o z6p), z6i⟩)
  (zkx : PySem.W.codeIn K z6o "_law_refused" = true)
  (zky : PySem.W.keepIn K (.ref z6f) = true)
  (zkz : z6k = .none)
  (zl0 : PySem.W.nsIn K mainGlobals "_law_names" = some (some (.ref z6q)))
  (zl1 : K.lookup z6q = some ⟨z6u, z6r, .func (PySem.W.fnOf "_law_names" "_law_names" (defArgs s_names) (defBody s_names) (defScope s_names) z6v z6w z6x z6y z6s z6z z70), z6t⟩)
  (zl2 : PySem.W.codeIn K z6z "_law_names" = true)
  (zl3 : PySem.W.keepIn K (.ref z6q) = true)
  (zl4 : z6v = .none)
  (zl5 : PySem.W.nsIn K mainGlobals "_law_links_told" = some (some (.ref z71)))
  (zl6 : K.lookup z71 = some ⟨z75, z72, .func (PySem.W.fnOf "_law_links_told" "_law_links_told" (defArgs s_Je) (defBody s_Je) (defScope s_Je) z76 z77 z78 z79 z73 z7a z7b), z74⟩)
  (zl7 : PySem.W.codeIn K z7a "_law_links_told" = true)
  (zl8 : PySem.W.keepIn K (.ref z71) = true)
  (zl9 : z76 = .none)
  (zla : PySem.W.nsIn K mainGlobals "_law_is" = some (some (.ref z7c)))
  (zlb : K.lookup z7c = some ⟨z7g, z7d, .func (PySem.W.fnOf "_law_is" "_law_is" (defArgs s_is) (defBody s_is) (defScope s_is) z7h z7i z7j z7k z7e z7l z7m), z7f⟩)
  (zlc : PySem.W.codeIn K z7l "_law_is" = true)
  (zld : PySem.W.keepIn K (.ref z7c) = true)
  (zle : z7h = .none)
  (zlf : PySem.W.nsIn K mainGlobals "_law_whole" = some (some (.ref z7n)))
  (zlg : K.lookup z7n = some ⟨z7r, z7o, .func (PySem.W.fnOf "_law_whole" "_law_whole" (defArgs s_whole) (defBody s_whole) (defScope s_whole) z7s z7t z7u z7v z7p z7w z7x), z7q⟩)
  (zlh : PySem.W.codeIn K z7w "_law_whole" = true)
  (zli : PySem.W.keepIn K (.ref z7n) = true)
  (zlj : z7s = .none)
  (zlk : PySem.W.nsIn K mainGlobals "_law_bad_piece_told" = some (some (.ref z7y)))
  (zll : K.lookup z7y = some ⟨z82, z7z, .func (PySem.W.fnOf "_law_bad_piece_told" "_law_bad_piece_told" (defArgs s_J3) (defBody s_J3) (defScope s_J3) z83 z84 z85 z86 z80 z87 z88), z81⟩)
  (zlm : PySem.W.codeIn K z87 "_law_bad_piece_told" = true)
  (zln : PySem.W.keepIn K (.ref z7y) = true)
  (zlo : z83 = .none)
  (zlp : PySem.W.nsIn K mainGlobals "_law_bad_rod_told" = some (some (.ref z89)))
  (zlq : K.lookup z89 = some ⟨z8d, z8a, .func (PySem.W.fnOf "_law_bad_rod_told" "_law_bad_rod_told" (defArgs s_J8) (defBody s_J8) (defScope s_J8) z8e z8f z8g z8h z8b z8i z8j), z8c⟩)
  (zlr : PySem.W.codeIn K z8i "_law_bad_rod_told" = true)
  (zls : PySem.W.keepIn K (.ref z89) = true)
  (zlt : z8e = .none)
  (zlu : PySem.W.nsIn K mainGlobals "check_note" = some (some (.ref z8k)))
  (zlv : K.lookup z8k = some ⟨z8o, z8l, .func (PySem.W.fnOf "check_note" "check_note" (defArgs s_Jf) (defBody s_Jf) (defScope s_Jf) z8p z8q z8r z8s z8m z8t z8u), z8n⟩)
  (zlw : PySem.W.codeIn K z8t "check_note" = true)
  (zlx : PySem.W.keepIn K (.ref z8k) = true)
  (zly : z8p = .none)
  (zlz : PySem.W.findIn K (.ref zfw) "__init__" = some (some (.ref z8v)))
  (zm0 : PySem.W.isFn K (.ref z8v) = true)
  (zm1 : K.lookup z8v = some ⟨z8z, z8w, .func (PySem.W.fnOf "__init__" "Yard.__init__" (defArgs s_Jm) (defBody s_Jm) (defScope s_Jm) z90 z91 z92 z93 z8x z94 z95), z8y⟩)
  (zm2 : PySem.W.codeIn K z94 "Yard.__init__" = true)
  (zm3 : PySem.W.keepIn K (.ref z8v) = true)
  (zm4 : z90 = .none)
  (zm5 : PySem.W.findIn K (.ref zfw) "put" = some (some (.ref z96)))
  (zm6 : PySem.W.isFn K (.ref z96) = true)
  (zm7 : K.lookup z96 = some ⟨z9a, z97, .func (PySem.W.fnOf "put" "Yard.put" (defArgs s_Jw) (defBody s_Jw) (defScope s_Jw) z9b z9c z9d z9e z98 z9f z9g), z99⟩)
  (zm8 : PySem.W.codeIn K z9f "Yard.put" = true)
  (zm9 : PySem.W.keepIn K (.ref z96) = true)
  (zma : z9b = .none)
  (zmb : PySem.W.findIn K (.ref zfw) "check_there" = some (some (.ref z9h)))
  (zmc : PySem.W.isFn K (.ref z9h) = true)
  (zmd : K.lookup z9h = some ⟨z9l, z9i, .func (PySem.W.fnOf "check_there" "Yard.check_there" (defArgs s_J0) (defBody s_J0) (defScope s_J0) z9m z9n z9o z9p z9j z9q z9r), z9k⟩)
  (zme : PySem.W.codeIn K z9q "Yard.check_there" = true)
  (zmf : PySem.W.keepIn K (.ref z9h) = true)
  (zmg : z9m = .none)
  (zmh : PySem.W.findIn K (.ref zfw) "check_piece" = some (some (.ref z9s)))
  (zmi : PySem.W.isFn K (.ref z9s) = true)
  (zmj : K.lookup z9s = some ⟨z9w, z9t, .func (PySem.W.fnOf "check_piece" "Yard.check_piece" (defArgs s_J1) (defBody s_J1) (defScope s_J1) z9x z9y z9z za0 z9u za1 za2), z9v⟩)
  (zmk : PySem.W.codeIn K za1 "Yard.check_piece" = true)
  (zml : PySem.W.keepIn K (.ref z9s) = true)
  (zmm : z9x = .none)
  (zmn : PySem.W.findIn K (.ref zfw) "end_trail" = some (some (.ref za3)))
  (zmo : PySem.W.isFn K (.ref za3) = true)
  (zmp : K.lookup za3 = some ⟨za7, za4, .func (PySem.W.fnOf "end_trail" "Yard.end_trail" (defArgs s_J5) (defBody s_J5) (defScope s_J5) za8 za9 zaa zab za5 zac zad), za6⟩)
  (zmq : PySem.W.codeIn K zac "Yard.end_trail" = true)
  (zmr : PySem.W.keepIn K (.ref za3) = true)
  (zms : za8 = .none)
  (zmt : PySem.W.findIn K (.ref zfw) "lay" = some (some (.ref zae)))
  (zmu : PySem.W.isFn K (.ref zae) = true)
  (zmv : K.lookup zae = some ⟨zai, zaf, .func (PySem.W.fnOf "lay" "Yard.lay" (defArgs s_Jx) (defBody s_Jx) (defScope s_Jx) zaj zak zal zam zag zan zao), zah⟩)
  (zmw : PySem.W.codeIn K zan "Yard.lay" = true)
  (zmx : PySem.W.keepIn K (.ref zae) = true)
  (zmy : zaj = .ref zhi)
  (zmz : K.lookup zhi = some ⟨.type "tuple", zhj, .seq #[.int 0 zhm, .none] zhk, zhl⟩)
  (zn0 : PySem.W.findIn K (.ref zfw) "check_rod" = some (some (.ref zap)))
  (zn1 : PySem.W.isFn K (.ref zap) = true)
  (zn2 : K.lookup zap = some ⟨zat, zaq, .func (PySem.W.fnOf "check_rod" "Yard.check_rod" (defArgs s_J6) (defBody s_J6) (defScope s_J6) zau zav zaw zax zar zay zaz), zas⟩)
  (zn3 : PySem.W.codeIn K zay "Yard.check_rod" = true)
  (zn4 : PySem.W.keepIn K (.ref zap) = true)
  (zn5 : zau = .none)
  (zn6 : PySem.W.findIn K (.ref zfw) "new_rod" = some (some (.ref zb0)))
  (zn7 : PySem.W.isFn K (.ref zb0) = true)
  (zn8 : K.lookup zb0 = some ⟨zb4, zb1, .func (PySem.W.fnOf "new_rod" "Yard.new_rod" (defArgs s_J9) (defBody s_J9) (defScope s_J9) zb5 zb6 zb7 zb8 zb2 zb9 zba), zb3⟩)
  (zn9 : PySem.W.codeIn K zb9 "Yard.new_rod" = true)
  (zna : PySem.W.keepIn K (.ref zb0) = true)
  (znb : zb5 = .ref zhn)
  (znc : K.lookup zhn = some ⟨.type "tuple", zho, .seq #[.int 1 zhr] zhp, zhq⟩)
  (znd : PySem.W.findIn K (.ref zfw) "steps" = some (some (.ref zbb)))
  (zne : PySem.W.isFn K (.ref zbb) = true)
  (znf : K.lookup zbb = some ⟨zbf, zbc, .func (PySem.W.fnOf "steps" "Yard.steps" (defArgs s_Jg) (defBody s_Jg) (defScope s_Jg) zbg zbh zbi zbj zbd zbk zbl), zbe⟩)
  (zng : PySem.W.codeIn K zbk "Yard.steps" = true)
  (znh : PySem.W.keepIn K (.ref zbb) = true)
  (zni : zbg = .none)
  (znj : PySem.W.findIn K (.ref zfw) "link" = some (some (.ref zbm)))
  (znk : PySem.W.isFn K (.ref zbm) = true)
  (znl : K.lookup zbm = some ⟨zbq, zbn, .func (PySem.W.fnOf "link" "Yard.link" (defArgs s_Jn) (defBody s_Jn) (defScope s_Jn) zbr zbs zbt zbu zbo zbv zbw), zbp⟩)
  (znm : PySem.W.codeIn K zbv "Yard.link" = true)
  (znn : PySem.W.keepIn K (.ref zbm) = true)
  (zno : zbr = .none)
  (znp : PySem.W.findIn K (.ref zfw) "carry" = some (some (.ref zbx)))
  (znq : PySem.W.isFn K (.ref zbx) = true)
  (znr : K.lookup zbx = some ⟨zc1, zby, .func (PySem.W.fnOf "carry" "Yard.carry" (defArgs s_Jh) (defBody s_Jh) (defScope s_Jh) zc2 zc3 zc4 zc5 zbz zc6 zc7), zc0⟩)
  (zns : PySem.W.codeIn K zc6 "Yard.carry" = true)
  (znt : PySem.W.keepIn K (.ref zbx) = true)
  (znu : zc2 = .none)
  (znv : PySem.W.findIn K (.ref zfw) "engine" = some (some (.ref zc8)))
  (znw : PySem.W.isFn K (.ref zc8) = true)
  (znx : K.lookup zc8 = some ⟨zcc, zc9, .func (PySem.W.fnOf "engine" "Yard.engine" (defArgs s_Ja) (defBody s_Ja) (defScope s_Ja) zcd zce zcf zcg zca zch zci), zcb⟩)
  (zny : PySem.W.codeIn K zch "Yard.engine" = true)
  (znz : PySem.W.keepIn K (.ref zc8) = true)
  (zo0 : zcd = .none)
  (zo1 : PySem.W.findIn K (.ref zfw) "kind" = some (some (.ref zcj)))
  (zo2 : PySem.W.isFn K (.ref zcj) = true)
  (zo3 : K.lookup zcj = some ⟨zcn, zck, .func (PySem.W.fnOf "kind" "Yard.kind" (defArgs s_Jo) (defBody s_Jo) (defScope s_Jo) zco zcp zcq zcr zcl zcs zct), zcm⟩)
  (zo4 : PySem.W.codeIn K zcs "Yard.kind" = true)
  (zo5 : PySem.W.keepIn K (.ref zcj) = true)
  (zo6 : zco = .none)
  (zo7 : PySem.W.findIn K (.ref zfw) "mate" = some (some (.ref zcu)))
  (zo8 : PySem.W.isFn K (.ref zcu) = true)
  (zo9 : K.lookup zcu = some ⟨zcy, zcv, .func (PySem.W.fnOf "mate" "Yard.mate" (defArgs s_Jp) (defBody s_Jp) (defScope s_Jp) zcz zd0 zd1 zd2 zcw zd3 zd4), zcx⟩)
  (zoa : PySem.W.codeIn K zd3 "Yard.mate" = true)
  (zob : PySem.W.keepIn K (.ref zcu) = true)
  (zoc : zcz = .none)
  (zod : PySem.W.findIn K (.ref zfw) "side" = some (some (.ref zd5)))
  (zoe : PySem.W.isFn K (.ref zd5) = true)
  (zof : K.lookup zd5 = some ⟨zd9, zd6, .func (PySem.W.fnOf "side" "Yard.side" (defArgs s_Jq) (defBody s_Jq) (defScope s_Jq) zda zdb zdc zdd zd7 zde zdf), zd8⟩)
  (zog : PySem.W.codeIn K zde "Yard.side" = true)
  (zoh : PySem.W.keepIn K (.ref zd5) = true)
  (zoi : zda = .none)
  (zoj : PySem.W.findIn K (.ref zfw) "rod" = some (some (.ref zdg)))
  (zok : PySem.W.isFn K (.ref zdg) = true)
  (zol : K.lookup zdg = some ⟨zdk, zdh, .func (PySem.W.fnOf "rod" "Yard.rod" (defArgs s_Jy) (defBody s_Jy) (defScope s_Jy) zdl zdm zdn zdo zdi zdp zdq), zdj⟩)
  (zom : PySem.W.codeIn K zdp "Yard.rod" = true)
  (zon : PySem.W.keepIn K (.ref zdg) = true)
  (zoo : zdl = .none)
  (zop : PySem.W.findIn K (.ref zfw) "pieces" = some (some (.ref zdr)))
  (zoq : PySem.W.isFn K (.ref zdr) = true)
  (zor : K.lookup zdr = some ⟨zdv, zds, .func (PySem.W.fnOf "pieces" "Yard.pieces" (defArgs s_Jb) (defBody s_Jb) (defScope s_Jb) zdw zdx zdy zdz zdt ze0 ze1), zdu⟩)
  (zos : PySem.W.codeIn K ze0 "Yard.pieces" = true)
  (zot : PySem.W.keepIn K (.ref zdr) = true)
  (zou : zdw = .none)
  (zov : PySem.W.findIn K (.ref zfw) "rods" = some (some (.ref ze2)))
  (zow : PySem.W.isFn K (.ref ze2) = true)
  (zox : K.lookup ze2 = some ⟨ze6, ze3, .func (PySem.W.fnOf "rods" "Yard.rods" (defArgs s_Jr) (defBody s_Jr) (defScope s_Jr) ze7 ze8 ze9 zea ze4 zeb zec), ze5⟩)
  (zoy : PySem.W.codeIn K zeb "Yard.rods" = true)
  (zoz : PySem.W.keepIn K (.ref ze2) = true)
  (zp0 : ze7 = .none)
  (zp1 : PySem.W.findIn K (.ref zfw) "bells" = some (some (.ref zed)))
  (zp2 : PySem.W.isFn K (.ref zed) = true)
  (zp3 : K.lookup zed = some ⟨zeh, zee, .func (PySem.W.fnOf "bells" "Yard.bells" (defArgs s_Ji) (defBody s_Ji) (defScope s_Ji) zei zej zek zel zef zem zen), zeg⟩)
  (zp4 : PySem.W.codeIn K zem "Yard.bells" = true)
  (zp5 : PySem.W.keepIn K (.ref zed) = true)
  (zp6 : zei = .none)
  (zp7 : PySem.W.findIn K (.ref zfw) "note" = some (some (.ref zeo)))
  (zp8 : PySem.W.isFn K (.ref zeo) = true)
  (zp9 : K.lookup zeo = some ⟨zes, zep, .func (PySem.W.fnOf "note" "Yard.note" (defArgs s_Js) (defBody s_Js) (defScope s_Js) zet zeu zev zew zeq zex zey), zer⟩)
  (zpa : PySem.W.codeIn K zex "Yard.note" = true)
  (zpb : PySem.W.keepIn K (.ref zeo) = true)
  (zpc : zet = .none)
  (zpd : PySem.W.findIn K (.ref zfw) "unlink" = some (some (.ref zez)))
  (zpe : PySem.W.isFn K (.ref zez) = true)
  (zpf : K.lookup zez = some ⟨zf3, zf0, .func (PySem.W.fnOf "unlink" "Yard.unlink" (defArgs s_Jc) (defBody s_Jc) (defScope s_Jc) zf4 zf5 zf6 zf7 zf1 zf8 zf9), zf2⟩)
  (zpg : PySem.W.codeIn K zf8 "Yard.unlink" = true)
  (zph : PySem.W.keepIn K (.ref zez) = true)
  (zpi : zf4 = .none)
  (zpj : PySem.W.findIn K (.ref zfw) "lift" = some (some (.ref zfa)))
  (zpk : PySem.W.isFn K (.ref zfa) = true)
  (zpl : K.lookup zfa = some ⟨zfe, zfb, .func (PySem.W.fnOf "lift" "Yard.lift" (defArgs s_Jt) (defBody s_Jt) (defScope s_Jt) zff zfg zfh zfi zfc zfj zfk), zfd⟩)
  (zpm : PySem.W.codeIn K zfj "Yard.lift" = true)
  (zpn : PySem.W.keepIn K (.ref zfa) = true)
  (zpo : zff = .none)
  (zpp : PySem.W.findIn K (.ref zfw) "throw" = some (some (.ref zfl)))
  (zpq : PySem.W.isFn K (.ref zfl) = true)
  (zpr : K.lookup zfl = some ⟨zfp, zfm, .func (PySem.W.fnOf "throw" "Yard.throw" (defArgs s_Jj) (defBody s_Jj) (defScope s_Jj) zfq zfr zfs zft zfn zfu zfv), zfo⟩)
  (zps : PySem.W.codeIn K zfu "Yard.throw" = true)
  (zpt : PySem.W.keepIn K (.ref zfl) = true)
  (zpu : zfq = .none)
  (zpv : PySem.W.plainGet K zfw Str.empty = true)
  (zpw : PySem.W.hasDictIn K zfw = true)
  (zpx : PySem.W.plainOver K zfw = true)
  (zpy : PySem.W.findIn K (.ref zfw) "__setattr__" = some (some (.builtin "object.__setattr__")))
  (zpz : PySem.W.makesIn K zfw = true)
  (zq0 : PySem.W.keepIn K (.ref zfw) = true)
  (zq1 : PySem.W.findIn K (.ref zfw) "next_piece" = some none)
  (zq2 : PySem.W.findIn K (.ref zfw) "kinds" = some none)
  (zq3 : PySem.W.findIn K (.ref zfw) "notes" = some none)
  (zq4 : PySem.W.findIn K (.ref zfw) "rods_under" = some none)
  (zq5 : PySem.W.findIn K (.ref zfw) "sides" = some none)
  (zq6 : PySem.W.findIn K (.ref zfw) "mates" = some none)
  (zq7 : PySem.W.findIn K (.ref zfw) "engine_end" = some none)
  (zq8 : PySem.W.findIn K (.ref zfw) "rung" = some none)
  (zq9 : PySem.W.findIn K (.ref zfw) "trail" = some none)
  (zqa : PySem.W.nsIn K mainGlobals "NoKind" = some (some (.ref zfx)))
  (zqb : PySem.W.nsIn K mainGlobals "NoEnd" = some (some (.ref zfy)))
  (zqc : PySem.W.nsIn K mainGlobals "NoSide" = some (some (.ref zfz)))
  (zqd : PySem.W.nsIn K mainGlobals "RailError" = some (some (.ref zg0)))
  (zqe : PySem.W.nsIn K mainGlobals "NoNote" = some (some (.ref zg1)))
  (zqf : PySem.W.nsIn K mainGlobals "NoPiece" = some (some (.ref zg2)))
  (zqg : PySem.W.nsIn K mainGlobals "NoRod" = some (some (.ref zg3)))
  (zqh : PySem.W.nsIn K mainGlobals "NoPoint" = some (some (.ref zg4)))
  (zqi : PySem.W.nsIn K mainGlobals "NoBell" = some (some (.ref zg5)))
  (zqj : PySem.W.nsIn K mainGlobals "SameEnd" = some (some (.ref zg6)))
  (zqk : PySem.W.nsIn K mainGlobals "Linked" = some (some (.ref zg7)))
  (zql : PySem.W.nsIn K mainGlobals "NotLinked" = some (some (.ref zg8)))
  (zqm : PySem.W.nsIn K mainGlobals "Occupied" = some (some (.ref zg9)))
  (zqn : PySem.W.nsIn K mainGlobals "NoStand" = some (some (.ref zga)))
  (zqo : PySem.W.nsIn K mainGlobals "NoMany" = some (some (.ref zgb)))
  (zqp : PySem.W.nsIn K mainGlobals "NoStretch" = some (some (.ref zgc)))
  (zqq : PySem.W.nsIn K mainGlobals "NoRow" = some (some (.ref zgd)))
  (zqr : PySem.W.nsIn K mainGlobals "NoMark" = some (some (.ref zge)))
  (zqs : PySem.W.nsIn K mainGlobals "NoCounter" = some (some (.ref zgf)))
  (zqt : PySem.W.nsIn K mainGlobals "NoWidth" = some (some (.ref zgg)))
  (zqu : PySem.W.nsIn K mainGlobals "NoValue" = some (some (.ref zgh)))
  (zqv : PySem.W.nsIn K mainGlobals "FallsOut" = some (some (.ref zgi)))
  (zqw : PySem.W.nsIn K mainGlobals "NoText" = some (some (.ref zgj)))
  (zqx : excAll K zfx zg0 [(zfx, true), (zfy, false), (zfz, false), (zg1, false), (zg2, false), (zg3, false), (zg4, false), (zg5, false), (zg6, false), (zg7, false), (zg8, false), (zg9, false), (zga, false), (zgb, false), (zgc, false), (zgd, false), (zge, false), (zgf, false), (zgg, false), (zgh, false), (zgi, false), (zgj, false)] = true)
  (zqy : excAll K zfy zg0 [(zfx, false), (zfy, true), (zfz, false), (zg1, false), (zg2, false), (zg3, false), (zg4, false), (zg5, false), (zg6, false), (zg7, false), (zg8, false), (zg9, false), (zga, false), (zgb, false), (zgc, false), (zgd, false), (zge, false), (zgf, false), (zgg, false), (zgh, false), (zgi, false), (zgj, false)] = true)
  (zqz : excAll K zfz zg0 [(zfx, false), (zfy, false), (zfz, true), (zg1, false), (zg2, false), (zg3, false), (zg4, false), (zg5, false), (zg6, false), (zg7, false), (zg8, false), (zg9, false), (zga, false), (zgb, false), (zgc, false), (zgd, false), (zge, false), (zgf, false), (zgg, false), (zgh, false), (zgi, false), (zgj, false)] = true)
  (zr0 : excAll K zg1 zg0 [(zfx, false), (zfy, false), (zfz, false), (zg1, true), (zg2, false), (zg3, false), (zg4, false), (zg5, false), (zg6, false), (zg7, false), (zg8, false), (zg9, false), (zga, false), (zgb, false), (zgc, false), (zgd, false), (zge, false), (zgf, false), (zgg, false), (zgh, false), (zgi, false), (zgj, false)] = true)
  (zr1 : excAll K zg2 zg0 [(zfx, false), (zfy, false), (zfz, false), (zg1, false), (zg2, true), (zg3, false), (zg4, false), (zg5, false), (zg6, false), (zg7, false), (zg8, false), (zg9, false), (zga, false), (zgb, false), (zgc, false), (zgd, false), (zge, false), (zgf, false), (zgg, false), (zgh, false), (zgi, false), (zgj, false)] = true)
  (zr2 : excAll K zg3 zg0 [(zfx, false), (zfy, false), (zfz, false), (zg1, false), (zg2, false), (zg3, true), (zg4, false), (zg5, false), (zg6, false), (zg7, false), (zg8, false), (zg9, false), (zga, false), (zgb, false), (zgc, false), (zgd, false), (zge, false), (zgf, false), (zgg, false), (zgh, false), (zgi, false), (zgj, false)] = true)
  (zr3 : excAll K zg6 zg0 [(zfx, false), (zfy, false), (zfz, false), (zg1, false), (zg2, false), (zg3, false), (zg4, false), (zg5, false), (zg6, true), (zg7, false), (zg8, false), (zg9, false), (zga, false), (zgb, false), (zgc, false), (zgd, false), (zge, false), (zgf, false), (zgg, false), (zgh, false), (zgi, false), (zgj, false)] = true)
  (zr4 : excAll K zg7 zg0 [(zfx, false), (zfy, false), (zfz, false), (zg1, false), (zg2, false), (zg3, false), (zg4, false), (zg5, false), (zg6, false), (zg7, true), (zg8, false), (zg9, false), (zga, false), (zgb, false), (zgc, false), (zgd, false), (zge, false), (zgf, false), (zgg, false), (zgh, false), (zgi, false), (zgj, false)] = true)
  (zr5 : excAll K zg8 zg0 [(zfx, false), (zfy, false), (zfz, false), (zg1, false), (zg2, false), (zg3, false), (zg4, false), (zg5, false), (zg6, false), (zg7, false), (zg8, true), (zg9, false), (zga, false), (zgb, false), (zgc, false), (zgd, false), (zge, false), (zgf, false), (zgg, false), (zgh, false), (zgi, false), (zgj, false)] = true)
  (zr6 : excAll K zg5 zg0 [(zfx, false), (zfy, false), (zfz, false), (zg1, false), (zg2, false), (zg3, false), (zg4, false), (zg5, true), (zg6, false), (zg7, false), (zg8, false), (zg9, false), (zga, false), (zgb, false), (zgc, false), (zgd, false), (zge, false), (zgf, false), (zgg, false), (zgh, false), (zgi, false), (zgj, false)] = true)
  (zr7 : excAll K zg4 zg0 [(zfx, false), (zfy, false), (zfz, false), (zg1, false), (zg2, false), (zg3, false), (zg4, true), (zg5, false), (zg6, false), (zg7, false), (zg8, false), (zg9, false), (zga, false), (zgb, false), (zgc, false), (zgd, false), (zge, false), (zgf, false), (zgg, false), (zgh, false), (zgi, false), (zgj, false)] = true)
  (zr8 : excAll K zg9 zg0 [(zfx, false), (zfy, false), (zfz, false), (zg1, false), (zg2, false), (zg3, false), (zg4, false), (zg5, false), (zg6, false), (zg7, false), (zg8, false), (zg9, true), (zga, false), (zgb, false), (zgc, false), (zgd, false), (zge, false), (zgf, false), (zgg, false), (zgh, false), (zgi, false), (zgj, false)] = true)
  (zr9 : z87 = .ref zgl)
  (zra : K.lookup zgl = some ⟨zgm, zgn, .fields zgo, zgp⟩)
  (zrb : zgo[11]? = some (.ref zgk))
  (zrc : PySem.W.codeHdIn K zgl zgk = true)
  (zrd : K.lookup zgk = none)
  (zre : z6d = .ref zgr)
  (zrf : K.lookup zgr = some ⟨zgs, zgt, .fields zgu, zgv⟩)
  (zrg : zgu[11]? = some (.ref zgq))
  (zrh : PySem.W.codeHdIn K zgr zgq = true)
  (zri : K.lookup zgq = none)
  (zrj : z8i = .ref zgx)
  (zrk : K.lookup zgx = some ⟨zgy, zgz, .fields zh0, zh1⟩)
  (zrl : zh0[11]? = some (.ref zgw))
  (zrm : PySem.W.codeHdIn K zgx zgw = true)
  (zrn : K.lookup zgw = none)
  (zro : z7a = .ref zh3)
  (zrp : K.lookup zh3 = some ⟨zh4, zh5, .fields zh6, zh7⟩)
  (zrq : zh6[11]? = some (.ref zh2))
  (zrr : PySem.W.codeHdIn K zh3 zh2 = true)
  (zrs : K.lookup zh2 = none)
  (zrt : z9 = .ref zh9)
  (zru : K.lookup zh9 = some ⟨zha, zhb, .fields zhc, zhd⟩)
  (zrv : zhc[11]? = some (.ref zh8))
  (zrw : PySem.W.codeHdIn K zh9 zh8 = true)
  (zrx : K.lookup zh8 = none)
  (zry : zgk ≠ zgq)
  (zrz : zgk ≠ zgw)
  (zs0 : zgk ≠ zh2)
  (zs1 : zgk ≠ zh8)
  (zs2 : zgq ≠ zgw)
  (zs3 : zgq ≠ zh2)
  (zs4 : zgq ≠ zh8)
  (zs5 : zgw ≠ zh2)
  (zs6 : zgw ≠ zh8)
  (zs7 : zh2 ≠ zh8)
  (zs8 : PySem.W.nsIn K mainGlobals "ValueError" = some none)
  (zs9 : PySem.W.nsIn K mainGlobals "abs" = some none)
  (zsa : PySem.W.nsIn K mainGlobals "all" = some none)
  (zsb : PySem.W.nsIn K mainGlobals "bool" = some none)
  (zsc : PySem.W.nsIn K mainGlobals "enumerate" = some none)
  (zsd : PySem.W.nsIn K mainGlobals "int" = some none)
  (zse : PySem.W.nsIn K mainGlobals "isinstance" = some none)
  (zsf : PySem.W.nsIn K mainGlobals "len" = some none)
  (zsg : PySem.W.nsIn K mainGlobals "list" = some none)
  (zsh : PySem.W.nsIn K mainGlobals "range" = some none)
  (zsi : PySem.W.nsIn K mainGlobals "ENDS" = some (some zhe))
  (zsj : ∃ a, zhe = .ref a /\ TabK K a [("line", .int 2), ("bell", .int 2), ("stop", .int 1), ("still", .int 3), ("lazy", .int 3), ("turning", .int 3)])
  (zsk : PySem.W.nsIn K mainGlobals "LAST_NOTE" = some (some zhf))
  (zsl : RelV (.int 9999) zhf)
  (zsm : PySem.W.nsIn K mainGlobals "POINTS" = some (some zhg))
  (zsn : zhg = .ref zhs)
  (zso : K.lookup zhs = some ⟨.type "tuple", zht, .seq zhu zhv, zhw⟩)
  (zsp : zhu.size <= sizeLine)
  (zsq : Vals [.str "still", .str "lazy", .str "turning"] zhu.toList)
  (zsr : PySem.W.nsIn K mainGlobals "STEM" = some (some zhh))
  (zss : RelV (.int 0) zhh) :
  Txt K mg ⟨z0, PySem.W.fnOf "law" "law" (defArgs s_law) (defBody s_law) (defScope s_law) z5 z6 z7 z8 z2 z9 za, z5, zb, PySem.W.fnOf "_law_draws" "_law_draws" (defArgs s_draws) (defBody s_draws) (defScope s_draws) zg zh zi zj zd zk zl, zg, zm, PySem.W.fnOf "_law_built" "_law_built" (defArgs s_built) (defBody s_built) (defScope s_built) zr zs zt zu zo zv zw, zr, zx, PySem.W.fnOf "_law_kind" "_law_kind" (defArgs s_kind) (defBody s_kind) (defScope s_kind) z12 z13 z14 z15 zz z16 z17, z12, z18, PySem.W.fnOf "_law_kinds" "_law_kinds" (defArgs s_kinds) (defBody s_kinds) (defScope s_kinds) z1d z1e z1f z1g z1a z1h z1i, z1d, z1j, PySem.W.fnOf "_law_many" "_law_many" (defArgs s_many) (defBody s_many) (defScope s_many) z1o z1p z1q z1r z1l z1s z1t, z1o, z1u, PySem.W.fnOf "_law_linked" "_law_linked" (defArgs s_J21) (defBody s_J21) (defScope s_J21) z1z z20 z21 z22 z1w z23 z24, z1z, z25, PySem.W.fnOf "_law_ends" "_law_ends" (defArgs s_ends) (defBody s_ends) (defScope s_ends) z2a z2b z2c z2d z27 z2e z2f, z2a, z2g, PySem.W.fnOf "run" "run" (defArgs s_run) (defBody s_run) (defScope s_run) z2l z2m z2n z2o z2i z2p z2q, z2l, z2r, PySem.W.fnOf "next_step" "next_step" (defArgs s_Jk) (defBody s_Jk) (defScope s_Jk) z2w z2x z2y z2z z2t z30 z31, z2w, z32, PySem.W.fnOf "passage" "passage" (defArgs s_Jz) (defBody s_Jz) (defScope s_Jz) z37 z38 z39 z3a z34 z3b z3c, z37, z3d, PySem.W.fnOf "check_end" "check_end" (defArgs s_Jl) (defBody s_Jl) (defScope s_Jl) z3i z3j z3k z3l z3f z3m z3n, z3i, z3o, PySem.W.fnOf "ends_of" "ends_of" (defArgs s_J01) (defBody s_J01) (defScope s_J01) z3t z3u z3v z3w z3q z3x z3y, z3t, z3z, PySem.W.fnOf "is_point" "is_point" (defArgs s_Ju) (defBody s_Ju) (defScope s_Ju) z44 z45 z46 z47 z41 z48 z49, z44, z4a, PySem.W.fnOf "check_side" "check_side" (defArgs s_Jd) (defBody s_Jd) (defScope s_Jd) z4f z4g z4h z4i z4c z4j z4k, z4f, z4l, PySem.W.fnOf "point_passage" "point_passage" (defArgs s_J7) (defBody s_J7) (defScope s_J7) z4q z4r z4s z4t z4n z4u z4v, z4q, z4w, PySem.W.fnOf "_law_look" "_law_look" (defArgs s_look) (defBody s_look) (defScope s_look) z51 z52 z53 z54 z4y z55 z56, z51, z57, PySem.W.fnOf "_law_bad_kind" "_law_bad_kind" (defArgs s_Jv) (defBody s_Jv) (defScope s_Jv) z5c z5d z5e z5f z59 z5g z5h, z5c, z5i, PySem.W.fnOf "_law_sign" "_law_sign" (defArgs s_sign) (defBody s_sign) (defScope s_sign) z5n z5o z5p z5q z5k z5r z5s, z5n, z5t, PySem.W.fnOf "_law_size" "_law_size" (defArgs s_size) (defBody s_size) (defScope s_size) z5y z5z z60 z61 z5v z62 z63, z5y, z64, PySem.W.fnOf "_law_bad_place_told" "_law_bad_place_told" (defArgs s_J2) (defBody s_J2) (defScope s_J2) z69 z6a z6b z6c z66 z6d z6e, z69, z6f, PySem.W.fnOf "_law_refused" "_law_refused" (defArgs s_J11) (defBody s_J11) (defScope s_J11) z6k z6l z6m z6n z6h z6o z6p, z6k, z6q, PySem.W.fnOf "_law_names" "_law_names" (defArgs s_names) (defBody s_names) (defScope s_names) z6v z6w z6x z6y z6s z6z z70, z6v, z71, PySem.W.fnOf "_law_links_told" "_law_links_told" (defArgs s_Je) (defBody s_Je) (defScope s_Je) z76 z77 z78 z79 z73 z7a z7b, z76, z7c, PySem.W.fnOf "_law_is" "_law_is" (defArgs s_is) (defBody s_is) (defScope s_is) z7h z7i z7j z7k z7e z7l z7m, z7h, z7n, PySem.W.fnOf "_law_whole" "_law_whole" (defArgs s_whole) (defBody s_whole) (defScope s_whole) z7s z7t z7u z7v z7p z7w z7x, z7s, z7y, PySem.W.fnOf "_law_bad_piece_told" "_law_bad_piece_told" (defArgs s_J3) (defBody s_J3) (defScope s_J3) z83 z84 z85 z86 z80 z87 z88, z83, z89, PySem.W.fnOf "_law_bad_rod_told" "_law_bad_rod_told" (defArgs s_J8) (defBody s_J8) (defScope s_J8) z8e z8f z8g z8h z8b z8i z8j, z8e, z8k, PySem.W.fnOf "check_note" "check_note" (defArgs s_Jf) (defBody s_Jf) (defScope s_Jf) z8p z8q z8r z8s z8m z8t z8u, z8p, z8v, PySem.W.fnOf "__init__" "Yard.__init__" (defArgs s_Jm) (defBody s_Jm) (defScope s_Jm) z90 z91 z92 z93 z8x z94 z95, z90, z96, PySem.W.fnOf "put" "Yard.put" (defArgs s_Jw) (defBody s_Jw) (defScope s_Jw) z9b z9c z9d z9e z98 z9f z9g, z9b, z9h, PySem.W.fnOf "check_there" "Yard.check_there" (defArgs s_J0) (defBody s_J0) (defScope s_J0) z9m z9n z9o z9p z9j z9q z9r, z9m, z9s, PySem.W.fnOf "check_piece" "Yard.check_piece" (defArgs s_J1) (defBody s_J1) (defScope s_J1) z9x z9y z9z za0 z9u za1 za2, z9x, za3, PySem.W.fnOf "end_trail" "Yard.end_trail" (defArgs s_J5) (defBody s_J5) (defScope s_J5) za8 za9 zaa zab za5 zac zad, za8, zae, PySem.W.fnOf "lay" "Yard.lay" (defArgs s_Jx) (defBody s_Jx) (defScope s_Jx) zaj zak zal zam zag zan zao, zaj, zap, PySem.W.fnOf "check_rod" "Yard.check_rod" (defArgs s_J6) (defBody s_J6) (defScope s_J6) zau zav zaw zax zar zay zaz, zau, zb0, PySem.W.fnOf "new_rod" "Yard.new_rod" (defArgs s_J9) (defBody s_J9) (defScope s_J9) zb5 zb6 zb7 zb8 zb2 zb9 zba, zb5, zbb, PySem.W.fnOf "steps" "Yard.steps" (defArgs s_Jg) (defBody s_Jg) (defScope s_Jg) zbg zbh zbi zbj zbd zbk zbl, zbg, zbm, PySem.W.fnOf "link" "Yard.link" (defArgs s_Jn) (defBody s_Jn) (defScope s_Jn) zbr zbs zbt zbu zbo zbv zbw, zbr, zbx, PySem.W.fnOf "carry" "Yard.carry" (defArgs s_Jh) (defBody s_Jh) (defScope s_Jh) zc2 zc3 zc4 zc5 zbz zc6 zc7, zc2, zc8, PySem.W.fnOf "engine" "Yard.engine" (defArgs s_Ja) (defBody s_Ja) (defScope s_Ja) zcd zce zcf zcg zca zch zci, zcd, zcj, PySem.W.fnOf "kind" "Yard.kind" (defArgs s_Jo) (defBody s_Jo) (defScope s_Jo) zco zcp zcq zcr zcl zcs zct, zco, zcu, PySem.W.fnOf "mate" "Yard.mate" (defArgs s_Jp) (defBody s_Jp) (defScope s_Jp) zcz zd0 zd1 zd2 zcw zd3 zd4, zcz, zd5, PySem.W.fnOf "side" "Yard.side" (defArgs s_Jq) (defBody s_Jq) (defScope s_Jq) zda zdb zdc zdd zd7 zde zdf, zda, zdg, PySem.W.fnOf "rod" "Yard.rod" (defArgs s_Jy) (defBody s_Jy) (defScope s_Jy) zdl zdm zdn zdo zdi zdp zdq, zdl, zdr, PySem.W.fnOf "pieces" "Yard.pieces" (defArgs s_Jb) (defBody s_Jb) (defScope s_Jb) zdw zdx zdy zdz zdt ze0 ze1, zdw, ze2, PySem.W.fnOf "rods" "Yard.rods" (defArgs s_Jr) (defBody s_Jr) (defScope s_Jr) ze7 ze8 ze9 zea ze4 zeb zec, ze7, zed, PySem.W.fnOf "bells" "Yard.bells" (defArgs s_Ji) (defBody s_Ji) (defScope s_Ji) zei zej zek zel zef zem zen, zei, zeo, PySem.W.fnOf "note" "Yard.note" (defArgs s_Js) (defBody s_Js) (defScope s_Js) zet zeu zev zew zeq zex zey, zet, zez, PySem.W.fnOf "unlink" "Yard.unlink" (defArgs s_Jc) (defBody s_Jc) (defScope s_Jc) zf4 zf5 zf6 zf7 zf1 zf8 zf9, zf4, zfa, PySem.W.fnOf "lift" "Yard.lift" (defArgs s_Jt) (defBody s_Jt) (defScope s_Jt) zff zfg zfh zfi zfc zfj zfk, zff, zfl, PySem.W.fnOf "throw" "Yard.throw" (defArgs s_Jj) (defBody s_Jj) (defScope s_Jj) zfq zfr zfs zft zfn zfu zfv, zfq, zfw, zfx, zfy, zfz, zg0, zg1, zg2, zg3, zg4, zg5, zg6, zg7, zg8, zg9, zga, zgb, zgc, zgd, zge, zgf, zgg, zgh, zgi, zgj, zgk, zgq, zgw, zh2, zh8, zhe, zhf, zhg, zhh⟩ where
 F_law := funG_mk zhz zi0 zi1
 F_draws := funG_mk zi4 zi5 zi6
 F_built := funG_mk zi9 zia zib
 F_kind := funG_mk zie zif zig
 F_kinds := funG_mk zij zik zil
 F_many := funG_mk zio zip ziq
 F_J21 := funG_mk zit ziu ziv
 F_ends := funG_mk ziy ziz zj0
 F_run := funG_mk zj3 zj4 zj5
 F_Jk := funG_mk zj8 zj9 zja
 F_Jz := funG_mk zjd zje zjf
 F_Jl := funG_mk zji zjj zjk
 F_J01 := funG_mk zjn zjo zjp
 F_Ju := funG_mk zjs zjt zju
 F_Jd := funG_mk zjx zjy zjz
 F_J7 := funG_mk zk2 zk3 zk4
 F_look := funG_mk zk7 zk8 zk9
 F_Jv := funG_mk zkc zkd zke
 F_sign := funG_mk zkh zki zkj
 F_size := funG_mk zkm zkn zko
 F_J2 := funG_mk zkr zks zkt
 F_J11 := funG_mk zkw zkx zky
 F_names := funG_mk zl1 zl2 zl3
 F_Je := funG_mk zl6 zl7 zl8
 F_is := funG_mk zlb zlc zld
 F_whole := funG_mk zlg zlh zli
 F_J3 := funG_mk zll zlm zln
 F_J8 := funG_mk zlq zlr zls
 F_Jf := funG_mk zlv zlw zlx
 F_Jm := funG_mk zm1 zm2 zm3
 F_Jw := funG_mk zm7 zm8 zm9
 F_J0 := funG_mk zmd zme zmf
 F_J1 := funG_mk zmj zmk zml
 F_J5 := funG_mk zmp zmq zmr
 F_Jx := funG_mk zmv zmw zmx
 F_J6 := funG_mk zn2 zn3 zn4
 F_J9 := funG_mk zn8 zn9 zna
 F_Jg := funG_mk znf zng znh
 F_Jn := funG_mk znl znm znn
 F_Jh := funG_mk znr zns znt
 F_Ja := funG_mk znx zny znz
 F_Jo := funG_mk zo3 zo4 zo5
 F_Jp := funG_mk zo9 zoa zob
 F_Jq := funG_mk zof zog zoh
 F_Jy := funG_mk zol zom zon
 F_Jb := funG_mk zor zos zot
 F_Jr := funG_mk zox zoy zoz
 F_Ji := funG_mk zp3 zp4 zp5
 F_Js := funG_mk zp9 zpa zpb
 F_Jc := funG_mk zpf zpg zph
 F_Jt := funG_mk zpl zpm zpn
 F_Jj := funG_mk zpr zps zpt
 m_law := PySem.W.mg_of KX G zhy
 e_law := zi2
 m_draws := PySem.W.mg_of KX G zi3
 e_draws := zi7
 m_built := PySem.W.mg_of KX G zi8
 e_built := zic
 m_kind := PySem.W.mg_of KX G zid
 e_kind := zih
 m_kinds := PySem.W.mg_of KX G zii
 e_kinds := zim
 m_many := PySem.W.mg_of KX G zin
 e_many := zir
 m_J21 := PySem.W.mg_of KX G zis
 e_J21 := ziw
 m_ends := PySem.W.mg_of KX G zix
 e_ends := zj1
 m_run := PySem.W.mg_of KX G zj2
 e_run := zj6
 m_Jk := PySem.W.mg_of KX G zj7
 e_Jk := zjb
 m_Jz := PySem.W.mg_of KX G zjc
 e_Jz := zjg
 m_Jl := PySem.W.mg_of KX G zjh
 e_Jl := zjl
 m_J01 := PySem.W.mg_of KX G zjm
 e_J01 := zjq
 m_Ju := PySem.W.mg_of KX G zjr
 e_Ju := zjv
 m_Jd := PySem.W.mg_of KX G zjw
 e_Jd := zk0
 m_J7 := PySem.W.mg_of KX G zk1
 e_J7 := zk5
 m_look := PySem.W.mg_of KX G zk6
 e_look := zka
 m_Jv := PySem.W.mg_of KX G zkb
 e_Jv := zkf
 m_sign := PySem.W.mg_of KX G zkg
 e_sign := zkk
 m_size := PySem.W.mg_of KX G zkl
 e_size := zkp
 m_J2 := PySem.W.mg_of KX G zkq
 e_J2 := zku
 m_J11 := PySem.W.mg_of KX G zkv
 e_J11 := zkz
 m_names := PySem.W.mg_of KX G zl0
 e_names := zl4
 m_Je := PySem.W.mg_of KX G zl5
 e_Je := zl9
 m_is := PySem.W.mg_of KX G zla
 e_is := zle
 m_whole := PySem.W.mg_of KX G zlf
 e_whole := zlj
 m_J3 := PySem.W.mg_of KX G zlk
 e_J3 := zlo
 m_J8 := PySem.W.mg_of KX G zlp
 e_J8 := zlt
 m_Jf := PySem.W.mg_of KX G zlu
 e_Jf := zly
 e_Jm := zm4
 M_Jw := ⟨zm5, zm6, zm9⟩
 e_Jw := zma
 M_J0 := ⟨zmb, zmc, zmf⟩
 e_J0 := zmg
 M_J1 := ⟨zmh, zmi, zml⟩
 e_J1 := zmm
 M_J5 := ⟨zmn, zmo, zmr⟩
 e_J5 := zms
 M_Jx := ⟨zmt, zmu, zmx⟩
 D_Jx := ⟨zhi, zhj, zhk, zhl, zhm, zmy, zmz⟩
 M_J6 := ⟨zn0, zn1, zn4⟩
 e_J6 := zn5
 M_J9 := ⟨zn6, zn7, zna⟩
 D_J9 := ⟨zhn, zho, zhp, zhq, zhr, znb, znc⟩
 M_Jg := ⟨znd, zne, znh⟩
 e_Jg := zni
 M_Jn := ⟨znj, znk, znn⟩
 e_Jn := zno
 M_Jh := ⟨znp, znq, znt⟩
 e_Jh := znu
 M_Ja := ⟨znv, znw, znz⟩
 e_Ja := zo0
 M_Jo := ⟨zo1, zo2, zo5⟩
 e_Jo := zo6
 M_Jp := ⟨zo7, zo8, zob⟩
 e_Jp := zoc
 M_Jq := ⟨zod, zoe, zoh⟩
 e_Jq := zoi
 M_Jy := ⟨zoj, zok, zon⟩
 e_Jy := zoo
 M_Jb := ⟨zop, zoq, zot⟩
 e_Jb := zou
 M_Jr := ⟨zov, zow, zoz⟩
 e_Jr := zp0
 M_Ji := ⟨zp1, zp2, zp5⟩
 e_Ji := zp6
 M_Js := ⟨zp7, zp8, zpb⟩
 e_Js := zpc
 M_Jc := ⟨zpd, zpe, zph⟩
 e_Jc := zpi
 M_Jt := ⟨zpj, zpk, zpn⟩
 e_Jt := zpo
 M_Jj := ⟨zpp, zpq, zpt⟩
 e_Jj := zpu
 cl_Yard := ⟨zpv, zpw, zpx, zpy⟩
 m_Yard := PySem.W.mg_of KX G zhx
 mk_Yard := ⟨zpz, zlz, zm0, zq0⟩
 n_Yard_next_piece := zq1
 n_Yard_kinds := zq2
 n_Yard_notes := zq3
 n_Jr_under := zq4
 n_Yard_sides := zq5
 n_Yard_mates := zq6
 n_Ja_end := zq7
 n_Yard_rung := zq8
 n_Yard_trail := zq9
 m_NoKind := PySem.W.mg_of KX G zqa
 m_NoEnd := PySem.W.mg_of KX G zqb
 m_NoSide := PySem.W.mg_of KX G zqc
 m_RailError := PySem.W.mg_of KX G zqd
 m_NoNote := PySem.W.mg_of KX G zqe
 m_NoPiece := PySem.W.mg_of KX G zqf
 m_NoRod := PySem.W.mg_of KX G zqg
 m_NoPoint := PySem.W.mg_of KX G zqh
 m_NoBell := PySem.W.mg_of KX G zqi
 m_SameEnd := PySem.W.mg_of KX G zqj
 m_Linked := PySem.W.mg_of KX G zqk
 m_NotLinked := PySem.W.mg_of KX G zql
 m_Occupied := PySem.W.mg_of KX G zqm
 m_NoStand := PySem.W.mg_of KX G zqn
 m_NoMany := PySem.W.mg_of KX G zqo
 m_NoStretch := PySem.W.mg_of KX G zqp
 m_NoRow := PySem.W.mg_of KX G zqq
 m_NoMark := PySem.W.mg_of KX G zqr
 m_NoCounter := PySem.W.mg_of KX G zqs
 m_NoWidth := PySem.W.mg_of KX G zqt
 m_NoValue := PySem.W.mg_of KX G zqu
 m_FallsOut := PySem.W.mg_of KX G zqv
 m_NoText := PySem.W.mg_of KX G zqw
 x_NoKind := zqx
 x_NoEnd := zqy
 x_NoSide := zqz
 x_NoNote := zr0
 x_NoPiece := zr1
 x_NoRod := zr2
 x_SameEnd := zr3
 x_Linked := zr4
 x_NotLinked := zr5
 x_NoBell := zr6
 x_NoPoint := zr7
 x_Occupied := zr8
 tb_J3 := ⟨zgl, zr9, zrc⟩
 tn_J3 := zrd
 tb_J2 := ⟨zgr, zre, zrh⟩
 tn_J2 := zri
 tb_J8 := ⟨zgx, zrj, zrm⟩
 tn_J8 := zrn
 tb_Je := ⟨zh3, zro, zrr⟩
 tn_Je := zrs
 tb_law := ⟨zh9, zrt, zrw⟩
 tn_law := zrx
 dj_J3_J2 := zry
 dj_J3_J8 := zrz
 dj_J3_Je := zs0
 dj_J3_law := zs1
 dj_J2_J8 := zs2
 dj_J2_Je := zs3
 dj_J2_law := zs4
 dj_J8_Je := zs5
 dj_J8_law := zs6
 dj_Je_law := zs7
 z_ValueError := PySem.W.mg_none_of KX G zs8
 z_abs := PySem.W.mg_none_of KX G zs9
 z_all := PySem.W.mg_none_of KX G zsa
 z_bool := PySem.W.mg_none_of KX G zsb
 z_enumerate := PySem.W.mg_none_of KX G zsc
 z_int := PySem.W.mg_none_of KX G zsd
 z_isinstance := PySem.W.mg_none_of KX G zse
 z_len := PySem.W.mg_none_of KX G zsf
 z_list := PySem.W.mg_none_of KX G zsg
 z_range := PySem.W.mg_none_of KX G zsh
 g_ENDS := PySem.W.mg_of KX G zsi
 x_ENDS := zsj
 g_LAST_NOTE := PySem.W.mg_of KX G zsk
 r_LAST_NOTE := zsl
 g_POINTS := PySem.W.mg_of KX G zsm
 x_POINTS := ⟨zhs, _, zhu, zhv, zsn, zso, rfl, rfl, zsp, zsq⟩
 g_STEM := PySem.W.mg_of KX G zsr
 r_STEM := zss
end P
def PySem.W.Fast.tw10017667123162849683 : Unit := ()
def PySem.W.Fast.tw10091466835383955572 : Unit := ()
def PySem.W.Fast.tw10111018765500007627 : Unit := ()
def PySem.W.Fast.tw10135914090946706831 : Unit := ()
def PySem.W.Fast.tw10206972722227828945 : Unit := ()
def PySem.W.Fast.tw10229046075143439181 : Unit := ()
def PySem.W.Fast.tw10337183942684642124 : Unit := ()
def PySem.W.Fast.tw10389072758894396384 : Unit := ()
def PySem.W.Fast.tw10395788675788404698 : Unit := ()
def PySem.W.Fast.tw10405891224745565643 : Unit := ()
def PySem.W.Fast.tw10537028857844806500 : Unit := ()
def PySem.W.Fast.tw10672650737682273867 : Unit := ()
def PySem.W.Fast.tw10754051855522192532 : Unit := ()
def PySem.W.Fast.tw10796973837907138098 : Unit := ()
def PySem.W.Fast.tw10881894037330136947 : Unit := ()
def PySem.W.Fast.tw11065562069358916385 : Unit := ()
def PySem.W.Fast.tw11257806573074809608 : Unit := ()
def PySem.W.Fast.tw11320300674569815031 : Unit := ()
def PySem.W.Fast.tw11435881538050470817 : Unit := ()
def PySem.W.Fast.tw11508027745798090810 : Unit := ()
def PySem.W.Fast.tw11512420732973703407 : Unit := ()
def PySem.W.Fast.tw11627600275654071526 : Unit := ()
def PySem.W.Fast.tw11689753834549547049 : Unit := ()
def PySem.W.Fast.tw11940550912638803044 : Unit := ()
def PySem.W.Fast.tw12115592866685879116 : Unit := ()
def PySem.W.Fast.tw12241921056049384587 : Unit := ()
def PySem.W.Fast.tw12301689557419741275 : Unit := ()
def PySem.W.Fast.tw12385211961474429874 : Unit := ()
def PySem.W.Fast.tw12429111534036636326 : Unit := ()
def PySem.W.Fast.tw12472092030364983133 : Unit := ()
def PySem.W.Fast.tw12475109136157906775 : Unit := ()
def PySem.W.Fast.tw12575474332887678381 : Unit := ()
def PySem.W.Fast.tw12600841566931648540 : Unit := ()
def PySem.W.Fast.tw1275452427834998819 : Unit := ()
def PySem.W.Fast.tw12756995730051212514 : Unit := ()
def PySem.W.Fast.tw12877834245051324430 : Unit := ()
def PySem.W.Fast.tw12887728687331503541 : Unit := ()
def PySem.W.Fast.tw13043260745488764836 : Unit := ()
def PySem.W.Fast.tw13231601729391798656 : Unit := ()
def PySem.W.Fast.tw13319721173926201626 : Unit := ()
def PySem.W.Fast.tw13517595311994786236 : Unit := ()
def PySem.W.Fast.tw1359673377814346456 : Unit := ()
def PySem.W.Fast.tw13953598973308243215 : Unit := ()
def PySem.W.Fast.tw14121925365406855647 : Unit := ()
def PySem.W.Fast.tw14140035289236265711 : Unit := ()
def PySem.W.Fast.tw14244074704279148371 : Unit := ()
def PySem.W.Fast.tw14276203414028243887 : Unit := ()
def PySem.W.Fast.tw14287617746115258191 : Unit := ()
def PySem.W.Fast.tw14308837033932971326 : Unit := ()
def PySem.W.Fast.tw14325961087119311055 : Unit := ()
def PySem.W.Fast.tw14511379942584281520 : Unit := ()
def PySem.W.Fast.tw14710468514624068341 : Unit := ()
def PySem.W.Fast.tw14775891487542877659 : Unit := ()
def PySem.W.Fast.tw14822247426835910481 : Unit := ()
def PySem.W.Fast.tw14882582505423745166 : Unit := ()
def PySem.W.Fast.tw14894497657776822051 : Unit := ()
def PySem.W.Fast.tw14961031809615043004 : Unit := ()
def PySem.W.Fast.tw151168376114140093 : Unit := ()
def PySem.W.Fast.tw15154385448624092714 : Unit := ()
def PySem.W.Fast.tw15219389278558818204 : Unit := ()
def PySem.W.Fast.tw15297481401761939601 : Unit := ()
def PySem.W.Fast.tw1544927681068272387 : Unit := ()
def PySem.W.Fast.tw15458538155653150746 : Unit := ()
def PySem.W.Fast.tw1553963873646975807 : Unit := ()
def PySem.W.Fast.tw15576430498802535566 : Unit := ()
def PySem.W.Fast.tw15906931042790280954 : Unit := ()
def PySem.W.Fast.tw15909066398064599404 : Unit := ()
def PySem.W.Fast.tw15977295674153749832 : Unit := ()
def PySem.W.Fast.tw16175820254172077037 : Unit := ()
def PySem.W.Fast.tw16183216042777358004 : Unit := ()
def PySem.W.Fast.tw16437536574085613182 : Unit := ()
def PySem.W.Fast.tw16444485367214509168 : Unit := ()
def PySem.W.Fast.tw16896215645434689996 : Unit := ()
def PySem.W.Fast.tw16961668999436787399 : Unit := ()
def PySem.W.Fast.tw16972484907622463475 : Unit := ()
def PySem.W.Fast.tw17019270919763420382 : Unit := ()
def PySem.W.Fast.tw17152511299131210106 : Unit := ()
def PySem.W.Fast.tw17278142316244516047 : Unit := ()
def PySem.W.Fast.tw17316169912623198540 : Unit := ()
def PySem.W.Fast.tw17481833756614345331 : Unit := ()
def PySem.W.Fast.tw17593289722314948527 : Unit := ()
def PySem.W.Fast.tw17722532699680596560 : Unit := ()
def PySem.W.Fast.tw17833058357369439288 : Unit := ()
def PySem.W.Fast.tw17886570791673871803 : Unit := ()
def PySem.W.Fast.tw17895127332096331822 : Unit := ()
def PySem.W.Fast.tw18004304387632749988 : Unit := ()
def PySem.W.Fast.tw18282335480525216767 : Unit := ()
def PySem.W.Fast.tw1921069022818667020 : Unit := ()
def PySem.W.Fast.tw193312606448761425 : Unit := ()
def PySem.W.Fast.tw2052250671306061831 : Unit := ()
def PySem.W.Fast.tw2070339549731597375 : Unit := ()
def PySem.W.Fast.tw2128619064756236649 : Unit := ()
def PySem.W.Fast.tw2158918206187930593 : Unit := ()
def PySem.W.Fast.tw2160774444298311398 : Unit := ()
def PySem.W.Fast.tw2177919826732686880 : Unit := ()
def PySem.W.Fast.tw2248555234986280154 : Unit := ()
def PySem.W.Fast.tw2252433275706831882 : Unit := ()
def PySem.W.Fast.tw2394848195531563732 : Unit := ()
def PySem.W.Fast.tw2409680650228914303 : Unit := ()
def PySem.W.Fast.tw2518728052940129089 : Unit := ()
def PySem.W.Fast.tw2571774781344403502 : Unit := ()
def PySem.W.Fast.tw263291134219048868 : Unit := ()
def PySem.W.Fast.tw2883725936288981049 : Unit := ()
def PySem.W.Fast.tw292143804718377275 : Unit := ()
def PySem.W.Fast.tw2959693189301681471 : Unit := ()
def PySem.W.Fast.tw3002597965901213445 : Unit := ()
def PySem.W.Fast.tw3041434611059636646 : Unit := ()
def PySem.W.Fast.tw3172229328796718026 : Unit := ()
def PySem.W.Fast.tw3271961567384071075 : Unit := ()
def PySem.W.Fast.tw3329524986943085327 : Unit := ()
def PySem.W.Fast.tw3463035106632690661 : Unit := ()
def PySem.W.Fast.tw3522591251649119209 : Unit := ()
def PySem.W.Fast.tw3636012502527950350 : Unit := ()
def PySem.W.Fast.tw3673298530951390472 : Unit := ()
def PySem.W.Fast.tw3729253922740416981 : Unit := ()
def PySem.W.Fast.tw378064445806346303 : Unit := ()
def PySem.W.Fast.tw3827497161472853358 : Unit := ()
def PySem.W.Fast.tw3830322785753304023 : Unit := ()
def PySem.W.Fast.tw3885171887584943186 : Unit := ()
def PySem.W.Fast.tw3886822607670311722 : Unit := ()
def PySem.W.Fast.tw4049968881902047906 : Unit := ()
def PySem.W.Fast.tw4101072966972999429 : Unit := ()
def PySem.W.Fast.tw4143464421346273553 : Unit := ()
def PySem.W.Fast.tw4277072341191807382 : Unit := ()
def PySem.W.Fast.tw4293631382601492333 : Unit := ()
def PySem.W.Fast.tw4334349644066515814 : Unit := ()
def PySem.W.Fast.tw4339104435881492723 : Unit := ()
def PySem.W.Fast.tw4357428283435768765 : Unit := ()
def PySem.W.Fast.tw4382481707367628167 : Unit := ()
def PySem.W.Fast.tw4506250605740429198 : Unit := ()
def PySem.W.Fast.tw4510450717220892688 : Unit := ()
def PySem.W.Fast.tw4519640517327566698 : Unit := ()
def PySem.W.Fast.tw4640071256895389836 : Unit := ()
def PySem.W.Fast.tw4728677657837686220 : Unit := ()
def PySem.W.Fast.tw4762809031930391067 : Unit := ()
def PySem.W.Fast.tw4811542031399215479 : Unit := ()
def PySem.W.Fast.tw4858304287657280661 : Unit := ()
def PySem.W.Fast.tw4891054961920871728 : Unit := ()
def PySem.W.Fast.tw5020096558455269631 : Unit := ()
def PySem.W.Fast.tw5026923597774490233 : Unit := ()
def PySem.W.Fast.tw5071936322774537372 : Unit := ()
def PySem.W.Fast.tw5164889651625776276 : Unit := ()
def PySem.W.Fast.tw5216304374856936256 : Unit := ()
def PySem.W.Fast.tw5219472766402832350 : Unit := ()
def PySem.W.Fast.tw5334194155668528186 : Unit := ()
def PySem.W.Fast.tw5464374320080880589 : Unit := ()
def PySem.W.Fast.tw5568868018594709636 : Unit := ()
def PySem.W.Fast.tw5713264954957685001 : Unit := ()
def PySem.W.Fast.tw6113220213332014679 : Unit := ()
def PySem.W.Fast.tw6137606727297219983 : Unit := ()
def PySem.W.Fast.tw6258948075970294148 : Unit := ()
def PySem.W.Fast.tw6644146330299216615 : Unit := ()
def PySem.W.Fast.tw6665432555768142644 : Unit := ()
def PySem.W.Fast.tw6742493305734333983 : Unit := ()
def PySem.W.Fast.tw6819694049758740670 : Unit := ()
def PySem.W.Fast.tw6848785626244037596 : Unit := ()
def PySem.W.Fast.tw686253917533115507 : Unit := ()
def PySem.W.Fast.tw6948311260208184197 : Unit := ()
def PySem.W.Fast.tw7051277057862370844 : Unit := ()
def PySem.W.Fast.tw7068748777231968195 : Unit := ()
def PySem.W.Fast.tw7099494091296826395 : Unit := ()
def PySem.W.Fast.tw7353411528384054902 : Unit := ()
def PySem.W.Fast.tw752850369544629732 : Unit := ()
def PySem.W.Fast.tw7533261024900308931 : Unit := ()
def PySem.W.Fast.tw7594793574904373706 : Unit := ()
def PySem.W.Fast.tw7602308283341304692 : Unit := ()
def PySem.W.Fast.tw7695496769687983290 : Unit := ()
def PySem.W.Fast.tw7882784813827532054 : Unit := ()
def PySem.W.Fast.tw8438035241541646589 : Unit := ()
def PySem.W.Fast.tw8461600549375760104 : Unit := ()
def PySem.W.Fast.tw846588886472756395 : Unit := ()
def PySem.W.Fast.tw8576106493819005068 : Unit := ()
def PySem.W.Fast.tw8583832552192377876 : Unit := ()
def PySem.W.Fast.tw8676510544820570594 : Unit := ()
def PySem.W.Fast.tw8850700458613283041 : Unit := ()
def PySem.W.Fast.tw8855524346788619272 : Unit := ()
def PySem.W.Fast.tw8857834471105892312 : Unit := ()
def PySem.W.Fast.tw8863650649901955031 : Unit := ()
def PySem.W.Fast.tw897040157911402232 : Unit := ()
def PySem.W.Fast.tw8990224820503104188 : Unit := ()
def PySem.W.Fast.tw9028566339561992314 : Unit := ()
def PySem.W.Fast.tw9131956338480519418 : Unit := ()
def PySem.W.Fast.tw9212731562584514831 : Unit := ()
def PySem.W.Fast.tw9271954056487954239 : Unit := ()
def PySem.W.Fast.tw939359445749676218 : Unit := ()
def PySem.W.Fast.tw9517159993951252205 : Unit := ()
def PySem.W.Fast.tw9551420365394311941 : Unit := ()
def PySem.W.Fast.tw9643207397771683568 : Unit := ()
def PySem.W.Fast.tw974282052345870881 : Unit := ()
def PySem.W.Fast.tw9746296932627405216 : Unit := ()
def PySem.W.Fast.tw9888774503744607413 : Unit := ()
open PySem PySem.W PyProof.Rows
set_option maxRecDepth 100000 in
set_option maxHeartbeats 0 in
theorem PySem.Challenge.cw_lazyrails_k09_yard_deeds_refused_holds : PySem.Challenge.rw_lazyrails_k09_yard_deeds_refused.Holds := by
 w_on; o_law; k_head; (case hw => w_witness2)
 k_fill
 refine L2.walk_ofTs (l := PySem.Challenge.rw_lazyrails_k09_yard_deeds_refused) (n := 63) (k := 14) (x := "_law_script") (sp := P.sp_lawTs) rfl (by decide) rfl ⟨rfl, by decide, by decide, rfl⟩ (fun w h Y => ⟨PySem.W.km_in_of Y, PySem.W.km_tabs_of Y⟩) ?F
 case F =>
  intro w mg fa h KX G hmg
  refine P.finFs hmg ?_
  refine' ⟨_, P.txt_mk KX G ?zhx ?zhy ?zhz ?zi0 ?zi1 ?zi2 ?zi3 ?zi4 ?zi5 ?zi6 ?zi7 ?zi8 ?zi9 ?zia ?zib ?zic ?zid ?zie ?zif ?zig ?zih ?zii ?zij ?zik ?zil ?zim ?zin ?zio ?zip ?ziq ?zir ?zis ?zit ?ziu ?ziv ?ziw ?zix ?ziy ?ziz ?zj0 ?zj1 ?zj2 ?zj3 ?zj4 ?zj5 ?zj6 ?zj7 ?zj8 ?zj9 ?zja ?zjb ?zjc ?zjd ?zje ?zjf ?zjg ?zjh ?zji ?zjj ?zjk ?zjl ?zjm ?zjn ?zjo ?zjp ?zjq ?zjr ?zjs ?zjt ?zju ?zjv ?zjw ?zjx ?zjy ?zjz ?zk0 ?zk1 ?zk2 ?zk3 ?zk4 ?zk5 ?zk6 ?zk7 ?zk8 ?zk9 ?zka ?zkb ?zkc ?zkd ?zke ?zkf ?zkg ?zkh ?zki ?zkj ?zkk ?zkl ?zkm ?zkn ?zko ?zkp ?zkq ?zkr ?zks ?zkt ?zku ?zkv ?zkw ?zkx ?zky ?zkz ?zl0 ?zl1 ?zl2 ?zl3 ?zl4 ?zl5 ?zl6 ?zl7 ?zl8 ?zl9 ?zla ?zlb ?zlc ?zld ?zle ?zlf ?zlg ?zlh ?zli ?zlj ?zlk ?zll ?zlm ?zln ?zlo ?zlp ?zlq ?zlr ?zls ?zlt ?zlu ?zlv ?zlw ?zlx ?zly ?zlz ?zm0 ?zm1 ?zm2 ?zm3 ?zm4 ?zm5 ?zm6 ?zm7 ?zm8 ?zm9 ?zma ?zmb ?zmc ?zmd ?zme ?zmf ?zmg ?zmh ?zmi ?zmj ?zmk ?zml ?zmm ?zmn ?zmo ?zmp ?zmq ?zmr ?zms ?zmt ?zmu ?zmv ?zmw ?zmx ?zmy ?zmz ?zn0 ?zn1 ?zn2 ?zn3 ?zn4 ?zn5 ?zn6 ?zn7 ?zn8 ?zn9 ?zna ?znb ?znc ?znd ?zne ?znf ?zng ?znh ?zni ?znj ?znk ?znl ?znm ?znn ?zno ?znp ?znq ?znr ?zns ?znt ?znu ?znv ?znw ?znx ?zny ?znz ?zo0 ?zo1 ?zo2 ?zo3 ?zo4 ?zo5 ?zo6 ?zo7 ?zo8 ?zo9 ?zoa ?zob ?zoc ?zod ?zoe ?zof ?zog ?zoh ?zoi ?zoj ?zok ?zol ?zom ?zon ?zoo ?zop ?zoq ?zor ?zos ?zot ?zou ?zov ?zow ?zox ?zoy ?zoz ?zp0 ?zp1 ?zp2 ?zp3 ?zp4 ?zp5 ?zp6 ?zp7 ?zp8 ?zp9 ?zpa ?zpb ?zpc ?zpd ?zpe ?zpf ?zpg ?zph ?zpi ?zpj ?zpk ?zpl ?zpm ?zpn ?zpo ?zpp ?zpq ?zpr ?zps ?zpt ?zpu ?zpv ?zpw ?zpx ?zpy ?zpz ?zq0 ?zq1 ?zq2 ?zq3 ?zq4 ?zq5 ?zq6 ?zq7 ?zq8 ?zq9 ?zqa ?zqb ?zqc ?zqd ?zqe ?zqf ?zqg ?zqh ?zqi ?zqj ?zqk ?zql ?zqm ?zqn ?zqo ?zqp ?zqq ?zqr ?zqs ?zqt ?zqu ?zqv ?zqw ?zqx ?zqy ?zqz ?zr0 ?zr1 ?zr2 ?zr3 ?zr4 ?zr5 ?zr6 ?zr7 ?zr8 ?zr9 ?zra ?zrb ?zrc ?zrd ?zre ?zrf ?zrg ?zrh ?zri ?zrj ?zrk ?zrl ?zrm ?zrn ?zro ?zrp ?zrq ?zrr ?zrs ?zrt ?zru ?zrv ?zrw ?zrx ?zry ?zrz ?zs0 ?zs1 ?zs2 ?zs3 ?zs4 ?zs5 ?zs6 ?zs7 ?zs8 ?zs9 ?zsa ?zsb ?zsc ?zsd ?zse ?zsf ?zsg ?zsh ?zsi ?zsj ?zsk ?zsl ?zsm ?zsn ?zso ?zsp ?zsq ?zsr ?zss, ?mem_J3, ?mem_J2, ?mem_J8, ?mem_Je, ?mem_law⟩
  (case zhx => k_is)
  (case zhy => k_is)
  (case zhz => k_is)
  (case zi0 => k_is)
  (case zi1 => k_is)
  (case zi2 => exact rfl)
  (case zi3 => k_is)
  (case zi4 => k_is)
  (case zi5 => k_is)
  (case zi6 => k_is)
  (case zi7 => exact rfl)
  (case zi8 => k_is)
  (case zi9 => k_is)
  (case zia => k_is)
  (case zib => k_is)
  (case zic => exact rfl)
  (case zid => k_is)
  (case zie => k_is)
  (case zif => k_is)
  (case zig => k_is)
  (case zih => exact rfl)
  (case zii => k_is)
  (case zij => k_is)
  (case zik => k_is)
  (case zil => k_is)
  (case zim => exact rfl)
  (case zin => k_is)
  (case zio => k_is)
  (case zip => k_is)
  (case ziq => k_is)
  (case zir => exact rfl)
  (case zis => k_is)
  (case zit => k_is)
  (case ziu => k_is)
  (case ziv => k_is)
  (case ziw => exact rfl)
  (case zix => k_is)
  (case ziy => k_is)
  (case ziz => k_is)
  (case zj0 => k_is)
  (case zj1 => exact rfl)
  (case zj2 => k_is)
  (case zj3 => k_is)
  (case zj4 => k_is)
  (case zj5 => k_is)
  (case zj6 => exact rfl)
  (case zj7 => k_is)
  (case zj8 => k_is)
  (case zj9 => k_is)
  (case zja => k_is)
  (case zjb => exact rfl)
  (case zjc => k_is)
  (case zjd => k_is)
  (case zje => k_is)
  (case zjf => k_is)
  (case zjg => exact rfl)
  (case zjh => k_is)
  (case zji => k_is)
  (case zjj => k_is)
  (case zjk => k_is)
  (case zjl => exact rfl)
  (case zjm => k_is)
  (case zjn => k_is)
  (case zjo => k_is)
  (case zjp => k_is)
  (case zjq => exact rfl)
  (case zjr => k_is)
  (case zjs => k_is)
  (case zjt => k_is)
  (case zju => k_is)
  (case zjv => exact rfl)
  (case zjw => k_is)
  (case zjx => k_is)
  (case zjy => k_is)
  (case zjz => k_is)
  (case zk0 => exact rfl)
  (case zk1 => k_is)
  (case zk2 => k_is)
  (case zk3 => k_is)
  (case zk4 => k_is)
  (case zk5 => exact rfl)
  (case zk6 => k_is)
  (case zk7 => k_is)
  (case zk8 => k_is)
  (case zk9 => k_is)
  (case zka => exact rfl)
  (case zkb => k_is)
  (case zkc => k_is)
  (case zkd => k_is)
  (case zke => k_is)
  (case zkf => exact rfl)
  (case zkg => k_is)
  (case zkh => k_is)
  (case zki => k_is)
  (case zkj => k_is)
  (case zkk => exact rfl)
  (case zkl => k_is)
  (case zkm => k_is)
  (case zkn => k_is)
  (case zko => k_is)
  (case zkp => exact rfl)
  (case zkq => k_is)
  (case zkr => k_is)
  (case zks => k_is)
  (case zkt => k_is)
  (case zku => exact rfl)
  (case zkv => k_is)
  (case zkw => k_is)
  (case zkx => k_is)
  (case zky => k_is)
  (case zkz => exact rfl)
  (case zl0 => k_is)
  (case zl1 => k_is)
  (case zl2 => k_is)
  (case zl3 => k_is)
  (case zl4 => exact rfl)
  (case zl5 => k_is)
  (case zl6 => k_is)
  (case zl7 => k_is)
  (case zl8 => k_is)
  (case zl9 => exact rfl)
  (case zla => k_is)
  (case zlb => k_is)
  (case zlc => k_is)
  (case zld => k_is)
  (case zle => exact rfl)
  (case zlf => k_is)
  (case zlg => k_is)
  (case zlh => k_is)
  (case zli => k_is)
  (case zlj => exact rfl)
  (case zlk => k_is)
  (case zll => k_is)
  (case zlm => k_is)
  (case zln => k_is)
  (case zlo => exact rfl)
  (case zlp => k_is)
  (case zlq => k_is)
  (case zlr => k_is)
  (case zls => k_is)
  (case zlt => exact rfl)
  (case zlu => k_is)
  (case zlv => k_is)
  (case zlw => k_is)
  (case zlx => k_is)
  (case zly => exact rfl)
  (case zlz => k_is)
  (case zm0 => k_is)
  (case zm1 => k_is)
  (case zm2 => k_is)
  (case zm3 => k_is)
  (case zm4 => exact rfl)
  (case zm5 => k_is)
  (case zm6 => k_is)
  (case zm7 => k_is)
  (case zm8 => k_is)
  (case zm9 => k_is)
  (case zma => exact rfl)
  (case zmb => k_is)
  (case zmc => k_is)
  (case zmd => k_is)
  (case zme => k_is)
  (case zmf => k_is)
  (case zmg => exact rfl)
  (case zmh => k_is)
  (case zmi => k_is)
  (case zmj => k_is)
  (case zmk => k_is)
  (case zml => k_is)
  (case zmm => exact rfl)
  (case zmn => k_is)
  (case zmo => k_is)
  (case zmp => k_is)
  (case zmq => k_is)
  (case zmr => k_is)
  (case zms => exact rfl)
  (case zmt => k_is)
  (case zmu => k_is)
  (case zmv => k_is)
  (case zmw => k_is)
  (case zmx => k_is)
  (case zmy => exact rfl)
  (case zmz => k_is)
  (case zn0 => k_is)
  (case zn1 => k_is)
  (case zn2 => k_is)
  (case zn3 => k_is)
  (case zn4 => k_is)
  (case zn5 => exact rfl)
  (case zn6 => k_is)
  (case zn7 => k_is)
  (case zn8 => k_is)
  (case zn9 => k_is)
  (case zna => k_is)
  (case znb => exact rfl)
  (case znc => k_is)
  (case znd => k_is)
  (case zne => k_is)
  (case znf => k_is)
  (case zng => k_is)
  (case znh => k_is)
  (case zni => exact rfl)
  (case znj => k_is)
  (case znk => k_is)
  (case znl => k_is)
  (case znm => k_is)
  (case znn => k_is)
  (case zno => exact rfl)
  (case znp => k_is)
  (case znq => k_is)
  (case znr => k_is)
  (case zns => k_is)
  (case znt => k_is)
  (case znu => exact rfl)
  (case znv => k_is)
  (case znw => k_is)
  (case znx => k_is)
  (case zny => k_is)
  (case znz => k_is)
  (case zo0 => exact rfl)
  (case zo1 => k_is)
  (case zo2 => k_is)
  (case zo3 => k_is)
  (case zo4 => k_is)
  (case zo5 => k_is)
  (case zo6 => exact rfl)
  (case zo7 => k_is)
  (case zo8 => k_is)
  (case zo9 => k_is)
  (case zoa => k_is)
  (case zob => k_is)
  (case zoc => exact rfl)
  (case zod => k_is)
  (case zoe => k_is)
  (case zof => k_is)
  (case zog => k_is)
  (case zoh => k_is)
  (case zoi => exact rfl)
  (case zoj => k_is)
  (case zok => k_is)
  (case zol => k_is)
  (case zom => k_is)
  (case zon => k_is)
  (case zoo => exact rfl)
  (case zop => k_is)
  (case zoq => k_is)
  (case zor => k_is)
  (case zos => k_is)
  (case zot => k_is)
  (case zou => exact rfl)
  (case zov => k_is)
  (case zow => k_is)
  (case zox => k_is)
  (case zoy => k_is)
  (case zoz => k_is)
  (case zp0 => exact rfl)
  (case zp1 => k_is)
  (case zp2 => k_is)
  (case zp3 => k_is)
  (case zp4 => k_is)
  (case zp5 => k_is)
  (case zp6 => exact rfl)
  (case zp7 => k_is)
  (case zp8 => k_is)
  (case zp9 => k_is)
  (case zpa => k_is)
  (case zpb => k_is)
  (case zpc => exact rfl)
  (case zpd => k_is)
  (case zpe => k_is)
  (case zpf => k_is)
  (case zpg => k_is)
  (case zph => k_is)
  (case zpi => exact rfl)
  (case zpj => k_is)
  (case zpk => k_is)
  (case zpl => k_is)
  (case zpm => k_is)
  (case zpn => k_is)
  (case zpo => exact rfl)
  (case zpp => k_is)
  (case zpq => k_is)
  (case zpr => k_is)
  (case zps => k_is)
  (case zpt => k_is)
  (case zpu => exact rfl)
  (case zpv => k_is)
  (case zpw => k_is)
  (case zpx => k_is)
  (case zpy => k_is)
  (case zpz => k_is)
  (case zq0 => k_is)
  (case zq1 => k_is)
  (case zq2 => k_is)
  (case zq3 => k_is)
  (case zq4 => k_is)
  (case zq5 => k_is)
  (case zq6 => k_is)
  (case zq7 => k_is)
  (case zq8 => k_is)
  (case zq9 => k_is)
  (case zqa => k_is)
  (case zqb => k_is)
  (case zqc => k_is)
  (case zqd => k_is)
  (case zqe => k_is)
  (case zqf => k_is)
  (case zqg => k_is)
  (case zqh => k_is)
  (case zqi => k_is)
  (case zqj => k_is)
  (case zqk => k_is)
  (case zql => k_is)
  (case zqm => k_is)
  (case zqn => k_is)
  (case zqo => k_is)
  (case zqp => k_is)
  (case zqq => k_is)
  (case zqr => k_is)
  (case zqs => k_is)
  (case zqt => k_is)
  (case zqu => k_is)
  (case zqv => k_is)
  (case zqw => k_is)
  (case zqx => kernel_rfl)
  (case zqy => kernel_rfl)
  (case zqz => kernel_rfl)
  (case zr0 => kernel_rfl)
  (case zr1 => kernel_rfl)
  (case zr2 => kernel_rfl)
  (case zr3 => kernel_rfl)
  (case zr4 => kernel_rfl)
  (case zr5 => kernel_rfl)
  (case zr6 => kernel_rfl)
  (case zr7 => kernel_rfl)
  (case zr8 => kernel_rfl)
  (case zr9 => exact rfl)
  (case zra => k_is)
  (case zrb => exact rfl)
  (case zrc => kernel_rfl)
  (case zrd => kernel_rfl)
  (case zre => exact rfl)
  (case zrf => k_is)
  (case zrg => exact rfl)
  (case zrh => kernel_rfl)
  (case zri => kernel_rfl)
  (case zrj => exact rfl)
  (case zrk => k_is)
  (case zrl => exact rfl)
  (case zrm => kernel_rfl)
  (case zrn => kernel_rfl)
  (case zro => exact rfl)
  (case zrp => k_is)
  (case zrq => exact rfl)
  (case zrr => kernel_rfl)
  (case zrs => kernel_rfl)
  (case zrt => exact rfl)
  (case zru => k_is)
  (case zrv => exact rfl)
  (case zrw => kernel_rfl)
  (case zrx => kernel_rfl)
  (case zry => decide)
  (case zrz => decide)
  (case zs0 => decide)
  (case zs1 => decide)
  (case zs2 => decide)
  (case zs3 => decide)
  (case zs4 => decide)
  (case zs5 => decide)
  (case zs6 => decide)
  (case zs7 => decide)
  (case zs8 => k_is)
  (case zs9 => k_is)
  (case zsa => k_is)
  (case zsb => k_is)
  (case zsc => k_is)
  (case zsd => k_is)
  (case zse => k_is)
  (case zsf => k_is)
  (case zsg => k_is)
  (case zsh => k_is)
  (case zsi => k_is)
  (case zsj => exact ⟨_, rfl, by kernel_rfl⟩)
  (case zsk => k_is)
  (case zsl => exact ⟨_, rfl⟩)
  (case zsm => k_is)
  (case zsn => exact rfl)
  (case zso => k_is)
  (case zsp => exact (show 3 <= PySem.sizeLine by decide))
  (case zsq => exact .cons ⟨_, rfl⟩ (.cons ⟨_, rfl⟩ (.cons ⟨_, rfl⟩ (.nil))))
  (case zsr => k_is)
  (case zss => exact ⟨_, rfl⟩)
  (case mem_J3 => decide)
  (case mem_J2 => decide)
  (case mem_J8 => decide)
  (case mem_Je => decide)
  (case mem_law => decide)
