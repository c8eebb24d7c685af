import PyProof.Rows.All
import Wide.All
import OpenK.AllK
import Wide.FinOn
import Lean
import PyProof.EqAt
import PyProof.EqKinds
import PyProof.TupleCall
import PyProof.ZipIter
import PyProof.EnumMake
import PyProof.ListRange
import KE.KDictList
import KE.LcSums
import KE.KTabLook
import PySem.Challenge.RW_lazyrails_k21_twins
set_option Elab.async false
set_option linter.all false
set_option maxRecDepth 100000
/-! THE HAND LAYER, for ints, bools, texts, own classes, DICTS (int and text keys), calls, loops. Paste it whole ahead of your own text; what your proof does not reach may be deleted. -/
namespace L2
open PySem PySem.Spec PyProof.Rows

/-- a key: an int or a str -/
abbrev Key := Sum Int Str
def keyIs : Key → Value → Bool
  | .inl k, v => Value.isInt k v
  | .inr x, v => Value.isStrOf x v
def keyH (w : World) : Key → Int
  | .inl k => hashInt k
  | .inr x => hashStr w x
theorem keyIs_shape : ∀ {k : Key} {v : Value}, keyIs k v = true → (∃ i t, k = Sum.inl i ∧ v = Value.int i t) ∨ (∃ x t, k = Sum.inr x ∧ v = Value.str x t)
  | .inl i, v, h => by
    obtain ⟨t, e⟩ := Value.isInt_shape (k := i) (v := v) h
    exact .inl ⟨i, t, rfl, e⟩
  | .inr x, v, h => by
    obtain ⟨t, e⟩ := Value.isStrOf_shape (x := x) (v := v) h
    exact .inr ⟨x, t, rfl, e⟩
theorem keyIs_int (i : Int) (t : Tok) : keyIs (.inl i) (.int i t) = true := by simp [keyIs, Value.isInt]
theorem keyIs_str (x : Str) (t : Tok) : keyIs (.inr x) (.str x t) = true := by simp [keyIs, Value.isStrOf]
theorem key_ll (a b : Int) : decide ((Sum.inl a : Key) = Sum.inl b) = (a == b) := by
  by_cases e : a = b
  · subst e; simp
  · have h : ¬ (Sum.inl a : Key) = Sum.inl b := fun q => e (Sum.inl.inj q)
    rw [decide_eq_false h]
    exact (beq_eq_false_iff_ne.mpr e).symm
theorem key_rr (a b : Str) : decide ((Sum.inr a : Key) = Sum.inr b) = decide (a = b) := by
  by_cases e : a = b
  · subst e; simp
  · have h : ¬ (Sum.inr a : Key) = Sum.inr b := fun q => e (Sum.inr.inj q)
    rw [decide_eq_false h, decide_eq_false e]
theorem key_lr (a : Int) (b : Str) : decide ((Sum.inl a : Key) = Sum.inr b) = false := decide_eq_false (fun q => nomatch q)
theorem key_rl (a : Str) (b : Int) : decide ((Sum.inr a : Key) = Sum.inl b) = false := decide_eq_false (fun q => nomatch q)

def mixKind (prog : Program) (w : World) : PySem.KeyKind prog w Key where
  is := keyIs
  hash := keyH w
  inj := fun v a b ha hb => by
    rcases keyIs_shape ha with ⟨i, t, rfl, rfl⟩ | ⟨x, t, rfl, rfl⟩
    · rcases keyIs_shape hb with ⟨j, u, rfl, e⟩ | ⟨y, u, rfl, e⟩
      · injection e with e1 _; rw [e1]
      · exact nomatch e
    · rcases keyIs_shape hb with ⟨j, u, rfl, e⟩ | ⟨y, u, rfl, e⟩
      · exact nomatch e
      · injection e with e1 _; rw [e1]
  byValue := fun k v h => by
    rcases keyIs_shape h with ⟨i, t, rfl, rfl⟩ | ⟨x, t, rfl, rfl⟩ <;> rfl
  pyHash := fun hv h => by
    rcases keyIs_shape hv with ⟨i, t, rfl, rfl⟩ | ⟨x, t, rfl, rfl⟩
    · exact wpAny_pyHash_int h
    · exact wpAny_pyHash_str h
  eqBool := fun hu hv h => by
    rcases keyIs_shape hu with ⟨i, t, rfl, rfl⟩ | ⟨x, t, rfl, rfl⟩
    · rcases keyIs_shape hv with ⟨j, u, rfl, rfl⟩ | ⟨y, u, rfl, rfl⟩
      · rw [key_ll] at h; exact wpAny_eqBool_int h
      · rw [key_lr] at h; exact SeqAt.EqAt.int_str i t y u _ _ _ _ h
    · rcases keyIs_shape hv with ⟨j, u, rfl, rfl⟩ | ⟨y, u, rfl, rfl⟩
      · rw [key_rl] at h; exact SeqAt.EqAt.str_int x t j u _ _ _ _ h
      · rw [key_rr] at h; exact wpAny_eqBool_str h
  «strs» := fun k x t v h => by
    rcases keyIs_shape h with ⟨i, u, rfl, e⟩ | ⟨y, u, rfl, e⟩
    · exact nomatch e
    · injection e with e1 _
      subst e1
      cases v <;> rfl

theorem mixKind_int (prog : Program) (w : World) (i : Int) (t : Tok) : (mixKind prog w).is (.inl i) (.int i t) = true := keyIs_int i t
theorem mixKind_str (prog : Program) (w : World) (x : Str) (t : Tok) : (mixKind prog w).is (.inr x) (.str x t) = true := keyIs_str x t
end L2

namespace L2
open PySem PySem.Spec PyProof.Rows

/-- a value, without the heap -/
inductive V where
  | non | bl (b : Bool) | int (i : Int) | str (x : Str) | byt (b : Array UInt8) | flt (b : UInt64) | ref (a : Addr) | ty (n : String)
  deriving DecidableEq

def RelV : V → Value → Prop
  | .non, u => u = Value.none
  | .bl b, u => u = Value.bool b
  | .int i, u => ∃ t, u = Value.int i t
  | .str x, u => ∃ t, u = Value.str x t
  | .byt b, u => ∃ t, u = Value.bytes b t
  | .flt b, u => ∃ t, u = Value.float b t
  | .ref a, u => u = Value.ref a
  | .ty n, u => u = Value.type n

abbrev Vals : List V → List Value → Prop := Paired RelV
theorem Vals.length {xs : List V} {us : List Value} (r : Vals xs us) : xs.length = us.length := Paired.length r
theorem Vals.get : ∀ {xs : List V} {us : List Value} {i : Nat} {x : V}, Vals xs us → xs[i]? = some x → ∃ u, us[i]? = some u ∧ RelV x u
  | _, _, _, _, .nil, e => by simp at e
  | _, _, 0, _, .cons r _, e => by simp at e; subst e; exact ⟨_, rfl, r⟩
  | _, _, i + 1, x, .cons _ t, e => by
    obtain ⟨u, h1, h2⟩ := Vals.get (i := i) (x := x) t (by simpa using e)
    exact ⟨u, by simpa using h1, h2⟩
theorem Vals.set {x : V} {u : Value} (r : RelV x u) : ∀ {xs : List V} {us : List Value} (i : Nat), Vals xs us → Vals (xs.set i x) (us.set i u)
  | _, _, _, .nil => .nil
  | _, _, 0, .cons _ t => .cons r t
  | _, _, i + 1, .cons q t => .cons q (Vals.set r i t)
theorem Vals.append : ∀ {xs ys : List V} {us ws : List Value}, Vals xs us → Vals ys ws → Vals (xs ++ ys) (us ++ ws)
  | _, _, _, _, .nil, s => s
  | _, _, _, _, .cons r t, s => .cons r (Vals.append t s)
theorem Vals.take : ∀ {xs : List V} {us : List Value} (n : Nat), Vals xs us → Vals (xs.take n) (us.take n)
  | _, _, 0, _ => .nil
  | _, _, _ + 1, .nil => .nil
  | _, _, n + 1, .cons r t => .cons r (Vals.take n t)
theorem Vals.drop : ∀ {xs : List V} {us : List Value} (n : Nat), Vals xs us → Vals (xs.drop n) (us.drop n)
  | _, _, 0, r => r
  | _, _, _ + 1, .nil => .nil
  | _, _, n + 1, .cons _ t => Vals.drop n t
theorem Vals.none_of : ∀ {xs : List V} {us : List Value} {i : Nat}, Vals xs us → xs[i]? = none → us[i]? = none := fun {xs us i} r e => by
  have h1 := r.length
  have h2 : xs.length ≤ i := List.getElem?_eq_none_iff.mp e
  exact List.getElem?_eq_none_iff.mpr (by omega)

def RelO : Option V → Option Value → Prop
  | some v, some u => RelV v u
  | none, none => True
  | _, _ => False
def KV {κ : Type} : List (κ × V) → List (κ × Value) → Prop := Paired fun (p : κ × V) (q : κ × Value) => p.1 = q.1 ∧ RelV p.2 q.2

/-- a key of a dict (00_mix): an int or a text -/
def kV : Key → V
  | .inl i => .int i
  | .inr x => .str x

/-- what stands at a tracked address -/
inductive HO where
  /-- a list -/
  | lst (xs : List V)
  /-- a tuple (never changes) -/
  | tup (xs : List V)
  /-- a dict whose keys are ints and texts; one whose keys are tuples of ints and texts (the empty one is both) -/
  | dK (kvs : List (Key × V)) | dT (kvs : List (List Key × V))
  /-- a set of ints: its members, its size -/
  | set (S : Int → Bool) (n : Nat)
  /-- an instance of the class at C, its dict at dx, its attributes -/
  | ins (C dx : Addr) (fs : List (Str × V))
  /-- the dict of the instance at x -/
  | own (x : Addr)
  /-- the dict of an exception -/
  | xd (fs : List (Str × V))
  /-- a bound method, f of x -/
  | met (f x : Addr)
  /-- a range object lo, lo + 1, .. below hi -/
  | rng (lo hi : Int)
  /-- a thing that is known to the object (the script; a dict while a loop walks it): read, never written while it is so -/
  | frz (o : Obj) (u : HO)
  /-- a code object's table -/
  | tbl (ps : Array Value)
  /-- any other thing, by what is true of its one object (a def of one's own: SetO a S n := HO.ext fun h => ..) -/
  | ext (φ : Heap → Prop)

abbrev Hp := Addr → Option HO
def upd (H : Hp) (a : Addr) (o : HO) : Hp := fun b => if b = a then some o else H b
theorem upd_same {H : Hp} {a : Addr} {o : HO} : upd H a o a = some o := by unfold upd; rw [if_pos rfl]
theorem upd_ne {H : Hp} {a b : Addr} {o : HO} (h : b ≠ a) : upd H a o b = H b := by unfold upd; rw [if_neg h]
/-- two objects of different content stand apart -/
theorem ne_of {H : Hp} {a b : Addr} {o u : HO} (h : H a = some o) (h' : H b = some u) (d : o ≠ u) : a ≠ b := by
  intro e; subst e; rw [h] at h'; exact d (Option.some.inj h')
theorem ne_of_none {H : Hp} {a b : Addr} {o : HO} (h : H a = some o) (h' : H b = none) : a ≠ b := by
  intro e; subst e; rw [h] at h'; cases h'

section
variable (P : Program) (w : World)
def ObjOk (H : Hp) (h : Heap) (a : Addr) : HO → Prop
  | .lst xs => xs.length ≤ sizeLine ∧ ∃ (its : List Value) (n : Nat), Vals xs its ∧ h.get? a = some { cls := .type "list", data := .seq its.toArray n }
  | .tup xs => xs.length ≤ sizeLine ∧ ∃ its : List Value, Vals xs its ∧ IsTup h a its.toArray
  | .dK kvs => kvs.length ≤ sizeLine ∧ (a == sysModules) = false ∧ ∃ vs, KV kvs vs ∧ h.DictOf (mixKind P w) a vs
  | .dT kvs => kvs.length ≤ sizeLine ∧ (a == sysModules) = false ∧ ∃ xs : List (List Key × Addr × Value),
      Paired (fun (p : List Key × V) (q : List Key × Addr × Value) => p.1 = q.1 ∧ H q.2.1 = some (.tup (p.1.map kV)) ∧ RelV p.2 q.2.2) kvs xs ∧
      ∃ o es ep, h.get? a = some o ∧ o.ExactDict ∧ o.data = .dict es ep ∧ es.toList = xs.map (entryOfKey (tupleKind (mixKind P w))) ∧ (xs.map (·.1)).Nodup
  | .set S n => h.SetOf (intKind P w) a S n
  | .ins C dx fs => H dx = some (.own a) ∧ fs.length ≤ 1000 ∧ dx ≠ a ∧ h.get? a = some (PySem.W.instObj C dx) ∧
      ∃ mA, h.Ns1 dx mA ∧ (∀ f, RelO (fs.lookup f) (mA f)) ∧ PySem.Within mA (fs.map (·.1))
  | .own _ => ∃ o, h.get? a = some o
  | .xd fs => ∃ mA, h.Ns1 a mA ∧ ∀ f, RelO (fs.lookup f) (mA f)
  | .rng lo hi => ∃ t u v, h.get? a = some { cls := .type "range", data := .fields #[.int lo t, .int hi u, .int 1 v] }
  | .frz o u => h.get? a = some o ∧ ObjOk H h a u
  | .tbl ps => h.get? a = some { cls := .none, data := .fields ps }
  | .met f x => h.get? a = some (PySem.W.methodObj (.ref f) (.ref x))
  | .ext φ => φ h ∧ (∃ o, h.get? a = some o) ∧ ∀ h1 h2 : Heap, φ h1 → (∀ o, h1.get? a = some o → h2.get? a = some o) → φ h2
/-- the abstract heap is held -/
def HOk (H : Hp) (h : Heap) : Prop := ∀ a o, H a = some o → ObjOk P w H h a o
end

section
variable {P : Program} {w : World} {H H' : Hp} {h h' : Heap} {a : Addr} {o : HO}
theorem ObjOk.lt (x : ObjOk P w H h a o) : a < h.objs.size := by
  cases o with
  | lst xs => obtain ⟨_, _, _, _, e⟩ := x; exact Heap.lt_size e
  | tup xs => obtain ⟨_, _, _, p⟩ := x; exact p.lt
  | dK kvs => obtain ⟨_, _, _, _, o, _, _, e, _⟩ := x; exact Heap.lt_size e
  | dT kvs => obtain ⟨_, _, _, _, o, _, _, e, _⟩ := x; exact Heap.lt_size e
  | set S n => obtain ⟨o, _, _, _, e, _⟩ := x; exact Heap.lt_size e
  | ins C dx fs => obtain ⟨_, _, _, e, _⟩ := x; exact Heap.lt_size e
  | own y => obtain ⟨_, e⟩ := x; exact Heap.lt_size e
  | xd fs => obtain ⟨_, ⟨_, _, _, e, _⟩, _⟩ := x; exact Heap.lt_size e
  | rng lo hi => obtain ⟨_, _, _, e⟩ := x; exact Heap.lt_size e
  | frz ob u => obtain ⟨e, _⟩ := x; exact Heap.lt_size e
  | tbl ps => exact Heap.lt_size (show h.get? a = some _ from x)
  | met f y => exact Heap.lt_size (show h.get? a = some _ from x)
  | ext φ => obtain ⟨_, ⟨_, e⟩, _⟩ := x; exact Heap.lt_size e
theorem Paired.mapP {α β : Type} {F G : α → β → Prop} : ∀ {l₁ : List α} {l₂ : List β}, Paired F l₁ l₂ → (∀ a b, F a b → G a b) → Paired G l₁ l₂
  | _, _, .nil, _ => .nil
  | _, _, .cons r t, f => .cons (f _ _ r) (Paired.mapP t f)
/-- what an object's description leans on: its own object, its own dict, the tuples -/
theorem ObjOk.stay (x : ObjOk P w H h a o) (k : ∀ b u, (b = a ∨ H b = some (.own a)) → h.get? b = some u → h'.get? b = some u)
    (ho : ∀ b, H b = some (.own a) → H' b = some (.own a)) (ht : ∀ b xs, H b = some (.tup xs) → H' b = some (.tup xs)) : ObjOk P w H' h' a o := by
  induction o with
  | lst xs => obtain ⟨z, its, n, r, e⟩ := x; exact ⟨z, its, n, r, k _ _ (.inl rfl) e⟩
  | tup xs => obtain ⟨z, its, r, ob, e, c⟩ := x; exact ⟨z, its, r, ob, k _ _ (.inl rfl) e, c⟩
  | dK kvs => obtain ⟨z, y, vs, r, ob, es, ep, e, c⟩ := x; exact ⟨z, y, vs, r, ob, es, ep, k _ _ (.inl rfl) e, c⟩
  | dT kvs =>
    obtain ⟨z, y, xs, r, ob, es, ep, e, c⟩ := x
    exact ⟨z, y, xs, Paired.mapP r fun p q z => ⟨z.1, ht _ _ z.2.1, z.2.2⟩, ob, es, ep, k _ _ (.inl rfl) e, c⟩
  | set S n => obtain ⟨ob, es, ep, t, e, c⟩ := x; exact ⟨ob, es, ep, t, k _ _ (.inl rfl) e, c⟩
  | ins C dx fs =>
    obtain ⟨d, z, ne, e, mA, ⟨od, es, ep, e2, c⟩, r⟩ := x
    exact ⟨ho _ d, z, ne, k _ _ (.inl rfl) e, mA, ⟨od, es, ep, k _ _ (.inr d) e2, c⟩, r⟩
  | own y => obtain ⟨ob, e⟩ := x; exact ⟨ob, k _ _ (.inl rfl) e⟩
  | xd fs => obtain ⟨mA, ⟨od, es, ep, e, c⟩, r⟩ := x; exact ⟨mA, ⟨od, es, ep, k _ _ (.inl rfl) e, c⟩, r⟩
  | rng lo hi => obtain ⟨t, u, v, e⟩ := x; exact ⟨t, u, v, k _ _ (.inl rfl) e⟩
  | frz ob u ih => obtain ⟨e, q⟩ := x; exact ⟨k _ _ (.inl rfl) e, ih q⟩
  | tbl ps =>
    have e : h.get? a = some { cls := .none, data := .fields ps } := x
    show h'.get? a = some { cls := .none, data := .fields ps }
    exact k a _ (.inl rfl) e
  | met f y =>
    have e : h.get? a = some (PySem.W.methodObj (.ref f) (.ref y)) := x
    show h'.get? a = some (PySem.W.methodObj (.ref f) (.ref y))
    exact k a _ (.inl rfl) e
  | ext φ => obtain ⟨p, ⟨o, e⟩, st⟩ := x; exact ⟨st _ _ p fun o q => k _ _ (.inl rfl) q, ⟨o, k _ _ (.inl rfl) e⟩, st⟩
theorem HOk.lt (x : HOk P w H h) (e : H a = some o) : a < h.objs.size := (x a o e).lt
theorem HOk.fresh (x : HOk P w H h) (e : h.objs.size ≤ a) : H a = none := by
  cases q : H a with
  | none => rfl
  | some u => exact absurd (Nat.lt_of_lt_of_le (x.lt q) e) (Nat.lt_irrefl _)
/-- every object of the heap is kept -/
theorem HOk.kept (x : HOk P w H h) (k : ∀ b u, h.get? b = some u → h'.get? b = some u) : HOk P w H h' := fun a o e =>
  (x a o e).stay (fun b u _ q => k b u q) (fun _ q => q) fun _ _ q => q
/-- a new object is laid and tracked -/
theorem HOk.laid (x : HOk P w H h) (k : ∀ b u, h.get? b = some u → h'.get? b = some u) (hp : h.objs.size ≤ a) (new : ObjOk P w (upd H a o) h' a o) : HOk P w (upd H a o) h' := fun b u e => by
  have hn := x.fresh hp
  by_cases hb : b = a
  · subst hb; rw [upd_same] at e; cases e; exact new
  · rw [upd_ne hb] at e
    exact (x b u e).stay (fun c v _ q => k c v q) (fun c q => by rw [upd_ne (ne_of_none q hn)]; exact q) fun c xs q => by rw [upd_ne (ne_of_none q hn)]; exact q
end

/-- what may be read as u: it is u, or a known u -/
def Rd (H : Hp) (a : Addr) (u : HO) : Prop := H a = some u ∨ ∃ o, H a = some (.frz o u)
theorem Rd.of {H : Hp} {a : Addr} {u : HO} (h : H a = some u) : Rd H a u := .inl h
theorem Rd.ok {P : Program} {w : World} {H : Hp} {h : Heap} {a : Addr} {u : HO} (r : Rd H a u) (x : HOk P w H h) : ObjOk P w H h a u := by
  rcases r with r | ⟨o, r⟩
  · exact x a u r
  · obtain ⟨_, q⟩ := x a _ r
    exact q
/-- what may be written -/
def Mut : Option HO → Prop
  | some (.lst _) => True
  | some (.dK _) => True
  | some (.dT _) => True
  | some (.set _ _) => True
  | some (.ins _ _ _) => True
  | some (.ext _) => True
  | _ => False
section
variable {P : Program} {w : World} {H : Hp} {h h' : Heap} {x e : Addr} {o' : HO}
/-- the object at e is changed: x itself, or the dict of the instance x -/
theorem HOk.write (ok : HOk P w H h) (mu : Mut (H x)) (he : e = x ∨ H e = some (.own x)) (k : ∀ b u, b ≠ e → h.get? b = some u → h'.get? b = some u) (heo : ∃ u, h'.get? e = some u)
    (new : ObjOk P w (upd H x o') h' x o') : HOk P w (upd H x o') h' := fun b u q => by
  have nown : ∀ c y, H c = some (.own y) → c ≠ x := fun c y r z => by subst z; rw [r] at mu; exact mu
  have ntup : ∀ c xs, H c = some (.tup xs) → c ≠ x := fun c xs r z => by subst z; rw [r] at mu; exact mu
  by_cases hb : b = x
  · subst hb; rw [upd_same] at q; cases q; exact new
  · rw [upd_ne hb] at q
    by_cases hbe : b = e
    · have q' : H b = some (.own x) := by
        rcases he with z | z
        · exact absurd (hbe.trans z) hb
        · rw [hbe]; exact z
      rw [q] at q'; cases q'
      obtain ⟨v, hv⟩ := heo
      exact ⟨v, by rw [hbe]; exact hv⟩
    · refine (ok b u q).stay (fun c v hc r => k c v ?_ r) (fun c r => by rw [upd_ne (nown c b r)]; exact r) fun c xs r => by rw [upd_ne (ntup c xs r)]; exact r
      rcases hc with rfl | hc
      · exact hbe
      · rintro rfl
        rcases he with z | z
        · exact nown c b hc z
        · rw [hc] at z; cases z; exact hb rfl
end

/-! ### kept unless tracked; of the frames at fs (the callers') the slots may change (an exception that passes writes there); of the records at ex (iterators) nothing is said -/
structure Un (fs ex : List Addr) (H H' : Hp) (h h' : Heap) : Prop where
  keep : ∀ b o, h.get? b = some o → H b = none → b ∉ fs → b ∉ ex → h'.get? b = some o
  slot : ∀ b o, h.get? b = some o → H b = none → b ∈ fs → b ∉ ex → ∃ sl, h'.get? b = some { o with slots := sl }
  free : ∀ b o, h.get? b = some o → H b = none → b ∉ ex → H' b = none
  there : ∀ b o, h.get? b = some o → b ∉ ex → ∃ o', h'.get? b = some o'
  tups : ∀ b xs, H b = some (.tup xs) → H' b = some (.tup xs)
  frzs : ∀ b o u, H b = some (.frz o u) → H' b = some (.frz o u)
  tbls : ∀ b ps, H b = some (.tbl ps) → ∃ more, H' b = some (.tbl (ps ++ more))
section
variable {fs fs' ex ex' : List Addr} {H H1 H2 : Hp} {h h1 h2 h' : Heap} {a x e : Addr} {o : HO}
theorem Un.any (u : Un fs ex H H1 h h1) {b : Addr} {ob : Obj} (q : h.get? b = some ob) (n : H b = none) (hx : b ∉ ex) : ∃ sl, h1.get? b = some { ob with slots := sl } := by
  by_cases hb : b ∈ fs
  · exact u.slot b ob q n hb hx
  · exact ⟨ob.slots, u.keep b ob q n hb hx⟩
theorem Un.trans (a : Un fs ex H H1 h h1) (b : Un fs ex H1 H2 h1 h2) : Un fs ex H H2 h h2 where
  keep := fun c ob q n hc hx => b.keep c ob (a.keep c ob q n hc hx) (a.free c ob q n hx) hc hx
  slot := fun c ob q n hc hx => by
    obtain ⟨sl, e1⟩ := a.slot c ob q n hc hx
    obtain ⟨sl', e2⟩ := b.slot c _ e1 (a.free c ob q n hx) hc hx
    exact ⟨sl', e2⟩
  free := fun c ob q n hx => by
    obtain ⟨o', e1⟩ := a.there c ob q hx
    exact b.free c o' e1 (a.free c ob q n hx) hx
  there := fun c ob q hx => by
    obtain ⟨o', e1⟩ := a.there c ob q hx
    exact b.there c o' e1 hx
  tups := fun c xs q => b.tups c xs (a.tups c xs q)
  frzs := fun c ob xs q => b.frzs c ob xs (a.frzs c ob xs q)
  tbls := fun c ps q => by
    obtain ⟨m1, e1⟩ := a.tbls c ps q
    obtain ⟨m2, e2⟩ := b.tbls c _ e1
    exact ⟨m1 ++ m2, by rw [e2, Array.append_assoc]⟩
theorem Un.kept (k : ∀ b u, h.get? b = some u → h'.get? b = some u) : Un fs ex H H h h' :=
  ⟨fun b ob q _ _ _ => k b ob q, fun b ob q _ _ _ => ⟨ob.slots, k b ob q⟩, fun _ _ _ n _ => n, fun b ob q _ => ⟨ob, k b ob q⟩, fun _ _ q => q, fun _ _ _ q => q, fun _ ps q => ⟨#[], by rw [q]; simp⟩⟩
theorem Un.refl : Un fs ex H H h h := Un.kept fun _ _ q => q
theorem Un.laid (k : ∀ b u, h.get? b = some u → h'.get? b = some u) (hp : h.objs.size ≤ a) (hn : H a = none) : Un fs ex H (upd H a o) h h' where
  keep := fun b u q _ _ _ => k b u q
  slot := fun b u q _ _ _ => ⟨u.slots, k b u q⟩
  free := fun b u q n _ => by rw [upd_ne (Nat.ne_of_lt (Nat.lt_of_lt_of_le (Heap.lt_size q) hp))]; exact n
  there := fun b u q _ => ⟨u, k b u q⟩
  tups := fun b xs q => by rw [upd_ne (ne_of_none q hn)]; exact q
  frzs := fun b u xs q => by rw [upd_ne (ne_of_none q hn)]; exact q
  tbls := fun b ps q => ⟨#[], by rw [upd_ne (ne_of_none q hn), q]; simp⟩
theorem Un.write (mu : Mut (H x)) (he : e = x ∨ H e = some (.own x)) (k : ∀ b u, b ≠ e → h.get? b = some u → h'.get? b = some u) (heo : ∃ u, h'.get? e = some u) : Un fs ex H (upd H x o) h h' := by
  have hx : ∀ b, H b = none → b ≠ x := fun b n z => by subst z; rw [n] at mu; exact mu
  have hb : ∀ b, H b = none → b ≠ e := fun b n z => by
    subst z
    rcases he with r | r
    · exact hx b n r
    · rw [n] at r; cases r
  have hm : ∀ b u, H b = some u → ¬ Mut (some u) → b ≠ x := fun b u q nm z => by subst z; rw [q] at mu; exact nm mu
  refine ⟨fun b u q n _ _ => k b u (hb b n) q, fun b u q n _ _ => ⟨u.slots, k b u (hb b n) q⟩, fun b u q n _ => by rw [upd_ne (hx b n)]; exact n, fun b u q _ => ?_,
    fun b xs q => by rw [upd_ne (hm b _ q fun z => z)]; exact q, fun b u xs q => by rw [upd_ne (hm b _ q fun z => z)]; exact q, fun b ps q => ⟨#[], by rw [upd_ne (hm b _ q fun z => z), q]; simp⟩⟩
  by_cases hbe : b = e
  · subst hbe; exact heo
  · exact ⟨u, k b u hbe q⟩
theorem Un.mono (u : Un fs ex H H1 h h1) (hs : ∀ b ∈ fs, b ∈ fs') (hx : ∀ b ∈ ex, b ∈ ex') : Un fs' ex' H H1 h h1 :=
  ⟨fun b ob q n hb he => u.keep b ob q n (fun z => hb (hs b z)) fun z => he (hx b z), fun _ _ q n _ he => u.any q n fun z => he (hx _ z), fun b ob q n he => u.free b ob q n fun z => he (hx b z), fun b ob q he => u.there b ob q fun z => he (hx b z), u.tups, u.frzs, u.tbls⟩
end

/-! ### the heap without what is tracked -/
def trk (h : Heap) (H : Hp) : List Addr := (List.range h.objs.size).filter fun a => (H a).isSome
def hidT (h : Heap) (H : Hp) : Heap := PySem.W.hideAll h (trk h H)
theorem hidT_size (h : Heap) (H : Hp) : (hidT h H).objs.size = h.objs.size := PySem.W.hideAll_size _ _
theorem hidT_get {h : Heap} {H : Hp} {b : Addr} {o : Obj} (e : h.get? b = some o) (n : H b = none) : (hidT h H).get? b = some o :=
  PySem.W.hideAll_get _ e fun hm => by
    have q : (H b).isSome = true := (List.mem_filter.mp hm).2
    rw [n] at q; simp at q
theorem of_hidT {h : Heap} {H : Hp} {b : Addr} {o : Obj} (e : (hidT h H).get? b = some o) : h.get? b = some o ∧ H b = none := by
  have e' : h.get? b = some o := PySem.W.of_hideAll (trk h H) e
  refine ⟨e', ?_⟩
  cases q : H b with
  | none => rfl
  | some x =>
    have hm : b ∈ trk h H := List.mem_filter.mpr ⟨List.mem_range.mpr (Heap.lt_size e'), by simp [q]⟩
    have z : (hidT h H).get? b = none := PySem.W.hideAll_none (trk h H) hm
    rw [z] at e; cases e

/-! ### OpenK's ledger, filled with every new object but one -/
def allNews (g h : Heap) (L : Addr) : List (Addr × Obj) := (List.range h.objs.size).filterMap fun a => if a = L ∨ (g.get? a).isSome = true then none else (h.get? a).map fun o => (a, o)
def rest (g h : Heap) (L d : Addr) : List (Addr × Obj) := (allNews g h L).filter fun p => decide (p.1 ≠ d)
end L2

namespace L2
open PySem PySem.Spec PyProof.Rows

/-- the module's facts, over the base: the heap at the law's entry without what is tracked there -/
structure Mod (K : PySem.W.Frag) (mg : Str → Option Value) (base : Heap) : Prop where
  kin : K.In base
  glob : base.Ns mainGlobals mg
  blt : ∃ mb, base.Ns builtinsNs mb ∧ ∀ x : Str, x ≠ "__name__" → mb x = bootBuiltins x
  nolimit : base.NoLimit

/-- the context: a def's body (or a comprehension's block) running. base: fixed through the whole law; s₀, H₀: the entry; outer: the frames whose slots others may change (a def's callers); stack: all frames that run;
   ex: iterators that were made ahead of the entry and are walked here (a comprehension's); fn: the names whose cells were made at the entry (a def: all; a comprehension's block: its own); calm: not within an except suite; pn: pins that every state bears; xe: what is wanted of an exception that leaves the code -/
structure Cx where
  prog : Program
  w : World
  K : PySem.W.Frag
  mg : Str → Option Value
  base : Heap
  A : Around
  N : List Str
  s₀ : Shared
  H₀ : Hp
  env : Env
  outer : List Env
  stack : List Env
  ex : List Addr
  fn : Str → Bool
  calm : Bool
  pn : List (Addr × Obj)
  xe : Value → Shared → Prop
/-- the callers' frames -/
def frs (l : List Env) : List Addr := l.filterMap (·.frame)
abbrev Cx.fs (X : Cx) : List Addr := frs X.outer

def Vis (sc : Scope) (x : Str) : Prop := sc.names.lookup x = some .local ∨ sc.names.lookup x = some .cell ∨ sc.names.lookup x = some .free
def Loc (sc : Scope) (x : Str) : Prop := sc.names.lookup x = some .local ∨ sc.names.lookup x = some .cell
def Look (env : Env) (h : Heap) (m : Str → Option Value) (x : Str) (u : Value) : Prop :=
  (env.kindOf x = some .local ∧ m x = some u) ∨ ((env.kindOf x = some .cell ∨ env.kindOf x = some .free) ∧ ∃ c, env.cells.lookup x = some c ∧ h.IsCell c (some u))

structure Cx.Ok (X : Cx) : Prop where
  mod : Mod X.K X.mg X.base
  kind : X.env.scope.kind = .function
  glob : X.env.globals = mainGlobals
  blt : X.env.builtins = builtinsNs
  above : X.s₀.heap.objs.size ≤ X.env.locals
  inj : ∀ x y c, X.env.cells.lookup x = some c → X.env.cells.lookup y = some c → x = y
  has : ∀ x, (X.env.kindOf x = some .cell ∨ X.env.kindOf x = some .free) → ∃ c, X.env.cells.lookup x = some c
  cab : ∀ x c, X.fn x = true → X.env.cells.lookup x = some c → X.s₀.heap.objs.size ≤ c
  hd : X.calm = true → X.A.handled = none
  frames : X.A.frames = some X.stack
  stk : X.stack = X.outer ∨ (X.stack = X.env :: X.outer ∧ X.env.frame = some X.env.locals)
  exf : ∀ b ∈ X.ex, b ≠ X.env.locals ∧ ∀ x c, X.env.cells.lookup x = some c → c ≠ b
  bs : ∀ b o, X.base.get? b = some o → X.s₀.heap.get? b = some o ∧ X.H₀ b = none
  bsz : X.base.objs.size ≤ X.s₀.heap.objs.size
  noex : ∀ b o, X.base.get? b = some o → b ∉ X.ex
  exfs : ∀ b ∈ X.ex, b ∉ X.fs
  funs : X.s₀.heap.FunFrames X.base X.outer
  frf : ∀ b ∈ X.fs, X.H₀ b = none

structure Inv (X : Cx) (pins : List (Addr × Obj)) (σ : List (Option V)) (H : Hp) (s : Shared) : Prop where
  ok : X.Ok
  os : s.os = X.s₀.os
  bare : AllBare s.gens
  base : Un X.fs X.ex X.H₀ H X.s₀.heap s.heap
  loc : ∃ m, s.heap.Ns X.env.locals m ∧ ∀ (i : Nat) (x : Str) (v : V), X.N[i]? = some x → σ[i]? = some (some v) → Vis X.env.scope x → ∃ u, RelV v u ∧ Look X.env s.heap m x u
  cell : ∀ x c, X.env.cells.lookup x = some c → ∃ v, s.heap.IsCell c v
  free : H X.env.locals = none
  freeC : ∀ x c, X.env.cells.lookup x = some c → H c = none
  pin : ∀ p ∈ X.pn ++ pins, s.heap.get? p.1 = some p.2 ∧ H p.1 = none ∧ p.1 ≠ X.env.locals ∧ p.1 ∉ X.fs ∧ ∀ v, p.2.data ≠ .cell v
  hok : HOk X.prog X.w H s.heap
  len : σ.length = X.N.length

section
variable {X : Cx} {pins : List (Addr × Obj)} {σ : List (Option V)} {H H' : Hp} {s : Shared} {h' : Heap}

theorem Cx.Ok.nofr (ok : X.Ok) {b : Addr} {o : Obj} (e : X.base.get? b = some o) : b ∉ X.fs := fun hb => by
  have := (ok.funs.mem hb).1
  rw [e] at this; cases this
theorem Inv.bs (I : Inv X pins σ H s) : ∀ b o, X.base.get? b = some o → s.heap.get? b = some o ∧ H b = none := fun b o e =>
  ⟨I.base.keep b o (I.ok.bs b o e).1 (I.ok.bs b o e).2 (I.ok.nofr e) (I.ok.noex b o e), I.base.free b o (I.ok.bs b o e).1 (I.ok.bs b o e).2 (I.ok.noex b o e)⟩
theorem Inv.bk (I : Inv X pins σ H s) : ∀ b o, X.base.get? b = some o → s.heap.get? b = some o := fun b o e => (I.bs b o e).1
theorem Inv.mod (I : Inv X pins σ H s) : Mod X.K X.mg X.base := I.ok.mod
theorem Inv.kIn (I : Inv X pins σ H s) : X.K.In s.heap := I.ok.mod.kin.keeps I.bk
theorem Inv.nolimit (I : Inv X pins σ H s) : s.heap.NoLimit := I.ok.mod.nolimit.keeps I.bk
/-- the frame over the base: for OpenK's rules (K.In X.base is I.mod.kin) -/
theorem Inv.fr (I : Inv X pins σ H s) : ∃ m, Fr X.base X.env.locals s.heap m :=
  let ⟨m, hn, _⟩ := I.loc
  ⟨m, hn, I.bk, Nat.le_trans I.ok.bsz I.ok.above⟩
theorem Inv.lt (I : Inv X pins σ H s) : X.env.locals < s.heap.objs.size := let ⟨_, hn, _⟩ := I.loc; hn.lt
theorem Inv.sz (I : Inv X pins σ H s) : X.s₀.heap.objs.size ≤ s.heap.objs.size := Nat.le_trans I.ok.above (Nat.le_of_lt I.lt)
theorem Inv.nofs (I : Inv X pins σ H s) {a : Addr} (h : s.heap.objs.size ≤ a) : a ∉ X.fs := fun hb => by
  obtain ⟨_, o, ho, _⟩ := I.ok.funs.mem hb
  exact absurd (Nat.lt_of_lt_of_le (Heap.lt_size ho) (Nat.le_trans I.sz h)) (Nat.lt_irrefl _)
theorem Inv.cne (I : Inv X pins σ H s) : ∀ x c, X.env.cells.lookup x = some c → c ≠ X.env.locals := fun x c e z => by
  obtain ⟨v, o, ho, hd⟩ := I.cell x c e
  obtain ⟨m, ⟨o', es, ep, ho', hd', _⟩, _⟩ := I.loc
  rw [z, ho'] at ho; cases ho; rw [hd'] at hd; cases hd
theorem Inv.funs (I : Inv X pins σ H s) : s.heap.FunFrames X.base X.outer := by
  have all : ∀ (l : List Env), (∀ b ∈ frs l, b ∈ X.fs) → X.s₀.heap.FunFrames X.base l → s.heap.FunFrames X.base l := by
    intro l
    induction l with
    | nil => intro _ _; trivial
    | cons env r ih =>
      intro hs hl
      obtain ⟨hk, ⟨L, o, hf, hn, ho, hd⟩, hr⟩ := hl
      have hL : L ∈ X.fs := hs L (by unfold frs; rw [List.filterMap_cons, hf]; exact List.mem_cons_self)
      obtain ⟨sl, e⟩ := I.base.slot L o ho (I.ok.frf L hL) hL fun z => I.ok.exfs L z hL
      exact ⟨hk, ⟨L, _, hf, hn, e, hd⟩, ih (fun b hb => hs b (by unfold frs; rw [List.filterMap_cons, hf]; exact List.mem_cons_of_mem _ hb)) hr⟩
  exact all X.outer (fun _ hb => hb) I.ok.funs

/-- the frames that run, for a call -/
theorem Inv.stack (I : Inv X pins σ H s) : s.heap.FunFrames X.base X.stack := by
  rcases I.ok.stk with e | ⟨e, hf⟩
  · rw [e]; exact I.funs
  · rw [e]
    obtain ⟨m, hn, _⟩ := I.loc
    refine .cons (by rw [I.ok.kind]; decide) hf hn ?_ I.funs
    exact Heap.get?_none_of_le (Nat.le_trans I.ok.bsz I.ok.above)
theorem Inv.stkSub (I : Inv X pins σ H s) : ∀ b ∈ frs X.stack, b ∈ X.env.locals :: X.fs := fun b hb => by
  rcases I.ok.stk with e | ⟨e, hf⟩
  · rw [e] at hb; exact List.mem_cons_of_mem _ hb
  · rw [e] at hb
    unfold frs at hb
    rw [List.filterMap_cons, hf] at hb
    exact hb
theorem Inv.stkFree (I : Inv X pins σ H s) : ∀ b ∈ frs X.stack, H b = none := fun b hb => by
  rcases List.mem_cons.mp (I.stkSub b hb) with e | hb
  · rw [e]; exact I.free
  · obtain ⟨_, o, ho, _⟩ := I.ok.funs.mem hb
    exact I.base.free b o ho (I.ok.frf b hb) fun z => I.ok.exfs b z hb

/-- THE STEP: the untracked objects but the frame and the records at ch are kept (the callers' frames up to slots), the frame's map is kept, the new abstract heap is held -/
theorem Inv.step {g' : Array GenState} {t' : Nat} {d' : Drawn} {ch : List Addr} (I : Inv X pins σ H s)
    (hch : ∀ b ∈ ch, (b ∈ X.ex ∨ X.s₀.heap.objs.size ≤ b) ∧ b ≠ X.env.locals ∧ (∀ x c, X.env.cells.lookup x = some c → c ≠ b) ∧ ∀ p ∈ X.pn ++ pins, p.1 ≠ b)
    (keep : ∀ b o, b ≠ X.env.locals → b ∉ X.fs → b ∉ ch → s.heap.get? b = some o → H b = none → h'.get? b = some o)
    (slot : ∀ b o, b ≠ X.env.locals → b ∈ X.fs → b ∉ ch → s.heap.get? b = some o → H b = none → ∃ sl, h'.get? b = some { o with slots := sl }) (free : ∀ b o, b ∉ ch → s.heap.get? b = some o → H b = none → H' b = none)
    (there : ∀ b o, b ∉ ch → s.heap.get? b = some o → ∃ o', h'.get? b = some o')
    (tups : ∀ b xs, H b = some (.tup xs) → H' b = some (.tup xs)) (frzs : ∀ b o u, H b = some (.frz o u) → H' b = some (.frz o u)) (tbls : ∀ b ps, H b = some (.tbl ps) → ∃ more, H' b = some (.tbl (ps ++ more)))
    (ns : ∀ m, s.heap.Ns X.env.locals m → h'.Ns X.env.locals m) (hok : HOk X.prog X.w H' h') (hg : AllBare g') :
    Inv X pins σ H' { s with heap := h', gens := g', drawn := d', toks := t' } := by
  have neL : ∀ b o, X.s₀.heap.get? b = some o → b ≠ X.env.locals := fun b o e => Nat.ne_of_lt (Nat.lt_of_lt_of_le (Heap.lt_size e) I.ok.above)
  have neC : ∀ b o, X.s₀.heap.get? b = some o → b ∉ X.ex → b ∉ ch := fun b o e hx hb => by
    rcases (hch b hb).1 with z | z
    · exact hx z
    · exact absurd (Nat.lt_of_lt_of_le (Heap.lt_size e) z) (Nat.lt_irrefl _)
  have cellK : ∀ x c, X.env.cells.lookup x = some c → ∀ v, s.heap.IsCell c v → h'.IsCell c v := fun x c e v ⟨o, ho, hd⟩ => by
    have nch : c ∉ ch := fun z => (hch c z).2.2.1 x c e rfl
    by_cases hc : c ∈ X.fs
    · obtain ⟨sl, q⟩ := slot c o (I.cne x c e) hc nch ho (I.freeC x c e)
      exact ⟨_, q, hd⟩
    · exact ⟨o, keep c o (I.cne x c e) hc nch ho (I.freeC x c e), hd⟩
  refine ⟨I.ok, I.os, hg, ⟨fun b o e n hb hx => ?_, fun b o e n hb hx => ?_, fun b o e n hx => ?_, fun b o e hx => ?_, fun b xs e => tups b xs (I.base.tups b xs e), fun b o xs e => frzs b o xs (I.base.frzs b o xs e), fun b ps e => ?_⟩, ?_, fun x c e => ?_, ?_, fun x c e => ?_, fun p hp => ?_, hok, I.len⟩
  · exact keep b o (neL b o e) hb (neC b o e hx) (I.base.keep b o e n hb hx) (I.base.free b o e n hx)
  · obtain ⟨sl, e1⟩ := I.base.slot b o e n hb hx
    obtain ⟨sl', e2⟩ := slot b _ (neL b o e) hb (neC b o e hx) e1 (I.base.free b o e n hx)
    exact ⟨sl', e2⟩
  · obtain ⟨o', e1⟩ := I.base.there b o e hx
    exact free b o' (neC b o e hx) e1 (I.base.free b o e n hx)
  · obtain ⟨o', e1⟩ := I.base.there b o e hx
    exact there b o' (neC b o e hx) e1
  · obtain ⟨m1, e1⟩ := I.base.tbls b ps e
    obtain ⟨m2, e2⟩ := tbls b _ e1
    exact ⟨m1 ++ m2, by rw [e2, Array.append_assoc]⟩
  · obtain ⟨m, hn, hl⟩ := I.loc
    refine ⟨m, ns m hn, fun i x v e1 e2 e3 => ?_⟩
    obtain ⟨u, r, l⟩ := hl i x v e1 e2 e3
    refine ⟨u, r, ?_⟩
    rcases l with l | ⟨k, c, e, z⟩
    · exact .inl l
    · exact .inr ⟨k, c, e, cellK x c e _ z⟩
  · obtain ⟨v, z⟩ := I.cell x c e
    exact ⟨v, cellK x c e v z⟩
  · obtain ⟨m, ⟨o, _, _, ho, _⟩, _⟩ := I.loc
    exact free _ o (fun z => (hch _ z).2.1 rfl) ho I.free
  · obtain ⟨v, o, ho, hd⟩ := I.cell x c e
    exact free c o (fun z => (hch c z).2.2.1 x c e rfl) ho (I.freeC x c e)
  · obtain ⟨e, n, ne, nf, d⟩ := I.pin p hp
    have nch : p.1 ∉ ch := fun z => (hch p.1 z).2.2.2 p hp rfl
    exact ⟨keep p.1 p.2 ne nf nch e n, free p.1 p.2 nch e n, ne, nf, d⟩
/-- .. where the frame's own object is kept too -/
theorem Inv.un {t' : Nat} (I : Inv X pins σ H s) (u : Un X.fs [] H H' s.heap h') (hok : HOk X.prog X.w H' h') : Inv X pins σ H' { s with heap := h', toks := t' } := by
  obtain ⟨m, ⟨o, es, ep, ho, r⟩, _⟩ := id I.loc
  obtain ⟨sl, hL⟩ := u.any ho I.free (by simp)
  exact I.step (g' := s.gens) (d' := s.drawn) (ch := []) (fun _ z => nomatch z) (fun b o _ hb _ e n => u.keep b o e n hb (by simp)) (fun b o _ hb _ e n => u.slot b o e n hb (by simp)) (fun b o _ e n => u.free b o e n (by simp)) (fun b o _ e => u.there b o e (by simp)) u.tups u.frzs u.tbls (fun m' hm => by
    obtain ⟨o', es', ep', ho', r'⟩ := hm
    rw [ho] at ho'; cases ho'
    exact ⟨_, es', ep', hL, r'⟩) hok I.bare
/-- behind a call (or a comprehension's block): the slots of this frame may have changed too, the records at ch may have turned -/
theorem Inv.call {g' : Array GenState} {t' : Nat} {d' : Drawn} {ch : List Addr} (I : Inv X pins σ H s) (u : Un (frs X.stack) ch H H' s.heap h') (hok : HOk X.prog X.w H' h') (hg : AllBare g')
    (hch : ∀ b ∈ ch, (b ∈ X.ex ∨ X.s₀.heap.objs.size ≤ b) ∧ b ≠ X.env.locals ∧ (∀ x c, X.env.cells.lookup x = some c → c ≠ b) ∧ ∀ p ∈ X.pn ++ pins, p.1 ≠ b) :
    Inv X pins σ H' { s with heap := h', gens := g', drawn := d', toks := t' } := by
  obtain ⟨m, ⟨o, es, ep, ho, r⟩, _⟩ := id I.loc
  obtain ⟨sl, hL⟩ := u.any ho I.free fun z => (hch _ z).2.1 rfl
  exact I.step (ch := ch) hch (fun b o hL hb hc e n => u.keep b o e n (fun z => (List.mem_cons.mp (I.stkSub b z)).elim hL hb) hc) (fun b o _ _ hc e n => u.any e n hc) (fun b o hc e n => u.free b o e n hc) (fun b o hc e => u.there b o e hc) u.tups u.frzs u.tbls (fun m' hm => by
    obtain ⟨o', es', ep', ho', r'⟩ := hm
    rw [ho] at ho'; cases ho'
    exact ⟨_, es', ep', hL, r'⟩) hok hg
/-- an untracked record of ours (an iterator) has turned -/
theorem Inv.turned {t' : Nat} {it : Addr} (I : Inv X pins σ H s) (k : ∀ b o, b ≠ it → s.heap.get? b = some o → h'.get? b = some o) (hn : H it = none) (hL : it ≠ X.env.locals)
    (h1 : it ∈ X.ex ∨ X.s₀.heap.objs.size ≤ it) (h2 : ∀ x c, X.env.cells.lookup x = some c → c ≠ it) (h3 : ∀ p ∈ X.pn ++ pins, p.1 ≠ it) : Inv X pins σ H { s with heap := h', toks := t' } := by
  have nit : ∀ b u, H b = some u → b ≠ it := fun b u e z => by rw [z, hn] at e; cases e
  refine I.step (g' := s.gens) (d' := s.drawn) (ch := [it]) (fun b hb => ?_) (fun b o _ _ hc e _ => k b o (fun z => hc (by simp [z])) e) (fun b o _ _ hc e _ => ⟨o.slots, k b o (fun z => hc (by simp [z])) e⟩) (fun _ _ _ _ n => n)
    (fun b o hc e => ⟨o, k b o (fun z => hc (by simp [z])) e⟩) (fun _ _ e => e) (fun _ _ _ e => e) (fun b ps e => ⟨#[], by rw [e]; simp⟩) (fun m hm => ?_) (fun b u e => ?_) I.bare
  · have e : b = it := by simpa using hb
    subst e
    exact ⟨h1, hL, h2, h3⟩
  · obtain ⟨o, es, ep, ho, r⟩ := hm
    exact ⟨o, es, ep, k _ o (Ne.symm hL) ho, r⟩
  · refine (I.hok b u e).stay (fun c v hc q => k c v ?_ q) (fun _ q => q) fun _ _ q => q
    rcases hc with z | z
    · rw [z]; exact nit b u e
    · exact nit c _ z
theorem Inv.tok (I : Inv X pins σ H s) (t : Nat) : Inv X pins σ H { s with toks := t } := I.un (h' := s.heap) (t' := t) Un.refl I.hok
/-- all objects kept -/
theorem Inv.kept {t' : Nat} (I : Inv X pins σ H s) (k : ∀ b u, s.heap.get? b = some u → h'.get? b = some u) : Inv X pins σ H { s with heap := h', toks := t' } := I.un (Un.kept k) (I.hok.kept k)
/-- a new object laid and tracked -/
theorem Inv.laid {a : Addr} {o : HO} {t' : Nat} (I : Inv X pins σ H s) (k : ∀ b u, s.heap.get? b = some u → h'.get? b = some u) (hp : s.heap.objs.size ≤ a) (new : ObjOk X.prog X.w (upd H a o) h' a o) :
    Inv X pins σ (upd H a o) { s with heap := h', toks := t' } := I.un (Un.laid k hp (I.hok.fresh hp)) (I.hok.laid k hp new)
/-- an object written -/
theorem Inv.write {x e : Addr} {o : HO} {t' : Nat} (I : Inv X pins σ H s) (mu : Mut (H x)) (he : e = x ∨ H e = some (.own x)) (k : ∀ b u, b ≠ e → s.heap.get? b = some u → h'.get? b = some u) (heo : ∃ u, h'.get? e = some u)
    (new : ObjOk X.prog X.w (upd H x o) h' x o) : Inv X pins σ (upd H x o) { s with heap := h', toks := t' } := I.un (Un.write mu he k heo) (I.hok.write mu he k heo new)
/-- forgetting slots, pins -/
theorem Inv.weak {σ' : List (Option V)} (I : Inv X pins σ H s) (hl : σ'.length = σ.length) (w : ∀ (i : Nat) v, σ'[i]? = some (some v) → σ[i]? = some (some v)) : Inv X pins σ' H s :=
  ⟨I.ok, I.os, I.bare, I.base, let ⟨m, hn, hl'⟩ := I.loc; ⟨m, hn, fun i x v e1 e2 e3 => hl' i x v e1 (w i v e2) e3⟩, I.cell, I.free, I.freeC, I.pin, I.hok, hl.trans I.len⟩
theorem Inv.pins_of {pins' : List (Addr × Obj)} (I : Inv X pins σ H s) (h : ∀ p ∈ pins', s.heap.get? p.1 = some p.2 ∧ H p.1 = none ∧ p.1 ≠ X.env.locals ∧ p.1 ∉ X.fs ∧ ∀ v, p.2.data ≠ .cell v) : Inv X pins' σ H s :=
  ⟨I.ok, I.os, I.bare, I.base, I.loc, I.cell, I.free, I.freeC, fun p hp => (List.mem_append.mp hp).elim (fun z => I.pin p (List.mem_append_left _ z)) (h p), I.hok, I.len⟩

theorem nodup_ix {N : List Str} (hN : N.Nodup) {i j : Nat} {x : Str} (a : N[i]? = some x) (b : N[j]? = some x) : i = j := by
  obtain ⟨h1, e1⟩ := List.getElem?_eq_some_iff.mp a
  obtain ⟨h2, e2⟩ := List.getElem?_eq_some_iff.mp b
  exact (List.getElem_inj hN).mp (e1.trans e2.symm)

/-- a name is stored; what changed -/
theorem store_ok2 {M : Model} {A : Around} {E : Value → Shared → Prop} {i : Nat} {x : Str} {v : V} {u : Value} {Q : Unit → Shared → Prop} (I : Inv X pins σ H s) (hN : X.N.Nodup) (hi : X.N[i]? = some x) (hx : Loc X.env.scope x) (r : RelV v u)
    (h : ∀ s', Inv X pins (σ.set i (some v)) H s' → (∃ a, Heap.SameBut a s.heap s'.heap ∧ (a = X.env.locals ∨ X.env.cells.lookup x = some a)) → Q () s') (hf : X.fn x = true ∨ X.env.scope.names.lookup x = some .local := by first | exact .inl rfl | exact .inr rfl | assumption) : wpAny M A (storeName X.env x u) Q E s := by
  obtain ⟨m, hn, hl⟩ := id I.loc
  have hcls : (X.env.scope.kind == .class || (X.env.scope.kind == .module && X.env.locals != X.env.globals)) = false := by rw [I.ok.kind]; rfl
  have hiσ : i < σ.length := by rw [I.len]; exact (List.getElem?_eq_some_iff.mp hi).1
  have cne := I.cne
  have tracked : ∀ {a : Addr} {h' : Heap}, (∃ o, s.heap.get? a = some o ∧ H a = none) → Heap.SameBut a s.heap h' → HOk X.prog X.w H h' := fun {a h'} ha hs b ob e => by
    obtain ⟨_, _, hfree⟩ := ha
    refine (I.hok b ob e).stay (fun c w' hc q => (hs.2 c ?_).trans q) (fun _ q => q) fun _ _ q => q
    rintro rfl
    rcases hc with rfl | hc
    · rw [hfree] at e; cases e
    · rw [hfree] at hc; cases hc
  rcases hx with hk | hk
  · refine wpAny_storeName_local hk hn (fun h' hn' hs => ?_) hcls
    obtain ⟨oL, _, _, hoL, _⟩ := id hn
    refine h _ ⟨I.ok, I.os, I.bare, ⟨fun b o e n hb hx => ?_, fun b o e n hb hx => ?_, I.base.free, fun b o e hx => ?_, I.base.tups, I.base.frzs, I.base.tbls⟩, ⟨_, hn', fun j y v' e1 e2 e3 => ?_⟩, fun y c e => ?_, I.free, I.freeC, fun p hp => ?_, tracked ⟨oL, hoL, I.free⟩ hs, by simpa using I.len⟩ ⟨_, hs, .inl rfl⟩
    · exact (hs.2 b (Nat.ne_of_lt (Nat.lt_of_lt_of_le (Heap.lt_size e) I.ok.above))).trans (I.base.keep b o e n hb hx)
    · obtain ⟨sl, e1⟩ := I.base.slot b o e n hb hx
      exact ⟨sl, (hs.2 b (Nat.ne_of_lt (Nat.lt_of_lt_of_le (Heap.lt_size e) I.ok.above))).trans e1⟩
    · obtain ⟨o', e1⟩ := I.base.there b o e hx
      exact ⟨o', (hs.2 b (Nat.ne_of_lt (Nat.lt_of_lt_of_le (Heap.lt_size e) I.ok.above))).trans e1⟩
    · by_cases hj : j = i
      · subst hj
        rw [hi] at e1; cases e1
        rw [List.getElem?_set_self hiσ] at e2
        cases e2
        exact ⟨u, r, .inl ⟨hk, by simp⟩⟩
      · rw [List.getElem?_set_ne (Ne.symm hj)] at e2
        obtain ⟨u', r', q⟩ := hl j y v' e1 e2 e3
        refine ⟨u', r', ?_⟩
        rcases q with ⟨k, e⟩ | ⟨k, c, e, z⟩
        · refine .inl ⟨k, ?_⟩
          have : y ≠ x := fun e => hj (nodup_ix hN e1 (e ▸ hi))
          simp [this, e]
        · exact .inr ⟨k, c, e, z.sameBut hs (cne y c e)⟩
    · obtain ⟨w', z⟩ := I.cell y c e
      exact ⟨w', z.sameBut hs (cne y c e)⟩
    · obtain ⟨e, n, ne, nf, d⟩ := I.pin p hp
      exact ⟨(hs.2 p.1 ne).trans e, n, ne, nf, d⟩
  · have hfn : X.fn x = true := by
      rcases hf with z | z
      · exact z
      · rw [z] at hk; cases hk
    obtain ⟨c, hc⟩ := I.ok.has x (.inl hk)
    obtain ⟨w', z⟩ := I.cell x c hc
    refine wpAny_storeName_cell I.ok.kind hk hc z (fun h' hc' hs => ?_)
    obtain ⟨oc, hoc, hocd⟩ := id z
    refine h { s with heap := h' } ⟨I.ok, I.os, I.bare, ⟨fun b o e n hb hx => ?_, fun b o e n hb hx => ?_, I.base.free, fun b o e hx => ?_, I.base.tups, I.base.frzs, I.base.tbls⟩, ⟨m, hn.sameBut hs (Ne.symm (cne x c hc)), fun j y v' e1 e2 e3 => ?_⟩, fun y c' e => ?_, I.free, I.freeC, fun p hp => ?_, tracked ⟨oc, hoc, I.freeC x c hc⟩ hs, by simpa using I.len⟩ ⟨c, hs, .inr hc⟩
    · exact (hs.2 b (Nat.ne_of_lt (Nat.lt_of_lt_of_le (Heap.lt_size e) (I.ok.cab x c hfn hc)))).trans (I.base.keep b o e n hb hx)
    · obtain ⟨sl, e1⟩ := I.base.slot b o e n hb hx
      exact ⟨sl, (hs.2 b (Nat.ne_of_lt (Nat.lt_of_lt_of_le (Heap.lt_size e) (I.ok.cab x c hfn hc)))).trans e1⟩
    · obtain ⟨o', e1⟩ := I.base.there b o e hx
      exact ⟨o', (hs.2 b (Nat.ne_of_lt (Nat.lt_of_lt_of_le (Heap.lt_size e) (I.ok.cab x c hfn hc)))).trans e1⟩
    · by_cases hj : j = i
      · subst hj
        rw [hi] at e1; cases e1
        rw [List.getElem?_set_self hiσ] at e2
        cases e2
        exact ⟨u, r, .inr ⟨.inl hk, c, hc, hc'⟩⟩
      · rw [List.getElem?_set_ne (Ne.symm hj)] at e2
        obtain ⟨u', r', q⟩ := hl j y v' e1 e2 e3
        refine ⟨u', r', ?_⟩
        rcases q with q | ⟨k, c', e, z'⟩
        · exact .inl q
        · refine .inr ⟨k, c', e, z'.sameBut hs ?_⟩
          rintro rfl
          exact hj (nodup_ix hN e1 (I.ok.inj _ _ _ e hc ▸ hi))
    · by_cases hcc : c' = c
      · subst hcc; exact ⟨_, hc'⟩
      · obtain ⟨w2, z2⟩ := I.cell y c' e
        exact ⟨w2, z2.sameBut hs hcc⟩
    · obtain ⟨e, n, ne, nf, d⟩ := I.pin p hp
      refine ⟨(hs.2 p.1 ?_).trans e, n, ne, nf, d⟩
      intro q
      rw [q, hoc] at e
      have q' : oc = p.2 := Option.some.inj e
      exact d w' (by rw [← q']; exact hocd)
theorem store_ok {M : Model} {A : Around} {E : Value → Shared → Prop} {i : Nat} {x : Str} {v : V} {u : Value} {Q : Unit → Shared → Prop} (I : Inv X pins σ H s) (hN : X.N.Nodup) (hi : X.N[i]? = some x) (hx : Loc X.env.scope x) (r : RelV v u)
    (h : ∀ s', Inv X pins (σ.set i (some v)) H s' → Q () s') (hf : X.fn x = true ∨ X.env.scope.names.lookup x = some .local := by first | exact .inl rfl | exact .inr rfl | assumption) : wpAny M A (storeName X.env x u) Q E s :=
  store_ok2 I hN hi hx r (fun s' I' _ => h s' I') hf
/-- behind a call or a block, the state as it is -/
theorem Inv.call' {s' : Shared} {ch : List Addr} (I : Inv X pins σ H s) (ho : s'.os = s.os) (u : Un (frs X.stack) ch H H' s.heap s'.heap) (hok : HOk X.prog X.w H' s'.heap) (hg : AllBare s'.gens)
    (hch : ∀ b ∈ ch, (b ∈ X.ex ∨ X.s₀.heap.objs.size ≤ b) ∧ b ≠ X.env.locals ∧ (∀ x c, X.env.cells.lookup x = some c → c ≠ b) ∧ ∀ p ∈ X.pn ++ pins, p.1 ≠ b) : Inv X pins σ H' s' := by
  obtain ⟨h', g', d', t', o'⟩ := s'
  have e : o' = s.os := ho
  subst e
  exact I.call (g' := g') (t' := t') (d' := d') u hok hg hch
end

/-! ### the judgements -/
/-- an exception: its class, its own dict's address (where it has one), the abstract heap behind it -/
abbrev XK := Value → Option Addr → Hp → Prop
abbrev St := List (Option V)
abbrev VK := V → Hp → Prop
/-- an expression's reading; a test's; an argument list's -/
abbrev TE := St → Hp → VK → Prop
abbrev TT := St → Hp → (Bool → Hp → Prop) → Prop
abbrev TA := St → Hp → (List V → Hp → Prop) → Prop
/-- what is wanted behind a statement -/
structure Ends where
  nx : St → Hp → Prop
  rt : VK
  bk : St → Hp → Prop := fun _ _ => False
  ct : St → Hp → Prop := fun _ _ => False
abbrev TS := Ends → St → Hp → Prop

def EP (X : Cx) (pins : List (Addr × Obj)) (σ : St) (Q : VK) (u : Value) (s' : Shared) : Prop := ∃ v H', Inv X pins σ H' s' ∧ RelV v u ∧ Q v H'
def TP (X : Cx) (pins : List (Addr × Obj)) (σ : St) (Q : Bool → Hp → Prop) (b : Bool) (s' : Shared) : Prop := ∃ H', Inv X pins σ H' s' ∧ Q b H'
def AP (X : Cx) (pins : List (Addr × Obj)) (σ : St) (Q : List V → Hp → Prop) (us : List Value) (s' : Shared) : Prop := ∃ vs H', Inv X pins σ H' s' ∧ Vals vs us ∧ Q vs H'
def SP (X : Cx) (pins : List (Addr × Obj)) (D : Ends) (f : Flow) (s' : Shared) : Prop :=
  match f with
  | .next => ∃ σ' H', Inv X pins σ' H' s' ∧ D.nx σ' H'
  | .brk => ∃ σ' H', Inv X pins σ' H' s' ∧ D.bk σ' H'
  | .cont => ∃ σ' H', Inv X pins σ' H' s' ∧ D.ct σ' H'
  | .ret u => ∃ v σ' H', Inv X pins σ' H' s' ∧ RelV v u ∧ D.rt v H'

def PE (X : Cx) (e : Expr) (t : TE) : Prop :=
  ∀ (pins : List (Addr × Obj)) (s : Shared) (σ : St) (H : Hp) (Q : VK), Inv X pins σ H s → t σ H Q → wpAny (model X.prog X.w) X.A (eval e X.env) (EP X pins σ Q) X.xe s
def PT (X : Cx) (e : Expr) (t : TT) : Prop :=
  ∀ (pins : List (Addr × Obj)) (s : Shared) (σ : St) (H : Hp) (Q : Bool → Hp → Prop), Inv X pins σ H s → t σ H Q → wpAny (model X.prog X.w) X.A (isTrue e X.env (eval e X.env)) (TP X pins σ Q) X.xe s
/-- a test whatever its 'whole' is (and, or) -/
def PW (X : Cx) (e : Expr) (t : TT) : Prop :=
  ∀ (whole : Sem Value) (pins : List (Addr × Obj)) (s : Shared) (σ : St) (H : Hp) (Q : Bool → Hp → Prop), Inv X pins σ H s → t σ H Q → wpAny (model X.prog X.w) X.A (isTrue e X.env whole) (TP X pins σ Q) X.xe s
theorem PW.pt {X : Cx} {e : Expr} {t : TT} (h : PW X e t) : PT X e t := h _
/-- an argument list (no star), from the left -/
def PA (X : Cx) (es : List Expr) (t : TA) : Prop :=
  ∀ (pos : Pos) (pins : List (Addr × Obj)) (s : Shared) (σ : St) (H : Hp) (Q : List V → Hp → Prop), Inv X pins σ H s → t σ H Q → wpAny (model X.prog X.w) X.A (spliced (backTo pos (starEach es X.env))) (AP X pins σ Q) X.xe s
def PS (X : Cx) (st : Stmt) (t : TS) : Prop :=
  ∀ (pins : List (Addr × Obj)) (s : Shared) (σ : St) (H : Hp) (D : Ends), Inv X pins σ H s → t D σ H → wpAny (model X.prog X.w) X.A (exec st X.env) (SP X pins D) X.xe s
def PSs (X : Cx) (st : List Stmt) (t : TS) : Prop :=
  ∀ (pins : List (Addr × Obj)) (s : Shared) (σ : St) (H : Hp) (D : Ends), Inv X pins σ H s → t D σ H → wpAny (model X.prog X.w) X.A (execs st X.env) (SP X pins D) X.xe s
/-- weaken the end -/
theorem thn {α : Type} {t : Sem α} {Q Q' : α → Shared → Prop} {M : Model} {A : Around} {E : Value → Shared → Prop} {s : Shared} (h : wpAny M A t Q E s) (hQ : ∀ a s, Q a s → Q' a s) : wpAny M A t Q' E s := wpAny_mono h hQ fun _ _ x => x
end L2

namespace L2
open PySem PySem.Spec PyProof.Rows
section
variable {X : Cx}

/-! ### names and constants -/
def tVar (i : Nat) : TE := fun σ H Q => ∃ v, σ[i]? = some (some v) ∧ Q v H
def tC (v : V) : TE := fun _ H Q => Q v H
theorem pe_var {i : Nat} {x : Str} {pos : Pos} (hN : X.N[i]? = some x) (hv : Vis X.env.scope x) (hd : (x == ("__debug__" : Str)) = false := by decide) (hcd : (x == ("__classdict__" : Str)) = false := by decide) : PE X (.Name x pos) (tVar i) := by
  intro pins s σ H Q I h
  obtain ⟨v, e, h⟩ := h
  obtain ⟨m, hn, hl⟩ := I.loc
  obtain ⟨u, r, l⟩ := hl i x v hN e hv
  have fin : EP X pins σ Q u s := ⟨v, H, I, r, h⟩
  rcases l with ⟨hk, hm⟩ | ⟨hk, c, hc, hcell⟩
  · exact wpAny_Name (wpAny_loadName_local I.ok.kind hk hn hm fin) hd
  · rcases hk with hk | hk
    · exact wpAny_Name (wpAny_loadName_cell I.ok.kind hk hc hcell fin) hd
    · exact wpAny_Name (wpAny_loadName_free I.ok.kind hk hc hcell fin hcd) hd
theorem pe_int {i j pos} : PE X (.Constant (.int i) j pos) (tC (.int i)) := fun _ _ _ H _ I h => wpAny_Constant_int ⟨.int i, H, I.tok _, ⟨_, rfl⟩, h⟩
theorem pe_bl {b j pos} : PE X (.Constant (.bool b) j pos) (tC (.bl b)) := fun _ _ _ H _ I h => Constant_bool ⟨.bl b, H, I, rfl, h⟩
theorem pe_non {j pos} : PE X (.Constant .none j pos) (tC .non) := fun _ _ _ H _ I h => Constant_none ⟨.non, H, I, rfl, h⟩
theorem pe_str {x j pos} : PE X (.Constant (.str x) j pos) (tC (.str x)) := fun _ _ _ H _ I h => Calls.Constant_str ⟨.str x, H, I.tok _, ⟨_, rfl⟩, h⟩

/-- a global name of the def -/
def Gl (X : Cx) (x : Str) : Prop := X.env.kindOf x = some .globalImplicit
theorem ld_glob {E : Value → Shared → Prop} {pins : List (Addr × Obj)} {s : Shared} {σ : St} {H : Hp} {x : Str} {u : Value} {pos : Pos} {Q : Value → Shared → Prop} (I : Inv X pins σ H s) (hg : Gl X x) (hm : X.mg x = some u) (h : Q u s)
    (hd : (x == ("__debug__" : Str)) = false := by decide) : wpAny (model X.prog X.w) X.A (eval (.Name x pos) X.env) Q E s :=
  Calls.Name_function_global I.ok.kind hg (Calls.loadGlobal_global (by rw [I.ok.glob]; exact I.mod.glob.keeps I.bk) hm h) hd
theorem ld_blt {E : Value → Shared → Prop} {pins : List (Addr × Obj)} {s : Shared} {σ : St} {H : Hp} {x : Str} {u : Value} {pos : Pos} {Q : Value → Shared → Prop} (I : Inv X pins σ H s) (hg : Gl X x) (hm : X.mg x = none) (hv : bootBuiltins x = some u) (h : Q u s)
    (hn : x ≠ "__name__" := by decide) (hd : (x == ("__debug__" : Str)) = false := by decide) : wpAny (model X.prog X.w) X.A (eval (.Name x pos) X.env) Q E s := by
  obtain ⟨mb, h1, h2⟩ := I.mod.blt
  exact Calls.Name_function_global I.ok.kind hg (Calls.loadGlobal_builtin (by rw [I.ok.glob]; exact I.mod.glob.keeps I.bk) hm (by rw [I.ok.blt]; exact h1.keeps I.bk) ((h2 x hn).trans hv) h) hd
/-- a module's constant, a class, a function, as a value -/
theorem pe_glob {x : Str} {v : V} {u : Value} {pos : Pos} (hg : Gl X x) (hm : X.mg x = some u) (r : RelV v u) (hd : (x == ("__debug__" : Str)) = false := by decide) : PE X (.Name x pos) (tC v) :=
  fun _ _ _ H _ I h => ld_glob I hg hm ⟨v, H, I, r, h⟩ hd
theorem pe_bltn {x : Str} {v : V} {u : Value} {pos : Pos} (hg : Gl X x) (hm : X.mg x = none) (hv : bootBuiltins x = some u) (r : RelV v u) (hn : x ≠ "__name__" := by decide) (hd : (x == ("__debug__" : Str)) = false := by decide) : PE X (.Name x pos) (tC v) :=
  fun _ _ _ H _ I h => ld_blt I hg hm hv ⟨v, H, I, r, h⟩ hn hd

/-! ### arithmetic -/
/-- two ints -/
def t2I (ta tb : TE) (k : Int → Int → Hp → Prop) : St → Hp → Prop := fun σ H => ta σ H fun x H1 => tb σ H1 fun y H2 => ∃ i j, x = .int i ∧ y = .int j ∧ k i j H2
def tAdd (ta tb : TE) : TE := fun σ H Q => t2I ta tb (fun i j H2 => Q (.int (i + j)) H2) σ H
def tSub (ta tb : TE) : TE := fun σ H Q => t2I ta tb (fun i j H2 => Q (.int (i - j)) H2) σ H
/-- the left factor below 2^64 -/
def tMul (ta tb : TE) : TE := fun σ H Q => t2I ta tb (fun i j H2 => (-(2 ^ 64) < i ∧ i < 2 ^ 64) ∧ Q (.int (i * j)) H2) σ H
variable {a b : Expr} {ta tb : TE} {pos : Pos}
/-! ### comparisons -/
def PC (X : Cx) (op : CmpOp) (a b : Expr) (t : TE) : Prop :=
  ∀ (pins : List (Addr × Obj)) (s : Shared) (σ : St) (H : Hp) (Q : VK), Inv X pins σ H s → t σ H Q →
    wpAny (model X.prog X.w) X.A (eval a X.env) (fun v s₁ => wpAny (model X.prog X.w) X.A (eval b X.env) (fun u s₂ => wpAny (model X.prog X.w) X.A (compareOp op v u) (EP X pins σ Q) X.xe s₂) X.xe s₁) X.xe s
theorem nobehind (b : Expr) {op : CmpOp} (h : op ≠ .In) (h2 : op ≠ .NotIn) : behindInMarks op b = false := by
  have e1 : (op == CmpOp.In) = false := by cases op <;> first | rfl | exact absurd rfl h
  have e2 : (op == CmpOp.NotIn) = false := by cases op <;> first | rfl | exact absurd rfl h2
  cases b <;> simp [behindInMarks, e1, e2]
def tCmp (p : Int → Int → Bool) (ta tb : TE) : TE := fun σ H Q => t2I ta tb (fun i j H2 => Q (.bl (p i j)) H2) σ H
abbrev tLt : TE → TE → TE := tCmp fun i j => decide (i < j)
abbrev tLe : TE → TE → TE := tCmp fun i j => decide (i ≤ j)
abbrev tGt : TE → TE → TE := tCmp fun i j => decide (j < i)
abbrev tGe : TE → TE → TE := tCmp fun i j => decide (j ≤ i)
abbrev tEqI : TE → TE → TE := tCmp fun i j => decide (i = j)
abbrev tNeI : TE → TE → TE := tCmp fun i j => !decide (i = j)
/-- is None -/
def tIsN (ta : TE) : TE := fun σ H Q => ta σ H fun x H1 => Q (.bl (decide (x = .non))) H1
def tNotN (ta : TE) : TE := fun σ H Q => ta σ H fun x H1 => Q (.bl (!decide (x = .non))) H1
/-- a comparison as a value, as a test -/
def tB (t : TE) : TT := fun σ H Q => t σ H fun x H1 => ∃ c, x = .bl c ∧ Q c H1
theorem pt_cmp {op : CmpOp} {t : TE} (h : PC X op a b t) (h1 : behindInMarks op b = false := by first | exact nobehind _ (by decide) (by decide) | rfl) : PT X (.Compare a [op] [b] pos) (tB t) := by
  intro pins s σ H Q I hw
  refine wpAny_isTrue_Compare1 (thn (h pins s σ H _ I hw) fun v s1 h1 => thn h1 fun u s2 h2 => thn h2 fun c s3 ⟨x, H1, I1, r1, q1⟩ => ?_) h1
  obtain ⟨d, rfl, q⟩ := q1
  cases r1
  exact wpAny_truthy_bool ⟨H1, I1, q⟩
/-- an expression whose value is a bool, as a test -/
theorem pt_val {e : Expr} {t : TE} (h : PE X e t) (he : ∀ whole, isTrue e X.env whole = (do let v ← whole; standAt e.pos; holding [v] (truthy v)) := by intro _; rfl) : PT X e (tB t) := by
  intro pins s σ H Q I hw
  refine isTrue_plain (thn (h pins s σ H _ I hw) fun v s1 ⟨x, H1, I1, r1, q1⟩ => ?_) (he _)
  obtain ⟨d, rfl, q⟩ := q1
  cases r1
  exact wpAny_truthy_bool ⟨H1, I1, q⟩

/-! ### and, or, not -/
variable {tA tB' : TT} {rest : List Expr}
def tAnd (t u : TT) : TT := fun σ H Q => t σ H fun c H1 => if c = true then u σ H1 Q else Q false H1
def tOr (t u : TT) : TT := fun σ H Q => t σ H fun c H1 => if c = true then Q true H1 else u σ H1 Q
def tNot (t : TT) : TT := fun σ H Q => t σ H fun c H1 => Q (!c) H1
theorem pw_and1 (ha : PT X a tA) : PW X (.BoolOp .And [a] pos) tA := by
  intro wh pins s σ H Q I h
  refine isTrue_and (thn (ha pins s σ H Q I h) fun c s1 e => ?_)
  cases c with
  | true => exact isTrue_and_nil e
  | false => exact e
theorem pw_or1 (ha : PT X a tA) : PW X (.BoolOp .Or [a] pos) tA := by
  intro wh pins s σ H Q I h
  refine isTrue_or (thn (ha pins s σ H Q I h) fun c s1 e => ?_)
  cases c with
  | false => exact isTrue_or_nil e
  | true => exact e
theorem pw_and (ha : PT X a tA) (hb : PW X (.BoolOp .And (b :: rest) pos) tB') : PW X (.BoolOp .And (a :: b :: rest) pos) (tAnd tA tB') := by
  intro wh pins s σ H Q I h
  refine isTrue_and (thn (ha pins s σ H _ I h) fun c s1 ⟨H1, I1, q1⟩ => ?_)
  cases c with
  | true => exact hb wh pins s1 σ H1 Q I1 q1
  | false => exact ⟨H1, I1, q1⟩
theorem pw_or (ha : PT X a tA) (hb : PW X (.BoolOp .Or (b :: rest) pos) tB') : PW X (.BoolOp .Or (a :: b :: rest) pos) (tOr tA tB') := by
  intro wh pins s σ H Q I h
  refine isTrue_or (thn (ha pins s σ H _ I h) fun c s1 ⟨H1, I1, q1⟩ => ?_)
  cases c with
  | true => exact ⟨H1, I1, q1⟩
  | false => exact hb wh pins s1 σ H1 Q I1 q1
theorem pt_not (ha : PT X a tA) : PT X (.UnaryOp .Not a pos) (tNot tA) := by
  intro pins s σ H Q I h
  exact isTrue_not (ha pins s σ H (fun c H1 => Q (!c) H1) I h)
/-- .. as values (bools) -/
def tAndV (ta tb : TE) : TE := fun σ H Q => ta σ H fun x H1 => ∃ c, x = .bl c ∧ if c = true then tb σ H1 Q else Q (.bl false) H1
def tOrV (ta tb : TE) : TE := fun σ H Q => ta σ H fun x H1 => ∃ c, x = .bl c ∧ if c = true then Q (.bl true) H1 else tb σ H1 Q
def tNotV (ta : TE) : TE := fun σ H Q => ta σ H fun x H1 => ∃ c, x = .bl c ∧ Q (.bl (!c)) H1
theorem pe_one {op} {t : TE} (h : PE X a t) : PE X (.BoolOp op [a] pos) t := fun pins s σ H Q I hw => BoolOp_one (h pins s σ H Q I hw)
theorem pe_and (ha : PE X a ta) (hb : PE X (.BoolOp .And (b :: rest) pos) tb) : PE X (.BoolOp .And (a :: b :: rest) pos) (tAndV ta tb) := by
  intro pins s σ H Q I h
  refine BoolOp_and (thn (ha pins s σ H _ I h) fun v s1 ⟨x, H1, I1, r1, q1⟩ => ?_)
  obtain ⟨c, rfl, q1⟩ := q1
  cases r1
  refine wpAny_truthy_bool ?_
  cases c with
  | true => exact hb pins s1 σ H1 Q I1 q1
  | false => exact ⟨.bl false, H1, I1, rfl, q1⟩
theorem pe_not (ha : PE X a ta) : PE X (.UnaryOp .Not a pos) (tNotV ta) := by
  intro pins s σ H Q I h
  refine UnaryOp_ (thn (ha pins s σ H _ I h) fun v s1 ⟨x, H1, I1, r1, q1⟩ => ?_)
  obtain ⟨c, rfl, q1⟩ := q1
  cases r1
  exact not_of (wpAny_truthy_bool ⟨.bl (!c), H1, I1, rfl, q1⟩)
/-- a if t else b -/
def tIf (t : TT) (ta tb : TE) : TE := fun σ H Q => t σ H fun c H1 => if c = true then ta σ H1 Q else tb σ H1 Q
theorem pe_ifExp {c : Expr} (hc : PT X c tA) (ha : PE X a ta) (hb : PE X b tb) : PE X (.IfExp c a b pos) (tIf tA ta tb) := by
  intro pins s σ H Q I h
  refine wpAny_IfExp (thn (hc pins s σ H _ I h) fun d s1 ⟨H1, I1, q1⟩ => ?_)
  cases d with
  | true => exact ha pins s1 σ H1 Q I1 q1
  | false => exact hb pins s1 σ H1 Q I1 q1
end
end L2

namespace L2
open PySem PySem.Spec PyProof.Rows

/-! ### a list, a tuple that is read: tracked, frozen, or an object of the module -/
def SqL (K : PySem.W.Frag) (H : Hp) (a : Addr) (xs : List V) : Prop :=
  Rd H a (.lst xs) ∨
    ∃ (o : Obj) (its : Array Value) (n : Nat), K.lookup a = some o ∧ o.cls = .type "list" ∧ o.dict = none ∧ o.data = .seq its n ∧ its.size ≤ sizeLine ∧ Vals xs its.toList
def SqT (K : PySem.W.Frag) (H : Hp) (a : Addr) (xs : List V) : Prop :=
  Rd H a (.tup xs) ∨
    ∃ (o : Obj) (its : Array Value) (n : Nat), K.lookup a = some o ∧ o.cls = .type "tuple" ∧ o.data = .seq its n ∧ its.size ≤ sizeLine ∧ Vals xs its.toList
def absV : Value → Option V
  | .none => some .non
  | .bool b => some (.bl b)
  | .int i _ => some (.int i)
  | .str x _ => some (.str x)
  | .bytes b _ => some (.byt b)
  | .float b _ => some (.flt b)
  | .ref a => some (.ref a)
  | .type n => some (.ty n)
  | _ => none
theorem RelV.abs {x : V} {u : Value} (r : RelV x u) : absV u = some x := by
  cases x with
  | non => cases r; rfl
  | bl _ => cases r; rfl
  | int _ => obtain ⟨t, rfl⟩ := r; rfl
  | str _ => obtain ⟨t, rfl⟩ := r; rfl
  | byt _ => obtain ⟨t, rfl⟩ := r; rfl
  | flt _ => obtain ⟨t, rfl⟩ := r; rfl
  | ref _ => cases r; rfl
  | ty _ => cases r; rfl
theorem RelV.inj {x y : V} {u : Value} (r : RelV x u) (q : RelV y u) : x = y := Option.some.inj (r.abs.symm.trans q.abs)
theorem Vals.inj : ∀ {xs ys : List V} {us : List Value}, Vals xs us → Vals ys us → xs = ys
  | _, _, _, .nil, .nil => rfl
  | _, _, _, .cons r t, .cons r' t' => by rw [r.inj r', Vals.inj t t']
section
variable {X : Cx} {pins : List (Addr × Obj)} {σ : St} {H : Hp} {s : Shared} {a : Addr} {xs ys : List V}
theorem SqL.of {K : PySem.W.Frag} (h : H a = some (.lst xs)) : SqL K H a xs := .inl (.inl h)
theorem SqT.of {K : PySem.W.Frag} (h : H a = some (.tup xs)) : SqT K H a xs := .inl (.inl h)
theorem Inv.list (I : Inv X pins σ H s) (h : SqL X.K H a xs) : ∃ its : List Value, Vals xs its ∧ PlainL s.heap a its.toArray ∧ xs.length ≤ sizeLine := by
  rcases h with h | ⟨o, its, n, hk, hc, hd, hs, hz, r⟩
  · obtain ⟨z, its, n, r, e⟩ := h.ok I.hok
    exact ⟨its, r, ⟨_, n, e, rfl, rfl, rfl⟩, z⟩
  · refine ⟨its.toList, r, ⟨o, n, I.kIn a o hk, hc, hd, by simpa using hs⟩, ?_⟩
    have e := r.length
    simp only [Array.length_toList] at e
    omega
theorem Inv.tuple (I : Inv X pins σ H s) (h : SqT X.K H a xs) : ∃ its : List Value, Vals xs its ∧ IsTup s.heap a its.toArray ∧ xs.length ≤ sizeLine := by
  rcases h with h | ⟨o, its, n, hk, hc, hs, hz, r⟩
  · obtain ⟨z, its, r, p⟩ := h.ok I.hok
    exact ⟨its, r, p, z⟩
  · refine ⟨its.toList, r, ⟨o, I.kIn a o hk, hc, n, by simpa using hs⟩, ?_⟩
    have e := r.length
    simp only [Array.length_toList] at e
    omega
theorem Inv.list_inj (I : Inv X pins σ H s) (h : SqL X.K H a xs) (h' : SqL X.K H a ys) : xs = ys := by
  obtain ⟨its, r, ⟨o, n, e, _, _, d⟩, _⟩ := I.list h
  obtain ⟨its', r', ⟨o', n', e', _, _, d'⟩, _⟩ := I.list h'
  rw [e] at e'; cases e'
  rw [d] at d'
  injection d' with d1 _
  have : its = its' := by simpa using congrArg Array.toList d1
  subst this
  exact r.inj r'
theorem Inv.tuple_inj (I : Inv X pins σ H s) (h : SqT X.K H a xs) (h' : SqT X.K H a ys) : xs = ys := by
  obtain ⟨its, r, ⟨o, e, _, n, d⟩, _⟩ := I.tuple h
  obtain ⟨its', r', ⟨o', e', _, n', d'⟩, _⟩ := I.tuple h'
  rw [e] at e'; cases e'
  rw [d] at d'
  injection d' with d1 _
  have : its = its' := by simpa using congrArg Array.toList d1
  subst this
  exact r.inj r'
end

/-! ### another wish about exceptions -/
abbrev Cx.wish (X : Cx) (E : Value → Shared → Prop) : Cx := { X with xe := E }
/-- no exception leaves -/
abbrev Cx.nox (X : Cx) : Cx := X.wish fun _ _ => False
theorem Cx.Ok.wish {X : Cx} (ok : X.Ok) (E : Value → Shared → Prop) : (X.wish E).Ok :=
  ⟨ok.mod, ok.kind, ok.glob, ok.blt, ok.above, ok.inj, ok.has, ok.cab, ok.hd, ok.frames, ok.stk, ok.exf, ok.bs, ok.bsz, ok.noex, ok.exfs, ok.funs, ok.frf⟩
theorem Cx.Ok.unwish {X : Cx} {E : Value → Shared → Prop} (ok : (X.wish E).Ok) : X.Ok :=
  ⟨ok.mod, ok.kind, ok.glob, ok.blt, ok.above, ok.inj, ok.has, ok.cab, ok.hd, ok.frames, ok.stk, ok.exf, ok.bs, ok.bsz, ok.noex, ok.exfs, ok.funs, ok.frf⟩
section
variable {X : Cx} {pins : List (Addr × Obj)} {σ : St} {H : Hp} {s : Shared} {E : Value → Shared → Prop}
theorem Inv.wish (I : Inv X pins σ H s) (E : Value → Shared → Prop) : Inv (X.wish E) pins σ H s := ⟨I.ok.wish E, I.os, I.bare, I.base, I.loc, I.cell, I.free, I.freeC, I.pin, I.hok, I.len⟩
theorem Inv.unwish (I : Inv (X.wish E) pins σ H s) : Inv X pins σ H s := ⟨I.ok.unwish, I.os, I.bare, I.base, I.loc, I.cell, I.free, I.freeC, I.pin, I.hok, I.len⟩
theorem SP.unwish {D : Ends} {f : Flow} {s' : Shared} (h : SP (X.wish E) pins D f s') : SP X pins D f s' := by
  cases f with
  | next => obtain ⟨σ', H', I, q⟩ := h; exact ⟨σ', H', I.unwish, q⟩
  | brk => obtain ⟨σ', H', I, q⟩ := h; exact ⟨σ', H', I.unwish, q⟩
  | cont => obtain ⟨σ', H', I, q⟩ := h; exact ⟨σ', H', I.unwish, q⟩
  | ret u => obtain ⟨v, σ', H', I, r, q⟩ := h; exact ⟨v, σ', H', I.unwish, r, q⟩
theorem PE.nox {e : Expr} {t : TE} (h : PE X.nox e t) : PE X e t := fun pins s σ H Q I hw =>
  wpAny_mono (h pins s σ H Q (I.wish _) hw) (fun _ _ ⟨v, H', I', r, q⟩ => ⟨v, H', I'.unwish, r, q⟩) fun _ _ z => False.elim z
theorem PT.nox {e : Expr} {t : TT} (h : PT X.nox e t) : PT X e t := fun pins s σ H Q I hw =>
  wpAny_mono (h pins s σ H Q (I.wish _) hw) (fun _ _ ⟨H', I', q⟩ => ⟨H', I'.unwish, q⟩) fun _ _ z => False.elim z
theorem PSs.nox {st : List Stmt} {t : TS} (h : PSs X.nox st t) : PSs X st t := fun pins s σ H D I hw =>
  wpAny_mono (h pins s σ H D (I.wish _) hw) (fun _ _ q => q.unwish) fun _ _ z => False.elim z
end

/-! ### blocks and small statements -/
section
variable {X : Cx} {st : Stmt} {rest : List Stmt} {t u : TS} {e : Expr} {te : TE} {pos : Pos}
def tNext : TS := fun D σ H => D.nx σ H
def tSeq (t u : TS) : TS := fun D σ H => t { D with nx := u D } σ H
theorem pss_nil : PSs X [] tNext := fun _ _ σ H _ I h => wpAny_execs_nil ⟨σ, H, I, h⟩
theorem pss_cons (h1 : PS X st t) (h2 : PSs X rest u) : PSs X (st :: rest) (tSeq t u) := by
  intro pins s σ H D I h
  refine wpAny_execs_cons (thn (h1 pins s σ H { D with nx := u D } I h) fun f s1 q => ?_)
  cases f with
  | next =>
    obtain ⟨σ', H', I', q⟩ := q
    exact h2 pins s1 σ' H' D I' q
  | ret v => exact q
  | brk => exact q
  | cont => exact q
theorem pss_one (h1 : PS X st t) : PSs X [st] t := by
  intro pins s σ H D I h
  refine wpAny_execs_cons (thn (h1 pins s σ H D I h) fun f s1 q => ?_)
  cases f with
  | next => exact wpAny_execs_nil q
  | ret v => exact q
  | brk => exact q
  | cont => exact q
def tBreak : TS := fun D σ H => D.bk σ H
def tCont : TS := fun D σ H => D.ct σ H
theorem ps_break : PS X (.Break pos) tBreak := fun _ _ σ H _ I h => wpAny_Break ⟨σ, H, I, h⟩
/-- in a def's body nothing is shown -/
theorem Inv.quiet {pins : List (Addr × Obj)} {σ : St} {H : Hp} {s : Shared} (I : Inv X pins σ H s) : interactive X.env = false := by simp [interactive, I.ok.kind]
/-- an expression whose value is dropped -/
def tDrop (te : TE) : TS := fun D σ H => te σ H fun _ H1 => D.nx σ H1
theorem ps_expr (he : PE X e te) (hs : swapsWith e none pos.line X.env = pure false := by rfl) : PS X (.Expr e pos) (tDrop te) := by
  intro pins s σ H D I h
  exact wpAny_Expr_any (thn (he pins s σ H _ I h) fun v s1 ⟨x, H1, I1, r1, q1⟩ => ⟨σ, H1, I1, q1⟩) I.quiet hs
def tRet (te : TE) : TS := fun D σ H => te σ H D.rt
theorem ps_ret (he : PE X e te) : PS X (.Return (some e) pos) (tRet te) := by
  intro pins s σ H D I h
  exact wpAny_Return_some (thn (he pins s σ H _ I h) fun v s1 ⟨x, H1, I1, r1, q1⟩ => ⟨x, σ, H1, I1, r1, q1⟩)
def tRetN : TS := fun D _ H => D.rt .non H
def tIfS (c : TT) (t u : TS) : TS := fun D σ H => c σ H fun b H1 => if b = true then t D σ H1 else u D σ H1
theorem ps_if {c : Expr} {a b : List Stmt} {tc : TT} (hc : PT X c tc) (ha : PSs X a t) (hb : PSs X b u) : PS X (.If c a b pos) (tIfS tc t u) := by
  intro pins s σ H D I h
  refine wpAny_If (thn (hc pins s σ H _ I h) fun d s1 ⟨H1, I1, q1⟩ => ?_)
  cases d with
  | true => exact ha pins s1 σ H1 D I1 q1
  | false => exact hb pins s1 σ H1 D I1 q1
/-- code that the proof never comes to -/
def tNever : TS := fun _ _ _ => False
theorem ps_never : PS X st tNever := fun _ _ _ _ _ _ h => h.elim
end

/-! ### targets -/
abbrev TG := V → St → Hp → (St → Hp → Prop) → Prop
abbrev TGs := List V → St → Hp → (St → Hp → Prop) → Prop
def PG (X : Cx) (target : Expr) (t : TG) : Prop :=
  ∀ (pins : List (Addr × Obj)) (s : Shared) (σ : St) (H : Hp) (v : V) (u : Value) (Q : St → Hp → Prop), Inv X pins σ H s → RelV v u → t v σ H Q →
    wpAny (model X.prog X.w) X.A (assign target X.env u) (fun _ s' => ∃ σ' H', Inv X pins σ' H' s' ∧ Q σ' H') X.xe s
/-- several targets, one after another -/
def PGs (X : Cx) (ts : List Expr) (t : TGs) : Prop :=
  ∀ (pins : List (Addr × Obj)) (s : Shared) (σ : St) (H : Hp) (vs : List V) (us : List Value) (Q : St → Hp → Prop), Inv X pins σ H s → Vals vs us → t vs σ H Q →
    wpAny (model X.prog X.w) X.A (assignInOrder ((assignEach ts X.env).map (·.2)) us) (fun _ s' => ∃ σ' H', Inv X pins σ' H' s' ∧ Q σ' H') X.xe s
/-- o[i] = v, by values -/
abbrev TSet := V → V → V → Hp → (Hp → Prop) → Prop
def PSet (X : Cx) (t : TSet) : Prop :=
  ∀ (pins : List (Addr × Obj)) (s : Shared) (σ : St) (H : Hp) (o i v : V) (ov iv u : Value) (Q : Hp → Prop), Inv X pins σ H s → RelV o ov → RelV i iv → RelV v u → t o i v H Q →
    wpAny (model X.prog X.w) X.A (setItem ov iv u) (fun _ s' => ∃ H', Inv X pins σ H' s' ∧ Q H') X.xe s
/-- a op= b, by values -/
abbrev TIp := V → V → Hp → VK → Prop
def PIp (X : Cx) (op : Operator) (t : TIp) : Prop :=
  ∀ (pins : List (Addr × Obj)) (s : Shared) (σ : St) (H : Hp) (x y : V) (v u : Value) (Q : VK), Inv X pins σ H s → RelV x v → RelV y u → t x y H Q →
    wpAny (model X.prog X.w) X.A (inplaceOp op v u) (EP X pins σ Q) X.xe s
section
variable {X : Cx} {pos : Pos}
def gName (i : Nat) : TG := fun v σ H Q => Q (σ.set i (some v)) H
theorem pg_name {i : Nat} {x : Str} (hN : X.N.Nodup) (hi : X.N[i]? = some x) (hx : Loc X.env.scope x) (hf : X.fn x = true ∨ X.env.scope.names.lookup x = some .local := by first | exact .inl rfl | exact .inr rfl | assumption) : PG X (.Name x pos) (gName i) := by
  intro pins s σ H v u Q I r h
  exact wpAny_assign_Name (store_ok I hN hi hx r (fun s' I' => ⟨_, H, I', h⟩) hf)
def gNil : TGs := fun vs σ H Q => vs = [] ∧ Q σ H
def gCons (t : TG) (u : TGs) : TGs := fun vs σ H Q => ∃ v r, vs = v :: r ∧ t v σ H fun σ' H' => u r σ' H' Q
theorem pgs_nil : PGs X [] gNil := by
  intro pins s σ H vs us Q I r h
  obtain ⟨e, h⟩ := h
  subst e
  cases r
  exact assignInOrder_nil ⟨σ, H, I, h⟩
theorem pgs_cons {e : Expr} {es : List Expr} {t : TG} {u : TGs} (h1 : PG X e t) (h2 : PGs X es u)
    (hs : (assignEach (e :: es) X.env).map (·.2) = assign e X.env :: (assignEach es X.env).map (·.2) := by rfl) : PGs X (e :: es) (gCons t u) := by
  intro pins s σ H vs us Q I r h
  obtain ⟨v, vr, e1, h⟩ := h
  subst e1
  cases r with
  | cons r rr =>
    rw [hs]
    refine assignInOrder_cons (thn (h1 pins s σ H _ _ _ I r h) fun _ s1 ⟨σ1, H1, I1, q1⟩ => ?_)
    exact h2 pins s1 σ1 H1 _ _ Q I1 rr q1
/-- (a, b, ..) = a tuple of that length -/
def gTup (K : PySem.W.Frag) (n : Nat) (t : TGs) : TG := fun v σ H Q => ∃ a xs, v = .ref a ∧ SqT K H a xs ∧ xs.length = n ∧ t xs σ H Q
theorem pg_tup {es : List Expr} {k : Nat} {t : TGs} {n : Nat} (hc : X.calm = true) (h : PGs X es t)
    (hn : (assignEach es X.env).length = n := by rfl) (hst : (assignEach es X.env).findIdx? (·.1) = none := by rfl) : PG X (.Tuple es k pos) (gTup X.K n t) := by
  intro pins s σ H v u Q I r hw
  obtain ⟨a, xs, e1, hq, hl, hw⟩ := hw
  subst e1
  cases r
  obtain ⟨its, rv, ht, hz⟩ := I.tuple hq
  refine assign_Tuple_tuple (I.ok.hd hc) ht (by simp [hn, ← hl, rv.length]) hst fun h' hx => ?_
  have I1 : Inv X pins σ H { s with heap := h' } := I.kept (t' := s.toks) fun b o e => hx b o (Nat.ne_of_lt (Heap.lt_size e)) e
  exact h pins _ σ H xs _ Q I1 (by simpa using rv) hw
/-- o[i] = .. -/
def gSub (to ti : TE) (t : TSet) : TG := fun v σ H Q => to σ H fun o H1 => ti σ H1 fun i H2 => t o i v H2 fun H3 => Q σ H3
theorem pg_sub {o i : Expr} {to ti : TE} {t : TSet} (ho : PE X o to) (hi : PE X i ti) (hs : PSet X t)
    (ha : ∀ v, assign (.Subscript o i pos) X.env v = (do
      let ov ← holding [v] (eval o X.env)
      let iv ← holding [v, ov] (eval i X.env)
      standAt pos
      holding [v, ov, iv] (setItem ov iv v)
      release [v, ov, iv] []) := by intro _; rfl) : PG X (.Subscript o i pos) (gSub to ti t) := by
  intro pins s σ H v u Q I r h
  rw [ha]
  refine wpAny_bind (wpAny_holding (thn (ho pins s σ H _ I h) fun ov s1 ⟨x, H1, I1, r1, q1⟩ => ?_))
  refine wpAny_bind (wpAny_holding (thn (hi pins s1 σ H1 _ I1 q1) fun iv s2 ⟨y, H2, I2, r2, q2⟩ => ?_))
  refine wpAny_bind (wpAny_standAt (wpAny_bind (wpAny_holding (thn (hs pins s2 σ H2 x y v ov iv u _ I2 r1 r2 r q2) fun _ s3 ⟨H3, I3, q3⟩ => ?_))))
  exact wpAny_release ⟨σ, H3, I3, q3⟩
/-- target = value -/
def tAsg (te : TE) (g : TG) : TS := fun D σ H => te σ H fun x H1 => g x σ H1 D.nx
theorem ps_asg {tg e : Expr} {te : TE} {g : TG} (he : PE X e te) (hg : PG X tg g) (hs : swapsWithSole [tg] e pos.line X.env = pure false := by rfl) (hw : swappedStores [tg] e X.env = pure none := by rfl)
    (h1 : (assignEach [tg] X.env).map (·.2) = [assign tg X.env] := by rfl) : PS X (.Assign [tg] e pos) (tAsg te g) := by
  intro pins s σ H D I h
  refine wpAny_Assign_stores (thn (he pins s σ H _ I h) fun v s1 ⟨x, H1, I1, r1, q1⟩ => ?_) hs hw
  rw [h1]
  exact thn (hg pins s1 σ H1 x v _ I1 r1 q1) fun _ s2 q => q
/-- name = value -/
theorem ps_set {i : Nat} {x : Str} {e : Expr} {te : TE} {pos' : Pos} (hN : X.N.Nodup) (hi : X.N[i]? = some x) (hx : Loc X.env.scope x) (he : PE X e te) (hs : swapsWith e (some (.Name x pos')) pos.line X.env = pure false := by rfl) (hf : X.fn x = true ∨ X.env.scope.names.lookup x = some .local := by first | exact .inl rfl | exact .inr rfl | assumption) :
    PS X (.Assign [.Name x pos'] e pos) (tAsg te (gName i)) := by
  intro pins s σ H D I h
  refine wpAny_Assign_Name (thn (he pins s σ H _ I h) fun v s1 ⟨y, H1, I1, r1, q1⟩ => ?_) hs
  exact store_ok I1 hN hi hx r1 (fun s2 I2 => ⟨_, H1, I2, q1⟩) hf
/-- a, b = x, y with plain local names: stored from the right; the pair itself is not tracked (the opening rows as in PyProof/Rows/TupAssign.lean:23) -/
def tPar (i j : Nat) (ta : TA) : TS := fun D σ H => ta σ H fun vs H1 => ∃ v w, vs = [v, w] ∧ D.nx ((σ.set i (some v)).set j (some w)) H1
/-- name op= e -/
def tAug (i : Nat) (te : TE) (ti : TIp) : TS := fun D σ H => ∃ x, σ[i]? = some (some x) ∧ te σ H fun y H1 => ti x y H1 fun z H2 => D.nx (σ.set i (some z)) H2
theorem ps_aug {i : Nat} {x : Str} {e : Expr} {te : TE} {op : Operator} {ti : TIp} {pos' : Pos} (hN : X.N.Nodup) (hi : X.N[i]? = some x) (hx : Loc X.env.scope x) (he : PE X e te) (ho : PIp X op ti) (hf : X.fn x = true ∨ X.env.scope.names.lookup x = some .local := by first | exact .inl rfl | exact .inr rfl | assumption) :
    PS X (.AugAssign (.Name x pos') op e pos) (tAug i te ti) := by
  intro pins s σ H D I h
  obtain ⟨v, e1, h⟩ := h
  obtain ⟨m, hn, hl⟩ := I.loc
  have vis : Vis X.env.scope x := by rcases hx with k | k; exact .inl k; exact .inr (.inl k)
  obtain ⟨u, r, l⟩ := hl i x v hi e1 vis
  refine wpAny_AugAssign_Name ?_
  have go : wpAny (model X.prog X.w) X.A (eval e X.env) (fun w s₂ => wpAny (model X.prog X.w) X.A (inplaceOp op u w) (fun r s₃ => wpAny (model X.prog X.w) X.A (storeName X.env x r) (fun _ => SP X pins D .next) X.xe s₃) X.xe s₂) X.xe s := by
    refine thn (he pins s σ H _ I h) fun w s1 ⟨y, H1, I1, r1, q1⟩ => ?_
    refine thn (ho pins s1 σ H1 v y u w _ I1 r r1 q1) fun z s2 ⟨zv, H2, I2, r2, q2⟩ => ?_
    exact store_ok I2 hN hi hx r2 (fun s3 I3 => ⟨_, H2, I3, q2⟩) hf
  rcases l with ⟨hk, hm⟩ | ⟨hk, c, hc, hcell⟩
  · exact wpAny_loadName_local I.ok.kind hk hn hm go
  · rcases hk with hk | hk
    · exact wpAny_loadName_cell I.ok.kind hk hc hcell go
    · rcases hx with k | k
      · have : X.env.scope.names.lookup x = some .free := hk
        rw [k] at this; cases this
      · have : X.env.scope.names.lookup x = some .free := hk
        rw [k] at this; cases this
/-- o[i] op= e -/
def tAugS (to ti te : TE) (tget : V → V → Hp → VK → Prop) (tip : TIp) (tset : TSet) : TS := fun D σ H => to σ H fun o H1 => ti σ H1 fun i H2 => tget o i H2 fun x H3 => te σ H3 fun y H4 => tip x y H4 fun z H5 => tset o i z H5 fun H6 => D.nx σ H6
/-- o[i], by values -/
def PGet (X : Cx) (t : V → V → Hp → VK → Prop) : Prop :=
  ∀ (pins : List (Addr × Obj)) (s : Shared) (σ : St) (H : Hp) (o i : V) (ov iv : Value) (Q : VK), Inv X pins σ H s → RelV o ov → RelV i iv → t o i H Q →
    wpAny (model X.prog X.w) X.A (getItem ov iv) (EP X pins σ Q) X.xe s
/-- ints -/
def ipI (f : Int → Int → Int) : TIp := fun x y H Q => ∃ i j, x = .int i ∧ y = .int j ∧ Q (.int (f i j)) H
theorem ip_add : PIp X .Add (ipI fun i j => i + j) := by
  intro pins s σ H x y v u Q I r1 r2 h
  obtain ⟨i, j, e1, e2, q⟩ := h
  subst e1; subst e2
  obtain ⟨t, rfl⟩ := r1
  obtain ⟨t', rfl⟩ := r2
  exact iadd_int ⟨.int _, H, I.tok _, ⟨_, rfl⟩, q⟩
end

/-! ### while -/
section
variable {X : Cx} {pos : Pos}
/-- the invariant W with its measure -/
def tWhile (c : TT) (tb : TS) : TS := fun D σ H => ∃ W : Nat → St → Hp → Prop, (∃ m, W m σ H) ∧ ∀ m σ H, W m σ H →
  c σ H fun b H1 => if b = true then ∃ N : St → Hp → Prop, (∀ σ' H', N σ' H' → ∃ m', m' < m ∧ W m' σ' H') ∧ tb { D with nx := N, ct := N, bk := D.nx } σ H1 else D.nx σ H1
theorem ps_while {c : Expr} {body : List Stmt} {tc : TT} {tb : TS} (hp : PassesOwn (model X.prog X.w) X.A X.env X.xe) (hc : PT X c tc) (hb : PSs X body tb) : PS X (.While c body [] pos) (tWhile tc tb) := by
  intro pins s σ H D I h
  obtain ⟨W, ⟨m0, w0⟩, turn⟩ := h
  refine wpAny_While (codeAny_whileLoop (fun n s' => ∃ σ' H', Inv X pins σ' H' s' ∧ W n σ' H') ?_ m0 ⟨σ, H, I, w0⟩)
  rintro n s1 ⟨σ1, H1, I1, w1⟩
  refine wpAny_passesOwn hp (thn (hc pins s1 σ1 H1 _ I1 (turn n σ1 H1 w1)) fun b s2 ⟨H2, I2, q2⟩ => ?_)
  cases b with
  | true =>
    obtain ⟨N, hN, q2⟩ := q2
    rw [if_pos rfl]
    refine wpAny_passesOwn hp (thn (hb pins s2 σ1 H2 _ I2 q2) fun f s3 q3 => ?_)
    cases f with
    | next =>
      obtain ⟨σ3, H3, I3, n3⟩ := q3
      obtain ⟨m', hm, w3⟩ := hN σ3 H3 n3
      exact ⟨m', hm, σ3, H3, I3, w3⟩
    | cont =>
      obtain ⟨σ3, H3, I3, n3⟩ := q3
      obtain ⟨m', hm, w3⟩ := hN σ3 H3 n3
      exact ⟨m', hm, σ3, H3, I3, w3⟩
    | brk => exact q3
    | ret v => exact q3
  | false =>
    rw [if_neg Bool.false_ne_true]
    exact wpAny_execs_nil ⟨σ1, H2, I2, q2⟩
end

/-! ### what a loop or a comprehension walks -/
/-- at turn i: it yields x (the heap may grow), or it stops -/
structure It where
  go : Nat → Hp → Prop
  yld : Nat → Hp → V → Hp → Prop
  stop : Nat → Hp → Prop
/-- the iterator's own objects may turn: they are not the frame's, not pinned, younger than the entry (or a comprehension's own) -/
def FpOk (X : Cx) (pins : List (Addr × Obj)) (H : Hp) (b : Addr) : Prop :=
  H b = none ∧ b ≠ X.env.locals ∧ b ∉ X.fs ∧ (b ∈ X.ex ∨ X.s₀.heap.objs.size ≤ b) ∧ (∀ x c, X.env.cells.lookup x = some c → c ≠ b) ∧ ∀ p ∈ X.pn ++ pins, p.1 ≠ b
theorem Inv.fpOk {X : Cx} {pins : List (Addr × Obj)} {σ : St} {H H' : Hp} {s : Shared} {b : Addr} (I : Inv X pins σ H s) (hb : s.heap.objs.size ≤ b) (hn : H' b = none) : FpOk X pins H' b := by
  refine ⟨hn, Nat.ne_of_gt (Nat.lt_of_lt_of_le I.lt hb), I.nofs hb, .inr (Nat.le_trans I.sz hb), fun x c e z => ?_, fun p hp z => ?_⟩
  · obtain ⟨v, q⟩ := I.cell x c e
    exact absurd (Nat.lt_of_lt_of_le q.lt (by rw [z]; exact hb)) (Nat.lt_irrefl _)
  · exact absurd (Nat.lt_of_lt_of_le (Heap.lt_size (I.pin p hp).1) (by rw [z]; exact hb)) (Nat.lt_irrefl _)
structure Turn (P : Program) (w : World) (K : PySem.W.Frag) (tg : Expr) (J : It) (fp : List Addr) (it : Addr) (tn : Nat → Heap → Prop) : Prop where
  mem : it ∈ fp
  obj : ∀ i h, tn i h → ∀ b ∈ fp, ∃ o, h.get? b = some o ∧ ∀ v, o.data ≠ .cell v
  keep : ∀ i h h', tn i h → (∀ b ∈ fp, ∀ o, h.get? b = some o → h'.get? b = some o) → tn i h'
  item : ∀ (X : Cx), X.prog = P → X.w = w → X.K = K → X.calm = true → ∀ (i : Nat) (pins : List (Addr × Obj)) (s : Shared) (σ : St) (H : Hp) (E : Value → Shared → Prop), Inv X pins σ H s → (∀ b ∈ fp, FpOk X pins H b) → tn i s.heap → J.go i H →
    wpAny (model P w) X.A (pyNext (.ref it)) (fun r s1 => ∃ u, r = some u ∧
      wpAny (model P w) X.A (letOwnedTupleGo tg (.ref it) u) (fun _ s2 => ∃ x H', Inv X pins σ H' s2 ∧ RelV x u ∧ J.yld i H x H' ∧ tn (i + 1) s2.heap ∧ ∀ b ∈ fp, H' b = none) E s1) E s
  done : ∀ (X : Cx), X.prog = P → X.w = w → X.K = K → X.calm = true → ∀ (i : Nat) (pins : List (Addr × Obj)) (s : Shared) (σ : St) (H : Hp) (E : Value → Shared → Prop), Inv X pins σ H s → (∀ b ∈ fp, FpOk X pins H b) → tn i s.heap → J.stop i H →
    wpAny (model P w) X.A (pyNext (.ref it)) (fun r s1 => r = none ∧ Inv X pins σ H s1) E s
  self : ∀ (A : Around) (i : Nat) (s : Shared) (Q : Value → Shared → Prop) (E : Value → Shared → Prop), tn i s.heap → Q (.ref it) s → wpAny (model P w) A (pyIter (.ref it)) Q E s
abbrev TI := St → Hp → (It → Hp → Prop) → Prop
/-- an iterator has come -/
def PIE (X : Cx) (pins : List (Addr × Obj)) (σ : St) (tg : Expr) (R : It → Hp → Prop) (itv : Value) (s2 : Shared) : Prop :=
  ∃ (it : Addr) (fp : List Addr) (tn : Nat → Heap → Prop) (J : It) (H' : Hp), itv = .ref it ∧ Inv X pins σ H' s2 ∧ Turn X.prog X.w X.K tg J fp it tn ∧ tn 0 s2.heap ∧ (∀ b ∈ fp, FpOk X pins H' b) ∧ R J H'
def PI (X : Cx) (tg iter : Expr) (wi : TI) : Prop :=
  ∀ (pins : List (Addr × Obj)) (s : Shared) (σ : St) (H : Hp) (R : It → Hp → Prop), Inv X pins σ H s → wi σ H R →
    wpAny (model X.prog X.w) X.A (eval iter X.env) (fun v s1 => wpAny (model X.prog X.w) X.A (pyIter v) (PIE X pins σ tg R) X.xe s1) X.xe s

/-- the step ahead of the store is nothing for an iterator that keeps no tuple -/
theorem go_of {M : Model} {A : Around} {E : Value → Shared → Prop} {s : Shared} {tg : Expr} {it : Addr} {u : Value} {o : Obj} {n : String} {vs : Array Value} {Q : Unit → Shared → Prop} (ho : s.heap.get? it = some o) (hc : o.cls = .type n) (hd : o.data = .fields vs)
    (hn : ["enumerate", "zip", "dict_itemiterator", "dict_reverseitemiterator", "odict_iterator", "itertools.zip_longest", "itertools.pairwise"].contains n = false) (hQ : Q () s) : wpAny M A (letOwnedTupleGo tg (.ref it) u) Q E s := by
  unfold letOwnedTupleGo
  cases tg <;> first
    | exact wpAny_pure hQ
    | (cases u <;> first
        | exact wpAny_pure hQ
        | (refine wpAny_bind (wpAny_load ho ?_)
           rw [hc, hd]
           show wpAny M A (if (["enumerate", "zip", "dict_itemiterator", "dict_reverseitemiterator", "odict_iterator", "itertools.zip_longest", "itertools.pairwise"].contains n && vs[0]? == some (rawInt _)) = true then _ else _) Q E s
           rw [if_neg (by intro h; rw [hn, Bool.false_and] at h; cases h)]
           exact wpAny_pure hQ))

/-- the list at a, as it stands at each turn (a loop may append to it) -/
def Itl (K : PySem.W.Frag) (a : Addr) : It :=
  ⟨fun i H => ∃ xs x, SqL K H a xs ∧ xs[i]? = some x, fun i H x H' => H' = H ∧ ∀ xs, SqL K H a xs → xs[i]? = some x, fun i H => ∃ xs, SqL K H a xs ∧ xs.length ≤ i⟩
def Itt (K : PySem.W.Frag) (a : Addr) : It :=
  ⟨fun i H => ∃ xs x, SqT K H a xs ∧ xs[i]? = some x, fun i H x H' => H' = H ∧ ∀ xs, SqT K H a xs → xs[i]? = some x, fun i H => ∃ xs, SqT K H a xs ∧ xs.length ≤ i⟩
/-- lo, lo + 1, .. (n of them) -/
def Itr (lo : Int) (n : Nat) : It := ⟨fun i _ => i < n, fun i H x H' => H' = H ∧ x = .int (lo + i), fun i _ => n ≤ i⟩
theorem turn_list {P : Program} {w : World} {K : PySem.W.Frag} {tg : Expr} (a it : Addr) : Turn P w K tg (Itl K a) [it] it (fun i h => h.IsListIter it a i) where
  mem := by simp
  obj := fun i h st b hb => by
    have e : b = it := by simpa using hb
    subst e
    obtain ⟨o, e, c, d⟩ := st
    exact ⟨o, e, fun v z => by rw [d] at z; cases z⟩
  keep := fun i h h' st k => st.at fun o e => k it (by simp) o e
  item := by
    intro X hP hw hK hc i pins s σ H E I hf st hg
    subst hP hw hK
    obtain ⟨xs, x, hq, hx⟩ := hg
    obtain ⟨its, rv, p, hz⟩ := I.list hq
    obtain ⟨u, hu, ru⟩ := rv.get hx
    obtain ⟨f0, f1, f2, f3, f4, f5⟩ := hf it (by simp)
    refine wpAny_pyNext_list_item st p.isList (x := u) (by simpa using hu) fun h' st' sb => ?_
    have I1 : Inv X pins σ H { s with heap := h' } := I.turned (t' := s.toks) (fun b o hb e => (sb.2 b hb).trans e) f0 f1 f3 f4 f5
    obtain ⟨o, e, c, d⟩ := id st'
    exact ⟨u, rfl, go_of (s := { s with heap := h' }) e c d (by decide) ⟨x, H, I1, ru, ⟨rfl, fun ys hy => by rw [I.list_inj hy hq]; exact hx⟩, st', fun b hb => (hf b hb).1⟩⟩
  done := by
    intro X hP hw hK hc i pins s σ H E I hf st hg
    subst hP hw hK
    obtain ⟨xs, hq, hx⟩ := hg
    obtain ⟨its, rv, p, hz⟩ := I.list hq
    obtain ⟨f0, f1, f2, f3, f4, f5⟩ := hf it (by simp)
    have hl := rv.length
    exact wpAny_pyNext_list_end (I.ok.hd hc) st p.isList (by simp; omega) fun h' eb => ⟨rfl, I.turned (t' := s.toks) (fun b o hb e => eb b o hb e) f0 f1 f3 f4 f5⟩
  self := fun _ _ _ _ _ st h => wpAny_pyIter_listiter st h
theorem turn_tuple {P : Program} {w : World} {K : PySem.W.Frag} {tg : Expr} (a it : Addr) : Turn P w K tg (Itt K a) [it] it (fun i h => h.IsTupleIter it a i) where
  mem := by simp
  obj := fun i h st b hb => by
    have e : b = it := by simpa using hb
    subst e
    obtain ⟨o, e, c, d⟩ := st
    exact ⟨o, e, fun v z => by rw [d] at z; cases z⟩
  keep := fun i h h' st k => st.at fun o e => k it (by simp) o e
  item := by
    intro X hP hw hK hc i pins s σ H E I hf st hg
    subst hP hw hK
    obtain ⟨xs, x, hq, hx⟩ := hg
    obtain ⟨its, rv, p, hz⟩ := I.tuple hq
    obtain ⟨u, hu, ru⟩ := rv.get hx
    obtain ⟨f0, f1, f2, f3, f4, f5⟩ := hf it (by simp)
    refine wpAny_pyNext_tuple_item st (show s.heap.IsTuple a its.toArray from p) (x := u) (by simpa using hu) fun h' st' sb => ?_
    have I1 : Inv X pins σ H { s with heap := h' } := I.turned (t' := s.toks) (fun b o hb e => (sb.2 b hb).trans e) f0 f1 f3 f4 f5
    obtain ⟨o, e, c, d⟩ := id st'
    exact ⟨u, rfl, go_of (s := { s with heap := h' }) e c d (by decide) ⟨x, H, I1, ru, ⟨rfl, fun ys hy => by rw [I.tuple_inj hy hq]; exact hx⟩, st', fun b hb => (hf b hb).1⟩⟩
  done := by
    intro X hP hw hK hc i pins s σ H E I hf st hg
    subst hP hw hK
    obtain ⟨xs, hq, hx⟩ := hg
    obtain ⟨its, rv, p, hz⟩ := I.tuple hq
    obtain ⟨f0, f1, f2, f3, f4, f5⟩ := hf it (by simp)
    have hl := rv.length
    exact wpAny_pyNext_tuple_end (I.ok.hd hc) st (show s.heap.IsTuple a its.toArray from p) (by simp; omega) fun h' eb => ⟨rfl, I.turned (t' := s.toks) (fun b o hb e => eb b o hb e) f0 f1 f3 f4 f5⟩
  self := fun _ _ _ _ _ st h => wpAny_pyIter_tupleiter st h
theorem turn_range {P : Program} {w : World} {K : PySem.W.Frag} {tg : Expr} (it : Addr) (lo : Int) (n : Nat) : Turn P w K tg (Itr lo n) [it] it (fun i h => IsRangeIter h it (lo + (i : Nat) * 1) ((n : Int) - (i : Nat)) 1) where
  mem := by simp
  obj := fun i h st b hb => by
    have e : b = it := by simpa using hb
    subst e
    exact ⟨_, st, fun v z => by
      have z' : Data.fields _ = Data.cell v := z
      cases z'⟩
  keep := fun i h h' st k => k it (by simp) _ st
  item := by
    intro X hP hw hK hc i pins s σ H E I hf st hg
    subst hP hw hK
    obtain ⟨f0, f1, f2, f3, f4, f5⟩ := hf it (by simp)
    have W := Walks.range (prog := X.prog) (w := X.w) (I.ok.hd hc) it lo 1 n
    refine W.item i s _ _ hg st fun v h' tk hv st' kk => ?_
    obtain ⟨t, rfl⟩ := hv
    have I1 : Inv X pins σ H { s with heap := h', toks := tk } := I.turned (fun b o hb e => kk b o (by simpa using hb) e) f0 f1 f3 f4 f5
    refine ⟨_, rfl, go_of (s := { s with heap := h', toks := tk }) (n := "range_iterator") st' rfl rfl (by decide) ⟨.int (lo + i), H, I1, ⟨t, ?_⟩, ⟨rfl, rfl⟩, st', fun b hb => (hf b hb).1⟩⟩
    rw [Int.mul_one]
  done := by
    intro X hP hw hK hc i pins s σ H E I hf st hg
    subst hP hw hK
    obtain ⟨f0, f1, f2, f3, f4, f5⟩ := hf it (by simp)
    exact wpAny_pyNext_range_end (I.ok.hd hc) st (by have : n ≤ i := hg; omega) fun h' eb => ⟨rfl, I.turned (t' := s.toks) (fun b o hb e => eb b o hb e) f0 f1 f3 f4 f5⟩
  self := fun _ _ _ _ _ st h => wpAny_pyIter_rangeiter st h
end L2

namespace L2
open PySem PySem.Spec PyProof.Rows
section
variable {X : Cx} {tg : Expr}
def iList (K : PySem.W.Frag) (tl : TE) : TI := fun σ H R => tl σ H fun x H1 => ∃ a, x = .ref a ∧ (∃ xs, SqL K H1 a xs) ∧ R (Itl K a) H1
def iTup (K : PySem.W.Frag) (tl : TE) : TI := fun σ H R => tl σ H fun x H1 => ∃ a, x = .ref a ∧ (∃ xs, SqT K H1 a xs) ∧ R (Itt K a) H1
theorem pi_list {l : Expr} {tl : TE} (hl : PE X l tl) : PI X tg l (iList X.K tl) := by
  intro pins s σ H R I h
  refine thn (hl pins s σ H _ I h) fun v s1 ⟨x, H1, I1, r1, q1⟩ => ?_
  obtain ⟨a, e, ⟨xs, hq⟩, q⟩ := q1
  subst e
  cases r1
  obtain ⟨its, rv, p, hz⟩ := I1.list hq
  refine wpAny_pyIter_list p.isList ?_
  refine ⟨s1.heap.objs.size, [s1.heap.objs.size], _, _, H1, rfl, I1.kept (t' := s1.toks) fun b o e => Heap.get?_push_of_some _ e, turn_list a _, ⟨_, Heap.get?_push_size _ rfl, rfl, rfl⟩, fun b hb => ?_, q⟩
  have e : b = s1.heap.objs.size := by simpa using hb
  subst e
  exact I1.fpOk (Nat.le_refl _) (I1.hok.fresh (Nat.le_refl _))
theorem pi_tup {l : Expr} {tl : TE} (hl : PE X l tl) : PI X tg l (iTup X.K tl) := by
  intro pins s σ H R I h
  refine thn (hl pins s σ H _ I h) fun v s1 ⟨x, H1, I1, r1, q1⟩ => ?_
  obtain ⟨a, e, ⟨xs, hq⟩, q⟩ := q1
  subst e
  cases r1
  obtain ⟨its, rv, p, hz⟩ := I1.tuple hq
  refine wpAny_pyIter_tuple (show s1.heap.IsTuple a its.toArray from p) ?_
  refine ⟨s1.heap.objs.size, [s1.heap.objs.size], _, _, H1, rfl, I1.kept (t' := s1.toks) fun b o e => Heap.get?_push_of_some _ e, turn_tuple a _, ⟨_, Heap.get?_push_size _ rfl, rfl, rfl⟩, fun b hb => ?_, q⟩
  have e : b = s1.heap.objs.size := by simpa using hb
  subst e
  exact I1.fpOk (Nat.le_refl _) (I1.hok.fresh (Nat.le_refl _))
/-- a range object just made, walked -/
theorem range_it {pins : List (Addr × Obj)} {σ : St} {H : Hp} {s : Shared} {R : It → Hp → Prop} {E : Value → Shared → Prop} {lo hi : Int} {t u v : Tok} {tk : Nat} (I : Inv X pins σ H s) (h1 : -(2 ^ 62) ≤ lo) (h2 : lo < 2 ^ 62) (h3 : -(2 ^ 62) ≤ hi) (h4 : hi < 2 ^ 62)
    (q : R (Itr lo (hi - lo).toNat) H) : wpAny (model X.prog X.w) X.A (pyIter (.ref s.heap.objs.size)) (PIE X pins σ tg R) E { s with heap := s.heap.push { cls := .type "range", data := .fields #[.int lo t, .int hi u, .int 1 v] }, toks := tk } := by
  refine wpAny_pyIter_range (IsRange.new ..) (small_one h1 h2 h3 h4) ?_
  have I1 : Inv X pins σ H { s with heap := s.heap.push { cls := .type "range", data := .fields #[.int lo t, .int hi u, .int 1 v] }, toks := tk } := I.kept fun b o e => Heap.get?_push_of_some _ e
  refine ⟨(s.heap.push { cls := .type "range", data := .fields #[.int lo t, .int hi u, .int 1 v] }).objs.size, [(s.heap.push { cls := .type "range", data := .fields #[.int lo t, .int hi u, .int 1 v] }).objs.size], _, _, H, rfl,
    I1.kept (t' := tk) fun b o e => Heap.get?_push_of_some _ e, turn_range _ lo (hi - lo).toNat, ?_, fun b hb => ?_, q⟩
  · have e1 : lo + ((0 : Nat) : Int) * 1 = lo := by simp
    have e2 : (((hi - lo).toNat : Nat) : Int) - ((0 : Nat) : Int) = Builtin.Range.rangeSize lo hi 1 := by rw [rangeSize_one]; split <;> omega
    show IsRangeIter _ _ (lo + ((0 : Nat) : Int) * 1) ((((hi - lo).toNat : Nat) : Int) - ((0 : Nat) : Int)) 1
    rw [e1, e2]
    exact Heap.get?_push_size _ rfl
  · have e : b = (s.heap.push { cls := .type "range", data := .fields #[.int lo t, .int hi u, .int 1 v] }).objs.size := by simpa using hb
    subst e
    exact I1.fpOk (Nat.le_refl _) (I1.hok.fresh (Nat.le_refl _))
def iRng1 (ta : TA) : TI := fun σ H R => ta σ H fun vs H1 => ∃ j : Int, vs = [.int j] ∧ -(2 ^ 62) ≤ j ∧ j < 2 ^ 62 ∧ R (Itr 0 j.toNat) H1
def iRng2 (ta : TA) : TI := fun σ H R => ta σ H fun vs H1 => ∃ i j : Int, vs = [.int i, .int j] ∧ (-(2 ^ 62) ≤ i ∧ i < 2 ^ 62 ∧ -(2 ^ 62) ≤ j ∧ j < 2 ^ 62) ∧ R (Itr i (j - i).toNat) H1
theorem pi_range1 {a : Expr} {ta : TA} {p pos : Pos} (hg : Gl X "range") (hm : X.mg "range" = none) (ha : PA X [a] ta) (hs : starEach [a] X.env = [(false, eval a X.env)] := by rfl) : PI X tg (.Call (.Name "range" p) [a] [] pos) (iRng1 ta) := by
  intro pins s σ H R I h
  refine Call_ (ld_blt I hg hm boot_range (PyProof.Rows.callWith_type1 (thn (ha pos pins s σ H _ I h) fun us s1 ⟨vs, H1, I1, r1, q1⟩ => ?_) hs rfl))
  obtain ⟨j, e, q1, q2, q⟩ := q1
  subst e
  cases r1 with
  | cons r rr =>
    cases rr
    obtain ⟨t, rfl⟩ := r
    exact call_range_1 (range_it I1 (by omega) (by omega) q1 q2 (by simpa using q))
/-! ### for -/
/-- W: the invariant by the turn and a measure; N: what the body is to reach -/
def tFor (wi : TI) (g : TG) (tb : TS) : TS := fun D σ H => wi σ H fun J H1 => ∃ W : Nat → Nat → St → Hp → Prop, (∃ m, W 0 m σ H1) ∧ ∀ i m σ H, W i m σ H →
  (J.stop i H ∧ D.nx σ H) ∨ (J.go i H ∧ ∃ N : St → Hp → Prop, (∀ σ' H', N σ' H' → ∃ m', m' < m ∧ W (i + 1) m' σ' H') ∧ ∀ x H', J.yld i H x H' → g x σ H' fun σ2 H2 => tb { D with nx := N, ct := N, bk := D.nx } σ2 H2)
/-- the records at fp as they stand -/
def pinsAt (fp : List Addr) (h : Heap) : List (Addr × Obj) := fp.filterMap fun b => (h.get? b).map fun o => (b, o)
theorem mem_pinsAt {fp : List Addr} {h : Heap} {b : Addr} {o : Obj} (hb : b ∈ fp) (e : h.get? b = some o) : (b, o) ∈ pinsAt fp h := List.mem_filterMap.mpr ⟨b, hb, by rw [e]; rfl⟩
theorem of_pinsAt {fp : List Addr} {h : Heap} {p : Addr × Obj} (hp : p ∈ pinsAt fp h) : p.1 ∈ fp ∧ h.get? p.1 = some p.2 := by
  obtain ⟨b, hb, e⟩ := List.mem_filterMap.mp hp
  cases q : h.get? b with
  | none => rw [q] at e; cases e
  | some o =>
    rw [q] at e
    have e' : (b, o) = p := Option.some.inj e
    subst e'
    exact ⟨hb, q⟩
theorem Inv.pinned {pins : List (Addr × Obj)} {σ : St} {H : Hp} {s : Shared} {fp : List Addr} (I : Inv X pins σ H s) (hf : ∀ b ∈ fp, FpOk X pins H b) (ho : ∀ b ∈ fp, ∃ o, s.heap.get? b = some o ∧ ∀ v, o.data ≠ .cell v) : Inv X (pins ++ pinsAt fp s.heap) σ H s :=
  I.pins_of fun p hp => (List.mem_append.mp hp).elim (fun z => I.pin p (List.mem_append_right _ z)) fun z => by
    obtain ⟨hb, e⟩ := of_pinsAt z
    obtain ⟨f0, f1, f2, _⟩ := hf p.1 hb
    obtain ⟨o, e', d⟩ := ho p.1 hb
    rw [e] at e'; cases e'
    exact ⟨e, f0, f1, f2, d⟩
theorem Inv.unpinned {pins pl : List (Addr × Obj)} {σ : St} {H : Hp} {s : Shared} (I : Inv X (pins ++ pl) σ H s) : Inv X pins σ H s := I.pins_of fun p hp => I.pin p (List.mem_append_right _ (List.mem_append_left _ hp))
theorem ps_for {iter : Expr} {body : List Stmt} {wi : TI} {g : TG} {tb : TS} {pos : Pos} (hp : PassesOwn (model X.prog X.w) X.A X.env X.xe) (hc : X.calm = true) (hi : PI X tg iter wi) (hg : PG X tg g) (hb : PSs X body tb)
    (hs : ∀ x, foldedSetIterable iter X.env x = pure x := by intro _; rfl) : PS X (.For tg iter body [] pos) (tFor wi g tb) := by
  intro pins s σ H D I h
  refine wpAny_For (thn (hi pins s σ H _ I h) fun v s1 h1 => thn h1 fun itv s2 h2 => ?_) hs
  obtain ⟨it, fp, tn, J, H2, e, I2, T, st2, f2, W, ⟨m0, w0⟩, turn⟩ := h2
  subst e
  -- what stays true of the iterator's objects through the loop
  have stat : ∀ {H' : Hp}, (∀ b ∈ fp, H' b = none) → ∀ b ∈ fp, FpOk X pins H' b := fun hn b hb => ⟨hn b hb, (f2 b hb).2⟩
  refine codeAny_forLoop_any (fun n s' => ∃ i σ' H', Inv X pins σ' H' s' ∧ tn i s'.heap ∧ (∀ b ∈ fp, H' b = none) ∧ W i n σ' H') ?_ m0 ⟨0, σ, H2, I2, st2, fun b hb => (f2 b hb).1, w0⟩
  rintro n s3 ⟨i, σ3, H3, I3, st3, fr3, w3⟩
  rcases turn i n σ3 H3 w3 with ⟨stop, qn⟩ | ⟨go, N, hN, step⟩
  · refine wpAny_passesOwn hp (thn (T.done X rfl rfl rfl hc i pins s3 σ3 H3 X.xe I3 (stat fr3) st3 stop) fun r s4 ⟨hr, I4⟩ => ?_)
    subst hr
    exact wpAny_execs_nil ⟨σ3, H3, I4, qn⟩
  · refine wpAny_passesOwn hp (thn (T.item X rfl rfl rfl hc i pins s3 σ3 H3 X.xe I3 (stat fr3) st3 go) fun r s4 ⟨u, hr, h4⟩ => ?_)
    subst hr
    refine wpAny_passesOwn hp (thn h4 fun _ s5 ⟨x, H5, I5, r5, y5, st5, fr5⟩ => ?_)
    have I5' := I5.pinned (stat fr5) (T.obj _ _ st5)
    refine wpAny_passesOwn hp (thn (hg _ s5 σ3 H5 x u _ I5' r5 (step x H5 y5)) fun _ s6 ⟨σ6, H6, I6, q6⟩ => ?_)
    refine wpAny_passesOwn hp (thn (hb _ s6 σ6 H6 _ I6 q6) fun f s7 q7 => ?_)
    have again : ∀ {σ7 : St} {H7 : Hp}, Inv X (pins ++ pinsAt fp s5.heap) σ7 H7 s7 → N σ7 H7 → ∃ m, m < n ∧ ∃ i σ' H', Inv X pins σ' H' s7 ∧ tn i s7.heap ∧ (∀ b ∈ fp, H' b = none) ∧ W i m σ' H' := fun {σ7 H7} I7 n7 => by
      obtain ⟨m', hm, w7⟩ := hN σ7 H7 n7
      refine ⟨m', hm, i + 1, σ7, H7, I7.unpinned, T.keep _ _ _ st5 fun b hb o e => (I7.pin (b, o) (List.mem_append_right _ (List.mem_append_right _ (mem_pinsAt hb e)))).1, fun b hb => ?_, w7⟩
      obtain ⟨o, e, d⟩ := T.obj _ _ st5 b hb
      exact (I7.pin (b, o) (List.mem_append_right _ (List.mem_append_right _ (mem_pinsAt hb e)))).2.1
    cases f with
    | next => obtain ⟨σ7, H7, I7, n7⟩ := q7; exact again I7 n7
    | cont => obtain ⟨σ7, H7, I7, n7⟩ := q7; exact again I7 n7
    | brk => obtain ⟨σ7, H7, I7, q7⟩ := q7; exact ⟨σ7, H7, I7.unpinned, q7⟩
    | ret v => obtain ⟨x7, σ7, H7, I7, r7, q7⟩ := q7; exact ⟨x7, σ7, H7, I7.unpinned, r7, q7⟩
end

/-! ### the forms one uses -/
/-- over a list that the body leaves as it is -/
theorem for_list {K : PySem.W.Frag} {a : Addr} {xs : List V} {g : TG} {tb : TS} {D : Ends} {σ : St} {H : Hp} (Pv : Nat → St → Hp → Prop) (h0 : Pv 0 σ H) (hl : ∀ i σ H, i ≤ xs.length → Pv i σ H → SqL K H a xs)
    (hs : ∀ i x σ H, xs[i]? = some x → Pv i σ H → g x σ H fun σ2 H2 => tb { D with nx := Pv (i + 1), ct := Pv (i + 1), bk := D.nx } σ2 H2) (hd : ∀ σ H, Pv xs.length σ H → D.nx σ H) :
    ∃ W : Nat → Nat → St → Hp → Prop, (∃ m, W 0 m σ H) ∧ ∀ i m σ H, W i m σ H →
      ((Itl K a).stop i H ∧ D.nx σ H) ∨ ((Itl K a).go i H ∧ ∃ N : St → Hp → Prop, (∀ σ' H', N σ' H' → ∃ m', m' < m ∧ W (i + 1) m' σ' H') ∧ ∀ x H', (Itl K a).yld i H x H' → g x σ H' fun σ2 H2 => tb { D with nx := N, ct := N, bk := D.nx } σ2 H2) := by
  refine ⟨fun i m σ H => m = xs.length - i ∧ i ≤ xs.length ∧ Pv i σ H, ⟨xs.length, by simp, Nat.zero_le _, h0⟩, ?_⟩
  rintro i m σ H ⟨rfl, hi, p⟩
  have q := hl i σ H hi p
  by_cases hlt : i < xs.length
  · refine .inr ⟨⟨xs, xs[i], q, by simp [hlt]⟩, Pv (i + 1), fun σ' H' p' => ⟨xs.length - (i + 1), by omega, rfl, hlt, p'⟩, fun x H' y => ?_⟩
    obtain ⟨e, y⟩ := y
    subst e
    exact hs i x σ _ (y xs q) p
  · have e : i = xs.length := by omega
    subst e
    exact .inl ⟨⟨xs, q, Nat.le_refl _⟩, hd σ H p⟩
theorem for_tup {K : PySem.W.Frag} {a : Addr} {xs : List V} {g : TG} {tb : TS} {D : Ends} {σ : St} {H : Hp} (Pv : Nat → St → Hp → Prop) (h0 : Pv 0 σ H) (hl : ∀ i σ H, i ≤ xs.length → Pv i σ H → SqT K H a xs)
    (hs : ∀ i x σ H, xs[i]? = some x → Pv i σ H → g x σ H fun σ2 H2 => tb { D with nx := Pv (i + 1), ct := Pv (i + 1), bk := D.nx } σ2 H2) (hd : ∀ σ H, Pv xs.length σ H → D.nx σ H) :
    ∃ W : Nat → Nat → St → Hp → Prop, (∃ m, W 0 m σ H) ∧ ∀ i m σ H, W i m σ H →
      ((Itt K a).stop i H ∧ D.nx σ H) ∨ ((Itt K a).go i H ∧ ∃ N : St → Hp → Prop, (∀ σ' H', N σ' H' → ∃ m', m' < m ∧ W (i + 1) m' σ' H') ∧ ∀ x H', (Itt K a).yld i H x H' → g x σ H' fun σ2 H2 => tb { D with nx := N, ct := N, bk := D.nx } σ2 H2) := by
  refine ⟨fun i m σ H => m = xs.length - i ∧ i ≤ xs.length ∧ Pv i σ H, ⟨xs.length, by simp, Nat.zero_le _, h0⟩, ?_⟩
  rintro i m σ H ⟨rfl, hi, p⟩
  have q := hl i σ H hi p
  by_cases hlt : i < xs.length
  · refine .inr ⟨⟨xs, xs[i], q, by simp [hlt]⟩, Pv (i + 1), fun σ' H' p' => ⟨xs.length - (i + 1), by omega, rfl, hlt, p'⟩, fun x H' y => ?_⟩
    obtain ⟨e, y⟩ := y
    subst e
    exact hs i x σ _ (y xs q) p
  · have e : i = xs.length := by omega
    subst e
    exact .inl ⟨⟨xs, q, Nat.le_refl _⟩, hd σ H p⟩
theorem for_range {lo : Int} {n : Nat} {g : TG} {tb : TS} {D : Ends} {σ : St} {H : Hp} (Pv : Nat → St → Hp → Prop) (h0 : Pv 0 σ H)
    (hs : ∀ i σ H, i < n → Pv i σ H → g (.int (lo + i)) σ H fun σ2 H2 => tb { D with nx := Pv (i + 1), ct := Pv (i + 1), bk := D.nx } σ2 H2) (hd : ∀ σ H, Pv n σ H → D.nx σ H) :
    ∃ W : Nat → Nat → St → Hp → Prop, (∃ m, W 0 m σ H) ∧ ∀ i m σ H, W i m σ H →
      ((Itr lo n).stop i H ∧ D.nx σ H) ∨ ((Itr lo n).go i H ∧ ∃ N : St → Hp → Prop, (∀ σ' H', N σ' H' → ∃ m', m' < m ∧ W (i + 1) m' σ' H') ∧ ∀ x H', (Itr lo n).yld i H x H' → g x σ H' fun σ2 H2 => tb { D with nx := N, ct := N, bk := D.nx } σ2 H2) := by
  refine ⟨fun i m σ H => m = n - i ∧ i ≤ n ∧ Pv i σ H, ⟨n, by simp, Nat.zero_le _, h0⟩, ?_⟩
  rintro i m σ H ⟨rfl, hi, p⟩
  by_cases hlt : i < n
  · refine .inr ⟨hlt, Pv (i + 1), fun σ' H' p' => ⟨n - (i + 1), by omega, rfl, hlt, p'⟩, fun x H' y => ?_⟩
    obtain ⟨e, y⟩ := y
    subst e y
    exact hs i σ _ hlt p
  · have e : i = n := by omega
    subst e
    exact .inl ⟨Nat.le_refl _, hd σ H p⟩
/-- while, by a word and a measure of the state -/
theorem while_by {c : TT} {tb : TS} {D : Ends} {σ : St} {H : Hp} (Pv : St → Hp → Prop) (μ : St → Hp → Nat) (h0 : Pv σ H)
    (hs : ∀ σ H, Pv σ H → c σ H fun b H1 => if b = true then tb { D with nx := fun σ' H' => Pv σ' H' ∧ μ σ' H' < μ σ H, ct := fun σ' H' => Pv σ' H' ∧ μ σ' H' < μ σ H, bk := D.nx } σ H1 else D.nx σ H1)
    (mono : ∀ σ H Q Q', (∀ b H1, Q b H1 → Q' b H1) → c σ H Q → c σ H Q') : tWhile c tb D σ H := by
  refine ⟨fun m σ H => m = μ σ H ∧ Pv σ H, ⟨_, rfl, h0⟩, ?_⟩
  rintro m σ H ⟨rfl, p⟩
  refine mono σ H _ _ (fun b H1 q => ?_) (hs σ H p)
  cases b with
  | true => exact ⟨_, fun σ' H' ⟨p', l⟩ => ⟨_, l, rfl, p'⟩, q⟩
  | false => exact q
end L2

namespace L2
open PySem PySem.Spec PyProof.Rows

abbrev R2 := V → V → Hp → VK → Prop
/-- a two-place operation on values: f is binaryOp op, inplaceOp op or compareOp op -/
def OpR (X : Cx) (f : Value → Value → Sem Value) (r : R2) : Prop :=
  ∀ (pins : List (Addr × Obj)) (s : Shared) (σ : St) (H : Hp) (x y : V) (v u : Value) (Q : VK), Inv X pins σ H s → RelV x v → RelV y u → r x y H Q →
    wpAny (model X.prog X.w) X.A (f v u) (EP X pins σ Q) X.xe s
/-- a one-place operation -/
def UnR (X : Cx) (f : Value → Sem Value) (r : V → Hp → VK → Prop) : Prop :=
  ∀ (pins : List (Addr × Obj)) (s : Shared) (σ : St) (H : Hp) (x : V) (v : Value) (Q : VK), Inv X pins σ H s → RelV x v → r x H Q →
    wpAny (model X.prog X.w) X.A (f v) (EP X pins σ Q) X.xe s
/-- a call of a value that is known (a builtin, a type) with values -/
def CallR (X : Cx) (f : Value) (r : List V → Hp → VK → Prop) : Prop :=
  ∀ (pins : List (Addr × Obj)) (s : Shared) (σ : St) (H : Hp) (xs : List V) (us : List Value) (Q : VK), Inv X pins σ H s → Vals xs us → r xs H Q →
    wpAny (model X.prog X.w) X.A (call f us) (EP X pins σ Q) X.xe s
/-- a value's truth -/
def TruR (X : Cx) (r : V → Hp → (Bool → Hp → Prop) → Prop) : Prop :=
  ∀ (pins : List (Addr × Obj)) (s : Shared) (σ : St) (H : Hp) (x : V) (v : Value) (Q : Bool → Hp → Prop), Inv X pins σ H s → RelV x v → r x H Q →
    wpAny (model X.prog X.w) X.A (truthy v) (TP X pins σ Q) X.xe s

def tOp (r : R2) (ta tb : TE) : TE := fun σ H Q => ta σ H fun x H1 => tb σ H1 fun y H2 => r x y H2 Q
def tUn (r : V → Hp → VK → Prop) (ta : TE) : TE := fun σ H Q => ta σ H fun x H1 => r x H1 Q
/-- ints in, under C, and a value out -/
def rI (C : Int → Int → Prop) (g : Int → Int → V) : R2 := fun x y H Q => ∃ i j, x = .int i ∧ y = .int j ∧ C i j ∧ Q (g i j) H
def rI0 (g : Int → Int → V) : R2 := fun x y H Q => ∃ i j, x = .int i ∧ y = .int j ∧ Q (g i j) H
def rU (g : Int → V) : V → Hp → VK → Prop := fun x H Q => ∃ i, x = .int i ∧ Q (g i) H

section
variable {X : Cx} {a b c : Expr} {ta tb tc : TE} {pos : Pos}

theorem binT (ha : PE X a ta) (hb : PE X b tb) {pins : List (Addr × Obj)} {s : Shared} {σ : St} {H : Hp} {R : V → V → Hp → Prop} (I : Inv X pins σ H s)
    (h : ta σ H fun x H1 => tb σ H1 fun y H2 => R x y H2) {Q : Value → Shared → Prop} {f : Value → Value → Sem Value}
    (hf : ∀ v u s2 x y H2, Inv X pins σ H2 s2 → RelV x v → RelV y u → R x y H2 → wpAny (model X.prog X.w) X.A (f v u) Q X.xe s2) :
    wpAny (model X.prog X.w) X.A (eval a X.env) (fun v s₁ => wpAny (model X.prog X.w) X.A (eval b X.env) (fun u s₂ => wpAny (model X.prog X.w) X.A (f v u) Q X.xe s₂) X.xe s₁) X.xe s := by
  refine thn (ha pins s σ H _ I h) fun v s1 ⟨x, H1, I1, r1, q1⟩ => ?_
  refine thn (hb pins s1 σ H1 _ I1 q1) fun u s2 ⟨y, H2, I2, r2, q2⟩ => ?_
  exact hf v u s2 x y H2 I2 r1 r2 q2

theorem pe_op {op : Operator} {r : R2} (ho : OpR X (binaryOp op) r) (ha : PE X a ta) (hb : PE X b tb) : PE X (.BinOp a op b pos) (tOp r ta tb) := by
  intro pins s σ H Q I h
  exact wpAny_BinOp (binT ha hb I h fun v u s2 x y H2 I2 rx ry q => ho pins s2 σ H2 x y v u Q I2 rx ry q)
/-! ### ints -/
theorem opI {f : Value → Value → Sem Value} {C : Int → Int → Prop} {g : Int → Int → Int}
    (rule : ∀ (i j : Int) (t u : Tok) (s : Shared) (Q : Value → Shared → Prop) (E : Value → Shared → Prop), C i j → Q (.int (g i j) s.toks) { s with toks := s.toks + 1 } → wpAny (model X.prog X.w) X.A (f (.int i t) (.int j u)) Q E s) :
    OpR X f (rI C fun i j => .int (g i j)) := by
  intro pins s σ H x y v u Q I rx ry h
  obtain ⟨i, j, rfl, rfl, hc, q⟩ := h
  obtain ⟨t, rfl⟩ := rx
  obtain ⟨t', rfl⟩ := ry
  exact rule i j t t' s _ _ hc ⟨.int (g i j), H, I.tok _, ⟨_, rfl⟩, q⟩
theorem opI0 {f : Value → Value → Sem Value} {g : Int → Int → Int}
    (rule : ∀ (i j : Int) (t u : Tok) (s : Shared) (Q : Value → Shared → Prop) (E : Value → Shared → Prop), Q (.int (g i j) s.toks) { s with toks := s.toks + 1 } → wpAny (model X.prog X.w) X.A (f (.int i t) (.int j u)) Q E s) :
    OpR X f (rI0 fun i j => .int (g i j)) := by
  intro pins s σ H x y v u Q I rx ry h
  obtain ⟨i, j, rfl, rfl, q⟩ := h
  obtain ⟨t, rfl⟩ := rx
  obtain ⟨t', rfl⟩ := ry
  exact rule i j t t' s _ _ ⟨.int (g i j), H, I.tok _, ⟨_, rfl⟩, q⟩
theorem opB0 {f : Value → Value → Sem Value} {g : Int → Int → Bool}
    (rule : ∀ (i j : Int) (t u : Tok) (s : Shared) (Q : Value → Shared → Prop) (E : Value → Shared → Prop), Q (.bool (g i j)) s → wpAny (model X.prog X.w) X.A (f (.int i t) (.int j u)) Q E s) :
    OpR X f (rI0 fun i j => .bl (g i j)) := by
  intro pins s σ H x y v u Q I rx ry h
  obtain ⟨i, j, rfl, rfl, q⟩ := h
  obtain ⟨t, rfl⟩ := rx
  obtain ⟨t', rfl⟩ := ry
  exact rule i j t t' s _ _ ⟨.bl (g i j), H, I, rfl, q⟩

def CDiv (i j : Int) : Prop := 0 < j ∧ j < 1073741824
def CDivN (i j : Int) : Prop := j ≠ 0 ∧ j.natAbs < 1073741824
def CPow (i j : Int) : Prop := 0 ≤ j ∧ j ≤ 1000000 ∧ i.natAbs < 2 ^ 64
def CMul (i j : Int) : Prop := (-(2 ^ 64) < i ∧ i < 2 ^ 64) ∨ (-(2 ^ 64) < j ∧ j < 2 ^ 64)
theorem CMul.ok {i j : Int} (h : CMul i j) : IntMulOk i j := by
  rcases h with ⟨h1, h2⟩ | ⟨h1, h2⟩
  · exact .of_left (intBits_le_64 h1 h2)
  · exact .of_right (intBits_le_64 h1 h2)
theorem op_add : OpR X (binaryOp .Add) (rI0 fun i j => .int (i + j)) := opI0 fun _ _ _ _ _ _ _ q => add_int q
theorem op_sub : OpR X (binaryOp .Sub) (rI0 fun i j => .int (i - j)) := opI0 fun _ _ _ _ _ _ _ q => sub_int q
theorem op_mul : OpR X (binaryOp .Mult) (rI CMul fun i j => .int (i * j)) := opI fun _ _ _ _ _ _ _ hc q => mul_int q hc.ok
/-- // by a positive divisor -/
theorem op_fdiv : OpR X (binaryOp .FloorDiv) (rI CDiv fun i j => .int (i / j)) := opI fun i j _ _ _ _ _ hc q => by
  have h1 : (0 : Int) < j := hc.1
  have h2 : j < 1073741824 := hc.2
  exact floordiv_int (by omega) (by rw [Int.fdiv_eq_ediv_of_nonneg i (by omega)]; exact q) (.inl (PyProof.noPylong_small (by omega)))
/-- % by a positive divisor of any size -/
theorem op_mod : OpR X (binaryOp .Mod) (rI (fun _ j => 0 < j) fun i j => .int (i % j)) := opI fun i j _ _ _ _ _ hc q => by
  have h1 : (0 : Int) < j := hc
  exact mod_int' (by omega) (by rw [Int.fmod_eq_emod_of_nonneg i (by omega)]; exact q)
theorem op_pow : OpR X (binaryOp .Pow) (rI CPow fun i j => .int (i ^ j.toNat)) := opI fun _ _ _ _ _ _ _ hc q => pow_int_small hc.1 hc.2.1 hc.2.2 q
/-! ### bools among ints: n += (a < b) -/
end

/-! ### comparisons -/
/-- the scalars that == tells apart as data does -/
def scal : V → V → Bool
  | .non, .non => true | .non, .int _ => true | .int _, .non => true | .non, .bl _ => true | .bl _, .non => true | .non, .str _ => true | .str _, .non => true
  | .int _, .int _ => true | .bl _, .bl _ => true | .str _, .str _ => true | .byt _, .byt _ => true
  | .int _, .str _ => true | .str _, .int _ => true | .bl _, .str _ => true | .str _, .bl _ => true
  | _, _ => false
def rEq : R2 := fun x y H Q => scal x y = true ∧ Q (.bl (decide (x = y))) H
def rNe : R2 := fun x y H Q => scal x y = true ∧ Q (.bl (!decide (x = y))) H

theorem dec_int {i j : Int} : decide (V.int i = V.int j) = (i == j) := by
  rw [Bool.eq_iff_iff]
  simp
theorem dec_bl {i j : Bool} : decide (V.bl i = V.bl j) = (i == j) := by
  rw [Bool.eq_iff_iff]
  simp
theorem dec_str {i j : Str} : decide (V.str i = V.str j) = (i == j) := by
  rw [Bool.eq_iff_iff]
  simp
theorem dec_byt {i j : Array UInt8} : decide (V.byt i = V.byt j) = (i.toList == j.toList) := by
  rw [Bool.eq_iff_iff]
  cases i
  cases j
  simp

section
variable {X : Cx} {a b c : Expr} {ta tb tc : TE} {pos : Pos}
theorem fin_bl {pins : List (Addr × Obj)} {σ : St} {H : Hp} {s : Shared} {Q : VK} {k k' : Bool} (I : Inv X pins σ H s) (q : Q (.bl k) H) (e : k = k') : EP X pins σ Q (.bool k') s := by
  subst e
  exact ⟨.bl k, H, I, rfl, q⟩
theorem op_eq : OpR X (compareOp .Eq) rEq := by
  intro pins s σ H x y v u Q I rx ry h
  obtain ⟨hs, q⟩ := h
  cases x with
  | non =>
    cases rx
    cases y with
    | non => cases ry; exact PySem.EqNone.eq_none_none (fin_bl I q (by simp))
    | bl j => cases ry; exact PySem.EqNone.eq_none_bool (fin_bl I q (by simp))
    | int j => obtain ⟨t', rfl⟩ := ry; exact PySem.EqNone.eq_none_int (fin_bl I q (by simp))
    | str j => obtain ⟨t', rfl⟩ := ry; exact PySem.EqNone.eq_none_str (fin_bl I q (by simp))
    | _ => exact absurd (show false = true from hs) Bool.false_ne_true
  | bl i =>
    cases rx
    cases y with
    | non => cases ry; exact PySem.EqNone.eq_bool_none (fin_bl I q (by simp))
    | bl j => cases ry; exact eq_bool (fin_bl I q dec_bl)
    | str j => obtain ⟨t', rfl⟩ := ry; exact PySem.EqMixed.eq_bool_str (fin_bl I q (by simp))
    | _ => exact absurd (show false = true from hs) Bool.false_ne_true
  | int i =>
    obtain ⟨t, rfl⟩ := rx
    cases y with
    | non => cases ry; exact PySem.EqNone.eq_int_none (fin_bl I q (by simp))
    | int j => obtain ⟨t', rfl⟩ := ry; exact eq_int (fin_bl I q dec_int)
    | str j => obtain ⟨t', rfl⟩ := ry; exact PySem.EqMixed.eq_int_str (fin_bl I q (by simp))
    | _ => exact absurd (show false = true from hs) Bool.false_ne_true
  | str i =>
    obtain ⟨t, rfl⟩ := rx
    cases y with
    | non => cases ry; exact PySem.EqNone.eq_str_none (fin_bl I q (by simp))
    | bl j => cases ry; exact PySem.EqMixed.eq_str_bool (fin_bl I q (by simp))
    | int j => obtain ⟨t', rfl⟩ := ry; exact PySem.EqMixed.eq_str_int (fin_bl I q (by simp))
    | str j => obtain ⟨t', rfl⟩ := ry; exact eq_str (fin_bl I q dec_str)
    | _ => exact absurd (show false = true from hs) Bool.false_ne_true
  | byt i =>
    obtain ⟨t, rfl⟩ := rx
    cases y with
    | byt j => obtain ⟨t', rfl⟩ := ry; exact PySem.W.eq_bytes (fin_bl I q dec_byt)
    | _ => exact absurd (show false = true from hs) Bool.false_ne_true
  | _ => cases y <;> exact absurd (show false = true from hs) Bool.false_ne_true
theorem op_ne : OpR X (compareOp .NotEq) rNe := by
  intro pins s σ H x y v u Q I rx ry h
  obtain ⟨hs, q⟩ := h
  cases x with
  | non =>
    cases rx
    cases y with
    | non => cases ry; exact PySem.EqNone.ne_none_none (fin_bl I q (by simp))
    | bl j => cases ry; exact PySem.EqNone.ne_none_bool (fin_bl I q (by simp))
    | int j => obtain ⟨t', rfl⟩ := ry; exact PySem.EqNone.ne_none_int (fin_bl I q (by simp))
    | str j => obtain ⟨t', rfl⟩ := ry; exact PySem.EqNone.ne_none_str (fin_bl I q (by simp))
    | _ => exact absurd (show false = true from hs) Bool.false_ne_true
  | bl i =>
    cases rx
    cases y with
    | non => cases ry; exact PySem.EqNone.ne_bool_none (fin_bl I q (by simp))
    | bl j => cases ry; exact ne_bool (fin_bl I q (congrArg not dec_bl))
    | str j => obtain ⟨t', rfl⟩ := ry; exact PySem.EqMixed.ne_bool_str (fin_bl I q (by simp))
    | _ => exact absurd (show false = true from hs) Bool.false_ne_true
  | int i =>
    obtain ⟨t, rfl⟩ := rx
    cases y with
    | non => cases ry; exact PySem.EqNone.ne_int_none (fin_bl I q (by simp))
    | int j => obtain ⟨t', rfl⟩ := ry; exact ne_int (fin_bl I q (congrArg not dec_int))
    | str j => obtain ⟨t', rfl⟩ := ry; exact PySem.EqMixed.ne_int_str (fin_bl I q (by simp))
    | _ => exact absurd (show false = true from hs) Bool.false_ne_true
  | str i =>
    obtain ⟨t, rfl⟩ := rx
    cases y with
    | non => cases ry; exact PySem.EqNone.ne_str_none (fin_bl I q (by simp))
    | bl j => cases ry; exact PySem.EqMixed.ne_str_bool (fin_bl I q (by simp))
    | int j => obtain ⟨t', rfl⟩ := ry; exact PySem.EqMixed.ne_str_int (fin_bl I q (by simp))
    | str j => obtain ⟨t', rfl⟩ := ry; exact ne_str (fin_bl I q (congrArg not dec_str))
    | _ => exact absurd (show false = true from hs) Bool.false_ne_true
  | byt i =>
    obtain ⟨t, rfl⟩ := rx
    cases y with
    | byt j => obtain ⟨t', rfl⟩ := ry; exact PySem.W.ne_bytes (fin_bl I q (congrArg not dec_byt))
    | _ => exact absurd (show false = true from hs) Bool.false_ne_true
  | _ => cases y <;> exact absurd (show false = true from hs) Bool.false_ne_true

theorem op_lt : OpR X (compareOp .Lt) (rI0 fun i j => .bl (decide (i < j))) := opB0 fun _ _ _ _ _ _ _ q => lt_int q
theorem op_gt : OpR X (compareOp .Gt) (rI0 fun i j => .bl (decide (j < i))) := opB0 fun _ _ _ _ _ _ _ q => gt_int q
theorem op_ge : OpR X (compareOp .GtE) (rI0 fun i j => .bl (decide (j ≤ i))) := opB0 fun _ _ _ _ _ _ _ q => ge_int q
/-- is None, is not None: the right side a value none -/
theorem op_isN : OpR X (compareOp .Is) (fun x y H Q => y = .non ∧ Q (.bl (decide (x = .non))) H) := by
  intro pins s σ H x y v u Q I rx ry h
  obtain ⟨rfl, q⟩ := h
  cases ry
  refine is_none_gen (fin_bl I q ?_)
  cases x <;> first
    | (cases rx; rfl)
    | (obtain ⟨t, rfl⟩ := rx; rfl)
theorem op_notN : OpR X (compareOp .IsNot) (fun x y H Q => y = .non ∧ Q (.bl (!decide (x = .non))) H) := by
  intro pins s σ H x y v u Q I rx ry h
  obtain ⟨rfl, q⟩ := h
  cases ry
  refine isnot_none_gen (fin_bl I q ?_)
  cases x <;> first
    | (cases rx; rfl)
    | (obtain ⟨t, rfl⟩ := rx; rfl)

/-- is, is not of two objects that are tracked lists or instances -/
def isObj : HO → Bool
  | .lst _ => true
  | .ins _ _ _ => true
  | _ => false
/-- two rules for one operation: by cases -/
theorem OpR.or {f : Value → Value → Sem Value} {r r' : R2} (h : OpR X f r) (h' : OpR X f r') : OpR X f (fun x y H Q => r x y H Q ∨ r' x y H Q) := by
  intro pins s σ H x y v u Q I rx ry q
  rcases q with q | q
  · exact h pins s σ H x y v u Q I rx ry q
  · exact h' pins s σ H x y v u Q I rx ry q

theorem nomark (b : Expr) {op : CmpOp} (h : op ≠ .In := by decide) (h2 : op ≠ .NotIn := by decide) : behindInMarks op b = false := by
  have e1 : (op == CmpOp.In) = false := by cases op <;> first | rfl | exact absurd rfl h
  have e2 : (op == CmpOp.NotIn) = false := by cases op <;> first | rfl | exact absurd rfl h2
  cases b <;> simp [behindInMarks, e1, e2]
/-- a comparison as a value; hm: nomark b, or (for in, not in) by with_unfolding_all rfl -/
theorem pe_cmpR {op : CmpOp} {r : R2} (ho : OpR X (compareOp op) r) (ha : PE X a ta) (hb : PE X b tb) (hm : behindInMarks op b = false) : PE X (.Compare a [op] [b] pos) (tOp r ta tb) := by
  intro pins s σ H Q I h
  exact wpAny_Compare1 (binT ha hb I h fun v u s2 x y H2 I2 rx ry q => ho pins s2 σ H2 x y v u Q I2 rx ry q) hm
/-- a reading of a value as a test -/
def tTest (t : TE) : TT := fun σ H Q => t σ H fun x H' => ∃ k, x = .bl k ∧ Q k H'
theorem pt_cmpR {op : CmpOp} {r : R2} (ho : OpR X (compareOp op) r) (ha : PE X a ta) (hb : PE X b tb) (hm : behindInMarks op b = false) : PT X (.Compare a [op] [b] pos) (tTest (tOp r ta tb)) := by
  intro pins s σ H Q I h
  refine wpAny_isTrue_Compare1 (thn (ha pins s σ H _ I h) fun v s1 ⟨x, H1, I1, r1, q1⟩ => thn (hb pins s1 σ H1 _ I1 q1) fun u s2 ⟨y, H2, I2, r2, q2⟩ =>
    thn (ho pins s2 σ H2 x y v u _ I2 r1 r2 q2) fun c s3 ⟨z, H3, I3, r3, k, e, q3⟩ => ?_) hm
  subst e
  cases r3
  exact wpAny_truthy_bool ⟨H3, I3, q3⟩
/-- a op1 b op2 c -/
def tChain (r r' : R2) (ta tb tc : TE) : TE := fun σ H Q => ta σ H fun x H1 => tb σ H1 fun y H2 => r x y H2 fun z H3 => ∃ k, z = .bl k ∧
  (if k = true then tc σ H3 fun w' H4 => r' y w' H4 Q else Q (.bl false) H3)
/-! ### truth -/
/-- a value's truth by the abstract heap -/
def TruV (K : PySem.W.Frag) (x : V) (H : Hp) (k : Bool) : Prop :=
  match x with
  | .non => k = false
  | .bl b => k = b
  | .int i => k = (i != 0)
  | .str y => y.length ≤ sizeLine ∧ k = ((y.length : Int) != 0)
  | .byt y => y.size ≤ sizeLine ∧ k = ((y.size : Int) != 0)
  | .ref p => (∃ xs, SqL K H p xs ∧ k = !xs.isEmpty) ∨ (∃ xs, SqT K H p xs ∧ k = !xs.isEmpty) ∨ ∃ kvs, H p = some (.dK kvs) ∧ k = !kvs.isEmpty
  | _ => False
theorem line63 : (sizeLine : Nat) < 2 ^ 63 := by rw [sizeLine_eq]; decide
/-! ### strs and bytes -/
def PlainIxT (b : Expr) : Prop := ∀ o i, subscripted b false o i = operate [o, i] (getItem o i)
/-! ### scalar builtins, by CallR -/
theorem vals1 {x : V} {us : List Value} (r : Vals [x] us) : ∃ u, us = [u] ∧ RelV x u := by
  cases r with
  | cons r1 r2 => cases r2; exact ⟨_, rfl, r1⟩
theorem vals2 {x y : V} {us : List Value} (r : Vals [x, y] us) : ∃ u w', us = [u, w'] ∧ RelV x u ∧ RelV y w' := by
  cases r with
  | cons r1 r2 =>
    cases r2 with
    | cons r3 r4 => cases r4; exact ⟨_, _, rfl, r1, r3⟩
theorem call_abs : CallR X (.builtin "abs") (fun xs H Q => ∃ i, xs = [.int i] ∧ Q (.int (if i < 0 then -i else i)) H) := by
  intro pins s σ H xs us Q I r h
  obtain ⟨i, rfl, q⟩ := h
  obtain ⟨u, rfl, t, rfl⟩ := vals1 r
  exact call_abs_int fun u tk => ⟨.int (if i < 0 then -i else i), H, I.tok _, ⟨_, rfl⟩, q⟩
theorem call_max2 (hc : X.calm = true) : CallR X (.builtin "max") (fun xs H Q => ∃ i j, xs = [.int i, .int j] ∧ Q (.int (if j > i then j else i)) H) := by
  intro pins s σ H xs us Q I r h
  obtain ⟨i, j, rfl, q⟩ := h
  obtain ⟨u, w', rfl, ⟨t, rfl⟩, ⟨t', rfl⟩⟩ := vals2 r
  refine max_two_ints (I.ok.hd hc) fun h' tk k => ⟨_, H, I.kept k, ?_, q⟩
  by_cases hj : j > i
  · rw [if_pos hj, if_pos hj]; exact ⟨_, rfl⟩
  · rw [if_neg hj, if_neg hj]; exact ⟨_, rfl⟩
theorem call_min2 (hc : X.calm = true) : CallR X (.builtin "min") (fun xs H Q => ∃ i j, xs = [.int i, .int j] ∧ Q (.int (if j < i then j else i)) H) := by
  intro pins s σ H xs us Q I r h
  obtain ⟨i, j, rfl, q⟩ := h
  obtain ⟨u, w', rfl, ⟨t, rfl⟩, ⟨t', rfl⟩⟩ := vals2 r
  refine min_two_ints (I.ok.hd hc) fun h' tk k => ⟨_, H, I.kept k, ?_, q⟩
  by_cases hj : j < i
  · rw [if_pos hj, if_pos hj]; exact ⟨_, rfl⟩
  · rw [if_neg hj, if_neg hj]; exact ⟨_, rfl⟩
theorem call_int1 : CallR X (.type "int") (fun xs H Q => (∃ i, xs = [.int i] ∧ Q (.int i) H) ∨ ∃ k, xs = [.bl k] ∧ Q (.int (if k then 1 else 0)) H) := by
  intro pins s σ H xs us Q I r h
  rcases h with ⟨i, rfl, q⟩ | ⟨k, rfl, q⟩
  · obtain ⟨u, rfl, t, rfl⟩ := vals1 r
    exact call_int_int ⟨.int i, H, I, ⟨_, rfl⟩, q⟩
  · obtain ⟨u, rfl, r1⟩ := vals1 r
    cases r1
    exact call_int_bool ⟨.int (if k then 1 else 0), H, I.tok _, ⟨_, rfl⟩, q⟩
/-- len of a str, a bytes, a list, a tuple -/
def LenV (K : PySem.W.Frag) (x : V) (H : Hp) (n : Nat) : Prop :=
  match x with
  | .str y => y.length ≤ sizeLine ∧ n = y.length
  | .byt y => y.size ≤ sizeLine ∧ n = y.size
  | .ref p => (∃ xs, SqL K H p xs ∧ n = xs.length) ∨ ∃ xs, SqT K H p xs ∧ n = xs.length
  | _ => False
end
end L2

namespace L2
open PySem PySem.Spec PyProof.Rows

/-! ### an instance, its attributes a map -/
structure ObjM (h : Heap) (x dx C : Addr) (mA : Str → Option Value) : Prop where
  obj : h.get? x = some (PySem.W.instObj C dx)
  ns : h.Ns1 dx mA
  ne : dx ≠ x

theorem lookIn_ns {h : Heap} {dx : Addr} {mA : Str → Option Value} (n : h.Ns1 dx mA) : ∃ od, h.get? dx = some od ∧ ∀ name, PySem.W.lookIn name od = some (mA name) := by
  obtain ⟨o, es, ep, ho, hd, hk, _, hm⟩ := n
  refine ⟨o, ho, fun name => ?_⟩
  have e := hm name
  unfold nsFind findBy at e
  rw [← Array.find?_toList] at e
  unfold PySem.W.lookIn
  rw [hd]
  dsimp only
  split
  · rename_i y q
    rw [q] at e
    exact congrArg some e
  · rename_i q
    rw [q] at e
    have a : es.toList.any (·.refKey) = false := by
      rw [List.any_eq_false]
      intro y hy
      obtain ⟨z, t, hkey⟩ := hk y (Array.mem_toList_iff.mp hy)
      simp [DictEntry.refKey, hkey]
    have a' : ¬ es.toList.any (·.refKey) = true := by rw [a]; exact Bool.false_ne_true
    rw [if_neg a']
    exact congrArg some e

theorem ObjM.look {h : Heap} {x dx C : Addr} {mA : Str → Option Value} (I : ObjM h x dx C mA) : ∃ od, PySem.W.InstAt h x (PySem.W.instObj C dx) C (some od) ∧ ∀ name, PySem.W.lookIn name od = some (mA name) :=
  let ⟨od, ho, hl⟩ := lookIn_ns I.ns
  ⟨od, ⟨I.obj, rfl, rfl, ho⟩, hl⟩

section
variable {prog : Program} {w : World} {A : Around} {E : Value → Shared → Prop} {s : Shared} {K : PySem.W.Frag} {x dx C f : Addr} {mA : Str → Option Value} {name : Str} {v : Value}

theorem get_map {expr : Bool} {Q : Value → Shared → Prop} (X : K.In s.heap) (I : ObjM s.heap x dx C mA) (hg : PySem.W.plainGet K C name = true) (hh : PySem.W.hasDictIn K C = true)
    (ha : PySem.W.findIn K (.ref C) name = some none) (hv : mA name = some v) (hv' : PySem.W.handedIn v = true) (h : Q v { s with toks := s.toks + 1 }) :
    wpAny (model prog w) A (getAttr (.ref x) name expr) Q E s := by
  obtain ⟨od, J, hl⟩ := I.look
  exact PySem.W.get_value X J (PySem.W.plainGet_of hg).1 (PySem.W.findObj_own hh ha rfl (by rw [hl, hv])) hv' h

theorem get_meth {pl : Sem Bool} {Q : Value × List Value → Shared → Prop} (X : K.In s.heap) (I : ObjM s.heap x dx C mA) (hg : PySem.W.plainGet K C name = true)
    (hf : PySem.W.findIn K (.ref C) name = some (some (.ref f))) (ht : PySem.W.isFn K (.ref f) = true) (hv : mA name = none) (h : Q (.ref f, [.ref x]) s) :
    wpAny (model prog w) A (getMethod (.ref x) name pl) Q E s := by
  obtain ⟨od, J, hl⟩ := I.look
  exact PySem.W.method_fn X J (PySem.W.plainGet_of hg).1 (PySem.W.plainGet_of hg).2 hf (beq_iff_eq.mp ht) (by show (PySem.W.lookIn name od).map (·.isSome) = some false; rw [hl, hv]; rfl) h

theorem set_map {ns : List Str} {Q : Unit → Shared → Prop} (X : K.In s.heap) (I : ObjM s.heap x dx C mA)
    (hs : PySem.W.findIn K (.ref C) "__setattr__" = some (some (.builtin "object.__setattr__"))) (hp : PySem.W.plainOver K C = true) (ht : PySem.W.takerIn K C name = some none) (hh : PySem.W.hasDictIn K C = true)
    (hw : PySem.Within mA ns) (hsz : ns.length ≤ sizeLine)
    (h : ∀ h', ObjM h' x dx C (fun y => if y = name then some v else mA y) → Heap.SameBut dx s.heap h' → Q () { s with heap := h', toks := s.toks + 2 }) :
    wpAny (model prog w) A (setAttr (.ref x) name v) Q E s := by
  obtain ⟨od, J, hl⟩ := I.look
  refine PySem.W.set_plain X J hs (PySem.W.osa_open (s := { s with toks := s.toks + 1 }) (r := none) X J hp ht fun b => ?_)
  obtain ⟨cd, hc, hd'⟩ := PySem.W.any_some hh
  have hx : s.heap.get? x = some ⟨.ref C, some dx, .plain, #[]⟩ := I.obj
  refine wpAny_bind (wpAny_pure (wpAny_bind (wpAny_bind (wpAny_loadPart hx (wpAny_bind (PySem.W.Looks.here (s := { s with toks := s.toks + 1 }) (PySem.W.looks_clsIn X hc) ?_))))))
  rw [hd']
  refine wpAny_pure (a := some dx) (wpAny_bind (wpAny_pure (wpAny_bind ?_)))
  refine wpAny_nsSet1 (s := { s with toks := s.toks + 1 }) I.ns fun h' hn2 hs2 => ?_
  obtain ⟨oD, esD, epD, hoD, hdD, hcD⟩ := hn2.count (PySem.Within.cons name v hw)
  refine wpAny_bind (wpAny_lookBehind hoD (by rw [hdD]; exact pastItsLine_dict (Nat.le_trans hcD (by rw [List.length_cons]; omega))) ?_)
  exact wpAny_pure (h _ ⟨(hs2.2 _ (Ne.symm I.ne)).trans I.obj, hn2, I.ne⟩ hs2)

/-- C(..): the dict at the heap's end, the instance behind it; then its __init__ -/
theorem make_map {R : Result → Shared → Prop} {vs : List Value} {kw : List (Str × Value)} (X : K.In s.heap) (hm : PySem.W.makesIn K C = true)
    (hi : PySem.W.findIn K (.ref C) "__init__" = some (some (.ref f))) (hf : PySem.W.typeIn K (.ref f) = some (.type "function"))
    (h : codeAny (model prog w) (A.under (.builtin "type.__call__" ⟨.ref C :: vs, kw⟩)) (.call (.ref f) ⟨.ref (s.heap.objs.size + 1) :: vs, kw⟩) (PySem.W.InitBack (s.heap.objs.size + 1) R)
      { s with heap := (s.heap.push PySem.W.emptyDict).push (PySem.W.instObj C s.heap.objs.size) }) :
    codeAny (model prog w) A (.call (.ref C) ⟨vs, kw⟩) R s := by
  obtain ⟨hh, g, d, t, os⟩ := s
  exact PySem.W.make_core (PySem.W.makes_of X hm) (PySem.W.looks_findIn X hi) (fun self => PySem.W.bind_fn X self hf) (.inl rfl) h
end

/-! ### the attributes as a list of pairs -/
def putF (f : Str) (v : V) : List (Str × V) → List (Str × V)
  | [] => [(f, v)]
  | (g, x) :: r => if g = f then (g, v) :: r else (g, x) :: putF f v r
theorem lookup_putF (f g : Str) (v : V) : ∀ fs : List (Str × V), (putF f v fs).lookup g = if g = f then some v else fs.lookup g
  | [] => by
    show List.lookup g [(f, v)] = _
    by_cases h : g = f
    · have hb : (g == f) = true := beq_iff_eq.mpr h
      simp only [List.lookup, hb, if_pos h]
    · have hb : (g == f) = false := beq_eq_false_iff_ne.mpr h
      simp only [List.lookup, hb, if_neg h]
  | (k, x) :: r => by
    have ih := lookup_putF f g v r
    rw [show putF f v ((k, x) :: r) = (if k = f then (k, v) :: r else (k, x) :: putF f v r) from rfl]
    by_cases hk : k = f
    · rw [if_pos hk]
      by_cases h : g = k
      · have hb : (g == k) = true := beq_iff_eq.mpr h
        simp only [List.lookup, hb, if_pos (h.trans hk)]
      · have hb : (g == k) = false := beq_eq_false_iff_ne.mpr h
        simp only [List.lookup, hb, if_neg (fun e : g = f => h (e.trans hk.symm))]
    · rw [if_neg hk]
      by_cases h : g = k
      · have hb : (g == k) = true := beq_iff_eq.mpr h
        simp only [List.lookup, hb, if_neg (fun e : g = f => hk (h.symm.trans e))]
      · have hb : (g == k) = false := beq_eq_false_iff_ne.mpr h
        simp only [List.lookup, hb]
        exact ih
theorem keys_putF (f : Str) (v : V) : ∀ fs : List (Str × V), f ∈ (putF f v fs).map (·.1) ∧ ∀ g, g ∈ fs.map (·.1) → g ∈ (putF f v fs).map (·.1)
  | [] => ⟨by simp [putF], fun g h => by simp at h⟩
  | (k, x) :: r => by
    obtain ⟨i1, i2⟩ := keys_putF f v r
    rw [show putF f v ((k, x) :: r) = (if k = f then (k, v) :: r else (k, x) :: putF f v r) from rfl]
    by_cases hk : k = f
    · rw [if_pos hk]
      subst hk
      exact ⟨by simp, fun g h => by simpa using h⟩
    · rw [if_neg hk]
      refine ⟨?_, fun g h => ?_⟩
      · rw [List.map_cons]
        exact List.mem_cons_of_mem _ i1
      · rw [List.map_cons] at h ⊢
        rcases List.mem_cons.mp h with e | e
        · exact List.mem_cons.mpr (.inl e)
        · exact List.mem_cons_of_mem _ (i2 g e)
theorem length_putF (f : Str) (v : V) : ∀ fs : List (Str × V), (putF f v fs).length ≤ fs.length + 1
  | [] => by simp [putF]
  | (k, x) :: r => by
    have ih := length_putF f v r
    rw [show putF f v ((k, x) :: r) = (if k = f then (k, v) :: r else (k, x) :: putF f v r) from rfl]
    by_cases hk : k = f
    · rw [if_pos hk, List.length_cons, List.length_cons]; omega
    · rw [if_neg hk, List.length_cons, List.length_cons]; omega

theorem RelO.some_of {v : V} {o : Option Value} (r : RelO (some v) o) : ∃ u, o = some u ∧ RelV v u := by
  cases o with
  | none => exact (show False from r).elim
  | some u => exact ⟨u, rfl, r⟩
theorem RelO.none_of {o : Option Value} (r : RelO none o) : o = none := by
  cases o with
  | none => rfl
  | some u => exact (show False from r).elim
theorem handed_of {v : V} {u : Value} (r : RelV v u) : PySem.W.handedIn u = true := by
  cases v with
  | non => cases (show u = Value.none from r); rfl
  | bl b => cases (show u = Value.bool b from r); rfl
  | int i => obtain ⟨t, e⟩ := (show ∃ t, u = Value.int i t from r); cases e; rfl
  | str x => obtain ⟨t, e⟩ := (show ∃ t, u = Value.str x t from r); cases e; rfl
  | byt b => obtain ⟨t, e⟩ := (show ∃ t, u = Value.bytes b t from r); cases e; rfl
  | flt b => obtain ⟨t, e⟩ := (show ∃ t, u = Value.float b t from r); cases e; rfl
  | ref a => cases (show u = Value.ref a from r); rfl
  | ty n => cases (show u = Value.type n from r); rfl

section
variable {P : Program} {w : World} {H H' : Hp} {h h' : Heap} {a C dx : Addr} {fs fs' : List (Str × V)}
theorem ins_get (hok : HOk P w H h) (e : H a = some (.ins C dx fs)) : ∃ mA, ObjM h a dx C mA ∧ (∀ f, RelO (fs.lookup f) (mA f)) ∧ PySem.Within mA (fs.map (·.1)) ∧ fs.length ≤ 1000 ∧ H dx = some (.own a) := by
  obtain ⟨d, z, ne, ob, mA, n, r, q⟩ := (show ObjOk P w H h a (.ins C dx fs) from hok a _ e)
  exact ⟨mA, ⟨ob, n, ne⟩, r, q, z, d⟩
end

/-! ### what of the text a class must have -/
structure Cls (K : PySem.W.Frag) (C : Addr) : Prop where
  pg : PySem.W.plainGet K C Str.empty = true
  hd : PySem.W.hasDictIn K C = true
  po : PySem.W.plainOver K C = true
  sa : PySem.W.findIn K (.ref C) "__setattr__" = some (some (.builtin "object.__setattr__"))
theorem Cls.get {K : PySem.W.Frag} {C : Addr} (c : Cls K C) (f : Str) : PySem.W.plainGet K C f = true := c.pg
/-- no class of it has the name -/
def NoAttr (K : PySem.W.Frag) (C : Addr) (f : Str) : Prop := PySem.W.findIn K (.ref C) f = some none
theorem NoAttr.taker {K : PySem.W.Frag} {C : Addr} {f : Str} (n : NoAttr K C f) : PySem.W.takerIn K C f = some none := by
  unfold PySem.W.takerIn
  rw [show PySem.W.findIn K (.ref C) f = some none from n]
  rfl
/-- a constant of the class -/
structure Con (K : PySem.W.Frag) (C : Addr) (f : Str) (v : V) (u : Value) : Prop where
  at_ : PySem.W.findIn K (.ref C) f = some (some u)
  rel : RelV v u
  get : PySem.W.specialIn K u "__get__" = some none
  cp : PySem.W.copiedNames.contains f = false
/-- a method: a plain def of the class or of one above it -/
structure Meth (K : PySem.W.Frag) (C : Addr) (m : Str) (f : Addr) : Prop where
  at_ : PySem.W.findIn K (.ref C) m = some (some (.ref f))
  fn : PySem.W.isFn K (.ref f) = true
  kp : PySem.W.keepIn K (.ref f) = true

section
variable {X : Cx} {pins : List (Addr × Obj)} {σ : St} {H : Hp} {s : Shared} {a C dx : Addr} {fs : List (Str × V)} {f : Str} {v : V} {A : Around} {E : Value → Shared → Prop}

theorem getattr_ok {b : Bool} {Q : Value → Shared → Prop} (I : Inv X pins σ H s) (e : H a = some (.ins C dx fs)) (c : Cls X.K C) (n : NoAttr X.K C f) (l : fs.lookup f = some v)
    (h : ∀ u s', Inv X pins σ H s' → RelV v u → Q u s') : wpAny (model X.prog X.w) A (getAttr (.ref a) f b) Q E s := by
  obtain ⟨mA, O, r, _, _, _⟩ := ins_get I.hok e
  obtain ⟨u, hu, ru⟩ := RelO.some_of (v := v) (o := mA f) (by rw [← l]; exact r f)
  exact get_map I.kIn O (c.get f) c.hd n hu (handed_of ru) (h u _ (I.tok _) ru)

theorem getmeth_ok {m : Str} {g : Addr} {pl : Sem Bool} {Q : Value × List Value → Shared → Prop} (I : Inv X pins σ H s) (e : H a = some (.ins C dx fs)) (c : Cls X.K C) (k : Meth X.K C m g) (l : fs.lookup m = none)
    (h : Q (.ref g, [.ref a]) s) : wpAny (model X.prog X.w) A (getMethod (.ref a) m pl) Q E s := by
  obtain ⟨mA, O, r, _, _, _⟩ := ins_get I.hok e
  have hn : mA m = none := RelO.none_of (by rw [← l]; exact r m)
  exact get_meth I.kIn O (c.get m) k.at_ k.fn hn h

theorem setattr_ok {y : V} {u : Value} {Q : Unit → Shared → Prop} (I : Inv X pins σ H s) (e : H a = some (.ins C dx fs)) (c : Cls X.K C) (n : NoAttr X.K C f) (hl : fs.length < 1000) (ry : RelV y u)
    (h : ∀ s', Inv X pins σ (upd H a (.ins C dx (putF f y fs))) s' → Q () s') : wpAny (model X.prog X.w) A (setAttr (.ref a) f u) Q E s := by
  obtain ⟨mA, O, r, wi, _, ho⟩ := ins_get I.hok e
  have hz : (fs.map (·.1)).length ≤ sizeLine := by rw [List.length_map, sizeLine_eq]; omega
  refine set_map I.kIn O c.sa c.po n.taker c.hd wi hz fun h' O' sb => h _ ?_
  have hd : ∃ o, h'.get? dx = some o := let ⟨o, _, _, e', _⟩ := O'.ns; ⟨o, e'⟩
  refine I.write (x := a) (e := dx) (by rw [e]; exact True.intro) (.inr ho) (fun b q hb z => (sb.2 b hb).trans z) hd ?_
  refine ⟨by rw [upd_ne O.ne]; exact ho, ?_, O.ne, O'.obj, _, O'.ns, fun g => ?_, fun g hg => ?_⟩
  · have := length_putF f y fs; omega
  · show RelO ((putF f y fs).lookup g) (if g = f then some u else mA g)
    rw [lookup_putF]
    by_cases q : g = f
    · rw [if_pos q, if_pos q]; exact ry
    · rw [if_neg q, if_neg q]; exact r g
  · by_cases q : g = f
    · rw [q]; exact (keys_putF f y fs).1
    · refine (keys_putF f y fs).2 g (wi g fun z => hg ?_)
      show (if g = f then some u else mA g) = none
      rw [if_neg q]; exact z

/-- a new instance, tracked, without attributes -/
theorem Inv.made (I : Inv X pins σ H s) : Inv X pins σ (upd (upd H s.heap.objs.size (.own (s.heap.objs.size + 1))) (s.heap.objs.size + 1) (.ins C s.heap.objs.size []))
    { s with heap := (s.heap.push PySem.W.emptyDict).push (PySem.W.instObj C s.heap.objs.size) } := by
  have e1 : (s.heap.push PySem.W.emptyDict).get? s.heap.objs.size = some PySem.W.emptyDict := Heap.get?_push_size s.heap rfl
  have e2 : ((s.heap.push PySem.W.emptyDict).push (PySem.W.instObj C s.heap.objs.size)).get? (s.heap.objs.size + 1) = some (PySem.W.instObj C s.heap.objs.size) := by
    have := Heap.get?_push_size (s.heap.push PySem.W.emptyDict) (o := PySem.W.instObj C s.heap.objs.size) rfl
    rwa [Heap.size_push] at this
  have e3 : (s.heap.push PySem.W.emptyDict).Ns s.heap.objs.size (fun _ => none) := ⟨PySem.W.emptyDict, #[], _, e1, rfl, (fun e he => absurd he (by simp)), fun _ => rfl⟩
  have I1 := I.laid (a := s.heap.objs.size) (o := .own (s.heap.objs.size + 1)) (h' := s.heap.push PySem.W.emptyDict) (t' := s.toks) (fun b u q => Heap.get?_push_of_some _ q) (Nat.le_refl _) ⟨_, e1⟩
  refine I1.laid (a := s.heap.objs.size + 1) (o := .ins C s.heap.objs.size []) (t' := s.toks) (fun b u q => Heap.get?_push_of_some _ q) (Nat.le_of_eq (Heap.size_push _ _)) ?_
  have ne : s.heap.objs.size ≠ s.heap.objs.size + 1 := Nat.ne_of_lt (Nat.lt_succ_self _)
  refine ⟨by rw [upd_ne ne, upd_same], Nat.zero_le _, ne, e2, fun _ => none, (Heap.Ns1.of_empty e3).at fun o q => Heap.get?_push_of_some _ q, fun _ => True.intro, fun y hy => absurd rfl hy⟩

/-- e.f where nothing but the object is asked: through attributeBase (super) and the last hold -/
theorem attr_of {prog : Program} {w : World} {env : Env} {e : Expr} {f : Str} {pos : Pos} {s : Shared} {Q : Value → Shared → Prop} (hb : attributeBase e f env (eval e env) = eval e env)
    (h : wpAny (model prog w) A (eval e env) (fun o s₁ => wpAny (model prog w) A (getAttr o f true) Q E s₁) E s) : wpAny (model prog w) A (eval (.Attribute e f pos) env) Q E s :=
  Attribute_any_ h (by rw [arm_eval_Attribute, hb])
end

/-! ### readings and rules -/
/-- e.f, an attribute of the instance -/
def tFld (K : PySem.W.Frag) (ta : TE) (f : Str) : TE := fun σ H Q => ta σ H fun x H1 => ∃ a C dx fs v, x = .ref a ∧ H1 a = some (.ins C dx fs) ∧ Cls K C ∧ NoAttr K C f ∧ fs.lookup f = some v ∧ Q v H1
/-- e.f, a constant of the class -/
def tCon (K : PySem.W.Frag) (ta : TE) (f : Str) : TE := fun σ H Q => ta σ H fun x H1 => ∃ a C dx fs v u, x = .ref a ∧ H1 a = some (.ins C dx fs) ∧ Cls K C ∧ Con K C f v u ∧ fs.lookup f = none ∧ Q v H1
/-- e.f = value -/
def sFld (K : PySem.W.Frag) (ta tv : TE) (f : Str) : TS := fun D σ H => tv σ H fun y H1 => ta σ H1 fun x H2 => ∃ a C dx fs, x = .ref a ∧ H2 a = some (.ins C dx fs) ∧ Cls K C ∧ NoAttr K C f ∧ fs.length < 1000 ∧
  D.nx σ (upd H2 a (.ins C dx (putF f y fs)))
/-- an augmented operator on two values -/
def InOp (X : Cx) (op : Operator) (rd : V → V → Hp → VK → Prop) : Prop :=
  ∀ (pins : List (Addr × Obj)) (s : Shared) (σ : St) (H : Hp) (x y : V) (u v : Value) (Q : VK), Inv X pins σ H s → RelV x u → RelV y v → rd x y H Q → wpAny (model X.prog X.w) X.A (inplaceOp op u v) (EP X pins σ Q) X.xe s
/-- e.f op= value -/
def sFldAug (K : PySem.W.Frag) (ta tv : TE) (rd : V → V → Hp → VK → Prop) (f : Str) : TS := fun D σ H => ta σ H fun x H1 => ∃ a C dx fs v, x = .ref a ∧ H1 a = some (.ins C dx fs) ∧ Cls K C ∧ NoAttr K C f ∧ fs.lookup f = some v ∧
  tv σ H1 fun y H2 => rd v y H2 fun z H3 => ∃ dx' fs', H3 a = some (.ins C dx' fs') ∧ fs'.length < 1000 ∧ D.nx σ (upd H3 a (.ins C dx' (putF f z fs')))

section
variable {X : Cx} {o e value : Expr} {f : Str} {pos pos' tpos : Pos} {ta tv : TE}
theorem pe_fld (he : PE X e ta) (hb : attributeBase e f X.env (eval e X.env) = eval e X.env) : PE X (.Attribute e f pos) (tFld X.K ta f) := by
  intro pins s σ H Q I h
  refine attr_of hb (thn (he pins s σ H _ I h) fun u s1 ⟨x, H1, I1, rx, a, C, dx, fs, v, ex, ea, c, n, l, q⟩ => ?_)
  subst ex
  obtain rfl : u = Value.ref a := rx
  exact getattr_ok I1 ea c n l fun u' s2 I2 ru => ⟨v, H1, I2, ru, q⟩
theorem ps_fld (ha : PE X o ta) (hv : PE X value tv) (hs : swapsWith value (some (.Attribute o f pos')) pos.line X.env = pure false) : PS X (.Assign [.Attribute o f pos'] value pos) (sFld X.K ta tv f) := by
  intro pins s σ H D I h
  refine plainObj_wpAny_Assign_Attribute (thn (hv pins s σ H _ I h) fun u s1 ⟨y, H1, I1, ry, q⟩ => thn (ha pins s1 σ H1 _ I1 q) fun ov s2 ⟨x, H2, I2, rx, a, C, dx, fs, ex, ea, c, n, l, q2⟩ => ?_) hs
  subst ex
  obtain rfl : ov = Value.ref a := rx
  exact setattr_ok I2 ea c n l ry fun s3 I3 => ⟨σ, _, I3, q2⟩
theorem ps_fldaug {op : Operator} {rd : V → V → Hp → VK → Prop} (ha : PE X o ta) (hv : PE X value tv) (hop : InOp X op rd) : PS X (.AugAssign (.Attribute o f tpos) op value pos) (sFldAug X.K ta tv rd f) := by
  intro pins s σ H D I h
  refine wpAny_AugAssign_AttributeAny (thn (ha pins s σ H _ I h) fun ov s1 ⟨x, H1, I1, rx, a, C, dx, fs, v, ex, ea, c, n, l, q⟩ => ?_)
  subst ex
  obtain rfl : ov = Value.ref a := rx
  refine getattr_ok I1 ea c n l fun u s2 I2 ru => thn (hv pins s2 σ H1 _ I2 q) fun w3 s3 ⟨y, H2, I3, ry, q3⟩ => thn (hop pins s3 σ H2 v y u w3 _ I3 ru ry q3) fun w4 s4 ⟨z, H3, I4, rz, dx', fs', ea', l', q4⟩ => ?_
  exact setattr_ok I4 ea' c n l' rz fun s5 I5 => ⟨σ, _, I5, q4⟩
def rAdd : V → V → Hp → VK → Prop := fun x y H Q => ∃ i j, x = .int i ∧ y = .int j ∧ Q (.int (i + j)) H
def rSub : V → V → Hp → VK → Prop := fun x y H Q => ∃ i j, x = .int i ∧ y = .int j ∧ Q (.int (i - j)) H
theorem in_add : InOp X .Add rAdd := by
  rintro pins s σ H x y u v Q I rx ry ⟨i, j, rfl, rfl, q⟩
  obtain ⟨t, rfl⟩ := (show ∃ t, u = Value.int i t from rx)
  obtain ⟨t', rfl⟩ := (show ∃ t', v = Value.int j t' from ry)
  exact PyProof.Rows.iadd_int ⟨.int (i + j), H, I.tok _, ⟨_, rfl⟩, q⟩
end

/-! ### isinstance -/
section
variable {X : Cx} {pins : List (Addr × Obj)} {σ : St} {H : Hp} {s : Shared} {A : Around} {E : Value → Shared → Prop} {Q : Value → Shared → Prop} {c : Value} {b : Bool}
/-- the type of a value, as the fragment's deciders take it; for an instance its class -/
inductive TyOf (K : PySem.W.Frag) (H : Hp) : V → Value → Prop where
  | non : TyOf K H .non (.type "NoneType")
  | bl (x : Bool) : TyOf K H (.bl x) (.type "bool")
  | int (i : Int) : TyOf K H (.int i) (.type "int")
  | str (x : Str) : TyOf K H (.str x) (.type "str")
  | flt (x : UInt64) : TyOf K H (.flt x) (.type "float")
  | lst {a : Addr} {xs : List V} (e : H a = some (.lst xs)) : TyOf K H (.ref a) (.type "list")
  | frz {a : Addr} {o : Obj} {xs : List V} (e : H a = some (.frz o (.lst xs))) : TyOf K H (.ref a) (.type "list")
  | tup {a : Addr} {xs : List V} (e : H a = some (.tup xs)) : TyOf K H (.ref a) (.type "tuple")
  | dK {a : Addr} {kvs : List (Key × V)} (e : H a = some (.dK kvs)) : TyOf K H (.ref a) (.type "dict")
  | dT {a : Addr} {kvs : List (List Key × V)} (e : H a = some (.dT kvs)) : TyOf K H (.ref a) (.type "dict")
  | ins {a C dx : Addr} {fs : List (Str × V)} (e : H a = some (.ins C dx fs)) (cl : Cls K C) (ha : PySem.W.findIn K (.ref C) "__class__" = some (some (.builtin "object.__class__")))
      (hn : PySem.W.specialIn K (.builtin "object.__class__") "__get__" = some (some (.builtin "getset_descriptor.__get__"))) (htk : PySem.W.takesIn K (.builtin "object.__class__") = some true)
      (hm : PySem.W.mroIn K C (.type "object") = some true) : TyOf K H (.ref a) (.ref C)
/-- isinstance(x, c) for one class c, a built-in or an own one: kitOne's answer -/
theorem isinst_ok {x : V} {u t : Value} (I : Inv X pins σ H s) (rx : RelV x u) (ty : TyOf X.K H x t) (e : PySem.W.kitOne X.K t c = some b) (h : ∀ tk, Q (.bool b) { s with toks := tk }) :
    wpAny (model X.prog X.w) A (call (.builtin "isinstance") [u, c]) Q E s := by
  cases ty with
  | non => cases (show u = Value.none from rx); exact PySem.W.kia_one PySem.W.kitx_none I.kIn True.intro e (fun z => nomatch z) h
  | bl y => cases (show u = Value.bool y from rx); exact PySem.W.kia_one PySem.W.kitx_bool I.kIn True.intro e (fun z => nomatch z) h
  | int i => obtain ⟨t, q⟩ := (show ∃ t, u = Value.int i t from rx); cases q; exact PySem.W.kia_one PySem.W.kitx_int I.kIn True.intro e (fun z => nomatch z) h
  | str y => obtain ⟨t, q⟩ := (show ∃ t, u = Value.str y t from rx); cases q; exact PySem.W.kia_one PySem.W.kitx_str I.kIn True.intro e (fun z => nomatch z) h
  | flt y => obtain ⟨t, q⟩ := (show ∃ t, u = Value.float y t from rx); cases q; exact PySem.W.kia_one PySem.W.kitx_float I.kIn True.intro e (fun z => nomatch z) h
  | @lst a xs ea =>
    cases (show u = Value.ref a from rx)
    obtain ⟨_, _, n, _, h1⟩ := (show ObjOk X.prog X.w H s.heap a (.lst xs) from I.hok a _ ea)
    exact PySem.W.kia_one PySem.W.kitx_list I.kIn ⟨_, h1, rfl⟩ e (fun z => nomatch z) h
  | @frz a ob xs ea =>
    cases (show u = Value.ref a from rx)
    obtain ⟨_, _, _, n, _, h1⟩ := (show ObjOk X.prog X.w H s.heap a (.frz ob (.lst xs)) from I.hok a _ ea)
    exact PySem.W.kia_one PySem.W.kitx_list I.kIn ⟨_, h1, rfl⟩ e (fun z => nomatch z) h
  | @tup a xs ea =>
    cases (show u = Value.ref a from rx)
    obtain ⟨_, _, _, p⟩ := (show ObjOk X.prog X.w H s.heap a (.tup xs) from I.hok a _ ea)
    obtain ⟨o, h1, h2, _⟩ := p
    exact PySem.W.kia_one PySem.W.kitx_tuple I.kIn ⟨o, h1, h2⟩ e (fun z => nomatch z) h
  | @dK a kvs ea =>
    cases (show u = Value.ref a from rx)
    obtain ⟨_, _, vs, _, p⟩ := (show ObjOk X.prog X.w H s.heap a (.dK kvs) from I.hok a _ ea)
    obtain ⟨o, es, ep, h1, h2, _⟩ := p
    exact PySem.W.kia_one PySem.W.kitx_dict I.kIn ⟨o, h1, h2.1⟩ e (fun z => nomatch z) h
  | @dT a kvs ea =>
    cases (show u = Value.ref a from rx)
    obtain ⟨_, _, xs, _, o, es, ep, h1, h2, _⟩ := (show ObjOk X.prog X.w H s.heap a (.dT kvs) from I.hok a _ ea)
    exact PySem.W.kia_one PySem.W.kitx_dict I.kIn ⟨o, h1, h2.1⟩ e (fun z => nomatch z) h
  | @ins a C dx fs ea cl ha hn htk hm =>
    cases (show u = Value.ref a from rx)
    obtain ⟨mA, O, _⟩ := ins_get I.hok ea
    obtain ⟨od, J, _⟩ := O.look
    exact PySem.W.kia_one (PySem.W.kitx_own (cl.get _) cl.hd ha hn htk hm) I.kIn J e (fun z => nomatch z) h
end
end L2

namespace L2
open PySem PySem.Spec PyProof.Rows

/-! ### room -/
structure Room (k : Nat) (A : Around) : Prop where
  hd : A.handled = none
  dp : A.depth + 3 * k + 5 < recursionLimit
  un : A.units + 16 * k + 200 < cLine
theorem Room.mono {j k : Nat} {A : Around} (r : Room k A) (h : j ≤ k) : Room j A := ⟨r.hd, by have := r.dp; omega, by have := r.un; omega⟩
theorem Room.deeper {k : Nat} {A : Around} (r : Room (k + 1) A) (env : Env) : Room k (A.deeper env) :=
  ⟨r.hd, by have := r.dp; show A.depth + 1 + 3 * k + 5 < _; omega, by have := r.un; show A.units + 3 + 16 * k + 200 < _; omega⟩
theorem Room.in1 {k : Nat} {A : Around} (r : Room (k + 1) A) : Room k A.in1 :=
  ⟨r.hd, by have := r.dp; show A.depth + 3 * k + 5 < _; omega, by have := r.un; show A.units + 1 + 16 * k + 200 < _; omega⟩
theorem make_depth {A : Around} {C : Addr} {us : List Value} {kw : List (Str × Value)} : (A.under (.builtin "type.__call__" ⟨.ref C :: us, kw⟩)).depth = A.depth + 1 := by
  first | rfl | simp [Around.under, Code.weight, Code.isCreation, Code.isGuard, Code.isCaller, Code.frames, Code.isFrame, guardIds]
theorem make_units {A : Around} {C : Addr} {us : List Value} {kw : List (Str × Value)} : (A.under (.builtin "type.__call__" ⟨.ref C :: us, kw⟩)).units = A.units + 1 := by
  first | rfl | simp [Around.under, Code.cUnits, Code.frames, Code.isFrame]
theorem Room.make {k : Nat} {A : Around} (r : Room (k + 1) A) (C : Addr) (us : List Value) (kw : List (Str × Value)) : Room k (A.under (.builtin "type.__call__" ⟨.ref C :: us, kw⟩)) :=
  ⟨r.hd, by have := r.dp; rw [make_depth]; omega, by have := r.un; rw [make_units]; omega⟩
theorem Room.depth {k : Nat} {A : Around} (r : Room k A) : A.depth < recursionLimit := by have := r.dp; omega
theorem Room.units {k : Nat} {A : Around} (r : Room k A) : A.units + 64 < cLine := by have := r.un; omega
/-! ### argument lists and displays -/
def tNil : TA := fun _ H Q => Q [] H
def tCons (ta : TE) (tr : TA) : TA := fun σ H Q => ta σ H fun x H1 => tr σ H1 fun xs H2 => Q (x :: xs) H2
section
variable {X : Cx} {e : Expr} {es : List Expr} {te : TE} {t : TA} {pos : Pos}
theorem pa_nil : PA X [] tNil := fun _ _ _ _ H Q I h => Calls.spliced_nil ⟨[], H, I, .nil, h⟩
theorem pa_cons (ha : PE X e te) (hr : PA X es t) (hs : starEach (e :: es) X.env = (false, eval e X.env) :: starEach es X.env := by rfl) : PA X (e :: es) (tCons te t) := by
  intro pos pins s σ H Q I h
  rw [hs]
  show wpAny _ _ (spliced ((false, eval e X.env) :: backTo pos (starEach es X.env))) _ _ s
  refine Calls.spliced_cons (thn (ha pins s σ H _ I h) fun u s1 ⟨x, H1, I1, r1, q1⟩ => ?_)
  exact thn (hr pos pins s1 σ H1 _ I1 q1) fun us s2 ⟨xs, H2, I2, r2, q2⟩ => ⟨x :: xs, H2, I2, .cons r1 r2, q2⟩

/-- a tuple, a list of written items -/
def tTup (t : TA) : TE := fun σ H Q => t σ H fun xs H1 => xs.length ≤ sizeLine ∧ ∀ p, H1 p = none → Q (.ref p) (upd H1 p (.tup xs))
def tLst (t : TA) : TE := fun σ H Q => t σ H fun xs H1 => xs.length ≤ sizeLine ∧ ∀ p, H1 p = none → Q (.ref p) (upd H1 p (.lst xs))
theorem pe_tup {x1} (h : PA X es t) : PE X (.Tuple es x1 pos) (tTup t) := by
  intro pins s σ H Q I hq
  refine wpAny_Tuple_spliced (thn (h pos pins s σ H _ I hq) fun us s1 ⟨xs, H1, I1, r, z, q⟩ => ⟨by rw [← r.length]; exact z, ?_⟩)
  have hf : H1 s1.heap.objs.size = none := I1.hok.fresh (Nat.le_refl _)
  refine ⟨.ref s1.heap.objs.size, upd H1 s1.heap.objs.size (.tup xs), I1.laid (t' := s1.toks) (fun b u e => Heap.get?_push_of_some _ e) (Nat.le_refl _) ?_, rfl, q _ hf⟩
  exact ⟨z, us, r, ⟨_, Heap.get?_push_size _ rfl, rfl, _, rfl⟩⟩
theorem pe_lst (h : PA X es t) : PE X (.List es pos) (tLst t) := by
  intro pins s σ H Q I hq
  refine wpAny_List_spliced (thn (h pos pins s σ H _ I hq) fun us s1 ⟨xs, H1, I1, r, z, q⟩ => ⟨by rw [← r.length]; exact z, ?_⟩)
  have hf : H1 s1.heap.objs.size = none := I1.hok.fresh (Nat.le_refl _)
  refine ⟨.ref s1.heap.objs.size, upd H1 s1.heap.objs.size (.lst xs), I1.laid (t' := s1.toks) (fun b u e => Heap.get?_push_of_some _ e) (Nat.le_refl _) ?_, rfl, q _ hf⟩
  exact ⟨z, us, 0, r, Heap.get?_push_size _ rfl⟩
end

/-! ### what a def promises -/
/-- a def's promise: the bound arguments in the parameters' order, the heap, the wanted end, the wanted exception -/
abbrev Sp := List V → Hp → VK → XK → Prop
/-- how an exception lies behind a call (file 08 gives it): the callers' frames, abstract heap and state ahead of the call, the wish, the exception, the state -/
abbrev CXT := List Env → Hp → Shared → XK → Value → Shared → Prop

/-- the state at a call -/
structure Env0 (P : Program) (w : World) (K : PySem.W.Frag) (mg : Str → Option Value) (base : Heap) (A : Around) (outer : List Env) (s : Shared) (H : Hp) : Prop where
  frames : A.frames = some outer
  mod : Mod K mg base
  bs : ∀ b o, base.get? b = some o → s.heap.get? b = some o ∧ H b = none
  bsz : base.objs.size ≤ s.heap.objs.size
  funs : s.heap.FunFrames base outer
  frf : ∀ b ∈ frs outer, H b = none
  hok : HOk P w H s.heap
  bare : AllBare s.gens
/-- a call's end -/
def CE (outer : List Env) (P : Program) (w : World) (H : Hp) (s : Shared) (Q : VK) (u : Value) (s' : Shared) : Prop :=
  ∃ v H', s'.os = s.os ∧ AllBare s'.gens ∧ Un (frs outer) [] H H' s.heap s'.heap ∧ HOk P w H' s'.heap ∧ RelV v u ∧ Q v H'
def CR (CX : CXT) (outer : List Env) (P : Program) (w : World) (H : Hp) (s : Shared) (Q : VK) (E : XK) (r : Result) (s' : Shared) : Prop :=
  match r with
  | .ok (.ret u) => CE outer P w H s Q u s'
  | .ok _ => False
  | .error e => CX outer H s E e s'
structure FnOk (P : Program) (w : World) (K : PySem.W.Frag) (mg : Str → Option Value) (base : Heap) (CX : CXT) (k : Nat) (f : Addr) (fd : FuncData) (ps : List Str) (sp : Sp) : Prop where
  len : ∀ vs H Q E, sp vs H Q E → vs.length = ps.length
  run : ∀ (A : Around) (outer : List Env) (s : Shared) (H : Hp) (args : Args) (us : List Value) (vs : List V) (Q : VK) (E : XK), Room k A → Env0 P w K mg base A outer s H → BindsTo s fd args (ps.zip us) → Vals vs us → sp vs H Q E →
    codeAny (model P w) A (.call (.ref f) args) (CR CX outer P w H s Q E) s
theorem FnOk.mono {P : Program} {w : World} {K : PySem.W.Frag} {mg : Str → Option Value} {base : Heap} {CX : CXT} {j k : Nat} {f : Addr} {fd : FuncData} {ps : List Str} {sp : Sp} (F : FnOk P w K mg base CX j f fd ps sp) (h : j ≤ k) :
    FnOk P w K mg base CX k f fd ps sp := ⟨F.len, fun A outer s H args us vs Q E hr => F.run A outer s H args us vs Q E (hr.mono h)⟩
theorem Env0.make {P : Program} {w : World} {K : PySem.W.Frag} {mg : Str → Option Value} {base : Heap} {A : Around} {outer : List Env} {s : Shared} {H : Hp} (e : Env0 P w K mg base A outer s H) (C : Addr) (us : List Value) (kw : List (Str × Value)) :
    Env0 P w K mg base (A.under (.builtin "type.__call__" ⟨.ref C :: us, kw⟩)) outer s H := ⟨by first | exact e.frames | (simpa [Around.under, Code.envs, Code.isFrame, pushEnvs] using e.frames), e.mod, e.bs, e.bsz, e.funs, e.frf, e.hok, e.bare⟩
theorem Env0.in1 {P : Program} {w : World} {K : PySem.W.Frag} {mg : Str → Option Value} {base : Heap} {A : Around} {outer : List Env} {s : Shared} {H : Hp} (e : Env0 P w K mg base A outer s H) :
    Env0 P w K mg base A.in1 outer s H := ⟨e.frames, e.mod, e.bs, e.bsz, e.funs, e.frf, e.hok, e.bare⟩

section
variable {X : Cx} {pins : List (Addr × Obj)} {σ : St} {H : Hp} {s s' : Shared}
/-- from a body: what a callee wants -/
theorem Inv.env0 (I : Inv X pins σ H s) : Env0 X.prog X.w X.K X.mg X.base X.A X.stack s H :=
  ⟨I.ok.frames, I.ok.mod, I.bs, Nat.le_trans I.ok.bsz I.sz, I.stack, I.stkFree, I.hok, I.bare⟩
/-- behind a call -/
theorem Inv.after {Q : VK} {u : Value} (I : Inv X pins σ H s) (h : CE X.stack X.prog X.w H s Q u s') : EP X pins σ Q u s' := by
  obtain ⟨v, H', os, bare, un, hok, r, q⟩ := h
  obtain ⟨hh, g, d, t, os'⟩ := s'
  obtain rfl : os' = s.os := os
  exact ⟨v, H', I.call (h' := hh) (g' := g) (d' := d) (t' := t) (ch := []) un hok bare (fun b z => absurd z (by simp)), r, q⟩
end

/-! ### calls -/
/-- f(..): the written arguments, then the defaults dvs; E: what is wanted of an exception -/
def tCall (sp : Sp) (dvs : List V) (E : XK) (t : TA) : TE := fun σ H Q => t σ H fun vs H1 => sp (vs ++ dvs) H1 Q E
/-- o.m(..) of an instance of the class at C -/
def tMeth (C : Addr) (m : Str) (sp : Sp) (dvs : List V) (E : XK) (ta : TE) (t : TA) : TE := fun σ H Q => ta σ H fun x H1 => ∃ a dx fs, x = .ref a ∧ H1 a = some (.ins C dx fs) ∧ fs.lookup m = none ∧
  t σ H1 fun vs H2 => sp (x :: (vs ++ dvs)) H2 Q E
/-- C(..): a new instance and its dict, then __init__ -/
def tMake (C : Addr) (sp : Sp) (dvs : List V) (E : XK) (t : TA) : TE := fun σ H Q => t σ H fun vs H1 => ∀ x dx, H1 x = none → H1 dx = none → dx ≠ x →
  sp (.ref x :: (vs ++ dvs)) (upd (upd H1 dx (.own x)) x (.ins C dx [])) (fun v H2 => v = .non ∧ Q (.ref x) H2) E

/-- how the parameters are bound: us the positional arguments, kw the keywords' values by name, ds the defaults that fill up -/
def Binds (K : PySem.W.Frag) (fd : FuncData) (ps : List Str) (ds : List Value) : Prop :=
  ∀ (s : Shared) (us : List Value), K.In s.heap → (us ++ ds).length = ps.length → BindsTo s fd ⟨us, []⟩ (ps.zip (us ++ ds))
/-- every parameter is given -/
theorem Binds.all {K : PySem.W.Frag} {fd : FuncData} {ps : List Str} (h : ∀ us : List Value, us.length = ps.length → bindArgs fd ⟨us, []⟩ = pure (ps.zip us)) : Binds K fd ps [] := fun s us _ hl => by
  rw [List.append_nil] at hl ⊢
  exact .of_eq (h us hl)

/-- an exception of a callee reaches what this body wants of exceptions -/
def Passes (CX : CXT) (X : Cx) (E : XK) : Prop := ∀ (pins : List (Addr × Obj)) (σ : St) (H : Hp) (s : Shared) (e : Value) (s' : Shared), Inv X pins σ H s → CX X.stack H s E e s' → X.xe e s'

section
variable {X : Cx} {CX : CXT} {k : Nat} {f C : Addr} {fd : FuncData} {ps : List Str} {sp : Sp} {dvs : List V} {ds : List Value} {E : XK} {x m : Str} {p pos apos : Pos} {e o : Expr} {es : List Expr} {ta : TE} {t : TA}

/-- the callee runs -/
theorem run_fn {pins : List (Addr × Obj)} {σ : St} {H : Hp} {s : Shared} {Q : VK} {us : List Value} {vs : List V} (F : FnOk X.prog X.w X.K X.mg X.base CX k f fd ps sp) (hr : Room k X.A) (hb : Binds X.K fd ps ds) (hd : Vals dvs ds) (hx : Passes CX X E)
    (I : Inv X pins σ H s) (r : Vals vs us) (h : sp (vs ++ dvs) H Q E) : wpAny (model X.prog X.w) X.A (call (.ref f) us) (EP X pins σ Q) X.xe s := by
  have r2 : Vals (vs ++ dvs) (us ++ ds) := r.append hd
  have hl : (us ++ ds).length = ps.length := by rw [← r2.length]; exact F.len _ _ _ _ h
  refine wpAny_call (codeAny_mono (F.run X.A X.stack s H ⟨us, []⟩ (us ++ ds) (vs ++ dvs) Q E hr I.env0 (hb s us I.kIn hl) r2 h) fun r s' hq => ?_)
  cases r with
  | error e => exact hx pins σ H s e s' I hq
  | ok fl =>
    cases fl with
    | ret u => exact I.after hq
    | next => exact False.elim hq
    | brk => exact False.elim hq
    | cont => exact False.elim hq

theorem pe_call (F : FnOk X.prog X.w X.K X.mg X.base CX k f fd ps sp) (hr : Room k X.A) (hg : Gl X x) (hm : X.mg x = some (.ref f)) (hk : PySem.W.keepIn X.K (.ref f) = true) (hb : Binds X.K fd ps ds) (hd : Vals dvs ds) (hx : Passes CX X E)
    (ha : PA X (e :: es) t) (hdb : (x == ("__debug__" : Str)) = false := by decide) (he : starEach (e :: es) X.env = (false, eval e X.env) :: starEach es X.env := by rfl) (hpl : (backTo pos (starEach es X.env)).any (·.1) = false := by rfl) :
    PE X (.Call (.Name x p) (e :: es) [] pos) (tCall sp dvs E t) := by
  intro pins s σ H Q I h
  refine wpAny_Call_Name_kw (ld_glob I hg hm ?_ hdb)
  refine PySem.W.callWith_K (h₀ := X.base) I.ok.mod.kin hk (thn (ha pos pins s σ H _ I h) fun us s1 ⟨vs, H1, I1, r, q⟩ => ⟨I1.kIn, ?_⟩) he hpl
  exact run_fn F hr hb hd hx I1 r q
theorem pe_call0 (F : FnOk X.prog X.w X.K X.mg X.base CX k f fd ps sp) (hr : Room k X.A) (hg : Gl X x) (hm : X.mg x = some (.ref f)) (hk : PySem.W.keepIn X.K (.ref f) = true) (hb : Binds X.K fd ps ds) (hd : Vals dvs ds) (hx : Passes CX X E)
    (hdb : (x == ("__debug__" : Str)) = false := by decide) : PE X (.Call (.Name x p) [] [] pos) (tCall sp dvs E tNil) := by
  intro pins s σ H Q I h
  refine wpAny_Call_Name_kw (ld_glob I hg hm ?_ hdb)
  exact PySem.W.callWith_K0 I.kIn hk (run_fn (us := []) F hr hb hd hx I .nil h)

/-- o.m(e, ..) -/
theorem pe_meth {pl : Sem Bool} (he : PE X o ta) (c : Cls X.K C) (hm : Meth X.K C m f) (F : FnOk X.prog X.w X.K X.mg X.base CX k f fd ps sp) (hr : Room k X.A) (hb : Binds X.K fd ps ds) (hd : Vals dvs ds) (hx : Passes CX X E) (ha : PA X (e :: es) t)
    (hst : starEach (e :: es) X.env = (false, eval e X.env) :: starEach es X.env := by rfl) (hpl : (backTo pos (starEach es X.env)).any (·.1) = false := by rfl)
    (ht : eval (.Call (.Attribute o m apos) (e :: es) [] pos) X.env = (do
      let ov ← eval o X.env
      standAt apos.atName
      let (f, first) ← holding [ov] (getMethod ov m pl)
      callWith pos f first (backTo pos (starEach (e :: es) X.env)) (backToKw pos (keywordEach [] X.env))) := by rfl) :
    PE X (.Call (.Attribute o m apos) (e :: es) [] pos) (tMeth C m sp dvs E ta t) := by
  intro pins s σ H Q I h
  refine PySem.W.methodCall_KW (pl := pl) (thn (he pins s σ H _ I h) fun u s1 ⟨x, H1, I1, rx, a, dx, fs, ex, ea, l, q⟩ => ?_) ht
  subst ex
  obtain rfl : u = Value.ref a := rx
  refine getmeth_ok I1 ea c hm l ?_
  refine PySem.W.callWith_K (first := [.ref a]) (h₀ := X.base) I.ok.mod.kin hm.kp (thn (ha pos pins s1 σ H1 _ I1 q) fun us s2 ⟨vs, H2, I2, r, q2⟩ => ⟨I2.kIn, ?_⟩) hst hpl
  exact run_fn (us := .ref a :: us) (vs := .ref a :: vs) F hr hb hd hx I2 (.cons rfl r) q2
/-- o.m() -/
theorem pe_meth0 {pl : Sem Bool} (he : PE X o ta) (c : Cls X.K C) (hm : Meth X.K C m f) (F : FnOk X.prog X.w X.K X.mg X.base CX k f fd ps sp) (hr : Room k X.A) (hb : Binds X.K fd ps ds) (hd : Vals dvs ds) (hx : Passes CX X E)
    (ht : eval (.Call (.Attribute o m apos) [] [] pos) X.env = (do
      let ov ← eval o X.env
      standAt apos.atName
      let (f, first) ← holding [ov] (getMethod ov m pl)
      callWith pos f first (backTo pos (starEach [] X.env)) (backToKw pos (keywordEach [] X.env))) := by rfl) :
    PE X (.Call (.Attribute o m apos) [] [] pos) (tMeth C m sp dvs E ta tNil) := by
  intro pins s σ H Q I h
  refine PySem.W.methodCall_KW (pl := pl) (thn (he pins s σ H _ I h) fun u s1 ⟨x, H1, I1, rx, a, dx, fs, ex, ea, l, q⟩ => ?_) ht
  subst ex
  obtain rfl : u = Value.ref a := rx
  refine getmeth_ok I1 ea c hm l ?_
  exact PySem.W.callWith_K0 (first := [.ref a]) I1.kIn hm.kp (run_fn (us := [.ref a]) (vs := [.ref a]) F hr hb hd hx I1 (.cons rfl .nil) q)

/-- what a class must have to be made -/
structure Mk (K : PySem.W.Frag) (C f : Addr) : Prop where
  makes : PySem.W.makesIn K C = true
  init : PySem.W.findIn K (.ref C) "__init__" = some (some (.ref f))
  fn : PySem.W.isFn K (.ref f) = true
  kp : PySem.W.keepIn K (.ref C) = true

theorem run_make {pins : List (Addr × Obj)} {σ : St} {H : Hp} {s : Shared} {Q : VK} {us : List Value} {vs : List V} (M : Mk X.K C f) (F : FnOk X.prog X.w X.K X.mg X.base CX k f fd ps sp) (hr : Room (k + 1) X.A) (hb : Binds X.K fd ps ds) (hd : Vals dvs ds)
    (hx : Passes CX X E) (I : Inv X pins σ H s) (r : Vals vs us)
    (h : ∀ x dx, H x = none → H dx = none → dx ≠ x → sp (.ref x :: (vs ++ dvs)) (upd (upd H dx (.own x)) x (.ins C dx [])) (fun v H2 => v = .non ∧ Q (.ref x) H2) E) :
    wpAny (model X.prog X.w) X.A (call (.ref C) us) (EP X pins σ Q) X.xe s := by
  have hq := h (s.heap.objs.size + 1) s.heap.objs.size (I.hok.fresh (Nat.le_succ _)) (I.hok.fresh (Nat.le_refl _)) (Nat.ne_of_lt (Nat.lt_succ_self _))
  have I2 := Inv.made (C := C) I
  have r2 : Vals (V.ref (s.heap.objs.size + 1) :: (vs ++ dvs)) (Value.ref (s.heap.objs.size + 1) :: (us ++ ds)) := .cons rfl (r.append hd)
  have hl : (Value.ref (s.heap.objs.size + 1) :: us ++ ds).length = ps.length := by
    have e := r2.length
    rw [F.len _ _ _ _ hq] at e
    exact e.symm
  refine wpAny_call (make_map (f := f) I.kIn M.makes M.init (beq_iff_eq.mp M.fn) (codeAny_mono (F.run _ X.stack _ _ ⟨Value.ref (s.heap.objs.size + 1) :: us, []⟩ (Value.ref (s.heap.objs.size + 1) :: (us ++ ds)) _ _ E (hr.make C us [])
    (I2.env0.make C us []) (hb _ (Value.ref (s.heap.objs.size + 1) :: us) I2.kIn hl) r2 hq) fun r s' hq' => ?_))
  cases r with
  | error e => exact hx pins σ _ _ e s' I2 hq'
  | ok fl =>
    cases fl with
    | ret u =>
      obtain ⟨v, H', I3, rv, ev, q3⟩ := I2.after hq'
      subst ev
      exact ⟨rv, ⟨V.ref (s.heap.objs.size + 1), H', I3, rfl, q3⟩⟩
    | next => exact False.elim hq'
    | brk => exact False.elim hq'
    | cont => exact False.elim hq'
theorem pe_make0 (M : Mk X.K C f) (F : FnOk X.prog X.w X.K X.mg X.base CX k f fd ps sp) (hr : Room (k + 1) X.A) (hg : Gl X x) (hm : X.mg x = some (.ref C)) (hb : Binds X.K fd ps ds) (hd : Vals dvs ds) (hx : Passes CX X E)
    (hdb : (x == ("__debug__" : Str)) = false := by decide) : PE X (.Call (.Name x p) [] [] pos) (tMake C sp dvs E tNil) := by
  intro pins s σ H Q I h
  refine wpAny_Call_Name_kw (ld_glob I hg hm ?_ hdb)
  exact PySem.W.callWith_K0 I.kIn M.kp (run_make (us := []) M F hr hb hd hx I .nil h)
end

/-! ### keywords -/
/-- the values of the keywords, from the left -/
def PK (X : Cx) (kws : List Keyword) (t : TA) : Prop :=
  ∀ (pos : Pos) (pins : List (Addr × Obj)) (s : Shared) (σ : St) (H : Hp) (Q : List V → Hp → Prop), Inv X pins σ H s → t σ H Q → wpAny (model X.prog X.w) X.A (evalAll ((backToKw pos (keywordEach kws X.env)).map (·.2))) (AP X pins σ Q) X.xe s
section
variable {X : Cx} {CX : CXT} {k : Nat} {f C : Addr} {fd : FuncData} {ps ks : List Str} {sp : Sp} {E : XK} {x m : Str} {p pos apos kpos : Pos} {e o : Expr} {es : List Expr} {kws : List Keyword} {te ta : TE} {t tk : TA} {nm : Option Str}
/-- how a call with keywords binds: g puts the positional values us and the keywords' values ws (names ks) in the parameters' order, defaults among them -/
structure KBinds (K : PySem.W.Frag) (fd : FuncData) (ps ks : List Str) (g : List Value → List Value → List Value) (gV : List V → List V → List V) : Prop where
  to : ∀ (s : Shared) (us ws : List Value), K.In s.heap → (g us ws).length = ps.length → BindsTo s fd ⟨us, ks.zip ws⟩ (ps.zip (g us ws))
  rel : ∀ {vs : List V} {us : List Value} {zs : List V} {ws : List Value}, Vals vs us → Vals zs ws → Vals (gV vs zs) (g us ws)
def tCallK (sp : Sp) (gV : List V → List V → List V) (E : XK) (t tk : TA) : TE := fun σ H Q => t σ H fun vs H1 => tk σ H1 fun zs H2 => sp (gV vs zs) H2 Q E
variable {g : List Value → List Value → List Value} {gV : List V → List V → List V}
end

/-! ### a def's body keeps its promise -/
/-- names: the parameters first -/
structure FnScope (N P : List Str) (sc : Scope) : Prop where
  kind : sc.kind = .function
  co : sc.isCoroutine = false
  gen : sc.isGenerator = false
  nd : N.Nodup
  pre : N.take P.length = P
  par : ∀ x ∈ P, sc.names.lookup x = some .local ∨ sc.names.lookup x = some .cell
  nofree : ∀ y ∈ sc.names, y.2 ≠ .free

theorem bindL_out {kindOf : Str → Option NameKind} {x : Str} : ∀ {binds : List (Str × Value)} {m : Str → Option Value}, (∀ v, (x, v) ∉ binds) → bindL kindOf binds m x = m x
  | [], _, _ => rfl
  | (n, v) :: r, m, h => by
    unfold bindL
    rw [bindL_out fun w hw => h w (List.mem_cons_of_mem _ hw)]
    split
    · have : x ≠ n := by rintro rfl; exact h v List.mem_cons_self
      simp [this]
    · rfl
theorem bindC_out {kindOf : Str → Option NameKind} {x : Str} : ∀ {binds : List (Str × Value)} {m : Str → Option Value}, (∀ v, (x, v) ∉ binds) → bindC kindOf binds m x = m x
  | [], _, _ => rfl
  | (n, v) :: r, m, h => by
    unfold bindC
    rw [bindC_out fun w hw => h w (List.mem_cons_of_mem _ hw)]
    split
    · rfl
    · have : x ≠ n := by rintro rfl; exact h v List.mem_cons_self
      simp [this]
theorem bindL_get {kindOf : Str → Option NameKind} {x : Str} {v : Value} : ∀ {P : List Str} {vs : List Value} {i : Nat} {m : Str → Option Value}, P.Nodup → P[i]? = some x → vs[i]? = some v → kindOf x = some .local →
    bindL kindOf (P.zip vs) m x = some v
  | [], _, _, _, _, h, _, _ => by simp at h
  | _ :: _, [], _, _, _, _, h, _ => by simp at h
  | p :: P, w :: vs, 0, m, nd, h1, h2, hk => by
    simp at h1 h2; subst h1; subst h2
    show bindL kindOf ((p, w) :: P.zip vs) m p = _
    unfold bindL
    rw [bindL_out fun v hv => (List.nodup_cons.mp nd).1 (List.of_mem_zip hv).1, if_pos hk]
    simp
  | p :: P, w :: vs, i + 1, m, nd, h1, h2, hk => by
    show bindL kindOf ((p, w) :: P.zip vs) m x = _
    unfold bindL
    exact bindL_get (i := i) (List.nodup_cons.mp nd).2 (by simpa using h1) (by simpa using h2) hk
theorem bindC_get {kindOf : Str → Option NameKind} {x : Str} {v : Value} : ∀ {P : List Str} {vs : List Value} {i : Nat} {m : Str → Option Value}, P.Nodup → P[i]? = some x → vs[i]? = some v → kindOf x ≠ some .local →
    bindC kindOf (P.zip vs) m x = some v
  | [], _, _, _, _, h, _, _ => by simp at h
  | _ :: _, [], _, _, _, _, h, _ => by simp at h
  | p :: P, w :: vs, 0, m, nd, h1, h2, hk => by
    simp at h1 h2; subst h1; subst h2
    show bindC kindOf ((p, w) :: P.zip vs) m p = _
    unfold bindC
    rw [bindC_out fun v hv => (List.nodup_cons.mp nd).1 (List.of_mem_zip hv).1, if_neg hk]
    simp
  | p :: P, w :: vs, i + 1, m, nd, h1, h2, hk => by
    show bindC kindOf ((p, w) :: P.zip vs) m x = _
    unfold bindC
    exact bindC_get (i := i) (List.nodup_cons.mp nd).2 (by simpa using h1) (by simpa using h2) hk

/-- the names' values at the entry -/
def start (N : List Str) (vs : List V) : St := vs.map some ++ List.replicate (N.length - vs.length) none

/-- the context of a def's body, at its entry; an exception leaves the frame, then lies as CX says -/
def cxOf (CX : CXT) (P : Program) (w : World) (K : PySem.W.Frag) (mg : Str → Option Value) (base : Heap) (N : List Str) (qual : Str) (scope : Scope) (f : Addr) (cd : Value) (A : Around) (outer : List Env) (s : Shared) (H : Hp) (E : XK) : Cx where
  prog := P
  w := w
  K := K
  mg := mg
  base := base
  A := A.deeper (envOfC qual scope s.heap.objs.size f cd)
  N := N
  s₀ := s
  H₀ := H
  env := envOfC qual scope s.heap.objs.size f cd
  outer := outer
  stack := envOfC qual scope s.heap.objs.size f cd :: outer
  ex := []
  calm := true
  fn := fun _ => true
  pn := []
  xe := fun e s' => wpAny (model P w) (A.deeper (envOfC qual scope s.heap.objs.size f cd)) (leaving (envOfC qual scope s.heap.objs.size f cd) e) (fun _ s'' => CX outer H s E e s'') (fun e' s'' => CX outer H s E e' s'') s'

theorem cell_has {sc : Scope} {n : Nat} {x : Str} (h : sc.names.lookup x = some .cell) : ∃ c, (cellsFrom n sc.names []).lookup x = some c := by
  have q := PySem.W.cellsFrom_some sc.names n [] (.inl h)
  exact Option.isSome_iff_exists.mp q

theorem inv_start {CX : CXT} {P : Program} {w : World} {K : PySem.W.Frag} {mg : Str → Option Value} {base : Heap} {N ps : List Str} {qual : Str} {scope : Scope} {f : Addr} {cd : Value} {A : Around} {outer : List Env} {s s1 : Shared} {H : Hp} {E : XK} {us : List Value} {vs : List V}
    (S : FnScope N ps scope) (hd : A.handled = none) (e0 : Env0 P w K mg base A outer s H) (hl : vs.length = ps.length) (r : Vals vs us)
    (x : InCallC s s.heap.objs.size (bindL (envOfC qual scope s.heap.objs.size f cd).kindOf (ps.zip us) fun _ => none) (cellsFrom (s.heap.objs.size + 1) scope.names []) (bindC (envOfC qual scope s.heap.objs.size f cd).kindOf (ps.zip us) fun _ => none) s1) :
    Inv (cxOf CX P w K mg base N qual scope f cd A outer s H E) [] (start N vs) H s1 := by
  have hpl : ps.length ≤ N.length := by have := congrArg List.length S.pre; rw [List.length_take] at this; omega
  obtain ⟨h1, tk, rfl, hk⟩ := x.done
  have noA : ∀ b : Addr, b ∉ (cxOf CX P w K mg base N qual scope f cd A outer s H E).ex := fun b z => absurd (show b ∈ ([] : List Addr) from z) (by simp)
  refine ⟨⟨e0.mod, S.kind, rfl, rfl, Nat.le_refl _, fun y z c h1 h2 => ?_, fun y hy => ?_, fun y c _ h => ?_, fun _ => hd, Around.frames_deeper e0.frames, .inr ⟨rfl, rfl⟩, fun b z => absurd z (noA b), e0.bs, e0.bsz, fun b _ _ => noA b, fun b z => absurd z (noA b), e0.funs, e0.frf⟩,
    rfl, e0.bare, Un.kept hk, ⟨_, x.toInCall.ns, fun i y v h1 h2 h3 => ?_⟩, fun y c h => ⟨_, x.cell y c h⟩, e0.hok.fresh (Nat.le_refl _), fun y c h => ?_, fun p hp => absurd (show p ∈ ([] : List (Addr × Obj)) from hp) (by simp), e0.hok.kept hk, ?_⟩
  · exact name_of_addr x.apart (PySem.mem_of_lookup h1) (PySem.mem_of_lookup h2)
  · have hy : scope.names.lookup y = some .cell ∨ scope.names.lookup y = some .free := hy
    rcases hy with hy | hy
    · exact cell_has hy
    · exact absurd rfl (S.nofree _ (PySem.mem_of_lookup hy))
  · exact Nat.le_of_lt (x.above y c (PySem.mem_of_lookup h))
  · have hi : i < vs.length := by
      unfold start at h2
      by_cases hi : i < vs.length
      · exact hi
      · rw [List.getElem?_append_right (by simpa using hi)] at h2
        rw [List.getElem?_replicate] at h2
        split at h2 <;> cases h2
    have ha : vs[i]? = some v := by
      unfold start at h2
      rw [List.getElem?_append_left (by simpa using hi), List.getElem?_map] at h2
      cases e : vs[i]? with
      | none => rw [e] at h2; cases h2
      | some a => rw [e] at h2; cases h2; rfl
    obtain ⟨u, hu, rv⟩ := r.get ha
    have hp : ps[i]? = some y := by
      rw [← S.pre, List.getElem?_take_of_lt (by omega)]; exact h1
    have ndP : ps.Nodup := by rw [← S.pre]; exact S.nd.sublist (List.take_sublist _ _)
    refine ⟨u, rv, ?_⟩
    rcases S.par y (List.mem_of_getElem? hp) with k | k
    · exact .inl ⟨k, bindL_get ndP hp hu k⟩
    · obtain ⟨c, e⟩ := cell_has (n := s.heap.objs.size + 1) k
      refine .inr ⟨.inl k, c, e, ?_⟩
      have q := x.cell y c e
      rw [bindC_get ndP hp hu (by show scope.names.lookup y ≠ _; rw [k]; decide)] at q
      exact q
  · exact e0.hok.fresh (Nat.le_of_lt (x.above y c (PySem.mem_of_lookup h)))
  · unfold start
    show _ = N.length
    rw [List.length_append, List.length_map, List.length_replicate]
    omega

/-- THE RULE: a def (or a method) of the text, by its body. The body's reading t is chosen for each entry; it is run at the parameters' values -/
theorem fn_of {CX : CXT} {P : Program} {w : World} {K : PySem.W.Frag} {mg : Str → Option Value} {base : Heap} {k : Nat} {f : Addr} {name qual : Str} {params : Arguments} {body : List Stmt} {scope : Scope} {dV kV doc pm cdv ct oc : Value} {an od : Option Addr}
    {osl : Array (Option Value)} {N ps : List Str} {sp : Sp} (lk : K.lookup f = some ⟨oc, od, .func (PySem.W.fnOf name qual params body scope dV kV doc pm an cdv ct), osl⟩) (hcd : PySem.W.codeIn K cdv qual = true) (S : FnScope N ps scope)
    (len : ∀ vs H Q E, sp vs H Q E → vs.length = ps.length)
    (hbody : ∀ (A : Around) (outer : List Env) (s : Shared) (H : Hp) (vs : List V) (Q : VK) (E : XK), Room k (A.deeper (envOfC qual scope s.heap.objs.size f cdv)) → sp vs H Q E →
      ∃ t, PSs (cxOf CX P w K mg base N qual scope f cdv A outer s H E) body t ∧ t { nx := fun _ H' => Q .non H', rt := Q } (start N vs) H) :
    FnOk P w K mg base CX (k + 1) f (PySem.W.fnOf name qual params body scope dV kV doc pm an cdv ct) ps sp := by
  refine ⟨len, fun A outer s H args us vs Q E hr e0 hb r hsp => ?_⟩
  have hl := len _ _ _ _ hsp
  have KX : K.In s.heap := e0.mod.kin.keeps fun b o e => (e0.bs b o e).1
  have lim : s.heap.NoLimit := e0.mod.nolimit.keeps fun b o e => (e0.bs b o e).1
  have hkind : ∀ y ∈ ps.zip us, scope.names.lookup y.1 = some .local ∨ (scope.names.lookup y.1 = some .cell ∧ ((cellsFrom (s.heap.objs.size + 1) scope.names []).lookup y.1).isSome = true) := fun ⟨n, v⟩ hy => by
    rcases S.par n (List.of_mem_zip hy).1 with q | q
    · exact .inl q
    · exact .inr ⟨q, PySem.W.cellsFrom_some _ _ _ (.inl q)⟩
  refine codeAny_call_function hr.depth (KX _ _ lk) rfl S.co S.gen rfl (PySem.W.codeRec_of KX hcd) (hb _ _ _ _ ?_)
  refine wpAny_newFunctionEnv_cells S.kind hkind fun env he s1 x => ?_
  subst he
  refine ⟨lim.keeps x.toInCall.keep, codeAny_func ?_⟩
  obtain ⟨t, ht, hq⟩ := hbody A outer s H vs Q E (hr.deeper _) hsp
  have I : Inv (cxOf CX P w K mg base N qual scope f cdv A outer s H E) [] (start N vs) H s1 := inv_start S hr.hd e0 hl r x
  refine wpAny_mono (ht [] s1 (start N vs) H _ I hq) (fun fl s' hs => ?_) fun e s' hs => hs
  have fin : ∀ {σ' : St} {H' : Hp} {v : V} {u : Value}, Inv (cxOf CX P w K mg base N qual scope f cdv A outer s H E) [] σ' H' s' → RelV v u → Q v H' → CE outer P w H s Q u s' :=
    fun {σ' H' v u} J rv q => ⟨v, H', J.os, J.bare, J.base, J.hok, rv, q⟩
  cases fl with
  | ret u =>
    obtain ⟨v, σ', H', J, rv, q⟩ := hs
    exact fin J rv q
  | next =>
    obtain ⟨σ', H', J, q⟩ := hs
    exact fin (v := V.non) (u := Value.none) J rfl q
  | brk =>
    obtain ⟨_, _, _, q⟩ := hs
    exact False.elim q
  | cont =>
    obtain ⟨_, _, _, q⟩ := hs
    exact False.elim q
end L2

namespace L2
open PySem PySem.Spec PyProof.Rows
section
variable {X : Cx} {x : Str} {p pos : Pos} {e : Expr} {es : List Expr} {t : TA} {id T : String} {r : List V → Hp → VK → Prop}

def tCB (r : List V → Hp → VK → Prop) (t : TA) : TE := fun σ H Q => t σ H fun vs H1 => r vs H1 Q
/-- f(e, ..), f a built-in function -/
theorem pe_callB (hc : CallR X (.builtin id) r) (hg : Gl X x) (hm : X.mg x = none) (hv : bootBuiltins x = some (.builtin id)) (ha : PA X (e :: es) t) (hn : x ≠ "__name__" := by decide) (hdb : (x == ("__debug__" : Str)) = false := by decide)
    (he : starEach (e :: es) X.env = (false, eval e X.env) :: starEach es X.env := by rfl) (hpl : (backTo pos (starEach es X.env)).any (·.1) = false := by rfl) : PE X (.Call (.Name x p) (e :: es) [] pos) (tCB r t) := by
  intro pins s σ H Q I h
  refine wpAny_Call_Name_kw (ld_blt I hg hm hv ?_ hn hdb)
  exact PyProof.Rows.callWith_builtin1 (thn (ha pos pins s σ H _ I h) fun us s1 ⟨vs, H1, I1, r1, q1⟩ => hc pins s1 σ H1 vs us Q I1 r1 q1) he hpl
/-- T(e, ..), T a built-in type -/
theorem pe_callTy (hc : CallR X (.type T) r) (hg : Gl X x) (hm : X.mg x = none) (hv : bootBuiltins x = some (.type T)) (ha : PA X (e :: es) t) (hn : x ≠ "__name__" := by decide) (hdb : (x == ("__debug__" : Str)) = false := by decide)
    (he : starEach (e :: es) X.env = (false, eval e X.env) :: starEach es X.env := by rfl) (hpl : (backTo pos (starEach es X.env)).any (·.1) = false := by rfl) : PE X (.Call (.Name x p) (e :: es) [] pos) (tCB r t) := by
  intro pins s σ H Q I h
  refine wpAny_Call_Name_kw (ld_blt I hg hm hv ?_ hn hdb)
  exact PyProof.Rows.callWith_type1 (thn (ha pos pins s σ H _ I h) fun us s1 ⟨vs, H1, I1, r1, q1⟩ => hc pins s1 σ H1 vs us Q I1 r1 q1) he hpl
end
end L2

namespace L2
open PySem PySem.Spec PyProof.Rows

/-! ### lists of pairs as tables -/
section
variable {κ : Type} [DecidableEq κ]
def valV (kvs : List (κ × V)) (k : κ) : Option V := (kvs.find? fun kv => decide (kv.1 = k)).map (·.2)
/-- in its place, or at the end -/
def putK (kvs : List (κ × V)) (k : κ) (v : V) : List (κ × V) :=
  if (kvs.any fun kv => decide (kv.1 = k)) = true then kvs.map (fun kv => if kv.1 = k then (kv.1, v) else kv) else kvs ++ [(k, v)]
def dropK (kvs : List (κ × V)) (k : κ) : List (κ × V) := kvs.filter fun kv => decide (kv.1 ≠ k)

theorem valV_nil {k : κ} : valV ([] : List (κ × V)) k = none := rfl
theorem valV_pos {p : κ × V} {r : List (κ × V)} {k : κ} (e : p.1 = k) : valV (p :: r) k = some p.2 := by simp [valV, List.find?_cons, e]
theorem valV_neg {p : κ × V} {r : List (κ × V)} {k : κ} (e : ¬ p.1 = k) : valV (p :: r) k = valV r k := by simp [valV, List.find?_cons, e]
theorem valV_any (k : κ) : ∀ kvs : List (κ × V), (kvs.any fun kv => decide (kv.1 = k)) = (valV kvs k).isSome
  | [] => rfl
  | p :: r => by
    rw [List.any_cons]
    by_cases e : p.1 = k
    · simp only [valV_pos e, decide_eq_true e, Bool.true_or, Option.isSome_some]
    · rw [valV_neg e, decide_eq_false e, Bool.false_or]; exact valV_any k r
theorem valV_map (k j : κ) (y : V) : ∀ kvs : List (κ × V), valV (kvs.map fun kv => if kv.1 = k then (kv.1, y) else kv) j = (valV kvs j).map fun x => if j = k then y else x
  | [] => rfl
  | p :: r => by
    have ih := valV_map k j y r
    rw [List.map_cons]
    by_cases h : p.1 = k
    · rw [if_pos h]
      by_cases e : p.1 = j
      · rw [valV_pos (p := (p.1, y)) e, valV_pos e, Option.map_some, if_pos (e.symm.trans h)]
      · rw [valV_neg (p := (p.1, y)) e, valV_neg e, ih]
    · rw [if_neg h]
      by_cases e : p.1 = j
      · rw [valV_pos (p := p) e, valV_pos e, Option.map_some, if_neg (fun z => h (e.trans z))]
      · rw [valV_neg (p := p) e, valV_neg e, ih]
theorem valV_snoc (k j : κ) (y : V) : ∀ kvs : List (κ × V), valV kvs k = none → valV (kvs ++ [(k, y)]) j = if j = k then some y else valV kvs j
  | [], _ => by
    by_cases e : k = j
    · rw [if_pos e.symm]; exact valV_pos (p := (k, y)) e
    · rw [if_neg (fun z => e z.symm)]; exact valV_neg (p := (k, y)) e
  | p :: r, hn => by
    rw [List.cons_append]
    have hk : ¬ p.1 = k := fun z => by rw [valV_pos z] at hn; cases hn
    rw [valV_neg hk] at hn
    have ih := valV_snoc k j y r hn
    by_cases e : p.1 = j
    · rw [valV_pos e, valV_pos e, if_neg (fun z => hk (e.trans z))]
    · rw [valV_neg e, valV_neg e, ih]
theorem valV_put (kvs : List (κ × V)) (k j : κ) (y : V) : valV (putK kvs k y) j = if j = k then some y else valV kvs j := by
  unfold putK
  by_cases a : (kvs.any fun kv => decide (kv.1 = k)) = true
  · rw [if_pos a, valV_map]
    rw [valV_any] at a
    by_cases e : j = k
    · obtain ⟨x, hx⟩ := Option.isSome_iff_exists.mp a
      rw [if_pos e, e, hx, Option.map_some, if_pos rfl]
    · rw [if_neg e]
      cases valV kvs j with
      | none => rfl
      | some x => rw [Option.map_some, if_neg e]
  · rw [if_neg a]
    refine valV_snoc k j y kvs ?_
    rw [valV_any] at a
    cases q : valV kvs k with
    | none => rfl
    | some x => rw [q] at a; exact (a rfl).elim
theorem length_putK (kvs : List (κ × V)) (k : κ) (v : V) : (putK kvs k v).length ≤ kvs.length + 1 := by
  unfold putK
  split
  · rw [List.length_map]; omega
  · rw [List.length_append, List.length_cons, List.length_nil]; omega
theorem putK_new {kvs : List (κ × V)} {k : κ} (v : V) (h : valV kvs k = none) : putK kvs k v = kvs ++ [(k, v)] := by
  unfold putK
  rw [valV_any, h]
  exact if_neg (by decide)

theorem RelO.isSome_eq {o : Option V} {u : Option Value} (r : RelO o u) : o.isSome = u.isSome := by
  cases o with
  | none => cases u with
    | none => rfl
    | some _ => exact (show False from r).elim
  | some _ => cases u with
    | none => exact (show False from r).elim
    | some _ => rfl
theorem RelO.getD {o : Option V} {u : Option Value} {d : V} {d' : Value} (r : RelO o u) (rd : RelV d d') : RelV (o.getD d) (u.getD d') := by
  cases o with
  | none => cases u with
    | none => exact rd
    | some _ => exact (show False from r).elim
  | some _ => cases u with
    | none => exact (show False from r).elim
    | some _ => exact r

/-- raw tables of the same keys -/
theorem KV.val {kvs : List (κ × V)} {vs : List (κ × Value)} (r : KV kvs vs) (k : κ) : RelO (valV kvs k) (valueAt vs k) := by
  unfold KV at r
  induction r with
  | nil => exact True.intro
  | @cons p q ps qs h t ih =>
    obtain ⟨h1, h2⟩ := h
    by_cases e : p.1 = k
    · have e' : q.1 = k := h1.symm.trans e
      have b : valueAt (q :: qs) k = some q.2 := by simp [valueAt, List.find?_cons, e']
      rw [valV_pos e, b]; exact h2
    · have e' : ¬ q.1 = k := fun z => e (h1.trans z)
      have b : valueAt (q :: qs) k = valueAt qs k := by simp [valueAt, List.find?_cons, e']
      rw [valV_neg e, b]; exact ih
theorem KV.any {kvs : List (κ × V)} {vs : List (κ × Value)} (r : KV kvs vs) (k : κ) : (kvs.any fun kv => decide (kv.1 = k)) = vs.any fun kv => decide (kv.1 = k) := by
  unfold KV at r
  induction r with
  | nil => rfl
  | cons h t ih => rw [List.any_cons, List.any_cons, ih, h.1]
theorem KV.repl {kvs : List (κ × V)} {vs : List (κ × Value)} (r : KV kvs vs) (k : κ) {y : V} {u : Value} (ry : RelV y u) :
    KV (kvs.map fun kv => if kv.1 = k then (kv.1, y) else kv) (vs.map fun kv => if kv.1 = k then (kv.1, u) else kv) := by
  unfold KV at r ⊢
  induction r with
  | nil => exact .nil
  | @cons p q ps qs h t ih =>
    rw [List.map_cons, List.map_cons]
    refine .cons ?_ ih
    obtain ⟨h1, h2⟩ := h
    by_cases e : p.1 = k
    · rw [if_pos e, if_pos (h1.symm.trans e)]; exact ⟨h1, ry⟩
    · rw [if_neg e, if_neg (fun z => e (h1.trans z))]; exact ⟨h1, h2⟩
theorem KV.put {kvs : List (κ × V)} {vs : List (κ × Value)} (r : KV kvs vs) (k : κ) {y : V} {u : Value} (ry : RelV y u) : KV (putK kvs k y) (stored vs k u) := by
  unfold putK stored
  rw [r.any k]
  by_cases e : (vs.any fun kv => decide (kv.1 = k)) = true
  · rw [if_pos e, if_pos e]; exact r.repl k ry
  · rw [if_neg e, if_neg e]; exact Paired.snoc r ⟨rfl, ry⟩
theorem KV.drop {kvs : List (κ × V)} {vs : List (κ × Value)} (r : KV kvs vs) (k : κ) : KV (dropK kvs k) (without vs k) := by
  unfold KV at r ⊢
  unfold dropK without
  induction r with
  | nil => exact .nil
  | @cons p q ps qs h t ih =>
    obtain ⟨h1, h2⟩ := h
    rw [List.filter_cons, List.filter_cons]
    by_cases e : p.1 = k
    · have a : ¬ decide (p.1 ≠ k) = true := by simp [e]
      have b : ¬ decide (q.1 ≠ k) = true := by simp [h1.symm.trans e]
      rw [if_neg a, if_neg b]; exact ih
    · have e' : ¬ q.1 = k := fun z => e (h1.trans z)
      have a : decide (p.1 ≠ k) = true := by simp [e]
      have b : decide (q.1 ≠ k) = true := by simp [e']
      rw [if_pos a, if_pos b]; exact .cons ⟨h1, h2⟩ ih
theorem KV.keys {kvs : List (κ × V)} {vs : List (κ × Value)} (r : KV kvs vs) : kvs.map (·.1) = vs.map (·.1) := by
  unfold KV at r
  induction r with
  | nil => rfl
  | cons h t ih => rw [List.map_cons, List.map_cons, ih, h.1]
theorem KV.length {kvs : List (κ × V)} {vs : List (κ × Value)} (r : KV kvs vs) : kvs.length = vs.length := Paired.length r
theorem dropK_le (kvs : List (κ × V)) (k : κ) : (dropK kvs k).length ≤ kvs.length := List.length_filter_le _ _
end


/-! ### a tracked dict, its keys ints and texts or tuples of these -/
theorem kV_is {P : Program} {w : World} {k : Key} {u : Value} (r : RelV (kV k) u) : (mixKind P w).is k u = true := by
  cases k with
  | inl i => obtain ⟨t, e⟩ := (show ∃ t, u = Value.int i t from r); subst e; exact mixKind_int P w i t
  | inr x => obtain ⟨t, e⟩ := (show ∃ t, u = Value.str x t from r); subst e; exact mixKind_str P w x t
theorem items_are {P : Program} {w : World} : ∀ {ks : List Key} {us : List Value}, Vals (ks.map kV) us → ItemsAre (mixKind P w) ks us
  | [], _, r => by rw [List.map_nil] at r; cases r; exact .nil
  | k :: ks, _, r => by
    rw [List.map_cons] at r
    cases r with
    | cons h t => exact .cons (kV_is h) (items_are t)

/-- raw entries of a dict with tuple keys -/
abbrev KT (H : Hp) : List (List Key × V) → List (List Key × Addr × Value) → Prop := Paired fun p q => p.1 = q.1 ∧ H q.2.1 = some (.tup (p.1.map kV)) ∧ RelV p.2 q.2.2
theorem KT.val {H : Hp} {kvs : List (List Key × V)} {xs : List (List Key × Addr × Value)} (r : KT H kvs xs) (k : List Key) : RelO (valV kvs k) ((atKey xs k).map (·.2)) := by
  induction r with
  | nil => exact True.intro
  | @cons p q ps qs h t ih =>
    obtain ⟨h1, _, h2⟩ := h
    by_cases e : p.1 = k
    · have e' : q.1 = k := h1.symm.trans e
      have b : atKey (q :: qs) k = some q.2 := by simp [atKey, List.find?_cons, e']
      rw [valV_pos e, b]; exact h2
    · have e' : ¬ q.1 = k := fun z => e (h1.trans z)
      have b : atKey (q :: qs) k = atKey qs k := by simp [atKey, List.find?_cons, e']
      rw [valV_neg e, b]; exact ih
theorem KT.repl {H : Hp} {kvs : List (List Key × V)} {xs : List (List Key × Addr × Value)} (r : KT H kvs xs) (k : List Key) {y : V} {u : Value} (ry : RelV y u) :
    KT H (kvs.map fun kv => if kv.1 = k then (kv.1, y) else kv) (xs.map (putAt k u)) := by
  induction r with
  | nil => exact .nil
  | @cons p q ps qs h t ih =>
    rw [List.map_cons, List.map_cons]
    refine .cons ?_ ih
    obtain ⟨h1, h2, h3⟩ := h
    unfold putAt
    by_cases e : p.1 = k
    · rw [if_pos e, if_pos (h1.symm.trans e)]; exact ⟨h1, h2, ry⟩
    · rw [if_neg e, if_neg (fun z => e (h1.trans z))]; exact ⟨h1, h2, h3⟩
theorem KT.put {H : Hp} {kvs : List (List Key × V)} {xs : List (List Key × Addr × Value)} (r : KT H kvs xs) (k : List Key) {b : Addr} {y : V} {u : Value} (hb : H b = some (.tup (k.map kV))) (ry : RelV y u) :
    KT H (putK kvs k y) (storedH xs k b u) := by
  have e : (kvs.any fun kv => decide (kv.1 = k)) = (atKey xs k).isSome := by
    rw [valV_any, (r.val k).isSome_eq, Option.isSome_map]
  unfold putK storedH
  rw [e]
  by_cases q : (atKey xs k).isSome = true
  · rw [if_pos q, if_pos q]; exact r.repl k ry
  · rw [if_neg q, if_neg q]; exact Paired.snoc r ⟨rfl, hb, ry⟩
theorem KT.keeps {H H' : Hp} {kvs : List (List Key × V)} {xs : List (List Key × Addr × Value)} (r : KT H kvs xs) (ht : ∀ b ys, H b = some (.tup ys) → H' b = some (.tup ys)) : KT H' kvs xs :=
  Paired.mapP r fun _ _ z => ⟨z.1, ht _ _ z.2.1, z.2.2⟩

section
variable {P : Program} {w : World} {H : Hp} {h : Heap} {a : Addr}
theorem rd_of {u : HO} (ok : HOk P w H h) (e : Rd H a u) : ObjOk P w H h a u := e.ok ok
theorem dk_rd {kvs : List (Key × V)} (ok : HOk P w H h) (e : Rd H a (.dK kvs)) : kvs.length ≤ sizeLine ∧ (a == sysModules) = false ∧ ∃ vs, KV kvs vs ∧ h.DictOf (mixKind P w) a vs :=
  show ObjOk P w H h a (.dK kvs) from rd_of ok e
theorem dk_of {kvs : List (Key × V)} (ok : HOk P w H h) (e : H a = some (.dK kvs)) : kvs.length ≤ sizeLine ∧ (a == sysModules) = false ∧ ∃ vs, KV kvs vs ∧ h.DictOf (mixKind P w) a vs := dk_rd ok (.inl e)
/-- a tracked tuple of ints and texts is a key -/
theorem key_of {ks : List Key} (ok : HOk P w H h) (e : H a = some (.tup (ks.map kV))) : (tupleKind (mixKind P w)).is h ks a := by
  obtain ⟨_, its, r, o, h1, h2, n, h3⟩ := (show ObjOk P w H h a (.tup (ks.map kV)) from ok a _ e)
  exact ⟨o, its.toArray, n, h1, h2, h3, by simpa using items_are r⟩
theorem dt_rd {kvs : List (List Key × V)} (ok : HOk P w H h) (e : Rd H a (.dT kvs)) : kvs.length ≤ sizeLine ∧ (a == sysModules) = false ∧
    ∃ xs, KT H kvs xs ∧ h.DictOfH (tupleKind (mixKind P w)) a xs := by
  obtain ⟨z, y, xs, r, o, es, ep, h1, h2, h3, h4, h5⟩ := (show ObjOk P w H h a (.dT kvs) from rd_of ok e)
  refine ⟨z, y, xs, r, o, es, ep, h1, h2, h3, h4, fun x hx => ?_, h5⟩
  have all : ∀ {l : List (List Key × V)} {m : List (List Key × Addr × Value)}, KT H l m → ∀ x ∈ m, (tupleKind (mixKind P w)).is h x.1 x.2.1 := by
    intro l m q
    induction q with
    | nil => intro x hx; exact nomatch hx
    | @cons p q ps qs hq t ih =>
      intro x hx
      rcases List.mem_cons.mp hx with e | hx
      · subst e
        exact key_of ok (by rw [← hq.1]; exact hq.2.1)
      · exact ih x hx
  exact all r x hx
theorem dt_of {kvs : List (List Key × V)} (ok : HOk P w H h) (e : H a = some (.dT kvs)) : kvs.length ≤ sizeLine ∧ (a == sysModules) = false ∧
    ∃ xs, KT H kvs xs ∧ h.DictOfH (tupleKind (mixKind P w)) a xs := dt_rd ok (.inl e)
end

/-- what the dict at a holds at the key y -/
def DGet (H : Hp) (a : Addr) (y : V) (r : Option V) : Prop :=
  (∃ kvs k, Rd H a (.dK kvs) ∧ y = kV k ∧ r = valV kvs k) ∨ ∃ kvs k b, Rd H a (.dT kvs) ∧ y = .ref b ∧ H b = some (.tup (k.map kV)) ∧ r = valV kvs k
/-- the heap behind a[y] = v -/
def DPut (H : Hp) (a : Addr) (y v : V) (H' : Hp) : Prop :=
  (∃ kvs k, H a = some (.dK kvs) ∧ y = kV k ∧ kvs.length < sizeLine ∧ H' = upd H a (.dK (putK kvs k v))) ∨
  ∃ kvs k b, H a = some (.dT kvs) ∧ y = .ref b ∧ H b = some (.tup (k.map kV)) ∧ kvs.length < sizeLine ∧ H' = upd H a (.dT (putK kvs k v))
theorem DGet.k {H : Hp} {a : Addr} {kvs : List (Key × V)} {k : Key} (e : H a = some (.dK kvs)) : DGet H a (kV k) (valV kvs k) := .inl ⟨kvs, k, .inl e, rfl, rfl⟩
theorem DGet.t {H : Hp} {a b : Addr} {kvs : List (List Key × V)} {k : List Key} (e : H a = some (.dT kvs)) (eb : H b = some (.tup (k.map kV))) : DGet H a (.ref b) (valV kvs k) := .inr ⟨kvs, k, b, .inl e, rfl, eb, rfl⟩
theorem DPut.k {H : Hp} {a : Addr} {kvs : List (Key × V)} {k : Key} {v : V} (e : H a = some (.dK kvs)) (hl : kvs.length < sizeLine) : DPut H a (kV k) v (upd H a (.dK (putK kvs k v))) := .inl ⟨kvs, k, e, rfl, hl, rfl⟩
theorem DPut.t {H : Hp} {a b : Addr} {kvs : List (List Key × V)} {k : List Key} {v : V} (e : H a = some (.dT kvs)) (eb : H b = some (.tup (k.map kV))) (hl : kvs.length < sizeLine) :
    DPut H a (.ref b) v (upd H a (.dT (putK kvs k v))) := .inr ⟨kvs, k, b, e, rfl, eb, hl, rfl⟩


section
variable {X : Cx} {pins : List (Addr × Obj)} {σ : St} {H : Hp} {s : Shared} {a : Addr} {y v : V} {u r : Value} {o : Option V} {A : Around} {E : Value → Shared → Prop}

theorem Inv.big (I : Inv X pins σ H s) : sysModules < s.heap.objs.size := by
  have h : mainGlobals < s.heap.objs.size := (I.mod.glob.keeps I.bk).lt
  exact Nat.lt_trans (by decide) h

/-- d[y], there -/
theorem d_getItem {Q : Value → Shared → Prop} (hu : A.units + 1 < cLine) (I : Inv X pins σ H s) (g : DGet H a y (some v)) (ry : RelV y u) (h : ∀ w' s', Inv X pins σ H s' → RelV v w' → Q w' s') :
    wpAny (model X.prog X.w) A (getItem (.ref a) u) Q E s := by
  rcases g with ⟨kvs, k, e, ey, l⟩ | ⟨kvs, k, b, e, ey, eb, l⟩
  · subst ey
    obtain ⟨z, hd, vs, rel, dd⟩ := dk_rd I.hok e
    obtain ⟨w', hw, rw'⟩ := RelO.some_of (v := v) (o := valueAt vs k) (by rw [l]; exact rel.val k)
    exact wpAny_getItem_of (kV_is ry) dd.mapOf hw (h w' _ (I.tok _) rw')
  · subst ey
    cases (show u = Value.ref b from ry)
    obtain ⟨z, hd, xs, rel, dd⟩ := dt_rd I.hok e
    obtain ⟨w', hw, rw'⟩ := RelO.some_of (v := v) (o := (atKey xs k).map (·.2)) (by rw [l]; exact rel.val k)
    obtain ⟨p, hp, hp2⟩ := Option.map_eq_some_iff.mp hw
    refine wpAny_getItem_heap (tupleKind_room_in1 hu) (key_of I.hok eb) dd hp ?_
    rw [hp2]
    exact h w' _ (I.tok _) rw'
/-- y in d -/
theorem d_in {Q : Value → Shared → Prop} (hu : A.units + 1 < cLine) (I : Inv X pins σ H s) (g : DGet H a y o) (ry : RelV y u) (h : ∀ s', Inv X pins σ H s' → Q (.bool o.isSome) s') :
    wpAny (model X.prog X.w) A (compareOp .In u (.ref a)) Q E s := by
  rcases g with ⟨kvs, k, e, ey, l⟩ | ⟨kvs, k, b, e, ey, eb, l⟩
  · subst ey
    obtain ⟨z, hd, vs, rel, dd⟩ := dk_rd I.hok e
    refine wpAny_in_of (kV_is ry) hd dd.mapOf ?_
    rw [← (rel.val k).isSome_eq, ← l]
    exact h _ (I.tok _)
  · subst ey
    cases (show u = Value.ref b from ry)
    obtain ⟨z, hd, xs, rel, dd⟩ := dt_rd I.hok e
    refine wpAny_in_heap (tupleKind_room_in1 hu) (key_of I.hok eb) hd dd ?_
    have q := (rel.val k).isSome_eq
    rw [Option.isSome_map] at q
    rw [← q, ← l]
    exact h _ (I.tok _)
theorem d_notIn {Q : Value → Shared → Prop} (hu : A.units + 1 < cLine) (I : Inv X pins σ H s) (g : DGet H a y o) (ry : RelV y u) (h : ∀ s', Inv X pins σ H s' → Q (.bool (!o.isSome)) s') :
    wpAny (model X.prog X.w) A (compareOp .NotIn u (.ref a)) Q E s := by
  rcases g with ⟨kvs, k, e, ey, l⟩ | ⟨kvs, k, b, e, ey, eb, l⟩
  · subst ey
    obtain ⟨z, hd, vs, rel, dd⟩ := dk_rd I.hok e
    refine wpAny_notIn_of (kV_is ry) hd dd.mapOf ?_
    rw [← (rel.val k).isSome_eq, ← l]
    exact h _ (I.tok _)
  · subst ey
    cases (show u = Value.ref b from ry)
    obtain ⟨z, hd, xs, rel, dd⟩ := dt_rd I.hok e
    refine wpAny_notIn_heap (tupleKind_room_in1 hu) (key_of I.hok eb) hd dd ?_
    have q := (rel.val k).isSome_eq
    rw [Option.isSome_map] at q
    rw [← q, ← l]
    exact h _ (I.tok _)
/-- a dict's object is replaced -/
theorem d_write {h' : Heap} {t' : Nat} {ob : HO} (I : Inv X pins σ H s) (mu : Mut (H a)) (hs : Heap.SameBut a s.heap h') (he : ∃ q, h'.get? a = some q) (new : ObjOk X.prog X.w (upd H a ob) h' a ob) :
    Inv X pins σ (upd H a ob) { s with heap := h', toks := t' } :=
  I.write (x := a) (e := a) mu (.inl rfl) (fun b q hb z => (hs.2 b hb).trans z) he new
theorem dk_new {P : Program} {w : World} {H' : Hp} {h' : Heap} {kvs : List (Key × V)} {vs : List (Key × Value)} (z : kvs.length ≤ sizeLine) (hd : (a == sysModules) = false) (rel : KV kvs vs) (dd : h'.DictOf (mixKind P w) a vs) :
    ObjOk P w H' h' a (.dK kvs) := ⟨z, hd, vs, rel, dd⟩
/-- d[y] = v -/
theorem d_setItem {H' : Hp} {Q : Unit → Shared → Prop} (hu : A.units + 1 < cLine) (I : Inv X pins σ H s) (g : DPut H a y v H') (ry : RelV y u) (rv : RelV v r) (h : ∀ s', Inv X pins σ H' s' → Q () s') :
    wpAny (model X.prog X.w) A (setItem (.ref a) u r) Q E s := by
  rcases g with ⟨kvs, k, e, ey, l, eH⟩ | ⟨kvs, k, b, e, ey, eb, l, eH⟩
  · subst ey eH
    obtain ⟨z, hd, vs, rel, dd⟩ := dk_of I.hok e
    have hz : vs.length ≤ sizeLine := by rw [← rel.length]; exact z
    have hl : (putK kvs k v).length ≤ sizeLine := by have := length_putK kvs k v; omega
    refine wpAny_setItem_pairs (hsz := hz) (kV_is ry) dd fun h' dd' hs => h _ ?_
    have he : ∃ q, h'.get? a = some q := let ⟨q, _, _, hq, _⟩ := dd'; ⟨q, hq⟩
    exact d_write I (by rw [e]; exact True.intro) hs he (dk_new hl hd (rel.put k rv) dd')
  · subst ey eH
    cases (show u = Value.ref b from ry)
    obtain ⟨z, hd, xs, rel, dd⟩ := dt_of I.hok e
    have hz : xs.length ≤ sizeLine := by rw [← Paired.length rel]; exact z
    have hl : (putK kvs k v).length ≤ sizeLine := by have := length_putK kvs k v; omega
    refine wpAny_setItem_heap (hsz := hz) (tupleKind_room_in1 hu) (key_of I.hok eb) dd fun h' dd' hs => h _ ?_
    obtain ⟨q, es, ep, hq, h2, h3, h4, _, h5⟩ := dd'
    refine d_write I (by rw [e]; exact True.intro) hs ⟨q, hq⟩ ⟨hl, hd, _, (rel.put k eb rv).keeps fun c ys ec => ?_, q, es, ep, hq, h2, h3, h4, h5⟩
    rw [upd_ne (ne_of ec e (fun z => nomatch z))]
    exact ec
end

section
variable {X : Cx} {pins : List (Addr × Obj)} {σ : St} {H : Hp} {s : Shared} {a : Addr} {kvs : List (Key × V)} {k : Key} {u : Value} {A : Around} {E : Value → Shared → Prop}
/-- del d[k] -/
theorem d_delItem {Q : Unit → Shared → Prop} (I : Inv X pins σ H s) (e : H a = some (.dK kvs)) (ry : RelV (kV k) u) (l : (valV kvs k).isSome = true) (h : ∀ s', Inv X pins σ (upd H a (.dK (dropK kvs k))) s' → Q () s') :
    wpAny (model X.prog X.w) A (delItem (.ref a) u) Q E s := by
  obtain ⟨z, hd, vs, rel, dd⟩ := dk_of I.hok e
  refine wpAny_delItem_slot dd.typeIs (by decide) PySem.F.slot_dict_delitem
    (call_meetsIn PySem.F.slot_dict_delitem dd.typeIs PySem.F.entry_dict_delitem (PySem.F.args_dict_delitem_2 _ _) (meets_dict_delitem_pairs (mixKind X.prog X.w) a (kV_is ry)) ⟨vs, dd, by rw [← rel.length]; exact z, by rw [← (rel.val k).isSome_eq]; exact l, fun h' dd' hs => h _ ?_⟩)
  have he : ∃ q, h'.get? a = some q := let ⟨q, _, _, hq, _⟩ := dd'; ⟨q, hq⟩
  exact d_write I (by rw [e]; exact True.intro) hs he (dk_new (Nat.le_trans (dropK_le kvs k) z) hd (rel.drop k) dd')
/-- d.pop(k[, x]), there -/
theorem d_pop {v : V} {more : List Value} {Q : Value → Shared → Prop} (I : Inv X pins σ H s) (e : H a = some (.dK kvs)) (ry : RelV (kV k) u) (l : valV kvs k = some v) (hm : more = [] ∨ ∃ x, more = [x])
    (h : ∀ w' s', Inv X pins σ (upd H a (.dK (dropK kvs k))) s' → RelV v w' → Q w' s') : wpAny (model X.prog X.w) A (call (.builtin "dict.pop") (.ref a :: u :: more)) Q E s := by
  obtain ⟨z, hd, vs, rel, dd⟩ := dk_of I.hok e
  obtain ⟨w', hw, rw'⟩ := RelO.some_of (v := v) (o := valueAt vs k) (by rw [← l]; exact rel.val k)
  have hp : (keyPart u).isSome = true := by
    cases k with
    | inl i => obtain ⟨t, q⟩ := (show ∃ t, u = Value.int i t from ry); subst q; rfl
    | inr x => obtain ⟨t, q⟩ := (show ∃ t, u = Value.str x t from ry); subst q; rfl
  have ha : argsOk "dict.pop" ⟨.ref a :: u :: more, []⟩ := by
    rcases hm with q | ⟨x, q⟩
    · subst q; exact PySem.F.args_dict_pop_2 _ _
    · subst q; exact PySem.F.args_dict_pop_3 _ _ _
  refine call_meetsIn PySem.F.slot_dict_pop dd.typeIs PySem.F.entry_dict_pop ha (meets_dict_pop_there (mixKind X.prog X.w) a (kV_is ry) more hm hp)
    ⟨vs, w', dd, by rw [← rel.length]; exact z, hw, fun h' dd' hs => h w' _ ?_ rw'⟩
  have he : ∃ q, h'.get? a = some q := let ⟨q, _, _, hq, _⟩ := dd'; ⟨q, hq⟩
  exact d_write I (by rw [e]; exact True.intro) hs he (dk_new (Nat.le_trans (dropK_le kvs k) z) hd (rel.drop k) dd')
/-- d.pop(k, x), not there -/
theorem d_popD {r : Value} {Q : Value → Shared → Prop} (I : Inv X pins σ H s) (e : H a = some (.dK kvs)) (ry : RelV (kV k) u) (l : valV kvs k = none) (h : ∀ s', Inv X pins σ H s' → Q r s') :
    wpAny (model X.prog X.w) A (call (.builtin "dict.pop") [.ref a, u, r]) Q E s := by
  obtain ⟨z, hd, vs, rel, dd⟩ := dk_of I.hok e
  have hn : valueAt vs k = none := RelO.none_of (by rw [← l]; exact rel.val k)
  have hp : (keyPart u).isSome = true := by
    cases k with
    | inl i => obtain ⟨t, q⟩ := (show ∃ t, u = Value.int i t from ry); subst q; rfl
    | inr x => obtain ⟨t, q⟩ := (show ∃ t, u = Value.str x t from ry); subst q; rfl
  exact call_meetsIn PySem.F.slot_dict_pop dd.typeIs PySem.F.entry_dict_pop (PySem.F.args_dict_pop_3 _ _ _) (meets_dict_pop_default (mixKind X.prog X.w) a (kV_is ry) hd hp r) ⟨vs, dd, hn, h _ (I.tok _)⟩
end


/-! ### readings and rules -/
/-- the element of a subscription, not a slice -/
def NoSl (i : Expr) : Prop := ∀ ov iv, subscripted i false ov iv = operate [ov, iv] (getItem ov iv)
theorem subD_of {prog : Program} {w : World} {A : Around} {E : Value → Shared → Prop} {s : Shared} {env : Env} {value slice : Expr} {pos : Pos} {T id : String} {Q : Value → Shared → Prop}
    (hl : typeLookup (.type T) "__getitem__" = pure (some (.builtin id))) (hs : NoSl slice)
    (h : wpAny (model prog w) A (eval value env) (fun o s₁ => wpAny (model prog w) A (eval slice env) (fun i s₂ => s₂.TypeIs o T ∧ wpAny (model prog w) A (getItem o i) Q E s₂) E s₁) E s) :
    wpAny (model prog w) A (eval (.Subscript value slice pos) env) Q E s := by
  refine Subscript_ (wpAny_mono h (fun o s₁ h₁ => wpAny_mono h₁ (fun i s₂ h₂ => ?_) fun _ _ x => x) fun _ _ x => x)
  obtain ⟨hT, h₂⟩ := h₂
  unfold subscriptTail
  refine wpAny_bind ?_
  rw [getitemInPython_of_ne hT.not_modules]
  refine wpAny_bind (wpAny_specialOf hT hl ?_)
  have fin : wpAny (model prog w) A (subscripted slice false o i) (fun r s₃ => wpAny (model prog w) A (letTemporaryGo value o r >>= fun _ => pure r) Q E s₃) E s₂ := by
    rw [hs o i]
    exact wpAny_operating (wpAny_mono h₂ (fun r s₃ h₃ => wpAny_bind (wpAny_letTemporaryGo (wpAny_pure h₃))) fun _ _ x => x)
  first
    | exact wpAny_pure (wpAny_bind fin)
    | exact wpAny_bind (wpAny_pure (wpAny_bind fin))
    | exact wpAny_bind fin

theorem dict_typeIs {X : Cx} {pins : List (Addr × Obj)} {σ : St} {H : Hp} {s : Shared} {a : Addr} {y : V} {o : Option V} (I : Inv X pins σ H s) (g : DGet H a y o) : s.TypeIs (.ref a) "dict" := by
  rcases g with ⟨kvs, k, e, _, _⟩ | ⟨kvs, k, b, e, _, _, _⟩
  · obtain ⟨_, _, vs, _, dd⟩ := dk_rd I.hok e
    exact dd.typeIs
  · obtain ⟨_, _, xs, _, dd⟩ := dt_rd I.hok e
    exact dd.typeIs
/-- d[y] -/
def tDGet (td ty : TE) : TE := fun σ H Q => td σ H fun x H1 => ty σ H1 fun y H2 => ∃ a v, x = .ref a ∧ DGet H2 a y (some v) ∧ Q v H2
/-- y in d, y not in d -/
def tDIn (ty td : TE) : TE := fun σ H Q => ty σ H fun y H1 => td σ H1 fun x H2 => ∃ a o, x = .ref a ∧ DGet H2 a y o ∧ Q (.bl o.isSome) H2
def tDNotIn (ty td : TE) : TE := fun σ H Q => ty σ H fun y H1 => td σ H1 fun x H2 => ∃ a o, x = .ref a ∧ DGet H2 a y o ∧ Q (.bl (!o.isSome)) H2
/-- d[y] = v -/
def sDPut (td ty tv : TE) : TS := fun D σ H => tv σ H fun v H1 => td σ H1 fun x H2 => ty σ H2 fun y H3 => ∃ a H4, x = .ref a ∧ DPut H3 a y v H4 ∧ D.nx σ H4
/-- d[y] op= v -/
def sDAug (td ty tv : TE) (rd : V → V → Hp → VK → Prop) : TS := fun D σ H => td σ H fun x H1 => ty σ H1 fun y H2 => ∃ a v, x = .ref a ∧ DGet H2 a y (some v) ∧
  tv σ H2 fun y2 H3 => rd v y2 H3 fun z H4 => ∃ H5, DPut H4 a y z H5 ∧ D.nx σ H5
/-- del d[y] -/
def sDDel (td ty : TE) : TS := fun D σ H => td σ H fun x H1 => ty σ H1 fun y H2 => ∃ a kvs k, x = .ref a ∧ H2 a = some (.dK kvs) ∧ y = kV k ∧ (valV kvs k).isSome = true ∧ D.nx σ (upd H2 a (.dK (dropK kvs k)))

section
variable {X : Cx} {o i e value : Expr} {pos pos' tpos : Pos} {td ty tv : TE}
theorem pe_dget (hu : X.A.units + 1 < cLine) (ho : PE X o td) (hi : PE X i ty) (hs : NoSl i) : PE X (.Subscript o i pos) (tDGet td ty) := by
  intro pins s σ H Q I h
  refine subD_of PySem.F.slot_dict_getitem.lookup hs (thn (ho pins s σ H _ I h) fun u s1 ⟨x, H1, I1, rx, q1⟩ => thn (hi pins s1 σ H1 _ I1 q1) fun iv s2 ⟨y, H2, I2, ry, a, v, ex, g, q2⟩ => ?_)
  subst ex
  obtain rfl : u = Value.ref a := rx
  exact ⟨dict_typeIs I2 g, d_getItem hu I2 g ry fun w' s3 I3 rw' => ⟨v, H2, I3, rw', q2⟩⟩
theorem pc_din (hu : X.A.units + 1 < cLine) (hi : PE X i ty) (ho : PE X o td) : PC X .In i o (tDIn ty td) := by
  intro pins s σ H Q I h
  refine thn (hi pins s σ H _ I h) fun iv s1 ⟨y, H1, I1, ry, q1⟩ => thn (ho pins s1 σ H1 _ I1 q1) fun u s2 ⟨x, H2, I2, rx, a, ov, ex, g, q2⟩ => ?_
  subst ex
  obtain rfl : u = Value.ref a := rx
  exact d_in hu I2 g ry fun s3 I3 => ⟨.bl ov.isSome, H2, I3, rfl, q2⟩
theorem pc_dnotin (hu : X.A.units + 1 < cLine) (hi : PE X i ty) (ho : PE X o td) : PC X .NotIn i o (tDNotIn ty td) := by
  intro pins s σ H Q I h
  refine thn (hi pins s σ H _ I h) fun iv s1 ⟨y, H1, I1, ry, q1⟩ => thn (ho pins s1 σ H1 _ I1 q1) fun u s2 ⟨x, H2, I2, rx, a, ov, ex, g, q2⟩ => ?_
  subst ex
  obtain rfl : u = Value.ref a := rx
  exact d_notIn hu I2 g ry fun s3 I3 => ⟨.bl (!ov.isSome), H2, I3, rfl, q2⟩
theorem ps_dput (hu : X.A.units + 1 < cLine) (ho : PE X o td) (hi : PE X i ty) (hv : PE X value tv) (hs : swapsWith value (some (.Subscript o i pos')) pos.line X.env = pure false) :
    PS X (.Assign [.Subscript o i pos'] value pos) (sDPut td ty tv) := by
  intro pins s σ H D I h
  refine wpAny_Assign_Subscript (thn (hv pins s σ H _ I h) fun r s1 ⟨v, H1, I1, rv, q1⟩ => thn (ho pins s1 σ H1 _ I1 q1) fun u s2 ⟨x, H2, I2, rx, q2⟩ => thn (hi pins s2 σ H2 _ I2 q2) fun iv s3 ⟨y, H3, I3, ry, a, H4, ex, g, q3⟩ => ?_) hs
  subst ex
  obtain rfl : u = Value.ref a := rx
  exact d_setItem hu I3 g ry rv fun s4 I4 => ⟨σ, H4, I4, q3⟩
theorem ps_ddel (ho : PE X o td) (hi : PE X i ty) : PS X (.Delete [.Subscript o i tpos] pos) (sDDel td ty) := by
  intro pins s σ H D I h
  refine wpAny_Delete (wpAny_deleteEach_cons (wpAny_delete_Subscript (thn (ho pins s σ H _ I h) fun u s1 ⟨x, H1, I1, rx, q1⟩ => thn (hi pins s1 σ H1 _ I1 q1) fun iv s2 ⟨y, H2, I2, ry, a, kvs, k, ex, e, ey, l, q2⟩ => ?_)))
  subst ex ey
  obtain rfl : u = Value.ref a := rx
  exact d_delItem I2 e ry l fun s3 I3 => wpAny_deleteEach_nil ⟨σ, _, I3, q2⟩
end


/-! ### displays -/
theorem dk_empty {P : Program} {w : World} {H : Hp} (h : Heap) (hb : sysModules < h.objs.size) : ObjOk P w H (h.push { cls := .type "dict", data := .dict #[] }) h.objs.size (.dK []) :=
  ⟨Nat.zero_le _, beq_eq_false_iff_ne.mpr (Ne.symm (Nat.ne_of_lt hb)), [], .nil, Heap.DictOf.new h⟩
theorem dt_empty {P : Program} {w : World} {H : Hp} (h : Heap) (hb : sysModules < h.objs.size) : ObjOk P w H (h.push { cls := .type "dict", data := .dict #[] }) h.objs.size (.dT []) :=
  ⟨Nat.zero_le _, beq_eq_false_iff_ne.mpr (Ne.symm (Nat.ne_of_lt hb)), [], .nil, _, #[], 0, Heap.get?_push_size _ rfl, ⟨rfl, rfl, rfl⟩, rfl, rfl, List.nodup_nil⟩
/-- {}, to be a dict of the kind that is wanted -/
def tDNewK : TE := fun _ H Q => ∀ p, H p = none → Q (.ref p) (upd H p (.dK []))
def tDNewT : TE := fun _ H Q => ∀ p, H p = none → Q (.ref p) (upd H p (.dT []))
section
variable {X : Cx} {pos : Pos}
theorem pe_dnewK : PE X (.Dict [] [] pos) tDNewK := fun pins s σ H Q I h =>
  wpAny_Dict_empty ⟨.ref s.heap.objs.size, _, I.laid (a := s.heap.objs.size) (o := .dK []) (t' := s.toks) (fun _ _ q => Heap.get?_push_of_some _ q) (Nat.le_refl _) (dk_empty s.heap I.big), rfl, h _ (I.hok.fresh (Nat.le_refl _))⟩
theorem pe_dnewT : PE X (.Dict [] [] pos) tDNewT := fun pins s σ H Q I h =>
  wpAny_Dict_empty ⟨.ref s.heap.objs.size, _, I.laid (a := s.heap.objs.size) (o := .dT []) (t' := s.toks) (fun _ _ q => Heap.get?_push_of_some _ q) (Nat.le_refl _) (dt_empty s.heap I.big), rfl, h _ (I.hok.fresh (Nat.le_refl _))⟩
end

/-- the pairs of a display, from the left -/
def tPairs : List (TE × TE) → St → Hp → (List (V × V) → Hp → Prop) → Prop
  | [], _, H, Q => Q [] H
  | (tk, tv) :: r, σ, H, Q => tk σ H fun x H1 => tv σ H1 fun y H2 => tPairs r σ H2 fun ps H3 => Q ((x, y) :: ps) H3
abbrev VV : List (V × V) → List (Value × Value) → Prop := Paired fun p q => RelV p.1 q.1 ∧ RelV p.2 q.2
def PPs (X : Cx) (pos : Pos) (keys : List (Option Expr)) (values : List Expr) (trs : List (TE × TE)) : Prop :=
  ∀ (pins : List (Addr × Obj)) (s : Shared) (σ : St) (H : Hp) (Q : List (V × V) → Hp → Prop), Inv X pins σ H s → tPairs trs σ H Q →
    wpAny (model X.prog X.w) X.A (evalPairs (pairTrees keys values X.env pos)) (fun vs s' => ∃ ps H', Inv X pins σ H' s' ∧ VV ps vs ∧ Q ps H') X.xe s
def mergeK (kvs more : List (Key × V)) : List (Key × V) := more.foldl (fun acc kv => putK acc kv.1 kv.2) kvs
theorem KV.merge : ∀ {more : List (Key × V)} {rs : List (Key × Value)} {kvs : List (Key × V)} {vs : List (Key × Value)}, KV more rs → KV kvs vs → KV (mergeK kvs more) (merged vs rs) := by
  intro more rs kvs vs r
  unfold KV at r
  induction r generalizing kvs vs with
  | nil => intro q; exact q
  | @cons p q ps qs h t ih =>
    intro r0
    have e : KV (putK kvs p.1 p.2) (stored vs q.1 q.2) := by
      have := r0.put p.1 h.2
      rw [← h.1]; exact this
    exact ih e
/-- {k: v, ..} with keys ints and texts; the new dict stands empty while the pairs are made -/
def tDisp (trs : List (TE × TE)) : TE := fun σ H Q => ∀ p, H p = none → tPairs trs σ (upd H p (.dK [])) fun ps H2 => H2 p = some (.dK []) ∧ ∃ kvs : List (Key × V), ps = kvs.map (fun kv => (kV kv.1, kv.2)) ∧ kvs.length ≤ 15 ∧ Q (.ref p) (upd H2 p (.dK (mergeK [] kvs)))
/-! ### methods -/
/-- a method call o.m(e) of a built-in, with one argument: what must be seen of the text -/
structure M1 (X : Cx) (o : Expr) (m : Str) (apos : Pos) (e : Expr) (cpos : Pos) : Prop where
  base : attributeBase o m X.env (eval o X.env) = eval o X.env
  few : ((backTo cpos (starEach [e] X.env)).all (fun x => !x.1) && (backToKw cpos (keywordEach [] X.env)).all (fun x => x.1.isSome)
    && decide (([e] : List Expr).length + ([] : List Keyword).length + (if ([] : List Keyword).isEmpty then 0 else 1) < 30)) = true
  line : (apos.endLine == cpos.line) = true
  trees : backTo cpos (starEach [e] X.env) = [(false, eval e X.env)]
structure M2 (X : Cx) (o : Expr) (m : Str) (apos : Pos) (e f : Expr) (cpos : Pos) : Prop where
  base : attributeBase o m X.env (eval o X.env) = eval o X.env
  few : ((backTo cpos (starEach [e, f] X.env)).all (fun x => !x.1) && (backToKw cpos (keywordEach [] X.env)).all (fun x => x.1.isSome)
    && decide (([e, f] : List Expr).length + ([] : List Keyword).length + (if ([] : List Keyword).isEmpty then 0 else 1) < 30)) = true
  line : (apos.endLine == cpos.line) = true
  trees : backTo cpos (starEach [e, f] X.env) = [(false, eval e X.env), (false, eval f X.env)]

/-- a is a dict, whatever its keys -/
def IsD (H : Hp) (a : Addr) : Prop := (∃ kvs, Rd H a (.dK kvs)) ∨ ∃ kvs, Rd H a (.dT kvs)
theorem isD_at {X : Cx} {pins : List (Addr × Obj)} {σ : St} {H : Hp} {s : Shared} {a : Addr} (I : Inv X pins σ H s) (d : IsD H a) :
    s.TypeIs (.ref a) "dict" ∧ (∀ b, Value.ref a = .ref b → ∃ ob, s.heap.get? b = some ob ∧ ob.dict = none) ∧ (a == sysModules) = false := by
  rcases d with ⟨kvs, e⟩ | ⟨kvs, e⟩
  · obtain ⟨_, hd, vs, _, dd⟩ := dk_rd I.hok e
    refine ⟨dd.typeIs, fun b q => ?_, hd⟩
    cases q
    obtain ⟨ob, _, _, h1, h2, _⟩ := dd
    exact ⟨ob, h1, h2.2.1⟩
  · obtain ⟨_, hd, xs, _, dd⟩ := dt_rd I.hok e
    refine ⟨dd.typeIs, fun b q => ?_, hd⟩
    cases q
    obtain ⟨ob, _, _, h1, h2, _⟩ := dd
    exact ⟨ob, h1, h2.2.1⟩

section
variable {X : Cx} {pins : List (Addr × Obj)} {σ : St} {H : Hp} {s : Shared} {a : Addr} {y d : V} {u r : Value} {o : Option V} {A : Around} {E : Value → Shared → Prop}
/-- d.get(y) -/
theorem d_get1 {Q : Value → Shared → Prop} (hu : A.units + 1 < cLine) (I : Inv X pins σ H s) (g : DGet H a y o) (ry : RelV y u) (h : ∀ w' s', Inv X pins σ H s' → RelV (o.getD .non) w' → Q w' s') :
    wpAny (model X.prog X.w) A (call (.builtin "dict.get") [.ref a, u]) Q E s := by
  rcases g with ⟨kvs, k, e, ey, l⟩ | ⟨kvs, k, b, e, ey, eb, l⟩
  · subst ey
    obtain ⟨z, hd, vs, rel, dd⟩ := dk_rd I.hok e
    refine call_meetsIn PySem.F.slot_dict_get dd.typeIs PySem.F.entry_dict_get (PySem.F.args_dict_get_2 _ _) (meets_dict_get (mixKind X.prog X.w) a (kV_is ry) hd) ⟨_, dd.mapOf, h _ _ (I.tok _) ?_⟩
    rw [l]
    exact (rel.val k).getD rfl
  · subst ey
    cases (show u = Value.ref b from ry)
    obtain ⟨z, hd, xs, rel, dd⟩ := dt_rd I.hok e
    refine call_meetsIn PySem.F.slot_dict_get dd.typeIs PySem.F.entry_dict_get (PySem.F.args_dict_get_2 _ _) (meetsH_dict_get (tupleKind (mixKind X.prog X.w)) a b hd) ⟨tupleKind_room_in1 hu, k, xs, key_of I.hok eb, dd, h _ _ (I.tok _) ?_⟩
    rw [l]
    exact (rel.val k).getD rfl
end

def tDGet1 (td ty : TE) : TE := fun σ H Q => td σ H fun x H1 => ∃ a, x = .ref a ∧ IsD H1 a ∧ ty σ H1 fun y H2 => ∃ o, DGet H2 a y o ∧ Q (o.getD .non) H2
def tDGet2 (td ty tx : TE) : TE := fun σ H Q => td σ H fun x H1 => ∃ a, x = .ref a ∧ IsD H1 a ∧ ty σ H1 fun y H2 => tx σ H2 fun z H3 => ∃ o, DGet H3 a y o ∧ Q (o.getD z) H3
/-- d.pop(k): there; d.pop(k, x): there or not -/
def tDPop1 (td ty : TE) : TE := fun σ H Q => td σ H fun x H1 => ∃ a, x = .ref a ∧ IsD H1 a ∧ ty σ H1 fun y H2 => ∃ kvs k v, H2 a = some (.dK kvs) ∧ y = kV k ∧ valV kvs k = some v ∧ Q v (upd H2 a (.dK (dropK kvs k)))
def tDPop2 (td ty tx : TE) : TE := fun σ H Q => td σ H fun x H1 => ∃ a, x = .ref a ∧ IsD H1 a ∧ ty σ H1 fun y H2 => tx σ H2 fun z H3 => ∃ kvs k, H3 a = some (.dK kvs) ∧ y = kV k ∧
  (∀ v, valV kvs k = some v → Q v (upd H3 a (.dK (dropK kvs k)))) ∧ (valV kvs k = none → Q z H3)
section
variable {X : Cx} {o e f : Expr} {apos cpos : Pos} {td ty tx : TE}
theorem pe_dget1 (hu : X.A.units + 1 < cLine) (ho : PE X o td) (he : PE X e ty) (m : M1 X o "get" apos e cpos) : PE X (.Call (.Attribute o "get" apos) [e] [] cpos) (tDGet1 td ty) := by
  intro pins s σ H Q I h
  refine wpAny_Call_method m.base m.few m.line PySem.F.plainAttrs_dict PySem.F.slot_dict_get PySem.F.type_dict_get (thn (ho pins s σ H _ I h) fun u s1 ⟨x, H1, I1, rx, a, ex, d, q1⟩ => ?_)
  subst ex
  obtain rfl : u = Value.ref a := rx
  obtain ⟨t1, t2, _⟩ := isD_at I1 d
  refine ⟨t1, t2, ?_⟩
  rw [m.trees]
  refine Calls.callWith_builtin rfl (Calls.evalArgs_plain (Calls.spliced_cons (thn (he pins s1 σ H1 _ I1 q1) fun iv s2 ⟨y, H2, I2, ry, ov, g, q2⟩ => Calls.spliced_nil ?_)))
  exact d_get1 hu I2 g ry fun w' s3 I3 rw' => ⟨_, H2, I3, rw', q2⟩
theorem pe_dpop2 (ho : PE X o td) (he : PE X e ty) (hf : PE X f tx) (m : M2 X o "pop" apos e f cpos) : PE X (.Call (.Attribute o "pop" apos) [e, f] [] cpos) (tDPop2 td ty tx) := by
  intro pins s σ H Q I h
  refine wpAny_Call_method m.base m.few m.line PySem.F.plainAttrs_dict PySem.F.slot_dict_pop PySem.F.type_dict_pop (thn (ho pins s σ H _ I h) fun u s1 ⟨x, H1, I1, rx, a, ex, d, q1⟩ => ?_)
  subst ex
  obtain rfl : u = Value.ref a := rx
  obtain ⟨t1, t2, _⟩ := isD_at I1 d
  refine ⟨t1, t2, ?_⟩
  rw [m.trees]
  refine Calls.callWith_builtin rfl (Calls.evalArgs_plain (Calls.spliced_cons (thn (he pins s1 σ H1 _ I1 q1) fun iv s2 ⟨y, H2, I2, ry, q2⟩ =>
    Calls.spliced_cons (thn (hf pins s2 σ H2 _ I2 q2) fun fv s3 ⟨z, H3, I3, rz, kvs, k, ea, ey, q3, q4⟩ => Calls.spliced_nil ?_))))
  subst ey
  cases l : valV kvs k with
  | some v => exact d_pop I3 ea ry l (.inr ⟨fv, rfl⟩) fun w' s4 I4 rw' => ⟨v, _, I4, rw', q3 v l⟩
  | none => exact d_popD I3 ea ry l fun s4 I4 => ⟨z, H3, I4, rz, q4 l⟩
end

/-! ### dict(d): a copy -/
section
variable {X : Cx} {pins : List (Addr × Obj)} {σ : St} {H : Hp} {s : Shared} {a : Addr} {kvs : List (Key × V)} {A : Around} {E : Value → Shared → Prop}
theorem d_copyOf {Q : Value → Shared → Prop} (I : Inv X pins σ H s) (e : Rd H a (.dK kvs)) (h : ∀ p s', H p = none → Inv X pins σ (upd H p (.dK kvs)) s' → Q (.ref p) s') : wpAny (model X.prog X.w) A (call (.type "dict") [.ref a]) Q E s := by
  obtain ⟨z, hd, vs, rel, dd⟩ := dk_rd I.hok e
  refine kt_call_dict hd dd (by rw [← rel.length]; exact z) fun h' dd' hs => ?_
  refine h _ _ (I.hok.fresh (Nat.le_refl _)) (I.laid (a := s.heap.objs.size) (o := .dK kvs) (t' := s.toks) (fun b q hq => ?_) (Nat.le_refl _) (dk_new z (beq_eq_false_iff_ne.mpr (Ne.symm (Nat.ne_of_lt I.big))) rel dd'))
  exact (hs.2 b (Nat.ne_of_lt (Heap.lt_size hq))).trans (Heap.get?_push_of_some _ hq)
end


section
variable {X : Cx} {pins : List (Addr × Obj)} {σ : St} {H : Hp} {s : Shared} {a : Addr} {y : V} {u : Value} {A : Around} {E : Value → Shared → Prop}
end
end L2

namespace HT
open PySem PyProof.Rows

/-- t < u of tuples of ints -/
def lexLt : List Int → List Int → Bool
  | [], [] => false
  | [], _ :: _ => true
  | _ :: _, [] => false
  | x :: xs, y :: ys => if x = y then lexLt xs ys else decide (x < y)
section
open PySem.SeqAt
open PySem.AutoSeq1 (wpAny_loadPart')
open PySem.MeetsSeq PySem.MeetsSeq2 PySem.MeetsSeq3

end

section
variable {prog : Program} {w : World} {A : Around} {E : Value → Shared → Prop} {s : Shared}

/-! ### t[a:b], not the whole -/
/-- a slice's bound as a place among n (d where it is left out) -/
def sIx (n d : Nat) : Option Int → Nat
  | none => d
  | some v => if v < 0 then (v + (n : Int)).toNat else min v.toNat n
end
end HT

namespace L2
open PySem PySem.Spec PyProof.Rows

/-! ### the parts of a slice -/
abbrev TO := St → Hp → (Option Int → Hp → Prop) → Prop
/-- a slice's part (left out, or an int) -/
def PO (X : Cx) (e : Option Expr) (t : TO) : Prop :=
  ∀ (pins : List (Addr × Obj)) (s : Shared) (σ : St) (H : Hp) (Q : Option Int → Hp → Prop), Inv X pins σ H s → t σ H Q →
    wpAny (model X.prog X.w) X.A (evalPart e X.env) (fun u s' => ∃ o H', Inv X pins σ H' s' ∧ IsPart u o ∧ Q o H') X.xe s
def tNoPart : TO := fun _ H Q => Q none H
def tPart (t : TE) : TO := fun σ H Q => t σ H fun x H1 => ∃ i, x = .int i ∧ Q (some i) H1

section
variable {X : Cx} {e : Expr} {te : TE} {lo hi : Option Expr} {tl th : TO} {pos p2 : Pos}

theorem po_none : PO X none tNoPart := by
  intro pins s σ H Q I h
  rw [evalPart_none]
  exact wpAny_pure ⟨none, H, I, .none, h⟩
theorem po_some (h : PE X e te) : PO X (some e) (tPart te) := by
  intro pins s σ H Q I hw
  rw [evalPart_some]
  refine thn (h pins s σ H _ I hw) fun u s1 ⟨x, H1, I1, r1, q1⟩ => ?_
  obtain ⟨i, rfl, q⟩ := q1
  obtain ⟨t, rfl⟩ := r1
  exact ⟨some i, H1, I1, .int i t, q⟩

/-- what a slice of a value is, by values: the slice object stands at sl -/
def SlR (X : Cx) (r : V → Option Int → Option Int → Hp → VK → Prop) : Prop :=
  ∀ (pins : List (Addr × Obj)) (s : Shared) (σ : St) (H : Hp) (x : V) (v vl vu : Value) (lo hi : Option Int) (sl : Addr) (Q : VK), Inv X pins σ H s → RelV x v → s.heap.IsSliceOf sl vl vu .none → IsPart vl lo → IsPart vu hi → r x lo hi H Q →
    ∃ T id, typeLookup (.type T) "__getitem__" = pure (some (.builtin id)) ∧ s.TypeIs v T ∧ wpAny (model X.prog X.w) X.A (getItem v (.ref sl)) (EP X pins σ Q) X.xe s
theorem SlR.or {r r' : V → Option Int → Option Int → Hp → VK → Prop} (h : SlR X r) (h' : SlR X r') : SlR X (fun x lo hi H Q => r x lo hi H Q ∨ r' x lo hi H Q) := by
  intro pins s σ H x v vl vu lo hi sl Q I rx hs pl pu q
  rcases q with q | q
  · exact h pins s σ H x v vl vu lo hi sl Q I rx hs pl pu q
  · exact h' pins s σ H x v vl vu lo hi sl Q I rx hs pl pu q
def tSl (r : V → Option Int → Option Int → Hp → VK → Prop) (te : TE) (tl th : TO) : TE := fun σ H Q => te σ H fun x H1 => tl σ H1 fun l H2 => th σ H2 fun u H3 => r x l u H3 Q
/-- a[lo:hi], any a -/
theorem pe_slice {r : V → Option Int → Option Int → Hp → VK → Prop} (hr : SlR X r) (he : PE X e te) (hl : PO X lo tl) (hu : PO X hi th) : PE X (.Subscript e (.Slice lo hi none p2) pos) (tSl r te tl th) := by
  intro pins s σ H Q I h
  refine Subscript_ (thn (he pins s σ H _ I h) fun v s1 ⟨x, H1, I1, r1, q1⟩ => ?_)
  refine wpAny_Slice (thn (hl pins s1 σ H1 _ I1 q1) fun vl s2 ⟨l, H2, I2, pl, q2⟩ => thn (hu pins s2 σ H2 _ I2 q2) fun vu s3 ⟨u, H3, I3, pu, q3⟩ => ?_)
  rw [evalPart_none]
  refine wpAny_pure ?_
  have I4 : Inv X pins σ H3 { s3 with heap := s3.heap.push { cls := .type "slice", data := .fields #[vl, vu, .none] } } := I3.kept (t' := s3.toks) fun b ob q => Heap.get?_push_of_some _ q
  obtain ⟨T, id, hT, ht, hg⟩ := hr pins { s3 with heap := s3.heap.push { cls := .type "slice", data := .fields #[vl, vu, .none] } } σ H3 x v vl vu l u s3.heap.objs.size Q I4 r1 (Heap.IsSliceOf.new ..) pl pu q3
  show wpAny (model X.prog X.w) X.A (subscriptTail e (.Slice lo hi none p2) v (.ref s3.heap.objs.size)) (EP X pins σ Q) X.xe { s3 with heap := s3.heap.push { cls := .type "slice", data := .fields #[vl, vu, .none] } }
  exact tail_any (ops := [.ref s3.heap.objs.size, v]) ht hT hg (by with_unfolding_all rfl)

/-- the items of xs[lo:hi] -/
def cutV (xs : List V) (lo hi : Option Int) : List V := (xs.drop (HT.sIx xs.length 0 lo)).take (HT.sIx xs.length xs.length hi - HT.sIx xs.length 0 lo)
theorem cutV_length (xs : List V) (lo hi : Option Int) : (cutV xs lo hi).length ≤ xs.length := by
  unfold cutV
  rw [List.length_take, List.length_drop]
  omega
/-- t[lo:hi], not the whole of it (the whole would be t itself) -/
def rSlT (K : PySem.W.Frag) : V → Option Int → Option Int → Hp → VK → Prop := fun x lo hi H Q => ∃ a xs, x = .ref a ∧ SqT K H a xs ∧
  ¬ (HT.sIx xs.length 0 lo = 0 ∧ HT.sIx xs.length xs.length hi = xs.length) ∧ ∀ p, H p = none → Q (.ref p) (upd H p (.tup (cutV xs lo hi)))
/-! ### t < u, t + u -/
def rLtT (K : PySem.W.Frag) : R2 := fun x y H Q => ∃ a b ns ms, x = .ref a ∧ y = .ref b ∧ SqT K H a (ns.map V.int) ∧ SqT K H b (ms.map V.int) ∧ Q (.bl (HT.lexLt ns ms)) H
/-- t + u, t not empty: u empty gives t itself -/
def rCatT (K : PySem.W.Frag) : R2 := fun x y H Q => ∃ a b xs ys, x = .ref a ∧ y = .ref b ∧ SqT K H a xs ∧ SqT K H b ys ∧ xs ≠ [] ∧ xs.length + ys.length ≤ sizeLine ∧
  (ys = [] → Q (.ref a) H) ∧ (ys ≠ [] → ∀ p, H p = none → Q (.ref p) (upd H p (.tup (xs ++ ys))))
end
end L2

namespace L2
open PySem PySem.Spec PyProof.Rows

/-! ### places -/
/-- the place that an index of any sign means -/
def ixN (n : Nat) (i : Int) : Option Nat := if 0 ≤ i then (if i < n then some i.toNat else none) else if -(n : Int) ≤ i then some (i + n).toNat else none
def atI {α : Type} (xs : List α) (i : Int) : Option α := (ixN xs.length i).bind fun j => xs[j]?
theorem ixN_seq {n : Nat} {i : Int} {j : Nat} (h : ixN n i = some j) : seqIndex? i n = some j ∧ j < n ∧ -(n : Int) ≤ i ∧ i < n := by
  unfold ixN at h
  by_cases h0 : 0 ≤ i
  · rw [if_pos h0] at h
    by_cases h1 : i < n
    · rw [if_pos h1] at h
      have e : i.toNat = j := Option.some.inj h
      exact ⟨by rw [seqIndex_of h0 h1, e], by omega, by omega, h1⟩
    · rw [if_neg h1] at h; cases h
  · rw [if_neg h0] at h
    by_cases h1 : -(n : Int) ≤ i
    · rw [if_pos h1] at h
      have e : (i + n).toNat = j := Option.some.inj h
      exact ⟨by rw [seqIndex_neg (by omega) h1, e], by omega, h1, by omega⟩
    · rw [if_neg h1] at h; cases h
theorem atI_get {α : Type} {xs : List α} {i : Int} {v : α} (h : atI xs i = some v) : ∃ j, seqIndex? i xs.length = some j ∧ xs[j]? = some v ∧ j < xs.length ∧ -(xs.length : Int) ≤ i ∧ i < xs.length := by
  unfold atI at h
  cases e : ixN xs.length i with
  | none => rw [e] at h; cases h
  | some j =>
    rw [e] at h
    obtain ⟨h1, h2, h3, h4⟩ := ixN_seq e
    exact ⟨j, h1, h, h2, h3, h4⟩
theorem atI_nat {α : Type} {xs : List α} {j : Nat} {v : α} (h : xs[j]? = some v) : atI xs (j : Int) = some v := by
  have hj : j < xs.length := (List.getElem?_eq_some_iff.mp h).1
  have e : ixN xs.length (j : Int) = some j := by
    unfold ixN
    rw [if_pos (by omega), if_pos (by omega)]; simp
  unfold atI; rw [e]; exact h
/-! ### what may be subscripted -/
/-- what stands as an index of a plain subscript -/
def PlainIx (b : Expr) : Prop := ∀ o i, subscripted b false o i = operate [o, i] (getItem o i)
/-- a subscript by values -/
def IxR (X : Cx) (r : R2) : Prop :=
  ∀ (value slice : Expr) (pins : List (Addr × Obj)) (s : Shared) (σ : St) (H : Hp) (x y : V) (v u : Value) (Q : VK), Inv X pins σ H s → RelV x v → RelV y u → r x y H Q →
    subscripted slice false v u = operate [v, u] (getItem v u) → wpAny (model X.prog X.w) X.A (subscriptTail value slice v u) (EP X pins σ Q) X.xe s
/-- a call of a builtin's method by values: the receiver, the arguments -/
def MtR (X : Cx) (id : String) (r : V → List V → Hp → VK → Prop) : Prop :=
  ∀ (pins : List (Addr × Obj)) (s : Shared) (σ : St) (H : Hp) (x : V) (xs : List V) (v : Value) (us : List Value) (Q : VK), Inv X pins σ H s → RelV x v → Vals xs us → r x xs H Q →
    wpAny (model X.prog X.w) X.A (call (.builtin id) (v :: us)) (EP X pins σ Q) X.xe s
section
variable {X : Cx} {a b : Expr} {ta tb : TE} {pos : Pos}
theorem IxR.or {r r' : R2} (h : IxR X r) (h' : IxR X r') : IxR X (fun x y H Q => r x y H Q ∨ r' x y H Q) := by
  intro value slice pins s σ H x y v u Q I rx ry q hs
  rcases q with q | q
  · exact h value slice pins s σ H x y v u Q I rx ry q hs
  · exact h' value slice pins s σ H x y v u Q I rx ry q hs
theorem MtR.or {id : String} {r r' : V → List V → Hp → VK → Prop} (h : MtR X id r) (h' : MtR X id r') : MtR X id (fun x xs H Q => r x xs H Q ∨ r' x xs H Q) := by
  intro pins s σ H x xs v us Q I rx rs q
  rcases q with q | q
  · exact h pins s σ H x xs v us Q I rx rs q
  · exact h' pins s σ H x xs v us Q I rx rs q
/-- a[b] -/
theorem pe_ix {r : R2} (hr : IxR X r) (ha : PE X a ta) (hb : PE X b tb) (hs : PlainIx b) : PE X (.Subscript a b pos) (tOp r ta tb) := by
  intro pins s σ H Q I h
  exact Subscript_ (binT ha hb I h fun v u s2 x y H2 I2 rx ry q => hr a b pins s2 σ H2 x y v u Q I2 rx ry q (hs _ _))

def rIxL (K : PySem.W.Frag) : R2 := fun x y H Q => ∃ p xs i v, x = .ref p ∧ y = .int i ∧ SqL K H p xs ∧ atI xs i = some v ∧ Q v H
def rIxT (K : PySem.W.Frag) : R2 := fun x y H Q => ∃ p xs i v, x = .ref p ∧ y = .int i ∧ SqT K H p xs ∧ atI xs i = some v ∧ Q v H
def rIxS : R2 := fun x y H Q => ∃ z i c, x = .str z ∧ y = .int i ∧ z.length ≤ sizeLine ∧ atI z.cps.toList i = some c ∧ Q (.str ⟨#[c]⟩) H
theorem ix_list : IxR X (rIxL X.K) := by
  intro value slice pins s σ H x y v u Q I rx ry h hs
  obtain ⟨p, xs, i, z, rfl, rfl, hq, he, q⟩ := h
  cases rx
  obtain ⟨t, rfl⟩ := ry
  obtain ⟨its, r, pl, hz⟩ := I.list hq
  obtain ⟨j, h1, h2, h3, h4, h5⟩ := atI_get he
  obtain ⟨w, ew, rw'⟩ := r.get h2
  have hl := r.length
  have hn := line63
  have fin : EP X pins σ Q w s := ⟨z, H, I, rw', q⟩
  by_cases h0 : 0 ≤ i
  · have hj : i.toNat = j := by
      rw [seqIndex_of h0 h5] at h1
      exact Option.some.inj h1
    exact item_listR pl.isList h0 (by omega) (by rw [hj]; simpa using ew) fin hs
  · have hj : (i + (its.toArray.size : Int)).toNat = j := by
      rw [seqIndex_neg (by omega) h4] at h1
      rw [List.size_toArray, ← hl]
      exact Option.some.inj h1
    exact subscriptTail_builtinR (x := w) pl.isList.typeIs slot_list_getitem.lookup
      (wpAny_getItem_list_neg (Q := fun r s' => r = w ∧ EP X pins σ Q r s') pl.isList (by omega) (by rw [List.size_toArray] <;> omega) (by omega) (by rw [hj]; simpa using ew) ⟨rfl, fin⟩) hs
theorem ix_tup : IxR X (rIxT X.K) := by
  intro value slice pins s σ H x y v u Q I rx ry h hs
  obtain ⟨p, xs, i, z, rfl, rfl, hq, he, q⟩ := h
  cases rx
  obtain ⟨t, rfl⟩ := ry
  obtain ⟨its, r, pl, hz⟩ := I.tuple hq
  obtain ⟨j, h1, h2, h3, h4, h5⟩ := atI_get he
  obtain ⟨w, ew, rw'⟩ := r.get h2
  have hl := r.length
  have hn := line63
  have fin : EP X pins σ Q w s := ⟨z, H, I, rw', q⟩
  exact subscriptTail_builtinR (x := w) pl.typeIs slot_tuple_getitem.lookup
    (getItem_tuple (j := j) (Q := fun r s' => r = w ∧ EP X pins σ Q r s') pl (by omega) (by omega) (by rw [List.size_toArray, ← hl]; exact h1) (by simpa using ew) ⟨rfl, fin⟩) hs
/-- list, tuple or str -/
def rIx (K : PySem.W.Frag) : R2 := fun x y H Q => rIxL K x y H Q ∨ rIxT K x y H Q ∨ rIxS x y H Q
/-! ### xs[i] = v, any sign -/
/-- the list's object behind a store -/
theorem mapSeq_set (its : List Value) (n j : Nat) (u : Value) : Obj.mapSeq (·.setIfInBounds j u) { cls := .type "list", data := .seq its.toArray n } = { cls := .type "list", data := .seq (its.set j u).toArray n } := by
  simp [Obj.mapSeq]
theorem Inv.lst {pins : List (Addr × Obj)} {σ : St} {H : Hp} {s : Shared} {p : Addr} {xs : List V} (I : Inv X pins σ H s) (h : H p = some (.lst xs)) :
    ∃ (its : List Value) (n : Nat), Vals xs its ∧ s.heap.get? p = some { cls := .type "list", data := .seq its.toArray n } ∧ xs.length ≤ sizeLine := by
  obtain ⟨z, its, n, r, e⟩ := I.hok p _ h
  exact ⟨its, n, r, e, z⟩
/-- the list at p is written by an update of its object -/
theorem Inv.lstUpd {pins : List (Addr × Obj)} {σ : St} {H : Hp} {s : Shared} {p : Addr} {xs ys : List V} {its its' : List Value} {n n' : Nat} {f : Obj → Obj} (I : Inv X pins σ H s) (h : H p = some (.lst xs))
    (ho : s.heap.get? p = some { cls := .type "list", data := .seq its.toArray n }) (hf : f { cls := .type "list", data := .seq its.toArray n } = { cls := .type "list", data := .seq its'.toArray n' }) (r : Vals ys its') (hz : ys.length ≤ sizeLine) (t : Nat) :
    Inv X pins σ (upd H p (.lst ys)) { s with heap := s.heap.update p f, toks := t } := by
  have e : (s.heap.update p f).get? p = some { cls := .type "list", data := .seq its'.toArray n' } := by
    rw [Heap.get?_update_self f ho (by rw [hf] <;> rfl), hf]
  refine I.write (x := p) (e := p) (by rw [h]; trivial) (.inl rfl) (fun b u hb q => (Heap.get?_update_other _ _ (Ne.symm hb)).trans q) ⟨_, e⟩ ?_
  exact ⟨hz, its', n', r, e⟩
def rSetL : V → V → V → Hp → (Hp → Prop) → Prop := fun o i v H Q => ∃ p xs k j, o = .ref p ∧ i = .int k ∧ H p = some (.lst xs) ∧ ixN xs.length k = some j ∧ Q (upd H p (.lst (xs.set j v)))
theorem set_list : PSet X rSetL := by
  intro pins s σ H o i v ov iv u Q I ro ri rv h
  obtain ⟨p, xs, k, j, rfl, rfl, hp, hj, q⟩ := h
  cases ro
  obtain ⟨t, rfl⟩ := ri
  obtain ⟨its, n, r, ho, hz⟩ := I.lst hp
  obtain ⟨h1, h2, h3, h4⟩ := ixN_seq hj
  have hl := r.length
  have hn := line63
  have I' : Inv X pins σ (upd H p (.lst (xs.set j v))) { s with heap := s.heap.update p (Obj.mapSeq (·.setIfInBounds j u)) } :=
    I.lstUpd hp ho (mapSeq_set its n j u) (r.set rv j) (by rw [List.length_set]; exact hz) s.toks
  by_cases h0 : 0 ≤ k
  · have hk : k.toNat = j := by
      rw [seqIndex_of h0 h4] at h1
      exact Option.some.inj h1
    exact PySem.W.ki_setAt ho h0 (by omega) (by rw [List.size_toArray, ← hl]; exact h4) (by rw [hk]; exact ⟨_, I', q⟩)
  · have hk : (k + (its.toArray.size : Int)).toNat = j := by
      rw [seqIndex_neg (by omega) h3] at h1
      rw [List.size_toArray, ← hl]
      exact Option.some.inj h1
    exact PySem.W.ki_setBack ho (by omega) (by rw [List.size_toArray, ← hl]; exact h3) (by omega) (by rw [hk]; exact ⟨_, I', q⟩)

/-! ### slices -/
theorem slice_bounds (lo hi : Option Int) (n : Nat) : (sliceBounds lo hi none n).1 = ((HT.sIx n 0 lo : Nat) : Int) ∧ (sliceBounds lo hi none n).2.1 = ((HT.sIx n n hi : Nat) : Int) ∧ (sliceBounds lo hi none n).2.2 = 1 := by
  refine ⟨?_, ?_, rfl⟩
  · cases lo with
    | none => simp [sliceBounds, HT.sIx]
    | some i =>
      simp only [sliceBounds, HT.sIx, Option.getD_none, show (1 : Int) > 0 by decide, if_true]
      by_cases h : i < 0
      · simp only [h, if_true] <;> omega
      · simp only [h, if_false] <;> omega
  · cases hi with
    | none => simp [sliceBounds, HT.sIx]
    | some i =>
      simp only [sliceBounds, HT.sIx, Option.getD_none, show (1 : Int) > 0 by decide, if_true]
      by_cases h : i < 0
      · simp only [h, if_true] <;> omega
      · simp only [h, if_false] <;> omega
theorem slicePick_cut (its : List Value) (lo hi : Option Int) : slicePick its.toArray lo hi none = ((its.drop (HT.sIx its.length 0 lo)).take (HT.sIx its.length its.length hi - HT.sIx its.length 0 lo)).toArray := by
  obtain ⟨h1, h2, h3⟩ := slice_bounds lo hi its.toArray.size
  unfold slicePick
  rw [h1, h2, h3]
  simp only [sliceRange_one, pick_run, List.size_toArray] <;> rfl
/-- xs[lo:hi] of a list: a new list -/
def rSlL (K : PySem.W.Frag) : V → Option Int → Option Int → Hp → VK → Prop := fun x lo hi H Q => ∃ a xs, x = .ref a ∧ SqL K H a xs ∧ ∀ p, H p = none → Q (.ref p) (upd H p (.lst (cutV xs lo hi)))
theorem sl_list : SlR X (rSlL X.K) := by
  intro pins s σ H x v vl vu lo hi sl Q I rx hs pl pu h
  obtain ⟨a, xs, rfl, hx, q⟩ := h
  cases rx
  obtain ⟨its, r, ht, hz⟩ := I.list hx
  have hlen := r.length
  refine ⟨"list", _, slot_list_getitem.lookup, ht.isList.typeIs, ?_⟩
  refine wpAny_getItem_list_slice ht.isList hs pl pu .none (by simp) ?_ (by rw [List.size_toArray] <;> omega)
  rw [slicePick_cut, ← hlen]
  refine ⟨.ref s.heap.objs.size, _, I.laid (t' := s.toks) (o := .lst (cutV xs lo hi)) (fun b ob q => Heap.get?_push_of_some _ q) (Nat.le_refl _) ?_, rfl, q _ (I.hok.fresh (Nat.le_refl _))⟩
  exact ⟨Nat.le_trans (cutV_length xs lo hi) hz, _, 0, (r.drop (HT.sIx xs.length 0 lo)).take (HT.sIx xs.length xs.length hi - HT.sIx xs.length 0 lo), Heap.get?_push_size _ rfl⟩

/-! ### in, not in: flat items -/
def flatV : V → Bool
  | .non => true
  | .bl _ => true
  | .int _ => true
  | .str _ => true
  | _ => false
/-- == of flat values -/
def eqV : V → V → Bool
  | .non, .non => true
  | .bl a, .bl b => a == b
  | .bl a, .int b => (if a then 1 else 0) == b
  | .int a, .bl b => a == (if b then 1 else 0)
  | .int a, .int b => a == b
  | .str a, .str b => a == b
  | _, _ => false
theorem eqAt_V {A : Around} {s : Shared} {y x : V} {u v : Value} (ry : RelV y u) (rx : RelV x v) (fy : flatV y = true) (fx : flatV x = true) : SeqAt.EqAt A s u v (eqV y x) := by
  cases y with
  | non =>
    cases ry
    cases x with
    | non => cases rx; exact SeqAt.EqAt.same _
    | bl b => cases rx; exact SeqAt.EqAt.none_bool b
    | int b => obtain ⟨t, rfl⟩ := rx; exact SeqAt.EqAt.none_int b t
    | str b => obtain ⟨t, rfl⟩ := rx; exact SeqAt.EqAt.none_str b t
    | _ => exact absurd (show false = true from fx) Bool.false_ne_true
  | bl a =>
    cases ry
    cases x with
    | non => cases rx; exact SeqAt.EqAt.bool_none a
    | bl b => cases rx; exact SeqAt.EqAt.bool_bool a b
    | int b => obtain ⟨t, rfl⟩ := rx; exact SeqAt.EqAt.bool_int a b t
    | str b => obtain ⟨t, rfl⟩ := rx; exact SeqAt.EqAt.bool_str a b t
    | _ => exact absurd (show false = true from fx) Bool.false_ne_true
  | int a =>
    obtain ⟨t', rfl⟩ := ry
    cases x with
    | non => cases rx; exact SeqAt.EqAt.int_none a t'
    | bl b => cases rx; exact SeqAt.EqAt.int_bool a t' b
    | int b => obtain ⟨t, rfl⟩ := rx; exact SeqAt.EqAt.int_int a t' b t
    | str b => obtain ⟨t, rfl⟩ := rx; exact SeqAt.EqAt.int_str a t' b t
    | _ => exact absurd (show false = true from fx) Bool.false_ne_true
  | str a =>
    obtain ⟨t', rfl⟩ := ry
    cases x with
    | non => cases rx; exact SeqAt.EqAt.str_none a t'
    | bl b => cases rx; exact SeqAt.EqAt.str_bool a t' b
    | int b => obtain ⟨t, rfl⟩ := rx; exact SeqAt.EqAt.str_int a t' b t
    | str b => obtain ⟨t, rfl⟩ := rx; exact SeqAt.EqAt.str_str a t' b t
    | _ => exact absurd (show false = true from fx) Bool.false_ne_true
  | _ => exact absurd (show false = true from fy) Bool.false_ne_true
/-- the items' answers, read off the values (a value's own answer does not lean on its token) -/
def eqU (x : V) (u : Value) : Bool := match u with
  | .none => eqV .non x
  | .bool b => eqV (.bl b) x
  | .int i _ => eqV (.int i) x
  | .str z _ => eqV (.str z) x
  | _ => false
theorem eqU_of {x y : V} {u : Value} (r : RelV y u) (f : flatV y = true) : eqU x u = eqV y x := by
  cases y with
  | non => cases r; rfl
  | bl b => cases r; rfl
  | int i => obtain ⟨t, rfl⟩ := r; rfl
  | str z => obtain ⟨t, rfl⟩ := r; rfl
  | _ => exact absurd (show false = true from f) Bool.false_ne_true
theorem any_eqU {x : V} : ∀ {xs : List V} {us : List Value}, Vals xs us → xs.all flatV = true → us.any (eqU x) = xs.any fun y => eqV y x
  | _, _, .nil, _ => rfl
  | y :: xs, u :: us, .cons r t, f => by
    rw [List.all_cons, Bool.and_eq_true] at f
    rw [List.any_cons, List.any_cons, eqU_of r f.1, any_eqU t f.2]
theorem mem_eqAt {A : Around} {s : Shared} {x : V} {v : Value} (rx : RelV x v) (fx : flatV x = true) : ∀ {xs : List V} {us : List Value}, Vals xs us → xs.all flatV = true → ∀ u ∈ us, SeqAt.EqAt A s u v (eqU x u)
  | _, _, .nil, _ => fun u hu => by cases hu
  | y :: xs, u :: us, .cons r t, f => fun u' hu => by
    rw [List.all_cons, Bool.and_eq_true] at f
    rcases List.mem_cons.mp hu with rfl | hu
    · rw [eqU_of r f.1]; exact eqAt_V r rx f.1 fx
    · exact mem_eqAt rx fx t f.2 u' hu
def inV (x : V) (xs : List V) : Bool := xs.any fun y => eqV y x
/-- x in a list or tuple of flat items -/
def rIn (K : PySem.W.Frag) (neg : Bool) : R2 := fun x y H Q => ∃ p xs, y = .ref p ∧ (SqL K H p xs ∨ SqT K H p xs) ∧ flatV x = true ∧ xs.all flatV = true ∧ Q (.bl (if neg then !inV x xs else inV x xs)) H
theorem op_in_seq : OpR X (compareOp .In) (rIn X.K false) := by
  intro pins s σ H x y v u Q I rx ry h
  obtain ⟨p, xs, rfl, hq, fx, fs, q⟩ := h
  cases ry
  rcases hq with hq | hq
  · obtain ⟨its, r, pl, hz⟩ := I.list hq
    refine SeqAt.in_listAt (eqU x) pl.isList (fun w hw => mem_eqAt rx fx r fs w (by simpa using hw)) ⟨.bl _, H, I, rfl, ?_⟩
    rw [show its.toArray.any (eqU x) = its.any (eqU x) by simp, any_eqU r fs]
    exact q
  · obtain ⟨its, r, pl, hz⟩ := I.tuple hq
    refine SeqAt.in_tupleAt (eqU x) pl (fun w hw => mem_eqAt rx fx r fs w (by simpa using hw)) ⟨.bl _, H, I, rfl, ?_⟩
    rw [show its.toArray.any (eqU x) = its.any (eqU x) by simp, any_eqU r fs]
    exact q
/-! ### len, list(x), tuple(x) of any list or tuple that is read -/
theorem call_len_seq : CallR X (.builtin "len") (fun xs H Q => ∃ p ys, xs = [.ref p] ∧ (SqL X.K H p ys ∨ SqT X.K H p ys) ∧ Q (.int ys.length) H) := by
  intro pins s σ H xs us Q I r h
  obtain ⟨p, ys, rfl, hq, q⟩ := h
  obtain ⟨u, rfl, rx⟩ := vals1 r
  cases rx
  have hn := line63
  rcases hq with hq | hq
  · obtain ⟨its, r', pl, hz⟩ := I.list hq
    have hlen := r'.length
    exact Calls.call_len_list pl.isList (by simp only [List.size_toArray] <;> omega) ⟨.int ys.length, H, I.tok _, ⟨s.toks + 1, by rw [List.size_toArray, hlen]⟩, q⟩
  · obtain ⟨its, r', pl, hz⟩ := I.tuple hq
    have hlen := r'.length
    exact len_tuple pl (by simp only [List.size_toArray] <;> omega) ⟨.int ys.length, H, I.tok _, ⟨s.toks + 1, by rw [List.size_toArray, hlen]⟩, q⟩
theorem CallR.or {f : Value} {r r' : List V → Hp → VK → Prop} (h : CallR X f r) (h' : CallR X f r') : CallR X f (fun xs H Q => r xs H Q ∨ r' xs H Q) := by
  intro pins s σ H xs us Q I rs q
  rcases q with q | q
  · exact h pins s σ H xs us Q I rs q
  · exact h' pins s σ H xs us Q I rs q
theorem call_list_of : CallR X (.type "list") (fun xs H Q => ∃ p ys, xs = [.ref p] ∧ (SqL X.K H p ys ∨ SqT X.K H p ys) ∧ ∀ l, H l = none → Q (.ref l) (upd H l (.lst ys))) := by
  intro pins s σ H xs us Q I r h
  obtain ⟨p, ys, rfl, hq, q⟩ := h
  obtain ⟨u, rfl, rx⟩ := vals1 r
  cases rx
  have fin : ∀ (its : List Value), Vals ys its → ys.length ≤ sizeLine → ∀ (h' : Heap) (c' : Nat), (∀ b o', s.heap.get? b = some o' → h'.get? b = some o') →
      h'.get? s.heap.objs.size = some { cls := .type "list", dict := none, data := .seq its.toArray c', slots := #[] } → EP X pins σ Q (.ref s.heap.objs.size) { s with heap := h' } := fun its r' hz h' c' kp e =>
    ⟨.ref s.heap.objs.size, _, I.laid (t' := s.toks) kp (Nat.le_refl _) (show ObjOk X.prog X.w _ h' _ (.lst ys) from ⟨hz, its, c', r', e⟩), rfl, q _ (I.hok.fresh (Nat.le_refl _))⟩
  rcases hq with hq | hq
  · obtain ⟨its, r', pl, hz⟩ := I.list hq
    have hlen := r'.length
    obtain ⟨o, ho, hc, n, hd⟩ := pl.isList
    exact call_list_seq p (.inl rfl) ho hc hd (fun h' c' kp e => fin its r' hz h' c' kp e) (by simp only [List.size_toArray] <;> omega)
  · obtain ⟨its, r', pl, hz⟩ := I.tuple hq
    have hlen := r'.length
    obtain ⟨o, ho, hc, n, hd⟩ := pl
    exact call_list_seq p (.inr rfl) ho hc hd (fun h' c' kp e => fin its r' hz h' c' kp e) (by simp only [List.size_toArray] <;> omega)
/-! ### the call of a builtin's method: o.m(..) -/
/-- the value is of that builtin type -/
def tyV (K : PySem.W.Frag) (T : String) (x : V) (H : Hp) : Prop := match x with
  | .str _ => T = "str"
  | .int _ => T = "int"
  | .ref p => (T = "list" ∧ ∃ xs, SqL K H p xs) ∨ (T = "tuple" ∧ ∃ o, K.lookup p = some o ∧ o.cls = .type "tuple" ∧ o.dict = none) ∨
      (T = "dict" ∧ ((∃ kvs, H p = some (.dK kvs)) ∨ ∃ kvs, H p = some (.dT kvs))) ∨ (T = "set" ∧ ∃ S n, H p = some (.set S n))
  | _ => False
theorem tyV_is {pins : List (Addr × Obj)} {σ : St} {H : Hp} {s : Shared} {T : String} {x : V} {v : Value} (I : Inv X pins σ H s) (r : RelV x v) (ty : tyV X.K T x H) :
    s.TypeIs v T ∧ ∀ a, v = .ref a → ∃ ob, s.heap.get? a = some ob ∧ ob.dict = none := by
  cases x with
  | str z =>
    obtain ⟨t, rfl⟩ := r
    cases (show T = "str" from ty)
    exact ⟨typeIs_str s z t, fun _ e => nomatch e⟩
  | int i =>
    obtain ⟨t, rfl⟩ := r
    cases (show T = "int" from ty)
    exact ⟨typeIs_int s i t, fun _ e => nomatch e⟩
  | ref p =>
    cases r
    rcases ty with ⟨rfl, xs, hq⟩ | ⟨rfl, o, hk, hc, hd⟩ | ⟨rfl, hk⟩ | ⟨rfl, S, n, hk⟩
    · obtain ⟨its, _, pl, _⟩ := I.list hq
      refine ⟨pl.isList.typeIs, fun a e => ?_⟩
      cases e
      obtain ⟨o, n, e, c, hd, _⟩ := pl
      exact ⟨o, e, hd⟩
    · refine ⟨⟨o, I.kIn p o hk, hc⟩, fun a e => ?_⟩
      cases e
      exact ⟨o, I.kIn _ o hk, hd⟩
    · have z : ∃ o, s.heap.get? p = some o ∧ o.ExactDict := by
        rcases hk with ⟨kvs, hk⟩ | ⟨kvs, hk⟩
        · obtain ⟨_, _, _, _, o, _, _, e, ex, _⟩ := I.hok p _ hk
          exact ⟨o, e, ex⟩
        · obtain ⟨_, _, _, _, o, _, _, e, ex, _⟩ := I.hok p _ hk
          exact ⟨o, e, ex⟩
      obtain ⟨o, e, ex⟩ := z
      refine ⟨⟨o, e, ex.1⟩, fun a e2 => ?_⟩
      cases e2
      exact ⟨o, e, ex.2.1⟩
    · obtain ⟨o, _, _, _, e, ex, _⟩ := I.hok p _ hk
      refine ⟨⟨o, e, ex.1⟩, fun a e2 => ?_⟩
      cases e2
      exact ⟨o, e, ex.2.1⟩
  | _ => exact False.elim ty
def tBM0 (K : PySem.W.Frag) (T : String) (r : V → List V → Hp → VK → Prop) (to : TE) : TE := fun σ H Q => to σ H fun x H1 => tyV K T x H1 ∧ r x [] H1 Q
def tBM (K : PySem.W.Frag) (T : String) (r : V → List V → Hp → VK → Prop) (to : TE) (t : TA) : TE := fun σ H Q => to σ H fun x H1 => tyV K T x H1 ∧ t σ H1 fun xs H2 => r x xs H2 Q
variable {o e : Expr} {es : List Expr} {to : TE} {t : TA} {name : Str} {apos cpos : Pos} {T id : String} {r : V → List V → Hp → VK → Prop}
theorem pe_bm0 (pa : PlainAttrs T) (slot : Slot T name id) (hty : typeOf (.builtin id) = pure (.type "method_descriptor")) (hm : MtR X id r) (ho : PE X o to)
    (hbase : attributeBase o name X.env (eval o X.env) = eval o X.env := by rfl) (hline : (apos.endLine == cpos.line) = true := by rfl) : PE X (.Call (.Attribute o name apos) [] [] cpos) (tBM0 X.K T r to) := by
  intro pins s σ H Q I h
  refine wpAny_Call_method0_late hbase hline (thn (ho pins s σ H _ I h) fun v s1 ⟨x, H1, I1, r1, ty, q1⟩ => ?_)
  obtain ⟨h1, h2⟩ := tyV_is I1 r1 ty
  exact ⟨T, id, pa, slot, hty, h1, h2, Calls.callWith_builtin rfl (PySem.evalArgs_none (hm pins s1 σ H1 x [] v [] Q I1 r1 .nil q1))⟩
theorem pe_bm (pa : PlainAttrs T) (slot : Slot T name id) (hty : typeOf (.builtin id) = pure (.type "method_descriptor")) (hm : MtR X id r) (ho : PE X o to) (ha : PA X (e :: es) t)
    (hbase : attributeBase o name X.env (eval o X.env) = eval o X.env := by rfl)
    (hfew : ((backTo cpos (starEach (e :: es) X.env)).all (fun x => !x.1) && (backToKw cpos (keywordEach [] X.env)).all (fun x => x.1.isSome)
      && decide ((e :: es).length + ([] : List Keyword).length + (if ([] : List Keyword).isEmpty then 0 else 1) < 30)) = true := by rfl)
    (hline : (apos.endLine == cpos.line) = true := by rfl) (hs : starEach (e :: es) X.env = (false, eval e X.env) :: starEach es X.env := by rfl) (hplain : (backTo cpos (starEach es X.env)).any (·.1) = false := by rfl) :
    PE X (.Call (.Attribute o name apos) (e :: es) [] cpos) (tBM X.K T r to t) := by
  intro pins s σ H Q I h
  refine wpAny_Call_method_late hbase hfew hline rfl (thn (ho pins s σ H _ I h) fun v s1 ⟨x, H1, I1, r1, ty, q1⟩ => ?_)
  obtain ⟨h1, h2⟩ := tyV_is I1 r1 ty
  refine ⟨T, id, pa, slot, hty, h1, h2, ?_⟩
  have hA := ha cpos pins s1 σ H1 _ I1 q1
  rw [hs] at hA ⊢
  refine Calls.callWith_builtin (by show (false || (backTo cpos (starEach es X.env)).any (·.1)) = false; rw [hplain] <;> rfl) (Calls.evalArgs_plain ?_)
  exact thn hA fun us s2 ⟨vs, H2, I2, r2, q2⟩ => hm pins s2 σ H2 x vs v us Q I2 r1 r2 q2
/- xs.append(e), list.index on a module's tuple .. are MtR facts of 06m -/
end
end L2

namespace L2
open PySem PySem.Spec PyProof.Rows

def MtM (X : Cx) (id : String) (r : V → List V → Hp → VK → Prop) : Prop :=
  ∀ (pins : List (Addr × Obj)) (s : Shared) (σ : St) (H : Hp) (x : V) (xs : List V) (v : Value) (us : List Value) (Q : VK), Inv X pins σ H s → RelV x v → Vals xs us → r x xs H Q →
    wpAny (model X.prog X.w) X.A (call (.builtin id) (v :: us)) (EP X pins σ Q) X.xe s

/-! ### lists of values -/
theorem Vals.one : ∀ {x : V} {us : List Value}, Vals [x] us → ∃ u, us = [u] ∧ RelV x u
  | _, _, .cons r .nil => ⟨_, rfl, r⟩
theorem Vals.two : ∀ {x y : V} {us : List Value}, Vals [x, y] us → ∃ u v, us = [u, v] ∧ RelV x u ∧ RelV y v
  | _, _, _, .cons r (.cons q .nil) => ⟨_, _, rfl, r, q⟩
theorem Vals.zero : ∀ {us : List Value}, Vals [] us → us = []
  | _, .nil => rfl
theorem Vals.dropLast {xs : List V} {us : List Value} (h : Vals xs us) : Vals xs.dropLast us.dropLast := by
  induction h with
  | nil => exact .nil
  | cons r t ih =>
    cases t with
    | nil => exact .nil
    | cons q t' => exact .cons r ih
theorem Vals.eraseIdx : ∀ {xs : List V} {us : List Value} (i : Nat), Vals xs us → Vals (xs.eraseIdx i) (us.eraseIdx i)
  | _, _, _, .nil => .nil
  | _, _, 0, .cons _ t => t
  | _, _, i + 1, .cons r t => .cons r (Vals.eraseIdx i t)
theorem Vals.reverse {xs : List V} {us : List Value} (h : Vals xs us) : Vals xs.reverse us.reverse := by
  induction h with
  | nil => exact .nil
  | cons r t ih => rw [List.reverse_cons, List.reverse_cons]; exact Vals.append ih (.cons r .nil)
theorem erase_last {α : Type} (l : List α) : l.eraseIdx (l.length - 1) = l.dropLast := by
  induction l with
  | nil => rfl
  | cons a r ih =>
    cases r with
    | nil => rfl
    | cons b r =>
      have e : (a :: b :: r).length - 1 = ((b :: r).length - 1) + 1 := by
        have h1 : (a :: b :: r).length = r.length + 2 := rfl
        have h2 : (b :: r).length = r.length + 1 := rfl
        omega
      rw [e, List.eraseIdx_cons_succ, ih]
      all_goals rfl
theorem len_erase {α : Type} : ∀ (l : List α) (i : Nat), (l.eraseIdx i).length ≤ l.length
  | [], _ => Nat.le_refl _
  | _ :: _, 0 => Nat.le_succ _
  | _ :: r, i + 1 => Nat.succ_le_succ (len_erase r i)
section
variable {X : Cx} {pins : List (Addr × Obj)} {σ : St} {H : Hp} {s : Shared} {l b : Addr} {xs ys zs : List V}

/-! ### the two steps: a tracked list is rewritten, a new list is laid -/
theorem Inv.lset {its its' : List Value} {n : Nat} {f : Array Value → Array Value} {t' : Nat} (I : Inv X pins σ H s) (hH : H l = some (.lst xs))
    (e : s.heap.get? l = some { cls := .type "list", data := .seq its.toArray n }) (hf : f its.toArray = its'.toArray) (hv : Vals ys its') (hz : ys.length ≤ sizeLine) :
    Inv X pins σ (upd H l (.lst ys)) { s with heap := s.heap.update l (Obj.mapSeq f), toks := t' } := by
  have q := PySem.IsL.update e f
  rw [hf] at q
  refine I.write (x := l) (e := l) (by rw [hH]; exact trivial) (.inl rfl) (fun b' u hb hu => (Heap.get?_update_other s.heap (Obj.mapSeq f) (Ne.symm hb)).trans hu) ⟨_, q⟩ ?_
  exact ⟨hz, its', _, hv, q⟩
theorem Inv.fresh (I : Inv X pins σ H s) : H s.heap.objs.size = none := I.hok.fresh (Nat.le_refl _)
theorem Inv.lstM (I : Inv X pins σ H s) (hH : H l = some (.lst xs)) : xs.length ≤ sizeLine ∧ ∃ (its : List Value) (n : Nat), Vals xs its ∧ xs.length = its.length ∧ s.heap.get? l = some { cls := .type "list", data := .seq its.toArray n } := by
  obtain ⟨z, its, n, r, e⟩ := I.hok l _ hH
  exact ⟨z, its, n, r, r.length, e⟩

end

section
variable {X : Cx}

/-! ### methods -/
def rAppend : V → List V → Hp → VK → Prop := fun x vs H Q => ∃ l xs y, x = .ref l ∧ vs = [y] ∧ H l = some (.lst xs) ∧ xs.length < sizeLine ∧ Q .non (upd H l (.lst (xs ++ [y])))
theorem mt_append : MtM X "list.append" rAppend := by
  intro pins s σ H x vs v us Q I rx rv h
  obtain ⟨l, xs, y, rfl, rfl, hH, hz, q⟩ := h
  cases rx
  obtain ⟨u, rfl, ru⟩ := rv.one
  obtain ⟨z, its, n, r, hl, e⟩ := I.lstM hH
  refine call_meets F.slot_list_append ⟨_, e, rfl⟩ F.entry_list_append (F.args_list_append_2 _ _) (PySem.list_append l its.toArray n u (by rw [List.size_toArray]; omega)) ⟨e, ?_⟩
  refine ⟨.non, _, I.lset (its' := its ++ [u]) hH e (by simp) (r.append (.cons ru .nil)) ?_, rfl, q⟩
  rw [List.length_append, List.length_singleton]
  omega

def rExtend : V → List V → Hp → VK → Prop := fun x vs H Q => ∃ l b xs zs, x = .ref l ∧ vs = [.ref b] ∧ H l = some (.lst xs) ∧ H b = some (.lst zs) ∧ xs.length + zs.length ≤ sizeLine ∧ Q .non (upd H l (.lst (xs ++ zs)))
def rPop : V → List V → Hp → VK → Prop := fun x vs H Q => ∃ l xs y, x = .ref l ∧ vs = [] ∧ H l = some (.lst xs) ∧ xs[xs.length - 1]? = some y ∧ Q y (upd H l (.lst xs.dropLast))
theorem mt_pop : MtM X "list.pop" rPop := by
  intro pins s σ H x vs v us Q I rx rv h
  obtain ⟨l, xs, y, rfl, rfl, hH, hy, q⟩ := h
  cases rx
  have hus := rv.zero
  subst hus
  obtain ⟨z, its, n, r, hl, e⟩ := I.lstM hH
  obtain ⟨u, hu, ru⟩ := r.get hy
  have hy' : its.toArray[its.toArray.size - 1]? = some u := by
    show its.toArray[its.length - 1]? = some u
    rw [← Array.getElem?_toList, ← hl]
    exact hu
  refine call_meets F.slot_list_pop ⟨_, e, rfl⟩ F.entry_list_pop (F.args_list_pop_1 _) (MeetsSeq.list_pop_last l its.toArray n u hy' (by rw [List.size_toArray]; omega)) ⟨e, ?_⟩
  refine ⟨y, _, I.lset (its' := its.dropLast) hH e ?_ r.dropLast ?_, ru, q⟩
  · show its.toArray.eraseIdxIfInBounds (its.toArray.size - 1) = its.dropLast.toArray
    rw [List.size_toArray, List.eraseIdxIfInBounds_toArray, erase_last]
  · rw [List.length_dropLast]
    omega

def rPopAt : V → List V → Hp → VK → Prop := fun x vs H Q => ∃ l xs i k y, x = .ref l ∧ vs = [.int i] ∧ H l = some (.lst xs) ∧ -(2 ^ 63) ≤ i ∧ i < 2 ^ 63 ∧ seqIndex? i xs.length = some k ∧ xs[k]? = some y ∧ Q y (upd H l (.lst (xs.eraseIdx k)))
theorem mt_popAt : MtM X "list.pop" rPopAt := by
  intro pins s σ H x vs v us Q I rx rv h
  obtain ⟨l, xs, i, k, y, rfl, rfl, hH, h1, h2, hk, hy, q⟩ := h
  cases rx
  obtain ⟨u, rfl, ru⟩ := rv.one
  obtain ⟨t, rfl⟩ := ru
  obtain ⟨z, its, n, r, hl, e⟩ := I.lstM hH
  obtain ⟨w, hw, rw'⟩ := r.get hy
  refine call_meets F.slot_list_pop ⟨_, e, rfl⟩ F.entry_list_pop (F.args_list_pop_2 _ _)
    (MeetsSeq.list_pop_at l its.toArray n i t k w (fitsIndex_both h1 h2) (by rw [List.size_toArray, ← hl]; exact hk) (by rw [← Array.getElem?_toList]; exact hw) (by rw [List.size_toArray]; omega)) ⟨e, ?_⟩
  refine ⟨y, _, I.lset (its' := its.eraseIdx k) hH e ?_ (r.eraseIdx k) ?_, rw', q⟩
  · show its.toArray.eraseIdxIfInBounds k = (its.eraseIdx k).toArray
    rw [List.eraseIdxIfInBounds_toArray]
  · have := len_erase xs k
    omega

def rReverse : V → List V → Hp → VK → Prop := fun x vs H Q => ∃ l xs, x = .ref l ∧ vs = [] ∧ H l = some (.lst xs) ∧ Q .non (upd H l (.lst xs.reverse))
def rClear : V → List V → Hp → VK → Prop := fun x vs H Q => ∃ l xs, x = .ref l ∧ vs = [] ∧ H l = some (.lst xs) ∧ Q .non (upd H l (.lst []))
/-! ### list + list, list += list, list * int -/
def rCat : R2 := fun x y H Q => ∃ l b xs zs, x = .ref l ∧ y = .ref b ∧ H l = some (.lst xs) ∧ H b = some (.lst zs) ∧ xs.length + zs.length ≤ sizeLine ∧ ∀ p, H p = none → Q (.ref p) (upd H p (.lst (xs ++ zs)))
/-- a list times an int (a negative one is nothing) -/
def rRep : R2 := fun x y H Q => ∃ l k xs, x = .ref l ∧ y = .int k ∧ H l = some (.lst xs) ∧ -(2 ^ 63) ≤ k ∧ k < 2 ^ 63 ∧ xs.length * k.toNat ≤ sizeLine ∧
  ∀ p, H p = none → Q (.ref p) (upd H p (.lst (List.replicate k.toNat xs).flatten))
/-! ### del xs[i] -/
end

/-! ### xs[a:b] = ys -/
section
variable {prog : Program} {w : World} {A : Around} {E : Value → Shared → Prop} {s : Shared}
end

section
variable {X : Cx}
end
end L2

namespace Att
open PySem PySem.W PySem.Calls PyProof.Rows

/-! ### the script -/
theorem ints_of_wellAll {P : Params} {h : Heap} : ∀ (ns : List Int) (vs : List Value), WellAll P h vs (ns.map WData.int) → IntsAre vs ns := by
  intro ns
  induction ns with
  | nil =>
    intro vs w
    rw [List.map_nil] at w
    cases w
    exact .nil
  | cons n ns ih =>
    intro vs w
    rw [List.map_cons] at w
    cases w with
    | cons a b =>
      cases a
      exact .cons _ _ (ih _ b)

theorem script_of {l : OpenLaw} {n : Nat} (hn : l.most = some n) {P : Params} {h : Heap} {args : List WData} {vals : List Value}
    (hpre : l.row.toRowW.claim.pre args = true) (hwl : WellAll P h vals args) :
    ∃ a vs ns, vals = [Value.ref a] ∧ args = [WData.list (ns.map WData.int)] ∧ h.get? a = some { cls := .type "list", data := .seq vs.toArray } ∧ IntsAre vs ns ∧ ns.length ≤ n := by
  have hsh : WShape.hasAll [] args [.list .int] = true := (pre_splitW hpre).1
  have hc : l.pre.holds [] { args := args } = true := (pre_splitW hpre).2
  obtain ⟨d, r, rfl, h1, h2⟩ := hasAllW_cons hsh
  obtain rfl := hasAllW_nil h2
  obtain ⟨xs, rfl, h3⟩ := hasW_list h1
  obtain ⟨ns, rfl⟩ := items_int h3
  have hlen : ns.length ≤ n := by
    unfold OpenLaw.pre at hc
    have h4 : (WTm.not (.lt (.lit (.int (n : Int))) (.len (.arg 0)))).holds [] { args := [.list (ns.map .int)] } = true := by
      have h4 := (holds_andW hc).1
      rw [hn] at h4
      exact h4
    have h5 := condW_of h4 (w_not (w_lt w_lit (w_len_list (w_arg rfl))))
    rw [List.length_map] at h5
    refine Nat.le_of_not_lt fun q => ?_
    have q' : (n : Int) < ((ns.length : Nat) : Int) := by omega
    first
      | (rw [decide_eq_true q'] at h5; exact absurd h5 (by decide))
      | (simp at h5; omega)
  cases hwl with
  | cons w1 w2 =>
    cases w2
    cases w1 with
    | list ho hall => exact ⟨_, _, ns, rfl, rfl, ho, ints_of_wellAll ns _ hall, hlen⟩

theorem post_true (l : OpenLaw) (args : List WData) : l.row.toRowW.claim.post args (.bool true) args = true :=
  postW_of (r := l.row.toRowW) (X := (true == true))
    (show WShape.has [] (.bool true) .bool = true by first | rfl | decide | simp [WShape.has, WShape.arms, WShape.armsAll])
    (show (WTm.eq .res (.lit (.bool true))).value [] { args := args, res := some (.bool true), after := args } = some (.bool (true == true)) from w_eq_bool (w_res rfl) w_lit) rfl

/-! ### the attachment: holds_open's last premise (the goal 'hc' behind k_head) from a wpAny of the law's body -/
/-- the same from a codeAny of the CALL (for a layer whose function contracts speak of calls) -/
theorem attach_call {l : OpenLaw} {n : Nat} {q : Program} {loose : List Str} {XP : (Str → Option Value) → Heap → Prop} {YP : World → Heap → Prop} {d : DefRec}
    (hn : l.most = some n) (hdf : d.params.defaults = [])
    (call : ∀ (w : World) (s₀ s₁ : Shared) (mg mb : Str → Option Value) (fa : Addr) (o : Obj) (pm cd doc : Value) (a : Addr) (vs : List Value) (ns : List Int),
      Ground q loose [] XP w s₀ mg mb s₁.heap → YP w s₁.heap →
      s₁.heap.get? fa = some o → o.data = .func (docDef d.name d.params d.body d.scope pm cd doc) → s₁.heap.CodeRec cd d.name → mg d.name = some (.ref fa) →
      s₁.heap.get? a = some { cls := .type "list", data := .seq vs.toArray } → IntsAre vs ns → ns.length ≤ n → s₁.gens = #[] →
      codeAny (model l.prog w) callerA (.call (.ref fa) ⟨[.ref a], []⟩) (fun r s' => r = .ok (.ret (.bool true)) ∧ OldK s₁.heap s'.heap ∧ s'.os = s₁.os ∧ AllBare s'.gens) s₁) :
    WalkO q loose XP YP l.row.toRowW d [] (fun f vs => PySem.call f vs) := by
  intro w s₀ s₁ mg mb G Y fa o pm cd doc dV kV ho hd hcd hD hmg hg args vals as hpre hlay hrd hwl hlo
  obtain rfl : dV = .none := Dflts.none hD hdf
  obtain rfl : kV = .none := Dflts.noKw hD
  obtain ⟨a, vs, ns, rfl, rfl, hobj, hints, hlen⟩ := script_of hn hpre hwl
  refine enter_call (codeAny_mono (call w s₀ s₁ mg mb fa o pm cd doc a vs ns G Y ho (fd_plain hd) hcd hmg hobj hints hlen hg) fun r s' hq => ?_)
  obtain ⟨rfl, h2, h3, h4⟩ := hq
  exact ⟨.inl ⟨.bool true, .bool true, [], rfl, fun _ => rfl, .bool true, post_true l _, fun _ => ⟨List.Pairwise.nil, fun _ hm => (nomatch hm)⟩⟩, h2, h3, h4⟩

/-! ### rules over ANY heap (no ledger) from facts about the written part K: the library's own take a ledger (News) for what they write -/
section
variable {prog : Program} {w : World} {A : Around} {E : Value → Shared → Prop} {s : Shared} {K : Frag}

/-! the whole heap as the ledger: makes every rule that writes through a ledger a rule over any heap -/
def noObjs (h : Heap) : Heap := { h with objs := #[] }
def ledger (h : Heap) (L d : Addr) : List (Addr × Obj) := (List.range h.objs.size).filterMap fun a => if a = L ∨ a = d then none else (h.get? a).map fun o => (a, o)
end
end Att

namespace L2
open PySem PySem.Spec PyProof.Rows

theorem vals_ints : ∀ {vs : List Value} {ns : List Int}, IntsAre vs ns → Vals (ns.map V.int) vs
  | _, _, .nil => .nil
  | _, _, .cons n t h => .cons ⟨t, rfl⟩ (vals_ints h)

/-- nothing is tracked but the script, known to the object (or it is an object of the module) -/
def Only (H : Hp) : Prop := ∀ b, H b = none ∨ ∃ o xs, H b = some (.frz o (.lst xs))

/-- THE HEAD: the law's promise, at the heap behind the top. F, the promise of the law's def, may use that base is part of the heap (so K.In base, base.Ns mainGlobals mg stand in Mod) -/
theorem law_call {P : Program} {w : World} {K : PySem.W.Frag} {mg mb : Str → Option Value} {CX : CXT} {k : Nat} {fa a : Addr} {fd : FuncData} {x : Str} {sp : Sp} {s₁ : Shared} {vs : List Value} {ns : List Int}
    (KX : K.In s₁.heap) (hns : s₁.heap.Ns mainGlobals mg) (hb : s₁.heap.Ns builtinsNs mb) (hbb : ∀ x : Str, x ≠ "__name__" → mb x = bootBuiltins x) (hlim : s₁.heap.NoLimit) (hg : s₁.gens = #[])
    (ha : s₁.heap.get? a = some { cls := .type "list", data := .seq vs.toArray }) (hi : IntsAre vs ns) (hl : ns.length ≤ sizeLine) (hr : Room k callerA)
    (F : ∀ base : Heap, K.In base → base.Ns mainGlobals mg → FnOk P w K mg base CX k fa fd [x] sp) (hbind : ∀ (s : Shared) (u : Value), BindsTo s fd ⟨[u], []⟩ [(x, u)])
    (hsp : ∀ H : Hp, Only H → SqL K H a (ns.map V.int) → sp [.ref a] H (fun v _ => v = .bl true) fun _ _ _ => False)
    (hCX : ∀ H e s', CX [] H s₁ (fun _ _ _ => False) e s' → False) :
    codeAny (model P w) callerA (.call (.ref fa) ⟨[.ref a], []⟩) (fun r s' => r = .ok (.ret (.bool true)) ∧ OldK s₁.heap s'.heap ∧ s'.os = s₁.os ∧ AllBare s'.gens) s₁ := by
  have rv := vals_ints hi
  have lenV := hi.length
  -- from an abstract heap in which nothing but the script may be tracked
  have core : ∀ H : Hp, Only H → SqL K H a (ns.map V.int) → HOk P w H s₁.heap → (∀ b, H b ≠ none → b = a) → (H a ≠ none → K.lookup a = none) →
      codeAny (model P w) callerA (.call (.ref fa) ⟨[.ref a], []⟩) (fun r s' => r = .ok (.ret (.bool true)) ∧ OldK s₁.heap s'.heap ∧ s'.os = s₁.os ∧ AllBare s'.gens) s₁ := by
    intro H hO hS hok hA hK
    have base_of : ∀ {b : Addr} {o : Obj}, s₁.heap.get? b = some o → H b = none → (hidT s₁.heap H).get? b = some o := fun e n => hidT_get e n
    have noA : ∀ {b : Addr} {o : Obj} {es : Array DictEntry} {ep : Nat}, s₁.heap.get? b = some o → o.data = .dict es ep → H b = none := fun {b o es ep} e d => by
      cases q : H b with
      | none => rfl
      | some u =>
        have e' : b = a := hA b (by rw [q]; simp)
        subst e'
        rw [ha] at e; cases e
        have d' : Data.seq vs.toArray _ = Data.dict es ep := d
        cases d'
    have nsK : ∀ {b : Addr} {m : Str → Option Value}, s₁.heap.Ns b m → (hidT s₁.heap H).Ns b m := fun {b m} ⟨o, es, ep, e, d, r⟩ => ⟨o, es, ep, base_of e (noA e d), d, r⟩
    have hKb : K.In (hidT s₁.heap H) := fun b o e => base_of (KX b o e) (by
      cases q : H b with
      | none => rfl
      | some u =>
        have e' : b = a := hA b (by rw [q]; simp)
        subst e'
        rw [hK (by rw [q]; simp)] at e; cases e)
    have hM : Mod K mg (hidT s₁.heap H) := ⟨hKb, nsK hns, ⟨mb, nsK hb, hbb⟩, let ⟨mc, h1, h2⟩ := hlim; ⟨mc, nsK h1, h2⟩⟩
    have e0 : Env0 P w K mg (hidT s₁.heap H) callerA [] s₁ H := ⟨rfl, hM, fun b o e => of_hidT e, Nat.le_of_eq (hidT_size _ _), trivial, fun b hb => absurd (show b ∈ ([] : List Addr) from hb) (by simp), hok, .of_eq hg⟩
    refine codeAny_mono ((F _ hKb (nsK hns)).run callerA [] s₁ H ⟨[.ref a], []⟩ [.ref a] [.ref a] _ _ hr e0 (hbind s₁ (.ref a)) (.cons rfl .nil) (hsp H hO hS)) fun r s' h => ?_
    cases r with
    | error e => exact (hCX H e s' h).elim
    | ok fl =>
      cases fl with
      | next => exact False.elim h
      | brk => exact False.elim h
      | cont => exact False.elim h
      | ret u =>
        obtain ⟨v, H', os, bare, un, hok', r', q⟩ := h
        have q' : v = .bl true := q
        subst q'
        obtain rfl : u = Value.bool true := r'
        refine ⟨rfl, OldK.of_keep fun b o e => ?_, os, bare⟩
        cases q : H b with
        | none => exact un.keep b o e q (by intro z; exact absurd (show b ∈ ([] : List Addr) from z) (by simp)) (by simp)
        | some u =>
          rcases hO b with z | ⟨ob, xs, z⟩
          · rw [q] at z; cases z
          · have z2 := un.frzs b ob _ z
            obtain ⟨e1, _⟩ := hok b _ z
            obtain ⟨e2, _⟩ := hok' b _ z2
            rw [e] at e1; cases e1
            exact e2
  cases hk : K.lookup a with
  | some o =>
    -- the script is one of the module's own objects
    have e := KX a o hk
    rw [ha] at e
    cases e
    refine core (fun _ => none) (fun _ => .inl rfl) (.inr ⟨_, vs.toArray, _, hk, rfl, rfl, rfl, by rw [List.size_toArray, lenV]; exact hl, by simpa using rv⟩) (fun b u z => by have z' : (none : Option HO) = some u := z; cases z') (fun b z => absurd rfl z) fun z => absurd rfl z
  | none =>
    refine core (fun b => if b = a then some (.frz { cls := .type "list", data := .seq vs.toArray } (.lst (ns.map V.int))) else none) (fun b => ?_) (.inl (.inr ⟨{ cls := .type "list", data := .seq vs.toArray }, if_pos rfl⟩)) (fun b u z => ?_) (fun b z => ?_) fun _ => hk
    · by_cases hb : b = a
      · exact .inr ⟨_, _, if_pos hb⟩
      · exact .inl (if_neg hb)
    · by_cases hb : b = a
      · have z' := (if_pos hb).symm.trans z
        cases z'
        subst hb
        exact ⟨ha, by rw [List.length_map]; exact hl, vs, _, rv, ha⟩
      · have z' := (if_neg hb).symm.trans z
        cases z'
    · by_cases hb : b = a
      · exact hb
      · exact absurd (if_neg hb) z
end L2

namespace L2
open PySem PySem.Spec PyProof.Rows

abbrev KOf {K : PySem.W.Frag} {h : Heap} (_ : K.In h) : PySem.W.Frag := K

/-- the goal that k_head leaves (case hc), from the law's promise. F gives the function object fd (K's own) once, then the promise over every base -/
theorem walk_of {l : PySem.W.OpenLaw} {n k : Nat} {q : Program} {loose : List Str} {XP : (Str → Option Value) → Heap → Prop} {YP : World → Heap → Prop} {d : DefRec} {K : Params → PySem.W.Frag} {CX : World → CXT} {sp : World → Sp} {x : Str}
    (hn : l.most = some n) (hn2 : n ≤ sizeLine) (hdf : d.params.defaults = []) (hr : Room k callerA)
    (hY : ∀ (w : World) (h : Heap), YP w h → (K w.params).In h)
    (F : ∀ (w : World) (mg : Str → Option Value) (fa : Addr) (h : Heap), (K w.params).In h → h.Ns mainGlobals mg → mg d.name = some (.ref fa) →
      ∃ fd : FuncData, (∀ (s : Shared) (u : Value), BindsTo s fd ⟨[u], []⟩ [(x, u)]) ∧
        ∀ base : Heap, (K w.params).In base → base.Ns mainGlobals mg → FnOk l.prog w (K w.params) mg base (CX w) k fa fd [x] (sp w))
    (hsp : ∀ (w : World) (H : Hp) (a : Addr) (ns : List Int), ns.length ≤ n → Only H → SqL (K w.params) H a (ns.map V.int) → sp w [.ref a] H (fun v _ => v = .bl true) fun _ _ _ => False)
    (hCX : ∀ (w : World) (H : Hp) (s : Shared) (e : Value) (s' : Shared), CX w [] H s (fun _ _ _ => False) e s' → False) :
    PySem.W.WalkO q loose XP YP l.row.toRowW d [] (fun f vs => PySem.call f vs) := by
  refine Att.attach_call hn hdf fun w s₀ s₁ mg mb fa o pm cd doc a vs ns G Y ho hd hcd hmg hobj hints hlen hg => ?_
  have KX := hY w _ Y
  obtain ⟨fd, hb, hF⟩ := F w mg fa _ KX G.T.g hmg
  exact law_call KX G.T.g G.T.b G.T.builtins G.T.nolimit hg hobj hints (Nat.le_trans hlen hn2) hr hF hb (fun H hO hS => hsp w H a ns hlen hO hS) fun H e s' => hCX w H s₁ e s'
/-- the same where the promise hangs on the written part alone: (sp := My.sp_law), no hole under a binder -/
theorem walk_ofK {l : PySem.W.OpenLaw} {n k : Nat} {q : Program} {loose : List Str} {XP : (Str → Option Value) → Heap → Prop} {YP : World → Heap → Prop} {d : DefRec} {K : Params → PySem.W.Frag} {CX : CXT} {sp : PySem.W.Frag → Sp} {x : Str}
    (hn : l.most = some n) (hn2 : n ≤ sizeLine) (hdf : d.params.defaults = []) (hr : Room k callerA)
    (hY : ∀ (w : World) (h : Heap), YP w h → (K w.params).In h)
    (F : ∀ (w : World) (mg : Str → Option Value) (fa : Addr) (h : Heap), (K w.params).In h → h.Ns mainGlobals mg → mg d.name = some (.ref fa) →
      ∃ fd : FuncData, (∀ (s : Shared) (u : Value), BindsTo s fd ⟨[u], []⟩ [(x, u)]) ∧
        ∀ base : Heap, (K w.params).In base → base.Ns mainGlobals mg → FnOk l.prog w (K w.params) mg base CX k fa fd [x] (sp (K w.params)))
    (hsp : ∀ (K : PySem.W.Frag) (H : Hp) (a : Addr) (ns : List Int), ns.length ≤ n → Only H → SqL K H a (ns.map V.int) → sp K [.ref a] H (fun v _ => v = .bl true) fun _ _ _ => False)
    (hCX : ∀ (H : Hp) (s : Shared) (e : Value) (s' : Shared), CX [] H s (fun _ _ _ => False) e s' → False) :
    PySem.W.WalkO q loose XP YP l.row.toRowW d [] (fun f vs => PySem.call f vs) :=
  walk_of (K := K) (CX := fun _ => CX) (sp := fun w => sp (K w.params)) hn hn2 hdf hr hY F (fun w H a ns h1 h2 h3 => hsp (K w.params) H a ns h1 h2 h3) fun _ H s e s' => hCX H s e s'
end L2


/-! SHORT WORDS over the layer: a def of the text, its body, what a loop and a test want. -/
namespace L2
open PySem PySem.Spec PyProof.Rows

/-! ### the text by places -/
/-- the j-th statement of a class's body -/
def inClass (s : Stmt) (j : Nat) : Stmt := match s with
  | .ClassDef _ _ _ body _ _ _ _ _ _ _ => body.getD j (.Pass ⟨0, 0, 0, 0⟩)
  | _ => .Pass ⟨0, 0, 0, 0⟩
def defArgs (s : Stmt) : Arguments := match s with
  | .FunctionDef _ a _ _ _ _ _ _ _ _ => a
  | _ => { posonlyargs := [], args := [], vararg := none, kwonlyargs := [], kw_defaults := [], kwarg := none, defaults := [] }
def defBody (s : Stmt) : List Stmt := match s with
  | .FunctionDef _ _ b _ _ _ _ _ _ _ => b
  | _ => []
def defScope (s : Stmt) : Scope := match s with
  | .FunctionDef _ _ _ _ _ _ sc _ _ _ => sc
  | _ => { kind := .function, names := [], isGenerator := false, isCoroutine := false }

/-! ### no exception leaves a def -/
abbrev CX0 : CXT := fun _ _ _ _ _ _ => False
abbrev E0 : XK := fun _ _ _ => False
theorem pass0 {X : Cx} : Passes CX0 X E0 := fun _ _ _ _ _ _ _ h => h.elim

/-! ### a def (or method) of the text as it stands behind the top -/
structure Fun (K : PySem.W.Frag) (x qual : Str) (st : Stmt) (f : Addr) (fd : FuncData) : Prop where
  ex : ∃ (oc : Value) (od : Option Addr) (kV doc pm : Value) (an : Option Addr) (cdv ct : Value) (osl : Array (Option Value)),
    fd = PySem.W.fnOf x qual (defArgs st) (defBody st) (defScope st) .none kV doc pm an cdv ct ∧ K.lookup f = some ⟨oc, od, .func fd, osl⟩ ∧ PySem.W.codeIn K cdv qual = true
  kp : PySem.W.keepIn K (.ref f) = true
section
variable {P : Program} {w : World} {K : PySem.W.Frag} {mg : Str → Option Value} {base : Heap}
/-- THE RULE for a def: its body as a term of rules, and the reading of that term -/
theorem Fun.ok {x qual : Str} {st : Stmt} {f : Addr} {fd : FuncData} {N ps : List Str} {k : Nat} {sp : Sp} (F : Fun K x qual st f fd) (S : FnScope N ps (defScope st)) (len : ∀ vs H Q E, sp vs H Q E → vs.length = ps.length)
    (hbody : ∀ (cdv : Value) (A : Around) (outer : List Env) (s : Shared) (H : Hp) (vs : List V) (Q : VK) (E : XK), Room k (A.deeper (envOfC qual (defScope st) s.heap.objs.size f cdv)) → sp vs H Q E →
      ∃ t, PSs (cxOf CX0 P w K mg base N qual (defScope st) f cdv A outer s H E).nox (defBody st) t ∧ t { nx := fun _ H' => Q .non H', rt := Q } (start N vs) H) : FnOk P w K mg base CX0 (k + 1) f fd ps sp := by
  obtain ⟨oc, od, kV, doc, pm, an, cdv, ct, osl, rfl, lk, hcd⟩ := F.ex
  refine fn_of lk hcd S len fun A outer s H vs Q E hr hsp => ?_
  obtain ⟨t, h, q⟩ := hbody cdv A outer s H vs Q E hr hsp
  exact ⟨t, h.nox, q⟩
/-- how its arguments bind (no defaults): h is «fun _ _ _ _ _ _ us hl => match us, hl with | [_, _], _ => rfl», one _ a parameter -/
theorem Fun.binds {x qual : Str} {st : Stmt} {f : Addr} {fd : FuncData} {ps : List Str} (F : Fun K x qual st f fd)
    (h : ∀ (kV doc pm : Value) (an : Option Addr) (cdv ct : Value) (us : List Value), us.length = ps.length → bindArgs (PySem.W.fnOf x qual (defArgs st) (defBody st) (defScope st) .none kV doc pm an cdv ct) ⟨us, []⟩ = pure (ps.zip us)) : Binds K fd ps [] := by
  obtain ⟨oc, od, kV, doc, pm, an, cdv, ct, osl, rfl, lk, hcd⟩ := F.ex
  exact .all (h kV doc pm an cdv ct)
end
theorem hu_of {A : Around} {k : Nat} (hr : Room k A) : A.units + 1 < cLine := Nat.lt_of_le_of_lt (Nat.add_le_add_left (by decide : 1 ≤ 64) _) hr.units
/-! ### expressions in short: the name that stands in the i-th slot -/
section
variable {X : Cx}
theorem pv (i : Nat) {x : Str} {pos : Pos} (hN : X.N[i]? = some x := by rfl) (hv : Vis X.env.scope x := by first | exact Or.inl rfl | exact Or.inr (Or.inl rfl) | exact Or.inr (Or.inr rfl)) (hd : (x == ("__debug__" : Str)) = false := by decide)
    (hcd : (x == ("__classdict__" : Str)) = false := by decide) : PE X (.Name x pos) (tVar i) := pe_var hN hv hd hcd
end

/-! ### tests -/
theorem iteF {A B : Prop} (h : B) : if false = true then A else B := by
  rw [if_neg Bool.false_ne_true]
  exact h
theorem iteT {A B : Prop} (h : A) : if true = true then A else B := by
  rw [if_pos rfl]
  exact h
theorem ite2 {c A B : Prop} [Decidable c] (h1 : c → A) (h2 : ¬ c → B) : if c then A else B := by
  by_cases h : c
  · rw [if_pos h]
    exact h1 h
  · rw [if_neg h]
    exact h2 h
/-! ### heaps -/
/-- all that was tracked is as it was -/
def Same (H H' : Hp) : Prop := ∀ b o, H b = some o → H' b = some o
theorem Same.refl (H : Hp) : Same H H := fun _ _ h => h
theorem Same.trans {H H1 H2 : Hp} (a : Same H H1) (b : Same H1 H2) : Same H H2 := fun c o h => b c o (a c o h)
theorem Same.free {H H' : Hp} (e : Same H H') {l : Addr} (h : H' l = Option.none) : H l = Option.none := by
  cases q : H l with
  | none => rfl
  | some o =>
    rw [e l o q] at h
    cases h
theorem Same.seq {K : PySem.W.Frag} {H H' : Hp} {a : Addr} {xs : List V} (e : Same H H') (h : SqL K H a xs) : SqL K H' a xs := by
  rcases h with (h | ⟨o, h⟩) | h
  · exact .inl (.inl (e _ _ h))
  · exact .inl (.inr ⟨o, e _ _ h⟩)
  · exact .inr h

/-! ### a dict's pairs: keys that differ -/
section
variable {κ : Type} [DecidableEq κ]
theorem dropK_neg {p : κ × V} {r : List (κ × V)} {k : κ} (e : ¬ p.1 = k) : dropK (p :: r) k = p :: dropK r k := by
  unfold dropK
  rw [List.filter_cons, if_pos (by simp [e])]
end
end L2

set_option Elab.async false
set_option linter.all false
set_option maxRecDepth 100000
namespace L2
open PySem PySem.Spec PyProof.Rows

/-! ### what is known of the abstract heap: a list of addresses (all different) and what stands there -/
abbrev Kn := List (Addr × HO)
structure Has (H : Hp) (L : Kn) : Prop where
  nd : (L.map (·.1)).Nodup
  at_ : ∀ x ∈ L, H x.1 = some x.2
namespace Has
variable {H H' : Hp} {L L' X Y R : Kn} {a p : Addr} {o o' : HO} {x y : Addr × HO}
theorem nil : Has H [] := ⟨List.nodup_nil, fun _ h => nomatch h⟩
theorem get (h : Has H L) (i : Nat) (e : L[i]? = some (a, o)) : H a = some o := h.at_ (a, o) (List.mem_of_getElem? e)
theorem alloc (h : Has H L) (hp : H p = none) (o : HO) : Has (upd H p o) ((p, o) :: L) := by
  have ne : ∀ x ∈ L, x.1 ≠ p := fun x hx e => by
    have := h.at_ x hx
    rw [e, hp] at this; cases this
  refine ⟨?_, fun x hx => ?_⟩
  · rw [List.map_cons, List.nodup_cons]
    refine ⟨fun m => ?_, h.nd⟩
    obtain ⟨x, hx, e⟩ := List.mem_map.mp m
    exact ne x hx e
  · rcases List.mem_cons.mp hx with rfl | hx
    · exact upd_same
    · rw [upd_ne (ne x hx)]; exact h.at_ x hx
theorem same (h : Has H L) (s : Same H H') : Has H' L := ⟨h.nd, fun x hx => s _ _ (h.at_ x hx)⟩
/-- fewer, or in another order -/
theorem sub (h : Has H L) (s : L'.Sublist L) : Has H L' := ⟨h.nd.sublist (s.map _), fun x hx => h.at_ x (s.subset hx)⟩
theorem perm (h : Has H L) (s : L.Perm L') : Has H L' := ⟨(s.map _).nodup_iff.mp h.nd, fun x hx => h.at_ x (s.mem_iff.mpr hx)⟩
theorem tail (h : Has H (x :: L)) : Has H L := h.sub (List.sublist_cons_self _ _)
theorem right (h : Has H (X ++ R)) : Has H R := h.sub (List.sublist_append_right _ _)
theorem left (h : Has H (X ++ R)) : Has H X := h.sub (List.sublist_append_left _ _)
theorem swap2 (h : Has H (x :: y :: L)) : Has H (y :: x :: L) := h.perm (List.Perm.swap _ _ _)
theorem comm (h : Has H (X ++ (Y ++ R))) : Has H (Y ++ (X ++ R)) := h.perm (by rw [← List.append_assoc, ← List.append_assoc]; exact List.perm_append_comm.append_right R)
theorem out (h : Has H (Y ++ (x :: R))) : Has H (x :: (Y ++ R)) := h.perm List.perm_middle
theorem ne2 (h : Has H ((a, o) :: R)) {b : Addr} (m : b ∈ R.map (·.1)) : b ≠ a := fun e => by
  have := List.nodup_cons.mp (show ((a :: R.map (·.1)).Nodup) from h.nd)
  exact this.1 (e ▸ m)
/-- one is written: the first -/
theorem put (h : Has H ((a, o) :: R)) (o' : HO) : Has (upd H a o') ((a, o') :: R) := by
  refine ⟨h.nd, fun x hx => ?_⟩
  rcases List.mem_cons.mp hx with rfl | hx
  · exact upd_same
  · rw [upd_ne (h.ne2 (List.mem_map_of_mem hx))]; exact h.at_ x (List.mem_cons_of_mem _ hx)
theorem map_set_fst : ∀ (L : Kn) (i : Nat), L[i]? = some (a, o) → (L.set i (a, o')).map (·.1) = L.map (·.1)
  | [], i, e => by simp at e
  | x :: L, 0, e => by simp at e; subst e; rfl
  | x :: L, i + 1, e => by
    simp only [List.set_cons_succ, List.map_cons]
    rw [map_set_fst L i (by simpa using e)]
/-- one is written: the i-th -/
theorem puti (h : Has H L) (i : Nat) (e : L[i]? = some (a, o)) (o' : HO) : Has (upd H a o') (L.set i (a, o')) := by
  have hi : i < L.length := (List.getElem?_eq_some_iff.mp e).1
  refine ⟨by rw [map_set_fst (o' := o') L i e]; exact h.nd, fun x hx => ?_⟩
  obtain ⟨j, hj⟩ := List.getElem?_of_mem hx
  by_cases hij : j = i
  · subst hij
    rw [List.getElem?_set_self hi] at hj
    cases hj
    exact upd_same
  · rw [List.getElem?_set_ne (Ne.symm hij)] at hj
    have hx' : x ∈ L := List.mem_of_getElem? hj
    have : x.1 ≠ a := fun z => by
      have e1 : (L.map (·.1))[i]? = some a := by rw [List.getElem?_map, e]; rfl
      have e2 : (L.map (·.1))[j]? = some a := by rw [List.getElem?_map, hj, ← z]; rfl
      obtain ⟨l1, q1⟩ := List.getElem?_eq_some_iff.mp e1
      obtain ⟨l2, q2⟩ := List.getElem?_eq_some_iff.mp e2
      exact hij ((List.getElem_inj h.nd).mp (q2.trans q1.symm))
    rw [upd_ne this]
    exact h.at_ x hx'
theorem ne (h : Has H L) (i j : Nat) {b : Addr} {u : HO} (e : L[i]? = some (a, o)) (e' : L[j]? = some (b, u)) (hij : i ≠ j) : a ≠ b := fun z => by
  have e1 : (L.map (·.1))[i]? = some a := by rw [List.getElem?_map, e]; rfl
  have e2 : (L.map (·.1))[j]? = some a := by rw [List.getElem?_map, e', ← z]; rfl
  obtain ⟨l1, q1⟩ := List.getElem?_eq_some_iff.mp e1
  obtain ⟨l2, q2⟩ := List.getElem?_eq_some_iff.mp e2
  exact hij ((List.getElem_inj h.nd).mp (q1.trans q2.symm))
end Has

/-! ### isinstance(x, T) -/
section
variable {X : Cx}
theorem call_isi : CallR X (.builtin "isinstance") (fun xs H Q => ∃ x T t b, xs = [x, .ty T] ∧ TyOf X.K H x t ∧ PySem.W.kitOne X.K t (.type T) = some b ∧ Q (.bl b) H) := by
  intro pins s σ H xs us Q I r h
  obtain ⟨x, T, t, b, rfl, ty, e, q⟩ := h
  obtain ⟨u1, u2, rfl, r1, r2⟩ := vals2 r
  cases (show u2 = Value.type T from r2)
  exact isinst_ok I r1 ty e fun tk => ⟨.bl b, H, I.tok _, rfl, q⟩
end
end L2
namespace L2
open PySem PySem.Spec PyProof.Rows
theorem SqL.alloc {K : PySem.W.Frag} {H : Hp} {a p : Addr} {xs : List V} {o : HO} (h : SqL K H a xs) (hp : H p = none) : SqL K (upd H p o) a xs :=
  Same.seq (fun b u e => by rw [upd_ne (ne_of_none e hp)]; exact e) h
theorem cut_take (xs : List V) (n : Int) (h0 : 0 ≤ n) : cutV xs none (some n) = xs.take n.toNat := by
  show ((xs.drop 0).take ((if n < 0 then (n + (xs.length : Int)).toNat else min n.toNat xs.length) - 0)) = _
  rw [if_neg (by omega), List.drop_zero, Nat.sub_zero]
  by_cases hl : n.toNat ≤ xs.length
  · rw [Nat.min_eq_left hl]
  · rw [Nat.min_eq_right (by omega), List.take_of_length_le (Nat.le_refl _), List.take_of_length_le (by omega)]
end L2
namespace L2
open PySem PySem.Spec PyProof.Rows
theorem sizeOk {n : Nat} (h : n ≤ 1000000) : n < sizeLine := Nat.lt_of_le_of_lt h (by decide)
end L2
namespace L2
theorem ifF {b : Bool} {A B : Prop} (e : b = false) (h : B) : if b = true then A else B := by subst e; exact iteF h
theorem ifT {b : Bool} {A B : Prop} (e : b = true) (h : A) : if b = true then A else B := by subst e; exact iteT h
/-- both ways of a test -/
theorem if2 {b : Bool} {A B : Prop} (h1 : b = true → A) (h2 : b = false → B) : if b = true then A else B := by
  cases b
  · exact iteF (h2 rfl)
  · exact iteT (h1 rfl)
/-- both ways of a decided test -/
theorem ifd {c : Prop} [Decidable c] {A B : Prop} (h1 : c → A) (h2 : ¬ c → B) : if decide c = true then A else B := by
  by_cases h : c
  · exact ifT (decide_eq_true h) (h1 h)
  · exact ifF (decide_eq_false h) (h2 h)
theorem ifdn {c : Prop} [Decidable c] {A B : Prop} (h1 : ¬ c → A) (h2 : c → B) : if (!decide c) = true then A else B := by
  by_cases h : c
  · exact ifF (by simp [h]) (h2 h)
  · exact ifT (by simp [h]) (h1 h)
end L2

set_option Elab.async false
set_option linter.all false
set_option maxRecDepth 100000
namespace L2
open PySem PySem.Spec PyProof.Rows

/-! ### a list comprehension of one clause -/
/-- the cells that a block takes along -/
def clOf (cells : List (Str × Addr)) : List (Str × NameKind) → List (Str × Addr) → List (Str × Addr)
  | [], acc => acc
  | (n, k) :: r, acc => if k == .free then clOf cells r ((n, (cells.lookup n).getD 0) :: acc) else clOf cells r acc
theorem closure_eq (scope : Scope) (env : Env) (h : ∀ y ∈ scope.names, y.2 = .free → ∃ c, env.cells.lookup y.1 = some c) : closureFor scope env = pure (clOf env.cells scope.names []) := by
  unfold closureFor
  have all : ∀ (l : List (Str × NameKind)) (acc : List (Str × Addr)), (∀ y ∈ l, y.2 = .free → ∃ c, env.cells.lookup y.1 = some c) →
      (forIn l acc fun x r => match x with
        | (name, kind) => if (kind == .free) = true then do let a ← cellOf env name; pure (ForInStep.yield ((name, a) :: r)) else pure (ForInStep.yield r)) = (pure (clOf env.cells l acc) : Sem _) := by
    intro l
    induction l with
    | nil => intro acc _; rfl
    | cons y l ih =>
      obtain ⟨n, k⟩ := y
      intro acc hl
      rw [List.forIn_cons]
      by_cases hk : (k == NameKind.free) = true
      · obtain ⟨c, hc⟩ := hl (n, k) List.mem_cons_self (by simpa using hk)
        have e : cellOf env n = pure c := by unfold cellOf; rw [hc]
        simp only [hk, if_true, e, pure_bind, clOf, hc, Option.getD_some]
        exact ih _ fun y hy => hl y (List.mem_cons_of_mem _ hy)
      · simp only [hk, if_false, pure_bind, clOf]
        exact ih _ fun y hy => hl y (List.mem_cons_of_mem _ hy)
  have := all scope.names [] h
  simp only [this, pure_bind]
theorem clOf_sub {cells : List (Str × Addr)} {x : Str} {c : Addr} : ∀ (l : List (Str × NameKind)) (acc : List (Str × Addr)), (∀ y ∈ l, y.2 = .free → ∃ c, cells.lookup y.1 = some c) →
    (∀ y d, acc.lookup y = some d → cells.lookup y = some d) → (clOf cells l acc).lookup x = some c → cells.lookup x = some c
  | [], acc, _, ha, h => ha x c h
  | (n, k) :: r, acc, hl, ha, h => by
    unfold clOf at h
    split at h
    · rename_i hk
      obtain ⟨d, hd⟩ := hl (n, k) List.mem_cons_self (by simpa using hk)
      refine clOf_sub r _ (fun y hy => hl y (List.mem_cons_of_mem _ hy)) (fun y e he => ?_) h
      rw [List.lookup_cons] at he
      split at he
      · rename_i hyn
        have : y = n := by simpa using hyn
        subst this
        cases he
        rw [hd]; rfl
      · exact ha y e he
    · exact clOf_sub r _ (fun y hy => hl y (List.mem_cons_of_mem _ hy)) ha h
theorem clOf_acc {cells : List (Str × Addr)} {x : Str} : ∀ (l : List (Str × NameKind)) (acc : List (Str × Addr)), (∃ c, acc.lookup x = some c) → ∃ c, (clOf cells l acc).lookup x = some c
  | [], acc, h => h
  | (n, k) :: r, acc, h => by
    unfold clOf
    split
    · refine clOf_acc r _ ?_
      rw [List.lookup_cons]
      split
      · exact ⟨_, rfl⟩
      · exact h
    · exact clOf_acc r _ h
theorem clOf_has {cells : List (Str × Addr)} {x : Str} : ∀ (l : List (Str × NameKind)) (acc : List (Str × Addr)), (x, NameKind.free) ∈ l → ∃ c, (clOf cells l acc).lookup x = some c
  | [], _, h => nomatch h
  | (n, k) :: r, acc, h => by
    unfold clOf
    rcases List.mem_cons.mp h with e | h
    · cases e
      rw [if_pos (by rfl)]
      exact clOf_acc r _ ⟨(cells.lookup x).getD 0, by rw [List.lookup_cons]; simp⟩
    · split
      · exact clOf_has r _ h
      · exact clOf_has r _ h
theorem relabel_cf {env : Env} {x : Str} : ∀ (l : List (Str × NameKind)), (∀ y ∈ l, y.2 ≠ .cell) →
    ((l.map fun (n, k) => if (k == NameKind.free && env.scope.kind == .function && env.kindOf n == some .cell) then (n, NameKind.cell) else (n, k)).lookup x = some .cell ∨
     (l.map fun (n, k) => if (k == NameKind.free && env.scope.kind == .function && env.kindOf n == some .cell) then (n, NameKind.cell) else (n, k)).lookup x = some .free) → (x, NameKind.free) ∈ l
  | [], _, h => by simp at h
  | (n, k) :: r, hl, h => by
    have ih := relabel_cf (env := env) (x := x) r fun y hy => hl y (List.mem_cons_of_mem _ hy)
    by_cases hc : (k == NameKind.free && env.scope.kind == .function && env.kindOf n == some .cell) = true
    · have hkf : k = .free := by
        rw [Bool.and_eq_true, Bool.and_eq_true] at hc
        simpa using hc.1.1
      subst hkf
      simp only [List.map_cons, hc, if_true, List.lookup_cons] at h
      cases hx : x == n with
      | true =>
        have : x = n := by simpa using hx
        subst this
        exact List.mem_cons_self
      | false =>
        simp only [hx] at h
        exact List.mem_cons_of_mem _ (ih h)
    · simp only [List.map_cons, if_neg hc, List.lookup_cons] at h
      cases hx : x == n with
      | true =>
        have : x = n := by simpa using hx
        subst this
        simp only [hx] at h
        rcases h with h | h
        · cases h
          exact absurd rfl (hl (x, .cell) List.mem_cons_self)
        · cases h
          exact List.mem_cons_self
      | false =>
        simp only [hx] at h
        exact List.mem_cons_of_mem _ (ih h)

/-- the tests of a clause -/
def PTs (X : Cx) (ifs : List Expr) (t : TT) : Prop :=
  ∀ (pins : List (Addr × Obj)) (s : Shared) (σ : St) (H : Hp) (Q : Bool → Hp → Prop), Inv X pins σ H s → t σ H Q →
    wpAny (model X.prog X.w) X.A (forIn ifs true fun c r => if r = true then do let ok ← isTrue c X.env (eval c X.env); pure (ForInStep.yield ok) else pure (ForInStep.yield r)) (TP X pins σ Q) X.xe s
def tTrue : TT := fun _ H Q => Q true H
theorem pts_nil {X : Cx} : PTs X [] tTrue := fun _ _ _ H _ I h => wpAny_tests_nil ⟨H, I, h⟩
theorem compLoop_go {prog : Program} {w : World} {A : Around} {R : Result → Shared → Prop} {s : Shared} {elt target iter : Expr} {ifs : List Expr} {scope : Scope} {pos : Pos} {it acc : Value} {env : Env} (I : Nat → Shared → Prop)
    (turn : ∀ n s, I n s → wpAny (model prog w) A (pyNext it) (fun r s₁ => match r with
      | none => R (.ok .next) s₁
      | some v => wpAny (model prog w) A (letOwnedTupleGo target it v) (fun _ s₀ => wpAny (model prog w) A (assign target env v) (fun _ s₂ =>
          wpAny (model prog w) A (forIn ifs true fun c r => if r = true then do let ok ← isTrue c env (eval c env); pure (ForInStep.yield ok) else pure (ForInStep.yield r)) (fun ok s₃ =>
            if ok = true then wpAny (model prog w) A (eval elt env) (fun x s₄ =>
              wpAny (model prog w) A (call (.builtin "list.append") [acc, x]) (fun _ s₅ => ∃ m, m < n ∧ I m s₅) (fun _ _ => False) s₄) (fun _ _ => False) s₃
            else ∃ m, m < n ∧ I m s₃) (fun _ _ => False) s₂) (fun _ _ => False) s₀) (fun _ _ => False) s₁) (fun _ _ => False) s)
    (n : Nat) (h : I n s) :
    codeAny (model prog w) A (.compLoop (.ListComp elt [⟨target, iter, ifs, 0⟩] scope pos) 0 it acc env) R s := by
  have no : ∀ {α : Type} {t : Sem α} {Q : α → Shared → Prop} {s : Shared} {E : Value → Shared → Prop}, wpAny (model prog w) A t Q (fun _ _ => False) s → wpAny (model prog w) A t Q E s := fun h => wpAny_mono h (fun _ _ q => q) fun _ _ z => False.elim z
  refine codeAny_loop rfl I (fun n s hI => ?_) n h
  show wpAny _ A ((compTurn (.ListComp elt [⟨target, iter, ifs, 0⟩] scope pos) 0 it acc env).onRaise (fun x => do noteFrame x env; theTreesLotGoes x)) _ _ s
  refine wpAny_noted ?_
  rw [compTurn_list]
  refine wpAny_bind (wpAny_standAt (wpAny_bind (wpAny_mono (no (turn n s hI)) (fun r s₁ h₁ => ?_) fun _ _ h' => h')))
  cases r with
  | none => exact wpAny_pure h₁
  | some v =>
    refine wpAny_bind (wpAny_mono (no h₁) (fun _ s₀ h₀ => ?_) fun _ _ h' => h')
    refine wpAny_bind (wpAny_mono (no h₀) (fun _ s₂ h₂ => wpAny_bind (wpAny_mono (no h₂) (fun ok s₃ h₃ => ?_) fun _ _ h' => h')) fun _ _ h' => h')
    cases ok with
    | false => exact wpAny_pure ⟨rfl, h₃⟩
    | true =>
      exact wpAny_bind (wpAny_bind (wpAny_mono (no h₃) (fun x s₄ h₄ => wpAny_bind (wpAny_mono (no h₄) (fun _ s₅ h₅ => wpAny_pure (wpAny_pure ⟨rfl, h₅⟩)) fun _ _ h' => h')) fun _ _ h' => h'))
end L2

set_option Elab.async false
set_option linter.all false
set_option maxRecDepth 100000
namespace L2
open PySem PySem.Spec PyProof.Rows

/-- the block of a comprehension within X -/
abbrev blk (X : Cx) (scope : Scope) (N' : List Str) (C : Addr) (s₀ : Shared) (H₀ : Hp) (fp : List Addr) (pins : List (Addr × Obj)) : Cx :=
  { X with N := N', s₀ := s₀, H₀ := H₀, env := compEnvC scope (clOf X.env.cells scope.names []) C X.env, outer := X.stack, stack := X.stack, ex := fp, fn := fun _ => false, pn := X.pn ++ pins, xe := fun _ _ => False }

/-- W: turn, measure, the items so far, the heap -/
def tLC (wi : TI) (k : Nat) (g : TG) (tc : TT) (te : TE) : TE := fun σ H Q => wi σ H fun J H1 => ∀ D, H1 D = none → ∃ W : Nat → Nat → List V → Hp → Prop, (∃ m, W 0 m [] (upd H1 D (.lst []))) ∧ ∀ i m ys H, W i m ys H → H D = some (.lst ys) ∧
  ((J.stop i H ∧ Q (.ref D) H) ∨ (J.go i H ∧ ∀ x H', J.yld i H x H' → g x (List.replicate k none ++ σ) H' fun σ2 H2 => σ2.drop k = σ ∧ tc σ2 H2 fun b H3 =>
    if b = true then te σ2 H3 fun y H4 => ys.length < sizeLine ∧ H4 D = some (.lst ys) ∧ ∃ m', m' < m ∧ W (i + 1) m' (ys ++ [y]) (upd H4 D (.lst (ys ++ [y]))) else ∃ m', m' < m ∧ W (i + 1) m' ys H3))

section
variable {X : Cx}
theorem pe_lc {elt tg iter : Expr} {ifs : List Expr} {scope : Scope} {pos : Pos} {wi : TI} {k : Nat} {g : TG} {tc : TT} {te : TE} (N' : List Str) (hc : X.calm = true) (hi : PI X tg iter wi)
    (hg : ∀ C s₀ H₀ fp pins, PG (blk X scope N' C s₀ H₀ fp pins) tg g) (ht : ∀ C s₀ H₀ fp pins, PTs (blk X scope N' C s₀ H₀ fp pins) ifs tc) (he : ∀ C s₀ H₀ fp pins, PE (blk X scope N' C s₀ H₀ fp pins) elt te)
    (hk : scope.kind = .function) (hcell : ∀ y ∈ scope.names, y.2 ≠ .cell) (hnames : ∀ y ∈ scope.names, y.2 = .local → scope.names.lookup y.1 = some .local)
    {esc : Scope} (hsc : X.env.scope = esc) (hfr' : ∀ y ∈ scope.names, y.2 = .free → esc.names.lookup y.1 = some .cell ∨ esc.names.lookup y.1 = some .free)
    (hlen : N'.length = k + X.N.length)
    (hN : ∀ (i : Nat) (x : Str), N'[i + k]? = some x → (x, NameKind.free) ∈ scope.names → X.N[i]? = some x)
    (hN2 : ∀ x ∈ N'.drop k, scope.names.lookup x ≠ some .local)
    (hs : ∀ x, foldedSetIterable iter X.env x = pure x := by intro _; rfl) :
    PE X (.ListComp elt [⟨tg, iter, ifs, 0⟩] scope pos) (tLC wi k g tc te) := by
  intro pins s σ H Q I h
  have hfr : ∀ y ∈ scope.names, y.2 = .free → X.env.kindOf y.1 = some .cell ∨ X.env.kindOf y.1 = some .free := fun y hy hf => by
    show X.env.scope.names.lookup y.1 = _ ∨ X.env.scope.names.lookup y.1 = _
    rw [hsc]; exact hfr' y hy hf
  have hcells : ∀ y ∈ scope.names, y.2 = .free → ∃ c, X.env.cells.lookup y.1 = some c := fun y hy hf => I.ok.has y.1 (hfr y hy hf)
  have hclos := closure_eq scope X.env hcells
  rw [eval_ListComp]
  refine wpAny_comprehension_free (use := none) rfl hs hclos hk hnames (thn (hi pins s σ H _ I h) fun v s1 h1 => thn h1 fun itv s2 h2 => ?_)
  obtain ⟨it, fp, tn, J, H2, e, I2, T, st2, f2, R⟩ := h2
  subst e
  refine wpAny_newObj_type ?_
  have hD : H2 s2.heap.objs.size = none := I2.hok.fresh (Nat.le_refl _)
  obtain ⟨W, ⟨m0, w0⟩, turn⟩ := R _ hD
  generalize eD : s2.heap.objs.size = D at *
  have I3 : Inv X pins σ (upd H2 D (.lst [])) { s2 with heap := s2.heap.push { cls := .type "list", dict := none, data := .seq ([] : List Value).toArray } } :=
    I2.laid (a := D) (o := .lst []) (t' := s2.toks) (fun b u e => Heap.get?_push_of_some _ e) (Nat.le_of_eq eD) ⟨Nat.zero_le _, [], 0, .nil, by rw [← eD]; exact Heap.get?_push_size _ rfl⟩
  generalize e3 : ({ s2 with heap := s2.heap.push { cls := .type "list", dict := none, data := .seq ([] : List Value).toArray } } : Shared) = s3 at *
  have st3 : tn 0 s3.heap := T.keep _ _ _ st2 fun b _ o e => by rw [← e3]; exact Heap.get?_push_of_some _ e
  have lt2 : ∀ b ∈ fp, b < s2.heap.objs.size := fun b hb => by
    obtain ⟨o, e, _⟩ := T.obj _ _ st2 b hb
    exact Heap.lt_size e
  have neD : ∀ b ∈ fp, b ≠ D := fun b hb => by
    have := lt2 b hb
    rw [eD] at this
    exact Nat.ne_of_lt this
  have f3 : ∀ b ∈ fp, FpOk X pins (upd H2 D (.lst [])) b := fun b hb => ⟨by rw [upd_ne (neD b hb)]; exact (f2 b hb).1, (f2 b hb).2⟩
  generalize upd H2 D (.lst []) = H3 at *
  refine wpAny_newFunctionEnv hcell (by intro y hy; simp at hy) (fun h₁ hns₁ hsb₁ => ?_) hk
  try dsimp only at hns₁ hsb₁ ⊢
  have lt3 : ∀ b ∈ fp, b < s3.heap.objs.size := fun b hb => by
    obtain ⟨o, e, _⟩ := T.obj _ _ st3 b hb
    exact Heap.lt_size e
  generalize eC : s3.heap.objs.size = C at *
  have kp : ∀ b o, s3.heap.get? b = some o → h₁.get? b = some o := fun b o e => (hsb₁.2 b (by rw [← eC]; exact Nat.ne_of_lt (Heap.lt_size e))).trans (Heap.get?_push_of_some _ e)
  have subC : ∀ x c, (clOf X.env.cells scope.names []).lookup x = some c → X.env.cells.lookup x = some c := fun x c e => clOf_sub scope.names [] hcells (fun y d z => by simp at z) e
  have hCnone : H3 C = none := I3.hok.fresh (Nat.le_of_eq eC)
  have ok' : (blk X scope N' C s3 H3 fp pins).Ok := {
    mod := I3.ok.mod
    kind := hk
    glob := I3.ok.glob
    blt := I3.ok.blt
    above := Nat.le_of_eq eC
    inj := fun x y c a b => I3.ok.inj x y c (subC x c a) (subC y c b)
    has := fun x hx => clOf_has scope.names [] (relabel_cf scope.names hcell hx)
    cab := fun x c a _ => absurd a Bool.false_ne_true
    hd := I3.ok.hd
    frames := I3.ok.frames
    stk := .inl rfl
    exf := fun b hb => ⟨by have := lt3 b hb; exact Nat.ne_of_lt this, fun x c e => (f3 b hb).2.2.2.2.1 x c (subC x c e)⟩
    bs := I3.bs
    bsz := Nat.le_trans I3.ok.bsz I3.sz
    noex := fun b o e hb => by
      rcases (f3 b hb).2.2.2.1 with z | z
      · exact I3.ok.noex b o e z
      · exact absurd (Nat.lt_of_lt_of_le (Heap.lt_size e) (Nat.le_trans I3.ok.bsz z)) (Nat.lt_irrefl _)
    exfs := fun b hb z => by
      rcases List.mem_cons.mp (I3.stkSub b z) with e | e
      · exact (f3 b hb).2.1 e
      · exact (f3 b hb).2.2.1 e
    funs := I3.stack
    frf := I3.stkFree }
  have s4os : ({ s3 with heap := h₁, toks := s3.toks + ([] : List (Str × Value)).length } : Shared).os = s3.os := rfl
  generalize e4 : ({ s3 with heap := h₁, toks := s3.toks + ([] : List (Str × Value)).length } : Shared) = s4 at *
  have h4 : s4.heap = h₁ := by rw [← e4]
  have J4 : Inv (blk X scope N' C s3 H3 fp pins) [] (List.replicate k none ++ σ) H3 s4 := by
    refine ⟨ok', s4os, by rw [← e4]; exact I3.bare, ?_, ⟨_, by rw [h4]; exact hns₁, fun i x v e1 e2 e5 => ?_⟩, fun x c e => ?_, hCnone, fun x c e => I3.freeC x c (subC x c e), fun p hp => ?_, ?_, ?_⟩
    · rw [h4]; exact Un.kept kp
    · have hik : ¬ i < k := fun hlt => by
        rw [List.getElem?_append_left (by rw [List.length_replicate]; exact hlt), List.getElem?_replicate] at e2
        split at e2 <;> cases e2
      obtain ⟨j, rfl⟩ : ∃ j, i = j + k := ⟨i - k, by omega⟩
      have e2' : σ[j]? = some (some v) := by
        rw [List.getElem?_append_right (by rw [List.length_replicate]; omega), List.length_replicate] at e2
        have : j + k - k = j := by omega
        rw [this] at e2; exact e2
      have nl : (relabel scope X.env).names.lookup x ≠ some .local := fun z => by
        have q : ∀ (l : List (Str × NameKind)), (l.map fun (n, k) => if (k == NameKind.free && X.env.scope.kind == .function && X.env.kindOf n == some .cell) then (n, NameKind.cell) else (n, k)).lookup x = some .local → l.lookup x = some .local := by
          intro l
          induction l with
          | nil => intro z; simp at z
          | cons y l ih =>
            obtain ⟨n, kk⟩ := y
            intro z
            by_cases hcc : (kk == NameKind.free && X.env.scope.kind == .function && X.env.kindOf n == some .cell) = true
            · simp only [List.map_cons, if_pos hcc, List.lookup_cons] at z ⊢
              cases hx : x == n with
              | true => simp only [hx] at z; cases z
              | false => simp only [hx] at z ⊢; exact ih z
            · simp only [List.map_cons, if_neg hcc, List.lookup_cons] at z ⊢
              cases hx : x == n with
              | true => simp only [hx] at z ⊢; exact z
              | false => simp only [hx] at z ⊢; exact ih z
        exact hN2 x (List.mem_of_getElem? (i := j) (by rw [List.getElem?_drop, Nat.add_comm]; exact e1)) (q _ z)
      have hcf : (relabel scope X.env).names.lookup x = some .cell ∨ (relabel scope X.env).names.lookup x = some .free := by
        rcases e5 with z | z | z
        · exact absurd z nl
        · exact .inl z
        · exact .inr z
      have hmem : (x, NameKind.free) ∈ scope.names := relabel_cf scope.names hcell hcf
      have hx := hN j x e1 hmem
      obtain ⟨mo, _, hl⟩ := I3.loc
      have hkx := hfr (x, .free) hmem rfl
      obtain ⟨u, ru, lk⟩ := hl j x v hx e2' (by
        rcases hkx with z | z
        · exact .inr (.inl z)
        · exact .inr (.inr z))
      refine ⟨u, ru, .inr ⟨hcf, ?_⟩⟩
      rcases lk with ⟨z, _⟩ | ⟨_, c, hc1, hc2⟩
      · rcases hkx with q | q
        · rw [q] at z; cases z
        · rw [q] at z; cases z
      · obtain ⟨c', hc'⟩ := clOf_has (cells := X.env.cells) scope.names [] hmem
        have := subC x c' hc'
        rw [hc1] at this; cases this
        obtain ⟨oc, h5, h6⟩ := hc2
        exact ⟨c, hc', oc, by rw [h4]; exact kp _ _ h5, h6⟩
    · obtain ⟨v, oc, h5, h6⟩ := I3.cell x c (subC x c e)
      exact ⟨v, oc, by rw [h4]; exact kp _ _ h5, h6⟩
    · have hp' : p ∈ X.pn ++ pins := by simpa using hp
      obtain ⟨a1, a2, a3, a4, a5⟩ := I3.pin p hp'
      refine ⟨by rw [h4]; exact kp _ _ a1, a2, ?_, fun z => ?_, a5⟩
      · have := Heap.lt_size a1
        rw [eC] at this
        exact Nat.ne_of_lt this
      · rcases List.mem_cons.mp (I3.stkSub p.1 z) with q | q
        · exact a3 q
        · exact a4 q
    · rw [h4]; exact I3.hok.kept kp
    · rw [List.length_append, List.length_replicate, I3.len]; exact hlen.symm
  have stat : ∀ {H' : Hp}, (∀ b ∈ fp, H' b = none) → ∀ b ∈ fp, FpOk (blk X scope N' C s3 H3 fp pins) [] H' b := fun hn b hb =>
    ⟨hn b hb, (ok'.exf b hb).1, ok'.exfs b hb, .inl hb, fun x c e => (ok'.exf b hb).2 x c e, fun p hp => (f3 b hb).2.2.2.2.2 p (by simpa using hp)⟩
  have fr4 : ∀ b ∈ fp, H3 b = none := fun b hb => (f3 b hb).1
  have st4 : tn 0 s4.heap := T.keep _ _ _ st3 fun b _ o e => by rw [h4]; exact kp _ _ e
  -- the loop
  have loop : codeAny (model X.prog X.w) X.A (.compLoop (.ListComp elt [⟨tg, iter, ifs, 0⟩] scope pos) 0 (.ref it) (.ref D) (compEnvC scope (clOf X.env.cells scope.names []) C X.env))
      (compPost (model X.prog X.w) X.A X.xe none (EP X pins σ Q) (.ref D) C) s4 := by
    refine compLoop_go (fun n s' => ∃ i ys H', Inv (blk X scope N' C s3 H3 fp pins) [] (List.replicate k none ++ σ) H' s' ∧ tn i s'.heap ∧ (∀ b ∈ fp, H' b = none) ∧ W i n ys H') ?_ m0 ⟨0, [], H3, J4, st4, fr4, w0⟩
    rintro n s5 ⟨i, ys, H5, I5, st5, fr5, w5⟩
    obtain ⟨hDl, stp⟩ := turn i n ys H5 w5
    rcases stp with ⟨stop, qn⟩ | ⟨go, step⟩
    · refine thn (T.done (blk X scope N' C s3 H3 fp pins) rfl rfl rfl hc i [] s5 _ H5 (fun _ _ => False) I5 (stat fr5) st5 stop) fun r s6 ⟨hr, I6⟩ => ?_
      subst hr
      obtain ⟨m6, ns6, _⟩ := id I6.loc
      refine ⟨m6, ns6, fun h' hsb => ⟨.ref D, H5, ?_, rfl, qn⟩⟩
      have hC5 : H5 C = none := I6.free
      have un6 : Un (frs X.stack) fp H3 H5 s3.heap s6.heap := I6.base
      have neC : ∀ b o, s3.heap.get? b = some o → b ≠ C := fun b o e => by
        have := Heap.lt_size e
        rw [eC] at this
        exact Nat.ne_of_lt this
      refine I3.call' (s' := { s6 with heap := h' }) (ch := fp) I6.os ⟨fun b o e a1 a2 a3 => ?_, fun b o e a1 a2 a3 => ?_, un6.free, fun b o e a3 => ?_, un6.tups, un6.frzs, un6.tbls⟩ ?_ I6.bare (fun b hb => ?_)
      · exact (hsb.2 b (neC b o e)).trans (un6.keep b o e a1 a2 a3)
      · obtain ⟨sl, z⟩ := un6.slot b o e a1 a2 a3
        exact ⟨sl, (hsb.2 b (neC b o e)).trans z⟩
      · obtain ⟨o', z⟩ := un6.there b o e a3
        exact ⟨o', (hsb.2 b (neC b o e)).trans z⟩
      · intro b u e
        refine (I6.hok b u e).stay (fun c w' hcc q => (hsb.2 c ?_).trans q) (fun _ q => q) fun _ _ q => q
        rintro rfl
        rcases hcc with z | z
        · rw [z, e] at hC5; cases hC5
        · rw [z] at hC5; cases hC5
      · exact ⟨(f3 b hb).2.2.2.1, (f3 b hb).2.1, (f3 b hb).2.2.2.2.1, (f3 b hb).2.2.2.2.2⟩
    · refine thn (T.item (blk X scope N' C s3 H3 fp pins) rfl rfl rfl hc i [] s5 _ H5 (fun _ _ => False) I5 (stat fr5) st5 go) fun r s6 ⟨u, hr, h6⟩ => ?_
      subst hr
      refine thn h6 fun _ s7 ⟨x, H7, I7, r7, y7, st7, fr7⟩ => ?_
      have I7' := I7.pinned (stat fr7) (T.obj _ _ st7)
      refine thn (hg C s3 H3 fp pins _ s7 _ H7 x u _ I7' r7 (step x H7 y7)) fun _ s8 ⟨σ8, H8, I8, d8, q8⟩ => ?_
      refine thn (ht C s3 H3 fp pins _ s8 σ8 H8 _ I8 q8) fun b s9 ⟨H9, I9, q9⟩ => ?_
      have kz : ∀ (j : Nat) v, (List.replicate k none ++ σ)[j]? = some (some v) → σ8[j]? = some (some v) := fun j v e => by
        have hik : ¬ j < k := fun hlt => by
          rw [List.getElem?_append_left (by rw [List.length_replicate]; exact hlt), List.getElem?_replicate] at e
          split at e <;> cases e
        rw [List.getElem?_append_right (by rw [List.length_replicate]; omega), List.length_replicate, ← d8, List.getElem?_drop] at e
        have : k + (j - k) = j := by omega
        rw [this] at e; exact e
      have again : ∀ {Hz : Hp} {sz : Shared} {zs : List V} {m' : Nat}, Inv (blk X scope N' C s3 H3 fp pins) ([] ++ pinsAt fp s7.heap) σ8 Hz sz → m' < n → W (i + 1) m' zs Hz →
          ∃ m, m < n ∧ ∃ i ys H', Inv (blk X scope N' C s3 H3 fp pins) [] (List.replicate k none ++ σ) H' sz ∧ tn i sz.heap ∧ (∀ b ∈ fp, H' b = none) ∧ W i m ys H' := fun {Hz sz zs m'} Iz hm wz => by
        refine ⟨m', hm, i + 1, zs, Hz, (Iz.unpinned).weak ?_ kz, T.keep _ _ _ st7 fun b hb o e => (Iz.pin (b, o) (List.mem_append_right _ (List.mem_append_right _ (mem_pinsAt hb e)))).1, fun b hb => ?_, wz⟩
        · rw [Iz.len]; exact I5.len
        · obtain ⟨o, e, d⟩ := T.obj _ _ st7 b hb
          exact (Iz.pin (b, o) (List.mem_append_right _ (List.mem_append_right _ (mem_pinsAt hb e)))).2.1
      cases b with
      | false =>
        obtain ⟨m', hm, w9⟩ := (show ∃ m', m' < n ∧ W (i + 1) m' ys H9 by simpa using q9)
        rw [if_neg Bool.false_ne_true]
        exact again I9 hm w9
      | true =>
        rw [if_pos rfl] at q9 ⊢
        refine thn (he C s3 H3 fp pins _ s9 σ8 H9 _ I9 q9) fun u9 s10 ⟨y, H10, I10, r10, hz, hD10, m', hm, w10⟩ => ?_
        refine thn (mt_append (X := blk X scope N' C s3 H3 fp pins) _ s10 σ8 H10 (.ref D) [y] (.ref D) [u9] (fun _ H' => H' = upd H10 D (.lst (ys ++ [y]))) I10 rfl (.cons r10 .nil) ⟨D, ys, y, rfl, rfl, hD10, hz, rfl⟩) fun _ s11 ⟨_, H11, I11, _, e11⟩ => ?_
        subst e11
        exact again I11 hm w10
  exact codeAny_compStart_list loop (T.self _ 0 _ _ _ st4 loop)
end
end L2

set_option Elab.async false
set_option linter.all false
set_option maxRecDepth 100000
namespace L2
open PySem PySem.Spec PyProof.Rows

section
variable {X : Cx} {pins : List (Addr × Obj)} {σ : St} {H : Hp} {s : Shared} {h' : Heap}
/-- the iterator's objects have turned -/
theorem Inv.turnedL {t' : Nat} {fp : List Addr} (I : Inv X pins σ H s) (k : ∀ b o, b ∉ fp → s.heap.get? b = some o → h'.get? b = some o) (hf : ∀ b ∈ fp, FpOk X pins H b) : Inv X pins σ H { s with heap := h', toks := t' } := by
  have nit : ∀ b u, H b = some u → b ∉ fp := fun b u e z => by rw [(hf b z).1] at e; cases e
  refine I.step (g' := s.gens) (d' := s.drawn) (ch := fp) (fun b hb => ⟨(hf b hb).2.2.2.1, (hf b hb).2.1, (hf b hb).2.2.2.2.1, (hf b hb).2.2.2.2.2⟩) (fun b o _ _ hc e _ => k b o hc e) (fun b o _ _ hc e _ => ⟨o.slots, k b o hc e⟩) (fun _ _ _ _ n => n)
    (fun b o hc e => ⟨o, k b o hc e⟩) (fun _ _ e => e) (fun _ _ _ e => e) (fun b ps e => ⟨#[], by rw [e]; simp⟩) (fun m hm => ?_) (fun b u e => ?_) I.bare
  · obtain ⟨o, es, ep, ho, r⟩ := hm
    exact ⟨o, es, ep, k _ o (fun z => (hf _ z).2.1 rfl) ho, r⟩
  · refine (I.hok b u e).stay (fun c v hc q => k c v ?_ q) (fun _ q => q) fun _ _ q => q
    rcases hc with z | z
    · rw [z]; exact nit b u e
    · exact nit c _ z
/-- a new object, made already, is tracked -/
theorem Inv.track {p : Addr} {o : HO} (I : Inv X pins σ H s) (hp : X.s₀.heap.objs.size ≤ p) (hL : p ≠ X.env.locals) (hc : ∀ x c, X.env.cells.lookup x = some c → c ≠ p) (hpin : ∀ q ∈ X.pn ++ pins, q.1 ≠ p) (hn : H p = none)
    (new : ObjOk X.prog X.w (upd H p o) s.heap p o) : Inv X pins σ (upd H p o) s := by
  refine ⟨I.ok, I.os, I.bare, ⟨I.base.keep, I.base.slot, fun b ob e n hx => ?_, I.base.there, fun b xs e => ?_, fun b ob u e => ?_, fun b ps e => ?_⟩, I.loc, I.cell, by rw [upd_ne (Ne.symm hL)]; exact I.free, fun x c e => by rw [upd_ne (hc x c e)]; exact I.freeC x c e, fun q hq => ?_, fun b u e => ?_, I.len⟩
  · rw [upd_ne (Nat.ne_of_lt (Nat.lt_of_lt_of_le (Heap.lt_size e) hp))]; exact I.base.free b ob e n hx
  · have := I.base.tups b xs e
    rw [upd_ne (ne_of_none this hn)]; exact this
  · have := I.base.frzs b ob u e
    rw [upd_ne (ne_of_none this hn)]; exact this
  · obtain ⟨more, e2⟩ := I.base.tbls b ps e
    exact ⟨more, by rw [upd_ne (ne_of_none e2 hn)]; exact e2⟩
  · obtain ⟨a1, a2, a3, a4, a5⟩ := I.pin q hq
    exact ⟨a1, by rw [upd_ne (hpin q hq)]; exact a2, a3, a4, a5⟩
  · by_cases hb : b = p
    · subst hb; rw [upd_same] at e; cases e; exact new
    · rw [upd_ne hb] at e
      exact (I.hok b u e).stay (fun _ _ _ q => q) (fun c q => by rw [upd_ne (ne_of_none q hn)]; exact q) fun c xs q => by rw [upd_ne (ne_of_none q hn)]; exact q
end

/-- zip of the lists at a and b: a new tuple each turn -/
def Itz (K : PySem.W.Frag) (a b : Addr) : It :=
  ⟨fun i H => ∃ xs x ys y, SqL K H a xs ∧ xs[i]? = some x ∧ SqL K H b ys ∧ ys[i]? = some y,
   fun i H v H' => ∃ p x y, v = .ref p ∧ H p = none ∧ H' = upd H p (.tup [x, y]) ∧ (∀ xs, SqL K H a xs → xs[i]? = some x) ∧ ∀ ys, SqL K H b ys → ys[i]? = some y,
   fun i H => ∃ xs ys, SqL K H a xs ∧ SqL K H b ys ∧ (xs.length ≤ i ∨ ys.length ≤ i)⟩
theorem turn_zip {P : Program} {w : World} {K : PySem.W.Frag} {es : List Expr} {x1} {pos : Pos} (a b z TI TO i1 i2 : Addr) : Turn P w K (.Tuple es x1 pos) (Itz K a b) [z, TI, TO, i1, i2] z
    (fun i h => IsZip h z TI TO .none ∧ IsPair h TI (.ref i1) (.ref i2) ∧ (∃ u v, IsPair h TO u v) ∧ h.IsListIter i1 a i ∧ h.IsListIter i2 b i ∧ TI ≠ TO ∧ i1 ≠ i2) where
  mem := by simp
  obj := fun i h ⟨hz, hTI, ⟨u, v, hTO⟩, h1, h2, _⟩ c hc => by
    simp only [List.mem_cons, List.not_mem_nil, or_false] at hc
    rcases hc with rfl | rfl | rfl | rfl | rfl
    · exact ⟨_, hz, fun v q => by cases (show Data.fields _ = Data.cell v from q)⟩
    · exact ⟨_, hTI, fun v q => by cases (show Data.seq _ _ = Data.cell v from q)⟩
    · exact ⟨_, hTO, fun v q => by cases (show Data.seq _ _ = Data.cell v from q)⟩
    · obtain ⟨o, e, _, d⟩ := h1
      exact ⟨o, e, fun v q => by rw [d] at q; cases q⟩
    · obtain ⟨o, e, _, d⟩ := h2
      exact ⟨o, e, fun v q => by rw [d] at q; cases q⟩
  keep := fun i h h' ⟨hz, hTI, ⟨u, v, hTO⟩, h1, h2, n1, n2⟩ k => ⟨k z (by simp) _ hz, k TI (by simp) _ hTI, ⟨u, v, k TO (by simp) _ hTO⟩, h1.at fun o e => k i1 (by simp) o e, h2.at fun o e => k i2 (by simp) o e, n1, n2⟩
  item := by
    intro X hP hw hK hc i pins s σ H E I hf ⟨hz, hTI, ⟨u, v, hTO⟩, h1, h2, n1, n2⟩ hg
    subst hP hw hK
    obtain ⟨xs, x, ys, y, hqa, hx, hqb, hy⟩ := hg
    obtain ⟨its, rv, p, hsz⟩ := I.list hqa
    obtain ⟨jts, rw', p', hsz'⟩ := I.list hqb
    obtain ⟨ux, hux, rux⟩ := rv.get hx
    obtain ⟨uy, huy, ruy⟩ := rw'.get hy
    have D : ZipApart z TI TO i1 i2 a b := by
      obtain ⟨oa, ea, ca, _, _⟩ := p.isList
      obtain ⟨ob, eb, cb, _, _⟩ := p'.isList
      obtain ⟨o1, e1, c1, _⟩ := h1
      obtain ⟨o2, e2, c2, _⟩ := h2
      have dz : ∀ {c : Addr} {o : Obj} {T : String}, s.heap.get? c = some o → o.cls = .type T → T ≠ "zip" → c ≠ z := fun e q n r => by
        rw [r, hz] at e; cases e; cases q; exact n rfl
      have dT : ∀ {c d : Addr} {o q : Obj} {T U : String}, s.heap.get? c = some o → o.cls = .type T → s.heap.get? d = some q → q.cls = .type U → T ≠ U → c ≠ d := fun e1 c1 e2 c2 n r => by
        subst r; rw [e1] at e2; cases e2; rw [c1] at c2; cases c2; exact n rfl
      exact ⟨dz hTI rfl (by decide), dz hTO rfl (by decide), dz e1 c1 (by decide), dz e2 c2 (by decide), n1, dT hTI rfl e1 c1 (by decide), dT hTI rfl e2 c2 (by decide), dT hTO rfl e1 c1 (by decide), dT hTO rfl e2 c2 (by decide), n2,
        dz ea ca (by decide), dT ea ca hTO rfl (by decide), dT ea ca e1 c1 (by decide), dT ea ca e2 c2 (by decide), dz eb cb (by decide), dT eb cb hTO rfl (by decide), dT eb cb e1 c1 (by decide), dT eb cb e2 c2 (by decide)⟩
    refine wpAny_pyNext_zip_item D hz hTI hTO h1 h2 p.isList p'.isList (x := ux) (y := uy) (by simpa using hux) (by simpa using huy) fun h' a1 a2 a3 a4 a5 a6 hk => ?_
    refine ⟨_, rfl, ?_⟩
    refine wpAny_letOwnedTupleGo_zip (s := { s with heap := h' }) a1 fun h2' hz' hs' => ?_
    have lt : ∀ b ∈ [z, TI, TO, i1, i2], b < s.heap.objs.size := fun c hcm => by
      simp only [List.mem_cons, List.not_mem_nil, or_false] at hcm
      rcases hcm with rfl | rfl | rfl | rfl | rfl
      · exact Heap.lt_size hz
      · exact Heap.lt_size hTI
      · exact Heap.lt_size hTO
      · obtain ⟨o, e, _⟩ := h1; exact Heap.lt_size e
      · obtain ⟨o, e, _⟩ := h2; exact Heap.lt_size e
    have hTI2 : IsPair h2' TI (.ref i1) (.ref i2) := hs'.extBut _ _ D.TIz (hk _ _ D.TIz D.TITO D.TIi1 D.TIi2 hTI)
    have hTO2 : IsPair h2' TO ux uy := hs'.extBut _ _ D.TOz a2
    have h12 : h2'.IsListIter i1 a (i + 1) := a3.extBut hs'.extBut D.i1z
    have h22 : h2'.IsListIter i2 b (i + 1) := a4.extBut hs'.extBut D.i2z
    have pz : s.heap.objs.size ≠ z := Nat.ne_of_gt (Heap.lt_size hz)
    have hp2 : IsPair h2' s.heap.objs.size ux uy := hs'.extBut _ _ pz a5
    have kk : ∀ c o, c ∉ [z, TI, TO, i1, i2] → s.heap.get? c = some o → h2'.get? c = some o := fun c o hcm e => by
      simp only [List.mem_cons, List.not_mem_nil, or_false, not_or] at hcm
      exact hs'.extBut _ _ hcm.1 (hk c o hcm.1 hcm.2.2.1 hcm.2.2.2.1 hcm.2.2.2.2 e)
    have I1 : Inv X pins σ H { s with heap := h2', toks := s.toks } := I.turnedL kk hf
    have fP : FpOk X pins H s.heap.objs.size := I.fpOk (Nat.le_refl _) (I.hok.fresh (Nat.le_refl _))
    have I2 : Inv X pins σ (upd H s.heap.objs.size (.tup [x, y])) { s with heap := h2', toks := s.toks } := by
      refine I1.track I.sz (fP.2.1) fP.2.2.2.2.1 fP.2.2.2.2.2 fP.1 ?_
      exact ⟨(show 2 ≤ sizeLine by decide), [ux, uy], .cons rux (.cons ruy .nil), ⟨_, hp2, rfl, _, rfl⟩⟩
    refine ⟨.ref s.heap.objs.size, _, I2, rfl, ⟨_, x, y, rfl, fP.1, rfl, fun zs hzs => by rw [I.list_inj hzs hqa]; exact hx, fun zs hzs => by rw [I.list_inj hzs hqb]; exact hy⟩, ⟨hz', hTI2, ⟨_, _, hTO2⟩, h12, h22, n1, n2⟩, fun c hcm => ?_⟩
    rw [upd_ne (Nat.ne_of_lt (lt c hcm))]
    exact (hf c hcm).1
  done := by
    intro X hP hw hK hc i pins s σ H E I hf ⟨hz, hTI, ⟨u, v, hTO⟩, h1, h2, n1, n2⟩ hg
    subst hP hw hK
    obtain ⟨xs, ys, hqa, hqb, hend⟩ := hg
    obtain ⟨its, rv, p, hsz⟩ := I.list hqa
    obtain ⟨jts, rw', p', hsz'⟩ := I.list hqb
    have D : ZipApart z TI TO i1 i2 a b := by
      obtain ⟨oa, ea, ca, _, _⟩ := p.isList
      obtain ⟨ob, eb, cb, _, _⟩ := p'.isList
      obtain ⟨o1, e1, c1, _⟩ := h1
      obtain ⟨o2, e2, c2, _⟩ := h2
      have dz : ∀ {c : Addr} {o : Obj} {T : String}, s.heap.get? c = some o → o.cls = .type T → T ≠ "zip" → c ≠ z := fun e q n r => by
        rw [r, hz] at e; cases e; cases q; exact n rfl
      have dT : ∀ {c d : Addr} {o q : Obj} {T U : String}, s.heap.get? c = some o → o.cls = .type T → s.heap.get? d = some q → q.cls = .type U → T ≠ U → c ≠ d := fun e1 c1 e2 c2 n r => by
        subst r; rw [e1] at e2; cases e2; rw [c1] at c2; cases c2; exact n rfl
      exact ⟨dz hTI rfl (by decide), dz hTO rfl (by decide), dz e1 c1 (by decide), dz e2 c2 (by decide), n1, dT hTI rfl e1 c1 (by decide), dT hTI rfl e2 c2 (by decide), dT hTO rfl e1 c1 (by decide), dT hTO rfl e2 c2 (by decide), n2,
        dz ea ca (by decide), dT ea ca hTO rfl (by decide), dT ea ca e1 c1 (by decide), dT ea ca e2 c2 (by decide), dz eb cb (by decide), dT eb cb hTO rfl (by decide), dT eb cb e1 c1 (by decide), dT eb cb e2 c2 (by decide)⟩
    have e1 := rv.length
    have e2 := rw'.length
    refine wpAny_pyNext_zip_end (I.ok.hd hc) D hz hTI hTO h1 h2 p.isList p'.isList (k1 := i) (k2 := i) (by
      rcases hend with h | h
      · left; simp; omega
      · right; simp; omega) fun h' hk => ⟨rfl, ?_⟩
    exact I.turnedL (t' := s.toks) (fun c o hcm e => by
      simp only [List.mem_cons, List.not_mem_nil, or_false, not_or] at hcm
      exact hk c o hcm.1 hcm.2.2.1 hcm.2.2.2.1 hcm.2.2.2.2 e) hf
  self := fun _ _ _ _ _ st h => wpAny_pyIter_zip st.1 h
section
variable {X : Cx}
def iZip (K : PySem.W.Frag) (ta : TA) : TI := fun σ H R => ta σ H fun vs H1 => ∃ a b, vs = [.ref a, .ref b] ∧ (∃ xs, SqL K H1 a xs) ∧ (∃ ys, SqL K H1 b ys) ∧ R (Itz K a b) H1
theorem pi_zip {es : List Expr} {x1} {tpos : Pos} {e1 e2 : Expr} {ta : TA} {p pos : Pos} (hg : Gl X "zip") (hm : X.mg "zip" = none) (ha : PA X [e1, e2] ta) (hs : starEach [e1, e2] X.env = [(false, eval e1 X.env), (false, eval e2 X.env)] := by rfl) (hs2 : starEach [e2] X.env = [(false, eval e2 X.env)] := by rfl) :
    PI X (.Tuple es x1 tpos) (.Call (.Name "zip" p) [e1, e2] [] pos) (iZip X.K ta) := by
  intro pins s σ H R I h
  refine Call_ (ld_blt I hg hm (by rfl) (PyProof.Rows.callWith_type1 (thn (ha pos pins s σ H _ I h) fun us s1 ⟨vs, H1, I1, r1, q1⟩ => ?_) (by rw [hs, hs2]) (by rw [hs2]; rfl)))
  obtain ⟨a, b, rfl, ⟨xs, hqa⟩, ⟨ys, hqb⟩, q⟩ := q1
  obtain ⟨u1, u2, rfl, ru1, ru2⟩ := vals2 r1
  cases (show u1 = Value.ref a from ru1)
  cases (show u2 = Value.ref b from ru2)
  obtain ⟨its, rv, pa, hsz⟩ := I1.list hqa
  obtain ⟨jts, rw', pb, hsz'⟩ := I1.list hqb
  refine call_zip_2 pa.isList pb.isList fun h' hz hTI hTO h1 h2 hsize hk => ?_
  refine wpAny_pyIter_zip (s := { s1 with heap := h' }) hz ?_
  refine ⟨_, _, _, _, H1, rfl, I1.kept (t' := s1.toks) hk, turn_zip a b (s1.heap.objs.size + 4) (s1.heap.objs.size + 2) (s1.heap.objs.size + 3) s1.heap.objs.size (s1.heap.objs.size + 1), ⟨hz, hTI, ⟨_, _, hTO⟩, h1, h2, (fun z => by have : s1.heap.objs.size + 2 = s1.heap.objs.size + 3 := z; omega), (fun z => by have : s1.heap.objs.size = s1.heap.objs.size + 1 := z; omega)⟩, fun c hc => ?_, q⟩
  have hge : s1.heap.objs.size ≤ c := by
    simp only [List.mem_cons, List.not_mem_nil, or_false] at hc
    rcases hc with h | h | h | h | h <;> (rw [h]; omega)
  exact I1.fpOk hge (I1.hok.fresh hge)
end

/-- enumerate of the list at a -/
def Ite (K : PySem.W.Frag) (a : Addr) : It :=
  ⟨fun i H => ∃ xs x, SqL K H a xs ∧ xs[i]? = some x,
   fun i H v H' => ∃ p x, v = .ref p ∧ H p = none ∧ H' = upd H p (.tup [.int i, x]) ∧ ∀ xs, SqL K H a xs → xs[i]? = some x,
   fun i H => ∃ xs, SqL K H a xs ∧ xs.length ≤ i⟩
theorem turn_enum {P : Program} {w : World} {K : PySem.W.Frag} {es : List Expr} {x1} {pos : Pos} (a e it : Addr) : Turn P w K (.Tuple es x1 pos) (Ite K a) [e, it] e
    (fun i h => (∃ old, IsEnum h e it i old) ∧ h.IsListIter it a i) where
  mem := by simp
  obj := fun i h ⟨⟨old, he⟩, h1⟩ c hc => by
    simp only [List.mem_cons, List.not_mem_nil, or_false] at hc
    rcases hc with rfl | rfl
    · exact ⟨_, he, fun v q => by cases (show Data.fields _ = Data.cell v from q)⟩
    · obtain ⟨o, e, _, d⟩ := h1
      exact ⟨o, e, fun v q => by rw [d] at q; cases q⟩
  keep := fun i h h' ⟨⟨old, he⟩, h1⟩ k => ⟨⟨old, k e (by simp) _ he⟩, h1.at fun o q => k it (by simp) o q⟩
  item := by
    intro X hP hw hK hc i pins s σ H E I hf ⟨⟨old, he⟩, h1⟩ hg
    subst hP hw hK
    obtain ⟨xs, x, hqa, hx⟩ := hg
    obtain ⟨its, rv, p, hsz⟩ := I.list hqa
    obtain ⟨ux, hux, rux⟩ := rv.get hx
    have hne : e ≠ it := fun z => by
      obtain ⟨o1, e1, c1, _⟩ := h1
      rw [← z, he] at e1; cases e1
      exact absurd (show Value.type "enumerate" = Value.type "list_iterator" from c1) (by decide)
    refine wpAny_pyNext_enum_item he h1 p.isList (x := ux) (by simpa using hux) hne fun h' a1 a3 a5 a6 hk => ?_
    refine ⟨_, rfl, ?_⟩
    refine wpAny_letOwnedTupleGo_enum (s := { s with heap := h', toks := s.toks + 1 }) a1 fun h2' hz' hs' => ?_
    have lt : ∀ b ∈ [e, it], b < s.heap.objs.size := fun c hcm => by
      simp only [List.mem_cons, List.not_mem_nil, or_false] at hcm
      rcases hcm with rfl | rfl
      · exact Heap.lt_size he
      · obtain ⟨o, q, _⟩ := h1; exact Heap.lt_size q
    have h12 : h2'.IsListIter it a (i + 1) := a3.extBut hs'.extBut (Ne.symm hne)
    have pz : s.heap.objs.size ≠ e := Nat.ne_of_gt (Heap.lt_size he)
    have hp2 : h2'.get? s.heap.objs.size = some { cls := .type "tuple", data := .seq #[.int i s.toks, ux] } := hs'.extBut _ _ pz a5
    have kk : ∀ c o, c ∉ [e, it] → s.heap.get? c = some o → h2'.get? c = some o := fun c o hcm q => by
      simp only [List.mem_cons, List.not_mem_nil, or_false, not_or] at hcm
      exact hs'.extBut _ _ hcm.1 (hk c o hcm.1 hcm.2 q)
    have I1 : Inv X pins σ H { s with heap := h2', toks := s.toks + 1 } := I.turnedL kk hf
    have fP : FpOk X pins H s.heap.objs.size := I.fpOk (Nat.le_refl _) (I.hok.fresh (Nat.le_refl _))
    have I2 : Inv X pins σ (upd H s.heap.objs.size (.tup [.int i, x])) { s with heap := h2', toks := s.toks + 1 } := by
      refine I1.track I.sz (fP.2.1) fP.2.2.2.2.1 fP.2.2.2.2.2 fP.1 ?_
      exact ⟨(show 2 ≤ sizeLine by decide), [.int i s.toks, ux], .cons ⟨_, rfl⟩ (.cons rux .nil), ⟨_, hp2, rfl, _, rfl⟩⟩
    refine ⟨.ref s.heap.objs.size, _, I2, rfl, ⟨_, x, rfl, fP.1, rfl, fun zs hzs => by rw [I.list_inj hzs hqa]; exact hx⟩, ⟨⟨_, hz'⟩, h12⟩, fun c hcm => ?_⟩
    rw [upd_ne (Nat.ne_of_lt (lt c hcm))]
    exact (hf c hcm).1
  done := by
    intro X hP hw hK hc i pins s σ H E I hf ⟨⟨old, he⟩, h1⟩ hg
    subst hP hw hK
    obtain ⟨xs, hqa, hend⟩ := hg
    obtain ⟨its, rv, p, hsz⟩ := I.list hqa
    have e1 := rv.length
    refine wpAny_pyNext_enum_end (I.ok.hd hc) he h1 p.isList (i := i) (by simp; omega) fun h' hk => ⟨rfl, ?_⟩
    exact I.turnedL (t' := s.toks) (fun c o hcm q => by
      simp only [List.mem_cons, List.not_mem_nil, or_false, not_or] at hcm
      exact hk c o hcm.2 q) hf
  self := fun _ _ _ _ _ ⟨⟨_, st⟩, _⟩ h => wpAny_pyIter_enum st h
section
variable {X : Cx}
def iEnum (K : PySem.W.Frag) (ta : TA) : TI := fun σ H R => ta σ H fun vs H1 => ∃ a, vs = [.ref a] ∧ (∃ xs, SqL K H1 a xs) ∧ R (Ite K a) H1
theorem pi_enum {es : List Expr} {x1} {tpos : Pos} {e1 : Expr} {ta : TA} {p pos : Pos} (hg : Gl X "enumerate") (hm : X.mg "enumerate" = none) (ha : PA X [e1] ta) (hs : starEach [e1] X.env = [(false, eval e1 X.env)] := by rfl) :
    PI X (.Tuple es x1 tpos) (.Call (.Name "enumerate" p) [e1] [] pos) (iEnum X.K ta) := by
  intro pins s σ H R I h
  refine Call_ (ld_blt I hg hm (by rfl) (PyProof.Rows.callWith_type1 (thn (ha pos pins s σ H _ I h) fun us s1 ⟨vs, H1, I1, r1, q1⟩ => ?_) hs rfl))
  obtain ⟨a, rfl, ⟨xs, hqa⟩, q⟩ := q1
  obtain ⟨u1, rfl, ru1⟩ := vals1 r1
  cases (show u1 = Value.ref a from ru1)
  obtain ⟨its, rv, pa, hsz⟩ := I1.list hqa
  refine call_enumerate_list pa.isList fun h' hz h1 hsize hk => ?_
  refine wpAny_pyIter_enum (s := { s1 with heap := h' }) hz ?_
  refine ⟨_, _, _, _, H1, rfl, I1.kept (t' := s1.toks) hk, turn_enum a (s1.heap.objs.size + 1) s1.heap.objs.size, ⟨⟨_, hz⟩, h1⟩, fun c hc => ?_, q⟩
  have hge : s1.heap.objs.size ≤ c := by
    simp only [List.mem_cons, List.not_mem_nil, or_false] at hc
    rcases hc with h | h <;> (rw [h]; omega)
  exact I1.fpOk hge (I1.hok.fresh hge)
end
end L2

set_option Elab.async false
set_option linter.all false
set_option maxRecDepth 100000
namespace L2
open PySem PySem.Spec PyProof.Rows

theorem vals_of_items {P : Nat → Value → Prop} {acc : List Value} {xs : List V} (hl : acc.length = xs.length) (h : ∀ (j : Nat) (v : Value), acc[j]? = some v → P j v) (hP : ∀ (j : Nat) v x, P j v → xs[j]? = some x → RelV x v) : Vals xs acc := by
  induction xs generalizing acc P with
  | nil =>
    cases acc with
    | nil => exact .nil
    | cons _ _ => simp at hl
  | cons x xs ih =>
    cases acc with
    | nil => simp at hl
    | cons u acc =>
      refine .cons (hP 0 u x (h 0 u rfl) rfl) (ih (P := fun j => P (j + 1)) (by simpa using hl) (fun j v e => h (j + 1) v (by simpa using e)) fun j v y p e => hP (j + 1) v y p (by simpa using e))

section
variable {X : Cx}
theorem bools_of : ∀ {bs : List Bool} {us : List Value}, Vals (bs.map V.bl) us → LSm.BoolsAre us bs
  | [], _, .nil => .nil
  | b :: bs, _, .cons r t => by
    obtain rfl := (show _ = Value.bool b from r)
    exact .cons b (bools_of t)
/-- all of a list of bools -/
theorem call_all (hc : X.calm = true) : CallR X (.builtin "all") (fun xs H Q => ∃ (a : Addr) (bs : List Bool), xs = [V.ref a] ∧ SqL X.K H a (bs.map V.bl) ∧ Q (.bl (bs.all id)) H) := by
  intro pins s σ H xs us Q I r h
  obtain ⟨a, bs, rfl, hq, q⟩ := h
  obtain ⟨u, rfl, ru⟩ := vals1 r
  cases (show u = Value.ref a from ru)
  obtain ⟨its, rv, p, hz⟩ := I.list hq
  obtain ⟨m, F⟩ := I.fr
  have hlt : a < s.heap.objs.size := by obtain ⟨_, e, _⟩ := p.isList; exact Heap.lt_size e
  have hb := bools_of rv
  refine call_all_walk (wpAny_pyIter_list p.isList ?_)
  refine ⟨s.heap.objs.size, [s.heap.objs.size, a], [s.heap.objs.size], its.toArray.size, _, _, fun i => (bs[i]?).getD true, rfl, Walks.list (A := X.A.in1) (I.ok.hd hc) _ a (Nat.ne_of_lt hlt) its.toArray,
    ⟨⟨_, Heap.get?_push_size _ rfl, rfl, rfl⟩, p.isList.push _⟩, fun i v s' Q' E' hP hQ => ?_, fun h' tk hk => ?_⟩
  · obtain ⟨b, e, rfl⟩ := hb.get i v (by simpa using hP)
    simp only [e, Option.getD_some] at hQ
    exact wpAny_truthy_bool hQ
  · have e : ((List.range its.toArray.size).all fun i => (bs[i]?).getD true) = bs.all id := by
      rw [List.size_toArray, hb.length]; exact LSm.range_all bs
    rw [e]
    exact ⟨.bl (bs.all id), H, I.kept (LSm.kept_iter hk), rfl, q⟩
/-- range(n) as a value -/
theorem call_range1 : CallR X (.type "range") (fun xs H Q => ∃ j : Int, xs = [.int j] ∧ ∀ p, H p = none → Q (.ref p) (upd H p (.rng 0 j))) := by
  intro pins s σ H xs us Q I r h
  obtain ⟨j, rfl, q⟩ := h
  obtain ⟨u, rfl, t, rfl⟩ := vals1 r
  refine call_range_1 ⟨.ref s.heap.objs.size, _, I.laid (fun b o e => Heap.get?_push_of_some _ e) (Nat.le_refl _) ?_, rfl, q _ (I.hok.fresh (Nat.le_refl _))⟩
  exact ⟨_, _, _, Heap.get?_push_size _ rfl⟩
def intsV (n : Nat) : List V := (List.range n).map fun i => V.int (i : Nat)
theorem intsV_length (n : Nat) : (intsV n).length = n := by simp [intsV]
theorem intsV_get {n i : Nat} (h : i < n) : (intsV n)[i]? = some (.int i) := by simp [intsV, h]
/-- list(range(n)) -/
theorem call_list_rng (hc : X.calm = true) : CallR X (.type "list") (fun xs H Q => ∃ p j, xs = [.ref p] ∧ H p = some (.rng 0 j) ∧ 0 ≤ j ∧ j ≤ 2 ^ 24 ∧ ∀ l, H l = none → Q (.ref l) (upd H l (.lst (intsV j.toNat)))) := by
  intro pins s σ H xs us Q I r h
  obtain ⟨p, j, rfl, hp, h0, h1, q⟩ := h
  obtain ⟨u, rfl, ru⟩ := vals1 r
  cases (show u = Value.ref p from ru)
  obtain ⟨t, u, v, e⟩ := (show ObjOk X.prog X.w H s.heap p (.rng 0 j) from I.hok p _ hp)
  have sz : (j.toNat : Nat) ≤ sizeLine := by rw [sizeLine_eq]; omega
  refine call_list_range (n := j.toNat) (I.ok.hd hc) e (small_one (by omega) (by omega) (by omega) (by omega)) (by rw [rangeSize_one]; split <;> omega) (by omega) fun h' tk acc c hk hS hi => ?_
  refine ⟨.ref s.heap.objs.size, _, I.laid hk (Nat.le_refl _) ?_, rfl, q _ (I.hok.fresh (Nat.le_refl _))⟩
  refine ⟨by rw [intsV_length]; exact sz, acc.toList, c, vals_of_items (P := fun i v => ∃ t, v = .int ((0 : Int) + i * 1) t) (by rw [intsV_length, Array.length_toList]; exact hi.1) (fun i v e => hi.2 i v (by simpa using e)) (fun i v x ⟨t, e⟩ ex => ?_), by simpa using hS⟩
  subst e
  have hlt : i < j.toNat := by
    have := (List.getElem?_eq_some_iff.mp ex).1
    rw [intsV_length] at this; exact this
  rw [intsV_get hlt] at ex
  cases ex
  exact ⟨t, by congr 1; omega⟩
/-- list(d), d a dict -/
theorem call_list_dK (hc : X.calm = true) : CallR X (.type "list") (fun xs H Q => ∃ p kvs, xs = [.ref p] ∧ Rd H p (.dK kvs) ∧ ∀ l, H l = none → Q (.ref l) (upd H l (.lst (kvs.map fun kv => kV kv.1)))) := by
  intro pins s σ H xs us Q I r h
  obtain ⟨p, kvs, rfl, hp, q⟩ := h
  obtain ⟨u, rfl, ru⟩ := vals1 r
  cases (show u = Value.ref p from ru)
  obtain ⟨z, hd, vs, rel, o, es, ep, g1, g2, g3, g4, g5, g6⟩ := dk_rd I.hok hp
  refine PySem.W.kdl_call (PySem.W.kdl_dict (knd := mixKind X.prog X.w) (kvs := vs) (ep := ep) hd) (I.ok.hd hc) ⟨o, es, g1, g2, g3, g4, g5, g6⟩ (by rw [← rel.length]; exact z) fun h' tk acc c hk hS hi => ?_
  refine ⟨.ref s.heap.objs.size, _, I.laid hk (Nat.le_refl _) ?_, rfl, q _ (I.hok.fresh (Nat.le_refl _))⟩
  refine ⟨by rw [List.length_map]; exact z, acc.toList, c, vals_of_items (P := fun i v => ∃ k x, vs[i]? = some (k, x) ∧ (mixKind X.prog X.w).is k v = true) (by rw [List.length_map, Array.length_toList, hi.1, rel.length]) (fun i v e => hi.2 i v (by simpa using e)) (fun i v x ⟨k, y, e1, e2⟩ ex => ?_), by simpa using hS⟩
  have hk1 : (kvs.map (·.1))[i]? = some k := by
    have := rel.keys
    rw [this, List.getElem?_map, e1]; rfl
  rw [List.getElem?_map] at ex hk1
  cases hkv : kvs[i]? with
  | none => rw [hkv] at ex; cases ex
  | some kv =>
    rw [hkv] at ex hk1
    cases ex
    have : kv.1 = k := by simpa using hk1
    subst this
    rcases keyIs_shape (k := kv.1) (v := v) e2 with ⟨i, t, e3, e4⟩ | ⟨x, t, e3, e4⟩
    · show RelV (kV kv.1) v
      rw [e3, e4]; exact ⟨t, rfl⟩
    · show RelV (kV kv.1) v
      rw [e3, e4]; exact ⟨t, rfl⟩
end
end L2

set_option Elab.async false
set_option linter.all false
set_option maxRecDepth 100000
namespace L2
open PySem PySem.Spec PyProof.Rows

theorem inKeys_map (k : Str) : ∀ D : List (Str × PyData), KTD.inKeys k (D.map fun p => (p.1, KTD.Dat.flat p.2)) = (D.any fun p => decide (k = p.1))
  | [] => rfl
  | p :: D => by rw [List.map_cons, List.any_cons, KTD.inKeys, inKeys_map k D]
section
variable {X : Cx}
/-- a dict of the module's own, its keys texts, its values ints -/
abbrev TabK (K : PySem.W.Frag) (a : Addr) (D : List (Str × PyData)) : Prop := KTD.tabLook KTD.flatLooks (fun b => K.lookup b) a D = true
theorem tab_here {pins : List (Addr × Obj)} {σ : St} {H : Hp} {s : Shared} {a : Addr} {D : List (Str × PyData)} (I : Inv X pins σ H s) (T : TabK X.K a D) : KTD.Here s.heap s.heap a (D.map fun p => (p.1, KTD.Dat.flat p.2)) :=
  ⟨(KTD.tab_of_look (fun _ _ x => KTD.flat_of_looks x) (fun b o e => I.kIn b o e) T).text, fun _ _ e => e⟩
theorem op_notInK : OpR X (compareOp .NotIn) (fun x y H Q => ∃ k a D, x = V.str k ∧ y = V.ref a ∧ TabK X.K a D ∧ Q (.bl (!(D.any fun p => decide (k = p.1)))) H) := by
  intro pins s σ H x y v u Q I rx ry h
  obtain ⟨k, a, D, rfl, rfl, T, q⟩ := h
  obtain ⟨t, rfl⟩ := (show ∃ t, v = Value.str k t from rx)
  cases (show u = Value.ref a from ry)
  refine KTD.notin_text (tab_here I T) ⟨.bl (!KTD.inKeys k (D.map fun (p : Str × PyData) => (p.1, KTD.Dat.flat p.2))), H, I.tok _, rfl, ?_⟩
  rw [inKeys_map]; exact q
theorem ix_K : IxR X (fun x y H Q => ∃ k a D i, x = V.ref a ∧ y = V.str k ∧ TabK X.K a D ∧ D.lookup k = some (PyData.int i) ∧ (D.all fun p => match p.2 with | .int _ => true | _ => false) = true ∧ Q (.int i) H) := by
  intro value slice pins s σ H x y v u Q I rx ry h hs
  obtain ⟨k, a, D, i, rfl, rfl, T, e, hp, q⟩ := h
  cases (show v = Value.ref a from rx)
  obtain ⟨t, rfl⟩ := (show ∃ t, u = Value.str k t from ry)
  have e1 : ∀ D : List (Str × PyData), (D.all fun p => match p.2 with | .int _ => true | _ => false) = true → ((D.map fun p => (p.1, KTD.Dat.flat p.2)).all fun p => KTD.plain p.2) = true := fun D hD => by
    rw [List.all_map]
    refine List.all_eq_true.mpr fun p hp' => ?_
    have := List.all_eq_true.mp hD p hp'
    cases hq : p.2 <;> simp [hq] at this <;> simp [Function.comp, hq, KTD.plain]
  have e2 : ∀ D : List (Str × PyData), KTD.datumAt k (D.map fun p => (p.1, KTD.Dat.flat p.2)) = (D.lookup k).map KTD.Dat.flat := fun D => by
    induction D with
    | nil => rfl
    | cons p D ih =>
      obtain ⟨x, d⟩ := p
      rw [List.map_cons, KTD.datumAt, List.lookup_cons, ih]
      by_cases hk : k = x
      · subst hk; simp
      · have : (k == x) = false := beq_eq_false_iff_ne.mpr hk
        simp [hk, this]
  have hT := tab_here I T
  have hat : KTD.datumAt k (D.map fun p => (p.1, KTD.Dat.flat p.2)) = some (KTD.Dat.flat (.int i)) := by rw [e2 D, e]; rfl
  have hmem : KTD.inKeys k (D.map fun p => (p.1, KTD.Dat.flat p.2)) = true := by rw [← KTD.isSome_datumAt, hat]; rfl
  refine subscriptTail_builtin_flat hT.typeIs slot_dict_getitem.lookup ?_ hs
  unfold getItem
  try with_reducible refine wpAny_holding ?_
  refine wpAny_bind (wpAny_sequenceKey hT.typeIs (by decide) ?_)
  refine wpAny_bind (wpAny_callSpecial?_slot (name := Str.ofString "__getitem__") hT.typeIs slot_dict_getitem
    (wpAny_call_entry slot_dict_getitem hT.typeIs entry_dict_getitem ?_ (args_dict_getitem _ _)))
  show wpAny _ _ (dictGet a (.str k t) >>= _) _ _ s
  refine wpAny_bind (KTD.dictGet_text hT (fun d v ha hv => wpAny_pure ⟨v, rfl, wpAny_pure ⟨KTD.notRef_of_plain (KTD.plain_at (e1 D hp) ha) hv, ?_⟩⟩) fun hn => absurd hn (KTD.at_of_mem hmem))
  rw [hat] at ha
  cases ha
  obtain ⟨t', rfl⟩ : ∃ t, v = Value.int i t := by
    exact PyProof.V.Flat.int_inv (show PyProof.V.Flat v (PyData.int i) from hv)
  exact ⟨.int i, H, I.tok _, ⟨_, rfl⟩, q⟩
end
end L2

set_option Elab.async false
set_option linter.all false
set_option maxRecDepth 100000
namespace L2
open PySem PySem.Spec PyProof.Rows
/-- a def of the text behind the top, its defaults at dV -/
structure FunG (K : PySem.W.Frag) (x qual : Str) (st : Stmt) (dV : Value) (f : Addr) (fd : FuncData) : Prop where
  ex : ∃ (oc : Value) (od : Option Addr) (kV doc pm : Value) (an : Option Addr) (cdv ct : Value) (osl : Array (Option Value)),
    fd = PySem.W.fnOf x qual (defArgs st) (defBody st) (defScope st) dV kV doc pm an cdv ct ∧ K.lookup f = some ⟨oc, od, .func fd, osl⟩ ∧ PySem.W.codeIn K cdv qual = true
  kp : PySem.W.keepIn K (.ref f) = true
section
variable {P : Program} {w : World} {K : PySem.W.Frag} {mg : Str → Option Value} {base : Heap}
theorem FunG.ok {x qual : Str} {st : Stmt} {dV : Value} {f : Addr} {fd : FuncData} {N ps : List Str} {k : Nat} {sp : Sp} (F : FunG K x qual st dV f fd) (S : FnScope N ps (defScope st)) (len : ∀ vs H Q E, sp vs H Q E → vs.length = ps.length)
    (hbody : ∀ (cdv : Value) (A : Around) (outer : List Env) (s : Shared) (H : Hp) (vs : List V) (Q : VK) (E : XK), Room k (A.deeper (envOfC qual (defScope st) s.heap.objs.size f cdv)) → sp vs H Q E →
      ∃ t, PSs (cxOf CX0 P w K mg base N qual (defScope st) f cdv A outer s H E).nox (defBody st) t ∧ t { nx := fun _ H' => Q .non H', rt := Q } (start N vs) H) : FnOk P w K mg base CX0 (k + 1) f fd ps sp := by
  obtain ⟨oc, od, kV, doc, pm, an, cdv, ct, osl, rfl, lk, hcd⟩ := F.ex
  refine fn_of lk hcd S len fun A outer s H vs Q E hr hsp => ?_
  obtain ⟨t, h, q⟩ := hbody cdv A outer s H vs Q E hr hsp
  exact ⟨t, h.nox, q⟩
theorem FunG.binds {x qual : Str} {st : Stmt} {dV : Value} {f : Addr} {fd : FuncData} {ps : List Str} (F : FunG K x qual st dV f fd)
    (h : ∀ (kV doc pm : Value) (an : Option Addr) (cdv ct : Value) (us : List Value), us.length = ps.length → bindArgs (PySem.W.fnOf x qual (defArgs st) (defBody st) (defScope st) dV kV doc pm an cdv ct) ⟨us, []⟩ = pure (ps.zip us)) : Binds K fd ps [] := by
  obtain ⟨oc, od, kV, doc, pm, an, cdv, ct, osl, rfl, lk, hcd⟩ := F.ex
  exact .all (h kV doc pm an cdv ct)
theorem funG_mk {x qual : Str} {st : Stmt} {f : Addr} {oc : Value} {od an : Option Addr} {osl : Array (Option Value)} {dV kV doc pm cdv ct : Value} (l : K.lookup f = some ⟨oc, od, .func (PySem.W.fnOf x qual (defArgs st) (defBody st) (defScope st) dV kV doc pm an cdv ct), osl⟩)
    (c : PySem.W.codeIn K cdv qual = true) (k : PySem.W.keepIn K (.ref f) = true) : FunG K x qual st dV f (PySem.W.fnOf x qual (defArgs st) (defBody st) (defScope st) dV kV doc pm an cdv ct) := ⟨⟨oc, od, kV, doc, pm, an, cdv, ct, osl, rfl, l, c⟩, k⟩
end
end L2

set_option Elab.async false
set_option linter.all false
set_option maxRecDepth 100000
namespace L2
open PySem PySem.Spec PyProof.Rows
/-! the rules that speak of the module's part, with that part named (within a comprehension's block) -/
section
variable {X : Cx} {K : PySem.W.Frag}
theorem pg_tupK (hK : X.K = K) {es : List Expr} {k : Nat} {t : TGs} {n : Nat} {pos : Pos} (hc : X.calm = true) (h : PGs X es t)
    (hn : (assignEach es X.env).length = n := by rfl) (hst : (assignEach es X.env).findIdx? (·.1) = none := by rfl) : PG X (.Tuple es k pos) (gTup K n t) := by
  subst hK; exact pg_tup hc h hn hst
end
end L2
namespace L2
theorem tTrueT {σ : St} {H : Hp} {A B : Hp → Prop} (h : A H) : tTrue σ H (fun b H3 => if b = true then A H3 else B H3) := (iteT h : if true = true then A H else B H)
end L2
namespace L2
open PySem PySem.Spec PyProof.Rows
section
variable {X : Cx} {CX : CXT} {k : Nat} {f C : Addr} {fd : FuncData} {ps ks : List Str} {sp : Sp} {E : XK} {x m : Str} {p pos apos kpos : Pos} {e o : Expr} {es : List Expr} {kws : List Keyword} {te ta : TE} {t tk : TA}
  {g : List Value → List Value → List Value} {gV : List V → List V → List V}
/-- o.m(e, .., name=value) -/
def tMethK (C : Addr) (m : Str) (sp : Sp) (gV : List V → List V → List V) (E : XK) (ta : TE) (t tk : TA) : TE := fun σ H Q => ta σ H fun x H1 => ∃ a dx fs, x = .ref a ∧ H1 a = some (.ins C dx fs) ∧ fs.lookup m = none ∧
  t σ H1 fun vs H2 => tk σ H2 fun zs H3 => sp (gV (x :: vs) zs) H3 Q E
end
end L2
namespace L2
/-- a test whose first way comes to where the second stands -/
theorem ifJ {b : Bool} {A B : Prop} (hA : b = true → B → A) (g : B) : if b = true then A else B := by
  cases b
  · exact iteF g
  · exact iteT (hA rfl g)
end L2

set_option Elab.async false
set_option linter.all false
set_option maxRecDepth 100000
namespace L2
open PySem PySem.Spec PyProof.Rows
section
variable {prog : Program} {w : World} {K : Type} [DecidableEq K] {knd : HeapKind prog w K} {A : Around} {E : Value → Shared → Prop} {s : Shared} {d a : Addr} {k : K} {xs : List (K × Addr × Value)}
end
end L2
namespace L2
open PySem PySem.Spec PyProof.Rows
theorem KT.drop {H : Hp} {kvs : List (List Key × V)} {xs : List (List Key × Addr × Value)} (r : KT H kvs xs) (k : List Key) : KT H (dropK kvs k) (xs.filter fun x => decide (x.1 ≠ k)) := by
  unfold dropK
  induction r with
  | nil => exact .nil
  | @cons p q ps qs hq t ih =>
    rw [List.filter_cons, List.filter_cons]
    have e : p.1 = q.1 := hq.1
    by_cases c : q.1 = k
    · rw [if_neg (by simpa using e.trans c), if_neg (by simpa using c)]; exact ih
    · rw [if_pos (by simpa using fun z => c (e.symm.trans z)), if_pos (by simpa using c)]; exact .cons hq ih
section
variable {X : Cx} {pins : List (Addr × Obj)} {σ : St} {H : Hp} {s : Shared} {a b : Addr} {kvs : List (List Key × V)} {k : List Key} {u : Value} {A : Around} {E : Value → Shared → Prop}
end
section
variable {X : Cx} {o i e : Expr} {td ty : TE} {tpos pos apos cpos : Pos}
def sDDelT (td ty : TE) : TS := fun D σ H => td σ H fun x H1 => ty σ H1 fun y H2 => ∃ a b kvs k v, x = .ref a ∧ y = .ref b ∧ H2 a = some (.dT kvs) ∧ H2 b = some (.tup (k.map kV)) ∧ valV kvs k = some v ∧ D.nx σ (upd H2 a (.dT (dropK kvs k)))
def tDPopT (td ty : TE) : TE := fun σ H Q => td σ H fun x H1 => ∃ a, x = .ref a ∧ IsD H1 a ∧ ty σ H1 fun y H2 => ∃ b kvs k v, y = .ref b ∧ H2 a = some (.dT kvs) ∧ H2 b = some (.tup (k.map kV)) ∧ valV kvs k = some v ∧ Q v (upd H2 a (.dT (dropK kvs k)))
/-- two lists, one behind the other -/
theorem op_addL : OpR X (binaryOp .Add) (fun x y H Q => ∃ a b xs ys, x = .ref a ∧ y = .ref b ∧ SqL X.K H a xs ∧ SqL X.K H b ys ∧ xs.length + ys.length ≤ sizeLine ∧ ∀ l, H l = none → Q (.ref l) (upd H l (.lst (xs ++ ys)))) := by
  intro pins s σ H x y u v Q I rx ry h
  obtain ⟨a, b, xs, ys, rfl, rfl, ha, hb, hz, q⟩ := h
  cases (show u = Value.ref a from rx)
  cases (show v = Value.ref b from ry)
  obtain ⟨ia, ra, ⟨⟨cls, dd, data, sl⟩, n, ho, hc, _, hd⟩, _⟩ := I.list ha
  obtain ⟨ib, rb, ⟨⟨cls2, dd2, data2, sl2⟩, n2, ho2, hc2, _, hd2⟩, _⟩ := I.list hb
  simp only at hc hd hc2 hd2
  subst hc hd hc2 hd2
  have e : ia.toArray ++ ib.toArray = (ia ++ ib).toArray := by simp
  have e1 := ra.length
  have e2 := rb.length
  refine concat_meets ⟨_, ho, rfl⟩ ⟨_, ho2, rfl⟩ noFill_list_add seq_list_add PySem.F.slot_list_add PySem.F.entry_list_add (PySem.F.args_list_add_2 _ _) (list_addW a b ia.toArray ib.toArray n n2 dd dd2 sl sl2 (by simp; omega)) ⟨ho, ho2, ?_⟩
  rw [e]
  refine ⟨.ref s.heap.objs.size, _, I.laid (a := s.heap.objs.size) (o := .lst (xs ++ ys)) (t' := s.toks) (fun _ _ q => Heap.get?_push_of_some _ q) (Nat.le_refl _) ⟨by simpa using hz, ia ++ ib, 0, ra.append rb, Heap.get?_push_size _ rfl⟩, rfl, q _ (I.hok.fresh (Nat.le_refl _))⟩
/-- tuples of ints -/
theorem reads_ints {h : Heap} : ∀ {ns : List Int} {vs : List Value}, Vals (ns.map V.int) vs → ReadsAll h vs (ns.map PyData.int) []
  | [], _, r => by cases r; exact .nil
  | n :: ns, _, r => by
    cases r with
    | cons r1 r2 =>
      obtain ⟨t, rfl⟩ := r1
      exact .cons (as := []) (.int _ t) (reads_ints r2)
theorem reads_tup {pins : List (Addr × Obj)} {s : Shared} {σ : St} {H : Hp} {a : Addr} {ns : List Int} (I : Inv X pins σ H s) (h : H a = some (.tup (ns.map V.int))) : Reads s.heap (.ref a) (.tuple (ns.map PyData.int)) [] := by
  obtain ⟨_, its, r, o, h1, h2, n, h3⟩ := (show ObjOk X.prog X.w H s.heap a (.tup (ns.map V.int)) from I.hok a _ h)
  exact reads_tuple_at h1 h2 h3 (by simpa using reads_ints r)
theorem shaped_tup (ns : List Int) : SeqAt.shaped (.tuple (ns.map PyData.int)) = true := by
  simp [SeqAt.shaped, PyData.canLay0, PyData.depth, PySem.W.ke_canLayAll0, PySem.W.ke_depthAll]
theorem same_tup (ns ms : List Int) : PySem.Spec.same (.tuple (ns.map PyData.int)) (.tuple (ms.map PyData.int)) = decide (ns = ms) := by
  simp only [PySem.Spec.same]; exact PySem.W.ke_sameAll ns ms
/-- the same ints in two tuples -/
def rTup (neg : Bool) : R2 := fun x y H Q => ∃ (a b : Addr) (ns ms : List Int), x = .ref a ∧ y = .ref b ∧ H a = some (.tup (ns.map V.int)) ∧ H b = some (.tup (ms.map V.int)) ∧ Q (.bl (if neg then !decide (ns = ms) else decide (ns = ms))) H
theorem tup_has (ns : List Int) : (Shape.tuples .int).has (.tuple (ns.map PyData.int)) = true := by
  simp only [Shape.has]
  induction ns with
  | nil => rfl
  | cons n ns ih => simp [Shape.hasAll, Shape.has] at ih ⊢; try exact ih
theorem op_eqT (hu : X.A.units + 64 < cLine) : OpR X (compareOp .Eq) (rTup false) := by
  intro pins s σ H x y u v Q I rx ry h
  obtain ⟨a, b, ns, ms, rfl, rfl, ha, hb, q⟩ := h
  cases (show u = Value.ref a from rx)
  cases (show v = Value.ref b from ry)
  exact eq_dataH_same (reads_tup I ha) (reads_tup I hb) (shaped_tup _) (shaped_tup _) hu (SeqAt.noMix_of_shape (.tuples .int) rfl _ _ (tup_has ns) (tup_has ms)) (by rw [same_tup]; exact fin_bl I q (by simp))
end
end L2
namespace L2
open PySem PySem.Spec PyProof.Rows
theorem for_enum {K : PySem.W.Frag} {a : Addr} {xs : List V} {g : TG} {tb : TS} {D : Ends} {σ : St} {H : Hp} (Pv : Nat → St → Hp → Prop) (h0 : Pv 0 σ H) (hl : ∀ i σ H, i ≤ xs.length → Pv i σ H → SqL K H a xs)
    (hs : ∀ i x σ H p, xs[i]? = some x → Pv i σ H → H p = none → g (.ref p) σ (upd H p (.tup [.int i, x])) fun σ2 H2 => tb { D with nx := Pv (i + 1), ct := Pv (i + 1), bk := D.nx } σ2 H2) (hd : ∀ σ H, Pv xs.length σ H → D.nx σ H) :
    ∃ W : Nat → Nat → St → Hp → Prop, (∃ m, W 0 m σ H) ∧ ∀ i m σ H, W i m σ H →
      ((Ite K a).stop i H ∧ D.nx σ H) ∨ ((Ite K a).go i H ∧ ∃ N : St → Hp → Prop, (∀ σ' H', N σ' H' → ∃ m', m' < m ∧ W (i + 1) m' σ' H') ∧ ∀ x H', (Ite K a).yld i H x H' → g x σ H' fun σ2 H2 => tb { D with nx := N, ct := N, bk := D.nx } σ2 H2) := by
  refine ⟨fun i m σ H => m = xs.length - i ∧ i ≤ xs.length ∧ Pv i σ H, ⟨xs.length, by simp, Nat.zero_le _, h0⟩, ?_⟩
  rintro i m σ H ⟨rfl, hi, p⟩
  have hq := hl i σ H hi p
  by_cases hlt : i < xs.length
  · refine .inr ⟨⟨xs, xs[i], hq, List.getElem?_eq_getElem hlt⟩, Pv (i + 1), fun σ' H' p' => ⟨xs.length - (i + 1), by omega, rfl, hlt, p'⟩, fun x H' y => ?_⟩
    obtain ⟨b, z, rfl, hb, rfl, hz⟩ := y
    exact hs i z σ H b (hz xs hq) p hb
  · have e : i = xs.length := by omega
    subst e
    exact .inl ⟨⟨xs, hq, Nat.le_refl _⟩, hd σ H p⟩
end L2

set_option Elab.async false
set_option linter.all false
set_option maxRecDepth 100000
namespace L2
open PySem PySem.Spec PyProof.Rows
/-- a key that may be None: only asked for, never kept -/
abbrev OKey := Option Key
def okeyIs : OKey → Value → Bool
  | none, .none => true
  | none, _ => false
  | some k, v => keyIs k v
def okeyH (w : World) : OKey → Int
  | none => reduceHash 0xFCA86420
  | some k => keyH w k
theorem okeyIs_none {v : Value} (h : okeyIs none v = true) : v = .none := by cases v <;> first | rfl | cases h
section
variable {prog : Program} {w : World} {A : Around} {E : Value → Shared → Prop} {s : Shared}
theorem wpAny_pyHash_none {Q : Int → Shared → Prop} (h : Q (reduceHash 0xFCA86420) { s with toks := s.toks + 1 }) : wpAny (model prog w) A (pyHash .none) Q E s :=
  PySem.W.pyHash_slot (T := "NoneType") rfl F.slot_NoneType_hash F.entry_NoneType_hash (F.args_NoneType_hash_1 _) (beq_builtin_none _) (.inl rfl) (wpAny_bind (wpAny_pure (wpAny_bind (wpAny_mkInt (wpAny_pure ⟨_, _, rfl, h⟩)))))
end
theorem dec_some (a b : Key) : decide ((some a : OKey) = some b) = decide (a = b) := by
  by_cases e : a = b
  · subst e; simp
  · rw [decide_eq_false e, decide_eq_false (fun q => e (Option.some.inj q))]
def optKind (prog : Program) (w : World) : PySem.KeyKind prog w OKey where
  is := okeyIs
  hash := okeyH w
  inj := fun v a b ha hb => by
    cases a with
    | none =>
      cases b with
      | none => rfl
      | some b => rw [okeyIs_none ha] at hb; rcases keyIs_shape (k := b) hb with ⟨_, _, _, e⟩ | ⟨_, _, _, e⟩ <;> cases e
    | some a =>
      cases b with
      | none => rw [okeyIs_none hb] at ha; rcases keyIs_shape (k := a) ha with ⟨_, _, _, e⟩ | ⟨_, _, _, e⟩ <;> cases e
      | some b => exact congrArg some ((mixKind prog w).inj v a b ha hb)
  byValue := fun k v h => by
    cases k with
    | none => rw [okeyIs_none h]; rfl
    | some k => exact (mixKind prog w).byValue k v h
  pyHash := fun {A E s k v Q} hv h => by
    cases k with
    | none => rw [okeyIs_none hv]; exact wpAny_pyHash_none h
    | some k => exact (mixKind prog w).pyHash hv h
  eqBool := fun {A E s a b u v Q} hu hv h => by
    cases a with
    | none =>
      have e1 := okeyIs_none hu
      subst e1
      cases b with
      | none =>
        have e2 := okeyIs_none hv
        subst e2
        exact SeqAt.EqAt.same _ _ _ _ _ h
      | some b =>
        rw [decide_eq_false (fun q => nomatch q)] at h
        rcases keyIs_shape (k := b) hv with ⟨j, t, _, rfl⟩ | ⟨y, t, _, rfl⟩
        · exact SeqAt.EqAt.none_int _ _ _ _ _ _ h
        · exact SeqAt.EqAt.none_str _ _ _ _ _ _ h
    | some a =>
      cases b with
      | none =>
        have e2 := okeyIs_none hv
        subst e2
        rw [decide_eq_false (fun q => nomatch q)] at h
        rcases keyIs_shape (k := a) hu with ⟨j, t, _, rfl⟩ | ⟨y, t, _, rfl⟩
        · exact SeqAt.EqAt.int_none _ _ _ _ _ _ h
        · exact SeqAt.EqAt.str_none _ _ _ _ _ _ h
      | some b => rw [dec_some] at h; exact (mixKind prog w).eqBool (a := a) (b := b) hu hv h
  «strs» := fun k x t v h => by
    cases k with
    | none => cases h
    | some k => exact (mixKind prog w).strs k x t v h
theorem items_some {P : Program} {w : World} {ks : List Key} {us : List Value} (h : ItemsAre (mixKind P w) ks us) : ItemsAre (optKind P w) (ks.map some) us := by
  induction h with
  | nil => exact .nil
  | cons a b ih => exact .cons a ih
theorem dictOfH_some {P : Program} {w : World} {h : Heap} {a : Addr} {xs : List (List Key × Addr × Value)} (d : h.DictOfH (tupleKind (mixKind P w)) a xs) :
    h.DictOfH (tupleKind (optKind P w)) a (xs.map fun x => (x.1.map some, x.2)) := by
  obtain ⟨o, es, ep, h1, h2, h3, h4, h5, h6⟩ := d
  refine ⟨o, es, ep, h1, h2, h3, ?_, ?_, ?_⟩
  · rw [h4, List.map_map]
    refine List.map_congr_left fun x _ => ?_
    show entryOfKey _ x = entryOfKey _ (x.1.map some, x.2)
    unfold entryOfKey
    have e : (tupleKind (mixKind P w)).hash x.1 = (tupleKind (optKind P w)).hash (x.1.map some) := by
      show reduceHash _ = reduceHash _
      rw [List.map_map]
      rfl
    rw [e]
  · intro x hx
    obtain ⟨y, hy, rfl⟩ := List.mem_map.mp hx
    obtain ⟨o, its, n, g1, g2, g3, g4⟩ := h5 y hy
    exact ⟨o, its, n, g1, g2, g3, items_some g4⟩
  · rw [List.map_map]
    have : (fun x : List Key × Addr × Value => (x.1.map some, x.2).1) = (List.map some) ∘ fun x => x.1 := rfl
    show List.Nodup (xs.map ((fun x => x.1) ∘ fun x => (x.1.map some, x.2)))
    have e : ((fun x : List OKey × Addr × Value => x.1) ∘ fun x : List Key × Addr × Value => (x.1.map some, x.2)) = (List.map (some : Key → OKey)) ∘ fun x => x.1 := rfl
    rw [e, ← List.map_map]
    have inj : Function.Injective (some : Key → OKey) := fun _ _ h => Option.some.inj h
    refine List.Pairwise.map _ (fun a b hab hc => hab ?_) h6
    exact List.map_inj_right (fun _ _ h => Option.some.inj h) |>.mp hc
/-- what the dict at a has at the key y, which may hold a None (then nothing) -/
def DGetN (H : Hp) (a : Addr) (y : V) (r : Option V) : Prop :=
  DGet H a y r ∨ ∃ (kvs : List (List Key × V)) (n : Int) (b : Addr), Rd H a (.dT kvs) ∧ y = .ref b ∧ H b = some (.tup [.int n, .non]) ∧ r = none
section
variable {X : Cx} {pins : List (Addr × Obj)} {σ : St} {H : Hp} {s : Shared} {a : Addr} {y v : V} {u r : Value} {o : Option V} {A : Around} {E : Value → Shared → Prop}
theorem keyN_of {P : Program} {w : World} {h : Heap} {n : Int} {b : Addr} (ok : HOk P w H h) (e : H b = some (.tup [.int n, .non])) : (tupleKind (optKind P w)).is h [some (Sum.inl n), none] b := by
  obtain ⟨_, its, r, o, h1, h2, m, h3⟩ := (show ObjOk P w H h b (.tup [.int n, .non]) from ok b _ e)
  refine ⟨o, its.toArray, m, h1, h2, h3, ?_⟩
  cases r with
  | cons r1 r2 =>
    cases r2 with
    | cons r2 r3 =>
      cases r3
      obtain ⟨t, rfl⟩ := (show ∃ t, _ = Value.int n t from r1)
      obtain rfl := (show _ = Value.none from r2)
      refine .cons ?_ (.cons rfl .nil)
      exact keyIs_int n t
theorem atKey_noneN (xs : List (List Key × Addr × Value)) (n : Int) : atKey (xs.map fun x => (x.1.map (some : Key → OKey), x.2)) [some (Sum.inl n), none] = none := by
  unfold atKey
  rw [Option.map_eq_none_iff, List.find?_eq_none]
  intro x hx
  obtain ⟨y, hy, rfl⟩ := List.mem_map.mp hx
  intro h
  have h := of_decide_eq_true h
  have : (none : OKey) ∈ y.1.map (some : Key → OKey) := by
    rw [show y.1.map (some : Key → OKey) = [some (Sum.inl n), none] from h]
    exact .tail _ (.head _)
  obtain ⟨z, _, hz⟩ := List.mem_map.mp this
  cases hz
theorem d_notInN {Q : Value → Shared → Prop} (hu : A.units + 1 < cLine) (I : Inv X pins σ H s) (g : DGetN H a y o) (ry : RelV y u) (h : ∀ s', Inv X pins σ H s' → Q (.bool (!o.isSome)) s') :
    wpAny (model X.prog X.w) A (compareOp .NotIn u (.ref a)) Q E s := by
  rcases g with g | ⟨kvs, n, b, e, ey, eb, rfl⟩
  · exact d_notIn hu I g ry h
  · subst ey
    cases (show u = Value.ref b from ry)
    obtain ⟨z, hd, xs, rel, dd⟩ := dt_rd I.hok e
    refine wpAny_notIn_heap (tupleKind_room_in1 hu) (keyN_of I.hok eb) hd (dictOfH_some dd) ?_
    rw [atKey_noneN]
    exact h _ (I.tok _)
end
def tDNotInN (ty td : TE) : TE := fun σ H Q => ty σ H fun y H1 => td σ H1 fun x H2 => ∃ a o, x = .ref a ∧ DGetN H2 a y o ∧ Q (.bl (!o.isSome)) H2
theorem pc_dnotinN {X : Cx} {i o : Expr} {ty td : TE} (hu : X.A.units + 1 < cLine) (hi : PE X i ty) (ho : PE X o td) : PC X .NotIn i o (tDNotInN ty td) := by
  intro pins s σ H Q I h
  refine thn (hi pins s σ H _ I h) fun iv s1 ⟨y, H1, I1, ry, q1⟩ => thn (ho pins s1 σ H1 _ I1 q1) fun u s2 ⟨x, H2, I2, rx, a, ov, ex, g, q2⟩ => ?_
  subst ex
  obtain rfl : u = Value.ref a := rx
  exact d_notInN hu I2 g ry fun s3 I3 => ⟨.bl (!ov.isSome), H2, I3, rfl, q2⟩
end L2

set_option Elab.async false
set_option linter.all false
set_option maxRecDepth 100000
namespace L2
open PySem PySem.Spec PyProof.Rows
section
variable {X : Cx}
end
end L2

set_option Elab.async false
set_option linter.all false
set_option maxRecDepth 100000
namespace L2
open PySem PySem.Spec PyProof.Rows
section
variable {X : Cx}
end
theorem filt1 {α : Type} (f : α → Int) : ∀ (L : List α) (y : α), (L.map f).Nodup → y ∈ L → (L.filter fun x => f x == f y).length = 1
  | [], y, _, h => nomatch h
  | x :: L, y, n, h => by
    rw [List.map_cons, List.nodup_cons] at n
    rw [List.filter_cons]
    rcases List.mem_cons.mp h with rfl | h
    · rw [if_pos (by simp), List.length_cons, List.filter_eq_nil_iff.mpr (fun a ha e => n.1 (List.mem_map.mpr ⟨a, ha, by simpa using e⟩))]
      rfl
    · rw [if_neg (fun e => n.1 (List.mem_map.mpr ⟨y, h, (show f y = f x by rw [(show f x = f y by simpa using e)])⟩)), filt1 f L y n.2 h]
section
variable {prog : Program} {w : World} {A : Around} {E : Value → Shared → Prop} {s : Shared} {K : Type} [DecidableEq K] {knd : PySem.KeyKind prog w K}
theorem wp_mergeT {nm : String} {d o : Addr} {xs : List (List K × Addr × Value)} {Q : Unit → Shared → Prop} (hne : d ≠ o) (hs : (o == sysModules) = false) (dd : s.heap.DictOfH (tupleKind knd) d []) (od : s.heap.DictOfH (tupleKind knd) o xs)
    (nd : (xs.map fun x => (tupleKind knd).hash x.1).Nodup) (hz : xs.length ≤ sizeLine) (h : ∀ h', h'.DictOfH (tupleKind knd) d xs → Heap.SameBut d s.heap h' → Q () { s with heap := h' }) :
    wpAny (model prog w) A (Builtin.Dict.mergeDict nm d o) Q E s := by
  obtain ⟨o1, es1, ep1, g1, x1, d1, l1, _, _⟩ := id dd
  obtain ⟨o2, es2, ep2, g2, x2, d2, l2, i2, n2⟩ := id od
  unfold Builtin.Dict.mergeDict
  rw [if_neg (by simpa using hne)]
  refine wpAny_bind ?_
  unfold Builtin.Dict.showsAll
  rw [if_neg (by rw [hs]; exact Bool.false_ne_true)]
  refine wpAny_pure (wpAny_bind (wpAny_dictEntries g2 d2 ?_))
  dsimp only
  have z1 : es1 = #[] := by apply Array.ext'; rw [l1]; rfl
  subst z1
  cases xs with
  | nil =>
    have z2 : es2 = #[] := by apply Array.ext'; rw [l2]; rfl
    subst z2
    rw [if_neg (by simp)]
    refine wpAny_bind (wpAny_dictEpoch g2 d2 ?_)
    refine wpAny_bind (wpAny_dictEntries g2 d2 ?_)
    refine wpAny_bind (wpAny_of_eq (a := PUnit.unit) (by simp [Std.Legacy.Range.forIn_eq_forIn_range']) ?_)
    exact wpAny_pure (h _ dd (Heap.SameBut.refl _ _))
  | cons x xs =>
    have hfew : (decide (es2.size ≤ 8) && es2.all fun e => (keyPart e.key).isSome) = false := by
      rw [Bool.and_eq_false_iff]; right
      rw [← Array.all_toList, l2]
      rfl
    rw [hfew, if_pos (show (!false) = true from rfl)]
    refine wpAny_bind (wpAny_dictEntries g1 d1 ?_)
    rw [if_pos (show (#[] : Array DictEntry).isEmpty = true from rfl)]
    refine wpAny_bind ?_
    unfold Builtin.Dict.entriesForEmpty
    refine wpAny_bind (wpAny_dictEntries g2 d2 ?_)
    refine wpAny_bind ?_
    rw [← Array.forIn_toList]
    refine wpAny_forIn_list _ (fun rest b s' => s' = s ∧ ∀ e ∈ rest, e ∈ es2.toList) _ ?_ ?_ _ _ ⟨rfl, fun e he => he⟩
    · rintro e rest b s' ⟨rfl, hr⟩
      have he := hr e (List.mem_cons_self ..)
      rw [l2] at he
      obtain ⟨y, hy, rfl⟩ := List.mem_map.mp he
      obtain ⟨o3, its, n3, q1, q2, q3, q4⟩ := (show IsTupleKey knd s'.heap y.1 y.2.1 from i2 y hy)
      refine wpAny_bind ?_
      show wpAny _ _ (Builtin.Dict.quietEq (.ref y.2.1)) _ _ _
      unfold Builtin.Dict.quietEq
      refine wpAny_bind (wpAny_specialOf (T := "tuple") ⟨o3, q1, q2⟩ F.slot_tuple_eq.lookup (wpAny_pure ?_))
      rw [if_pos (by decide +kernel)]
      have hone : (es2.filter fun x => x.hash == (entryOfKey (tupleKind knd) y).hash).size = 1 := by
        rw [← Array.length_toList, Array.toList_filter, l2, List.filter_map, List.length_map]
        exact filt1 (fun x : List K × Addr × Value => (tupleKind knd).hash x.1) _ y nd hy
      rw [if_neg (by rw [hone]; decide)]
      exact wpAny_pure ⟨rfl, fun e he => hr e (List.mem_cons_of_mem _ he)⟩
    · rintro b s' ⟨rfl, _⟩
      refine wpAny_pure ?_
      have hes : es2.isEmpty = false := by
        cases hh : es2.isEmpty with
        | false => rfl
        | true => 
          rw [Array.isEmpty_iff] at hh
          rw [hh] at l2; cases l2
      rw [hes, if_pos (show (!false) = true from rfl)]
      refine wpAny_bind (wpAny_updateDictKeysTo g1 d1 ?_ ?_)
      · refine wpAny_pure (h _ ⟨_, es2, ep1 + 1, Heap.get?_update_self _ g1 (Obj.isFreed_of_dict (Obj.data_mapDictKeys d1 _)), x1.mapDictKeys _, Obj.data_mapDictKeys d1 _, l2, fun y hy => ?_, n2⟩ (Heap.SameBut.update _ _ _))
        obtain ⟨o3, its, n3, q1, q2, q3, q4⟩ := (show IsTupleKey knd s'.heap y.1 y.2.1 from i2 y hy)
        have ne : y.2.1 ≠ d := fun e => by rw [e, g1] at q1; cases q1; rw [x1.1] at q2; exact absurd q2 (by decide +kernel)
        exact ⟨o3, its, n3, ((Heap.SameBut.update s'.heap d _).2 _ ne).trans q1, q2, q3, q4⟩
      · show es2.size ≤ _
        rw [← Array.length_toList, l2, List.length_map]
        omega
/-- dict(d), d a dict whose keys are tuples, no two of one hash -/
theorem wp_dictT {o : Addr} {xs : List (List K × Addr × Value)} {Q : Value → Shared → Prop} (hs : (o == sysModules) = false) (od : s.heap.DictOfH (tupleKind knd) o xs)
    (nd : (xs.map fun x => (tupleKind knd).hash x.1).Nodup) (hz : xs.length ≤ sizeLine) (h : ∀ h', h'.DictOfH (tupleKind knd) s.heap.objs.size xs → Heap.SameBut s.heap.objs.size (s.heap.push { cls := .type "dict", data := .dict #[] }) h' → Q (.ref s.heap.objs.size) { s with heap := h' }) :
    wpAny (model prog w) A (call (.type "dict") [.ref o]) Q E s := by
  refine callType_codes F.kt_called_dict (F.kt_typeCall_dict_1 _) F.entry_dict_init (kt_code_dict_new (Q₁ := fun obj s₁ => obj = .ref s.heap.objs.size ∧ s₁ = { s with heap := s.heap.push { cls := .type "dict", data := .dict #[] } }) _ ⟨rfl, rfl⟩) ?_
  rintro obj s₁ ⟨rfl, rfl⟩
  have hne : s.heap.objs.size ≠ o := by
    obtain ⟨o2, es2, ep2, g2, _⟩ := od
    exact Nat.ne_of_gt (Heap.lt_size g2)
  have keep : ∀ b ob, s.heap.get? b = some ob → (s.heap.push { cls := .type "dict", data := .dict #[] }).get? b = some ob := fun b ob e => Heap.get?_push_of_some _ e
  have dd : (s.heap.push { cls := .type "dict", data := .dict #[] }).DictOfH (tupleKind knd) s.heap.objs.size [] := ⟨_, #[], 0, Heap.get?_push_size _ rfl, ⟨rfl, rfl, rfl⟩, rfl, rfl, fun _ h => (nomatch h), List.nodup_nil⟩
  have od' : (s.heap.push { cls := .type "dict", data := .dict #[] }).DictOfH (tupleKind knd) o xs := by
    obtain ⟨o2, es2, ep2, g2, x2, d2, l2, i2, n2⟩ := od
    refine ⟨o2, es2, ep2, keep _ _ g2, x2, d2, l2, fun y hy => ?_, n2⟩
    obtain ⟨o3, its, n3, q1, q⟩ := (show IsTupleKey knd s.heap y.1 y.2.1 from i2 y hy)
    exact ⟨o3, its, n3, keep _ _ q1, q⟩
  have td : Shared.TypeIs { s with heap := s.heap.push { cls := .type "dict", data := .dict #[] } } (.ref s.heap.objs.size) "dict" := ⟨_, Heap.get?_push_size _ rfl, rfl⟩
  have to : Shared.TypeIs { s with heap := s.heap.push { cls := .type "dict", data := .dict #[] } } (.ref o) "dict" := by
    obtain ⟨o2, es2, ep2, g2, x2, _⟩ := od'
    exact ⟨o2, g2, x2.1⟩
  refine ⟨td, F.args_dict_init_2 _ _, ?_⟩
  unfold Builtin.«dict.__init__»
  refine wpAny_bind ?_
  unfold Builtin.Dict.selfAndRest
  refine wpAny_bind (wpAny_notOrdered_dict td ?_)
  show wpAny _ _ (Builtin.Dict.addrOf (.ref s.heap.objs.size) >>= _) _ _ _
  refine wpAny_bind (wpAny_of_eq (a := s.heap.objs.size) rfl (wpAny_pure ?_))
  show wpAny _ _ (Builtin.Dict.updateFrom "dict.__init__" s.heap.objs.size (.ref o) [] .none) _ _ _
  unfold Builtin.Dict.updateFrom
  refine wpAny_bind (wpAny_typeOf to ?_)
  rw [if_neg (by decide +kernel)]
  refine wpAny_bind ?_
  unfold Builtin.Dict.merge
  refine wpAny_bind ?_
  unfold Builtin.Dict.readDirectly
  refine wpAny_bind (wpAny_isInstance to isSubtype_dict_dict ?_)
  rw [if_neg (by decide)]
  refine wpAny_bind (wpAny_specialOf to F.slot_dict_iter.lookup (wpAny_pure ?_))
  rw [if_pos (by decide +kernel)]
  refine wpAny_bind (wpAny_of_eq (a := o) rfl ?_)
  refine wp_mergeT (knd := knd) hne hs dd od' nd hz fun h' dd' sb => ?_
  refine wpAny_bind (wpAny_of_eq (a := ()) rfl ?_)
  exact wpAny_pure ⟨rfl, h h' dd' sb⟩
end

theorem nodup_map_inj {α β : Type} (f : α → β) : ∀ {l : List α}, l.Nodup → (∀ a ∈ l, ∀ b ∈ l, f a = f b → a = b) → (l.map f).Nodup
  | [], _, _ => List.nodup_nil
  | x :: l, n, h => by
    rw [List.nodup_cons] at n
    rw [List.map_cons, List.nodup_cons]
    refine ⟨fun m => ?_, nodup_map_inj f n.2 (fun a ha b hb => h a (List.mem_cons_of_mem _ ha) b (List.mem_cons_of_mem _ hb))⟩
    obtain ⟨y, hy, e⟩ := List.mem_map.mp m
    exact n.1 (h y (List.mem_cons_of_mem _ hy) x (List.mem_cons_self ..) e ▸ hy)
/-- the hash of a tuple of keys -/
abbrev hashT (P : Program) (w : World) (k : List Key) : Int := (tupleKind (mixKind P w)).hash k
section
variable {X : Cx}
theorem call_dictK : CallR X (.type "dict") (fun xs H Q => ∃ p kvs, xs = [.ref p] ∧ Rd H p (.dK kvs) ∧ ∀ l, H l = none → Q (.ref l) (upd H l (.dK kvs))) := by
  intro pins s σ H xs us Q I r h
  obtain ⟨p, kvs, rfl, hp, q⟩ := h
  obtain ⟨u, rfl, ru⟩ := vals1 r
  cases (show u = Value.ref p from ru)
  exact d_copyOf I hp fun l s' hl I' => ⟨.ref l, _, I', rfl, q l hl⟩
theorem call_dictT : CallR X (.type "dict") (fun xs H Q => ∃ p kvs, xs = [.ref p] ∧ Rd H p (.dT kvs) ∧ (∀ k1 ∈ kvs.map (·.1), ∀ k2 ∈ kvs.map (·.1), hashT X.prog X.w k1 = hashT X.prog X.w k2 → k1 = k2) ∧ ∀ l, H l = none → Q (.ref l) (upd H l (.dT kvs))) := by
  intro pins s σ H xs us Q I r h
  obtain ⟨p, kvs, rfl, hp, hi, q⟩ := h
  obtain ⟨u, rfl, ru⟩ := vals1 r
  cases (show u = Value.ref p from ru)
  obtain ⟨z, hd, xs, rel, dd⟩ := dt_rd I.hok hp
  have ek : xs.map (·.1) = kvs.map (·.1) := by
    clear dd z hi hp q
    induction rel with
    | nil => rfl
    | cons a b ih => rw [List.map_cons, List.map_cons, ih, a.1]
  have el : xs.length = kvs.length := by have := congrArg List.length ek; rwa [List.length_map, List.length_map] at this
  have nd : (xs.map fun x => (tupleKind (mixKind X.prog X.w)).hash x.1).Nodup := by
    obtain ⟨_, _, _, _, _, _, _, _, n2⟩ := id dd
    have e : (xs.map fun x => (tupleKind (mixKind X.prog X.w)).hash x.1) = (xs.map (·.1)).map (hashT X.prog X.w) := by rw [List.map_map]; rfl
    rw [e]
    rw [ek] at n2 ⊢
    exact nodup_map_inj _ n2 hi
  refine wp_dictT (knd := mixKind X.prog X.w) hd dd nd (by omega) fun h' dd' sb => ?_
  obtain ⟨o, es, ep, g1, g2, g3, g4, g5, g6⟩ := dd'
  refine ⟨.ref s.heap.objs.size, _, I.laid (a := s.heap.objs.size) (o := .dT kvs) (t' := s.toks) (fun b q hq => ?_) (Nat.le_refl _) ?_, rfl, q _ (I.hok.fresh (Nat.le_refl _))⟩
  · exact (sb.2 b (Nat.ne_of_lt (Heap.lt_size hq))).trans (Heap.get?_push_of_some _ hq)
  · refine ⟨z, beq_eq_false_iff_ne.mpr (Ne.symm (Nat.ne_of_lt I.big)), xs, ?_, o, es, ep, g1, g2, g3, g4, g6⟩
    refine rel.keeps fun b ys hb => ?_
    rw [upd_ne (fun e => by rw [e, I.hok.fresh (Nat.le_refl _)] at hb; cases hb)]
    exact hb
end
end L2

set_option Elab.async false
set_option linter.all false
set_option maxRecDepth 100000
namespace L2
open PySem PySem.Spec PyProof.Rows
section
variable {X : Cx}
/-- the same ints in two lists -/
def rLst (K : PySem.W.Frag) (neg : Bool) : R2 := fun x y H Q => ∃ (a b : Addr) (ns ms : List Int), x = .ref a ∧ y = .ref b ∧ SqL K H a (ns.map V.int) ∧ SqL K H b (ms.map V.int) ∧ Q (.bl (if neg then !decide (ns = ms) else decide (ns = ms))) H
/-- a = b = value -/
def tAsg2 (te : TE) (g1 g2 : TG) : TS := fun D σ H => te σ H fun x H1 => g1 x σ H1 fun σ2 H2 => g2 x σ2 H2 D.nx
end
end L2


set_option Elab.async false
set_option linter.all false
set_option maxRecDepth 100000
set_option maxHeartbeats 4000000
namespace P
open PySem L2

def top (i : Nat) : Stmt := PySem.Challenge.pw_lazyrails_k21_twins.main.body.getD i (.Pass ⟨0, 0, 0, 0⟩)
abbrev s_law : Stmt := top 54
abbrev s_draws : Stmt := top 35
abbrev s_set : Stmt := top 50
abbrev s_built : Stmt := top 44
abbrev s_kind : Stmt := top 41
abbrev s_kinds : Stmt := top 40
abbrev s_many : Stmt := top 42
abbrev s_linked : Stmt := top 46
abbrev s_ends : Stmt := top 45
abbrev s_thrown : Stmt := top 47
abbrev s_size : Stmt := top 49
abbrev s_links : Stmt := top 51
abbrev s_walk : Stmt := top 48
abbrev s_passing : Stmt := top 43
abbrev s_run : Stmt := top 30
abbrev s_next_step : Stmt := top 29
abbrev s_passage : Stmt := top 26
abbrev s_check_end : Stmt := top 23
abbrev s_ends_of : Stmt := top 21
abbrev s_is_point : Stmt := top 22
abbrev s_check_side : Stmt := top 24
abbrev s_point_passage : Stmt := top 27
abbrev s_twin : Stmt := top 15
abbrev s_same : Stmt := top 52
abbrev s_is_row : Stmt := top 39
abbrev s_is : Stmt := top 37
abbrev s_whole : Stmt := top 36
abbrev s_is_end : Stmt := top 38
abbrev s_pieces : Stmt := top 53
abbrev s_back : Stmt := top 31
abbrev s_check_note : Stmt := top 25
abbrev s_Yard_init : Stmt := inClass (top 33) 0
abbrev s_Yard_lift : Stmt := inClass (top 33) 3
abbrev s_Yard_check_piece : Stmt := inClass (top 33) 23
abbrev s_Yard_end_trail : Stmt := inClass (top 33) 22
abbrev s_Yard_lay : Stmt := inClass (top 33) 1
abbrev s_Yard_check_rod : Stmt := inClass (top 33) 24
abbrev s_Yard_new_rod : Stmt := inClass (top 33) 2
abbrev s_Yard_rod : Stmt := inClass (top 33) 16
abbrev s_Yard_put : Stmt := inClass (top 33) 7
abbrev s_Yard_check_there : Stmt := inClass (top 33) 25
abbrev s_Yard_link : Stmt := inClass (top 33) 4
abbrev s_Yard_throw : Stmt := inClass (top 33) 6
abbrev s_Yard_carry : Stmt := inClass (top 33) 9
abbrev s_Yard_engine : Stmt := inClass (top 33) 19
abbrev s_Yard_kind : Stmt := inClass (top 33) 14
abbrev s_Yard_mate : Stmt := inClass (top 33) 18
abbrev s_Yard_side : Stmt := inClass (top 33) 17
abbrev s_Yard_make_twin : Stmt := inClass (top 33) 11
abbrev s_Yard_pieces : Stmt := inClass (top 33) 12
abbrev s_Yard_bells : Stmt := inClass (top 33) 20
abbrev s_Yard_steps : Stmt := inClass (top 33) 21
abbrev s_Yard_note : Stmt := inClass (top 33) 15
abbrev s_Yard_take_back : Stmt := inClass (top 33) 10
structure Adr where
  f_law : Addr
  d_law : FuncData
  v_law : Value
  f_draws : Addr
  d_draws : FuncData
  v_draws : Value
  f_set : Addr
  d_set : FuncData
  v_set : Value
  f_built : Addr
  d_built : FuncData
  v_built : Value
  f_kind : Addr
  d_kind : FuncData
  v_kind : Value
  f_kinds : Addr
  d_kinds : FuncData
  v_kinds : Value
  f_many : Addr
  d_many : FuncData
  v_many : Value
  f_linked : Addr
  d_linked : FuncData
  v_linked : Value
  f_ends : Addr
  d_ends : FuncData
  v_ends : Value
  f_thrown : Addr
  d_thrown : FuncData
  v_thrown : Value
  f_size : Addr
  d_size : FuncData
  v_size : Value
  f_links : Addr
  d_links : FuncData
  v_links : Value
  f_walk : Addr
  d_walk : FuncData
  v_walk : Value
  f_passing : Addr
  d_passing : FuncData
  v_passing : Value
  f_run : Addr
  d_run : FuncData
  v_run : Value
  f_next_step : Addr
  d_next_step : FuncData
  v_next_step : Value
  f_passage : Addr
  d_passage : FuncData
  v_passage : Value
  f_check_end : Addr
  d_check_end : FuncData
  v_check_end : Value
  f_ends_of : Addr
  d_ends_of : FuncData
  v_ends_of : Value
  f_is_point : Addr
  d_is_point : FuncData
  v_is_point : Value
  f_check_side : Addr
  d_check_side : FuncData
  v_check_side : Value
  f_point_passage : Addr
  d_point_passage : FuncData
  v_point_passage : Value
  f_twin : Addr
  d_twin : FuncData
  v_twin : Value
  f_same : Addr
  d_same : FuncData
  v_same : Value
  f_is_row : Addr
  d_is_row : FuncData
  v_is_row : Value
  f_is : Addr
  d_is : FuncData
  v_is : Value
  f_whole : Addr
  d_whole : FuncData
  v_whole : Value
  f_is_end : Addr
  d_is_end : FuncData
  v_is_end : Value
  f_pieces : Addr
  d_pieces : FuncData
  v_pieces : Value
  f_back : Addr
  d_back : FuncData
  v_back : Value
  f_check_note : Addr
  d_check_note : FuncData
  v_check_note : Value
  f_Yard_init : Addr
  d_Yard_init : FuncData
  v_Yard_init : Value
  f_Yard_lift : Addr
  d_Yard_lift : FuncData
  v_Yard_lift : Value
  f_Yard_check_piece : Addr
  d_Yard_check_piece : FuncData
  v_Yard_check_piece : Value
  f_Yard_end_trail : Addr
  d_Yard_end_trail : FuncData
  v_Yard_end_trail : Value
  f_Yard_lay : Addr
  d_Yard_lay : FuncData
  v_Yard_lay : Value
  f_Yard_check_rod : Addr
  d_Yard_check_rod : FuncData
  v_Yard_check_rod : Value
  f_Yard_new_rod : Addr
  d_Yard_new_rod : FuncData
  v_Yard_new_rod : Value
  f_Yard_rod : Addr
  d_Yard_rod : FuncData
  v_Yard_rod : Value
  f_Yard_put : Addr
  d_Yard_put : FuncData
  v_Yard_put : Value
  f_Yard_check_there : Addr
  d_Yard_check_there : FuncData
  v_Yard_check_there : Value
  f_Yard_link : Addr
  d_Yard_link : FuncData
  v_Yard_link : Value
  f_Yard_throw : Addr
  d_Yard_throw : FuncData
  v_Yard_throw : Value
  f_Yard_carry : Addr
  d_Yard_carry : FuncData
  v_Yard_carry : Value
  f_Yard_engine : Addr
  d_Yard_engine : FuncData
  v_Yard_engine : Value
  f_Yard_kind : Addr
  d_Yard_kind : FuncData
  v_Yard_kind : Value
  f_Yard_mate : Addr
  d_Yard_mate : FuncData
  v_Yard_mate : Value
  f_Yard_side : Addr
  d_Yard_side : FuncData
  v_Yard_side : Value
  f_Yard_make_twin : Addr
  d_Yard_make_twin : FuncData
  v_Yard_make_twin : Value
  f_Yard_pieces : Addr
  d_Yard_pieces : FuncData
  v_Yard_pieces : Value
  f_Yard_bells : Addr
  d_Yard_bells : FuncData
  v_Yard_bells : Value
  f_Yard_steps : Addr
  d_Yard_steps : FuncData
  v_Yard_steps : Value
  f_Yard_note : Addr
  d_Yard_note : FuncData
  v_Yard_note : Value
  f_Yard_take_back : Addr
  d_Yard_take_back : FuncData
  v_Yard_take_back : Value
  c_Yard : Addr
  u_ENDS : Value
  u_LAST_NOTE : Value
  u_POINTS : Value
  u_STEM : Value
structure Txt (K : PySem.W.Frag) (mg : Str → Option Value) (t : Adr) : Prop where
  F_law : FunG K "law" "law" s_law t.v_law t.f_law t.d_law
  F_draws : FunG K "_law_draws" "_law_draws" s_draws t.v_draws t.f_draws t.d_draws
  F_set : FunG K "_law_set" "_law_set" s_set t.v_set t.f_set t.d_set
  F_built : FunG K "_law_built" "_law_built" s_built t.v_built t.f_built t.d_built
  F_kind : FunG K "_law_kind" "_law_kind" s_kind t.v_kind t.f_kind t.d_kind
  F_kinds : FunG K "_law_kinds" "_law_kinds" s_kinds t.v_kinds t.f_kinds t.d_kinds
  F_many : FunG K "_law_many" "_law_many" s_many t.v_many t.f_many t.d_many
  F_linked : FunG K "_law_linked" "_law_linked" s_linked t.v_linked t.f_linked t.d_linked
  F_ends : FunG K "_law_ends" "_law_ends" s_ends t.v_ends t.f_ends t.d_ends
  F_thrown : FunG K "_law_thrown" "_law_thrown" s_thrown t.v_thrown t.f_thrown t.d_thrown
  F_size : FunG K "_law_size" "_law_size" s_size t.v_size t.f_size t.d_size
  F_links : FunG K "_law_links" "_law_links" s_links t.v_links t.f_links t.d_links
  F_walk : FunG K "_law_walk" "_law_walk" s_walk t.v_walk t.f_walk t.d_walk
  F_passing : FunG K "_law_passing" "_law_passing" s_passing t.v_passing t.f_passing t.d_passing
  F_run : FunG K "run" "run" s_run t.v_run t.f_run t.d_run
  F_next_step : FunG K "next_step" "next_step" s_next_step t.v_next_step t.f_next_step t.d_next_step
  F_passage : FunG K "passage" "passage" s_passage t.v_passage t.f_passage t.d_passage
  F_check_end : FunG K "check_end" "check_end" s_check_end t.v_check_end t.f_check_end t.d_check_end
  F_ends_of : FunG K "ends_of" "ends_of" s_ends_of t.v_ends_of t.f_ends_of t.d_ends_of
  F_is_point : FunG K "is_point" "is_point" s_is_point t.v_is_point t.f_is_point t.d_is_point
  F_check_side : FunG K "check_side" "check_side" s_check_side t.v_check_side t.f_check_side t.d_check_side
  F_point_passage : FunG K "point_passage" "point_passage" s_point_passage t.v_point_passage t.f_point_passage t.d_point_passage
  F_twin : FunG K "twin" "twin" s_twin t.v_twin t.f_twin t.d_twin
  F_same : FunG K "_law_same" "_law_same" s_same t.v_same t.f_same t.d_same
  F_is_row : FunG K "_law_is_row" "_law_is_row" s_is_row t.v_is_row t.f_is_row t.d_is_row
  F_is : FunG K "_law_is" "_law_is" s_is t.v_is t.f_is t.d_is
  F_whole : FunG K "_law_whole" "_law_whole" s_whole t.v_whole t.f_whole t.d_whole
  F_is_end : FunG K "_law_is_end" "_law_is_end" s_is_end t.v_is_end t.f_is_end t.d_is_end
  F_pieces : FunG K "_law_pieces" "_law_pieces" s_pieces t.v_pieces t.f_pieces t.d_pieces
  F_back : FunG K "back" "back" s_back t.v_back t.f_back t.d_back
  F_check_note : FunG K "check_note" "check_note" s_check_note t.v_check_note t.f_check_note t.d_check_note
  F_Yard_init : FunG K "__init__" "Yard.__init__" s_Yard_init t.v_Yard_init t.f_Yard_init t.d_Yard_init
  F_Yard_lift : FunG K "lift" "Yard.lift" s_Yard_lift t.v_Yard_lift t.f_Yard_lift t.d_Yard_lift
  F_Yard_check_piece : FunG K "check_piece" "Yard.check_piece" s_Yard_check_piece t.v_Yard_check_piece t.f_Yard_check_piece t.d_Yard_check_piece
  F_Yard_end_trail : FunG K "end_trail" "Yard.end_trail" s_Yard_end_trail t.v_Yard_end_trail t.f_Yard_end_trail t.d_Yard_end_trail
  F_Yard_lay : FunG K "lay" "Yard.lay" s_Yard_lay t.v_Yard_lay t.f_Yard_lay t.d_Yard_lay
  F_Yard_check_rod : FunG K "check_rod" "Yard.check_rod" s_Yard_check_rod t.v_Yard_check_rod t.f_Yard_check_rod t.d_Yard_check_rod
  F_Yard_new_rod : FunG K "new_rod" "Yard.new_rod" s_Yard_new_rod t.v_Yard_new_rod t.f_Yard_new_rod t.d_Yard_new_rod
  F_Yard_rod : FunG K "rod" "Yard.rod" s_Yard_rod t.v_Yard_rod t.f_Yard_rod t.d_Yard_rod
  F_Yard_put : FunG K "put" "Yard.put" s_Yard_put t.v_Yard_put t.f_Yard_put t.d_Yard_put
  F_Yard_check_there : FunG K "check_there" "Yard.check_there" s_Yard_check_there t.v_Yard_check_there t.f_Yard_check_there t.d_Yard_check_there
  F_Yard_link : FunG K "link" "Yard.link" s_Yard_link t.v_Yard_link t.f_Yard_link t.d_Yard_link
  F_Yard_throw : FunG K "throw" "Yard.throw" s_Yard_throw t.v_Yard_throw t.f_Yard_throw t.d_Yard_throw
  F_Yard_carry : FunG K "carry" "Yard.carry" s_Yard_carry t.v_Yard_carry t.f_Yard_carry t.d_Yard_carry
  F_Yard_engine : FunG K "engine" "Yard.engine" s_Yard_engine t.v_Yard_engine t.f_Yard_engine t.d_Yard_engine
  F_Yard_kind : FunG K "kind" "Yard.kind" s_Yard_kind t.v_Yard_kind t.f_Yard_kind t.d_Yard_kind
  F_Yard_mate : FunG K "mate" "Yard.mate" s_Yard_mate t.v_Yard_mate t.f_Yard_mate t.d_Yard_mate
  F_Yard_side : FunG K "side" "Yard.side" s_Yard_side t.v_Yard_side t.f_Yard_side t.d_Yard_side
  F_Yard_make_twin : FunG K "make_twin" "Yard.make_twin" s_Yard_make_twin t.v_Yard_make_twin t.f_Yard_make_twin t.d_Yard_make_twin
  F_Yard_pieces : FunG K "pieces" "Yard.pieces" s_Yard_pieces t.v_Yard_pieces t.f_Yard_pieces t.d_Yard_pieces
  F_Yard_bells : FunG K "bells" "Yard.bells" s_Yard_bells t.v_Yard_bells t.f_Yard_bells t.d_Yard_bells
  F_Yard_steps : FunG K "steps" "Yard.steps" s_Yard_steps t.v_Yard_steps t.f_Yard_steps t.d_Yard_steps
  F_Yard_note : FunG K "note" "Yard.note" s_Yard_note t.v_Yard_note t.f_Yard_note t.d_Yard_note
  F_Yard_take_back : FunG K "take_back" "Yard.take_back" s_Yard_take_back t.v_Yard_take_back t.f_Yard_take_back t.d_Yard_take_back
  m_law : mg "law" = some (.ref t.f_law)
  e_law : t.v_law = .none
  m_draws : mg "_law_draws" = some (.ref t.f_draws)
  e_draws : t.v_draws = .none
  m_set : mg "_law_set" = some (.ref t.f_set)
  e_set : t.v_set = .none
  m_built : mg "_law_built" = some (.ref t.f_built)
  e_built : t.v_built = .none
  m_kind : mg "_law_kind" = some (.ref t.f_kind)
  e_kind : t.v_kind = .none
  m_kinds : mg "_law_kinds" = some (.ref t.f_kinds)
  e_kinds : t.v_kinds = .none
  m_many : mg "_law_many" = some (.ref t.f_many)
  e_many : t.v_many = .none
  m_linked : mg "_law_linked" = some (.ref t.f_linked)
  e_linked : t.v_linked = .none
  m_ends : mg "_law_ends" = some (.ref t.f_ends)
  e_ends : t.v_ends = .none
  m_thrown : mg "_law_thrown" = some (.ref t.f_thrown)
  e_thrown : t.v_thrown = .none
  m_size : mg "_law_size" = some (.ref t.f_size)
  e_size : t.v_size = .none
  m_links : mg "_law_links" = some (.ref t.f_links)
  e_links : t.v_links = .none
  m_walk : mg "_law_walk" = some (.ref t.f_walk)
  e_walk : t.v_walk = .none
  m_passing : mg "_law_passing" = some (.ref t.f_passing)
  e_passing : t.v_passing = .none
  m_run : mg "run" = some (.ref t.f_run)
  e_run : t.v_run = .none
  m_next_step : mg "next_step" = some (.ref t.f_next_step)
  e_next_step : t.v_next_step = .none
  m_passage : mg "passage" = some (.ref t.f_passage)
  e_passage : t.v_passage = .none
  m_check_end : mg "check_end" = some (.ref t.f_check_end)
  e_check_end : t.v_check_end = .none
  m_ends_of : mg "ends_of" = some (.ref t.f_ends_of)
  e_ends_of : t.v_ends_of = .none
  m_is_point : mg "is_point" = some (.ref t.f_is_point)
  e_is_point : t.v_is_point = .none
  m_check_side : mg "check_side" = some (.ref t.f_check_side)
  e_check_side : t.v_check_side = .none
  m_point_passage : mg "point_passage" = some (.ref t.f_point_passage)
  e_point_passage : t.v_point_passage = .none
  m_twin : mg "twin" = some (.ref t.f_twin)
  e_twin : t.v_twin = .none
  m_same : mg "_law_same" = some (.ref t.f_same)
  e_same : t.v_same = .none
  m_is_row : mg "_law_is_row" = some (.ref t.f_is_row)
  e_is_row : t.v_is_row = .none
  m_is : mg "_law_is" = some (.ref t.f_is)
  e_is : t.v_is = .none
  m_whole : mg "_law_whole" = some (.ref t.f_whole)
  e_whole : t.v_whole = .none
  m_is_end : mg "_law_is_end" = some (.ref t.f_is_end)
  e_is_end : t.v_is_end = .none
  m_pieces : mg "_law_pieces" = some (.ref t.f_pieces)
  e_pieces : t.v_pieces = .none
  m_back : mg "back" = some (.ref t.f_back)
  e_back : t.v_back = .none
  m_check_note : mg "check_note" = some (.ref t.f_check_note)
  e_check_note : t.v_check_note = .none
  e_Yard_init : t.v_Yard_init = .none
  M_Yard_lift : Meth K t.c_Yard "lift" t.f_Yard_lift
  e_Yard_lift : t.v_Yard_lift = .none
  M_Yard_check_piece : Meth K t.c_Yard "check_piece" t.f_Yard_check_piece
  e_Yard_check_piece : t.v_Yard_check_piece = .none
  M_Yard_end_trail : Meth K t.c_Yard "end_trail" t.f_Yard_end_trail
  e_Yard_end_trail : t.v_Yard_end_trail = .none
  M_Yard_lay : Meth K t.c_Yard "lay" t.f_Yard_lay
  D_Yard_lay : ∃ (T : Addr) (od : Option Addr) (n : Nat) (sl : Array (Option Value)) (tk0 : Tok), t.v_Yard_lay = .ref T ∧ K.lookup T = some ⟨.type "tuple", od, .seq #[.int 0 tk0, .none] n, sl⟩
  M_Yard_check_rod : Meth K t.c_Yard "check_rod" t.f_Yard_check_rod
  e_Yard_check_rod : t.v_Yard_check_rod = .none
  M_Yard_new_rod : Meth K t.c_Yard "new_rod" t.f_Yard_new_rod
  D_Yard_new_rod : ∃ (T : Addr) (od : Option Addr) (n : Nat) (sl : Array (Option Value)) (tk0 : Tok), t.v_Yard_new_rod = .ref T ∧ K.lookup T = some ⟨.type "tuple", od, .seq #[.int 1 tk0] n, sl⟩
  M_Yard_rod : Meth K t.c_Yard "rod" t.f_Yard_rod
  e_Yard_rod : t.v_Yard_rod = .none
  M_Yard_put : Meth K t.c_Yard "put" t.f_Yard_put
  e_Yard_put : t.v_Yard_put = .none
  M_Yard_check_there : Meth K t.c_Yard "check_there" t.f_Yard_check_there
  e_Yard_check_there : t.v_Yard_check_there = .none
  M_Yard_link : Meth K t.c_Yard "link" t.f_Yard_link
  e_Yard_link : t.v_Yard_link = .none
  M_Yard_throw : Meth K t.c_Yard "throw" t.f_Yard_throw
  e_Yard_throw : t.v_Yard_throw = .none
  M_Yard_carry : Meth K t.c_Yard "carry" t.f_Yard_carry
  e_Yard_carry : t.v_Yard_carry = .none
  M_Yard_engine : Meth K t.c_Yard "engine" t.f_Yard_engine
  e_Yard_engine : t.v_Yard_engine = .none
  M_Yard_kind : Meth K t.c_Yard "kind" t.f_Yard_kind
  e_Yard_kind : t.v_Yard_kind = .none
  M_Yard_mate : Meth K t.c_Yard "mate" t.f_Yard_mate
  e_Yard_mate : t.v_Yard_mate = .none
  M_Yard_side : Meth K t.c_Yard "side" t.f_Yard_side
  e_Yard_side : t.v_Yard_side = .none
  M_Yard_make_twin : Meth K t.c_Yard "make_twin" t.f_Yard_make_twin
  e_Yard_make_twin : t.v_Yard_make_twin = .none
  M_Yard_pieces : Meth K t.c_Yard "pieces" t.f_Yard_pieces
  e_Yard_pieces : t.v_Yard_pieces = .none
  M_Yard_bells : Meth K t.c_Yard "bells" t.f_Yard_bells
  e_Yard_bells : t.v_Yard_bells = .none
  M_Yard_steps : Meth K t.c_Yard "steps" t.f_Yard_steps
  e_Yard_steps : t.v_Yard_steps = .none
  M_Yard_note : Meth K t.c_Yard "note" t.f_Yard_note
  e_Yard_note : t.v_Yard_note = .none
  M_Yard_take_back : Meth K t.c_Yard "take_back" t.f_Yard_take_back
  e_Yard_take_back : t.v_Yard_take_back = .none
  cl_Yard : Cls K t.c_Yard
  m_Yard : mg "Yard" = some (.ref t.c_Yard)
  mk_Yard : Mk K t.c_Yard t.f_Yard_init
  n_Yard_next_piece : NoAttr K t.c_Yard "next_piece"
  n_Yard_kinds : NoAttr K t.c_Yard "kinds"
  n_Yard_notes : NoAttr K t.c_Yard "notes"
  n_Yard_rods_under : NoAttr K t.c_Yard "rods_under"
  n_Yard_sides : NoAttr K t.c_Yard "sides"
  n_Yard_mates : NoAttr K t.c_Yard "mates"
  n_Yard_engine_end : NoAttr K t.c_Yard "engine_end"
  n_Yard_rung : NoAttr K t.c_Yard "rung"
  n_Yard_trail : NoAttr K t.c_Yard "trail"
  z_abs : mg "abs" = none
  z_all : mg "all" = none
  z_bool : mg "bool" = none
  z_dict : mg "dict" = none
  z_enumerate : mg "enumerate" = none
  z_int : mg "int" = none
  z_isinstance : mg "isinstance" = none
  z_len : mg "len" = none
  z_list : mg "list" = none
  z_max : mg "max" = none
  z_min : mg "min" = none
  z_range : mg "range" = none
  z_tuple : mg "tuple" = none
  z_zip : mg "zip" = none
  g_ENDS : mg "ENDS" = some t.u_ENDS
  x_ENDS : ∃ a, t.u_ENDS = .ref a ∧ TabK K a [("line", .int 2), ("bell", .int 2), ("stop", .int 1), ("still", .int 3), ("lazy", .int 3), ("turning", .int 3)]
  g_LAST_NOTE : mg "LAST_NOTE" = some t.u_LAST_NOTE
  r_LAST_NOTE : RelV (.int 9999) t.u_LAST_NOTE
  g_POINTS : mg "POINTS" = some t.u_POINTS
  x_POINTS : ∃ (a : Addr) (o : Obj) (its : Array Value) (n : Nat), t.u_POINTS = .ref a ∧ K.lookup a = some o ∧ o.cls = .type "tuple" ∧ o.data = .seq its n ∧ its.size ≤ sizeLine ∧ Vals [.str "still", .str "lazy", .str "turning"] its.toList
  g_STEM : mg "STEM" = some t.u_STEM
  r_STEM : RelV (.int 0) t.u_STEM
section
variable {K : PySem.W.Frag} {mg : Str → Option Value} {t : Adr}
theorem b_draws (T : Txt K mg t) : Binds K t.d_draws ["_law_script", "_law_many_here"] [] := (T.e_draws ▸ T.F_draws).binds fun _ _ _ _ _ _ us hl => match us, hl with | [_, _], _ => rfl
theorem b_set (T : Txt K mg t) : Binds K t.d_set ["_law_d", "_law_at"] [] := (T.e_set ▸ T.F_set).binds fun _ _ _ _ _ _ us hl => match us, hl with | [_, _], _ => rfl
theorem b_built (T : Txt K mg t) : Binds K t.d_built ["_law_d", "_law_at", "_law_many_here"] [] := (T.e_built ▸ T.F_built).binds fun _ _ _ _ _ _ us hl => match us, hl with | [_, _, _], _ => rfl
theorem b_kind (T : Txt K mg t) : Binds K t.d_kind ["_law_draw"] [] := (T.e_kind ▸ T.F_kind).binds fun _ _ _ _ _ _ us hl => match us, hl with | [_], _ => rfl
theorem b_kinds (T : Txt K mg t) : Binds K t.d_kinds [] [] := (T.e_kinds ▸ T.F_kinds).binds fun _ _ _ _ _ _ us hl => match us, hl with | [], _ => rfl
theorem b_many (T : Txt K mg t) : Binds K t.d_many ["_law_kind_here"] [] := (T.e_many ▸ T.F_many).binds fun _ _ _ _ _ _ us hl => match us, hl with | [_], _ => rfl
theorem b_linked (T : Txt K mg t) : Binds K t.d_linked ["_law_yard", "_law_kinds_here", "_law_d", "_law_at", "_law_many_here"] [] := (T.e_linked ▸ T.F_linked).binds fun _ _ _ _ _ _ us hl => match us, hl with | [_, _, _, _, _], _ => rfl
theorem b_ends (T : Txt K mg t) : Binds K t.d_ends ["_law_kinds_here"] [] := (T.e_ends ▸ T.F_ends).binds fun _ _ _ _ _ _ us hl => match us, hl with | [_], _ => rfl
theorem b_thrown (T : Txt K mg t) : Binds K t.d_thrown ["_law_yard", "_law_sides", "_law_d", "_law_at"] [] := (T.e_thrown ▸ T.F_thrown).binds fun _ _ _ _ _ _ us hl => match us, hl with | [_, _, _, _], _ => rfl
theorem b_size (T : Txt K mg t) : Binds K t.d_size ["_law_draw"] [] := (T.e_size ▸ T.F_size).binds fun _ _ _ _ _ _ us hl => match us, hl with | [_], _ => rfl
theorem b_links (T : Txt K mg t) : Binds K t.d_links ["_law_draw"] [] := (T.e_links ▸ T.F_links).binds fun _ _ _ _ _ _ us hl => match us, hl with | [_], _ => rfl
theorem b_walk (T : Txt K mg t) : Binds K t.d_walk ["_law_kinds_here", "_law_notes", "_law_rods", "_law_sides", "_law_mates", "_law_rung", "_law_at", "_law_most"] [] := (T.e_walk ▸ T.F_walk).binds fun _ _ _ _ _ _ us hl => match us, hl with | [_, _, _, _, _, _, _, _], _ => rfl
theorem b_passing (T : Txt K mg t) : Binds K t.d_passing ["_law_kind_here", "_law_place", "_law_side"] [] := (T.e_passing ▸ T.F_passing).binds fun _ _ _ _ _ _ us hl => match us, hl with | [_, _, _], _ => rfl
theorem b_run (T : Txt K mg t) : Binds K t.d_run ["yard", "most"] [] := (T.e_run ▸ T.F_run).binds fun _ _ _ _ _ _ us hl => match us, hl with | [_, _], _ => rfl
theorem b_next_step (T : Txt K mg t) : Binds K t.d_next_step ["yard"] [] := (T.e_next_step ▸ T.F_next_step).binds fun _ _ _ _ _ _ us hl => match us, hl with | [_], _ => rfl
theorem b_passage (T : Txt K mg t) : Binds K t.d_passage ["kind", "end", "side"] [] := (T.e_passage ▸ T.F_passage).binds fun _ _ _ _ _ _ us hl => match us, hl with | [_, _, _], _ => rfl
theorem b_check_end (T : Txt K mg t) : Binds K t.d_check_end ["kind", "end"] [] := (T.e_check_end ▸ T.F_check_end).binds fun _ _ _ _ _ _ us hl => match us, hl with | [_, _], _ => rfl
theorem b_ends_of (T : Txt K mg t) : Binds K t.d_ends_of ["kind"] [] := (T.e_ends_of ▸ T.F_ends_of).binds fun _ _ _ _ _ _ us hl => match us, hl with | [_], _ => rfl
theorem b_is_point (T : Txt K mg t) : Binds K t.d_is_point ["kind"] [] := (T.e_is_point ▸ T.F_is_point).binds fun _ _ _ _ _ _ us hl => match us, hl with | [_], _ => rfl
theorem b_check_side (T : Txt K mg t) : Binds K t.d_check_side ["side"] [] := (T.e_check_side ▸ T.F_check_side).binds fun _ _ _ _ _ _ us hl => match us, hl with | [_], _ => rfl
theorem b_point_passage (T : Txt K mg t) : Binds K t.d_point_passage ["kind", "end", "side"] [] := (T.e_point_passage ▸ T.F_point_passage).binds fun _ _ _ _ _ _ us hl => match us, hl with | [_, _, _], _ => rfl
theorem b_twin (T : Txt K mg t) : Binds K t.d_twin ["yard"] [] := (T.e_twin ▸ T.F_twin).binds fun _ _ _ _ _ _ us hl => match us, hl with | [_], _ => rfl
theorem b_same (T : Txt K mg t) : Binds K t.d_same ["_law_yard", "_law_kinds_here", "_law_sides", "_law_mates", "_law_rung", "_law_at", "_law_trail"] [] := (T.e_same ▸ T.F_same).binds fun _ _ _ _ _ _ us hl => match us, hl with | [_, _, _, _, _, _, _], _ => rfl
theorem b_is_row (T : Txt K mg t) : Binds K t.d_is_row ["_law_found", "_law_due"] [] := (T.e_is_row ▸ T.F_is_row).binds fun _ _ _ _ _ _ us hl => match us, hl with | [_, _], _ => rfl
theorem b_is (T : Txt K mg t) : Binds K t.d_is ["_law_found", "_law_due"] [] := (T.e_is ▸ T.F_is).binds fun _ _ _ _ _ _ us hl => match us, hl with | [_, _], _ => rfl
theorem b_whole (T : Txt K mg t) : Binds K t.d_whole ["_law_found"] [] := (T.e_whole ▸ T.F_whole).binds fun _ _ _ _ _ _ us hl => match us, hl with | [_], _ => rfl
theorem b_is_end (T : Txt K mg t) : Binds K t.d_is_end ["_law_found", "_law_due"] [] := (T.e_is_end ▸ T.F_is_end).binds fun _ _ _ _ _ _ us hl => match us, hl with | [_, _], _ => rfl
theorem b_pieces (T : Txt K mg t) : Binds K t.d_pieces ["_law_yard", "_law_kinds_here", "_law_notes", "_law_rods"] [] := (T.e_pieces ▸ T.F_pieces).binds fun _ _ _ _ _ _ us hl => match us, hl with | [_, _, _, _], _ => rfl
theorem b_back (T : Txt K mg t) : Binds K t.d_back ["yard", "most"] [] := (T.e_back ▸ T.F_back).binds fun _ _ _ _ _ _ us hl => match us, hl with | [_, _], _ => rfl
theorem b_check_note (T : Txt K mg t) : Binds K t.d_check_note ["note"] [] := (T.e_check_note ▸ T.F_check_note).binds fun _ _ _ _ _ _ us hl => match us, hl with | [_], _ => rfl
theorem b_Yard_init (T : Txt K mg t) : Binds K t.d_Yard_init ["self"] [] := (T.e_Yard_init ▸ T.F_Yard_init).binds fun _ _ _ _ _ _ us hl => match us, hl with | [_], _ => rfl
theorem b_Yard_lift (T : Txt K mg t) : Binds K t.d_Yard_lift ["self", "piece"] [] := (T.e_Yard_lift ▸ T.F_Yard_lift).binds fun _ _ _ _ _ _ us hl => match us, hl with | [_, _], _ => rfl
theorem b_Yard_check_piece (T : Txt K mg t) : Binds K t.d_Yard_check_piece ["self", "piece"] [] := (T.e_Yard_check_piece ▸ T.F_Yard_check_piece).binds fun _ _ _ _ _ _ us hl => match us, hl with | [_, _], _ => rfl
theorem b_Yard_end_trail (T : Txt K mg t) : Binds K t.d_Yard_end_trail ["self"] [] := (T.e_Yard_end_trail ▸ T.F_Yard_end_trail).binds fun _ _ _ _ _ _ us hl => match us, hl with | [_], _ => rfl
theorem b_Yard_check_rod (T : Txt K mg t) : Binds K t.d_Yard_check_rod ["self", "rod"] [] := (T.e_Yard_check_rod ▸ T.F_Yard_check_rod).binds fun _ _ _ _ _ _ us hl => match us, hl with | [_, _], _ => rfl
theorem b_Yard_rod (T : Txt K mg t) : Binds K t.d_Yard_rod ["self", "piece"] [] := (T.e_Yard_rod ▸ T.F_Yard_rod).binds fun _ _ _ _ _ _ us hl => match us, hl with | [_, _], _ => rfl
theorem b_Yard_put (T : Txt K mg t) : Binds K t.d_Yard_put ["self", "end"] [] := (T.e_Yard_put ▸ T.F_Yard_put).binds fun _ _ _ _ _ _ us hl => match us, hl with | [_, _], _ => rfl
theorem b_Yard_check_there (T : Txt K mg t) : Binds K t.d_Yard_check_there ["self", "end"] [] := (T.e_Yard_check_there ▸ T.F_Yard_check_there).binds fun _ _ _ _ _ _ us hl => match us, hl with | [_, _], _ => rfl
theorem b_Yard_link (T : Txt K mg t) : Binds K t.d_Yard_link ["self", "one", "other"] [] := (T.e_Yard_link ▸ T.F_Yard_link).binds fun _ _ _ _ _ _ us hl => match us, hl with | [_, _, _], _ => rfl
theorem b_Yard_throw (T : Txt K mg t) : Binds K t.d_Yard_throw ["self", "rod", "side"] [] := (T.e_Yard_throw ▸ T.F_Yard_throw).binds fun _ _ _ _ _ _ us hl => match us, hl with | [_, _, _], _ => rfl
theorem b_Yard_carry (T : Txt K mg t) : Binds K t.d_Yard_carry ["self", "end", "side"] [] := (T.e_Yard_carry ▸ T.F_Yard_carry).binds fun _ _ _ _ _ _ us hl => match us, hl with | [_, _, _], _ => rfl
theorem b_Yard_engine (T : Txt K mg t) : Binds K t.d_Yard_engine ["self"] [] := (T.e_Yard_engine ▸ T.F_Yard_engine).binds fun _ _ _ _ _ _ us hl => match us, hl with | [_], _ => rfl
theorem b_Yard_kind (T : Txt K mg t) : Binds K t.d_Yard_kind ["self", "piece"] [] := (T.e_Yard_kind ▸ T.F_Yard_kind).binds fun _ _ _ _ _ _ us hl => match us, hl with | [_, _], _ => rfl
theorem b_Yard_mate (T : Txt K mg t) : Binds K t.d_Yard_mate ["self", "end"] [] := (T.e_Yard_mate ▸ T.F_Yard_mate).binds fun _ _ _ _ _ _ us hl => match us, hl with | [_, _], _ => rfl
theorem b_Yard_side (T : Txt K mg t) : Binds K t.d_Yard_side ["self", "rod"] [] := (T.e_Yard_side ▸ T.F_Yard_side).binds fun _ _ _ _ _ _ us hl => match us, hl with | [_, _], _ => rfl
theorem b_Yard_make_twin (T : Txt K mg t) : Binds K t.d_Yard_make_twin ["self"] [] := (T.e_Yard_make_twin ▸ T.F_Yard_make_twin).binds fun _ _ _ _ _ _ us hl => match us, hl with | [_], _ => rfl
theorem b_Yard_pieces (T : Txt K mg t) : Binds K t.d_Yard_pieces ["self"] [] := (T.e_Yard_pieces ▸ T.F_Yard_pieces).binds fun _ _ _ _ _ _ us hl => match us, hl with | [_], _ => rfl
theorem b_Yard_bells (T : Txt K mg t) : Binds K t.d_Yard_bells ["self"] [] := (T.e_Yard_bells ▸ T.F_Yard_bells).binds fun _ _ _ _ _ _ us hl => match us, hl with | [_], _ => rfl
theorem b_Yard_steps (T : Txt K mg t) : Binds K t.d_Yard_steps ["self"] [] := (T.e_Yard_steps ▸ T.F_Yard_steps).binds fun _ _ _ _ _ _ us hl => match us, hl with | [_], _ => rfl
theorem b_Yard_note (T : Txt K mg t) : Binds K t.d_Yard_note ["self", "piece"] [] := (T.e_Yard_note ▸ T.F_Yard_note).binds fun _ _ _ _ _ _ us hl => match us, hl with | [_, _], _ => rfl
theorem b_Yard_take_back (T : Txt K mg t) : Binds K t.d_Yard_take_back ["self"] [] := (T.e_Yard_take_back ▸ T.F_Yard_take_back).binds fun _ _ _ _ _ _ us hl => match us, hl with | [_], _ => rfl
theorem bD_Yard_lay_4 (T : Txt K mg t) : ∃ ds : List Value, Vals [] ds ∧ Binds K t.d_Yard_lay ["self", "kind", "note", "rod"] ds := by
  obtain ⟨Td, od, n, sl, tk0, e1, e2⟩ := T.D_Yard_lay
  obtain ⟨oc, od2, kV, doc, pm, an, cdv, ct, osl, e3, lk, hcd⟩ := T.F_Yard_lay.ex
  refine ⟨[], .nil, fun s us X hl => ?_⟩
  have hl2 : us.length = 4 := by simpa using hl
  rw [e3, e1]
  match us, hl2 with
  | [_, _, _, _], _ => exact PySem.W.binds_K X rfl e2 rfl rfl rfl
theorem bD_Yard_lay_3 (T : Txt K mg t) : ∃ ds : List Value, Vals [.non] ds ∧ Binds K t.d_Yard_lay ["self", "kind", "note", "rod"] ds := by
  obtain ⟨Td, od, n, sl, tk0, e1, e2⟩ := T.D_Yard_lay
  obtain ⟨oc, od2, kV, doc, pm, an, cdv, ct, osl, e3, lk, hcd⟩ := T.F_Yard_lay.ex
  refine ⟨[.none], .cons rfl (.nil), fun s us X hl => ?_⟩
  have hl2 : us.length = 3 := by simpa using hl
  rw [e3, e1]
  match us, hl2 with
  | [_, _, _], _ => exact PySem.W.binds_K X rfl e2 rfl rfl rfl
theorem bD_Yard_lay_2 (T : Txt K mg t) : ∃ ds : List Value, Vals [.int 0, .non] ds ∧ Binds K t.d_Yard_lay ["self", "kind", "note", "rod"] ds := by
  obtain ⟨Td, od, n, sl, tk0, e1, e2⟩ := T.D_Yard_lay
  obtain ⟨oc, od2, kV, doc, pm, an, cdv, ct, osl, e3, lk, hcd⟩ := T.F_Yard_lay.ex
  refine ⟨[.int 0 tk0, .none], .cons ⟨_, rfl⟩ (.cons rfl (.nil)), fun s us X hl => ?_⟩
  have hl2 : us.length = 2 := by simpa using hl
  rw [e3, e1]
  match us, hl2 with
  | [_, _], _ => exact PySem.W.binds_K X rfl e2 rfl rfl rfl
def gK_Yard_lay_2_rod : List V → List V → List V := fun us ws => if us.length = 2 ∧ ws.length = 1 then us ++ [.int 0] ++ ws ++ [] else []
theorem bD_Yard_new_rod_1 (T : Txt K mg t) : ∃ ds : List Value, Vals [.int 1] ds ∧ Binds K t.d_Yard_new_rod ["self", "side"] ds := by
  obtain ⟨Td, od, n, sl, tk0, e1, e2⟩ := T.D_Yard_new_rod
  obtain ⟨oc, od2, kV, doc, pm, an, cdv, ct, osl, e3, lk, hcd⟩ := T.F_Yard_new_rod.ex
  refine ⟨[.int 1 tk0], .cons ⟨_, rfl⟩ (.nil), fun s us X hl => ?_⟩
  have hl2 : us.length = 1 := by simpa using hl
  rw [e3, e1]
  match us, hl2 with
  | [_], _ => exact PySem.W.binds_K X rfl e2 rfl rfl rfl
end
def Dr (ds : List Int) : Prop := ∀ d ∈ ds, 0 ≤ d ∧ d < 10 ^ 18
def sp_draws (K : PySem.W.Frag) : Sp := fun vs H Q _ => ∃ (a : Addr) (ns : List Int) (n : Int) (L : Kn), vs = [.ref a, .int n] ∧ SqL K H a (ns.map V.int) ∧ ns.length ≤ 63 ∧ 0 ≤ n ∧ n ≤ 1000 ∧ Has H L ∧
  ∀ H' p ds, Has H' ((p, .lst (ds.map V.int)) :: L) → ds.length = n.toNat → Dr ds → Q (.ref p) H'
section
variable {P : Program} {w : World} {K : PySem.W.Frag} {mg : Str → Option Value} {base : Heap} {t : Adr}
theorem scD : FnScope ["_law_script", "_law_many_here", "_law_row", "_law_base", "_law_cell", "_law_left", "_law_turn"] ["_law_script", "_law_many_here"] (defScope s_draws) := ⟨rfl, rfl, rfl, by decide +kernel, rfl, by decide +kernel, by decide +kernel⟩
theorem Dr.snoc {ds : List Int} {d : Int} (h : Dr ds) (h0 : 0 ≤ d) (h1 : d < 10 ^ 18) : Dr (ds ++ [d]) := fun x hx => by
  rcases List.mem_append.mp hx with hx | hx
  · exact h x hx
  · have : x = d := by simpa using hx
    subst this; exact ⟨h0, h1⟩
theorem map_snoc (ds : List Int) (d : Int) : ds.map V.int ++ [V.int d] = (ds ++ [d]).map V.int := by simp
theorem ok_draws (T : Txt K mg t) : FnOk P w K mg base CX0 1 t.f_draws t.d_draws ["_law_script", "_law_many_here"] (sp_draws K) := by
  refine T.F_draws.ok scD (fun vs H Q E h => ?_) (fun cdv A outer s H vs Q E hr h => ?_)
  · obtain ⟨_, _, _, _, rfl, _⟩ := h
    rfl
  · obtain ⟨a, ns, n, L, rfl, hS, hns, hn0, hn1, hL, k⟩ := h
    refine ⟨_, (pss_cons (ps_set (i := 2) scD.nd rfl (Or.inl rfl) (pe_lst pa_nil))
      (pss_cons (ps_set (i := 3) scD.nd rfl (Or.inl rfl) pe_int)
      (pss_cons (ps_for PassesOwn.never rfl (pi_list (pe_slice sl_list (pv 0) po_none (po_some pe_int))) (pg_name (i := 4) scD.nd rfl (Or.inl rfl))
        (pss_cons (ps_set (i := 5) scD.nd rfl (Or.inl rfl) (pe_callB call_abs (by rfl) T.z_abs (by rfl) (pa_cons (pv 4) pa_nil)))
          (pss_cons (ps_set (i := 3) scD.nd rfl (Or.inl rfl) (pe_op op_mod (pe_op op_add (pe_op op_add (pe_op op_mul (pv 3) pe_int) (pv 5)) (pe_op op_mul pe_int (pe_callTy call_int1 (by rfl) T.z_int (by rfl) (pa_cons (pe_cmpR op_lt (pv 4) pe_int (nomark _)) pa_nil)))) pe_int))
          (pss_one (ps_if (pt_cmpR op_lt (pv 5) (pe_op op_pow pe_int pe_int) (nomark _))
            (pss_one (ps_expr (pe_bm PySem.F.plainAttrs_list PySem.F.slot_list_append PySem.F.type_list_append mt_append (pv 2) (pa_cons (pv 5) pa_nil))))
            (pss_one (ps_for PassesOwn.never rfl (pi_range1 (by rfl) T.z_range (pa_cons pe_int pa_nil)) (pg_name (i := 6) scD.nd rfl (Or.inl rfl))
                (pss_one (ps_if (pt_cmpR op_gt (pv 5) pe_int (nomark _))
                    (pss_cons (ps_expr (pe_bm PySem.F.plainAttrs_list PySem.F.slot_list_append PySem.F.type_list_append mt_append (pv 2) (pa_cons (pe_op op_mod (pv 5) pe_int) pa_nil)))
                      (pss_one (ps_set (i := 5) scD.nd rfl (Or.inl rfl) (pe_op op_fdiv (pv 5) pe_int))))
                    pss_nil)))))))))
      (pss_cons (ps_while PassesOwn.never (pt_cmpR op_lt (pe_callB call_len_seq (by rfl) T.z_len (by rfl) (pa_cons (pv 2) pa_nil)) (pv 1) (nomark _))
        (pss_cons (ps_set (i := 3) scD.nd rfl (Or.inl rfl) (pe_op op_mod (pe_op op_add (pe_op op_mul (pv 3) pe_int) pe_int) pe_int))
          (pss_one (ps_expr (pe_bm PySem.F.plainAttrs_list PySem.F.slot_list_append PySem.F.type_list_append mt_append (pv 2) (pa_cons (pe_op op_mod (pe_op op_fdiv (pe_op op_mul (pv 3) (pv 3)) pe_int) pe_int) pa_nil))))))
      (pss_one (ps_ret (pe_slice sl_list (pv 2) po_none (po_some (pv 1))))))))), ?_⟩
    refine ⟨by decide, fun r hr0 => ?_⟩
    have h1 := hL.alloc hr0 (.lst [])
    have hS1 : SqL K (upd H r (.lst [])) a (ns.map V.int) := hS.alloc hr0
    generalize upd H r (.lst []) = H1 at *
    refine ⟨_, rfl, _, rfl, a, _, rfl, hS1, fun sl hsl => ?_⟩
    have h2 := h1.alloc hsl (.lst (cutV (ns.map V.int) none (some 63)))
    generalize upd H1 sl (.lst (cutV (ns.map V.int) none (some 63))) = H2 at *
    refine ⟨sl, rfl, ⟨_, SqL.of (h2.get 0 rfl)⟩, ?_⟩
    refine for_list (K := K) (a := sl) (xs := cutV (ns.map V.int) none (some 63)) (fun i σ H' => ∃ (row : List Int) (b : Int) (c l t : Option V), σ = [some (.ref a), some (.int n), some (.ref r), some (.int b), c, l, t] ∧
      Has H' ((r, .lst (row.map V.int)) :: (sl, .lst (cutV (ns.map V.int) none (some 63))) :: L) ∧ row.length ≤ 60 * i ∧ Dr row ∧ 0 ≤ b ∧ b < 2147483647)
      ⟨[], 7, none, none, none, rfl, h2.swap2, Nat.zero_le _, (fun _ h => nomatch h), by decide, by decide⟩ (fun i σ H' _ ⟨row, b, c, l, t, _, h, _⟩ => SqL.of (h.get 1 rfl)) ?_ ?_
    · rintro i y σ H' hi ⟨row, b, c, l, t, rfl, h3, hlen, hd, b0, b1⟩
      have hi63 : i < 63 := by
        have h5 := (List.getElem?_eq_some_iff.mp hi).1
        rw [cut_take _ _ (by decide), List.length_take, List.length_map] at h5
        omega
      obtain ⟨z, rfl⟩ : ∃ z, y = V.int z := by
        rw [cut_take _ _ (by decide), List.getElem?_take_of_lt (by omega), List.getElem?_map] at hi
        cases e : ns[i]? with
        | none => rw [e] at hi; cases hi
        | some z => rw [e] at hi; exact ⟨z, (Option.some.inj hi).symm⟩
      refine ⟨_, rfl, _, rfl, ?_⟩
      have hab : 0 ≤ (if z < 0 then -z else z) := by split <;> omega
      generalize (if z < 0 then -z else z) = left at *
      refine ⟨_, rfl, _, _, rfl, rfl, .inl ⟨by omega, by omega⟩, _, rfl, _, _, rfl, rfl, _, rfl, _, _, rfl, rfl, .inr ⟨_, rfl, _, _, rfl, rfl, .inl ⟨by decide, by decide⟩, _, _, rfl, rfl, _, _, rfl, rfl, (show (0 : Int) < 2147483647 by decide), ?_⟩⟩
      have hb0 := Int.emod_nonneg (b * 48271 + left + 2 * (if decide (z < 0) = true then 1 else 0)) (show (2147483647 : Int) ≠ 0 by decide)
      have hb1 := Int.emod_lt_of_pos (b * 48271 + left + 2 * (if decide (z < 0) = true then 1 else 0)) (show (0 : Int) < 2147483647 by decide)
      -- if left < 10 ** 18
      refine ⟨_, rfl, _, _, rfl, rfl, ⟨by decide, by decide, by decide⟩, _, _, rfl, rfl, _, rfl, ?_⟩
      refine ite2 (fun hc => ?_) (fun hc => ?_)
      · have hc' : left < 10 ^ 18 := of_decide_eq_true hc
        refine ⟨_, rfl, .inl ⟨rfl, _, SqL.of (h3.get 0 rfl)⟩, _, rfl, r, _, _, rfl, rfl, h3.get 0 rfl, ?_, ?_⟩
        · rw [List.length_map]
          exact sizeOk (by omega)
        · refine ⟨row ++ [left], _, _, _, _, rfl, ?_, ?_, hd.snoc hab hc', hb0, hb1⟩
          · rw [← map_snoc]
            exact h3.puti 0 rfl _
          · rw [List.length_append, List.length_singleton]; omega
      · -- for turn in range(60)
        refine ⟨_, rfl, by decide, by decide, for_range (n := 60) (fun j σ H2 => ∃ (row2 : List Int) (l2 : Int) (t2 : Option V) (b2 : Int), 0 ≤ b2 ∧ b2 < 2147483647 ∧ σ = [some (.ref a), some (.int n), some (.ref r), some (.int b2), some (.int z), some (.int l2), t2] ∧
          Has H2 ((r, .lst (row2.map V.int)) :: (sl, .lst (cutV (ns.map V.int) none (some 63))) :: L) ∧ row2.length ≤ row.length + j ∧ Dr row2 ∧ 0 ≤ l2) ⟨row, _, _, _, hb0, hb1, rfl, h3, Nat.le_add_right _ _, hd, hab⟩ ?_ ?_⟩
        · rintro j σ H2 hj ⟨row2, l2, t2, b2, hb20, hb21, rfl, h4, hlen2, hd2, hl2⟩
          refine ⟨_, rfl, _, _, rfl, rfl, _, rfl, ?_⟩
          refine ite2 (fun hc2 => ?_) (fun hc2 => ?_)
          · refine ⟨_, rfl, .inl ⟨rfl, _, SqL.of (h4.get 0 rfl)⟩, _, rfl, _, _, rfl, rfl, (show (0 : Int) < 10007 by decide), r, _, _, rfl, rfl, h4.get 0 rfl, ?_, ?_⟩
            · rw [List.length_map]
              exact sizeOk (by omega)
            · refine ⟨_, rfl, _, _, rfl, rfl, ⟨by decide, by decide⟩, ?_⟩
              refine ⟨row2 ++ [l2 % 10007], _, _, _, hb20, hb21, rfl, ?_, ?_, hd2.snoc (Int.emod_nonneg _ (by decide)) (Int.lt_trans (Int.emod_lt_of_pos _ (by decide)) (by decide)), Int.ediv_nonneg hl2 (by decide)⟩
              · rw [← map_snoc]
                exact h4.puti 0 rfl _
              · rw [List.length_append, List.length_singleton]; omega
          · exact ⟨row2, l2, _, b2, hb20, hb21, rfl, h4, by omega, hd2, hl2⟩
        · rintro σ H2 ⟨row2, l2, t2, b2, hb20, hb21, rfl, h4, hlen2, hd2, hl2⟩
          exact ⟨row2, b2, _, _, _, rfl, h4, by omega, hd2, hb20, hb21⟩
    · rintro σ H' ⟨row, b, c, l, t, rfl, h3, hlen, hd, b0, b1⟩
      have hlx : (cutV (ns.map V.int) none (some 63)).length ≤ 63 := by
        rw [cut_take _ _ (by decide), List.length_take]; omega
      refine while_by (fun σ H' => ∃ (row : List Int) (b : Int) (c l t : Option V), σ = [some (.ref a), some (.int n), some (.ref r), some (.int b), c, l, t] ∧ Has H' ((r, .lst (row.map V.int)) :: L) ∧ row.length ≤ 4000 ∧ Dr row ∧ 0 ≤ b ∧ b < 2147483647)
        (fun σ H' => match H' r with | some (.lst xs) => n.toNat - xs.length | _ => 0) ⟨row, b, c, l, t, rfl, h3.swap2.tail, by omega, hd, b0, b1⟩ ?_ ?_
      · rintro σ H' ⟨row, b, c, l, t, rfl, h4, hlen, hd, b0, b1⟩
        refine ⟨_, rfl, r, _, rfl, .inl (SqL.of (h4.get 0 rfl)), _, rfl, _, _, rfl, rfl, _, rfl, ?_⟩
        rw [List.length_map]
        refine ite2 (fun hc => ?_) (fun hc => ?_)
        · have hc' : (row.length : Int) < n := of_decide_eq_true hc
          refine ⟨_, rfl, _, _, rfl, rfl, .inl ⟨by omega, by omega⟩, _, _, rfl, rfl, _, _, rfl, rfl, (show (0 : Int) < 2147483647 by decide), ?_⟩
          have hb0 := Int.emod_nonneg (b * 69621 + 12289) (show (2147483647 : Int) ≠ 0 by decide)
          have hb1 := Int.emod_lt_of_pos (b * 69621 + 12289) (show (0 : Int) < 2147483647 by decide)
          refine ⟨_, rfl, .inl ⟨rfl, _, SqL.of (h4.get 0 rfl)⟩, _, rfl, _, rfl, _, _, rfl, rfl, .inl ⟨?_, ?_⟩, _, _, rfl, rfl, ⟨by decide, by decide⟩, _, _, rfl, rfl, (show (0 : Int) < 10007 by decide), r, _, _, rfl, rfl, h4.get 0 rfl, ?_, ?_⟩
          · show -(2 ^ 64) < (b * 69621 + 12289) % 2147483647
            omega
          · show (b * 69621 + 12289) % 2147483647 < 2 ^ 64
            omega
          · rw [List.length_map]
            exact sizeOk (by omega)
          · have hq0 := Int.emod_nonneg ((b * 69621 + 12289) % 2147483647 * ((b * 69621 + 12289) % 2147483647) / 4099) (show (10007 : Int) ≠ 0 by decide)
            have hq1 := Int.emod_lt_of_pos ((b * 69621 + 12289) % 2147483647 * ((b * 69621 + 12289) % 2147483647) / 4099) (show (0 : Int) < 10007 by decide)
            refine ⟨⟨row ++ [(b * 69621 + 12289) % 2147483647 * ((b * 69621 + 12289) % 2147483647) / 4099 % 10007], _, _, _, _, rfl, ?_, ?_, hd.snoc hq0 (Int.lt_trans hq1 (by decide)), hb0, hb1⟩, ?_⟩
            · rw [← map_snoc]
              exact h4.puti 0 rfl _
            · rw [List.length_append, List.length_singleton]; omega
            · have e1 : H' r = some (.lst (row.map V.int)) := h4.get 0 rfl
              simp only [e1, upd_same, List.length_append, List.length_map, List.length_singleton]
              omega
        · have hc' : ¬ (row.length : Int) < n := fun z => hc (decide_eq_true z)
          refine ⟨_, rfl, _, rfl, _, rfl, r, _, rfl, SqL.of (h4.get 0 rfl), fun p hp => ?_⟩
          refine k _ p (row.take n.toNat) ?_ (by rw [List.length_take]; omega) (fun d hd' => hd d (List.mem_of_mem_take hd'))
          have h5 := (h4.tail).alloc hp (.lst (cutV (row.map V.int) none (some n)))
          rw [cut_take _ _ hn0, ← List.map_take] at h5 ⊢
          exact h5
      · rintro σ H' Q1 Q2 hQ ⟨v, e, p, ys, e2, h, w', e3, i, j, e4, e5, c, e6, q⟩
        exact ⟨v, e, p, ys, e2, h, w', e3, i, j, e4, e5, c, e6, hQ _ _ q⟩
end

/-- whole, is: of ints -/
def sp_whole : Sp := fun vs H Q _ => ∃ i : Int, vs = [.int i] ∧ Q (.bl true) H
def sp_is : Sp := fun vs H Q _ => ∃ i j : Int, vs = [.int i, .int j] ∧ Q (.bl (decide (i = j))) H
theorem kit_ii (K : PySem.W.Frag) : PySem.W.kitOne K (.type "int") (.type "int") = some true := by kernel_rfl
theorem kit_ib (K : PySem.W.Frag) : PySem.W.kitOne K (.type "int") (.type "bool") = some false := by kernel_rfl
theorem kit_tt (K : PySem.W.Frag) : PySem.W.kitOne K (.type "tuple") (.type "tuple") = some true := by kernel_rfl
theorem kit_ll (K : PySem.W.Frag) : PySem.W.kitOne K (.type "list") (.type "list") = some true := by kernel_rfl
section
variable {P : Program} {w : World} {K : PySem.W.Frag} {mg : Str → Option Value} {base : Heap} {t : Adr}
theorem scWh : FnScope ["_law_found"] ["_law_found"] (defScope s_whole) := ⟨rfl, rfl, rfl, by decide +kernel, rfl, by decide +kernel, by decide +kernel⟩
theorem ok_whole (T : Txt K mg t) : FnOk P w K mg base CX0 1 t.f_whole t.d_whole ["_law_found"] sp_whole := by
  refine T.F_whole.ok scWh (fun vs H Q E h => ?_) (fun cdv A outer s H vs Q E hr h => ?_)
  · obtain ⟨_, rfl, _⟩ := h
    rfl
  · obtain ⟨i, rfl, k⟩ := h
    refine ⟨_, (pss_one (ps_ret (pe_and (pe_callB call_isi (by rfl) T.z_isinstance (by rfl) (pa_cons (pv 0) (pa_cons (pe_bltn (v := .ty "int") (by rfl) T.z_int (by rfl) rfl) pa_nil))) (pe_one (pe_not (pe_callB call_isi (by rfl) T.z_isinstance (by rfl) (pa_cons (pv 0) (pa_cons (pe_bltn (v := .ty "bool") (by rfl) T.z_bool (by rfl) rfl) pa_nil)))))))), ?_⟩
    refine ⟨_, rfl, _, _, _, _, rfl, .int i, kit_ii K, _, rfl, iteT ?_⟩
    exact ⟨_, rfl, _, _, _, _, rfl, .int i, kit_ib K, _, rfl, k⟩
theorem scIs : FnScope ["_law_found", "_law_due"] ["_law_found", "_law_due"] (defScope s_is) := ⟨rfl, rfl, rfl, by decide +kernel, rfl, by decide +kernel, by decide +kernel⟩
theorem ok_is (T : Txt K mg t) : FnOk P w K mg base CX0 2 t.f_is t.d_is ["_law_found", "_law_due"] sp_is := by
  refine T.F_is.ok scIs (fun vs H Q E h => ?_) (fun cdv A outer s H vs Q E hr h => ?_)
  · obtain ⟨_, _, rfl, _⟩ := h
    rfl
  · obtain ⟨i, j, rfl, k⟩ := h
    refine ⟨_, (pss_one (ps_ret (pe_and (pe_call (ok_whole T) (hr.mono (by decide)) (by rfl) T.m_whole T.F_whole.kp (b_whole T) .nil pass0 (pa_cons (pv 0) pa_nil)) (pe_one (pe_cmpR op_eq (pv 0) (pv 1) (nomark _)))))), ?_⟩
    refine ⟨_, rfl, i, rfl, _, rfl, iteT ?_⟩
    refine ⟨_, rfl, _, rfl, rfl, ?_⟩
    have e : decide (V.int i = V.int j) = decide (i = j) := by by_cases h : i = j <;> simp [h]
    rw [e]
    exact k
end

/-- the six kinds -/
inductive Kd where | line | bell | still | lazy | turning | stop
  deriving DecidableEq
def Kd.str : Kd → Str
  | .line => "line" | .bell => "bell" | .still => "still" | .lazy => "lazy" | .turning => "turning" | .stop => "stop"
def Kd.many : Kd → Int
  | .line => 2 | .bell => 2 | .still => 3 | .lazy => 3 | .turning => 3 | .stop => 1
def Kd.point : Kd → Bool
  | .still => true | .lazy => true | .turning => true | _ => false
def endsD : List (Str × PyData) := [("line", .int 2), ("bell", .int 2), ("stop", .int 1), ("still", .int 3), ("lazy", .int 3), ("turning", .int 3)]
theorem Kd.inEnds (k : Kd) : (endsD.any fun p => decide (k.str = p.1)) = true := by cases k <;> decide +kernel
theorem Kd.atEnds (k : Kd) : endsD.lookup k.str = some (.int k.many) := by cases k <;> rfl
theorem endsD_int : (endsD.all fun p => match p.2 with | .int _ => true | _ => false) = true := by decide +kernel
theorem Kd.inPoints (k : Kd) : inV (.str k.str) [.str "still", .str "lazy", .str "turning"] = k.point := by cases k <;> decide +kernel
theorem Kd.isStop (k : Kd) : decide (V.str k.str = V.str "stop") = decide (k = .stop) := by cases k <;> decide +kernel
theorem Kd.isTurning (k : Kd) : decide (V.str k.str = V.str "turning") = decide (k = .turning) := by cases k <;> decide +kernel
theorem Kd.isLazy (k : Kd) : decide (V.str k.str = V.str "lazy") = decide (k = .lazy) := by cases k <;> decide +kernel
theorem Kd.isBell (k : Kd) : decide (V.str k.str = V.str "bell") = decide (k = .bell) := by cases k <;> decide +kernel
theorem Kd.isLine (k : Kd) : decide (V.str k.str = V.str "line") = decide (k = .line) := by cases k <;> decide +kernel
def Kd.out (k : Kd) (e s : Int) : V := if k = .stop then .non else if k.point then (if e = 0 then .int s else .int 0) else .int (1 - e)
def Kd.side (k : Kd) (e s : Int) : Int := if k.point then (if e = 0 then (if k = .turning then 3 - s else s) else (if k = .lazy then e else s)) else s
def sp_ends_of : Sp := fun vs H Q _ => ∃ k : Kd, vs = [.str k.str] ∧ Q (.int k.many) H
def sp_is_point : Sp := fun vs H Q _ => ∃ k : Kd, vs = [.str k.str] ∧ Q (.bl k.point) H
def sp_check_end : Sp := fun vs H Q _ => ∃ (k : Kd) (e : Int), vs = [.str k.str, .int e] ∧ 0 ≤ e ∧ e < k.many ∧ Q .non H
def sp_check_side : Sp := fun vs H Q _ => ∃ s : Int, vs = [.int s] ∧ (s = 1 ∨ s = 2) ∧ Q .non H
/-- passage; the side of a kind that is no point may be any value -/
def sp_passage : Sp := fun vs H Q _ => ∃ (k : Kd) (e s : Int) (v : V), vs = [.str k.str, .int e, v] ∧ 0 ≤ e ∧ e < k.many ∧ (k.point = true → v = .int s ∧ (s = 1 ∨ s = 2)) ∧ ∀ p, H p = none → Q (.ref p) (upd H p (.tup [k.out e s, if k.point then .int (k.side e s) else v]))
def sp_point_passage : Sp := fun vs H Q _ => ∃ (k : Kd) (e s : Int), vs = [.str k.str, .int e, .int s] ∧ k.point = true ∧ ∀ p, H p = none → Q (.ref p) (upd H p (.tup [k.out e s, .int (k.side e s)]))
section
variable {P : Program} {w : World} {K : PySem.W.Frag} {mg : Str → Option Value} {base : Heap} {t : Adr}
theorem decInt (i j : Int) : decide (V.int i = V.int j) = decide (i = j) := by by_cases h : i = j <;> simp [h]
theorem scEo : FnScope ["kind"] ["kind"] (defScope s_ends_of) := ⟨rfl, rfl, rfl, by decide +kernel, rfl, by decide +kernel, by decide +kernel⟩
theorem ok_ends_of (T : Txt K mg t) : FnOk P w K mg base CX0 1 t.f_ends_of t.d_ends_of ["kind"] sp_ends_of := by
  refine T.F_ends_of.ok scEo (fun vs H Q E h => ?_) (fun cdv A outer s H vs Q E hr h => ?_)
  · obtain ⟨_, rfl, _⟩ := h
    rfl
  · obtain ⟨k, rfl, q⟩ := h
    obtain ⟨aE, eE, hE⟩ := T.x_ENDS
    have T_r_ENDS : RelV (.ref aE) t.u_ENDS := by rw [eE]; rfl
    refine ⟨_, (pss_cons (ps_if (pt_cmpR op_notInK (pv 0) (pe_glob (by rfl) T.g_ENDS T_r_ENDS) (by rfl))
        (pss_one ps_never)
        pss_nil)
      (pss_one (ps_ret (pe_ix ix_K (pe_glob (by rfl) T.g_ENDS T_r_ENDS) (pv 0) (fun _ _ => rfl))))), ?_⟩
    refine ⟨_, rfl, _, aE, endsD, rfl, rfl, hE, _, rfl, ?_⟩
    rw [k.inEnds]
    exact ⟨_, rfl, _, aE, endsD, _, rfl, rfl, hE, k.atEnds, endsD_int, q⟩
theorem scIp : FnScope ["kind"] ["kind"] (defScope s_is_point) := ⟨rfl, rfl, rfl, by decide +kernel, rfl, by decide +kernel, by decide +kernel⟩
theorem ok_is_point (T : Txt K mg t) : FnOk P w K mg base CX0 1 t.f_is_point t.d_is_point ["kind"] sp_is_point := by
  refine T.F_is_point.ok scIp (fun vs H Q E h => ?_) (fun cdv A outer s H vs Q E hr h => ?_)
  · obtain ⟨_, rfl, _⟩ := h
    rfl
  · obtain ⟨k, rfl, q⟩ := h
    obtain ⟨aE, eE, hE⟩ := T.x_ENDS
    have T_r_ENDS : RelV (.ref aE) t.u_ENDS := by rw [eE]; rfl
    obtain ⟨aP, oP, its, n, eP, h1, h2, h3, h4, h5⟩ := T.x_POINTS
    have T_r_POINTS : RelV (.ref aP) t.u_POINTS := by rw [eP]; rfl
    refine ⟨_, (pss_cons (ps_if (pt_cmpR op_notInK (pv 0) (pe_glob (by rfl) T.g_ENDS T_r_ENDS) (by rfl))
        (pss_one ps_never)
        pss_nil)
      (pss_one (ps_ret (pe_cmpR op_in_seq (pv 0) (pe_glob (by rfl) T.g_POINTS T_r_POINTS) (by rfl))))), ?_⟩
    refine ⟨_, rfl, _, aE, endsD, rfl, rfl, hE, _, rfl, ?_⟩
    rw [k.inEnds]
    refine ⟨_, rfl, aP, _, rfl, .inr (.inr ⟨oP, its, n, h1, h2, h3, h4, h5⟩), rfl, by decide, ?_⟩
    rw [if_neg Bool.false_ne_true, k.inPoints]
    exact q
theorem scCe : FnScope ["kind", "end", "many"] ["kind", "end"] (defScope s_check_end) := ⟨rfl, rfl, rfl, by decide +kernel, rfl, by decide +kernel, by decide +kernel⟩
theorem ok_check_end (T : Txt K mg t) : FnOk P w K mg base CX0 2 t.f_check_end t.d_check_end ["kind", "end"] sp_check_end := by
  refine T.F_check_end.ok scCe (fun vs H Q E h => ?_) (fun cdv A outer s H vs Q E hr h => ?_)
  · obtain ⟨_, _, rfl, _⟩ := h
    rfl
  · obtain ⟨k, e, rfl, e0, e1, q⟩ := h
    refine ⟨_, (pss_cons (ps_set (i := 2) scCe.nd rfl (Or.inl rfl) (pe_call (ok_ends_of T) (hr.mono (by decide)) (by rfl) T.m_ends_of T.F_ends_of.kp (b_ends_of T) .nil pass0 (pa_cons (pv 0) pa_nil)))
      (pss_one (ps_if (PW.pt (pw_or (pt_cmpR op_lt (pv 1) pe_int (nomark _)) (pw_or1 (pt_cmpR op_ge (pv 1) (pv 2) (nomark _)))))
        (pss_one ps_never)
        pss_nil))), ?_⟩
    refine ⟨_, rfl, k, rfl, ?_⟩
    refine ⟨_, rfl, _, _, rfl, rfl, _, rfl, ?_⟩
    refine ifF (decide_eq_false (by omega)) ?_
    refine ⟨_, rfl, _, rfl, _, _, rfl, rfl, _, rfl, ?_⟩
    exact ifF (decide_eq_false (by omega)) q
theorem scCs : FnScope ["side"] ["side"] (defScope s_check_side) := ⟨rfl, rfl, rfl, by decide +kernel, rfl, by decide +kernel, by decide +kernel⟩
theorem ok_check_side (T : Txt K mg t) : FnOk P w K mg base CX0 1 t.f_check_side t.d_check_side ["side"] sp_check_side := by
  refine T.F_check_side.ok scCs (fun vs H Q E h => ?_) (fun cdv A outer s H vs Q E hr h => ?_)
  · obtain ⟨_, rfl, _⟩ := h
    rfl
  · obtain ⟨z, rfl, hz, q⟩ := h
    refine ⟨_, (pss_one (ps_if (PW.pt (pw_and (pt_cmpR op_ne (pv 0) pe_int (nomark _)) (pw_and1 (pt_cmpR op_ne (pv 0) pe_int (nomark _)))))
        (pss_one ps_never)
        pss_nil)), ?_⟩
    refine ⟨_, rfl, rfl, _, rfl, ?_⟩
    rw [decInt]
    refine ifdn (fun hc => ?_) (fun hc => iteF q)
    refine ⟨_, rfl, rfl, _, rfl, ?_⟩
    rw [decInt]
    exact ifF (by simp; omega) q
theorem scPp : FnScope ["kind", "end", "side"] ["kind", "end", "side"] (defScope s_point_passage) := ⟨rfl, rfl, rfl, by decide +kernel, rfl, by decide +kernel, by decide +kernel⟩
theorem ok_point_passage (T : Txt K mg t) : FnOk P w K mg base CX0 1 t.f_point_passage t.d_point_passage ["kind", "end", "side"] sp_point_passage := by
  refine T.F_point_passage.ok scPp (fun vs H Q E h => ?_) (fun cdv A outer s H vs Q E hr h => ?_)
  · obtain ⟨_, _, _, rfl, _⟩ := h
    rfl
  · obtain ⟨k, e, z, rfl, hk, q⟩ := h
    have ns : ¬ k = .stop := fun h => by rw [h] at hk; cases hk
    refine ⟨_, (pss_cons (ps_if (pt_cmpR op_eq (pv 1) (pe_glob (by rfl) T.g_STEM T.r_STEM) (nomark _))
        (pss_one (ps_ret (pe_tup (pa_cons (pv 2) (pa_cons (pe_ifExp (pt_cmpR op_eq (pv 0) pe_str (nomark _)) (pe_op op_sub pe_int (pv 2)) (pv 2)) pa_nil)))))
        pss_nil)
      (pss_one (ps_ret (pe_tup (pa_cons (pe_glob (by rfl) T.g_STEM T.r_STEM) (pa_cons (pe_ifExp (pt_cmpR op_eq (pv 0) pe_str (nomark _)) (pv 1) (pv 2)) pa_nil)))))), ?_⟩
    refine ⟨_, rfl, rfl, _, rfl, ?_⟩
    rw [decInt]
    refine ite2 (fun hc => ?_) (fun hc => ?_)
    · have he : e = 0 := of_decide_eq_true hc
      refine ⟨_, rfl, _, rfl, rfl, _, rfl, ?_⟩
      rw [k.isTurning]
      have o1 : k.out e z = .int z := by unfold Kd.out; rw [if_neg ns, if_pos hk, if_pos he]
      have o2 : k.side e z = if k = .turning then 3 - z else z := by unfold Kd.side; rw [if_pos hk, if_pos he]
      rw [o1, o2] at q
      refine ite2 (fun hc => ?_) (fun hc => ?_)
      · rw [if_pos (of_decide_eq_true hc)] at q
        exact ⟨_, rfl, _, _, rfl, rfl, (show 2 ≤ sizeLine by decide), fun p hp => q p hp⟩
      · rw [if_neg (fun h => hc (decide_eq_true h))] at q
        exact ⟨_, rfl, (show 2 ≤ sizeLine by decide), fun p hp => q p hp⟩
    · have he : ¬ e = 0 := fun h => hc (decide_eq_true h)
      refine ⟨_, rfl, rfl, _, rfl, ?_⟩
      rw [k.isLazy]
      have o1 : k.out e z = .int 0 := by unfold Kd.out; rw [if_neg ns, if_pos hk, if_neg he]
      have o2 : k.side e z = if k = .lazy then e else z := by unfold Kd.side; rw [if_pos hk, if_neg he]
      rw [o1, o2] at q
      refine ite2 (fun hc => ?_) (fun hc => ?_)
      · rw [if_pos (of_decide_eq_true hc)] at q
        exact ⟨_, rfl, (show 2 ≤ sizeLine by decide), fun p hp => q p hp⟩
      · rw [if_neg (fun h => hc (decide_eq_true h))] at q
        exact ⟨_, rfl, (show 2 ≤ sizeLine by decide), fun p hp => q p hp⟩
theorem scPa : FnScope ["kind", "end", "side"] ["kind", "end", "side"] (defScope s_passage) := ⟨rfl, rfl, rfl, by decide +kernel, rfl, by decide +kernel, by decide +kernel⟩
theorem ok_passage (T : Txt K mg t) : FnOk P w K mg base CX0 3 t.f_passage t.d_passage ["kind", "end", "side"] sp_passage := by
  refine T.F_passage.ok scPa (fun vs H Q E h => ?_) (fun cdv A outer s H vs Q E hr h => ?_)
  · obtain ⟨_, _, _, _, rfl, _⟩ := h
    rfl
  · obtain ⟨k, e, z, v, rfl, e0, e1, hs, q⟩ := h
    refine ⟨_, (pss_cons (ps_expr (pe_call (ok_check_end T) (hr.mono (by decide)) (by rfl) T.m_check_end T.F_check_end.kp (b_check_end T) .nil pass0 (pa_cons (pv 0) (pa_cons (pv 1) pa_nil))))
      (pss_cons (ps_if (pt_val (pe_call (ok_is_point T) (hr.mono (by decide)) (by rfl) T.m_is_point T.F_is_point.kp (b_is_point T) .nil pass0 (pa_cons (pv 0) pa_nil)))
        (pss_cons (ps_expr (pe_call (ok_check_side T) (hr.mono (by decide)) (by rfl) T.m_check_side T.F_check_side.kp (b_check_side T) .nil pass0 (pa_cons (pv 2) pa_nil)))
          (pss_one (ps_ret (pe_call (ok_point_passage T) (hr.mono (by decide)) (by rfl) T.m_point_passage T.F_point_passage.kp (b_point_passage T) .nil pass0 (pa_cons (pv 0) (pa_cons (pv 1) (pa_cons (pv 2) pa_nil)))))))
        pss_nil)
      (pss_cons (ps_if (pt_cmpR op_eq (pv 0) pe_str (nomark _))
        (pss_one (ps_ret (pe_tup (pa_cons pe_non (pa_cons (pv 2) pa_nil)))))
        pss_nil)
      (pss_one (ps_ret (pe_tup (pa_cons (pe_op op_sub pe_int (pv 1)) (pa_cons (pv 2) pa_nil)))))))), ?_⟩
    refine ⟨_, rfl, _, rfl, k, e, rfl, e0, e1, ?_⟩
    refine ⟨_, rfl, k, rfl, _, rfl, ?_⟩
    refine ite2 (fun hc => ?_) (fun hc => ?_)
    · obtain ⟨rfl, hz⟩ := hs hc
      rw [if_pos hc] at q
      exact ⟨_, rfl, z, rfl, hz, _, rfl, _, rfl, _, rfl, k, e, z, rfl, hc, q⟩
    · rw [if_neg hc] at q
      refine ⟨_, rfl, rfl, _, rfl, ?_⟩
      rw [k.isStop]
      refine ite2 (fun hc2 => ?_) (fun hc2 => ?_)
      · have hk : k = .stop := of_decide_eq_true hc2
        subst hk
        exact ⟨_, rfl, (show 2 ≤ sizeLine by decide), fun p hp => q p hp⟩
      · have hk : ¬ k = .stop := fun h => hc2 (decide_eq_true h)
        have o1 : k.out e z = .int (1 - e) := by unfold Kd.out; rw [if_neg hk, if_neg hc]
        rw [o1] at q
        exact ⟨_, rfl, _, _, rfl, rfl, _, rfl, (show 2 ≤ sizeLine by decide), fun p hp => q p hp⟩
end

def sp_many : Sp := fun vs H Q _ => ∃ k : Kd, vs = [.str k.str] ∧ Q (.int k.many) H
section
variable {P : Program} {w : World} {K : PySem.W.Frag} {mg : Str → Option Value} {base : Heap} {t : Adr}
theorem scMa : FnScope ["_law_kind_here"] ["_law_kind_here"] (defScope s_many) := ⟨rfl, rfl, rfl, by decide +kernel, rfl, by decide +kernel, by decide +kernel⟩
theorem ok_many (T : Txt K mg t) : FnOk P w K mg base CX0 1 t.f_many t.d_many ["_law_kind_here"] sp_many := by
  refine T.F_many.ok scMa (fun vs H Q E h => ?_) (fun cdv A outer s H vs Q E hr h => ?_)
  · obtain ⟨_, rfl, _⟩ := h
    rfl
  · obtain ⟨k, rfl, q⟩ := h
    refine ⟨_, (pss_cons (ps_if (pt_cmpR op_eq (pv 0) pe_str (nomark _))
        (pss_one (ps_ret pe_int))
        pss_nil)
      (pss_cons (ps_if (PW.pt (pw_or (pt_cmpR op_eq (pv 0) pe_str (nomark _)) (pw_or1 (pt_cmpR op_eq (pv 0) pe_str (nomark _)))))
        (pss_one (ps_ret pe_int))
        pss_nil)
      (pss_one (ps_ret pe_int)))), ?_⟩
    refine ⟨_, rfl, rfl, _, rfl, ?_⟩
    rw [k.isStop]
    refine ifd (fun h => ?_) (fun h1 => ?_)
    · subst h; exact q
    refine ⟨_, rfl, rfl, _, rfl, ?_⟩
    rw [k.isLine]
    refine ifd (fun h => ?_) (fun h2 => ?_)
    · subst h; exact iteT q
    refine ⟨_, rfl, rfl, _, rfl, ?_⟩
    rw [k.isBell]
    refine ifd (fun h => ?_) (fun h3 => ?_)
    · subst h; exact q
    have e : k.many = 3 := by cases k <;> first | rfl | contradiction
    rw [e] at q
    exact q
end

/-- is_row: two lists of ints -/
def sp_is_row : Sp := fun vs H Q _ => ∃ (a b : Addr) (xs ys : List Int) (i j : Nat) (L : Kn), vs = [.ref a, .ref b] ∧ Has H L ∧ L[i]? = some (a, .lst (xs.map V.int)) ∧ L[j]? = some (b, .lst (ys.map V.int)) ∧ xs.length ≤ 100000 ∧ ∀ H', Has H' L → Q (.bl (decide (xs = ys))) H'
theorem all_eq : ∀ {xs ys : List Int}, xs.length = ys.length → ((xs.zip ys).map fun p => decide (p.1 = p.2)).all id = decide (xs = ys)
  | [], [], _ => rfl
  | x :: xs, y :: ys, h => by
    have ih := all_eq (xs := xs) (ys := ys) (by simpa using h)
    rw [List.zip_cons_cons, List.map_cons, List.all_cons, ih]
    by_cases e : x = y
    · subst e; simp
    · simp [e]
section
variable {P : Program} {w : World} {K : PySem.W.Frag} {mg : Str → Option Value} {base : Heap} {t : Adr}
theorem scIr : FnScope ["_law_found", "_law_due"] ["_law_found", "_law_due"] (defScope s_is_row) := ⟨rfl, rfl, rfl, by decide +kernel, rfl, by decide +kernel, by decide +kernel⟩
theorem ok_is_row (T : Txt K mg t) : FnOk P w K mg base CX0 3 t.f_is_row t.d_is_row ["_law_found", "_law_due"] sp_is_row := by
  refine T.F_is_row.ok scIr (fun vs H Q E h => ?_) (fun cdv A outer s H vs Q E hr h => ?_)
  · obtain ⟨_, _, _, _, _, _, _, rfl, _⟩ := h
    rfl
  · obtain ⟨a, b, xs, ys, i, j, L, rfl, hH, hi, hj, hxl, q⟩ := h
    refine ⟨_, (pss_cons (ps_if (PW.pt (pw_or (pt_not (pt_val (pe_callB call_isi (by rfl) T.z_isinstance (by rfl) (pa_cons (pv 0) (pa_cons (pe_bltn (v := .ty "list") (by rfl) T.z_list (by rfl) rfl) pa_nil))))) (pw_or1 (pt_cmpR op_ne (pe_callB call_len_seq (by rfl) T.z_len (by rfl) (pa_cons (pv 0) pa_nil)) (pe_callB call_len_seq (by rfl) T.z_len (by rfl) (pa_cons (pv 1) pa_nil)) (nomark _)))))
        (pss_one (ps_ret pe_bl))
        pss_nil)
      (pss_one (ps_ret (pe_callB (call_all rfl) (by rfl) T.z_all (by rfl) (pa_cons (pe_lc (esc := defScope s_is_row) (k := 2) ["_law_one", "_law_other", "_law_found", "_law_due"] rfl (pi_zip (by rfl) T.z_zip (pa_cons (pv 0) (pa_cons (pv 1) pa_nil))) (fun _ _ _ _ _ => by exact (pg_tupK (K := K) (n := 2) rfl rfl (pgs_cons (pg_name (i := 0) (show List.Nodup (["_law_one", "_law_other", "_law_found", "_law_due"] : List Str) from by decide +kernel) rfl (Or.inl rfl)) (pgs_cons (pg_name (i := 1) (show List.Nodup (["_law_one", "_law_other", "_law_found", "_law_due"] : List Str) from by decide +kernel) rfl (Or.inl rfl)) pgs_nil)))) (fun _ _ _ _ _ => by exact pts_nil) (fun _ _ _ _ _ => by exact (pe_call (ok_is T) (hr.mono (by decide)) (by rfl) T.m_is T.F_is.kp (b_is T) .nil pass0 (pa_cons (pv 0) (pa_cons (pv 1) pa_nil)))) rfl (by decide +kernel) (by decide +kernel) rfl (by decide +kernel) (by rfl) (fun _ _ h _ => h) (by decide +kernel)) pa_nil))))), ?_⟩
    refine ⟨_, rfl, _, _, _, _, rfl, .lst (hH.get i hi), kit_ll K, _, rfl, iteF ?_⟩
    refine ⟨_, rfl, a, _, rfl, .inl (SqL.of (hH.get i hi)), _, rfl, b, _, rfl, .inl (SqL.of (hH.get j hj)), rfl, _, rfl, ?_⟩
    rw [List.length_map, List.length_map, decInt]
    refine ifdn (fun hc => ?_) (fun hc => ?_)
    · have e : decide (xs = ys) = false := decide_eq_false (fun z => hc (by rw [z]))
      rw [e] at q
      exact q _ hH
    · have hl : xs.length = ys.length := by omega
      refine ⟨_, rfl, _, rfl, a, b, rfl, ⟨_, SqL.of (hH.get i hi)⟩, ⟨_, SqL.of (hH.get j hj)⟩, fun D hD => ?_⟩
      refine ⟨fun n m zs H' => m = xs.length - n ∧ n ≤ xs.length ∧ zs = ((xs.zip ys).take n).map (fun p => V.bl (decide (p.1 = p.2))) ∧ Has H' ((D, .lst zs) :: L), ⟨xs.length, by simp, Nat.zero_le _, rfl, hH.alloc hD _⟩, ?_⟩
      rintro n m zs H' ⟨rfl, hn, rfl, h1⟩
      refine ⟨h1.get 0 rfl, ?_⟩
      have ga := h1.get (i + 1) (by simpa using hi)
      have gb := h1.get (j + 1) (by simpa using hj)
      by_cases hlt : n < xs.length
      · refine .inr ⟨⟨_, _, _, _, SqL.of ga, (by rw [List.getElem?_map, List.getElem?_eq_getElem hlt]; rfl), SqL.of gb, (by rw [List.getElem?_map, List.getElem?_eq_getElem (by omega)]; rfl)⟩, ?_⟩
        rintro x H2 ⟨p, x1, y1, rfl, hp, rfl, hx1, hy1⟩
        have hx2 := hx1 _ (SqL.of ga)
        have hy2 := hy1 _ (SqL.of gb)
        rw [List.getElem?_map, List.getElem?_eq_getElem hlt] at hx2
        rw [List.getElem?_map, List.getElem?_eq_getElem (by omega)] at hy2
        cases hx2
        cases hy2
        have h2 := h1.alloc hp (.tup [.int xs[n], .int (ys[n]'(by omega))])
        refine ⟨p, _, rfl, SqT.of (h2.get 0 rfl), rfl, _, _, rfl, _, _, rfl, rfl, rfl, ?_⟩
        refine tTrueT ?_
        refine ⟨_, rfl, _, rfl, _, _, rfl, ?_⟩
        refine ⟨?_, h2.get 1 rfl, xs.length - (n + 1), by omega, rfl, hlt, ?_, ?_⟩
        · rw [List.length_map, List.length_take]
          exact sizeOk (by omega)
        · rw [List.take_succ, List.map_append, List.getElem?_eq_getElem (by rw [List.length_zip]; omega), List.getElem_zip]
          rfl
        · exact (h2.puti 1 rfl _).tail
      · have en : n = xs.length := by omega
        refine .inl ⟨⟨_, _, SqL.of ga, SqL.of gb, .inl (by rw [List.length_map]; omega)⟩, ?_⟩
        refine ⟨D, ((xs.zip ys).map fun p => decide (p.1 = p.2)), rfl, ?_, ?_⟩
        · have e : ((xs.zip ys).take n).map (fun p => V.bl (decide (p.1 = p.2))) = ((xs.zip ys).map fun p => decide (p.1 = p.2)).map V.bl := by
            rw [List.take_of_length_le (by rw [List.length_zip]; omega), List.map_map]; rfl
          rw [← e]
          exact SqL.of (h1.get 0 rfl)
        · rw [all_eq hl]
          exact q _ h1.tail
end

theorem Kd.out_point {k : Kd} (h : k.point = true) (e s : Int) : k.out e s = if e = 0 then .int s else .int 0 := by
  have ns : ¬ k = .stop := fun h' => by rw [h'] at h; cases h
  unfold Kd.out; rw [if_neg ns, if_pos h]
theorem Kd.out_int {k : Kd} (h : ¬ k = .stop) (e s : Int) : ∃ i, k.out e s = .int i := by
  unfold Kd.out; rw [if_neg h]
  split
  · split
    · exact ⟨_, rfl⟩
    · exact ⟨_, rfl⟩
  · exact ⟨_, rfl⟩
theorem Kd.many_point {k : Kd} (h : k.point = true) : k.many = 3 := by cases k <;> first | rfl | cases h
theorem Kd.side12 {k : Kd} {e s : Int} (e0 : 0 ≤ e) (e1 : e < k.many) (h : s = 1 ∨ s = 2) : k.side e s = 1 ∨ k.side e s = 2 := by
  unfold Kd.side
  split
  · rename_i hp
    have := Kd.many_point hp
    split
    · split <;> omega
    · split <;> omega
  · exact h
def sp_passing : Sp := fun vs H Q _ => ∃ (k : Kd) (e s : Int), vs = [.str k.str, .int e, .int s] ∧ 0 ≤ e ∧ e < k.many ∧ ∀ p, H p = none → Q (.ref p) (upd H p (.tup [k.out e s, .int (k.side e s)]))
section
variable {P : Program} {w : World} {K : PySem.W.Frag} {mg : Str → Option Value} {base : Heap} {t : Adr}
theorem scPs : FnScope ["_law_kind_here", "_law_place", "_law_side"] ["_law_kind_here", "_law_place", "_law_side"] (defScope s_passing) := ⟨rfl, rfl, rfl, by decide +kernel, rfl, by decide +kernel, by decide +kernel⟩
theorem ok_passing (T : Txt K mg t) : FnOk P w K mg base CX0 1 t.f_passing t.d_passing ["_law_kind_here", "_law_place", "_law_side"] sp_passing := by
  refine T.F_passing.ok scPs (fun vs H Q E h => ?_) (fun cdv A outer s H vs Q E hr h => ?_)
  · obtain ⟨_, _, _, rfl, _⟩ := h
    rfl
  · obtain ⟨k, e, z, rfl, e0, e1, q⟩ := h
    have two : 2 ≤ sizeLine := by decide
    refine ⟨_, (pss_cons (ps_if (pt_cmpR op_eq (pv 0) pe_str (nomark _))
        (pss_one (ps_ret (pe_tup (pa_cons pe_non (pa_cons (pv 2) pa_nil)))))
        pss_nil)
      (pss_cons (ps_if (PW.pt (pw_or (pt_cmpR op_eq (pv 0) pe_str (nomark _)) (pw_or1 (pt_cmpR op_eq (pv 0) pe_str (nomark _)))))
        (pss_one (ps_ret (pe_tup (pa_cons (pe_op op_sub pe_int (pv 1)) (pa_cons (pv 2) pa_nil)))))
        pss_nil)
      (pss_cons (ps_if (PW.pt (pw_and (pt_cmpR op_gt (pv 1) pe_int (nomark _)) (pw_and1 (pt_cmpR op_eq (pv 0) pe_str (nomark _)))))
        (pss_one (ps_ret (pe_tup (pa_cons pe_int (pa_cons (pv 1) pa_nil)))))
        pss_nil)
      (pss_cons (ps_if (pt_cmpR op_gt (pv 1) pe_int (nomark _))
        (pss_one (ps_ret (pe_tup (pa_cons pe_int (pa_cons (pv 2) pa_nil)))))
        pss_nil)
      (pss_cons (ps_if (pt_cmpR op_eq (pv 0) pe_str (nomark _))
        (pss_one (ps_ret (pe_tup (pa_cons (pv 2) (pa_cons (pe_op op_sub pe_int (pv 2)) pa_nil)))))
        pss_nil)
      (pss_one (ps_ret (pe_tup (pa_cons (pv 2) (pa_cons (pv 2) pa_nil)))))))))), ?_⟩
    refine ⟨_, rfl, rfl, _, rfl, ?_⟩
    rw [k.isStop]
    refine ifd (fun h => ?_) (fun h1 => ?_)
    · subst h; exact ⟨_, rfl, two, fun p hp => q p hp⟩
    have np : k.point = false → ∀ p, H p = none → Q (.ref p) (upd H p (.tup [.int (1 - e), .int z])) := fun hk p hp => by
      have := q p hp
      unfold Kd.out Kd.side at this
      rw [if_neg h1, if_neg (by rw [hk]; exact Bool.false_ne_true), if_neg (by rw [hk]; exact Bool.false_ne_true)] at this
      exact this
    refine ⟨_, rfl, rfl, _, rfl, ?_⟩
    rw [k.isLine]
    refine ifd (fun h => iteT ?_) (fun h2 => ?_)
    · subst h; exact ⟨_, rfl, _, _, rfl, rfl, _, rfl, two, np rfl⟩
    refine ⟨_, rfl, rfl, _, rfl, ?_⟩
    rw [k.isBell]
    refine ifd (fun h => ?_) (fun h3 => ?_)
    · subst h; exact ⟨_, rfl, _, _, rfl, rfl, _, rfl, two, np rfl⟩
    have hk : k.point = true := by cases k <;> first | rfl | contradiction
    have q' : ∀ p, H p = none → Q (.ref p) (upd H p (.tup [if e = 0 then .int z else .int 0, .int (if e = 0 then (if k = .turning then 3 - z else z) else (if k = .lazy then e else z))])) := fun p hp => by
      have := q p hp
      rw [Kd.out_point hk] at this
      unfold Kd.side at this
      rw [if_pos hk] at this
      exact this
    refine ⟨_, rfl, _, _, rfl, rfl, _, rfl, ?_⟩
    refine ifd (fun hp => ?_) (fun hp => ?_)
    · have he : ¬ e = 0 := by omega
      rw [if_neg he] at q'
      refine ⟨_, rfl, rfl, _, rfl, ?_⟩
      rw [k.isLazy]
      refine ifd (fun h => ?_) (fun h => ?_)
      · rw [if_neg he, if_pos h] at q'
        exact ⟨_, rfl, two, q'⟩
      · rw [if_neg he, if_neg h] at q'
        refine ⟨_, rfl, _, _, rfl, rfl, _, rfl, ifT (decide_eq_true (by omega)) ?_⟩
        exact ⟨_, rfl, two, q'⟩
    · have he : e = 0 := by omega
      rw [if_pos he, if_pos he] at q'
      refine iteF ?_
      refine ⟨_, rfl, _, _, rfl, rfl, _, rfl, ifF (decide_eq_false (by omega)) ?_⟩
      refine ⟨_, rfl, rfl, _, rfl, ?_⟩
      rw [k.isTurning]
      refine ifd (fun h => ?_) (fun h => ?_)
      · rw [if_pos h] at q'
        exact ⟨_, rfl, _, rfl, _, _, rfl, rfl, two, q'⟩
      · rw [if_neg h] at q'
        exact ⟨_, rfl, _, rfl, two, q'⟩
end

/-- where a yard's parts stand -/
structure YA where
  p : Addr
  dx : Addr
  tr : Addr
  k : Addr
  n : Addr
  r : Addr
  s : Addr
  m : Addr
  g : Addr
/-- a yard's parts -/
structure YR where
  next : Int
  kinds : List (Key × V)
  notes : List (Key × V)
  rods : List (Key × V)
  sides : List V
  mates : List (List Key × V)
  eng : V
  rung : List V
  trail : List V
def fl (A : YA) (next : Int) (eng : V) : List (Str × V) :=
  [("next_piece", .int next), ("kinds", .ref A.k), ("notes", .ref A.n), ("rods_under", .ref A.r), ("sides", .ref A.s), ("mates", .ref A.m), ("engine_end", eng), ("rung", .ref A.g), ("trail", .ref A.tr)]
def yL (C : Addr) (A : YA) (y : YR) : Kn :=
  [(A.tr, .lst y.trail), (A.p, .ins C A.dx (fl A y.next y.eng)), (A.dx, .own A.p), (A.k, .dK y.kinds), (A.n, .dK y.notes), (A.r, .dK y.rods), (A.s, .lst y.sides), (A.m, .dT y.mates), (A.g, .lst y.rung)]
def y0 : YR := ⟨0, [], [], [], [], [], .non, [], []⟩
section
variable (A : YA) (next : Int) (eng : V)
theorem fl_next : (fl A next eng).lookup ("next_piece" : Str) = some (.int next) := by kernel_rfl
theorem fl_kinds : (fl A next eng).lookup ("kinds" : Str) = some (.ref A.k) := by kernel_rfl
theorem fl_notes : (fl A next eng).lookup ("notes" : Str) = some (.ref A.n) := by kernel_rfl
theorem fl_rods : (fl A next eng).lookup ("rods_under" : Str) = some (.ref A.r) := by kernel_rfl
theorem fl_sides : (fl A next eng).lookup ("sides" : Str) = some (.ref A.s) := by kernel_rfl
theorem fl_mates : (fl A next eng).lookup ("mates" : Str) = some (.ref A.m) := by kernel_rfl
theorem fl_eng : (fl A next eng).lookup ("engine_end" : Str) = some eng := by kernel_rfl
theorem fl_rung : (fl A next eng).lookup ("rung" : Str) = some (.ref A.g) := by kernel_rfl
theorem fl_trail : (fl A next eng).lookup ("trail" : Str) = some (.ref A.tr) := by kernel_rfl
theorem fl_put_trail (q : Addr) : putF "trail" (.ref q) (fl A next eng) = fl { A with tr := q } next eng := by kernel_rfl
theorem fl_put_next (n' : Int) : putF "next_piece" (.int n') (fl A next eng) = fl A n' eng := by kernel_rfl
theorem fl_put_eng (e' : V) : putF "engine_end" e' (fl A next eng) = fl A next e' := by kernel_rfl
end
/-- methods are no attributes -/
theorem fl_m (A : YA) (next : Int) (eng : V) : (fl A next eng).lookup ("lay" : Str) = none ∧ (fl A next eng).lookup ("new_rod" : Str) = none ∧ (fl A next eng).lookup ("throw" : Str) = none ∧ (fl A next eng).lookup ("rods" : Str) = none ∧ (fl A next eng).lookup ("rod" : Str) = none ∧
    (fl A next eng).lookup ("side" : Str) = none ∧ (fl A next eng).lookup ("end_trail" : Str) = none ∧ (fl A next eng).lookup ("check_piece" : Str) = none ∧ (fl A next eng).lookup ("check_rod" : Str) = none :=
  ⟨by kernel_rfl, by kernel_rfl, by kernel_rfl, by kernel_rfl, by kernel_rfl, by kernel_rfl, by kernel_rfl, by kernel_rfl, by kernel_rfl⟩
def sp_init (C : Addr) : Sp := fun vs H Q _ => ∃ (p dx : Addr) (L : Kn), vs = [.ref p] ∧ Has H ((p, .ins C dx []) :: (dx, .own p) :: L) ∧ ∀ H' A, A.p = p → Has H' (yL C A y0 ++ L) → Q .non H'
/-- self.trail = [] -/
def sp_end_trail (C : Addr) : Sp := fun vs H Q _ => ∃ (A : YA) (y : YR) (L : Kn), vs = [.ref A.p] ∧ Has H (yL C A y ++ L) ∧ ∀ H' q, Has H' (yL C { A with tr := q } { y with trail := [] } ++ L) → Q .non H'
theorem init_perm {H : Hp} {C p dx a1 a2 a3 a4 a5 a7 a8 : Addr} {fs : List (Str × V)} {L : Kn} (h : Has H ((a8, .lst []) :: (a7, .lst []) :: (a5, .dT []) :: (a4, .lst []) :: (a3, .dK []) :: (a2, .dK []) :: (a1, .dK []) :: (p, .ins C dx fs) :: (dx, .own p) :: L)) :
    Has H ([(a8, .lst []), (p, .ins C dx fs), (dx, .own p), (a1, .dK []), (a2, .dK []), (a3, .dK []), (a4, .lst []), (a5, .dT []), (a7, .lst [])] ++ L) := by
  refine h.perm ?_
  refine .cons _ ?_
  show List.Perm ([(a7, HO.lst []), (a5, .dT []), (a4, .lst []), (a3, .dK []), (a2, .dK []), (a1, .dK []), (p, .ins C dx fs), (dx, .own p)] ++ L) ([(p, .ins C dx fs), (dx, .own p), (a1, .dK []), (a2, .dK []), (a3, .dK []), (a4, .lst []), (a5, .dT []), (a7, .lst [])] ++ L)
  refine List.Perm.append_right L ?_
  have e : [(a7, HO.lst []), (a5, .dT []), (a4, .lst []), (a3, .dK []), (a2, .dK []), (a1, .dK []), (p, .ins C dx fs), (dx, .own p)] = [(a7, HO.lst []), (a5, .dT []), (a4, .lst []), (a3, .dK []), (a2, .dK []), (a1, .dK [])] ++ [(p, .ins C dx fs), (dx, .own p)] := rfl
  rw [e]
  refine List.perm_append_comm.trans ?_
  refine .cons _ (.cons _ ?_)
  exact List.reverse_perm [(a1, HO.dK []), (a2, .dK []), (a3, .dK []), (a4, .lst []), (a5, .dT []), (a7, .lst [])]
section
variable {P : Program} {w : World} {K : PySem.W.Frag} {mg : Str → Option Value} {base : Heap} {t : Adr}
theorem scYi : FnScope ["self"] ["self"] (defScope s_Yard_init) := ⟨rfl, rfl, rfl, by decide +kernel, rfl, by decide +kernel, by decide +kernel⟩
theorem ok_Yard_init (T : Txt K mg t) : FnOk P w K mg base CX0 1 t.f_Yard_init t.d_Yard_init ["self"] (sp_init t.c_Yard) := by
  refine T.F_Yard_init.ok scYi (fun vs H Q E h => ?_) (fun cdv A outer s H vs Q E hr h => ?_)
  · obtain ⟨_, _, _, rfl, _⟩ := h
    rfl
  · obtain ⟨p, dx, L, rfl, hH, q⟩ := h
    refine ⟨_, (pss_cons (ps_fld (pv 0) pe_int rfl)
      (pss_cons (ps_fld (pv 0) pe_dnewK rfl)
      (pss_cons (ps_fld (pv 0) pe_dnewK rfl)
      (pss_cons (ps_fld (pv 0) pe_dnewK rfl)
      (pss_cons (ps_fld (pv 0) (pe_lst pa_nil) rfl)
      (pss_cons (ps_fld (pv 0) pe_dnewT rfl)
      (pss_cons (ps_fld (pv 0) pe_non rfl)
      (pss_cons (ps_fld (pv 0) (pe_lst pa_nil) rfl)
      (pss_one (ps_fld (pv 0) (pe_lst pa_nil) rfl)))))))))), ?_⟩
    refine ⟨_, rfl, p, _, dx, _, rfl, hH.get 0 rfl, T.cl_Yard, T.n_Yard_next_piece, (show 0 < 1000 by decide), ?_⟩
    have h1 := hH.puti 0 rfl (.ins t.c_Yard dx (putF ("next_piece" : Str) (V.int 0) ([] : List (Str × V))))
    rw [show putF ("next_piece" : Str) (V.int 0) ([] : List (Str × V)) = ([(("next_piece" : Str), V.int 0)] : List (Str × V)) from by kernel_rfl] at h1 ⊢
    generalize upd H p _ = H1 at h1 ⊢
    intro a1 n1
    refine ⟨_, rfl, p, _, dx, _, rfl, (h1.alloc n1 (.dK [])).get 1 rfl, T.cl_Yard, T.n_Yard_kinds, (show 1 < 1000 by decide), ?_⟩
    have h2 := (h1.alloc n1 (.dK [])).puti 1 rfl (.ins t.c_Yard dx (putF ("kinds" : Str) (V.ref a1) ([(("next_piece" : Str), V.int 0)] : List (Str × V))))
    rw [show putF ("kinds" : Str) (V.ref a1) ([(("next_piece" : Str), V.int 0)] : List (Str × V)) = ([(("next_piece" : Str), V.int 0), (("kinds" : Str), V.ref a1)] : List (Str × V)) from by kernel_rfl] at h2 ⊢
    generalize upd (upd H1 a1 _) p _ = H2 at h2 ⊢
    intro a2 n2
    refine ⟨_, rfl, p, _, dx, _, rfl, (h2.alloc n2 (.dK [])).get 2 rfl, T.cl_Yard, T.n_Yard_notes, (show 2 < 1000 by decide), ?_⟩
    have h3 := (h2.alloc n2 (.dK [])).puti 2 rfl (.ins t.c_Yard dx (putF ("notes" : Str) (V.ref a2) ([(("next_piece" : Str), V.int 0), (("kinds" : Str), V.ref a1)] : List (Str × V))))
    rw [show putF ("notes" : Str) (V.ref a2) ([(("next_piece" : Str), V.int 0), (("kinds" : Str), V.ref a1)] : List (Str × V)) = ([(("next_piece" : Str), V.int 0), (("kinds" : Str), V.ref a1), (("notes" : Str), V.ref a2)] : List (Str × V)) from by kernel_rfl] at h3 ⊢
    generalize upd (upd H2 a2 _) p _ = H3 at h3 ⊢
    intro a3 n3
    refine ⟨_, rfl, p, _, dx, _, rfl, (h3.alloc n3 (.dK [])).get 3 rfl, T.cl_Yard, T.n_Yard_rods_under, (show 3 < 1000 by decide), ?_⟩
    have h4 := (h3.alloc n3 (.dK [])).puti 3 rfl (.ins t.c_Yard dx (putF ("rods_under" : Str) (V.ref a3) ([(("next_piece" : Str), V.int 0), (("kinds" : Str), V.ref a1), (("notes" : Str), V.ref a2)] : List (Str × V))))
    rw [show putF ("rods_under" : Str) (V.ref a3) ([(("next_piece" : Str), V.int 0), (("kinds" : Str), V.ref a1), (("notes" : Str), V.ref a2)] : List (Str × V)) = ([(("next_piece" : Str), V.int 0), (("kinds" : Str), V.ref a1), (("notes" : Str), V.ref a2), (("rods_under" : Str), V.ref a3)] : List (Str × V)) from by kernel_rfl] at h4 ⊢
    generalize upd (upd H3 a3 _) p _ = H4 at h4 ⊢
    refine ⟨by decide, fun a4 n4 => ?_⟩
    refine ⟨_, rfl, p, _, dx, _, rfl, (h4.alloc n4 (.lst [])).get 4 rfl, T.cl_Yard, T.n_Yard_sides, (show 4 < 1000 by decide), ?_⟩
    have h5 := (h4.alloc n4 (.lst [])).puti 4 rfl (.ins t.c_Yard dx (putF ("sides" : Str) (V.ref a4) ([(("next_piece" : Str), V.int 0), (("kinds" : Str), V.ref a1), (("notes" : Str), V.ref a2), (("rods_under" : Str), V.ref a3)] : List (Str × V))))
    rw [show putF ("sides" : Str) (V.ref a4) ([(("next_piece" : Str), V.int 0), (("kinds" : Str), V.ref a1), (("notes" : Str), V.ref a2), (("rods_under" : Str), V.ref a3)] : List (Str × V)) = ([(("next_piece" : Str), V.int 0), (("kinds" : Str), V.ref a1), (("notes" : Str), V.ref a2), (("rods_under" : Str), V.ref a3), (("sides" : Str), V.ref a4)] : List (Str × V)) from by kernel_rfl] at h5 ⊢
    generalize upd (upd H4 a4 _) p _ = H5 at h5 ⊢
    intro a5 n5
    refine ⟨_, rfl, p, _, dx, _, rfl, (h5.alloc n5 (.dT [])).get 5 rfl, T.cl_Yard, T.n_Yard_mates, (show 5 < 1000 by decide), ?_⟩
    have h6 := (h5.alloc n5 (.dT [])).puti 5 rfl (.ins t.c_Yard dx (putF ("mates" : Str) (V.ref a5) ([(("next_piece" : Str), V.int 0), (("kinds" : Str), V.ref a1), (("notes" : Str), V.ref a2), (("rods_under" : Str), V.ref a3), (("sides" : Str), V.ref a4)] : List (Str × V))))
    rw [show putF ("mates" : Str) (V.ref a5) ([(("next_piece" : Str), V.int 0), (("kinds" : Str), V.ref a1), (("notes" : Str), V.ref a2), (("rods_under" : Str), V.ref a3), (("sides" : Str), V.ref a4)] : List (Str × V)) = ([(("next_piece" : Str), V.int 0), (("kinds" : Str), V.ref a1), (("notes" : Str), V.ref a2), (("rods_under" : Str), V.ref a3), (("sides" : Str), V.ref a4), (("mates" : Str), V.ref a5)] : List (Str × V)) from by kernel_rfl] at h6 ⊢
    generalize upd (upd H5 a5 _) p _ = H6 at h6 ⊢
    refine ⟨_, rfl, p, _, dx, _, rfl, h6.get 5 rfl, T.cl_Yard, T.n_Yard_engine_end, (show 6 < 1000 by decide), ?_⟩
    have h7 := h6.puti 5 rfl (.ins t.c_Yard dx (putF ("engine_end" : Str) (V.non) ([(("next_piece" : Str), V.int 0), (("kinds" : Str), V.ref a1), (("notes" : Str), V.ref a2), (("rods_under" : Str), V.ref a3), (("sides" : Str), V.ref a4), (("mates" : Str), V.ref a5)] : List (Str × V))))
    rw [show putF ("engine_end" : Str) (V.non) ([(("next_piece" : Str), V.int 0), (("kinds" : Str), V.ref a1), (("notes" : Str), V.ref a2), (("rods_under" : Str), V.ref a3), (("sides" : Str), V.ref a4), (("mates" : Str), V.ref a5)] : List (Str × V)) = ([(("next_piece" : Str), V.int 0), (("kinds" : Str), V.ref a1), (("notes" : Str), V.ref a2), (("rods_under" : Str), V.ref a3), (("sides" : Str), V.ref a4), (("mates" : Str), V.ref a5), (("engine_end" : Str), V.non)] : List (Str × V)) from by kernel_rfl] at h7 ⊢
    generalize upd H6 p _ = H7 at h7 ⊢
    refine ⟨by decide, fun a7 n7 => ?_⟩
    refine ⟨_, rfl, p, _, dx, _, rfl, (h7.alloc n7 (.lst [])).get 6 rfl, T.cl_Yard, T.n_Yard_rung, (show 7 < 1000 by decide), ?_⟩
    have h8 := (h7.alloc n7 (.lst [])).puti 6 rfl (.ins t.c_Yard dx (putF ("rung" : Str) (V.ref a7) ([(("next_piece" : Str), V.int 0), (("kinds" : Str), V.ref a1), (("notes" : Str), V.ref a2), (("rods_under" : Str), V.ref a3), (("sides" : Str), V.ref a4), (("mates" : Str), V.ref a5), (("engine_end" : Str), V.non)] : List (Str × V))))
    rw [show putF ("rung" : Str) (V.ref a7) ([(("next_piece" : Str), V.int 0), (("kinds" : Str), V.ref a1), (("notes" : Str), V.ref a2), (("rods_under" : Str), V.ref a3), (("sides" : Str), V.ref a4), (("mates" : Str), V.ref a5), (("engine_end" : Str), V.non)] : List (Str × V)) = ([(("next_piece" : Str), V.int 0), (("kinds" : Str), V.ref a1), (("notes" : Str), V.ref a2), (("rods_under" : Str), V.ref a3), (("sides" : Str), V.ref a4), (("mates" : Str), V.ref a5), (("engine_end" : Str), V.non), (("rung" : Str), V.ref a7)] : List (Str × V)) from by kernel_rfl] at h8 ⊢
    generalize upd (upd H7 a7 _) p _ = H8 at h8 ⊢
    refine ⟨by decide, fun a8 n8 => ?_⟩
    refine ⟨_, rfl, p, _, dx, _, rfl, (h8.alloc n8 (.lst [])).get 7 rfl, T.cl_Yard, T.n_Yard_trail, (show 8 < 1000 by decide), ?_⟩
    refine q _ ⟨p, dx, a8, a1, a2, a3, a4, a5, a7⟩ rfl ?_
    have h9 := (h8.alloc n8 (.lst [])).puti 7 rfl (.ins t.c_Yard dx (putF ("trail" : Str) (V.ref a8) ([(("next_piece" : Str), V.int 0), (("kinds" : Str), V.ref a1), (("notes" : Str), V.ref a2), (("rods_under" : Str), V.ref a3), (("sides" : Str), V.ref a4), (("mates" : Str), V.ref a5), (("engine_end" : Str), V.non), (("rung" : Str), V.ref a7)] : List (Str × V))))
    rw [show putF ("trail" : Str) (V.ref a8) ([(("next_piece" : Str), V.int 0), (("kinds" : Str), V.ref a1), (("notes" : Str), V.ref a2), (("rods_under" : Str), V.ref a3), (("sides" : Str), V.ref a4), (("mates" : Str), V.ref a5), (("engine_end" : Str), V.non), (("rung" : Str), V.ref a7)] : List (Str × V)) = ([(("next_piece" : Str), V.int 0), (("kinds" : Str), V.ref a1), (("notes" : Str), V.ref a2), (("rods_under" : Str), V.ref a3), (("sides" : Str), V.ref a4), (("mates" : Str), V.ref a5), (("engine_end" : Str), V.non), (("rung" : Str), V.ref a7), (("trail" : Str), V.ref a8)] : List (Str × V)) from by kernel_rfl] at h9 ⊢
    exact init_perm h9
end

/-- the notes and rods behind a laying -/
def layY (y : YR) (k : Kd) (note : Int) (rod : V) : YR :=
  { y with next := y.next + 1, kinds := putK y.kinds (Sum.inl y.next) (.str k.str),
           notes := if k = .bell then putK y.notes (Sum.inl y.next) (.int note) else y.notes,
           rods := if k.point then putK y.rods (Sum.inl y.next) (if rod = .non then .int y.sides.length else rod) else y.rods,
           sides := if k.point ∧ rod = .non then y.sides ++ [.int 1] else y.sides, trail := [] }
/-- the sizes that the rules ask for -/
structure Small (y : YR) : Prop where
  k : y.kinds.length ≤ 10000
  n : y.notes.length ≤ 10000
  r : y.rods.length ≤ 10000
  s : y.sides.length ≤ 10000
  m : y.mates.length ≤ 30000
  g : y.rung.length ≤ 300000
  t : y.trail.length ≤ 300000
def sp_check_piece (C : Addr) : Sp := fun vs H Q _ => ∃ (A : YA) (y : YR) (L : Kn) (n : Int) (v : V), vs = [.ref A.p, .int n] ∧ Has H (yL C A y ++ L) ∧ valV y.kinds (Sum.inl n) = some v ∧ Q .non H
def sp_check_rod (C : Addr) : Sp := fun vs H Q _ => ∃ (A : YA) (y : YR) (L : Kn) (r : Int), vs = [.ref A.p, .int r] ∧ Has H (yL C A y ++ L) ∧ 0 ≤ r ∧ r < y.sides.length ∧ Q .non H
def sp_check_note : Sp := fun vs H Q _ => ∃ n : Int, vs = [.int n] ∧ 0 ≤ n ∧ n ≤ 9999 ∧ Q .non H
def sp_new_rod (C : Addr) : Sp := fun vs H Q _ => ∃ (A : YA) (y : YR) (L : Kn) (s : Int), vs = [.ref A.p, .int s] ∧ Has H (yL C A y ++ L) ∧ (s = 1 ∨ s = 2) ∧ y.sides.length ≤ 10000 ∧
  ∀ H' q, Has H' (yL C { A with tr := q } { y with sides := y.sides ++ [.int s], trail := [] } ++ L) → Q (.int y.sides.length) H'
def sp_throw (C : Addr) : Sp := fun vs H Q _ => ∃ (A : YA) (y : YR) (L : Kn) (r s : Int), vs = [.ref A.p, .int r, .int s] ∧ Has H (yL C A y ++ L) ∧ 0 ≤ r ∧ r < y.sides.length ∧ (s = 1 ∨ s = 2) ∧
  ∀ H' q, Has H' (yL C { A with tr := q } { y with sides := y.sides.set r.toNat (.int s), trail := [] } ++ L) → Q .non H'
def sp_rods (C : Addr) : Sp := fun vs H Q _ => ∃ (A : YA) (y : YR) (L : Kn), vs = [.ref A.p] ∧ Has H (yL C A y ++ L) ∧ Small y ∧ ∀ H' l, Has H' ((l, .lst (intsV y.sides.length)) :: (yL C A y ++ L)) → Q (.ref l) H'
def sp_side (C : Addr) : Sp := fun vs H Q _ => ∃ (A : YA) (y : YR) (L : Kn) (r : Int) (v : V), vs = [.ref A.p, .int r] ∧ Has H (yL C A y ++ L) ∧ 0 ≤ r ∧ y.sides[r.toNat]? = some v ∧ Q v H
def sp_rod (C : Addr) : Sp := fun vs H Q _ => ∃ (A : YA) (y : YR) (L : Kn) (n : Int) (u v : V), vs = [.ref A.p, .int n] ∧ Has H (yL C A y ++ L) ∧ valV y.kinds (Sum.inl n) = some u ∧ valV y.rods (Sum.inl n) = some v ∧ Q v H
def sp_lay (C : Addr) : Sp := fun vs H Q _ => ∃ (A : YA) (y : YR) (L : Kn) (k : Kd) (note : Int) (rod : V), vs = [.ref A.p, .str k.str, .int note, rod] ∧ Has H (yL C A y ++ L) ∧ Small y ∧ (k = .bell → 0 ≤ note ∧ note ≤ 9999) ∧
  (k.point = true → rod ≠ .non → ∃ r : Int, rod = .int r ∧ 0 ≤ r ∧ r < y.sides.length) ∧ ∀ H' q, Has H' (yL C { A with tr := q } (layY y k note rod) ++ L) → Q (.int y.next) H'
section
variable {P : Program} {w : World} {K : PySem.W.Frag} {mg : Str → Option Value} {base : Heap} {t : Adr}
theorem scEt : FnScope ["self"] ["self"] (defScope s_Yard_end_trail) := ⟨rfl, rfl, rfl, by decide +kernel, rfl, by decide +kernel, by decide +kernel⟩
theorem ok_Yard_end_trail (T : Txt K mg t) : FnOk P w K mg base CX0 1 t.f_Yard_end_trail t.d_Yard_end_trail ["self"] (sp_end_trail t.c_Yard) := by
  refine T.F_Yard_end_trail.ok scEt (fun vs H Q E h => ?_) (fun cdv A outer s H vs Q E hr h => ?_)
  · obtain ⟨_, _, _, rfl, _⟩ := h
    rfl
  · obtain ⟨A, y, L, rfl, hH, q⟩ := h
    refine ⟨_, (pss_one (ps_fld (pv 0) (pe_lst pa_nil) rfl)), ?_⟩
    refine ⟨by decide, fun a ha => ?_⟩
    have h1 := hH.alloc ha (.lst [])
    refine ⟨_, rfl, A.p, _, A.dx, _, rfl, h1.get 2 rfl, T.cl_Yard, T.n_Yard_trail, (show 9 < 1000 by decide), ?_⟩
    refine q _ a ?_
    rw [fl_put_trail]
    have h2 := (h1.puti 2 rfl (.ins t.c_Yard A.dx (fl { A with tr := a } y.next y.eng)))
    exact (h2.swap2).tail
theorem scCr : FnScope ["self", "rod"] ["self", "rod"] (defScope s_Yard_check_rod) := ⟨rfl, rfl, rfl, by decide +kernel, rfl, by decide +kernel, by decide +kernel⟩
theorem ok_Yard_check_rod (T : Txt K mg t) : FnOk P w K mg base CX0 1 t.f_Yard_check_rod t.d_Yard_check_rod ["self", "rod"] (sp_check_rod t.c_Yard) := by
  refine T.F_Yard_check_rod.ok scCr (fun vs H Q E h => ?_) (fun cdv A outer s H vs Q E hr h => ?_)
  · obtain ⟨_, _, _, _, rfl, _⟩ := h
    rfl
  · obtain ⟨A, y, L, r, rfl, hH, r0, r1, q⟩ := h
    refine ⟨_, (pss_one (ps_if (PW.pt (pw_or (pt_cmpR op_lt (pv 1) pe_int (nomark _)) (pw_or1 (pt_cmpR op_ge (pv 1) (pe_callB call_len_seq (by rfl) T.z_len (by rfl) (pa_cons (pe_fld (pv 0) rfl) pa_nil)) (nomark _)))))
        (pss_one ps_never)
        pss_nil)), ?_⟩
    refine ⟨_, rfl, _, _, rfl, rfl, _, rfl, ifF (decide_eq_false (by omega)) ?_⟩
    refine ⟨_, rfl, _, rfl, A.p, _, A.dx, _, _, rfl, hH.get 1 rfl, T.cl_Yard, T.n_Yard_sides, fl_sides _ _ _, A.s, _, rfl, .inl (SqL.of (hH.get 6 rfl)), _, _, rfl, rfl, _, rfl, ?_⟩
    exact ifF (decide_eq_false (by omega)) q
theorem scCn : FnScope ["note"] ["note"] (defScope s_check_note) := ⟨rfl, rfl, rfl, by decide +kernel, rfl, by decide +kernel, by decide +kernel⟩
theorem ok_check_note (T : Txt K mg t) : FnOk P w K mg base CX0 1 t.f_check_note t.d_check_note ["note"] sp_check_note := by
  refine T.F_check_note.ok scCn (fun vs H Q E h => ?_) (fun cdv A outer s H vs Q E hr h => ?_)
  · obtain ⟨_, rfl, _⟩ := h
    rfl
  · obtain ⟨n, rfl, n0, n1, q⟩ := h
    refine ⟨_, (pss_one (ps_if (PW.pt (pw_or (pt_cmpR op_lt (pv 0) pe_int (nomark _)) (pw_or1 (pt_cmpR op_gt (pv 0) (pe_glob (by rfl) T.g_LAST_NOTE T.r_LAST_NOTE) (nomark _)))))
        (pss_one ps_never)
        pss_nil)), ?_⟩
    refine ⟨_, rfl, _, _, rfl, rfl, _, rfl, ifF (decide_eq_false (by omega)) ?_⟩
    refine ⟨_, rfl, _, _, rfl, rfl, _, rfl, ifF (decide_eq_false (by omega)) q⟩
theorem scCp : FnScope ["self", "piece"] ["self", "piece"] (defScope s_Yard_check_piece) := ⟨rfl, rfl, rfl, by decide +kernel, rfl, by decide +kernel, by decide +kernel⟩
theorem ok_Yard_check_piece (T : Txt K mg t) : FnOk P w K mg base CX0 1 t.f_Yard_check_piece t.d_Yard_check_piece ["self", "piece"] (sp_check_piece t.c_Yard) := by
  refine T.F_Yard_check_piece.ok scCp (fun vs H Q E h => ?_) (fun cdv A outer s H vs Q E hr h => ?_)
  · obtain ⟨_, _, _, _, _, rfl, _⟩ := h
    rfl
  · obtain ⟨A, y, L, n, v, rfl, hH, hv, q⟩ := h
    have hu := hu_of hr
    refine ⟨_, (pss_one (ps_if (pt_cmp (pc_dnotin hu (pv 1) (pe_fld (pv 0) rfl)))
        (pss_one ps_never)
        pss_nil)), ?_⟩
    refine ⟨_, rfl, _, rfl, A.p, _, A.dx, _, _, rfl, hH.get 1 rfl, T.cl_Yard, T.n_Yard_kinds, fl_kinds _ _ _, A.k, _, rfl, DGet.k (k := Sum.inl n) (hH.get 3 rfl), _, rfl, ?_⟩
    exact ifF (by rw [hv]; rfl) q
theorem scNr : FnScope ["self", "side"] ["self", "side"] (defScope s_Yard_new_rod) := ⟨rfl, rfl, rfl, by decide +kernel, rfl, by decide +kernel, by decide +kernel⟩
theorem ok_Yard_new_rod (T : Txt K mg t) : FnOk P w K mg base CX0 2 t.f_Yard_new_rod t.d_Yard_new_rod ["self", "side"] (sp_new_rod t.c_Yard) := by
  refine T.F_Yard_new_rod.ok scNr (fun vs H Q E h => ?_) (fun cdv A outer s H vs Q E hr h => ?_)
  · obtain ⟨_, _, _, _, rfl, _⟩ := h
    rfl
  · obtain ⟨A, y, L, z, rfl, hH, hz, sm, q⟩ := h
    refine ⟨_, (pss_cons (ps_expr (pe_call (ok_check_side T) (hr.mono (by decide)) (by rfl) T.m_check_side T.F_check_side.kp (b_check_side T) .nil pass0 (pa_cons (pv 1) pa_nil)))
      (pss_cons (ps_expr (pe_bm PySem.F.plainAttrs_list PySem.F.slot_list_append PySem.F.type_list_append mt_append (pe_fld (pv 0) rfl) (pa_cons (pv 1) pa_nil)))
      (pss_cons (ps_expr (pe_meth0 (pv 0) T.cl_Yard T.M_Yard_end_trail (ok_Yard_end_trail T) (hr.mono (by decide)) (b_Yard_end_trail T) .nil pass0))
      (pss_one (ps_ret (pe_op op_sub (pe_callB call_len_seq (by rfl) T.z_len (by rfl) (pa_cons (pe_fld (pv 0) rfl) pa_nil)) pe_int)))))), ?_⟩
    refine ⟨_, rfl, z, rfl, hz, ?_⟩
    refine ⟨_, rfl, A.p, _, A.dx, _, _, rfl, hH.get 1 rfl, T.cl_Yard, T.n_Yard_sides, fl_sides _ _ _, .inl ⟨rfl, _, SqL.of (hH.get 6 rfl)⟩, _, rfl, A.s, _, _, rfl, rfl, hH.get 6 rfl, sizeOk (by omega), ?_⟩
    have h1 : Has _ (yL t.c_Yard A { y with sides := y.sides ++ [.int z] } ++ L) := hH.puti 6 rfl (.lst (y.sides ++ [.int z]))
    refine ⟨_, rfl, A.p, A.dx, _, rfl, h1.get 1 rfl, (fl_m _ _ _).2.2.2.2.2.2.1, A, _, L, rfl, h1, fun H' a h2 => ?_⟩
    refine ⟨_, rfl, A.p, _, A.dx, _, _, rfl, h2.get 1 rfl, T.cl_Yard, T.n_Yard_sides, fl_sides _ _ _, A.s, _, rfl, .inl (SqL.of (h2.get 6 rfl)), _, _, rfl, rfl, ?_⟩
    have e : ((y.sides ++ [V.int z]).length : Int) - 1 = y.sides.length := by rw [List.length_append, List.length_singleton]; omega
    show Q (.int (((y.sides ++ [V.int z]).length : Int) - 1)) H'
    rw [e]
    exact q H' a h2
theorem scTh : FnScope ["self", "rod", "side"] ["self", "rod", "side"] (defScope s_Yard_throw) := ⟨rfl, rfl, rfl, by decide +kernel, rfl, by decide +kernel, by decide +kernel⟩
theorem ok_Yard_throw (T : Txt K mg t) : FnOk P w K mg base CX0 2 t.f_Yard_throw t.d_Yard_throw ["self", "rod", "side"] (sp_throw t.c_Yard) := by
  refine T.F_Yard_throw.ok scTh (fun vs H Q E h => ?_) (fun cdv A outer s H vs Q E hr h => ?_)
  · obtain ⟨_, _, _, _, _, rfl, _⟩ := h
    rfl
  · obtain ⟨A, y, L, r, z, rfl, hH, r0, r1, hz, q⟩ := h
    refine ⟨_, (pss_cons (ps_expr (pe_meth (pv 0) T.cl_Yard T.M_Yard_check_rod (ok_Yard_check_rod T) (hr.mono (by decide)) (b_Yard_check_rod T) .nil pass0 (pa_cons (pv 1) pa_nil)))
      (pss_cons (ps_expr (pe_call (ok_check_side T) (hr.mono (by decide)) (by rfl) T.m_check_side T.F_check_side.kp (b_check_side T) .nil pass0 (pa_cons (pv 2) pa_nil)))
      (pss_cons (ps_asg (pv 2) (pg_sub (pe_fld (pv 0) rfl) (pv 1) set_list))
      (pss_one (ps_expr (pe_meth0 (pv 0) T.cl_Yard T.M_Yard_end_trail (ok_Yard_end_trail T) (hr.mono (by decide)) (b_Yard_end_trail T) .nil pass0)))))), ?_⟩
    refine ⟨_, rfl, A.p, A.dx, _, rfl, hH.get 1 rfl, (fl_m _ _ _).2.2.2.2.2.2.2.2, _, rfl, A, y, L, r, rfl, hH, r0, r1, ?_⟩
    refine ⟨_, rfl, z, rfl, hz, ?_⟩
    have hj : ixN y.sides.length r = some r.toNat := by unfold ixN; rw [if_pos r0, if_pos r1]
    refine ⟨_, rfl, _, rfl, A.p, _, A.dx, _, _, rfl, hH.get 1 rfl, T.cl_Yard, T.n_Yard_sides, fl_sides _ _ _, _, rfl, A.s, _, r, r.toNat, rfl, rfl, hH.get 6 rfl, hj, ?_⟩
    have h1 : Has _ (yL t.c_Yard A { y with sides := y.sides.set r.toNat (.int z) } ++ L) := hH.puti 6 rfl (.lst (y.sides.set r.toNat (.int z)))
    exact ⟨_, rfl, A.p, A.dx, _, rfl, h1.get 1 rfl, (fl_m _ _ _).2.2.2.2.2.2.1, A, _, L, rfl, h1, fun H' a h2 => q H' a h2⟩
theorem scSi : FnScope ["self", "rod"] ["self", "rod"] (defScope s_Yard_side) := ⟨rfl, rfl, rfl, by decide +kernel, rfl, by decide +kernel, by decide +kernel⟩
theorem ok_Yard_side (T : Txt K mg t) : FnOk P w K mg base CX0 2 t.f_Yard_side t.d_Yard_side ["self", "rod"] (sp_side t.c_Yard) := by
  refine T.F_Yard_side.ok scSi (fun vs H Q E h => ?_) (fun cdv A outer s H vs Q E hr h => ?_)
  · obtain ⟨_, _, _, _, _, rfl, _⟩ := h
    rfl
  · obtain ⟨A, y, L, r, v, rfl, hH, r0, hv, q⟩ := h
    have r1 : r < y.sides.length := by have := (List.getElem?_eq_some_iff.mp hv).1; omega
    have er : (r.toNat : Int) = r := by omega
    refine ⟨_, (pss_cons (ps_expr (pe_meth (pv 0) T.cl_Yard T.M_Yard_check_rod (ok_Yard_check_rod T) (hr.mono (by decide)) (b_Yard_check_rod T) .nil pass0 (pa_cons (pv 1) pa_nil)))
      (pss_one (ps_ret (pe_ix ix_list (pe_fld (pv 0) rfl) (pv 1) (fun _ _ => rfl))))), ?_⟩
    refine ⟨_, rfl, A.p, A.dx, _, rfl, hH.get 1 rfl, (fl_m _ _ _).2.2.2.2.2.2.2.2, _, rfl, A, y, L, r, rfl, hH, r0, r1, ?_⟩
    exact ⟨_, rfl, A.p, _, A.dx, _, _, rfl, hH.get 1 rfl, T.cl_Yard, T.n_Yard_sides, fl_sides _ _ _, _, rfl, A.s, _, r, v, rfl, rfl, SqL.of (hH.get 6 rfl), (by rw [← er]; exact atI_nat hv), q⟩
theorem scRo : FnScope ["self", "piece"] ["self", "piece"] (defScope s_Yard_rod) := ⟨rfl, rfl, rfl, by decide +kernel, rfl, by decide +kernel, by decide +kernel⟩
theorem ok_Yard_rod (T : Txt K mg t) : FnOk P w K mg base CX0 2 t.f_Yard_rod t.d_Yard_rod ["self", "piece"] (sp_rod t.c_Yard) := by
  refine T.F_Yard_rod.ok scRo (fun vs H Q E h => ?_) (fun cdv A outer s H vs Q E hr h => ?_)
  · obtain ⟨_, _, _, _, _, _, rfl, _⟩ := h
    rfl
  · obtain ⟨A, y, L, n, u, v, rfl, hH, hk, hv, q⟩ := h
    have hu := hu_of hr
    refine ⟨_, (pss_cons (ps_expr (pe_meth (pv 0) T.cl_Yard T.M_Yard_check_piece (ok_Yard_check_piece T) (hr.mono (by decide)) (b_Yard_check_piece T) .nil pass0 (pa_cons (pv 1) pa_nil)))
      (pss_cons (ps_if (pt_cmp (pc_dnotin hu (pv 1) (pe_fld (pv 0) rfl)))
        (pss_one ps_never)
        pss_nil)
      (pss_one (ps_ret (pe_dget hu (pe_fld (pv 0) rfl) (pv 1) (fun _ _ => rfl)))))), ?_⟩
    refine ⟨_, rfl, A.p, A.dx, _, rfl, hH.get 1 rfl, (fl_m _ _ _).2.2.2.2.2.2.2.1, _, rfl, A, y, L, n, u, rfl, hH, hk, ?_⟩
    refine ⟨_, rfl, _, rfl, A.p, _, A.dx, _, _, rfl, hH.get 1 rfl, T.cl_Yard, T.n_Yard_rods_under, fl_rods _ _ _, A.r, _, rfl, DGet.k (k := Sum.inl n) (hH.get 5 rfl), _, rfl, ifF (by rw [hv]; rfl) ?_⟩
    refine ⟨_, rfl, A.p, _, A.dx, _, _, rfl, hH.get 1 rfl, T.cl_Yard, T.n_Yard_rods_under, fl_rods _ _ _, _, rfl, A.r, _, rfl, ?_, q⟩
    rw [← hv]
    exact DGet.k (k := Sum.inl n) (hH.get 5 rfl)
theorem scLy : FnScope ["self", "kind", "note", "rod", "point", "piece"] ["self", "kind", "note", "rod"] (defScope s_Yard_lay) := ⟨rfl, rfl, rfl, by decide +kernel, rfl, by decide +kernel, by decide +kernel⟩
theorem ok_Yard_lay (T : Txt K mg t) : FnOk P w K mg base CX0 3 t.f_Yard_lay t.d_Yard_lay ["self", "kind", "note", "rod"] (sp_lay t.c_Yard) := by
  obtain ⟨ds_nr, hd_Yard_new_rod_1, hb_Yard_new_rod_1⟩ := bD_Yard_new_rod_1 T
  refine T.F_Yard_lay.ok scLy (fun vs H Q E h => ?_) (fun cdv A outer s H vs Q E hr h => ?_)
  · obtain ⟨_, _, _, _, _, _, rfl, _⟩ := h
    rfl
  · obtain ⟨A, y, L, k, note, rod, rfl, hH, sm, hnote, hrod, q⟩ := h
    have hu := hu_of hr
    refine ⟨_, (pss_cons (ps_set (i := 4) scLy.nd rfl (Or.inl rfl) (pe_call (ok_is_point T) (hr.mono (by decide)) (by rfl) T.m_is_point T.F_is_point.kp (b_is_point T) .nil pass0 (pa_cons (pv 1) pa_nil)))
      (pss_cons (ps_if (pt_cmpR op_eq (pv 1) pe_str (nomark _))
        (pss_one (ps_expr (pe_call (ok_check_note T) (hr.mono (by decide)) (by rfl) T.m_check_note T.F_check_note.kp (b_check_note T) .nil pass0 (pa_cons (pv 2) pa_nil))))
        pss_nil)
      (pss_cons (ps_if (PW.pt (pw_and (pt_val (pv 4)) (pw_and1 (pt_cmpR op_notN (pv 3) pe_non (nomark _)))))
        (pss_one (ps_expr (pe_meth (pv 0) T.cl_Yard T.M_Yard_check_rod (ok_Yard_check_rod T) (hr.mono (by decide)) (b_Yard_check_rod T) .nil pass0 (pa_cons (pv 3) pa_nil))))
        pss_nil)
      (pss_cons (ps_set (i := 5) scLy.nd rfl (Or.inl rfl) (pe_fld (pv 0) rfl))
      (pss_cons (ps_fldaug (pv 0) pe_int in_add)
      (pss_cons (ps_dput hu (pe_fld (pv 0) rfl) (pv 5) (pv 1) rfl)
      (pss_cons (ps_if (pt_cmpR op_eq (pv 1) pe_str (nomark _))
        (pss_one (ps_dput hu (pe_fld (pv 0) rfl) (pv 5) (pv 2) rfl))
        pss_nil)
      (pss_cons (ps_if (pt_val (pv 4))
        (pss_one (ps_dput hu (pe_fld (pv 0) rfl) (pv 5) (pe_ifExp (pt_cmpR op_isN (pv 3) pe_non (nomark _)) (pe_meth0 (pv 0) T.cl_Yard T.M_Yard_new_rod (ok_Yard_new_rod T) (hr.mono (by decide)) hb_Yard_new_rod_1 hd_Yard_new_rod_1 pass0) (pv 3)) rfl))
        pss_nil)
      (pss_cons (ps_expr (pe_meth0 (pv 0) T.cl_Yard T.M_Yard_end_trail (ok_Yard_end_trail T) (hr.mono (by decide)) (b_Yard_end_trail T) .nil pass0))
      (pss_one (ps_ret (pv 5)))))))))))), ?_⟩
    refine ⟨_, rfl, k, rfl, ?_⟩
    refine ⟨_, rfl, rfl, _, rfl, ifJ (fun hc g => ?_) ?_⟩
    · rw [k.isBell] at hc
      have hb := hnote (of_decide_eq_true hc)
      exact ⟨_, rfl, note, rfl, hb.1, hb.2, g⟩
    -- if point and rod is not None
    refine ⟨_, rfl, _, rfl, ?_⟩
    refine (fun (g : _) => if2 (fun hp => ⟨_, rfl, rfl, _, rfl, ifJ (fun hc g' => ?a) g⟩) (fun hp => iteF g)) ?b
    case a =>
      have hn : rod ≠ .non := by simpa using hc
      obtain ⟨r, rfl, r0, r1⟩ := hrod hp hn
      exact ⟨_, rfl, A.p, A.dx, _, rfl, hH.get 1 rfl, (fl_m _ _ _).2.2.2.2.2.2.2.2, _, rfl, A, y, L, r, rfl, hH, r0, r1, g'⟩
    -- piece = self.next_piece; self.next_piece += 1
    refine ⟨_, rfl, A.p, _, A.dx, _, _, rfl, hH.get 1 rfl, T.cl_Yard, T.n_Yard_next_piece, fl_next _ _ _, ?_⟩
    refine ⟨_, rfl, A.p, _, A.dx, _, _, rfl, hH.get 1 rfl, T.cl_Yard, T.n_Yard_next_piece, fl_next _ _ _, _, _, rfl, rfl, _, _, hH.get 1 rfl, (show 9 < 1000 by decide), ?_⟩
    rw [fl_put_next]
    have h1 : Has _ (yL t.c_Yard A { y with next := y.next + 1 } ++ L) := hH.puti 1 rfl (.ins t.c_Yard A.dx (fl A (y.next + 1) y.eng))
    generalize upd H A.p _ = H1 at h1 ⊢
    -- self.kinds[piece] = kind
    refine ⟨_, rfl, _, rfl, A.p, _, A.dx, _, _, rfl, h1.get 1 rfl, T.cl_Yard, T.n_Yard_kinds, fl_kinds _ _ _, _, rfl, A.k, _, rfl, DPut.k (k := Sum.inl y.next) (h1.get 3 rfl) (sizeOk (show y.kinds.length ≤ 1000000 by have := sm.k; omega)), ?_⟩
    have h2 : Has _ (yL t.c_Yard A { y with next := y.next + 1, kinds := putK y.kinds (Sum.inl y.next) (.str k.str) } ++ L) := h1.puti 3 rfl (.dK (putK y.kinds (Sum.inl y.next) (.str k.str)))
    generalize upd H1 A.k _ = H2 at h2 ⊢
    refine ⟨_, rfl, rfl, _, rfl, ?_⟩
    rw [k.isBell]
    -- the end of every way
    have fin : ∀ (H3 : Hp) (A3 : YA) (y3 : YR), A3.p = A.p → (∀ q, { A3 with tr := q } = { A with tr := q }) → { y3 with trail := [] } = layY y k note rod → Has H3 (yL t.c_Yard A3 y3 ++ L) →
        tSeq (tDrop (tMeth t.c_Yard "end_trail" (sp_end_trail t.c_Yard) [] E0 (tVar 0) tNil)) (tRet (tVar 5)) { nx := fun _ H' => Q .non H', rt := Q } [some (.ref A.p), some (.str k.str), some (.int note), some rod, some (.bl k.point), some (.int y.next)] H3 := fun H3 A3 y3 e1 e2 e3 h3 => by
      have g1 := h3.get 1 rfl
      rw [e1] at g1
      refine ⟨_, rfl, A.p, A3.dx, _, rfl, g1, (fl_m _ _ _).2.2.2.2.2.2.1, A3, y3, L, (by rw [e1]; rfl), h3, fun H4 a h4 => ⟨_, rfl, ?_⟩⟩
      rw [e2, e3] at h4
      exact q H4 a h4
    refine ifd (fun hb => ?_) (fun hb => ?_)
    · subst hb
      refine ⟨_, rfl, _, rfl, A.p, _, A.dx, _, _, rfl, h2.get 1 rfl, T.cl_Yard, T.n_Yard_notes, fl_notes _ _ _, _, rfl, A.n, _, rfl, DPut.k (k := Sum.inl y.next) (h2.get 4 rfl) (sizeOk (show y.notes.length ≤ 1000000 by have := sm.n; omega)), ?_⟩
      have h3 : Has _ (yL t.c_Yard A { y with next := y.next + 1, kinds := putK y.kinds (Sum.inl y.next) (.str Kd.bell.str), notes := putK y.notes (Sum.inl y.next) (.int note) } ++ L) := h2.puti 4 rfl (.dK (putK y.notes (Sum.inl y.next) (.int note)))
      refine ⟨_, rfl, _, rfl, iteF ?_⟩
      exact fin _ A _ rfl (fun _ => rfl) rfl h3
    · refine ⟨_, rfl, _, rfl, if2 (fun hp => ?_) (fun hp => ?_)⟩
      · refine ⟨_, rfl, rfl, _, rfl, ifd (fun hn => ?_) (fun hn => ?_)⟩
        · subst hn
          refine ⟨_, rfl, A.p, A.dx, _, rfl, h2.get 1 rfl, (fl_m _ _ _).2.1, A, _, L, 1, rfl, h2, .inl rfl, sm.s, fun H3 a h3 => ?_⟩
          refine ⟨_, rfl, A.p, _, A.dx, _, _, rfl, h3.get 1 rfl, T.cl_Yard, T.n_Yard_rods_under, fl_rods _ _ _, _, rfl, A.r, _, rfl, DPut.k (k := Sum.inl y.next) (h3.get 5 rfl) (sizeOk (show y.rods.length ≤ 1000000 by have := sm.r; omega)), ?_⟩
          have h4 : Has _ (yL t.c_Yard { A with tr := a } { y with next := y.next + 1, kinds := putK y.kinds (Sum.inl y.next) (.str k.str), rods := putK y.rods (Sum.inl y.next) (.int y.sides.length), sides := y.sides ++ [.int 1], trail := [] } ++ L) := h3.puti 5 rfl (.dK (putK y.rods (Sum.inl y.next) (.int y.sides.length)))
          exact fin _ { A with tr := a } _ rfl (fun _ => rfl) (by unfold layY; rw [if_neg hb, if_pos hp, if_pos rfl, if_pos ⟨hp, rfl⟩]) h4
        · refine ⟨_, rfl, _, rfl, A.p, _, A.dx, _, _, rfl, h2.get 1 rfl, T.cl_Yard, T.n_Yard_rods_under, fl_rods _ _ _, _, rfl, A.r, _, rfl, DPut.k (k := Sum.inl y.next) (h2.get 5 rfl) (sizeOk (show y.rods.length ≤ 1000000 by have := sm.r; omega)), ?_⟩
          have h3 : Has _ (yL t.c_Yard A { y with next := y.next + 1, kinds := putK y.kinds (Sum.inl y.next) (.str k.str), rods := putK y.rods (Sum.inl y.next) rod } ++ L) := h2.puti 5 rfl (.dK (putK y.rods (Sum.inl y.next) rod))
          exact fin _ A _ rfl (fun _ => rfl) (by unfold layY; rw [if_neg hb, if_pos hp, if_neg hn, if_neg (fun z => hn z.2)]) h3
      · exact fin _ A _ rfl (fun _ => rfl) (by unfold layY; rw [if_neg hb, if_neg (by rw [hp]; exact Bool.false_ne_true), if_neg (fun z => by rw [hp] at z; exact Bool.false_ne_true z.1)]) h2
end

end P


set_option Elab.async false
set_option linter.all false
set_option maxRecDepth 100000
set_option maxHeartbeats 4000000
namespace P
open PySem L2

/-- an end's key -/
abbrev kE (n e : Int) : List Key := [Sum.inl n, Sum.inl e]
theorem fl_m2 (A : YA) (next : Int) (eng : V) : (fl A next eng).lookup ("check_there" : Str) = none ∧ (fl A next eng).lookup ("mate" : Str) = none ∧ (fl A next eng).lookup ("link" : Str) = none ∧ (fl A next eng).lookup ("unlink" : Str) = none :=
  ⟨by kernel_rfl, by kernel_rfl, by kernel_rfl, by kernel_rfl⟩
/-- the end (n, e) is there -/
def There (y : YR) (n e : Int) : Prop := ∃ k : Kd, valV y.kinds (Sum.inl n) = some (.str k.str) ∧ 0 ≤ e ∧ e < k.many
def sp_check_there (C : Addr) : Sp := fun vs H Q _ => ∃ (A : YA) (y : YR) (L : Kn) (b : Addr) (n e : Int) (j : Nat), vs = [.ref A.p, .ref b] ∧ Has H (yL C A y ++ L) ∧ L[j]? = some (b, .tup [.int n, .int e]) ∧ There y n e ∧ Q .non H
def sp_mate (C : Addr) : Sp := fun vs H Q _ => ∃ (A : YA) (y : YR) (L : Kn) (b : Addr) (n e : Int) (j : Nat), vs = [.ref A.p, .ref b] ∧ Has H (yL C A y ++ L) ∧ L[j]? = some (b, .tup [.int n, .int e]) ∧ There y n e ∧ Q ((valV y.mates (kE n e)).getD .non) H
def sp_link (C : Addr) : Sp := fun vs H Q _ => ∃ (A : YA) (y : YR) (L : Kn) (b1 b2 : Addr) (n1 e1 n2 e2 : Int) (j1 j2 : Nat), vs = [.ref A.p, .ref b1, .ref b2] ∧ Has H (yL C A y ++ L) ∧ L[j1]? = some (b1, .tup [.int n1, .int e1]) ∧ L[j2]? = some (b2, .tup [.int n2, .int e2]) ∧
  There y n1 e1 ∧ There y n2 e2 ∧ ¬ kE n1 e1 = kE n2 e2 ∧ valV y.mates (kE n1 e1) = none ∧ valV y.mates (kE n2 e2) = none ∧ y.mates.length ≤ 30000 ∧
  ∀ H' q, Has H' (yL C { A with tr := q } { y with mates := putK (putK y.mates (kE n1 e1) (.ref b2)) (kE n2 e2) (.ref b1), trail := [] } ++ L) → Q .non H'
def sp_unlink (C : Addr) : Sp := fun vs H Q _ => ∃ (A : YA) (y : YR) (L : Kn) (b1 b2 : Addr) (n1 e1 n2 e2 : Int) (j1 j2 : Nat) (v : V), vs = [.ref A.p, .ref b1] ∧ Has H (yL C A y ++ L) ∧ L[j1]? = some (b1, .tup [.int n1, .int e1]) ∧ L[j2]? = some (b2, .tup [.int n2, .int e2]) ∧
  There y n1 e1 ∧ ¬ kE n2 e2 = kE n1 e1 ∧ valV y.mates (kE n1 e1) = some (.ref b2) ∧ valV y.mates (kE n2 e2) = some v ∧
  ∀ H' q, Has H' (yL C { A with tr := q } { y with mates := dropK (dropK y.mates (kE n1 e1)) (kE n2 e2), trail := [] } ++ L) → Q .non H'
section
variable {P : Program} {w : World} {K : PySem.W.Frag} {mg : Str → Option Value} {base : Heap} {t : Adr}
theorem scCt : FnScope ["self", "end", "piece", "place"] ["self", "end"] (defScope s_Yard_check_there) := ⟨rfl, rfl, rfl, by decide +kernel, rfl, by decide +kernel, by decide +kernel⟩
theorem ok_Yard_check_there (T : Txt K mg t) : FnOk P w K mg base CX0 3 t.f_Yard_check_there t.d_Yard_check_there ["self", "end"] (sp_check_there t.c_Yard) := by
  refine T.F_Yard_check_there.ok scCt (fun vs H Q E h => ?_) (fun cdv A outer s H vs Q E hr h => ?_)
  · obtain ⟨_, _, _, _, _, _, _, rfl, _⟩ := h
    rfl
  · obtain ⟨A, y, L, b, n, e, j, rfl, hH, hj, ⟨k, hk, e0, e1⟩, q⟩ := h
    have hu := hu_of hr
    refine ⟨_, (pss_cons (ps_asg (pv 1) (pg_tup rfl (pgs_cons (pg_name (i := 2) scCt.nd rfl (Or.inl rfl)) (pgs_cons (pg_name (i := 3) scCt.nd rfl (Or.inl rfl)) pgs_nil))))
      (pss_cons (ps_expr (pe_meth (pv 0) T.cl_Yard T.M_Yard_check_piece (ok_Yard_check_piece T) (hr.mono (by decide)) (b_Yard_check_piece T) .nil pass0 (pa_cons (pv 2) pa_nil)))
      (pss_one (ps_expr (pe_call (ok_check_end T) (hr.mono (by decide)) (by rfl) T.m_check_end T.F_check_end.kp (b_check_end T) .nil pass0 (pa_cons (pe_dget hu (pe_fld (pv 0) rfl) (pv 2) (fun _ _ => rfl)) (pa_cons (pv 3) pa_nil))))))), ?_⟩
    have gb := hH.get (j + 9) (by simpa [yL] using hj)
    refine ⟨_, rfl, b, _, rfl, SqT.of gb, rfl, _, _, rfl, _, _, rfl, rfl, ?_⟩
    refine ⟨_, rfl, A.p, A.dx, _, rfl, hH.get 1 rfl, (fl_m _ _ _).2.2.2.2.2.2.2.1, _, rfl, A, y, L, n, _, rfl, hH, hk, ?_⟩
    refine ⟨_, rfl, A.p, _, A.dx, _, _, rfl, hH.get 1 rfl, T.cl_Yard, T.n_Yard_kinds, fl_kinds _ _ _, _, rfl, A.k, _, rfl, ?_, _, rfl, k, e, rfl, e0, e1, q⟩
    rw [← hk]
    exact DGet.k (k := Sum.inl n) (hH.get 3 rfl)
theorem scMt : FnScope ["self", "end"] ["self", "end"] (defScope s_Yard_mate) := ⟨rfl, rfl, rfl, by decide +kernel, rfl, by decide +kernel, by decide +kernel⟩
theorem ok_Yard_mate (T : Txt K mg t) : FnOk P w K mg base CX0 4 t.f_Yard_mate t.d_Yard_mate ["self", "end"] (sp_mate t.c_Yard) := by
  refine T.F_Yard_mate.ok scMt (fun vs H Q E h => ?_) (fun cdv A outer s H vs Q E hr h => ?_)
  · obtain ⟨_, _, _, _, _, _, _, rfl, _⟩ := h
    rfl
  · obtain ⟨A, y, L, b, n, e, j, rfl, hH, hj, th, q⟩ := h
    have hu := hu_of hr
    refine ⟨_, (pss_cons (ps_expr (pe_meth (pv 0) T.cl_Yard T.M_Yard_check_there (ok_Yard_check_there T) (hr.mono (by decide)) (b_Yard_check_there T) .nil pass0 (pa_cons (pv 1) pa_nil)))
      (pss_one (ps_ret (pe_dget1 hu (pe_fld (pv 0) rfl) (pv 1) ⟨rfl, rfl, rfl, rfl⟩)))), ?_⟩
    have gb := hH.get (j + 9) (by simpa [yL] using hj)
    refine ⟨_, rfl, A.p, A.dx, _, rfl, hH.get 1 rfl, (fl_m2 _ _ _).1, _, rfl, A, y, L, b, n, e, j, rfl, hH, hj, th, ?_⟩
    exact ⟨_, rfl, A.p, _, A.dx, _, _, rfl, hH.get 1 rfl, T.cl_Yard, T.n_Yard_mates, fl_mates _ _ _, A.m, rfl, .inr ⟨_, .inl (hH.get 7 rfl)⟩, _, rfl, _, DGet.t (k := kE n e) (hH.get 7 rfl) gb, q⟩
theorem scLk : FnScope ["self", "one", "other", "end"] ["self", "one", "other"] (defScope s_Yard_link) := ⟨rfl, rfl, rfl, by decide +kernel, rfl, by decide +kernel, by decide +kernel⟩
theorem ok_Yard_link (T : Txt K mg t) : FnOk P w K mg base CX0 4 t.f_Yard_link t.d_Yard_link ["self", "one", "other"] (sp_link t.c_Yard) := by
  refine T.F_Yard_link.ok scLk (fun vs H Q E h => ?_) (fun cdv A outer s H vs Q E hr h => ?_)
  · obtain ⟨_, _, _, _, _, _, _, _, _, _, _, rfl, _⟩ := h
    rfl
  · obtain ⟨A, y, L, b1, b2, n1, e1, n2, e2, j1, j2, rfl, hH, hj1, hj2, t1, t2, ne, v1, v2, hl, q⟩ := h
    have hu := hu_of hr
    refine ⟨_, (pss_cons (ps_expr (pe_meth (pv 0) T.cl_Yard T.M_Yard_check_there (ok_Yard_check_there T) (hr.mono (by decide)) (b_Yard_check_there T) .nil pass0 (pa_cons (pv 1) pa_nil)))
      (pss_cons (ps_expr (pe_meth (pv 0) T.cl_Yard T.M_Yard_check_there (ok_Yard_check_there T) (hr.mono (by decide)) (b_Yard_check_there T) .nil pass0 (pa_cons (pv 2) pa_nil)))
      (pss_cons (ps_if (pt_cmpR (op_eqT hr.units) (pv 1) (pv 2) (nomark _))
        (pss_one ps_never)
        pss_nil)
      (pss_cons (ps_for PassesOwn.never rfl (pi_tup (pe_tup (pa_cons (pv 1) (pa_cons (pv 2) pa_nil)))) (pg_name (i := 3) scLk.nd rfl (Or.inl rfl))
        (pss_one (ps_if (pt_cmp (pc_din hu (pv 3) (pe_fld (pv 0) rfl)))
            (pss_one ps_never)
            pss_nil)))
      (pss_cons (ps_dput hu (pe_fld (pv 0) rfl) (pv 1) (pv 2) rfl)
      (pss_cons (ps_dput hu (pe_fld (pv 0) rfl) (pv 2) (pv 1) rfl)
      (pss_one (ps_expr (pe_meth0 (pv 0) T.cl_Yard T.M_Yard_end_trail (ok_Yard_end_trail T) (hr.mono (by decide)) (b_Yard_end_trail T) .nil pass0))))))))), ?_⟩
    have g1 := hH.get (j1 + 9) (by simpa [yL] using hj1)
    have g2 := hH.get (j2 + 9) (by simpa [yL] using hj2)
    refine ⟨_, rfl, A.p, A.dx, _, rfl, hH.get 1 rfl, (fl_m2 _ _ _).1, _, rfl, A, y, L, b1, n1, e1, j1, rfl, hH, hj1, t1, ?_⟩
    refine ⟨_, rfl, A.p, A.dx, _, rfl, hH.get 1 rfl, (fl_m2 _ _ _).1, _, rfl, A, y, L, b2, n2, e2, j2, rfl, hH, hj2, t2, ?_⟩
    have ne' : ¬ [n1, e1] = [n2, e2] := fun z => ne (by cases z; rfl)
    refine ⟨_, rfl, _, rfl, b1, b2, [n1, e1], [n2, e2], rfl, rfl, g1, g2, _, rfl, ifF (decide_eq_false ne') ?_⟩
    refine ⟨_, rfl, _, rfl, (show 2 ≤ sizeLine by decide), fun p hp => ?_⟩
    have h1 := (hH.alloc hp (.tup [.ref b1, .ref b2]))
    generalize upd H p _ = H1 at h1 ⊢
    refine ⟨p, rfl, ⟨_, SqT.of (h1.get 0 rfl)⟩, for_tup (xs := [.ref b1, .ref b2]) (fun i σ H' => H' = H1 ∧ ∃ o, σ = [some (.ref A.p), some (.ref b1), some (.ref b2), o]) ⟨rfl, _, rfl⟩ (fun i σ H' _ ⟨e, _⟩ => by rw [e]; exact SqT.of (h1.get 0 rfl)) ?_ ?_⟩
    · rintro i x σ H' hx ⟨rfl, o, rfl⟩
      have k1 := h1.get (j1 + 10) (by simpa [yL] using hj1)
      have k2 := h1.get (j2 + 10) (by simpa [yL] using hj2)
      match i, hx with
      | 0, hx =>
        cases hx
        refine ⟨_, rfl, _, rfl, A.p, _, A.dx, _, _, rfl, h1.get 2 rfl, T.cl_Yard, T.n_Yard_mates, fl_mates _ _ _, A.m, _, rfl, DGet.t (k := kE n1 e1) (h1.get 8 rfl) k1, _, rfl, ifF (by rw [v1]; rfl) ⟨rfl, _, rfl⟩⟩
      | 1, hx =>
        cases hx
        refine ⟨_, rfl, _, rfl, A.p, _, A.dx, _, _, rfl, h1.get 2 rfl, T.cl_Yard, T.n_Yard_mates, fl_mates _ _ _, A.m, _, rfl, DGet.t (k := kE n2 e2) (h1.get 8 rfl) k2, _, rfl, ifF (by rw [v2]; rfl) ⟨rfl, _, rfl⟩⟩
    · rintro σ H' ⟨rfl, o, rfl⟩
      have h2 := h1.tail
      have k1 := h2.get (j1 + 9) (by simpa [yL] using hj1)
      refine ⟨_, rfl, _, rfl, A.p, _, A.dx, _, _, rfl, h2.get 1 rfl, T.cl_Yard, T.n_Yard_mates, fl_mates _ _ _, _, rfl, A.m, _, rfl, DPut.t (k := kE n1 e1) (h2.get 7 rfl) k1 (sizeOk (by omega)), ?_⟩
      have h3 : Has _ (yL t.c_Yard A { y with mates := putK y.mates (kE n1 e1) (.ref b2) } ++ L) := h2.puti 7 rfl (.dT (putK y.mates (kE n1 e1) (.ref b2)))
      generalize upd H' A.m _ = H3 at h3 ⊢
      have k2 := h3.get (j2 + 9) (by simpa [yL] using hj2)
      refine ⟨_, rfl, _, rfl, A.p, _, A.dx, _, _, rfl, h3.get 1 rfl, T.cl_Yard, T.n_Yard_mates, fl_mates _ _ _, _, rfl, A.m, _, rfl, DPut.t (k := kE n2 e2) (h3.get 7 rfl) k2 (sizeOk (Nat.le_trans (length_putK _ _ _) (by omega))), ?_⟩
      have h4 : Has _ (yL t.c_Yard A { y with mates := putK (putK y.mates (kE n1 e1) (.ref b2)) (kE n2 e2) (.ref b1) } ++ L) := h3.puti 7 rfl (.dT (putK (putK y.mates (kE n1 e1) (.ref b2)) (kE n2 e2) (.ref b1)))
      exact ⟨_, rfl, A.p, A.dx, _, rfl, h4.get 1 rfl, (fl_m _ _ _).2.2.2.2.2.2.1, A, _, L, rfl, h4, fun H' a h2 => q H' a h2⟩
end

theorem fl_m4 (A : YA) (next : Int) (eng : V) : (fl A next eng).lookup ("put" : Str) = none ∧ (fl A next eng).lookup ("off" : Str) = none ∧ (fl A next eng).lookup ("carry" : Str) = none ∧ (fl A next eng).lookup ("pieces" : Str) = none ∧ (fl A next eng).lookup ("kind" : Str) = none ∧
    (fl A next eng).lookup ("note" : Str) = none ∧ (fl A next eng).lookup ("engine" : Str) = none ∧ (fl A next eng).lookup ("bells" : Str) = none ∧ (fl A next eng).lookup ("steps" : Str) = none :=
  ⟨by kernel_rfl, by kernel_rfl, by kernel_rfl, by kernel_rfl, by kernel_rfl, by kernel_rfl, by kernel_rfl, by kernel_rfl, by kernel_rfl⟩
def sp_put (C : Addr) : Sp := fun vs H Q _ => ∃ (A : YA) (y : YR) (L : Kn) (b : Addr) (n e : Int) (j : Nat), vs = [.ref A.p, .ref b] ∧ Has H (yL C A y ++ L) ∧ L[j]? = some (b, .tup [.int n, .int e]) ∧ There y n e ∧
  ∀ H' q, Has H' (yL C { A with tr := q } { y with eng := .ref b, trail := [] } ++ L) → Q .non H'
def sp_off (C : Addr) : Sp := fun vs H Q _ => ∃ (A : YA) (y : YR) (L : Kn), vs = [.ref A.p] ∧ Has H (yL C A y ++ L) ∧ ∀ H' q, Has H' (yL C { A with tr := q } { y with eng := .non, trail := [] } ++ L) → Q .non H'
def sp_engine (C : Addr) : Sp := fun vs H Q _ => ∃ (A : YA) (y : YR) (L : Kn), vs = [.ref A.p] ∧ Has H (yL C A y ++ L) ∧ Q y.eng H
def sp_steps (C : Addr) : Sp := fun vs H Q _ => ∃ (A : YA) (y : YR) (L : Kn), vs = [.ref A.p] ∧ Has H (yL C A y ++ L) ∧ Q (.int y.trail.length) H
def sp_bells (C : Addr) : Sp := fun vs H Q _ => ∃ (A : YA) (y : YR) (L : Kn), vs = [.ref A.p] ∧ Has H (yL C A y ++ L) ∧ ∀ H' l, Has H' ((l, .lst y.rung) :: (yL C A y ++ L)) → Q (.ref l) H'
def sp_pieces (C : Addr) : Sp := fun vs H Q _ => ∃ (A : YA) (y : YR) (L : Kn), vs = [.ref A.p] ∧ Has H (yL C A y ++ L) ∧ ∀ H' l, Has H' ((l, .lst (y.kinds.map fun kv => kV kv.1)) :: (yL C A y ++ L)) → Q (.ref l) H'
def sp_ykind (C : Addr) : Sp := fun vs H Q _ => ∃ (A : YA) (y : YR) (L : Kn) (n : Int) (v : V), vs = [.ref A.p, .int n] ∧ Has H (yL C A y ++ L) ∧ valV y.kinds (Sum.inl n) = some v ∧ Q v H
def sp_ynote (C : Addr) : Sp := fun vs H Q _ => ∃ (A : YA) (y : YR) (L : Kn) (n : Int) (u v : V), vs = [.ref A.p, .int n] ∧ Has H (yL C A y ++ L) ∧ valV y.kinds (Sum.inl n) = some u ∧ valV y.notes (Sum.inl n) = some v ∧ Q v H
section
variable {P : Program} {w : World} {K : PySem.W.Frag} {mg : Str → Option Value} {base : Heap} {t : Adr}
theorem scPu : FnScope ["self", "end"] ["self", "end"] (defScope s_Yard_put) := ⟨rfl, rfl, rfl, by decide +kernel, rfl, by decide +kernel, by decide +kernel⟩
theorem ok_Yard_put (T : Txt K mg t) : FnOk P w K mg base CX0 4 t.f_Yard_put t.d_Yard_put ["self", "end"] (sp_put t.c_Yard) := by
  refine T.F_Yard_put.ok scPu (fun vs H Q E h => ?_) (fun cdv A outer s H vs Q E hr h => ?_)
  · obtain ⟨_, _, _, _, _, _, _, rfl, _⟩ := h
    rfl
  · obtain ⟨A, y, L, b, n, e, j, rfl, hH, hj, th, q⟩ := h
    refine ⟨_, (pss_cons (ps_expr (pe_meth (pv 0) T.cl_Yard T.M_Yard_check_there (ok_Yard_check_there T) (hr.mono (by decide)) (b_Yard_check_there T) .nil pass0 (pa_cons (pv 1) pa_nil)))
      (pss_cons (ps_fld (pv 0) (pv 1) rfl)
      (pss_one (ps_expr (pe_meth0 (pv 0) T.cl_Yard T.M_Yard_end_trail (ok_Yard_end_trail T) (hr.mono (by decide)) (b_Yard_end_trail T) .nil pass0))))), ?_⟩
    refine ⟨_, rfl, A.p, A.dx, _, rfl, hH.get 1 rfl, (fl_m2 _ _ _).1, _, rfl, A, y, L, b, n, e, j, rfl, hH, hj, th, ?_⟩
    refine ⟨_, rfl, _, rfl, A.p, _, A.dx, _, rfl, hH.get 1 rfl, T.cl_Yard, T.n_Yard_engine_end, (show 9 < 1000 by decide), ?_⟩
    rw [fl_put_eng]
    have h1 : Has _ (yL t.c_Yard A { y with eng := .ref b } ++ L) := hH.puti 1 rfl (.ins t.c_Yard A.dx (fl A y.next (.ref b)))
    exact ⟨_, rfl, A.p, A.dx, _, rfl, h1.get 1 rfl, (fl_m _ _ _).2.2.2.2.2.2.1, A, _, L, rfl, h1, fun H' a h2 => q H' a h2⟩
theorem scEg : FnScope ["self"] ["self"] (defScope s_Yard_engine) := ⟨rfl, rfl, rfl, by decide +kernel, rfl, by decide +kernel, by decide +kernel⟩
theorem ok_Yard_engine (T : Txt K mg t) : FnOk P w K mg base CX0 1 t.f_Yard_engine t.d_Yard_engine ["self"] (sp_engine t.c_Yard) := by
  refine T.F_Yard_engine.ok scEg (fun vs H Q E h => ?_) (fun cdv A outer s H vs Q E hr h => ?_)
  · obtain ⟨_, _, _, rfl, _⟩ := h
    rfl
  · obtain ⟨A, y, L, rfl, hH, q⟩ := h
    refine ⟨_, (pss_one (ps_ret (pe_fld (pv 0) rfl))), ?_⟩
    exact ⟨_, rfl, A.p, _, A.dx, _, _, rfl, hH.get 1 rfl, T.cl_Yard, T.n_Yard_engine_end, fl_eng _ _ _, q⟩
theorem scSt : FnScope ["self"] ["self"] (defScope s_Yard_steps) := ⟨rfl, rfl, rfl, by decide +kernel, rfl, by decide +kernel, by decide +kernel⟩
theorem ok_Yard_steps (T : Txt K mg t) : FnOk P w K mg base CX0 1 t.f_Yard_steps t.d_Yard_steps ["self"] (sp_steps t.c_Yard) := by
  refine T.F_Yard_steps.ok scSt (fun vs H Q E h => ?_) (fun cdv A outer s H vs Q E hr h => ?_)
  · obtain ⟨_, _, _, rfl, _⟩ := h
    rfl
  · obtain ⟨A, y, L, rfl, hH, q⟩ := h
    refine ⟨_, (pss_one (ps_ret (pe_callB call_len_seq (by rfl) T.z_len (by rfl) (pa_cons (pe_fld (pv 0) rfl) pa_nil)))), ?_⟩
    exact ⟨_, rfl, A.p, _, A.dx, _, _, rfl, hH.get 1 rfl, T.cl_Yard, T.n_Yard_trail, fl_trail _ _ _, A.tr, _, rfl, .inl (SqL.of (hH.get 0 rfl)), q⟩
theorem scBe : FnScope ["self"] ["self"] (defScope s_Yard_bells) := ⟨rfl, rfl, rfl, by decide +kernel, rfl, by decide +kernel, by decide +kernel⟩
theorem ok_Yard_bells (T : Txt K mg t) : FnOk P w K mg base CX0 1 t.f_Yard_bells t.d_Yard_bells ["self"] (sp_bells t.c_Yard) := by
  refine T.F_Yard_bells.ok scBe (fun vs H Q E h => ?_) (fun cdv A outer s H vs Q E hr h => ?_)
  · obtain ⟨_, _, _, rfl, _⟩ := h
    rfl
  · obtain ⟨A, y, L, rfl, hH, q⟩ := h
    refine ⟨_, (pss_one (ps_ret (pe_callTy call_list_of (by rfl) T.z_list (by rfl) (pa_cons (pe_fld (pv 0) rfl) pa_nil)))), ?_⟩
    exact ⟨_, rfl, A.p, _, A.dx, _, _, rfl, hH.get 1 rfl, T.cl_Yard, T.n_Yard_rung, fl_rung _ _ _, A.g, _, rfl, .inl (SqL.of (hH.get 8 rfl)), fun l hl => q _ l (hH.alloc hl _)⟩
theorem scPc : FnScope ["self"] ["self"] (defScope s_Yard_pieces) := ⟨rfl, rfl, rfl, by decide +kernel, rfl, by decide +kernel, by decide +kernel⟩
theorem ok_Yard_pieces (T : Txt K mg t) : FnOk P w K mg base CX0 1 t.f_Yard_pieces t.d_Yard_pieces ["self"] (sp_pieces t.c_Yard) := by
  refine T.F_Yard_pieces.ok scPc (fun vs H Q E h => ?_) (fun cdv A outer s H vs Q E hr h => ?_)
  · obtain ⟨_, _, _, rfl, _⟩ := h
    rfl
  · obtain ⟨A, y, L, rfl, hH, q⟩ := h
    refine ⟨_, (pss_one (ps_ret (pe_callTy (call_list_dK rfl) (by rfl) T.z_list (by rfl) (pa_cons (pe_fld (pv 0) rfl) pa_nil)))), ?_⟩
    exact ⟨_, rfl, A.p, _, A.dx, _, _, rfl, hH.get 1 rfl, T.cl_Yard, T.n_Yard_kinds, fl_kinds _ _ _, A.k, _, rfl, .inl (hH.get 3 rfl), fun l hl => q _ l (hH.alloc hl _)⟩
theorem scYk : FnScope ["self", "piece"] ["self", "piece"] (defScope s_Yard_kind) := ⟨rfl, rfl, rfl, by decide +kernel, rfl, by decide +kernel, by decide +kernel⟩
theorem ok_Yard_kind (T : Txt K mg t) : FnOk P w K mg base CX0 2 t.f_Yard_kind t.d_Yard_kind ["self", "piece"] (sp_ykind t.c_Yard) := by
  refine T.F_Yard_kind.ok scYk (fun vs H Q E h => ?_) (fun cdv A outer s H vs Q E hr h => ?_)
  · obtain ⟨_, _, _, _, _, rfl, _⟩ := h
    rfl
  · obtain ⟨A, y, L, n, v, rfl, hH, hv, q⟩ := h
    have hu := hu_of hr
    refine ⟨_, (pss_cons (ps_expr (pe_meth (pv 0) T.cl_Yard T.M_Yard_check_piece (ok_Yard_check_piece T) (hr.mono (by decide)) (b_Yard_check_piece T) .nil pass0 (pa_cons (pv 1) pa_nil)))
      (pss_one (ps_ret (pe_dget hu (pe_fld (pv 0) rfl) (pv 1) (fun _ _ => rfl))))), ?_⟩
    refine ⟨_, rfl, A.p, A.dx, _, rfl, hH.get 1 rfl, (fl_m _ _ _).2.2.2.2.2.2.2.1, _, rfl, A, y, L, n, v, rfl, hH, hv, ?_⟩
    refine ⟨_, rfl, A.p, _, A.dx, _, _, rfl, hH.get 1 rfl, T.cl_Yard, T.n_Yard_kinds, fl_kinds _ _ _, _, rfl, A.k, _, rfl, ?_, q⟩
    rw [← hv]
    exact DGet.k (k := Sum.inl n) (hH.get 3 rfl)
theorem scYn : FnScope ["self", "piece"] ["self", "piece"] (defScope s_Yard_note) := ⟨rfl, rfl, rfl, by decide +kernel, rfl, by decide +kernel, by decide +kernel⟩
theorem ok_Yard_note (T : Txt K mg t) : FnOk P w K mg base CX0 2 t.f_Yard_note t.d_Yard_note ["self", "piece"] (sp_ynote t.c_Yard) := by
  refine T.F_Yard_note.ok scYn (fun vs H Q E h => ?_) (fun cdv A outer s H vs Q E hr h => ?_)
  · obtain ⟨_, _, _, _, _, _, rfl, _⟩ := h
    rfl
  · obtain ⟨A, y, L, n, u, v, rfl, hH, hk, hv, q⟩ := h
    have hu := hu_of hr
    refine ⟨_, (pss_cons (ps_expr (pe_meth (pv 0) T.cl_Yard T.M_Yard_check_piece (ok_Yard_check_piece T) (hr.mono (by decide)) (b_Yard_check_piece T) .nil pass0 (pa_cons (pv 1) pa_nil)))
      (pss_cons (ps_if (pt_cmp (pc_dnotin hu (pv 1) (pe_fld (pv 0) rfl)))
        (pss_one ps_never)
        pss_nil)
      (pss_one (ps_ret (pe_dget hu (pe_fld (pv 0) rfl) (pv 1) (fun _ _ => rfl)))))), ?_⟩
    refine ⟨_, rfl, A.p, A.dx, _, rfl, hH.get 1 rfl, (fl_m _ _ _).2.2.2.2.2.2.2.1, _, rfl, A, y, L, n, u, rfl, hH, hk, ?_⟩
    refine ⟨_, rfl, _, rfl, A.p, _, A.dx, _, _, rfl, hH.get 1 rfl, T.cl_Yard, T.n_Yard_notes, fl_notes _ _ _, A.n, _, rfl, DGet.k (k := Sum.inl n) (hH.get 4 rfl), _, rfl, ifF (by rw [hv]; rfl) ?_⟩
    refine ⟨_, rfl, A.p, _, A.dx, _, _, rfl, hH.get 1 rfl, T.cl_Yard, T.n_Yard_notes, fl_notes _ _ _, _, rfl, A.n, _, rfl, ?_, q⟩
    rw [← hv]
    exact DGet.k (k := Sum.inl n) (hH.get 4 rfl)
end

/-- an end: its tuple's address, the piece, the place -/
abbrev En := Addr × Int × Int
/-- what stays while an engine runs: kinds, notes, rods, mates -/
structure Wd where
  kf : Int → Option Kd
  nf : Int → Int
  rf : Int → Int
  mf : Int → Int → Option En
/-- what a step changes -/
structure Sd where
  ss : List Int
  at_ : Option En
  rg : List Int
def Wd.sv (w : Wd) (s : Sd) (n : Int) : Int := s.ss.getD (w.rf n).toNat 0
def Wd.ok (w : Wd) (z : En) : Prop := ∃ k, w.kf z.2.1 = some k ∧ 0 ≤ z.2.2 ∧ z.2.2 < k.many
def stepS (w : Wd) (s : Sd) (z : En) (k : Kd) (z' : En) : Sd :=
  ⟨if k.point then s.ss.set (w.rf z.2.1).toNat (k.side z.2.2 (w.sv s z.2.1)) else s.ss, some z', if k = .bell then s.rg ++ [w.nf z.2.1] else s.rg⟩
/-- the next step's way out: None at a stop -/
def Wd.nx (w : Wd) (s : Sd) : Option Sd :=
  match s.at_ with
  | none => none
  | some z => match w.kf z.2.1 with
    | none => none
    | some k => match k.out z.2.2 (w.sv s z.2.1) with
      | .int o => (w.mf z.2.1 o).map (stepS w s z k)
      | _ => none
def Wd.why (w : Wd) (s : Sd) : V :=
  match s.at_ with
  | none => .str "none"
  | some z => match w.kf z.2.1 with
    | none => .non
    | some k => match k.out z.2.2 (w.sv s z.2.1) with
      | .int o => (match w.mf z.2.1 o with | none => .str "loose" | some _ => .non)
      | _ => .str "stop"
def Wd.go (w : Wd) : Nat → Sd → Sd
  | 0, s => s
  | n + 1, s => match w.nx s with | none => s | some s' => w.go n s'
def Wd.hist (w : Wd) : Nat → Sd → List Sd
  | 0, _ => []
  | n + 1, s => match w.nx s with | none => [] | some s' => s :: w.hist n s'
/-- what the trail keeps of a step from here -/
def Wd.tv (w : Wd) (s : Sd) (z : En) : V := match w.kf z.2.1 with | some k => if k.point then .int (w.sv s z.2.1) else .non | none => .non
def Wd.tr (w : Wd) (s : Sd) : HO := match s.at_ with | some z => .tup [.ref z.1, w.tv s z] | none => .tup []
def trK (w : Wd) (ts : List (Addr × Sd)) : Kn := ts.map fun x => (x.1, w.tr x.2)
def trV (ts : List (Addr × Sd)) : List V := ts.map fun x => V.ref x.1
def enV : Option En → V
  | none => .non
  | some z => .ref z.1
structure Rep (w : Wd) (s : Sd) (y : YR) : Prop where
  kd : ∀ n k, w.kf n = some k → valV y.kinds (Sum.inl n) = some (.str k.str)
  no : ∀ n k, w.kf n = some k → valV y.notes (Sum.inl n) = if k = .bell then some (.int (w.nf n)) else none
  ro : ∀ n k, w.kf n = some k → valV y.rods (Sum.inl n) = if k.point = true then some (.int (w.rf n)) else none
  rr : ∀ n k, w.kf n = some k → k.point = true → 0 ≤ w.rf n ∧ w.rf n < s.ss.length
  sd : y.sides = s.ss.map V.int
  s12 : ∀ x ∈ s.ss, x = 1 ∨ x = 2
  mt : ∀ n e, valV y.mates (kE n e) = (w.mf n e).map fun z => V.ref z.1
  mo : ∀ n e z, w.mf n e = some z → w.ok z
  en : y.eng = enV s.at_
  eo : ∀ z, s.at_ = some z → w.ok z
  rg : y.rung = s.rg.map V.int
/-- the tuples of the ends that the engine may come to are known -/
structure Pool (w : Wd) (s : Sd) (L : Kn) : Prop where
  m : ∀ n e z, w.mf n e = some z → ∃ j : Nat, L[j]? = some (z.1, HO.tup [.int z.2.1, .int z.2.2])
  e : ∀ z, s.at_ = some z → ∃ j : Nat, L[j]? = some (z.1, HO.tup [.int z.2.1, .int z.2.2])
theorem Rep.s1 {w : Wd} {s : Sd} {y : YR} (R : Rep w s y) {n : Int} {k : Kd} (hk : w.kf n = some k) (hp : k.point = true) : w.sv s n = 1 ∨ w.sv s n = 2 := by
  obtain ⟨h0, h1⟩ := R.rr n k hk hp
  refine R.s12 _ ?_
  unfold Wd.sv
  rw [List.getD_eq_getElem?_getD, List.getElem?_eq_getElem (by omega)]
  exact List.getElem_mem _
theorem Rep.sideAt {w : Wd} {s : Sd} {y : YR} (R : Rep w s y) {n : Int} {k : Kd} (hk : w.kf n = some k) (hp : k.point = true) : y.sides[(w.rf n).toNat]? = some (.int (w.sv s n)) := by
  obtain ⟨h0, h1⟩ := R.rr n k hk hp
  rw [R.sd, List.getElem?_map, List.getElem?_eq_getElem (by omega)]
  unfold Wd.sv
  rw [List.getD_eq_getElem?_getD, List.getElem?_eq_getElem (by omega)]
  rfl
theorem Kd.out_in {k : Kd} {e s o : Int} (e0 : 0 ≤ e) (e1 : e < k.many) (hs : k.point = true → s = 1 ∨ s = 2) (h : k.out e s = .int o) : 0 ≤ o ∧ o < k.many := by
  unfold Kd.out at h
  by_cases c : k = .stop
  · rw [if_pos c] at h; cases h
  rw [if_neg c] at h
  by_cases p : k.point = true
  · rw [if_pos p] at h
    have m := Kd.many_point p
    rcases hs p with r | r <;> split at h <;> (injection h with h; omega)
  · rw [if_neg p] at h
    have m : k.many = 2 := by cases k <;> first | rfl | (exfalso; exact c rfl) | (exfalso; exact p rfl)
    injection h with h
    omega
theorem Kd.out_np {k : Kd} (h : ¬ k.point = true) (e s s' : Int) : k.out e s = k.out e s' := by unfold Kd.out; rw [if_neg h, if_neg h]
theorem stepS_at (w : Wd) (s : Sd) (z : En) (k : Kd) (z' : En) : (stepS w s z k z').at_ = some z' := rfl
/-- a step, seen from its ends -/
theorem nx_some {w : Wd} {s s' : Sd} (h : w.nx s = some s') : ∃ (z : En) (k : Kd) (o : Int) (z' : En), s.at_ = some z ∧ w.kf z.2.1 = some k ∧ k.out z.2.2 (w.sv s z.2.1) = .int o ∧ w.mf z.2.1 o = some z' ∧ s' = stepS w s z k z' := by
  unfold Wd.nx at h
  split at h
  · cases h
  · rename_i z hz
    split at h
    · cases h
    · rename_i k hk
      split at h
      · rename_i o ho
        obtain ⟨z', hm, e⟩ := Option.map_eq_some_iff.mp h
        exact ⟨z, k, o, z', hz, hk, ho, hm, e.symm⟩
      · cases h
theorem nx_of {w : Wd} {s : Sd} {z : En} {k : Kd} {o : Int} {z' : En} (hz : s.at_ = some z) (hk : w.kf z.2.1 = some k) (ho : k.out z.2.2 (w.sv s z.2.1) = .int o) (hm : w.mf z.2.1 o = some z') : w.nx s = some (stepS w s z k z') := by
  unfold Wd.nx
  simp only [hz, hk, ho, hm, Option.map_some]
theorem stepS_keep {w : Wd} {s : Sd} {y y' : YR} {z : En} {k : Kd} {z' : En} {o : Int} (R : Rep w s y) (hz : s.at_ = some z) (hk : w.kf z.2.1 = some k) (hm : w.mf z.2.1 o = some z')
    (e1 : y'.kinds = y.kinds) (e2 : y'.notes = y.notes) (e3 : y'.rods = y.rods) (e4 : y'.mates = y.mates) (e5 : y'.sides = (stepS w s z k z').ss.map V.int) (e6 : y'.eng = .ref z'.1) (e7 : y'.rung = (stepS w s z k z').rg.map V.int) :
    Rep w (stepS w s z k z') y' := by
  have hl : (stepS w s z k z').ss.length = s.ss.length := by
    unfold stepS; dsimp only; split
    · exact List.length_set
    · rfl
  refine ⟨fun n k h => by rw [e1]; exact R.kd n k h, fun n k h => by rw [e2]; exact R.no n k h, fun n k h => by rw [e3]; exact R.ro n k h, fun n k h1 h2 => by rw [hl]; exact R.rr n k h1 h2, e5, fun x hx => ?_, fun n e => by rw [e4]; exact R.mt n e, R.mo, e6, fun u hu => ?_, e7⟩
  · unfold stepS at hx
    dsimp only at hx
    split at hx
    · rename_i hp
      rcases List.mem_or_eq_of_mem_set hx with hx | hx
      · exact R.s12 x hx
      · obtain ⟨k', h1, h2, h3⟩ := R.eo z hz
        rw [hk] at h1
        cases h1
        rw [hx]
        exact Kd.side12 h2 h3 (R.s1 hk hp)
    · exact R.s12 x hx
  · rw [stepS_at] at hu
    cases hu
    exact R.mo _ _ _ hm
theorem Pool.step {w : Wd} {s s' : Sd} {L : Kn} (p : Pool w s L) (h : w.nx s = some s') : Pool w s' L := by
  obtain ⟨z, k, o, z', _, _, _, hm, rfl⟩ := nx_some h
  refine ⟨p.m, fun u hu => ?_⟩
  rw [stepS_at] at hu
  cases hu
  exact p.m _ _ _ hm
/-- what next_step tells -/
inductive Nxt (w : Wd) (s : Sd) : List V → Prop
  | held (h : w.nx s = none) (x : Str) (e : w.why s = .str x) : Nxt w s [.str x, .non, .non]
  | goes (z : En) (k : Kd) (o : Int) (z' : En) (hz : s.at_ = some z) (hk : w.kf z.2.1 = some k) (ho : k.out z.2.2 (w.sv s z.2.1) = .int o) (hm : w.mf z.2.1 o = some z') :
      Nxt w s [.non, .ref z'.1, if k.point then .int (k.side z.2.2 (w.sv s z.2.1)) else .non]

end P


set_option Elab.async false
set_option linter.all false
set_option maxRecDepth 100000
set_option maxHeartbeats 4000000
namespace P
open PySem L2

/-- carry: the engine at z passes its piece, of the kind k, and then stands at z' -/
def sp_carry (C : Addr) : Sp := fun vs H Q _ => ∃ (A : YA) (y : YR) (L : Kn) (w : Wd) (s : Sd) (z : En) (k : Kd) (z' : En), vs = [.ref A.p, .ref z'.1, if k.point then .int (k.side z.2.2 (w.sv s z.2.1)) else .non] ∧ Has H (yL C A y ++ L) ∧ Rep w s y ∧ s.at_ = some z ∧ w.kf z.2.1 = some k ∧
  (∃ j : Nat, L[j]? = some (z.1, HO.tup [.int z.2.1, .int z.2.2])) ∧ y.trail.length ≤ 900000 ∧ y.rung.length ≤ 900000 ∧
  ∀ H' a, Has H' (yL C A { y with sides := (stepS w s z k z').ss.map V.int, eng := .ref z'.1, rung := (stepS w s z k z').rg.map V.int, trail := y.trail ++ [.ref a] } ++ ((a, w.tr s) :: L)) → Q .non H'
def sp_next (C : Addr) : Sp := fun vs H Q _ => ∃ (A : YA) (y : YR) (L : Kn) (w : Wd) (s : Sd), vs = [.ref A.p] ∧ Has H (yL C A y ++ L) ∧ Rep w s y ∧ Pool w s L ∧
  ∀ H' p xs, Nxt w s xs → Has H' ((p, .tup xs) :: (yL C A y ++ L)) → Q (.ref p) H'
def sp_held (C : Addr) : Sp := fun vs H Q _ => ∃ (A : YA) (y : YR) (L : Kn) (w : Wd) (s : Sd), vs = [.ref A.p] ∧ Has H (yL C A y ++ L) ∧ Rep w s y ∧ Pool w s L ∧ ∀ H', Has H' (yL C A y ++ L) → Q (w.why s) H'
def sp_run (C : Addr) : Sp := fun vs H Q _ => ∃ (A : YA) (y : YR) (L : Kn) (w : Wd) (s : Sd) (ts : List (Addr × Sd)) (m : Int), vs = [.ref A.p, .int m] ∧ Has H (yL C A y ++ (trK w ts ++ L)) ∧ Rep w s y ∧ Pool w s L ∧ y.trail = trV ts ∧ ts.length + m ≤ 900000 ∧ y.rung.length + m ≤ 900000 ∧ ts.length ≤ 900000 ∧ y.rung.length ≤ 900000 ∧
  ∀ H' y' ts', Has H' (yL C A y' ++ (trK w (ts ++ ts') ++ L)) → Rep w (w.go m.toNat s) y' → y'.trail = trV (ts ++ ts') → ts'.map (·.2) = w.hist m.toNat s → y'.next = y.next → y'.kinds = y.kinds → y'.notes = y.notes → y'.rods = y.rods → y'.mates = y.mates → Pool w (w.go m.toNat s) L → Q (.int ts'.length) H'
theorem why_none {w : Wd} {s : Sd} (h : s.at_ = none) : w.nx s = none ∧ w.why s = .str "none" := by
  unfold Wd.nx Wd.why; simp only [h]; exact ⟨trivial, trivial⟩
theorem why_stop {w : Wd} {s : Sd} {z : En} {k : Kd} (hz : s.at_ = some z) (hk : w.kf z.2.1 = some k) (ho : k.out z.2.2 (w.sv s z.2.1) = .non) : w.nx s = none ∧ w.why s = .str "stop" := by
  unfold Wd.nx Wd.why; simp only [hz, hk, ho]; exact ⟨trivial, trivial⟩
theorem why_loose {w : Wd} {s : Sd} {z : En} {k : Kd} {o : Int} (hz : s.at_ = some z) (hk : w.kf z.2.1 = some k) (ho : k.out z.2.2 (w.sv s z.2.1) = .int o) (hm : w.mf z.2.1 o = none) : w.nx s = none ∧ w.why s = .str "loose" := by
  unfold Wd.nx Wd.why; simp only [hz, hk, ho, hm, Option.map_none]; exact ⟨trivial, trivial⟩
theorem why_goes {w : Wd} {s : Sd} {z : En} {k : Kd} {o : Int} {z' : En} (hz : s.at_ = some z) (hk : w.kf z.2.1 = some k) (ho : k.out z.2.2 (w.sv s z.2.1) = .int o) (hm : w.mf z.2.1 o = some z') : w.why s = .non := by
  unfold Wd.why; simp only [hz, hk, ho, hm]
theorem Nxt.why {w : Wd} {s : Sd} {xs : List V} (h : Nxt w s xs) : xs.length = 3 ∧ xs[0]? = some (w.why s) := by
  cases h with
  | held h x e => rw [e]; exact ⟨rfl, rfl⟩
  | goes z k o z' hz hk ho hm => rw [why_goes hz hk ho hm]; exact ⟨rfl, rfl⟩
theorem go_succ (w : Wd) {s s' : Sd} (h : w.nx s = some s') (n : Nat) : w.go (n + 1) s = w.go n s' := by show (match w.nx s with | none => s | some s' => w.go n s') = _; rw [h]
theorem hist_succ (w : Wd) {s s' : Sd} (h : w.nx s = some s') (n : Nat) : w.hist (n + 1) s = s :: w.hist n s' := by show (match w.nx s with | none => [] | some s' => s :: w.hist n s') = _; rw [h]
theorem go_held (w : Wd) {s : Sd} (h : w.nx s = none) : ∀ n, w.go n s = s
  | 0 => rfl
  | n + 1 => by show (match w.nx s with | none => s | some s' => w.go n s') = _; rw [h]
theorem hist_held (w : Wd) {s : Sd} (h : w.nx s = none) : ∀ n, w.hist n s = []
  | 0 => rfl
  | n + 1 => by show (match w.nx s with | none => [] | some s' => s :: w.hist n s') = _; rw [h]
theorem trK_snoc (w : Wd) (ts : List (Addr × Sd)) (a : Addr) (s : Sd) (L : Kn) : trK w (ts ++ [(a, s)]) ++ L = trK w ts ++ ((a, w.tr s) :: L) := by
  unfold trK; rw [List.map_append, List.append_assoc]; rfl
theorem stepS_rg_le {w : Wd} {s : Sd} {z : En} {k : Kd} {z' : En} : (stepS w s z k z').rg.length ≤ s.rg.length + 1 := by
  unfold stepS; dsimp only; split
  · simp
  · omega
theorem go_len (w : Wd) : ∀ (n : Nat) (s : Sd), (w.go n s).ss.length = s.ss.length
  | 0, s => rfl
  | n + 1, s => by
    cases h : w.nx s with
    | none => rw [go_held w h]
    | some s' =>
      rw [go_succ w h, go_len w n s']
      obtain ⟨z, k, o, z', _, _, _, _, rfl⟩ := nx_some h
      unfold stepS; dsimp only; split
      · exact List.length_set
      · rfl
theorem Pool.app {w : Wd} {s : Sd} {L : Kn} (p : Pool w s L) (M : Kn) : Pool w s (M ++ L) := by
  have sh : ∀ {x : Addr × HO}, (∃ j : Nat, L[j]? = some x) → ∃ j : Nat, (M ++ L)[j]? = some x := fun {x} ⟨j, h⟩ => ⟨M.length + j, by rw [List.getElem?_append_right (by omega), show M.length + j - M.length = j by omega]; exact h⟩
  exact ⟨fun n e z h => sh (p.m n e z h), fun z h => sh (p.e z h)⟩
/-- behind i steps of a run -/
def runInv (C : Addr) (A : YA) (y : YR) (L : Kn) (W : Wd) (s : Sd) (ts : List (Addr × Sd)) (m : Int) (r : Nat) (σ : St) (H : Hp) : Prop :=
  ∃ (i : Nat) (y1 : YR) (ts1 : List (Addr × Sd)) (s1 : Sd) (o1 o2 o3 : Option V), r = m.toNat - i ∧ i ≤ m.toNat ∧ σ = [some (.ref A.p), some (.int m), some (.int i), o1, o2, o3] ∧ Has H (yL C A y1 ++ (trK W (ts ++ ts1) ++ L)) ∧ Rep W s1 y1 ∧ Pool W s1 L ∧ y1.trail = trV (ts ++ ts1) ∧ ts1.length = i ∧
    W.go m.toNat s = W.go (m.toNat - i) s1 ∧ W.hist m.toNat s = ts1.map (·.2) ++ W.hist (m.toNat - i) s1 ∧ y1.rung.length ≤ y.rung.length + i ∧ y1.next = y.next ∧ y1.kinds = y.kinds ∧ y1.notes = y.notes ∧ y1.rods = y.rods ∧ y1.mates = y.mates
section
variable {P : Program} {w : World} {K : PySem.W.Frag} {mg : Str → Option Value} {base : Heap} {t : Adr}
theorem scCy : FnScope ["self", "end", "side", "piece", "rod"] ["self", "end", "side"] (defScope s_Yard_carry) := ⟨rfl, rfl, rfl, by decide +kernel, rfl, by decide +kernel, by decide +kernel⟩
theorem ok_Yard_carry (T : Txt K mg t) : FnOk P w K mg base CX0 1 t.f_Yard_carry t.d_Yard_carry ["self", "end", "side"] (sp_carry t.c_Yard) := by
  refine T.F_Yard_carry.ok scCy (fun vs H Q E h => ?_) (fun cdv A outer s H vs Q E hr h => ?_)
  · obtain ⟨_, _, _, _, _, _, _, _, rfl, _⟩ := h
    rfl
  · obtain ⟨A, y, L, W, s1, z, k, z', rfl, hH, R, hz, hk, ⟨j, hj⟩, tl, rl, q⟩ := h
    have hu := hu_of hr
    refine ⟨_, (pss_cons (ps_set (i := 3) scCy.nd rfl (Or.inl rfl) (pe_ix ix_tup (pe_fld (pv 0) rfl) pe_int (fun _ _ => rfl)))
      (pss_cons (ps_set (i := 4) scCy.nd rfl (Or.inl rfl) (pe_dget1 hu (pe_fld (pv 0) rfl) (pv 3) ⟨rfl, rfl, rfl, rfl⟩))
      (pss_cons (ps_expr (pe_bm PySem.F.plainAttrs_list PySem.F.slot_list_append PySem.F.type_list_append mt_append (pe_fld (pv 0) rfl) (pa_cons (pe_tup (pa_cons (pe_fld (pv 0) rfl) (pa_cons (pe_ifExp (pt_cmpR op_isN (pv 4) pe_non (nomark _)) pe_non (pe_ix ix_list (pe_fld (pv 0) rfl) (pv 4) (fun _ _ => rfl))) pa_nil))) pa_nil)))
      (pss_cons (ps_if (pt_cmpR op_notN (pv 4) pe_non (nomark _))
        (pss_one (ps_asg (pv 2) (pg_sub (pe_fld (pv 0) rfl) (pv 4) set_list)))
        pss_nil)
      (pss_cons (ps_if (pt_cmp (pc_din hu (pv 3) (pe_fld (pv 0) rfl)))
        (pss_one (ps_expr (pe_bm PySem.F.plainAttrs_list PySem.F.slot_list_append PySem.F.type_list_append mt_append (pe_fld (pv 0) rfl) (pa_cons (pe_dget hu (pe_fld (pv 0) rfl) (pv 3) (fun _ _ => rfl)) pa_nil))))
        pss_nil)
      (pss_one (ps_fld (pv 0) (pv 1) rfl))))))), ?_⟩
    have gz := hH.get (j + 9) (by simpa [yL] using hj)
    have en : y.eng = .ref z.1 := by rw [R.en, hz]; rfl
    refine ⟨_, rfl, A.p, _, A.dx, _, _, rfl, hH.get 1 rfl, T.cl_Yard, T.n_Yard_engine_end, fl_eng _ _ _, z.1, _, _, _, en, rfl, SqT.of gz, rfl, ?_⟩
    refine ⟨_, rfl, A.p, _, A.dx, _, _, rfl, hH.get 1 rfl, T.cl_Yard, T.n_Yard_rods_under, fl_rods _ _ _, A.r, rfl, .inl ⟨_, .inl (hH.get 5 rfl)⟩, _, rfl, _, DGet.k (k := Sum.inl z.2.1) (hH.get 5 rfl), ?_⟩
    refine ⟨_, rfl, A.p, _, A.dx, _, _, rfl, hH.get 1 rfl, T.cl_Yard, T.n_Yard_trail, fl_trail _ _ _, .inl ⟨rfl, _, SqL.of (hH.get 0 rfl)⟩, ?_⟩
    refine ⟨_, rfl, A.p, _, A.dx, _, _, rfl, hH.get 1 rfl, T.cl_Yard, T.n_Yard_engine_end, fl_eng _ _ _, _, rfl, rfl, _, rfl, ?_⟩
    rw [R.ro _ _ hk, en]
    have etr : W.tr s1 = .tup [.ref z.1, if k.point then .int (W.sv s1 z.2.1) else .non] := by unfold Wd.tr; rw [hz]; show HO.tup [.ref z.1, W.tv s1 z] = _; unfold Wd.tv; rw [hk]
    by_cases hp : k.point = true
    · rw [if_pos hp] at etr ⊢
      try rw [if_pos hp]
      obtain ⟨r0, r1⟩ := R.rr _ _ hk hp
      have sa := R.sideAt hk hp
      refine ifF rfl ?_
      refine ⟨_, rfl, A.p, _, A.dx, _, _, rfl, hH.get 1 rfl, T.cl_Yard, T.n_Yard_sides, fl_sides _ _ _, _, rfl, A.s, _, W.rf z.2.1, _, rfl, rfl, SqL.of (hH.get 6 rfl), (by rw [show W.rf z.2.1 = (((W.rf z.2.1).toNat : Nat) : Int) by omega]; exact atI_nat sa), ?_⟩
      refine ⟨(show 2 ≤ sizeLine by decide), fun a ha => ?_⟩
      have h1 := hH.alloc ha (.tup [.ref z.1, .int (W.sv s1 z.2.1)])
      refine ⟨A.tr, _, _, rfl, rfl, h1.get 1 rfl, sizeOk (by omega), ?_⟩
      have h2 := Has.comm (X := [_]) (Y := yL t.c_Yard A { y with trail := y.trail ++ [.ref a] }) (R := L) (h1.puti 1 rfl (.lst (y.trail ++ [.ref a])))
      generalize upd (upd H a _) A.tr _ = H2 at h2 ⊢
      replace h2 : Has H2 (yL t.c_Yard A { y with trail := y.trail ++ [.ref a] } ++ ((a, W.tr s1) :: L)) := by rw [etr]; exact h2
      clear h1 ha
      refine ⟨_, rfl, rfl, _, rfl, ifT rfl ?_⟩
      have sl : y.sides.length = s1.ss.length := by rw [R.sd, List.length_map]
      have hjx : ixN y.sides.length (W.rf z.2.1) = some (W.rf z.2.1).toNat := by unfold ixN; rw [if_pos r0, if_pos (by omega)]
      refine ⟨_, rfl, _, rfl, A.p, _, A.dx, _, _, rfl, h2.get 1 rfl, T.cl_Yard, T.n_Yard_sides, fl_sides _ _ _, _, rfl, A.s, _, _, _, rfl, rfl, h2.get 6 rfl, hjx, ?_⟩
      have h3 := h2.puti 6 rfl (.lst (y.sides.set (W.rf z.2.1).toNat (.int (k.side z.2.2 (W.sv s1 z.2.1)))))
      have es : (stepS W s1 z k z').ss.map V.int = y.sides.set (W.rf z.2.1).toNat (.int (k.side z.2.2 (W.sv s1 z.2.1))) := by unfold stepS; dsimp only; rw [if_pos hp, List.map_set, R.sd]
      have hT : Has _ (yL t.c_Yard A { y with sides := y.sides.set (W.rf z.2.1).toNat (.int (k.side z.2.2 (W.sv s1 z.2.1))), trail := y.trail ++ [.ref a] } ++ ((a, W.tr s1) :: L)) := h3
      refine ⟨_, rfl, _, rfl, A.p, _, A.dx, _, _, rfl, hT.get 1 rfl, T.cl_Yard, T.n_Yard_notes, fl_notes _ _ _, A.n, _, rfl, DGet.k (k := Sum.inl z.2.1) (hT.get 4 rfl), _, rfl, if2 (fun hb => ?_) (fun hb => ?_)⟩
      · have kb : k = .bell := by
          rw [R.no _ _ hk] at hb
          by_cases c : k = .bell
          · exact c
          · rw [if_neg c] at hb; cases hb
        have nv : valV y.notes (Sum.inl z.2.1) = some (.int (W.nf z.2.1)) := by rw [R.no _ _ hk, if_pos kb]
        refine ⟨_, rfl, A.p, _, A.dx, _, _, rfl, hT.get 1 rfl, T.cl_Yard, T.n_Yard_rung, fl_rung _ _ _, .inl ⟨rfl, _, SqL.of (hT.get 8 rfl)⟩, _, rfl, A.p, _, A.dx, _, _, rfl, hT.get 1 rfl, T.cl_Yard, T.n_Yard_notes, fl_notes _ _ _, _, rfl, A.n, _, rfl, (by rw [← nv]; exact DGet.k (k := Sum.inl z.2.1) (hT.get 4 rfl)), A.g, _, _, rfl, rfl, hT.get 8 rfl, sizeOk (show y.rung.length ≤ 1000000 by omega), ?_⟩
        have h4 : Has _ (yL t.c_Yard A { y with sides := y.sides.set (W.rf z.2.1).toNat (.int (k.side z.2.2 (W.sv s1 z.2.1))), rung := y.rung ++ [.int (W.nf z.2.1)], trail := y.trail ++ [.ref a] } ++ ((a, W.tr s1) :: L)) := hT.puti 8 rfl (.lst (y.rung ++ [.int (W.nf z.2.1)]))
        refine ⟨_, rfl, _, rfl, A.p, _, A.dx, _, rfl, h4.get 1 rfl, T.cl_Yard, T.n_Yard_engine_end, (show 9 < 1000 by decide), ?_⟩
        rw [fl_put_eng]
        have h5 := h4.puti 1 rfl (.ins t.c_Yard A.dx (fl A y.next (.ref z'.1)))
        have er : (stepS W s1 z k z').rg.map V.int = y.rung ++ [.int (W.nf z.2.1)] := by unfold stepS; dsimp only; rw [if_pos kb, List.map_append, R.rg]; rfl
        refine q _ a ?_
        rw [er, es]
        exact h5
      · have kb : ¬ k = .bell := fun c => by rw [R.no _ _ hk, if_pos c] at hb; cases hb
        refine ⟨_, rfl, _, rfl, A.p, _, A.dx, _, rfl, hT.get 1 rfl, T.cl_Yard, T.n_Yard_engine_end, (show 9 < 1000 by decide), ?_⟩
        rw [fl_put_eng]
        have h5 := hT.puti 1 rfl (.ins t.c_Yard A.dx (fl A y.next (.ref z'.1)))
        have er : (stepS W s1 z k z').rg.map V.int = y.rung := by unfold stepS; dsimp only; rw [if_neg kb, R.rg]
        refine q _ a ?_
        rw [er, es]
        exact h5
    · rw [if_neg hp] at etr ⊢
      try rw [if_neg hp]
      refine ifT rfl ?_
      refine ⟨(show 2 ≤ sizeLine by decide), fun a ha => ?_⟩
      have h1 := hH.alloc ha (.tup [.ref z.1, .non])
      refine ⟨A.tr, _, _, rfl, rfl, h1.get 1 rfl, sizeOk (by omega), ?_⟩
      have h2 := Has.comm (X := [_]) (Y := yL t.c_Yard A { y with trail := y.trail ++ [.ref a] }) (R := L) (h1.puti 1 rfl (.lst (y.trail ++ [.ref a])))
      generalize upd (upd H a _) A.tr _ = H2 at h2 ⊢
      replace h2 : Has H2 (yL t.c_Yard A { y with trail := y.trail ++ [.ref a] } ++ ((a, W.tr s1) :: L)) := by rw [etr]; exact h2
      clear h1 ha
      refine ⟨_, rfl, rfl, _, rfl, ifF rfl ?_⟩
      have h3 := h2
      have es : (stepS W s1 z k z').ss.map V.int = y.sides := by unfold stepS; dsimp only; rw [if_neg hp, R.sd]
      have hT : Has _ (yL t.c_Yard A { y with sides := y.sides, trail := y.trail ++ [.ref a] } ++ ((a, W.tr s1) :: L)) := h3
      refine ⟨_, rfl, _, rfl, A.p, _, A.dx, _, _, rfl, hT.get 1 rfl, T.cl_Yard, T.n_Yard_notes, fl_notes _ _ _, A.n, _, rfl, DGet.k (k := Sum.inl z.2.1) (hT.get 4 rfl), _, rfl, if2 (fun hb => ?_) (fun hb => ?_)⟩
      · have kb : k = .bell := by
          rw [R.no _ _ hk] at hb
          by_cases c : k = .bell
          · exact c
          · rw [if_neg c] at hb; cases hb
        have nv : valV y.notes (Sum.inl z.2.1) = some (.int (W.nf z.2.1)) := by rw [R.no _ _ hk, if_pos kb]
        refine ⟨_, rfl, A.p, _, A.dx, _, _, rfl, hT.get 1 rfl, T.cl_Yard, T.n_Yard_rung, fl_rung _ _ _, .inl ⟨rfl, _, SqL.of (hT.get 8 rfl)⟩, _, rfl, A.p, _, A.dx, _, _, rfl, hT.get 1 rfl, T.cl_Yard, T.n_Yard_notes, fl_notes _ _ _, _, rfl, A.n, _, rfl, (by rw [← nv]; exact DGet.k (k := Sum.inl z.2.1) (hT.get 4 rfl)), A.g, _, _, rfl, rfl, hT.get 8 rfl, sizeOk (show y.rung.length ≤ 1000000 by omega), ?_⟩
        have h4 : Has _ (yL t.c_Yard A { y with sides := y.sides, rung := y.rung ++ [.int (W.nf z.2.1)], trail := y.trail ++ [.ref a] } ++ ((a, W.tr s1) :: L)) := hT.puti 8 rfl (.lst (y.rung ++ [.int (W.nf z.2.1)]))
        refine ⟨_, rfl, _, rfl, A.p, _, A.dx, _, rfl, h4.get 1 rfl, T.cl_Yard, T.n_Yard_engine_end, (show 9 < 1000 by decide), ?_⟩
        rw [fl_put_eng]
        have h5 := h4.puti 1 rfl (.ins t.c_Yard A.dx (fl A y.next (.ref z'.1)))
        have er : (stepS W s1 z k z').rg.map V.int = y.rung ++ [.int (W.nf z.2.1)] := by unfold stepS; dsimp only; rw [if_pos kb, List.map_append, R.rg]; rfl
        refine q _ a ?_
        rw [er, es]
        exact h5
      · have kb : ¬ k = .bell := fun c => by rw [R.no _ _ hk, if_pos c] at hb; cases hb
        refine ⟨_, rfl, _, rfl, A.p, _, A.dx, _, rfl, hT.get 1 rfl, T.cl_Yard, T.n_Yard_engine_end, (show 9 < 1000 by decide), ?_⟩
        rw [fl_put_eng]
        have h5 := hT.puti 1 rfl (.ins t.c_Yard A.dx (fl A y.next (.ref z'.1)))
        have er : (stepS W s1 z k z').rg.map V.int = y.rung := by unfold stepS; dsimp only; rw [if_neg kb, R.rg]
        refine q _ a ?_
        rw [er, es]
        exact h5
theorem scNs : FnScope ["yard", "stand", "piece", "end", "kind", "side", "out", "behind", "mate"] ["yard"] (defScope s_next_step) := ⟨rfl, rfl, rfl, by decide +kernel, rfl, by decide +kernel, by decide +kernel⟩
theorem ok_next_step (T : Txt K mg t) : FnOk P w K mg base CX0 5 t.f_next_step t.d_next_step ["yard"] (sp_next t.c_Yard) := by
  refine T.F_next_step.ok scNs (fun vs H Q E h => ?_) (fun cdv A outer s H vs Q E hr h => ?_)
  · obtain ⟨_, _, _, _, _, rfl, _⟩ := h
    rfl
  · obtain ⟨A, y, L, W, s1, rfl, hH, R, PL, q⟩ := h
    have three : 3 ≤ sizeLine := by decide
    refine ⟨_, (pss_cons (ps_set (i := 1) scNs.nd rfl (Or.inl rfl) (pe_meth0 (pv 0) T.cl_Yard T.M_Yard_engine (ok_Yard_engine T) (hr.mono (by decide)) (b_Yard_engine T) .nil pass0))
      (pss_cons (ps_if (pt_cmpR op_isN (pv 1) pe_non (nomark _))
        (pss_one (ps_ret (pe_tup (pa_cons pe_str (pa_cons pe_non (pa_cons pe_non pa_nil))))))
        pss_nil)
      (pss_cons (ps_asg (pv 1) (pg_tup rfl (pgs_cons (pg_name (i := 2) scNs.nd rfl (Or.inl rfl)) (pgs_cons (pg_name (i := 3) scNs.nd rfl (Or.inl rfl)) pgs_nil))))
      (pss_cons (ps_set (i := 4) scNs.nd rfl (Or.inl rfl) (pe_meth (pv 0) T.cl_Yard T.M_Yard_kind (ok_Yard_kind T) (hr.mono (by decide)) (b_Yard_kind T) .nil pass0 (pa_cons (pv 2) pa_nil)))
      (pss_cons (ps_set (i := 5) scNs.nd rfl (Or.inl rfl) (pe_ifExp (pt_val (pe_call (ok_is_point T) (hr.mono (by decide)) (by rfl) T.m_is_point T.F_is_point.kp (b_is_point T) .nil pass0 (pa_cons (pv 4) pa_nil))) (pe_meth (pv 0) T.cl_Yard T.M_Yard_side (ok_Yard_side T) (hr.mono (by decide)) (b_Yard_side T) .nil pass0 (pa_cons (pe_meth (pv 0) T.cl_Yard T.M_Yard_rod (ok_Yard_rod T) (hr.mono (by decide)) (b_Yard_rod T) .nil pass0 (pa_cons (pv 2) pa_nil)) pa_nil)) pe_non))
      (pss_cons (ps_asg (pe_call (ok_passage T) (hr.mono (by decide)) (by rfl) T.m_passage T.F_passage.kp (b_passage T) .nil pass0 (pa_cons (pv 4) (pa_cons (pv 3) (pa_cons (pv 5) pa_nil)))) (pg_tup rfl (pgs_cons (pg_name (i := 6) scNs.nd rfl (Or.inl rfl)) (pgs_cons (pg_name (i := 7) scNs.nd rfl (Or.inl rfl)) pgs_nil))))
      (pss_cons (ps_if (pt_cmpR op_isN (pv 6) pe_non (nomark _))
        (pss_one (ps_ret (pe_tup (pa_cons pe_str (pa_cons pe_non (pa_cons pe_non pa_nil))))))
        pss_nil)
      (pss_cons (ps_set (i := 8) scNs.nd rfl (Or.inl rfl) (pe_meth (pv 0) T.cl_Yard T.M_Yard_mate (ok_Yard_mate T) (hr.mono (by decide)) (b_Yard_mate T) .nil pass0 (pa_cons (pe_tup (pa_cons (pv 2) (pa_cons (pv 6) pa_nil))) pa_nil)))
      (pss_cons (ps_if (pt_cmpR op_isN (pv 8) pe_non (nomark _))
        (pss_one (ps_ret (pe_tup (pa_cons pe_str (pa_cons pe_non (pa_cons pe_non pa_nil))))))
        pss_nil)
      (pss_one (ps_ret (pe_tup (pa_cons pe_non (pa_cons (pv 8) (pa_cons (pv 7) pa_nil))))))))))))))), ?_⟩
    refine ⟨_, rfl, A.p, A.dx, _, rfl, hH.get 1 rfl, (fl_m4 _ _ _).2.2.2.2.2.2.1, A, y, L, rfl, hH, ?_⟩
    refine ⟨_, rfl, rfl, _, rfl, ?_⟩
    rw [R.en]
    cases hz : s1.at_ with
    | none =>
      obtain ⟨n1, n2⟩ := why_none (w := W) hz
      exact iteT ⟨three, fun p hp => q _ p _ (.held n1 _ n2) (hH.alloc hp _)⟩
    | some z =>
      obtain ⟨j, hj⟩ := PL.e z hz
      obtain ⟨k, hk, e0, e1⟩ := R.eo z hz
      have gz := hH.get (j + 9) (by simpa [yL] using hj)
      have vk : valV y.kinds (Sum.inl z.2.1) = some (.str k.str) := R.kd _ _ hk
      refine iteF ?_
      refine ⟨_, rfl, z.1, _, rfl, SqT.of gz, rfl, _, _, rfl, _, _, rfl, rfl, ?_⟩
      refine ⟨_, rfl, A.p, A.dx, _, rfl, hH.get 1 rfl, (fl_m4 _ _ _).2.2.2.2.1, _, rfl, A, y, L, z.2.1, _, rfl, hH, vk, ?_⟩
      refine ⟨_, rfl, k, rfl, _, rfl, ?_⟩
      have thr : ∀ o : Int, k.out z.2.2 (W.sv s1 z.2.1) = .int o → There y z.2.1 o := fun o ho => by
        have := Kd.out_in e0 e1 (fun hp => R.s1 hk hp) ho
        exact ⟨k, vk, this.1, this.2⟩
      refine if2 (fun hp => ?_) (fun hp => ?_)
      · obtain ⟨r0, r1⟩ := R.rr _ _ hk hp
        have vr : valV y.rods (Sum.inl z.2.1) = some (.int (W.rf z.2.1)) := by rw [R.ro _ _ hk, if_pos hp]
        refine ⟨_, rfl, A.p, A.dx, _, rfl, hH.get 1 rfl, (fl_m _ _ _).2.2.2.2.2.1, _, rfl, A.p, A.dx, _, rfl, hH.get 1 rfl, (fl_m _ _ _).2.2.2.2.1, _, rfl, A, y, L, z.2.1, _, _, rfl, hH, vk, vr, A, y, L, W.rf z.2.1, _, rfl, hH, r0, R.sideAt hk hp, ?_⟩
        refine ⟨_, rfl, _, rfl, _, rfl, k, z.2.2, W.sv s1 z.2.1, V.int (W.sv s1 z.2.1), rfl, e0, e1, (fun h => ⟨rfl, R.s1 hk hp⟩), fun p hp1 => ?_⟩
        have h1 := hH.alloc hp1 (.tup [k.out z.2.2 (W.sv s1 z.2.1), if k.point then .int (k.side z.2.2 (W.sv s1 z.2.1)) else V.int (W.sv s1 z.2.1)])
        refine ⟨p, _, rfl, SqT.of (h1.get 0 rfl), rfl, _, _, rfl, _, _, rfl, rfl, ?_⟩
        replace h1 := h1.tail
        generalize upd H p _ = H1 at h1 ⊢
        refine ⟨_, rfl, rfl, _, rfl, ?_⟩
        by_cases c : k.out z.2.2 (W.sv s1 z.2.1) = .non
        · obtain ⟨n1, n2⟩ := why_stop hz hk c
          exact ifT (decide_eq_true c) ⟨three, fun p hp => q _ p _ (.held n1 _ n2) (h1.alloc hp _)⟩
        · refine ifF (decide_eq_false c) ?_
          obtain ⟨o, ho⟩ := Kd.out_int (k := k) (fun e => c (by unfold Kd.out; rw [if_pos e])) z.2.2 (W.sv s1 z.2.1)
          rw [ho]
          refine ⟨_, rfl, A.p, A.dx, _, rfl, h1.get 1 rfl, (fl_m2 _ _ _).2.1, _, rfl, _, rfl, (show 2 ≤ sizeLine by decide), fun b hb => ?_⟩
          have h2 := Has.comm (X := [(b, .tup [.int z.2.1, .int o])]) (Y := yL t.c_Yard A y) (R := L) (h1.alloc hb (.tup [.int z.2.1, .int o]))
          generalize upd H1 b _ = H2 at h2 ⊢
          refine ⟨A, y, _, b, z.2.1, o, 0, rfl, h2, rfl, thr o ho, ?_⟩
          have h3 := (Has.comm (X := yL t.c_Yard A y) (Y := [(b, .tup [.int z.2.1, .int o])]) (R := L) h2).tail
          refine ⟨_, rfl, rfl, _, rfl, ?_⟩
          rw [R.mt]
          cases hm : W.mf z.2.1 o with
          | none =>
            obtain ⟨n1, n2⟩ := why_loose hz hk ho hm
            exact iteT ⟨three, fun p hp => q _ p _ (.held n1 _ n2) (h3.alloc hp _)⟩
          | some z' =>
            exact iteF ⟨_, rfl, _, rfl, three, fun p hp => q _ p _ (.goes z k o z' hz hk ho hm) (by rw [if_pos (by assumption : k.point = true)]; have := h3.alloc hp (.tup [.non, .ref z'.1, .int (k.side z.2.2 (W.sv s1 z.2.1))]); simpa [*] using this)⟩
      · refine ⟨_, rfl, _, rfl, _, rfl, k, z.2.2, W.sv s1 z.2.1, V.non, rfl, e0, e1, (fun h => absurd h (by rw [hp]; decide)), fun p hp1 => ?_⟩
        have h1 := hH.alloc hp1 (.tup [k.out z.2.2 (W.sv s1 z.2.1), if k.point then .int (k.side z.2.2 (W.sv s1 z.2.1)) else V.non])
        refine ⟨p, _, rfl, SqT.of (h1.get 0 rfl), rfl, _, _, rfl, _, _, rfl, rfl, ?_⟩
        replace h1 := h1.tail
        generalize upd H p _ = H1 at h1 ⊢
        refine ⟨_, rfl, rfl, _, rfl, ?_⟩
        by_cases c : k.out z.2.2 (W.sv s1 z.2.1) = .non
        · obtain ⟨n1, n2⟩ := why_stop hz hk c
          exact ifT (decide_eq_true c) ⟨three, fun p hp => q _ p _ (.held n1 _ n2) (h1.alloc hp _)⟩
        · refine ifF (decide_eq_false c) ?_
          obtain ⟨o, ho⟩ := Kd.out_int (k := k) (fun e => c (by unfold Kd.out; rw [if_pos e])) z.2.2 (W.sv s1 z.2.1)
          rw [ho]
          refine ⟨_, rfl, A.p, A.dx, _, rfl, h1.get 1 rfl, (fl_m2 _ _ _).2.1, _, rfl, _, rfl, (show 2 ≤ sizeLine by decide), fun b hb => ?_⟩
          have h2 := Has.comm (X := [(b, .tup [.int z.2.1, .int o])]) (Y := yL t.c_Yard A y) (R := L) (h1.alloc hb (.tup [.int z.2.1, .int o]))
          generalize upd H1 b _ = H2 at h2 ⊢
          refine ⟨A, y, _, b, z.2.1, o, 0, rfl, h2, rfl, thr o ho, ?_⟩
          have h3 := (Has.comm (X := yL t.c_Yard A y) (Y := [(b, .tup [.int z.2.1, .int o])]) (R := L) h2).tail
          refine ⟨_, rfl, rfl, _, rfl, ?_⟩
          rw [R.mt]
          cases hm : W.mf z.2.1 o with
          | none =>
            obtain ⟨n1, n2⟩ := why_loose hz hk ho hm
            exact iteT ⟨three, fun p hp => q _ p _ (.held n1 _ n2) (h3.alloc hp _)⟩
          | some z' =>
            exact iteF ⟨_, rfl, _, rfl, three, fun p hp => q _ p _ (.goes z k o z' hz hk ho hm) (by exact h3.alloc hp _)⟩
theorem scRn : FnScope ["yard", "most", "done", "why", "end", "side"] ["yard", "most"] (defScope s_run) := ⟨rfl, rfl, rfl, by decide +kernel, rfl, by decide +kernel, by decide +kernel⟩
theorem ok_run (T : Txt K mg t) : FnOk P w K mg base CX0 6 t.f_run t.d_run ["yard", "most"] (sp_run t.c_Yard) := by
  refine T.F_run.ok scRn (fun vs H Q E h => ?_) (fun cdv A outer s H vs Q E hr h => ?_)
  · obtain ⟨_, _, _, _, _, _, _, rfl, _⟩ := h
    rfl
  · obtain ⟨A, y, L, W, s0, ts, m, rfl, hH, R, PL, tl, b1, b2, b3, b4, q⟩ := h
    refine ⟨_, (pss_cons (ps_set (i := 2) scRn.nd rfl (Or.inl rfl) pe_int)
      (pss_cons (ps_while PassesOwn.never (pt_cmpR op_lt (pv 2) (pv 1) (nomark _))
        (pss_cons (ps_asg (pe_call (ok_next_step T) (hr.mono (by decide)) (by rfl) T.m_next_step T.F_next_step.kp (b_next_step T) .nil pass0 (pa_cons (pv 0) pa_nil)) (pg_tup rfl (pgs_cons (pg_name (i := 3) scRn.nd rfl (Or.inl rfl)) (pgs_cons (pg_name (i := 4) scRn.nd rfl (Or.inl rfl)) (pgs_cons (pg_name (i := 5) scRn.nd rfl (Or.inl rfl)) pgs_nil)))))
          (pss_cons (ps_if (pt_cmpR op_notN (pv 3) pe_non (nomark _))
            (pss_one ps_break)
            pss_nil)
          (pss_cons (ps_expr (pe_meth (pv 0) T.cl_Yard T.M_Yard_carry (ok_Yard_carry T) (hr.mono (by decide)) (b_Yard_carry T) .nil pass0 (pa_cons (pv 4) (pa_cons (pv 5) pa_nil))))
          (pss_one (ps_aug (i := 2) scRn.nd rfl (Or.inl rfl) pe_int ip_add))))))
      (pss_one (ps_ret (pv 2))))), ?_⟩
    refine ⟨runInv t.c_Yard A y L W s0 ts m, ⟨_, 0, y, [], s0, _, _, _, rfl, Nat.zero_le _, rfl, by rw [List.append_nil]; exact hH, R, PL, by rw [List.append_nil]; exact tl, rfl, rfl, rfl, Nat.le_refl _, rfl, rfl, rfl, rfl, rfl⟩, ?_⟩
    rintro r σ H1 ⟨i, y1, ts1, s1, o1, o2, o3, rfl, im, rfl, h1, R1, P1, tl1, li, eg, eh, rg, f1, f2, f3, f4, f5⟩
    refine ⟨_, rfl, _, rfl, _, _, rfl, rfl, _, rfl, if2 (fun hc => ?_) (fun hc => ?_)⟩
    · have hlt : (i : Int) < m := of_decide_eq_true hc
      refine ⟨fun σ' H' => ∃ r', r' < m.toNat - i ∧ runInv t.c_Yard A y L W s0 ts m r' σ' H', fun _ _ h => h, ?_⟩
      refine ⟨_, rfl, A, y1, _, W, s1, rfl, h1, R1, P1.app _, fun H2 p xs nx h2 => ?_⟩
      cases nx with
      | held hn x e =>
        refine ⟨p, _, rfl, SqT.of (h2.get 0 rfl), rfl, _, _, rfl, _, _, rfl, _, _, rfl, rfl, ?_⟩
        refine ⟨_, rfl, rfl, _, rfl, ifT rfl ?_⟩
        rw [go_held W hn] at eg
        rw [hist_held W hn, List.append_nil] at eh
        refine ⟨_, rfl, ?_⟩
        have := q H2 y1 ts1 h2.tail (by rw [eg]; exact R1) tl1 eh.symm f1 f2 f3 f4 f5 (by rw [eg]; exact P1)
        rw [li] at this
        exact this
      | goes z k o z' hz hk ho hm =>
        have hn := nx_of hz hk ho hm
        refine ⟨p, _, rfl, SqT.of (h2.get 0 rfl), rfl, _, _, rfl, _, _, rfl, _, _, rfl, rfl, ?_⟩
        refine ⟨_, rfl, rfl, _, rfl, ifF rfl ?_⟩
        replace h2 := h2.tail
        have tll : y1.trail.length = ts.length + i := by rw [tl1]; unfold trV; rw [List.length_map, List.length_append, li]
        refine ⟨_, rfl, A.p, A.dx, _, rfl, h2.get 1 rfl, (fl_m4 _ _ _).2.2.1, _, rfl, _, rfl, A, y1, _, W, s1, z, k, z', rfl, h2, R1, hz, hk, (P1.app _).e z hz, by omega, by omega, fun H3 a h3 => ?_⟩
        refine ⟨_, rfl, _, _, rfl, rfl, ?_⟩
        have em : m.toNat - i = (m.toNat - (i + 1)) + 1 := by omega
        rw [em, go_succ W hn] at eg
        rw [em, hist_succ W hn] at eh
        refine ⟨m.toNat - (i + 1), by omega, i + 1, { y1 with sides := (stepS W s1 z k z').ss.map V.int, eng := .ref z'.1, rung := (stepS W s1 z k z').rg.map V.int, trail := y1.trail ++ [.ref a] }, ts1 ++ [(a, s1)], stepS W s1 z k z', _, _, _, rfl, by omega, rfl, ?_, stepS_keep R1 hz hk hm rfl rfl rfl rfl rfl rfl rfl, P1.step hn, ?_, by simp [li], eg, by rw [eh]; simp, ?_, f1, f2, f3, f4, f5⟩
        · rw [← List.append_assoc ts ts1, trK_snoc]
          exact h3.perm (List.Perm.append_left _ List.perm_middle.symm)
        · show y1.trail ++ [.ref a] = _
          rw [tl1]; unfold trV; simp
        · show ((stepS W s1 z k z').rg.map V.int).length ≤ _
          have := stepS_rg_le (w := W) (s := s1) (z := z) (k := k) (z' := z')
          have e := congrArg List.length R1.rg
          rw [List.length_map] at e ⊢
          omega
    · have hge : ¬ (i : Int) < m := of_decide_eq_false hc
      have e0 : m.toNat - i = 0 := by omega
      rw [e0] at eg eh
      refine ⟨_, rfl, ?_⟩
      have := q H1 y1 ts1 h1 (by rw [eg]; exact R1) tl1 (by rw [eh]; exact (List.append_nil _).symm) f1 f2 f3 f4 f5 (by rw [eg]; exact P1)
      rw [li] at this
      exact this
end

end P


set_option Elab.async false
set_option linter.all false
set_option maxRecDepth 100000
set_option maxHeartbeats 4000000
namespace P
open PySem L2

/-- the kinds' dict of pieces 0, 1, .. -/
def kvOf (ks : List Kd) : List (Key × V) := ks.zipIdx.map fun p => ((Sum.inl (p.2 : Int) : Key), V.str p.1.str)
theorem kvOf_snoc (ks : List Kd) (k : Kd) : kvOf (ks ++ [k]) = kvOf ks ++ [((Sum.inl (ks.length : Int) : Key), V.str k.str)] := by
  unfold kvOf
  rw [List.zipIdx_append, List.map_append]
  simp
theorem kvOf_length (ks : List Kd) : (kvOf ks).length = ks.length := by unfold kvOf; simp
theorem valV_kv (f : Kd → V) : ∀ (ks : List Kd) (n m : Nat), valV ((ks.zipIdx n).map fun p => ((Sum.inl (p.2 : Int) : Key), f p.1)) (Sum.inl (m : Int)) = if n ≤ m then (ks[m - n]?).map f else none
  | [], n, m => by simp [valV_nil]
  | k :: ks, n, m => by
    rw [List.zipIdx_cons, List.map_cons]
    by_cases e : n = m
    · subst e
      rw [valV_pos rfl]; simp
    · rw [valV_neg (fun z => e (by injection z with z; exact Int.ofNat.inj z)), valV_kv f ks (n + 1) m]
      by_cases c : n ≤ m
      · rw [if_pos c, if_pos (by omega)]
        obtain ⟨d, rfl⟩ : ∃ d, m = n + 1 + d := ⟨m - (n + 1), by omega⟩
        rw [show n + 1 + d - (n + 1) = d by omega, show n + 1 + d - n = d + 1 by omega]
        rfl
      · rw [if_neg c, if_neg (by omega)]
theorem valV_kvOf (ks : List Kd) (m : Nat) : valV (kvOf ks) (Sum.inl (m : Int)) = (ks[m]?).map fun k => V.str k.str := by
  have := valV_kv (fun k => V.str k.str) ks 0 m
  rw [if_pos (Nat.zero_le _)] at this
  exact this
/-- a yard as built: its pieces and what they bear -/
structure Blt (y : YR) (ks : List Kd) (ns rs ss : List Int) : Prop where
  nx : y.next = ks.length
  kd : y.kinds = kvOf ks
  nl : ns.length = ks.length
  rl : rs.length = ks.length
  no : ∀ (i : Nat), valV y.notes (Sum.inl (i : Int)) = if ks[i]? = some .bell then some (.int (ns.getD i 0)) else none
  ro : ∀ (i : Nat), valV y.rods (Sum.inl (i : Int)) = if (ks[i]?.map Kd.point) = some true then some (.int (rs.getD i 0)) else none
  rr : ∀ (i : Nat), (ks[i]?.map Kd.point) = some true → 0 ≤ rs.getD i 0 ∧ rs.getD i 0 < ss.length
  nlen : y.notes.length ≤ ks.length
  rlen : y.rods.length ≤ ks.length
  sd : y.sides = ss.map V.int
  s12 : ∀ s ∈ ss, s = 1 ∨ s = 2
  sl : ss.length ≤ ks.length
  mt : y.mates = []
  en : y.eng = .non
  rg : y.rung = []
  tl : y.trail = []
  nr : ∀ x ∈ ns, 0 ≤ x ∧ x ≤ 9999
  rn : ∀ (i : Nat), (ks[i]?.map Kd.point) = some false → rs.getD i 0 < 0
theorem Blt.nil : Blt y0 [] [] [] [] := ⟨rfl, rfl, rfl, rfl, (fun i => rfl), (fun i => rfl), (fun i h => by simp at h), Nat.le_refl _, Nat.le_refl _, rfl, (fun _ h => nomatch h), Nat.le_refl _, rfl, rfl, rfl, rfl, (fun _ h => nomatch h), (fun i h => by simp at h)⟩
theorem Blt.small {y : YR} {ks : List Kd} {ns rs ss : List Int} (h : Blt y ks ns rs ss) (hk : ks.length ≤ 1000) : Small y :=
  ⟨by rw [h.kd, kvOf_length]; omega, by have := h.nlen; omega, by have := h.rlen; omega, by have := h.sl; rw [h.sd, List.length_map]; omega, by rw [h.mt]; decide, by rw [h.rg]; decide, by rw [h.tl]; decide⟩
theorem getD_snoc {xs : List Int} {x : Int} {i : Nat} (h : i < xs.length) : (xs ++ [x]).getD i 0 = xs.getD i 0 := by simp [List.getD, List.getElem?_append_left h]
theorem getD_last {xs : List Int} {x : Int} : (xs ++ [x]).getD xs.length 0 = x := by simp [List.getD]
theorem Blt.lay {y : YR} {ks : List Kd} {ns rs ss : List Int} (h : Blt y ks ns rs ss) (k : Kd) (z note bar : Int) (rod : V) (ss' : List Int) (hz : 0 ≤ z ∧ z ≤ 9999) (hb : k = .bell → note = z)
    (hp : k.point = true → (rod = .non ∧ bar = ss.length ∧ ss' = ss ++ [1]) ∨ (rod = .int bar ∧ 0 ≤ bar ∧ bar < ss.length ∧ ss' = ss)) (hn : k.point = false → ss' = ss ∧ bar < 0) :
    Blt (layY y k note rod) (ks ++ [k]) (ns ++ [z]) (rs ++ [bar]) ss' := by
  have hnl := h.nl
  have hrl := h.rl
  have up : ss.length ≤ ss'.length ∧ ss'.length ≤ ss.length + 1 := by
    cases e : k.point with
    | false => rw [(hn e).1]; omega
    | true => rcases hp e with ⟨_, _, r⟩ | ⟨_, _, _, r⟩ <;> rw [r] <;> simp
  have fresh : valV y.kinds (Sum.inl (ks.length : Int)) = none := by rw [h.kd, valV_kvOf, List.getElem?_eq_none (Nat.le_refl _)]; rfl
  have ne : ∀ {i : Nat}, ¬ i = ks.length → ¬ (Sum.inl (i : Int) : Key) = Sum.inl (ks.length : Int) := fun {i} c e => c (by injection e with e; exact Int.ofNat.inj e)
  have out : ∀ {i : Nat}, ¬ i = ks.length → ¬ i < ks.length → (ks ++ [k])[i]? = none ∧ ks[i]? = none := fun {i} c1 c2 => ⟨List.getElem?_eq_none (by simp; omega), List.getElem?_eq_none (by omega)⟩
  refine ⟨?_, ?_, by simp [hnl], by simp [hrl], fun i => ?_, fun i => ?_, fun i hi => ?_, ?_, ?_, ?_, ?_, ?_, h.mt, h.en, h.rg, rfl, ?_, fun i hi => ?_⟩
  · show y.next + 1 = _
    rw [h.nx]; simp
  · show putK y.kinds (Sum.inl y.next) (.str k.str) = _
    rw [h.nx, putK_new _ fresh, h.kd, kvOf_snoc]
  · show valV (if k = .bell then putK y.notes (Sum.inl y.next) (.int note) else y.notes) _ = _
    rw [h.nx]
    by_cases c : i = ks.length
    · subst c
      rw [List.getElem?_concat_length]
      by_cases kb : k = .bell
      · rw [if_pos kb, valV_put, if_pos rfl, if_pos (by rw [kb]), ← hnl, getD_last, hb kb]
      · rw [if_neg kb, h.no, List.getElem?_eq_none (Nat.le_refl _), if_neg (by intro z; cases z), if_neg (by intro z; exact kb (Option.some.inj z))]
    · have e : valV (if k = .bell then putK y.notes (Sum.inl (ks.length : Int)) (.int note) else y.notes) (Sum.inl (i : Int)) = valV y.notes (Sum.inl (i : Int)) := by
        by_cases kb : k = .bell
        · rw [if_pos kb, valV_put, if_neg (ne c)]
        · rw [if_neg kb]
      rw [e, h.no]
      by_cases c2 : i < ks.length
      · rw [List.getElem?_append_left c2, getD_snoc (by omega)]
      · rw [(out c c2).1, (out c c2).2, if_neg (by intro z; cases z), if_neg (by intro z; cases z)]
  · show valV (if k.point = true then putK y.rods (Sum.inl y.next) (if rod = .non then .int y.sides.length else rod) else y.rods) _ = _
    rw [h.nx]
    by_cases c : i = ks.length
    · subst c
      rw [List.getElem?_concat_length, ← hrl, getD_last, hrl]
      cases kp : k.point with
      | true =>
        rw [if_pos rfl, valV_put, if_pos rfl, if_pos (show Option.map Kd.point (some k) = some true by simp [kp])]
        rcases hp kp with ⟨r1, r2, _⟩ | ⟨r1, _, _, _⟩
        · rw [if_pos r1, h.sd, List.length_map, r2]
        · rw [r1, if_neg (by intro z; cases z)]
      | false =>
        rw [if_neg Bool.false_ne_true, h.ro, List.getElem?_eq_none (Nat.le_refl _), if_neg (by intro z; cases z), if_neg (by simp [kp])]
    · have e : valV (if k.point = true then putK y.rods (Sum.inl (ks.length : Int)) (if rod = .non then .int y.sides.length else rod) else y.rods) (Sum.inl (i : Int)) = valV y.rods (Sum.inl (i : Int)) := by
        by_cases kb : k.point = true
        · rw [if_pos kb, valV_put, if_neg (ne c)]
        · rw [if_neg kb]
      rw [e, h.ro]
      by_cases c2 : i < ks.length
      · rw [List.getElem?_append_left c2, getD_snoc (by omega)]
      · rw [(out c c2).1, (out c c2).2, if_neg (by intro z; cases z), if_neg (by intro z; cases z)]
  · by_cases c : i = ks.length
    · subst c
      rw [List.getElem?_concat_length] at hi
      rw [← hrl, getD_last]
      rcases hp (by simpa using hi) with ⟨_, r2, r3⟩ | ⟨_, r2, r3, r4⟩
      · refine ⟨by omega, ?_⟩
        rw [r3, r2, List.length_append, List.length_singleton]
        omega
      · rw [r4]; exact ⟨r2, r3⟩
    · by_cases c2 : i < ks.length
      · rw [List.getElem?_append_left c2] at hi
        rw [getD_snoc (by omega)]
        have := h.rr i hi
        exact ⟨this.1, by omega⟩
      · rw [(out c c2).1] at hi; cases hi
  · show (if k = .bell then putK y.notes (Sum.inl y.next) (.int note) else y.notes).length ≤ _
    have := h.nlen
    have := length_putK y.notes (Sum.inl y.next) (.int note)
    rw [List.length_append, List.length_singleton]
    split <;> omega
  · show (if k.point = true then putK y.rods (Sum.inl y.next) (if rod = .non then .int y.sides.length else rod) else y.rods).length ≤ _
    have := h.rlen
    have := length_putK y.rods (Sum.inl y.next) (if rod = .non then .int y.sides.length else rod)
    rw [List.length_append, List.length_singleton]
    split <;> omega
  · show (if k.point = true ∧ rod = .non then y.sides ++ [.int 1] else y.sides) = _
    cases kp : k.point with
    | true =>
      rcases hp kp with ⟨r1, _, r3⟩ | ⟨r1, _, _, r4⟩
      · rw [if_pos ⟨rfl, r1⟩, h.sd, r3, List.map_append]; rfl
      · rw [if_neg (by rw [r1]; intro z; cases z.2), h.sd, r4]
    | false => rw [if_neg (fun z => Bool.false_ne_true z.1), h.sd, (hn kp).1]
  · intro s hs
    cases kp : k.point with
    | true =>
      rcases hp kp with ⟨r1, _, r3⟩ | ⟨r1, _, _, r4⟩
      · rw [r3, List.mem_append] at hs
        rcases hs with hs | hs
        · exact h.s12 s hs
        · exact .inl (by simpa using hs)
      · rw [r4] at hs; exact h.s12 s hs
    | false => rw [(hn kp).1] at hs; exact h.s12 s hs
  · have := h.sl
    rw [List.length_append, List.length_singleton]
    omega
  · intro x hx
    rw [List.mem_append] at hx
    rcases hx with hx | hx
    · exact h.nr x hx
    · rw [List.mem_singleton.mp hx]; exact hz
  · by_cases c : i = ks.length
    · subst c
      rw [List.getElem?_concat_length] at hi
      rw [← hrl, getD_last]
      exact (hn (by simpa using hi)).2
    · by_cases c2 : i < ks.length
      · rw [List.getElem?_append_left c2] at hi
        rw [getD_snoc (by omega)]
        exact h.rn i hi
      · rw [(out c c2).1] at hi; cases hi

def sp_kinds : Sp := fun vs H Q _ => vs = [] ∧ ∀ p, H p = none → Q (.ref p) (upd H p (.lst [.str "line", .str "bell", .str "still", .str "lazy", .str "turning", .str "stop"]))
def sp_kind : Sp := fun vs H Q _ => ∃ (x : Int) (L : Kn), vs = [.int x] ∧ Has H L ∧ ∀ (k : Kd) H', Has H' L → Q (.str k.str) H'
def sp_size : Sp := fun vs H Q _ => ∃ x : Int, vs = [.int x] ∧ ∀ n : Int, 1 ≤ n → n ≤ 24 → Q (.int n) H
def ksV (ks : List Kd) : List V := ks.map fun k => V.str k.str
def sp_built (C : Addr) : Sp := fun vs H Q _ => ∃ (d : Addr) (ds : List Int) (a n : Int) (L : Kn) (j : Nat), vs = [.ref d, .int a, .int n] ∧ Has H L ∧ L[j]? = some (d, .lst (ds.map V.int)) ∧ 0 ≤ a ∧ 0 ≤ n ∧ n ≤ 24 ∧ a + 3 * n ≤ ds.length ∧
  ∀ H' A y (ks : List Kd) (ns rs ss : List Int) (tp sd rr nn kk : Addr), Blt y ks ns rs ss → (ks.length : Int) = n →
    Has H' ((tp, .tup [.ref A.p, .ref kk, .ref nn, .ref rr, .ref sd]) :: (yL C A y ++ ([(sd, .lst (ss.map V.int)), (rr, .lst (rs.map V.int)), (nn, .lst (ns.map V.int)), (kk, .lst (ksV ks))] ++ L))) → Q (.ref tp) H'
theorem Kd.of11 (x : Int) : ∃ k : Kd, atI ([V.str "line", .str "bell", .str "still", .str "lazy", .str "turning", .str "stop"] ++ [V.str "lazy", .str "turning", .str "bell", .str "still", .str "line"]) (x % 11) = some (.str k.str) := by
  have l0 := Int.emod_nonneg x (show (11 : Int) ≠ 0 by decide)
  have l1 := Int.emod_lt_of_pos x (show (0 : Int) < 11 by decide)
  generalize x % 11 = m at *
  have : m = 0 ∨ m = 1 ∨ m = 2 ∨ m = 3 ∨ m = 4 ∨ m = 5 ∨ m = 6 ∨ m = 7 ∨ m = 8 ∨ m = 9 ∨ m = 10 := by omega
  rcases this with rfl | rfl | rfl | rfl | rfl | rfl | rfl | rfl | rfl | rfl | rfl
  · exact ⟨.line, rfl⟩
  · exact ⟨.bell, rfl⟩
  · exact ⟨.still, rfl⟩
  · exact ⟨.lazy, rfl⟩
  · exact ⟨.turning, rfl⟩
  · exact ⟨.stop, rfl⟩
  · exact ⟨.lazy, rfl⟩
  · exact ⟨.turning, rfl⟩
  · exact ⟨.bell, rfl⟩
  · exact ⟨.still, rfl⟩
  · exact ⟨.line, rfl⟩
theorem atD {ds : List Int} {i : Int} (h0 : 0 ≤ i) (h1 : i < ds.length) : atI (ds.map V.int) i = some (.int (ds.getD i.toNat 0)) := by
  obtain ⟨m, rfl⟩ : ∃ m : Nat, i = m := ⟨i.toNat, by omega⟩
  have hl : m < ds.length := by omega
  rw [Int.toNat_natCast]
  refine atI_nat ?_
  rw [List.getElem?_map, List.getElem?_eq_getElem hl]
  simp [List.getD, List.getElem?_eq_getElem hl]
section
variable {P : Program} {w : World} {K : PySem.W.Frag} {mg : Str → Option Value} {base : Heap} {t : Adr}
theorem scKs : FnScope [] [] (defScope s_kinds) := ⟨rfl, rfl, rfl, by decide +kernel, rfl, by decide +kernel, by decide +kernel⟩
theorem ok_kinds (T : Txt K mg t) : FnOk P w K mg base CX0 1 t.f_kinds t.d_kinds [] sp_kinds := by
  refine T.F_kinds.ok scKs (fun vs H Q E h => ?_) (fun cdv A outer s H vs Q E hr h => ?_)
  · obtain ⟨rfl, _⟩ := h
    rfl
  · obtain ⟨rfl, q⟩ := h
    refine ⟨_, (pss_one (ps_ret (pe_lst (pa_cons pe_str (pa_cons pe_str (pa_cons pe_str (pa_cons pe_str (pa_cons pe_str (pa_cons pe_str pa_nil))))))))), ?_⟩
    exact ⟨(show 6 ≤ sizeLine by decide), fun p hp => q p hp⟩
theorem scKn : FnScope ["_law_draw"] ["_law_draw"] (defScope s_kind) := ⟨rfl, rfl, rfl, by decide +kernel, rfl, by decide +kernel, by decide +kernel⟩
theorem ok_kind (T : Txt K mg t) : FnOk P w K mg base CX0 2 t.f_kind t.d_kind ["_law_draw"] sp_kind := by
  refine T.F_kind.ok scKn (fun vs H Q E h => ?_) (fun cdv A outer s H vs Q E hr h => ?_)
  · obtain ⟨_, _, rfl, _⟩ := h
    rfl
  · obtain ⟨x, L, rfl, hH, q⟩ := h
    refine ⟨_, (pss_one (ps_ret (pe_ix ix_list (pe_op op_addL (pe_call0 (ok_kinds T) (hr.mono (by decide)) (by rfl) T.m_kinds T.F_kinds.kp (b_kinds T) .nil pass0) (pe_lst (pa_cons pe_str (pa_cons pe_str (pa_cons pe_str (pa_cons pe_str (pa_cons pe_str pa_nil))))))) (pe_op op_mod (pv 0) pe_int) (fun _ _ => rfl)))), ?_⟩
    refine ⟨rfl, fun p1 hp1 => ?_⟩
    have h1 := hH.alloc hp1 (.lst [.str "line", .str "bell", .str "still", .str "lazy", .str "turning", .str "stop"])
    refine ⟨(show 5 ≤ sizeLine by decide), fun p2 hp2 => ?_⟩
    have h2 := h1.alloc hp2 (.lst [.str "lazy", .str "turning", .str "bell", .str "still", .str "line"])
    refine ⟨p1, p2, _, _, rfl, rfl, SqL.of (h2.get 1 rfl), SqL.of (h2.get 0 rfl), (show 11 ≤ sizeLine by decide), fun p3 hp3 => ?_⟩
    have h3 := h2.alloc hp3 (.lst ([V.str "line", .str "bell", .str "still", .str "lazy", .str "turning", .str "stop"] ++ [V.str "lazy", .str "turning", .str "bell", .str "still", .str "line"]))
    obtain ⟨k, hk⟩ := Kd.of11 x
    refine ⟨_, rfl, _, _, rfl, rfl, (show (0 : Int) < 11 by decide), p3, _, _, _, rfl, rfl, SqL.of (h3.get 0 rfl), hk, ?_⟩
    exact q k _ h3.tail.tail.tail
theorem scSz : FnScope ["_law_draw"] ["_law_draw"] (defScope s_size) := ⟨rfl, rfl, rfl, by decide +kernel, rfl, by decide +kernel, by decide +kernel⟩
theorem ok_size (T : Txt K mg t) : FnOk P w K mg base CX0 1 t.f_size t.d_size ["_law_draw"] sp_size := by
  refine T.F_size.ok scSz (fun vs H Q E h => ?_) (fun cdv A outer s H vs Q E hr h => ?_)
  · obtain ⟨_, rfl, _⟩ := h
    rfl
  · obtain ⟨x, rfl, q⟩ := h
    refine ⟨_, (pss_cons (ps_if (pt_cmpR op_eq (pe_op op_mod (pe_op op_fdiv (pv 0) pe_int) pe_int) pe_int (nomark _))
        (pss_one (ps_ret pe_int))
        pss_nil)
      (pss_one (ps_ret (pe_op op_add pe_int (pe_op op_mod (pv 0) pe_int))))), ?_⟩
    refine ⟨_, rfl, _, _, rfl, rfl, ⟨by decide, by decide⟩, _, _, rfl, rfl, (show (0 : Int) < 6 by decide), rfl, _, rfl, if2 (fun _ => ?_) (fun _ => ?_)⟩
    · exact q 24 (by decide) (by decide)
    · refine ⟨_, rfl, _, _, rfl, rfl, (show (0 : Int) < 9 by decide), _, _, rfl, rfl, ?_⟩
      have l0 := Int.emod_nonneg x (show (9 : Int) ≠ 0 by decide)
      have l1 := Int.emod_lt_of_pos x (show (0 : Int) < 9 by decide)
      exact q _ (by omega) (by omega)
theorem scBu : FnScope ["_law_d", "_law_at", "_law_many_here", "_law_yard", "_law_kinds_here", "_law_notes", "_law_rods", "_law_sides", "_law_piece", "_law_kind_here", "_law_note", "_law_way", "_law_bar"] ["_law_d", "_law_at", "_law_many_here"] (defScope s_built) := ⟨rfl, rfl, rfl, by decide +kernel, rfl, by decide +kernel, by decide +kernel⟩
theorem ok_built (T : Txt K mg t) : FnOk P w K mg base CX0 5 t.f_built t.d_built ["_law_d", "_law_at", "_law_many_here"] (sp_built t.c_Yard) := by
  obtain ⟨_, hd_Yard_lay_2, hb_Yard_lay_2⟩ := bD_Yard_lay_2 T
  obtain ⟨_, hd_Yard_lay_3, hb_Yard_lay_3⟩ := bD_Yard_lay_3 T
  obtain ⟨_, hd_Yard_lay_4, hb_Yard_lay_4⟩ := bD_Yard_lay_4 T
  refine T.F_built.ok scBu (fun vs H Q E h => ?_) (fun cdv A outer s H vs Q E hr h => ?_)
  · obtain ⟨_, _, _, _, _, _, rfl, _⟩ := h
    rfl
  · obtain ⟨d, ds, a, n, L, j, rfl, hH, hj, a0, n0, n24, hds, q⟩ := h
    refine ⟨_, (pss_cons (ps_set (i := 3) scBu.nd rfl (Or.inl rfl) (pe_make0 T.mk_Yard (ok_Yard_init T) (hr.mono (by decide)) (by rfl) T.m_Yard (b_Yard_init T) .nil pass0))
      (pss_cons (ps_set (i := 4) scBu.nd rfl (Or.inl rfl) (pe_lst pa_nil))
      (pss_cons (ps_set (i := 5) scBu.nd rfl (Or.inl rfl) (pe_lst pa_nil))
      (pss_cons (ps_set (i := 6) scBu.nd rfl (Or.inl rfl) (pe_lst pa_nil))
      (pss_cons (ps_set (i := 7) scBu.nd rfl (Or.inl rfl) (pe_lst pa_nil))
      (pss_cons (ps_for PassesOwn.never rfl (pi_range1 (by rfl) T.z_range (pa_cons (pv 2) pa_nil)) (pg_name (i := 8) scBu.nd rfl (Or.inl rfl))
        (pss_cons (ps_set (i := 9) scBu.nd rfl (Or.inl rfl) (pe_call (ok_kind T) (hr.mono (by decide)) (by rfl) T.m_kind T.F_kind.kp (b_kind T) .nil pass0 (pa_cons (pe_ix ix_list (pv 0) (pe_op op_add (pv 1) (pe_op op_mul pe_int (pv 8))) (fun _ _ => rfl)) pa_nil)))
          (pss_cons (ps_set (i := 10) scBu.nd rfl (Or.inl rfl) (pe_op op_mod (pe_ix ix_list (pv 0) (pe_op op_add (pe_op op_add (pv 1) (pe_op op_mul pe_int (pv 8))) pe_int) (fun _ _ => rfl)) pe_int))
          (pss_cons (ps_set (i := 11) scBu.nd rfl (Or.inl rfl) (pe_ix ix_list (pv 0) (pe_op op_add (pe_op op_add (pv 1) (pe_op op_mul pe_int (pv 8))) pe_int) (fun _ _ => rfl)))
          (pss_cons (ps_set (i := 12) scBu.nd rfl (Or.inl rfl) (pe_op op_sub pe_int pe_int))
          (pss_cons (ps_if (pt_cmpR op_eq (pv 9) pe_str (nomark _))
            (pss_one (ps_expr (pe_meth (pv 3) T.cl_Yard T.M_Yard_lay (ok_Yard_lay T) (hr.mono (by decide)) hb_Yard_lay_3 hd_Yard_lay_3 pass0 (pa_cons (pv 9) (pa_cons (pv 10) pa_nil)))))
            (pss_one (ps_if (pt_cmpR op_lt (pe_call (ok_many T) (hr.mono (by decide)) (by rfl) T.m_many T.F_many.kp (b_many T) .nil pass0 (pa_cons (pv 9) pa_nil)) pe_int (nomark _))
                (pss_one (ps_expr (pe_meth (pv 3) T.cl_Yard T.M_Yard_lay (ok_Yard_lay T) (hr.mono (by decide)) hb_Yard_lay_2 hd_Yard_lay_2 pass0 (pa_cons (pv 9) pa_nil))))
                (pss_one (ps_if (PW.pt (pw_and (pt_cmpR op_eq (pe_op op_mod (pv 11) pe_int) pe_int (nomark _)) (pw_and1 (pt_cmpR op_gt (pe_callB call_len_seq (by rfl) T.z_len (by rfl) (pa_cons (pv 7) pa_nil)) pe_int (nomark _)))))
                    (pss_cons (ps_set (i := 12) scBu.nd rfl (Or.inl rfl) (pe_op op_mod (pe_op op_fdiv (pv 11) pe_int) (pe_callB call_len_seq (by rfl) T.z_len (by rfl) (pa_cons (pv 7) pa_nil))))
                      (pss_one (ps_expr (pe_meth (pv 3) T.cl_Yard T.M_Yard_lay (ok_Yard_lay T) (hr.mono (by decide)) hb_Yard_lay_4 hd_Yard_lay_4 pass0 (pa_cons (pv 9) (pa_cons pe_int (pa_cons (pv 12) pa_nil)))))))
                    (pss_cons (ps_set (i := 12) scBu.nd rfl (Or.inl rfl) (pe_callB call_len_seq (by rfl) T.z_len (by rfl) (pa_cons (pv 7) pa_nil)))
                      (pss_cons (ps_expr (pe_bm PySem.F.plainAttrs_list PySem.F.slot_list_append PySem.F.type_list_append mt_append (pv 7) (pa_cons pe_int pa_nil)))
                      (pss_one (ps_expr (pe_meth (pv 3) T.cl_Yard T.M_Yard_lay (ok_Yard_lay T) (hr.mono (by decide)) hb_Yard_lay_2 hd_Yard_lay_2 pass0 (pa_cons (pv 9) pa_nil)))))))))))
          (pss_cons (ps_expr (pe_bm PySem.F.plainAttrs_list PySem.F.slot_list_append PySem.F.type_list_append mt_append (pv 4) (pa_cons (pv 9) pa_nil)))
          (pss_cons (ps_expr (pe_bm PySem.F.plainAttrs_list PySem.F.slot_list_append PySem.F.type_list_append mt_append (pv 5) (pa_cons (pv 10) pa_nil)))
          (pss_one (ps_expr (pe_bm PySem.F.plainAttrs_list PySem.F.slot_list_append PySem.F.type_list_append mt_append (pv 6) (pa_cons (pv 12) pa_nil))))))))))))
      (pss_one (ps_ret (pe_tup (pa_cons (pv 3) (pa_cons (pv 4) (pa_cons (pv 5) (pa_cons (pv 6) (pa_cons (pv 7) pa_nil)))))))))))))), ?_⟩
    intro p1 dx1 hp1 hdx1 ne1
    refine ⟨p1, dx1, _, rfl, (hH.alloc hdx1 (.own p1)).alloc (by rw [upd_ne (Ne.symm ne1)]; exact hp1) (.ins t.c_Yard dx1 []), fun H2 A1 e1 h2 => ⟨rfl, ?_⟩⟩
    subst e1
    refine ⟨by decide, fun kk hkk => ?_⟩
    have h3 := h2.alloc hkk (.lst [])
    generalize upd H2 kk _ = H3 at h3 ⊢
    refine ⟨by decide, fun nn hnn => ?_⟩
    have h4 := h3.alloc hnn (.lst [])
    generalize upd H3 nn _ = H4 at h4 ⊢
    refine ⟨by decide, fun rr hrr => ?_⟩
    have h5 := h4.alloc hrr (.lst [])
    generalize upd H4 rr _ = H5 at h5 ⊢
    refine ⟨by decide, fun sd hsd => ?_⟩
    have h6 := Has.comm (X := [(sd, .lst []), (rr, .lst []), (nn, .lst []), (kk, .lst [])]) (Y := yL t.c_Yard A1 y0) (R := L) (h5.alloc hsd (.lst []))
    generalize upd H5 sd _ = H6 at h6 ⊢
    refine ⟨_, rfl, n, rfl, by omega, by omega, for_range (fun i σ H' => ∃ (A1 : YA) (y : YR) (ks : List Kd) (ns rs ss : List Int) (o1 o2 o3 o4 o5 : Option V), Blt y ks ns rs ss ∧ ks.length = i ∧ σ = [some (.ref d), some (.int a), some (.int n), some (.ref A1.p), some (.ref kk), some (.ref nn), some (.ref rr), some (.ref sd), o1, o2, o3, o4, o5] ∧
      Has H' (yL t.c_Yard A1 y ++ ([(sd, .lst (ss.map V.int)), (rr, .lst (rs.map V.int)), (nn, .lst (ns.map V.int)), (kk, .lst (ksV ks))] ++ L))) ⟨_, _, _, _, _, _, _, _, _, _, _, Blt.nil, rfl, rfl, h6⟩ ?_ ?_⟩
    · clear h2 h3 h4 h5 h6
      rintro i σ H6 hi ⟨A1, y, ks, ns, rs, ss, o1, o2, o3, o4, o5, B, lk, rfl, h6⟩
      have i24 : i < 24 := by omega
      have hnl := B.nl
      have hrl := B.rl
      have hsl := B.sl
      have hd1 : SqL K H6 d (ds.map V.int) := SqL.of (h6.get (j + 13) (by simpa [yL] using hj))
      refine ⟨_, rfl, _, rfl, _, rfl, _, _, rfl, rfl, (.inl ⟨by decide, by decide⟩), _, _, rfl, rfl, d, _, _, _, rfl, rfl, hd1, atD (by omega) (by omega), _, _, rfl, h6, fun k H7 h7 => ?_⟩
      have hd2 : SqL K H7 d (ds.map V.int) := SqL.of (h7.get (j + 13) (by simpa [yL] using hj))
      clear h6
      refine ⟨_, rfl, _, rfl, _, rfl, _, _, rfl, rfl, (.inl ⟨by decide, by decide⟩), _, _, rfl, rfl, _, _, rfl, rfl, d, _, _, _, rfl, rfl, hd2, atD (by omega) (by omega), _, _, rfl, rfl, (show (0 : Int) < 10000 by decide), ?_⟩
      refine ⟨_, rfl, _, rfl, _, rfl, _, _, rfl, rfl, (.inl ⟨by decide, by decide⟩), _, _, rfl, rfl, _, _, rfl, rfl, d, _, _, _, rfl, rfl, hd2, atD (by omega) (by omega), ?_⟩
      refine ⟨_, _, rfl, rfl, ?_⟩
      dsimp only
      have z0 := Int.emod_nonneg (ds.getD (a + 3 * (0 + (i : Int)) + 1).toNat 0) (show (10000 : Int) ≠ 0 by decide)
      have z1 := Int.emod_lt_of_pos (ds.getD (a + 3 * (0 + (i : Int)) + 1).toNat 0) (show (0 : Int) < 10000 by decide)
      generalize ds.getD (a + 3 * (0 + (i : Int)) + 1).toNat 0 % 10000 = z at z0 z1 ⊢
      generalize ds.getD (a + 3 * (0 + (i : Int)) + 2).toNat 0 = way
      have hz : 0 ≤ z ∧ z ≤ 9999 := ⟨z0, by omega⟩
      refine ⟨_, rfl, rfl, _, rfl, ?_⟩
      rw [k.isBell]
      refine ifd (fun kb => ?_) (fun kb => ?_)
      · refine ⟨_, rfl, A1.p, A1.dx, _, rfl, h7.get 1 rfl, (fl_m _ _ _).1, _, rfl, _, rfl, A1, y, _, k, z, .non, rfl, h7, B.small (by omega), fun _ => hz, fun _ h => absurd rfl h, fun H9 q9 h9 => ?_⟩
        have kp : k.point = false := by rw [kb]; rfl
        refine ⟨_, rfl, .inl ⟨rfl, _, SqL.of (h9.get 12 rfl)⟩, _, rfl, kk, _, _, rfl, rfl, h9.get 12 rfl, sizeOk (by unfold ksV; rw [List.length_map]; omega), ?_⟩
        have h10 := h9.puti 12 rfl (.lst (ksV ks ++ [.str k.str]))
        refine ⟨_, rfl, .inl ⟨rfl, _, SqL.of (h10.get 11 rfl)⟩, _, rfl, nn, _, _, rfl, rfl, h10.get 11 rfl, sizeOk (by rw [List.length_map]; omega), ?_⟩
        have h11 := h10.puti 11 rfl (.lst (ns.map V.int ++ [.int z]))
        refine ⟨_, rfl, .inl ⟨rfl, _, SqL.of (h11.get 10 rfl)⟩, _, rfl, rr, _, _, rfl, rfl, h11.get 10 rfl, sizeOk (by rw [List.length_map]; omega), ?_⟩
        have h12 := h11.puti 10 rfl (.lst (rs.map V.int ++ [.int (0 - 1)]))
        refine ⟨{ A1 with tr := q9 }, _, ks ++ [k], ns ++ [z], rs ++ [(0 - 1)], ss, _, _, _, _, _, (B.lay k z z (0 - 1) .non ss hz (fun _ => rfl) (fun h => absurd (kp.symm.trans h) (by decide)) (fun _ => ⟨rfl, by decide⟩)), by simp [lk], rfl, ?_⟩
        have e1 : ksV (ks ++ [k]) = ksV ks ++ [.str k.str] := by unfold ksV; rw [List.map_append]; rfl
        rw [e1, List.map_append (l₁ := ns), List.map_append (l₁ := rs)]
        exact h12
      · refine ⟨_, rfl, k, rfl, _, _, rfl, rfl, _, rfl, if2 (fun km => ?_) (fun km => ?_)⟩
        · refine ⟨_, rfl, A1.p, A1.dx, _, rfl, h7.get 1 rfl, (fl_m _ _ _).1, _, rfl, A1, y, _, k, 0, .non, rfl, h7, B.small (by omega), fun h => absurd h kb, fun _ h => absurd rfl h, fun H9 q9 h9 => ?_⟩
          have kp : k.point = false := by cases k <;> first | rfl | (exfalso; revert km; decide)
          refine ⟨_, rfl, .inl ⟨rfl, _, SqL.of (h9.get 12 rfl)⟩, _, rfl, kk, _, _, rfl, rfl, h9.get 12 rfl, sizeOk (by unfold ksV; rw [List.length_map]; omega), ?_⟩
          have h10 := h9.puti 12 rfl (.lst (ksV ks ++ [.str k.str]))
          refine ⟨_, rfl, .inl ⟨rfl, _, SqL.of (h10.get 11 rfl)⟩, _, rfl, nn, _, _, rfl, rfl, h10.get 11 rfl, sizeOk (by rw [List.length_map]; omega), ?_⟩
          have h11 := h10.puti 11 rfl (.lst (ns.map V.int ++ [.int z]))
          refine ⟨_, rfl, .inl ⟨rfl, _, SqL.of (h11.get 10 rfl)⟩, _, rfl, rr, _, _, rfl, rfl, h11.get 10 rfl, sizeOk (by rw [List.length_map]; omega), ?_⟩
          have h12 := h11.puti 10 rfl (.lst (rs.map V.int ++ [.int (0 - 1)]))
          refine ⟨{ A1 with tr := q9 }, _, ks ++ [k], ns ++ [z], rs ++ [(0 - 1)], ss, _, _, _, _, _, (B.lay k z 0 (0 - 1) .non ss hz (fun h => absurd h kb) (fun h => absurd (kp.symm.trans h) (by decide)) (fun _ => ⟨rfl, by decide⟩)), by simp [lk], rfl, ?_⟩
          have e1 : ksV (ks ++ [k]) = ksV ks ++ [.str k.str] := by unfold ksV; rw [List.map_append]; rfl
          rw [e1, List.map_append (l₁ := ns), List.map_append (l₁ := rs)]
          exact h12
        · have kp : k.point = true := by cases k <;> first | rfl | (exfalso; revert km; decide) | exact absurd rfl kb
          have hsd : SqL K H7 sd (ss.map V.int) := SqL.of (h7.get 9 rfl)
          have h8 : Has (upd H7 sd (.lst (ss.map V.int ++ [.int 1]))) (yL t.c_Yard A1 y ++ ([(sd, .lst ((ss ++ [1]).map V.int)), (rr, .lst (rs.map V.int)), (nn, .lst (ns.map V.int)), (kk, .lst (ksV ks))] ++ L)) := by
            rw [List.map_append]
            exact h7.puti 9 rfl (.lst (ss.map V.int ++ [.int 1]))
          refine ⟨_, rfl, _, _, rfl, rfl, (show (0 : Int) < 3 by decide), rfl, _, rfl, if2 (fun _ => ⟨_, rfl, sd, _, rfl, .inl hsd, _, _, rfl, rfl, _, rfl, if2 (fun hs => ?_) (fun hs => ?_)⟩) (fun _ => iteF ?_)⟩
          · have s0 : 0 < ss.length := by
              have := of_decide_eq_true hs
              rw [List.length_map] at this
              omega
            refine ⟨_, rfl, _, _, rfl, rfl, ⟨by decide, by decide⟩, _, rfl, sd, _, rfl, .inl hsd, _, _, rfl, rfl, (show (0 : Int) < ((ss.map V.int).length : Int) by rw [List.length_map]; omega), ?_⟩
            rw [List.length_map]
            dsimp only
            have b0 := Int.emod_nonneg (way / 3) (show ((ss.length : Nat) : Int) ≠ 0 by omega)
            have b1 := Int.emod_lt_of_pos (way / 3) (show (0 : Int) < ((ss.length : Nat) : Int) by omega)
            generalize way / 3 % (ss.length : Int) = bar at b0 b1 ⊢
            refine ⟨_, rfl, A1.p, A1.dx, _, rfl, h7.get 1 rfl, (fl_m _ _ _).1, _, rfl, _, rfl, A1, y, _, k, 0, .int bar, rfl, h7, B.small (by omega), fun h => absurd h kb, fun _ _ => ⟨bar, rfl, b0, by rw [B.sd, List.length_map]; exact b1⟩, fun H9 q9 h9 => ?_⟩
            refine ⟨_, rfl, .inl ⟨rfl, _, SqL.of (h9.get 12 rfl)⟩, _, rfl, kk, _, _, rfl, rfl, h9.get 12 rfl, sizeOk (by unfold ksV; rw [List.length_map]; omega), ?_⟩
            have h10 := h9.puti 12 rfl (.lst (ksV ks ++ [.str k.str]))
            refine ⟨_, rfl, .inl ⟨rfl, _, SqL.of (h10.get 11 rfl)⟩, _, rfl, nn, _, _, rfl, rfl, h10.get 11 rfl, sizeOk (by rw [List.length_map]; omega), ?_⟩
            have h11 := h10.puti 11 rfl (.lst (ns.map V.int ++ [.int z]))
            refine ⟨_, rfl, .inl ⟨rfl, _, SqL.of (h11.get 10 rfl)⟩, _, rfl, rr, _, _, rfl, rfl, h11.get 10 rfl, sizeOk (by rw [List.length_map]; omega), ?_⟩
            have h12 := h11.puti 10 rfl (.lst (rs.map V.int ++ [.int bar]))
            refine ⟨{ A1 with tr := q9 }, _, ks ++ [k], ns ++ [z], rs ++ [bar], ss, _, _, _, _, _, (B.lay k z 0 bar (.int bar) ss hz (fun h => absurd h kb) (fun _ => .inr ⟨rfl, b0, b1, rfl⟩) (fun h => absurd (kp.symm.trans h) (by decide))), by simp [lk], rfl, ?_⟩
            have e1 : ksV (ks ++ [k]) = ksV ks ++ [.str k.str] := by unfold ksV; rw [List.map_append]; rfl
            rw [e1, List.map_append (l₁ := ns), List.map_append (l₁ := rs)]
            exact h12
          all_goals
            refine ⟨_, rfl, sd, _, rfl, .inl hsd, ?_⟩
            refine ⟨_, rfl, .inl ⟨rfl, _, hsd⟩, sd, _, _, rfl, rfl, h7.get 9 rfl, sizeOk (by rw [List.length_map]; omega), ?_⟩
            refine ⟨_, rfl, A1.p, A1.dx, _, rfl, h8.get 1 rfl, (fl_m _ _ _).1, _, rfl, A1, y, _, k, 0, .non, rfl, h8, B.small (by omega), fun h => absurd h kb, fun _ h => absurd rfl h, fun H9 q9 h9 => ?_⟩
            refine ⟨_, rfl, .inl ⟨rfl, _, SqL.of (h9.get 12 rfl)⟩, _, rfl, kk, _, _, rfl, rfl, h9.get 12 rfl, sizeOk (by unfold ksV; rw [List.length_map]; omega), ?_⟩
            have h10 := h9.puti 12 rfl (.lst (ksV ks ++ [.str k.str]))
            refine ⟨_, rfl, .inl ⟨rfl, _, SqL.of (h10.get 11 rfl)⟩, _, rfl, nn, _, _, rfl, rfl, h10.get 11 rfl, sizeOk (by rw [List.length_map]; omega), ?_⟩
            have h11 := h10.puti 11 rfl (.lst (ns.map V.int ++ [.int z]))
            refine ⟨_, rfl, .inl ⟨rfl, _, SqL.of (h11.get 10 rfl)⟩, _, rfl, rr, _, _, rfl, rfl, h11.get 10 rfl, sizeOk (by rw [List.length_map]; omega), ?_⟩
            have h12 := h11.puti 10 rfl (.lst (rs.map V.int ++ [.int (((ss.map V.int).length : Int))]))
            refine ⟨{ A1 with tr := q9 }, _, ks ++ [k], ns ++ [z], rs ++ [(((ss.map V.int).length : Int))], (ss ++ [1]), _, _, _, _, _, (B.lay k z 0 (((ss.map V.int).length : Int)) .non (ss ++ [1]) hz (fun h => absurd h kb) (fun _ => .inl ⟨rfl, by rw [List.length_map], rfl⟩) (fun h => absurd (kp.symm.trans h) (by decide))), by simp [lk], rfl, ?_⟩
            have e1 : ksV (ks ++ [k]) = ksV ks ++ [.str k.str] := by unfold ksV; rw [List.map_append]; rfl
            rw [e1, List.map_append (l₁ := ns), List.map_append (l₁ := rs)]
            exact h12
    · rintro σ H6 ⟨A1, y, ks, ns, rs, ss, o1, o2, o3, o4, o5, B, lk, rfl, h6⟩
      refine ⟨_, rfl, _, rfl, _, rfl, _, rfl, _, rfl, (show 5 ≤ sizeLine by decide), fun tp htp => ?_⟩
      exact q _ A1 y ks ns rs ss tp sd rr nn kk B (by omega) (h6.alloc htp _)
end

/-- the ends of the pieces, in their order -/
def endsL (ks : List Kd) : List (Int × Int) := ks.zipIdx.flatMap fun p => (List.range p.1.many.toNat).map fun e : Nat => ((p.2 : Int), (e : Int))
theorem endsL_snoc (ks : List Kd) (k : Kd) : endsL (ks ++ [k]) = endsL ks ++ (List.range k.many.toNat).map fun e : Nat => ((ks.length : Int), (e : Int)) := by
  unfold endsL
  rw [List.zipIdx_append, List.flatMap_append]
  simp
def esK (es : List (Addr × Int × Int)) : Kn := es.map fun x => (x.1, HO.tup [.int x.2.1, .int x.2.2])
def esV (es : List (Addr × Int × Int)) : List V := es.map fun x => V.ref x.1
theorem endsL_le (ks : List Kd) : (endsL ks).length ≤ 3 * ks.length := by
  unfold endsL
  have : ∀ (l : List (Kd × Nat)), (l.flatMap fun p => (List.range p.1.many.toNat).map fun e : Nat => ((p.2 : Int), (e : Int))).length ≤ 3 * l.length := by
    intro l
    induction l with
    | nil => simp
    | cons p l ih =>
      rw [List.flatMap_cons, List.length_append, List.length_map, List.length_range, List.length_cons]
      have : p.1.many.toNat ≤ 3 := by cases p.1 <;> decide
      omega
  have h := this ks.zipIdx
  rw [List.length_zipIdx] at h
  exact h
theorem endsL_there {ks : List Kd} {n e : Int} (h : (n, e) ∈ endsL ks) : ∃ (i : Nat) (k : Kd), n = i ∧ ks[i]? = some k ∧ 0 ≤ e ∧ e < k.many := by
  unfold endsL at h
  obtain ⟨p, hp, hq⟩ := List.mem_flatMap.mp h
  obtain ⟨x, hx, he⟩ := List.mem_map.mp hq
  rw [List.mem_range] at hx
  cases he
  refine ⟨p.2, p.1, rfl, ?_, by omega, by omega⟩
  have := List.mem_zipIdx_iff_getElem?.mp hp
  simpa using this
/-- ends: a new list of new pairs -/
def sp_ends : Sp := fun vs H Q _ => ∃ (kk : Addr) (ks : List Kd) (L : Kn) (j : Nat), vs = [.ref kk] ∧ Has H L ∧ L[j]? = some (kk, .lst (ksV ks)) ∧ ks.length ≤ 1000 ∧
  ∀ H' (el : Addr) (es : List (Addr × Int × Int)), es.map (·.2) = endsL ks → Has H' ((el, .lst (esV es)) :: (esK es ++ L)) → Q (.ref el) H'
section
variable {P : Program} {w : World} {K : PySem.W.Frag} {mg : Str → Option Value} {base : Heap} {t : Adr}
theorem scEn : FnScope ["_law_kinds_here", "_law_ends_here", "_law_piece", "_law_kind_here", "_law_place"] ["_law_kinds_here"] (defScope s_ends) := ⟨rfl, rfl, rfl, by decide +kernel, rfl, by decide +kernel, by decide +kernel⟩
theorem ok_ends (T : Txt K mg t) : FnOk P w K mg base CX0 2 t.f_ends t.d_ends ["_law_kinds_here"] sp_ends := by
  refine T.F_ends.ok scEn (fun vs H Q E h => ?_) (fun cdv A outer s H vs Q E hr h => ?_)
  · obtain ⟨_, _, _, _, rfl, _⟩ := h
    rfl
  · obtain ⟨kk, ks, L, j, rfl, hH, hj, hk, q⟩ := h
    refine ⟨_, (pss_cons (ps_set (i := 1) scEn.nd rfl (Or.inl rfl) (pe_lst pa_nil))
      (pss_cons (ps_for PassesOwn.never rfl (pi_enum (by rfl) T.z_enumerate (pa_cons (pv 0) pa_nil)) (pg_tup rfl (pgs_cons (pg_name (i := 2) scEn.nd rfl (Or.inl rfl)) (pgs_cons (pg_name (i := 3) scEn.nd rfl (Or.inl rfl)) pgs_nil)))
        (pss_one (ps_for PassesOwn.never rfl (pi_range1 (by rfl) T.z_range (pa_cons (pe_call (ok_many T) (hr.mono (by decide)) (by rfl) T.m_many T.F_many.kp (b_many T) .nil pass0 (pa_cons (pv 3) pa_nil)) pa_nil)) (pg_name (i := 4) scEn.nd rfl (Or.inl rfl))
            (pss_one (ps_expr (pe_bm PySem.F.plainAttrs_list PySem.F.slot_list_append PySem.F.type_list_append mt_append (pv 1) (pa_cons (pe_tup (pa_cons (pv 2) (pa_cons (pv 4) pa_nil))) pa_nil)))))))
      (pss_one (ps_ret (pv 1))))), ?_⟩
    refine ⟨by decide, fun el hel => ?_⟩
    have h1 := hH.alloc hel (.lst [])
    generalize upd H el _ = H1 at h1 ⊢
    have gk : ∀ {H : Hp} {x : HO} {M : Kn}, Has H ((el, x) :: (M ++ L)) → SqL K H kk (ksV ks) := fun {H x M} h => SqL.of (h.get (M.length + j + 1) (by
      rw [List.getElem?_cons_succ, List.getElem?_append_right (by omega), show M.length + j - M.length = j by omega]; exact hj))
    refine ⟨_, rfl, kk, rfl, ⟨_, gk (M := []) h1⟩, for_enum (xs := ksV ks) (fun i σ H' => ∃ (es : List (Addr × Int × Int)) (o1 o2 o3 : Option V), es.map (·.2) = endsL (ks.take i) ∧ σ = [some (.ref kk), some (.ref el), o1, o2, o3] ∧ Has H' ((el, .lst (esV es)) :: (esK es ++ L)))
      ⟨[], _, _, _, rfl, rfl, h1⟩ (fun i σ H' _ ⟨es, _, _, _, _, _, h⟩ => gk h) ?_ ?_⟩
    · rintro i x σ H2 p hx ⟨es, o1, o2, o3, hes, rfl, h2⟩ hp
      have hi : i < ks.length := by
        have := (List.getElem?_eq_some_iff.mp hx).1
        unfold ksV at this
        rw [List.length_map] at this; exact this
      have ex : x = .str (ks[i]).str := by
        unfold ksV at hx
        rw [List.getElem?_map, List.getElem?_eq_getElem hi] at hx
        exact (Option.some.inj hx).symm
      subst ex
      have h3 := h2.alloc hp (.tup [.int i, .str (ks[i]).str])
      refine ⟨p, _, rfl, SqT.of (h3.get 0 rfl), rfl, _, _, rfl, _, _, rfl, rfl, ?_⟩
      have h4 := h3.tail
      generalize upd H2 p _ = H3 at h4 ⊢
      clear h2 h3 hp
      have hm : 1 ≤ (ks[i]).many ∧ (ks[i]).many ≤ 3 := by cases ks[i] <;> decide
      have hti : (ks.take i).length = i := by rw [List.length_take]; omega
      have hen : (endsL (ks.take i)).length ≤ 3000 := Nat.le_trans (endsL_le _) (by omega)
      refine ⟨_, rfl, ks[i], rfl, _, rfl, by omega, by omega, for_range (fun e σ H' => ∃ (es : List (Addr × Int × Int)) (o3 : Option V), es.map (·.2) = endsL (ks.take i) ++ (List.range e).map (fun e : Nat => ((i : Int), (e : Int))) ∧ σ = [some (.ref kk), some (.ref el), some (.int i), some (.str (ks[i]).str), o3] ∧ Has H' ((el, .lst (esV es)) :: (esK es ++ L)))
        ⟨es, _, by rw [hes]; simp, rfl, h4⟩ ?_ ?_⟩
      · clear h4 hes es o3
        rintro e σ H4 he ⟨es, o3, hes, rfl, h4⟩
        have hle : es.length ≤ 3003 := by
          have := congrArg List.length hes
          rw [List.length_map, List.length_append, List.length_map, List.length_range] at this
          omega
        refine ⟨_, rfl, .inl ⟨rfl, _, SqL.of (h4.get 0 rfl)⟩, _, rfl, _, rfl, (show 2 ≤ sizeLine by decide), fun b hb => ?_⟩
        have h5 := h4.alloc hb (.tup [.int i, .int (0 + e)])
        refine ⟨el, _, _, rfl, rfl, h5.get 1 rfl, sizeOk (by unfold esV; rw [List.length_map]; omega), ?_⟩
        have h6 := (h5.puti 1 rfl (.lst (esV es ++ [.ref b]))).swap2.perm (List.Perm.cons _ (List.perm_append_comm_assoc [_] (esK es) L))
        refine ⟨es ++ [(b, (i : Int), 0 + (e : Int))], _, ?_, rfl, ?_⟩
        · rw [List.map_append, hes, List.range_succ, List.map_append, List.append_assoc]
          simp
        · have e1 : esV (es ++ [(b, (i : Int), 0 + (e : Int))]) = esV es ++ [.ref b] := by unfold esV; rw [List.map_append]; rfl
          have e2 : esK (es ++ [(b, (i : Int), 0 + (e : Int))]) ++ L = esK es ++ ([(b, .tup [.int i, .int (0 + e)])] ++ L) := by unfold esK; rw [List.map_append, List.append_assoc]; rfl
          rw [e1, e2]
          exact h6
      · rintro σ H4 ⟨es, o3, hes, rfl, h4⟩
        refine ⟨es, _, _, _, ?_, rfl, h4⟩
        rw [hes, List.take_succ, List.getElem?_eq_getElem hi]
        show _ = endsL (ks.take i ++ [ks[i]])
        rw [endsL_snoc, hti]
    · rintro σ H2 ⟨es, o1, o2, o3, hes, rfl, h2⟩
      refine ⟨_, rfl, ?_⟩
      refine q _ el es ?_ h2
      rw [hes]
      unfold ksV
      rw [List.length_map, List.take_length]
end

theorem all_true (n : Nat) : (List.replicate n true).all id = true := by induction n with | zero => rfl | succ n ih => rw [List.replicate_succ, List.all_cons, ih]; rfl
/-- is_end: of the ends that the laws compare -/
def sp_is_end : Sp := fun vs H Q _ => (vs = [.non, .non] ∧ Q (.bl true) H) ∨ ∃ (a b : Addr) (n e : Int), vs = [.ref a, .ref b] ∧ H a = some (.tup [.int n, .int e]) ∧ H b = some (.tup [.int n, .int e]) ∧ Q (.bl true) H
theorem esK_get {es : List (Addr × Int × Int)} {i : Nat} {x : Addr × Int × Int} (L : Kn) (h : es[i]? = some x) : (esK es ++ L)[i]? = some (x.1, .tup [.int x.2.1, .int x.2.2]) := by
  have hi := (List.getElem?_eq_some_iff.mp h).1
  rw [List.getElem?_append_left (by unfold esK; rw [List.length_map]; exact hi)]
  unfold esK
  rw [List.getElem?_map, h]
  rfl
theorem esV_get {es : List (Addr × Int × Int)} {i : Nat} {x : Addr × Int × Int} (h : es[i]? = some x) : (esV es)[i]? = some (.ref x.1) := by
  unfold esV
  rw [List.getElem?_map, h]
  rfl
section
variable {P : Program} {w : World} {K : PySem.W.Frag} {mg : Str → Option Value} {base : Heap} {t : Adr}
theorem scIe : FnScope ["_law_found", "_law_due"] ["_law_found", "_law_due"] (defScope s_is_end) := ⟨rfl, rfl, rfl, by decide +kernel, rfl, by decide +kernel, by decide +kernel⟩
theorem ok_is_end (T : Txt K mg t) : FnOk P w K mg base CX0 3 t.f_is_end t.d_is_end ["_law_found", "_law_due"] sp_is_end := by
  refine T.F_is_end.ok scIe (fun vs H Q E h => ?_) (fun cdv A outer s H vs Q E hr h => ?_)
  · rcases h with ⟨rfl, _⟩ | ⟨_, _, _, _, rfl, _⟩ <;> rfl
  · rcases h with ⟨rfl, q⟩ | ⟨a, b, n, e, rfl, ga, gb, q⟩
    all_goals refine ⟨_, (pss_cons (ps_if (pt_cmpR op_isN (pv 1) pe_non (nomark _))
        (pss_one (ps_ret (pe_cmpR op_isN (pv 0) pe_non (nomark _))))
        pss_nil)
      (pss_cons (ps_if (PW.pt (pw_or (pt_not (pt_val (pe_callB call_isi (by rfl) T.z_isinstance (by rfl) (pa_cons (pv 0) (pa_cons (pe_bltn (v := .ty "tuple") (by rfl) T.z_tuple (by rfl) rfl) pa_nil))))) (pw_or1 (pt_cmpR op_ne (pe_callB call_len_seq (by rfl) T.z_len (by rfl) (pa_cons (pv 0) pa_nil)) pe_int (nomark _)))))
        (pss_one (ps_ret pe_bl))
        pss_nil)
      (pss_one (ps_ret (pe_and (pe_call (ok_is T) (hr.mono (by decide)) (by rfl) T.m_is T.F_is.kp (b_is T) .nil pass0 (pa_cons (pe_ix ix_tup (pv 0) pe_int (fun _ _ => rfl)) (pa_cons (pe_ix ix_tup (pv 1) pe_int (fun _ _ => rfl)) pa_nil))) (pe_one (pe_call (ok_is T) (hr.mono (by decide)) (by rfl) T.m_is T.F_is.kp (b_is T) .nil pass0 (pa_cons (pe_ix ix_tup (pv 0) pe_int (fun _ _ => rfl)) (pa_cons (pe_ix ix_tup (pv 1) pe_int (fun _ _ => rfl)) pa_nil))))))))), ?_⟩
    · refine ⟨_, rfl, rfl, _, rfl, iteT ?_⟩
      exact ⟨_, rfl, rfl, q⟩
    · refine ⟨_, rfl, rfl, _, rfl, iteF ?_⟩
      refine ⟨_, rfl, _, _, _, _, rfl, .tup ga, kit_tt K, _, rfl, iteF ?_⟩
      refine ⟨_, rfl, a, _, rfl, .inr (SqT.of ga), rfl, _, rfl, iteF ?_⟩
      refine ⟨_, rfl, a, _, _, _, rfl, rfl, SqT.of ga, rfl, _, rfl, b, _, _, _, rfl, rfl, SqT.of gb, rfl, _, _, rfl, ?_⟩
      rw [decide_eq_true rfl]
      refine ⟨_, rfl, iteT ?_⟩
      refine ⟨_, rfl, a, _, _, _, rfl, rfl, SqT.of ga, rfl, _, rfl, b, _, _, _, rfl, rfl, SqT.of gb, rfl, _, _, rfl, ?_⟩
      rw [decide_eq_true rfl]
      exact q
end

end P


set_option Elab.async false
set_option linter.all false
set_option maxRecDepth 100000
set_option maxHeartbeats 4000000
namespace P
open PySem L2

theorem eraseIdx_mapL {α β : Type} (f : α → β) : ∀ (l : List α) (k : Nat), (l.map f).eraseIdx k = (l.eraseIdx k).map f
  | [], _ => rfl
  | _ :: _, 0 => rfl
  | a :: l, k + 1 => by
    show f a :: (l.map f).eraseIdx k = f a :: (l.eraseIdx k).map f
    rw [eraseIdx_mapL f l k]
theorem eraseIdx_permL {α : Type} : ∀ (l : List α) (k : Nat) (h : k < l.length), (l[k] :: l.eraseIdx k).Perm l
  | [], k, h => absurd h (Nat.not_lt_zero k)
  | a :: l, 0, h => List.Perm.refl _
  | a :: l, k + 1, h => (List.Perm.swap _ _ _).trans (List.Perm.cons a (eraseIdx_permL l k (by simpa using h)))
theorem endsL_nodup (ks : List Kd) : (endsL ks).Nodup := by
  have H : ∀ i, i ≤ ks.length → (endsL (ks.take i)).Nodup := by
    intro i
    induction i with
    | zero => intro _; exact List.Pairwise.nil
    | succ i ih =>
      intro hi
      have hlt : i < ks.length := by omega
      rw [List.take_succ, List.getElem?_eq_getElem hlt]
      show (endsL (ks.take i ++ [ks[i]])).Nodup
      rw [endsL_snoc]
      refine List.nodup_append.mpr ⟨ih (by omega), ?_, ?_⟩
      · refine List.Pairwise.map _ (fun a b hab hc => hab ?_) List.nodup_range
        have := congrArg Prod.snd hc
        exact Int.ofNat.inj this
      · intro a ha b hb e
        subst e
        obtain ⟨x, _, hx⟩ := List.mem_map.mp hb
        obtain ⟨j, k, e1, e2, _⟩ := endsL_there (n := a.1) (e := a.2) ha
        have : a.1 = ((ks.take i).length : Int) := by rw [← hx]
        have hj := (List.getElem?_eq_some_iff.mp e2).1
        rw [List.length_take] at this hj
        omega
  have := H ks.length (Nat.le_refl _)
  rwa [List.take_length] at this
/-- the mate that a dict of ends tells -/
def mfOf (es : List En) (m : List (List Key × V)) (n e : Int) : Option En := match valV m (kE n e) with | some (.ref b) => es.find? fun x => decide (x.1 = b) | _ => none
def MIn (es : List En) (m : List (List Key × V)) : Prop := ∀ k v, valV m k = some v → ∃ z ∈ es, v = .ref z.1
theorem mfOf_val {es : List En} {m : List (List Key × V)} (h : MIn es m) (n e : Int) : valV m (kE n e) = (mfOf es m n e).map fun z => V.ref z.1 := by
  unfold mfOf
  cases hv : valV m (kE n e) with
  | none => rfl
  | some v =>
    obtain ⟨z, hz, rfl⟩ := h _ _ hv
    dsimp only
    cases hf : es.find? fun x => decide (x.1 = z.1) with
    | none => exact absurd (List.find?_eq_none.mp hf z hz) (by simp)
    | some x => have := List.find?_some hf; rw [Option.map_some, of_decide_eq_true this]
theorem mfOf_mem {es : List En} {m : List (List Key × V)} {n e : Int} {z : En} (h : mfOf es m n e = some z) : z ∈ es := by
  unfold mfOf at h
  split at h
  · exact List.mem_of_find?_eq_some h
  · cases h
theorem MIn.nil (es : List En) : MIn es [] := fun k v h => by cases h
theorem MIn.put {es : List En} {m : List (List Key × V)} (h : MIn es m) {x : En} (hx : x ∈ es) (k : List Key) : MIn es (putK m k (.ref x.1)) := fun j v hv => by
  rw [valV_put] at hv
  split at hv
  · exact ⟨x, hx, (Option.some.inj hv).symm⟩
  · exact h j v hv
theorem MIn.mono {es es' : List En} {m : List (List Key × V)} (h : MIn es m) (s : ∀ x ∈ es, x ∈ es') : MIn es' m := fun k v hv => let ⟨z, hz, e⟩ := h k v hv; ⟨z, s z hz, e⟩
def wOf (ks : List Kd) (ns rs : List Int) (es : List En) (m : List (List Key × V)) : Wd := ⟨fun n => if 0 ≤ n then ks[n.toNat]? else none, fun n => ns.getD n.toNat 0, fun n => rs.getD n.toNat 0, mfOf es m⟩
theorem wOf_k {ks : List Kd} {ns rs : List Int} {es : List En} {m : List (List Key × V)} {n : Int} {k : Kd} (h : (wOf ks ns rs es m).kf n = some k) : ∃ i : Nat, n = i ∧ ks[i]? = some k := by
  unfold wOf at h
  dsimp only at h
  split at h
  · exact ⟨n.toNat, by omega, h⟩
  · cases h
theorem wOf_kn {ks : List Kd} {ns rs : List Int} {es : List En} {m : List (List Key × V)} (i : Nat) : (wOf ks ns rs es m).kf i = ks[i]? := by
  unfold wOf; dsimp only; rw [if_pos (by omega), Int.toNat_natCast]
theorem wOf_ok {ks : List Kd} {ns rs : List Int} {es : List En} {m : List (List Key × V)} {z : En} (h : z.2 ∈ endsL ks) : (wOf ks ns rs es m).ok z := by
  obtain ⟨i, k, e1, e2, e3, e4⟩ := endsL_there (n := z.2.1) (e := z.2.2) h
  exact ⟨k, by rw [e1, wOf_kn]; exact e2, e3, e4⟩
/-- a built yard, linked, thrown, its engine put -/
theorem Rep.of {y y' : YR} {ks : List Kd} {ns rs ss ss' : List Int} {es : List En} {m : List (List Key × V)} {u : Option En} (B : Blt y ks ns rs ss) (hm : MIn es m) (he : ∀ x ∈ es, x.2 ∈ endsL ks) (hl : ss'.length = ss.length) (h12 : ∀ x ∈ ss', x = 1 ∨ x = 2) (hu : ∀ z, u = some z → z.2 ∈ endsL ks)
    (e1 : y'.kinds = y.kinds) (e2 : y'.notes = y.notes) (e3 : y'.rods = y.rods) (e4 : y'.mates = m) (e5 : y'.sides = ss'.map V.int) (e6 : y'.eng = enV u) (e7 : y'.rung = []) :
    Rep (wOf ks ns rs es m) ⟨ss', u, []⟩ y' := by
  refine ⟨fun n k h => ?_, fun n k h => ?_, fun n k h => ?_, fun n k h hp => ?_, e5, h12, fun n e => by rw [e4]; exact mfOf_val hm n e, fun n e z h => wOf_ok (he z (mfOf_mem h)), e6, fun z hz => wOf_ok (hu z hz), e7⟩
  all_goals obtain ⟨i, rfl, hk⟩ := wOf_k h
  · rw [e1, B.kd, valV_kvOf, hk]; rfl
  · rw [e2, B.no, hk]
    by_cases c : k = .bell
    · rw [if_pos (by rw [c]), if_pos c]; unfold wOf; dsimp only; rw [Int.toNat_natCast]
    · rw [if_neg (fun z => c (Option.some.inj z)), if_neg c]
  · rw [e3, B.ro, hk]
    by_cases c : k.point = true
    · rw [if_pos (by simp [c]), if_pos c]; unfold wOf; dsimp only; rw [Int.toNat_natCast]
    · rw [if_neg (by simp [c]), if_neg c]
  · have := B.rr i (by rw [hk]; simp [hp])
    show 0 ≤ rs.getD (i : Int).toNat 0 ∧ rs.getD (i : Int).toNat 0 < (ss'.length : Int)
    rw [Int.toNat_natCast, hl]
    exact this
theorem en_pool {es : List En} {M R : Kn} {z : En} (h : z ∈ es) : ∃ j : Nat, (M ++ (esK es ++ R))[j]? = some (z.1, HO.tup [.int z.2.1, .int z.2.2]) := by
  obtain ⟨i, hi⟩ := List.mem_iff_getElem?.mp h
  exact ⟨M.length + i, by rw [List.getElem?_append_right (by omega), show M.length + i - M.length = i by omega]; exact esK_get R hi⟩
theorem endsL_th {y : YR} {ks : List Kd} {ns rs ss : List Int} (B : Blt y ks ns rs ss) {y' : YR} (e : y'.kinds = y.kinds) {p : Int × Int} (h : p ∈ endsL ks) : There y' p.1 p.2 := by
  obtain ⟨i, k, e1, e2, e3, e4⟩ := endsL_there (n := p.1) (e := p.2) h
  exact ⟨k, by rw [e, e1, B.kd, valV_kvOf, e2]; rfl, e3, e4⟩
theorem seqIx {n : Nat} {x : Int} (h : 0 < n) : ∃ k : Nat, k < n ∧ x % (n : Int) = k ∧ seqIndex? (x % (n : Int)) n = some k ∧ -(2 ^ 63) ≤ x % (n : Int) ∧ (n ≤ 1000000 → x % (n : Int) < 2 ^ 63) := by
  have b0 := Int.emod_nonneg x (show ((n : Nat) : Int) ≠ 0 by omega)
  have b1 := Int.emod_lt_of_pos x (show (0 : Int) < ((n : Nat) : Int) by omega)
  refine ⟨(x % (n : Int)).toNat, by omega, by omega, ?_, by omega, fun hn => by omega⟩
  generalize x % (n : Int) = i at b0 b1
  unfold seqIndex?
  dsimp only
  rw [if_neg (show ¬ i < 0 by omega), if_pos (show (decide (0 ≤ i) && decide (i < (n : Int))) = true by rw [decide_eq_true b0, decide_eq_true b1]; rfl)]
theorem putK_keys {κ : Type} [DecidableEq κ] {kvs : List (κ × V)} {k : κ} {v : V} {x : κ} (h : x ∈ (putK kvs k v).map (·.1)) : x ∈ kvs.map (·.1) ∨ x = k := by
  unfold putK at h
  split at h
  · left
    rw [List.map_map] at h
    obtain ⟨p, hp, e⟩ := List.mem_map.mp h
    refine List.mem_map.mpr ⟨p, hp, ?_⟩
    rw [← e]
    show p.1 = (if p.1 = k then (p.1, v) else p).1
    split <;> rfl
  · rw [List.map_append, List.mem_append] at h
    rcases h with h | h
    · exact .inl h
    · right; simpa using h
theorem ek_put {ks : List Kd} {m : List (List Key × V)} (h : ∀ k ∈ m.map (·.1), ∃ p ∈ endsL ks, k = kE p.1 p.2) {k0 : List Key} (h0 : ∃ p ∈ endsL ks, k0 = kE p.1 p.2) (v : V) : ∀ k ∈ (putK m k0 v).map (·.1), ∃ p ∈ endsL ks, k = kE p.1 p.2 := fun k hk => by
  rcases putK_keys hk with hk | rfl
  · exact h k hk
  · exact h0
theorem ek_end {ks : List Kd} (hk : ks.length ≤ 50) {p : Int × Int} (h : p ∈ endsL ks) : ∃ n e : Nat, n < 50 ∧ e < 3 ∧ kE p.1 p.2 = kE n e := by
  obtain ⟨i, k, e1, e2, e3, e4⟩ := endsL_there (n := p.1) (e := p.2) h
  have il := (List.getElem?_eq_some_iff.mp e2).1
  have km : k.many ≤ 3 := by cases k <;> decide
  refine ⟨i, p.2.toNat, by omega, by omega, ?_⟩
  rw [e1, show ((p.2.toNat : Nat) : Int) = p.2 by omega]
def sp_linked (C : Addr) : Sp := fun vs H Q _ => ∃ (A : YA) (y : YR) (L : Kn) (kk d : Addr) (ks : List Kd) (ns rs ss ds : List Int) (a n : Int) (jk jd : Nat), vs = [.ref A.p, .ref kk, .ref d, .int a, .int n] ∧ Has H (yL C A y ++ L) ∧ Blt y ks ns rs ss ∧ L[jk]? = some (kk, .lst (ksV ks)) ∧ L[jd]? = some (d, .lst (ds.map V.int)) ∧ ks.length ≤ 1000 ∧ 0 ≤ a ∧ 0 ≤ n ∧ n ≤ 10000 ∧ a + 2 * n ≤ ds.length ∧
  ∀ (H' : Hp) (q mh : Addr) (m : List (List Key × V)) (es : List En), MIn es m → es.map (·.2) = endsL ks → m.length ≤ 2 * n.toNat → (∀ k ∈ m.map (·.1), ∃ p ∈ endsL ks, k = kE p.1 p.2) → Has H' (yL C { A with tr := q } { y with mates := m, trail := [] } ++ ((mh, .dT m) :: (esK es ++ L))) → Q (.ref mh) H'
def sp_thrown (C : Addr) : Sp := fun vs H Q _ => ∃ (A : YA) (y : YR) (L : Kn) (sd d : Addr) (ss ds : List Int) (a : Int) (jd : Nat), vs = [.ref A.p, .ref sd, .ref d, .int a] ∧ Has H (yL C A y ++ ((sd, .lst (ss.map V.int)) :: L)) ∧ y.sides = ss.map V.int ∧ y.trail = [] ∧ L[jd]? = some (d, .lst (ds.map V.int)) ∧ 0 ≤ a ∧ a + ss.length ≤ ds.length ∧ ss.length ≤ 10000 ∧
  ∀ (H' : Hp) (q : Addr) (ss' : List Int), ss'.length = ss.length → (∀ x ∈ ss', x = 1 ∨ x = 2) → Has H' (yL C { A with tr := q } { y with sides := ss'.map V.int, trail := [] } ++ ((sd, .lst (ss'.map V.int)) :: L)) → Q .non H'
def sp_links : Sp := fun vs H Q _ => ∃ x : Int, vs = [.int x] ∧ ∀ n : Int, 0 ≤ n → n ≤ 40 → Q (.int n) H
section
variable {P : Program} {w : World} {K : PySem.W.Frag} {mg : Str → Option Value} {base : Heap} {t : Adr}
theorem scLs : FnScope ["_law_draw"] ["_law_draw"] (defScope s_links) := ⟨rfl, rfl, rfl, by decide +kernel, rfl, by decide +kernel, by decide +kernel⟩
theorem ok_links (T : Txt K mg t) : FnOk P w K mg base CX0 1 t.f_links t.d_links ["_law_draw"] sp_links := by
  refine T.F_links.ok scLs (fun vs H Q E h => ?_) (fun cdv A outer s H vs Q E hr h => ?_)
  · obtain ⟨_, rfl, _⟩ := h
    rfl
  · obtain ⟨x, rfl, q⟩ := h
    refine ⟨_, (pss_cons (ps_if (pt_cmpR op_gt (pe_op op_mod (pv 0) pe_int) pe_int (nomark _))
        (pss_one (ps_ret pe_int))
        pss_nil)
      (pss_one (ps_ret (pe_op op_mod (pe_op op_fdiv (pv 0) pe_int) pe_int)))), ?_⟩
    refine ⟨_, rfl, _, _, rfl, rfl, (show (0 : Int) < 3 by decide), _, _, rfl, rfl, _, rfl, if2 (fun _ => ?_) (fun _ => ?_)⟩
    · exact q 40 (by decide) (by decide)
    · refine ⟨_, rfl, _, _, rfl, rfl, ⟨by decide, by decide⟩, _, _, rfl, rfl, (show (0 : Int) < 40 by decide), ?_⟩
      have l0 := Int.emod_nonneg (x / 3) (show (40 : Int) ≠ 0 by decide)
      have l1 := Int.emod_lt_of_pos (x / 3) (show (0 : Int) < 40 by decide)
      exact q _ (by omega) (by omega)
theorem scLd : FnScope ["_law_yard", "_law_kinds_here", "_law_d", "_law_at", "_law_many_here", "_law_free", "_law_mates", "_law_turn", "_law_one", "_law_other"] ["_law_yard", "_law_kinds_here", "_law_d", "_law_at", "_law_many_here"] (defScope s_linked) := ⟨rfl, rfl, rfl, by decide +kernel, rfl, by decide +kernel, by decide +kernel⟩
theorem ok_linked (T : Txt K mg t) : FnOk P w K mg base CX0 5 t.f_linked t.d_linked ["_law_yard", "_law_kinds_here", "_law_d", "_law_at", "_law_many_here"] (sp_linked t.c_Yard) := by
  refine T.F_linked.ok scLd (fun vs H Q E h => ?_) (fun cdv A outer s H vs Q E hr h => ?_)
  · obtain ⟨_, _, _, _, _, _, _, _, _, _, _, _, _, _, rfl, _⟩ := h
    rfl
  · obtain ⟨A, y, L, kk, d, ks, ns, rs, ss, ds, a, n, jk, jd, rfl, hH, B, hjk, hjd, kl, a0, n0, n1, hds, q⟩ := h
    have hu := hu_of hr
    refine ⟨_, (pss_cons (ps_set (i := 5) scLd.nd rfl (Or.inl rfl) (pe_call (ok_ends T) (hr.mono (by decide)) (by rfl) T.m_ends T.F_ends.kp (b_ends T) .nil pass0 (pa_cons (pv 1) pa_nil)))
      (pss_cons (ps_set (i := 6) scLd.nd rfl (Or.inl rfl) pe_dnewT)
      (pss_cons (ps_for PassesOwn.never rfl (pi_range1 (by rfl) T.z_range (pa_cons (pv 4) pa_nil)) (pg_name (i := 7) scLd.nd rfl (Or.inl rfl))
        (pss_one (ps_if (pt_cmpR op_gt (pe_callB call_len_seq (by rfl) T.z_len (by rfl) (pa_cons (pv 5) pa_nil)) pe_int (nomark _))
            (pss_cons (ps_set (i := 8) scLd.nd rfl (Or.inl rfl) (pe_bm PySem.F.plainAttrs_list PySem.F.slot_list_pop PySem.F.type_list_pop mt_popAt (pv 5) (pa_cons (pe_op op_mod (pe_ix ix_list (pv 2) (pe_op op_add (pv 3) (pe_op op_mul pe_int (pv 7))) (fun _ _ => rfl)) (pe_callB call_len_seq (by rfl) T.z_len (by rfl) (pa_cons (pv 5) pa_nil))) pa_nil)))
              (pss_cons (ps_set (i := 9) scLd.nd rfl (Or.inl rfl) (pe_bm PySem.F.plainAttrs_list PySem.F.slot_list_pop PySem.F.type_list_pop mt_popAt (pv 5) (pa_cons (pe_op op_mod (pe_ix ix_list (pv 2) (pe_op op_add (pe_op op_add (pv 3) (pe_op op_mul pe_int (pv 7))) pe_int) (fun _ _ => rfl)) (pe_callB call_len_seq (by rfl) T.z_len (by rfl) (pa_cons (pv 5) pa_nil))) pa_nil)))
              (pss_cons (ps_expr (pe_meth (pv 0) T.cl_Yard T.M_Yard_link (ok_Yard_link T) (hr.mono (by decide)) (b_Yard_link T) .nil pass0 (pa_cons (pv 8) (pa_cons (pv 9) pa_nil))))
              (pss_cons (ps_dput hu (pv 6) (pv 8) (pv 9) rfl)
              (pss_one (ps_dput hu (pv 6) (pv 9) (pv 8) rfl))))))
            pss_nil)))
      (pss_one (ps_ret (pv 6)))))), ?_⟩
    refine ⟨_, rfl, kk, ks, _, jk + 9, rfl, hH, (by simpa [yL] using hjk), kl, fun H1 fl_ es hes h1 => ?_⟩
    intro mh hmh
    have h2 : Has (upd H1 mh (.dT [])) (yL t.c_Yard A y ++ ((fl_, .lst (esV es)) :: (mh, .dT []) :: (esK es ++ L))) :=
      Has.comm (X := (fl_, .lst (esV es)) :: (mh, .dT []) :: esK es) (Y := yL t.c_Yard A y) (R := L) (h1.alloc hmh (.dT [])).swap2
    generalize upd H1 mh _ = H2 at h2 ⊢
    clear h1 hmh hH
    have emem : ∀ x ∈ es, x.2 ∈ endsL ks := fun x hx => by rw [← hes]; exact List.mem_map.mpr ⟨x, hx, rfl⟩
    have enod : (es.map (·.2)).Nodup := by rw [hes]; exact endsL_nodup ks
    have elen : es.length ≤ 3000 := by have := congrArg List.length hes; rw [List.length_map] at this; have := endsL_le ks; omega
    refine ⟨_, rfl, _, rfl, by omega, by omega, for_range (fun i σ H' => ∃ (q1 : Addr) (m : List (List Key × V)) (fs : List En) (o1 o2 o3 : Option V), MIn es m ∧ (∀ x ∈ fs, x ∈ es) ∧ (fs.map (·.2)).Nodup ∧ (∀ x ∈ fs, valV m (kE x.2.1 x.2.2) = none) ∧ m.length ≤ 2 * i ∧ fs.length ≤ 3000 ∧ (∀ k ∈ m.map (·.1), ∃ p ∈ endsL ks, k = kE p.1 p.2) ∧
      σ = [some (.ref A.p), some (.ref kk), some (.ref d), some (.int a), some (.int n), some (.ref fl_), some (.ref mh), o1, o2, o3] ∧ Has H' (yL t.c_Yard { A with tr := q1 } { y with mates := m, trail := [] } ++ ((fl_, .lst (esV fs)) :: (mh, .dT m) :: (esK es ++ L))))
      ⟨A.tr, [], es, _, _, _, MIn.nil es, fun _ h => h, enod, fun _ _ => rfl, Nat.zero_le _, elen, (fun k hk => (nomatch hk)), rfl, ?_⟩ ?_ ?_⟩
    · have e : ({ y with mates := [], trail := [] } : YR) = y := by rw [← B.mt, ← B.tl]
      rw [e]; exact h2
    · clear h2
      rintro i σ H2 hi ⟨q1, m, fs, o1, o2, o3, M, fin, fnd, fno, ml, flen, ekm, rfl, h2⟩
      have gd : ∀ {H : Hp} {A1 : YA} {y1 : YR} {f1 m1 : HO}, Has H (yL t.c_Yard A1 y1 ++ ((fl_, f1) :: (mh, m1) :: (esK es ++ L))) → SqL K H d (ds.map V.int) := fun {H A1 y1 f1 m1} h => SqL.of (h.get (es.length + jd + 11) (by
        show (esK es ++ L)[es.length + jd]? = _
        have e : (esK es).length = es.length := by unfold esK; rw [List.length_map]
        rw [List.getElem?_append_right (by omega), show es.length + jd - (esK es).length = jd by omega]
        exact hjd))
      have gs : ∀ {H : Hp} {A1 : YA} {y1 : YR} {f1 m1 : HO}, Has H (yL t.c_Yard A1 y1 ++ ((fl_, f1) :: (mh, m1) :: (esK es ++ L))) → ∀ x ∈ es, H x.1 = some (.tup [.int x.2.1, .int x.2.2]) := fun {H A1 y1 f1 m1} h x hx => by
        obtain ⟨j, hj⟩ := List.mem_iff_getElem?.mp hx
        exact h.get (j + 11) (esK_get L hj)
      have evl : ∀ l : List En, (esV l).length = l.length := fun l => by unfold esV; rw [List.length_map]
      have evx : ∀ (l : List En) (k : Nat), (esV l).eraseIdx k = esV (l.eraseIdx k) := fun l k => by unfold esV; rw [eraseIdx_mapL]
      refine ⟨_, rfl, fl_, _, rfl, .inl (SqL.of (h2.get 9 rfl)), _, _, rfl, rfl, _, rfl, if2 (fun hc => ?_) (fun hc => ?_)⟩
      · have f2 : 1 < fs.length := by
          have := of_decide_eq_true hc
          rw [evl] at this
          omega
        obtain ⟨k1, k1l, k1e, k1s, k1a, k1b⟩ := seqIx (n := fs.length) (x := ds.getD (a + 2 * (0 + (i : Int))).toNat 0) (by omega)
        refine ⟨_, rfl, .inl ⟨rfl, _, SqL.of (h2.get 9 rfl)⟩, ?_⟩
        refine ⟨_, rfl, _, rfl, _, rfl, _, _, rfl, rfl, (.inl ⟨by decide, by decide⟩), _, _, rfl, rfl, d, _, _, _, rfl, rfl, gd h2, atD (by omega) (by omega), _, rfl, fl_, _, rfl, .inl (SqL.of (h2.get 9 rfl)), _, _, rfl, rfl, (show (0 : Int) < ((esV fs).length : Int) by rw [evl]; omega), ?_⟩
        rw [evl]
        refine ⟨fl_, _, _, k1, .ref (fs[k1]).1, rfl, rfl, h2.get 9 rfl, k1a, k1b (by omega), (by rw [evl]; exact k1s), esV_get (List.getElem?_eq_getElem k1l), ?_⟩
        rw [evx]
        have h3 := h2.puti 9 rfl (.lst (esV (fs.eraseIdx k1)))
        generalize upd H2 fl_ _ = H3 at h3 ⊢
        have pm1 := eraseIdx_permL fs k1 k1l
        have l1 : (fs.eraseIdx k1).length = fs.length - 1 := List.length_eraseIdx_of_lt k1l
        generalize hx : fs[k1] = x at *
        have nd1 : (x.2 :: (fs.eraseIdx k1).map (·.2)).Nodup := (pm1.map (fun x : En => x.2)).nodup_iff.mpr fnd
        have xin : x ∈ fs := by rw [← hx]; exact List.getElem_mem _
        have sub1 : ∀ z ∈ fs.eraseIdx k1, z ∈ fs := fun z hz => List.mem_of_mem_eraseIdx hz
        generalize fs.eraseIdx k1 = fs1 at *
        obtain ⟨k2, k2l, k2e, k2s, k2a, k2b⟩ := seqIx (n := fs1.length) (x := ds.getD (a + 2 * (0 + (i : Int)) + 1).toNat 0) (by omega)
        refine ⟨_, rfl, .inl ⟨rfl, _, SqL.of (h3.get 9 rfl)⟩, ?_⟩
        refine ⟨_, rfl, _, rfl, _, rfl, _, _, rfl, rfl, (.inl ⟨by decide, by decide⟩), _, _, rfl, rfl, _, _, rfl, rfl, d, _, _, _, rfl, rfl, gd h3, atD (by omega) (by omega), _, rfl, fl_, _, rfl, .inl (SqL.of (h3.get 9 rfl)), _, _, rfl, rfl, (show (0 : Int) < ((esV fs1).length : Int) by rw [evl]; omega), ?_⟩
        rw [evl]
        refine ⟨fl_, _, _, k2, .ref (fs1[k2]).1, rfl, rfl, h3.get 9 rfl, k2a, k2b (by omega), (by rw [evl]; exact k2s), esV_get (List.getElem?_eq_getElem k2l), ?_⟩
        rw [evx]
        have h4 := h3.puti 9 rfl (.lst (esV (fs1.eraseIdx k2)))
        generalize upd H3 fl_ _ = H4 at h4 ⊢
        have pm2 := eraseIdx_permL fs1 k2 k2l
        have l2 : (fs1.eraseIdx k2).length = fs1.length - 1 := List.length_eraseIdx_of_lt k2l
        generalize hz : fs1[k2] = z at *
        rw [List.nodup_cons] at nd1
        have nd2 : (z.2 :: (fs1.eraseIdx k2).map (·.2)).Nodup := (pm2.map (fun x : En => x.2)).nodup_iff.mpr nd1.2
        have zin : z ∈ fs1 := by rw [← hz]; exact List.getElem_mem _
        have sub2 : ∀ z ∈ fs1.eraseIdx k2, z ∈ fs1 := fun z hz => List.mem_of_mem_eraseIdx hz
        generalize fs1.eraseIdx k2 = fs2 at *
        rw [List.nodup_cons] at nd2
        have kne : ∀ {u v : En}, ¬ u.2 = v.2 → ¬ kE u.2.1 u.2.2 = kE v.2.1 v.2.2 := fun {u v} c e => c (by
          injection e with e1 e2
          injection e2 with e2 _
          injection e1 with e1
          injection e2 with e2
          exact Prod.ext e1 e2)
        have xe := fin x xin
        have ze := fin z (sub1 z zin)
        have xz : ¬ x.2 = z.2 := fun e => nd1.1 (by rw [e]; exact List.mem_map.mpr ⟨z, zin, rfl⟩)
        obtain ⟨ix, hix⟩ := List.mem_iff_getElem?.mp xe
        obtain ⟨iz, hiz⟩ := List.mem_iff_getElem?.mp ze
        refine ⟨_, rfl, A.p, A.dx, _, rfl, h4.get 1 rfl, (fl_m2 _ _ _).2.2.1, _, rfl, _, rfl, { A with tr := q1 }, _, _, x.1, z.1, x.2.1, x.2.2, z.2.1, z.2.2, ix + 2, iz + 2, rfl, h4, esK_get _ hix, esK_get _ hiz, endsL_th B rfl (emem x xe), endsL_th B rfl (emem z ze), kne xz, fno x xin, fno z (sub1 z zin), (show m.length ≤ 30000 by omega), fun H5 q5 h5 => ?_⟩
        refine ⟨_, rfl, _, rfl, _, rfl, mh, _, rfl, DPut.t (k := kE x.2.1 x.2.2) (h5.get 10 rfl) (gs h5 x xe) (sizeOk (by omega)), ?_⟩
        have h6 := h5.puti 10 rfl (.dT (putK m (kE x.2.1 x.2.2) (.ref z.1)))
        refine ⟨_, rfl, _, rfl, _, rfl, mh, _, rfl, DPut.t (k := kE z.2.1 z.2.2) (h6.get 10 rfl) (gs h6 z ze) (sizeOk (Nat.le_trans (length_putK _ _ _) (by omega))), ?_⟩
        have h7 := h6.puti 10 rfl (.dT (putK (putK m (kE x.2.1 x.2.2) (.ref z.1)) (kE z.2.1 z.2.2) (.ref x.1)))
        refine ⟨q5, _, fs2, _, _, _, (M.put ze _).put xe _, fun u hu => fin u (sub1 u (sub2 u hu)), nd2.2, fun u hu => ?_, ?_, by omega, (ek_put (ek_put ekm ⟨_, emem x xe, rfl⟩ _) ⟨_, emem z ze, rfl⟩ _), rfl, h7⟩
        · rw [valV_put, if_neg (kne (fun e => nd2.1 (by rw [← e]; exact List.mem_map.mpr ⟨u, hu, rfl⟩))), valV_put, if_neg (kne (fun e => nd1.1 (by rw [← e]; exact List.mem_map.mpr ⟨u, sub2 u hu, rfl⟩)))]
          exact fno u (sub1 u (sub2 u hu))
        · have b1 := length_putK m (kE x.2.1 x.2.2) (.ref z.1)
          have b2 := length_putK (putK m (kE x.2.1 x.2.2) (.ref z.1)) (kE z.2.1 z.2.2) (.ref x.1)
          omega
      · exact ⟨q1, m, fs, _, _, _, M, fin, fnd, fno, by omega, flen, ekm, rfl, h2⟩
    · rintro σ H2 ⟨q1, m, fs, o1, o2, o3, M, fin, fnd, fno, ml, flen, ekm, rfl, h2⟩
      refine ⟨_, rfl, q _ q1 mh m es M hes ml ekm ?_⟩
      exact (Has.comm (X := yL t.c_Yard { A with tr := q1 } { y with mates := m, trail := [] }) (Y := [(fl_, .lst (esV fs))]) (R := (mh, .dT m) :: (esK es ++ L)) h2).tail
theorem scTw : FnScope ["_law_yard", "_law_sides", "_law_d", "_law_at", "_law_rod"] ["_law_yard", "_law_sides", "_law_d", "_law_at"] (defScope s_thrown) := ⟨rfl, rfl, rfl, by decide +kernel, rfl, by decide +kernel, by decide +kernel⟩
theorem ok_thrown (T : Txt K mg t) : FnOk P w K mg base CX0 5 t.f_thrown t.d_thrown ["_law_yard", "_law_sides", "_law_d", "_law_at"] (sp_thrown t.c_Yard) := by
  refine T.F_thrown.ok scTw (fun vs H Q E h => ?_) (fun cdv A outer s H vs Q E hr h => ?_)
  · obtain ⟨_, _, _, _, _, _, _, _, _, rfl, _⟩ := h
    rfl
  · obtain ⟨A, y, L, sd, d, ss, ds, a, jd, rfl, hH, hsd, htr, hjd, a0, hds, sl, q⟩ := h
    refine ⟨_, (pss_one (ps_for PassesOwn.never rfl (pi_range1 (by rfl) T.z_range (pa_cons (pe_callB call_len_seq (by rfl) T.z_len (by rfl) (pa_cons (pv 1) pa_nil)) pa_nil)) (pg_name (i := 4) scTw.nd rfl (Or.inl rfl))
        (pss_cons (ps_asg (pe_op op_add pe_int (pe_op op_mod (pe_ix ix_list (pv 2) (pe_op op_add (pv 3) (pv 4)) (fun _ _ => rfl)) pe_int)) (pg_sub (pv 1) (pv 4) set_list))
          (pss_one (ps_expr (pe_meth (pv 0) T.cl_Yard T.M_Yard_throw (ok_Yard_throw T) (hr.mono (by decide)) (b_Yard_throw T) .nil pass0 (pa_cons (pv 4) (pa_cons (pe_ix ix_list (pv 1) (pv 4) (fun _ _ => rfl)) pa_nil)))))))), ?_⟩
    have gd : ∀ {H : Hp} {A1 : YA} {y1 : YR} {x1 : HO}, Has H (yL t.c_Yard A1 y1 ++ ((sd, x1) :: L)) → SqL K H d (ds.map V.int) := fun {H A1 y1 x1} h => SqL.of (h.get (jd + 10) (by simpa [yL] using hjd))
    refine ⟨_, rfl, sd, _, rfl, .inl (SqL.of (hH.get 9 rfl)), _, rfl, by omega, by rw [List.length_map]; omega, for_range (fun i σ H' => ∃ (q1 : Addr) (s1 : List Int) (o1 : Option V), s1.length = ss.length ∧ (∀ j, j < i → ∀ x, s1[j]? = some x → x = 1 ∨ x = 2) ∧ σ = [some (.ref A.p), some (.ref sd), some (.ref d), some (.int a), o1] ∧
      Has H' (yL t.c_Yard { A with tr := q1 } { y with sides := s1.map V.int, trail := [] } ++ ((sd, .lst (s1.map V.int)) :: L))) ⟨A.tr, ss, _, rfl, fun j hj => absurd hj (Nat.not_lt_zero _), rfl, ?_⟩ ?_ ?_⟩
    · have e : ({ y with sides := ss.map V.int, trail := [] } : YR) = y := by rw [← hsd, ← htr]
      rw [e]; exact hH
    · rintro i σ H1 hi ⟨q1, s1, o1, l1, hs, rfl, h1⟩
      have hi' : i < s1.length := by rw [l1]; rw [List.length_map] at hi; omega
      refine ⟨_, rfl, _, rfl, _, rfl, _, _, rfl, rfl, d, _, _, _, rfl, rfl, gd h1, atD (by omega) (by rw [List.length_map] at hi; omega), _, _, rfl, rfl, (show (0 : Int) < 2 by decide), _, _, rfl, rfl, ?_⟩
      dsimp only
      have b0 := Int.emod_nonneg (ds.getD (a + (0 + (i : Int))).toNat 0) (show (2 : Int) ≠ 0 by decide)
      have b1 := Int.emod_lt_of_pos (ds.getD (a + (0 + (i : Int))).toNat 0) (show (0 : Int) < 2 by decide)
      generalize ds.getD (a + (0 + (i : Int))).toNat 0 % 2 = b at b0 b1 ⊢
      have hz : 1 + b = 1 ∨ 1 + b = 2 := by omega
      have ejx : ixN (s1.map V.int).length (0 + (i : Int)) = some i := by unfold ixN; rw [List.length_map, if_pos (by omega), if_pos (by omega)]; congr 1; omega
      refine ⟨_, rfl, _, rfl, sd, _, _, _, rfl, rfl, h1.get 9 rfl, ejx, ?_⟩
      have h2 := h1.puti 9 rfl (.lst ((s1.map V.int).set i (.int (1 + b))))
      have ga : atI ((s1.map V.int).set i (.int (1 + b))) (0 + (i : Int)) = some (.int (1 + b)) := by
        rw [show 0 + (i : Int) = ((i : Nat) : Int) by omega]
        exact atI_nat (by rw [List.getElem?_set_self (by rw [List.length_map]; exact hi')])
      refine ⟨_, rfl, A.p, A.dx, _, rfl, h2.get 1 rfl, (fl_m _ _ _).2.2.1, _, rfl, _, rfl, _, rfl, sd, _, _, _, rfl, rfl, SqL.of (h2.get 9 rfl), ga, { A with tr := q1 }, _, _, 0 + (i : Int), 1 + b, rfl, h2, by omega, (show 0 + (i : Int) < ((s1.map V.int).length : Int) by rw [List.length_map]; omega), hz, fun H3 q3 h3 => ?_⟩
      refine ⟨q3, s1.set i (1 + b), _, by rw [List.length_set]; exact l1, fun j hj x hx => ?_, rfl, ?_⟩
      · by_cases c : j = i
        · subst c
          rw [List.getElem?_set_self hi'] at hx
          cases hx
          exact hz
        · rw [List.getElem?_set_ne (fun e => c e.symm)] at hx
          exact hs j (by omega) x hx
      · rw [List.map_set]
        rw [show (0 + (i : Int)).toNat = i by omega] at h3
        exact h3
    · rintro σ H1 ⟨q1, s1, o1, l1, hs, rfl, h1⟩
      refine q _ q1 s1 l1 (fun x hx => ?_) h1
      obtain ⟨j, hj⟩ := List.mem_iff_getElem?.mp hx
      exact hs j (by have := (List.getElem?_eq_some_iff.mp hj).1; rw [List.length_map]; omega) x hj
end

end P


set_option Elab.async false
set_option linter.all false
set_option maxRecDepth 100000
set_option maxHeartbeats 4000000
namespace P
open PySem L2

/-- the law's own lists tell the same world -/
structure Lw (W : Wd) (ks : List Kd) (ns rs : List Int) (m : List (List Key × V)) : Prop where
  kf : ∀ n k, W.kf n = some k → ∃ i : Nat, n = i ∧ ks[i]? = some k
  nf : ∀ i : Nat, W.nf i = ns.getD i 0
  rf : ∀ i : Nat, W.rf i = rs.getD i 0
  nl : ns.length = ks.length
  rl : rs.length = ks.length
  rn : ∀ (i : Nat) k, ks[i]? = some k → (k.point = true ↔ 0 ≤ rs.getD i 0)
  mt : ∀ n e, valV m (kE n e) = (W.mf n e).map fun z => V.ref z.1
structure Okw (W : Wd) (s : Sd) : Prop where
  rr : ∀ n k, W.kf n = some k → k.point = true → 0 ≤ W.rf n ∧ W.rf n < s.ss.length
  s12 : ∀ x ∈ s.ss, x = 1 ∨ x = 2
  mo : ∀ n e z, W.mf n e = some z → W.ok z
  eo : ∀ z, s.at_ = some z → W.ok z
theorem Rep.okw {W : Wd} {s : Sd} {y : YR} (R : Rep W s y) : Okw W s := ⟨R.rr, R.s12, R.mo, R.eo⟩
theorem Okw.s1 {w : Wd} {s : Sd} (R : Okw w s) {n : Int} {k : Kd} (hk : w.kf n = some k) (hp : k.point = true) : w.sv s n = 1 ∨ w.sv s n = 2 := by
  obtain ⟨h0, h1⟩ := R.rr n k hk hp
  refine R.s12 _ ?_
  unfold Wd.sv
  rw [List.getD_eq_getElem?_getD, List.getElem?_eq_getElem (by omega)]
  exact List.getElem_mem _
theorem Okw.step {w : Wd} {s : Sd} {z : En} {k : Kd} {z' : En} {o : Int} (R : Okw w s) (hz : s.at_ = some z) (hk : w.kf z.2.1 = some k) (hm : w.mf z.2.1 o = some z') : Okw w (stepS w s z k z') := by
  have hl : (stepS w s z k z').ss.length = s.ss.length := by
    unfold stepS; dsimp only; split
    · exact List.length_set
    · rfl
  refine ⟨fun n k h1 h2 => by rw [hl]; exact R.rr n k h1 h2, fun x hx => ?_, R.mo, fun u hu => ?_⟩
  · unfold stepS at hx
    dsimp only at hx
    split at hx
    · rename_i hp
      rcases List.mem_or_eq_of_mem_set hx with hx | hx
      · exact R.s12 x hx
      · obtain ⟨k', h1, h2, h3⟩ := R.eo z hz
        rw [hk] at h1
        cases h1
        rw [hx]
        exact Kd.side12 h2 h3 (R.s1 hk hp)
    · exact R.s12 x hx
  · rw [stepS_at] at hu
    cases hu
    exact R.mo _ _ _ hm

theorem ksV_get {ks : List Kd} {i : Nat} {k : Kd} (h : ks[i]? = some k) : (ksV ks)[i]? = some (.str k.str) := by unfold ksV; rw [List.getElem?_map, h]; rfl
theorem getD_get {l : List Int} {i : Nat} (h : i < l.length) : (l.map V.int)[i]? = some (.int (l.getD i 0)) := by
  rw [List.getElem?_map, List.getElem?_eq_getElem h]; simp [List.getD, List.getElem?_eq_getElem h]

def walkInv (sd gg kk nn rr mh : Addr) (R : Kn) (W : Wd) (s : Sd) (m : Int) (r : Nat) (σ : St) (H : Hp) : Prop :=
  ∃ (i : Nat) (s1 : Sd) (o1 o2 o3 o4 o5 : Option V), r = m.toNat - i ∧ i ≤ m.toNat ∧ σ = [some (.ref kk), some (.ref nn), some (.ref rr), some (.ref sd), some (.ref mh), some (.ref gg), some (enV s1.at_), some (.int m), some (.int i), o1, o2, o3, o4, o5] ∧
    Has H ((sd, .lst (s1.ss.map V.int)) :: (gg, .lst (s1.rg.map V.int)) :: R) ∧ Okw W s1 ∧ Pool W s1 R ∧ W.go m.toNat s = W.go (m.toNat - i) s1 ∧ (W.hist m.toNat s).length = i + (W.hist (m.toNat - i) s1).length ∧ s1.rg.length ≤ s.rg.length + i
def sp_walk : Sp := fun vs H Q _ => ∃ (sd gg kk nn rr mh : Addr) (R : Kn) (W : Wd) (s : Sd) (m : Int) (ks : List Kd) (ns rs : List Int) (dm : List (List Key × V)) (jk jn jr jm : Nat), vs = [.ref kk, .ref nn, .ref rr, .ref sd, .ref mh, .ref gg, enV s.at_, .int m] ∧
  Has H ((sd, .lst (s.ss.map V.int)) :: (gg, .lst (s.rg.map V.int)) :: R) ∧ Lw W ks ns rs dm ∧ Okw W s ∧ Pool W s R ∧ R[jk]? = some (kk, .lst (ksV ks)) ∧ R[jn]? = some (nn, .lst (ns.map V.int)) ∧ R[jr]? = some (rr, .lst (rs.map V.int)) ∧ R[jm]? = some (mh, .dT dm) ∧ s.rg.length + m ≤ 900000 ∧
  ∀ H' tp, Has H' ((tp, .tup [enV (W.go m.toNat s).at_, .int (W.hist m.toNat s).length]) :: (sd, .lst ((W.go m.toNat s).ss.map V.int)) :: (gg, .lst ((W.go m.toNat s).rg.map V.int)) :: R) → Okw W (W.go m.toNat s) → Pool W (W.go m.toNat s) R → (W.go m.toNat s).rg.length ≤ s.rg.length + m.toNat → Q (.ref tp) H'
section
variable {P : Program} {w : World} {K : PySem.W.Frag} {mg : Str → Option Value} {base : Heap} {t : Adr}
theorem scWk : FnScope ["_law_kinds_here", "_law_notes", "_law_rods", "_law_sides", "_law_mates", "_law_rung", "_law_at", "_law_most", "_law_done", "_law_piece", "_law_place", "_law_side", "_law_out", "_law_behind"] ["_law_kinds_here", "_law_notes", "_law_rods", "_law_sides", "_law_mates", "_law_rung", "_law_at", "_law_most"] (defScope s_walk) := ⟨rfl, rfl, rfl, by decide +kernel, rfl, by decide +kernel, by decide +kernel⟩
theorem ok_walk (T : Txt K mg t) : FnOk P w K mg base CX0 3 t.f_walk t.d_walk ["_law_kinds_here", "_law_notes", "_law_rods", "_law_sides", "_law_mates", "_law_rung", "_law_at", "_law_most"] sp_walk := by
  refine T.F_walk.ok scWk (fun vs H Q E h => ?_) (fun cdv A outer s H vs Q E hr h => ?_)
  · obtain ⟨_, _, _, _, _, _, _, _, _, _, _, _, _, _, _, _, _, _, rfl, _⟩ := h
    rfl
  · obtain ⟨sd, gg, kk, nn, rr, mh, R, W, s0, m, ks, ns, rs, dm, jk, jn, jr, jm, rfl, hH, lw, O, PL, hjk, hjn, hjr, hjm, bd, q⟩ := h
    have hu := hu_of hr
    refine ⟨_, (pss_cons (ps_set (i := 8) scWk.nd rfl (Or.inl rfl) pe_int)
      (pss_cons (ps_while PassesOwn.never (PW.pt (pw_and (pt_cmpR op_lt (pv 8) (pv 7) (nomark _)) (pw_and1 (pt_cmpR op_notN (pv 6) pe_non (nomark _)))))
        (pss_cons (ps_asg (pv 6) (pg_tup rfl (pgs_cons (pg_name (i := 9) scWk.nd rfl (Or.inl rfl)) (pgs_cons (pg_name (i := 10) scWk.nd rfl (Or.inl rfl)) pgs_nil))))
          (pss_cons (ps_set (i := 11) scWk.nd rfl (Or.inl rfl) pe_int)
          (pss_cons (ps_if (pt_cmpR op_ge (pe_ix ix_list (pv 2) (pv 9) (fun _ _ => rfl)) pe_int (nomark _))
            (pss_one (ps_set (i := 11) scWk.nd rfl (Or.inl rfl) (pe_ix ix_list (pv 3) (pe_ix ix_list (pv 2) (pv 9) (fun _ _ => rfl)) (fun _ _ => rfl))))
            pss_nil)
          (pss_cons (ps_asg (pe_call (ok_passing T) (hr.mono (by decide)) (by rfl) T.m_passing T.F_passing.kp (b_passing T) .nil pass0 (pa_cons (pe_ix ix_list (pv 0) (pv 9) (fun _ _ => rfl)) (pa_cons (pv 10) (pa_cons (pv 11) pa_nil)))) (pg_tup rfl (pgs_cons (pg_name (i := 12) scWk.nd rfl (Or.inl rfl)) (pgs_cons (pg_name (i := 13) scWk.nd rfl (Or.inl rfl)) pgs_nil))))
          (pss_cons (ps_if (pt_cmp (pc_dnotinN hu (pe_tup (pa_cons (pv 9) (pa_cons (pv 12) pa_nil))) (pv 4)))
            (pss_one (ps_ret (pe_tup (pa_cons (pv 6) (pa_cons (pv 8) pa_nil)))))
            pss_nil)
          (pss_cons (ps_if (pt_cmpR op_ge (pe_ix ix_list (pv 2) (pv 9) (fun _ _ => rfl)) pe_int (nomark _))
            (pss_one (ps_asg (pv 13) (pg_sub (pv 3) (pe_ix ix_list (pv 2) (pv 9) (fun _ _ => rfl)) set_list)))
            pss_nil)
          (pss_cons (ps_if (pt_cmpR op_eq (pe_ix ix_list (pv 0) (pv 9) (fun _ _ => rfl)) pe_str (nomark _))
            (pss_one (ps_expr (pe_bm PySem.F.plainAttrs_list PySem.F.slot_list_append PySem.F.type_list_append mt_append (pv 5) (pa_cons (pe_ix ix_list (pv 1) (pv 9) (fun _ _ => rfl)) pa_nil))))
            pss_nil)
          (pss_cons (ps_set (i := 6) scWk.nd rfl (Or.inl rfl) (pe_dget hu (pv 4) (pe_tup (pa_cons (pv 9) (pa_cons (pv 12) pa_nil))) (fun _ _ => rfl)))
          (pss_one (ps_set (i := 8) scWk.nd rfl (Or.inl rfl) (pe_op op_add (pv 8) pe_int))))))))))))
      (pss_one (ps_ret (pe_tup (pa_cons (pv 6) (pa_cons (pv 8) pa_nil))))))), ?_⟩
    refine ⟨walkInv sd gg kk nn rr mh R W s0 m, ⟨_, 0, s0, _, _, _, _, _, rfl, Nat.zero_le _, rfl, hH, O, PL, rfl, by simp, Nat.le_refl _⟩, ?_⟩
    rintro r σ H1 ⟨i, s1, o1, o2, o3, o4, o5, rfl, im, rfl, h1, O1, P1, eg, eh, rg⟩
    -- the end: (at, done)
    have fin : ∀ (H2 : Hp), Has H2 ((sd, .lst (s1.ss.map V.int)) :: (gg, .lst (s1.rg.map V.int)) :: R) → W.go (m.toNat - i) s1 = s1 → (W.hist (m.toNat - i) s1).length = 0 → ∀ p, H2 p = none → Q (.ref p) (upd H2 p (.tup [enV s1.at_, .int i])) := fun H2 h2 e1 e2 p hp => by
      rw [e1] at eg
      rw [e2] at eh
      refine q _ p ?_ (by rw [eg]; exact O1) (by rw [eg]; exact P1) (by rw [eg]; omega)
      rw [eg, eh]
      exact h2.alloc hp _
    refine ⟨_, rfl, _, rfl, _, _, rfl, rfl, _, rfl, if2 (fun hc => ?_) (fun hc => iteF ?_)⟩
    · have hlt : (i : Int) < m := of_decide_eq_true hc
      refine ⟨_, rfl, rfl, _, rfl, ?_⟩
      cases hz : s1.at_ with
      | none =>
        refine iteF ?_
        have hn := (why_none (w := W) hz).1
        rw [hz] at fin
        exact ⟨_, rfl, _, rfl, (show 2 ≤ sizeLine by decide), fun p hp => fin _ h1 (go_held W hn _) (by rw [hist_held W hn]; rfl) p hp⟩
      | some z =>
        obtain ⟨zb, zn, ze⟩ := z
        obtain ⟨j, hj⟩ := P1.e _ hz
        obtain ⟨k, hk, e0, e1⟩ := O1.eo _ hz
        obtain ⟨i0, ei, hki⟩ := lw.kf _ _ hk
        dsimp only at ei e0 e1 hj hk
        subst ei
        have il : i0 < ks.length := (List.getElem?_eq_some_iff.mp hki).1
        refine iteT ⟨fun σ' H' => ∃ r', r' < m.toNat - i ∧ walkInv sd gg kk nn rr mh R W s0 m r' σ' H', fun _ _ h => h, ?_⟩
        refine ⟨_, rfl, zb, _, rfl, SqT.of (h1.get (j + 2) hj), rfl, _, _, rfl, _, _, rfl, rfl, ?_⟩
        have grr : ∀ {H : Hp} {x1 x2 : HO}, Has H ((sd, x1) :: (gg, x2) :: R) → SqL K H rr (rs.map V.int) := fun {H x1 x2} h => SqL.of (h.get (jr + 2) hjr)
        have ari : atI (rs.map V.int) (i0 : Int) = some (.int (rs.getD i0 0)) := atI_nat (getD_get (show i0 < rs.length by rw [lw.rl]; exact il))
        refine ⟨_, rfl, _, rfl, rr, _, _, _, rfl, rfl, grr h1, ari, _, _, rfl, rfl, _, rfl, if2 (fun hr0 => ?_) (fun hr0 => ?_)⟩
        · have r0 : 0 ≤ rs.getD i0 0 := of_decide_eq_true hr0
          have hp : k.point = true := (lw.rn i0 k hki).mpr r0
          have rr1 := O1.rr _ _ hk hp
          rw [lw.rf] at rr1
          have esv : W.sv s1 (i0 : Int) = s1.ss.getD (rs.getD i0 0).toNat 0 := by unfold Wd.sv; rw [lw.rf]
          have asd : atI (s1.ss.map V.int) (rs.getD i0 0) = some (.int (W.sv s1 (i0 : Int))) := by
            rw [show rs.getD i0 0 = (((rs.getD i0 0).toNat : Nat) : Int) by omega, esv]
            exact atI_nat (by rw [getD_get (by omega)])
          refine ⟨_, rfl, _, rfl, _, rfl, rr, _, _, _, rfl, rfl, grr h1, ari, sd, _, _, _, rfl, rfl, SqL.of (h1.get 0 rfl), asd, ?_⟩
          refine ⟨_, rfl, _, rfl, kk, _, _, _, rfl, rfl, SqL.of (h1.get (jk + 2) hjk), atI_nat (ksV_get hki), _, rfl, _, rfl, k, ze, (W.sv s1 (i0 : Int)), rfl, e0, e1, fun p hp1 => ?_⟩
          have eo : k.out ze (W.sv s1 (i0 : Int)) = k.out ze (W.sv s1 (i0 : Int)) := rfl
          have h2 := h1.alloc hp1 (.tup [k.out ze (W.sv s1 (i0 : Int)), .int (k.side ze (W.sv s1 (i0 : Int)))])
          refine ⟨p, _, rfl, SqT.of (h2.get 0 rfl), rfl, _, _, rfl, _, _, rfl, rfl, ?_⟩
          replace h2 := h2.tail
          generalize upd H1 p _ = H2 at h2 ⊢
          rw [eo]
          refine ⟨_, rfl, _, rfl, (show 2 ≤ sizeLine by decide), fun b hb => ?_⟩
          have h3 := h2.alloc hb (.tup [.int (i0 : Int), k.out ze (W.sv s1 (i0 : Int))])
          have hcase : (W.nx s1 = none ∧ DGetN (upd H2 b (.tup [.int (i0 : Int), k.out ze (W.sv s1 (i0 : Int))])) mh (.ref b) none) ∨ ∃ (o : Int) (z' : En), k.out ze (W.sv s1 (i0 : Int)) = .int o ∧ W.mf (i0 : Int) o = some z' := by
            by_cases c : k.out ze (W.sv s1 (i0 : Int)) = .non
            · refine .inl ⟨(why_stop hz hk c).1, .inr ⟨_, (i0 : Int), b, .inl (h3.get (jm + 3) hjm), rfl, ?_, rfl⟩⟩
              rw [c]; exact upd_same
            · obtain ⟨o, ho⟩ := Kd.out_int (k := k) (fun e => c (by unfold Kd.out; rw [if_pos e])) ze (W.sv s1 (i0 : Int))
              cases hm : W.mf (i0 : Int) o with
              | none =>
                refine .inl ⟨(why_loose hz hk ho hm).1, .inl ?_⟩
                have := DGet.t (k := kE (i0 : Int) o) (h3.get (jm + 3) hjm) (by rw [ho]; exact upd_same)
                rw [lw.mt, hm] at this
                exact this
              | some z' => exact .inr ⟨o, z', ho, hm⟩
          rcases hcase with ⟨hn, hg⟩ | ⟨o, z', ho, hm⟩
          · refine ⟨_, rfl, mh, none, rfl, hg, _, rfl, iteT ?_⟩
            rw [hz] at fin
            exact ⟨_, rfl, _, rfl, (show 2 ≤ sizeLine by decide), fun p hp => fin _ h3.tail (go_held W hn _) (by rw [hist_held W hn]; rfl) p hp⟩
          have hn := nx_of hz hk ho hm
          have vm : valV dm (kE (i0 : Int) o) = some (.ref z'.1) := by rw [lw.mt, hm]; rfl
          rw [ho] at h3 ⊢
          refine ⟨_, rfl, mh, _, rfl, .inl (DGet.t (k := kE (i0 : Int) o) (h3.get (jm + 3) hjm) (h3.get 0 rfl)), _, rfl, ifF (by rw [vm]; rfl) ?_⟩
          have h4 := h3.tail
          generalize upd H2 b _ = H4 at h4 ⊢
          clear h3 h2 hb
          refine ⟨_, rfl, _, rfl, rr, _, _, _, rfl, rfl, grr h4, ari, _, _, rfl, rfl, _, rfl, ifT hr0 ?_⟩
          have ejx : ixN (s1.ss.map V.int).length (rs.getD i0 0) = some (rs.getD i0 0).toNat := by unfold ixN; rw [List.length_map, if_pos r0, if_pos (by omega)]
          refine ⟨_, rfl, _, rfl, _, rfl, _, rfl, rr, _, _, _, rfl, rfl, grr h4, ari, sd, _, _, _, rfl, rfl, h4.get 0 rfl, ejx, ?_⟩
          have h5 := h4.puti 0 rfl (.lst ((s1.ss.map V.int).set (rs.getD i0 0).toNat (.int (k.side ze (W.sv s1 (i0 : Int))))))
          generalize upd H4 sd _ = H5 at h5 ⊢
          have es : (stepS W s1 (zb, (i0 : Int), ze) k z').ss.map V.int = (s1.ss.map V.int).set (rs.getD i0 0).toNat (.int (k.side ze (W.sv s1 (i0 : Int)))) := by unfold stepS; dsimp only; rw [if_pos hp, List.map_set, lw.rf]
          -- kinds_here[piece] == "bell"
          refine ⟨_, rfl, _, rfl, kk, _, _, _, rfl, rfl, SqL.of (h5.get (jk + 2) hjk), atI_nat (ksV_get hki), rfl, _, rfl, ?_⟩
          rw [k.isBell]
          refine ifd (fun kb => ?_) (fun kb => ?_)
          · refine ⟨_, rfl, .inl ⟨rfl, _, SqL.of (h5.get 1 rfl)⟩, _, rfl, _, rfl, nn, _, _, _, rfl, rfl, SqL.of (h5.get (jn + 2) hjn), atI_nat (getD_get (show i0 < ns.length by rw [lw.nl]; exact il)), gg, _, _, rfl, rfl, h5.get 1 rfl, sizeOk (by rw [List.length_map]; omega), ?_⟩
            have h7 := h5.puti 1 rfl (.lst (s1.rg.map V.int ++ [.int (ns.getD i0 0)]))
            have er : (stepS W s1 (zb, (i0 : Int), ze) k z').rg.map V.int = s1.rg.map V.int ++ [.int (ns.getD i0 0)] := by unfold stepS; dsimp only; rw [if_pos kb, List.map_append, lw.nf]; rfl
            generalize upd _ gg _ = H7 at h7 ⊢
            rw [← er, ← es] at h7
            refine ⟨_, rfl, _, rfl, _, rfl, (show 2 ≤ sizeLine by decide), fun b8 hb8 => ?_⟩
            have h8 := h7.alloc hb8 (.tup [.int (i0 : Int), .int o])
            refine ⟨mh, _, rfl, (by rw [← vm]; exact DGet.t (k := kE (i0 : Int) o) (h8.get (jm + 3) hjm) (h8.get 0 rfl)), ?_⟩
            refine ⟨_, rfl, _, _, rfl, rfl, ?_⟩
            have em : m.toNat - i = (m.toNat - (i + 1)) + 1 := by omega
            rw [em, go_succ W hn] at eg
            rw [em, hist_succ W hn, List.length_cons] at eh
            refine ⟨m.toNat - (i + 1), by omega, i + 1, stepS W s1 (zb, (i0 : Int), ze) k z', _, _, _, _, _, rfl, by omega, rfl, h8.tail, O1.step hz hk hm, P1.step hn, eg, by omega, ?_⟩
            have := stepS_rg_le (w := W) (s := s1) (z := (zb, (i0 : Int), ze)) (k := k) (z' := z')
            omega
          · have er : (stepS W s1 (zb, (i0 : Int), ze) k z').rg.map V.int = s1.rg.map V.int := by unfold stepS; dsimp only; rw [if_neg kb]
            have h7 := h5
            rw [← er, ← es] at h7
            refine ⟨_, rfl, _, rfl, _, rfl, (show 2 ≤ sizeLine by decide), fun b8 hb8 => ?_⟩
            have h8 := h7.alloc hb8 (.tup [.int (i0 : Int), .int o])
            refine ⟨mh, _, rfl, (by rw [← vm]; exact DGet.t (k := kE (i0 : Int) o) (h8.get (jm + 3) hjm) (h8.get 0 rfl)), ?_⟩
            refine ⟨_, rfl, _, _, rfl, rfl, ?_⟩
            have em : m.toNat - i = (m.toNat - (i + 1)) + 1 := by omega
            rw [em, go_succ W hn] at eg
            rw [em, hist_succ W hn, List.length_cons] at eh
            refine ⟨m.toNat - (i + 1), by omega, i + 1, stepS W s1 (zb, (i0 : Int), ze) k z', _, _, _, _, _, rfl, by omega, rfl, h8.tail, O1.step hz hk hm, P1.step hn, eg, by omega, ?_⟩
            have := stepS_rg_le (w := W) (s := s1) (z := (zb, (i0 : Int), ze)) (k := k) (z' := z')
            omega
        · have r0 : ¬ 0 ≤ rs.getD i0 0 := of_decide_eq_false hr0
          have hp : ¬ k.point = true := fun h => r0 ((lw.rn i0 k hki).mp h)
          refine ⟨_, rfl, _, rfl, kk, _, _, _, rfl, rfl, SqL.of (h1.get (jk + 2) hjk), atI_nat (ksV_get hki), _, rfl, _, rfl, k, ze, 0, rfl, e0, e1, fun p hp1 => ?_⟩
          have eo : k.out ze 0 = k.out ze (W.sv s1 (i0 : Int)) := Kd.out_np hp _ _ _
          have h2 := h1.alloc hp1 (.tup [k.out ze 0, .int (k.side ze 0)])
          refine ⟨p, _, rfl, SqT.of (h2.get 0 rfl), rfl, _, _, rfl, _, _, rfl, rfl, ?_⟩
          replace h2 := h2.tail
          generalize upd H1 p _ = H2 at h2 ⊢
          rw [eo]
          refine ⟨_, rfl, _, rfl, (show 2 ≤ sizeLine by decide), fun b hb => ?_⟩
          have h3 := h2.alloc hb (.tup [.int (i0 : Int), k.out ze (W.sv s1 (i0 : Int))])
          have hcase : (W.nx s1 = none ∧ DGetN (upd H2 b (.tup [.int (i0 : Int), k.out ze (W.sv s1 (i0 : Int))])) mh (.ref b) none) ∨ ∃ (o : Int) (z' : En), k.out ze (W.sv s1 (i0 : Int)) = .int o ∧ W.mf (i0 : Int) o = some z' := by
            by_cases c : k.out ze (W.sv s1 (i0 : Int)) = .non
            · refine .inl ⟨(why_stop hz hk c).1, .inr ⟨_, (i0 : Int), b, .inl (h3.get (jm + 3) hjm), rfl, ?_, rfl⟩⟩
              rw [c]; exact upd_same
            · obtain ⟨o, ho⟩ := Kd.out_int (k := k) (fun e => c (by unfold Kd.out; rw [if_pos e])) ze (W.sv s1 (i0 : Int))
              cases hm : W.mf (i0 : Int) o with
              | none =>
                refine .inl ⟨(why_loose hz hk ho hm).1, .inl ?_⟩
                have := DGet.t (k := kE (i0 : Int) o) (h3.get (jm + 3) hjm) (by rw [ho]; exact upd_same)
                rw [lw.mt, hm] at this
                exact this
              | some z' => exact .inr ⟨o, z', ho, hm⟩
          rcases hcase with ⟨hn, hg⟩ | ⟨o, z', ho, hm⟩
          · refine ⟨_, rfl, mh, none, rfl, hg, _, rfl, iteT ?_⟩
            rw [hz] at fin
            exact ⟨_, rfl, _, rfl, (show 2 ≤ sizeLine by decide), fun p hp => fin _ h3.tail (go_held W hn _) (by rw [hist_held W hn]; rfl) p hp⟩
          have hn := nx_of hz hk ho hm
          have vm : valV dm (kE (i0 : Int) o) = some (.ref z'.1) := by rw [lw.mt, hm]; rfl
          rw [ho] at h3 ⊢
          refine ⟨_, rfl, mh, _, rfl, .inl (DGet.t (k := kE (i0 : Int) o) (h3.get (jm + 3) hjm) (h3.get 0 rfl)), _, rfl, ifF (by rw [vm]; rfl) ?_⟩
          have h4 := h3.tail
          generalize upd H2 b _ = H4 at h4 ⊢
          clear h3 h2 hb
          refine ⟨_, rfl, _, rfl, rr, _, _, _, rfl, rfl, grr h4, ari, _, _, rfl, rfl, _, rfl, ifF hr0 ?_⟩
          have es : (stepS W s1 (zb, (i0 : Int), ze) k z').ss.map V.int = s1.ss.map V.int := by unfold stepS; dsimp only; rw [if_neg hp]
          -- kinds_here[piece] == "bell"
          refine ⟨_, rfl, _, rfl, kk, _, _, _, rfl, rfl, SqL.of (h4.get (jk + 2) hjk), atI_nat (ksV_get hki), rfl, _, rfl, ?_⟩
          rw [k.isBell]
          refine ifd (fun kb => ?_) (fun kb => ?_)
          · refine ⟨_, rfl, .inl ⟨rfl, _, SqL.of (h4.get 1 rfl)⟩, _, rfl, _, rfl, nn, _, _, _, rfl, rfl, SqL.of (h4.get (jn + 2) hjn), atI_nat (getD_get (show i0 < ns.length by rw [lw.nl]; exact il)), gg, _, _, rfl, rfl, h4.get 1 rfl, sizeOk (by rw [List.length_map]; omega), ?_⟩
            have h7 := h4.puti 1 rfl (.lst (s1.rg.map V.int ++ [.int (ns.getD i0 0)]))
            have er : (stepS W s1 (zb, (i0 : Int), ze) k z').rg.map V.int = s1.rg.map V.int ++ [.int (ns.getD i0 0)] := by unfold stepS; dsimp only; rw [if_pos kb, List.map_append, lw.nf]; rfl
            generalize upd _ gg _ = H7 at h7 ⊢
            rw [← er, ← es] at h7
            refine ⟨_, rfl, _, rfl, _, rfl, (show 2 ≤ sizeLine by decide), fun b8 hb8 => ?_⟩
            have h8 := h7.alloc hb8 (.tup [.int (i0 : Int), .int o])
            refine ⟨mh, _, rfl, (by rw [← vm]; exact DGet.t (k := kE (i0 : Int) o) (h8.get (jm + 3) hjm) (h8.get 0 rfl)), ?_⟩
            refine ⟨_, rfl, _, _, rfl, rfl, ?_⟩
            have em : m.toNat - i = (m.toNat - (i + 1)) + 1 := by omega
            rw [em, go_succ W hn] at eg
            rw [em, hist_succ W hn, List.length_cons] at eh
            refine ⟨m.toNat - (i + 1), by omega, i + 1, stepS W s1 (zb, (i0 : Int), ze) k z', _, _, _, _, _, rfl, by omega, rfl, h8.tail, O1.step hz hk hm, P1.step hn, eg, by omega, ?_⟩
            have := stepS_rg_le (w := W) (s := s1) (z := (zb, (i0 : Int), ze)) (k := k) (z' := z')
            omega
          · have er : (stepS W s1 (zb, (i0 : Int), ze) k z').rg.map V.int = s1.rg.map V.int := by unfold stepS; dsimp only; rw [if_neg kb]
            have h7 := h4
            rw [← er, ← es] at h7
            refine ⟨_, rfl, _, rfl, _, rfl, (show 2 ≤ sizeLine by decide), fun b8 hb8 => ?_⟩
            have h8 := h7.alloc hb8 (.tup [.int (i0 : Int), .int o])
            refine ⟨mh, _, rfl, (by rw [← vm]; exact DGet.t (k := kE (i0 : Int) o) (h8.get (jm + 3) hjm) (h8.get 0 rfl)), ?_⟩
            refine ⟨_, rfl, _, _, rfl, rfl, ?_⟩
            have em : m.toNat - i = (m.toNat - (i + 1)) + 1 := by omega
            rw [em, go_succ W hn] at eg
            rw [em, hist_succ W hn, List.length_cons] at eh
            refine ⟨m.toNat - (i + 1), by omega, i + 1, stepS W s1 (zb, (i0 : Int), ze) k z', _, _, _, _, _, rfl, by omega, rfl, h8.tail, O1.step hz hk hm, P1.step hn, eg, by omega, ?_⟩
            have := stepS_rg_le (w := W) (s := s1) (z := (zb, (i0 : Int), ze)) (k := k) (z' := z')
            omega
    · have hge : ¬ (i : Int) < m := of_decide_eq_false hc
      have ez : m.toNat - i = 0 := by omega
      rw [ez] at fin
      exact ⟨_, rfl, _, rfl, (show 2 ≤ sizeLine by decide), fun p hp => fin _ h1 rfl rfl p hp⟩
end

end P


set_option Elab.async false
set_option linter.all false
set_option maxRecDepth 100000
set_option maxHeartbeats 4000000
namespace P
open PySem L2

theorem Blt.lw {y : YR} {ks : List Kd} {ns rs ss : List Int} (B : Blt y ks ns rs ss) {es : List En} {m : List (List Key × V)} (M : MIn es m) : Lw (wOf ks ns rs es m) ks ns rs m := by
  refine ⟨fun n k h => wOf_k h, fun i => by unfold wOf; dsimp only; rw [Int.toNat_natCast], fun i => by unfold wOf; dsimp only; rw [Int.toNat_natCast], B.nl, B.rl, fun i k hk => ⟨fun hp => ?_, fun h0 => ?_⟩, fun n e => mfOf_val M n e⟩
  · exact (B.rr i (by rw [hk]; simp [hp])).1
  · cases hp : k.point with
    | true => rfl
    | false => have := B.rn i (by rw [hk]; simp [hp]); omega
theorem esK_app (a b : List En) (L : Kn) : esK (a ++ b) ++ L = esK a ++ (esK b ++ L) := by unfold esK; rw [List.map_append, List.append_assoc]
theorem endsL_pos {ks : List Kd} (h : 0 < ks.length) : 0 < (endsL ks).length := by
  obtain ⟨k, ks', rfl⟩ : ∃ k ks', ks = k :: ks' := by cases ks with | nil => simp at h | cons a b => exact ⟨a, b, rfl⟩
  unfold endsL
  rw [List.zipIdx_cons, List.flatMap_cons, List.length_append, List.length_map, List.length_range]
  have : 1 ≤ k.many.toNat := by cases k <;> decide
  show 0 < k.many.toNat + _
  omega
theorem Has.dropL {H : Hp} : ∀ (X : Kn) {L : Kn}, Has H (X ++ L) → Has H L
  | [], _, h => h
  | _ :: X, _, h => Has.dropL X (Has.tail h)

/-- a drawn yard: built, linked, thrown, its engine put -/
structure SetOk (y : YR) (ks : List Kd) (ns rs ss : List Int) (es : List En) (m : List (List Key × V)) (z : En) : Prop where
  R : Rep (wOf ks ns rs es m) ⟨ss, some z, []⟩ y
  lw : Lw (wOf ks ns rs es m) ks ns rs m
  zi : z ∈ es
  ei : ∀ x ∈ es, x.2 ∈ endsL ks
  mi : MIn es m
  nx : y.next = ks.length
  kd : y.kinds = kvOf ks
  mt : y.mates = m
  tl : y.trail = []
  rg : y.rung = []
  k1 : 1 ≤ ks.length
  k24 : ks.length ≤ 24
  sl : ss.length ≤ 24
  ml : m.length ≤ 80
  nr : ∀ x ∈ ns, 0 ≤ x ∧ x ≤ 9999
  nlen : y.notes.length ≤ 24
  rlen : y.rods.length ≤ 24
  fr : ∀ i : Nat, ks.length ≤ i → valV y.notes (Sum.inl (i : Int)) = none ∧ valV y.rods (Sum.inl (i : Int)) = none
  mks : ∀ k ∈ m.map (·.1), ∃ p ∈ endsL ks, k = kE p.1 p.2
def sp_set (C : Addr) : Sp := fun vs H Q _ => ∃ (d : Addr) (ds : List Int) (a : Int) (L : Kn) (j : Nat), vs = [.ref d, .int a] ∧ Has H L ∧ L[j]? = some (d, .lst (ds.map V.int)) ∧ 0 ≤ a ∧ a + 184 ≤ ds.length ∧
  ∀ (H' : Hp) (tp : Addr) (A : YA) (y : YR) (ks : List Kd) (ns rs ss : List Int) (es : List En) (m : List (List Key × V)) (z : En) (sd mh rr nn kk : Addr), SetOk y ks ns rs ss es m z →
    Has H' ((tp, .tup [.ref A.p, .ref kk, .ref nn, .ref rr, .ref sd, .ref mh, .ref z.1]) :: (yL C A y ++ ((sd, .lst (ss.map V.int)) :: (mh, .dT m) :: (rr, .lst (rs.map V.int)) :: (nn, .lst (ns.map V.int)) :: (kk, .lst (ksV ks)) :: (esK es ++ L)))) → Q (.ref tp) H'
section
variable {P : Program} {w : World} {K : PySem.W.Frag} {mg : Str → Option Value} {base : Heap} {t : Adr}
theorem scSe : FnScope ["_law_d", "_law_at", "_law_yard", "_law_kinds_here", "_law_notes", "_law_rods", "_law_sides", "_law_mates", "_law_start"] ["_law_d", "_law_at"] (defScope s_set) := ⟨rfl, rfl, rfl, by decide +kernel, rfl, by decide +kernel, by decide +kernel⟩
theorem ok_set (T : Txt K mg t) : FnOk P w K mg base CX0 6 t.f_set t.d_set ["_law_d", "_law_at"] (sp_set t.c_Yard) := by
  refine T.F_set.ok scSe (fun vs H Q E h => ?_) (fun cdv A outer s H vs Q E hr h => ?_)
  · obtain ⟨_, _, _, _, _, rfl, _⟩ := h
    rfl
  · obtain ⟨d, ds, a, L, j, rfl, hH, hj, a0, hds, q⟩ := h
    refine ⟨_, (pss_cons (ps_asg (pe_call (ok_built T) (hr.mono (by decide)) (by rfl) T.m_built T.F_built.kp (b_built T) .nil pass0 (pa_cons (pv 0) (pa_cons (pe_op op_add (pv 1) pe_int) (pa_cons (pe_call (ok_size T) (hr.mono (by decide)) (by rfl) T.m_size T.F_size.kp (b_size T) .nil pass0 (pa_cons (pe_ix ix_list (pv 0) (pv 1) (fun _ _ => rfl)) pa_nil)) pa_nil)))) (pg_tup rfl (pgs_cons (pg_name (i := 2) scSe.nd rfl (Or.inl rfl)) (pgs_cons (pg_name (i := 3) scSe.nd rfl (Or.inl rfl)) (pgs_cons (pg_name (i := 4) scSe.nd rfl (Or.inl rfl)) (pgs_cons (pg_name (i := 5) scSe.nd rfl (Or.inl rfl)) (pgs_cons (pg_name (i := 6) scSe.nd rfl (Or.inl rfl)) pgs_nil)))))))
      (pss_cons (ps_set (i := 7) scSe.nd rfl (Or.inl rfl) (pe_call (ok_linked T) (hr.mono (by decide)) (by rfl) T.m_linked T.F_linked.kp (b_linked T) .nil pass0 (pa_cons (pv 2) (pa_cons (pv 3) (pa_cons (pv 0) (pa_cons (pe_op op_add (pv 1) pe_int) (pa_cons (pe_call (ok_links T) (hr.mono (by decide)) (by rfl) T.m_links T.F_links.kp (b_links T) .nil pass0 (pa_cons (pe_ix ix_list (pv 0) (pe_op op_add (pv 1) pe_int) (fun _ _ => rfl)) pa_nil)) pa_nil)))))))
      (pss_cons (ps_expr (pe_call (ok_thrown T) (hr.mono (by decide)) (by rfl) T.m_thrown T.F_thrown.kp (b_thrown T) .nil pass0 (pa_cons (pv 2) (pa_cons (pv 6) (pa_cons (pv 0) (pa_cons (pe_op op_add (pv 1) pe_int) pa_nil))))))
      (pss_cons (ps_set (i := 8) scSe.nd rfl (Or.inl rfl) (pe_ix ix_list (pe_call (ok_ends T) (hr.mono (by decide)) (by rfl) T.m_ends T.F_ends.kp (b_ends T) .nil pass0 (pa_cons (pv 3) pa_nil)) (pe_op op_mod (pe_ix ix_list (pv 0) (pe_op op_add (pv 1) pe_int) (fun _ _ => rfl)) (pe_callB call_len_seq (by rfl) T.z_len (by rfl) (pa_cons (pe_call (ok_ends T) (hr.mono (by decide)) (by rfl) T.m_ends T.F_ends.kp (b_ends T) .nil pass0 (pa_cons (pv 3) pa_nil)) pa_nil))) (fun _ _ => rfl)))
      (pss_cons (ps_expr (pe_meth (pv 2) T.cl_Yard T.M_Yard_put (ok_Yard_put T) (hr.mono (by decide)) (b_Yard_put T) .nil pass0 (pa_cons (pv 8) pa_nil)))
      (pss_one (ps_ret (pe_tup (pa_cons (pv 2) (pa_cons (pv 3) (pa_cons (pv 4) (pa_cons (pv 5) (pa_cons (pv 6) (pa_cons (pv 7) (pa_cons (pv 8) pa_nil))))))))))))))), ?_⟩
    have gd : SqL K H d (ds.map V.int) := SqL.of (hH.get j hj)
    refine ⟨_, rfl, _, rfl, _, _, rfl, rfl, _, rfl, _, rfl, d, _, _, _, rfl, rfl, gd, atD (by omega) (by omega), _, rfl, fun n n1 n24 => ?_⟩
    refine ⟨d, ds, a + 3, n, L, j, rfl, hH, hj, by omega, by omega, by omega, by omega, fun H2 A1 y ks ns rs ss tp sd rr nn kk B lk h2 => ?_⟩
    refine ⟨tp, _, rfl, SqT.of (h2.get 0 rfl), rfl, _, _, rfl, _, _, rfl, _, _, rfl, _, _, rfl, _, _, rfl, rfl, ?_⟩
    have h3 := h2.tail
    clear h2 hH gd
    have gd : ∀ {H : Hp} {M : Kn}, Has H (M ++ L) → SqL K H d (ds.map V.int) := fun {H M} h => SqL.of (h.get (M.length + j) (by rw [List.getElem?_append_right (by omega), show M.length + j - M.length = j by omega]; exact hj))
    refine ⟨_, rfl, _, rfl, _, rfl, _, rfl, _, _, rfl, rfl, _, rfl, _, rfl, _, _, rfl, rfl, d, _, _, _, rfl, rfl, gd (M := _ ++ _) (by rw [List.append_assoc]; exact h3), atD (by omega) (by omega), _, rfl, fun n2 m0 m40 => ?_⟩
    refine ⟨A1, y, _, kk, d, ks, ns, rs, ss, ds, a + 78, n2, 3, j + 4, rfl, h3, B, rfl, (by simpa using hj), by omega, by omega, by omega, by omega, by omega, fun H4 q4 mh m es M hes ml ekm h4 => ?_⟩
    clear h3
    have h5 := h4.perm (List.Perm.append_left _ ((List.Perm.cons (mh, HO.dT m) (List.perm_append_comm_assoc (esK es) [(sd, HO.lst (ss.map V.int)), (rr, .lst (rs.map V.int)), (nn, .lst (ns.map V.int)), (kk, .lst (ksV ks))] L)).trans (List.Perm.swap _ _ _)))
    clear h4
    have jL : ∀ (X : Kn) (es : List En), (X ++ (esK es ++ L))[X.length + es.length + j]? = some (d, .lst (ds.map V.int)) := fun X es => by
      have e : (esK es).length = es.length := by unfold esK; rw [List.length_map]
      rw [List.getElem?_append_right (by omega), List.getElem?_append_right (by omega), show X.length + es.length + j - X.length - (esK es).length = j by omega]
      exact hj
    have emem : ∀ x ∈ es, x.2 ∈ endsL ks := fun x hx => by rw [← hes]; exact List.mem_map.mpr ⟨x, hx, rfl⟩
    have ssl := B.sl
    refine ⟨_, rfl, _, rfl, _, rfl, _, rfl, _, _, rfl, rfl, { A1 with tr := q4 }, _, _, sd, d, ss, ds, a + 160, _, rfl, h5, B.sd, rfl, jL [(mh, HO.dT m), (rr, .lst (rs.map V.int)), (nn, .lst (ns.map V.int)), (kk, .lst (ksV ks))] es, by omega, by omega, by omega, fun H6 q6 ss' hl h12 h6 => ?_⟩
    clear h5
    refine ⟨_, rfl, kk, ks, _, 13, rfl, h6, rfl, by omega, fun H7 el es2 hes2 h7 => ?_⟩
    have g7 : SqL K H7 d (ds.map V.int) := SqL.of (h7.get (es2.length + (5 + es.length + j) + 10) (by
      have e : (esK es2).length = es2.length := by unfold esK; rw [List.length_map]
      show (esK es2 ++ (yL t.c_Yard _ _ ++ _))[es2.length + (5 + es.length + j) + 9]? = _
      rw [List.getElem?_append_right (by omega), show es2.length + (5 + es.length + j) + 9 - (esK es2).length = (5 + es.length + j) + 9 by omega]
      exact jL [(sd, HO.lst (ss'.map V.int)), (mh, HO.dT m), (rr, .lst (rs.map V.int)), (nn, .lst (ns.map V.int)), (kk, .lst (ksV ks))] es))
    refine ⟨_, rfl, _, rfl, _, _, rfl, rfl, d, _, _, _, rfl, rfl, g7, atD (by omega) (by omega), ?_⟩
    refine ⟨_, rfl, kk, ks, _, es2.length + 14, rfl, h7, (by
      have e : (esK es2).length = es2.length := by unfold esK; rw [List.length_map]
      show (esK es2 ++ (yL t.c_Yard _ _ ++ _))[es2.length + 13]? = _
      rw [List.getElem?_append_right (by omega), show es2.length + 13 - (esK es2).length = 13 by omega]
      rfl), by omega, fun H8 el3 es3 hes3 h8 => ?_⟩
    have e2 : es2.length = (endsL ks).length := by have := congrArg List.length hes2; rw [List.length_map] at this; exact this
    have e3 : (esV es3).length = es2.length := by have := congrArg List.length hes3; rw [List.length_map] at this; unfold esV; rw [List.length_map]; omega
    have ep := endsL_pos (ks := ks) (by omega)
    refine ⟨el3, _, rfl, .inl (SqL.of (h8.get 0 rfl)), _, _, rfl, rfl, (show (0 : Int) < ((esV es3).length : Int) by omega), ?_⟩
    rw [e3]
    replace h8 := Has.dropL (esK es3) h8.tail
    obtain ⟨i, il, ie, _⟩ := seqIx (n := es2.length) (x := ds.getD (a + 2).toNat 0) (by omega)
    refine ⟨el, _, _, _, rfl, rfl, SqL.of (h8.get 0 rfl), (by rw [ie]; exact atI_nat (esV_get (List.getElem?_eq_getElem il))), ?_⟩
    have zi : es2[i] ∈ es2 := List.getElem_mem il
    generalize es2[i] = z at zi ⊢
    have h9 := (h8.tail).perm ((List.perm_append_comm_assoc (esK es2) (yL t.c_Yard _ _) _).trans (List.Perm.append_left _ (List.perm_append_comm_assoc (esK es2) [(sd, HO.lst (ss'.map V.int)), (mh, HO.dT m), (rr, .lst (rs.map V.int)), (nn, .lst (ns.map V.int)), (kk, .lst (ksV ks))] (esK es ++ L))))
    rw [← esK_app] at h9
    clear h8 h7 h6 g7
    have zin : z.2 ∈ endsL ks := by rw [← hes2]; exact List.mem_map.mpr ⟨z, zi, rfl⟩
    have zi' : z ∈ es2 ++ es := List.mem_append_left _ zi
    obtain ⟨jz, hjz⟩ := en_pool (M := [(sd, HO.lst (ss'.map V.int)), (mh, HO.dT m), (rr, .lst (rs.map V.int)), (nn, .lst (ns.map V.int)), (kk, .lst (ksV ks))]) (R := L) zi'
    refine ⟨_, rfl, A1.p, A1.dx, _, rfl, h9.get 1 rfl, (fl_m4 _ _ _).1, _, rfl, { A1 with tr := q6 }, _, _, z.1, z.2.1, z.2.2, jz, rfl, h9, hjz, endsL_th B rfl zin, fun H10 q10 h10 => ?_⟩
    refine ⟨_, rfl, _, rfl, _, rfl, _, rfl, _, rfl, _, rfl, _, rfl, (show 7 ≤ sizeLine by decide), fun tp htp => ?_⟩
    have emem' : ∀ x ∈ es2 ++ es, x.2 ∈ endsL ks := fun x hx => by
      rcases List.mem_append.mp hx with h | h
      · rw [← hes2]; exact List.mem_map.mpr ⟨x, h, rfl⟩
      · exact emem x h
    have M' : MIn (es2 ++ es) m := M.mono (fun x hx => List.mem_append_right _ hx)
    refine q _ tp { A1 with tr := q10 } _ ks ns rs ss' (es2 ++ es) m z sd mh rr nn kk ?_ (h10.alloc htp _)
    have nl := B.nlen
    have rl := B.rlen
    refine ⟨Rep.of B M' emem' hl h12 (fun u hu => by cases hu; exact zin) rfl rfl rfl rfl rfl rfl B.rg, B.lw M', zi', emem', M', B.nx, B.kd, rfl, rfl, B.rg, by omega, by omega, by omega, by omega, B.nr, by show y.notes.length ≤ 24; omega, by show y.rods.length ≤ 24; omega, fun i hi => ⟨by show valV y.notes _ = none; rw [B.no, List.getElem?_eq_none hi, if_neg (fun e => nomatch e)], by show valV y.rods _ = none; rw [B.ro, List.getElem?_eq_none hi, if_neg (fun e => nomatch e)]⟩, ekm⟩
end

/-- two values that tell the same end, or none -/
def EqE (L : Kn) (v1 v2 : V) : Prop := (v1 = .non ∧ v2 = .non) ∨ ∃ (b1 b2 : Addr) (n e : Int) (j1 j2 : Nat), v1 = .ref b1 ∧ v2 = .ref b2 ∧ L[j1]? = some (b1, HO.tup [.int n, .int e]) ∧ L[j2]? = some (b2, HO.tup [.int n, .int e])
theorem EqE.refl {L : Kn} {v : V} (h : v = .non ∨ ∃ (z : En) (j : Nat), v = .ref z.1 ∧ L[j]? = some (z.1, HO.tup [.int z.2.1, .int z.2.2])) : EqE L v v := by
  rcases h with h | ⟨z, j, e, hj⟩
  · exact .inl ⟨h, h⟩
  · exact .inr ⟨z.1, z.1, z.2.1, z.2.2, j, j, e, e, hj, hj⟩

theorem intsV_map (n : Nat) : intsV n = ((List.range n).map Int.ofNat).map V.int := by rw [List.map_map]; rfl
theorem kvOf_keys (ks : List Kd) : ((kvOf ks).map fun kv => kV kv.1) = ((List.range ks.length).map Int.ofNat).map V.int := by
  unfold kvOf
  rw [List.map_map, show ((fun kv : Key × V => kV kv.1) ∘ fun p : Kd × Nat => ((Sum.inl (p.2 : Int) : Key), V.str p.1.str)) = (fun n : Nat => V.int (n : Int)) ∘ Prod.snd from rfl, ← List.map_map, List.zipIdx_map_snd, List.range_eq_range', List.map_map]
  rfl
def sp_same (C : Addr) : Sp := fun vs H Q _ => ∃ (A : YA) (y : YR) (L : Kn) (kk sd mh gg : Addr) (ks : List Kd) (ss rg : List Int) (m : List (List Key × V)) (v : V) (tr : Int) (jk js jm jg : Nat), vs = [.ref A.p, .ref kk, .ref sd, .ref mh, .ref gg, v, .int tr] ∧ Has H (yL C A y ++ L) ∧
  L[jk]? = some (kk, .lst (ksV ks)) ∧ L[js]? = some (sd, .lst (ss.map V.int)) ∧ L[jm]? = some (mh, .dT m) ∧ L[jg]? = some (gg, .lst (rg.map V.int)) ∧ y.kinds = kvOf ks ∧ y.sides = ss.map V.int ∧ y.rung = rg.map V.int ∧ EqE L y.eng v ∧ (y.trail.length : Int) = tr ∧
  (∀ p ∈ endsL ks, EqE L ((valV y.mates (kE p.1 p.2)).getD .non) ((valV m (kE p.1 p.2)).getD .non)) ∧ ks.length ≤ 1000 ∧ ss.length ≤ 10000 ∧ rg.length ≤ 100000 ∧ ∀ H', Has H' (yL C A y ++ L) → Q (.bl true) H'
section
variable {P : Program} {w : World} {K : PySem.W.Frag} {mg : Str → Option Value} {base : Heap} {t : Adr}
theorem scSm : FnScope ["_law_yard", "_law_kinds_here", "_law_sides", "_law_mates", "_law_rung", "_law_at", "_law_trail", "_law_end"] ["_law_yard", "_law_kinds_here", "_law_sides", "_law_mates", "_law_rung", "_law_at", "_law_trail"] (defScope s_same) := ⟨rfl, rfl, rfl, by decide +kernel, rfl, by decide +kernel, by decide +kernel⟩
theorem ok_same (T : Txt K mg t) : FnOk P w K mg base CX0 6 t.f_same t.d_same ["_law_yard", "_law_kinds_here", "_law_sides", "_law_mates", "_law_rung", "_law_at", "_law_trail"] (sp_same t.c_Yard) := by
  refine T.F_same.ok scSm (fun vs H Q E h => ?_) (fun cdv A outer s H vs Q E hr h => ?_)
  · obtain ⟨_, _, _, _, _, _, _, _, _, _, _, _, _, _, _, _, _, rfl, _⟩ := h
    rfl
  · obtain ⟨A, y, L, kk, sd, mh, gg, ks, ss, rg, m, v, tr, jk, js, jm, jg, rfl, hH, hjk, hjs, hjm, hjg, ekd, esd, erg, een, etr, emt, kl, sl, gl, q⟩ := h
    have hu := hu_of hr
    refine ⟨_, (pss_cons (ps_if (PW.pt (pw_or (pt_not (pt_val (pe_call (ok_is_row T) (hr.mono (by decide)) (by rfl) T.m_is_row T.F_is_row.kp (b_is_row T) .nil pass0 (pa_cons (pe_meth0 (pv 0) T.cl_Yard T.M_Yard_pieces (ok_Yard_pieces T) (hr.mono (by decide)) (b_Yard_pieces T) .nil pass0) (pa_cons (pe_callTy (call_list_rng rfl) (by rfl) T.z_list (by rfl) (pa_cons (pe_callTy call_range1 (by rfl) T.z_range (by rfl) (pa_cons (pe_callB call_len_seq (by rfl) T.z_len (by rfl) (pa_cons (pv 1) pa_nil)) pa_nil)) pa_nil)) pa_nil))))) (pw_or1 (pt_not (pt_val (pe_call (ok_is_row T) (hr.mono (by decide)) (by rfl) T.m_is_row T.F_is_row.kp (b_is_row T) .nil pass0 (pa_cons (pe_meth0 (pv 0) T.cl_Yard T.M_Yard_bells (ok_Yard_bells T) (hr.mono (by decide)) (b_Yard_bells T) .nil pass0) (pa_cons (pv 4) pa_nil))))))))
        (pss_one (ps_ret pe_bl))
        pss_nil)
      (pss_cons (ps_if (PW.pt (pw_or (pt_not (pt_val (pe_call (ok_is_end T) (hr.mono (by decide)) (by rfl) T.m_is_end T.F_is_end.kp (b_is_end T) .nil pass0 (pa_cons (pe_meth0 (pv 0) T.cl_Yard T.M_Yard_engine (ok_Yard_engine T) (hr.mono (by decide)) (b_Yard_engine T) .nil pass0) (pa_cons (pv 5) pa_nil))))) (pw_or1 (pt_not (pt_val (pe_call (ok_is T) (hr.mono (by decide)) (by rfl) T.m_is T.F_is.kp (b_is T) .nil pass0 (pa_cons (pe_meth0 (pv 0) T.cl_Yard T.M_Yard_steps (ok_Yard_steps T) (hr.mono (by decide)) (b_Yard_steps T) .nil pass0) (pa_cons (pv 6) pa_nil))))))))
        (pss_one (ps_ret pe_bl))
        pss_nil)
      (pss_cons (ps_for PassesOwn.never rfl (pi_list (pe_call (ok_ends T) (hr.mono (by decide)) (by rfl) T.m_ends T.F_ends.kp (b_ends T) .nil pass0 (pa_cons (pv 1) pa_nil))) (pg_name (i := 7) scSm.nd rfl (Or.inl rfl))
        (pss_one (ps_if (pt_not (pt_val (pe_call (ok_is_end T) (hr.mono (by decide)) (by rfl) T.m_is_end T.F_is_end.kp (b_is_end T) .nil pass0 (pa_cons (pe_meth (pv 0) T.cl_Yard T.M_Yard_mate (ok_Yard_mate T) (hr.mono (by decide)) (b_Yard_mate T) .nil pass0 (pa_cons (pv 7) pa_nil)) (pa_cons (pe_dget1 hu (pv 3) (pv 7) ⟨rfl, rfl, rfl, rfl⟩) pa_nil)))))
            (pss_one (ps_ret pe_bl))
            pss_nil)))
      (pss_one (ps_ret (pe_callB (call_all rfl) (by rfl) T.z_all (by rfl) (pa_cons (pe_lc (esc := defScope s_same) (k := 2) ["_law_rod", "_law_side", "_law_yard", "_law_kinds_here", "_law_sides", "_law_mates", "_law_rung", "_law_at", "_law_trail", "_law_end"] rfl (pi_enum (by rfl) T.z_enumerate (pa_cons (pv 2) pa_nil)) (fun _ _ _ _ _ => by exact (pg_tupK (K := K) (n := 2) rfl rfl (pgs_cons (pg_name (i := 0) (show List.Nodup (["_law_rod", "_law_side", "_law_yard", "_law_kinds_here", "_law_sides", "_law_mates", "_law_rung", "_law_at", "_law_trail", "_law_end"] : List Str) from by decide +kernel) rfl (Or.inl rfl)) (pgs_cons (pg_name (i := 1) (show List.Nodup (["_law_rod", "_law_side", "_law_yard", "_law_kinds_here", "_law_sides", "_law_mates", "_law_rung", "_law_at", "_law_trail", "_law_end"] : List Str) from by decide +kernel) rfl (Or.inl rfl)) pgs_nil)))) (fun _ _ _ _ _ => by exact pts_nil) (fun _ _ _ _ _ => by exact (pe_call (ok_is T) (hr.mono (by decide)) (by rfl) T.m_is T.F_is.kp (b_is T) .nil pass0 (pa_cons (pe_meth (pv 2) T.cl_Yard T.M_Yard_side (ok_Yard_side T) (hr.mono (by decide)) (b_Yard_side T) .nil pass0 (pa_cons (pv 0) pa_nil)) (pa_cons (pv 1) pa_nil)))) rfl (by decide +kernel) (by decide +kernel) rfl (by decide +kernel) (by rfl) (fun _ _ h _ => h) (by decide +kernel)) pa_nil))))))), ?_⟩
    have gk : ∀ {H : Hp} {M : Kn}, Has H (M ++ (yL t.c_Yard A y ++ L)) → ∀ {j : Nat} {x : Addr × HO}, L[j]? = some x → H x.1 = some x.2 := fun {H M} h {j x} hj => h.get (M.length + (j + 9)) (by
      rw [List.getElem?_append_right (by omega), show M.length + (j + 9) - M.length = j + 9 by omega]
      simpa [yL] using hj)
    -- the pieces
    refine ⟨_, rfl, A.p, A.dx, _, rfl, hH.get 1 rfl, (fl_m4 _ _ _).2.2.2.1, A, y, L, rfl, hH, fun H1 l h1 => ?_⟩
    refine ⟨_, rfl, kk, _, rfl, .inl (SqL.of (gk (M := [_]) h1 hjk)), _, rfl, fun p hp => ?_⟩
    have klen : (ksV ks).length = ks.length := by unfold ksV; rw [List.length_map]
    have h2 := h1.alloc hp (.rng 0 ((ksV ks).length : Int))
    refine ⟨p, _, rfl, h2.get 0 rfl, by omega, by omega, fun l2 hl2 => ?_⟩
    have h3 := h2.alloc hl2 (.lst (intsV ((ksV ks).length : Int).toNat))
    rw [show (((ksV ks).length : Int)).toNat = ks.length by omega, intsV_map] at h3 ⊢
    rw [ekd, kvOf_keys] at h3
    refine ⟨l, l2, (List.range ks.length).map Int.ofNat, (List.range ks.length).map Int.ofNat, 2, 0, _, rfl, h3, rfl, rfl, by simp; omega, fun H4 h4 => ?_⟩
    rw [decide_eq_true rfl]
    refine ⟨_, rfl, iteF ?_⟩
    have h5 := h4.tail.tail.tail
    clear h1 h2 h3 h4 hp hl2
    -- the bells
    refine ⟨_, rfl, A.p, A.dx, _, rfl, h5.get 1 rfl, (fl_m4 _ _ _).2.2.2.2.2.2.2.1, A, y, L, rfl, h5, fun H6 l6 h6 => ?_⟩
    rw [erg] at h6
    refine ⟨_, rfl, l6, gg, rg, rg, 0, jg + 10, _, rfl, h6, rfl, (by simpa [yL] using hjg), gl, fun H7 h7 => ?_⟩
    rw [decide_eq_true rfl]
    refine ⟨_, rfl, iteF ?_⟩
    replace h7 := h7.tail
    clear h5 h6
    -- the engine, the steps
    refine ⟨_, rfl, A.p, A.dx, _, rfl, h7.get 1 rfl, (fl_m4 _ _ _).2.2.2.2.2.2.1, A, y, L, rfl, h7, _, rfl, ?_⟩
    have isE : ∀ {H : Hp} {M : Kn} {v1 v2 : V} {G : Prop}, Has H (M ++ (yL t.c_Yard A y ++ L)) → EqE L v1 v2 → G → ((([v1, v2] ++ [] : List V) = [.non, .non] ∧ G) ∨ ∃ (a b : Addr) (n e : Int), ([v1, v2] ++ [] : List V) = [.ref a, .ref b] ∧ H a = some (.tup [.int n, .int e]) ∧ H b = some (.tup [.int n, .int e]) ∧ G) := fun {H M v1 v2 G} h e hq => by
      rcases e with ⟨rfl, rfl⟩ | ⟨b1, b2, n, e, j1, j2, rfl, rfl, g1, g2⟩
      · exact .inl ⟨rfl, hq⟩
      · exact .inr ⟨b1, b2, n, e, rfl, gk h g1, gk h g2, hq⟩
    refine isE (M := []) h7 een ?_
    refine ⟨_, rfl, iteF ?_⟩
    refine ⟨_, rfl, A.p, A.dx, _, rfl, h7.get 1 rfl, (fl_m4 _ _ _).2.2.2.2.2.2.2.2, A, y, L, rfl, h7, _, rfl, _, _, rfl, ?_⟩
    rw [decide_eq_true etr]
    refine ⟨_, rfl, iteF ?_⟩
    -- the mates
    refine ⟨_, rfl, kk, ks, _, jk + 9, rfl, h7, (by simpa [yL] using hjk), kl, fun H8 el es hes h8 => ?_⟩
    have emem : ∀ x ∈ es, x.2 ∈ endsL ks := fun x hx => by rw [← hes]; exact List.mem_map.mpr ⟨x, hx, rfl⟩
    refine ⟨el, rfl, ⟨_, SqL.of (h8.get 0 rfl)⟩, for_list (xs := esV es) (fun i σ H' => ∃ o1 : Option V, σ = [some (.ref A.p), some (.ref kk), some (.ref sd), some (.ref mh), some (.ref gg), some v, some (.int tr), o1] ∧ Has H' ((el, .lst (esV es)) :: (esK es ++ (yL t.c_Yard A y ++ L)))) ⟨_, rfl, h8⟩ (fun i σ H' _ ⟨_, _, h⟩ => SqL.of (h.get 0 rfl)) ?_ ?_⟩
    · clear h8
      rintro i x σ H8 hx ⟨o1, rfl, h8⟩
      have hi : i < es.length := by
        have := (List.getElem?_eq_some_iff.mp hx).1
        unfold esV at this
        rw [List.length_map] at this; exact this
      rw [esV_get (List.getElem?_eq_getElem hi)] at hx
      cases hx
      have ein := emem _ (List.getElem_mem hi)
      have gi := esK_get (yL t.c_Yard A y ++ L) (List.getElem?_eq_getElem hi)
      generalize es[i] = z at ein gi ⊢
      have h9 := Has.comm (X := (el, .lst (esV es)) :: esK es) (Y := yL t.c_Yard A y) (R := L) h8
      have gz : H8 z.1 = some (.tup [.int z.2.1, .int z.2.2]) := h8.get (i + 1) gi
      have th : There y z.2.1 z.2.2 := by
        obtain ⟨i, k, e1, e2, e3, e4⟩ := endsL_there (n := z.2.1) (e := z.2.2) ein
        exact ⟨k, by rw [ekd, e1, valV_kvOf, e2]; rfl, e3, e4⟩
      have hix : ((el, HO.lst (esV es)) :: (esK es ++ L))[i + 1]? = some (z.1, HO.tup [.int z.2.1, .int z.2.2]) := by
        rw [List.getElem?_cons_succ]
        rw [List.getElem?_append_left (by unfold esK; rw [List.length_map]; exact hi)] at gi
        rw [List.getElem?_append_left (by unfold esK; rw [List.length_map]; exact hi)]
        exact gi
      refine ⟨_, rfl, A.p, A.dx, _, rfl, h9.get 1 rfl, (fl_m2 _ _ _).2.1, _, rfl, A, y, _, z.1, z.2.1, z.2.2, i + 1, rfl, h9, hix, th, ?_⟩
      have gm := gk (M := (el, .lst (esV es)) :: esK es) h8 hjm
      refine ⟨_, rfl, mh, rfl, .inr ⟨_, .inl gm⟩, _, rfl, _, DGet.t (k := kE z.2.1 z.2.2) gm gz, ?_⟩
      refine isE (M := (el, .lst (esV es)) :: esK es) h8 (emt z.2 ein) ?_
      exact ⟨_, rfl, iteF ⟨_, rfl, h8⟩⟩
    · rintro σ H8 ⟨o1, rfl, h8⟩
      have h5 : Has H8 (yL t.c_Yard A y ++ L) := Has.dropL (esK es) h8.tail
      clear h8 h7
      have gb5 := gk (M := []) h5 hjs
      refine ⟨_, rfl, sd, rfl, ⟨_, SqL.of gb5⟩, fun D hD => ?_⟩
      refine ⟨fun n m zs H' => m = ss.length - n ∧ n ≤ ss.length ∧ zs = (List.replicate n true).map V.bl ∧ Has H' ((D, .lst zs) :: (yL t.c_Yard A y ++ L)), ⟨ss.length, by simp, Nat.zero_le _, rfl, h5.alloc hD _⟩, ?_⟩
      rintro n m' zs H' ⟨rfl, hn, rfl, h6⟩
      refine ⟨h6.get 0 rfl, ?_⟩
      have gb6 := gk (M := [_]) h6 hjs
      by_cases hlt : n < ss.length
      · have gn : (ss.map V.int)[n]? = some (V.int ss[n]) := by rw [List.getElem?_map, List.getElem?_eq_getElem hlt]; rfl
        refine .inr ⟨⟨_, _, SqL.of gb6, gn⟩, ?_⟩
        rintro x H2 ⟨p, x1, rfl, hp, rfl, hx1⟩
        have hx2 := hx1 _ (SqL.of gb6)
        rw [gn] at hx2
        cases hx2
        have h7 := h6.alloc hp (.tup [.int n, .int ss[n]])
        refine ⟨p, _, rfl, SqT.of (h7.get 0 rfl), rfl, _, _, rfl, _, _, rfl, rfl, rfl, ?_⟩
        refine tTrueT ?_
        refine ⟨_, rfl, A.p, A.dx, _, rfl, h7.get 3 rfl, (fl_m _ _ _).2.2.2.2.2.1, _, rfl, A, y, (p, .tup [.int n, .int ss[n]]) :: (D, .lst ((List.replicate n true).map V.bl)) :: L, n, V.int ss[n], rfl, ?_, by omega, (by rw [esd]; simpa using gn), ?_⟩
        · exact Has.comm (X := [(p, .tup [.int n, .int ss[n]]), (D, .lst ((List.replicate n true).map V.bl))]) (Y := yL t.c_Yard A y) (R := L) h7
        refine ⟨_, rfl, _, _, rfl, ?_⟩
        rw [decide_eq_true rfl]
        refine ⟨?_, h7.get 1 rfl, ss.length - (n + 1), by omega, rfl, hlt, ?_, ?_⟩
        · rw [List.length_map, List.length_replicate]
          exact sizeOk (by omega)
        · rw [List.replicate_succ', List.map_append]; rfl
        · exact (h7.puti 1 rfl _).tail
      · have en : n = ss.length := by omega
        refine .inl ⟨⟨_, SqL.of gb6, by rw [List.length_map]; omega⟩, ?_⟩
        refine ⟨D, List.replicate n true, rfl, SqL.of (h6.get 0 rfl), ?_⟩
        rw [all_true]
        exact q _ h6.tail
end

end P


set_option Elab.async false
set_option linter.all false
set_option maxRecDepth 100000
set_option maxHeartbeats 4000000
namespace P
open PySem L2

theorem hist_le (w : Wd) : ∀ (n : Nat) (s : Sd), (w.hist n s).length ≤ n
  | 0, _ => Nat.le_refl _
  | n + 1, s => by
    cases h : w.nx s with
    | none => rw [hist_held w h]; exact Nat.zero_le _
    | some s' => rw [hist_succ w h, List.length_cons]; have := hist_le w n s'; omega
/-- a run that was not held may be cut -/
theorem go_add (w : Wd) : ∀ (j e : Nat) (s : Sd), (w.hist j s).length = j → w.go (j + e) s = w.go e (w.go j s) ∧ w.hist (j + e) s = w.hist j s ++ w.hist e (w.go j s)
  | 0, e, s, _ => by rw [Nat.zero_add]; exact ⟨rfl, rfl⟩
  | j + 1, e, s, hl => by
    cases h : w.nx s with
    | none => rw [hist_held w h] at hl; cases hl
    | some s' =>
      rw [hist_succ w h, List.length_cons] at hl
      obtain ⟨a, b⟩ := go_add w j e s' (by omega)
      rw [show j + 1 + e = (j + e) + 1 by omega, go_succ w h, go_succ w h, hist_succ w h, hist_succ w h, a, b]
      exact ⟨rfl, rfl⟩
theorem hist_take (w : Wd) {n : Nat} {s : Sd} (h : (w.hist n s).length = n) {j : Nat} (hj : j ≤ n) : (w.hist j s).length = j ∧ w.hist j s = (w.hist n s).take j := by
  have key : ∀ (n j : Nat) (s : Sd), (w.hist n s).length = n → j ≤ n → (w.hist j s).length = j ∧ w.hist j s = (w.hist n s).take j := by
    intro n
    induction n with
    | zero => intro j s _ hj; have : j = 0 := by omega
              subst this; exact ⟨rfl, rfl⟩
    | succ n ih =>
      intro j s hl hj
      cases h : w.nx s with
      | none => rw [hist_held w h] at hl; cases hl
      | some s' =>
        rw [hist_succ w h, List.length_cons] at hl
        cases j with
        | zero => exact ⟨rfl, rfl⟩
        | succ j =>
          obtain ⟨a, b⟩ := ih j s' (by omega) (by omega)
          rw [hist_succ w h, hist_succ w h, List.length_cons, a, List.take_succ_cons, b]
          exact ⟨rfl, rfl⟩
  exact key n j s h hj
/-- the last step of a run -/
theorem hist_last (w : Wd) {n : Nat} {s : Sd} (h : (w.hist (n + 1) s).length = n + 1) : w.nx (w.go n s) = some (w.go (n + 1) s) ∧ w.hist (n + 1) s = w.hist n s ++ [w.go n s] := by
  have t := (hist_take w h (Nat.le_succ n)).1
  obtain ⟨a, b⟩ := go_add w n 1 s t
  cases hx : w.nx (w.go n s) with
  | none =>
    rw [b, hist_held w hx, List.append_nil] at h
    omega
  | some s' =>
    rw [hist_succ w hx] at b
    rw [go_succ w hx] at a
    exact ⟨by rw [a]; rfl, b⟩
theorem set_back {l : List Int} {i : Nat} {x : Int} : (l.set i x).set i (l.getD i 0) = l := by
  rw [List.set_set]
  by_cases h : i < l.length
  · rw [List.getD_eq_getElem?_getD, List.getElem?_eq_getElem h]; exact List.set_getElem_self h
  · rw [List.set_eq_of_length_le (by omega)]
theorem Rep.ofOkw {w : Wd} {s s' : Sd} {y y' : YR} (R : Rep w s y) (O : Okw w s') (e1 : y'.kinds = y.kinds) (e2 : y'.notes = y.notes) (e3 : y'.rods = y.rods) (e4 : y'.mates = y.mates) (e5 : y'.sides = s'.ss.map V.int) (e6 : y'.eng = enV s'.at_) (e7 : y'.rung = s'.rg.map V.int) : Rep w s' y' :=
  ⟨fun n k h => by rw [e1]; exact R.kd n k h, fun n k h => by rw [e2]; exact R.no n k h, fun n k h => by rw [e3]; exact R.ro n k h, O.rr, e5, O.s12, fun n e => by rw [e4]; exact R.mt n e, O.mo, e6, O.eo, e7⟩
theorem Okw.go {w : Wd} : ∀ (n : Nat) {s : Sd}, Okw w s → Okw w (w.go n s)
  | 0, _, h => h
  | n + 1, s, h => by
    cases hx : w.nx s with
    | none => rw [go_held w hx]; exact h
    | some s' =>
      rw [go_succ w hx]
      obtain ⟨z, k, o, z', hz, hk, ho, hm, rfl⟩ := nx_some hx
      exact Okw.go n (h.step hz hk hm)
theorem Pool.go {w : Wd} {L : Kn} : ∀ (n : Nat) {s : Sd}, Pool w s L → Pool w (w.go n s) L
  | 0, _, h => h
  | n + 1, s, h => by
    cases hx : w.nx s with
    | none => rw [go_held w hx]; exact h
    | some s' => rw [go_succ w hx]; exact Pool.go n (h.step hx)
def sp_take (C : Addr) : Sp := fun vs H Q _ => ∃ (A : YA) (y : YR) (L : Kn) (w : Wd) (s s0 : Sd) (a : Addr) (ts : List V) (j : Nat), vs = [.ref A.p] ∧ Has H (yL C A y ++ L) ∧ Rep w s y ∧ Okw w s0 ∧ w.nx s0 = some s ∧ Pool w s0 L ∧ y.trail = ts ++ [.ref a] ∧ L[j]? = some (a, w.tr s0) ∧
  ∀ H', Has H' (yL C A { y with sides := s0.ss.map V.int, eng := enV s0.at_, rung := s0.rg.map V.int, trail := ts } ++ L) → Q .non H'
def sp_back (C : Addr) : Sp := fun vs H Q _ => ∃ (A : YA) (y : YR) (L : Kn) (w : Wd) (s : Sd) (ts : List (Addr × Sd)) (m : Int), vs = [.ref A.p, .int m] ∧ Has H (yL C A y ++ (trK w ts ++ L)) ∧ Okw w s ∧ Rep w (w.go ts.length s) y ∧ Pool w s L ∧ y.trail = trV ts ∧ ts.map (·.2) = w.hist ts.length s ∧ ts.length ≤ 900000 ∧
  ∀ (H' : Hp) (y' : YR) (j : Nat), (j : Int) = ts.length - max 0 (min m ts.length) → Has H' (yL C A y' ++ (trK w (ts.take j) ++ L)) → Rep w (w.go j s) y' → y'.trail = trV (ts.take j) → (ts.take j).map (·.2) = w.hist j s → y'.next = y.next → y'.kinds = y.kinds → y'.notes = y.notes → y'.rods = y.rods → y'.mates = y.mates → Q (.int (max 0 (min m ts.length))) H'
theorem fl_m5 (A : YA) (next : Int) (eng : V) : (fl A next eng).lookup ("take_back" : Str) = none ∧ (fl A next eng).lookup ("make_twin" : Str) = none ∧ (fl A next eng).lookup ("lift" : Str) = none := ⟨by kernel_rfl, by kernel_rfl, by kernel_rfl⟩
section
variable {P : Program} {w : World} {K : PySem.W.Frag} {mg : Str → Option Value} {base : Heap} {t : Adr}
theorem scTb : FnScope ["self", "end", "side", "piece"] ["self"] (defScope s_Yard_take_back) := ⟨rfl, rfl, rfl, by decide +kernel, rfl, by decide +kernel, by decide +kernel⟩
theorem ok_Yard_take_back (T : Txt K mg t) : FnOk P w K mg base CX0 1 t.f_Yard_take_back t.d_Yard_take_back ["self"] (sp_take t.c_Yard) := by
  refine T.F_Yard_take_back.ok scTb (fun vs H Q E h => ?_) (fun cdv A outer s H vs Q E hr h => ?_)
  · obtain ⟨_, _, _, _, _, _, _, _, _, rfl, _⟩ := h
    rfl
  · obtain ⟨A, y, L, W, s1, s0, a, ts, j, rfl, hH, R, O, hn, PL, ht, hj, q⟩ := h
    have hu := hu_of hr
    obtain ⟨z, k, o, z', hz, hk, ho, hm, rfl⟩ := nx_some hn
    obtain ⟨jz, hjz⟩ := PL.e z hz
    refine ⟨_, (pss_cons (ps_asg (pe_bm0 PySem.F.plainAttrs_list PySem.F.slot_list_pop PySem.F.type_list_pop mt_pop (pe_fld (pv 0) rfl)) (pg_tup rfl (pgs_cons (pg_name (i := 1) scTb.nd rfl (Or.inl rfl)) (pgs_cons (pg_name (i := 2) scTb.nd rfl (Or.inl rfl)) pgs_nil))))
      (pss_cons (ps_set (i := 3) scTb.nd rfl (Or.inl rfl) (pe_ix ix_tup (pv 1) pe_int (fun _ _ => rfl)))
      (pss_cons (ps_if (pt_cmp (pc_din hu (pv 3) (pe_fld (pv 0) rfl)))
        (pss_one (ps_asg (pv 2) (pg_sub (pe_fld (pv 0) rfl) (pe_dget hu (pe_fld (pv 0) rfl) (pv 3) (fun _ _ => rfl)) set_list)))
        pss_nil)
      (pss_cons (ps_if (pt_cmp (pc_din hu (pv 3) (pe_fld (pv 0) rfl)))
        (pss_one (ps_expr (pe_bm0 PySem.F.plainAttrs_list PySem.F.slot_list_pop PySem.F.type_list_pop mt_pop (pe_fld (pv 0) rfl))))
        pss_nil)
      (pss_one (ps_fld (pv 0) (pv 1) rfl)))))), ?_⟩
    refine ⟨_, rfl, A.p, _, A.dx, _, _, rfl, hH.get 1 rfl, T.cl_Yard, T.n_Yard_trail, fl_trail _ _ _, .inl ⟨rfl, _, SqL.of (hH.get 0 rfl)⟩, A.tr, _, _, rfl, rfl, hH.get 0 rfl, (show y.trail[y.trail.length - 1]? = some (.ref a) by rw [ht]; simp), ?_⟩
    rw [show y.trail.dropLast = ts by rw [ht]; simp]
    have h1 : Has _ (yL t.c_Yard A { y with trail := ts } ++ L) := hH.puti 0 rfl (.lst ts)
    generalize upd H A.tr _ = H1 at h1 ⊢
    have ga := h1.get (j + 9) (by simpa [yL] using hj)
    have gz := h1.get (jz + 9) (by simpa [yL] using hjz)
    have etr : W.tr s0 = .tup [.ref z.1, if k.point then .int (W.sv s0 z.2.1) else .non] := by unfold Wd.tr; rw [hz]; show HO.tup [.ref z.1, W.tv s0 z] = _; unfold Wd.tv; rw [hk]
    rw [etr] at ga
    refine ⟨a, _, rfl, SqT.of ga, rfl, _, _, rfl, _, _, rfl, rfl, ?_⟩
    refine ⟨_, rfl, z.1, _, _, _, rfl, rfl, SqT.of gz, rfl, ?_⟩
    refine ⟨_, rfl, _, rfl, A.p, _, A.dx, _, _, rfl, h1.get 1 rfl, T.cl_Yard, T.n_Yard_rods_under, fl_rods _ _ _, A.r, _, rfl, DGet.k (k := Sum.inl z.2.1) (h1.get 5 rfl), _, rfl, if2 (fun hp => ?_) (fun hp => ?_)⟩
    · have kp : k.point = true := by
        have e : valV y.rods (Sum.inl z.2.1) = _ := R.ro _ _ hk
        by_cases c : k.point = true
        · exact c
        · rw [if_neg c] at e
          rw [show valV ({ y with trail := ts } : YR).rods (Sum.inl z.2.1) = none from e] at hp
          cases hp
      have vr : valV y.rods (Sum.inl z.2.1) = some (.int (W.rf z.2.1)) := by rw [R.ro _ _ hk, if_pos kp]
      obtain ⟨r0, r1⟩ := O.rr _ _ hk kp
      rw [if_pos kp]
      have ysl : y.sides.length = s0.ss.length := by
        rw [R.sd, List.length_map]; unfold stepS; dsimp only; rw [if_pos kp, List.length_set]
      have hjx : ixN y.sides.length (W.rf z.2.1) = some (W.rf z.2.1).toNat := by unfold ixN; rw [if_pos r0, if_pos (by omega)]
      refine ⟨_, rfl, _, rfl, A.p, _, A.dx, _, _, rfl, h1.get 1 rfl, T.cl_Yard, T.n_Yard_sides, fl_sides _ _ _, _, rfl, A.p, _, A.dx, _, _, rfl, h1.get 1 rfl, T.cl_Yard, T.n_Yard_rods_under, fl_rods _ _ _, _, rfl, A.r, _, rfl, (by rw [← vr]; exact DGet.k (k := Sum.inl z.2.1) (h1.get 5 rfl)), A.s, _, _, _, rfl, rfl, h1.get 6 rfl, hjx, ?_⟩
      have h2 : Has _ (yL t.c_Yard A { y with sides := y.sides.set (W.rf z.2.1).toNat (.int (W.sv s0 z.2.1)), trail := ts } ++ L) := h1.puti 6 rfl (.lst (y.sides.set (W.rf z.2.1).toNat (.int (W.sv s0 z.2.1))))
      generalize upd H1 A.s _ = H2 at h2 ⊢
      have es : s0.ss.map V.int = y.sides.set (W.rf z.2.1).toNat (.int (W.sv s0 z.2.1)) := by
        rw [R.sd]; unfold stepS; dsimp only; rw [if_pos kp, ← List.map_set]
        unfold Wd.sv
        rw [set_back]
      refine ⟨_, rfl, _, rfl, A.p, _, A.dx, _, _, rfl, h2.get 1 rfl, T.cl_Yard, T.n_Yard_notes, fl_notes _ _ _, A.n, _, rfl, DGet.k (k := Sum.inl z.2.1) (h2.get 4 rfl), _, rfl, if2 (fun hb => ?_) (fun hb => ?_)⟩
      · have kb : k = .bell := by
          rw [R.no _ _ hk] at hb
          by_cases c : k = .bell
          · exact c
          · rw [if_neg c] at hb; cases hb
        have er : y.rung = s0.rg.map V.int ++ [.int (W.nf z.2.1)] := by rw [R.rg]; unfold stepS; dsimp only; rw [if_pos kb, List.map_append]; rfl
        refine ⟨_, rfl, A.p, _, A.dx, _, _, rfl, h2.get 1 rfl, T.cl_Yard, T.n_Yard_rung, fl_rung _ _ _, .inl ⟨rfl, _, SqL.of (h2.get 8 rfl)⟩, A.g, _, _, rfl, rfl, h2.get 8 rfl, (show y.rung[y.rung.length - 1]? = some (.int (W.nf z.2.1)) by rw [er]; simp), ?_⟩
        have h4 : Has _ (yL t.c_Yard A { y with sides := y.sides.set (W.rf z.2.1).toNat (.int (W.sv s0 z.2.1)), rung := y.rung.dropLast, trail := ts } ++ L) := h2.puti 8 rfl (.lst y.rung.dropLast)
        refine ⟨_, rfl, _, rfl, A.p, _, A.dx, _, rfl, h4.get 1 rfl, T.cl_Yard, T.n_Yard_engine_end, (show 9 < 1000 by decide), ?_⟩
        rw [fl_put_eng]
        have h5 := h4.puti 1 rfl (.ins t.c_Yard A.dx (fl A y.next (.ref z.1)))
        have er2 : s0.rg.map V.int = y.rung.dropLast := by rw [er]; simp
        refine q _ ?_
        rw [hz, er2, es]
        exact h5
      · have kb : ¬ k = .bell := fun c => by rw [R.no _ _ hk, if_pos c] at hb; cases hb
        refine ⟨_, rfl, _, rfl, A.p, _, A.dx, _, rfl, h2.get 1 rfl, T.cl_Yard, T.n_Yard_engine_end, (show 9 < 1000 by decide), ?_⟩
        rw [fl_put_eng]
        have h5 := h2.puti 1 rfl (.ins t.c_Yard A.dx (fl A y.next (.ref z.1)))
        have er : s0.rg.map V.int = y.rung := by rw [R.rg]; unfold stepS; dsimp only; rw [if_neg kb]
        refine q _ ?_
        rw [hz, er, es]
        exact h5
    · have kp : ¬ k.point = true := fun c => by
        have e : valV y.rods (Sum.inl z.2.1) = _ := R.ro _ _ hk
        rw [if_pos c] at e
        rw [show valV ({ y with trail := ts } : YR).rods (Sum.inl z.2.1) = _ from e] at hp
        cases hp
      have h2 := h1
      have es : s0.ss.map V.int = y.sides := by rw [R.sd]; unfold stepS; dsimp only; rw [if_neg kp]
      refine ⟨_, rfl, _, rfl, A.p, _, A.dx, _, _, rfl, h2.get 1 rfl, T.cl_Yard, T.n_Yard_notes, fl_notes _ _ _, A.n, _, rfl, DGet.k (k := Sum.inl z.2.1) (h2.get 4 rfl), _, rfl, if2 (fun hb => ?_) (fun hb => ?_)⟩
      · have kb : k = .bell := by
          rw [R.no _ _ hk] at hb
          by_cases c : k = .bell
          · exact c
          · rw [if_neg c] at hb; cases hb
        have er : y.rung = s0.rg.map V.int ++ [.int (W.nf z.2.1)] := by rw [R.rg]; unfold stepS; dsimp only; rw [if_pos kb, List.map_append]; rfl
        refine ⟨_, rfl, A.p, _, A.dx, _, _, rfl, h2.get 1 rfl, T.cl_Yard, T.n_Yard_rung, fl_rung _ _ _, .inl ⟨rfl, _, SqL.of (h2.get 8 rfl)⟩, A.g, _, _, rfl, rfl, h2.get 8 rfl, (show y.rung[y.rung.length - 1]? = some (.int (W.nf z.2.1)) by rw [er]; simp), ?_⟩
        have h4 : Has _ (yL t.c_Yard A { y with sides := y.sides, rung := y.rung.dropLast, trail := ts } ++ L) := h2.puti 8 rfl (.lst y.rung.dropLast)
        refine ⟨_, rfl, _, rfl, A.p, _, A.dx, _, rfl, h4.get 1 rfl, T.cl_Yard, T.n_Yard_engine_end, (show 9 < 1000 by decide), ?_⟩
        rw [fl_put_eng]
        have h5 := h4.puti 1 rfl (.ins t.c_Yard A.dx (fl A y.next (.ref z.1)))
        have er2 : s0.rg.map V.int = y.rung.dropLast := by rw [er]; simp
        refine q _ ?_
        rw [hz, er2, es]
        exact h5
      · have kb : ¬ k = .bell := fun c => by rw [R.no _ _ hk, if_pos c] at hb; cases hb
        refine ⟨_, rfl, _, rfl, A.p, _, A.dx, _, rfl, h2.get 1 rfl, T.cl_Yard, T.n_Yard_engine_end, (show 9 < 1000 by decide), ?_⟩
        rw [fl_put_eng]
        have h5 := h2.puti 1 rfl (.ins t.c_Yard A.dx (fl A y.next (.ref z.1)))
        have er : s0.rg.map V.int = y.rung := by rw [R.rg]; unfold stepS; dsimp only; rw [if_neg kb]
        refine q _ ?_
        rw [hz, er, es]
        exact h5
theorem scBk : FnScope ["yard", "most", "many", "count"] ["yard", "most"] (defScope s_back) := ⟨rfl, rfl, rfl, by decide +kernel, rfl, by decide +kernel, by decide +kernel⟩
theorem ok_back (T : Txt K mg t) : FnOk P w K mg base CX0 2 t.f_back t.d_back ["yard", "most"] (sp_back t.c_Yard) := by
  refine T.F_back.ok scBk (fun vs H Q E h => ?_) (fun cdv A outer s H vs Q E hr h => ?_)
  · obtain ⟨_, _, _, _, _, _, _, rfl, _⟩ := h
    rfl
  · obtain ⟨A, y, L, W, s0, ts, m, rfl, hH, O, R, PL, tl, th, tb, q⟩ := h
    refine ⟨_, (pss_cons (ps_set (i := 2) scBk.nd rfl (Or.inl rfl) (pe_callB (call_max2 rfl) (by rfl) T.z_max (by rfl) (pa_cons pe_int (pa_cons (pe_callB (call_min2 rfl) (by rfl) T.z_min (by rfl) (pa_cons (pv 1) (pa_cons (pe_meth0 (pv 0) T.cl_Yard T.M_Yard_steps (ok_Yard_steps T) (hr.mono (by decide)) (b_Yard_steps T) .nil pass0) pa_nil))) pa_nil))))
      (pss_cons (ps_for PassesOwn.never rfl (pi_range1 (by rfl) T.z_range (pa_cons (pv 2) pa_nil)) (pg_name (i := 3) scBk.nd rfl (Or.inl rfl))
        (pss_one (ps_expr (pe_meth0 (pv 0) T.cl_Yard T.M_Yard_take_back (ok_Yard_take_back T) (hr.mono (by decide)) (b_Yard_take_back T) .nil pass0))))
      (pss_one (ps_ret (pv 2))))), ?_⟩
    have tlen : y.trail.length = ts.length := by rw [tl]; unfold trV; rw [List.length_map]
    refine ⟨_, rfl, _, rfl, A.p, A.dx, _, rfl, hH.get 1 rfl, (fl_m4 _ _ _).2.2.2.2.2.2.2.2, A, y, _, rfl, hH, _, _, rfl, ?_⟩
    rw [tlen]
    refine ⟨_, _, rfl, ?_⟩
    have em : (if (if (ts.length : Int) < m then (ts.length : Int) else m) > 0 then (if (ts.length : Int) < m then (ts.length : Int) else m) else 0) = max 0 (min m ts.length) := by
      rw [show (if (ts.length : Int) < m then (ts.length : Int) else m) = min m ts.length by split <;> omega]
      split <;> omega
    rw [em]
    have hl : (W.hist ts.length s0).length = ts.length := by rw [← th, List.length_map]
    generalize hc : max 0 (min m (ts.length : Int)) = c at q ⊢
    have c0 : 0 ≤ c := by omega
    have c1 : c ≤ ts.length := by omega
    refine ⟨_, rfl, c, rfl, by omega, by omega, for_range (fun i σ H' => ∃ (y1 : YR) (o1 : Option V), σ = [some (.ref A.p), some (.int m), some (.int c), o1] ∧ Has H' (yL t.c_Yard A y1 ++ (trK W ts ++ L)) ∧ Rep W (W.go (ts.length - i) s0) y1 ∧ y1.trail = trV (ts.take (ts.length - i)) ∧ i ≤ ts.length ∧
      y1.next = y.next ∧ y1.kinds = y.kinds ∧ y1.notes = y.notes ∧ y1.rods = y.rods ∧ y1.mates = y.mates) ⟨y, _, rfl, hH, R, by rw [show ts.length - 0 = ts.length by omega, List.take_length]; exact tl, Nat.zero_le _, rfl, rfl, rfl, rfl, rfl⟩ ?_ ?_⟩
    · rintro i σ H1 hi ⟨y1, o1, rfl, h1, R1, t1, il, f1, f2, f3, f4, f5⟩
      have hi' : i < ts.length := by omega
      obtain ⟨n, hn⟩ : ∃ n, ts.length - i = n + 1 := ⟨ts.length - (i + 1), by omega⟩
      rw [hn] at R1 t1
      have hln := (hist_take W hl (show n + 1 ≤ ts.length by omega)).1
      obtain ⟨nx1, ht1⟩ := hist_last W hln
      have hlt : n < ts.length := by omega
      have et : ts.take (n + 1) = ts.take n ++ [ts[n]] := by rw [List.take_succ, List.getElem?_eq_getElem hlt]; rfl
      have es : (ts[n]).2 = W.go n s0 := by
        have a1 : (ts.map (·.2))[n]? = some (ts[n]).2 := by rw [List.getElem?_map, List.getElem?_eq_getElem hlt]; rfl
        have a2 : ((W.hist ts.length s0).take (n + 1))[n]? = some (W.go n s0) := by
          rw [← (hist_take W hl (show n + 1 ≤ ts.length by omega)).2, ht1, List.getElem?_append_right (by rw [(hist_take W hl (show n ≤ ts.length by omega)).1]; exact Nat.le_refl _), (hist_take W hl (show n ≤ ts.length by omega)).1, Nat.sub_self]
          rfl
        rw [List.getElem?_take, if_pos (by omega), ← th, a1] at a2
        exact Option.some.inj a2
      have jt : (trK W ts ++ L)[n]? = some ((ts[n]).1, W.tr (W.go n s0)) := by
        rw [List.getElem?_append_left (by unfold trK; rw [List.length_map]; exact hlt)]
        unfold trK
        rw [List.getElem?_map, List.getElem?_eq_getElem hlt, ← es]
        rfl
      refine ⟨_, rfl, A.p, A.dx, _, rfl, h1.get 1 rfl, (fl_m5 _ _ _).1, A, y1, _, W, W.go (n + 1) s0, W.go n s0, (ts[n]).1, trV (ts.take n), n, rfl, h1, R1, O.go n, nx1, (PL.go n).app _, (by rw [t1, et]; unfold trV; rw [List.map_append]; rfl), jt, fun H2 h2 => ?_⟩
      have e1 : ts.length - (i + 1) = n := by omega
      refine ⟨{ y1 with sides := (W.go n s0).ss.map V.int, eng := enV (W.go n s0).at_, rung := (W.go n s0).rg.map V.int, trail := trV (ts.take n) }, _, rfl, h2, ?_, by rw [e1], hi', f1, f2, f3, f4, f5⟩
      rw [e1]
      exact R1.ofOkw (O.go n) rfl rfl rfl rfl rfl rfl rfl
    · rintro σ H1 ⟨y1, o1, rfl, h1, R1, t1, il, f1, f2, f3, f4, f5⟩
      refine ⟨_, rfl, ?_⟩
      have e1 : ts.length - c.toNat ≤ ts.length := by omega
      refine q H1 y1 (ts.length - c.toNat) (by omega) ?_ R1 t1 ?_ f1 f2 f3 f4 f5
      · refine h1.sub (List.Sublist.append_left (List.Sublist.append_right ?_ _) _)
        unfold trK
        exact (List.take_sublist _ _).map _
      · rw [(hist_take W hl e1).2, ← th, List.map_take]
end

def sp_lift (C : Addr) : Sp := fun vs H Q _ => ∃ (A : YA) (y : YR) (L : Kn) (n : Int) (k : Kd), vs = [.ref A.p, .int n] ∧ Has H (yL C A y ++ L) ∧ valV y.kinds (Sum.inl n) = some (.str k.str) ∧ (∀ e : Int, 0 ≤ e → e < k.many → valV y.mates (kE n e) = none) ∧ (y.eng = .non ∨ ∃ (b : Addr) (n1 e1 : Int), y.eng = .ref b ∧ (b, HO.tup [.int n1, .int e1]) ∈ L ∧ n1 ≠ n) ∧
  ∀ H' q, Has H' (yL C { A with tr := q } { y with kinds := dropK y.kinds (Sum.inl n), notes := dropK y.notes (Sum.inl n), rods := dropK y.rods (Sum.inl n), trail := [] } ++ L) → Q .non H'
theorem fl_m6 (A : YA) (next : Int) (eng : V) : (fl A next eng).lookup ("lift" : Str) = none := by kernel_rfl
theorem dropK_none {κ : Type} [DecidableEq κ] {kvs : List (κ × V)} {k : κ} (h : valV kvs k = none) : dropK kvs k = kvs := by
  induction kvs with
  | nil => rfl
  | cons p r ih =>
    by_cases e : p.1 = k
    · rw [valV_pos e] at h; cases h
    · rw [valV_neg e] at h
      rw [dropK_neg e, ih h]
section
variable {P : Program} {w : World} {K : PySem.W.Frag} {mg : Str → Option Value} {base : Heap} {t : Adr}
theorem scLf : FnScope ["self", "piece", "end"] ["self", "piece"] (defScope s_Yard_lift) := ⟨rfl, rfl, rfl, by decide +kernel, rfl, by decide +kernel, by decide +kernel⟩
theorem ok_Yard_lift (T : Txt K mg t) : FnOk P w K mg base CX0 2 t.f_Yard_lift t.d_Yard_lift ["self", "piece"] (sp_lift t.c_Yard) := by
  refine T.F_Yard_lift.ok scLf (fun vs H Q E h => ?_) (fun cdv A outer s H vs Q E hr h => ?_)
  · obtain ⟨_, _, _, _, _, rfl, _⟩ := h
    rfl
  · obtain ⟨A, y, L, n, k, rfl, hH, hk, hm, en, q⟩ := h
    have hu := hu_of hr
    refine ⟨_, (pss_cons (ps_expr (pe_meth (pv 0) T.cl_Yard T.M_Yard_check_piece (ok_Yard_check_piece T) (hr.mono (by decide)) (b_Yard_check_piece T) .nil pass0 (pa_cons (pv 1) pa_nil)))
      (pss_cons (ps_for PassesOwn.never rfl (pi_range1 (by rfl) T.z_range (pa_cons (pe_call (ok_ends_of T) (hr.mono (by decide)) (by rfl) T.m_ends_of T.F_ends_of.kp (b_ends_of T) .nil pass0 (pa_cons (pe_dget hu (pe_fld (pv 0) rfl) (pv 1) (fun _ _ => rfl)) pa_nil)) pa_nil)) (pg_name (i := 2) scLf.nd rfl (Or.inl rfl))
        (pss_one (ps_if (pt_cmp (pc_din hu (pe_tup (pa_cons (pv 1) (pa_cons (pv 2) pa_nil))) (pe_fld (pv 0) rfl)))
            (pss_one ps_never)
            pss_nil)))
      (pss_cons (ps_if (PW.pt (pw_and (pt_cmpR op_notN (pe_fld (pv 0) rfl) pe_non (nomark _)) (pw_and1 (pt_cmpR op_eq (pe_ix ix_tup (pe_fld (pv 0) rfl) pe_int (fun _ _ => rfl)) (pv 1) (nomark _)))))
        (pss_one ps_never)
        pss_nil)
      (pss_cons (ps_ddel (pe_fld (pv 0) rfl) (pv 1))
      (pss_cons (ps_expr (pe_dpop2 (pe_fld (pv 0) rfl) (pv 1) pe_non ⟨rfl, rfl, rfl, rfl⟩))
      (pss_cons (ps_expr (pe_dpop2 (pe_fld (pv 0) rfl) (pv 1) pe_non ⟨rfl, rfl, rfl, rfl⟩))
      (pss_one (ps_expr (pe_meth0 (pv 0) T.cl_Yard T.M_Yard_end_trail (ok_Yard_end_trail T) (hr.mono (by decide)) (b_Yard_end_trail T) .nil pass0))))))))), ?_⟩
    refine ⟨_, rfl, A.p, A.dx, _, rfl, hH.get 1 rfl, (fl_m _ _ _).2.2.2.2.2.2.2.1, _, rfl, A, y, L, n, _, rfl, hH, hk, ?_⟩
    have km : 1 ≤ k.many ∧ k.many ≤ 3 := by cases k <;> decide
    refine ⟨_, rfl, A.p, _, A.dx, _, _, rfl, hH.get 1 rfl, T.cl_Yard, T.n_Yard_kinds, fl_kinds _ _ _, _, rfl, A.k, _, rfl, (by rw [← hk]; exact DGet.k (k := Sum.inl n) (hH.get 3 rfl)), k, rfl, k.many, rfl, by omega, by omega, for_range (fun i σ H' => ∃ o1 : Option V, σ = [some (.ref A.p), some (.int n), o1] ∧ Has H' (yL t.c_Yard A y ++ L)) ⟨_, rfl, hH⟩ ?_ ?_⟩
    · rintro i σ H1 hi ⟨o1, rfl, h1⟩
      refine ⟨_, rfl, _, rfl, (show 2 ≤ sizeLine by decide), fun b hb => ?_⟩
      have h2 := h1.alloc hb (.tup [.int n, .int (0 + (i : Int))])
      refine ⟨_, rfl, A.p, _, A.dx, _, _, rfl, h2.get 2 rfl, T.cl_Yard, T.n_Yard_mates, fl_mates _ _ _, A.m, _, rfl, DGet.t (k := kE n (0 + (i : Int))) (h2.get 8 rfl) (h2.get 0 rfl), _, rfl, ifF (by rw [hm _ (by omega) (by omega)]; rfl) ?_⟩
      exact ⟨_, rfl, h2.tail⟩
    · rintro σ H1 ⟨o1, rfl, h1⟩
      rcases en with en | ⟨eb, n1, e1, en, eL, ne⟩
      · refine ⟨_, rfl, A.p, _, A.dx, _, _, rfl, h1.get 1 rfl, T.cl_Yard, T.n_Yard_engine_end, fl_eng _ _ _, rfl, _, rfl, ifF (by rw [en]; rfl) (iteF ?_)⟩
        refine ⟨_, rfl, A.p, _, A.dx, _, _, rfl, h1.get 1 rfl, T.cl_Yard, T.n_Yard_kinds, fl_kinds _ _ _, _, rfl, A.k, _, Sum.inl n, rfl, h1.get 3 rfl, rfl, by rw [hk]; rfl, ?_⟩
        have h2 : Has _ (yL t.c_Yard A { y with kinds := dropK y.kinds (Sum.inl n) } ++ L) := h1.puti 3 rfl (.dK (dropK y.kinds (Sum.inl n)))
        generalize upd H1 A.k _ = H2 at h2 ⊢
        refine ⟨_, rfl, A.p, _, A.dx, _, _, rfl, h2.get 1 rfl, T.cl_Yard, T.n_Yard_notes, fl_notes _ _ _, A.n, rfl, .inl ⟨_, .inl (h2.get 4 rfl)⟩, _, rfl, _, Sum.inl n, h2.get 4 rfl, rfl, fun v hv => ?_, fun hv => ?_⟩
        · have h3 : Has _ (yL t.c_Yard A { y with kinds := dropK y.kinds (Sum.inl n), notes := dropK y.notes (Sum.inl n) } ++ L) := h2.puti 4 rfl (.dK (dropK y.notes (Sum.inl n)))
          refine ⟨_, rfl, A.p, _, A.dx, _, _, rfl, h3.get 1 rfl, T.cl_Yard, T.n_Yard_rods_under, fl_rods _ _ _, A.r, rfl, .inl ⟨_, .inl (h3.get 5 rfl)⟩, _, rfl, _, Sum.inl n, h3.get 5 rfl, rfl, fun v hv => ?_, fun hv => ?_⟩
          · have h4 : Has _ (yL t.c_Yard A { y with kinds := dropK y.kinds (Sum.inl n), notes := dropK y.notes (Sum.inl n), rods := dropK y.rods (Sum.inl n) } ++ L) := h3.puti 5 rfl (.dK (dropK y.rods (Sum.inl n)))
            exact ⟨_, rfl, A.p, A.dx, _, rfl, h4.get 1 rfl, (fl_m _ _ _).2.2.2.2.2.2.1, A, _, L, rfl, h4, fun H' a h5 => q H' a h5⟩
          · have h4' : ∀ H, Has H (yL t.c_Yard A { y with kinds := dropK y.kinds (Sum.inl n), notes := dropK y.notes (Sum.inl n) } ++ L) → Has H (yL t.c_Yard A { y with kinds := dropK y.kinds (Sum.inl n), notes := dropK y.notes (Sum.inl n), rods := dropK y.rods (Sum.inl n) } ++ L) := fun H h => by rw [dropK_none (kvs := y.rods) hv]; exact h
            have h4 := h4' _ h3
            exact ⟨_, rfl, A.p, A.dx, _, rfl, h4.get 1 rfl, (fl_m _ _ _).2.2.2.2.2.2.1, A, _, L, rfl, h4, fun H' a h5 => q H' a h5⟩
        · have h3 : Has H2 (yL t.c_Yard A { y with kinds := dropK y.kinds (Sum.inl n), notes := dropK y.notes (Sum.inl n) } ++ L) := by rw [dropK_none (kvs := y.notes) hv]; exact h2
          refine ⟨_, rfl, A.p, _, A.dx, _, _, rfl, h3.get 1 rfl, T.cl_Yard, T.n_Yard_rods_under, fl_rods _ _ _, A.r, rfl, .inl ⟨_, .inl (h3.get 5 rfl)⟩, _, rfl, _, Sum.inl n, h3.get 5 rfl, rfl, fun v hv => ?_, fun hv => ?_⟩
          · have h4 : Has _ (yL t.c_Yard A { y with kinds := dropK y.kinds (Sum.inl n), notes := dropK y.notes (Sum.inl n), rods := dropK y.rods (Sum.inl n) } ++ L) := h3.puti 5 rfl (.dK (dropK y.rods (Sum.inl n)))
            exact ⟨_, rfl, A.p, A.dx, _, rfl, h4.get 1 rfl, (fl_m _ _ _).2.2.2.2.2.2.1, A, _, L, rfl, h4, fun H' a h5 => q H' a h5⟩
          · have h4' : ∀ H, Has H (yL t.c_Yard A { y with kinds := dropK y.kinds (Sum.inl n), notes := dropK y.notes (Sum.inl n) } ++ L) → Has H (yL t.c_Yard A { y with kinds := dropK y.kinds (Sum.inl n), notes := dropK y.notes (Sum.inl n), rods := dropK y.rods (Sum.inl n) } ++ L) := fun H h => by rw [dropK_none (kvs := y.rods) hv]; exact h
            have h4 := h4' _ h3
            exact ⟨_, rfl, A.p, A.dx, _, rfl, h4.get 1 rfl, (fl_m _ _ _).2.2.2.2.2.2.1, A, _, L, rfl, h4, fun H' a h5 => q H' a h5⟩
      · refine ⟨_, rfl, A.p, _, A.dx, _, _, rfl, h1.get 1 rfl, T.cl_Yard, T.n_Yard_engine_end, fl_eng _ _ _, rfl, _, rfl, ifT (by rw [en]; rfl) ?_⟩
        have gb : H1 eb = some (.tup [.int n1, .int e1]) := h1.at_ _ (List.mem_append_right _ eL)
        refine ⟨_, rfl, A.p, _, A.dx, _, _, rfl, h1.get 1 rfl, T.cl_Yard, T.n_Yard_engine_end, fl_eng _ _ _, eb, _, _, _, en, rfl, SqT.of gb, rfl, _, rfl, rfl, _, rfl, ifF (decide_eq_false (fun e => ne (by injection e))) ?_⟩
        refine ⟨_, rfl, A.p, _, A.dx, _, _, rfl, h1.get 1 rfl, T.cl_Yard, T.n_Yard_kinds, fl_kinds _ _ _, _, rfl, A.k, _, Sum.inl n, rfl, h1.get 3 rfl, rfl, by rw [hk]; rfl, ?_⟩
        have h2 : Has _ (yL t.c_Yard A { y with kinds := dropK y.kinds (Sum.inl n) } ++ L) := h1.puti 3 rfl (.dK (dropK y.kinds (Sum.inl n)))
        generalize upd H1 A.k _ = H2 at h2 ⊢
        refine ⟨_, rfl, A.p, _, A.dx, _, _, rfl, h2.get 1 rfl, T.cl_Yard, T.n_Yard_notes, fl_notes _ _ _, A.n, rfl, .inl ⟨_, .inl (h2.get 4 rfl)⟩, _, rfl, _, Sum.inl n, h2.get 4 rfl, rfl, fun v hv => ?_, fun hv => ?_⟩
        · have h3 : Has _ (yL t.c_Yard A { y with kinds := dropK y.kinds (Sum.inl n), notes := dropK y.notes (Sum.inl n) } ++ L) := h2.puti 4 rfl (.dK (dropK y.notes (Sum.inl n)))
          refine ⟨_, rfl, A.p, _, A.dx, _, _, rfl, h3.get 1 rfl, T.cl_Yard, T.n_Yard_rods_under, fl_rods _ _ _, A.r, rfl, .inl ⟨_, .inl (h3.get 5 rfl)⟩, _, rfl, _, Sum.inl n, h3.get 5 rfl, rfl, fun v hv => ?_, fun hv => ?_⟩
          · have h4 : Has _ (yL t.c_Yard A { y with kinds := dropK y.kinds (Sum.inl n), notes := dropK y.notes (Sum.inl n), rods := dropK y.rods (Sum.inl n) } ++ L) := h3.puti 5 rfl (.dK (dropK y.rods (Sum.inl n)))
            exact ⟨_, rfl, A.p, A.dx, _, rfl, h4.get 1 rfl, (fl_m _ _ _).2.2.2.2.2.2.1, A, _, L, rfl, h4, fun H' a h5 => q H' a h5⟩
          · have h4' : ∀ H, Has H (yL t.c_Yard A { y with kinds := dropK y.kinds (Sum.inl n), notes := dropK y.notes (Sum.inl n) } ++ L) → Has H (yL t.c_Yard A { y with kinds := dropK y.kinds (Sum.inl n), notes := dropK y.notes (Sum.inl n), rods := dropK y.rods (Sum.inl n) } ++ L) := fun H h => by rw [dropK_none (kvs := y.rods) hv]; exact h
            have h4 := h4' _ h3
            exact ⟨_, rfl, A.p, A.dx, _, rfl, h4.get 1 rfl, (fl_m _ _ _).2.2.2.2.2.2.1, A, _, L, rfl, h4, fun H' a h5 => q H' a h5⟩
        · have h3 : Has H2 (yL t.c_Yard A { y with kinds := dropK y.kinds (Sum.inl n), notes := dropK y.notes (Sum.inl n) } ++ L) := by rw [dropK_none (kvs := y.notes) hv]; exact h2
          refine ⟨_, rfl, A.p, _, A.dx, _, _, rfl, h3.get 1 rfl, T.cl_Yard, T.n_Yard_rods_under, fl_rods _ _ _, A.r, rfl, .inl ⟨_, .inl (h3.get 5 rfl)⟩, _, rfl, _, Sum.inl n, h3.get 5 rfl, rfl, fun v hv => ?_, fun hv => ?_⟩
          · have h4 : Has _ (yL t.c_Yard A { y with kinds := dropK y.kinds (Sum.inl n), notes := dropK y.notes (Sum.inl n), rods := dropK y.rods (Sum.inl n) } ++ L) := h3.puti 5 rfl (.dK (dropK y.rods (Sum.inl n)))
            exact ⟨_, rfl, A.p, A.dx, _, rfl, h4.get 1 rfl, (fl_m _ _ _).2.2.2.2.2.2.1, A, _, L, rfl, h4, fun H' a h5 => q H' a h5⟩
          · have h4' : ∀ H, Has H (yL t.c_Yard A { y with kinds := dropK y.kinds (Sum.inl n), notes := dropK y.notes (Sum.inl n) } ++ L) → Has H (yL t.c_Yard A { y with kinds := dropK y.kinds (Sum.inl n), notes := dropK y.notes (Sum.inl n), rods := dropK y.rods (Sum.inl n) } ++ L) := fun H h => by rw [dropK_none (kvs := y.rods) hv]; exact h
            have h4 := h4' _ h3
            exact ⟨_, rfl, A.p, A.dx, _, rfl, h4.get 1 rfl, (fl_m _ _ _).2.2.2.2.2.2.1, A, _, L, rfl, h4, fun H' a h5 => q H' a h5⟩
end

theorem set_perm {α : Type} : ∀ (L : List α) (i : Nat) (x : α), i < L.length → (x :: L.eraseIdx i).Perm (L.set i x)
  | [], i, x, h => absurd h (Nat.not_lt_zero i)
  | a :: L, 0, x, h => List.Perm.refl _
  | a :: L, i + 1, x, h => (List.Perm.swap _ _ _).trans (List.Perm.cons a (set_perm L i x (by simpa using h)))
/-- one in the place of another -/
theorem Has.repl {H : Hp} {x : Addr × HO} {L : Kn} (h : Has H (x :: L)) (i : Nat) (hi : i < L.length) : Has H (L.set i x) :=
  (Has.sub h (List.Sublist.cons₂ x (List.eraseIdx_sublist L i))).perm (set_perm L i x hi)
def hE (n e : Nat) : Int := reduceHash (Builtin.Tuple.tupleHashOf [hashInt n, hashInt e])
def hEs (N : Nat) : List Int := (List.range (3 * N)).map fun i => hE (i / 3) (i % 3)
theorem hE50 : (hEs 50).Nodup := by decide +kernel
/-- the keys are ends of the first fifty pieces -/
def EK (kvs : List (List Key × V)) : Prop := ∀ k ∈ kvs.map (·.1), ∃ n e : Nat, n < 50 ∧ e < 3 ∧ k = kE n e
theorem hEs_get (N n e : Nat) (hn : n < N) (he : e < 3) : (hEs N)[3 * n + e]? = some (hE n e) := by
  unfold hEs
  rw [List.getElem?_map, List.getElem?_range (by omega), Option.map_some, show (3 * n + e) / 3 = n by omega, show (3 * n + e) % 3 = e by omega]
theorem nodup_ix {l : List Int} (h : l.Nodup) {i j : Nat} {x : Int} (hi : l[i]? = some x) (hj : l[j]? = some x) : i = j := by
  obtain ⟨li, ei⟩ := List.getElem?_eq_some_iff.mp hi
  obtain ⟨lj, ej⟩ := List.getElem?_eq_some_iff.mp hj
  rcases Nat.lt_trichotomy i j with c | c | c
  · exact absurd (ei.trans ej.symm) (List.pairwise_iff_getElem.mp h i j li lj c)
  · exact c
  · exact absurd (ej.trans ei.symm) (List.pairwise_iff_getElem.mp h j i lj li c)
theorem EK.inj {P : Program} {w : World} {kvs : List (List Key × V)} (h : EK kvs) : ∀ k1 ∈ kvs.map (·.1), ∀ k2 ∈ kvs.map (·.1), hashT P w k1 = hashT P w k2 → k1 = k2 := fun k1 h1 k2 h2 e => by
  obtain ⟨n1, e1, a1, b1, rfl⟩ := h k1 h1
  obtain ⟨n2, e2, a2, b2, rfl⟩ := h k2 h2
  have e' : hE n1 e1 = hE n2 e2 := e
  have g1 := hEs_get 50 n1 e1 a1 b1
  have g2 := hEs_get 50 n2 e2 a2 b2
  rw [← e'] at g2
  have ix := nodup_ix hE50 g1 g2
  have : n1 = n2 ∧ e1 = e2 := by omega
  rw [this.1, this.2]
theorem fl_put_kinds (A : YA) (next : Int) (eng : V) (q : Addr) : putF "kinds" (.ref q) (fl A next eng) = fl { A with k := q } next eng := by kernel_rfl
theorem fl_put_notes (A : YA) (next : Int) (eng : V) (q : Addr) : putF "notes" (.ref q) (fl A next eng) = fl { A with n := q } next eng := by kernel_rfl
theorem fl_put_rods_under (A : YA) (next : Int) (eng : V) (q : Addr) : putF "rods_under" (.ref q) (fl A next eng) = fl { A with r := q } next eng := by kernel_rfl
theorem fl_put_sides (A : YA) (next : Int) (eng : V) (q : Addr) : putF "sides" (.ref q) (fl A next eng) = fl { A with s := q } next eng := by kernel_rfl
theorem fl_put_mates (A : YA) (next : Int) (eng : V) (q : Addr) : putF "mates" (.ref q) (fl A next eng) = fl { A with m := q } next eng := by kernel_rfl
theorem fl_put_rung (A : YA) (next : Int) (eng : V) (q : Addr) : putF "rung" (.ref q) (fl A next eng) = fl { A with g := q } next eng := by kernel_rfl
theorem fl_m7 (A : YA) (next : Int) (eng : V) : (fl A next eng).lookup ("make_twin" : Str) = none := by kernel_rfl
def sp_make_twin (C : Addr) : Sp := fun vs H Q _ => ∃ (A : YA) (y : YR) (L : Kn), vs = [.ref A.p] ∧ Has H (yL C A y ++ L) ∧ EK y.mates ∧ ∀ H' B, Has H' (yL C B { y with trail := [] } ++ (yL C A y ++ L)) → Q (.ref B.p) H'
section
variable {P : Program} {w : World} {K : PySem.W.Frag} {mg : Str → Option Value} {base : Heap} {t : Adr}
theorem scMk7 : FnScope ["self", "other"] ["self"] (defScope s_Yard_make_twin) := ⟨rfl, rfl, rfl, by decide +kernel, rfl, by decide +kernel, by decide +kernel⟩
theorem ok_Yard_make_twin (T : Txt K mg t) : FnOk P w K mg base CX0 3 t.f_Yard_make_twin t.d_Yard_make_twin ["self"] (sp_make_twin t.c_Yard) := by
  refine T.F_Yard_make_twin.ok scMk7 (fun vs H Q E h => ?_) (fun cdv A outer s H vs Q E hr h => ?_)
  · obtain ⟨_, _, _, rfl, _⟩ := h
    rfl
  · obtain ⟨A, y, L, rfl, hH, ek, q⟩ := h
    refine ⟨_, (pss_cons (ps_set (i := 1) scMk7.nd rfl (Or.inl rfl) (pe_make0 T.mk_Yard (ok_Yard_init T) (hr.mono (by decide)) (by rfl) T.m_Yard (b_Yard_init T) .nil pass0))
      (pss_cons (ps_fld (pv 1) (pe_fld (pv 0) rfl) rfl)
      (pss_cons (ps_fld (pv 1) (pe_callTy call_dictK (by rfl) T.z_dict (by rfl) (pa_cons (pe_fld (pv 0) rfl) pa_nil)) rfl)
      (pss_cons (ps_fld (pv 1) (pe_callTy call_dictK (by rfl) T.z_dict (by rfl) (pa_cons (pe_fld (pv 0) rfl) pa_nil)) rfl)
      (pss_cons (ps_fld (pv 1) (pe_callTy call_dictK (by rfl) T.z_dict (by rfl) (pa_cons (pe_fld (pv 0) rfl) pa_nil)) rfl)
      (pss_cons (ps_fld (pv 1) (pe_callTy call_list_of (by rfl) T.z_list (by rfl) (pa_cons (pe_fld (pv 0) rfl) pa_nil)) rfl)
      (pss_cons (ps_fld (pv 1) (pe_callTy call_dictT (by rfl) T.z_dict (by rfl) (pa_cons (pe_fld (pv 0) rfl) pa_nil)) rfl)
      (pss_cons (ps_fld (pv 1) (pe_fld (pv 0) rfl) rfl)
      (pss_cons (ps_fld (pv 1) (pe_callTy call_list_of (by rfl) T.z_list (by rfl) (pa_cons (pe_fld (pv 0) rfl) pa_nil)) rfl)
      (pss_one (ps_ret (pv 1)))))))))))), ?_⟩
    intro p1 dx1 hp1 hdx1 ne1
    refine ⟨p1, dx1, _, rfl, (hH.alloc hdx1 (.own p1)).alloc (by rw [upd_ne (Ne.symm ne1)]; exact hp1) (.ins t.c_Yard dx1 []), fun H2 B e1 h => ⟨rfl, ?_⟩⟩
    subst e1
    clear hp1 hdx1 ne1 hH
    -- other.next_piece
    refine ⟨_, rfl, A.p, _, A.dx, _, _, rfl, h.get 10 rfl, T.cl_Yard, T.n_Yard_next_piece, fl_next _ _ _, ?_⟩
    refine ⟨_, rfl, B.p, _, B.dx, _, rfl, h.get 1 rfl, T.cl_Yard, T.n_Yard_next_piece, (show 9 < 1000 by decide), ?_⟩
    rw [show (y0.next) = 0 from rfl, fl_put_next]
    replace h : Has _ (yL t.c_Yard B { y0 with next := y.next } ++ (yL t.c_Yard A y ++ L)) := h.puti 1 rfl (.ins t.c_Yard B.dx (fl B y.next y0.eng))
    -- other.kinds
    refine ⟨_, rfl, A.p, _, A.dx, _, _, rfl, h.get 10 rfl, T.cl_Yard, T.n_Yard_kinds, fl_kinds _ _ _, A.k, _, rfl, .inl (h.get 12 rfl), fun l_k hl_k => ?_⟩
    refine ⟨_, rfl, B.p, _, B.dx, _, rfl, (h.alloc hl_k _).get 2 rfl, T.cl_Yard, T.n_Yard_kinds, (show 9 < 1000 by decide), ?_⟩
    rw [fl_put_kinds]
    replace h : Has _ (yL t.c_Yard { B with k := l_k } { y0 with next := y.next, kinds := y.kinds } ++ (yL t.c_Yard A y ++ L)) := Has.repl ((h.alloc hl_k (.dK y.kinds)).puti 2 rfl (.ins t.c_Yard B.dx (fl { B with k := l_k } y.next .non))) 3 (by simp [yL])
    clear hl_k
    -- other.notes
    refine ⟨_, rfl, A.p, _, A.dx, _, _, rfl, h.get 10 rfl, T.cl_Yard, T.n_Yard_notes, fl_notes _ _ _, A.n, _, rfl, .inl (h.get 13 rfl), fun l_n hl_n => ?_⟩
    refine ⟨_, rfl, B.p, _, B.dx, _, rfl, (h.alloc hl_n _).get 2 rfl, T.cl_Yard, T.n_Yard_notes, (show 9 < 1000 by decide), ?_⟩
    rw [fl_put_notes]
    replace h : Has _ (yL t.c_Yard { B with k := l_k, n := l_n } { y0 with next := y.next, kinds := y.kinds, notes := y.notes } ++ (yL t.c_Yard A y ++ L)) := Has.repl ((h.alloc hl_n (.dK y.notes)).puti 2 rfl (.ins t.c_Yard B.dx (fl { B with k := l_k, n := l_n } y.next .non))) 4 (by simp [yL])
    clear hl_n
    -- other.rods_under
    refine ⟨_, rfl, A.p, _, A.dx, _, _, rfl, h.get 10 rfl, T.cl_Yard, T.n_Yard_rods_under, fl_rods _ _ _, A.r, _, rfl, .inl (h.get 14 rfl), fun l_r hl_r => ?_⟩
    refine ⟨_, rfl, B.p, _, B.dx, _, rfl, (h.alloc hl_r _).get 2 rfl, T.cl_Yard, T.n_Yard_rods_under, (show 9 < 1000 by decide), ?_⟩
    rw [fl_put_rods_under]
    replace h : Has _ (yL t.c_Yard { B with k := l_k, n := l_n, r := l_r } { y0 with next := y.next, kinds := y.kinds, notes := y.notes, rods := y.rods } ++ (yL t.c_Yard A y ++ L)) := Has.repl ((h.alloc hl_r (.dK y.rods)).puti 2 rfl (.ins t.c_Yard B.dx (fl { B with k := l_k, n := l_n, r := l_r } y.next .non))) 5 (by simp [yL])
    clear hl_r
    -- other.sides
    refine ⟨_, rfl, A.p, _, A.dx, _, _, rfl, h.get 10 rfl, T.cl_Yard, T.n_Yard_sides, fl_sides _ _ _, A.s, _, rfl, .inl (SqL.of (h.get 15 rfl)), fun l_s hl_s => ?_⟩
    refine ⟨_, rfl, B.p, _, B.dx, _, rfl, (h.alloc hl_s _).get 2 rfl, T.cl_Yard, T.n_Yard_sides, (show 9 < 1000 by decide), ?_⟩
    rw [fl_put_sides]
    replace h : Has _ (yL t.c_Yard { B with k := l_k, n := l_n, r := l_r, s := l_s } { y0 with next := y.next, kinds := y.kinds, notes := y.notes, rods := y.rods, sides := y.sides } ++ (yL t.c_Yard A y ++ L)) := Has.repl ((h.alloc hl_s (.lst y.sides)).puti 2 rfl (.ins t.c_Yard B.dx (fl { B with k := l_k, n := l_n, r := l_r, s := l_s } y.next .non))) 6 (by simp [yL])
    clear hl_s
    -- other.mates
    refine ⟨_, rfl, A.p, _, A.dx, _, _, rfl, h.get 10 rfl, T.cl_Yard, T.n_Yard_mates, fl_mates _ _ _, A.m, _, rfl, .inl (h.get 16 rfl), ek.inj, fun l_m hl_m => ?_⟩
    refine ⟨_, rfl, B.p, _, B.dx, _, rfl, (h.alloc hl_m _).get 2 rfl, T.cl_Yard, T.n_Yard_mates, (show 9 < 1000 by decide), ?_⟩
    rw [fl_put_mates]
    replace h : Has _ (yL t.c_Yard { B with k := l_k, n := l_n, r := l_r, s := l_s, m := l_m } { y0 with next := y.next, kinds := y.kinds, notes := y.notes, rods := y.rods, sides := y.sides, mates := y.mates } ++ (yL t.c_Yard A y ++ L)) := Has.repl ((h.alloc hl_m (.dT y.mates)).puti 2 rfl (.ins t.c_Yard B.dx (fl { B with k := l_k, n := l_n, r := l_r, s := l_s, m := l_m } y.next .non))) 7 (by simp [yL])
    clear hl_m
    -- other.engine_end
    refine ⟨_, rfl, A.p, _, A.dx, _, _, rfl, h.get 10 rfl, T.cl_Yard, T.n_Yard_engine_end, fl_eng _ _ _, ?_⟩
    refine ⟨_, rfl, B.p, _, B.dx, _, rfl, h.get 1 rfl, T.cl_Yard, T.n_Yard_engine_end, (show 9 < 1000 by decide), ?_⟩
    rw [fl_put_eng]
    replace h : Has _ (yL t.c_Yard { B with k := l_k, n := l_n, r := l_r, s := l_s, m := l_m } { y0 with next := y.next, kinds := y.kinds, notes := y.notes, rods := y.rods, sides := y.sides, mates := y.mates, eng := y.eng } ++ (yL t.c_Yard A y ++ L)) := h.puti 1 rfl (.ins t.c_Yard B.dx (fl { B with k := l_k, n := l_n, r := l_r, s := l_s, m := l_m } y.next y.eng))
    -- other.rung
    refine ⟨_, rfl, A.p, _, A.dx, _, _, rfl, h.get 10 rfl, T.cl_Yard, T.n_Yard_rung, fl_rung _ _ _, A.g, _, rfl, .inl (SqL.of (h.get 17 rfl)), fun l_g hl_g => ?_⟩
    refine ⟨_, rfl, B.p, _, B.dx, _, rfl, (h.alloc hl_g _).get 2 rfl, T.cl_Yard, T.n_Yard_rung, (show 9 < 1000 by decide), ?_⟩
    rw [fl_put_rung]
    replace h : Has _ (yL t.c_Yard { B with k := l_k, n := l_n, r := l_r, s := l_s, m := l_m, g := l_g } { y0 with next := y.next, kinds := y.kinds, notes := y.notes, rods := y.rods, sides := y.sides, mates := y.mates, eng := y.eng, rung := y.rung } ++ (yL t.c_Yard A y ++ L)) := Has.repl ((h.alloc hl_g (.lst y.rung)).puti 2 rfl (.ins t.c_Yard B.dx (fl { B with k := l_k, n := l_n, r := l_r, s := l_s, m := l_m, g := l_g } y.next y.eng))) 8 (by simp [yL])
    clear hl_g
    refine ⟨_, rfl, q _ { B with k := l_k, n := l_n, r := l_r, s := l_s, m := l_m, g := l_g } h⟩
theorem scTn : FnScope ["yard"] ["yard"] (defScope s_twin) := ⟨rfl, rfl, rfl, by decide +kernel, rfl, by decide +kernel, by decide +kernel⟩
theorem ok_twin (T : Txt K mg t) : FnOk P w K mg base CX0 4 t.f_twin t.d_twin ["yard"] (sp_make_twin t.c_Yard) := by
  refine T.F_twin.ok scTn (fun vs H Q E h => ?_) (fun cdv A outer s H vs Q E hr h => ?_)
  · obtain ⟨_, _, _, rfl, _⟩ := h
    rfl
  · obtain ⟨A, y, L, rfl, hH, ek, q⟩ := h
    refine ⟨_, (pss_one (ps_ret (pe_meth0 (pv 0) T.cl_Yard T.M_Yard_make_twin (ok_Yard_make_twin T) (hr.mono (by decide)) (b_Yard_make_twin T) .nil pass0))), ?_⟩
    exact ⟨_, rfl, A.p, A.dx, _, rfl, hH.get 1 rfl, fl_m7 _ _ _, A, y, L, rfl, hH, ek, q⟩
end

end P


set_option Elab.async false
set_option linter.all false
set_option maxRecDepth 100000
set_option maxHeartbeats 4000000
namespace P
open PySem L2

def sp_pcs (C : Addr) : Sp := fun vs H Q _ => ∃ (A : YA) (y : YR) (L : Kn) (kk nn rr : Addr) (ks : List Kd) (ns rs : List Int) (es : List En) (m : List (List Key × V)) (s : Sd) (jk jn jr : Nat), vs = [.ref A.p, .ref kk, .ref nn, .ref rr] ∧ Has H (yL C A y ++ L) ∧ L[jk]? = some (kk, .lst (ksV ks)) ∧ L[jn]? = some (nn, .lst (ns.map V.int)) ∧ L[jr]? = some (rr, .lst (rs.map V.int)) ∧
  Rep (wOf ks ns rs es m) s y ∧ Lw (wOf ks ns rs es m) ks ns rs m ∧ ks.length ≤ 1000 ∧ ∀ H', Has H' (yL C A y ++ L) → Q (.bl true) H'
section
variable {P : Program} {w : World} {K : PySem.W.Frag} {mg : Str → Option Value} {base : Heap} {t : Adr}
theorem scPcs : FnScope ["_law_yard", "_law_kinds_here", "_law_notes", "_law_rods", "_law_piece", "_law_kind_here"] ["_law_yard", "_law_kinds_here", "_law_notes", "_law_rods"] (defScope s_pieces) := ⟨rfl, rfl, rfl, by decide +kernel, rfl, by decide +kernel, by decide +kernel⟩
theorem ok_pieces (T : Txt K mg t) : FnOk P w K mg base CX0 4 t.f_pieces t.d_pieces ["_law_yard", "_law_kinds_here", "_law_notes", "_law_rods"] (sp_pcs t.c_Yard) := by
  refine T.F_pieces.ok scPcs (fun vs H Q E h => ?_) (fun cdv A outer s H vs Q E hr h => ?_)
  · obtain ⟨_, _, _, _, _, _, _, _, _, _, _, _, _, _, _, rfl, _⟩ := h
    rfl
  · obtain ⟨A, y, L, kk, nn, rr, ks, ns, rs, es, m, s0, jk, jn, jr, rfl, hH, hjk, hjn, hjr, R, lw, kl, q⟩ := h
    refine ⟨_, (pss_cons (ps_for PassesOwn.never rfl (pi_enum (by rfl) T.z_enumerate (pa_cons (pv 1) pa_nil)) (pg_tup rfl (pgs_cons (pg_name (i := 4) scPcs.nd rfl (Or.inl rfl)) (pgs_cons (pg_name (i := 5) scPcs.nd rfl (Or.inl rfl)) pgs_nil)))
        (pss_cons (ps_if (pt_cmpR op_ne (pe_meth (pv 0) T.cl_Yard T.M_Yard_kind (ok_Yard_kind T) (hr.mono (by decide)) (b_Yard_kind T) .nil pass0 (pa_cons (pv 4) pa_nil)) (pv 5) (nomark _))
            (pss_one (ps_ret pe_bl))
            pss_nil)
          (pss_cons (ps_if (PW.pt (pw_and (pt_cmpR op_eq (pv 5) pe_str (nomark _)) (pw_and1 (pt_not (pt_val (pe_call (ok_is T) (hr.mono (by decide)) (by rfl) T.m_is T.F_is.kp (b_is T) .nil pass0 (pa_cons (pe_meth (pv 0) T.cl_Yard T.M_Yard_note (ok_Yard_note T) (hr.mono (by decide)) (b_Yard_note T) .nil pass0 (pa_cons (pv 4) pa_nil)) (pa_cons (pe_ix ix_list (pv 2) (pv 4) (fun _ _ => rfl)) pa_nil))))))))
            (pss_one (ps_ret pe_bl))
            pss_nil)
          (pss_one (ps_if (PW.pt (pw_and (pt_cmpR op_ge (pe_ix ix_list (pv 3) (pv 4) (fun _ _ => rfl)) pe_int (nomark _)) (pw_and1 (pt_not (pt_val (pe_call (ok_is T) (hr.mono (by decide)) (by rfl) T.m_is T.F_is.kp (b_is T) .nil pass0 (pa_cons (pe_meth (pv 0) T.cl_Yard T.M_Yard_rod (ok_Yard_rod T) (hr.mono (by decide)) (b_Yard_rod T) .nil pass0 (pa_cons (pv 4) pa_nil)) (pa_cons (pe_ix ix_list (pv 3) (pv 4) (fun _ _ => rfl)) pa_nil))))))))
            (pss_one (ps_ret pe_bl))
            pss_nil)))))
      (pss_one (ps_ret pe_bl))), ?_⟩
    have inL : ∀ {H : Hp} {x : Addr × HO} {j : Nat}, Has H (yL t.c_Yard A y ++ L) → L[j]? = some x → H x.1 = some x.2 := fun {H x j} h hj => h.at_ x (List.mem_append_right _ (List.mem_of_getElem? hj))
    refine ⟨_, rfl, kk, rfl, ⟨_, SqL.of (inL hH hjk)⟩, for_enum (xs := ksV ks) (fun i σ H' => ∃ (o1 o2 : Option V), σ = [some (.ref A.p), some (.ref kk), some (.ref nn), some (.ref rr), o1, o2] ∧ Has H' (yL t.c_Yard A y ++ L)) ⟨_, _, rfl, hH⟩ (fun i σ H' _ ⟨_, _, _, h⟩ => SqL.of (inL h hjk)) ?_ ?_⟩
    · rintro i x σ H1 p hx ⟨o1, o2, rfl, h1⟩ hp
      have hi : i < ks.length := by
        have := (List.getElem?_eq_some_iff.mp hx).1
        unfold ksV at this
        rw [List.length_map] at this; exact this
      have ex : x = .str (ks[i]).str := by
        unfold ksV at hx
        rw [List.getElem?_map, List.getElem?_eq_getElem hi] at hx
        exact (Option.some.inj hx).symm
      subst ex
      have hk : ks[i]? = some ks[i] := List.getElem?_eq_getElem hi
      have kf : (wOf ks ns rs es m).kf (i : Int) = some ks[i] := by rw [wOf_kn]; exact hk
      have h2 := h1.alloc hp (.tup [.int i, .str (ks[i]).str])
      have e1 := R.kd _ _ kf
      have e2 := R.no _ _ kf
      have e3 := R.ro _ _ kf
      have rn := lw.rn i _ hk
      have nl := lw.nl
      have rl := lw.rl
      have e4 : (wOf ks ns rs es m).nf (i : Int) = ns.getD i 0 := lw.nf i
      have e5 : (wOf ks ns rs es m).rf (i : Int) = rs.getD i 0 := lw.rf i
      rw [e4] at e2
      rw [e5] at e3
      generalize ks[i] = k at *
      refine ⟨p, _, rfl, SqT.of (h2.get 0 rfl), rfl, _, _, rfl, _, _, rfl, rfl, ?_⟩
      replace h2 := h2.tail
      dsimp only [List.set]
      refine ⟨_, rfl, A.p, A.dx, _, rfl, h2.get 1 rfl, (fl_m4 _ _ _).2.2.2.2.1, _, rfl, A, y, L, (i : Int), .str k.str, rfl, h2, e1, _, rfl, rfl, _, rfl, ?_⟩
      refine ifF (by simp) ?_
      have gn : SqL K _ nn (ns.map V.int) := SqL.of (inL h2 hjn)
      have gr : SqL K _ rr (rs.map V.int) := SqL.of (inL h2 hjr)
      have an : atI (ns.map V.int) (i : Int) = some (.int (ns.getD i 0)) := by have := atD (ds := ns) (i := (i : Int)) (by omega) (by omega); rwa [Int.toNat_natCast] at this
      have ar : atI (rs.map V.int) (i : Int) = some (.int (rs.getD i 0)) := by have := atD (ds := rs) (i := (i : Int)) (by omega) (by omega); rwa [Int.toNat_natCast] at this
      refine ⟨_, rfl, rfl, _, rfl, ?_⟩
      rw [k.isBell]
      have rods : ∀ {G : Prop}, G → True := fun _ => trivial
      refine (fun (g : _) => ifd (fun kb => ⟨_, rfl, A.p, A.dx, _, rfl, h2.get 1 rfl, (fl_m4 _ _ _).2.2.2.2.2.1, _, rfl, A, y, L, (i : Int), _, .int (ns.getD i 0), rfl, h2, e1, (by rw [e2, if_pos kb]), _, rfl, _, rfl, nn, _, _, _, rfl, rfl, gn, an, _, _, rfl, (by rw [decide_eq_true rfl]; exact ⟨_, rfl, iteF g⟩)⟩) (fun kb => iteF g)) ?_
      refine ⟨_, rfl, _, rfl, rr, _, _, _, rfl, rfl, gr, ar, _, _, rfl, rfl, _, rfl, ?_⟩
      refine ifd (fun r0 => ?_) (fun r0 => ?_)
      · have kp : k.point = true := rn.mpr r0
        refine ⟨_, rfl, A.p, A.dx, _, rfl, h2.get 1 rfl, (fl_m _ _ _).2.2.2.2.1, _, rfl, A, y, L, (i : Int), _, .int (rs.getD i 0), rfl, h2, e1, (by rw [e3, if_pos kp]), _, rfl, _, rfl, rr, _, _, _, rfl, rfl, gr, ar, _, _, rfl, ?_⟩
        rw [decide_eq_true rfl]
        exact ⟨_, rfl, iteF ⟨_, _, rfl, h2⟩⟩
      · exact iteF ⟨_, _, rfl, h2⟩
    · rintro σ H1 ⟨o1, o2, rfl, h1⟩
      exact q _ h1
end

end P


set_option Elab.async false
set_option linter.all false
set_option maxRecDepth 100000
set_option maxHeartbeats 4000000
namespace P
open PySem L2

/-- the law's promise -/
def sp_law (K : PySem.W.Frag) : Sp := fun vs H Q _ => ∃ (a : Addr) (ns : List Int), vs = [.ref a] ∧ SqL K H a (ns.map V.int) ∧ ns.length ≤ 63 ∧ ∀ H', Q (.bl true) H'
theorem law_binds {K : PySem.W.Frag} {mg : Str → Option Value} {t : Adr} (T : Txt K mg t) (s : Shared) (u : Value) : BindsTo s t.d_law ⟨[u], []⟩ [("_law_script", u)] := by
  obtain ⟨oc, od, kV, doc, pm, an, cdv, ct, osl, e, lk, hcd⟩ := T.F_law.ex
  rw [e, T.e_law]
  exact .of_eq rfl
theorem law_start {K : PySem.W.Frag} {H : Hp} {a : Addr} {ns : List Int} (hl : ns.length ≤ 63) (hS : SqL K H a (ns.map V.int)) {E : XK} : sp_law K [.ref a] H (fun v _ => v = .bl true) E := ⟨a, ns, rfl, hS, hl, fun _ => rfl⟩

theorem EqE.eng {W : Wd} {s : Sd} {L : Kn} (p : Pool W s L) : EqE L (enV s.at_) (enV s.at_) := by
  refine EqE.refl ?_
  cases h : s.at_ with
  | none => exact .inl rfl
  | some z => obtain ⟨j, hj⟩ := p.e z h; exact .inr ⟨z, j, rfl, hj⟩
theorem EqE.mates {es : List En} {m : List (List Key × V)} {L : Kn} (M : MIn es m) (hp : ∀ z ∈ es, ∃ j : Nat, L[j]? = some (z.1, HO.tup [.int z.2.1, .int z.2.2])) (k : List Key) : EqE L ((valV m k).getD .non) ((valV m k).getD .non) := by
  refine EqE.refl ?_
  cases h : valV m k with
  | none => exact .inl rfl
  | some v => obtain ⟨z, hz, rfl⟩ := M k v h; obtain ⟨j, hj⟩ := hp z hz; exact .inr ⟨z, j, rfl, hj⟩

theorem SetOk.pool {y : YR} {ks : List Kd} {ns rs ss : List Int} {es : List En} {m : List (List Key × V)} {z : En} (S : SetOk y ks ns rs ss es m z) {s : Sd} (hs : s.at_ = some z) {L : Kn} (h : ∀ z ∈ es, ∃ j : Nat, L[j]? = some (z.1, HO.tup [.int z.2.1, .int z.2.2])) : Pool (wOf ks ns rs es m) s L :=
  ⟨fun n e u hu => h u (mfOf_mem hu), fun u hu => by rw [hs] at hu; cases hu; exact h z S.zi⟩
theorem mem_ix {Z : Kn} {x : Addr × HO} (h : x ∈ Z) : ∃ j : Nat, Z[j]? = some x := List.mem_iff_getElem?.mp h
theorem esK_mem {es : List En} {z : En} (h : z ∈ es) : (z.1, HO.tup [.int z.2.1, .int z.2.2]) ∈ esK es := List.mem_map.mpr ⟨z, h, rfl⟩
theorem dropK_put {κ : Type} [DecidableEq κ] {kvs : List (κ × V)} {k : κ} {v : V} (h : valV kvs k = none) : dropK (putK kvs k v) k = kvs := by
  rw [putK_new _ h]
  have := dropK_none h
  unfold dropK at this ⊢
  rw [List.filter_append, this]
  simp
theorem valV_key {κ : Type} [DecidableEq κ] : ∀ {kvs : List (κ × V)} {k : κ} {v : V}, valV kvs k = some v → k ∈ kvs.map (·.1)
  | [], k, v, h => by rw [valV_nil] at h; cases h
  | p :: r, k, v, h => by
    by_cases e : p.1 = k
    · rw [List.map_cons, e]; exact .head _
    · rw [valV_neg e] at h
      rw [List.map_cons]; exact .tail _ (valV_key h)
theorem Rep.more {W : Wd} {s : Sd} {y : YR} (R : Rep W s y) (n : Int) : Rep W { s with ss := s.ss ++ [1] } { y with next := n, sides := y.sides ++ [.int 1], trail := [] } :=
  ⟨R.kd, R.no, R.ro, fun n k h hp => by have := R.rr n k h hp; rw [List.length_append]; exact ⟨this.1, by have := this.2; simp only [List.length_singleton]; omega⟩, by show y.sides ++ [V.int 1] = (s.ss ++ [1]).map V.int; rw [R.sd, List.map_append]; rfl, fun x hx => by
    rcases List.mem_append.mp hx with h | h
    · exact R.s12 x h
    · exact .inl (List.mem_singleton.mp h), R.mt, R.mo, R.en, R.eo, R.rg⟩
theorem Rep.twin {W : Wd} {s : Sd} {y : YR} (R : Rep W s y) : Rep W s { y with trail := [] } := ⟨R.kd, R.no, R.ro, R.rr, R.sd, R.s12, R.mt, R.mo, R.en, R.eo, R.rg⟩
section
variable {P : Program} {w : World} {K : PySem.W.Frag} {mg : Str → Option Value} {base : Heap} {t : Adr}
theorem scLa : FnScope ["_law_script", "_law_d", "_law_yard", "_law_kinds_here", "_law_notes", "_law_rods", "_law_sides", "_law_mates", "_law_start", "_law_gone", "_law_turn", "_law_rung", "_law_at", "_law_done", "_law_other", "_law_more"] ["_law_script"] (defScope s_law) := ⟨rfl, rfl, rfl, by decide +kernel, rfl, by decide +kernel, by decide +kernel⟩
theorem ok_law (T : Txt K mg t) : FnOk P w K mg base CX0 12 t.f_law t.d_law ["_law_script"] (sp_law K) := by
  obtain ⟨_, hd_Yard_lay_2, hb_Yard_lay_2⟩ := bD_Yard_lay_2 T
  obtain ⟨_, hd_Yard_new_rod_1, hb_Yard_new_rod_1⟩ := bD_Yard_new_rod_1 T
  refine T.F_law.ok scLa (fun vs H Q E h => ?_) (fun cdv A outer s H vs Q E hr h => ?_)
  · obtain ⟨_, _, rfl, _⟩ := h
    rfl
  · obtain ⟨a, ns0, rfl, hS, hns, q⟩ := h
    refine ⟨_, (pss_cons (ps_set (i := 1) scLa.nd rfl (Or.inl rfl) (pe_call (ok_draws T) (hr.mono (by decide)) (by rfl) T.m_draws T.F_draws.kp (b_draws T) .nil pass0 (pa_cons (pv 0) (pa_cons pe_int pa_nil))))
      (pss_cons (ps_asg (pe_call (ok_set T) (hr.mono (by decide)) (by rfl) T.m_set T.F_set.kp (b_set T) .nil pass0 (pa_cons (pv 1) (pa_cons pe_int pa_nil))) (pg_tup rfl (pgs_cons (pg_name (i := 2) scLa.nd rfl (Or.inl rfl)) (pgs_cons (pg_name (i := 3) scLa.nd rfl (Or.inl rfl)) (pgs_cons (pg_name (i := 4) scLa.nd rfl (Or.inl rfl)) (pgs_cons (pg_name (i := 5) scLa.nd rfl (Or.inl rfl)) (pgs_cons (pg_name (i := 6) scLa.nd rfl (Or.inl rfl)) (pgs_cons (pg_name (i := 7) scLa.nd rfl (Or.inl rfl)) (pgs_cons (pg_name (i := 8) scLa.nd rfl (Or.inl rfl)) pgs_nil)))))))))
      (pss_cons (ps_set (i := 9) scLa.nd rfl (Or.inl rfl) (pe_op op_mod (pe_ix ix_list (pv 1) pe_int (fun _ _ => rfl)) pe_int))
      (pss_cons (ps_for PassesOwn.never rfl (pi_range1 (by rfl) T.z_range (pa_cons (pv 9) pa_nil)) (pg_name (i := 10) scLa.nd rfl (Or.inl rfl))
        (pss_cons (ps_expr (pe_meth (pv 2) T.cl_Yard T.M_Yard_lift (ok_Yard_lift T) (hr.mono (by decide)) (b_Yard_lift T) .nil pass0 (pa_cons (pe_meth (pv 2) T.cl_Yard T.M_Yard_lay (ok_Yard_lay T) (hr.mono (by decide)) hb_Yard_lay_2 hd_Yard_lay_2 pass0 (pa_cons pe_str pa_nil)) pa_nil)))
          (pss_one (ps_expr (pe_bm PySem.F.plainAttrs_list PySem.F.slot_list_append PySem.F.type_list_append mt_append (pv 6) (pa_cons pe_int pa_nil))))))
      (pss_cons (ps_set (i := 11) scLa.nd rfl (Or.inl rfl) (pe_lst pa_nil))
      (pss_cons (ps_asg (pe_call (ok_walk T) (hr.mono (by decide)) (by rfl) T.m_walk T.F_walk.kp (b_walk T) .nil pass0 (pa_cons (pv 3) (pa_cons (pv 4) (pa_cons (pv 5) (pa_cons (pv 6) (pa_cons (pv 7) (pa_cons (pv 11) (pa_cons (pv 8) (pa_cons (pe_op op_mod (pe_ix ix_list (pv 1) pe_int (fun _ _ => rfl)) pe_int) pa_nil))))))))) (pg_tup rfl (pgs_cons (pg_name (i := 12) scLa.nd rfl (Or.inl rfl)) (pgs_cons (pg_name (i := 13) scLa.nd rfl (Or.inl rfl)) pgs_nil))))
      (pss_cons (ps_expr (pe_call (ok_run T) (hr.mono (by decide)) (by rfl) T.m_run T.F_run.kp (b_run T) .nil pass0 (pa_cons (pv 2) (pa_cons (pe_op op_mod (pe_ix ix_list (pv 1) pe_int (fun _ _ => rfl)) pe_int) pa_nil))))
      (pss_cons (ps_set (i := 14) scLa.nd rfl (Or.inl rfl) (pe_call (ok_twin T) (hr.mono (by decide)) (by rfl) T.m_twin T.F_twin.kp (b_twin T) .nil pass0 (pa_cons (pv 2) pa_nil)))
      (pss_cons (ps_if (PW.pt (pw_or (pt_not (pt_val (pe_call (ok_same T) (hr.mono (by decide)) (by rfl) T.m_same T.F_same.kp (b_same T) .nil pass0 (pa_cons (pv 14) (pa_cons (pv 3) (pa_cons (pv 6) (pa_cons (pv 7) (pa_cons (pv 11) (pa_cons (pv 12) (pa_cons pe_int pa_nil)))))))))) (pw_or1 (pt_not (pt_val (pe_call (ok_pieces T) (hr.mono (by decide)) (by rfl) T.m_pieces T.F_pieces.kp (b_pieces T) .nil pass0 (pa_cons (pv 14) (pa_cons (pv 3) (pa_cons (pv 4) (pa_cons (pv 5) pa_nil))))))))))
        (pss_one (ps_ret pe_bl))
        pss_nil)
      (pss_cons (ps_if (PW.pt (pw_or (pt_not (pt_val (pe_call (ok_is T) (hr.mono (by decide)) (by rfl) T.m_is T.F_is.kp (b_is T) .nil pass0 (pa_cons (pe_call (ok_back T) (hr.mono (by decide)) (by rfl) T.m_back T.F_back.kp (b_back T) .nil pass0 (pa_cons (pv 14) (pa_cons pe_int pa_nil))) (pa_cons pe_int pa_nil))))) (pw_or1 (pt_not (pt_val (pe_call (ok_same T) (hr.mono (by decide)) (by rfl) T.m_same T.F_same.kp (b_same T) .nil pass0 (pa_cons (pv 2) (pa_cons (pv 3) (pa_cons (pv 6) (pa_cons (pv 7) (pa_cons (pv 11) (pa_cons (pv 12) (pa_cons (pv 13) pa_nil)))))))))))))
        (pss_one (ps_ret pe_bl))
        pss_nil)
      (pss_cons (ps_asg (pe_call (ok_walk T) (hr.mono (by decide)) (by rfl) T.m_walk T.F_walk.kp (b_walk T) .nil pass0 (pa_cons (pv 3) (pa_cons (pv 4) (pa_cons (pv 5) (pa_cons (pv 6) (pa_cons (pv 7) (pa_cons (pv 11) (pa_cons (pv 12) (pa_cons (pe_op op_mod (pe_ix ix_list (pv 1) pe_int (fun _ _ => rfl)) pe_int) pa_nil))))))))) (pg_tup rfl (pgs_cons (pg_name (i := 12) scLa.nd rfl (Or.inl rfl)) (pgs_cons (pg_name (i := 15) scLa.nd rfl (Or.inl rfl)) pgs_nil))))
      (pss_cons (ps_if (PW.pt (pw_or (pt_not (pt_val (pe_call (ok_is T) (hr.mono (by decide)) (by rfl) T.m_is T.F_is.kp (b_is T) .nil pass0 (pa_cons (pe_call (ok_run T) (hr.mono (by decide)) (by rfl) T.m_run T.F_run.kp (b_run T) .nil pass0 (pa_cons (pv 14) (pa_cons (pe_op op_mod (pe_ix ix_list (pv 1) pe_int (fun _ _ => rfl)) pe_int) pa_nil))) (pa_cons (pv 15) pa_nil))))) (pw_or1 (pt_not (pt_val (pe_call (ok_is T) (hr.mono (by decide)) (by rfl) T.m_is T.F_is.kp (b_is T) .nil pass0 (pa_cons (pe_call (ok_run T) (hr.mono (by decide)) (by rfl) T.m_run T.F_run.kp (b_run T) .nil pass0 (pa_cons (pv 2) (pa_cons (pe_op op_mod (pe_ix ix_list (pv 1) pe_int (fun _ _ => rfl)) pe_int) pa_nil))) (pa_cons (pv 15) pa_nil))))))))
        (pss_one (ps_ret pe_bl))
        pss_nil)
      (pss_cons (ps_if (pt_not (pt_val (pe_call (ok_same T) (hr.mono (by decide)) (by rfl) T.m_same T.F_same.kp (b_same T) .nil pass0 (pa_cons (pv 14) (pa_cons (pv 3) (pa_cons (pv 6) (pa_cons (pv 7) (pa_cons (pv 11) (pa_cons (pv 12) (pa_cons (pv 15) pa_nil))))))))))
        (pss_one (ps_ret pe_bl))
        pss_nil)
      (pss_cons (ps_if (pt_not (pt_val (pe_call (ok_same T) (hr.mono (by decide)) (by rfl) T.m_same T.F_same.kp (b_same T) .nil pass0 (pa_cons (pv 2) (pa_cons (pv 3) (pa_cons (pv 6) (pa_cons (pv 7) (pa_cons (pv 11) (pa_cons (pv 12) (pa_cons (pe_op op_add (pv 13) (pv 15)) pa_nil))))))))))
        (pss_one (ps_ret pe_bl))
        pss_nil)
      (pss_cons (ps_if (PW.pt (pw_or (pt_not (pt_val (pe_call (ok_is T) (hr.mono (by decide)) (by rfl) T.m_is T.F_is.kp (b_is T) .nil pass0 (pa_cons (pe_meth (pv 14) T.cl_Yard T.M_Yard_lay (ok_Yard_lay T) (hr.mono (by decide)) hb_Yard_lay_2 hd_Yard_lay_2 pass0 (pa_cons pe_str pa_nil)) (pa_cons (pe_op op_add (pe_callB call_len_seq (by rfl) T.z_len (by rfl) (pa_cons (pv 3) pa_nil)) (pv 9)) pa_nil))))) (pw_or1 (pt_not (pt_val (pe_call (ok_is T) (hr.mono (by decide)) (by rfl) T.m_is T.F_is.kp (b_is T) .nil pass0 (pa_cons (pe_meth (pv 14) T.cl_Yard T.M_Yard_rod (ok_Yard_rod T) (hr.mono (by decide)) (b_Yard_rod T) .nil pass0 (pa_cons (pe_op op_add (pe_callB call_len_seq (by rfl) T.z_len (by rfl) (pa_cons (pv 3) pa_nil)) (pv 9)) pa_nil)) (pa_cons (pe_callB call_len_seq (by rfl) T.z_len (by rfl) (pa_cons (pv 6) pa_nil)) pa_nil))))))))
        (pss_one (ps_ret pe_bl))
        pss_nil)
      (pss_one (ps_ret (pe_and (pe_call (ok_is T) (hr.mono (by decide)) (by rfl) T.m_is T.F_is.kp (b_is T) .nil pass0 (pa_cons (pe_meth0 (pv 2) T.cl_Yard T.M_Yard_new_rod (ok_Yard_new_rod T) (hr.mono (by decide)) hb_Yard_new_rod_1 hd_Yard_new_rod_1 pass0) (pa_cons (pe_callB call_len_seq (by rfl) T.z_len (by rfl) (pa_cons (pv 6) pa_nil)) pa_nil))) (pe_one (pe_call (ok_is T) (hr.mono (by decide)) (by rfl) T.m_is T.F_is.kp (b_is T) .nil pass0 (pa_cons (pe_meth (pv 2) T.cl_Yard T.M_Yard_lay (ok_Yard_lay T) (hr.mono (by decide)) hb_Yard_lay_2 hd_Yard_lay_2 pass0 (pa_cons pe_str pa_nil)) (pa_cons (pe_op op_add (pe_callB call_len_seq (by rfl) T.z_len (by rfl) (pa_cons (pv 3) pa_nil)) (pv 9)) pa_nil)))))))))))))))))))))), ?_⟩
    rw [show L2.start ["_law_script", "_law_d", "_law_yard", "_law_kinds_here", "_law_notes", "_law_rods", "_law_sides", "_law_mates", "_law_start", "_law_gone", "_law_turn", "_law_rung", "_law_at", "_law_done", "_law_other", "_law_more"] [V.ref a] = ([some (V.ref a), none, none, none, none, none, none, none, none, none, none, none, none, none, none, none] : St) from rfl]
    refine ⟨_, rfl, a, ns0, 200, [], rfl, hS, hns, by decide, by decide, Has.nil, fun H1 d ds h1 hds hdr => ?_⟩
    clear hS hns hdr
    refine ⟨_, rfl, d, ds, 5, _, 0, rfl, h1, rfl, by omega, by omega, fun H2 tp A1 y ks ns rs ss es m z sd mh rr nn kk S h2 => ?_⟩
    refine ⟨tp, _, rfl, SqT.of (h2.get 0 rfl), rfl, _, _, rfl, _, _, rfl, _, _, rfl, _, _, rfl, _, _, rfl, _, _, rfl, _, _, rfl, rfl, ?_⟩
    replace h2 := h2.tail
    dsimp only [List.set]
    obtain ⟨Z, hZ, xm, xr, xn, xk, xd, zp⟩ : ∃ Z : Kn, [(mh, HO.dT m), (rr, .lst (rs.map V.int)), (nn, .lst (ns.map V.int)), (kk, .lst (ksV ks))] ++ (esK es ++ [(d, .lst (ds.map V.int))]) = Z ∧
        (mh, HO.dT m) ∈ Z ∧ (rr, HO.lst (rs.map V.int)) ∈ Z ∧ (nn, HO.lst (ns.map V.int)) ∈ Z ∧ (kk, HO.lst (ksV ks)) ∈ Z ∧ (d, HO.lst (ds.map V.int)) ∈ Z ∧ ∀ z ∈ es, (z.1, HO.tup [.int z.2.1, .int z.2.2]) ∈ Z :=
      ⟨_, rfl, by simp, by simp, by simp, by simp, by simp, fun z hz => List.mem_append_right _ (List.mem_append_left _ (esK_mem hz))⟩
    replace h2 : Has H2 (yL t.c_Yard A1 y ++ ((sd, .lst (ss.map V.int)) :: Z)) := by rw [← hZ]; exact h2
    clear hZ h1
    have gd : ∀ {H : Hp} {X : Kn}, Has H (X ++ Z) → SqL K H d (ds.map V.int) := fun {H X} h => SqL.of (h.at_ _ (List.mem_append_right _ xd))
    have k24 := S.k24
    have k1 := S.k1
    have sl := S.sl
    have zin := S.ei z S.zi
    obtain ⟨zi, zk, ze1, ze2, ze3, ze4⟩ := endsL_there (n := z.2.1) (e := z.2.2) zin
    have zl := (List.getElem?_eq_some_iff.mp ze2).1
    -- gone
    refine ⟨_, rfl, d, _, _, _, rfl, rfl, gd (X := yL t.c_Yard A1 y ++ [_]) (by rw [List.append_assoc]; exact h2), atD (by omega) (by omega), _, _, rfl, rfl, (show (0 : Int) < 3 by decide), ?_⟩
    dsimp only [List.set]
    have g0 := Int.emod_nonneg (ds.getD (0 : Int).toNat 0) (show (3 : Int) ≠ 0 by decide)
    have g1 := Int.emod_lt_of_pos (ds.getD (0 : Int).toNat 0) (show (0 : Int) < 3 by decide)
    obtain ⟨g, hg⟩ : ∃ g : Nat, ds.getD (0 : Int).toNat 0 % 3 = g := ⟨(ds.getD (0 : Int).toNat 0 % 3).toNat, by omega⟩
    rw [hg] at g0 g1 ⊢
    clear hg
    obtain ⟨W, hW⟩ : ∃ W, wOf ks ns rs es m = W := ⟨_, rfl⟩
    have mnone : ∀ (n : Nat) (e : Int), ks.length ≤ n → valV m (kE n e) = none := fun n e hn => by
      cases hv : valV m (kE n e) with
      | none => rfl
      | some v =>
        obtain ⟨p, hp, e⟩ := S.mks _ (valV_key hv)
        obtain ⟨i, k, e1, e2, _⟩ := endsL_there (n := p.1) (e := p.2) hp
        have il := (List.getElem?_eq_some_iff.mp e2).1
        injection e with e3 _
        injection e3 with e3
        omega
    refine ⟨_, rfl, g, rfl, by omega, by omega, for_range (fun i σ H' => ∃ (A : YA) (y1 : YR) (o1 : Option V), σ = [some (.ref a), some (.ref d), some (.ref A.p), some (.ref kk), some (.ref nn), some (.ref rr), some (.ref sd), some (.ref mh), some (.ref z.1), some (.int g), o1, none, none, none, none, none] ∧
      y1.next = ((ks.length + i : Nat) : Int) ∧ y1.kinds = kvOf ks ∧ y1.notes = y.notes ∧ y1.rods = y.rods ∧ y1.mates = m ∧ y1.trail = [] ∧ y1.rung = [] ∧ Rep W ⟨ss ++ List.replicate i 1, some z, []⟩ y1 ∧ Has H' (yL t.c_Yard A y1 ++ ((sd, .lst ((ss ++ List.replicate i 1).map V.int)) :: Z)))
      ⟨A1, y, _, rfl, S.nx, S.kd, rfl, rfl, S.mt, S.tl, S.rg, by rw [List.replicate_zero, List.append_nil, ← hW]; exact S.R, by rw [List.replicate_zero, List.append_nil]; exact h2⟩ ?_ ?_⟩
    · clear h2
      rintro i σ H3 hi ⟨A, y1, o1, rfl, nx, kd, no, ro, mt, tl, rg, R, h3⟩
      have nlen := S.nlen
      have rlen := S.rlen
      have mlen := S.ml
      have sm : Small y1 := ⟨by rw [kd, kvOf_length]; omega, by rw [no]; omega, by rw [ro]; omega, by rw [R.sd, List.length_map, List.length_append, List.length_replicate]; omega, by rw [mt]; omega, by rw [rg]; decide, by rw [tl]; decide⟩
      have vk : valV y1.kinds (Sum.inl y1.next) = none := by rw [kd, nx, valV_kvOf, List.getElem?_eq_none (by omega)]; rfl
      have vn : valV y1.notes (Sum.inl y1.next) = none := by rw [no, nx]; exact (S.fr _ (by omega)).1
      have vr : valV y1.rods (Sum.inl y1.next) = none := by rw [ro, nx]; exact (S.fr _ (by omega)).2
      refine ⟨_, rfl, A.p, A.dx, _, rfl, h3.get 1 rfl, fl_m6 _ _ _, ?_⟩
      refine ⟨_, rfl, A.p, A.dx, _, rfl, h3.get 1 rfl, (fl_m _ _ _).1, A, y1, _, .lazy, 0, .non, rfl, h3, sm, (fun h => nomatch h), (fun _ h => absurd rfl h), fun H4 q4 h4 => ?_⟩
      refine ⟨{ A with tr := q4 }, layY y1 .lazy 0 .non, _, y1.next, .lazy, rfl, h4, (by show valV (putK y1.kinds (Sum.inl y1.next) (.str Kd.lazy.str)) _ = _; rw [valV_put, if_pos rfl]), (fun e _ _ => by show valV y1.mates _ = none; rw [mt, nx]; exact mnone _ _ (by omega)), .inr ⟨z.1, z.2.1, z.2.2, R.en, .tail _ (zp z S.zi), by rw [nx, ze1]; omega⟩, fun H5 q5 h5 => ?_⟩
      have ey : ({ layY y1 .lazy 0 .non with kinds := dropK (layY y1 .lazy 0 .non).kinds (Sum.inl y1.next), notes := dropK (layY y1 .lazy 0 .non).notes (Sum.inl y1.next), rods := dropK (layY y1 .lazy 0 .non).rods (Sum.inl y1.next), trail := [] } : YR) = { y1 with next := y1.next + 1, sides := y1.sides ++ [.int 1], trail := [] } := by
        have e1 : dropK (layY y1 .lazy 0 .non).kinds (Sum.inl y1.next) = y1.kinds := dropK_put vk
        have e2 : dropK (layY y1 .lazy 0 .non).notes (Sum.inl y1.next) = y1.notes := dropK_none vn
        have e3 : dropK (layY y1 .lazy 0 .non).rods (Sum.inl y1.next) = y1.rods := dropK_put vr
        rw [e1, e2, e3]
        rfl
      rw [ey] at h5
      refine ⟨_, rfl, .inl ⟨rfl, _, SqL.of (h5.get 9 rfl)⟩, sd, _, _, rfl, rfl, h5.get 9 rfl, sizeOk (by rw [List.length_map, List.length_append, List.length_replicate]; omega), ?_⟩
      have h6 := h5.puti 9 rfl (.lst ((ss ++ List.replicate i 1).map V.int ++ [.int 1]))
      have er : (ss ++ List.replicate (i + 1) 1).map V.int = (ss ++ List.replicate i 1).map V.int ++ [.int 1] := by rw [List.replicate_succ', ← List.append_assoc, List.map_append]; rfl
      refine ⟨{ A with tr := q5 }, { y1 with next := y1.next + 1, sides := y1.sides ++ [.int 1], trail := [] }, _, rfl, by show y1.next + 1 = _; rw [nx]; rfl, kd, no, ro, mt, rfl, rg, ?_, by rw [er]; exact h6⟩
      have := R.more (y1.next + 1)
      rw [List.replicate_succ', ← List.append_assoc]
      exact this
    · clear h2
      rintro σ H3 ⟨A, y1, o1, rfl, nx, kd, no, ro, mt, tl, rg, R, h3⟩
      rw [Int.toNat_natCast] at nx R h3
      obtain ⟨s0, hs0⟩ : ∃ s0 : Sd, (⟨ss ++ List.replicate g 1, some z, []⟩ : Sd) = s0 := ⟨_, rfl⟩
      have a0 : s0.at_ = some z := by rw [← hs0]
      have r0 : s0.rg = [] := by rw [← hs0]
      have l0 : s0.ss.length ≤ 26 := by rw [← hs0]; show (ss ++ List.replicate g 1).length ≤ 26; rw [List.length_append, List.length_replicate]; omega
      have e0 : ss ++ List.replicate g 1 = s0.ss := by rw [← hs0]
      rw [hs0] at R
      rw [e0] at h3
      clear hs0 e0
      have p0 : Pool W s0 Z := by rw [← hW]; exact S.pool a0 (fun u hu => mem_ix (zp u hu))
      have lw : Lw W ks ns rs m := by rw [← hW]; exact S.lw
      have ekm : EK m := fun k hk => by obtain ⟨p, hp, e⟩ := S.mks k hk; rw [e]; exact ek_end (by omega) hp
      have nlen := S.nlen
      have rlen := S.rlen
      have mlen := S.ml
      obtain ⟨n1, hn1, n1b⟩ : ∃ n1 : Nat, ds.getD (1 : Int).toNat 0 % 30 = n1 ∧ n1 < 30 := by
        have b0 := Int.emod_nonneg (ds.getD (1 : Int).toNat 0) (show (30 : Int) ≠ 0 by decide)
        have b1 := Int.emod_lt_of_pos (ds.getD (1 : Int).toNat 0) (show (0 : Int) < 30 by decide)
        exact ⟨(ds.getD (1 : Int).toNat 0 % 30).toNat, by omega, by omega⟩
      obtain ⟨n2, hn2, n2b⟩ : ∃ n2 : Nat, ds.getD (2 : Int).toNat 0 % 30 = n2 ∧ n2 < 30 := by
        have b0 := Int.emod_nonneg (ds.getD (2 : Int).toNat 0) (show (30 : Int) ≠ 0 by decide)
        have b1 := Int.emod_lt_of_pos (ds.getD (2 : Int).toNat 0) (show (0 : Int) < 30 by decide)
        exact ⟨(ds.getD (2 : Int).toNat 0 % 30).toNat, by omega, by omega⟩
      -- rung
      refine ⟨by decide, fun gg hgg => ?_⟩
      have h5 : Has (upd H3 gg (.lst [])) ((sd, .lst (s0.ss.map V.int)) :: (gg, .lst (s0.rg.map V.int)) :: (yL t.c_Yard A y1 ++ Z)) := by
        rw [r0]; exact (Has.perm (h3.alloc hgg (.lst [])) (List.Perm.cons _ List.perm_middle)).swap2
      generalize upd H3 gg _ = H4 at h5 ⊢
      clear h3 hgg
      dsimp only [List.set]
      -- the walk
      obtain ⟨jk, hjk⟩ := mem_ix (show (kk, HO.lst (ksV ks)) ∈ yL t.c_Yard A y1 ++ Z from List.mem_append_right _ xk)
      obtain ⟨jn, hjn⟩ := mem_ix (show (nn, HO.lst (ns.map V.int)) ∈ yL t.c_Yard A y1 ++ Z from List.mem_append_right _ xn)
      obtain ⟨jr, hjr⟩ := mem_ix (show (rr, HO.lst (rs.map V.int)) ∈ yL t.c_Yard A y1 ++ Z from List.mem_append_right _ xr)
      obtain ⟨jm, hjm⟩ := mem_ix (show (mh, HO.dT m) ∈ yL t.c_Yard A y1 ++ Z from List.mem_append_right _ xm)
      refine ⟨_, rfl, _, rfl, _, rfl, _, rfl, _, rfl, _, rfl, _, rfl, _, rfl, d, _, _, _, rfl, rfl, gd (X := _ :: _ :: yL t.c_Yard A y1) h5, atD (by omega) (by omega), _, _, rfl, rfl, (show (0 : Int) < 30 by decide), ?_⟩
      dsimp only
      rw [hn1]
      refine ⟨sd, gg, kk, nn, rr, mh, _, W, s0, n1, ks, ns, rs, m, jk, jn, jr, jm, (by rw [a0]; rfl), h5, lw, R.okw, p0.app _, hjk, hjn, hjr, hjm, (by rw [r0]; show (0 : Int) + n1 ≤ 900000; omega), fun H6 tp2 h6 O1 _ g6 => ?_⟩
      rw [Int.toNat_natCast] at h6 O1 g6
      refine ⟨tp2, _, rfl, SqT.of (h6.get 0 rfl), rfl, _, _, rfl, _, _, rfl, rfl, ?_⟩
      clear hjk hjn hjr hjm jk jn jr jm h5
      dsimp only [List.set]
      have h7 := Has.comm (X := [_, _]) (Y := yL t.c_Yard A y1) (R := Z) h6.tail
      clear h6
      have p1 := Pool.go n1 p0
      have gl1 := go_len W n1 s0
      have hb1 := hist_le W n1 s0
      -- run
      refine ⟨_, rfl, _, rfl, d, _, _, _, rfl, rfl, gd (X := yL t.c_Yard A y1 ++ [_, _]) (by rw [List.append_assoc]; exact h7), atD (by omega) (by omega), _, _, rfl, rfl, (show (0 : Int) < 30 by decide), ?_⟩
      dsimp only
      rw [hn1]
      refine ⟨A, y1, _, W, s0, [], n1, rfl, h7, R, p0.app [_, _], tl, (show (0 : Int) + (n1 : Int) ≤ 900000 by omega), (by rw [rg]; show (0 : Int) + (n1 : Int) ≤ 900000; omega), Nat.zero_le _, (by rw [rg]; exact Nat.zero_le _), fun H8 y2 ts h8 R8 t8 m8 f1 f2 f3 f4 f5 _ => ?_⟩
      rw [List.nil_append] at h8 t8
      rw [Int.toNat_natCast] at R8 m8
      have lts : ts.length = (W.hist n1 s0).length := by rw [← m8, List.length_map]
      have g6' : (W.go n1 s0).rg.length ≤ 0 + n1 := by rw [r0] at g6; exact g6
      obtain ⟨s1, hs1⟩ : ∃ s1, W.go n1 s0 = s1 := ⟨_, rfl⟩
      rw [hs1] at h8 R8 O1 p1 gl1 g6' ⊢
      clear h7 g6 hs1
      -- the twin
      refine ⟨_, rfl, A, y2, _, rfl, h8, (by rw [f5, mt]; exact ekm), fun H9 B h9 => ?_⟩
      clear h8
      dsimp only [List.set]
      rw [← List.append_assoc (yL t.c_Yard A y2)] at h9
      have kd2 : y2.kinds = kvOf ks := f2.trans kd
      have mt2 : y2.mates = m := f5.trans mt
      have ltr : y2.trail.length = ts.length := by rw [t8]; unfold trV; rw [List.length_map]
      refine ⟨_, rfl, _, rfl, _, rfl, _, rfl, _, rfl, _, rfl, ?_⟩
      obtain ⟨jk, hjk⟩ := mem_ix (show (kk, HO.lst (ksV ks)) ∈ (yL t.c_Yard A y2 ++ trK W ts) ++ ((sd, HO.lst (s1.ss.map V.int)) :: (gg, HO.lst (s1.rg.map V.int)) :: Z) from List.mem_append_right _ (.tail _ (.tail _ xk)))
      obtain ⟨jm, hjm⟩ := mem_ix (show (mh, HO.dT m) ∈ (yL t.c_Yard A y2 ++ trK W ts) ++ ((sd, HO.lst (s1.ss.map V.int)) :: (gg, HO.lst (s1.rg.map V.int)) :: Z) from List.mem_append_right _ (.tail _ (.tail _ xm)))
      obtain ⟨js, hjs⟩ := mem_ix (show (sd, HO.lst (s1.ss.map V.int)) ∈ (yL t.c_Yard A y2 ++ trK W ts) ++ ((sd, HO.lst (s1.ss.map V.int)) :: (gg, HO.lst (s1.rg.map V.int)) :: Z) from List.mem_append_right _ (.head _))
      obtain ⟨jg, hjg⟩ := mem_ix (show (gg, HO.lst (s1.rg.map V.int)) ∈ (yL t.c_Yard A y2 ++ trK W ts) ++ ((sd, HO.lst (s1.ss.map V.int)) :: (gg, HO.lst (s1.rg.map V.int)) :: Z) from List.mem_append_right _ (.tail _ (.head _)))
      refine ⟨B, { y2 with trail := [] }, _, kk, sd, mh, gg, ks, s1.ss, s1.rg, m, enV s1.at_, _, jk, js, jm, jg, rfl, h9, hjk, hjs, hjm, hjg, kd2, R8.sd, R8.rg, (by rw [R8.en]; exact EqE.eng (Pool.app (Pool.app p1 [_, _]) _)), rfl, (fun p _ => by rw [mt2]; exact EqE.mates S.mi (fun u hu => mem_ix (List.mem_append_right _ (.tail _ (.tail _ (zp u hu))))) _), by omega, by omega, by omega, fun H10 h10 => ?_⟩
      clear hjk hjm hjs hjg jk jm js jg
      refine ⟨_, rfl, iteF ?_⟩
      clear h9
      obtain ⟨jk, hjk⟩ := mem_ix (show (kk, HO.lst (ksV ks)) ∈ (yL t.c_Yard A y2 ++ trK W ts) ++ ((sd, HO.lst (s1.ss.map V.int)) :: (gg, HO.lst (s1.rg.map V.int)) :: Z) from List.mem_append_right _ (.tail _ (.tail _ xk)))
      obtain ⟨jn, hjn⟩ := mem_ix (show (nn, HO.lst (ns.map V.int)) ∈ (yL t.c_Yard A y2 ++ trK W ts) ++ ((sd, HO.lst (s1.ss.map V.int)) :: (gg, HO.lst (s1.rg.map V.int)) :: Z) from List.mem_append_right _ (.tail _ (.tail _ xn)))
      obtain ⟨jr, hjr⟩ := mem_ix (show (rr, HO.lst (rs.map V.int)) ∈ (yL t.c_Yard A y2 ++ trK W ts) ++ ((sd, HO.lst (s1.ss.map V.int)) :: (gg, HO.lst (s1.rg.map V.int)) :: Z) from List.mem_append_right _ (.tail _ (.tail _ xr)))
      refine ⟨_, rfl, _, rfl, _, rfl, _, rfl, B, { y2 with trail := [] }, _, kk, nn, rr, ks, ns, rs, es, m, s1, jk, jn, jr, rfl, h10, hjk, hjn, hjr, (by rw [hW]; exact R8.twin), (by rw [hW]; exact lw), by omega, fun H11 h11 => ?_⟩
      refine ⟨_, rfl, iteF ?_⟩
      clear h10 hjk hjn hjr jk jn jr
      -- back
      refine ⟨_, rfl, B, { y2 with trail := [] }, ((yL t.c_Yard A y2 ++ trK W ts) ++ ((sd, HO.lst (s1.ss.map V.int)) :: (gg, HO.lst (s1.rg.map V.int)) :: Z)), W, s1, [], 5, rfl, h11, O1, R8.twin, (p1.app [_, _]).app _, rfl, rfl, Nat.zero_le _, fun H12 y3 j ej h12 R12 t12 m12 u1 u2 u3 u4 u5 => ?_⟩
      have j0 : j = 0 := by
        have ej : (j : Int) = ((0 : Nat) : Int) - max 0 (min 5 ((0 : Nat) : Int)) := ej
        omega
      subst j0
      refine ⟨_, _, rfl, ?_⟩
      rw [decide_eq_true (show max (0 : Int) (min 5 ((([] : List (Addr × Sd)).length : Nat) : Int)) = 0 by decide)]
      refine ⟨_, rfl, iteF ?_⟩
      replace h12 : Has H12 (yL t.c_Yard B y3 ++ ((yL t.c_Yard A y2 ++ trK W ts) ++ ((sd, HO.lst (s1.ss.map V.int)) :: (gg, HO.lst (s1.rg.map V.int)) :: Z))) := h12
      replace R12 : Rep W s1 y3 := R12
      replace t12 : y3.trail = [] := t12
      clear h11 m12 ej
      have toA : ∀ {H : Hp} {yB yA : YR} {tA C : Kn}, Has H (yL t.c_Yard B yB ++ ((yL t.c_Yard A yA ++ tA) ++ C)) → Has H (yL t.c_Yard A yA ++ ((tA ++ yL t.c_Yard B yB) ++ C)) := fun {H yB yA tA C} h => by
        have := Has.comm (X := yL t.c_Yard B yB) (Y := yL t.c_Yard A yA ++ tA) (R := C) h
        rw [List.append_assoc] at this
        rw [List.append_assoc]
        exact this
      have toB : ∀ {H : Hp} {yB yA : YR} {tA C : Kn}, Has H (yL t.c_Yard A yA ++ ((tA ++ yL t.c_Yard B yB) ++ C)) → Has H (yL t.c_Yard B yB ++ ((yL t.c_Yard A yA ++ tA) ++ C)) := fun {H yB yA tA C} h => by
        refine Has.comm (X := yL t.c_Yard A yA ++ tA) (Y := yL t.c_Yard B yB) (R := C) ?_
        rw [List.append_assoc]
        rw [List.append_assoc] at h
        exact h
      -- the first one still has its trail
      refine ⟨_, rfl, _, rfl, _, rfl, _, rfl, _, rfl, _, rfl, _, rfl, ?_⟩
      obtain ⟨jk, hjk⟩ := mem_ix (show (kk, HO.lst (ksV ks)) ∈ (trK W ts ++ yL t.c_Yard B y3) ++ ((sd, HO.lst (s1.ss.map V.int)) :: (gg, HO.lst (s1.rg.map V.int)) :: Z) from List.mem_append_right _ (.tail _ (.tail _ xk)))
      obtain ⟨jm, hjm⟩ := mem_ix (show (mh, HO.dT m) ∈ (trK W ts ++ yL t.c_Yard B y3) ++ ((sd, HO.lst (s1.ss.map V.int)) :: (gg, HO.lst (s1.rg.map V.int)) :: Z) from List.mem_append_right _ (.tail _ (.tail _ xm)))
      obtain ⟨js, hjs⟩ := mem_ix (show (sd, HO.lst (s1.ss.map V.int)) ∈ (trK W ts ++ yL t.c_Yard B y3) ++ ((sd, HO.lst (s1.ss.map V.int)) :: (gg, HO.lst (s1.rg.map V.int)) :: Z) from List.mem_append_right _ (.head _))
      obtain ⟨jg, hjg⟩ := mem_ix (show (gg, HO.lst (s1.rg.map V.int)) ∈ (trK W ts ++ yL t.c_Yard B y3) ++ ((sd, HO.lst (s1.ss.map V.int)) :: (gg, HO.lst (s1.rg.map V.int)) :: Z) from List.mem_append_right _ (.tail _ (.head _)))
      refine ⟨A, y2, _, kk, sd, mh, gg, ks, s1.ss, s1.rg, m, enV s1.at_, _, jk, js, jm, jg, rfl, (toA h12), hjk, hjs, hjm, hjg, kd2, R8.sd, R8.rg, (by rw [R8.en]; exact EqE.eng (Pool.app (Pool.app p1 [_, _]) _)), (by rw [ltr, lts]), (fun p _ => by rw [mt2]; exact EqE.mates S.mi (fun u hu => mem_ix (List.mem_append_right _ (.tail _ (.tail _ (zp u hu))))) _), by omega, by omega, by omega, fun H13 h13 => ?_⟩
      clear hjk hjm hjs hjg jk jm js jg
      refine ⟨_, rfl, iteF ?_⟩
      replace h13 := toB h13
      clear h12
      -- walk on
      have h14 : Has H13 ((sd, HO.lst (s1.ss.map V.int)) :: (gg, HO.lst (s1.rg.map V.int)) :: ((yL t.c_Yard B y3 ++ (yL t.c_Yard A y2 ++ trK W ts)) ++ Z)) := by
        refine Has.comm (X := yL t.c_Yard B y3 ++ (yL t.c_Yard A y2 ++ trK W ts)) (Y := [_, _]) (R := Z) ?_
        rw [List.append_assoc]; exact h13
      clear h13
      obtain ⟨jk, hjk⟩ := mem_ix (show (kk, HO.lst (ksV ks)) ∈ (yL t.c_Yard B y3 ++ (yL t.c_Yard A y2 ++ trK W ts)) ++ Z from List.mem_append_right _ xk)
      obtain ⟨jn, hjn⟩ := mem_ix (show (nn, HO.lst (ns.map V.int)) ∈ (yL t.c_Yard B y3 ++ (yL t.c_Yard A y2 ++ trK W ts)) ++ Z from List.mem_append_right _ xn)
      obtain ⟨jr, hjr⟩ := mem_ix (show (rr, HO.lst (rs.map V.int)) ∈ (yL t.c_Yard B y3 ++ (yL t.c_Yard A y2 ++ trK W ts)) ++ Z from List.mem_append_right _ xr)
      obtain ⟨jm, hjm⟩ := mem_ix (show (mh, HO.dT m) ∈ (yL t.c_Yard B y3 ++ (yL t.c_Yard A y2 ++ trK W ts)) ++ Z from List.mem_append_right _ xm)
      refine ⟨_, rfl, _, rfl, _, rfl, _, rfl, _, rfl, _, rfl, _, rfl, _, rfl, d, _, _, _, rfl, rfl, gd (X := _ :: _ :: (yL t.c_Yard B y3 ++ (yL t.c_Yard A y2 ++ trK W ts))) h14, atD (by omega) (by omega), _, _, rfl, rfl, (show (0 : Int) < 30 by decide), ?_⟩
      dsimp only
      rw [hn2]
      refine ⟨sd, gg, kk, nn, rr, mh, _, W, s1, n2, ks, ns, rs, m, jk, jn, jr, jm, rfl, h14, lw, O1, p1.app _, hjk, hjn, hjr, hjm, (by omega), fun H15 tp3 h15 O2 _ g15 => ?_⟩
      rw [Int.toNat_natCast] at h15 O2 g15
      refine ⟨tp3, _, rfl, SqT.of (h15.get 0 rfl), rfl, _, _, rfl, _, _, rfl, rfl, ?_⟩
      clear hjk hjn hjr hjm jk jn jr jm h14
      dsimp only [List.set]
      have p2 := Pool.go n2 p1
      have gl2 := go_len W n2 s1
      have hb2 := hist_le W n2 s1
      have h16 : Has H15 (yL t.c_Yard B y3 ++ (trK W [] ++ ((yL t.c_Yard A y2 ++ trK W ts) ++ ((sd, HO.lst ((W.go n2 s1).ss.map V.int)) :: (gg, HO.lst ((W.go n2 s1).rg.map V.int)) :: Z)))) := by
        show Has H15 (yL t.c_Yard B y3 ++ ((yL t.c_Yard A y2 ++ trK W ts) ++ _))
        rw [← List.append_assoc]
        exact Has.comm (X := [_, _]) (Y := yL t.c_Yard B y3 ++ (yL t.c_Yard A y2 ++ trK W ts)) (R := Z) h15.tail
      clear h15
      -- both run on
      refine ⟨_, rfl, _, rfl, d, _, _, _, rfl, rfl, SqL.of (h16.at_ _ (List.mem_append_right _ (List.mem_append_right _ (List.mem_append_right _ (.tail _ (.tail _ xd)))))), atD (by omega) (by omega), _, _, rfl, rfl, (show (0 : Int) < 30 by decide), ?_⟩
      dsimp only
      rw [hn2]
      have ry3 : y3.rung.length ≤ 30 := by rw [R12.rg, List.length_map]; omega
      have ry2 : y2.rung.length ≤ 30 := by rw [R8.rg, List.length_map]; omega
      refine ⟨B, y3, ((yL t.c_Yard A y2 ++ trK W ts) ++ ((sd, HO.lst ((W.go n2 s1).ss.map V.int)) :: (gg, HO.lst ((W.go n2 s1).rg.map V.int)) :: Z)), W, s1, [], n2, rfl, h16, R12, (p1.app [_, _]).app _, t12, (show (0 : Int) + (n2 : Int) ≤ 900000 by omega), (by omega), Nat.zero_le _, (by omega), fun H17 y4 ts4 h17 R17 t17 m17 v1 v2 v3 v4 v5 _ => ?_⟩
      rw [List.nil_append] at h17 t17
      rw [Int.toNat_natCast] at R17 m17
      have lts4 : ts4.length = (W.hist n2 s1).length := by rw [← m17, List.length_map]
      refine ⟨_, rfl, _, _, rfl, ?_⟩
      rw [decide_eq_true (show (ts4.length : Int) = ((W.hist n2 s1).length : Int) by omega)]
      refine ⟨_, rfl, iteF ?_⟩
      have h18 : Has H17 (yL t.c_Yard A y2 ++ (trK W ts ++ ((yL t.c_Yard B y4 ++ trK W ts4) ++ ((sd, HO.lst ((W.go n2 s1).ss.map V.int)) :: (gg, HO.lst ((W.go n2 s1).rg.map V.int)) :: Z)))) := by
        rw [← List.append_assoc (yL t.c_Yard A y2)]
        refine Has.comm (X := yL t.c_Yard B y4 ++ trK W ts4) (Y := yL t.c_Yard A y2 ++ trK W ts) ?_
        rw [List.append_assoc]; exact h17
      clear h17 h16
      refine ⟨_, rfl, _, rfl, d, _, _, _, rfl, rfl, SqL.of (h18.at_ _ (List.mem_append_right _ (List.mem_append_right _ (List.mem_append_right _ (.tail _ (.tail _ xd)))))), atD (by omega) (by omega), _, _, rfl, rfl, (show (0 : Int) < 30 by decide), ?_⟩
      dsimp only
      rw [hn2]
      refine ⟨A, y2, ((yL t.c_Yard B y4 ++ trK W ts4) ++ ((sd, HO.lst ((W.go n2 s1).ss.map V.int)) :: (gg, HO.lst ((W.go n2 s1).rg.map V.int)) :: Z)), W, s1, ts, n2, rfl, h18, R8, (p1.app [_, _]).app _, t8, (by omega), (by omega), (by omega), (by omega), fun H19 y5 ts5 h19 R19 t19 m19 w1 w2 w3 w4 w5 _ => ?_⟩
      rw [Int.toNat_natCast] at R19 m19
      have lts5 : ts5.length = (W.hist n2 s1).length := by rw [← m19, List.length_map]
      refine ⟨_, rfl, _, _, rfl, ?_⟩
      rw [decide_eq_true (show (ts5.length : Int) = ((W.hist n2 s1).length : Int) by omega)]
      refine ⟨_, rfl, iteF ?_⟩
      clear h18
      obtain ⟨s2, hs2⟩ : ∃ s2, W.go n2 s1 = s2 := ⟨_, rfl⟩
      rw [hs2] at R17 R19 p2 gl2 g15 h19 ⊢
      clear hs2
      have kd4 : y4.kinds = kvOf ks := v2.trans (u2.trans kd2)
      have mt4 : y4.mates = m := v5.trans (u5.trans mt2)
      have kd5 : y5.kinds = kvOf ks := w2.trans kd2
      have mt5 : y5.mates = m := w5.trans mt2
      have nx4 : y4.next = ((ks.length + g : Nat) : Int) := v1.trans (u1.trans (f1.trans nx))
      have nx5 : y5.next = ((ks.length + g : Nat) : Int) := w1.trans (f1.trans nx)
      have tr4 : y4.trail.length = ts4.length := by rw [t17]; unfold trV; rw [List.length_map]
      have tr5 : y5.trail.length = ts.length + ts5.length := by rw [t19]; unfold trV; rw [List.length_map, List.length_append]
      have h20 : Has H19 (yL t.c_Yard B y4 ++ ((trK W ts4 ++ (yL t.c_Yard A y5 ++ trK W (ts ++ ts5))) ++ ((sd, HO.lst (s2.ss.map V.int)) :: (gg, HO.lst (s2.rg.map V.int)) :: Z))) := by
        have := Has.comm (X := yL t.c_Yard A y5 ++ trK W (ts ++ ts5)) (Y := yL t.c_Yard B y4 ++ trK W ts4) (R := (sd, HO.lst (s2.ss.map V.int)) :: (gg, HO.lst (s2.rg.map V.int)) :: Z) (by rw [List.append_assoc]; exact h19)
        rw [List.append_assoc] at this
        rw [List.append_assoc (trK W ts4)]
        exact this
      clear h19
      refine ⟨_, rfl, _, rfl, _, rfl, _, rfl, _, rfl, _, rfl, _, rfl, ?_⟩
      obtain ⟨jk, hjk⟩ := mem_ix (show (kk, HO.lst (ksV ks)) ∈ (trK W ts4 ++ (yL t.c_Yard A y5 ++ trK W (ts ++ ts5))) ++ ((sd, HO.lst (s2.ss.map V.int)) :: (gg, HO.lst (s2.rg.map V.int)) :: Z) from List.mem_append_right _ (.tail _ (.tail _ xk)))
      obtain ⟨jm, hjm⟩ := mem_ix (show (mh, HO.dT m) ∈ (trK W ts4 ++ (yL t.c_Yard A y5 ++ trK W (ts ++ ts5))) ++ ((sd, HO.lst (s2.ss.map V.int)) :: (gg, HO.lst (s2.rg.map V.int)) :: Z) from List.mem_append_right _ (.tail _ (.tail _ xm)))
      obtain ⟨js, hjs⟩ := mem_ix (show (sd, HO.lst (s2.ss.map V.int)) ∈ (trK W ts4 ++ (yL t.c_Yard A y5 ++ trK W (ts ++ ts5))) ++ ((sd, HO.lst (s2.ss.map V.int)) :: (gg, HO.lst (s2.rg.map V.int)) :: Z) from List.mem_append_right _ (.head _))
      obtain ⟨jg, hjg⟩ := mem_ix (show (gg, HO.lst (s2.rg.map V.int)) ∈ (trK W ts4 ++ (yL t.c_Yard A y5 ++ trK W (ts ++ ts5))) ++ ((sd, HO.lst (s2.ss.map V.int)) :: (gg, HO.lst (s2.rg.map V.int)) :: Z) from List.mem_append_right _ (.tail _ (.head _)))
      refine ⟨B, y4, _, kk, sd, mh, gg, ks, s2.ss, s2.rg, m, enV s2.at_, _, jk, js, jm, jg, rfl, h20, hjk, hjs, hjm, hjg, kd4, R17.sd, R17.rg, (by rw [R17.en]; exact EqE.eng (Pool.app (Pool.app p2 [_, _]) _)), (by rw [tr4, lts4]), (fun p _ => by rw [mt4]; exact EqE.mates S.mi (fun u hu => mem_ix (List.mem_append_right _ (.tail _ (.tail _ (zp u hu))))) _), by omega, by omega, by omega, fun H21 h21 => ?_⟩
      clear hjk hjm hjs hjg jk jm js jg
      refine ⟨_, rfl, iteF ?_⟩
      clear h20
      have toA2 : ∀ {H : Hp} {B1 A1 : YA} {yB yA : YR} {tB tA C : Kn}, Has H (yL t.c_Yard B1 yB ++ ((tB ++ (yL t.c_Yard A1 yA ++ tA)) ++ C)) → Has H (yL t.c_Yard A1 yA ++ ((tA ++ (yL t.c_Yard B1 yB ++ tB)) ++ C)) := fun {H B1 A1 yB yA tB tA C} h => by
        have := Has.comm (X := yL t.c_Yard B1 yB ++ tB) (Y := yL t.c_Yard A1 yA ++ tA) (R := C) (by rw [List.append_assoc]; rw [List.append_assoc tB] at h; exact h)
        rw [List.append_assoc] at this
        rw [List.append_assoc tA]
        exact this
      replace h21 := toA2 h21
      refine ⟨_, rfl, _, rfl, _, rfl, _, rfl, _, rfl, _, rfl, _, rfl, _, rfl, _, _, rfl, rfl, ?_⟩
      obtain ⟨jk, hjk⟩ := mem_ix (show (kk, HO.lst (ksV ks)) ∈ (trK W (ts ++ ts5) ++ (yL t.c_Yard B y4 ++ trK W ts4)) ++ ((sd, HO.lst (s2.ss.map V.int)) :: (gg, HO.lst (s2.rg.map V.int)) :: Z) from List.mem_append_right _ (.tail _ (.tail _ xk)))
      obtain ⟨jm, hjm⟩ := mem_ix (show (mh, HO.dT m) ∈ (trK W (ts ++ ts5) ++ (yL t.c_Yard B y4 ++ trK W ts4)) ++ ((sd, HO.lst (s2.ss.map V.int)) :: (gg, HO.lst (s2.rg.map V.int)) :: Z) from List.mem_append_right _ (.tail _ (.tail _ xm)))
      obtain ⟨js, hjs⟩ := mem_ix (show (sd, HO.lst (s2.ss.map V.int)) ∈ (trK W (ts ++ ts5) ++ (yL t.c_Yard B y4 ++ trK W ts4)) ++ ((sd, HO.lst (s2.ss.map V.int)) :: (gg, HO.lst (s2.rg.map V.int)) :: Z) from List.mem_append_right _ (.head _))
      obtain ⟨jg, hjg⟩ := mem_ix (show (gg, HO.lst (s2.rg.map V.int)) ∈ (trK W (ts ++ ts5) ++ (yL t.c_Yard B y4 ++ trK W ts4)) ++ ((sd, HO.lst (s2.ss.map V.int)) :: (gg, HO.lst (s2.rg.map V.int)) :: Z) from List.mem_append_right _ (.tail _ (.head _)))
      refine ⟨A, y5, _, kk, sd, mh, gg, ks, s2.ss, s2.rg, m, enV s2.at_, _, jk, js, jm, jg, rfl, h21, hjk, hjs, hjm, hjg, kd5, R19.sd, R19.rg, (by rw [R19.en]; exact EqE.eng (Pool.app (Pool.app p2 [_, _]) _)), (by rw [tr5]; omega), (fun p _ => by rw [mt5]; exact EqE.mates S.mi (fun u hu => mem_ix (List.mem_append_right _ (.tail _ (.tail _ (zp u hu))))) _), by omega, by omega, by omega, fun H22 h22 => ?_⟩
      clear hjk hjm hjs hjg jk jm js jg
      refine ⟨_, rfl, iteF ?_⟩
      clear h21
      replace h22 := toA2 h22
      have sd4 : y4.sides.length = s2.ss.length := by rw [R17.sd, List.length_map]
      have sd5 : y5.sides.length = s2.ss.length := by rw [R19.sd, List.length_map]
      have rg4 : y4.rung.length ≤ 60 := by rw [R17.rg, List.length_map]; omega
      have rg5 : y5.rung.length ≤ 60 := by rw [R19.rg, List.length_map]; omega
      have sm4 : Small y4 := ⟨by rw [kd4, kvOf_length]; omega, by rw [v3, u3]; show y2.notes.length ≤ _; rw [f3, no]; omega, by rw [v4, u4]; show y2.rods.length ≤ _; rw [f4, ro]; omega, by omega, by rw [mt4]; omega, by omega, by omega⟩
      have sm5 : Small y5 := ⟨by rw [kd5, kvOf_length]; omega, by rw [w3, f3, no]; omega, by rw [w4, f4, ro]; omega, by omega, by rw [mt5]; omega, by omega, by omega⟩
      have kvl : (ksV ks).length = ks.length := by unfold ksV; rw [List.length_map]
      have vk4 : valV y4.kinds (Sum.inl y4.next) = none := by rw [kd4, nx4, valV_kvOf, List.getElem?_eq_none (by omega)]; rfl
      -- what is laid next
      refine ⟨_, rfl, B.p, B.dx, _, rfl, h22.get 1 rfl, (fl_m _ _ _).1, B, y4, _, .still, 0, .non, rfl, h22, sm4, (fun h => nomatch h), (fun _ h => absurd rfl h), fun H23 q23 h23 => ?_⟩
      have inC : ∀ {H : Hp} {A1 : YA} {yA : YR} {X : Kn} {x : Addr × HO}, Has H (yL t.c_Yard A1 yA ++ (X ++ ((sd, HO.lst (s2.ss.map V.int)) :: (gg, HO.lst (s2.rg.map V.int)) :: Z))) → x ∈ Z → H x.1 = some x.2 := fun {H A1 yA X x} h hx => h.at_ x (List.mem_append_right _ (List.mem_append_right _ (.tail _ (.tail _ hx))))
      have inS : ∀ {H : Hp} {A1 : YA} {yA : YR} {X : Kn}, Has H (yL t.c_Yard A1 yA ++ (X ++ ((sd, HO.lst (s2.ss.map V.int)) :: (gg, HO.lst (s2.rg.map V.int)) :: Z))) → H sd = some (.lst (s2.ss.map V.int)) := fun {H A1 yA X} h => h.at_ (sd, _) (List.mem_append_right _ (List.mem_append_right _ (.head _)))
      refine ⟨_, rfl, kk, _, rfl, .inl (SqL.of (inC h23 xk)), _, rfl, _, _, rfl, rfl, _, _, rfl, ?_⟩
      rw [decide_eq_true (show y4.next = ((ksV ks).length : Int) + (g : Int) by rw [nx4, kvl]; omega)]
      refine ⟨_, rfl, iteF ?_⟩
      refine ⟨_, rfl, B.p, B.dx, _, rfl, h23.get 1 rfl, (fl_m _ _ _).2.2.2.2.1, _, rfl, kk, _, rfl, .inl (SqL.of (inC h23 xk)), _, rfl, _, _, rfl, rfl, { B with tr := q23 }, layY y4 .still 0 .non, _, _, .str Kd.still.str, .int (y4.sides.length : Int), rfl, h23, ?_, ?_, ?_⟩
      · show valV (putK y4.kinds (Sum.inl y4.next) (.str Kd.still.str)) (Sum.inl (((ksV ks).length : Int) + (g : Int))) = _
        rw [show ((ksV ks).length : Int) + (g : Int) = y4.next by rw [nx4, kvl]; omega, valV_put, if_pos rfl]
      · show valV (putK y4.rods (Sum.inl y4.next) (.int (y4.sides.length : Int))) (Sum.inl (((ksV ks).length : Int) + (g : Int))) = _
        rw [show ((ksV ks).length : Int) + (g : Int) = y4.next by rw [nx4, kvl]; omega, valV_put, if_pos rfl]
      refine ⟨_, rfl, sd, _, rfl, .inl (SqL.of (inS h23)), _, _, rfl, ?_⟩
      rw [decide_eq_true (show (y4.sides.length : Int) = ((s2.ss.map V.int).length : Int) by rw [sd4, List.length_map])]
      refine ⟨_, rfl, iteF ?_⟩
      replace h23 := toA2 h23
      clear h22
      refine ⟨_, rfl, A.p, A.dx, _, rfl, h23.get 1 rfl, (fl_m _ _ _).2.1, A, y5, _, 1, rfl, h23, .inl rfl, (by omega), fun H24 q24 h24 => ?_⟩
      refine ⟨_, rfl, sd, _, rfl, .inl (SqL.of (inS h24)), _, _, rfl, ?_⟩
      rw [decide_eq_true (show (y5.sides.length : Int) = ((s2.ss.map V.int).length : Int) by rw [sd5, List.length_map])]
      refine ⟨_, rfl, iteT ?_⟩
      have sm6 : Small { y5 with sides := y5.sides ++ [.int 1], trail := [] } := ⟨sm5.k, sm5.n, sm5.r, by show (y5.sides ++ [V.int 1]).length ≤ _; rw [List.length_append, List.length_singleton]; omega, sm5.m, sm5.g, Nat.zero_le _⟩
      refine ⟨_, rfl, A.p, A.dx, _, rfl, h24.get 1 rfl, (fl_m _ _ _).1, { A with tr := q24 }, _, _, .line, 0, .non, rfl, h24, sm6, (fun h => nomatch h), (fun h => nomatch h), fun H25 q25 h25 => ?_⟩
      refine ⟨_, rfl, kk, _, rfl, .inl (SqL.of (inC h25 xk)), _, rfl, _, _, rfl, rfl, _, _, rfl, ?_⟩
      rw [decide_eq_true (show y5.next = ((ksV ks).length : Int) + (g : Int) by rw [nx5, kvl]; omega)]
      exact q _
end

end P


set_option Elab.async false
set_option linter.all false
set_option maxRecDepth 100000
set_option maxHeartbeats 4000000
namespace P
open PySem L2

theorem txt_mk {K : PySem.W.Frag} {h : Heap} {mg : Str → Option Value} (KX : K.In h) (G : h.Ns mainGlobals mg)
    {f_law : Addr} {od_law an_law : Option Addr} {sl_law : Array (Option Value)} {oc_law dV_law kV_law dc_law pm_law cd_law ct_law : Value}
    {f_draws : Addr} {od_draws an_draws : Option Addr} {sl_draws : Array (Option Value)} {oc_draws dV_draws kV_draws dc_draws pm_draws cd_draws ct_draws : Value}
    {f_set : Addr} {od_set an_set : Option Addr} {sl_set : Array (Option Value)} {oc_set dV_set kV_set dc_set pm_set cd_set ct_set : Value}
    {f_built : Addr} {od_built an_built : Option Addr} {sl_built : Array (Option Value)} {oc_built dV_built kV_built dc_built pm_built cd_built ct_built : Value}
    {f_kind : Addr} {od_kind an_kind : Option Addr} {sl_kind : Array (Option Value)} {oc_kind dV_kind kV_kind dc_kind pm_kind cd_kind ct_kind : Value}
    {f_kinds : Addr} {od_kinds an_kinds : Option Addr} {sl_kinds : Array (Option Value)} {oc_kinds dV_kinds kV_kinds dc_kinds pm_kinds cd_kinds ct_kinds : Value}
    {f_many : Addr} {od_many an_many : Option Addr} {sl_many : Array (Option Value)} {oc_many dV_many kV_many dc_many pm_many cd_many ct_many : Value}
    {f_linked : Addr} {od_linked an_linked : Option Addr} {sl_linked : Array (Option Value)} {oc_linked dV_linked kV_linked dc_linked pm_linked cd_linked ct_linked : Value}
    {f_ends : Addr} {od_ends an_ends : Option Addr} {sl_ends : Array (Option Value)} {oc_ends dV_ends kV_ends dc_ends pm_ends cd_ends ct_ends : Value}
    {f_thrown : Addr} {od_thrown an_thrown : Option Addr} {sl_thrown : Array (Option Value)} {oc_thrown dV_thrown kV_thrown dc_thrown pm_thrown cd_thrown ct_thrown : Value}
    {f_size : Addr} {od_size an_size : Option Addr} {sl_size : Array (Option Value)} {oc_size dV_size kV_size dc_size pm_size cd_size ct_size : Value}
    {f_links : Addr} {od_links an_links : Option Addr} {sl_links : Array (Option Value)} {oc_links dV_links kV_links dc_links pm_links cd_links ct_links : Value}
    {f_walk : Addr} {od_walk an_walk : Option Addr} {sl_walk : Array (Option Value)} {oc_walk dV_walk kV_walk dc_walk pm_walk cd_walk ct_walk : Value}
    {f_passing : Addr} {od_passing an_passing : Option Addr} {sl_passing : Array (Option Value)} {oc_passing dV_passing kV_passing dc_passing pm_passing cd_passing ct_passing : Value}
    {f_run : Addr} {od_run an_run : Option Addr} {sl_run : Array (Option Value)} {oc_run dV_run kV_run dc_run pm_run cd_run ct_run : Value}
    {f_next_step : Addr} {od_next_step an_next_step : Option Addr} {sl_next_step : Array (Option Value)} {oc_next_step dV_next_step kV_next_step dc_next_step pm_next_step cd_next_step ct_next_step : Value}
    {f_passage : Addr} {od_passage an_passage : Option Addr} {sl_passage : Array (Option Value)} {oc_passage dV_passage kV_passage dc_passage pm_passage cd_passage ct_passage : Value}
    {f_check_end : Addr} {od_check_end an_check_end : Option Addr} {sl_check_end : Array (Option Value)} {oc_check_end dV_check_end kV_check_end dc_check_end pm_check_end cd_check_end ct_check_end : Value}
    {f_ends_of : Addr} {od_ends_of an_ends_of : Option Addr} {sl_ends_of : Array (Option Value)} {oc_ends_of dV_ends_of kV_ends_of dc_ends_of pm_ends_of cd_ends_of ct_ends_of : Value}
    {f_is_point : Addr} {od_is_point an_is_point : Option Addr} {sl_is_point : Array (Option Value)} {oc_is_point dV_is_point kV_is_point dc_is_point pm_is_point cd_is_point ct_is_point : Value}
    {f_check_side : Addr} {od_check_side an_check_side : Option Addr} {sl_check_side : Array (Option Value)} {oc_check_side dV_check_side kV_check_side dc_check_side pm_check_side cd_check_side ct_check_side : Value}
    {f_point_passage : Addr} {od_point_passage an_point_passage : Option Addr} {sl_point_passage : Array (Option Value)} {oc_point_passage dV_point_passage kV_point_passage dc_point_passage pm_point_passage cd_point_passage ct_point_passage : Value}
    {f_twin : Addr} {od_twin an_twin : Option Addr} {sl_twin : Array (Option Value)} {oc_twin dV_twin kV_twin dc_twin pm_twin cd_twin ct_twin : Value}
    {f_same : Addr} {od_same an_same : Option Addr} {sl_same : Array (Option Value)} {oc_same dV_same kV_same dc_same pm_same cd_same ct_same : Value}
    {f_is_row : Addr} {od_is_row an_is_row : Option Addr} {sl_is_row : Array (Option Value)} {oc_is_row dV_is_row kV_is_row dc_is_row pm_is_row cd_is_row ct_is_row : Value}
    {f_is : Addr} {od_is an_is : Option Addr} {sl_is : Array (Option Value)} {oc_is dV_is kV_is dc_is pm_is cd_is ct_is : Value}
    {f_whole : Addr} {od_whole an_whole : Option Addr} {sl_whole : Array (Option Value)} {oc_whole dV_whole kV_whole dc_whole pm_whole cd_whole ct_whole : Value}
    {f_is_end : Addr} {od_is_end an_is_end : Option Addr} {sl_is_end : Array (Option Value)} {oc_is_end dV_is_end kV_is_end dc_is_end pm_is_end cd_is_end ct_is_end : Value}
    {f_pieces : Addr} {od_pieces an_pieces : Option Addr} {sl_pieces : Array (Option Value)} {oc_pieces dV_pieces kV_pieces dc_pieces pm_pieces cd_pieces ct_pieces : Value}
    {f_back : Addr} {od_back an_back : Option Addr} {sl_back : Array (Option Value)} {oc_back dV_back kV_back dc_back pm_back cd_back ct_back : Value}
    {f_check_note : Addr} {od_check_note an_check_note : Option Addr} {sl_check_note : Array (Option Value)} {oc_check_note dV_check_note kV_check_note dc_check_note pm_check_note cd_check_note ct_check_note : Value}
    {f_Yard_init : Addr} {od_Yard_init an_Yard_init : Option Addr} {sl_Yard_init : Array (Option Value)} {oc_Yard_init dV_Yard_init kV_Yard_init dc_Yard_init pm_Yard_init cd_Yard_init ct_Yard_init : Value}
    {f_Yard_lift : Addr} {od_Yard_lift an_Yard_lift : Option Addr} {sl_Yard_lift : Array (Option Value)} {oc_Yard_lift dV_Yard_lift kV_Yard_lift dc_Yard_lift pm_Yard_lift cd_Yard_lift ct_Yard_lift : Value}
    {f_Yard_check_piece : Addr} {od_Yard_check_piece an_Yard_check_piece : Option Addr} {sl_Yard_check_piece : Array (Option Value)} {oc_Yard_check_piece dV_Yard_check_piece kV_Yard_check_piece dc_Yard_check_piece pm_Yard_check_piece cd_Yard_check_piece ct_Yard_check_piece : Value}
    {f_Yard_end_trail : Addr} {od_Yard_end_trail an_Yard_end_trail : Option Addr} {sl_Yard_end_trail : Array (Option Value)} {oc_Yard_end_trail dV_Yard_end_trail kV_Yard_end_trail dc_Yard_end_trail pm_Yard_end_trail cd_Yard_end_trail ct_Yard_end_trail : Value}
    {f_Yard_lay : Addr} {od_Yard_lay an_Yard_lay : Option Addr} {sl_Yard_lay : Array (Option Value)} {oc_Yard_lay dV_Yard_lay kV_Yard_lay dc_Yard_lay pm_Yard_lay cd_Yard_lay ct_Yard_lay : Value}
    {f_Yard_check_rod : Addr} {od_Yard_check_rod an_Yard_check_rod : Option Addr} {sl_Yard_check_rod : Array (Option Value)} {oc_Yard_check_rod dV_Yard_check_rod kV_Yard_check_rod dc_Yard_check_rod pm_Yard_check_rod cd_Yard_check_rod ct_Yard_check_rod : Value}
    {f_Yard_new_rod : Addr} {od_Yard_new_rod an_Yard_new_rod : Option Addr} {sl_Yard_new_rod : Array (Option Value)} {oc_Yard_new_rod dV_Yard_new_rod kV_Yard_new_rod dc_Yard_new_rod pm_Yard_new_rod cd_Yard_new_rod ct_Yard_new_rod : Value}
    {f_Yard_rod : Addr} {od_Yard_rod an_Yard_rod : Option Addr} {sl_Yard_rod : Array (Option Value)} {oc_Yard_rod dV_Yard_rod kV_Yard_rod dc_Yard_rod pm_Yard_rod cd_Yard_rod ct_Yard_rod : Value}
    {f_Yard_put : Addr} {od_Yard_put an_Yard_put : Option Addr} {sl_Yard_put : Array (Option Value)} {oc_Yard_put dV_Yard_put kV_Yard_put dc_Yard_put pm_Yard_put cd_Yard_put ct_Yard_put : Value}
    {f_Yard_check_there : Addr} {od_Yard_check_there an_Yard_check_there : Option Addr} {sl_Yard_check_there : Array (Option Value)} {oc_Yard_check_there dV_Yard_check_there kV_Yard_check_there dc_Yard_check_there pm_Yard_check_there cd_Yard_check_there ct_Yard_check_there : Value}
    {f_Yard_link : Addr} {od_Yard_link an_Yard_link : Option Addr} {sl_Yard_link : Array (Option Value)} {oc_Yard_link dV_Yard_link kV_Yard_link dc_Yard_link pm_Yard_link cd_Yard_link ct_Yard_link : Value}
    {f_Yard_throw : Addr} {od_Yard_throw an_Yard_throw : Option Addr} {sl_Yard_throw : Array (Option Value)} {oc_Yard_throw dV_Yard_throw kV_Yard_throw dc_Yard_throw pm_Yard_throw cd_Yard_throw ct_Yard_throw : Value}
    {f_Yard_carry : Addr} {od_Yard_carry an_Yard_carry : Option Addr} {sl_Yard_carry : Array (Option Value)} {oc_Yard_carry dV_Yard_carry kV_Yard_carry dc_Yard_carry pm_Yard_carry cd_Yard_carry ct_Yard_carry : Value}
    {f_Yard_engine : Addr} {od_Yard_engine an_Yard_engine : Option Addr} {sl_Yard_engine : Array (Option Value)} {oc_Yard_engine dV_Yard_engine kV_Yard_engine dc_Yard_engine pm_Yard_engine cd_Yard_engine ct_Yard_engine : Value}
    {f_Yard_kind : Addr} {od_Yard_kind an_Yard_kind : Option Addr} {sl_Yard_kind : Array (Option Value)} {oc_Yard_kind dV_Yard_kind kV_Yard_kind dc_Yard_kind pm_Yard_kind cd_Yard_kind ct_Yard_kind : Value}
    {f_Yard_mate : Addr} {od_Yard_mate an_Yard_mate : Option Addr} {sl_Yard_mate : Array (Option Value)} {oc_Yard_mate dV_Yard_mate kV_Yard_mate dc_Yard_mate pm_Yard_mate cd_Yard_mate ct_Yard_mate : Value}
    {f_Yard_side : Addr} {od_Yard_side an_Yard_side : Option Addr} {sl_Yard_side : Array (Option Value)} {oc_Yard_side dV_Yard_side kV_Yard_side dc_Yard_side pm_Yard_side cd_Yard_side ct_Yard_side : Value}
    {f_Yard_make_twin : Addr} {od_Yard_make_twin an_Yard_make_twin : Option Addr} {sl_Yard_make_twin : Array (Option Value)} {oc_Yard_make_twin dV_Yard_make_twin kV_Yard_make_twin dc_Yard_make_twin pm_Yard_make_twin cd_Yard_make_twin ct_Yard_make_twin : Value}
    {f_Yard_pieces : Addr} {od_Yard_pieces an_Yard_pieces : Option Addr} {sl_Yard_pieces : Array (Option Value)} {oc_Yard_pieces dV_Yard_pieces kV_Yard_pieces dc_Yard_pieces pm_Yard_pieces cd_Yard_pieces ct_Yard_pieces : Value}
    {f_Yard_bells : Addr} {od_Yard_bells an_Yard_bells : Option Addr} {sl_Yard_bells : Array (Option Value)} {oc_Yard_bells dV_Yard_bells kV_Yard_bells dc_Yard_bells pm_Yard_bells cd_Yard_bells ct_Yard_bells : Value}
    {f_Yard_steps : Addr} {od_Yard_steps an_Yard_steps : Option Addr} {sl_Yard_steps : Array (Option Value)} {oc_Yard_steps dV_Yard_steps kV_Yard_steps dc_Yard_steps pm_Yard_steps cd_Yard_steps ct_Yard_steps : Value}
    {f_Yard_note : Addr} {od_Yard_note an_Yard_note : Option Addr} {sl_Yard_note : Array (Option Value)} {oc_Yard_note dV_Yard_note kV_Yard_note dc_Yard_note pm_Yard_note cd_Yard_note ct_Yard_note : Value}
    {f_Yard_take_back : Addr} {od_Yard_take_back an_Yard_take_back : Option Addr} {sl_Yard_take_back : Array (Option Value)} {oc_Yard_take_back dV_Yard_take_back kV_Yard_take_back dc_Yard_take_back pm_Yard_take_back cd_Yard_take_back ct_Yard_take_back : Value}
    {c_Yard : Addr}
    {u_ENDS : Value}
    {u_LAST_NOTE : Value}
    {u_POINTS : Value}
    {u_STEM : Value}
    {dT_Yard_lay : Addr} {dd_Yard_lay : Option Addr} {dn_Yard_lay : Nat} {ds_Yard_lay : Array (Option Value)} {dk0_Yard_lay : Tok}
    {dT_Yard_new_rod : Addr} {dd_Yard_new_rod : Option Addr} {dn_Yard_new_rod : Nat} {ds_Yard_new_rod : Array (Option Value)} {dk0_Yard_new_rod : Tok}
    {a_POINTS : Addr} {od_POINTS : Option Addr} {its_POINTS : Array Value} {n_POINTS : Nat} {sl_POINTS : Array (Option Value)}
    (a_Yard : PySem.W.nsIn K mainGlobals "Yard" = some (some (.ref c_Yard)))
    (a_law : PySem.W.nsIn K mainGlobals "law" = some (some (.ref f_law)))
    (l_law : K.lookup f_law = some ⟨oc_law, od_law, .func (PySem.W.fnOf "law" "law" (defArgs s_law) (defBody s_law) (defScope s_law) dV_law kV_law dc_law pm_law an_law cd_law ct_law), sl_law⟩)
    (q_law : PySem.W.codeIn K cd_law "law" = true)
    (k_law : PySem.W.keepIn K (.ref f_law) = true)
    (e_law : dV_law = .none)
    (a_draws : PySem.W.nsIn K mainGlobals "_law_draws" = some (some (.ref f_draws)))
    (l_draws : K.lookup f_draws = some ⟨oc_draws, od_draws, .func (PySem.W.fnOf "_law_draws" "_law_draws" (defArgs s_draws) (defBody s_draws) (defScope s_draws) dV_draws kV_draws dc_draws pm_draws an_draws cd_draws ct_draws), sl_draws⟩)
    (q_draws : PySem.W.codeIn K cd_draws "_law_draws" = true)
    (k_draws : PySem.W.keepIn K (.ref f_draws) = true)
    (e_draws : dV_draws = .none)
    (a_set : PySem.W.nsIn K mainGlobals "_law_set" = some (some (.ref f_set)))
    (l_set : K.lookup f_set = some ⟨oc_set, od_set, .func (PySem.W.fnOf "_law_set" "_law_set" (defArgs s_set) (defBody s_set) (defScope s_set) dV_set kV_set dc_set pm_set an_set cd_set ct_set), sl_set⟩)
    (q_set : PySem.W.codeIn K cd_set "_law_set" = true)
    (k_set : PySem.W.keepIn K (.ref f_set) = true)
    (e_set : dV_set = .none)
    (a_built : PySem.W.nsIn K mainGlobals "_law_built" = some (some (.ref f_built)))
    (l_built : K.lookup f_built = some ⟨oc_built, od_built, .func (PySem.W.fnOf "_law_built" "_law_built" (defArgs s_built) (defBody s_built) (defScope s_built) dV_built kV_built dc_built pm_built an_built cd_built ct_built), sl_built⟩)
    (q_built : PySem.W.codeIn K cd_built "_law_built" = true)
    (k_built : PySem.W.keepIn K (.ref f_built) = true)
    (e_built : dV_built = .none)
    (a_kind : PySem.W.nsIn K mainGlobals "_law_kind" = some (some (.ref f_kind)))
    (l_kind : K.lookup f_kind = some ⟨oc_kind, od_kind, .func (PySem.W.fnOf "_law_kind" "_law_kind" (defArgs s_kind) (defBody s_kind) (defScope s_kind) dV_kind kV_kind dc_kind pm_kind an_kind cd_kind ct_kind), sl_kind⟩)
    (q_kind : PySem.W.codeIn K cd_kind "_law_kind" = true)
    (k_kind : PySem.W.keepIn K (.ref f_kind) = true)
    (e_kind : dV_kind = .none)
    (a_kinds : PySem.W.nsIn K mainGlobals "_law_kinds" = some (some (.ref f_kinds)))
    (l_kinds : K.lookup f_kinds = some ⟨oc_kinds, od_kinds, .func (PySem.W.fnOf "_law_kinds" "_law_kinds" (defArgs s_kinds) (defBody s_kinds) (defScope s_kinds) dV_kinds kV_kinds dc_kinds pm_kinds an_kinds cd_kinds ct_kinds), sl_kinds⟩)
    (q_kinds : PySem.W.codeIn K cd_kinds "_law_kinds" = true)
    (k_kinds : PySem.W.keepIn K (.ref f_kinds) = true)
    (e_kinds : dV_kinds = .none)
    (a_many : PySem.W.nsIn K mainGlobals "_law_many" = some (some (.ref f_many)))
    (l_many : K.lookup f_many = some ⟨oc_many, od_many, .func (PySem.W.fnOf "_law_many" "_law_many" (defArgs s_many) (defBody s_many) (defScope s_many) dV_many kV_many dc_many pm_many an_many cd_many ct_many), sl_many⟩)
    (q_many : PySem.W.codeIn K cd_many "_law_many" = true)
    (k_many : PySem.W.keepIn K (.ref f_many) = true)
    (e_many : dV_many = .none)
    (a_linked : PySem.W.nsIn K mainGlobals "_law_linked" = some (some (.ref f_linked)))
    (l_linked : K.lookup f_linked = some ⟨oc_linked, od_linked, .func (PySem.W.fnOf "_law_linked" "_law_linked" (defArgs s_linked) (defBody s_linked) (defScope s_linked) dV_linked kV_linked dc_linked pm_linked an_linked cd_linked ct_linked), sl_linked⟩)
    (q_linked : PySem.W.codeIn K cd_linked "_law_linked" = true)
    (k_linked : PySem.W.keepIn K (.ref f_linked) = true)
    (e_linked : dV_linked = .none)
    (a_ends : PySem.W.nsIn K mainGlobals "_law_ends" = some (some (.ref f_ends)))
    (l_ends : K.lookup f_ends = some ⟨oc_ends, od_ends, .func (PySem.W.fnOf "_law_ends" "_law_ends" (defArgs s_ends) (defBody s_ends) (defScope s_ends) dV_ends kV_ends dc_ends pm_ends an_ends cd_ends ct_ends), sl_ends⟩)
    (q_ends : PySem.W.codeIn K cd_ends "_law_ends" = true)
    (k_ends : PySem.W.keepIn K (.ref f_ends) = true)
    (e_ends : dV_ends = .none)
    (a_thrown : PySem.W.nsIn K mainGlobals "_law_thrown" = some (some (.ref f_thrown)))
    (l_thrown : K.lookup f_thrown = some ⟨oc_thrown, od_thrown, .func (PySem.W.fnOf "_law_thrown" "_law_thrown" (defArgs s_thrown) (defBody s_thrown) (defScope s_thrown) dV_thrown kV_thrown dc_thrown pm_thrown an_thrown cd_thrown ct_thrown), sl_thrown⟩)
    (q_thrown : PySem.W.codeIn K cd_thrown "_law_thrown" = true)
    (k_thrown : PySem.W.keepIn K (.ref f_thrown) = true)
    (e_thrown : dV_thrown = .none)
    (a_size : PySem.W.nsIn K mainGlobals "_law_size" = some (some (.ref f_size)))
    (l_size : K.lookup f_size = some ⟨oc_size, od_size, .func (PySem.W.fnOf "_law_size" "_law_size" (defArgs s_size) (defBody s_size) (defScope s_size) dV_size kV_size dc_size pm_size an_size cd_size ct_size), sl_size⟩)
    (q_size : PySem.W.codeIn K cd_size "_law_size" = true)
    (k_size : PySem.W.keepIn K (.ref f_size) = true)
    (e_size : dV_size = .none)
    (a_links : PySem.W.nsIn K mainGlobals "_law_links" = some (some (.ref f_links)))
    (l_links : K.lookup f_links = some ⟨oc_links, od_links, .func (PySem.W.fnOf "_law_links" "_law_links" (defArgs s_links) (defBody s_links) (defScope s_links) dV_links kV_links dc_links pm_links an_links cd_links ct_links), sl_links⟩)
    (q_links : PySem.W.codeIn K cd_links "_law_links" = true)
    (k_links : PySem.W.keepIn K (.ref f_links) = true)
    (e_links : dV_links = .none)
    (a_walk : PySem.W.nsIn K mainGlobals "_law_walk" = some (some (.ref f_walk)))
    (l_walk : K.lookup f_walk = some ⟨oc_walk, od_walk, .func (PySem.W.fnOf "_law_walk" "_law_walk" (defArgs s_walk) (defBody s_walk) (defScope s_walk) dV_walk kV_walk dc_walk pm_walk an_walk cd_walk ct_walk), sl_walk⟩)
    (q_walk : PySem.W.codeIn K cd_walk "_law_walk" = true)
    (k_walk : PySem.W.keepIn K (.ref f_walk) = true)
    (e_walk : dV_walk = .none)
    (a_passing : PySem.W.nsIn K mainGlobals "_law_passing" = some (some (.ref f_passing)))
    (l_passing : K.lookup f_passing = some ⟨oc_passing, od_passing, .func (PySem.W.fnOf "_law_passing" "_law_passing" (defArgs s_passing) (defBody s_passing) (defScope s_passing) dV_passing kV_passing dc_passing pm_passing an_passing cd_passing ct_passing), sl_passing⟩)
    (q_passing : PySem.W.codeIn K cd_passing "_law_passing" = true)
    (k_passing : PySem.W.keepIn K (.ref f_passing) = true)
    (e_passing : dV_passing = .none)
    (a_run : PySem.W.nsIn K mainGlobals "run" = some (some (.ref f_run)))
    (l_run : K.lookup f_run = some ⟨oc_run, od_run, .func (PySem.W.fnOf "run" "run" (defArgs s_run) (defBody s_run) (defScope s_run) dV_run kV_run dc_run pm_run an_run cd_run ct_run), sl_run⟩)
    (q_run : PySem.W.codeIn K cd_run "run" = true)
    (k_run : PySem.W.keepIn K (.ref f_run) = true)
    (e_run : dV_run = .none)
    (a_next_step : PySem.W.nsIn K mainGlobals "next_step" = some (some (.ref f_next_step)))
    (l_next_step : K.lookup f_next_step = some ⟨oc_next_step, od_next_step, .func (PySem.W.fnOf "next_step" "next_step" (defArgs s_next_step) (defBody s_next_step) (defScope s_next_step) dV_next_step kV_next_step dc_next_step pm_next_step an_next_step cd_next_step ct_next_step), sl_next_step⟩)
    (q_next_step : PySem.W.codeIn K cd_next_step "next_step" = true)
    (k_next_step : PySem.W.keepIn K (.ref f_next_step) = true)
    (e_next_step : dV_next_step = .none)
    (a_passage : PySem.W.nsIn K mainGlobals "passage" = some (some (.ref f_passage)))
    (l_passage : K.lookup f_passage = some ⟨oc_passage, od_passage, .func (PySem.W.fnOf "passage" "passage" (defArgs s_passage) (defBody s_passage) (defScope s_passage) dV_passage kV_passage dc_passage pm_passage an_passage cd_passage ct_passage), sl_passage⟩)
    (q_passage : PySem.W.codeIn K cd_passage "passage" = true)
    (k_passage : PySem.W.keepIn K (.ref f_passage) = true)
    (e_passage : dV_passage = .none)
    (a_check_end : PySem.W.nsIn K mainGlobals "check_end" = some (some (.ref f_check_end)))
    (l_check_end : K.lookup f_check_end = some ⟨oc_check_end, od_check_end, .func (PySem.W.fnOf "check_end" "check_end" (defArgs s_check_end) (defBody s_check_end) (defScope s_check_end) dV_check_end kV_check_end dc_check_end pm_check_end an_check_end cd_check_end ct_check_end), sl_check_end⟩)
    (q_check_end : PySem.W.codeIn K cd_check_end "check_end" = true)
    (k_check_end : PySem.W.keepIn K (.ref f_check_end) = true)
    (e_check_end : dV_check_end = .none)
    (a_ends_of : PySem.W.nsIn K mainGlobals "ends_of" = some (some (.ref f_ends_of)))
    (l_ends_of : K.lookup f_ends_of = some ⟨oc_ends_of, od_ends_of, .func (PySem.W.fnOf "ends_of" "ends_of" (defArgs s_ends_of) (defBody s_ends_of) (defScope s_ends_of) dV_ends_of kV_ends_of dc_ends_of pm_ends_of an_ends_of cd_ends_of ct_ends_of), sl_ends_of⟩)
    (q_ends_of : PySem.W.codeIn K cd_ends_of "ends_of" = true)
    (k_ends_of : PySem.W.keepIn K (.ref f_ends_of) = true)
    (e_ends_of : dV_ends_of = .none)
    (a_is_point : PySem.W.nsIn K mainGlobals "is_point" = some (some (.ref f_is_point)))
    (l_is_point : K.lookup f_is_point = some ⟨oc_is_point, od_is_point, .func (PySem.W.fnOf "is_point" "is_point" (defArgs s_is_point) (defBody s_is_point) (defScope s_is_point) dV_is_point kV_is_point dc_is_point pm_is_point an_is_point cd_is_point ct_is_point), sl_is_point⟩)
    (q_is_point : PySem.W.codeIn K cd_is_point "is_point" = true)
    (k_is_point : PySem.W.keepIn K (.ref f_is_point) = true)
    (e_is_point : dV_is_point = .none)
    (a_check_side : PySem.W.nsIn K mainGlobals "check_side" = some (some (.ref f_check_side)))
    (l_check_side : K.lookup f_check_side = some ⟨oc_check_side, od_check_side, .func (PySem.W.fnOf "check_side" "check_side" (defArgs s_check_side) (defBody s_check_side) (defScope s_check_side) dV_check_side kV_check_side dc_check_side pm_check_side an_check_side cd_check_side ct_check_side), sl_check_side⟩)
    (q_check_side : PySem.W.codeIn K cd_check_side "check_side" = true)
    (k_check_side : PySem.W.keepIn K (.ref f_check_side) = true)
    (e_check_side : dV_check_side = .none)
    (a_point_passage : PySem.W.nsIn K mainGlobals "point_passage" = some (some (.ref f_point_passage)))
    (l_point_passage : K.lookup f_point_passage = some ⟨oc_point_passage, od_point_passage, .func (PySem.W.fnOf "point_passage" "point_passage" (defArgs s_point_passage) (defBody s_point_passage) (defScope s_point_passage) dV_point_passage kV_point_passage dc_point_passage pm_point_passage an_point_passage cd_point_passage ct_point_passage), sl_point_passage⟩)
    (q_point_passage : PySem.W.codeIn K cd_point_passage "point_passage" = true)
    (k_point_passage : PySem.W.keepIn K (.ref f_point_passage) = true)
    (e_point_passage : dV_point_passage = .none)
    (a_twin : PySem.W.nsIn K mainGlobals "twin" = some (some (.ref f_twin)))
    (l_twin : K.lookup f_twin = some ⟨oc_twin, od_twin, .func (PySem.W.fnOf "twin" "twin" (defArgs s_twin) (defBody s_twin) (defScope s_twin) dV_twin kV_twin dc_twin pm_twin an_twin cd_twin ct_twin), sl_twin⟩)
    (q_twin : PySem.W.codeIn K cd_twin "twin" = true)
    (k_twin : PySem.W.keepIn K (.ref f_twin) = true)
    (e_twin : dV_twin = .none)
    (a_same : PySem.W.nsIn K mainGlobals "_law_same" = some (some (.ref f_same)))
    (l_same : K.lookup f_same = some ⟨oc_same, od_same, .func (PySem.W.fnOf "_law_same" "_law_same" (defArgs s_same) (defBody s_same) (defScope s_same) dV_same kV_same dc_same pm_same an_same cd_same ct_same), sl_same⟩)
    (q_same : PySem.W.codeIn K cd_same "_law_same" = true)
    (k_same : PySem.W.keepIn K (.ref f_same) = true)
    (e_same : dV_same = .none)
    (a_is_row : PySem.W.nsIn K mainGlobals "_law_is_row" = some (some (.ref f_is_row)))
    (l_is_row : K.lookup f_is_row = some ⟨oc_is_row, od_is_row, .func (PySem.W.fnOf "_law_is_row" "_law_is_row" (defArgs s_is_row) (defBody s_is_row) (defScope s_is_row) dV_is_row kV_is_row dc_is_row pm_is_row an_is_row cd_is_row ct_is_row), sl_is_row⟩)
    (q_is_row : PySem.W.codeIn K cd_is_row "_law_is_row" = true)
    (k_is_row : PySem.W.keepIn K (.ref f_is_row) = true)
    (e_is_row : dV_is_row = .none)
    (a_is : PySem.W.nsIn K mainGlobals "_law_is" = some (some (.ref f_is)))
    (l_is : K.lookup f_is = some ⟨oc_is, od_is, .func (PySem.W.fnOf "_law_is" "_law_is" (defArgs s_is) (defBody s_is) (defScope s_is) dV_is kV_is dc_is pm_is an_is cd_is ct_is), sl_is⟩)
    (q_is : PySem.W.codeIn K cd_is "_law_is" = true)
    (k_is : PySem.W.keepIn K (.ref f_is) = true)
    (e_is : dV_is = .none)
    (a_whole : PySem.W.nsIn K mainGlobals "_law_whole" = some (some (.ref f_whole)))
    (l_whole : K.lookup f_whole = some ⟨oc_whole, od_whole, .func (PySem.W.fnOf "_law_whole" "_law_whole" (defArgs s_whole) (defBody s_whole) (defScope s_whole) dV_whole kV_whole dc_whole pm_whole an_whole cd_whole ct_whole), sl_whole⟩)
    (q_whole : PySem.W.codeIn K cd_whole "_law_whole" = true)
    (k_whole : PySem.W.keepIn K (.ref f_whole) = true)
    (e_whole : dV_whole = .none)
    (a_is_end : PySem.W.nsIn K mainGlobals "_law_is_end" = some (some (.ref f_is_end)))
    (l_is_end : K.lookup f_is_end = some ⟨oc_is_end, od_is_end, .func (PySem.W.fnOf "_law_is_end" "_law_is_end" (defArgs s_is_end) (defBody s_is_end) (defScope s_is_end) dV_is_end kV_is_end dc_is_end pm_is_end an_is_end cd_is_end ct_is_end), sl_is_end⟩)
    (q_is_end : PySem.W.codeIn K cd_is_end "_law_is_end" = true)
    (k_is_end : PySem.W.keepIn K (.ref f_is_end) = true)
    (e_is_end : dV_is_end = .none)
    (a_pieces : PySem.W.nsIn K mainGlobals "_law_pieces" = some (some (.ref f_pieces)))
    (l_pieces : K.lookup f_pieces = some ⟨oc_pieces, od_pieces, .func (PySem.W.fnOf "_law_pieces" "_law_pieces" (defArgs s_pieces) (defBody s_pieces) (defScope s_pieces) dV_pieces kV_pieces dc_pieces pm_pieces an_pieces cd_pieces ct_pieces), sl_pieces⟩)
    (q_pieces : PySem.W.codeIn K cd_pieces "_law_pieces" = true)
    (k_pieces : PySem.W.keepIn K (.ref f_pieces) = true)
    (e_pieces : dV_pieces = .none)
    (a_back : PySem.W.nsIn K mainGlobals "back" = some (some (.ref f_back)))
    (l_back : K.lookup f_back = some ⟨oc_back, od_back, .func (PySem.W.fnOf "back" "back" (defArgs s_back) (defBody s_back) (defScope s_back) dV_back kV_back dc_back pm_back an_back cd_back ct_back), sl_back⟩)
    (q_back : PySem.W.codeIn K cd_back "back" = true)
    (k_back : PySem.W.keepIn K (.ref f_back) = true)
    (e_back : dV_back = .none)
    (a_check_note : PySem.W.nsIn K mainGlobals "check_note" = some (some (.ref f_check_note)))
    (l_check_note : K.lookup f_check_note = some ⟨oc_check_note, od_check_note, .func (PySem.W.fnOf "check_note" "check_note" (defArgs s_check_note) (defBody s_check_note) (defScope s_check_note) dV_check_note kV_check_note dc_check_note pm_check_note an_check_note cd_check_note ct_check_note), sl_check_note⟩)
    (q_check_note : PySem.W.codeIn K cd_check_note "check_note" = true)
    (k_check_note : PySem.W.keepIn K (.ref f_check_note) = true)
    (e_check_note : dV_check_note = .none)
    (a_Yard_init : PySem.W.findIn K (.ref c_Yard) "__init__" = some (some (.ref f_Yard_init)))
    (i_Yard_init : PySem.W.isFn K (.ref f_Yard_init) = true)
    (l_Yard_init : K.lookup f_Yard_init = some ⟨oc_Yard_init, od_Yard_init, .func (PySem.W.fnOf "__init__" "Yard.__init__" (defArgs s_Yard_init) (defBody s_Yard_init) (defScope s_Yard_init) dV_Yard_init kV_Yard_init dc_Yard_init pm_Yard_init an_Yard_init cd_Yard_init ct_Yard_init), sl_Yard_init⟩)
    (q_Yard_init : PySem.W.codeIn K cd_Yard_init "Yard.__init__" = true)
    (k_Yard_init : PySem.W.keepIn K (.ref f_Yard_init) = true)
    (e_Yard_init : dV_Yard_init = .none)
    (a_Yard_lift : PySem.W.findIn K (.ref c_Yard) "lift" = some (some (.ref f_Yard_lift)))
    (i_Yard_lift : PySem.W.isFn K (.ref f_Yard_lift) = true)
    (l_Yard_lift : K.lookup f_Yard_lift = some ⟨oc_Yard_lift, od_Yard_lift, .func (PySem.W.fnOf "lift" "Yard.lift" (defArgs s_Yard_lift) (defBody s_Yard_lift) (defScope s_Yard_lift) dV_Yard_lift kV_Yard_lift dc_Yard_lift pm_Yard_lift an_Yard_lift cd_Yard_lift ct_Yard_lift), sl_Yard_lift⟩)
    (q_Yard_lift : PySem.W.codeIn K cd_Yard_lift "Yard.lift" = true)
    (k_Yard_lift : PySem.W.keepIn K (.ref f_Yard_lift) = true)
    (e_Yard_lift : dV_Yard_lift = .none)
    (a_Yard_check_piece : PySem.W.findIn K (.ref c_Yard) "check_piece" = some (some (.ref f_Yard_check_piece)))
    (i_Yard_check_piece : PySem.W.isFn K (.ref f_Yard_check_piece) = true)
    (l_Yard_check_piece : K.lookup f_Yard_check_piece = some ⟨oc_Yard_check_piece, od_Yard_check_piece, .func (PySem.W.fnOf "check_piece" "Yard.check_piece" (defArgs s_Yard_check_piece) (defBody s_Yard_check_piece) (defScope s_Yard_check_piece) dV_Yard_check_piece kV_Yard_check_piece dc_Yard_check_piece pm_Yard_check_piece an_Yard_check_piece cd_Yard_check_piece ct_Yard_check_piece), sl_Yard_check_piece⟩)
    (q_Yard_check_piece : PySem.W.codeIn K cd_Yard_check_piece "Yard.check_piece" = true)
    (k_Yard_check_piece : PySem.W.keepIn K (.ref f_Yard_check_piece) = true)
    (e_Yard_check_piece : dV_Yard_check_piece = .none)
    (a_Yard_end_trail : PySem.W.findIn K (.ref c_Yard) "end_trail" = some (some (.ref f_Yard_end_trail)))
    (i_Yard_end_trail : PySem.W.isFn K (.ref f_Yard_end_trail) = true)
    (l_Yard_end_trail : K.lookup f_Yard_end_trail = some ⟨oc_Yard_end_trail, od_Yard_end_trail, .func (PySem.W.fnOf "end_trail" "Yard.end_trail" (defArgs s_Yard_end_trail) (defBody s_Yard_end_trail) (defScope s_Yard_end_trail) dV_Yard_end_trail kV_Yard_end_trail dc_Yard_end_trail pm_Yard_end_trail an_Yard_end_trail cd_Yard_end_trail ct_Yard_end_trail), sl_Yard_end_trail⟩)
    (q_Yard_end_trail : PySem.W.codeIn K cd_Yard_end_trail "Yard.end_trail" = true)
    (k_Yard_end_trail : PySem.W.keepIn K (.ref f_Yard_end_trail) = true)
    (e_Yard_end_trail : dV_Yard_end_trail = .none)
    (a_Yard_lay : PySem.W.findIn K (.ref c_Yard) "lay" = some (some (.ref f_Yard_lay)))
    (i_Yard_lay : PySem.W.isFn K (.ref f_Yard_lay) = true)
    (l_Yard_lay : K.lookup f_Yard_lay = some ⟨oc_Yard_lay, od_Yard_lay, .func (PySem.W.fnOf "lay" "Yard.lay" (defArgs s_Yard_lay) (defBody s_Yard_lay) (defScope s_Yard_lay) dV_Yard_lay kV_Yard_lay dc_Yard_lay pm_Yard_lay an_Yard_lay cd_Yard_lay ct_Yard_lay), sl_Yard_lay⟩)
    (q_Yard_lay : PySem.W.codeIn K cd_Yard_lay "Yard.lay" = true)
    (k_Yard_lay : PySem.W.keepIn K (.ref f_Yard_lay) = true)
    (e_Yard_lay : dV_Yard_lay = .ref dT_Yard_lay)
    (w_Yard_lay : K.lookup dT_Yard_lay = some ⟨.type "tuple", dd_Yard_lay, .seq #[.int 0 dk0_Yard_lay, .none] dn_Yard_lay, ds_Yard_lay⟩)
    (a_Yard_check_rod : PySem.W.findIn K (.ref c_Yard) "check_rod" = some (some (.ref f_Yard_check_rod)))
    (i_Yard_check_rod : PySem.W.isFn K (.ref f_Yard_check_rod) = true)
    (l_Yard_check_rod : K.lookup f_Yard_check_rod = some ⟨oc_Yard_check_rod, od_Yard_check_rod, .func (PySem.W.fnOf "check_rod" "Yard.check_rod" (defArgs s_Yard_check_rod) (defBody s_Yard_check_rod) (defScope s_Yard_check_rod) dV_Yard_check_rod kV_Yard_check_rod dc_Yard_check_rod pm_Yard_check_rod an_Yard_check_rod cd_Yard_check_rod ct_Yard_check_rod), sl_Yard_check_rod⟩)
    (q_Yard_check_rod : PySem.W.codeIn K cd_Yard_check_rod "Yard.check_rod" = true)
    (k_Yard_check_rod : PySem.W.keepIn K (.ref f_Yard_check_rod) = true)
    (e_Yard_check_rod : dV_Yard_check_rod = .none)
    (a_Yard_new_rod : PySem.W.findIn K (.ref c_Yard) "new_rod" = some (some (.ref f_Yard_new_rod)))
    (i_Yard_new_rod : PySem.W.isFn K (.ref f_Yard_new_rod) = true)
    (l_Yard_new_rod : K.lookup f_Yard_new_rod = some ⟨oc_Yard_new_rod, od_Yard_new_rod, .func (PySem.W.fnOf "new_rod" "Yard.new_rod" (defArgs s_Yard_new_rod) (defBody s_Yard_new_rod) (defScope s_Yard_new_rod) dV_Yard_new_rod kV_Yard_new_rod dc_Yard_new_rod pm_Yard_new_rod an_Yard_new_rod cd_Yard_new_rod ct_Yard_new_rod), sl_Yard_new_rod⟩)
    (q_Yard_new_rod : PySem.W.codeIn K cd_Yard_new_rod "Yard.new_rod" = true)
    (k_Yard_new_rod : PySem.W.keepIn K (.ref f_Yard_new_rod) = true)
    (e_Yard_new_rod : dV_Yard_new_rod = .ref dT_Yard_new_rod)
    (w_Yard_new_rod : K.lookup dT_Yard_new_rod = some ⟨.type "tuple", dd_Yard_new_rod, .seq #[.int 1 dk0_Yard_new_rod] dn_Yard_new_rod, ds_Yard_new_rod⟩)
    (a_Yard_rod : PySem.W.findIn K (.ref c_Yard) "rod" = some (some (.ref f_Yard_rod)))
    (i_Yard_rod : PySem.W.isFn K (.ref f_Yard_rod) = true)
    (l_Yard_rod : K.lookup f_Yard_rod = some ⟨oc_Yard_rod, od_Yard_rod, .func (PySem.W.fnOf "rod" "Yard.rod" (defArgs s_Yard_rod) (defBody s_Yard_rod) (defScope s_Yard_rod) dV_Yard_rod kV_Yard_rod dc_Yard_rod pm_Yard_rod an_Yard_rod cd_Yard_rod ct_Yard_rod), sl_Yard_rod⟩)
    (q_Yard_rod : PySem.W.codeIn K cd_Yard_rod "Yard.rod" = true)
    (k_Yard_rod : PySem.W.keepIn K (.ref f_Yard_rod) = true)
    (e_Yard_rod : dV_Yard_rod = .none)
    (a_Yard_put : PySem.W.findIn K (.ref c_Yard) "put" = some (some (.ref f_Yard_put)))
    (i_Yard_put : PySem.W.isFn K (.ref f_Yard_put) = true)
    (l_Yard_put : K.lookup f_Yard_put = some ⟨oc_Yard_put, od_Yard_put, .func (PySem.W.fnOf "put" "Yard.put" (defArgs s_Yard_put) (defBody s_Yard_put) (defScope s_Yard_put) dV_Yard_put kV_Yard_put dc_Yard_put pm_Yard_put an_Yard_put cd_Yard_put ct_Yard_put), sl_Yard_put⟩)
    (q_Yard_put : PySem.W.codeIn K cd_Yard_put "Yard.put" = true)
    (k_Yard_put : PySem.W.keepIn K (.ref f_Yard_put) = true)
    (e_Yard_put : dV_Yard_put = .none)
    (a_Yard_check_there : PySem.W.findIn K (.ref c_Yard) "check_there" = some (some (.ref f_Yard_check_there)))
    (i_Yard_check_there : PySem.W.isFn K (.ref f_Yard_check_there) = true)
    (l_Yard_check_there : K.lookup f_Yard_check_there = some ⟨oc_Yard_check_there, od_Yard_check_there, .func (PySem.W.fnOf "check_there" "Yard.check_there" (defArgs s_Yard_check_there) (defBody s_Yard_check_there) (defScope s_Yard_check_there) dV_Yard_check_there kV_Yard_check_there dc_Yard_check_there pm_Yard_check_there an_Yard_check_there cd_Yard_check_there ct_Yard_check_there), sl_Yard_check_there⟩)
    (q_Yard_check_there : PySem.W.codeIn K cd_Yard_check_there "Yard.check_there" = true)
    (k_Yard_check_there : PySem.W.keepIn K (.ref f_Yard_check_there) = true)
    (e_Yard_check_there : dV_Yard_check_there = .none)
    (a_Yard_link : PySem.W.findIn K (.ref c_Yard) "link" = some (some (.ref f_Yard_link)))
    (i_Yard_link : PySem.W.isFn K (.ref f_Yard_link) = true)
    (l_Yard_link : K.lookup f_Yard_link = some ⟨oc_Yard_link, od_Yard_link, .func (PySem.W.fnOf "link" "Yard.link" (defArgs s_Yard_link) (defBody s_Yard_link) (defScope s_Yard_link) dV_Yard_link kV_Yard_link dc_Yard_link pm_Yard_link an_Yard_link cd_Yard_link ct_Yard_link), sl_Yard_link⟩)
    (q_Yard_link : PySem.W.codeIn K cd_Yard_link "Yard.link" = true)
    (k_Yard_link : PySem.W.keepIn K (.ref f_Yard_link) = true)
    (e_Yard_link : dV_Yard_link = .none)
    (a_Yard_throw : PySem.W.findIn K (.ref c_Yard) "throw" = some (some (.ref f_Yard_throw)))
    (i_Yard_throw : PySem.W.isFn K (.ref f_Yard_throw) = true)
    (l_Yard_throw : K.lookup f_Yard_throw = some ⟨oc_Yard_throw, od_Yard_throw, .func (PySem.W.fnOf "throw" "Yard.throw" (defArgs s_Yard_throw) (defBody s_Yard_throw) (defScope s_Yard_throw) dV_Yard_throw kV_Yard_throw dc_Yard_throw pm_Yard_throw an_Yard_throw cd_Yard_throw ct_Yard_throw), sl_Yard_throw⟩)
    (q_Yard_throw : PySem.W.codeIn K cd_Yard_throw "Yard.throw" = true)
    (k_Yard_throw : PySem.W.keepIn K (.ref f_Yard_throw) = true)
    (e_Yard_throw : dV_Yard_throw = .none)
    (a_Yard_carry : PySem.W.findIn K (.ref c_Yard) "carry" = some (some (.ref f_Yard_carry)))
    (i_Yard_carry : PySem.W.isFn K (.ref f_Yard_carry) = true)
    (l_Yard_carry : K.lookup f_Yard_carry = some ⟨oc_Yard_carry, od_Yard_carry, .func (PySem.W.fnOf "carry" "Yard.carry" (defArgs s_Yard_carry) (defBody s_Yard_carry) (defScope s_Yard_carry) dV_Yard_carry kV_Yard_carry dc_Yard_carry pm_Yard_carry an_Yard_carry cd_Yard_carry ct_Yard_carry), sl_Yard_carry⟩)
    (q_Yard_carry : PySem.W.codeIn K cd_Yard_carry "Yard.carry" = true)
    (k_Yard_carry : PySem.W.keepIn K (.ref f_Yard_carry) = true)
    (e_Yard_carry : dV_Yard_carry = .none)
    (a_Yard_engine : PySem.W.findIn K (.ref c_Yard) "engine" = some (some (.ref f_Yard_engine)))
    (i_Yard_engine : PySem.W.isFn K (.ref f_Yard_engine) = true)
    (l_Yard_engine : K.lookup f_Yard_engine = some ⟨oc_Yard_engine, od_Yard_engine, .func (PySem.W.fnOf "engine" "Yard.engine" (defArgs s_Yard_engine) (defBody s_Yard_engine) (defScope s_Yard_engine) dV_Yard_engine kV_Yard_engine dc_Yard_engine pm_Yard_engine an_Yard_engine cd_Yard_engine ct_Yard_engine), sl_Yard_engine⟩)
    (q_Yard_engine : PySem.W.codeIn K cd_Yard_engine "Yard.engine" = true)
    (k_Yard_engine : PySem.W.keepIn K (.ref f_Yard_engine) = true)
    (e_Yard_engine : dV_Yard_engine = .none)
    (a_Yard_kind : PySem.W.findIn K (.ref c_Yard) "kind" = some (some (.ref f_Yard_kind)))
    (i_Yard_kind : PySem.W.isFn K (.ref f_Yard_kind) = true)
    (l_Yard_kind : K.lookup f_Yard_kind = some ⟨oc_Yard_kind, od_Yard_kind, .func (PySem.W.fnOf "kind" "Yard.kind" (defArgs s_Yard_kind) (defBody s_Yard_kind) (defScope s_Yard_kind) dV_Yard_kind kV_Yard_kind dc_Yard_kind pm_Yard_kind an_Yard_kind cd_Yard_kind ct_Yard_kind), sl_Yard_kind⟩)
    (q_Yard_kind : PySem.W.codeIn K cd_Yard_kind "Yard.kind" = true)
    (k_Yard_kind : PySem.W.keepIn K (.ref f_Yard_kind) = true)
    (e_Yard_kind : dV_Yard_kind = .none)
    (a_Yard_mate : PySem.W.findIn K (.ref c_Yard) "mate" = some (some (.ref f_Yard_mate)))
    (i_Yard_mate : PySem.W.isFn K (.ref f_Yard_mate) = true)
    (l_Yard_mate : K.lookup f_Yard_mate = some ⟨oc_Yard_mate, od_Yard_mate, .func (PySem.W.fnOf "mate" "Yard.mate" (defArgs s_Yard_mate) (defBody s_Yard_mate) (defScope s_Yard_mate) dV_Yard_mate kV_Yard_mate dc_Yard_mate pm_Yard_mate an_Yard_mate cd_Yard_mate ct_Yard_mate), sl_Yard_mate⟩)
    (q_Yard_mate : PySem.W.codeIn K cd_Yard_mate "Yard.mate" = true)
    (k_Yard_mate : PySem.W.keepIn K (.ref f_Yard_mate) = true)
    (e_Yard_mate : dV_Yard_mate = .none)
    (a_Yard_side : PySem.W.findIn K (.ref c_Yard) "side" = some (some (.ref f_Yard_side)))
    (i_Yard_side : PySem.W.isFn K (.ref f_Yard_side) = true)
    (l_Yard_side : K.lookup f_Yard_side = some ⟨oc_Yard_side, od_Yard_side, .func (PySem.W.fnOf "side" "Yard.side" (defArgs s_Yard_side) (defBody s_Yard_side) (defScope s_Yard_side) dV_Yard_side kV_Yard_side dc_Yard_side pm_Yard_side an_Yard_side cd_Yard_side ct_Yard_side), sl_Yard_side⟩)
    (q_Yard_side : PySem.W.codeIn K cd_Yard_side "Yard.side" = true)
    (k_Yard_side : PySem.W.keepIn K (.ref f_Yard_side) = true)
    (e_Yard_side : dV_Yard_side = .none)
    (a_Yard_make_twin : PySem.W.findIn K (.ref c_Yard) "make_twin" = some (some (.ref f_Yard_make_twin)))
    (i_Yard_make_twin : PySem.W.isFn K (.ref f_Yard_make_twin) = true)
    (l_Yard_make_twin : K.lookup f_Yard_make_twin = some ⟨oc_Yard_make_twin, od_Yard_make_twin, .func (PySem.W.fnOf "make_twin" "Yard.make_twin" (defArgs s_Yard_make_twin) (defBody s_Yard_make_twin) (defScope s_Yard_make_twin) dV_Yard_make_twin kV_Yard_make_twin dc_Yard_make_twin pm_Yard_make_twin an_Yard_make_twin cd_Yard_make_twin ct_Yard_make_twin), sl_Yard_make_twin⟩)
    (q_Yard_make_twin : PySem.W.codeIn K cd_Yard_make_twin "Yard.make_twin" = true)
    (k_Yard_make_twin : PySem.W.keepIn K (.ref f_Yard_make_twin) = true)
    (e_Yard_make_twin : dV_Yard_make_twin = .none)
    (a_Yard_pieces : PySem.W.findIn K (.ref c_Yard) "pieces" = some (some (.ref f_Yard_pieces)))
    (i_Yard_pieces : PySem.W.isFn K (.ref f_Yard_pieces) = true)
    (l_Yard_pieces : K.lookup f_Yard_pieces = some ⟨oc_Yard_pieces, od_Yard_pieces, .func (PySem.W.fnOf "pieces" "Yard.pieces" (defArgs s_Yard_pieces) (defBody s_Yard_pieces) (defScope s_Yard_pieces) dV_Yard_pieces kV_Yard_pieces dc_Yard_pieces pm_Yard_pieces an_Yard_pieces cd_Yard_pieces ct_Yard_pieces), sl_Yard_pieces⟩)
    (q_Yard_pieces : PySem.W.codeIn K cd_Yard_pieces "Yard.pieces" = true)
    (k_Yard_pieces : PySem.W.keepIn K (.ref f_Yard_pieces) = true)
    (e_Yard_pieces : dV_Yard_pieces = .none)
    (a_Yard_bells : PySem.W.findIn K (.ref c_Yard) "bells" = some (some (.ref f_Yard_bells)))
    (i_Yard_bells : PySem.W.isFn K (.ref f_Yard_bells) = true)
    (l_Yard_bells : K.lookup f_Yard_bells = some ⟨oc_Yard_bells, od_Yard_bells, .func (PySem.W.fnOf "bells" "Yard.bells" (defArgs s_Yard_bells) (defBody s_Yard_bells) (defScope s_Yard_bells) dV_Yard_bells kV_Yard_bells dc_Yard_bells pm_Yard_bells an_Yard_bells cd_Yard_bells ct_Yard_bells), sl_Yard_bells⟩)
    (q_Yard_bells : PySem.W.codeIn K cd_Yard_bells "Yard.bells" = true)
    (k_Yard_bells : PySem.W.keepIn K (.ref f_Yard_bells) = true)
    (e_Yard_bells : dV_Yard_bells = .none)
    (a_Yard_steps : PySem.W.findIn K (.ref c_Yard) "steps" = some (some (.ref f_Yard_steps)))
    (i_Yard_steps : PySem.W.isFn K (.ref f_Yard_steps) = true)
    (l_Yard_steps : K.lookup f_Yard_steps = some ⟨oc_Yard_steps, od_Yard_steps, .func (PySem.W.fnOf "steps" "Yard.steps" (defArgs s_Yard_steps) (defBody s_Yard_steps) (defScope s_Yard_steps) dV_Yard_steps kV_Yard_steps dc_Yard_steps pm_Yard_steps an_Yard_steps cd_Yard_steps ct_Yard_steps), sl_Yard_steps⟩)
    (q_Yard_steps : PySem.W.codeIn K cd_Yard_steps "Yard.steps" = true)
    (k_Yard_steps : PySem.W.keepIn K (.ref f_Yard_steps) = true)
    (e_Yard_steps : dV_Yard_steps = .none)
    (a_Yard_note : PySem.W.findIn K (.ref c_Yard) "note" = some (some (.ref f_Yard_note)))
    (i_Yard_note : PySem.W.isFn K (.ref f_Yard_note) = true)
    (l_Yard_note : K.lookup f_Yard_note = some ⟨oc_Yard_note, od_Yard_note, .func (PySem.W.fnOf "note" "Yard.note" (defArgs s_Yard_note) (defBody s_Yard_note) (defScope s_Yard_note) dV_Yard_note kV_Yard_note dc_Yard_note pm_Yard_note an_Yard_note cd_Yard_note ct_Yard_note), sl_Yard_note⟩)
    (q_Yard_note : PySem.W.codeIn K cd_Yard_note "Yard.note" = true)
    (k_Yard_note : PySem.W.keepIn K (.ref f_Yard_note) = true)
    (e_Yard_note : dV_Yard_note = .none)
    (a_Yard_take_back : PySem.W.findIn K (.ref c_Yard) "take_back" = some (some (.ref f_Yard_take_back)))
    (i_Yard_take_back : PySem.W.isFn K (.ref f_Yard_take_back) = true)
    (l_Yard_take_back : K.lookup f_Yard_take_back = some ⟨oc_Yard_take_back, od_Yard_take_back, .func (PySem.W.fnOf "take_back" "Yard.take_back" (defArgs s_Yard_take_back) (defBody s_Yard_take_back) (defScope s_Yard_take_back) dV_Yard_take_back kV_Yard_take_back dc_Yard_take_back pm_Yard_take_back an_Yard_take_back cd_Yard_take_back ct_Yard_take_back), sl_Yard_take_back⟩)
    (q_Yard_take_back : PySem.W.codeIn K cd_Yard_take_back "Yard.take_back" = true)
    (k_Yard_take_back : PySem.W.keepIn K (.ref f_Yard_take_back) = true)
    (e_Yard_take_back : dV_Yard_take_back = .none)
    (pg_Yard : PySem.W.plainGet K c_Yard Str.empty = true)
    (hd_Yard : PySem.W.hasDictIn K c_Yard = true)
    (po_Yard : PySem.W.plainOver K c_Yard = true)
    (sa_Yard : PySem.W.findIn K (.ref c_Yard) "__setattr__" = some (some (.builtin "object.__setattr__")))
    (mk_Yard : PySem.W.makesIn K c_Yard = true)
    (kc_Yard : PySem.W.keepIn K (.ref c_Yard) = true)
    (n_Yard_next_piece : PySem.W.findIn K (.ref c_Yard) "next_piece" = some none)
    (n_Yard_kinds : PySem.W.findIn K (.ref c_Yard) "kinds" = some none)
    (n_Yard_notes : PySem.W.findIn K (.ref c_Yard) "notes" = some none)
    (n_Yard_rods_under : PySem.W.findIn K (.ref c_Yard) "rods_under" = some none)
    (n_Yard_sides : PySem.W.findIn K (.ref c_Yard) "sides" = some none)
    (n_Yard_mates : PySem.W.findIn K (.ref c_Yard) "mates" = some none)
    (n_Yard_engine_end : PySem.W.findIn K (.ref c_Yard) "engine_end" = some none)
    (n_Yard_rung : PySem.W.findIn K (.ref c_Yard) "rung" = some none)
    (n_Yard_trail : PySem.W.findIn K (.ref c_Yard) "trail" = some none)
    (z_abs : PySem.W.nsIn K mainGlobals "abs" = some none)
    (z_all : PySem.W.nsIn K mainGlobals "all" = some none)
    (z_bool : PySem.W.nsIn K mainGlobals "bool" = some none)
    (z_dict : PySem.W.nsIn K mainGlobals "dict" = some none)
    (z_enumerate : PySem.W.nsIn K mainGlobals "enumerate" = some none)
    (z_int : PySem.W.nsIn K mainGlobals "int" = some none)
    (z_isinstance : PySem.W.nsIn K mainGlobals "isinstance" = some none)
    (z_len : PySem.W.nsIn K mainGlobals "len" = some none)
    (z_list : PySem.W.nsIn K mainGlobals "list" = some none)
    (z_max : PySem.W.nsIn K mainGlobals "max" = some none)
    (z_min : PySem.W.nsIn K mainGlobals "min" = some none)
    (z_range : PySem.W.nsIn K mainGlobals "range" = some none)
    (z_tuple : PySem.W.nsIn K mainGlobals "tuple" = some none)
    (z_zip : PySem.W.nsIn K mainGlobals "zip" = some none)
    (g_ENDS : PySem.W.nsIn K mainGlobals "ENDS" = some (some u_ENDS))
    (x_ENDS : ∃ a, u_ENDS = .ref a ∧ TabK K a [("line", .int 2), ("bell", .int 2), ("stop", .int 1), ("still", .int 3), ("lazy", .int 3), ("turning", .int 3)])
    (g_LAST_NOTE : PySem.W.nsIn K mainGlobals "LAST_NOTE" = some (some u_LAST_NOTE))
    (r_LAST_NOTE : RelV (.int 9999) u_LAST_NOTE)
    (g_POINTS : PySem.W.nsIn K mainGlobals "POINTS" = some (some u_POINTS))
    (y_POINTS : u_POINTS = .ref a_POINTS)
    (l_POINTS : K.lookup a_POINTS = some ⟨.type "tuple", od_POINTS, .seq its_POINTS n_POINTS, sl_POINTS⟩)
    (s_POINTS : its_POINTS.size ≤ sizeLine)
    (v_POINTS : Vals [.str "still", .str "lazy", .str "turning"] its_POINTS.toList)
    (g_STEM : PySem.W.nsIn K mainGlobals "STEM" = some (some u_STEM))
    (r_STEM : RelV (.int 0) u_STEM) :
    Txt K mg ⟨f_law, PySem.W.fnOf "law" "law" (defArgs s_law) (defBody s_law) (defScope s_law) dV_law kV_law dc_law pm_law an_law cd_law ct_law, dV_law, f_draws, PySem.W.fnOf "_law_draws" "_law_draws" (defArgs s_draws) (defBody s_draws) (defScope s_draws) dV_draws kV_draws dc_draws pm_draws an_draws cd_draws ct_draws, dV_draws, f_set, PySem.W.fnOf "_law_set" "_law_set" (defArgs s_set) (defBody s_set) (defScope s_set) dV_set kV_set dc_set pm_set an_set cd_set ct_set, dV_set, f_built, PySem.W.fnOf "_law_built" "_law_built" (defArgs s_built) (defBody s_built) (defScope s_built) dV_built kV_built dc_built pm_built an_built cd_built ct_built, dV_built, f_kind, PySem.W.fnOf "_law_kind" "_law_kind" (defArgs s_kind) (defBody s_kind) (defScope s_kind) dV_kind kV_kind dc_kind pm_kind an_kind cd_kind ct_kind, dV_kind, f_kinds, PySem.W.fnOf "_law_kinds" "_law_kinds" (defArgs s_kinds) (defBody s_kinds) (defScope s_kinds) dV_kinds kV_kinds dc_kinds pm_kinds an_kinds cd_kinds ct_kinds, dV_kinds, f_many, PySem.W.fnOf "_law_many" "_law_many" (defArgs s_many) (defBody s_many) (defScope s_many) dV_many kV_many dc_many pm_many an_many cd_many ct_many, dV_many, f_linked, PySem.W.fnOf "_law_linked" "_law_linked" (defArgs s_linked) (defBody s_linked) (defScope s_linked) dV_linked kV_linked dc_linked pm_linked an_linked cd_linked ct_linked, dV_linked, f_ends, PySem.W.fnOf "_law_ends" "_law_ends" (defArgs s_ends) (defBody s_ends) (defScope s_ends) dV_ends kV_ends dc_ends pm_ends an_ends cd_ends ct_ends, dV_ends, f_thrown, PySem.W.fnOf "_law_thrown" "_law_thrown" (defArgs s_thrown) (defBody s_thrown) (defScope s_thrown) dV_thrown kV_thrown dc_thrown pm_thrown an_thrown cd_thrown ct_thrown, dV_thrown, f_size, PySem.W.fnOf "_law_size" "_law_size" (defArgs s_size) (defBody s_size) (defScope s_size) dV_size kV_size dc_size pm_size an_size cd_size ct_size, dV_size, f_links, PySem.W.fnOf "_law_links" "_law_links" (defArgs s_links) (defBody s_links) (defScope s_links) dV_links kV_links dc_links pm_links an_links cd_links ct_links, dV_links, f_walk, PySem.W.fnOf "_law_walk" "_law_walk" (defArgs s_walk) (defBody s_walk) (defScope s_walk) dV_walk kV_walk dc_walk pm_walk an_walk cd_walk ct_walk, dV_walk, f_passing, PySem.W.fnOf "_law_passing" "_law_passing" (defArgs s_passing) (defBody s_passing) (defScope s_passing) dV_passing kV_passing dc_passing pm_passing an_passing cd_passing ct_passing, dV_passing, f_run, PySem.W.fnOf "run" "run" (defArgs s_run) (defBody s_run) (defScope s_run) dV_run kV_run dc_run pm_run an_run cd_run ct_run, dV_run, f_next_step, PySem.W.fnOf "next_step" "next_step" (defArgs s_next_step) (defBody s_next_step) (defScope s_next_step) dV_next_step kV_next_step dc_next_step pm_next_step an_next_step cd_next_step ct_next_step, dV_next_step, f_passage, PySem.W.fnOf "passage" "passage" (defArgs s_passage) (defBody s_passage) (defScope s_passage) dV_passage kV_passage dc_passage pm_passage an_passage cd_passage ct_passage, dV_passage, f_check_end, PySem.W.fnOf "check_end" "check_end" (defArgs s_check_end) (defBody s_check_end) (defScope s_check_end) dV_check_end kV_check_end dc_check_end pm_check_end an_check_end cd_check_end ct_check_end, dV_check_end, f_ends_of, PySem.W.fnOf "ends_of" "ends_of" (defArgs s_ends_of) (defBody s_ends_of) (defScope s_ends_of) dV_ends_of kV_ends_of dc_ends_of pm_ends_of an_ends_of cd_ends_of ct_ends_of, dV_ends_of, f_is_point, PySem.W.fnOf "is_point" "is_point" (defArgs s_is_point) (defBody s_is_point) (defScope s_is_point) dV_is_point kV_is_point dc_is_point pm_is_point an_is_point cd_is_point ct_is_point, dV_is_point, f_check_side, PySem.W.fnOf "check_side" "check_side" (defArgs s_check_side) (defBody s_check_side) (defScope s_check_side) dV_check_side kV_check_side dc_check_side pm_check_side an_check_side cd_check_side ct_check_side, dV_check_side, f_point_passage, PySem.W.fnOf "point_passage" "point_passage" (defArgs s_point_passage) (defBody s_point_passage) (defScope s_point_passage) dV_point_passage kV_point_passage dc_point_passage pm_point_passage an_point_passage cd_point_passage ct_point_passage, dV_point_passage, f_twin, PySem.W.fnOf "twin" "twin" (defArgs s_twin) (defBody s_twin) (defScope s_twin) dV_twin kV_twin dc_twin pm_twin an_twin cd_twin ct_twin, dV_twin, f_same, PySem.W.fnOf "_law_same" "_law_same" (defArgs s_same) (defBody s_same) (defScope s_same) dV_same kV_same dc_same pm_same an_same cd_same ct_same, dV_same, f_is_row, PySem.W.fnOf "_law_is_row" "_law_is_row" (defArgs s_is_row) (defBody s_is_row) (defScope s_is_row) dV_is_row kV_is_row dc_is_row pm_is_row an_is_row cd_is_row ct_is_row, dV_is_row, f_is, PySem.W.fnOf "_law_is" "_law_is" (defArgs s_is) (defBody s_is) (defScope s_is) dV_is kV_is dc_is pm_is an_is cd_is ct_is, dV_is, f_whole, PySem.W.fnOf "_law_whole" "_law_whole" (defArgs s_whole) (defBody s_whole) (defScope s_whole) dV_whole kV_whole dc_whole pm_whole an_whole cd_whole ct_whole, dV_whole, f_is_end, PySem.W.fnOf "_law_is_end" "_law_is_end" (defArgs s_is_end) (defBody s_is_end) (defScope s_is_end) dV_is_end kV_is_end dc_is_end pm_is_end an_is_end cd_is_end ct_is_end, dV_is_end, f_pieces, PySem.W.fnOf "_law_pieces" "_law_pieces" (defArgs s_pieces) (defBody s_pieces) (defScope s_pieces) dV_pieces kV_pieces dc_pieces pm_pieces an_pieces cd_pieces ct_pieces, dV_pieces, f_back, PySem.W.fnOf "back" "back" (defArgs s_back) (defBody s_back) (defScope s_back) dV_back kV_back dc_back pm_back an_back cd_back ct_back, dV_back, f_check_note, PySem.W.fnOf "check_note" "check_note" (defArgs s_check_note) (defBody s_check_note) (defScope s_check_note) dV_check_note kV_check_note dc_check_note pm_check_note an_check_note cd_check_note ct_check_note, dV_check_note, f_Yard_init, PySem.W.fnOf "__init__" "Yard.__init__" (defArgs s_Yard_init) (defBody s_Yard_init) (defScope s_Yard_init) dV_Yard_init kV_Yard_init dc_Yard_init pm_Yard_init an_Yard_init cd_Yard_init ct_Yard_init, dV_Yard_init, f_Yard_lift, PySem.W.fnOf "lift" "Yard.lift" (defArgs s_Yard_lift) (defBody s_Yard_lift) (defScope s_Yard_lift) dV_Yard_lift kV_Yard_lift dc_Yard_lift pm_Yard_lift an_Yard_lift cd_Yard_lift ct_Yard_lift, dV_Yard_lift, f_Yard_check_piece, PySem.W.fnOf "check_piece" "Yard.check_piece" (defArgs s_Yard_check_piece) (defBody s_Yard_check_piece) (defScope s_Yard_check_piece) dV_Yard_check_piece kV_Yard_check_piece dc_Yard_check_piece pm_Yard_check_piece an_Yard_check_piece cd_Yard_check_piece ct_Yard_check_piece, dV_Yard_check_piece, f_Yard_end_trail, PySem.W.fnOf "end_trail" "Yard.end_trail" (defArgs s_Yard_end_trail) (defBody s_Yard_end_trail) (defScope s_Yard_end_trail) dV_Yard_end_trail kV_Yard_end_trail dc_Yard_end_trail pm_Yard_end_trail an_Yard_end_trail cd_Yard_end_trail ct_Yard_end_trail, dV_Yard_end_trail, f_Yard_lay, PySem.W.fnOf "lay" "Yard.lay" (defArgs s_Yard_lay) (defBody s_Yard_lay) (defScope s_Yard_lay) dV_Yard_lay kV_Yard_lay dc_Yard_lay pm_Yard_lay an_Yard_lay cd_Yard_lay ct_Yard_lay, dV_Yard_lay, f_Yard_check_rod, PySem.W.fnOf "check_rod" "Yard.check_rod" (defArgs s_Yard_check_rod) (defBody s_Yard_check_rod) (defScope s_Yard_check_rod) dV_Yard_check_rod kV_Yard_check_rod dc_Yard_check_rod pm_Yard_check_rod an_Yard_check_rod cd_Yard_check_rod ct_Yard_check_rod, dV_Yard_check_rod, f_Yard_new_rod, PySem.W.fnOf "new_rod" "Yard.new_rod" (defArgs s_Yard_new_rod) (defBody s_Yard_new_rod) (defScope s_Yard_new_rod) dV_Yard_new_rod kV_Yard_new_rod dc_Yard_new_rod pm_Yard_new_rod an_Yard_new_rod cd_Yard_new_rod ct_Yard_new_rod, dV_Yard_new_rod, f_Yard_rod, PySem.W.fnOf "rod" "Yard.rod" (defArgs s_Yard_rod) (defBody s_Yard_rod) (defScope s_Yard_rod) dV_Yard_rod kV_Yard_rod dc_Yard_rod pm_Yard_rod an_Yard_rod cd_Yard_rod ct_Yard_rod, dV_Yard_rod, f_Yard_put, PySem.W.fnOf "put" "Yard.put" (defArgs s_Yard_put) (defBody s_Yard_put) (defScope s_Yard_put) dV_Yard_put kV_Yard_put dc_Yard_put pm_Yard_put an_Yard_put cd_Yard_put ct_Yard_put, dV_Yard_put, f_Yard_check_there, PySem.W.fnOf "check_there" "Yard.check_there" (defArgs s_Yard_check_there) (defBody s_Yard_check_there) (defScope s_Yard_check_there) dV_Yard_check_there kV_Yard_check_there dc_Yard_check_there pm_Yard_check_there an_Yard_check_there cd_Yard_check_there ct_Yard_check_there, dV_Yard_check_there, f_Yard_link, PySem.W.fnOf "link" "Yard.link" (defArgs s_Yard_link) (defBody s_Yard_link) (defScope s_Yard_link) dV_Yard_link kV_Yard_link dc_Yard_link pm_Yard_link an_Yard_link cd_Yard_link ct_Yard_link, dV_Yard_link, f_Yard_throw, PySem.W.fnOf "throw" "Yard.throw" (defArgs s_Yard_throw) (defBody s_Yard_throw) (defScope s_Yard_throw) dV_Yard_throw kV_Yard_throw dc_Yard_throw pm_Yard_throw an_Yard_throw cd_Yard_throw ct_Yard_throw, dV_Yard_throw, f_Yard_carry, PySem.W.fnOf "carry" "Yard.carry" (defArgs s_Yard_carry) (defBody s_Yard_carry) (defScope s_Yard_carry) dV_Yard_carry kV_Yard_carry dc_Yard_carry pm_Yard_carry an_Yard_carry cd_Yard_carry ct_Yard_carry, dV_Yard_carry, f_Yard_engine, PySem.W.fnOf "engine" "Yard.engine" (defArgs s_Yard_engine) (defBody s_Yard_engine) (defScope s_Yard_engine) dV_Yard_engine kV_Yard_engine dc_Yard_engine pm_Yard_engine an_Yard_engine cd_Yard_engine ct_Yard_engine, dV_Yard_engine, f_Yard_kind, PySem.W.fnOf "kind" "Yard.kind" (defArgs s_Yard_kind) (defBody s_Yard_kind) (defScope s_Yard_kind) dV_Yard_kind kV_Yard_kind dc_Yard_kind pm_Yard_kind an_Yard_kind cd_Yard_kind ct_Yard_kind, dV_Yard_kind, f_Yard_mate, PySem.W.fnOf "mate" "Yard.mate" (defArgs s_Yard_mate) (defBody s_Yard_mate) (defScope s_Yard_mate) dV_Yard_mate kV_Yard_mate dc_Yard_mate pm_Yard_mate an_Yard_mate cd_Yard_mate ct_Yard_mate, dV_Yard_mate, f_Yard_side, PySem.W.fnOf "side" "Yard.side" (defArgs s_Yard_side) (defBody s_Yard_side) (defScope s_Yard_side) dV_Yard_side kV_Yard_side dc_Yard_side pm_Yard_side an_Yard_side cd_Yard_side ct_Yard_side, dV_Yard_side, f_Yard_make_twin, PySem.W.fnOf "make_twin" "Yard.make_twin" (defArgs s_Yard_make_twin) (defBody s_Yard_make_twin) (defScope s_Yard_make_twin) dV_Yard_make_twin kV_Yard_make_twin dc_Yard_make_twin pm_Yard_make_twin an_Yard_make_twin cd_Yard_make_twin ct_Yard_make_twin, dV_Yard_make_twin, f_Yard_pieces, PySem.W.fnOf "pieces" "Yard.pieces" (defArgs s_Yard_pieces) (defBody s_Yard_pieces) (defScope s_Yard_pieces) dV_Yard_pieces kV_Yard_pieces dc_Yard_pieces pm_Yard_pieces an_Yard_pieces cd_Yard_pieces ct_Yard_pieces, dV_Yard_pieces, f_Yard_bells, PySem.W.fnOf "bells" "Yard.bells" (defArgs s_Yard_bells) (defBody s_Yard_bells) (defScope s_Yard_bells) dV_Yard_bells kV_Yard_bells dc_Yard_bells pm_Yard_bells an_Yard_bells cd_Yard_bells ct_Yard_bells, dV_Yard_bells, f_Yard_steps, PySem.W.fnOf "steps" "Yard.steps" (defArgs s_Yard_steps) (defBody s_Yard_steps) (defScope s_Yard_steps) dV_Yard_steps kV_Yard_steps dc_Yard_steps pm_Yard_steps an_Yard_steps cd_Yard_steps ct_Yard_steps, dV_Yard_steps, f_Yard_note, PySem.W.fnOf "note" "Yard.note" (defArgs s_Yard_note) (defBody s_Yard_note) (defScope s_Yard_note) dV_Yard_note kV_Yard_note dc_Yard_note pm_Yard_note an_Yard_note cd_Yard_note ct_Yard_note, dV_Yard_note, f_Yard_take_back, PySem.W.fnOf "take_back" "Yard.take_back" (defArgs s_Yard_take_back) (defBody s_Yard_take_back) (defScope s_Yard_take_back) dV_Yard_take_back kV_Yard_take_back dc_Yard_take_back pm_Yard_take_back an_Yard_take_back cd_Yard_take_back ct_Yard_take_back, dV_Yard_take_back, c_Yard, u_ENDS, u_LAST_NOTE, u_POINTS, u_STEM⟩ where
  F_law := funG_mk l_law q_law k_law
  F_draws := funG_mk l_draws q_draws k_draws
  F_set := funG_mk l_set q_set k_set
  F_built := funG_mk l_built q_built k_built
  F_kind := funG_mk l_kind q_kind k_kind
  F_kinds := funG_mk l_kinds q_kinds k_kinds
  F_many := funG_mk l_many q_many k_many
  F_linked := funG_mk l_linked q_linked k_linked
  F_ends := funG_mk l_ends q_ends k_ends
  F_thrown := funG_mk l_thrown q_thrown k_thrown
  F_size := funG_mk l_size q_size k_size
  F_links := funG_mk l_links q_links k_links
  F_walk := funG_mk l_walk q_walk k_walk
  F_passing := funG_mk l_passing q_passing k_passing
  F_run := funG_mk l_run q_run k_run
  F_next_step := funG_mk l_next_step q_next_step k_next_step
  F_passage := funG_mk l_passage q_passage k_passage
  F_check_end := funG_mk l_check_end q_check_end k_check_end
  F_ends_of := funG_mk l_ends_of q_ends_of k_ends_of
  F_is_point := funG_mk l_is_point q_is_point k_is_point
  F_check_side := funG_mk l_check_side q_check_side k_check_side
  F_point_passage := funG_mk l_point_passage q_point_passage k_point_passage
  F_twin := funG_mk l_twin q_twin k_twin
  F_same := funG_mk l_same q_same k_same
  F_is_row := funG_mk l_is_row q_is_row k_is_row
  F_is := funG_mk l_is q_is k_is
  F_whole := funG_mk l_whole q_whole k_whole
  F_is_end := funG_mk l_is_end q_is_end k_is_end
  F_pieces := funG_mk l_pieces q_pieces k_pieces
  F_back := funG_mk l_back q_back k_back
  F_check_note := funG_mk l_check_note q_check_note k_check_note
  F_Yard_init := funG_mk l_Yard_init q_Yard_init k_Yard_init
  F_Yard_lift := funG_mk l_Yard_lift q_Yard_lift k_Yard_lift
  F_Yard_check_piece := funG_mk l_Yard_check_piece q_Yard_check_piece k_Yard_check_piece
  F_Yard_end_trail := funG_mk l_Yard_end_trail q_Yard_end_trail k_Yard_end_trail
  F_Yard_lay := funG_mk l_Yard_lay q_Yard_lay k_Yard_lay
  F_Yard_check_rod := funG_mk l_Yard_check_rod q_Yard_check_rod k_Yard_check_rod
  F_Yard_new_rod := funG_mk l_Yard_new_rod q_Yard_new_rod k_Yard_new_rod
  F_Yard_rod := funG_mk l_Yard_rod q_Yard_rod k_Yard_rod
  F_Yard_put := funG_mk l_Yard_put q_Yard_put k_Yard_put
  F_Yard_check_there := funG_mk l_Yard_check_there q_Yard_check_there k_Yard_check_there
  F_Yard_link := funG_mk l_Yard_link q_Yard_link k_Yard_link
  F_Yard_throw := funG_mk l_Yard_throw q_Yard_throw k_Yard_throw
  F_Yard_carry := funG_mk l_Yard_carry q_Yard_carry k_Yard_carry
  F_Yard_engine := funG_mk l_Yard_engine q_Yard_engine k_Yard_engine
  F_Yard_kind := funG_mk l_Yard_kind q_Yard_kind k_Yard_kind
  F_Yard_mate := funG_mk l_Yard_mate q_Yard_mate k_Yard_mate
  F_Yard_side := funG_mk l_Yard_side q_Yard_side k_Yard_side
  F_Yard_make_twin := funG_mk l_Yard_make_twin q_Yard_make_twin k_Yard_make_twin
  F_Yard_pieces := funG_mk l_Yard_pieces q_Yard_pieces k_Yard_pieces
  F_Yard_bells := funG_mk l_Yard_bells q_Yard_bells k_Yard_bells
  F_Yard_steps := funG_mk l_Yard_steps q_Yard_steps k_Yard_steps
  F_Yard_note := funG_mk l_Yard_note q_Yard_note k_Yard_note
  F_Yard_take_back := funG_mk l_Yard_take_back q_Yard_take_back k_Yard_take_back
  m_law := PySem.W.mg_of KX G a_law
  e_law := e_law
  m_draws := PySem.W.mg_of KX G a_draws
  e_draws := e_draws
  m_set := PySem.W.mg_of KX G a_set
  e_set := e_set
  m_built := PySem.W.mg_of KX G a_built
  e_built := e_built
  m_kind := PySem.W.mg_of KX G a_kind
  e_kind := e_kind
  m_kinds := PySem.W.mg_of KX G a_kinds
  e_kinds := e_kinds
  m_many := PySem.W.mg_of KX G a_many
  e_many := e_many
  m_linked := PySem.W.mg_of KX G a_linked
  e_linked := e_linked
  m_ends := PySem.W.mg_of KX G a_ends
  e_ends := e_ends
  m_thrown := PySem.W.mg_of KX G a_thrown
  e_thrown := e_thrown
  m_size := PySem.W.mg_of KX G a_size
  e_size := e_size
  m_links := PySem.W.mg_of KX G a_links
  e_links := e_links
  m_walk := PySem.W.mg_of KX G a_walk
  e_walk := e_walk
  m_passing := PySem.W.mg_of KX G a_passing
  e_passing := e_passing
  m_run := PySem.W.mg_of KX G a_run
  e_run := e_run
  m_next_step := PySem.W.mg_of KX G a_next_step
  e_next_step := e_next_step
  m_passage := PySem.W.mg_of KX G a_passage
  e_passage := e_passage
  m_check_end := PySem.W.mg_of KX G a_check_end
  e_check_end := e_check_end
  m_ends_of := PySem.W.mg_of KX G a_ends_of
  e_ends_of := e_ends_of
  m_is_point := PySem.W.mg_of KX G a_is_point
  e_is_point := e_is_point
  m_check_side := PySem.W.mg_of KX G a_check_side
  e_check_side := e_check_side
  m_point_passage := PySem.W.mg_of KX G a_point_passage
  e_point_passage := e_point_passage
  m_twin := PySem.W.mg_of KX G a_twin
  e_twin := e_twin
  m_same := PySem.W.mg_of KX G a_same
  e_same := e_same
  m_is_row := PySem.W.mg_of KX G a_is_row
  e_is_row := e_is_row
  m_is := PySem.W.mg_of KX G a_is
  e_is := e_is
  m_whole := PySem.W.mg_of KX G a_whole
  e_whole := e_whole
  m_is_end := PySem.W.mg_of KX G a_is_end
  e_is_end := e_is_end
  m_pieces := PySem.W.mg_of KX G a_pieces
  e_pieces := e_pieces
  m_back := PySem.W.mg_of KX G a_back
  e_back := e_back
  m_check_note := PySem.W.mg_of KX G a_check_note
  e_check_note := e_check_note
  e_Yard_init := e_Yard_init
  M_Yard_lift := ⟨a_Yard_lift, i_Yard_lift, k_Yard_lift⟩
  e_Yard_lift := e_Yard_lift
  M_Yard_check_piece := ⟨a_Yard_check_piece, i_Yard_check_piece, k_Yard_check_piece⟩
  e_Yard_check_piece := e_Yard_check_piece
  M_Yard_end_trail := ⟨a_Yard_end_trail, i_Yard_end_trail, k_Yard_end_trail⟩
  e_Yard_end_trail := e_Yard_end_trail
  M_Yard_lay := ⟨a_Yard_lay, i_Yard_lay, k_Yard_lay⟩
  D_Yard_lay := ⟨dT_Yard_lay, dd_Yard_lay, dn_Yard_lay, ds_Yard_lay, dk0_Yard_lay, e_Yard_lay, w_Yard_lay⟩
  M_Yard_check_rod := ⟨a_Yard_check_rod, i_Yard_check_rod, k_Yard_check_rod⟩
  e_Yard_check_rod := e_Yard_check_rod
  M_Yard_new_rod := ⟨a_Yard_new_rod, i_Yard_new_rod, k_Yard_new_rod⟩
  D_Yard_new_rod := ⟨dT_Yard_new_rod, dd_Yard_new_rod, dn_Yard_new_rod, ds_Yard_new_rod, dk0_Yard_new_rod, e_Yard_new_rod, w_Yard_new_rod⟩
  M_Yard_rod := ⟨a_Yard_rod, i_Yard_rod, k_Yard_rod⟩
  e_Yard_rod := e_Yard_rod
  M_Yard_put := ⟨a_Yard_put, i_Yard_put, k_Yard_put⟩
  e_Yard_put := e_Yard_put
  M_Yard_check_there := ⟨a_Yard_check_there, i_Yard_check_there, k_Yard_check_there⟩
  e_Yard_check_there := e_Yard_check_there
  M_Yard_link := ⟨a_Yard_link, i_Yard_link, k_Yard_link⟩
  e_Yard_link := e_Yard_link
  M_Yard_throw := ⟨a_Yard_throw, i_Yard_throw, k_Yard_throw⟩
  e_Yard_throw := e_Yard_throw
  M_Yard_carry := ⟨a_Yard_carry, i_Yard_carry, k_Yard_carry⟩
  e_Yard_carry := e_Yard_carry
  M_Yard_engine := ⟨a_Yard_engine, i_Yard_engine, k_Yard_engine⟩
  e_Yard_engine := e_Yard_engine
  M_Yard_kind := ⟨a_Yard_kind, i_Yard_kind, k_Yard_kind⟩
  e_Yard_kind := e_Yard_kind
  M_Yard_mate := ⟨a_Yard_mate, i_Yard_mate, k_Yard_mate⟩
  e_Yard_mate := e_Yard_mate
  M_Yard_side := ⟨a_Yard_side, i_Yard_side, k_Yard_side⟩
  e_Yard_side := e_Yard_side
  M_Yard_make_twin := ⟨a_Yard_make_twin, i_Yard_make_twin, k_Yard_make_twin⟩
  e_Yard_make_twin := e_Yard_make_twin
  M_Yard_pieces := ⟨a_Yard_pieces, i_Yard_pieces, k_Yard_pieces⟩
  e_Yard_pieces := e_Yard_pieces
  M_Yard_bells := ⟨a_Yard_bells, i_Yard_bells, k_Yard_bells⟩
  e_Yard_bells := e_Yard_bells
  M_Yard_steps := ⟨a_Yard_steps, i_Yard_steps, k_Yard_steps⟩
  e_Yard_steps := e_Yard_steps
  M_Yard_note := ⟨a_Yard_note, i_Yard_note, k_Yard_note⟩
  e_Yard_note := e_Yard_note
  M_Yard_take_back := ⟨a_Yard_take_back, i_Yard_take_back, k_Yard_take_back⟩
  e_Yard_take_back := e_Yard_take_back
  cl_Yard := ⟨pg_Yard, hd_Yard, po_Yard, sa_Yard⟩
  m_Yard := PySem.W.mg_of KX G a_Yard
  mk_Yard := ⟨mk_Yard, a_Yard_init, i_Yard_init, kc_Yard⟩
  n_Yard_next_piece := n_Yard_next_piece
  n_Yard_kinds := n_Yard_kinds
  n_Yard_notes := n_Yard_notes
  n_Yard_rods_under := n_Yard_rods_under
  n_Yard_sides := n_Yard_sides
  n_Yard_mates := n_Yard_mates
  n_Yard_engine_end := n_Yard_engine_end
  n_Yard_rung := n_Yard_rung
  n_Yard_trail := n_Yard_trail
  z_abs := PySem.W.mg_none_of KX G z_abs
  z_all := PySem.W.mg_none_of KX G z_all
  z_bool := PySem.W.mg_none_of KX G z_bool
  z_dict := PySem.W.mg_none_of KX G z_dict
  z_enumerate := PySem.W.mg_none_of KX G z_enumerate
  z_int := PySem.W.mg_none_of KX G z_int
  z_isinstance := PySem.W.mg_none_of KX G z_isinstance
  z_len := PySem.W.mg_none_of KX G z_len
  z_list := PySem.W.mg_none_of KX G z_list
  z_max := PySem.W.mg_none_of KX G z_max
  z_min := PySem.W.mg_none_of KX G z_min
  z_range := PySem.W.mg_none_of KX G z_range
  z_tuple := PySem.W.mg_none_of KX G z_tuple
  z_zip := PySem.W.mg_none_of KX G z_zip
  g_ENDS := PySem.W.mg_of KX G g_ENDS
  x_ENDS := x_ENDS
  g_LAST_NOTE := PySem.W.mg_of KX G g_LAST_NOTE
  r_LAST_NOTE := r_LAST_NOTE
  g_POINTS := PySem.W.mg_of KX G g_POINTS
  x_POINTS := ⟨a_POINTS, _, its_POINTS, n_POINTS, y_POINTS, l_POINTS, rfl, rfl, s_POINTS, v_POINTS⟩
  g_STEM := PySem.W.mg_of KX G g_STEM
  r_STEM := r_STEM
end P
def PySem.W.Fast.tw11758213659336757599 : Unit := ()
def PySem.W.Fast.tw11924201011401645887 : Unit := ()
def PySem.W.Fast.tw12066514214392913964 : Unit := ()
def PySem.W.Fast.tw12153208043890098197 : Unit := ()
def PySem.W.Fast.tw1470045817746189906 : Unit := ()
def PySem.W.Fast.tw2306411936681359222 : Unit := ()
def PySem.W.Fast.tw368440236979041434 : Unit := ()
def PySem.W.Fast.tw3868482600879605211 : Unit := ()
def PySem.W.Fast.tw16509310277377343902 : Unit := ()
def PySem.W.Fast.tw8704525114935721566 : Unit := ()
def PySem.W.Fast.tw7081253496301724904 : Unit := ()
def PySem.W.Fast.tw211703351794572955 : Unit := ()
def PySem.W.Fast.tw15121082468562353079 : Unit := ()
def PySem.W.Fast.tw11011259827487415295 : Unit := ()
def PySem.W.Fast.tw13343500326135664163 : Unit := ()
def PySem.W.Fast.tw16453025368037449355 : Unit := ()
def PySem.W.Fast.tw1543724653942452821 : Unit := ()
def PySem.W.Fast.tw2498686439389078129 : Unit := ()
def PySem.W.Fast.tw1950358042707300252 : Unit := ()
def PySem.W.Fast.tw8966515146303153930 : Unit := ()
def PySem.W.Fast.tw12585147201882642731 : Unit := ()
def PySem.W.Fast.tw9324229640019537230 : Unit := ()
def PySem.W.Fast.tw15693944029775612123 : Unit := ()
def PySem.W.Fast.tw10989257663684226282 : Unit := ()
def PySem.W.Fast.tw10534597686100851919 : Unit := ()
def PySem.W.Fast.tw8576744960963814336 : Unit := ()
def PySem.W.Fast.tw13847088867848628877 : Unit := ()
def PySem.W.Fast.tw15229442696988603316 : Unit := ()
def PySem.W.Fast.tw2305562159356170027 : Unit := ()
def PySem.W.Fast.tw14626606250077793428 : Unit := ()
def PySem.W.Fast.tw6148135625621686125 : Unit := ()
def PySem.W.Fast.tw456125983404013238 : Unit := ()
def PySem.W.Fast.tw9729854297895844648 : Unit := ()
def PySem.W.Fast.tw6600641418205709857 : Unit := ()
def PySem.W.Fast.tw12658575690739850431 : Unit := ()
def PySem.W.Fast.tw4731272813984115515 : Unit := ()
def PySem.W.Fast.tw10001196904479197307 : Unit := ()
def PySem.W.Fast.tw13479127962135794741 : Unit := ()
def PySem.W.Fast.tw18425361918160230147 : Unit := ()
def PySem.W.Fast.tw18317037539286682424 : Unit := ()
def PySem.W.Fast.tw788540223131074367 : Unit := ()
def PySem.W.Fast.tw8890739457619808082 : Unit := ()
def PySem.W.Fast.tw7303606981249624708 : Unit := ()
def PySem.W.Fast.tw5697350455726514309 : Unit := ()
def PySem.W.Fast.tw4880867335869548330 : Unit := ()
def PySem.W.Fast.tw8467607841433053780 : Unit := ()
def PySem.W.Fast.tw8125246019329654488 : Unit := ()
def PySem.W.Fast.tw9223489259335463729 : Unit := ()
def PySem.W.Fast.tw3098013415676323319 : Unit := ()
def PySem.W.Fast.tw4077037944910194853 : Unit := ()
def PySem.W.Fast.tw3165254657429559865 : Unit := ()
def PySem.W.Fast.tw8837006784366416378 : Unit := ()
def PySem.W.Fast.tw17778539798521348148 : Unit := ()
def PySem.W.Fast.tw17202461587238133487 : Unit := ()
def PySem.W.Fast.tw7290509903892609979 : Unit := ()
def PySem.W.Fast.tw10234032015574381965 : Unit := ()
def PySem.W.Fast.tw3064513372645685269 : Unit := ()
def PySem.W.Fast.tw5995500947550170691 : Unit := ()
def PySem.W.Fast.tw3646043144245425532 : Unit := ()
def PySem.W.Fast.tw15846234078826079815 : Unit := ()
def PySem.W.Fast.tw5217242548054909664 : Unit := ()

open PySem PySem.W PyProof.Rows
set_option maxRecDepth 100000 in
set_option maxHeartbeats 0 in
theorem PySem.Challenge.cw_lazyrails_k21_twins_holds : PySem.Challenge.rw_lazyrails_k21_twins.Holds := by
  w_on; o_law; k_head; (case hw => w_witness2)
  k_fill
  refine L2.walk_ofK (l := PySem.Challenge.rw_lazyrails_k21_twins) (n := 63) (k := 12) (x := "_law_script") (CX := L2.CX0) (sp := P.sp_law) rfl (by decide) rfl ⟨rfl, by decide, by decide⟩ (fun w h Y => PySem.W.kIn_of Y) ?F ?S ?C
  case F =>
    intro w mg fa h KX G hmg
    have T : ∃ t, P.Txt (L2.KOf KX) mg t := by
      dsimp only [L2.KOf]
      refine' ⟨_, P.txt_mk KX G ?a_Yard ?a_law ?l_law ?q_law ?k_law ?e_law ?a_draws ?l_draws ?q_draws ?k_draws ?e_draws ?a_set ?l_set ?q_set ?k_set ?e_set ?a_built ?l_built ?q_built ?k_built ?e_built ?a_kind ?l_kind ?q_kind ?k_kind ?e_kind ?a_kinds ?l_kinds ?q_kinds ?k_kinds ?e_kinds ?a_many ?l_many ?q_many ?k_many ?e_many ?a_linked ?l_linked ?q_linked ?k_linked ?e_linked ?a_ends ?l_ends ?q_ends ?k_ends ?e_ends ?a_thrown ?l_thrown ?q_thrown ?k_thrown ?e_thrown ?a_size ?l_size ?q_size ?k_size ?e_size ?a_links ?l_links ?q_links ?k_links ?e_links ?a_walk ?l_walk ?q_walk ?k_walk ?e_walk ?a_passing ?l_passing ?q_passing ?k_passing ?e_passing ?a_run ?l_run ?q_run ?k_run ?e_run ?a_next_step ?l_next_step ?q_next_step ?k_next_step ?e_next_step ?a_passage ?l_passage ?q_passage ?k_passage ?e_passage ?a_check_end ?l_check_end ?q_check_end ?k_check_end ?e_check_end ?a_ends_of ?l_ends_of ?q_ends_of ?k_ends_of ?e_ends_of ?a_is_point ?l_is_point ?q_is_point ?k_is_point ?e_is_point ?a_check_side ?l_check_side ?q_check_side ?k_check_side ?e_check_side ?a_point_passage ?l_point_passage ?q_point_passage ?k_point_passage ?e_point_passage ?a_twin ?l_twin ?q_twin ?k_twin ?e_twin ?a_same ?l_same ?q_same ?k_same ?e_same ?a_is_row ?l_is_row ?q_is_row ?k_is_row ?e_is_row ?a_is ?l_is ?q_is ?k_is ?e_is ?a_whole ?l_whole ?q_whole ?k_whole ?e_whole ?a_is_end ?l_is_end ?q_is_end ?k_is_end ?e_is_end ?a_pieces ?l_pieces ?q_pieces ?k_pieces ?e_pieces ?a_back ?l_back ?q_back ?k_back ?e_back ?a_check_note ?l_check_note ?q_check_note ?k_check_note ?e_check_note ?a_Yard_init ?i_Yard_init ?l_Yard_init ?q_Yard_init ?k_Yard_init ?e_Yard_init ?a_Yard_lift ?i_Yard_lift ?l_Yard_lift ?q_Yard_lift ?k_Yard_lift ?e_Yard_lift ?a_Yard_check_piece ?i_Yard_check_piece ?l_Yard_check_piece ?q_Yard_check_piece ?k_Yard_check_piece ?e_Yard_check_piece ?a_Yard_end_trail ?i_Yard_end_trail ?l_Yard_end_trail ?q_Yard_end_trail ?k_Yard_end_trail ?e_Yard_end_trail ?a_Yard_lay ?i_Yard_lay ?l_Yard_lay ?q_Yard_lay ?k_Yard_lay ?e_Yard_lay ?w_Yard_lay ?a_Yard_check_rod ?i_Yard_check_rod ?l_Yard_check_rod ?q_Yard_check_rod ?k_Yard_check_rod ?e_Yard_check_rod ?a_Yard_new_rod ?i_Yard_new_rod ?l_Yard_new_rod ?q_Yard_new_rod ?k_Yard_new_rod ?e_Yard_new_rod ?w_Yard_new_rod ?a_Yard_rod ?i_Yard_rod ?l_Yard_rod ?q_Yard_rod ?k_Yard_rod ?e_Yard_rod ?a_Yard_put ?i_Yard_put ?l_Yard_put ?q_Yard_put ?k_Yard_put ?e_Yard_put ?a_Yard_check_there ?i_Yard_check_there ?l_Yard_check_there ?q_Yard_check_there ?k_Yard_check_there ?e_Yard_check_there ?a_Yard_link ?i_Yard_link ?l_Yard_link ?q_Yard_link ?k_Yard_link ?e_Yard_link ?a_Yard_throw ?i_Yard_throw ?l_Yard_throw ?q_Yard_throw ?k_Yard_throw ?e_Yard_throw ?a_Yard_carry ?i_Yard_carry ?l_Yard_carry ?q_Yard_carry ?k_Yard_carry ?e_Yard_carry ?a_Yard_engine ?i_Yard_engine ?l_Yard_engine ?q_Yard_engine ?k_Yard_engine ?e_Yard_engine ?a_Yard_kind ?i_Yard_kind ?l_Yard_kind ?q_Yard_kind ?k_Yard_kind ?e_Yard_kind ?a_Yard_mate ?i_Yard_mate ?l_Yard_mate ?q_Yard_mate ?k_Yard_mate ?e_Yard_mate ?a_Yard_side ?i_Yard_side ?l_Yard_side ?q_Yard_side ?k_Yard_side ?e_Yard_side ?a_Yard_make_twin ?i_Yard_make_twin ?l_Yard_make_twin ?q_Yard_make_twin ?k_Yard_make_twin ?e_Yard_make_twin ?a_Yard_pieces ?i_Yard_pieces ?l_Yard_pieces ?q_Yard_pieces ?k_Yard_pieces ?e_Yard_pieces ?a_Yard_bells ?i_Yard_bells ?l_Yard_bells ?q_Yard_bells ?k_Yard_bells ?e_Yard_bells ?a_Yard_steps ?i_Yard_steps ?l_Yard_steps ?q_Yard_steps ?k_Yard_steps ?e_Yard_steps ?a_Yard_note ?i_Yard_note ?l_Yard_note ?q_Yard_note ?k_Yard_note ?e_Yard_note ?a_Yard_take_back ?i_Yard_take_back ?l_Yard_take_back ?q_Yard_take_back ?k_Yard_take_back ?e_Yard_take_back ?pg_Yard ?hd_Yard ?po_Yard ?sa_Yard ?mk_Yard ?kc_Yard ?n_Yard_next_piece ?n_Yard_kinds ?n_Yard_notes ?n_Yard_rods_under ?n_Yard_sides ?n_Yard_mates ?n_Yard_engine_end ?n_Yard_rung ?n_Yard_trail ?z_abs ?z_all ?z_bool ?z_dict ?z_enumerate ?z_int ?z_isinstance ?z_len ?z_list ?z_max ?z_min ?z_range ?z_tuple ?z_zip ?g_ENDS ?x_ENDS ?g_LAST_NOTE ?r_LAST_NOTE ?g_POINTS ?y_POINTS ?l_POINTS ?s_POINTS ?v_POINTS ?g_STEM ?r_STEM⟩
      (case a_Yard => k_is)
      (case a_law => k_is)
      (case l_law => k_is)
      (case q_law => k_is)
      (case k_law => k_is)
      (case e_law => exact rfl)
      (case a_draws => k_is)
      (case l_draws => k_is)
      (case q_draws => k_is)
      (case k_draws => k_is)
      (case e_draws => exact rfl)
      (case a_set => k_is)
      (case l_set => k_is)
      (case q_set => k_is)
      (case k_set => k_is)
      (case e_set => exact rfl)
      (case a_built => k_is)
      (case l_built => k_is)
      (case q_built => k_is)
      (case k_built => k_is)
      (case e_built => exact rfl)
      (case a_kind => k_is)
      (case l_kind => k_is)
      (case q_kind => k_is)
      (case k_kind => k_is)
      (case e_kind => exact rfl)
      (case a_kinds => k_is)
      (case l_kinds => k_is)
      (case q_kinds => k_is)
      (case k_kinds => k_is)
      (case e_kinds => exact rfl)
      (case a_many => k_is)
      (case l_many => k_is)
      (case q_many => k_is)
      (case k_many => k_is)
      (case e_many => exact rfl)
      (case a_linked => k_is)
      (case l_linked => k_is)
      (case q_linked => k_is)
      (case k_linked => k_is)
      (case e_linked => exact rfl)
      (case a_ends => k_is)
      (case l_ends => k_is)
      (case q_ends => k_is)
      (case k_ends => k_is)
      (case e_ends => exact rfl)
      (case a_thrown => k_is)
      (case l_thrown => k_is)
      (case q_thrown => k_is)
      (case k_thrown => k_is)
      (case e_thrown => exact rfl)
      (case a_size => k_is)
      (case l_size => k_is)
      (case q_size => k_is)
      (case k_size => k_is)
      (case e_size => exact rfl)
      (case a_links => k_is)
      (case l_links => k_is)
      (case q_links => k_is)
      (case k_links => k_is)
      (case e_links => exact rfl)
      (case a_walk => k_is)
      (case l_walk => k_is)
      (case q_walk => k_is)
      (case k_walk => k_is)
      (case e_walk => exact rfl)
      (case a_passing => k_is)
      (case l_passing => k_is)
      (case q_passing => k_is)
      (case k_passing => k_is)
      (case e_passing => exact rfl)
      (case a_run => k_is)
      (case l_run => k_is)
      (case q_run => k_is)
      (case k_run => k_is)
      (case e_run => exact rfl)
      (case a_next_step => k_is)
      (case l_next_step => k_is)
      (case q_next_step => k_is)
      (case k_next_step => k_is)
      (case e_next_step => exact rfl)
      (case a_passage => k_is)
      (case l_passage => k_is)
      (case q_passage => k_is)
      (case k_passage => k_is)
      (case e_passage => exact rfl)
      (case a_check_end => k_is)
      (case l_check_end => k_is)
      (case q_check_end => k_is)
      (case k_check_end => k_is)
      (case e_check_end => exact rfl)
      (case a_ends_of => k_is)
      (case l_ends_of => k_is)
      (case q_ends_of => k_is)
      (case k_ends_of => k_is)
      (case e_ends_of => exact rfl)
      (case a_is_point => k_is)
      (case l_is_point => k_is)
      (case q_is_point => k_is)
      (case k_is_point => k_is)
      (case e_is_point => exact rfl)
      (case a_check_side => k_is)
      (case l_check_side => k_is)
      (case q_check_side => k_is)
      (case k_check_side => k_is)
      (case e_check_side => exact rfl)
      (case a_point_passage => k_is)
      (case l_point_passage => k_is)
      (case q_point_passage => k_is)
      (case k_point_passage => k_is)
      (case e_point_passage => exact rfl)
      (case a_twin => k_is)
      (case l_twin => k_is)
      (case q_twin => k_is)
      (case k_twin => k_is)
      (case e_twin => exact rfl)
      (case a_same => k_is)
      (case l_same => k_is)
      (case q_same => k_is)
      (case k_same => k_is)
      (case e_same => exact rfl)
      (case a_is_row => k_is)
      (case l_is_row => k_is)
      (case q_is_row => k_is)
      (case k_is_row => k_is)
      (case e_is_row => exact rfl)
      (case a_is => k_is)
      (case l_is => k_is)
      (case q_is => k_is)
      (case k_is => k_is)
      (case e_is => exact rfl)
      (case a_whole => k_is)
      (case l_whole => k_is)
      (case q_whole => k_is)
      (case k_whole => k_is)
      (case e_whole => exact rfl)
      (case a_is_end => k_is)
      (case l_is_end => k_is)
      (case q_is_end => k_is)
      (case k_is_end => k_is)
      (case e_is_end => exact rfl)
      (case a_pieces => k_is)
      (case l_pieces => k_is)
      (case q_pieces => k_is)
      (case k_pieces => k_is)
      (case e_pieces => exact rfl)
      (case a_back => k_is)
      (case l_back => k_is)
      (case q_back => k_is)
      (case k_back => k_is)
      (case e_back => exact rfl)
      (case a_check_note => k_is)
      (case l_check_note => k_is)
      (case q_check_note => k_is)
      (case k_check_note => k_is)
      (case e_check_note => exact rfl)
      (case a_Yard_init => k_is)
      (case i_Yard_init => k_is)
      (case l_Yard_init => k_is)
      (case q_Yard_init => k_is)
      (case k_Yard_init => k_is)
      (case e_Yard_init => exact rfl)
      (case a_Yard_lift => k_is)
      (case i_Yard_lift => k_is)
      (case l_Yard_lift => k_is)
      (case q_Yard_lift => k_is)
      (case k_Yard_lift => k_is)
      (case e_Yard_lift => exact rfl)
      (case a_Yard_check_piece => k_is)
      (case i_Yard_check_piece => k_is)
      (case l_Yard_check_piece => k_is)
      (case q_Yard_check_piece => k_is)
      (case k_Yard_check_piece => k_is)
      (case e_Yard_check_piece => exact rfl)
      (case a_Yard_end_trail => k_is)
      (case i_Yard_end_trail => k_is)
      (case l_Yard_end_trail => k_is)
      (case q_Yard_end_trail => k_is)
      (case k_Yard_end_trail => k_is)
      (case e_Yard_end_trail => exact rfl)
      (case a_Yard_lay => k_is)
      (case i_Yard_lay => k_is)
      (case l_Yard_lay => k_is)
      (case q_Yard_lay => k_is)
      (case k_Yard_lay => k_is)
      (case e_Yard_lay => exact rfl)
      (case w_Yard_lay => k_is)
      (case a_Yard_check_rod => k_is)
      (case i_Yard_check_rod => k_is)
      (case l_Yard_check_rod => k_is)
      (case q_Yard_check_rod => k_is)
      (case k_Yard_check_rod => k_is)
      (case e_Yard_check_rod => exact rfl)
      (case a_Yard_new_rod => k_is)
      (case i_Yard_new_rod => k_is)
      (case l_Yard_new_rod => k_is)
      (case q_Yard_new_rod => k_is)
      (case k_Yard_new_rod => k_is)
      (case e_Yard_new_rod => exact rfl)
      (case w_Yard_new_rod => k_is)
      (case a_Yard_rod => k_is)
      (case i_Yard_rod => k_is)
      (case l_Yard_rod => k_is)
      (case q_Yard_rod => k_is)
      (case k_Yard_rod => k_is)
      (case e_Yard_rod => exact rfl)
      (case a_Yard_put => k_is)
      (case i_Yard_put => k_is)
      (case l_Yard_put => k_is)
      (case q_Yard_put => k_is)
      (case k_Yard_put => k_is)
      (case e_Yard_put => exact rfl)
      (case a_Yard_check_there => k_is)
      (case i_Yard_check_there => k_is)
      (case l_Yard_check_there => k_is)
      (case q_Yard_check_there => k_is)
      (case k_Yard_check_there => k_is)
      (case e_Yard_check_there => exact rfl)
      (case a_Yard_link => k_is)
      (case i_Yard_link => k_is)
      (case l_Yard_link => k_is)
      (case q_Yard_link => k_is)
      (case k_Yard_link => k_is)
      (case e_Yard_link => exact rfl)
      (case a_Yard_throw => k_is)
      (case i_Yard_throw => k_is)
      (case l_Yard_throw => k_is)
      (case q_Yard_throw => k_is)
      (case k_Yard_throw => k_is)
      (case e_Yard_throw => exact rfl)
      (case a_Yard_carry => k_is)
      (case i_Yard_carry => k_is)
      (case l_Yard_carry => k_is)
      (case q_Yard_carry => k_is)
      (case k_Yard_carry => k_is)
      (case e_Yard_carry => exact rfl)
      (case a_Yard_engine => k_is)
      (case i_Yard_engine => k_is)
      (case l_Yard_engine => k_is)
      (case q_Yard_engine => k_is)
      (case k_Yard_engine => k_is)
      (case e_Yard_engine => exact rfl)
      (case a_Yard_kind => k_is)
      (case i_Yard_kind => k_is)
      (case l_Yard_kind => k_is)
      (case q_Yard_kind => k_is)
      (case k_Yard_kind => k_is)
      (case e_Yard_kind => exact rfl)
      (case a_Yard_mate => k_is)
      (case i_Yard_mate => k_is)
      (case l_Yard_mate => k_is)
      (case q_Yard_mate => k_is)
      (case k_Yard_mate => k_is)
      (case e_Yard_mate => exact rfl)
      (case a_Yard_side => k_is)
      (case i_Yard_side => k_is)
      (case l_Yard_side => k_is)
      (case q_Yard_side => k_is)
      (case k_Yard_side => k_is)
      (case e_Yard_side => exact rfl)
      (case a_Yard_make_twin => k_is)
      (case i_Yard_make_twin => k_is)
      (case l_Yard_make_twin => k_is)
      (case q_Yard_make_twin => k_is)
      (case k_Yard_make_twin => k_is)
      (case e_Yard_make_twin => exact rfl)
      (case a_Yard_pieces => k_is)
      (case i_Yard_pieces => k_is)
      (case l_Yard_pieces => k_is)
      (case q_Yard_pieces => k_is)
      (case k_Yard_pieces => k_is)
      (case e_Yard_pieces => exact rfl)
      (case a_Yard_bells => k_is)
      (case i_Yard_bells => k_is)
      (case l_Yard_bells => k_is)
      (case q_Yard_bells => k_is)
      (case k_Yard_bells => k_is)
      (case e_Yard_bells => exact rfl)
      (case a_Yard_steps => k_is)
      (case i_Yard_steps => k_is)
      (case l_Yard_steps => k_is)
      (case q_Yard_steps => k_is)
      (case k_Yard_steps => k_is)
      (case e_Yard_steps => exact rfl)
      (case a_Yard_note => k_is)
      (case i_Yard_note => k_is)
      (case l_Yard_note => k_is)
      (case q_Yard_note => k_is)
      (case k_Yard_note => k_is)
      (case e_Yard_note => exact rfl)
      (case a_Yard_take_back => k_is)
      (case i_Yard_take_back => k_is)
      (case l_Yard_take_back => k_is)
      (case q_Yard_take_back => k_is)
      (case k_Yard_take_back => k_is)
      (case e_Yard_take_back => exact rfl)
      (case pg_Yard => k_is)
      (case hd_Yard => k_is)
      (case po_Yard => k_is)
      (case sa_Yard => k_is)
      (case mk_Yard => k_is)
      (case kc_Yard => k_is)
      (case n_Yard_next_piece => k_is)
      (case n_Yard_kinds => k_is)
      (case n_Yard_notes => k_is)
      (case n_Yard_rods_under => k_is)
      (case n_Yard_sides => k_is)
      (case n_Yard_mates => k_is)
      (case n_Yard_engine_end => k_is)
      (case n_Yard_rung => k_is)
      (case n_Yard_trail => k_is)
      (case z_abs => k_is)
      (case z_all => k_is)
      (case z_bool => k_is)
      (case z_dict => k_is)
      (case z_enumerate => k_is)
      (case z_int => k_is)
      (case z_isinstance => k_is)
      (case z_len => k_is)
      (case z_list => k_is)
      (case z_max => k_is)
      (case z_min => k_is)
      (case z_range => k_is)
      (case z_tuple => k_is)
      (case z_zip => k_is)
      (case g_ENDS => k_is)
      (case x_ENDS => exact ⟨_, rfl, by kernel_rfl⟩)
      (case g_LAST_NOTE => k_is)
      (case r_LAST_NOTE => exact ⟨_, rfl⟩)
      (case g_POINTS => k_is)
      (case y_POINTS => exact rfl)
      (case l_POINTS => k_is)
      (case s_POINTS => exact (show 3 ≤ PySem.sizeLine by decide))
      (case v_POINTS => exact .cons ⟨_, rfl⟩ (.cons ⟨_, rfl⟩ (.cons ⟨_, rfl⟩ (.nil))))
      (case g_STEM => k_is)
      (case r_STEM => exact ⟨_, rfl⟩)
    obtain ⟨t, T⟩ := T
    have e0 := hmg.symm.trans T.m_law
    cases e0
    exact ⟨_, fun s u => P.law_binds T s u, fun base kb nb => P.ok_law T⟩
  case S => exact fun K H a ns hl hO hS => P.law_start hl hS
  case C => exact fun H s e s' z => z
