import PyProof.Rows.All
import Wide.All
import OpenK.AllK
import Wide.FinOn
import Lean
import PyProof.EqAt
import PyProof.EqKinds
import PyProof.TupleCall
import PyProof.ZipIter
import PyProof.EnumMake
import PyProof.ListRange
import KE.KDictList
import KE.LcSums
import KE.KTabLook
import PySem.Challenge.RW_lazyrails_k25_fate_of_a_round
set_option Elab.async false
set_option linter.all false
set_option maxRecDepth 100000
/-! THE HAND LAYER, for ints, bools, texts, own classes, DICTS (int and text keys), calls, loops. Paste it whole ahead of your own text; what your proof does not reach may be deleted. -/
namespace L2
open PySem PySem.Spec PyProof.Rows

/-- a key: an int or a str -/
abbrev Key := Sum Int Str
def keyIs : Key → Value → Bool
  | .inl k, v => Value.isInt k v
  | .inr x, v => Value.isStrOf x v
def keyH (w : World) : Key → Int
  | .inl k => hashInt k
  | .inr x => hashStr w x
theorem keyIs_shape : ∀ {k : Key} {v : Value}, keyIs k v = true → (∃ i t, k = Sum.inl i ∧ v = Value.int i t) ∨ (∃ x t, k = Sum.inr x ∧ v = Value.str x t)
  | .inl i, v, h => by
    obtain ⟨t, e⟩ := Value.isInt_shape (k := i) (v := v) h
    exact .inl ⟨i, t, rfl, e⟩
  | .inr x, v, h => by
    obtain ⟨t, e⟩ := Value.isStrOf_shape (x := x) (v := v) h
    exact .inr ⟨x, t, rfl, e⟩
theorem keyIs_int (i : Int) (t : Tok) : keyIs (.inl i) (.int i t) = true := by simp [keyIs, Value.isInt]
theorem keyIs_str (x : Str) (t : Tok) : keyIs (.inr x) (.str x t) = true := by simp [keyIs, Value.isStrOf]
theorem key_ll (a b : Int) : decide ((Sum.inl a : Key) = Sum.inl b) = (a == b) := by
  by_cases e : a = b
  · subst e; simp
  · have h : ¬ (Sum.inl a : Key) = Sum.inl b := fun q => e (Sum.inl.inj q)
    rw [decide_eq_false h]
    exact (beq_eq_false_iff_ne.mpr e).symm
theorem key_rr (a b : Str) : decide ((Sum.inr a : Key) = Sum.inr b) = decide (a = b) := by
  by_cases e : a = b
  · subst e; simp
  · have h : ¬ (Sum.inr a : Key) = Sum.inr b := fun q => e (Sum.inr.inj q)
    rw [decide_eq_false h, decide_eq_false e]
theorem key_lr (a : Int) (b : Str) : decide ((Sum.inl a : Key) = Sum.inr b) = false := decide_eq_false (fun q => nomatch q)
theorem key_rl (a : Str) (b : Int) : decide ((Sum.inr a : Key) = Sum.inl b) = false := decide_eq_false (fun q => nomatch q)

def mixKind (prog : Program) (w : World) : PySem.KeyKind prog w Key where
  is := keyIs
  hash := keyH w
  inj := fun v a b ha hb => by
    rcases keyIs_shape ha with ⟨i, t, rfl, rfl⟩ | ⟨x, t, rfl, rfl⟩
    · rcases keyIs_shape hb with ⟨j, u, rfl, e⟩ | ⟨y, u, rfl, e⟩
      · injection e with e1 _; rw [e1]
      · exact nomatch e
    · rcases keyIs_shape hb with ⟨j, u, rfl, e⟩ | ⟨y, u, rfl, e⟩
      · exact nomatch e
      · injection e with e1 _; rw [e1]
  byValue := fun k v h => by
    rcases keyIs_shape h with ⟨i, t, rfl, rfl⟩ | ⟨x, t, rfl, rfl⟩ <;> rfl
  pyHash := fun hv h => by
    rcases keyIs_shape hv with ⟨i, t, rfl, rfl⟩ | ⟨x, t, rfl, rfl⟩
    · exact wpAny_pyHash_int h
    · exact wpAny_pyHash_str h
  eqBool := fun hu hv h => by
    rcases keyIs_shape hu with ⟨i, t, rfl, rfl⟩ | ⟨x, t, rfl, rfl⟩
    · rcases keyIs_shape hv with ⟨j, u, rfl, rfl⟩ | ⟨y, u, rfl, rfl⟩
      · rw [key_ll] at h; exact wpAny_eqBool_int h
      · rw [key_lr] at h; exact SeqAt.EqAt.int_str i t y u _ _ _ _ h
    · rcases keyIs_shape hv with ⟨j, u, rfl, rfl⟩ | ⟨y, u, rfl, rfl⟩
      · rw [key_rl] at h; exact SeqAt.EqAt.str_int x t j u _ _ _ _ h
      · rw [key_rr] at h; exact wpAny_eqBool_str h
  «strs» := fun k x t v h => by
    rcases keyIs_shape h with ⟨i, u, rfl, e⟩ | ⟨y, u, rfl, e⟩
    · exact nomatch e
    · injection e with e1 _
      subst e1
      cases v <;> rfl

theorem mixKind_is (prog : Program) (w : World) (k : Key) (v : Value) : (mixKind prog w).is k v = keyIs k v := rfl
theorem mixKind_int (prog : Program) (w : World) (i : Int) (t : Tok) : (mixKind prog w).is (.inl i) (.int i t) = true := keyIs_int i t
theorem mixKind_str (prog : Program) (w : World) (x : Str) (t : Tok) : (mixKind prog w).is (.inr x) (.str x t) = true := keyIs_str x t
end L2

namespace L2
open PySem PySem.Spec PyProof.Rows

/-- a value, without the heap -/
inductive V where
  | non | bl (b : Bool) | int (i : Int) | str (x : Str) | byt (b : Array UInt8) | flt (b : UInt64) | ref (a : Addr) | ty (n : String)
  deriving DecidableEq

def RelV : V → Value → Prop
  | .non, u => u = Value.none
  | .bl b, u => u = Value.bool b
  | .int i, u => ∃ t, u = Value.int i t
  | .str x, u => ∃ t, u = Value.str x t
  | .byt b, u => ∃ t, u = Value.bytes b t
  | .flt b, u => ∃ t, u = Value.float b t
  | .ref a, u => u = Value.ref a
  | .ty n, u => u = Value.type n

abbrev Vals : List V → List Value → Prop := Paired RelV
theorem Vals.length {xs : List V} {us : List Value} (r : Vals xs us) : xs.length = us.length := Paired.length r
theorem Vals.get : ∀ {xs : List V} {us : List Value} {i : Nat} {x : V}, Vals xs us → xs[i]? = some x → ∃ u, us[i]? = some u ∧ RelV x u
  | _, _, _, _, .nil, e => by simp at e
  | _, _, 0, _, .cons r _, e => by simp at e; subst e; exact ⟨_, rfl, r⟩
  | _, _, i + 1, x, .cons _ t, e => by
    obtain ⟨u, h1, h2⟩ := Vals.get (i := i) (x := x) t (by simpa using e)
    exact ⟨u, by simpa using h1, h2⟩
theorem Vals.set {x : V} {u : Value} (r : RelV x u) : ∀ {xs : List V} {us : List Value} (i : Nat), Vals xs us → Vals (xs.set i x) (us.set i u)
  | _, _, _, .nil => .nil
  | _, _, 0, .cons _ t => .cons r t
  | _, _, i + 1, .cons q t => .cons q (Vals.set r i t)
theorem Vals.append : ∀ {xs ys : List V} {us ws : List Value}, Vals xs us → Vals ys ws → Vals (xs ++ ys) (us ++ ws)
  | _, _, _, _, .nil, s => s
  | _, _, _, _, .cons r t, s => .cons r (Vals.append t s)
theorem Vals.take : ∀ {xs : List V} {us : List Value} (n : Nat), Vals xs us → Vals (xs.take n) (us.take n)
  | _, _, 0, _ => .nil
  | _, _, _ + 1, .nil => .nil
  | _, _, n + 1, .cons r t => .cons r (Vals.take n t)
theorem Vals.drop : ∀ {xs : List V} {us : List Value} (n : Nat), Vals xs us → Vals (xs.drop n) (us.drop n)
  | _, _, 0, r => r
  | _, _, _ + 1, .nil => .nil
  | _, _, n + 1, .cons _ t => Vals.drop n t
theorem Vals.none_of : ∀ {xs : List V} {us : List Value} {i : Nat}, Vals xs us → xs[i]? = none → us[i]? = none := fun {xs us i} r e => by
  have h1 := r.length
  have h2 : xs.length ≤ i := List.getElem?_eq_none_iff.mp e
  exact List.getElem?_eq_none_iff.mpr (by omega)

def RelO : Option V → Option Value → Prop
  | some v, some u => RelV v u
  | none, none => True
  | _, _ => False
def KV {κ : Type} : List (κ × V) → List (κ × Value) → Prop := Paired fun (p : κ × V) (q : κ × Value) => p.1 = q.1 ∧ RelV p.2 q.2

/-- a key of a dict (00_mix): an int or a text -/
def kV : Key → V
  | .inl i => .int i
  | .inr x => .str x

/-- what stands at a tracked address -/
inductive HO where
  /-- a list -/
  | lst (xs : List V)
  /-- a tuple (never changes) -/
  | tup (xs : List V)
  /-- a dict whose keys are ints and texts; one whose keys are tuples of ints and texts (the empty one is both) -/
  | dK (kvs : List (Key × V)) | dT (kvs : List (List Key × V))
  /-- a set of ints: its members, its size -/
  | set (S : Int → Bool) (n : Nat)
  /-- an instance of the class at C, its dict at dx, its attributes -/
  | ins (C dx : Addr) (fs : List (Str × V))
  /-- the dict of the instance at x -/
  | own (x : Addr)
  /-- the dict of an exception -/
  | xd (fs : List (Str × V))
  /-- a bound method, f of x -/
  | met (f x : Addr)
  /-- a range object lo, lo + 1, .. below hi -/
  | rng (lo hi : Int)
  /-- a thing that is known to the object (the script; a dict while a loop walks it): read, never written while it is so -/
  | frz (o : Obj) (u : HO)
  /-- a code object's table -/
  | tbl (ps : Array Value)
  /-- any other thing, by what is true of its one object (a def of one's own: SetO a S n := HO.ext fun h => ..) -/
  | ext (φ : Heap → Prop)

abbrev Hp := Addr → Option HO
def upd (H : Hp) (a : Addr) (o : HO) : Hp := fun b => if b = a then some o else H b
theorem upd_same {H : Hp} {a : Addr} {o : HO} : upd H a o a = some o := by unfold upd; rw [if_pos rfl]
theorem upd_ne {H : Hp} {a b : Addr} {o : HO} (h : b ≠ a) : upd H a o b = H b := by unfold upd; rw [if_neg h]
theorem upd_upd {H : Hp} {a : Addr} {o u : HO} : upd (upd H a o) a u = upd H a u := by
  funext b; unfold upd; split <;> rfl
/-- two objects of different content stand apart -/
theorem ne_of {H : Hp} {a b : Addr} {o u : HO} (h : H a = some o) (h' : H b = some u) (d : o ≠ u) : a ≠ b := by
  intro e; subst e; rw [h] at h'; exact d (Option.some.inj h')
theorem ne_of_none {H : Hp} {a b : Addr} {o : HO} (h : H a = some o) (h' : H b = none) : a ≠ b := by
  intro e; subst e; rw [h] at h'; cases h'

section
variable (P : Program) (w : World)
def ObjOk (H : Hp) (h : Heap) (a : Addr) : HO → Prop
  | .lst xs => xs.length ≤ sizeLine ∧ ∃ (its : List Value) (n : Nat), Vals xs its ∧ h.get? a = some { cls := .type "list", data := .seq its.toArray n }
  | .tup xs => xs.length ≤ sizeLine ∧ ∃ its : List Value, Vals xs its ∧ IsTup h a its.toArray
  | .dK kvs => kvs.length ≤ sizeLine ∧ (a == sysModules) = false ∧ ∃ vs, KV kvs vs ∧ h.DictOf (mixKind P w) a vs
  | .dT kvs => kvs.length ≤ sizeLine ∧ (a == sysModules) = false ∧ ∃ xs : List (List Key × Addr × Value),
      Paired (fun (p : List Key × V) (q : List Key × Addr × Value) => p.1 = q.1 ∧ H q.2.1 = some (.tup (p.1.map kV)) ∧ RelV p.2 q.2.2) kvs xs ∧
      ∃ o es ep, h.get? a = some o ∧ o.ExactDict ∧ o.data = .dict es ep ∧ es.toList = xs.map (entryOfKey (tupleKind (mixKind P w))) ∧ (xs.map (·.1)).Nodup
  | .set S n => h.SetOf (intKind P w) a S n
  | .ins C dx fs => H dx = some (.own a) ∧ fs.length ≤ 1000 ∧ dx ≠ a ∧ h.get? a = some (PySem.W.instObj C dx) ∧
      ∃ mA, h.Ns1 dx mA ∧ (∀ f, RelO (fs.lookup f) (mA f)) ∧ PySem.Within mA (fs.map (·.1))
  | .own _ => ∃ o, h.get? a = some o
  | .xd fs => ∃ mA, h.Ns1 a mA ∧ ∀ f, RelO (fs.lookup f) (mA f)
  | .rng lo hi => ∃ t u v, h.get? a = some { cls := .type "range", data := .fields #[.int lo t, .int hi u, .int 1 v] }
  | .frz o u => h.get? a = some o ∧ ObjOk H h a u
  | .tbl ps => h.get? a = some { cls := .none, data := .fields ps }
  | .met f x => h.get? a = some (PySem.W.methodObj (.ref f) (.ref x))
  | .ext φ => φ h ∧ (∃ o, h.get? a = some o) ∧ ∀ h1 h2 : Heap, φ h1 → (∀ o, h1.get? a = some o → h2.get? a = some o) → φ h2
/-- the abstract heap is held -/
def HOk (H : Hp) (h : Heap) : Prop := ∀ a o, H a = some o → ObjOk P w H h a o
end

section
variable {P : Program} {w : World} {H H' : Hp} {h h' : Heap} {a : Addr} {o : HO}
theorem ObjOk.lt (x : ObjOk P w H h a o) : a < h.objs.size := by
  cases o with
  | lst xs => obtain ⟨_, _, _, _, e⟩ := x; exact Heap.lt_size e
  | tup xs => obtain ⟨_, _, _, p⟩ := x; exact p.lt
  | dK kvs => obtain ⟨_, _, _, _, o, _, _, e, _⟩ := x; exact Heap.lt_size e
  | dT kvs => obtain ⟨_, _, _, _, o, _, _, e, _⟩ := x; exact Heap.lt_size e
  | set S n => obtain ⟨o, _, _, _, e, _⟩ := x; exact Heap.lt_size e
  | ins C dx fs => obtain ⟨_, _, _, e, _⟩ := x; exact Heap.lt_size e
  | own y => obtain ⟨_, e⟩ := x; exact Heap.lt_size e
  | xd fs => obtain ⟨_, ⟨_, _, _, e, _⟩, _⟩ := x; exact Heap.lt_size e
  | rng lo hi => obtain ⟨_, _, _, e⟩ := x; exact Heap.lt_size e
  | frz ob u => obtain ⟨e, _⟩ := x; exact Heap.lt_size e
  | tbl ps => exact Heap.lt_size (show h.get? a = some _ from x)
  | met f y => exact Heap.lt_size (show h.get? a = some _ from x)
  | ext φ => obtain ⟨_, ⟨_, e⟩, _⟩ := x; exact Heap.lt_size e
theorem Paired.mapP {α β : Type} {F G : α → β → Prop} : ∀ {l₁ : List α} {l₂ : List β}, Paired F l₁ l₂ → (∀ a b, F a b → G a b) → Paired G l₁ l₂
  | _, _, .nil, _ => .nil
  | _, _, .cons r t, f => .cons (f _ _ r) (Paired.mapP t f)
theorem Paired.imp' {α β : Type} {F G : α → β → Prop} (f : ∀ a b, F a b → G a b) {l₁ : List α} {l₂ : List β} (r : Paired F l₁ l₂) : Paired G l₁ l₂ := Paired.mapP r f
/-- what an object's description leans on: its own object, its own dict, the tuples -/
theorem ObjOk.stay (x : ObjOk P w H h a o) (k : ∀ b u, (b = a ∨ H b = some (.own a)) → h.get? b = some u → h'.get? b = some u)
    (ho : ∀ b, H b = some (.own a) → H' b = some (.own a)) (ht : ∀ b xs, H b = some (.tup xs) → H' b = some (.tup xs)) : ObjOk P w H' h' a o := by
  induction o with
  | lst xs => obtain ⟨z, its, n, r, e⟩ := x; exact ⟨z, its, n, r, k _ _ (.inl rfl) e⟩
  | tup xs => obtain ⟨z, its, r, ob, e, c⟩ := x; exact ⟨z, its, r, ob, k _ _ (.inl rfl) e, c⟩
  | dK kvs => obtain ⟨z, y, vs, r, ob, es, ep, e, c⟩ := x; exact ⟨z, y, vs, r, ob, es, ep, k _ _ (.inl rfl) e, c⟩
  | dT kvs =>
    obtain ⟨z, y, xs, r, ob, es, ep, e, c⟩ := x
    exact ⟨z, y, xs, Paired.mapP r fun p q z => ⟨z.1, ht _ _ z.2.1, z.2.2⟩, ob, es, ep, k _ _ (.inl rfl) e, c⟩
  | set S n => obtain ⟨ob, es, ep, t, e, c⟩ := x; exact ⟨ob, es, ep, t, k _ _ (.inl rfl) e, c⟩
  | ins C dx fs =>
    obtain ⟨d, z, ne, e, mA, ⟨od, es, ep, e2, c⟩, r⟩ := x
    exact ⟨ho _ d, z, ne, k _ _ (.inl rfl) e, mA, ⟨od, es, ep, k _ _ (.inr d) e2, c⟩, r⟩
  | own y => obtain ⟨ob, e⟩ := x; exact ⟨ob, k _ _ (.inl rfl) e⟩
  | xd fs => obtain ⟨mA, ⟨od, es, ep, e, c⟩, r⟩ := x; exact ⟨mA, ⟨od, es, ep, k _ _ (.inl rfl) e, c⟩, r⟩
  | rng lo hi => obtain ⟨t, u, v, e⟩ := x; exact ⟨t, u, v, k _ _ (.inl rfl) e⟩
  | frz ob u ih => obtain ⟨e, q⟩ := x; exact ⟨k _ _ (.inl rfl) e, ih q⟩
  | tbl ps =>
    have e : h.get? a = some { cls := .none, data := .fields ps } := x
    show h'.get? a = some { cls := .none, data := .fields ps }
    exact k a _ (.inl rfl) e
  | met f y =>
    have e : h.get? a = some (PySem.W.methodObj (.ref f) (.ref y)) := x
    show h'.get? a = some (PySem.W.methodObj (.ref f) (.ref y))
    exact k a _ (.inl rfl) e
  | ext φ => obtain ⟨p, ⟨o, e⟩, st⟩ := x; exact ⟨st _ _ p fun o q => k _ _ (.inl rfl) q, ⟨o, k _ _ (.inl rfl) e⟩, st⟩
theorem HOk.lt (x : HOk P w H h) (e : H a = some o) : a < h.objs.size := (x a o e).lt
theorem HOk.fresh (x : HOk P w H h) (e : h.objs.size ≤ a) : H a = none := by
  cases q : H a with
  | none => rfl
  | some u => exact absurd (Nat.lt_of_lt_of_le (x.lt q) e) (Nat.lt_irrefl _)
/-- every object of the heap is kept -/
theorem HOk.kept (x : HOk P w H h) (k : ∀ b u, h.get? b = some u → h'.get? b = some u) : HOk P w H h' := fun a o e =>
  (x a o e).stay (fun b u _ q => k b u q) (fun _ q => q) fun _ _ q => q
/-- a new object is laid and tracked -/
theorem HOk.laid (x : HOk P w H h) (k : ∀ b u, h.get? b = some u → h'.get? b = some u) (hp : h.objs.size ≤ a) (new : ObjOk P w (upd H a o) h' a o) : HOk P w (upd H a o) h' := fun b u e => by
  have hn := x.fresh hp
  by_cases hb : b = a
  · subst hb; rw [upd_same] at e; cases e; exact new
  · rw [upd_ne hb] at e
    exact (x b u e).stay (fun c v _ q => k c v q) (fun c q => by rw [upd_ne (ne_of_none q hn)]; exact q) fun c xs q => by rw [upd_ne (ne_of_none q hn)]; exact q
end

/-- what may be read as u: it is u, or a known u -/
def Rd (H : Hp) (a : Addr) (u : HO) : Prop := H a = some u ∨ ∃ o, H a = some (.frz o u)
theorem Rd.of {H : Hp} {a : Addr} {u : HO} (h : H a = some u) : Rd H a u := .inl h
theorem Rd.ok {P : Program} {w : World} {H : Hp} {h : Heap} {a : Addr} {u : HO} (r : Rd H a u) (x : HOk P w H h) : ObjOk P w H h a u := by
  rcases r with r | ⟨o, r⟩
  · exact x a u r
  · obtain ⟨_, q⟩ := x a _ r
    exact q
/-- what may be written -/
def Mut : Option HO → Prop
  | some (.lst _) => True
  | some (.dK _) => True
  | some (.dT _) => True
  | some (.set _ _) => True
  | some (.ins _ _ _) => True
  | some (.ext _) => True
  | _ => False
section
variable {P : Program} {w : World} {H : Hp} {h h' : Heap} {x e : Addr} {o' : HO}
/-- the object at e is changed: x itself, or the dict of the instance x -/
theorem HOk.write (ok : HOk P w H h) (mu : Mut (H x)) (he : e = x ∨ H e = some (.own x)) (k : ∀ b u, b ≠ e → h.get? b = some u → h'.get? b = some u) (heo : ∃ u, h'.get? e = some u)
    (new : ObjOk P w (upd H x o') h' x o') : HOk P w (upd H x o') h' := fun b u q => by
  have nown : ∀ c y, H c = some (.own y) → c ≠ x := fun c y r z => by subst z; rw [r] at mu; exact mu
  have ntup : ∀ c xs, H c = some (.tup xs) → c ≠ x := fun c xs r z => by subst z; rw [r] at mu; exact mu
  by_cases hb : b = x
  · subst hb; rw [upd_same] at q; cases q; exact new
  · rw [upd_ne hb] at q
    by_cases hbe : b = e
    · have q' : H b = some (.own x) := by
        rcases he with z | z
        · exact absurd (hbe.trans z) hb
        · rw [hbe]; exact z
      rw [q] at q'; cases q'
      obtain ⟨v, hv⟩ := heo
      exact ⟨v, by rw [hbe]; exact hv⟩
    · refine (ok b u q).stay (fun c v hc r => k c v ?_ r) (fun c r => by rw [upd_ne (nown c b r)]; exact r) fun c xs r => by rw [upd_ne (ntup c xs r)]; exact r
      rcases hc with rfl | hc
      · exact hbe
      · rintro rfl
        rcases he with z | z
        · exact nown c b hc z
        · rw [hc] at z; cases z; exact hb rfl
end

/-! ### kept unless tracked; of the frames at fs (the callers') the slots may change (an exception that passes writes there); of the records at ex (iterators) nothing is said -/
structure Un (fs ex : List Addr) (H H' : Hp) (h h' : Heap) : Prop where
  keep : ∀ b o, h.get? b = some o → H b = none → b ∉ fs → b ∉ ex → h'.get? b = some o
  slot : ∀ b o, h.get? b = some o → H b = none → b ∈ fs → b ∉ ex → ∃ sl, h'.get? b = some { o with slots := sl }
  free : ∀ b o, h.get? b = some o → H b = none → b ∉ ex → H' b = none
  there : ∀ b o, h.get? b = some o → b ∉ ex → ∃ o', h'.get? b = some o'
  tups : ∀ b xs, H b = some (.tup xs) → H' b = some (.tup xs)
  frzs : ∀ b o u, H b = some (.frz o u) → H' b = some (.frz o u)
  tbls : ∀ b ps, H b = some (.tbl ps) → ∃ more, H' b = some (.tbl (ps ++ more))
section
variable {fs fs' ex ex' : List Addr} {H H1 H2 : Hp} {h h1 h2 h' : Heap} {a x e : Addr} {o : HO}
theorem Un.any (u : Un fs ex H H1 h h1) {b : Addr} {ob : Obj} (q : h.get? b = some ob) (n : H b = none) (hx : b ∉ ex) : ∃ sl, h1.get? b = some { ob with slots := sl } := by
  by_cases hb : b ∈ fs
  · exact u.slot b ob q n hb hx
  · exact ⟨ob.slots, u.keep b ob q n hb hx⟩
theorem Un.trans (a : Un fs ex H H1 h h1) (b : Un fs ex H1 H2 h1 h2) : Un fs ex H H2 h h2 where
  keep := fun c ob q n hc hx => b.keep c ob (a.keep c ob q n hc hx) (a.free c ob q n hx) hc hx
  slot := fun c ob q n hc hx => by
    obtain ⟨sl, e1⟩ := a.slot c ob q n hc hx
    obtain ⟨sl', e2⟩ := b.slot c _ e1 (a.free c ob q n hx) hc hx
    exact ⟨sl', e2⟩
  free := fun c ob q n hx => by
    obtain ⟨o', e1⟩ := a.there c ob q hx
    exact b.free c o' e1 (a.free c ob q n hx) hx
  there := fun c ob q hx => by
    obtain ⟨o', e1⟩ := a.there c ob q hx
    exact b.there c o' e1 hx
  tups := fun c xs q => b.tups c xs (a.tups c xs q)
  frzs := fun c ob xs q => b.frzs c ob xs (a.frzs c ob xs q)
  tbls := fun c ps q => by
    obtain ⟨m1, e1⟩ := a.tbls c ps q
    obtain ⟨m2, e2⟩ := b.tbls c _ e1
    exact ⟨m1 ++ m2, by rw [e2, Array.append_assoc]⟩
theorem Un.kept (k : ∀ b u, h.get? b = some u → h'.get? b = some u) : Un fs ex H H h h' :=
  ⟨fun b ob q _ _ _ => k b ob q, fun b ob q _ _ _ => ⟨ob.slots, k b ob q⟩, fun _ _ _ n _ => n, fun b ob q _ => ⟨ob, k b ob q⟩, fun _ _ q => q, fun _ _ _ q => q, fun _ ps q => ⟨#[], by rw [q]; simp⟩⟩
theorem Un.refl : Un fs ex H H h h := Un.kept fun _ _ q => q
theorem Un.laid (k : ∀ b u, h.get? b = some u → h'.get? b = some u) (hp : h.objs.size ≤ a) (hn : H a = none) : Un fs ex H (upd H a o) h h' where
  keep := fun b u q _ _ _ => k b u q
  slot := fun b u q _ _ _ => ⟨u.slots, k b u q⟩
  free := fun b u q n _ => by rw [upd_ne (Nat.ne_of_lt (Nat.lt_of_lt_of_le (Heap.lt_size q) hp))]; exact n
  there := fun b u q _ => ⟨u, k b u q⟩
  tups := fun b xs q => by rw [upd_ne (ne_of_none q hn)]; exact q
  frzs := fun b u xs q => by rw [upd_ne (ne_of_none q hn)]; exact q
  tbls := fun b ps q => ⟨#[], by rw [upd_ne (ne_of_none q hn), q]; simp⟩
theorem Un.write (mu : Mut (H x)) (he : e = x ∨ H e = some (.own x)) (k : ∀ b u, b ≠ e → h.get? b = some u → h'.get? b = some u) (heo : ∃ u, h'.get? e = some u) : Un fs ex H (upd H x o) h h' := by
  have hx : ∀ b, H b = none → b ≠ x := fun b n z => by subst z; rw [n] at mu; exact mu
  have hb : ∀ b, H b = none → b ≠ e := fun b n z => by
    subst z
    rcases he with r | r
    · exact hx b n r
    · rw [n] at r; cases r
  have hm : ∀ b u, H b = some u → ¬ Mut (some u) → b ≠ x := fun b u q nm z => by subst z; rw [q] at mu; exact nm mu
  refine ⟨fun b u q n _ _ => k b u (hb b n) q, fun b u q n _ _ => ⟨u.slots, k b u (hb b n) q⟩, fun b u q n _ => by rw [upd_ne (hx b n)]; exact n, fun b u q _ => ?_,
    fun b xs q => by rw [upd_ne (hm b _ q fun z => z)]; exact q, fun b u xs q => by rw [upd_ne (hm b _ q fun z => z)]; exact q, fun b ps q => ⟨#[], by rw [upd_ne (hm b _ q fun z => z), q]; simp⟩⟩
  by_cases hbe : b = e
  · subst hbe; exact heo
  · exact ⟨u, k b u hbe q⟩
theorem Un.mono (u : Un fs ex H H1 h h1) (hs : ∀ b ∈ fs, b ∈ fs') (hx : ∀ b ∈ ex, b ∈ ex') : Un fs' ex' H H1 h h1 :=
  ⟨fun b ob q n hb he => u.keep b ob q n (fun z => hb (hs b z)) fun z => he (hx b z), fun _ _ q n _ he => u.any q n fun z => he (hx _ z), fun b ob q n he => u.free b ob q n fun z => he (hx b z), fun b ob q he => u.there b ob q fun z => he (hx b z), u.tups, u.frzs, u.tbls⟩
end

/-! ### the heap without what is tracked -/
def trk (h : Heap) (H : Hp) : List Addr := (List.range h.objs.size).filter fun a => (H a).isSome
def hidT (h : Heap) (H : Hp) : Heap := PySem.W.hideAll h (trk h H)
theorem hidT_size (h : Heap) (H : Hp) : (hidT h H).objs.size = h.objs.size := PySem.W.hideAll_size _ _
theorem hidT_get {h : Heap} {H : Hp} {b : Addr} {o : Obj} (e : h.get? b = some o) (n : H b = none) : (hidT h H).get? b = some o :=
  PySem.W.hideAll_get _ e fun hm => by
    have q : (H b).isSome = true := (List.mem_filter.mp hm).2
    rw [n] at q; simp at q
theorem of_hidT {h : Heap} {H : Hp} {b : Addr} {o : Obj} (e : (hidT h H).get? b = some o) : h.get? b = some o ∧ H b = none := by
  have e' : h.get? b = some o := PySem.W.of_hideAll (trk h H) e
  refine ⟨e', ?_⟩
  cases q : H b with
  | none => rfl
  | some x =>
    have hm : b ∈ trk h H := List.mem_filter.mpr ⟨List.mem_range.mpr (Heap.lt_size e'), by simp [q]⟩
    have z : (hidT h H).get? b = none := PySem.W.hideAll_none (trk h H) hm
    rw [z] at e; cases e

/-! ### OpenK's ledger, filled with every new object but one -/
def allNews (g h : Heap) (L : Addr) : List (Addr × Obj) := (List.range h.objs.size).filterMap fun a => if a = L ∨ (g.get? a).isSome = true then none else (h.get? a).map fun o => (a, o)
theorem mem_allNews {g h : Heap} {L a : Addr} {o : Obj} (h1 : a ≠ L) (h2 : g.get? a = none) (h3 : h.get? a = some o) : (a, o) ∈ allNews g h L :=
  List.mem_filterMap.mpr ⟨a, List.mem_range.mpr (Heap.lt_size h3), by simp [h1, h2, h3]⟩
theorem of_mem_allNews {g h : Heap} {L : Addr} {p : Addr × Obj} (hp : p ∈ allNews g h L) : p.1 ≠ L ∧ g.get? p.1 = none ∧ h.get? p.1 = some p.2 := by
  obtain ⟨b, _, e⟩ := List.mem_filterMap.mp hp
  split at e
  · cases e
  · rename_i hn
    cases q : h.get? b with
    | none => rw [q] at e; simp at e
    | some u =>
      rw [q] at e
      simp only [Option.map_some, Option.some.injEq] at e
      subst e
      refine ⟨fun z => hn (.inl z), ?_, q⟩
      show g.get? b = none
      cases r : g.get? b with
      | none => rfl
      | some v => exact (hn (.inr (by simp [r]))).elim
def rest (g h : Heap) (L d : Addr) : List (Addr × Obj) := (allNews g h L).filter fun p => decide (p.1 ≠ d)
theorem rest_ne {g h : Heap} {L d : Addr} : ∀ p ∈ rest g h L d, p.1 ≠ d := fun p hp => of_decide_eq_true (List.mem_filter.mp hp).2
theorem mem_rest {g h : Heap} {L d a : Addr} {o : Obj} (h1 : a ≠ L) (h2 : g.get? a = none) (h3 : h.get? a = some o) (h4 : a ≠ d) : (a, o) ∈ rest g h L d :=
  List.mem_filter.mpr ⟨mem_allNews h1 h2 h3, decide_eq_true h4⟩
theorem news_all {g h : Heap} {L : Addr} : News g L h (allNews g h L) := fun p hp => let ⟨a, b, c⟩ := of_mem_allNews hp; ⟨c, a, b⟩
theorem news_at {g h : Heap} {L d : Addr} {o : Obj} (h1 : d ≠ L) (h2 : g.get? d = none) (h3 : h.get? d = some o) : News g L h ((d, o) :: rest g h L d) := fun p hp => by
  rcases List.mem_cons.mp hp with rfl | hp
  · exact ⟨h3, h1, h2⟩
  · exact news_all p (List.mem_filter.mp hp).1
/-- behind a rule that changed d alone: all else but the frame is kept -/
theorem kept_of_news {g h h' : Heap} {L d : Addr} {m : Str → Option Value} (k : ∀ b o, g.get? b = some o → h.get? b = some o) (F : Fr g L h' m) (N : News g L h' (rest g h L d)) :
    ∀ b o, b ≠ L → b ≠ d → h.get? b = some o → h'.get? b = some o := fun b o h1 h2 e => by
  cases q : g.get? b with
  | some u =>
    have := k b u q
    rw [e] at this; cases this
    exact F.keep b _ q
  | none => exact (N (b, o) (mem_rest h1 q e h2)).1
end L2

namespace L2
open PySem PySem.Spec PyProof.Rows

/-- the module's facts, over the base: the heap at the law's entry without what is tracked there -/
structure Mod (K : PySem.W.Frag) (mg : Str → Option Value) (base : Heap) : Prop where
  kin : K.In base
  glob : base.Ns mainGlobals mg
  blt : ∃ mb, base.Ns builtinsNs mb ∧ ∀ x : Str, x ≠ "__name__" → mb x = bootBuiltins x
  nolimit : base.NoLimit

/-- the context: a def's body (or a comprehension's block) running. base: fixed through the whole law; s₀, H₀: the entry; outer: the frames whose slots others may change (a def's callers); stack: all frames that run;
   ex: iterators that were made ahead of the entry and are walked here (a comprehension's); fn: the names whose cells were made at the entry (a def: all; a comprehension's block: its own); calm: not within an except suite; pn: pins that every state bears; xe: what is wanted of an exception that leaves the code -/
structure Cx where
  prog : Program
  w : World
  K : PySem.W.Frag
  mg : Str → Option Value
  base : Heap
  A : Around
  N : List Str
  s₀ : Shared
  H₀ : Hp
  env : Env
  outer : List Env
  stack : List Env
  ex : List Addr
  fn : Str → Bool
  calm : Bool
  pn : List (Addr × Obj)
  xe : Value → Shared → Prop
/-- the callers' frames -/
def frs (l : List Env) : List Addr := l.filterMap (·.frame)
abbrev Cx.fs (X : Cx) : List Addr := frs X.outer

def Vis (sc : Scope) (x : Str) : Prop := sc.names.lookup x = some .local ∨ sc.names.lookup x = some .cell ∨ sc.names.lookup x = some .free
def Loc (sc : Scope) (x : Str) : Prop := sc.names.lookup x = some .local ∨ sc.names.lookup x = some .cell
def Look (env : Env) (h : Heap) (m : Str → Option Value) (x : Str) (u : Value) : Prop :=
  (env.kindOf x = some .local ∧ m x = some u) ∨ ((env.kindOf x = some .cell ∨ env.kindOf x = some .free) ∧ ∃ c, env.cells.lookup x = some c ∧ h.IsCell c (some u))

structure Cx.Ok (X : Cx) : Prop where
  mod : Mod X.K X.mg X.base
  kind : X.env.scope.kind = .function
  glob : X.env.globals = mainGlobals
  blt : X.env.builtins = builtinsNs
  above : X.s₀.heap.objs.size ≤ X.env.locals
  inj : ∀ x y c, X.env.cells.lookup x = some c → X.env.cells.lookup y = some c → x = y
  has : ∀ x, (X.env.kindOf x = some .cell ∨ X.env.kindOf x = some .free) → ∃ c, X.env.cells.lookup x = some c
  cab : ∀ x c, X.fn x = true → X.env.cells.lookup x = some c → X.s₀.heap.objs.size ≤ c
  hd : X.calm = true → X.A.handled = none
  frames : X.A.frames = some X.stack
  stk : X.stack = X.outer ∨ (X.stack = X.env :: X.outer ∧ X.env.frame = some X.env.locals)
  exf : ∀ b ∈ X.ex, b ≠ X.env.locals ∧ ∀ x c, X.env.cells.lookup x = some c → c ≠ b
  bs : ∀ b o, X.base.get? b = some o → X.s₀.heap.get? b = some o ∧ X.H₀ b = none
  bsz : X.base.objs.size ≤ X.s₀.heap.objs.size
  noex : ∀ b o, X.base.get? b = some o → b ∉ X.ex
  exfs : ∀ b ∈ X.ex, b ∉ X.fs
  funs : X.s₀.heap.FunFrames X.base X.outer
  frf : ∀ b ∈ X.fs, X.H₀ b = none

structure Inv (X : Cx) (pins : List (Addr × Obj)) (σ : List (Option V)) (H : Hp) (s : Shared) : Prop where
  ok : X.Ok
  os : s.os = X.s₀.os
  bare : AllBare s.gens
  base : Un X.fs X.ex X.H₀ H X.s₀.heap s.heap
  loc : ∃ m, s.heap.Ns X.env.locals m ∧ ∀ (i : Nat) (x : Str) (v : V), X.N[i]? = some x → σ[i]? = some (some v) → Vis X.env.scope x → ∃ u, RelV v u ∧ Look X.env s.heap m x u
  cell : ∀ x c, X.env.cells.lookup x = some c → ∃ v, s.heap.IsCell c v
  free : H X.env.locals = none
  freeC : ∀ x c, X.env.cells.lookup x = some c → H c = none
  pin : ∀ p ∈ X.pn ++ pins, s.heap.get? p.1 = some p.2 ∧ H p.1 = none ∧ p.1 ≠ X.env.locals ∧ p.1 ∉ X.fs ∧ ∀ v, p.2.data ≠ .cell v
  hok : HOk X.prog X.w H s.heap
  len : σ.length = X.N.length

section
variable {X : Cx} {pins : List (Addr × Obj)} {σ : List (Option V)} {H H' : Hp} {s : Shared} {h' : Heap}

theorem Cx.Ok.nofr (ok : X.Ok) {b : Addr} {o : Obj} (e : X.base.get? b = some o) : b ∉ X.fs := fun hb => by
  have := (ok.funs.mem hb).1
  rw [e] at this; cases this
theorem Inv.bs (I : Inv X pins σ H s) : ∀ b o, X.base.get? b = some o → s.heap.get? b = some o ∧ H b = none := fun b o e =>
  ⟨I.base.keep b o (I.ok.bs b o e).1 (I.ok.bs b o e).2 (I.ok.nofr e) (I.ok.noex b o e), I.base.free b o (I.ok.bs b o e).1 (I.ok.bs b o e).2 (I.ok.noex b o e)⟩
theorem Inv.bk (I : Inv X pins σ H s) : ∀ b o, X.base.get? b = some o → s.heap.get? b = some o := fun b o e => (I.bs b o e).1
theorem Inv.mod (I : Inv X pins σ H s) : Mod X.K X.mg X.base := I.ok.mod
theorem Inv.kIn (I : Inv X pins σ H s) : X.K.In s.heap := I.ok.mod.kin.keeps I.bk
theorem Inv.nolimit (I : Inv X pins σ H s) : s.heap.NoLimit := I.ok.mod.nolimit.keeps I.bk
/-- the frame over the base: for OpenK's rules (K.In X.base is I.mod.kin) -/
theorem Inv.fr (I : Inv X pins σ H s) : ∃ m, Fr X.base X.env.locals s.heap m :=
  let ⟨m, hn, _⟩ := I.loc
  ⟨m, hn, I.bk, Nat.le_trans I.ok.bsz I.ok.above⟩
theorem Inv.lt (I : Inv X pins σ H s) : X.env.locals < s.heap.objs.size := let ⟨_, hn, _⟩ := I.loc; hn.lt
theorem Inv.sz (I : Inv X pins σ H s) : X.s₀.heap.objs.size ≤ s.heap.objs.size := Nat.le_trans I.ok.above (Nat.le_of_lt I.lt)
theorem Inv.nofs (I : Inv X pins σ H s) {a : Addr} (h : s.heap.objs.size ≤ a) : a ∉ X.fs := fun hb => by
  obtain ⟨_, o, ho, _⟩ := I.ok.funs.mem hb
  exact absurd (Nat.lt_of_lt_of_le (Heap.lt_size ho) (Nat.le_trans I.sz h)) (Nat.lt_irrefl _)
theorem Inv.cne (I : Inv X pins σ H s) : ∀ x c, X.env.cells.lookup x = some c → c ≠ X.env.locals := fun x c e z => by
  obtain ⟨v, o, ho, hd⟩ := I.cell x c e
  obtain ⟨m, ⟨o', es, ep, ho', hd', _⟩, _⟩ := I.loc
  rw [z, ho'] at ho; cases ho; rw [hd'] at hd; cases hd
theorem Inv.funs (I : Inv X pins σ H s) : s.heap.FunFrames X.base X.outer := by
  have all : ∀ (l : List Env), (∀ b ∈ frs l, b ∈ X.fs) → X.s₀.heap.FunFrames X.base l → s.heap.FunFrames X.base l := by
    intro l
    induction l with
    | nil => intro _ _; trivial
    | cons env r ih =>
      intro hs hl
      obtain ⟨hk, ⟨L, o, hf, hn, ho, hd⟩, hr⟩ := hl
      have hL : L ∈ X.fs := hs L (by unfold frs; rw [List.filterMap_cons, hf]; exact List.mem_cons_self)
      obtain ⟨sl, e⟩ := I.base.slot L o ho (I.ok.frf L hL) hL fun z => I.ok.exfs L z hL
      exact ⟨hk, ⟨L, _, hf, hn, e, hd⟩, ih (fun b hb => hs b (by unfold frs; rw [List.filterMap_cons, hf]; exact List.mem_cons_of_mem _ hb)) hr⟩
  exact all X.outer (fun _ hb => hb) I.ok.funs

/-- the frames that run, for a call -/
theorem Inv.stack (I : Inv X pins σ H s) : s.heap.FunFrames X.base X.stack := by
  rcases I.ok.stk with e | ⟨e, hf⟩
  · rw [e]; exact I.funs
  · rw [e]
    obtain ⟨m, hn, _⟩ := I.loc
    refine .cons (by rw [I.ok.kind]; decide) hf hn ?_ I.funs
    exact Heap.get?_none_of_le (Nat.le_trans I.ok.bsz I.ok.above)
theorem Inv.stkSub (I : Inv X pins σ H s) : ∀ b ∈ frs X.stack, b ∈ X.env.locals :: X.fs := fun b hb => by
  rcases I.ok.stk with e | ⟨e, hf⟩
  · rw [e] at hb; exact List.mem_cons_of_mem _ hb
  · rw [e] at hb
    unfold frs at hb
    rw [List.filterMap_cons, hf] at hb
    exact hb
theorem Inv.stkFree (I : Inv X pins σ H s) : ∀ b ∈ frs X.stack, H b = none := fun b hb => by
  rcases List.mem_cons.mp (I.stkSub b hb) with e | hb
  · rw [e]; exact I.free
  · obtain ⟨_, o, ho, _⟩ := I.ok.funs.mem hb
    exact I.base.free b o ho (I.ok.frf b hb) fun z => I.ok.exfs b z hb

/-- THE STEP: the untracked objects but the frame and the records at ch are kept (the callers' frames up to slots), the frame's map is kept, the new abstract heap is held -/
theorem Inv.step {g' : Array GenState} {t' : Nat} {d' : Drawn} {ch : List Addr} (I : Inv X pins σ H s)
    (hch : ∀ b ∈ ch, (b ∈ X.ex ∨ X.s₀.heap.objs.size ≤ b) ∧ b ≠ X.env.locals ∧ (∀ x c, X.env.cells.lookup x = some c → c ≠ b) ∧ ∀ p ∈ X.pn ++ pins, p.1 ≠ b)
    (keep : ∀ b o, b ≠ X.env.locals → b ∉ X.fs → b ∉ ch → s.heap.get? b = some o → H b = none → h'.get? b = some o)
    (slot : ∀ b o, b ≠ X.env.locals → b ∈ X.fs → b ∉ ch → s.heap.get? b = some o → H b = none → ∃ sl, h'.get? b = some { o with slots := sl }) (free : ∀ b o, b ∉ ch → s.heap.get? b = some o → H b = none → H' b = none)
    (there : ∀ b o, b ∉ ch → s.heap.get? b = some o → ∃ o', h'.get? b = some o')
    (tups : ∀ b xs, H b = some (.tup xs) → H' b = some (.tup xs)) (frzs : ∀ b o u, H b = some (.frz o u) → H' b = some (.frz o u)) (tbls : ∀ b ps, H b = some (.tbl ps) → ∃ more, H' b = some (.tbl (ps ++ more)))
    (ns : ∀ m, s.heap.Ns X.env.locals m → h'.Ns X.env.locals m) (hok : HOk X.prog X.w H' h') (hg : AllBare g') :
    Inv X pins σ H' { s with heap := h', gens := g', drawn := d', toks := t' } := by
  have neL : ∀ b o, X.s₀.heap.get? b = some o → b ≠ X.env.locals := fun b o e => Nat.ne_of_lt (Nat.lt_of_lt_of_le (Heap.lt_size e) I.ok.above)
  have neC : ∀ b o, X.s₀.heap.get? b = some o → b ∉ X.ex → b ∉ ch := fun b o e hx hb => by
    rcases (hch b hb).1 with z | z
    · exact hx z
    · exact absurd (Nat.lt_of_lt_of_le (Heap.lt_size e) z) (Nat.lt_irrefl _)
  have cellK : ∀ x c, X.env.cells.lookup x = some c → ∀ v, s.heap.IsCell c v → h'.IsCell c v := fun x c e v ⟨o, ho, hd⟩ => by
    have nch : c ∉ ch := fun z => (hch c z).2.2.1 x c e rfl
    by_cases hc : c ∈ X.fs
    · obtain ⟨sl, q⟩ := slot c o (I.cne x c e) hc nch ho (I.freeC x c e)
      exact ⟨_, q, hd⟩
    · exact ⟨o, keep c o (I.cne x c e) hc nch ho (I.freeC x c e), hd⟩
  refine ⟨I.ok, I.os, hg, ⟨fun b o e n hb hx => ?_, fun b o e n hb hx => ?_, fun b o e n hx => ?_, fun b o e hx => ?_, fun b xs e => tups b xs (I.base.tups b xs e), fun b o xs e => frzs b o xs (I.base.frzs b o xs e), fun b ps e => ?_⟩, ?_, fun x c e => ?_, ?_, fun x c e => ?_, fun p hp => ?_, hok, I.len⟩
  · exact keep b o (neL b o e) hb (neC b o e hx) (I.base.keep b o e n hb hx) (I.base.free b o e n hx)
  · obtain ⟨sl, e1⟩ := I.base.slot b o e n hb hx
    obtain ⟨sl', e2⟩ := slot b _ (neL b o e) hb (neC b o e hx) e1 (I.base.free b o e n hx)
    exact ⟨sl', e2⟩
  · obtain ⟨o', e1⟩ := I.base.there b o e hx
    exact free b o' (neC b o e hx) e1 (I.base.free b o e n hx)
  · obtain ⟨o', e1⟩ := I.base.there b o e hx
    exact there b o' (neC b o e hx) e1
  · obtain ⟨m1, e1⟩ := I.base.tbls b ps e
    obtain ⟨m2, e2⟩ := tbls b _ e1
    exact ⟨m1 ++ m2, by rw [e2, Array.append_assoc]⟩
  · obtain ⟨m, hn, hl⟩ := I.loc
    refine ⟨m, ns m hn, fun i x v e1 e2 e3 => ?_⟩
    obtain ⟨u, r, l⟩ := hl i x v e1 e2 e3
    refine ⟨u, r, ?_⟩
    rcases l with l | ⟨k, c, e, z⟩
    · exact .inl l
    · exact .inr ⟨k, c, e, cellK x c e _ z⟩
  · obtain ⟨v, z⟩ := I.cell x c e
    exact ⟨v, cellK x c e v z⟩
  · obtain ⟨m, ⟨o, _, _, ho, _⟩, _⟩ := I.loc
    exact free _ o (fun z => (hch _ z).2.1 rfl) ho I.free
  · obtain ⟨v, o, ho, hd⟩ := I.cell x c e
    exact free c o (fun z => (hch c z).2.2.1 x c e rfl) ho (I.freeC x c e)
  · obtain ⟨e, n, ne, nf, d⟩ := I.pin p hp
    have nch : p.1 ∉ ch := fun z => (hch p.1 z).2.2.2 p hp rfl
    exact ⟨keep p.1 p.2 ne nf nch e n, free p.1 p.2 nch e n, ne, nf, d⟩
/-- .. where the frame's own object is kept too -/
theorem Inv.un {t' : Nat} (I : Inv X pins σ H s) (u : Un X.fs [] H H' s.heap h') (hok : HOk X.prog X.w H' h') : Inv X pins σ H' { s with heap := h', toks := t' } := by
  obtain ⟨m, ⟨o, es, ep, ho, r⟩, _⟩ := id I.loc
  obtain ⟨sl, hL⟩ := u.any ho I.free (by simp)
  exact I.step (g' := s.gens) (d' := s.drawn) (ch := []) (fun _ z => nomatch z) (fun b o _ hb _ e n => u.keep b o e n hb (by simp)) (fun b o _ hb _ e n => u.slot b o e n hb (by simp)) (fun b o _ e n => u.free b o e n (by simp)) (fun b o _ e => u.there b o e (by simp)) u.tups u.frzs u.tbls (fun m' hm => by
    obtain ⟨o', es', ep', ho', r'⟩ := hm
    rw [ho] at ho'; cases ho'
    exact ⟨_, es', ep', hL, r'⟩) hok I.bare
/-- behind a call (or a comprehension's block): the slots of this frame may have changed too, the records at ch may have turned -/
theorem Inv.call {g' : Array GenState} {t' : Nat} {d' : Drawn} {ch : List Addr} (I : Inv X pins σ H s) (u : Un (frs X.stack) ch H H' s.heap h') (hok : HOk X.prog X.w H' h') (hg : AllBare g')
    (hch : ∀ b ∈ ch, (b ∈ X.ex ∨ X.s₀.heap.objs.size ≤ b) ∧ b ≠ X.env.locals ∧ (∀ x c, X.env.cells.lookup x = some c → c ≠ b) ∧ ∀ p ∈ X.pn ++ pins, p.1 ≠ b) :
    Inv X pins σ H' { s with heap := h', gens := g', drawn := d', toks := t' } := by
  obtain ⟨m, ⟨o, es, ep, ho, r⟩, _⟩ := id I.loc
  obtain ⟨sl, hL⟩ := u.any ho I.free fun z => (hch _ z).2.1 rfl
  exact I.step (ch := ch) hch (fun b o hL hb hc e n => u.keep b o e n (fun z => (List.mem_cons.mp (I.stkSub b z)).elim hL hb) hc) (fun b o _ _ hc e n => u.any e n hc) (fun b o hc e n => u.free b o e n hc) (fun b o hc e => u.there b o e hc) u.tups u.frzs u.tbls (fun m' hm => by
    obtain ⟨o', es', ep', ho', r'⟩ := hm
    rw [ho] at ho'; cases ho'
    exact ⟨_, es', ep', hL, r'⟩) hok hg
/-- an untracked record of ours (an iterator) has turned -/
theorem Inv.turned {t' : Nat} {it : Addr} (I : Inv X pins σ H s) (k : ∀ b o, b ≠ it → s.heap.get? b = some o → h'.get? b = some o) (hn : H it = none) (hL : it ≠ X.env.locals)
    (h1 : it ∈ X.ex ∨ X.s₀.heap.objs.size ≤ it) (h2 : ∀ x c, X.env.cells.lookup x = some c → c ≠ it) (h3 : ∀ p ∈ X.pn ++ pins, p.1 ≠ it) : Inv X pins σ H { s with heap := h', toks := t' } := by
  have nit : ∀ b u, H b = some u → b ≠ it := fun b u e z => by rw [z, hn] at e; cases e
  refine I.step (g' := s.gens) (d' := s.drawn) (ch := [it]) (fun b hb => ?_) (fun b o _ _ hc e _ => k b o (fun z => hc (by simp [z])) e) (fun b o _ _ hc e _ => ⟨o.slots, k b o (fun z => hc (by simp [z])) e⟩) (fun _ _ _ _ n => n)
    (fun b o hc e => ⟨o, k b o (fun z => hc (by simp [z])) e⟩) (fun _ _ e => e) (fun _ _ _ e => e) (fun b ps e => ⟨#[], by rw [e]; simp⟩) (fun m hm => ?_) (fun b u e => ?_) I.bare
  · have e : b = it := by simpa using hb
    subst e
    exact ⟨h1, hL, h2, h3⟩
  · obtain ⟨o, es, ep, ho, r⟩ := hm
    exact ⟨o, es, ep, k _ o (Ne.symm hL) ho, r⟩
  · refine (I.hok b u e).stay (fun c v hc q => k c v ?_ q) (fun _ q => q) fun _ _ q => q
    rcases hc with z | z
    · rw [z]; exact nit b u e
    · exact nit c _ z
theorem Inv.tok (I : Inv X pins σ H s) (t : Nat) : Inv X pins σ H { s with toks := t } := I.un (h' := s.heap) (t' := t) Un.refl I.hok
/-- all objects kept -/
theorem Inv.kept {t' : Nat} (I : Inv X pins σ H s) (k : ∀ b u, s.heap.get? b = some u → h'.get? b = some u) : Inv X pins σ H { s with heap := h', toks := t' } := I.un (Un.kept k) (I.hok.kept k)
/-- a new object laid and tracked -/
theorem Inv.laid {a : Addr} {o : HO} {t' : Nat} (I : Inv X pins σ H s) (k : ∀ b u, s.heap.get? b = some u → h'.get? b = some u) (hp : s.heap.objs.size ≤ a) (new : ObjOk X.prog X.w (upd H a o) h' a o) :
    Inv X pins σ (upd H a o) { s with heap := h', toks := t' } := I.un (Un.laid k hp (I.hok.fresh hp)) (I.hok.laid k hp new)
/-- an object written -/
theorem Inv.write {x e : Addr} {o : HO} {t' : Nat} (I : Inv X pins σ H s) (mu : Mut (H x)) (he : e = x ∨ H e = some (.own x)) (k : ∀ b u, b ≠ e → s.heap.get? b = some u → h'.get? b = some u) (heo : ∃ u, h'.get? e = some u)
    (new : ObjOk X.prog X.w (upd H x o) h' x o) : Inv X pins σ (upd H x o) { s with heap := h', toks := t' } := I.un (Un.write mu he k heo) (I.hok.write mu he k heo new)
/-- forgetting slots, pins -/
theorem Inv.weak {σ' : List (Option V)} (I : Inv X pins σ H s) (hl : σ'.length = σ.length) (w : ∀ (i : Nat) v, σ'[i]? = some (some v) → σ[i]? = some (some v)) : Inv X pins σ' H s :=
  ⟨I.ok, I.os, I.bare, I.base, let ⟨m, hn, hl'⟩ := I.loc; ⟨m, hn, fun i x v e1 e2 e3 => hl' i x v e1 (w i v e2) e3⟩, I.cell, I.free, I.freeC, I.pin, I.hok, hl.trans I.len⟩
theorem Inv.pins_of {pins' : List (Addr × Obj)} (I : Inv X pins σ H s) (h : ∀ p ∈ pins', s.heap.get? p.1 = some p.2 ∧ H p.1 = none ∧ p.1 ≠ X.env.locals ∧ p.1 ∉ X.fs ∧ ∀ v, p.2.data ≠ .cell v) : Inv X pins' σ H s :=
  ⟨I.ok, I.os, I.bare, I.base, I.loc, I.cell, I.free, I.freeC, fun p hp => (List.mem_append.mp hp).elim (fun z => I.pin p (List.mem_append_left _ z)) (h p), I.hok, I.len⟩

theorem nodup_ix {N : List Str} (hN : N.Nodup) {i j : Nat} {x : Str} (a : N[i]? = some x) (b : N[j]? = some x) : i = j := by
  obtain ⟨h1, e1⟩ := List.getElem?_eq_some_iff.mp a
  obtain ⟨h2, e2⟩ := List.getElem?_eq_some_iff.mp b
  exact (List.getElem_inj hN).mp (e1.trans e2.symm)

/-- a name is stored; what changed -/
theorem store_ok2 {M : Model} {A : Around} {E : Value → Shared → Prop} {i : Nat} {x : Str} {v : V} {u : Value} {Q : Unit → Shared → Prop} (I : Inv X pins σ H s) (hN : X.N.Nodup) (hi : X.N[i]? = some x) (hx : Loc X.env.scope x) (r : RelV v u)
    (h : ∀ s', Inv X pins (σ.set i (some v)) H s' → (∃ a, Heap.SameBut a s.heap s'.heap ∧ (a = X.env.locals ∨ X.env.cells.lookup x = some a)) → Q () s') (hf : X.fn x = true ∨ X.env.scope.names.lookup x = some .local := by first | exact .inl rfl | exact .inr rfl | assumption) : wpAny M A (storeName X.env x u) Q E s := by
  obtain ⟨m, hn, hl⟩ := id I.loc
  have hcls : (X.env.scope.kind == .class || (X.env.scope.kind == .module && X.env.locals != X.env.globals)) = false := by rw [I.ok.kind]; rfl
  have hiσ : i < σ.length := by rw [I.len]; exact (List.getElem?_eq_some_iff.mp hi).1
  have cne := I.cne
  have tracked : ∀ {a : Addr} {h' : Heap}, (∃ o, s.heap.get? a = some o ∧ H a = none) → Heap.SameBut a s.heap h' → HOk X.prog X.w H h' := fun {a h'} ha hs b ob e => by
    obtain ⟨_, _, hfree⟩ := ha
    refine (I.hok b ob e).stay (fun c w' hc q => (hs.2 c ?_).trans q) (fun _ q => q) fun _ _ q => q
    rintro rfl
    rcases hc with rfl | hc
    · rw [hfree] at e; cases e
    · rw [hfree] at hc; cases hc
  rcases hx with hk | hk
  · refine wpAny_storeName_local hk hn (fun h' hn' hs => ?_) hcls
    obtain ⟨oL, _, _, hoL, _⟩ := id hn
    refine h _ ⟨I.ok, I.os, I.bare, ⟨fun b o e n hb hx => ?_, fun b o e n hb hx => ?_, I.base.free, fun b o e hx => ?_, I.base.tups, I.base.frzs, I.base.tbls⟩, ⟨_, hn', fun j y v' e1 e2 e3 => ?_⟩, fun y c e => ?_, I.free, I.freeC, fun p hp => ?_, tracked ⟨oL, hoL, I.free⟩ hs, by simpa using I.len⟩ ⟨_, hs, .inl rfl⟩
    · exact (hs.2 b (Nat.ne_of_lt (Nat.lt_of_lt_of_le (Heap.lt_size e) I.ok.above))).trans (I.base.keep b o e n hb hx)
    · obtain ⟨sl, e1⟩ := I.base.slot b o e n hb hx
      exact ⟨sl, (hs.2 b (Nat.ne_of_lt (Nat.lt_of_lt_of_le (Heap.lt_size e) I.ok.above))).trans e1⟩
    · obtain ⟨o', e1⟩ := I.base.there b o e hx
      exact ⟨o', (hs.2 b (Nat.ne_of_lt (Nat.lt_of_lt_of_le (Heap.lt_size e) I.ok.above))).trans e1⟩
    · by_cases hj : j = i
      · subst hj
        rw [hi] at e1; cases e1
        rw [List.getElem?_set_self hiσ] at e2
        cases e2
        exact ⟨u, r, .inl ⟨hk, by simp⟩⟩
      · rw [List.getElem?_set_ne (Ne.symm hj)] at e2
        obtain ⟨u', r', q⟩ := hl j y v' e1 e2 e3
        refine ⟨u', r', ?_⟩
        rcases q with ⟨k, e⟩ | ⟨k, c, e, z⟩
        · refine .inl ⟨k, ?_⟩
          have : y ≠ x := fun e => hj (nodup_ix hN e1 (e ▸ hi))
          simp [this, e]
        · exact .inr ⟨k, c, e, z.sameBut hs (cne y c e)⟩
    · obtain ⟨w', z⟩ := I.cell y c e
      exact ⟨w', z.sameBut hs (cne y c e)⟩
    · obtain ⟨e, n, ne, nf, d⟩ := I.pin p hp
      exact ⟨(hs.2 p.1 ne).trans e, n, ne, nf, d⟩
  · have hfn : X.fn x = true := by
      rcases hf with z | z
      · exact z
      · rw [z] at hk; cases hk
    obtain ⟨c, hc⟩ := I.ok.has x (.inl hk)
    obtain ⟨w', z⟩ := I.cell x c hc
    refine wpAny_storeName_cell I.ok.kind hk hc z (fun h' hc' hs => ?_)
    obtain ⟨oc, hoc, hocd⟩ := id z
    refine h { s with heap := h' } ⟨I.ok, I.os, I.bare, ⟨fun b o e n hb hx => ?_, fun b o e n hb hx => ?_, I.base.free, fun b o e hx => ?_, I.base.tups, I.base.frzs, I.base.tbls⟩, ⟨m, hn.sameBut hs (Ne.symm (cne x c hc)), fun j y v' e1 e2 e3 => ?_⟩, fun y c' e => ?_, I.free, I.freeC, fun p hp => ?_, tracked ⟨oc, hoc, I.freeC x c hc⟩ hs, by simpa using I.len⟩ ⟨c, hs, .inr hc⟩
    · exact (hs.2 b (Nat.ne_of_lt (Nat.lt_of_lt_of_le (Heap.lt_size e) (I.ok.cab x c hfn hc)))).trans (I.base.keep b o e n hb hx)
    · obtain ⟨sl, e1⟩ := I.base.slot b o e n hb hx
      exact ⟨sl, (hs.2 b (Nat.ne_of_lt (Nat.lt_of_lt_of_le (Heap.lt_size e) (I.ok.cab x c hfn hc)))).trans e1⟩
    · obtain ⟨o', e1⟩ := I.base.there b o e hx
      exact ⟨o', (hs.2 b (Nat.ne_of_lt (Nat.lt_of_lt_of_le (Heap.lt_size e) (I.ok.cab x c hfn hc)))).trans e1⟩
    · by_cases hj : j = i
      · subst hj
        rw [hi] at e1; cases e1
        rw [List.getElem?_set_self hiσ] at e2
        cases e2
        exact ⟨u, r, .inr ⟨.inl hk, c, hc, hc'⟩⟩
      · rw [List.getElem?_set_ne (Ne.symm hj)] at e2
        obtain ⟨u', r', q⟩ := hl j y v' e1 e2 e3
        refine ⟨u', r', ?_⟩
        rcases q with q | ⟨k, c', e, z'⟩
        · exact .inl q
        · refine .inr ⟨k, c', e, z'.sameBut hs ?_⟩
          rintro rfl
          exact hj (nodup_ix hN e1 (I.ok.inj _ _ _ e hc ▸ hi))
    · by_cases hcc : c' = c
      · subst hcc; exact ⟨_, hc'⟩
      · obtain ⟨w2, z2⟩ := I.cell y c' e
        exact ⟨w2, z2.sameBut hs hcc⟩
    · obtain ⟨e, n, ne, nf, d⟩ := I.pin p hp
      refine ⟨(hs.2 p.1 ?_).trans e, n, ne, nf, d⟩
      intro q
      rw [q, hoc] at e
      have q' : oc = p.2 := Option.some.inj e
      exact d w' (by rw [← q']; exact hocd)
theorem store_ok {M : Model} {A : Around} {E : Value → Shared → Prop} {i : Nat} {x : Str} {v : V} {u : Value} {Q : Unit → Shared → Prop} (I : Inv X pins σ H s) (hN : X.N.Nodup) (hi : X.N[i]? = some x) (hx : Loc X.env.scope x) (r : RelV v u)
    (h : ∀ s', Inv X pins (σ.set i (some v)) H s' → Q () s') (hf : X.fn x = true ∨ X.env.scope.names.lookup x = some .local := by first | exact .inl rfl | exact .inr rfl | assumption) : wpAny M A (storeName X.env x u) Q E s :=
  store_ok2 I hN hi hx r (fun s' I' _ => h s' I') hf
/-- behind a call or a block, the state as it is -/
theorem Inv.call' {s' : Shared} {ch : List Addr} (I : Inv X pins σ H s) (ho : s'.os = s.os) (u : Un (frs X.stack) ch H H' s.heap s'.heap) (hok : HOk X.prog X.w H' s'.heap) (hg : AllBare s'.gens)
    (hch : ∀ b ∈ ch, (b ∈ X.ex ∨ X.s₀.heap.objs.size ≤ b) ∧ b ≠ X.env.locals ∧ (∀ x c, X.env.cells.lookup x = some c → c ≠ b) ∧ ∀ p ∈ X.pn ++ pins, p.1 ≠ b) : Inv X pins σ H' s' := by
  obtain ⟨h', g', d', t', o'⟩ := s'
  have e : o' = s.os := ho
  subst e
  exact I.call (g' := g') (t' := t') (d' := d') u hok hg hch
end

/-! ### the judgements -/
/-- an exception: its class, its own dict's address (where it has one), the abstract heap behind it -/
abbrev XK := Value → Option Addr → Hp → Prop
abbrev St := List (Option V)
abbrev VK := V → Hp → Prop
/-- an expression's reading; a test's; an argument list's -/
abbrev TE := St → Hp → VK → Prop
abbrev TT := St → Hp → (Bool → Hp → Prop) → Prop
abbrev TA := St → Hp → (List V → Hp → Prop) → Prop
/-- what is wanted behind a statement -/
structure Ends where
  nx : St → Hp → Prop
  rt : VK
  bk : St → Hp → Prop := fun _ _ => False
  ct : St → Hp → Prop := fun _ _ => False
abbrev TS := Ends → St → Hp → Prop

def EP (X : Cx) (pins : List (Addr × Obj)) (σ : St) (Q : VK) (u : Value) (s' : Shared) : Prop := ∃ v H', Inv X pins σ H' s' ∧ RelV v u ∧ Q v H'
def TP (X : Cx) (pins : List (Addr × Obj)) (σ : St) (Q : Bool → Hp → Prop) (b : Bool) (s' : Shared) : Prop := ∃ H', Inv X pins σ H' s' ∧ Q b H'
def AP (X : Cx) (pins : List (Addr × Obj)) (σ : St) (Q : List V → Hp → Prop) (us : List Value) (s' : Shared) : Prop := ∃ vs H', Inv X pins σ H' s' ∧ Vals vs us ∧ Q vs H'
def SP (X : Cx) (pins : List (Addr × Obj)) (D : Ends) (f : Flow) (s' : Shared) : Prop :=
  match f with
  | .next => ∃ σ' H', Inv X pins σ' H' s' ∧ D.nx σ' H'
  | .brk => ∃ σ' H', Inv X pins σ' H' s' ∧ D.bk σ' H'
  | .cont => ∃ σ' H', Inv X pins σ' H' s' ∧ D.ct σ' H'
  | .ret u => ∃ v σ' H', Inv X pins σ' H' s' ∧ RelV v u ∧ D.rt v H'

def PE (X : Cx) (e : Expr) (t : TE) : Prop :=
  ∀ (pins : List (Addr × Obj)) (s : Shared) (σ : St) (H : Hp) (Q : VK), Inv X pins σ H s → t σ H Q → wpAny (model X.prog X.w) X.A (eval e X.env) (EP X pins σ Q) X.xe s
def PT (X : Cx) (e : Expr) (t : TT) : Prop :=
  ∀ (pins : List (Addr × Obj)) (s : Shared) (σ : St) (H : Hp) (Q : Bool → Hp → Prop), Inv X pins σ H s → t σ H Q → wpAny (model X.prog X.w) X.A (isTrue e X.env (eval e X.env)) (TP X pins σ Q) X.xe s
/-- a test whatever its 'whole' is (and, or) -/
def PW (X : Cx) (e : Expr) (t : TT) : Prop :=
  ∀ (whole : Sem Value) (pins : List (Addr × Obj)) (s : Shared) (σ : St) (H : Hp) (Q : Bool → Hp → Prop), Inv X pins σ H s → t σ H Q → wpAny (model X.prog X.w) X.A (isTrue e X.env whole) (TP X pins σ Q) X.xe s
theorem PW.pt {X : Cx} {e : Expr} {t : TT} (h : PW X e t) : PT X e t := h _
/-- an argument list (no star), from the left -/
def PA (X : Cx) (es : List Expr) (t : TA) : Prop :=
  ∀ (pos : Pos) (pins : List (Addr × Obj)) (s : Shared) (σ : St) (H : Hp) (Q : List V → Hp → Prop), Inv X pins σ H s → t σ H Q → wpAny (model X.prog X.w) X.A (spliced (backTo pos (starEach es X.env))) (AP X pins σ Q) X.xe s
def PS (X : Cx) (st : Stmt) (t : TS) : Prop :=
  ∀ (pins : List (Addr × Obj)) (s : Shared) (σ : St) (H : Hp) (D : Ends), Inv X pins σ H s → t D σ H → wpAny (model X.prog X.w) X.A (exec st X.env) (SP X pins D) X.xe s
def PSs (X : Cx) (st : List Stmt) (t : TS) : Prop :=
  ∀ (pins : List (Addr × Obj)) (s : Shared) (σ : St) (H : Hp) (D : Ends), Inv X pins σ H s → t D σ H → wpAny (model X.prog X.w) X.A (execs st X.env) (SP X pins D) X.xe s
/-- weaken the end -/
theorem thn {α : Type} {t : Sem α} {Q Q' : α → Shared → Prop} {M : Model} {A : Around} {E : Value → Shared → Prop} {s : Shared} (h : wpAny M A t Q E s) (hQ : ∀ a s, Q a s → Q' a s) : wpAny M A t Q' E s := wpAny_mono h hQ fun _ _ x => x
end L2

namespace L2
open PySem PySem.Spec PyProof.Rows
section
variable {X : Cx}

/-- two expressions in a row -/
theorem bin {a b : Expr} {ta tb : TE} (ha : PE X a ta) (hb : PE X b tb) {pins : List (Addr × Obj)} {s : Shared} {σ : St} {H : Hp} {R : V → V → Hp → Prop} (I : Inv X pins σ H s) (h : ta σ H fun x H1 => tb σ H1 fun y H2 => R x y H2)
    {α : Type} {Q : α → Shared → Prop} {f : Value → Value → Sem α}
    (hf : ∀ v u s2 x y H2, Inv X pins σ H2 s2 → RelV x v → RelV y u → R x y H2 → wpAny (model X.prog X.w) X.A (f v u) Q X.xe s2) :
    wpAny (model X.prog X.w) X.A (eval a X.env) (fun v s₁ => wpAny (model X.prog X.w) X.A (eval b X.env) (fun u s₂ => wpAny (model X.prog X.w) X.A (f v u) Q X.xe s₂) X.xe s₁) X.xe s := by
  refine thn (ha pins s σ H _ I h) fun v s1 ⟨x, H1, I1, r1, q1⟩ => ?_
  refine thn (hb pins s1 σ H1 _ I1 q1) fun u s2 ⟨y, H2, I2, r2, q2⟩ => ?_
  exact hf v u s2 x y H2 I2 r1 r2 q2

/-! ### names and constants -/
def tVar (i : Nat) : TE := fun σ H Q => ∃ v, σ[i]? = some (some v) ∧ Q v H
def tC (v : V) : TE := fun _ H Q => Q v H
theorem pe_var {i : Nat} {x : Str} {pos : Pos} (hN : X.N[i]? = some x) (hv : Vis X.env.scope x) (hd : (x == ("__debug__" : Str)) = false := by decide) (hcd : (x == ("__classdict__" : Str)) = false := by decide) : PE X (.Name x pos) (tVar i) := by
  intro pins s σ H Q I h
  obtain ⟨v, e, h⟩ := h
  obtain ⟨m, hn, hl⟩ := I.loc
  obtain ⟨u, r, l⟩ := hl i x v hN e hv
  have fin : EP X pins σ Q u s := ⟨v, H, I, r, h⟩
  rcases l with ⟨hk, hm⟩ | ⟨hk, c, hc, hcell⟩
  · exact wpAny_Name (wpAny_loadName_local I.ok.kind hk hn hm fin) hd
  · rcases hk with hk | hk
    · exact wpAny_Name (wpAny_loadName_cell I.ok.kind hk hc hcell fin) hd
    · exact wpAny_Name (wpAny_loadName_free I.ok.kind hk hc hcell fin hcd) hd
theorem pe_int {i j pos} : PE X (.Constant (.int i) j pos) (tC (.int i)) := fun _ _ _ H _ I h => wpAny_Constant_int ⟨.int i, H, I.tok _, ⟨_, rfl⟩, h⟩
theorem pe_bl {b j pos} : PE X (.Constant (.bool b) j pos) (tC (.bl b)) := fun _ _ _ H _ I h => Constant_bool ⟨.bl b, H, I, rfl, h⟩
theorem pe_non {j pos} : PE X (.Constant .none j pos) (tC .non) := fun _ _ _ H _ I h => Constant_none ⟨.non, H, I, rfl, h⟩
theorem pe_str {x j pos} : PE X (.Constant (.str x) j pos) (tC (.str x)) := fun _ _ _ H _ I h => Calls.Constant_str ⟨.str x, H, I.tok _, ⟨_, rfl⟩, h⟩

/-- a global name of the def -/
def Gl (X : Cx) (x : Str) : Prop := X.env.kindOf x = some .globalImplicit
theorem ld_glob {E : Value → Shared → Prop} {pins : List (Addr × Obj)} {s : Shared} {σ : St} {H : Hp} {x : Str} {u : Value} {pos : Pos} {Q : Value → Shared → Prop} (I : Inv X pins σ H s) (hg : Gl X x) (hm : X.mg x = some u) (h : Q u s)
    (hd : (x == ("__debug__" : Str)) = false := by decide) : wpAny (model X.prog X.w) X.A (eval (.Name x pos) X.env) Q E s :=
  Calls.Name_function_global I.ok.kind hg (Calls.loadGlobal_global (by rw [I.ok.glob]; exact I.mod.glob.keeps I.bk) hm h) hd
theorem ld_blt {E : Value → Shared → Prop} {pins : List (Addr × Obj)} {s : Shared} {σ : St} {H : Hp} {x : Str} {u : Value} {pos : Pos} {Q : Value → Shared → Prop} (I : Inv X pins σ H s) (hg : Gl X x) (hm : X.mg x = none) (hv : bootBuiltins x = some u) (h : Q u s)
    (hn : x ≠ "__name__" := by decide) (hd : (x == ("__debug__" : Str)) = false := by decide) : wpAny (model X.prog X.w) X.A (eval (.Name x pos) X.env) Q E s := by
  obtain ⟨mb, h1, h2⟩ := I.mod.blt
  exact Calls.Name_function_global I.ok.kind hg (Calls.loadGlobal_builtin (by rw [I.ok.glob]; exact I.mod.glob.keeps I.bk) hm (by rw [I.ok.blt]; exact h1.keeps I.bk) ((h2 x hn).trans hv) h) hd
/-- a module's constant, a class, a function, as a value -/
theorem pe_glob {x : Str} {v : V} {u : Value} {pos : Pos} (hg : Gl X x) (hm : X.mg x = some u) (r : RelV v u) (hd : (x == ("__debug__" : Str)) = false := by decide) : PE X (.Name x pos) (tC v) :=
  fun _ _ _ H _ I h => ld_glob I hg hm ⟨v, H, I, r, h⟩ hd
theorem pe_bltn {x : Str} {v : V} {u : Value} {pos : Pos} (hg : Gl X x) (hm : X.mg x = none) (hv : bootBuiltins x = some u) (r : RelV v u) (hn : x ≠ "__name__" := by decide) (hd : (x == ("__debug__" : Str)) = false := by decide) : PE X (.Name x pos) (tC v) :=
  fun _ _ _ H _ I h => ld_blt I hg hm hv ⟨v, H, I, r, h⟩ hn hd

/-! ### arithmetic -/
/-- two ints -/
def t2I (ta tb : TE) (k : Int → Int → Hp → Prop) : St → Hp → Prop := fun σ H => ta σ H fun x H1 => tb σ H1 fun y H2 => ∃ i j, x = .int i ∧ y = .int j ∧ k i j H2
def tAdd (ta tb : TE) : TE := fun σ H Q => t2I ta tb (fun i j H2 => Q (.int (i + j)) H2) σ H
def tSub (ta tb : TE) : TE := fun σ H Q => t2I ta tb (fun i j H2 => Q (.int (i - j)) H2) σ H
/-- the left factor below 2^64 -/
def tMul (ta tb : TE) : TE := fun σ H Q => t2I ta tb (fun i j H2 => (-(2 ^ 64) < i ∧ i < 2 ^ 64) ∧ Q (.int (i * j)) H2) σ H
variable {a b : Expr} {ta tb : TE} {pos : Pos}
theorem pe_add (ha : PE X a ta) (hb : PE X b tb) : PE X (.BinOp a .Add b pos) (tAdd ta tb) := by
  intro pins s σ H Q I h
  refine wpAny_BinOp (bin ha hb I h fun v u s2 x y H2 I2 rx ry q => ?_)
  obtain ⟨i, j, rfl, rfl, q⟩ := q
  obtain ⟨t, rfl⟩ := rx
  obtain ⟨t', rfl⟩ := ry
  exact add_int ⟨.int _, H2, I2.tok _, ⟨_, rfl⟩, q⟩
theorem pe_sub (ha : PE X a ta) (hb : PE X b tb) : PE X (.BinOp a .Sub b pos) (tSub ta tb) := by
  intro pins s σ H Q I h
  refine wpAny_BinOp (bin ha hb I h fun v u s2 x y H2 I2 rx ry q => ?_)
  obtain ⟨i, j, rfl, rfl, q⟩ := q
  obtain ⟨t, rfl⟩ := rx
  obtain ⟨t', rfl⟩ := ry
  exact sub_int ⟨.int _, H2, I2.tok _, ⟨_, rfl⟩, q⟩
theorem pe_mul (ha : PE X a ta) (hb : PE X b tb) : PE X (.BinOp a .Mult b pos) (tMul ta tb) := by
  intro pins s σ H Q I h
  refine wpAny_BinOp (bin ha hb I h fun v u s2 x y H2 I2 rx ry q => ?_)
  obtain ⟨i, j, rfl, rfl, ⟨q1, q2⟩, q⟩ := q
  obtain ⟨t, rfl⟩ := rx
  obtain ⟨t', rfl⟩ := ry
  exact mul_int ⟨.int _, H2, I2.tok _, ⟨_, rfl⟩, q⟩ (.of_left (intBits_le_64 q1 q2))

/-! ### comparisons -/
def PC (X : Cx) (op : CmpOp) (a b : Expr) (t : TE) : Prop :=
  ∀ (pins : List (Addr × Obj)) (s : Shared) (σ : St) (H : Hp) (Q : VK), Inv X pins σ H s → t σ H Q →
    wpAny (model X.prog X.w) X.A (eval a X.env) (fun v s₁ => wpAny (model X.prog X.w) X.A (eval b X.env) (fun u s₂ => wpAny (model X.prog X.w) X.A (compareOp op v u) (EP X pins σ Q) X.xe s₂) X.xe s₁) X.xe s
theorem nobehind (b : Expr) {op : CmpOp} (h : op ≠ .In) (h2 : op ≠ .NotIn) : behindInMarks op b = false := by
  have e1 : (op == CmpOp.In) = false := by cases op <;> first | rfl | exact absurd rfl h
  have e2 : (op == CmpOp.NotIn) = false := by cases op <;> first | rfl | exact absurd rfl h2
  cases b <;> simp [behindInMarks, e1, e2]
def tCmp (p : Int → Int → Bool) (ta tb : TE) : TE := fun σ H Q => t2I ta tb (fun i j H2 => Q (.bl (p i j)) H2) σ H
abbrev tLt : TE → TE → TE := tCmp fun i j => decide (i < j)
abbrev tLe : TE → TE → TE := tCmp fun i j => decide (i ≤ j)
abbrev tGt : TE → TE → TE := tCmp fun i j => decide (j < i)
abbrev tGe : TE → TE → TE := tCmp fun i j => decide (j ≤ i)
abbrev tEqI : TE → TE → TE := tCmp fun i j => decide (i = j)
abbrev tNeI : TE → TE → TE := tCmp fun i j => !decide (i = j)
/-- a comparison of two ints, by its rule -/
theorem pc_int {op : CmpOp} {p : Int → Int → Bool} (ha : PE X a ta) (hb : PE X b tb)
    (rule : ∀ (i j : Int) (t u : Tok) (Q : Value → Shared → Prop) (s : Shared), Q (.bool (p i j)) s → wpAny (model X.prog X.w) X.A (compareOp op (.int i t) (.int j u)) Q X.xe s) : PC X op a b (tCmp p ta tb) := by
  intro pins s σ H Q I h
  refine bin ha hb I h fun v u s2 x y H2 I2 rx ry q => ?_
  obtain ⟨i, j, rfl, rfl, q⟩ := q
  obtain ⟨t, rfl⟩ := rx
  obtain ⟨t', rfl⟩ := ry
  exact rule i j t t' _ s2 ⟨.bl _, H2, I2, rfl, q⟩
theorem pc_lt (ha : PE X a ta) (hb : PE X b tb) : PC X .Lt a b (tLt ta tb) := pc_int ha hb fun _ _ _ _ _ _ h => lt_int h
theorem pc_le (ha : PE X a ta) (hb : PE X b tb) : PC X .LtE a b (tLe ta tb) := pc_int ha hb fun _ _ _ _ _ _ h => le_int h
theorem pc_gt (ha : PE X a ta) (hb : PE X b tb) : PC X .Gt a b (tGt ta tb) := pc_int ha hb fun _ _ _ _ _ _ h => gt_int h
theorem pc_ge (ha : PE X a ta) (hb : PE X b tb) : PC X .GtE a b (tGe ta tb) := pc_int ha hb fun _ _ _ _ _ _ h => ge_int h
theorem pc_eqI (ha : PE X a ta) (hb : PE X b tb) : PC X .Eq a b (tEqI ta tb) := pc_int ha hb fun _ _ _ _ _ _ h => eq_int (by rw [Bool.beq_eq_decide_eq]; exact h)
theorem pc_neI (ha : PE X a ta) (hb : PE X b tb) : PC X .NotEq a b (tNeI ta tb) := pc_int ha hb fun _ _ _ _ _ _ h => ne_int (by rw [bne, Bool.beq_eq_decide_eq]; exact h)
/-- is None -/
def tIsN (ta : TE) : TE := fun σ H Q => ta σ H fun x H1 => Q (.bl (decide (x = .non))) H1
def tNotN (ta : TE) : TE := fun σ H Q => ta σ H fun x H1 => Q (.bl (!decide (x = .non))) H1
theorem RelV.none_iff {x : V} {v : Value} (r : RelV x v) : (v == Value.none) = decide (x = .non) := by
  cases x with
  | non => cases r; rfl
  | bl _ => cases r; rfl
  | int _ => obtain ⟨t, rfl⟩ := r; rfl
  | str _ => obtain ⟨t, rfl⟩ := r; rfl
  | byt _ => obtain ⟨t, rfl⟩ := r; rfl
  | flt _ => obtain ⟨t, rfl⟩ := r; rfl
  | ref _ => cases r; rfl
  | ty _ => cases r; rfl
theorem pc_isN {j pos'} (ha : PE X a ta) : PC X .Is a (.Constant .none j pos') (tIsN ta) := by
  intro pins s σ H Q I h
  refine thn (ha pins s σ H _ I h) fun v s1 ⟨x, H1, I1, r1, q1⟩ => ?_
  exact Constant_none (is_none_gen ⟨.bl _, H1, I1, by rw [r1.none_iff]; rfl, q1⟩)
theorem pc_notN {j pos'} (ha : PE X a ta) : PC X .IsNot a (.Constant .none j pos') (tNotN ta) := by
  intro pins s σ H Q I h
  refine thn (ha pins s σ H _ I h) fun v s1 ⟨x, H1, I1, r1, q1⟩ => ?_
  exact Constant_none (isnot_none_gen ⟨.bl _, H1, I1, by rw [r1.none_iff]; rfl, q1⟩)
/-- a comparison as a value, as a test -/
def tB (t : TE) : TT := fun σ H Q => t σ H fun x H1 => ∃ c, x = .bl c ∧ Q c H1
theorem pe_cmp {op : CmpOp} {t : TE} (h : PC X op a b t) (h1 : behindInMarks op b = false := by first | exact nobehind _ (by decide) (by decide) | rfl) : PE X (.Compare a [op] [b] pos) t := fun pins s σ H Q I hw => wpAny_Compare1 (h pins s σ H Q I hw) h1
theorem pt_cmp {op : CmpOp} {t : TE} (h : PC X op a b t) (h1 : behindInMarks op b = false := by first | exact nobehind _ (by decide) (by decide) | rfl) : PT X (.Compare a [op] [b] pos) (tB t) := by
  intro pins s σ H Q I hw
  refine wpAny_isTrue_Compare1 (thn (h pins s σ H _ I hw) fun v s1 h1 => thn h1 fun u s2 h2 => thn h2 fun c s3 ⟨x, H1, I1, r1, q1⟩ => ?_) h1
  obtain ⟨d, rfl, q⟩ := q1
  cases r1
  exact wpAny_truthy_bool ⟨H1, I1, q⟩
/-- an expression whose value is a bool, as a test -/
theorem pt_val {e : Expr} {t : TE} (h : PE X e t) (he : ∀ whole, isTrue e X.env whole = (do let v ← whole; standAt e.pos; holding [v] (truthy v)) := by intro _; rfl) : PT X e (tB t) := by
  intro pins s σ H Q I hw
  refine isTrue_plain (thn (h pins s σ H _ I hw) fun v s1 ⟨x, H1, I1, r1, q1⟩ => ?_) (he _)
  obtain ⟨d, rfl, q⟩ := q1
  cases r1
  exact wpAny_truthy_bool ⟨H1, I1, q⟩

/-! ### and, or, not -/
variable {tA tB' : TT} {rest : List Expr}
def tAnd (t u : TT) : TT := fun σ H Q => t σ H fun c H1 => if c = true then u σ H1 Q else Q false H1
def tOr (t u : TT) : TT := fun σ H Q => t σ H fun c H1 => if c = true then Q true H1 else u σ H1 Q
def tNot (t : TT) : TT := fun σ H Q => t σ H fun c H1 => Q (!c) H1
theorem pw_and1 (ha : PT X a tA) : PW X (.BoolOp .And [a] pos) tA := by
  intro wh pins s σ H Q I h
  refine isTrue_and (thn (ha pins s σ H Q I h) fun c s1 e => ?_)
  cases c with
  | true => exact isTrue_and_nil e
  | false => exact e
theorem pw_or1 (ha : PT X a tA) : PW X (.BoolOp .Or [a] pos) tA := by
  intro wh pins s σ H Q I h
  refine isTrue_or (thn (ha pins s σ H Q I h) fun c s1 e => ?_)
  cases c with
  | false => exact isTrue_or_nil e
  | true => exact e
theorem pw_and (ha : PT X a tA) (hb : PW X (.BoolOp .And (b :: rest) pos) tB') : PW X (.BoolOp .And (a :: b :: rest) pos) (tAnd tA tB') := by
  intro wh pins s σ H Q I h
  refine isTrue_and (thn (ha pins s σ H _ I h) fun c s1 ⟨H1, I1, q1⟩ => ?_)
  cases c with
  | true => exact hb wh pins s1 σ H1 Q I1 q1
  | false => exact ⟨H1, I1, q1⟩
theorem pw_or (ha : PT X a tA) (hb : PW X (.BoolOp .Or (b :: rest) pos) tB') : PW X (.BoolOp .Or (a :: b :: rest) pos) (tOr tA tB') := by
  intro wh pins s σ H Q I h
  refine isTrue_or (thn (ha pins s σ H _ I h) fun c s1 ⟨H1, I1, q1⟩ => ?_)
  cases c with
  | true => exact ⟨H1, I1, q1⟩
  | false => exact hb wh pins s1 σ H1 Q I1 q1
theorem pt_not (ha : PT X a tA) : PT X (.UnaryOp .Not a pos) (tNot tA) := by
  intro pins s σ H Q I h
  exact isTrue_not (ha pins s σ H (fun c H1 => Q (!c) H1) I h)
/-- .. as values (bools) -/
def tAndV (ta tb : TE) : TE := fun σ H Q => ta σ H fun x H1 => ∃ c, x = .bl c ∧ if c = true then tb σ H1 Q else Q (.bl false) H1
def tOrV (ta tb : TE) : TE := fun σ H Q => ta σ H fun x H1 => ∃ c, x = .bl c ∧ if c = true then Q (.bl true) H1 else tb σ H1 Q
def tNotV (ta : TE) : TE := fun σ H Q => ta σ H fun x H1 => ∃ c, x = .bl c ∧ Q (.bl (!c)) H1
theorem pe_one {op} {t : TE} (h : PE X a t) : PE X (.BoolOp op [a] pos) t := fun pins s σ H Q I hw => BoolOp_one (h pins s σ H Q I hw)
theorem pe_and (ha : PE X a ta) (hb : PE X (.BoolOp .And (b :: rest) pos) tb) : PE X (.BoolOp .And (a :: b :: rest) pos) (tAndV ta tb) := by
  intro pins s σ H Q I h
  refine BoolOp_and (thn (ha pins s σ H _ I h) fun v s1 ⟨x, H1, I1, r1, q1⟩ => ?_)
  obtain ⟨c, rfl, q1⟩ := q1
  cases r1
  refine wpAny_truthy_bool ?_
  cases c with
  | true => exact hb pins s1 σ H1 Q I1 q1
  | false => exact ⟨.bl false, H1, I1, rfl, q1⟩
theorem pe_or (ha : PE X a ta) (hb : PE X (.BoolOp .Or (b :: rest) pos) tb) : PE X (.BoolOp .Or (a :: b :: rest) pos) (tOrV ta tb) := by
  intro pins s σ H Q I h
  refine BoolOp_or (thn (ha pins s σ H _ I h) fun v s1 ⟨x, H1, I1, r1, q1⟩ => ?_)
  obtain ⟨c, rfl, q1⟩ := q1
  cases r1
  refine wpAny_truthy_bool ?_
  cases c with
  | false => exact hb pins s1 σ H1 Q I1 q1
  | true => exact ⟨.bl true, H1, I1, rfl, q1⟩
theorem pe_not (ha : PE X a ta) : PE X (.UnaryOp .Not a pos) (tNotV ta) := by
  intro pins s σ H Q I h
  refine UnaryOp_ (thn (ha pins s σ H _ I h) fun v s1 ⟨x, H1, I1, r1, q1⟩ => ?_)
  obtain ⟨c, rfl, q1⟩ := q1
  cases r1
  exact not_of (wpAny_truthy_bool ⟨.bl (!c), H1, I1, rfl, q1⟩)
/-- a if t else b -/
def tIf (t : TT) (ta tb : TE) : TE := fun σ H Q => t σ H fun c H1 => if c = true then ta σ H1 Q else tb σ H1 Q
theorem pe_ifExp {c : Expr} (hc : PT X c tA) (ha : PE X a ta) (hb : PE X b tb) : PE X (.IfExp c a b pos) (tIf tA ta tb) := by
  intro pins s σ H Q I h
  refine wpAny_IfExp (thn (hc pins s σ H _ I h) fun d s1 ⟨H1, I1, q1⟩ => ?_)
  cases d with
  | true => exact ha pins s1 σ H1 Q I1 q1
  | false => exact hb pins s1 σ H1 Q I1 q1
end
end L2

namespace L2
open PySem PySem.Spec PyProof.Rows

/-! ### a list, a tuple that is read: tracked, frozen, or an object of the module -/
def SqL (K : PySem.W.Frag) (H : Hp) (a : Addr) (xs : List V) : Prop :=
  Rd H a (.lst xs) ∨
    ∃ (o : Obj) (its : Array Value) (n : Nat), K.lookup a = some o ∧ o.cls = .type "list" ∧ o.dict = none ∧ o.data = .seq its n ∧ its.size ≤ sizeLine ∧ Vals xs its.toList
def SqT (K : PySem.W.Frag) (H : Hp) (a : Addr) (xs : List V) : Prop :=
  Rd H a (.tup xs) ∨
    ∃ (o : Obj) (its : Array Value) (n : Nat), K.lookup a = some o ∧ o.cls = .type "tuple" ∧ o.data = .seq its n ∧ its.size ≤ sizeLine ∧ Vals xs its.toList
def absV : Value → Option V
  | .none => some .non
  | .bool b => some (.bl b)
  | .int i _ => some (.int i)
  | .str x _ => some (.str x)
  | .bytes b _ => some (.byt b)
  | .float b _ => some (.flt b)
  | .ref a => some (.ref a)
  | .type n => some (.ty n)
  | _ => none
theorem RelV.abs {x : V} {u : Value} (r : RelV x u) : absV u = some x := by
  cases x with
  | non => cases r; rfl
  | bl _ => cases r; rfl
  | int _ => obtain ⟨t, rfl⟩ := r; rfl
  | str _ => obtain ⟨t, rfl⟩ := r; rfl
  | byt _ => obtain ⟨t, rfl⟩ := r; rfl
  | flt _ => obtain ⟨t, rfl⟩ := r; rfl
  | ref _ => cases r; rfl
  | ty _ => cases r; rfl
theorem RelV.inj {x y : V} {u : Value} (r : RelV x u) (q : RelV y u) : x = y := Option.some.inj (r.abs.symm.trans q.abs)
theorem Vals.inj : ∀ {xs ys : List V} {us : List Value}, Vals xs us → Vals ys us → xs = ys
  | _, _, _, .nil, .nil => rfl
  | _, _, _, .cons r t, .cons r' t' => by rw [r.inj r', Vals.inj t t']
section
variable {X : Cx} {pins : List (Addr × Obj)} {σ : St} {H : Hp} {s : Shared} {a : Addr} {xs ys : List V}
theorem SqL.of {K : PySem.W.Frag} (h : H a = some (.lst xs)) : SqL K H a xs := .inl (.inl h)
theorem SqT.of {K : PySem.W.Frag} (h : H a = some (.tup xs)) : SqT K H a xs := .inl (.inl h)
theorem Inv.list (I : Inv X pins σ H s) (h : SqL X.K H a xs) : ∃ its : List Value, Vals xs its ∧ PlainL s.heap a its.toArray ∧ xs.length ≤ sizeLine := by
  rcases h with h | ⟨o, its, n, hk, hc, hd, hs, hz, r⟩
  · obtain ⟨z, its, n, r, e⟩ := h.ok I.hok
    exact ⟨its, r, ⟨_, n, e, rfl, rfl, rfl⟩, z⟩
  · refine ⟨its.toList, r, ⟨o, n, I.kIn a o hk, hc, hd, by simpa using hs⟩, ?_⟩
    have e := r.length
    simp only [Array.length_toList] at e
    omega
theorem Inv.tuple (I : Inv X pins σ H s) (h : SqT X.K H a xs) : ∃ its : List Value, Vals xs its ∧ IsTup s.heap a its.toArray ∧ xs.length ≤ sizeLine := by
  rcases h with h | ⟨o, its, n, hk, hc, hs, hz, r⟩
  · obtain ⟨z, its, r, p⟩ := h.ok I.hok
    exact ⟨its, r, p, z⟩
  · refine ⟨its.toList, r, ⟨o, I.kIn a o hk, hc, n, by simpa using hs⟩, ?_⟩
    have e := r.length
    simp only [Array.length_toList] at e
    omega
theorem Inv.list_inj (I : Inv X pins σ H s) (h : SqL X.K H a xs) (h' : SqL X.K H a ys) : xs = ys := by
  obtain ⟨its, r, ⟨o, n, e, _, _, d⟩, _⟩ := I.list h
  obtain ⟨its', r', ⟨o', n', e', _, _, d'⟩, _⟩ := I.list h'
  rw [e] at e'; cases e'
  rw [d] at d'
  injection d' with d1 _
  have : its = its' := by simpa using congrArg Array.toList d1
  subst this
  exact r.inj r'
theorem Inv.tuple_inj (I : Inv X pins σ H s) (h : SqT X.K H a xs) (h' : SqT X.K H a ys) : xs = ys := by
  obtain ⟨its, r, ⟨o, e, _, n, d⟩, _⟩ := I.tuple h
  obtain ⟨its', r', ⟨o', e', _, n', d'⟩, _⟩ := I.tuple h'
  rw [e] at e'; cases e'
  rw [d] at d'
  injection d' with d1 _
  have : its = its' := by simpa using congrArg Array.toList d1
  subst this
  exact r.inj r'
end

/-! ### another wish about exceptions -/
abbrev Cx.wish (X : Cx) (E : Value → Shared → Prop) : Cx := { X with xe := E }
/-- no exception leaves -/
abbrev Cx.nox (X : Cx) : Cx := X.wish fun _ _ => False
theorem Cx.Ok.wish {X : Cx} (ok : X.Ok) (E : Value → Shared → Prop) : (X.wish E).Ok :=
  ⟨ok.mod, ok.kind, ok.glob, ok.blt, ok.above, ok.inj, ok.has, ok.cab, ok.hd, ok.frames, ok.stk, ok.exf, ok.bs, ok.bsz, ok.noex, ok.exfs, ok.funs, ok.frf⟩
theorem Cx.Ok.unwish {X : Cx} {E : Value → Shared → Prop} (ok : (X.wish E).Ok) : X.Ok :=
  ⟨ok.mod, ok.kind, ok.glob, ok.blt, ok.above, ok.inj, ok.has, ok.cab, ok.hd, ok.frames, ok.stk, ok.exf, ok.bs, ok.bsz, ok.noex, ok.exfs, ok.funs, ok.frf⟩
section
variable {X : Cx} {pins : List (Addr × Obj)} {σ : St} {H : Hp} {s : Shared} {E : Value → Shared → Prop}
theorem Inv.wish (I : Inv X pins σ H s) (E : Value → Shared → Prop) : Inv (X.wish E) pins σ H s := ⟨I.ok.wish E, I.os, I.bare, I.base, I.loc, I.cell, I.free, I.freeC, I.pin, I.hok, I.len⟩
theorem Inv.unwish (I : Inv (X.wish E) pins σ H s) : Inv X pins σ H s := ⟨I.ok.unwish, I.os, I.bare, I.base, I.loc, I.cell, I.free, I.freeC, I.pin, I.hok, I.len⟩
theorem SP.unwish {D : Ends} {f : Flow} {s' : Shared} (h : SP (X.wish E) pins D f s') : SP X pins D f s' := by
  cases f with
  | next => obtain ⟨σ', H', I, q⟩ := h; exact ⟨σ', H', I.unwish, q⟩
  | brk => obtain ⟨σ', H', I, q⟩ := h; exact ⟨σ', H', I.unwish, q⟩
  | cont => obtain ⟨σ', H', I, q⟩ := h; exact ⟨σ', H', I.unwish, q⟩
  | ret u => obtain ⟨v, σ', H', I, r, q⟩ := h; exact ⟨v, σ', H', I.unwish, r, q⟩
theorem PE.nox {e : Expr} {t : TE} (h : PE X.nox e t) : PE X e t := fun pins s σ H Q I hw =>
  wpAny_mono (h pins s σ H Q (I.wish _) hw) (fun _ _ ⟨v, H', I', r, q⟩ => ⟨v, H', I'.unwish, r, q⟩) fun _ _ z => False.elim z
theorem PT.nox {e : Expr} {t : TT} (h : PT X.nox e t) : PT X e t := fun pins s σ H Q I hw =>
  wpAny_mono (h pins s σ H Q (I.wish _) hw) (fun _ _ ⟨H', I', q⟩ => ⟨H', I'.unwish, q⟩) fun _ _ z => False.elim z
theorem PSs.nox {st : List Stmt} {t : TS} (h : PSs X.nox st t) : PSs X st t := fun pins s σ H D I hw =>
  wpAny_mono (h pins s σ H D (I.wish _) hw) (fun _ _ q => q.unwish) fun _ _ z => False.elim z
end

/-! ### blocks and small statements -/
section
variable {X : Cx} {st : Stmt} {rest : List Stmt} {t u : TS} {e : Expr} {te : TE} {pos : Pos}
def tNext : TS := fun D σ H => D.nx σ H
def tSeq (t u : TS) : TS := fun D σ H => t { D with nx := u D } σ H
theorem pss_nil : PSs X [] tNext := fun _ _ σ H _ I h => wpAny_execs_nil ⟨σ, H, I, h⟩
theorem pss_cons (h1 : PS X st t) (h2 : PSs X rest u) : PSs X (st :: rest) (tSeq t u) := by
  intro pins s σ H D I h
  refine wpAny_execs_cons (thn (h1 pins s σ H { D with nx := u D } I h) fun f s1 q => ?_)
  cases f with
  | next =>
    obtain ⟨σ', H', I', q⟩ := q
    exact h2 pins s1 σ' H' D I' q
  | ret v => exact q
  | brk => exact q
  | cont => exact q
theorem pss_one (h1 : PS X st t) : PSs X [st] t := by
  intro pins s σ H D I h
  refine wpAny_execs_cons (thn (h1 pins s σ H D I h) fun f s1 q => ?_)
  cases f with
  | next => exact wpAny_execs_nil q
  | ret v => exact q
  | brk => exact q
  | cont => exact q
def tBreak : TS := fun D σ H => D.bk σ H
def tCont : TS := fun D σ H => D.ct σ H
theorem ps_pass : PS X (.Pass pos) tNext := fun _ _ σ H _ I h => wpAny_Pass ⟨σ, H, I, h⟩
theorem ps_break : PS X (.Break pos) tBreak := fun _ _ σ H _ I h => wpAny_Break ⟨σ, H, I, h⟩
theorem ps_continue : PS X (.Continue pos) tCont := fun _ _ σ H _ I h => wpAny_Continue ⟨σ, H, I, h⟩
/-- in a def's body nothing is shown -/
theorem Inv.quiet {pins : List (Addr × Obj)} {σ : St} {H : Hp} {s : Shared} (I : Inv X pins σ H s) : interactive X.env = false := by simp [interactive, I.ok.kind]
/-- a docstring -/
theorem ps_doc {x j pos pos'} : PS X (.Expr (.Constant (.str x) j pos) pos') tNext := fun _ s σ H _ I h => wpAny_Expr (Calls.Constant_str (show SP X _ _ .next { s with toks := s.toks + 1 } from ⟨σ, H, I.tok _, h⟩)) I.quiet
/-- an expression whose value is dropped -/
def tDrop (te : TE) : TS := fun D σ H => te σ H fun _ H1 => D.nx σ H1
theorem ps_expr (he : PE X e te) (hs : swapsWith e none pos.line X.env = pure false := by rfl) : PS X (.Expr e pos) (tDrop te) := by
  intro pins s σ H D I h
  exact wpAny_Expr_any (thn (he pins s σ H _ I h) fun v s1 ⟨x, H1, I1, r1, q1⟩ => ⟨σ, H1, I1, q1⟩) I.quiet hs
def tRet (te : TE) : TS := fun D σ H => te σ H D.rt
theorem ps_ret (he : PE X e te) : PS X (.Return (some e) pos) (tRet te) := by
  intro pins s σ H D I h
  exact wpAny_Return_some (thn (he pins s σ H _ I h) fun v s1 ⟨x, H1, I1, r1, q1⟩ => ⟨x, σ, H1, I1, r1, q1⟩)
def tRetN : TS := fun D _ H => D.rt .non H
theorem ps_retN : PS X (.Return none pos) tRetN := fun _ _ σ H _ I h => wpAny_Return_none ⟨.non, σ, H, I, rfl, h⟩
def tIfS (c : TT) (t u : TS) : TS := fun D σ H => c σ H fun b H1 => if b = true then t D σ H1 else u D σ H1
theorem ps_if {c : Expr} {a b : List Stmt} {tc : TT} (hc : PT X c tc) (ha : PSs X a t) (hb : PSs X b u) : PS X (.If c a b pos) (tIfS tc t u) := by
  intro pins s σ H D I h
  refine wpAny_If (thn (hc pins s σ H _ I h) fun d s1 ⟨H1, I1, q1⟩ => ?_)
  cases d with
  | true => exact ha pins s1 σ H1 D I1 q1
  | false => exact hb pins s1 σ H1 D I1 q1
/-- code that the proof never comes to -/
def tNever : TS := fun _ _ _ => False
theorem ps_never : PS X st tNever := fun _ _ _ _ _ _ h => h.elim
theorem pss_never {sts : List Stmt} : PSs X sts tNever := fun _ _ _ _ _ _ h => h.elim
end

/-! ### targets -/
abbrev TG := V → St → Hp → (St → Hp → Prop) → Prop
abbrev TGs := List V → St → Hp → (St → Hp → Prop) → Prop
def PG (X : Cx) (target : Expr) (t : TG) : Prop :=
  ∀ (pins : List (Addr × Obj)) (s : Shared) (σ : St) (H : Hp) (v : V) (u : Value) (Q : St → Hp → Prop), Inv X pins σ H s → RelV v u → t v σ H Q →
    wpAny (model X.prog X.w) X.A (assign target X.env u) (fun _ s' => ∃ σ' H', Inv X pins σ' H' s' ∧ Q σ' H') X.xe s
/-- several targets, one after another -/
def PGs (X : Cx) (ts : List Expr) (t : TGs) : Prop :=
  ∀ (pins : List (Addr × Obj)) (s : Shared) (σ : St) (H : Hp) (vs : List V) (us : List Value) (Q : St → Hp → Prop), Inv X pins σ H s → Vals vs us → t vs σ H Q →
    wpAny (model X.prog X.w) X.A (assignInOrder ((assignEach ts X.env).map (·.2)) us) (fun _ s' => ∃ σ' H', Inv X pins σ' H' s' ∧ Q σ' H') X.xe s
/-- o[i] = v, by values -/
abbrev TSet := V → V → V → Hp → (Hp → Prop) → Prop
def PSet (X : Cx) (t : TSet) : Prop :=
  ∀ (pins : List (Addr × Obj)) (s : Shared) (σ : St) (H : Hp) (o i v : V) (ov iv u : Value) (Q : Hp → Prop), Inv X pins σ H s → RelV o ov → RelV i iv → RelV v u → t o i v H Q →
    wpAny (model X.prog X.w) X.A (setItem ov iv u) (fun _ s' => ∃ H', Inv X pins σ H' s' ∧ Q H') X.xe s
/-- a op= b, by values -/
abbrev TIp := V → V → Hp → VK → Prop
def PIp (X : Cx) (op : Operator) (t : TIp) : Prop :=
  ∀ (pins : List (Addr × Obj)) (s : Shared) (σ : St) (H : Hp) (x y : V) (v u : Value) (Q : VK), Inv X pins σ H s → RelV x v → RelV y u → t x y H Q →
    wpAny (model X.prog X.w) X.A (inplaceOp op v u) (EP X pins σ Q) X.xe s
section
variable {X : Cx} {pos : Pos}
def gName (i : Nat) : TG := fun v σ H Q => Q (σ.set i (some v)) H
theorem pg_name {i : Nat} {x : Str} (hN : X.N.Nodup) (hi : X.N[i]? = some x) (hx : Loc X.env.scope x) (hf : X.fn x = true ∨ X.env.scope.names.lookup x = some .local := by first | exact .inl rfl | exact .inr rfl | assumption) : PG X (.Name x pos) (gName i) := by
  intro pins s σ H v u Q I r h
  exact wpAny_assign_Name (store_ok I hN hi hx r (fun s' I' => ⟨_, H, I', h⟩) hf)
def gNil : TGs := fun vs σ H Q => vs = [] ∧ Q σ H
def gCons (t : TG) (u : TGs) : TGs := fun vs σ H Q => ∃ v r, vs = v :: r ∧ t v σ H fun σ' H' => u r σ' H' Q
theorem pgs_nil : PGs X [] gNil := by
  intro pins s σ H vs us Q I r h
  obtain ⟨e, h⟩ := h
  subst e
  cases r
  exact assignInOrder_nil ⟨σ, H, I, h⟩
theorem pgs_cons {e : Expr} {es : List Expr} {t : TG} {u : TGs} (h1 : PG X e t) (h2 : PGs X es u)
    (hs : (assignEach (e :: es) X.env).map (·.2) = assign e X.env :: (assignEach es X.env).map (·.2) := by rfl) : PGs X (e :: es) (gCons t u) := by
  intro pins s σ H vs us Q I r h
  obtain ⟨v, vr, e1, h⟩ := h
  subst e1
  cases r with
  | cons r rr =>
    rw [hs]
    refine assignInOrder_cons (thn (h1 pins s σ H _ _ _ I r h) fun _ s1 ⟨σ1, H1, I1, q1⟩ => ?_)
    exact h2 pins s1 σ1 H1 _ _ Q I1 rr q1
/-- (a, b, ..) = a tuple of that length -/
def gTup (K : PySem.W.Frag) (n : Nat) (t : TGs) : TG := fun v σ H Q => ∃ a xs, v = .ref a ∧ SqT K H a xs ∧ xs.length = n ∧ t xs σ H Q
theorem pg_tup {es : List Expr} {k : Nat} {t : TGs} {n : Nat} (hc : X.calm = true) (h : PGs X es t)
    (hn : (assignEach es X.env).length = n := by rfl) (hst : (assignEach es X.env).findIdx? (·.1) = none := by rfl) : PG X (.Tuple es k pos) (gTup X.K n t) := by
  intro pins s σ H v u Q I r hw
  obtain ⟨a, xs, e1, hq, hl, hw⟩ := hw
  subst e1
  cases r
  obtain ⟨its, rv, ht, hz⟩ := I.tuple hq
  refine assign_Tuple_tuple (I.ok.hd hc) ht (by simp [hn, ← hl, rv.length]) hst fun h' hx => ?_
  have I1 : Inv X pins σ H { s with heap := h' } := I.kept (t' := s.toks) fun b o e => hx b o (Nat.ne_of_lt (Heap.lt_size e)) e
  exact h pins _ σ H xs _ Q I1 (by simpa using rv) hw
/-- o[i] = .. -/
def gSub (to ti : TE) (t : TSet) : TG := fun v σ H Q => to σ H fun o H1 => ti σ H1 fun i H2 => t o i v H2 fun H3 => Q σ H3
theorem pg_sub {o i : Expr} {to ti : TE} {t : TSet} (ho : PE X o to) (hi : PE X i ti) (hs : PSet X t)
    (ha : ∀ v, assign (.Subscript o i pos) X.env v = (do
      let ov ← holding [v] (eval o X.env)
      let iv ← holding [v, ov] (eval i X.env)
      standAt pos
      holding [v, ov, iv] (setItem ov iv v)
      release [v, ov, iv] []) := by intro _; rfl) : PG X (.Subscript o i pos) (gSub to ti t) := by
  intro pins s σ H v u Q I r h
  rw [ha]
  refine wpAny_bind (wpAny_holding (thn (ho pins s σ H _ I h) fun ov s1 ⟨x, H1, I1, r1, q1⟩ => ?_))
  refine wpAny_bind (wpAny_holding (thn (hi pins s1 σ H1 _ I1 q1) fun iv s2 ⟨y, H2, I2, r2, q2⟩ => ?_))
  refine wpAny_bind (wpAny_standAt (wpAny_bind (wpAny_holding (thn (hs pins s2 σ H2 x y v ov iv u _ I2 r1 r2 r q2) fun _ s3 ⟨H3, I3, q3⟩ => ?_))))
  exact wpAny_release ⟨σ, H3, I3, q3⟩
/-- target = value -/
def tAsg (te : TE) (g : TG) : TS := fun D σ H => te σ H fun x H1 => g x σ H1 D.nx
theorem ps_asg {tg e : Expr} {te : TE} {g : TG} (he : PE X e te) (hg : PG X tg g) (hs : swapsWithSole [tg] e pos.line X.env = pure false := by rfl) (hw : swappedStores [tg] e X.env = pure none := by rfl)
    (h1 : (assignEach [tg] X.env).map (·.2) = [assign tg X.env] := by rfl) : PS X (.Assign [tg] e pos) (tAsg te g) := by
  intro pins s σ H D I h
  refine wpAny_Assign_stores (thn (he pins s σ H _ I h) fun v s1 ⟨x, H1, I1, r1, q1⟩ => ?_) hs hw
  rw [h1]
  exact thn (hg pins s1 σ H1 x v _ I1 r1 q1) fun _ s2 q => q
/-- name = value -/
theorem ps_set {i : Nat} {x : Str} {e : Expr} {te : TE} {pos' : Pos} (hN : X.N.Nodup) (hi : X.N[i]? = some x) (hx : Loc X.env.scope x) (he : PE X e te) (hs : swapsWith e (some (.Name x pos')) pos.line X.env = pure false := by rfl) (hf : X.fn x = true ∨ X.env.scope.names.lookup x = some .local := by first | exact .inl rfl | exact .inr rfl | assumption) :
    PS X (.Assign [.Name x pos'] e pos) (tAsg te (gName i)) := by
  intro pins s σ H D I h
  refine wpAny_Assign_Name (thn (he pins s σ H _ I h) fun v s1 ⟨y, H1, I1, r1, q1⟩ => ?_) hs
  exact store_ok I1 hN hi hx r1 (fun s2 I2 => ⟨_, H1, I2, q1⟩) hf
/-- a, b = x, y with plain local names: stored from the right; the pair itself is not tracked (the opening rows as in PyProof/Rows/TupAssign.lean:23) -/
def tPar (i j : Nat) (ta : TA) : TS := fun D σ H => ta σ H fun vs H1 => ∃ v w, vs = [v, w] ∧ D.nx ((σ.set i (some v)).set j (some w)) H1
theorem ps_par {i j : Nat} {x y : Str} {a b : Expr} {ta : TA} {px py pt : Pos} {kt k2 pt2} (hc : X.calm = true) (hN : X.N.Nodup) (hi : X.N[i]? = some x) (hj : X.N[j]? = some y) (hij : i ≠ j)
    (hx : X.env.scope.names.lookup x = some .local) (hy : X.env.scope.names.lookup y = some .local) (ha : PA X [a, b] ta)
    (hw : swappedStores [.Tuple [.Name x px, .Name y py] kt pt] (.Tuple [a, b] k2 pt2) X.env = pure (some [x, y]))
    (hs : swapsWithSole [.Tuple [.Name x px, .Name y py] kt pt] (.Tuple [a, b] k2 pt2) pos.line X.env = pure false := by rfl) :
    PS X (.Assign [.Tuple [.Name x px, .Name y py] kt pt] (.Tuple [a, b] k2 pt2) pos) (tPar i j ta) := by
  intro pins s σ H D I h
  rw [exec_Assign_arm]
  refine wpAny_bind (wpAny_standAt ?_)
  rw [hs]
  refine wpAny_bind (wpAny_pure ?_)
  rw [if_neg (by decide)]
  refine wpAny_bind (Tuple_ (thn (ha _ pins s σ H _ I h) fun us s1 ⟨vs, H1, I1, r1, q1⟩ => ?_))
  obtain ⟨v, w, e1, q1⟩ := q1
  subst e1
  obtain ⟨u1, u2, rfl, rv, rw'⟩ : ∃ u1 u2, us = [u1, u2] ∧ RelV v u1 ∧ RelV w u2 := by
    cases r1 with
    | cons p q =>
      cases q with
      | cons p' q' =>
        cases q'
        exact ⟨_, _, rfl, p, p'⟩
  refine wpAny_newObj_type ?_ (by show 2 ≤ sizeLine; decide)
  have I2 : Inv X pins σ H1 { s1 with heap := s1.heap.push { cls := .type "tuple", data := .seq [u1, u2].toArray } } := I1.kept (t' := s1.toks) fun b o e => Heap.get?_push_of_some _ e
  rw [hw]
  refine wpAny_bind (wpAny_pure ?_)
  show wpAny (model X.prog X.w) X.A (do rule "assign.swapped-stores"; let items ← unpackItems (.ref s1.heap.objs.size) 2 none; assignInOrder [fun v => bindName X.env y v, fun v => bindName X.env x v] items.reverse; pure Flow.next) _ _ _
  refine wpAny_bind (wpAny_rule (wpAny_bind (unpackItems_tuple (items := #[u1, u2]) (I.ok.hd hc) (IsTup.new s1.heap _) fun h' hx' => ?_)))
  have I3 := I2.kept (h' := h') (t' := s1.toks) fun b o e => hx' b o (Nat.ne_of_lt (Heap.lt_size e)) e
  show wpAny _ _ (assignInOrder [fun v => bindName X.env y v, fun v => bindName X.env x v] [u2, u1] >>= fun _ => pure Flow.next) _ _ _
  refine wpAny_bind (assignInOrder_cons (wpAny_bindName (store_ok I3 hN hj (.inl hy) rw' (fun s2 I4 => ?_) (.inr hy))))
  refine assignInOrder_cons (wpAny_bindName (store_ok I4 hN hi (.inl hx) rv (fun s3 I5 => assignInOrder_nil (wpAny_pure ?_)) (.inr hx)))
  rw [List.set_comm _ _ (Ne.symm hij)] at I5
  exact ⟨_, H1, I5, q1⟩
/-- name op= e -/
def tAug (i : Nat) (te : TE) (ti : TIp) : TS := fun D σ H => ∃ x, σ[i]? = some (some x) ∧ te σ H fun y H1 => ti x y H1 fun z H2 => D.nx (σ.set i (some z)) H2
theorem ps_aug {i : Nat} {x : Str} {e : Expr} {te : TE} {op : Operator} {ti : TIp} {pos' : Pos} (hN : X.N.Nodup) (hi : X.N[i]? = some x) (hx : Loc X.env.scope x) (he : PE X e te) (ho : PIp X op ti) (hf : X.fn x = true ∨ X.env.scope.names.lookup x = some .local := by first | exact .inl rfl | exact .inr rfl | assumption) :
    PS X (.AugAssign (.Name x pos') op e pos) (tAug i te ti) := by
  intro pins s σ H D I h
  obtain ⟨v, e1, h⟩ := h
  obtain ⟨m, hn, hl⟩ := I.loc
  have vis : Vis X.env.scope x := by rcases hx with k | k; exact .inl k; exact .inr (.inl k)
  obtain ⟨u, r, l⟩ := hl i x v hi e1 vis
  refine wpAny_AugAssign_Name ?_
  have go : wpAny (model X.prog X.w) X.A (eval e X.env) (fun w s₂ => wpAny (model X.prog X.w) X.A (inplaceOp op u w) (fun r s₃ => wpAny (model X.prog X.w) X.A (storeName X.env x r) (fun _ => SP X pins D .next) X.xe s₃) X.xe s₂) X.xe s := by
    refine thn (he pins s σ H _ I h) fun w s1 ⟨y, H1, I1, r1, q1⟩ => ?_
    refine thn (ho pins s1 σ H1 v y u w _ I1 r r1 q1) fun z s2 ⟨zv, H2, I2, r2, q2⟩ => ?_
    exact store_ok I2 hN hi hx r2 (fun s3 I3 => ⟨_, H2, I3, q2⟩) hf
  rcases l with ⟨hk, hm⟩ | ⟨hk, c, hc, hcell⟩
  · exact wpAny_loadName_local I.ok.kind hk hn hm go
  · rcases hk with hk | hk
    · exact wpAny_loadName_cell I.ok.kind hk hc hcell go
    · rcases hx with k | k
      · have : X.env.scope.names.lookup x = some .free := hk
        rw [k] at this; cases this
      · have : X.env.scope.names.lookup x = some .free := hk
        rw [k] at this; cases this
/-- o[i] op= e -/
def tAugS (to ti te : TE) (tget : V → V → Hp → VK → Prop) (tip : TIp) (tset : TSet) : TS := fun D σ H => to σ H fun o H1 => ti σ H1 fun i H2 => tget o i H2 fun x H3 => te σ H3 fun y H4 => tip x y H4 fun z H5 => tset o i z H5 fun H6 => D.nx σ H6
/-- o[i], by values -/
def PGet (X : Cx) (t : V → V → Hp → VK → Prop) : Prop :=
  ∀ (pins : List (Addr × Obj)) (s : Shared) (σ : St) (H : Hp) (o i : V) (ov iv : Value) (Q : VK), Inv X pins σ H s → RelV o ov → RelV i iv → t o i H Q →
    wpAny (model X.prog X.w) X.A (getItem ov iv) (EP X pins σ Q) X.xe s
theorem ps_augS {o i e : Expr} {to ti te : TE} {tget : V → V → Hp → VK → Prop} {tip : TIp} {tset : TSet} {op : Operator} {tpos : Pos} (ho : PE X o to) (hi : PE X i ti) (hg : PGet X tget) (he : PE X e te) (hp : PIp X op tip) (hs : PSet X tset)
    (ha : ∀ ov iv new, augStore i ov iv new = (do holding [new, ov, iv] (setItem ov iv new); release [new, ov, iv] []; pure .next) := by intros; rfl) : PS X (.AugAssign (.Subscript o i tpos) op e pos) (tAugS to ti te tget tip tset) := by
  intro pins s σ H D I h
  refine wpAny_AugAssign_SubscriptAny (thn (ho pins s σ H _ I h) fun ov s1 ⟨x1, H1, I1, r1, q1⟩ => ?_) ha
  refine thn (hi pins s1 σ H1 _ I1 q1) fun iv s2 ⟨x2, H2, I2, r2, q2⟩ => ?_
  refine thn (hg pins s2 σ H2 x1 x2 ov iv _ I2 r1 r2 q2) fun old s3 ⟨x3, H3, I3, r3, q3⟩ => ?_
  refine thn (he pins s3 σ H3 _ I3 q3) fun v s4 ⟨x4, H4, I4, r4, q4⟩ => ?_
  refine thn (hp pins s4 σ H4 x3 x4 old v _ I4 r3 r4 q4) fun new s5 ⟨x5, H5, I5, r5, q5⟩ => ?_
  exact thn (hs pins s5 σ H5 x1 x2 x5 ov iv new _ I5 r1 r2 r5 q5) fun _ s6 ⟨H6, I6, q6⟩ => ⟨σ, H6, I6, q6⟩
/-- ints -/
def ipI (f : Int → Int → Int) : TIp := fun x y H Q => ∃ i j, x = .int i ∧ y = .int j ∧ Q (.int (f i j)) H
theorem ip_add : PIp X .Add (ipI fun i j => i + j) := by
  intro pins s σ H x y v u Q I r1 r2 h
  obtain ⟨i, j, e1, e2, q⟩ := h
  subst e1; subst e2
  obtain ⟨t, rfl⟩ := r1
  obtain ⟨t', rfl⟩ := r2
  exact iadd_int ⟨.int _, H, I.tok _, ⟨_, rfl⟩, q⟩
theorem ip_sub : PIp X .Sub (ipI fun i j => i - j) := by
  intro pins s σ H x y v u Q I r1 r2 h
  obtain ⟨i, j, e1, e2, q⟩ := h
  subst e1; subst e2
  obtain ⟨t, rfl⟩ := r1
  obtain ⟨t', rfl⟩ := r2
  exact isub_int ⟨.int _, H, I.tok _, ⟨_, rfl⟩, q⟩
end

/-! ### while -/
section
variable {X : Cx} {pos : Pos}
/-- the invariant W with its measure -/
def tWhile (c : TT) (tb : TS) : TS := fun D σ H => ∃ W : Nat → St → Hp → Prop, (∃ m, W m σ H) ∧ ∀ m σ H, W m σ H →
  c σ H fun b H1 => if b = true then ∃ N : St → Hp → Prop, (∀ σ' H', N σ' H' → ∃ m', m' < m ∧ W m' σ' H') ∧ tb { D with nx := N, ct := N, bk := D.nx } σ H1 else D.nx σ H1
theorem ps_while {c : Expr} {body : List Stmt} {tc : TT} {tb : TS} (hp : PassesOwn (model X.prog X.w) X.A X.env X.xe) (hc : PT X c tc) (hb : PSs X body tb) : PS X (.While c body [] pos) (tWhile tc tb) := by
  intro pins s σ H D I h
  obtain ⟨W, ⟨m0, w0⟩, turn⟩ := h
  refine wpAny_While (codeAny_whileLoop (fun n s' => ∃ σ' H', Inv X pins σ' H' s' ∧ W n σ' H') ?_ m0 ⟨σ, H, I, w0⟩)
  rintro n s1 ⟨σ1, H1, I1, w1⟩
  refine wpAny_passesOwn hp (thn (hc pins s1 σ1 H1 _ I1 (turn n σ1 H1 w1)) fun b s2 ⟨H2, I2, q2⟩ => ?_)
  cases b with
  | true =>
    obtain ⟨N, hN, q2⟩ := q2
    rw [if_pos rfl]
    refine wpAny_passesOwn hp (thn (hb pins s2 σ1 H2 _ I2 q2) fun f s3 q3 => ?_)
    cases f with
    | next =>
      obtain ⟨σ3, H3, I3, n3⟩ := q3
      obtain ⟨m', hm, w3⟩ := hN σ3 H3 n3
      exact ⟨m', hm, σ3, H3, I3, w3⟩
    | cont =>
      obtain ⟨σ3, H3, I3, n3⟩ := q3
      obtain ⟨m', hm, w3⟩ := hN σ3 H3 n3
      exact ⟨m', hm, σ3, H3, I3, w3⟩
    | brk => exact q3
    | ret v => exact q3
  | false =>
    rw [if_neg Bool.false_ne_true]
    exact wpAny_execs_nil ⟨σ1, H2, I2, q2⟩
end

/-! ### what a loop or a comprehension walks -/
/-- at turn i: it yields x (the heap may grow), or it stops -/
structure It where
  go : Nat → Hp → Prop
  yld : Nat → Hp → V → Hp → Prop
  stop : Nat → Hp → Prop
/-- the iterator's own objects may turn: they are not the frame's, not pinned, younger than the entry (or a comprehension's own) -/
def FpOk (X : Cx) (pins : List (Addr × Obj)) (H : Hp) (b : Addr) : Prop :=
  H b = none ∧ b ≠ X.env.locals ∧ b ∉ X.fs ∧ (b ∈ X.ex ∨ X.s₀.heap.objs.size ≤ b) ∧ (∀ x c, X.env.cells.lookup x = some c → c ≠ b) ∧ ∀ p ∈ X.pn ++ pins, p.1 ≠ b
theorem Inv.fpOk {X : Cx} {pins : List (Addr × Obj)} {σ : St} {H H' : Hp} {s : Shared} {b : Addr} (I : Inv X pins σ H s) (hb : s.heap.objs.size ≤ b) (hn : H' b = none) : FpOk X pins H' b := by
  refine ⟨hn, Nat.ne_of_gt (Nat.lt_of_lt_of_le I.lt hb), I.nofs hb, .inr (Nat.le_trans I.sz hb), fun x c e z => ?_, fun p hp z => ?_⟩
  · obtain ⟨v, q⟩ := I.cell x c e
    exact absurd (Nat.lt_of_lt_of_le q.lt (by rw [z]; exact hb)) (Nat.lt_irrefl _)
  · exact absurd (Nat.lt_of_lt_of_le (Heap.lt_size (I.pin p hp).1) (by rw [z]; exact hb)) (Nat.lt_irrefl _)
structure Turn (P : Program) (w : World) (K : PySem.W.Frag) (tg : Expr) (J : It) (fp : List Addr) (it : Addr) (tn : Nat → Heap → Prop) : Prop where
  mem : it ∈ fp
  obj : ∀ i h, tn i h → ∀ b ∈ fp, ∃ o, h.get? b = some o ∧ ∀ v, o.data ≠ .cell v
  keep : ∀ i h h', tn i h → (∀ b ∈ fp, ∀ o, h.get? b = some o → h'.get? b = some o) → tn i h'
  item : ∀ (X : Cx), X.prog = P → X.w = w → X.K = K → X.calm = true → ∀ (i : Nat) (pins : List (Addr × Obj)) (s : Shared) (σ : St) (H : Hp) (E : Value → Shared → Prop), Inv X pins σ H s → (∀ b ∈ fp, FpOk X pins H b) → tn i s.heap → J.go i H →
    wpAny (model P w) X.A (pyNext (.ref it)) (fun r s1 => ∃ u, r = some u ∧
      wpAny (model P w) X.A (letOwnedTupleGo tg (.ref it) u) (fun _ s2 => ∃ x H', Inv X pins σ H' s2 ∧ RelV x u ∧ J.yld i H x H' ∧ tn (i + 1) s2.heap ∧ ∀ b ∈ fp, H' b = none) E s1) E s
  done : ∀ (X : Cx), X.prog = P → X.w = w → X.K = K → X.calm = true → ∀ (i : Nat) (pins : List (Addr × Obj)) (s : Shared) (σ : St) (H : Hp) (E : Value → Shared → Prop), Inv X pins σ H s → (∀ b ∈ fp, FpOk X pins H b) → tn i s.heap → J.stop i H →
    wpAny (model P w) X.A (pyNext (.ref it)) (fun r s1 => r = none ∧ Inv X pins σ H s1) E s
  self : ∀ (A : Around) (i : Nat) (s : Shared) (Q : Value → Shared → Prop) (E : Value → Shared → Prop), tn i s.heap → Q (.ref it) s → wpAny (model P w) A (pyIter (.ref it)) Q E s
abbrev TI := St → Hp → (It → Hp → Prop) → Prop
/-- an iterator has come -/
def PIE (X : Cx) (pins : List (Addr × Obj)) (σ : St) (tg : Expr) (R : It → Hp → Prop) (itv : Value) (s2 : Shared) : Prop :=
  ∃ (it : Addr) (fp : List Addr) (tn : Nat → Heap → Prop) (J : It) (H' : Hp), itv = .ref it ∧ Inv X pins σ H' s2 ∧ Turn X.prog X.w X.K tg J fp it tn ∧ tn 0 s2.heap ∧ (∀ b ∈ fp, FpOk X pins H' b) ∧ R J H'
def PI (X : Cx) (tg iter : Expr) (wi : TI) : Prop :=
  ∀ (pins : List (Addr × Obj)) (s : Shared) (σ : St) (H : Hp) (R : It → Hp → Prop), Inv X pins σ H s → wi σ H R →
    wpAny (model X.prog X.w) X.A (eval iter X.env) (fun v s1 => wpAny (model X.prog X.w) X.A (pyIter v) (PIE X pins σ tg R) X.xe s1) X.xe s

/-- the step ahead of the store is nothing for an iterator that keeps no tuple -/
theorem go_of {M : Model} {A : Around} {E : Value → Shared → Prop} {s : Shared} {tg : Expr} {it : Addr} {u : Value} {o : Obj} {n : String} {vs : Array Value} {Q : Unit → Shared → Prop} (ho : s.heap.get? it = some o) (hc : o.cls = .type n) (hd : o.data = .fields vs)
    (hn : ["enumerate", "zip", "dict_itemiterator", "dict_reverseitemiterator", "odict_iterator", "itertools.zip_longest", "itertools.pairwise"].contains n = false) (hQ : Q () s) : wpAny M A (letOwnedTupleGo tg (.ref it) u) Q E s := by
  unfold letOwnedTupleGo
  cases tg <;> first
    | exact wpAny_pure hQ
    | (cases u <;> first
        | exact wpAny_pure hQ
        | (refine wpAny_bind (wpAny_load ho ?_)
           rw [hc, hd]
           show wpAny M A (if (["enumerate", "zip", "dict_itemiterator", "dict_reverseitemiterator", "odict_iterator", "itertools.zip_longest", "itertools.pairwise"].contains n && vs[0]? == some (rawInt _)) = true then _ else _) Q E s
           rw [if_neg (by intro h; rw [hn, Bool.false_and] at h; cases h)]
           exact wpAny_pure hQ))

/-- the list at a, as it stands at each turn (a loop may append to it) -/
def Itl (K : PySem.W.Frag) (a : Addr) : It :=
  ⟨fun i H => ∃ xs x, SqL K H a xs ∧ xs[i]? = some x, fun i H x H' => H' = H ∧ ∀ xs, SqL K H a xs → xs[i]? = some x, fun i H => ∃ xs, SqL K H a xs ∧ xs.length ≤ i⟩
def Itt (K : PySem.W.Frag) (a : Addr) : It :=
  ⟨fun i H => ∃ xs x, SqT K H a xs ∧ xs[i]? = some x, fun i H x H' => H' = H ∧ ∀ xs, SqT K H a xs → xs[i]? = some x, fun i H => ∃ xs, SqT K H a xs ∧ xs.length ≤ i⟩
/-- lo, lo + 1, .. (n of them) -/
def Itr (lo : Int) (n : Nat) : It := ⟨fun i _ => i < n, fun i H x H' => H' = H ∧ x = .int (lo + i), fun i _ => n ≤ i⟩
theorem turn_list {P : Program} {w : World} {K : PySem.W.Frag} {tg : Expr} (a it : Addr) : Turn P w K tg (Itl K a) [it] it (fun i h => h.IsListIter it a i) where
  mem := by simp
  obj := fun i h st b hb => by
    have e : b = it := by simpa using hb
    subst e
    obtain ⟨o, e, c, d⟩ := st
    exact ⟨o, e, fun v z => by rw [d] at z; cases z⟩
  keep := fun i h h' st k => st.at fun o e => k it (by simp) o e
  item := by
    intro X hP hw hK hc i pins s σ H E I hf st hg
    subst hP hw hK
    obtain ⟨xs, x, hq, hx⟩ := hg
    obtain ⟨its, rv, p, hz⟩ := I.list hq
    obtain ⟨u, hu, ru⟩ := rv.get hx
    obtain ⟨f0, f1, f2, f3, f4, f5⟩ := hf it (by simp)
    refine wpAny_pyNext_list_item st p.isList (x := u) (by simpa using hu) fun h' st' sb => ?_
    have I1 : Inv X pins σ H { s with heap := h' } := I.turned (t' := s.toks) (fun b o hb e => (sb.2 b hb).trans e) f0 f1 f3 f4 f5
    obtain ⟨o, e, c, d⟩ := id st'
    exact ⟨u, rfl, go_of (s := { s with heap := h' }) e c d (by decide) ⟨x, H, I1, ru, ⟨rfl, fun ys hy => by rw [I.list_inj hy hq]; exact hx⟩, st', fun b hb => (hf b hb).1⟩⟩
  done := by
    intro X hP hw hK hc i pins s σ H E I hf st hg
    subst hP hw hK
    obtain ⟨xs, hq, hx⟩ := hg
    obtain ⟨its, rv, p, hz⟩ := I.list hq
    obtain ⟨f0, f1, f2, f3, f4, f5⟩ := hf it (by simp)
    have hl := rv.length
    exact wpAny_pyNext_list_end (I.ok.hd hc) st p.isList (by simp; omega) fun h' eb => ⟨rfl, I.turned (t' := s.toks) (fun b o hb e => eb b o hb e) f0 f1 f3 f4 f5⟩
  self := fun _ _ _ _ _ st h => wpAny_pyIter_listiter st h
theorem turn_tuple {P : Program} {w : World} {K : PySem.W.Frag} {tg : Expr} (a it : Addr) : Turn P w K tg (Itt K a) [it] it (fun i h => h.IsTupleIter it a i) where
  mem := by simp
  obj := fun i h st b hb => by
    have e : b = it := by simpa using hb
    subst e
    obtain ⟨o, e, c, d⟩ := st
    exact ⟨o, e, fun v z => by rw [d] at z; cases z⟩
  keep := fun i h h' st k => st.at fun o e => k it (by simp) o e
  item := by
    intro X hP hw hK hc i pins s σ H E I hf st hg
    subst hP hw hK
    obtain ⟨xs, x, hq, hx⟩ := hg
    obtain ⟨its, rv, p, hz⟩ := I.tuple hq
    obtain ⟨u, hu, ru⟩ := rv.get hx
    obtain ⟨f0, f1, f2, f3, f4, f5⟩ := hf it (by simp)
    refine wpAny_pyNext_tuple_item st (show s.heap.IsTuple a its.toArray from p) (x := u) (by simpa using hu) fun h' st' sb => ?_
    have I1 : Inv X pins σ H { s with heap := h' } := I.turned (t' := s.toks) (fun b o hb e => (sb.2 b hb).trans e) f0 f1 f3 f4 f5
    obtain ⟨o, e, c, d⟩ := id st'
    exact ⟨u, rfl, go_of (s := { s with heap := h' }) e c d (by decide) ⟨x, H, I1, ru, ⟨rfl, fun ys hy => by rw [I.tuple_inj hy hq]; exact hx⟩, st', fun b hb => (hf b hb).1⟩⟩
  done := by
    intro X hP hw hK hc i pins s σ H E I hf st hg
    subst hP hw hK
    obtain ⟨xs, hq, hx⟩ := hg
    obtain ⟨its, rv, p, hz⟩ := I.tuple hq
    obtain ⟨f0, f1, f2, f3, f4, f5⟩ := hf it (by simp)
    have hl := rv.length
    exact wpAny_pyNext_tuple_end (I.ok.hd hc) st (show s.heap.IsTuple a its.toArray from p) (by simp; omega) fun h' eb => ⟨rfl, I.turned (t' := s.toks) (fun b o hb e => eb b o hb e) f0 f1 f3 f4 f5⟩
  self := fun _ _ _ _ _ st h => wpAny_pyIter_tupleiter st h
theorem turn_range {P : Program} {w : World} {K : PySem.W.Frag} {tg : Expr} (it : Addr) (lo : Int) (n : Nat) : Turn P w K tg (Itr lo n) [it] it (fun i h => IsRangeIter h it (lo + (i : Nat) * 1) ((n : Int) - (i : Nat)) 1) where
  mem := by simp
  obj := fun i h st b hb => by
    have e : b = it := by simpa using hb
    subst e
    exact ⟨_, st, fun v z => by
      have z' : Data.fields _ = Data.cell v := z
      cases z'⟩
  keep := fun i h h' st k => k it (by simp) _ st
  item := by
    intro X hP hw hK hc i pins s σ H E I hf st hg
    subst hP hw hK
    obtain ⟨f0, f1, f2, f3, f4, f5⟩ := hf it (by simp)
    have W := Walks.range (prog := X.prog) (w := X.w) (I.ok.hd hc) it lo 1 n
    refine W.item i s _ _ hg st fun v h' tk hv st' kk => ?_
    obtain ⟨t, rfl⟩ := hv
    have I1 : Inv X pins σ H { s with heap := h', toks := tk } := I.turned (fun b o hb e => kk b o (by simpa using hb) e) f0 f1 f3 f4 f5
    refine ⟨_, rfl, go_of (s := { s with heap := h', toks := tk }) (n := "range_iterator") st' rfl rfl (by decide) ⟨.int (lo + i), H, I1, ⟨t, ?_⟩, ⟨rfl, rfl⟩, st', fun b hb => (hf b hb).1⟩⟩
    rw [Int.mul_one]
  done := by
    intro X hP hw hK hc i pins s σ H E I hf st hg
    subst hP hw hK
    obtain ⟨f0, f1, f2, f3, f4, f5⟩ := hf it (by simp)
    exact wpAny_pyNext_range_end (I.ok.hd hc) st (by have : n ≤ i := hg; omega) fun h' eb => ⟨rfl, I.turned (t' := s.toks) (fun b o hb e => eb b o hb e) f0 f1 f3 f4 f5⟩
  self := fun _ _ _ _ _ st h => wpAny_pyIter_rangeiter st h
end L2

namespace L2
open PySem PySem.Spec PyProof.Rows
section
variable {X : Cx} {tg : Expr}
def iList (K : PySem.W.Frag) (tl : TE) : TI := fun σ H R => tl σ H fun x H1 => ∃ a, x = .ref a ∧ (∃ xs, SqL K H1 a xs) ∧ R (Itl K a) H1
def iTup (K : PySem.W.Frag) (tl : TE) : TI := fun σ H R => tl σ H fun x H1 => ∃ a, x = .ref a ∧ (∃ xs, SqT K H1 a xs) ∧ R (Itt K a) H1
theorem pi_list {l : Expr} {tl : TE} (hl : PE X l tl) : PI X tg l (iList X.K tl) := by
  intro pins s σ H R I h
  refine thn (hl pins s σ H _ I h) fun v s1 ⟨x, H1, I1, r1, q1⟩ => ?_
  obtain ⟨a, e, ⟨xs, hq⟩, q⟩ := q1
  subst e
  cases r1
  obtain ⟨its, rv, p, hz⟩ := I1.list hq
  refine wpAny_pyIter_list p.isList ?_
  refine ⟨s1.heap.objs.size, [s1.heap.objs.size], _, _, H1, rfl, I1.kept (t' := s1.toks) fun b o e => Heap.get?_push_of_some _ e, turn_list a _, ⟨_, Heap.get?_push_size _ rfl, rfl, rfl⟩, fun b hb => ?_, q⟩
  have e : b = s1.heap.objs.size := by simpa using hb
  subst e
  exact I1.fpOk (Nat.le_refl _) (I1.hok.fresh (Nat.le_refl _))
theorem pi_tup {l : Expr} {tl : TE} (hl : PE X l tl) : PI X tg l (iTup X.K tl) := by
  intro pins s σ H R I h
  refine thn (hl pins s σ H _ I h) fun v s1 ⟨x, H1, I1, r1, q1⟩ => ?_
  obtain ⟨a, e, ⟨xs, hq⟩, q⟩ := q1
  subst e
  cases r1
  obtain ⟨its, rv, p, hz⟩ := I1.tuple hq
  refine wpAny_pyIter_tuple (show s1.heap.IsTuple a its.toArray from p) ?_
  refine ⟨s1.heap.objs.size, [s1.heap.objs.size], _, _, H1, rfl, I1.kept (t' := s1.toks) fun b o e => Heap.get?_push_of_some _ e, turn_tuple a _, ⟨_, Heap.get?_push_size _ rfl, rfl, rfl⟩, fun b hb => ?_, q⟩
  have e : b = s1.heap.objs.size := by simpa using hb
  subst e
  exact I1.fpOk (Nat.le_refl _) (I1.hok.fresh (Nat.le_refl _))
/-- a range object just made, walked -/
theorem range_it {pins : List (Addr × Obj)} {σ : St} {H : Hp} {s : Shared} {R : It → Hp → Prop} {E : Value → Shared → Prop} {lo hi : Int} {t u v : Tok} {tk : Nat} (I : Inv X pins σ H s) (h1 : -(2 ^ 62) ≤ lo) (h2 : lo < 2 ^ 62) (h3 : -(2 ^ 62) ≤ hi) (h4 : hi < 2 ^ 62)
    (q : R (Itr lo (hi - lo).toNat) H) : wpAny (model X.prog X.w) X.A (pyIter (.ref s.heap.objs.size)) (PIE X pins σ tg R) E { s with heap := s.heap.push { cls := .type "range", data := .fields #[.int lo t, .int hi u, .int 1 v] }, toks := tk } := by
  refine wpAny_pyIter_range (IsRange.new ..) (small_one h1 h2 h3 h4) ?_
  have I1 : Inv X pins σ H { s with heap := s.heap.push { cls := .type "range", data := .fields #[.int lo t, .int hi u, .int 1 v] }, toks := tk } := I.kept fun b o e => Heap.get?_push_of_some _ e
  refine ⟨(s.heap.push { cls := .type "range", data := .fields #[.int lo t, .int hi u, .int 1 v] }).objs.size, [(s.heap.push { cls := .type "range", data := .fields #[.int lo t, .int hi u, .int 1 v] }).objs.size], _, _, H, rfl,
    I1.kept (t' := tk) fun b o e => Heap.get?_push_of_some _ e, turn_range _ lo (hi - lo).toNat, ?_, fun b hb => ?_, q⟩
  · have e1 : lo + ((0 : Nat) : Int) * 1 = lo := by simp
    have e2 : (((hi - lo).toNat : Nat) : Int) - ((0 : Nat) : Int) = Builtin.Range.rangeSize lo hi 1 := by rw [rangeSize_one]; split <;> omega
    show IsRangeIter _ _ (lo + ((0 : Nat) : Int) * 1) ((((hi - lo).toNat : Nat) : Int) - ((0 : Nat) : Int)) 1
    rw [e1, e2]
    exact Heap.get?_push_size _ rfl
  · have e : b = (s.heap.push { cls := .type "range", data := .fields #[.int lo t, .int hi u, .int 1 v] }).objs.size := by simpa using hb
    subst e
    exact I1.fpOk (Nat.le_refl _) (I1.hok.fresh (Nat.le_refl _))
def iRng1 (ta : TA) : TI := fun σ H R => ta σ H fun vs H1 => ∃ j : Int, vs = [.int j] ∧ -(2 ^ 62) ≤ j ∧ j < 2 ^ 62 ∧ R (Itr 0 j.toNat) H1
def iRng2 (ta : TA) : TI := fun σ H R => ta σ H fun vs H1 => ∃ i j : Int, vs = [.int i, .int j] ∧ (-(2 ^ 62) ≤ i ∧ i < 2 ^ 62 ∧ -(2 ^ 62) ≤ j ∧ j < 2 ^ 62) ∧ R (Itr i (j - i).toNat) H1
theorem pi_range1 {a : Expr} {ta : TA} {p pos : Pos} (hg : Gl X "range") (hm : X.mg "range" = none) (ha : PA X [a] ta) (hs : starEach [a] X.env = [(false, eval a X.env)] := by rfl) : PI X tg (.Call (.Name "range" p) [a] [] pos) (iRng1 ta) := by
  intro pins s σ H R I h
  refine Call_ (ld_blt I hg hm boot_range (PyProof.Rows.callWith_type1 (thn (ha pos pins s σ H _ I h) fun us s1 ⟨vs, H1, I1, r1, q1⟩ => ?_) hs rfl))
  obtain ⟨j, e, q1, q2, q⟩ := q1
  subst e
  cases r1 with
  | cons r rr =>
    cases rr
    obtain ⟨t, rfl⟩ := r
    exact call_range_1 (range_it I1 (by omega) (by omega) q1 q2 (by simpa using q))
theorem pi_range2 {a b : Expr} {ta : TA} {p pos : Pos} (hg : Gl X "range") (hm : X.mg "range" = none) (ha : PA X [a, b] ta) (hs : starEach [a, b] X.env = [(false, eval a X.env), (false, eval b X.env)] := by rfl) (hs2 : starEach [b] X.env = [(false, eval b X.env)] := by rfl) :
    PI X tg (.Call (.Name "range" p) [a, b] [] pos) (iRng2 ta) := by
  intro pins s σ H R I h
  refine Call_ (ld_blt I hg hm boot_range (PyProof.Rows.callWith_type1 (thn (ha pos pins s σ H _ I h) fun us s1 ⟨vs, H1, I1, r1, q1⟩ => ?_) (by rw [hs, hs2]) (by rw [hs2]; rfl)))
  obtain ⟨i, j, e, ⟨q1, q2, q3, q4⟩, q⟩ := q1
  subst e
  cases r1 with
  | cons r rr =>
    cases rr with
    | cons r' rr =>
      cases rr
      obtain ⟨t, rfl⟩ := r
      obtain ⟨t', rfl⟩ := r'
      exact call_range_2 (range_it I1 q1 q2 q3 q4 q)

/-! ### for -/
/-- W: the invariant by the turn and a measure; N: what the body is to reach -/
def tFor (wi : TI) (g : TG) (tb : TS) : TS := fun D σ H => wi σ H fun J H1 => ∃ W : Nat → Nat → St → Hp → Prop, (∃ m, W 0 m σ H1) ∧ ∀ i m σ H, W i m σ H →
  (J.stop i H ∧ D.nx σ H) ∨ (J.go i H ∧ ∃ N : St → Hp → Prop, (∀ σ' H', N σ' H' → ∃ m', m' < m ∧ W (i + 1) m' σ' H') ∧ ∀ x H', J.yld i H x H' → g x σ H' fun σ2 H2 => tb { D with nx := N, ct := N, bk := D.nx } σ2 H2)
/-- the records at fp as they stand -/
def pinsAt (fp : List Addr) (h : Heap) : List (Addr × Obj) := fp.filterMap fun b => (h.get? b).map fun o => (b, o)
theorem mem_pinsAt {fp : List Addr} {h : Heap} {b : Addr} {o : Obj} (hb : b ∈ fp) (e : h.get? b = some o) : (b, o) ∈ pinsAt fp h := List.mem_filterMap.mpr ⟨b, hb, by rw [e]; rfl⟩
theorem of_pinsAt {fp : List Addr} {h : Heap} {p : Addr × Obj} (hp : p ∈ pinsAt fp h) : p.1 ∈ fp ∧ h.get? p.1 = some p.2 := by
  obtain ⟨b, hb, e⟩ := List.mem_filterMap.mp hp
  cases q : h.get? b with
  | none => rw [q] at e; cases e
  | some o =>
    rw [q] at e
    have e' : (b, o) = p := Option.some.inj e
    subst e'
    exact ⟨hb, q⟩
theorem Inv.pinned {pins : List (Addr × Obj)} {σ : St} {H : Hp} {s : Shared} {fp : List Addr} (I : Inv X pins σ H s) (hf : ∀ b ∈ fp, FpOk X pins H b) (ho : ∀ b ∈ fp, ∃ o, s.heap.get? b = some o ∧ ∀ v, o.data ≠ .cell v) : Inv X (pins ++ pinsAt fp s.heap) σ H s :=
  I.pins_of fun p hp => (List.mem_append.mp hp).elim (fun z => I.pin p (List.mem_append_right _ z)) fun z => by
    obtain ⟨hb, e⟩ := of_pinsAt z
    obtain ⟨f0, f1, f2, _⟩ := hf p.1 hb
    obtain ⟨o, e', d⟩ := ho p.1 hb
    rw [e] at e'; cases e'
    exact ⟨e, f0, f1, f2, d⟩
theorem Inv.unpinned {pins pl : List (Addr × Obj)} {σ : St} {H : Hp} {s : Shared} (I : Inv X (pins ++ pl) σ H s) : Inv X pins σ H s := I.pins_of fun p hp => I.pin p (List.mem_append_right _ (List.mem_append_left _ hp))
theorem ps_for {iter : Expr} {body : List Stmt} {wi : TI} {g : TG} {tb : TS} {pos : Pos} (hp : PassesOwn (model X.prog X.w) X.A X.env X.xe) (hc : X.calm = true) (hi : PI X tg iter wi) (hg : PG X tg g) (hb : PSs X body tb)
    (hs : ∀ x, foldedSetIterable iter X.env x = pure x := by intro _; rfl) : PS X (.For tg iter body [] pos) (tFor wi g tb) := by
  intro pins s σ H D I h
  refine wpAny_For (thn (hi pins s σ H _ I h) fun v s1 h1 => thn h1 fun itv s2 h2 => ?_) hs
  obtain ⟨it, fp, tn, J, H2, e, I2, T, st2, f2, W, ⟨m0, w0⟩, turn⟩ := h2
  subst e
  -- what stays true of the iterator's objects through the loop
  have stat : ∀ {H' : Hp}, (∀ b ∈ fp, H' b = none) → ∀ b ∈ fp, FpOk X pins H' b := fun hn b hb => ⟨hn b hb, (f2 b hb).2⟩
  refine codeAny_forLoop_any (fun n s' => ∃ i σ' H', Inv X pins σ' H' s' ∧ tn i s'.heap ∧ (∀ b ∈ fp, H' b = none) ∧ W i n σ' H') ?_ m0 ⟨0, σ, H2, I2, st2, fun b hb => (f2 b hb).1, w0⟩
  rintro n s3 ⟨i, σ3, H3, I3, st3, fr3, w3⟩
  rcases turn i n σ3 H3 w3 with ⟨stop, qn⟩ | ⟨go, N, hN, step⟩
  · refine wpAny_passesOwn hp (thn (T.done X rfl rfl rfl hc i pins s3 σ3 H3 X.xe I3 (stat fr3) st3 stop) fun r s4 ⟨hr, I4⟩ => ?_)
    subst hr
    exact wpAny_execs_nil ⟨σ3, H3, I4, qn⟩
  · refine wpAny_passesOwn hp (thn (T.item X rfl rfl rfl hc i pins s3 σ3 H3 X.xe I3 (stat fr3) st3 go) fun r s4 ⟨u, hr, h4⟩ => ?_)
    subst hr
    refine wpAny_passesOwn hp (thn h4 fun _ s5 ⟨x, H5, I5, r5, y5, st5, fr5⟩ => ?_)
    have I5' := I5.pinned (stat fr5) (T.obj _ _ st5)
    refine wpAny_passesOwn hp (thn (hg _ s5 σ3 H5 x u _ I5' r5 (step x H5 y5)) fun _ s6 ⟨σ6, H6, I6, q6⟩ => ?_)
    refine wpAny_passesOwn hp (thn (hb _ s6 σ6 H6 _ I6 q6) fun f s7 q7 => ?_)
    have again : ∀ {σ7 : St} {H7 : Hp}, Inv X (pins ++ pinsAt fp s5.heap) σ7 H7 s7 → N σ7 H7 → ∃ m, m < n ∧ ∃ i σ' H', Inv X pins σ' H' s7 ∧ tn i s7.heap ∧ (∀ b ∈ fp, H' b = none) ∧ W i m σ' H' := fun {σ7 H7} I7 n7 => by
      obtain ⟨m', hm, w7⟩ := hN σ7 H7 n7
      refine ⟨m', hm, i + 1, σ7, H7, I7.unpinned, T.keep _ _ _ st5 fun b hb o e => (I7.pin (b, o) (List.mem_append_right _ (List.mem_append_right _ (mem_pinsAt hb e)))).1, fun b hb => ?_, w7⟩
      obtain ⟨o, e, d⟩ := T.obj _ _ st5 b hb
      exact (I7.pin (b, o) (List.mem_append_right _ (List.mem_append_right _ (mem_pinsAt hb e)))).2.1
    cases f with
    | next => obtain ⟨σ7, H7, I7, n7⟩ := q7; exact again I7 n7
    | cont => obtain ⟨σ7, H7, I7, n7⟩ := q7; exact again I7 n7
    | brk => obtain ⟨σ7, H7, I7, q7⟩ := q7; exact ⟨σ7, H7, I7.unpinned, q7⟩
    | ret v => obtain ⟨x7, σ7, H7, I7, r7, q7⟩ := q7; exact ⟨x7, σ7, H7, I7.unpinned, r7, q7⟩
end

/-! ### the forms one uses -/
/-- over a list that the body leaves as it is -/
theorem for_list {K : PySem.W.Frag} {a : Addr} {xs : List V} {g : TG} {tb : TS} {D : Ends} {σ : St} {H : Hp} (Pv : Nat → St → Hp → Prop) (h0 : Pv 0 σ H) (hl : ∀ i σ H, i ≤ xs.length → Pv i σ H → SqL K H a xs)
    (hs : ∀ i x σ H, xs[i]? = some x → Pv i σ H → g x σ H fun σ2 H2 => tb { D with nx := Pv (i + 1), ct := Pv (i + 1), bk := D.nx } σ2 H2) (hd : ∀ σ H, Pv xs.length σ H → D.nx σ H) :
    ∃ W : Nat → Nat → St → Hp → Prop, (∃ m, W 0 m σ H) ∧ ∀ i m σ H, W i m σ H →
      ((Itl K a).stop i H ∧ D.nx σ H) ∨ ((Itl K a).go i H ∧ ∃ N : St → Hp → Prop, (∀ σ' H', N σ' H' → ∃ m', m' < m ∧ W (i + 1) m' σ' H') ∧ ∀ x H', (Itl K a).yld i H x H' → g x σ H' fun σ2 H2 => tb { D with nx := N, ct := N, bk := D.nx } σ2 H2) := by
  refine ⟨fun i m σ H => m = xs.length - i ∧ i ≤ xs.length ∧ Pv i σ H, ⟨xs.length, by simp, Nat.zero_le _, h0⟩, ?_⟩
  rintro i m σ H ⟨rfl, hi, p⟩
  have q := hl i σ H hi p
  by_cases hlt : i < xs.length
  · refine .inr ⟨⟨xs, xs[i], q, by simp [hlt]⟩, Pv (i + 1), fun σ' H' p' => ⟨xs.length - (i + 1), by omega, rfl, hlt, p'⟩, fun x H' y => ?_⟩
    obtain ⟨e, y⟩ := y
    subst e
    exact hs i x σ _ (y xs q) p
  · have e : i = xs.length := by omega
    subst e
    exact .inl ⟨⟨xs, q, Nat.le_refl _⟩, hd σ H p⟩
theorem for_tup {K : PySem.W.Frag} {a : Addr} {xs : List V} {g : TG} {tb : TS} {D : Ends} {σ : St} {H : Hp} (Pv : Nat → St → Hp → Prop) (h0 : Pv 0 σ H) (hl : ∀ i σ H, i ≤ xs.length → Pv i σ H → SqT K H a xs)
    (hs : ∀ i x σ H, xs[i]? = some x → Pv i σ H → g x σ H fun σ2 H2 => tb { D with nx := Pv (i + 1), ct := Pv (i + 1), bk := D.nx } σ2 H2) (hd : ∀ σ H, Pv xs.length σ H → D.nx σ H) :
    ∃ W : Nat → Nat → St → Hp → Prop, (∃ m, W 0 m σ H) ∧ ∀ i m σ H, W i m σ H →
      ((Itt K a).stop i H ∧ D.nx σ H) ∨ ((Itt K a).go i H ∧ ∃ N : St → Hp → Prop, (∀ σ' H', N σ' H' → ∃ m', m' < m ∧ W (i + 1) m' σ' H') ∧ ∀ x H', (Itt K a).yld i H x H' → g x σ H' fun σ2 H2 => tb { D with nx := N, ct := N, bk := D.nx } σ2 H2) := by
  refine ⟨fun i m σ H => m = xs.length - i ∧ i ≤ xs.length ∧ Pv i σ H, ⟨xs.length, by simp, Nat.zero_le _, h0⟩, ?_⟩
  rintro i m σ H ⟨rfl, hi, p⟩
  have q := hl i σ H hi p
  by_cases hlt : i < xs.length
  · refine .inr ⟨⟨xs, xs[i], q, by simp [hlt]⟩, Pv (i + 1), fun σ' H' p' => ⟨xs.length - (i + 1), by omega, rfl, hlt, p'⟩, fun x H' y => ?_⟩
    obtain ⟨e, y⟩ := y
    subst e
    exact hs i x σ _ (y xs q) p
  · have e : i = xs.length := by omega
    subst e
    exact .inl ⟨⟨xs, q, Nat.le_refl _⟩, hd σ H p⟩
theorem for_range {lo : Int} {n : Nat} {g : TG} {tb : TS} {D : Ends} {σ : St} {H : Hp} (Pv : Nat → St → Hp → Prop) (h0 : Pv 0 σ H)
    (hs : ∀ i σ H, i < n → Pv i σ H → g (.int (lo + i)) σ H fun σ2 H2 => tb { D with nx := Pv (i + 1), ct := Pv (i + 1), bk := D.nx } σ2 H2) (hd : ∀ σ H, Pv n σ H → D.nx σ H) :
    ∃ W : Nat → Nat → St → Hp → Prop, (∃ m, W 0 m σ H) ∧ ∀ i m σ H, W i m σ H →
      ((Itr lo n).stop i H ∧ D.nx σ H) ∨ ((Itr lo n).go i H ∧ ∃ N : St → Hp → Prop, (∀ σ' H', N σ' H' → ∃ m', m' < m ∧ W (i + 1) m' σ' H') ∧ ∀ x H', (Itr lo n).yld i H x H' → g x σ H' fun σ2 H2 => tb { D with nx := N, ct := N, bk := D.nx } σ2 H2) := by
  refine ⟨fun i m σ H => m = n - i ∧ i ≤ n ∧ Pv i σ H, ⟨n, by simp, Nat.zero_le _, h0⟩, ?_⟩
  rintro i m σ H ⟨rfl, hi, p⟩
  by_cases hlt : i < n
  · refine .inr ⟨hlt, Pv (i + 1), fun σ' H' p' => ⟨n - (i + 1), by omega, rfl, hlt, p'⟩, fun x H' y => ?_⟩
    obtain ⟨e, y⟩ := y
    subst e y
    exact hs i σ _ hlt p
  · have e : i = n := by omega
    subst e
    exact .inl ⟨Nat.le_refl _, hd σ H p⟩
/-- while, by a word and a measure of the state -/
theorem while_by {c : TT} {tb : TS} {D : Ends} {σ : St} {H : Hp} (Pv : St → Hp → Prop) (μ : St → Hp → Nat) (h0 : Pv σ H)
    (hs : ∀ σ H, Pv σ H → c σ H fun b H1 => if b = true then tb { D with nx := fun σ' H' => Pv σ' H' ∧ μ σ' H' < μ σ H, ct := fun σ' H' => Pv σ' H' ∧ μ σ' H' < μ σ H, bk := D.nx } σ H1 else D.nx σ H1)
    (mono : ∀ σ H Q Q', (∀ b H1, Q b H1 → Q' b H1) → c σ H Q → c σ H Q') : tWhile c tb D σ H := by
  refine ⟨fun m σ H => m = μ σ H ∧ Pv σ H, ⟨_, rfl, h0⟩, ?_⟩
  rintro m σ H ⟨rfl, p⟩
  refine mono σ H _ _ (fun b H1 q => ?_) (hs σ H p)
  cases b with
  | true => exact ⟨_, fun σ' H' ⟨p', l⟩ => ⟨_, l, rfl, p'⟩, q⟩
  | false => exact q
end L2

namespace L2
open PySem PySem.Spec PyProof.Rows

abbrev R2 := V → V → Hp → VK → Prop
/-- a two-place operation on values: f is binaryOp op, inplaceOp op or compareOp op -/
def OpR (X : Cx) (f : Value → Value → Sem Value) (r : R2) : Prop :=
  ∀ (pins : List (Addr × Obj)) (s : Shared) (σ : St) (H : Hp) (x y : V) (v u : Value) (Q : VK), Inv X pins σ H s → RelV x v → RelV y u → r x y H Q →
    wpAny (model X.prog X.w) X.A (f v u) (EP X pins σ Q) X.xe s
/-- a one-place operation -/
def UnR (X : Cx) (f : Value → Sem Value) (r : V → Hp → VK → Prop) : Prop :=
  ∀ (pins : List (Addr × Obj)) (s : Shared) (σ : St) (H : Hp) (x : V) (v : Value) (Q : VK), Inv X pins σ H s → RelV x v → r x H Q →
    wpAny (model X.prog X.w) X.A (f v) (EP X pins σ Q) X.xe s
/-- a call of a value that is known (a builtin, a type) with values -/
def CallR (X : Cx) (f : Value) (r : List V → Hp → VK → Prop) : Prop :=
  ∀ (pins : List (Addr × Obj)) (s : Shared) (σ : St) (H : Hp) (xs : List V) (us : List Value) (Q : VK), Inv X pins σ H s → Vals xs us → r xs H Q →
    wpAny (model X.prog X.w) X.A (call f us) (EP X pins σ Q) X.xe s
/-- a value's truth -/
def TruR (X : Cx) (r : V → Hp → (Bool → Hp → Prop) → Prop) : Prop :=
  ∀ (pins : List (Addr × Obj)) (s : Shared) (σ : St) (H : Hp) (x : V) (v : Value) (Q : Bool → Hp → Prop), Inv X pins σ H s → RelV x v → r x H Q →
    wpAny (model X.prog X.w) X.A (truthy v) (TP X pins σ Q) X.xe s

def tOp (r : R2) (ta tb : TE) : TE := fun σ H Q => ta σ H fun x H1 => tb σ H1 fun y H2 => r x y H2 Q
def tUn (r : V → Hp → VK → Prop) (ta : TE) : TE := fun σ H Q => ta σ H fun x H1 => r x H1 Q
/-- ints in, under C, and a value out -/
def rI (C : Int → Int → Prop) (g : Int → Int → V) : R2 := fun x y H Q => ∃ i j, x = .int i ∧ y = .int j ∧ C i j ∧ Q (g i j) H
def rI0 (g : Int → Int → V) : R2 := fun x y H Q => ∃ i j, x = .int i ∧ y = .int j ∧ Q (g i j) H
def rU (g : Int → V) : V → Hp → VK → Prop := fun x H Q => ∃ i, x = .int i ∧ Q (g i) H

section
variable {X : Cx} {a b c : Expr} {ta tb tc : TE} {pos : Pos}

theorem binT (ha : PE X a ta) (hb : PE X b tb) {pins : List (Addr × Obj)} {s : Shared} {σ : St} {H : Hp} {R : V → V → Hp → Prop} (I : Inv X pins σ H s)
    (h : ta σ H fun x H1 => tb σ H1 fun y H2 => R x y H2) {Q : Value → Shared → Prop} {f : Value → Value → Sem Value}
    (hf : ∀ v u s2 x y H2, Inv X pins σ H2 s2 → RelV x v → RelV y u → R x y H2 → wpAny (model X.prog X.w) X.A (f v u) Q X.xe s2) :
    wpAny (model X.prog X.w) X.A (eval a X.env) (fun v s₁ => wpAny (model X.prog X.w) X.A (eval b X.env) (fun u s₂ => wpAny (model X.prog X.w) X.A (f v u) Q X.xe s₂) X.xe s₁) X.xe s := by
  refine thn (ha pins s σ H _ I h) fun v s1 ⟨x, H1, I1, r1, q1⟩ => ?_
  refine thn (hb pins s1 σ H1 _ I1 q1) fun u s2 ⟨y, H2, I2, r2, q2⟩ => ?_
  exact hf v u s2 x y H2 I2 r1 r2 q2

theorem pe_op {op : Operator} {r : R2} (ho : OpR X (binaryOp op) r) (ha : PE X a ta) (hb : PE X b tb) : PE X (.BinOp a op b pos) (tOp r ta tb) := by
  intro pins s σ H Q I h
  exact wpAny_BinOp (binT ha hb I h fun v u s2 x y H2 I2 rx ry q => ho pins s2 σ H2 x y v u Q I2 rx ry q)
theorem pe_un {op : UnaryOp} {r : V → Hp → VK → Prop} (ho : UnR X (unaryOp op) r) (ha : PE X a ta) : PE X (.UnaryOp op a pos) (tUn r ta) := by
  intro pins s σ H Q I h
  exact UnaryOp_ (thn (ha pins s σ H _ I h) fun v s1 ⟨x, H1, I1, r1, q1⟩ => ho pins s1 σ H1 x v Q I1 r1 q1)
/-- a op= e at a name: the name's slot i -/
theorem augR {op : Operator} {r : R2} (ho : OpR X (inplaceOp op) r) {pins : List (Addr × Obj)} {s : Shared} {σ : St} {H : Hp} {x y : V} {v u : Value} {Q : VK} (I : Inv X pins σ H s)
    (rx : RelV x v) (ry : RelV y u) (q : r x y H Q) : wpAny (model X.prog X.w) X.A (inplaceOp op v u) (EP X pins σ Q) X.xe s := ho pins s σ H x y v u Q I rx ry q

/-! ### ints -/
theorem opI {f : Value → Value → Sem Value} {C : Int → Int → Prop} {g : Int → Int → Int}
    (rule : ∀ (i j : Int) (t u : Tok) (s : Shared) (Q : Value → Shared → Prop) (E : Value → Shared → Prop), C i j → Q (.int (g i j) s.toks) { s with toks := s.toks + 1 } → wpAny (model X.prog X.w) X.A (f (.int i t) (.int j u)) Q E s) :
    OpR X f (rI C fun i j => .int (g i j)) := by
  intro pins s σ H x y v u Q I rx ry h
  obtain ⟨i, j, rfl, rfl, hc, q⟩ := h
  obtain ⟨t, rfl⟩ := rx
  obtain ⟨t', rfl⟩ := ry
  exact rule i j t t' s _ _ hc ⟨.int (g i j), H, I.tok _, ⟨_, rfl⟩, q⟩
theorem opI0 {f : Value → Value → Sem Value} {g : Int → Int → Int}
    (rule : ∀ (i j : Int) (t u : Tok) (s : Shared) (Q : Value → Shared → Prop) (E : Value → Shared → Prop), Q (.int (g i j) s.toks) { s with toks := s.toks + 1 } → wpAny (model X.prog X.w) X.A (f (.int i t) (.int j u)) Q E s) :
    OpR X f (rI0 fun i j => .int (g i j)) := by
  intro pins s σ H x y v u Q I rx ry h
  obtain ⟨i, j, rfl, rfl, q⟩ := h
  obtain ⟨t, rfl⟩ := rx
  obtain ⟨t', rfl⟩ := ry
  exact rule i j t t' s _ _ ⟨.int (g i j), H, I.tok _, ⟨_, rfl⟩, q⟩
theorem opB0 {f : Value → Value → Sem Value} {g : Int → Int → Bool}
    (rule : ∀ (i j : Int) (t u : Tok) (s : Shared) (Q : Value → Shared → Prop) (E : Value → Shared → Prop), Q (.bool (g i j)) s → wpAny (model X.prog X.w) X.A (f (.int i t) (.int j u)) Q E s) :
    OpR X f (rI0 fun i j => .bl (g i j)) := by
  intro pins s σ H x y v u Q I rx ry h
  obtain ⟨i, j, rfl, rfl, q⟩ := h
  obtain ⟨t, rfl⟩ := rx
  obtain ⟨t', rfl⟩ := ry
  exact rule i j t t' s _ _ ⟨.bl (g i j), H, I, rfl, q⟩

def CDiv (i j : Int) : Prop := 0 < j ∧ j < 1073741824
def CDivN (i j : Int) : Prop := j ≠ 0 ∧ j.natAbs < 1073741824
def CPow (i j : Int) : Prop := 0 ≤ j ∧ j ≤ 1000000 ∧ i.natAbs < 2 ^ 64
def CMul (i j : Int) : Prop := (-(2 ^ 64) < i ∧ i < 2 ^ 64) ∨ (-(2 ^ 64) < j ∧ j < 2 ^ 64)
theorem CMul.ok {i j : Int} (h : CMul i j) : IntMulOk i j := by
  rcases h with ⟨h1, h2⟩ | ⟨h1, h2⟩
  · exact .of_left (intBits_le_64 h1 h2)
  · exact .of_right (intBits_le_64 h1 h2)
theorem two_pow_nn (k : Nat) : (0 : Int) ≤ 2 ^ k := by
  rw [two_pow_cast]
  exact Int.natCast_nonneg _

theorem op_add : OpR X (binaryOp .Add) (rI0 fun i j => .int (i + j)) := opI0 fun _ _ _ _ _ _ _ q => add_int q
theorem op_sub : OpR X (binaryOp .Sub) (rI0 fun i j => .int (i - j)) := opI0 fun _ _ _ _ _ _ _ q => sub_int q
theorem op_mul : OpR X (binaryOp .Mult) (rI CMul fun i j => .int (i * j)) := opI fun _ _ _ _ _ _ _ hc q => mul_int q hc.ok
/-- // by a positive divisor -/
theorem op_fdiv : OpR X (binaryOp .FloorDiv) (rI CDiv fun i j => .int (i / j)) := opI fun i j _ _ _ _ _ hc q => by
  have h1 : (0 : Int) < j := hc.1
  have h2 : j < 1073741824 := hc.2
  exact floordiv_int (by omega) (by rw [Int.fdiv_eq_ediv_of_nonneg i (by omega)]; exact q) (.inl (PyProof.noPylong_small (by omega)))
theorem op_fdivN : OpR X (binaryOp .FloorDiv) (rI CDivN fun i j => .int (i.fdiv j)) := opI fun _ _ _ _ _ _ _ hc q => floordiv_int hc.1 q (.inl (PyProof.noPylong_small hc.2))
/-- % by a positive divisor of any size -/
theorem op_mod : OpR X (binaryOp .Mod) (rI (fun _ j => 0 < j) fun i j => .int (i % j)) := opI fun i j _ _ _ _ _ hc q => by
  have h1 : (0 : Int) < j := hc
  exact mod_int' (by omega) (by rw [Int.fmod_eq_emod_of_nonneg i (by omega)]; exact q)
theorem op_modN : OpR X (binaryOp .Mod) (rI (fun _ j => j ≠ 0) fun i j => .int (i.fmod j)) := opI fun _ _ _ _ _ _ _ hc q => mod_int' hc q
theorem op_pow : OpR X (binaryOp .Pow) (rI CPow fun i j => .int (i ^ j.toNat)) := opI fun _ _ _ _ _ _ _ hc q => pow_int_small hc.1 hc.2.1 hc.2.2 q
theorem op_shl : OpR X (binaryOp .LShift) (rI CPow fun i j => .int (i * 2 ^ j.toNat)) := opI fun _ _ _ _ _ _ _ hc q => lshift_int_small hc.1 hc.2.1 hc.2.2 q
theorem op_shr : OpR X (binaryOp .RShift) (rI (fun _ j => 0 ≤ j) fun i j => .int (i / 2 ^ j.toNat)) := opI fun i j _ _ _ _ _ hc q =>
  rshift_int hc (by rw [Int.fdiv_eq_ediv_of_nonneg i (two_pow_nn _)]; exact q)
theorem op_and : OpR X (binaryOp .BitAnd) (rI0 fun i j => .int (Builtin.bitAnd i j)) := opI0 fun _ _ _ _ _ _ _ q => and_int q
theorem op_or : OpR X (binaryOp .BitOr) (rI0 fun i j => .int (Builtin.bitOr i j)) := opI0 fun _ _ _ _ _ _ _ q => or_int q
theorem op_xor : OpR X (binaryOp .BitXor) (rI0 fun i j => .int (Builtin.bitXor i j)) := opI0 fun _ _ _ _ _ _ _ q => xor_int q

theorem iop_add : OpR X (inplaceOp .Add) (rI0 fun i j => .int (i + j)) := opI0 fun _ _ _ _ _ _ _ q => iadd_int q
theorem iop_sub : OpR X (inplaceOp .Sub) (rI0 fun i j => .int (i - j)) := opI0 fun _ _ _ _ _ _ _ q => isub_int q
theorem iop_mul : OpR X (inplaceOp .Mult) (rI CMul fun i j => .int (i * j)) := opI fun _ _ _ _ _ _ _ hc q => imul_int q hc.ok
theorem iop_fdiv : OpR X (inplaceOp .FloorDiv) (rI CDiv fun i j => .int (i / j)) := opI fun i j _ _ _ _ _ hc q => by
  have h1 : (0 : Int) < j := hc.1
  have h2 : j < 1073741824 := hc.2
  exact ifloordiv_int (by omega) (by rw [Int.fdiv_eq_ediv_of_nonneg i (by omega)]; exact q) (.inl (PyProof.noPylong_small (by omega)))
theorem iop_mod : OpR X (inplaceOp .Mod) (rI (fun _ j => 0 < j) fun i j => .int (i % j)) := opI fun i j _ _ _ _ _ hc q => by
  have h1 : (0 : Int) < j := hc
  exact imod_int (by omega) (by rw [Int.fmod_eq_emod_of_nonneg i (by omega)]; exact q)
theorem iop_shl : OpR X (inplaceOp .LShift) (rI CPow fun i j => .int (i * 2 ^ j.toNat)) := opI fun _ _ _ _ _ _ _ hc q => ilshift_int_small hc.1 hc.2.1 hc.2.2 q
theorem iop_shr : OpR X (inplaceOp .RShift) (rI (fun _ j => 0 ≤ j) fun i j => .int (i / 2 ^ j.toNat)) := opI fun i j _ _ _ _ _ hc q =>
  irshift_int hc (by rw [Int.fdiv_eq_ediv_of_nonneg i (two_pow_nn _)]; exact q)
theorem iop_and : OpR X (inplaceOp .BitAnd) (rI0 fun i j => .int (Builtin.bitAnd i j)) := opI0 fun _ _ _ _ _ _ _ q => iand_int q
theorem iop_or : OpR X (inplaceOp .BitOr) (rI0 fun i j => .int (Builtin.bitOr i j)) := opI0 fun _ _ _ _ _ _ _ q => ior_int q
theorem iop_xor : OpR X (inplaceOp .BitXor) (rI0 fun i j => .int (Builtin.bitXor i j)) := opI0 fun _ _ _ _ _ _ _ q => ixor_int q

theorem unI {f : Value → Sem Value} {g : Int → Int}
    (rule : ∀ (i : Int) (t : Tok) (s : Shared) (Q : Value → Shared → Prop) (E : Value → Shared → Prop), Q (.int (g i) s.toks) { s with toks := s.toks + 1 } → wpAny (model X.prog X.w) X.A (f (.int i t)) Q E s) :
    UnR X f (rU fun i => .int (g i)) := by
  intro pins s σ H x v Q I rx h
  obtain ⟨i, rfl, q⟩ := h
  obtain ⟨t, rfl⟩ := rx
  exact rule i t s _ _ ⟨.int (g i), H, I.tok _, ⟨_, rfl⟩, q⟩
theorem un_neg : UnR X (unaryOp .USub) (rU fun i => .int (-i)) := unI fun _ _ _ _ _ q => neg_int q
theorem un_inv : UnR X (unaryOp .Invert) (rU fun i => .int (Builtin.bitNot i)) := unI fun _ _ _ _ _ q => invert_int q

/-! ### bools among ints: n += (a < b) -/
theorem op_add_ib : OpR X (binaryOp .Add) (fun x y H Q => ∃ i k, x = .int i ∧ y = .bl k ∧ Q (.int (i + b2i k)) H) := by
  intro pins s σ H x y v u Q I rx ry h
  obtain ⟨i, k, rfl, rfl, q⟩ := h
  obtain ⟨t, rfl⟩ := rx
  cases ry
  exact add_int_bool ⟨.int (i + b2i k), H, I.tok _, ⟨_, rfl⟩, q⟩
end

/-! ### comparisons -/
/-- the scalars that == tells apart as data does -/
def scal : V → V → Bool
  | .non, .non => true | .non, .int _ => true | .int _, .non => true | .non, .bl _ => true | .bl _, .non => true | .non, .str _ => true | .str _, .non => true
  | .int _, .int _ => true | .bl _, .bl _ => true | .str _, .str _ => true | .byt _, .byt _ => true
  | .int _, .str _ => true | .str _, .int _ => true | .bl _, .str _ => true | .str _, .bl _ => true
  | _, _ => false
def rEq : R2 := fun x y H Q => scal x y = true ∧ Q (.bl (decide (x = y))) H
def rNe : R2 := fun x y H Q => scal x y = true ∧ Q (.bl (!decide (x = y))) H

theorem dec_int {i j : Int} : decide (V.int i = V.int j) = (i == j) := by
  rw [Bool.eq_iff_iff]
  simp
theorem dec_bl {i j : Bool} : decide (V.bl i = V.bl j) = (i == j) := by
  rw [Bool.eq_iff_iff]
  simp
theorem dec_str {i j : Str} : decide (V.str i = V.str j) = (i == j) := by
  rw [Bool.eq_iff_iff]
  simp
theorem dec_byt {i j : Array UInt8} : decide (V.byt i = V.byt j) = (i.toList == j.toList) := by
  rw [Bool.eq_iff_iff]
  cases i
  cases j
  simp

section
variable {X : Cx} {a b c : Expr} {ta tb tc : TE} {pos : Pos}
theorem fin_bl {pins : List (Addr × Obj)} {σ : St} {H : Hp} {s : Shared} {Q : VK} {k k' : Bool} (I : Inv X pins σ H s) (q : Q (.bl k) H) (e : k = k') : EP X pins σ Q (.bool k') s := by
  subst e
  exact ⟨.bl k, H, I, rfl, q⟩
theorem op_eq : OpR X (compareOp .Eq) rEq := by
  intro pins s σ H x y v u Q I rx ry h
  obtain ⟨hs, q⟩ := h
  cases x with
  | non =>
    cases rx
    cases y with
    | non => cases ry; exact PySem.EqNone.eq_none_none (fin_bl I q (by simp))
    | bl j => cases ry; exact PySem.EqNone.eq_none_bool (fin_bl I q (by simp))
    | int j => obtain ⟨t', rfl⟩ := ry; exact PySem.EqNone.eq_none_int (fin_bl I q (by simp))
    | str j => obtain ⟨t', rfl⟩ := ry; exact PySem.EqNone.eq_none_str (fin_bl I q (by simp))
    | _ => exact absurd (show false = true from hs) Bool.false_ne_true
  | bl i =>
    cases rx
    cases y with
    | non => cases ry; exact PySem.EqNone.eq_bool_none (fin_bl I q (by simp))
    | bl j => cases ry; exact eq_bool (fin_bl I q dec_bl)
    | str j => obtain ⟨t', rfl⟩ := ry; exact PySem.EqMixed.eq_bool_str (fin_bl I q (by simp))
    | _ => exact absurd (show false = true from hs) Bool.false_ne_true
  | int i =>
    obtain ⟨t, rfl⟩ := rx
    cases y with
    | non => cases ry; exact PySem.EqNone.eq_int_none (fin_bl I q (by simp))
    | int j => obtain ⟨t', rfl⟩ := ry; exact eq_int (fin_bl I q dec_int)
    | str j => obtain ⟨t', rfl⟩ := ry; exact PySem.EqMixed.eq_int_str (fin_bl I q (by simp))
    | _ => exact absurd (show false = true from hs) Bool.false_ne_true
  | str i =>
    obtain ⟨t, rfl⟩ := rx
    cases y with
    | non => cases ry; exact PySem.EqNone.eq_str_none (fin_bl I q (by simp))
    | bl j => cases ry; exact PySem.EqMixed.eq_str_bool (fin_bl I q (by simp))
    | int j => obtain ⟨t', rfl⟩ := ry; exact PySem.EqMixed.eq_str_int (fin_bl I q (by simp))
    | str j => obtain ⟨t', rfl⟩ := ry; exact eq_str (fin_bl I q dec_str)
    | _ => exact absurd (show false = true from hs) Bool.false_ne_true
  | byt i =>
    obtain ⟨t, rfl⟩ := rx
    cases y with
    | byt j => obtain ⟨t', rfl⟩ := ry; exact PySem.W.eq_bytes (fin_bl I q dec_byt)
    | _ => exact absurd (show false = true from hs) Bool.false_ne_true
  | _ => cases y <;> exact absurd (show false = true from hs) Bool.false_ne_true
theorem op_ne : OpR X (compareOp .NotEq) rNe := by
  intro pins s σ H x y v u Q I rx ry h
  obtain ⟨hs, q⟩ := h
  cases x with
  | non =>
    cases rx
    cases y with
    | non => cases ry; exact PySem.EqNone.ne_none_none (fin_bl I q (by simp))
    | bl j => cases ry; exact PySem.EqNone.ne_none_bool (fin_bl I q (by simp))
    | int j => obtain ⟨t', rfl⟩ := ry; exact PySem.EqNone.ne_none_int (fin_bl I q (by simp))
    | str j => obtain ⟨t', rfl⟩ := ry; exact PySem.EqNone.ne_none_str (fin_bl I q (by simp))
    | _ => exact absurd (show false = true from hs) Bool.false_ne_true
  | bl i =>
    cases rx
    cases y with
    | non => cases ry; exact PySem.EqNone.ne_bool_none (fin_bl I q (by simp))
    | bl j => cases ry; exact ne_bool (fin_bl I q (congrArg not dec_bl))
    | str j => obtain ⟨t', rfl⟩ := ry; exact PySem.EqMixed.ne_bool_str (fin_bl I q (by simp))
    | _ => exact absurd (show false = true from hs) Bool.false_ne_true
  | int i =>
    obtain ⟨t, rfl⟩ := rx
    cases y with
    | non => cases ry; exact PySem.EqNone.ne_int_none (fin_bl I q (by simp))
    | int j => obtain ⟨t', rfl⟩ := ry; exact ne_int (fin_bl I q (congrArg not dec_int))
    | str j => obtain ⟨t', rfl⟩ := ry; exact PySem.EqMixed.ne_int_str (fin_bl I q (by simp))
    | _ => exact absurd (show false = true from hs) Bool.false_ne_true
  | str i =>
    obtain ⟨t, rfl⟩ := rx
    cases y with
    | non => cases ry; exact PySem.EqNone.ne_str_none (fin_bl I q (by simp))
    | bl j => cases ry; exact PySem.EqMixed.ne_str_bool (fin_bl I q (by simp))
    | int j => obtain ⟨t', rfl⟩ := ry; exact PySem.EqMixed.ne_str_int (fin_bl I q (by simp))
    | str j => obtain ⟨t', rfl⟩ := ry; exact ne_str (fin_bl I q (congrArg not dec_str))
    | _ => exact absurd (show false = true from hs) Bool.false_ne_true
  | byt i =>
    obtain ⟨t, rfl⟩ := rx
    cases y with
    | byt j => obtain ⟨t', rfl⟩ := ry; exact PySem.W.ne_bytes (fin_bl I q (congrArg not dec_byt))
    | _ => exact absurd (show false = true from hs) Bool.false_ne_true
  | _ => cases y <;> exact absurd (show false = true from hs) Bool.false_ne_true

theorem op_lt : OpR X (compareOp .Lt) (rI0 fun i j => .bl (decide (i < j))) := opB0 fun _ _ _ _ _ _ _ q => lt_int q
theorem op_le : OpR X (compareOp .LtE) (rI0 fun i j => .bl (decide (i ≤ j))) := opB0 fun _ _ _ _ _ _ _ q => le_int q
theorem op_gt : OpR X (compareOp .Gt) (rI0 fun i j => .bl (decide (j < i))) := opB0 fun _ _ _ _ _ _ _ q => gt_int q
theorem op_ge : OpR X (compareOp .GtE) (rI0 fun i j => .bl (decide (j ≤ i))) := opB0 fun _ _ _ _ _ _ _ q => ge_int q
theorem op_lt_str : OpR X (compareOp .Lt) (fun x y H Q => ∃ i j, x = .str i ∧ y = .str j ∧ Q (.bl (decide (i.cps.toList < j.cps.toList))) H) := by
  intro pins s σ H x y v u Q I rx ry h
  obtain ⟨i, j, rfl, rfl, q⟩ := h
  obtain ⟨t, rfl⟩ := rx
  obtain ⟨t', rfl⟩ := ry
  exact lt_str (fin_bl I q rfl)
/-- the one string within the other -/
theorem op_in_str : OpR X (compareOp .In) (fun x y H Q => ∃ i j, x = .str i ∧ y = .str j ∧ Q (.bl (!(Builtin.Str.occurrences j i 0 j.length 1).isEmpty)) H) := by
  intro pins s σ H x y v u Q I rx ry h
  obtain ⟨i, j, rfl, rfl, q⟩ := h
  obtain ⟨t, rfl⟩ := rx
  obtain ⟨t', rfl⟩ := ry
  exact in_str (fin_bl I q rfl)

/-- is None, is not None: the right side a value none -/
theorem op_isN : OpR X (compareOp .Is) (fun x y H Q => y = .non ∧ Q (.bl (decide (x = .non))) H) := by
  intro pins s σ H x y v u Q I rx ry h
  obtain ⟨rfl, q⟩ := h
  cases ry
  refine is_none_gen (fin_bl I q ?_)
  cases x <;> first
    | (cases rx; rfl)
    | (obtain ⟨t, rfl⟩ := rx; rfl)
theorem op_notN : OpR X (compareOp .IsNot) (fun x y H Q => y = .non ∧ Q (.bl (!decide (x = .non))) H) := by
  intro pins s σ H x y v u Q I rx ry h
  obtain ⟨rfl, q⟩ := h
  cases ry
  refine isnot_none_gen (fin_bl I q ?_)
  cases x <;> first
    | (cases rx; rfl)
    | (obtain ⟨t, rfl⟩ := rx; rfl)

theorem op_notin_str : OpR X (compareOp .NotIn) (fun x y H Q => ∃ i j, x = .str i ∧ y = .str j ∧ Q (.bl (!(!(Builtin.Str.occurrences j i 0 j.length 1).isEmpty))) H) := by
  intro pins s σ H x y v u Q I rx ry h
  obtain ⟨i, j, rfl, rfl, q⟩ := h
  obtain ⟨t, rfl⟩ := rx
  obtain ⟨t', rfl⟩ := ry
  exact notIn_str (fin_bl I q rfl)
/-- is, is not of two objects that are tracked lists or instances -/
def isObj : HO → Bool
  | .lst _ => true
  | .ins _ _ _ => true
  | _ => false
theorem obj_there {pins : List (Addr × Obj)} {s : Shared} {σ : St} {H : Hp} {a : Addr} {o : HO} (I : Inv X pins σ H s) (h : H a = some o) (p : isObj o = true) : ∃ ob, s.heap.get? a = some ob ∧ ob.cls ≠ .type "tuple" := by
  cases o with
  | lst xs =>
    obtain ⟨_, its, n, _, e⟩ : xs.length ≤ sizeLine ∧ ∃ (its : List Value) (n : Nat), Vals xs its ∧ s.heap.get? a = some { cls := .type "list", data := .seq its.toArray n } := I.hok a _ h
    exact ⟨_, e, (by show Value.type "list" ≠ .type "tuple"; decide +kernel)⟩
  | ins C dx fs =>
    have x := I.hok a _ h
    obtain ⟨_, _, _, e, _⟩ := x
    exact ⟨_, e, (by show Value.ref C ≠ .type "tuple"; exact fun z => by cases z)⟩
  | _ => exact absurd (show false = true from p) Bool.false_ne_true
theorem op_is_ref : OpR X (compareOp .Is) (fun x y H Q => ∃ a b oa ob, x = .ref a ∧ y = .ref b ∧ H a = some oa ∧ isObj oa = true ∧ H b = some ob ∧ isObj ob = true ∧ Q (.bl (decide (a = b))) H) := by
  intro pins s σ H x y v u Q I rx ry h
  obtain ⟨a, b, oa, ob, rfl, rfl, ha, pa, hb, pb, q⟩ := h
  cases rx
  cases ry
  obtain ⟨o1, e1, n1⟩ := obj_there I ha pa
  obtain ⟨o2, e2, _⟩ := obj_there I hb pb
  by_cases z : a = b
  · subst z
    exact wpAny_is_ref_self (fin_bl I q (by simp))
  · exact wpAny_is_ref_other z e1 e2 n1 (fin_bl I q (by simp [z]))
theorem op_isnot_ref : OpR X (compareOp .IsNot) (fun x y H Q => ∃ a b oa ob, x = .ref a ∧ y = .ref b ∧ H a = some oa ∧ isObj oa = true ∧ H b = some ob ∧ isObj ob = true ∧ Q (.bl (!decide (a = b))) H) := by
  intro pins s σ H x y v u Q I rx ry h
  obtain ⟨a, b, oa, ob, rfl, rfl, ha, pa, hb, pb, q⟩ := h
  cases rx
  cases ry
  obtain ⟨o1, e1, n1⟩ := obj_there I ha pa
  obtain ⟨o2, e2, _⟩ := obj_there I hb pb
  by_cases z : a = b
  · subst z
    exact wpAny_isNot_ref_self (fin_bl I q (by simp))
  · exact wpAny_isNot_ref_other z e1 e2 n1 (fin_bl I q (by simp [z]))

/-- two rules for one operation: by cases -/
theorem OpR.or {f : Value → Value → Sem Value} {r r' : R2} (h : OpR X f r) (h' : OpR X f r') : OpR X f (fun x y H Q => r x y H Q ∨ r' x y H Q) := by
  intro pins s σ H x y v u Q I rx ry q
  rcases q with q | q
  · exact h pins s σ H x y v u Q I rx ry q
  · exact h' pins s σ H x y v u Q I rx ry q

theorem nomark (b : Expr) {op : CmpOp} (h : op ≠ .In := by decide) (h2 : op ≠ .NotIn := by decide) : behindInMarks op b = false := by
  have e1 : (op == CmpOp.In) = false := by cases op <;> first | rfl | exact absurd rfl h
  have e2 : (op == CmpOp.NotIn) = false := by cases op <;> first | rfl | exact absurd rfl h2
  cases b <;> simp [behindInMarks, e1, e2]
/-- a comparison as a value; hm: nomark b, or (for in, not in) by with_unfolding_all rfl -/
theorem pe_cmpR {op : CmpOp} {r : R2} (ho : OpR X (compareOp op) r) (ha : PE X a ta) (hb : PE X b tb) (hm : behindInMarks op b = false) : PE X (.Compare a [op] [b] pos) (tOp r ta tb) := by
  intro pins s σ H Q I h
  exact wpAny_Compare1 (binT ha hb I h fun v u s2 x y H2 I2 rx ry q => ho pins s2 σ H2 x y v u Q I2 rx ry q) hm
/-- a reading of a value as a test -/
def tTest (t : TE) : TT := fun σ H Q => t σ H fun x H' => ∃ k, x = .bl k ∧ Q k H'
theorem pt_cmpR {op : CmpOp} {r : R2} (ho : OpR X (compareOp op) r) (ha : PE X a ta) (hb : PE X b tb) (hm : behindInMarks op b = false) : PT X (.Compare a [op] [b] pos) (tTest (tOp r ta tb)) := by
  intro pins s σ H Q I h
  refine wpAny_isTrue_Compare1 (thn (ha pins s σ H _ I h) fun v s1 ⟨x, H1, I1, r1, q1⟩ => thn (hb pins s1 σ H1 _ I1 q1) fun u s2 ⟨y, H2, I2, r2, q2⟩ =>
    thn (ho pins s2 σ H2 x y v u _ I2 r1 r2 q2) fun c s3 ⟨z, H3, I3, r3, k, e, q3⟩ => ?_) hm
  subst e
  cases r3
  exact wpAny_truthy_bool ⟨H3, I3, q3⟩
/-- a op1 b op2 c -/
def tChain (r r' : R2) (ta tb tc : TE) : TE := fun σ H Q => ta σ H fun x H1 => tb σ H1 fun y H2 => r x y H2 fun z H3 => ∃ k, z = .bl k ∧
  (if k = true then tc σ H3 fun w' H4 => r' y w' H4 Q else Q (.bl false) H3)
theorem pe_chain {op op' : CmpOp} {r r' : R2} (ho : OpR X (compareOp op) r) (ho' : OpR X (compareOp op') r') (ha : PE X a ta) (hb : PE X b tb) (hc : PE X c tc)
    (hm : lastMarks [op, op'] [b, c] = false := by with_unfolding_all rfl) : PE X (.Compare a [op, op'] [b, c] pos) (tChain r r' ta tb tc) := by
  intro pins s σ H Q I h
  refine Compare_chain (thn (ha pins s σ H _ I h) fun v s1 ⟨x, H1, I1, r1, q1⟩ => chain_link (thn (hb pins s1 σ H1 _ I1 q1) fun u s2 ⟨y, H2, I2, r2, q2⟩ =>
    thn (ho pins s2 σ H2 x y v u _ I2 r1 r2 q2) fun d s3 ⟨z, H3, I3, r3, k, e, q3⟩ => ?_)) hm
  subst e
  cases r3
  refine wpAny_truthy_bool ?_
  cases k with
  | false => exact ite_ff ⟨.bl false, H3, I3, rfl, q3⟩
  | true => exact ite_tt (chain_last (thn (hc pins s3 σ H3 _ I3 q3) fun w' s4 ⟨z', H4, I4, r4, q4⟩ => ho' pins s4 σ H4 y z' u w' Q I4 r2 r4 q4))
theorem pt_chain {op op' : CmpOp} {r r' : R2} (ho : OpR X (compareOp op) r) (ho' : OpR X (compareOp op') r') (ha : PE X a ta) (hb : PE X b tb) (hc : PE X c tc)
    (hm : lastMarks [op, op'] [b, c] = false := by with_unfolding_all rfl) : PT X (.Compare a [op, op'] [b, c] pos) (tTest (tChain r r' ta tb tc)) := by
  intro pins s σ H Q I h
  refine isTrue_chain (thn (ha pins s σ H _ I h) fun v s1 ⟨x, H1, I1, r1, q1⟩ => test_link (thn (hb pins s1 σ H1 _ I1 q1) fun u s2 ⟨y, H2, I2, r2, q2⟩ =>
    thn (ho pins s2 σ H2 x y v u _ I2 r1 r2 q2) fun d s3 ⟨z, H3, I3, r3, k, e, q3⟩ => ?_)) hm
  subst e
  cases r3
  refine wpAny_truthy_bool ?_
  cases k with
  | false =>
    obtain ⟨k', e', q'⟩ := q3
    cases e'
    exact ite_ff ⟨H3, I3, q'⟩
  | true =>
    refine ite_tt (test_last (thn (hc pins s3 σ H3 _ I3 q3) fun w' s4 ⟨z', H4, I4, r4, q4⟩ => thn (ho' pins s4 σ H4 y z' u w' _ I4 r2 r4 q4) fun d' s5 ⟨z2, H5, I5, r5, k2, e2, q5⟩ => ?_))
    subst e2
    cases r5
    exact wpAny_truthy_bool ⟨H5, I5, q5⟩

/-! ### truth -/
/-- a value's truth by the abstract heap -/
def TruV (K : PySem.W.Frag) (x : V) (H : Hp) (k : Bool) : Prop :=
  match x with
  | .non => k = false
  | .bl b => k = b
  | .int i => k = (i != 0)
  | .str y => y.length ≤ sizeLine ∧ k = ((y.length : Int) != 0)
  | .byt y => y.size ≤ sizeLine ∧ k = ((y.size : Int) != 0)
  | .ref p => (∃ xs, SqL K H p xs ∧ k = !xs.isEmpty) ∨ (∃ xs, SqT K H p xs ∧ k = !xs.isEmpty) ∨ ∃ kvs, H p = some (.dK kvs) ∧ k = !kvs.isEmpty
  | _ => False
theorem isEmpty_kv {κ : Type} {kvs : List (κ × V)} {vs : List (κ × Value)} (r : KV kvs vs) : (!vs.isEmpty) = !kvs.isEmpty := by
  cases r <;> rfl
theorem isEmpty_of {xs : List V} {its : List Value} (r : Vals xs its) : (!its.toArray.isEmpty) = !xs.isEmpty := by
  cases r <;> simp
theorem line63 : (sizeLine : Nat) < 2 ^ 63 := by rw [sizeLine_eq]; decide
theorem tru_ok : TruR X (fun x H Q => ∃ k, TruV X.K x H k ∧ Q k H) := by
  intro pins s σ H x v Q I rx h
  obtain ⟨k, e, q⟩ := h
  have hl := line63
  have hs : sizeLine = 16777216 := sizeLine_eq
  cases x with
  | non =>
    cases rx
    have e' : k = false := e
    subst e'
    exact truthy_none ⟨H, I, q⟩
  | bl b =>
    cases rx
    have e' : k = b := e
    subst e'
    exact wpAny_truthy_bool ⟨H, I, q⟩
  | int i =>
    obtain ⟨t, rfl⟩ := rx
    have e' : k = (i != 0) := e
    subst e'
    exact PySem.P.truthy_int ⟨H, I, q⟩
  | str y =>
    obtain ⟨t, rfl⟩ := rx
    obtain ⟨hy, e'⟩ : y.length ≤ sizeLine ∧ k = ((y.length : Int) != 0) := e
    subst e'
    exact PySem.P.truthy_str (by omega) ⟨H, I.tok _, q⟩
  | byt y =>
    obtain ⟨t, rfl⟩ := rx
    obtain ⟨hy, e'⟩ : y.size ≤ sizeLine ∧ k = ((y.size : Int) != 0) := e
    subst e'
    exact PySem.W.truthy_bytes (by omega) ⟨H, I.tok _, q⟩
  | ref p =>
    cases rx
    have e' : (∃ xs, SqL X.K H p xs ∧ k = !xs.isEmpty) ∨ (∃ xs, SqT X.K H p xs ∧ k = !xs.isEmpty) ∨ ∃ kvs, H p = some (.dK kvs) ∧ k = !kvs.isEmpty := e
    rcases e' with ⟨xs, hx, e'⟩ | ⟨xs, hx, e'⟩ | ⟨kvs, hx, e'⟩
    · subst e'
      obtain ⟨its, r, pl, hz⟩ := I.list hx
      have hlen := r.length
      exact wpAny_truthy_list pl.isList (by simp only [List.size_toArray]; omega) ⟨H, I.tok _, by rw [isEmpty_of r]; exact q⟩
    · subst e'
      obtain ⟨its, r, pl, hz⟩ := I.tuple hx
      have hlen := r.length
      exact truthy_tuple pl (by simp only [List.size_toArray]; omega) ⟨H, I.tok _, by rw [isEmpty_of r]; exact q⟩
    · subst e'
      obtain ⟨hz, hS, vs, r, m⟩ : kvs.length ≤ sizeLine ∧ (p == sysModules) = false ∧ ∃ vs, KV kvs vs ∧ s.heap.DictOf (mixKind X.prog X.w) p vs := I.hok p _ hx
      have hlen : kvs.length = vs.length := Paired.length r
      exact wpAny_truthy_dict hS m (by omega) ⟨H, I.tok _, by rw [isEmpty_kv r]; exact q⟩
  | _ => exact (show False from e).elim
/-- any expression whose test is its value's truth (a name, a call, a subscript, a field ..: he by fun _ => rfl) -/
theorem pt_truth (ha : PE X a ta) (he : ∀ whole, isTrue a X.env whole = (do let v ← whole; standAt a.pos; holding [v] (truthy v))) :
    PT X a (fun σ H Q => ta σ H fun x H' => ∃ k, TruV X.K x H' k ∧ Q k H') := by
  intro pins s σ H Q I h
  exact isTrue_plain (thn (ha pins s σ H _ I h) fun v s1 ⟨x, H1, I1, r1, q1⟩ => tru_ok pins s1 σ H1 x v Q I1 r1 q1) (he _)

/-! ### strs and bytes -/
theorem pe_byt {x : List UInt8} {k : Nat} : PE X (.Constant (.bytes x) k pos) (fun _ H Q => Q (.byt x.toArray) H) := fun _ _ _ H _ I h => PySem.W.Constant_bytes ⟨.byt x.toArray, H, I.tok _, ⟨_, rfl⟩, h⟩
theorem op_add_str : OpR X (binaryOp .Add) (fun x y H Q => ∃ i j, x = .str i ∧ y = .str j ∧ i.length + j.length ≤ sizeLine ∧ Q (.str (i ++ j)) H) := by
  intro pins s σ H x y v u Q I rx ry h
  obtain ⟨i, j, rfl, rfl, hz, q⟩ := h
  obtain ⟨t, rfl⟩ := rx
  obtain ⟨t', rfl⟩ := ry
  exact add_str (fun t' tk => ⟨.str (i ++ j), H, I.tok _, ⟨_, rfl⟩, q⟩) hz
theorem iop_add_str : OpR X (inplaceOp .Add) (fun x y H Q => ∃ i j, x = .str i ∧ y = .str j ∧ i.length + j.length ≤ sizeLine ∧ Q (.str (i ++ j)) H) := by
  intro pins s σ H x y v u Q I rx ry h
  obtain ⟨i, j, rfl, rfl, hz, q⟩ := h
  obtain ⟨t, rfl⟩ := rx
  obtain ⟨t', rfl⟩ := ry
  exact iadd_str (fun t' tk => ⟨.str (i ++ j), H, I.tok _, ⟨_, rfl⟩, q⟩) hz
theorem op_add_byt : OpR X (binaryOp .Add) (fun x y H Q => ∃ i j, x = .byt i ∧ y = .byt j ∧ i.size + j.size ≤ 16777216 ∧ Q (.byt (i ++ j)) H) := by
  intro pins s σ H x y v u Q I rx ry h
  obtain ⟨i, j, rfl, rfl, hz, q⟩ := h
  obtain ⟨t, rfl⟩ := rx
  obtain ⟨t', rfl⟩ := ry
  exact PySem.W.KBy.add_bytes hz (fun t' tk => ⟨.byt (i ++ j), H, I.tok _, ⟨_, rfl⟩, q⟩)

def PlainIxT (b : Expr) : Prop := ∀ o i, subscripted b false o i = operate [o, i] (getItem o i)
/-- s[i], 0 ≤ i < len -/
theorem pe_item_str (ha : PE X a ta) (hb : PE X b tb) (hs : PlainIxT b) :
    PE X (.Subscript a b pos) (tOp (fun x y H Q => ∃ z i c, x = .str z ∧ y = .int i ∧ 0 ≤ i ∧ i < 2 ^ 63 ∧ i < z.length ∧ z.cps[i.toNat]? = some c ∧ Q (.str ⟨#[c]⟩) H) ta tb) := by
  intro pins s σ H Q I h
  refine Subscript_ (binT ha hb I h fun v u s2 x y H2 I2 rx ry q => ?_)
  obtain ⟨z, i, c, rfl, rfl, h0, h63, h1, hc, q⟩ := q
  obtain ⟨t, rfl⟩ := rx
  obtain ⟨t', rfl⟩ := ry
  have e : seqIndex? i z.length = some i.toNat := PySem.StrLaws.seqIndex_nonneg h0 h1
  exact tail_any (typeIs_str s2 z t) slot_str_getitem.lookup (getItem_str (c := c) (by
    have e1 : decide (i < -(2 ^ 63 : Int)) = false := decide_eq_false (by omega)
    have e2 : decide (i ≥ 2 ^ 63) = false := decide_eq_false (by omega)
    rw [e1, e2] <;> rfl) (by rw [e]; exact hc) ⟨.str ⟨#[c]⟩, H2, I2.tok _, ⟨_, rfl⟩, q⟩) (hs _ _)
/-- b[i], 0 ≤ i < len -/
theorem pe_item_byt (ha : PE X a ta) (hb : PE X b tb) (hs : PlainIxT b) :
    PE X (.Subscript a b pos) (tOp (fun x y H Q => ∃ (z : List UInt8) (i : Int), x = .byt z.toArray ∧ y = .int i ∧ z.length ≤ sizeLine ∧ 0 ≤ i ∧ i < z.length ∧ Q (.int ((z.getD i.toNat 0).toNat : Nat)) H) ta tb) := by
  intro pins s σ H Q I h
  refine Subscript_ (binT ha hb I h fun v u s2 x y H2 I2 rx ry q => ?_)
  obtain ⟨z, i, rfl, rfl, hz, h0, h1, q⟩ := q
  obtain ⟨t, rfl⟩ := rx
  obtain ⟨t', rfl⟩ := ry
  have hl : sizeLine = 16777216 := sizeLine_eq
  exact tail_any (PySem.W.typeIs_bytes s2 z.toArray t) PySem.W.FB.slot_bytes_getitem.lookup (PySem.W.getItem_bytes (by omega) h0 h1 ⟨.int ((z.getD i.toNat 0).toNat : Nat), H2, I2.tok _, ⟨_, rfl⟩, q⟩) (hs _ _)

/-! ### scalar builtins, by CallR -/
theorem vals1 {x : V} {us : List Value} (r : Vals [x] us) : ∃ u, us = [u] ∧ RelV x u := by
  cases r with
  | cons r1 r2 => cases r2; exact ⟨_, rfl, r1⟩
theorem vals2 {x y : V} {us : List Value} (r : Vals [x, y] us) : ∃ u w', us = [u, w'] ∧ RelV x u ∧ RelV y w' := by
  cases r with
  | cons r1 r2 =>
    cases r2 with
    | cons r3 r4 => cases r4; exact ⟨_, _, rfl, r1, r3⟩
theorem call_abs : CallR X (.builtin "abs") (fun xs H Q => ∃ i, xs = [.int i] ∧ Q (.int (if i < 0 then -i else i)) H) := by
  intro pins s σ H xs us Q I r h
  obtain ⟨i, rfl, q⟩ := h
  obtain ⟨u, rfl, t, rfl⟩ := vals1 r
  exact call_abs_int fun u tk => ⟨.int (if i < 0 then -i else i), H, I.tok _, ⟨_, rfl⟩, q⟩
theorem call_max2 (hc : X.calm = true) : CallR X (.builtin "max") (fun xs H Q => ∃ i j, xs = [.int i, .int j] ∧ Q (.int (if j > i then j else i)) H) := by
  intro pins s σ H xs us Q I r h
  obtain ⟨i, j, rfl, q⟩ := h
  obtain ⟨u, w', rfl, ⟨t, rfl⟩, ⟨t', rfl⟩⟩ := vals2 r
  refine max_two_ints (I.ok.hd hc) fun h' tk k => ⟨_, H, I.kept k, ?_, q⟩
  by_cases hj : j > i
  · rw [if_pos hj, if_pos hj]; exact ⟨_, rfl⟩
  · rw [if_neg hj, if_neg hj]; exact ⟨_, rfl⟩
theorem call_min2 (hc : X.calm = true) : CallR X (.builtin "min") (fun xs H Q => ∃ i j, xs = [.int i, .int j] ∧ Q (.int (if j < i then j else i)) H) := by
  intro pins s σ H xs us Q I r h
  obtain ⟨i, j, rfl, q⟩ := h
  obtain ⟨u, w', rfl, ⟨t, rfl⟩, ⟨t', rfl⟩⟩ := vals2 r
  refine min_two_ints (I.ok.hd hc) fun h' tk k => ⟨_, H, I.kept k, ?_, q⟩
  by_cases hj : j < i
  · rw [if_pos hj, if_pos hj]; exact ⟨_, rfl⟩
  · rw [if_neg hj, if_neg hj]; exact ⟨_, rfl⟩
theorem call_int1 : CallR X (.type "int") (fun xs H Q => (∃ i, xs = [.int i] ∧ Q (.int i) H) ∨ ∃ k, xs = [.bl k] ∧ Q (.int (if k then 1 else 0)) H) := by
  intro pins s σ H xs us Q I r h
  rcases h with ⟨i, rfl, q⟩ | ⟨k, rfl, q⟩
  · obtain ⟨u, rfl, t, rfl⟩ := vals1 r
    exact call_int_int ⟨.int i, H, I, ⟨_, rfl⟩, q⟩
  · obtain ⟨u, rfl, r1⟩ := vals1 r
    cases r1
    exact call_int_bool ⟨.int (if k then 1 else 0), H, I.tok _, ⟨_, rfl⟩, q⟩
theorem call_bool1 : CallR X (.type "bool") (fun xs H Q => (∃ i, xs = [.int i] ∧ Q (.bl (i != 0)) H) ∨ ∃ k, xs = [.bl k] ∧ Q (.bl k) H) := by
  intro pins s σ H xs us Q I r h
  rcases h with ⟨i, rfl, q⟩ | ⟨k, rfl, q⟩
  · obtain ⟨u, rfl, t, rfl⟩ := vals1 r
    exact call_bool_int ⟨.bl (i != 0), H, I, rfl, q⟩
  · obtain ⟨u, rfl, r1⟩ := vals1 r
    cases r1
    exact call_bool_bool ⟨.bl k, H, I, rfl, q⟩
theorem call_str_int : CallR X (.type "str") (fun xs H Q => ∃ i, xs = [.int i] ∧ i.natAbs.log2 < 1920 ∧ Q (.str (toString i)) H) := by
  intro pins s σ H xs us Q I r h
  obtain ⟨i, rfl, hz, q⟩ := h
  obtain ⟨u, rfl, t, rfl⟩ := vals1 r
  exact PySem.P.str_of_int hz ⟨.str _, H, I.tok _, ⟨_, rfl⟩, q⟩
theorem call_ord : CallR X (.builtin "ord") (fun xs H Q => ∃ x, xs = [.str x] ∧ x.length = 1 ∧ Q (.int (x.cps.getD 0 0 : Nat)) H) := by
  intro pins s σ H xs us Q I r h
  obtain ⟨x, rfl, hz, q⟩ := h
  obtain ⟨u, rfl, t, rfl⟩ := vals1 r
  exact ord_of_one hz ⟨.int _, H, I.tok _, ⟨_, rfl⟩, q⟩
theorem call_chr : CallR X (.builtin "chr") (fun xs H Q => ∃ i, xs = [.int i] ∧ 0 ≤ i ∧ i ≤ 1114111 ∧ Q (.str ⟨#[i.toNat]⟩) H) := by
  intro pins s σ H xs us Q I r h
  obtain ⟨i, rfl, h0, h1, q⟩ := h
  obtain ⟨u, rfl, t, rfl⟩ := vals1 r
  exact chr_of_range h0 h1 ⟨.str _, H, I.tok _, ⟨_, rfl⟩, q⟩
/-- len of a str, a bytes, a list, a tuple -/
def LenV (K : PySem.W.Frag) (x : V) (H : Hp) (n : Nat) : Prop :=
  match x with
  | .str y => y.length ≤ sizeLine ∧ n = y.length
  | .byt y => y.size ≤ sizeLine ∧ n = y.size
  | .ref p => (∃ xs, SqL K H p xs ∧ n = xs.length) ∨ ∃ xs, SqT K H p xs ∧ n = xs.length
  | _ => False
theorem call_len : CallR X (.builtin "len") (fun xs H Q => ∃ x n, xs = [x] ∧ LenV X.K x H n ∧ Q (.int n) H) := by
  intro pins s σ H xs us Q I r h
  obtain ⟨x, n, rfl, e, q⟩ := h
  obtain ⟨u, rfl, rx⟩ := vals1 r
  have hl := line63
  have hs : sizeLine = 16777216 := sizeLine_eq
  cases x with
  | str y =>
    obtain ⟨t, rfl⟩ := rx
    obtain ⟨hy, e'⟩ : y.length ≤ sizeLine ∧ n = y.length := e
    subst e'
    exact len_str (by omega) ⟨.int _, H, I.tok _, ⟨_, rfl⟩, q⟩
  | byt y =>
    obtain ⟨t, rfl⟩ := rx
    obtain ⟨hy, e'⟩ : y.size ≤ sizeLine ∧ n = y.size := e
    subst e'
    exact PySem.W.len_bytes (by omega) ⟨.int _, H, I.tok _, ⟨_, rfl⟩, q⟩
  | ref p =>
    cases rx
    have e' : (∃ xs, SqL X.K H p xs ∧ n = xs.length) ∨ ∃ xs, SqT X.K H p xs ∧ n = xs.length := e
    rcases e' with ⟨xs, hx, e'⟩ | ⟨xs, hx, e'⟩
    · subst e'
      obtain ⟨its, r', pl, hz⟩ := I.list hx
      have hlen := r'.length
      exact Calls.call_len_list pl.isList (by simp only [List.size_toArray]; omega) ⟨.int xs.length, H, I.tok _, ⟨_, by simp only [List.size_toArray]; rw [hlen]⟩, q⟩
    · subst e'
      obtain ⟨its, r', pl, hz⟩ := I.tuple hx
      have hlen := r'.length
      exact len_tuple pl (by simp only [List.size_toArray]; omega) ⟨.int xs.length, H, I.tok _, ⟨_, by simp only [List.size_toArray]; rw [hlen]⟩, q⟩
  | _ => exact (show False from e).elim
/-- divmod: a new tuple -/
theorem call_divmod : CallR X (.builtin "divmod") (fun xs H Q => ∃ i j, xs = [.int i, .int j] ∧ CDiv i j ∧ ∀ p, H p = none → Q (.ref p) (upd H p (.tup [.int (i / j), .int (i % j)]))) := by
  intro pins s σ H xs us Q I r h
  obtain ⟨i, j, rfl, ⟨h1, h2⟩, q⟩ := h
  obtain ⟨u, w', rfl, ⟨t, rfl⟩, ⟨t', rfl⟩⟩ := vals2 r
  refine divmod_int (by omega) ?_ (.inl (PyProof.noPylong_small (by omega)))
  rw [Int.fdiv_eq_ediv_of_nonneg i (by omega), Int.fmod_eq_emod_of_nonneg i (by omega)]
  have hn : H s.heap.objs.size = none := I.hok.fresh (Nat.le_refl _)
  refine ⟨.ref s.heap.objs.size, _, ?_, rfl, q _ hn⟩
  refine I.laid (fun b o e => Heap.get?_push_of_some _ e) (Nat.le_refl _) ⟨by simp only [List.length_cons, List.length_nil]; rw [sizeLine_eq]; decide, [.int (i / j) s.toks, .int (i % j) (s.toks + 1)], .cons ⟨_, rfl⟩ (.cons ⟨_, rfl⟩ .nil), ?_⟩
  exact ⟨_, Heap.get?_push_size s.heap rfl, rfl, 0, rfl⟩
end
end L2

namespace L2
open PySem PySem.Spec PyProof.Rows

/-! ### an instance, its attributes a map -/
structure ObjM (h : Heap) (x dx C : Addr) (mA : Str → Option Value) : Prop where
  obj : h.get? x = some (PySem.W.instObj C dx)
  ns : h.Ns1 dx mA
  ne : dx ≠ x

theorem lookIn_ns {h : Heap} {dx : Addr} {mA : Str → Option Value} (n : h.Ns1 dx mA) : ∃ od, h.get? dx = some od ∧ ∀ name, PySem.W.lookIn name od = some (mA name) := by
  obtain ⟨o, es, ep, ho, hd, hk, _, hm⟩ := n
  refine ⟨o, ho, fun name => ?_⟩
  have e := hm name
  unfold nsFind findBy at e
  rw [← Array.find?_toList] at e
  unfold PySem.W.lookIn
  rw [hd]
  dsimp only
  split
  · rename_i y q
    rw [q] at e
    exact congrArg some e
  · rename_i q
    rw [q] at e
    have a : es.toList.any (·.refKey) = false := by
      rw [List.any_eq_false]
      intro y hy
      obtain ⟨z, t, hkey⟩ := hk y (Array.mem_toList_iff.mp hy)
      simp [DictEntry.refKey, hkey]
    have a' : ¬ es.toList.any (·.refKey) = true := by rw [a]; exact Bool.false_ne_true
    rw [if_neg a']
    exact congrArg some e

theorem ObjM.look {h : Heap} {x dx C : Addr} {mA : Str → Option Value} (I : ObjM h x dx C mA) : ∃ od, PySem.W.InstAt h x (PySem.W.instObj C dx) C (some od) ∧ ∀ name, PySem.W.lookIn name od = some (mA name) :=
  let ⟨od, ho, hl⟩ := lookIn_ns I.ns
  ⟨od, ⟨I.obj, rfl, rfl, ho⟩, hl⟩

section
variable {prog : Program} {w : World} {A : Around} {E : Value → Shared → Prop} {s : Shared} {K : PySem.W.Frag} {x dx C f : Addr} {mA : Str → Option Value} {name : Str} {v : Value}

theorem get_map {expr : Bool} {Q : Value → Shared → Prop} (X : K.In s.heap) (I : ObjM s.heap x dx C mA) (hg : PySem.W.plainGet K C name = true) (hh : PySem.W.hasDictIn K C = true)
    (ha : PySem.W.findIn K (.ref C) name = some none) (hv : mA name = some v) (hv' : PySem.W.handedIn v = true) (h : Q v { s with toks := s.toks + 1 }) :
    wpAny (model prog w) A (getAttr (.ref x) name expr) Q E s := by
  obtain ⟨od, J, hl⟩ := I.look
  exact PySem.W.get_value X J (PySem.W.plainGet_of hg).1 (PySem.W.findObj_own hh ha rfl (by rw [hl, hv])) hv' h

theorem get_const {expr : Bool} {a : Value} {Q : Value → Shared → Prop} (X : K.In s.heap) (I : ObjM s.heap x dx C mA) (hg : PySem.W.plainGet K C name = true) (hh : PySem.W.hasDictIn K C = true)
    (ha : PySem.W.findIn K (.ref C) name = some (some a)) (hn : PySem.W.specialIn K a "__get__" = some none) (hc : PySem.W.copiedNames.contains name = false) (hv : mA name = none) (hv' : PySem.W.handedIn a = true)
    (h : Q a { s with toks := s.toks + 1 }) : wpAny (model prog w) A (getAttr (.ref x) name expr) Q E s := by
  obtain ⟨od, J, hl⟩ := I.look
  exact PySem.W.get_value X J (PySem.W.plainGet_of hg).1 (PySem.W.findObj_cls hh ha hn hv' hc (by rw [hl, hv])) hv' h

theorem get_meth {pl : Sem Bool} {Q : Value × List Value → Shared → Prop} (X : K.In s.heap) (I : ObjM s.heap x dx C mA) (hg : PySem.W.plainGet K C name = true)
    (hf : PySem.W.findIn K (.ref C) name = some (some (.ref f))) (ht : PySem.W.isFn K (.ref f) = true) (hv : mA name = none) (h : Q (.ref f, [.ref x]) s) :
    wpAny (model prog w) A (getMethod (.ref x) name pl) Q E s := by
  obtain ⟨od, J, hl⟩ := I.look
  exact PySem.W.method_fn X J (PySem.W.plainGet_of hg).1 (PySem.W.plainGet_of hg).2 hf (beq_iff_eq.mp ht) (by show (PySem.W.lookIn name od).map (·.isSome) = some false; rw [hl, hv]; rfl) h

theorem set_map {ns : List Str} {Q : Unit → Shared → Prop} (X : K.In s.heap) (I : ObjM s.heap x dx C mA)
    (hs : PySem.W.findIn K (.ref C) "__setattr__" = some (some (.builtin "object.__setattr__"))) (hp : PySem.W.plainOver K C = true) (ht : PySem.W.takerIn K C name = some none) (hh : PySem.W.hasDictIn K C = true)
    (hw : PySem.Within mA ns) (hsz : ns.length ≤ sizeLine)
    (h : ∀ h', ObjM h' x dx C (fun y => if y = name then some v else mA y) → Heap.SameBut dx s.heap h' → Q () { s with heap := h', toks := s.toks + 2 }) :
    wpAny (model prog w) A (setAttr (.ref x) name v) Q E s := by
  obtain ⟨od, J, hl⟩ := I.look
  refine PySem.W.set_plain X J hs (PySem.W.osa_open (s := { s with toks := s.toks + 1 }) (r := none) X J hp ht fun b => ?_)
  obtain ⟨cd, hc, hd'⟩ := PySem.W.any_some hh
  have hx : s.heap.get? x = some ⟨.ref C, some dx, .plain, #[]⟩ := I.obj
  refine wpAny_bind (wpAny_pure (wpAny_bind (wpAny_bind (wpAny_loadPart hx (wpAny_bind (PySem.W.Looks.here (s := { s with toks := s.toks + 1 }) (PySem.W.looks_clsIn X hc) ?_))))))
  rw [hd']
  refine wpAny_pure (a := some dx) (wpAny_bind (wpAny_pure (wpAny_bind ?_)))
  refine wpAny_nsSet1 (s := { s with toks := s.toks + 1 }) I.ns fun h' hn2 hs2 => ?_
  obtain ⟨oD, esD, epD, hoD, hdD, hcD⟩ := hn2.count (PySem.Within.cons name v hw)
  refine wpAny_bind (wpAny_lookBehind hoD (by rw [hdD]; exact pastItsLine_dict (Nat.le_trans hcD (by rw [List.length_cons]; omega))) ?_)
  exact wpAny_pure (h _ ⟨(hs2.2 _ (Ne.symm I.ne)).trans I.obj, hn2, I.ne⟩ hs2)

/-- C(..): the dict at the heap's end, the instance behind it; then its __init__ -/
theorem make_map {R : Result → Shared → Prop} {vs : List Value} {kw : List (Str × Value)} (X : K.In s.heap) (hm : PySem.W.makesIn K C = true)
    (hi : PySem.W.findIn K (.ref C) "__init__" = some (some (.ref f))) (hf : PySem.W.typeIn K (.ref f) = some (.type "function"))
    (h : codeAny (model prog w) (A.under (.builtin "type.__call__" ⟨.ref C :: vs, kw⟩)) (.call (.ref f) ⟨.ref (s.heap.objs.size + 1) :: vs, kw⟩) (PySem.W.InitBack (s.heap.objs.size + 1) R)
      { s with heap := (s.heap.push PySem.W.emptyDict).push (PySem.W.instObj C s.heap.objs.size) }) :
    codeAny (model prog w) A (.call (.ref C) ⟨vs, kw⟩) R s := by
  obtain ⟨hh, g, d, t, os⟩ := s
  exact PySem.W.make_core (PySem.W.makes_of X hm) (PySem.W.looks_findIn X hi) (fun self => PySem.W.bind_fn X self hf) (.inl rfl) h
/-- C() where there is no __init__ but object's -/
theorem make_map0 {R : Result → Shared → Prop} (X : K.In s.heap) (hm : PySem.W.makesIn K C = true)
    (hi : PySem.W.findIn K (.ref C) "__init__" = some (some (.builtin "object.__init__")))
    (hb : ∀ self, PySem.W.Looks (model prog w) s.heap (bindSpecial (.builtin "object.__init__") self) (.builtin "object.__init__", [self]))
    (h : codeAny (model prog w) (A.under (.builtin "type.__call__" ⟨[.ref C], []⟩)) (.call (.builtin "object.__init__") ⟨[.ref (s.heap.objs.size + 1)], []⟩) (PySem.W.InitBack (s.heap.objs.size + 1) R)
      { s with heap := (s.heap.push PySem.W.emptyDict).push (PySem.W.instObj C s.heap.objs.size) }) :
    codeAny (model prog w) A (.call (.ref C) ⟨[], []⟩) R s := by
  obtain ⟨hh, g, d, t, os⟩ := s
  exact PySem.W.make_core (PySem.W.makes_of X hm) (PySem.W.looks_findIn X hi) hb (.inr ⟨rfl, rfl⟩) h
end

/-! ### the attributes as a list of pairs -/
def putF (f : Str) (v : V) : List (Str × V) → List (Str × V)
  | [] => [(f, v)]
  | (g, x) :: r => if g = f then (g, v) :: r else (g, x) :: putF f v r
theorem lookup_putF (f g : Str) (v : V) : ∀ fs : List (Str × V), (putF f v fs).lookup g = if g = f then some v else fs.lookup g
  | [] => by
    show List.lookup g [(f, v)] = _
    by_cases h : g = f
    · have hb : (g == f) = true := beq_iff_eq.mpr h
      simp only [List.lookup, hb, if_pos h]
    · have hb : (g == f) = false := beq_eq_false_iff_ne.mpr h
      simp only [List.lookup, hb, if_neg h]
  | (k, x) :: r => by
    have ih := lookup_putF f g v r
    rw [show putF f v ((k, x) :: r) = (if k = f then (k, v) :: r else (k, x) :: putF f v r) from rfl]
    by_cases hk : k = f
    · rw [if_pos hk]
      by_cases h : g = k
      · have hb : (g == k) = true := beq_iff_eq.mpr h
        simp only [List.lookup, hb, if_pos (h.trans hk)]
      · have hb : (g == k) = false := beq_eq_false_iff_ne.mpr h
        simp only [List.lookup, hb, if_neg (fun e : g = f => h (e.trans hk.symm))]
    · rw [if_neg hk]
      by_cases h : g = k
      · have hb : (g == k) = true := beq_iff_eq.mpr h
        simp only [List.lookup, hb, if_neg (fun e : g = f => hk (h.symm.trans e))]
      · have hb : (g == k) = false := beq_eq_false_iff_ne.mpr h
        simp only [List.lookup, hb]
        exact ih
theorem keys_putF (f : Str) (v : V) : ∀ fs : List (Str × V), f ∈ (putF f v fs).map (·.1) ∧ ∀ g, g ∈ fs.map (·.1) → g ∈ (putF f v fs).map (·.1)
  | [] => ⟨by simp [putF], fun g h => by simp at h⟩
  | (k, x) :: r => by
    obtain ⟨i1, i2⟩ := keys_putF f v r
    rw [show putF f v ((k, x) :: r) = (if k = f then (k, v) :: r else (k, x) :: putF f v r) from rfl]
    by_cases hk : k = f
    · rw [if_pos hk]
      subst hk
      exact ⟨by simp, fun g h => by simpa using h⟩
    · rw [if_neg hk]
      refine ⟨?_, fun g h => ?_⟩
      · rw [List.map_cons]
        exact List.mem_cons_of_mem _ i1
      · rw [List.map_cons] at h ⊢
        rcases List.mem_cons.mp h with e | e
        · exact List.mem_cons.mpr (.inl e)
        · exact List.mem_cons_of_mem _ (i2 g e)
theorem length_putF (f : Str) (v : V) : ∀ fs : List (Str × V), (putF f v fs).length ≤ fs.length + 1
  | [] => by simp [putF]
  | (k, x) :: r => by
    have ih := length_putF f v r
    rw [show putF f v ((k, x) :: r) = (if k = f then (k, v) :: r else (k, x) :: putF f v r) from rfl]
    by_cases hk : k = f
    · rw [if_pos hk, List.length_cons, List.length_cons]; omega
    · rw [if_neg hk, List.length_cons, List.length_cons]; omega

theorem RelO.some_of {v : V} {o : Option Value} (r : RelO (some v) o) : ∃ u, o = some u ∧ RelV v u := by
  cases o with
  | none => exact (show False from r).elim
  | some u => exact ⟨u, rfl, r⟩
theorem RelO.none_of {o : Option Value} (r : RelO none o) : o = none := by
  cases o with
  | none => rfl
  | some u => exact (show False from r).elim
theorem handed_of {v : V} {u : Value} (r : RelV v u) : PySem.W.handedIn u = true := by
  cases v with
  | non => cases (show u = Value.none from r); rfl
  | bl b => cases (show u = Value.bool b from r); rfl
  | int i => obtain ⟨t, e⟩ := (show ∃ t, u = Value.int i t from r); cases e; rfl
  | str x => obtain ⟨t, e⟩ := (show ∃ t, u = Value.str x t from r); cases e; rfl
  | byt b => obtain ⟨t, e⟩ := (show ∃ t, u = Value.bytes b t from r); cases e; rfl
  | flt b => obtain ⟨t, e⟩ := (show ∃ t, u = Value.float b t from r); cases e; rfl
  | ref a => cases (show u = Value.ref a from r); rfl
  | ty n => cases (show u = Value.type n from r); rfl

section
variable {P : Program} {w : World} {H H' : Hp} {h h' : Heap} {a C dx : Addr} {fs fs' : List (Str × V)}
theorem ins_get (hok : HOk P w H h) (e : H a = some (.ins C dx fs)) : ∃ mA, ObjM h a dx C mA ∧ (∀ f, RelO (fs.lookup f) (mA f)) ∧ PySem.Within mA (fs.map (·.1)) ∧ fs.length ≤ 1000 ∧ H dx = some (.own a) := by
  obtain ⟨d, z, ne, ob, mA, n, r, q⟩ := (show ObjOk P w H h a (.ins C dx fs) from hok a _ e)
  exact ⟨mA, ⟨ob, n, ne⟩, r, q, z, d⟩
end

/-! ### what of the text a class must have -/
structure Cls (K : PySem.W.Frag) (C : Addr) : Prop where
  pg : PySem.W.plainGet K C Str.empty = true
  hd : PySem.W.hasDictIn K C = true
  po : PySem.W.plainOver K C = true
  sa : PySem.W.findIn K (.ref C) "__setattr__" = some (some (.builtin "object.__setattr__"))
theorem Cls.get {K : PySem.W.Frag} {C : Addr} (c : Cls K C) (f : Str) : PySem.W.plainGet K C f = true := c.pg
/-- no class of it has the name -/
def NoAttr (K : PySem.W.Frag) (C : Addr) (f : Str) : Prop := PySem.W.findIn K (.ref C) f = some none
theorem NoAttr.taker {K : PySem.W.Frag} {C : Addr} {f : Str} (n : NoAttr K C f) : PySem.W.takerIn K C f = some none := by
  unfold PySem.W.takerIn
  rw [show PySem.W.findIn K (.ref C) f = some none from n]
  rfl
/-- a constant of the class -/
structure Con (K : PySem.W.Frag) (C : Addr) (f : Str) (v : V) (u : Value) : Prop where
  at_ : PySem.W.findIn K (.ref C) f = some (some u)
  rel : RelV v u
  get : PySem.W.specialIn K u "__get__" = some none
  cp : PySem.W.copiedNames.contains f = false
/-- a method: a plain def of the class or of one above it -/
structure Meth (K : PySem.W.Frag) (C : Addr) (m : Str) (f : Addr) : Prop where
  at_ : PySem.W.findIn K (.ref C) m = some (some (.ref f))
  fn : PySem.W.isFn K (.ref f) = true
  kp : PySem.W.keepIn K (.ref f) = true

section
variable {X : Cx} {pins : List (Addr × Obj)} {σ : St} {H : Hp} {s : Shared} {a C dx : Addr} {fs : List (Str × V)} {f : Str} {v : V} {A : Around} {E : Value → Shared → Prop}

theorem getattr_ok {b : Bool} {Q : Value → Shared → Prop} (I : Inv X pins σ H s) (e : H a = some (.ins C dx fs)) (c : Cls X.K C) (n : NoAttr X.K C f) (l : fs.lookup f = some v)
    (h : ∀ u s', Inv X pins σ H s' → RelV v u → Q u s') : wpAny (model X.prog X.w) A (getAttr (.ref a) f b) Q E s := by
  obtain ⟨mA, O, r, _, _, _⟩ := ins_get I.hok e
  obtain ⟨u, hu, ru⟩ := RelO.some_of (v := v) (o := mA f) (by rw [← l]; exact r f)
  exact get_map I.kIn O (c.get f) c.hd n hu (handed_of ru) (h u _ (I.tok _) ru)

theorem getcon_ok {b : Bool} {u : Value} {Q : Value → Shared → Prop} (I : Inv X pins σ H s) (e : H a = some (.ins C dx fs)) (c : Cls X.K C) (k : Con X.K C f v u) (l : fs.lookup f = none)
    (h : ∀ s', Inv X pins σ H s' → Q u s') : wpAny (model X.prog X.w) A (getAttr (.ref a) f b) Q E s := by
  obtain ⟨mA, O, r, _, _, _⟩ := ins_get I.hok e
  have hn : mA f = none := RelO.none_of (by rw [← l]; exact r f)
  exact get_const I.kIn O (c.get f) c.hd k.at_ k.get k.cp hn (handed_of k.rel) (h _ (I.tok _))

theorem getmeth_ok {m : Str} {g : Addr} {pl : Sem Bool} {Q : Value × List Value → Shared → Prop} (I : Inv X pins σ H s) (e : H a = some (.ins C dx fs)) (c : Cls X.K C) (k : Meth X.K C m g) (l : fs.lookup m = none)
    (h : Q (.ref g, [.ref a]) s) : wpAny (model X.prog X.w) A (getMethod (.ref a) m pl) Q E s := by
  obtain ⟨mA, O, r, _, _, _⟩ := ins_get I.hok e
  have hn : mA m = none := RelO.none_of (by rw [← l]; exact r m)
  exact get_meth I.kIn O (c.get m) k.at_ k.fn hn h

theorem setattr_ok {y : V} {u : Value} {Q : Unit → Shared → Prop} (I : Inv X pins σ H s) (e : H a = some (.ins C dx fs)) (c : Cls X.K C) (n : NoAttr X.K C f) (hl : fs.length < 1000) (ry : RelV y u)
    (h : ∀ s', Inv X pins σ (upd H a (.ins C dx (putF f y fs))) s' → Q () s') : wpAny (model X.prog X.w) A (setAttr (.ref a) f u) Q E s := by
  obtain ⟨mA, O, r, wi, _, ho⟩ := ins_get I.hok e
  have hz : (fs.map (·.1)).length ≤ sizeLine := by rw [List.length_map, sizeLine_eq]; omega
  refine set_map I.kIn O c.sa c.po n.taker c.hd wi hz fun h' O' sb => h _ ?_
  have hd : ∃ o, h'.get? dx = some o := let ⟨o, _, _, e', _⟩ := O'.ns; ⟨o, e'⟩
  refine I.write (x := a) (e := dx) (by rw [e]; exact True.intro) (.inr ho) (fun b q hb z => (sb.2 b hb).trans z) hd ?_
  refine ⟨by rw [upd_ne O.ne]; exact ho, ?_, O.ne, O'.obj, _, O'.ns, fun g => ?_, fun g hg => ?_⟩
  · have := length_putF f y fs; omega
  · show RelO ((putF f y fs).lookup g) (if g = f then some u else mA g)
    rw [lookup_putF]
    by_cases q : g = f
    · rw [if_pos q, if_pos q]; exact ry
    · rw [if_neg q, if_neg q]; exact r g
  · by_cases q : g = f
    · rw [q]; exact (keys_putF f y fs).1
    · refine (keys_putF f y fs).2 g (wi g fun z => hg ?_)
      show (if g = f then some u else mA g) = none
      rw [if_neg q]; exact z

/-- a new instance, tracked, without attributes -/
theorem Inv.made (I : Inv X pins σ H s) : Inv X pins σ (upd (upd H s.heap.objs.size (.own (s.heap.objs.size + 1))) (s.heap.objs.size + 1) (.ins C s.heap.objs.size []))
    { s with heap := (s.heap.push PySem.W.emptyDict).push (PySem.W.instObj C s.heap.objs.size) } := by
  have e1 : (s.heap.push PySem.W.emptyDict).get? s.heap.objs.size = some PySem.W.emptyDict := Heap.get?_push_size s.heap rfl
  have e2 : ((s.heap.push PySem.W.emptyDict).push (PySem.W.instObj C s.heap.objs.size)).get? (s.heap.objs.size + 1) = some (PySem.W.instObj C s.heap.objs.size) := by
    have := Heap.get?_push_size (s.heap.push PySem.W.emptyDict) (o := PySem.W.instObj C s.heap.objs.size) rfl
    rwa [Heap.size_push] at this
  have e3 : (s.heap.push PySem.W.emptyDict).Ns s.heap.objs.size (fun _ => none) := ⟨PySem.W.emptyDict, #[], _, e1, rfl, (fun e he => absurd he (by simp)), fun _ => rfl⟩
  have I1 := I.laid (a := s.heap.objs.size) (o := .own (s.heap.objs.size + 1)) (h' := s.heap.push PySem.W.emptyDict) (t' := s.toks) (fun b u q => Heap.get?_push_of_some _ q) (Nat.le_refl _) ⟨_, e1⟩
  refine I1.laid (a := s.heap.objs.size + 1) (o := .ins C s.heap.objs.size []) (t' := s.toks) (fun b u q => Heap.get?_push_of_some _ q) (Nat.le_of_eq (Heap.size_push _ _)) ?_
  have ne : s.heap.objs.size ≠ s.heap.objs.size + 1 := Nat.ne_of_lt (Nat.lt_succ_self _)
  refine ⟨by rw [upd_ne ne, upd_same], Nat.zero_le _, ne, e2, fun _ => none, (Heap.Ns1.of_empty e3).at fun o q => Heap.get?_push_of_some _ q, fun _ => True.intro, fun y hy => absurd rfl hy⟩

/-- e.f where nothing but the object is asked: through attributeBase (super) and the last hold -/
theorem attr_of {prog : Program} {w : World} {env : Env} {e : Expr} {f : Str} {pos : Pos} {s : Shared} {Q : Value → Shared → Prop} (hb : attributeBase e f env (eval e env) = eval e env)
    (h : wpAny (model prog w) A (eval e env) (fun o s₁ => wpAny (model prog w) A (getAttr o f true) Q E s₁) E s) : wpAny (model prog w) A (eval (.Attribute e f pos) env) Q E s :=
  Attribute_any_ h (by rw [arm_eval_Attribute, hb])
end

/-! ### readings and rules -/
/-- e.f, an attribute of the instance -/
def tFld (K : PySem.W.Frag) (ta : TE) (f : Str) : TE := fun σ H Q => ta σ H fun x H1 => ∃ a C dx fs v, x = .ref a ∧ H1 a = some (.ins C dx fs) ∧ Cls K C ∧ NoAttr K C f ∧ fs.lookup f = some v ∧ Q v H1
/-- e.f, a constant of the class -/
def tCon (K : PySem.W.Frag) (ta : TE) (f : Str) : TE := fun σ H Q => ta σ H fun x H1 => ∃ a C dx fs v u, x = .ref a ∧ H1 a = some (.ins C dx fs) ∧ Cls K C ∧ Con K C f v u ∧ fs.lookup f = none ∧ Q v H1
/-- e.f = value -/
def sFld (K : PySem.W.Frag) (ta tv : TE) (f : Str) : TS := fun D σ H => tv σ H fun y H1 => ta σ H1 fun x H2 => ∃ a C dx fs, x = .ref a ∧ H2 a = some (.ins C dx fs) ∧ Cls K C ∧ NoAttr K C f ∧ fs.length < 1000 ∧
  D.nx σ (upd H2 a (.ins C dx (putF f y fs)))
/-- an augmented operator on two values -/
def InOp (X : Cx) (op : Operator) (rd : V → V → Hp → VK → Prop) : Prop :=
  ∀ (pins : List (Addr × Obj)) (s : Shared) (σ : St) (H : Hp) (x y : V) (u v : Value) (Q : VK), Inv X pins σ H s → RelV x u → RelV y v → rd x y H Q → wpAny (model X.prog X.w) X.A (inplaceOp op u v) (EP X pins σ Q) X.xe s
/-- e.f op= value -/
def sFldAug (K : PySem.W.Frag) (ta tv : TE) (rd : V → V → Hp → VK → Prop) (f : Str) : TS := fun D σ H => ta σ H fun x H1 => ∃ a C dx fs v, x = .ref a ∧ H1 a = some (.ins C dx fs) ∧ Cls K C ∧ NoAttr K C f ∧ fs.lookup f = some v ∧
  tv σ H1 fun y H2 => rd v y H2 fun z H3 => ∃ dx' fs', H3 a = some (.ins C dx' fs') ∧ fs'.length < 1000 ∧ D.nx σ (upd H3 a (.ins C dx' (putF f z fs')))

section
variable {X : Cx} {o e value : Expr} {f : Str} {pos pos' tpos : Pos} {ta tv : TE}
theorem pe_fld (he : PE X e ta) (hb : attributeBase e f X.env (eval e X.env) = eval e X.env) : PE X (.Attribute e f pos) (tFld X.K ta f) := by
  intro pins s σ H Q I h
  refine attr_of hb (thn (he pins s σ H _ I h) fun u s1 ⟨x, H1, I1, rx, a, C, dx, fs, v, ex, ea, c, n, l, q⟩ => ?_)
  subst ex
  obtain rfl : u = Value.ref a := rx
  exact getattr_ok I1 ea c n l fun u' s2 I2 ru => ⟨v, H1, I2, ru, q⟩
theorem pe_con (he : PE X e ta) (hb : attributeBase e f X.env (eval e X.env) = eval e X.env) : PE X (.Attribute e f pos) (tCon X.K ta f) := by
  intro pins s σ H Q I h
  refine attr_of hb (thn (he pins s σ H _ I h) fun u s1 ⟨x, H1, I1, rx, a, C, dx, fs, v, u0, ex, ea, c, k, l, q⟩ => ?_)
  subst ex
  obtain rfl : u = Value.ref a := rx
  exact getcon_ok I1 ea c k l fun s2 I2 => ⟨v, H1, I2, k.rel, q⟩
theorem ps_fld (ha : PE X o ta) (hv : PE X value tv) (hs : swapsWith value (some (.Attribute o f pos')) pos.line X.env = pure false) : PS X (.Assign [.Attribute o f pos'] value pos) (sFld X.K ta tv f) := by
  intro pins s σ H D I h
  refine plainObj_wpAny_Assign_Attribute (thn (hv pins s σ H _ I h) fun u s1 ⟨y, H1, I1, ry, q⟩ => thn (ha pins s1 σ H1 _ I1 q) fun ov s2 ⟨x, H2, I2, rx, a, C, dx, fs, ex, ea, c, n, l, q2⟩ => ?_) hs
  subst ex
  obtain rfl : ov = Value.ref a := rx
  exact setattr_ok I2 ea c n l ry fun s3 I3 => ⟨σ, _, I3, q2⟩
theorem ps_fldaug {op : Operator} {rd : V → V → Hp → VK → Prop} (ha : PE X o ta) (hv : PE X value tv) (hop : InOp X op rd) : PS X (.AugAssign (.Attribute o f tpos) op value pos) (sFldAug X.K ta tv rd f) := by
  intro pins s σ H D I h
  refine wpAny_AugAssign_AttributeAny (thn (ha pins s σ H _ I h) fun ov s1 ⟨x, H1, I1, rx, a, C, dx, fs, v, ex, ea, c, n, l, q⟩ => ?_)
  subst ex
  obtain rfl : ov = Value.ref a := rx
  refine getattr_ok I1 ea c n l fun u s2 I2 ru => thn (hv pins s2 σ H1 _ I2 q) fun w3 s3 ⟨y, H2, I3, ry, q3⟩ => thn (hop pins s3 σ H2 v y u w3 _ I3 ru ry q3) fun w4 s4 ⟨z, H3, I4, rz, dx', fs', ea', l', q4⟩ => ?_
  exact setattr_ok I4 ea' c n l' rz fun s5 I5 => ⟨σ, _, I5, q4⟩
def rAdd : V → V → Hp → VK → Prop := fun x y H Q => ∃ i j, x = .int i ∧ y = .int j ∧ Q (.int (i + j)) H
def rSub : V → V → Hp → VK → Prop := fun x y H Q => ∃ i j, x = .int i ∧ y = .int j ∧ Q (.int (i - j)) H
theorem in_add : InOp X .Add rAdd := by
  rintro pins s σ H x y u v Q I rx ry ⟨i, j, rfl, rfl, q⟩
  obtain ⟨t, rfl⟩ := (show ∃ t, u = Value.int i t from rx)
  obtain ⟨t', rfl⟩ := (show ∃ t', v = Value.int j t' from ry)
  exact PyProof.Rows.iadd_int ⟨.int (i + j), H, I.tok _, ⟨_, rfl⟩, q⟩
theorem in_sub : InOp X .Sub rSub := by
  rintro pins s σ H x y u v Q I rx ry ⟨i, j, rfl, rfl, q⟩
  obtain ⟨t, rfl⟩ := (show ∃ t, u = Value.int i t from rx)
  obtain ⟨t', rfl⟩ := (show ∃ t', v = Value.int j t' from ry)
  exact PyProof.Rows.isub_int ⟨.int (i - j), H, I.tok _, ⟨_, rfl⟩, q⟩

/-- what is between an instance and its method: the tree of a method call -/
theorem methcall_of {pl : Sem Bool} {m : Str} {apos : Pos} {args : List Expr} {pins : List (Addr × Obj)} {s : Shared} {σ : St} {H : Hp} {Q : Value → Shared → Prop} {te : TE} (he : PE X e te) (I : Inv X pins σ H s)
    (h : te σ H fun x H1 => ∃ a C dx fs g, x = .ref a ∧ H1 a = some (.ins C dx fs) ∧ Cls X.K C ∧ Meth X.K C m g ∧ fs.lookup m = none ∧
      ∀ s1, Inv X pins σ H1 s1 → wpAny (model X.prog X.w) X.A (callWith pos (.ref g) [.ref a] (backTo pos (starEach args X.env)) (backToKw pos (keywordEach [] X.env))) Q X.xe s1)
    (ht : eval (.Call (.Attribute e m apos) args [] pos) X.env = (do
      let ov ← eval e X.env
      standAt apos.atName
      let (f, first) ← holding [ov] (getMethod ov m pl)
      callWith pos f first (backTo pos (starEach args X.env)) (backToKw pos (keywordEach [] X.env)))) :
    wpAny (model X.prog X.w) X.A (eval (.Call (.Attribute e m apos) args [] pos) X.env) Q X.xe s := by
  refine PySem.W.methodCall_KW (pl := pl) (thn (he pins s σ H _ I h) fun u s1 ⟨x, H1, I1, rx, a, C, dx, fs, g, ex, ea, c, k, l, q⟩ => ?_) ht
  subst ex
  obtain rfl : u = Value.ref a := rx
  exact getmeth_ok I1 ea c k l (q s1 I1)
end

/-! ### isinstance -/
section
variable {X : Cx} {pins : List (Addr × Obj)} {σ : St} {H : Hp} {s : Shared} {A : Around} {E : Value → Shared → Prop} {Q : Value → Shared → Prop} {c : Value} {b : Bool}
/-- the type of a value, as the fragment's deciders take it; for an instance its class -/
inductive TyOf (K : PySem.W.Frag) (H : Hp) : V → Value → Prop where
  | non : TyOf K H .non (.type "NoneType")
  | bl (x : Bool) : TyOf K H (.bl x) (.type "bool")
  | int (i : Int) : TyOf K H (.int i) (.type "int")
  | str (x : Str) : TyOf K H (.str x) (.type "str")
  | flt (x : UInt64) : TyOf K H (.flt x) (.type "float")
  | lst {a : Addr} {xs : List V} (e : H a = some (.lst xs)) : TyOf K H (.ref a) (.type "list")
  | frz {a : Addr} {o : Obj} {xs : List V} (e : H a = some (.frz o (.lst xs))) : TyOf K H (.ref a) (.type "list")
  | tup {a : Addr} {xs : List V} (e : H a = some (.tup xs)) : TyOf K H (.ref a) (.type "tuple")
  | dK {a : Addr} {kvs : List (Key × V)} (e : H a = some (.dK kvs)) : TyOf K H (.ref a) (.type "dict")
  | dT {a : Addr} {kvs : List (List Key × V)} (e : H a = some (.dT kvs)) : TyOf K H (.ref a) (.type "dict")
  | ins {a C dx : Addr} {fs : List (Str × V)} (e : H a = some (.ins C dx fs)) (cl : Cls K C) (ha : PySem.W.findIn K (.ref C) "__class__" = some (some (.builtin "object.__class__")))
      (hn : PySem.W.specialIn K (.builtin "object.__class__") "__get__" = some (some (.builtin "getset_descriptor.__get__"))) (htk : PySem.W.takesIn K (.builtin "object.__class__") = some true)
      (hm : PySem.W.mroIn K C (.type "object") = some true) : TyOf K H (.ref a) (.ref C)
/-- isinstance(x, c) for one class c, a built-in or an own one: kitOne's answer -/
theorem isinst_ok {x : V} {u t : Value} (I : Inv X pins σ H s) (rx : RelV x u) (ty : TyOf X.K H x t) (e : PySem.W.kitOne X.K t c = some b) (h : ∀ tk, Q (.bool b) { s with toks := tk }) :
    wpAny (model X.prog X.w) A (call (.builtin "isinstance") [u, c]) Q E s := by
  cases ty with
  | non => cases (show u = Value.none from rx); exact PySem.W.kia_one PySem.W.kitx_none I.kIn True.intro e (fun z => nomatch z) h
  | bl y => cases (show u = Value.bool y from rx); exact PySem.W.kia_one PySem.W.kitx_bool I.kIn True.intro e (fun z => nomatch z) h
  | int i => obtain ⟨t, q⟩ := (show ∃ t, u = Value.int i t from rx); cases q; exact PySem.W.kia_one PySem.W.kitx_int I.kIn True.intro e (fun z => nomatch z) h
  | str y => obtain ⟨t, q⟩ := (show ∃ t, u = Value.str y t from rx); cases q; exact PySem.W.kia_one PySem.W.kitx_str I.kIn True.intro e (fun z => nomatch z) h
  | flt y => obtain ⟨t, q⟩ := (show ∃ t, u = Value.float y t from rx); cases q; exact PySem.W.kia_one PySem.W.kitx_float I.kIn True.intro e (fun z => nomatch z) h
  | @lst a xs ea =>
    cases (show u = Value.ref a from rx)
    obtain ⟨_, _, n, _, h1⟩ := (show ObjOk X.prog X.w H s.heap a (.lst xs) from I.hok a _ ea)
    exact PySem.W.kia_one PySem.W.kitx_list I.kIn ⟨_, h1, rfl⟩ e (fun z => nomatch z) h
  | @frz a ob xs ea =>
    cases (show u = Value.ref a from rx)
    obtain ⟨_, _, _, n, _, h1⟩ := (show ObjOk X.prog X.w H s.heap a (.frz ob (.lst xs)) from I.hok a _ ea)
    exact PySem.W.kia_one PySem.W.kitx_list I.kIn ⟨_, h1, rfl⟩ e (fun z => nomatch z) h
  | @tup a xs ea =>
    cases (show u = Value.ref a from rx)
    obtain ⟨_, _, _, p⟩ := (show ObjOk X.prog X.w H s.heap a (.tup xs) from I.hok a _ ea)
    obtain ⟨o, h1, h2, _⟩ := p
    exact PySem.W.kia_one PySem.W.kitx_tuple I.kIn ⟨o, h1, h2⟩ e (fun z => nomatch z) h
  | @dK a kvs ea =>
    cases (show u = Value.ref a from rx)
    obtain ⟨_, _, vs, _, p⟩ := (show ObjOk X.prog X.w H s.heap a (.dK kvs) from I.hok a _ ea)
    obtain ⟨o, es, ep, h1, h2, _⟩ := p
    exact PySem.W.kia_one PySem.W.kitx_dict I.kIn ⟨o, h1, h2.1⟩ e (fun z => nomatch z) h
  | @dT a kvs ea =>
    cases (show u = Value.ref a from rx)
    obtain ⟨_, _, xs, _, o, es, ep, h1, h2, _⟩ := (show ObjOk X.prog X.w H s.heap a (.dT kvs) from I.hok a _ ea)
    exact PySem.W.kia_one PySem.W.kitx_dict I.kIn ⟨o, h1, h2.1⟩ e (fun z => nomatch z) h
  | @ins a C dx fs ea cl ha hn htk hm =>
    cases (show u = Value.ref a from rx)
    obtain ⟨mA, O, _⟩ := ins_get I.hok ea
    obtain ⟨od, J, _⟩ := O.look
    exact PySem.W.kia_one (PySem.W.kitx_own (cl.get _) cl.hd ha hn htk hm) I.kIn J e (fun z => nomatch z) h
end
end L2

namespace L2
open PySem PySem.Spec PyProof.Rows

/-! ### room -/
structure Room (k : Nat) (A : Around) : Prop where
  hd : A.handled = none
  dp : A.depth + 3 * k + 5 < recursionLimit
  un : A.units + 16 * k + 200 < cLine
theorem Room.mono {j k : Nat} {A : Around} (r : Room k A) (h : j ≤ k) : Room j A := ⟨r.hd, by have := r.dp; omega, by have := r.un; omega⟩
theorem Room.deeper {k : Nat} {A : Around} (r : Room (k + 1) A) (env : Env) : Room k (A.deeper env) :=
  ⟨r.hd, by have := r.dp; show A.depth + 1 + 3 * k + 5 < _; omega, by have := r.un; show A.units + 3 + 16 * k + 200 < _; omega⟩
theorem Room.in1 {k : Nat} {A : Around} (r : Room (k + 1) A) : Room k A.in1 :=
  ⟨r.hd, by have := r.dp; show A.depth + 3 * k + 5 < _; omega, by have := r.un; show A.units + 1 + 16 * k + 200 < _; omega⟩
theorem make_depth {A : Around} {C : Addr} {us : List Value} {kw : List (Str × Value)} : (A.under (.builtin "type.__call__" ⟨.ref C :: us, kw⟩)).depth = A.depth + 1 := by
  first | rfl | simp [Around.under, Code.weight, Code.isCreation, Code.isGuard, Code.isCaller, Code.frames, Code.isFrame, guardIds]
theorem make_units {A : Around} {C : Addr} {us : List Value} {kw : List (Str × Value)} : (A.under (.builtin "type.__call__" ⟨.ref C :: us, kw⟩)).units = A.units + 1 := by
  first | rfl | simp [Around.under, Code.cUnits, Code.frames, Code.isFrame]
theorem Room.make {k : Nat} {A : Around} (r : Room (k + 1) A) (C : Addr) (us : List Value) (kw : List (Str × Value)) : Room k (A.under (.builtin "type.__call__" ⟨.ref C :: us, kw⟩)) :=
  ⟨r.hd, by have := r.dp; rw [make_depth]; omega, by have := r.un; rw [make_units]; omega⟩
theorem Room.depth {k : Nat} {A : Around} (r : Room k A) : A.depth < recursionLimit := by have := r.dp; omega
theorem Room.units {k : Nat} {A : Around} (r : Room k A) : A.units + 64 < cLine := by have := r.un; omega
theorem Room.units0 {k : Nat} {A : Around} (r : Room k A) : A.units < cLine := by have := r.un; omega

/-! ### argument lists and displays -/
def tNil : TA := fun _ H Q => Q [] H
def tCons (ta : TE) (tr : TA) : TA := fun σ H Q => ta σ H fun x H1 => tr σ H1 fun xs H2 => Q (x :: xs) H2
section
variable {X : Cx} {e : Expr} {es : List Expr} {te : TE} {t : TA} {pos : Pos}
theorem pa_nil : PA X [] tNil := fun _ _ _ _ H Q I h => Calls.spliced_nil ⟨[], H, I, .nil, h⟩
theorem pa_cons (ha : PE X e te) (hr : PA X es t) (hs : starEach (e :: es) X.env = (false, eval e X.env) :: starEach es X.env := by rfl) : PA X (e :: es) (tCons te t) := by
  intro pos pins s σ H Q I h
  rw [hs]
  show wpAny _ _ (spliced ((false, eval e X.env) :: backTo pos (starEach es X.env))) _ _ s
  refine Calls.spliced_cons (thn (ha pins s σ H _ I h) fun u s1 ⟨x, H1, I1, r1, q1⟩ => ?_)
  exact thn (hr pos pins s1 σ H1 _ I1 q1) fun us s2 ⟨xs, H2, I2, r2, q2⟩ => ⟨x :: xs, H2, I2, .cons r1 r2, q2⟩

/-- a tuple, a list of written items -/
def tTup (t : TA) : TE := fun σ H Q => t σ H fun xs H1 => xs.length ≤ sizeLine ∧ ∀ p, H1 p = none → Q (.ref p) (upd H1 p (.tup xs))
def tLst (t : TA) : TE := fun σ H Q => t σ H fun xs H1 => xs.length ≤ sizeLine ∧ ∀ p, H1 p = none → Q (.ref p) (upd H1 p (.lst xs))
theorem pe_tup {x1} (h : PA X es t) : PE X (.Tuple es x1 pos) (tTup t) := by
  intro pins s σ H Q I hq
  refine wpAny_Tuple_spliced (thn (h pos pins s σ H _ I hq) fun us s1 ⟨xs, H1, I1, r, z, q⟩ => ⟨by rw [← r.length]; exact z, ?_⟩)
  have hf : H1 s1.heap.objs.size = none := I1.hok.fresh (Nat.le_refl _)
  refine ⟨.ref s1.heap.objs.size, upd H1 s1.heap.objs.size (.tup xs), I1.laid (t' := s1.toks) (fun b u e => Heap.get?_push_of_some _ e) (Nat.le_refl _) ?_, rfl, q _ hf⟩
  exact ⟨z, us, r, ⟨_, Heap.get?_push_size _ rfl, rfl, _, rfl⟩⟩
theorem pe_lst (h : PA X es t) : PE X (.List es pos) (tLst t) := by
  intro pins s σ H Q I hq
  refine wpAny_List_spliced (thn (h pos pins s σ H _ I hq) fun us s1 ⟨xs, H1, I1, r, z, q⟩ => ⟨by rw [← r.length]; exact z, ?_⟩)
  have hf : H1 s1.heap.objs.size = none := I1.hok.fresh (Nat.le_refl _)
  refine ⟨.ref s1.heap.objs.size, upd H1 s1.heap.objs.size (.lst xs), I1.laid (t' := s1.toks) (fun b u e => Heap.get?_push_of_some _ e) (Nat.le_refl _) ?_, rfl, q _ hf⟩
  exact ⟨z, us, 0, r, Heap.get?_push_size _ rfl⟩
end

/-! ### what a def promises -/
/-- a def's promise: the bound arguments in the parameters' order, the heap, the wanted end, the wanted exception -/
abbrev Sp := List V → Hp → VK → XK → Prop
/-- how an exception lies behind a call (file 08 gives it): the callers' frames, abstract heap and state ahead of the call, the wish, the exception, the state -/
abbrev CXT := List Env → Hp → Shared → XK → Value → Shared → Prop

/-- the state at a call -/
structure Env0 (P : Program) (w : World) (K : PySem.W.Frag) (mg : Str → Option Value) (base : Heap) (A : Around) (outer : List Env) (s : Shared) (H : Hp) : Prop where
  frames : A.frames = some outer
  mod : Mod K mg base
  bs : ∀ b o, base.get? b = some o → s.heap.get? b = some o ∧ H b = none
  bsz : base.objs.size ≤ s.heap.objs.size
  funs : s.heap.FunFrames base outer
  frf : ∀ b ∈ frs outer, H b = none
  hok : HOk P w H s.heap
  bare : AllBare s.gens
/-- a call's end -/
def CE (outer : List Env) (P : Program) (w : World) (H : Hp) (s : Shared) (Q : VK) (u : Value) (s' : Shared) : Prop :=
  ∃ v H', s'.os = s.os ∧ AllBare s'.gens ∧ Un (frs outer) [] H H' s.heap s'.heap ∧ HOk P w H' s'.heap ∧ RelV v u ∧ Q v H'
def CR (CX : CXT) (outer : List Env) (P : Program) (w : World) (H : Hp) (s : Shared) (Q : VK) (E : XK) (r : Result) (s' : Shared) : Prop :=
  match r with
  | .ok (.ret u) => CE outer P w H s Q u s'
  | .ok _ => False
  | .error e => CX outer H s E e s'
structure FnOk (P : Program) (w : World) (K : PySem.W.Frag) (mg : Str → Option Value) (base : Heap) (CX : CXT) (k : Nat) (f : Addr) (fd : FuncData) (ps : List Str) (sp : Sp) : Prop where
  len : ∀ vs H Q E, sp vs H Q E → vs.length = ps.length
  run : ∀ (A : Around) (outer : List Env) (s : Shared) (H : Hp) (args : Args) (us : List Value) (vs : List V) (Q : VK) (E : XK), Room k A → Env0 P w K mg base A outer s H → BindsTo s fd args (ps.zip us) → Vals vs us → sp vs H Q E →
    codeAny (model P w) A (.call (.ref f) args) (CR CX outer P w H s Q E) s
theorem FnOk.mono {P : Program} {w : World} {K : PySem.W.Frag} {mg : Str → Option Value} {base : Heap} {CX : CXT} {j k : Nat} {f : Addr} {fd : FuncData} {ps : List Str} {sp : Sp} (F : FnOk P w K mg base CX j f fd ps sp) (h : j ≤ k) :
    FnOk P w K mg base CX k f fd ps sp := ⟨F.len, fun A outer s H args us vs Q E hr => F.run A outer s H args us vs Q E (hr.mono h)⟩
/-- a weaker promise -/
theorem FnOk.imp {P : Program} {w : World} {K : PySem.W.Frag} {mg : Str → Option Value} {base : Heap} {CX : CXT} {k : Nat} {f : Addr} {fd : FuncData} {ps : List Str} {sp sp' : Sp} (F : FnOk P w K mg base CX k f fd ps sp)
    (h : ∀ vs H Q E, sp' vs H Q E → sp vs H Q E) : FnOk P w K mg base CX k f fd ps sp' :=
  ⟨fun vs H Q E q => F.len vs H Q E (h _ _ _ _ q), fun A outer s H args us vs Q E hr he hb hv hs => F.run A outer s H args us vs Q E hr he hb hv (h _ _ _ _ hs)⟩

theorem Env0.make {P : Program} {w : World} {K : PySem.W.Frag} {mg : Str → Option Value} {base : Heap} {A : Around} {outer : List Env} {s : Shared} {H : Hp} (e : Env0 P w K mg base A outer s H) (C : Addr) (us : List Value) (kw : List (Str × Value)) :
    Env0 P w K mg base (A.under (.builtin "type.__call__" ⟨.ref C :: us, kw⟩)) outer s H := ⟨by first | exact e.frames | (simpa [Around.under, Code.envs, Code.isFrame, pushEnvs] using e.frames), e.mod, e.bs, e.bsz, e.funs, e.frf, e.hok, e.bare⟩
theorem Env0.in1 {P : Program} {w : World} {K : PySem.W.Frag} {mg : Str → Option Value} {base : Heap} {A : Around} {outer : List Env} {s : Shared} {H : Hp} (e : Env0 P w K mg base A outer s H) :
    Env0 P w K mg base A.in1 outer s H := ⟨e.frames, e.mod, e.bs, e.bsz, e.funs, e.frf, e.hok, e.bare⟩

section
variable {X : Cx} {pins : List (Addr × Obj)} {σ : St} {H : Hp} {s s' : Shared}
/-- from a body: what a callee wants -/
theorem Inv.env0 (I : Inv X pins σ H s) : Env0 X.prog X.w X.K X.mg X.base X.A X.stack s H :=
  ⟨I.ok.frames, I.ok.mod, I.bs, Nat.le_trans I.ok.bsz I.sz, I.stack, I.stkFree, I.hok, I.bare⟩
/-- behind a call -/
theorem Inv.after {Q : VK} {u : Value} (I : Inv X pins σ H s) (h : CE X.stack X.prog X.w H s Q u s') : EP X pins σ Q u s' := by
  obtain ⟨v, H', os, bare, un, hok, r, q⟩ := h
  obtain ⟨hh, g, d, t, os'⟩ := s'
  obtain rfl : os' = s.os := os
  exact ⟨v, H', I.call (h' := hh) (g' := g) (d' := d) (t' := t) (ch := []) un hok bare (fun b z => absurd z (by simp)), r, q⟩
end

/-! ### calls -/
/-- f(..): the written arguments, then the defaults dvs; E: what is wanted of an exception -/
def tCall (sp : Sp) (dvs : List V) (E : XK) (t : TA) : TE := fun σ H Q => t σ H fun vs H1 => sp (vs ++ dvs) H1 Q E
/-- o.m(..) of an instance of the class at C -/
def tMeth (C : Addr) (m : Str) (sp : Sp) (dvs : List V) (E : XK) (ta : TE) (t : TA) : TE := fun σ H Q => ta σ H fun x H1 => ∃ a dx fs, x = .ref a ∧ H1 a = some (.ins C dx fs) ∧ fs.lookup m = none ∧
  t σ H1 fun vs H2 => sp (x :: (vs ++ dvs)) H2 Q E
/-- C(..): a new instance and its dict, then __init__ -/
def tMake (C : Addr) (sp : Sp) (dvs : List V) (E : XK) (t : TA) : TE := fun σ H Q => t σ H fun vs H1 => ∀ x dx, H1 x = none → H1 dx = none → dx ≠ x →
  sp (.ref x :: (vs ++ dvs)) (upd (upd H1 dx (.own x)) x (.ins C dx [])) (fun v H2 => v = .non ∧ Q (.ref x) H2) E

/-- how the parameters are bound: us the positional arguments, kw the keywords' values by name, ds the defaults that fill up -/
def Binds (K : PySem.W.Frag) (fd : FuncData) (ps : List Str) (ds : List Value) : Prop :=
  ∀ (s : Shared) (us : List Value), K.In s.heap → (us ++ ds).length = ps.length → BindsTo s fd ⟨us, []⟩ (ps.zip (us ++ ds))
/-- every parameter is given -/
theorem Binds.all {K : PySem.W.Frag} {fd : FuncData} {ps : List Str} (h : ∀ us : List Value, us.length = ps.length → bindArgs fd ⟨us, []⟩ = pure (ps.zip us)) : Binds K fd ps [] := fun s us _ hl => by
  rw [List.append_nil] at hl ⊢
  exact .of_eq (h us hl)

/-- an exception of a callee reaches what this body wants of exceptions -/
def Passes (CX : CXT) (X : Cx) (E : XK) : Prop := ∀ (pins : List (Addr × Obj)) (σ : St) (H : Hp) (s : Shared) (e : Value) (s' : Shared), Inv X pins σ H s → CX X.stack H s E e s' → X.xe e s'

section
variable {X : Cx} {CX : CXT} {k : Nat} {f C : Addr} {fd : FuncData} {ps : List Str} {sp : Sp} {dvs : List V} {ds : List Value} {E : XK} {x m : Str} {p pos apos : Pos} {e o : Expr} {es : List Expr} {ta : TE} {t : TA}

/-- the callee runs -/
theorem run_fn {pins : List (Addr × Obj)} {σ : St} {H : Hp} {s : Shared} {Q : VK} {us : List Value} {vs : List V} (F : FnOk X.prog X.w X.K X.mg X.base CX k f fd ps sp) (hr : Room k X.A) (hb : Binds X.K fd ps ds) (hd : Vals dvs ds) (hx : Passes CX X E)
    (I : Inv X pins σ H s) (r : Vals vs us) (h : sp (vs ++ dvs) H Q E) : wpAny (model X.prog X.w) X.A (call (.ref f) us) (EP X pins σ Q) X.xe s := by
  have r2 : Vals (vs ++ dvs) (us ++ ds) := r.append hd
  have hl : (us ++ ds).length = ps.length := by rw [← r2.length]; exact F.len _ _ _ _ h
  refine wpAny_call (codeAny_mono (F.run X.A X.stack s H ⟨us, []⟩ (us ++ ds) (vs ++ dvs) Q E hr I.env0 (hb s us I.kIn hl) r2 h) fun r s' hq => ?_)
  cases r with
  | error e => exact hx pins σ H s e s' I hq
  | ok fl =>
    cases fl with
    | ret u => exact I.after hq
    | next => exact False.elim hq
    | brk => exact False.elim hq
    | cont => exact False.elim hq

theorem pe_call (F : FnOk X.prog X.w X.K X.mg X.base CX k f fd ps sp) (hr : Room k X.A) (hg : Gl X x) (hm : X.mg x = some (.ref f)) (hk : PySem.W.keepIn X.K (.ref f) = true) (hb : Binds X.K fd ps ds) (hd : Vals dvs ds) (hx : Passes CX X E)
    (ha : PA X (e :: es) t) (hdb : (x == ("__debug__" : Str)) = false := by decide) (he : starEach (e :: es) X.env = (false, eval e X.env) :: starEach es X.env := by rfl) (hpl : (backTo pos (starEach es X.env)).any (·.1) = false := by rfl) :
    PE X (.Call (.Name x p) (e :: es) [] pos) (tCall sp dvs E t) := by
  intro pins s σ H Q I h
  refine wpAny_Call_Name_kw (ld_glob I hg hm ?_ hdb)
  refine PySem.W.callWith_K (h₀ := X.base) I.ok.mod.kin hk (thn (ha pos pins s σ H _ I h) fun us s1 ⟨vs, H1, I1, r, q⟩ => ⟨I1.kIn, ?_⟩) he hpl
  exact run_fn F hr hb hd hx I1 r q
theorem pe_call0 (F : FnOk X.prog X.w X.K X.mg X.base CX k f fd ps sp) (hr : Room k X.A) (hg : Gl X x) (hm : X.mg x = some (.ref f)) (hk : PySem.W.keepIn X.K (.ref f) = true) (hb : Binds X.K fd ps ds) (hd : Vals dvs ds) (hx : Passes CX X E)
    (hdb : (x == ("__debug__" : Str)) = false := by decide) : PE X (.Call (.Name x p) [] [] pos) (tCall sp dvs E tNil) := by
  intro pins s σ H Q I h
  refine wpAny_Call_Name_kw (ld_glob I hg hm ?_ hdb)
  exact PySem.W.callWith_K0 I.kIn hk (run_fn (us := []) F hr hb hd hx I .nil h)

/-- o.m(e, ..) -/
theorem pe_meth {pl : Sem Bool} (he : PE X o ta) (c : Cls X.K C) (hm : Meth X.K C m f) (F : FnOk X.prog X.w X.K X.mg X.base CX k f fd ps sp) (hr : Room k X.A) (hb : Binds X.K fd ps ds) (hd : Vals dvs ds) (hx : Passes CX X E) (ha : PA X (e :: es) t)
    (hst : starEach (e :: es) X.env = (false, eval e X.env) :: starEach es X.env := by rfl) (hpl : (backTo pos (starEach es X.env)).any (·.1) = false := by rfl)
    (ht : eval (.Call (.Attribute o m apos) (e :: es) [] pos) X.env = (do
      let ov ← eval o X.env
      standAt apos.atName
      let (f, first) ← holding [ov] (getMethod ov m pl)
      callWith pos f first (backTo pos (starEach (e :: es) X.env)) (backToKw pos (keywordEach [] X.env))) := by rfl) :
    PE X (.Call (.Attribute o m apos) (e :: es) [] pos) (tMeth C m sp dvs E ta t) := by
  intro pins s σ H Q I h
  refine PySem.W.methodCall_KW (pl := pl) (thn (he pins s σ H _ I h) fun u s1 ⟨x, H1, I1, rx, a, dx, fs, ex, ea, l, q⟩ => ?_) ht
  subst ex
  obtain rfl : u = Value.ref a := rx
  refine getmeth_ok I1 ea c hm l ?_
  refine PySem.W.callWith_K (first := [.ref a]) (h₀ := X.base) I.ok.mod.kin hm.kp (thn (ha pos pins s1 σ H1 _ I1 q) fun us s2 ⟨vs, H2, I2, r, q2⟩ => ⟨I2.kIn, ?_⟩) hst hpl
  exact run_fn (us := .ref a :: us) (vs := .ref a :: vs) F hr hb hd hx I2 (.cons rfl r) q2
/-- o.m() -/
theorem pe_meth0 {pl : Sem Bool} (he : PE X o ta) (c : Cls X.K C) (hm : Meth X.K C m f) (F : FnOk X.prog X.w X.K X.mg X.base CX k f fd ps sp) (hr : Room k X.A) (hb : Binds X.K fd ps ds) (hd : Vals dvs ds) (hx : Passes CX X E)
    (ht : eval (.Call (.Attribute o m apos) [] [] pos) X.env = (do
      let ov ← eval o X.env
      standAt apos.atName
      let (f, first) ← holding [ov] (getMethod ov m pl)
      callWith pos f first (backTo pos (starEach [] X.env)) (backToKw pos (keywordEach [] X.env))) := by rfl) :
    PE X (.Call (.Attribute o m apos) [] [] pos) (tMeth C m sp dvs E ta tNil) := by
  intro pins s σ H Q I h
  refine PySem.W.methodCall_KW (pl := pl) (thn (he pins s σ H _ I h) fun u s1 ⟨x, H1, I1, rx, a, dx, fs, ex, ea, l, q⟩ => ?_) ht
  subst ex
  obtain rfl : u = Value.ref a := rx
  refine getmeth_ok I1 ea c hm l ?_
  exact PySem.W.callWith_K0 (first := [.ref a]) I1.kIn hm.kp (run_fn (us := [.ref a]) (vs := [.ref a]) F hr hb hd hx I1 (.cons rfl .nil) q)

/-- what a class must have to be made -/
structure Mk (K : PySem.W.Frag) (C f : Addr) : Prop where
  makes : PySem.W.makesIn K C = true
  init : PySem.W.findIn K (.ref C) "__init__" = some (some (.ref f))
  fn : PySem.W.isFn K (.ref f) = true
  kp : PySem.W.keepIn K (.ref C) = true

theorem run_make {pins : List (Addr × Obj)} {σ : St} {H : Hp} {s : Shared} {Q : VK} {us : List Value} {vs : List V} (M : Mk X.K C f) (F : FnOk X.prog X.w X.K X.mg X.base CX k f fd ps sp) (hr : Room (k + 1) X.A) (hb : Binds X.K fd ps ds) (hd : Vals dvs ds)
    (hx : Passes CX X E) (I : Inv X pins σ H s) (r : Vals vs us)
    (h : ∀ x dx, H x = none → H dx = none → dx ≠ x → sp (.ref x :: (vs ++ dvs)) (upd (upd H dx (.own x)) x (.ins C dx [])) (fun v H2 => v = .non ∧ Q (.ref x) H2) E) :
    wpAny (model X.prog X.w) X.A (call (.ref C) us) (EP X pins σ Q) X.xe s := by
  have hq := h (s.heap.objs.size + 1) s.heap.objs.size (I.hok.fresh (Nat.le_succ _)) (I.hok.fresh (Nat.le_refl _)) (Nat.ne_of_lt (Nat.lt_succ_self _))
  have I2 := Inv.made (C := C) I
  have r2 : Vals (V.ref (s.heap.objs.size + 1) :: (vs ++ dvs)) (Value.ref (s.heap.objs.size + 1) :: (us ++ ds)) := .cons rfl (r.append hd)
  have hl : (Value.ref (s.heap.objs.size + 1) :: us ++ ds).length = ps.length := by
    have e := r2.length
    rw [F.len _ _ _ _ hq] at e
    exact e.symm
  refine wpAny_call (make_map (f := f) I.kIn M.makes M.init (beq_iff_eq.mp M.fn) (codeAny_mono (F.run _ X.stack _ _ ⟨Value.ref (s.heap.objs.size + 1) :: us, []⟩ (Value.ref (s.heap.objs.size + 1) :: (us ++ ds)) _ _ E (hr.make C us [])
    (I2.env0.make C us []) (hb _ (Value.ref (s.heap.objs.size + 1) :: us) I2.kIn hl) r2 hq) fun r s' hq' => ?_))
  cases r with
  | error e => exact hx pins σ _ _ e s' I2 hq'
  | ok fl =>
    cases fl with
    | ret u =>
      obtain ⟨v, H', I3, rv, ev, q3⟩ := I2.after hq'
      subst ev
      exact ⟨rv, ⟨V.ref (s.heap.objs.size + 1), H', I3, rfl, q3⟩⟩
    | next => exact False.elim hq'
    | brk => exact False.elim hq'
    | cont => exact False.elim hq'
theorem pe_make (M : Mk X.K C f) (F : FnOk X.prog X.w X.K X.mg X.base CX k f fd ps sp) (hr : Room (k + 1) X.A) (hg : Gl X x) (hm : X.mg x = some (.ref C)) (hb : Binds X.K fd ps ds) (hd : Vals dvs ds) (hx : Passes CX X E)
    (ha : PA X (e :: es) t) (hdb : (x == ("__debug__" : Str)) = false := by decide) (he : starEach (e :: es) X.env = (false, eval e X.env) :: starEach es X.env := by rfl) (hpl : (backTo pos (starEach es X.env)).any (·.1) = false := by rfl) :
    PE X (.Call (.Name x p) (e :: es) [] pos) (tMake C sp dvs E t) := by
  intro pins s σ H Q I h
  refine wpAny_Call_Name_kw (ld_glob I hg hm ?_ hdb)
  refine PySem.W.callWith_K (h₀ := X.base) I.ok.mod.kin M.kp (thn (ha pos pins s σ H _ I h) fun us s1 ⟨vs, H1, I1, r, q⟩ => ⟨I1.kIn, ?_⟩) he hpl
  exact run_make M F hr hb hd hx I1 r q
theorem pe_make0 (M : Mk X.K C f) (F : FnOk X.prog X.w X.K X.mg X.base CX k f fd ps sp) (hr : Room (k + 1) X.A) (hg : Gl X x) (hm : X.mg x = some (.ref C)) (hb : Binds X.K fd ps ds) (hd : Vals dvs ds) (hx : Passes CX X E)
    (hdb : (x == ("__debug__" : Str)) = false := by decide) : PE X (.Call (.Name x p) [] [] pos) (tMake C sp dvs E tNil) := by
  intro pins s σ H Q I h
  refine wpAny_Call_Name_kw (ld_glob I hg hm ?_ hdb)
  exact PySem.W.callWith_K0 I.kIn M.kp (run_make (us := []) M F hr hb hd hx I .nil h)
end

/-! ### keywords -/
/-- the values of the keywords, from the left -/
def PK (X : Cx) (kws : List Keyword) (t : TA) : Prop :=
  ∀ (pos : Pos) (pins : List (Addr × Obj)) (s : Shared) (σ : St) (H : Hp) (Q : List V → Hp → Prop), Inv X pins σ H s → t σ H Q → wpAny (model X.prog X.w) X.A (evalAll ((backToKw pos (keywordEach kws X.env)).map (·.2))) (AP X pins σ Q) X.xe s
section
variable {X : Cx} {CX : CXT} {k : Nat} {f C : Addr} {fd : FuncData} {ps ks : List Str} {sp : Sp} {E : XK} {x m : Str} {p pos apos kpos : Pos} {e o : Expr} {es : List Expr} {kws : List Keyword} {te ta : TE} {t tk : TA} {nm : Option Str}
theorem pk_nil : PK X [] tNil := fun _ _ _ _ H Q I h => wpAny_evalAll_nil ⟨[], H, I, .nil, h⟩
theorem pk_cons (ha : PE X e te) (hr : PK X kws t) : PK X (⟨nm, e, kpos⟩ :: kws) (tCons te t) := by
  intro pos pins s σ H Q I h
  show wpAny _ _ (evalAll ((do let v ← eval e X.env; standAt pos; pure v) :: (backToKw pos (keywordEach kws X.env)).map (·.2))) _ _ s
  refine wpAny_evalAll_cons (wpAny_bind (thn (ha pins s σ H _ I h) fun u s1 ⟨x, H1, I1, r1, q1⟩ => wpAny_bind (wpAny_standAt (wpAny_pure ?_))))
  exact thn (hr pos pins s1 σ H1 _ I1 q1) fun us s2 ⟨xs, H2, I2, r2, q2⟩ => ⟨x :: xs, H2, I2, .cons r1 r2, q2⟩

/-- how a call with keywords binds: g puts the positional values us and the keywords' values ws (names ks) in the parameters' order, defaults among them -/
structure KBinds (K : PySem.W.Frag) (fd : FuncData) (ps ks : List Str) (g : List Value → List Value → List Value) (gV : List V → List V → List V) : Prop where
  to : ∀ (s : Shared) (us ws : List Value), K.In s.heap → (g us ws).length = ps.length → BindsTo s fd ⟨us, ks.zip ws⟩ (ps.zip (g us ws))
  rel : ∀ {vs : List V} {us : List Value} {zs : List V} {ws : List Value}, Vals vs us → Vals zs ws → Vals (gV vs zs) (g us ws)
def tCallK (sp : Sp) (gV : List V → List V → List V) (E : XK) (t tk : TA) : TE := fun σ H Q => t σ H fun vs H1 => tk σ H1 fun zs H2 => sp (gV vs zs) H2 Q E
variable {g : List Value → List Value → List Value} {gV : List V → List V → List V}
theorem run_fnk {pins : List (Addr × Obj)} {σ : St} {H : Hp} {s : Shared} {Q : VK} {us ws : List Value} {vs zs : List V} (F : FnOk X.prog X.w X.K X.mg X.base CX k f fd ps sp) (hr : Room k X.A) (hb : KBinds X.K fd ps ks g gV) (hx : Passes CX X E)
    (I : Inv X pins σ H s) (r : Vals vs us) (rz : Vals zs ws) (h : sp (gV vs zs) H Q E) : wpAny (model X.prog X.w) X.A (call (.ref f) us (ks.zip ws)) (EP X pins σ Q) X.xe s := by
  have r2 := hb.rel r rz
  have hl : (g us ws).length = ps.length := by rw [← r2.length]; exact F.len _ _ _ _ h
  refine wpAny_call (codeAny_mono (F.run X.A X.stack s H ⟨us, ks.zip ws⟩ (g us ws) (gV vs zs) Q E hr I.env0 (hb.to s us ws I.kIn hl) r2 h) fun r s' hq => ?_)
  cases r with
  | error e => exact hx pins σ H s e s' I hq
  | ok fl =>
    cases fl with
    | ret u => exact I.after hq
    | next => exact False.elim hq
    | brk => exact False.elim hq
    | cont => exact False.elim hq
/-- f(e, .., k = v, ..) -/
theorem pe_callK (F : FnOk X.prog X.w X.K X.mg X.base CX k f fd ps sp) (hr : Room k X.A) (hg : Gl X x) (hm : X.mg x = some (.ref f)) (hk : PySem.W.keepIn X.K (.ref f) = true) (hb : KBinds X.K fd ps ks g gV) (hx : Passes CX X E)
    (ha : PA X (e :: es) t) (hkw : PK X kws tk) (hall : (backToKw pos (keywordEach kws X.env)).all (·.1.isSome) = true := by rfl) (hks : (backToKw pos (keywordEach kws X.env)).filterMap (·.1) = ks := by rfl)
    (hdb : (x == ("__debug__" : Str)) = false := by decide) (he : starEach (e :: es) X.env = (false, eval e X.env) :: starEach es X.env := by rfl)
    (hpl : ((backTo pos (starEach (e :: es) X.env)).any (·.1) || (backToKw pos (keywordEach kws X.env)).any (·.1.isNone)) = false := by rfl) :
    PE X (.Call (.Name x p) (e :: es) kws pos) (tCallK sp gV E t tk) := by
  intro pins s σ H Q I h
  refine wpAny_Call_Name_kw (ld_glob I hg hm ?_ hdb)
  refine PySem.W.callWith_KW (h₀ := X.base) I.ok.mod.kin hk hall (thn (ha pos pins s σ H _ I h) fun us s1 ⟨vs, H1, I1, r, q⟩ => ?_) hpl he
  refine thn (hkw pos pins s1 σ H1 _ I1 q) fun ws s2 ⟨zs, H2, I2, rz, q2⟩ => ⟨I2.kIn, ?_⟩
  rw [hks]
  exact run_fnk F hr hb hx I2 r rz q2
end

/-! ### a def's body keeps its promise -/
/-- names: the parameters first -/
structure FnScope (N P : List Str) (sc : Scope) : Prop where
  kind : sc.kind = .function
  co : sc.isCoroutine = false
  gen : sc.isGenerator = false
  nd : N.Nodup
  pre : N.take P.length = P
  par : ∀ x ∈ P, sc.names.lookup x = some .local ∨ sc.names.lookup x = some .cell
  nofree : ∀ y ∈ sc.names, y.2 ≠ .free

theorem bindL_out {kindOf : Str → Option NameKind} {x : Str} : ∀ {binds : List (Str × Value)} {m : Str → Option Value}, (∀ v, (x, v) ∉ binds) → bindL kindOf binds m x = m x
  | [], _, _ => rfl
  | (n, v) :: r, m, h => by
    unfold bindL
    rw [bindL_out fun w hw => h w (List.mem_cons_of_mem _ hw)]
    split
    · have : x ≠ n := by rintro rfl; exact h v List.mem_cons_self
      simp [this]
    · rfl
theorem bindC_out {kindOf : Str → Option NameKind} {x : Str} : ∀ {binds : List (Str × Value)} {m : Str → Option Value}, (∀ v, (x, v) ∉ binds) → bindC kindOf binds m x = m x
  | [], _, _ => rfl
  | (n, v) :: r, m, h => by
    unfold bindC
    rw [bindC_out fun w hw => h w (List.mem_cons_of_mem _ hw)]
    split
    · rfl
    · have : x ≠ n := by rintro rfl; exact h v List.mem_cons_self
      simp [this]
theorem bindL_get {kindOf : Str → Option NameKind} {x : Str} {v : Value} : ∀ {P : List Str} {vs : List Value} {i : Nat} {m : Str → Option Value}, P.Nodup → P[i]? = some x → vs[i]? = some v → kindOf x = some .local →
    bindL kindOf (P.zip vs) m x = some v
  | [], _, _, _, _, h, _, _ => by simp at h
  | _ :: _, [], _, _, _, _, h, _ => by simp at h
  | p :: P, w :: vs, 0, m, nd, h1, h2, hk => by
    simp at h1 h2; subst h1; subst h2
    show bindL kindOf ((p, w) :: P.zip vs) m p = _
    unfold bindL
    rw [bindL_out fun v hv => (List.nodup_cons.mp nd).1 (List.of_mem_zip hv).1, if_pos hk]
    simp
  | p :: P, w :: vs, i + 1, m, nd, h1, h2, hk => by
    show bindL kindOf ((p, w) :: P.zip vs) m x = _
    unfold bindL
    exact bindL_get (i := i) (List.nodup_cons.mp nd).2 (by simpa using h1) (by simpa using h2) hk
theorem bindC_get {kindOf : Str → Option NameKind} {x : Str} {v : Value} : ∀ {P : List Str} {vs : List Value} {i : Nat} {m : Str → Option Value}, P.Nodup → P[i]? = some x → vs[i]? = some v → kindOf x ≠ some .local →
    bindC kindOf (P.zip vs) m x = some v
  | [], _, _, _, _, h, _, _ => by simp at h
  | _ :: _, [], _, _, _, _, h, _ => by simp at h
  | p :: P, w :: vs, 0, m, nd, h1, h2, hk => by
    simp at h1 h2; subst h1; subst h2
    show bindC kindOf ((p, w) :: P.zip vs) m p = _
    unfold bindC
    rw [bindC_out fun v hv => (List.nodup_cons.mp nd).1 (List.of_mem_zip hv).1, if_neg hk]
    simp
  | p :: P, w :: vs, i + 1, m, nd, h1, h2, hk => by
    show bindC kindOf ((p, w) :: P.zip vs) m x = _
    unfold bindC
    exact bindC_get (i := i) (List.nodup_cons.mp nd).2 (by simpa using h1) (by simpa using h2) hk

/-- the names' values at the entry -/
def start (N : List Str) (vs : List V) : St := vs.map some ++ List.replicate (N.length - vs.length) none

/-- the context of a def's body, at its entry; an exception leaves the frame, then lies as CX says -/
def cxOf (CX : CXT) (P : Program) (w : World) (K : PySem.W.Frag) (mg : Str → Option Value) (base : Heap) (N : List Str) (qual : Str) (scope : Scope) (f : Addr) (cd : Value) (A : Around) (outer : List Env) (s : Shared) (H : Hp) (E : XK) : Cx where
  prog := P
  w := w
  K := K
  mg := mg
  base := base
  A := A.deeper (envOfC qual scope s.heap.objs.size f cd)
  N := N
  s₀ := s
  H₀ := H
  env := envOfC qual scope s.heap.objs.size f cd
  outer := outer
  stack := envOfC qual scope s.heap.objs.size f cd :: outer
  ex := []
  calm := true
  fn := fun _ => true
  pn := []
  xe := fun e s' => wpAny (model P w) (A.deeper (envOfC qual scope s.heap.objs.size f cd)) (leaving (envOfC qual scope s.heap.objs.size f cd) e) (fun _ s'' => CX outer H s E e s'') (fun e' s'' => CX outer H s E e' s'') s'

theorem cell_has {sc : Scope} {n : Nat} {x : Str} (h : sc.names.lookup x = some .cell) : ∃ c, (cellsFrom n sc.names []).lookup x = some c := by
  have q := PySem.W.cellsFrom_some sc.names n [] (.inl h)
  exact Option.isSome_iff_exists.mp q

theorem inv_start {CX : CXT} {P : Program} {w : World} {K : PySem.W.Frag} {mg : Str → Option Value} {base : Heap} {N ps : List Str} {qual : Str} {scope : Scope} {f : Addr} {cd : Value} {A : Around} {outer : List Env} {s s1 : Shared} {H : Hp} {E : XK} {us : List Value} {vs : List V}
    (S : FnScope N ps scope) (hd : A.handled = none) (e0 : Env0 P w K mg base A outer s H) (hl : vs.length = ps.length) (r : Vals vs us)
    (x : InCallC s s.heap.objs.size (bindL (envOfC qual scope s.heap.objs.size f cd).kindOf (ps.zip us) fun _ => none) (cellsFrom (s.heap.objs.size + 1) scope.names []) (bindC (envOfC qual scope s.heap.objs.size f cd).kindOf (ps.zip us) fun _ => none) s1) :
    Inv (cxOf CX P w K mg base N qual scope f cd A outer s H E) [] (start N vs) H s1 := by
  have hpl : ps.length ≤ N.length := by have := congrArg List.length S.pre; rw [List.length_take] at this; omega
  obtain ⟨h1, tk, rfl, hk⟩ := x.done
  have noA : ∀ b : Addr, b ∉ (cxOf CX P w K mg base N qual scope f cd A outer s H E).ex := fun b z => absurd (show b ∈ ([] : List Addr) from z) (by simp)
  refine ⟨⟨e0.mod, S.kind, rfl, rfl, Nat.le_refl _, fun y z c h1 h2 => ?_, fun y hy => ?_, fun y c _ h => ?_, fun _ => hd, Around.frames_deeper e0.frames, .inr ⟨rfl, rfl⟩, fun b z => absurd z (noA b), e0.bs, e0.bsz, fun b _ _ => noA b, fun b z => absurd z (noA b), e0.funs, e0.frf⟩,
    rfl, e0.bare, Un.kept hk, ⟨_, x.toInCall.ns, fun i y v h1 h2 h3 => ?_⟩, fun y c h => ⟨_, x.cell y c h⟩, e0.hok.fresh (Nat.le_refl _), fun y c h => ?_, fun p hp => absurd (show p ∈ ([] : List (Addr × Obj)) from hp) (by simp), e0.hok.kept hk, ?_⟩
  · exact name_of_addr x.apart (PySem.mem_of_lookup h1) (PySem.mem_of_lookup h2)
  · have hy : scope.names.lookup y = some .cell ∨ scope.names.lookup y = some .free := hy
    rcases hy with hy | hy
    · exact cell_has hy
    · exact absurd rfl (S.nofree _ (PySem.mem_of_lookup hy))
  · exact Nat.le_of_lt (x.above y c (PySem.mem_of_lookup h))
  · have hi : i < vs.length := by
      unfold start at h2
      by_cases hi : i < vs.length
      · exact hi
      · rw [List.getElem?_append_right (by simpa using hi)] at h2
        rw [List.getElem?_replicate] at h2
        split at h2 <;> cases h2
    have ha : vs[i]? = some v := by
      unfold start at h2
      rw [List.getElem?_append_left (by simpa using hi), List.getElem?_map] at h2
      cases e : vs[i]? with
      | none => rw [e] at h2; cases h2
      | some a => rw [e] at h2; cases h2; rfl
    obtain ⟨u, hu, rv⟩ := r.get ha
    have hp : ps[i]? = some y := by
      rw [← S.pre, List.getElem?_take_of_lt (by omega)]; exact h1
    have ndP : ps.Nodup := by rw [← S.pre]; exact S.nd.sublist (List.take_sublist _ _)
    refine ⟨u, rv, ?_⟩
    rcases S.par y (List.mem_of_getElem? hp) with k | k
    · exact .inl ⟨k, bindL_get ndP hp hu k⟩
    · obtain ⟨c, e⟩ := cell_has (n := s.heap.objs.size + 1) k
      refine .inr ⟨.inl k, c, e, ?_⟩
      have q := x.cell y c e
      rw [bindC_get ndP hp hu (by show scope.names.lookup y ≠ _; rw [k]; decide)] at q
      exact q
  · exact e0.hok.fresh (Nat.le_of_lt (x.above y c (PySem.mem_of_lookup h)))
  · unfold start
    show _ = N.length
    rw [List.length_append, List.length_map, List.length_replicate]
    omega

/-- THE RULE: a def (or a method) of the text, by its body. The body's reading t is chosen for each entry; it is run at the parameters' values -/
theorem fn_of {CX : CXT} {P : Program} {w : World} {K : PySem.W.Frag} {mg : Str → Option Value} {base : Heap} {k : Nat} {f : Addr} {name qual : Str} {params : Arguments} {body : List Stmt} {scope : Scope} {dV kV doc pm cdv ct oc : Value} {an od : Option Addr}
    {osl : Array (Option Value)} {N ps : List Str} {sp : Sp} (lk : K.lookup f = some ⟨oc, od, .func (PySem.W.fnOf name qual params body scope dV kV doc pm an cdv ct), osl⟩) (hcd : PySem.W.codeIn K cdv qual = true) (S : FnScope N ps scope)
    (len : ∀ vs H Q E, sp vs H Q E → vs.length = ps.length)
    (hbody : ∀ (A : Around) (outer : List Env) (s : Shared) (H : Hp) (vs : List V) (Q : VK) (E : XK), Room k (A.deeper (envOfC qual scope s.heap.objs.size f cdv)) → sp vs H Q E →
      ∃ t, PSs (cxOf CX P w K mg base N qual scope f cdv A outer s H E) body t ∧ t { nx := fun _ H' => Q .non H', rt := Q } (start N vs) H) :
    FnOk P w K mg base CX (k + 1) f (PySem.W.fnOf name qual params body scope dV kV doc pm an cdv ct) ps sp := by
  refine ⟨len, fun A outer s H args us vs Q E hr e0 hb r hsp => ?_⟩
  have hl := len _ _ _ _ hsp
  have KX : K.In s.heap := e0.mod.kin.keeps fun b o e => (e0.bs b o e).1
  have lim : s.heap.NoLimit := e0.mod.nolimit.keeps fun b o e => (e0.bs b o e).1
  have hkind : ∀ y ∈ ps.zip us, scope.names.lookup y.1 = some .local ∨ (scope.names.lookup y.1 = some .cell ∧ ((cellsFrom (s.heap.objs.size + 1) scope.names []).lookup y.1).isSome = true) := fun ⟨n, v⟩ hy => by
    rcases S.par n (List.of_mem_zip hy).1 with q | q
    · exact .inl q
    · exact .inr ⟨q, PySem.W.cellsFrom_some _ _ _ (.inl q)⟩
  refine codeAny_call_function hr.depth (KX _ _ lk) rfl S.co S.gen rfl (PySem.W.codeRec_of KX hcd) (hb _ _ _ _ ?_)
  refine wpAny_newFunctionEnv_cells S.kind hkind fun env he s1 x => ?_
  subst he
  refine ⟨lim.keeps x.toInCall.keep, codeAny_func ?_⟩
  obtain ⟨t, ht, hq⟩ := hbody A outer s H vs Q E (hr.deeper _) hsp
  have I : Inv (cxOf CX P w K mg base N qual scope f cdv A outer s H E) [] (start N vs) H s1 := inv_start S hr.hd e0 hl r x
  refine wpAny_mono (ht [] s1 (start N vs) H _ I hq) (fun fl s' hs => ?_) fun e s' hs => hs
  have fin : ∀ {σ' : St} {H' : Hp} {v : V} {u : Value}, Inv (cxOf CX P w K mg base N qual scope f cdv A outer s H E) [] σ' H' s' → RelV v u → Q v H' → CE outer P w H s Q u s' :=
    fun {σ' H' v u} J rv q => ⟨v, H', J.os, J.bare, J.base, J.hok, rv, q⟩
  cases fl with
  | ret u =>
    obtain ⟨v, σ', H', J, rv, q⟩ := hs
    exact fin J rv q
  | next =>
    obtain ⟨σ', H', J, q⟩ := hs
    exact fin (v := V.non) (u := Value.none) J rfl q
  | brk =>
    obtain ⟨_, _, _, q⟩ := hs
    exact False.elim q
  | cont =>
    obtain ⟨_, _, _, q⟩ := hs
    exact False.elim q
end L2

namespace L2
open PySem PySem.Spec PyProof.Rows
section
variable {X : Cx} {x : Str} {p pos : Pos} {e : Expr} {es : List Expr} {t : TA} {id T : String} {r : List V → Hp → VK → Prop}

def tCB (r : List V → Hp → VK → Prop) (t : TA) : TE := fun σ H Q => t σ H fun vs H1 => r vs H1 Q
/-- f(e, ..), f a built-in function -/
theorem pe_callB (hc : CallR X (.builtin id) r) (hg : Gl X x) (hm : X.mg x = none) (hv : bootBuiltins x = some (.builtin id)) (ha : PA X (e :: es) t) (hn : x ≠ "__name__" := by decide) (hdb : (x == ("__debug__" : Str)) = false := by decide)
    (he : starEach (e :: es) X.env = (false, eval e X.env) :: starEach es X.env := by rfl) (hpl : (backTo pos (starEach es X.env)).any (·.1) = false := by rfl) : PE X (.Call (.Name x p) (e :: es) [] pos) (tCB r t) := by
  intro pins s σ H Q I h
  refine wpAny_Call_Name_kw (ld_blt I hg hm hv ?_ hn hdb)
  exact PyProof.Rows.callWith_builtin1 (thn (ha pos pins s σ H _ I h) fun us s1 ⟨vs, H1, I1, r1, q1⟩ => hc pins s1 σ H1 vs us Q I1 r1 q1) he hpl
/-- T(e, ..), T a built-in type -/
theorem pe_callTy (hc : CallR X (.type T) r) (hg : Gl X x) (hm : X.mg x = none) (hv : bootBuiltins x = some (.type T)) (ha : PA X (e :: es) t) (hn : x ≠ "__name__" := by decide) (hdb : (x == ("__debug__" : Str)) = false := by decide)
    (he : starEach (e :: es) X.env = (false, eval e X.env) :: starEach es X.env := by rfl) (hpl : (backTo pos (starEach es X.env)).any (·.1) = false := by rfl) : PE X (.Call (.Name x p) (e :: es) [] pos) (tCB r t) := by
  intro pins s σ H Q I h
  refine wpAny_Call_Name_kw (ld_blt I hg hm hv ?_ hn hdb)
  exact PyProof.Rows.callWith_type1 (thn (ha pos pins s σ H _ I h) fun us s1 ⟨vs, H1, I1, r1, q1⟩ => hc pins s1 σ H1 vs us Q I1 r1 q1) he hpl
/-- T() -/
theorem pe_callTy0 (hc : CallR X (.type T) r) (hg : Gl X x) (hm : X.mg x = none) (hv : bootBuiltins x = some (.type T)) (hn : x ≠ "__name__" := by decide) (hdb : (x == ("__debug__" : Str)) = false := by decide) :
    PE X (.Call (.Name x p) [] [] pos) (tCB r tNil) := by
  intro pins s σ H Q I h
  refine wpAny_Call_Name_kw (ld_blt I hg hm hv ?_ hn hdb)
  exact PyProof.Rows.callWith_type0 (hc pins s σ H [] [] Q I .nil h)
end
end L2

namespace L2
open PySem PySem.Spec PyProof.Rows

/-! ### lists of pairs as tables -/
section
variable {κ : Type} [DecidableEq κ]
def valV (kvs : List (κ × V)) (k : κ) : Option V := (kvs.find? fun kv => decide (kv.1 = k)).map (·.2)
/-- in its place, or at the end -/
def putK (kvs : List (κ × V)) (k : κ) (v : V) : List (κ × V) :=
  if (kvs.any fun kv => decide (kv.1 = k)) = true then kvs.map (fun kv => if kv.1 = k then (kv.1, v) else kv) else kvs ++ [(k, v)]
def dropK (kvs : List (κ × V)) (k : κ) : List (κ × V) := kvs.filter fun kv => decide (kv.1 ≠ k)

theorem valV_nil {k : κ} : valV ([] : List (κ × V)) k = none := rfl
theorem valV_pos {p : κ × V} {r : List (κ × V)} {k : κ} (e : p.1 = k) : valV (p :: r) k = some p.2 := by simp [valV, List.find?_cons, e]
theorem valV_neg {p : κ × V} {r : List (κ × V)} {k : κ} (e : ¬ p.1 = k) : valV (p :: r) k = valV r k := by simp [valV, List.find?_cons, e]
theorem valV_any (k : κ) : ∀ kvs : List (κ × V), (kvs.any fun kv => decide (kv.1 = k)) = (valV kvs k).isSome
  | [] => rfl
  | p :: r => by
    rw [List.any_cons]
    by_cases e : p.1 = k
    · simp only [valV_pos e, decide_eq_true e, Bool.true_or, Option.isSome_some]
    · rw [valV_neg e, decide_eq_false e, Bool.false_or]; exact valV_any k r
theorem valV_map (k j : κ) (y : V) : ∀ kvs : List (κ × V), valV (kvs.map fun kv => if kv.1 = k then (kv.1, y) else kv) j = (valV kvs j).map fun x => if j = k then y else x
  | [] => rfl
  | p :: r => by
    have ih := valV_map k j y r
    rw [List.map_cons]
    by_cases h : p.1 = k
    · rw [if_pos h]
      by_cases e : p.1 = j
      · rw [valV_pos (p := (p.1, y)) e, valV_pos e, Option.map_some, if_pos (e.symm.trans h)]
      · rw [valV_neg (p := (p.1, y)) e, valV_neg e, ih]
    · rw [if_neg h]
      by_cases e : p.1 = j
      · rw [valV_pos (p := p) e, valV_pos e, Option.map_some, if_neg (fun z => h (e.trans z))]
      · rw [valV_neg (p := p) e, valV_neg e, ih]
theorem valV_snoc (k j : κ) (y : V) : ∀ kvs : List (κ × V), valV kvs k = none → valV (kvs ++ [(k, y)]) j = if j = k then some y else valV kvs j
  | [], _ => by
    by_cases e : k = j
    · rw [if_pos e.symm]; exact valV_pos (p := (k, y)) e
    · rw [if_neg (fun z => e z.symm)]; exact valV_neg (p := (k, y)) e
  | p :: r, hn => by
    rw [List.cons_append]
    have hk : ¬ p.1 = k := fun z => by rw [valV_pos z] at hn; cases hn
    rw [valV_neg hk] at hn
    have ih := valV_snoc k j y r hn
    by_cases e : p.1 = j
    · rw [valV_pos e, valV_pos e, if_neg (fun z => hk (e.trans z))]
    · rw [valV_neg e, valV_neg e, ih]
theorem valV_put (kvs : List (κ × V)) (k j : κ) (y : V) : valV (putK kvs k y) j = if j = k then some y else valV kvs j := by
  unfold putK
  by_cases a : (kvs.any fun kv => decide (kv.1 = k)) = true
  · rw [if_pos a, valV_map]
    rw [valV_any] at a
    by_cases e : j = k
    · obtain ⟨x, hx⟩ := Option.isSome_iff_exists.mp a
      rw [if_pos e, e, hx, Option.map_some, if_pos rfl]
    · rw [if_neg e]
      cases valV kvs j with
      | none => rfl
      | some x => rw [Option.map_some, if_neg e]
  · rw [if_neg a]
    refine valV_snoc k j y kvs ?_
    rw [valV_any] at a
    cases q : valV kvs k with
    | none => rfl
    | some x => rw [q] at a; exact (a rfl).elim
theorem length_putK (kvs : List (κ × V)) (k : κ) (v : V) : (putK kvs k v).length ≤ kvs.length + 1 := by
  unfold putK
  split
  · rw [List.length_map]; omega
  · rw [List.length_append, List.length_cons, List.length_nil]; omega
theorem putK_new {kvs : List (κ × V)} {k : κ} (v : V) (h : valV kvs k = none) : putK kvs k v = kvs ++ [(k, v)] := by
  unfold putK
  rw [valV_any, h]
  exact if_neg (by decide)

theorem RelO.isSome_eq {o : Option V} {u : Option Value} (r : RelO o u) : o.isSome = u.isSome := by
  cases o with
  | none => cases u with
    | none => rfl
    | some _ => exact (show False from r).elim
  | some _ => cases u with
    | none => exact (show False from r).elim
    | some _ => rfl
theorem RelO.getD {o : Option V} {u : Option Value} {d : V} {d' : Value} (r : RelO o u) (rd : RelV d d') : RelV (o.getD d) (u.getD d') := by
  cases o with
  | none => cases u with
    | none => exact rd
    | some _ => exact (show False from r).elim
  | some _ => cases u with
    | none => exact (show False from r).elim
    | some _ => exact r

/-- raw tables of the same keys -/
theorem KV.val {kvs : List (κ × V)} {vs : List (κ × Value)} (r : KV kvs vs) (k : κ) : RelO (valV kvs k) (valueAt vs k) := by
  unfold KV at r
  induction r with
  | nil => exact True.intro
  | @cons p q ps qs h t ih =>
    obtain ⟨h1, h2⟩ := h
    by_cases e : p.1 = k
    · have e' : q.1 = k := h1.symm.trans e
      have b : valueAt (q :: qs) k = some q.2 := by simp [valueAt, List.find?_cons, e']
      rw [valV_pos e, b]; exact h2
    · have e' : ¬ q.1 = k := fun z => e (h1.trans z)
      have b : valueAt (q :: qs) k = valueAt qs k := by simp [valueAt, List.find?_cons, e']
      rw [valV_neg e, b]; exact ih
theorem KV.any {kvs : List (κ × V)} {vs : List (κ × Value)} (r : KV kvs vs) (k : κ) : (kvs.any fun kv => decide (kv.1 = k)) = vs.any fun kv => decide (kv.1 = k) := by
  unfold KV at r
  induction r with
  | nil => rfl
  | cons h t ih => rw [List.any_cons, List.any_cons, ih, h.1]
theorem KV.repl {kvs : List (κ × V)} {vs : List (κ × Value)} (r : KV kvs vs) (k : κ) {y : V} {u : Value} (ry : RelV y u) :
    KV (kvs.map fun kv => if kv.1 = k then (kv.1, y) else kv) (vs.map fun kv => if kv.1 = k then (kv.1, u) else kv) := by
  unfold KV at r ⊢
  induction r with
  | nil => exact .nil
  | @cons p q ps qs h t ih =>
    rw [List.map_cons, List.map_cons]
    refine .cons ?_ ih
    obtain ⟨h1, h2⟩ := h
    by_cases e : p.1 = k
    · rw [if_pos e, if_pos (h1.symm.trans e)]; exact ⟨h1, ry⟩
    · rw [if_neg e, if_neg (fun z => e (h1.trans z))]; exact ⟨h1, h2⟩
theorem KV.put {kvs : List (κ × V)} {vs : List (κ × Value)} (r : KV kvs vs) (k : κ) {y : V} {u : Value} (ry : RelV y u) : KV (putK kvs k y) (stored vs k u) := by
  unfold putK stored
  rw [r.any k]
  by_cases e : (vs.any fun kv => decide (kv.1 = k)) = true
  · rw [if_pos e, if_pos e]; exact r.repl k ry
  · rw [if_neg e, if_neg e]; exact Paired.snoc r ⟨rfl, ry⟩
theorem KV.drop {kvs : List (κ × V)} {vs : List (κ × Value)} (r : KV kvs vs) (k : κ) : KV (dropK kvs k) (without vs k) := by
  unfold KV at r ⊢
  unfold dropK without
  induction r with
  | nil => exact .nil
  | @cons p q ps qs h t ih =>
    obtain ⟨h1, h2⟩ := h
    rw [List.filter_cons, List.filter_cons]
    by_cases e : p.1 = k
    · have a : ¬ decide (p.1 ≠ k) = true := by simp [e]
      have b : ¬ decide (q.1 ≠ k) = true := by simp [h1.symm.trans e]
      rw [if_neg a, if_neg b]; exact ih
    · have e' : ¬ q.1 = k := fun z => e (h1.trans z)
      have a : decide (p.1 ≠ k) = true := by simp [e]
      have b : decide (q.1 ≠ k) = true := by simp [e']
      rw [if_pos a, if_pos b]; exact .cons ⟨h1, h2⟩ ih
theorem KV.keys {kvs : List (κ × V)} {vs : List (κ × Value)} (r : KV kvs vs) : kvs.map (·.1) = vs.map (·.1) := by
  unfold KV at r
  induction r with
  | nil => rfl
  | cons h t ih => rw [List.map_cons, List.map_cons, ih, h.1]
theorem KV.length {kvs : List (κ × V)} {vs : List (κ × Value)} (r : KV kvs vs) : kvs.length = vs.length := Paired.length r
theorem dropK_le (kvs : List (κ × V)) (k : κ) : (dropK kvs k).length ≤ kvs.length := List.length_filter_le _ _
end


/-! ### a tracked dict, its keys ints and texts or tuples of these -/
theorem kV_is {P : Program} {w : World} {k : Key} {u : Value} (r : RelV (kV k) u) : (mixKind P w).is k u = true := by
  cases k with
  | inl i => obtain ⟨t, e⟩ := (show ∃ t, u = Value.int i t from r); subst e; exact mixKind_int P w i t
  | inr x => obtain ⟨t, e⟩ := (show ∃ t, u = Value.str x t from r); subst e; exact mixKind_str P w x t
theorem kV_inj {a b : Key} (e : kV a = kV b) : a = b := by
  cases a with
  | inl i => cases b with
    | inl j => have e' : V.int i = V.int j := e; injection e' with e'; rw [e']
    | inr y => exact nomatch (show V.int i = V.str y from e)
  | inr x => cases b with
    | inl j => exact nomatch (show V.str x = V.int j from e)
    | inr y => have e' : V.str x = V.str y := e; injection e' with e'; rw [e']
theorem kVs_inj : ∀ {a b : List Key}, a.map kV = b.map kV → a = b
  | [], [], _ => rfl
  | [], _ :: _, e => by simp at e
  | _ :: _, [], e => by simp at e
  | x :: xs, y :: ys, e => by
    rw [List.map_cons, List.map_cons] at e
    injection e with e1 e2
    rw [kV_inj e1, kVs_inj e2]
theorem items_are {P : Program} {w : World} : ∀ {ks : List Key} {us : List Value}, Vals (ks.map kV) us → ItemsAre (mixKind P w) ks us
  | [], _, r => by rw [List.map_nil] at r; cases r; exact .nil
  | k :: ks, _, r => by
    rw [List.map_cons] at r
    cases r with
    | cons h t => exact .cons (kV_is h) (items_are t)

/-- raw entries of a dict with tuple keys -/
abbrev KT (H : Hp) : List (List Key × V) → List (List Key × Addr × Value) → Prop := Paired fun p q => p.1 = q.1 ∧ H q.2.1 = some (.tup (p.1.map kV)) ∧ RelV p.2 q.2.2
theorem KT.val {H : Hp} {kvs : List (List Key × V)} {xs : List (List Key × Addr × Value)} (r : KT H kvs xs) (k : List Key) : RelO (valV kvs k) ((atKey xs k).map (·.2)) := by
  induction r with
  | nil => exact True.intro
  | @cons p q ps qs h t ih =>
    obtain ⟨h1, _, h2⟩ := h
    by_cases e : p.1 = k
    · have e' : q.1 = k := h1.symm.trans e
      have b : atKey (q :: qs) k = some q.2 := by simp [atKey, List.find?_cons, e']
      rw [valV_pos e, b]; exact h2
    · have e' : ¬ q.1 = k := fun z => e (h1.trans z)
      have b : atKey (q :: qs) k = atKey qs k := by simp [atKey, List.find?_cons, e']
      rw [valV_neg e, b]; exact ih
theorem KT.repl {H : Hp} {kvs : List (List Key × V)} {xs : List (List Key × Addr × Value)} (r : KT H kvs xs) (k : List Key) {y : V} {u : Value} (ry : RelV y u) :
    KT H (kvs.map fun kv => if kv.1 = k then (kv.1, y) else kv) (xs.map (putAt k u)) := by
  induction r with
  | nil => exact .nil
  | @cons p q ps qs h t ih =>
    rw [List.map_cons, List.map_cons]
    refine .cons ?_ ih
    obtain ⟨h1, h2, h3⟩ := h
    unfold putAt
    by_cases e : p.1 = k
    · rw [if_pos e, if_pos (h1.symm.trans e)]; exact ⟨h1, h2, ry⟩
    · rw [if_neg e, if_neg (fun z => e (h1.trans z))]; exact ⟨h1, h2, h3⟩
theorem KT.put {H : Hp} {kvs : List (List Key × V)} {xs : List (List Key × Addr × Value)} (r : KT H kvs xs) (k : List Key) {b : Addr} {y : V} {u : Value} (hb : H b = some (.tup (k.map kV))) (ry : RelV y u) :
    KT H (putK kvs k y) (storedH xs k b u) := by
  have e : (kvs.any fun kv => decide (kv.1 = k)) = (atKey xs k).isSome := by
    rw [valV_any, (r.val k).isSome_eq, Option.isSome_map]
  unfold putK storedH
  rw [e]
  by_cases q : (atKey xs k).isSome = true
  · rw [if_pos q, if_pos q]; exact r.repl k ry
  · rw [if_neg q, if_neg q]; exact Paired.snoc r ⟨rfl, hb, ry⟩
theorem KT.keeps {H H' : Hp} {kvs : List (List Key × V)} {xs : List (List Key × Addr × Value)} (r : KT H kvs xs) (ht : ∀ b ys, H b = some (.tup ys) → H' b = some (.tup ys)) : KT H' kvs xs :=
  Paired.mapP r fun _ _ z => ⟨z.1, ht _ _ z.2.1, z.2.2⟩

section
variable {P : Program} {w : World} {H : Hp} {h : Heap} {a : Addr}
theorem rd_of {u : HO} (ok : HOk P w H h) (e : Rd H a u) : ObjOk P w H h a u := e.ok ok
theorem dk_rd {kvs : List (Key × V)} (ok : HOk P w H h) (e : Rd H a (.dK kvs)) : kvs.length ≤ sizeLine ∧ (a == sysModules) = false ∧ ∃ vs, KV kvs vs ∧ h.DictOf (mixKind P w) a vs :=
  show ObjOk P w H h a (.dK kvs) from rd_of ok e
theorem dk_of {kvs : List (Key × V)} (ok : HOk P w H h) (e : H a = some (.dK kvs)) : kvs.length ≤ sizeLine ∧ (a == sysModules) = false ∧ ∃ vs, KV kvs vs ∧ h.DictOf (mixKind P w) a vs := dk_rd ok (.inl e)
/-- a tracked tuple of ints and texts is a key -/
theorem key_of {ks : List Key} (ok : HOk P w H h) (e : H a = some (.tup (ks.map kV))) : (tupleKind (mixKind P w)).is h ks a := by
  obtain ⟨_, its, r, o, h1, h2, n, h3⟩ := (show ObjOk P w H h a (.tup (ks.map kV)) from ok a _ e)
  exact ⟨o, its.toArray, n, h1, h2, h3, by simpa using items_are r⟩
theorem dt_rd {kvs : List (List Key × V)} (ok : HOk P w H h) (e : Rd H a (.dT kvs)) : kvs.length ≤ sizeLine ∧ (a == sysModules) = false ∧
    ∃ xs, KT H kvs xs ∧ h.DictOfH (tupleKind (mixKind P w)) a xs := by
  obtain ⟨z, y, xs, r, o, es, ep, h1, h2, h3, h4, h5⟩ := (show ObjOk P w H h a (.dT kvs) from rd_of ok e)
  refine ⟨z, y, xs, r, o, es, ep, h1, h2, h3, h4, fun x hx => ?_, h5⟩
  have all : ∀ {l : List (List Key × V)} {m : List (List Key × Addr × Value)}, KT H l m → ∀ x ∈ m, (tupleKind (mixKind P w)).is h x.1 x.2.1 := by
    intro l m q
    induction q with
    | nil => intro x hx; exact nomatch hx
    | @cons p q ps qs hq t ih =>
      intro x hx
      rcases List.mem_cons.mp hx with e | hx
      · subst e
        exact key_of ok (by rw [← hq.1]; exact hq.2.1)
      · exact ih x hx
  exact all r x hx
theorem dt_of {kvs : List (List Key × V)} (ok : HOk P w H h) (e : H a = some (.dT kvs)) : kvs.length ≤ sizeLine ∧ (a == sysModules) = false ∧
    ∃ xs, KT H kvs xs ∧ h.DictOfH (tupleKind (mixKind P w)) a xs := dt_rd ok (.inl e)
end

/-- what the dict at a holds at the key y -/
def DGet (H : Hp) (a : Addr) (y : V) (r : Option V) : Prop :=
  (∃ kvs k, Rd H a (.dK kvs) ∧ y = kV k ∧ r = valV kvs k) ∨ ∃ kvs k b, Rd H a (.dT kvs) ∧ y = .ref b ∧ H b = some (.tup (k.map kV)) ∧ r = valV kvs k
/-- the heap behind a[y] = v -/
def DPut (H : Hp) (a : Addr) (y v : V) (H' : Hp) : Prop :=
  (∃ kvs k, H a = some (.dK kvs) ∧ y = kV k ∧ kvs.length < sizeLine ∧ H' = upd H a (.dK (putK kvs k v))) ∨
  ∃ kvs k b, H a = some (.dT kvs) ∧ y = .ref b ∧ H b = some (.tup (k.map kV)) ∧ kvs.length < sizeLine ∧ H' = upd H a (.dT (putK kvs k v))
theorem DGet.k {H : Hp} {a : Addr} {kvs : List (Key × V)} {k : Key} (e : H a = some (.dK kvs)) : DGet H a (kV k) (valV kvs k) := .inl ⟨kvs, k, .inl e, rfl, rfl⟩
theorem DGet.t {H : Hp} {a b : Addr} {kvs : List (List Key × V)} {k : List Key} (e : H a = some (.dT kvs)) (eb : H b = some (.tup (k.map kV))) : DGet H a (.ref b) (valV kvs k) := .inr ⟨kvs, k, b, .inl e, rfl, eb, rfl⟩
theorem DPut.k {H : Hp} {a : Addr} {kvs : List (Key × V)} {k : Key} {v : V} (e : H a = some (.dK kvs)) (hl : kvs.length < sizeLine) : DPut H a (kV k) v (upd H a (.dK (putK kvs k v))) := .inl ⟨kvs, k, e, rfl, hl, rfl⟩
theorem DPut.t {H : Hp} {a b : Addr} {kvs : List (List Key × V)} {k : List Key} {v : V} (e : H a = some (.dT kvs)) (eb : H b = some (.tup (k.map kV))) (hl : kvs.length < sizeLine) :
    DPut H a (.ref b) v (upd H a (.dT (putK kvs k v))) := .inr ⟨kvs, k, b, e, rfl, eb, hl, rfl⟩


section
variable {X : Cx} {pins : List (Addr × Obj)} {σ : St} {H : Hp} {s : Shared} {a : Addr} {y v : V} {u r : Value} {o : Option V} {A : Around} {E : Value → Shared → Prop}

theorem Inv.big (I : Inv X pins σ H s) : sysModules < s.heap.objs.size := by
  have h : mainGlobals < s.heap.objs.size := (I.mod.glob.keeps I.bk).lt
  exact Nat.lt_trans (by decide) h

/-- d[y], there -/
theorem d_getItem {Q : Value → Shared → Prop} (hu : A.units + 1 < cLine) (I : Inv X pins σ H s) (g : DGet H a y (some v)) (ry : RelV y u) (h : ∀ w' s', Inv X pins σ H s' → RelV v w' → Q w' s') :
    wpAny (model X.prog X.w) A (getItem (.ref a) u) Q E s := by
  rcases g with ⟨kvs, k, e, ey, l⟩ | ⟨kvs, k, b, e, ey, eb, l⟩
  · subst ey
    obtain ⟨z, hd, vs, rel, dd⟩ := dk_rd I.hok e
    obtain ⟨w', hw, rw'⟩ := RelO.some_of (v := v) (o := valueAt vs k) (by rw [l]; exact rel.val k)
    exact wpAny_getItem_of (kV_is ry) dd.mapOf hw (h w' _ (I.tok _) rw')
  · subst ey
    cases (show u = Value.ref b from ry)
    obtain ⟨z, hd, xs, rel, dd⟩ := dt_rd I.hok e
    obtain ⟨w', hw, rw'⟩ := RelO.some_of (v := v) (o := (atKey xs k).map (·.2)) (by rw [l]; exact rel.val k)
    obtain ⟨p, hp, hp2⟩ := Option.map_eq_some_iff.mp hw
    refine wpAny_getItem_heap (tupleKind_room_in1 hu) (key_of I.hok eb) dd hp ?_
    rw [hp2]
    exact h w' _ (I.tok _) rw'
/-- y in d -/
theorem d_in {Q : Value → Shared → Prop} (hu : A.units + 1 < cLine) (I : Inv X pins σ H s) (g : DGet H a y o) (ry : RelV y u) (h : ∀ s', Inv X pins σ H s' → Q (.bool o.isSome) s') :
    wpAny (model X.prog X.w) A (compareOp .In u (.ref a)) Q E s := by
  rcases g with ⟨kvs, k, e, ey, l⟩ | ⟨kvs, k, b, e, ey, eb, l⟩
  · subst ey
    obtain ⟨z, hd, vs, rel, dd⟩ := dk_rd I.hok e
    refine wpAny_in_of (kV_is ry) hd dd.mapOf ?_
    rw [← (rel.val k).isSome_eq, ← l]
    exact h _ (I.tok _)
  · subst ey
    cases (show u = Value.ref b from ry)
    obtain ⟨z, hd, xs, rel, dd⟩ := dt_rd I.hok e
    refine wpAny_in_heap (tupleKind_room_in1 hu) (key_of I.hok eb) hd dd ?_
    have q := (rel.val k).isSome_eq
    rw [Option.isSome_map] at q
    rw [← q, ← l]
    exact h _ (I.tok _)
theorem d_notIn {Q : Value → Shared → Prop} (hu : A.units + 1 < cLine) (I : Inv X pins σ H s) (g : DGet H a y o) (ry : RelV y u) (h : ∀ s', Inv X pins σ H s' → Q (.bool (!o.isSome)) s') :
    wpAny (model X.prog X.w) A (compareOp .NotIn u (.ref a)) Q E s := by
  rcases g with ⟨kvs, k, e, ey, l⟩ | ⟨kvs, k, b, e, ey, eb, l⟩
  · subst ey
    obtain ⟨z, hd, vs, rel, dd⟩ := dk_rd I.hok e
    refine wpAny_notIn_of (kV_is ry) hd dd.mapOf ?_
    rw [← (rel.val k).isSome_eq, ← l]
    exact h _ (I.tok _)
  · subst ey
    cases (show u = Value.ref b from ry)
    obtain ⟨z, hd, xs, rel, dd⟩ := dt_rd I.hok e
    refine wpAny_notIn_heap (tupleKind_room_in1 hu) (key_of I.hok eb) hd dd ?_
    have q := (rel.val k).isSome_eq
    rw [Option.isSome_map] at q
    rw [← q, ← l]
    exact h _ (I.tok _)
/-- a dict's object is replaced -/
theorem d_write {h' : Heap} {t' : Nat} {ob : HO} (I : Inv X pins σ H s) (mu : Mut (H a)) (hs : Heap.SameBut a s.heap h') (he : ∃ q, h'.get? a = some q) (new : ObjOk X.prog X.w (upd H a ob) h' a ob) :
    Inv X pins σ (upd H a ob) { s with heap := h', toks := t' } :=
  I.write (x := a) (e := a) mu (.inl rfl) (fun b q hb z => (hs.2 b hb).trans z) he new
theorem dk_new {P : Program} {w : World} {H' : Hp} {h' : Heap} {kvs : List (Key × V)} {vs : List (Key × Value)} (z : kvs.length ≤ sizeLine) (hd : (a == sysModules) = false) (rel : KV kvs vs) (dd : h'.DictOf (mixKind P w) a vs) :
    ObjOk P w H' h' a (.dK kvs) := ⟨z, hd, vs, rel, dd⟩
/-- d[y] = v -/
theorem d_setItem {H' : Hp} {Q : Unit → Shared → Prop} (hu : A.units + 1 < cLine) (I : Inv X pins σ H s) (g : DPut H a y v H') (ry : RelV y u) (rv : RelV v r) (h : ∀ s', Inv X pins σ H' s' → Q () s') :
    wpAny (model X.prog X.w) A (setItem (.ref a) u r) Q E s := by
  rcases g with ⟨kvs, k, e, ey, l, eH⟩ | ⟨kvs, k, b, e, ey, eb, l, eH⟩
  · subst ey eH
    obtain ⟨z, hd, vs, rel, dd⟩ := dk_of I.hok e
    have hz : vs.length ≤ sizeLine := by rw [← rel.length]; exact z
    have hl : (putK kvs k v).length ≤ sizeLine := by have := length_putK kvs k v; omega
    refine wpAny_setItem_pairs (hsz := hz) (kV_is ry) dd fun h' dd' hs => h _ ?_
    have he : ∃ q, h'.get? a = some q := let ⟨q, _, _, hq, _⟩ := dd'; ⟨q, hq⟩
    exact d_write I (by rw [e]; exact True.intro) hs he (dk_new hl hd (rel.put k rv) dd')
  · subst ey eH
    cases (show u = Value.ref b from ry)
    obtain ⟨z, hd, xs, rel, dd⟩ := dt_of I.hok e
    have hz : xs.length ≤ sizeLine := by rw [← Paired.length rel]; exact z
    have hl : (putK kvs k v).length ≤ sizeLine := by have := length_putK kvs k v; omega
    refine wpAny_setItem_heap (hsz := hz) (tupleKind_room_in1 hu) (key_of I.hok eb) dd fun h' dd' hs => h _ ?_
    obtain ⟨q, es, ep, hq, h2, h3, h4, _, h5⟩ := dd'
    refine d_write I (by rw [e]; exact True.intro) hs ⟨q, hq⟩ ⟨hl, hd, _, (rel.put k eb rv).keeps fun c ys ec => ?_, q, es, ep, hq, h2, h3, h4, h5⟩
    rw [upd_ne (ne_of ec e (fun z => nomatch z))]
    exact ec
end

section
variable {X : Cx} {pins : List (Addr × Obj)} {σ : St} {H : Hp} {s : Shared} {a : Addr} {kvs : List (Key × V)} {k : Key} {u : Value} {A : Around} {E : Value → Shared → Prop}
/-- del d[k] -/
theorem d_delItem {Q : Unit → Shared → Prop} (I : Inv X pins σ H s) (e : H a = some (.dK kvs)) (ry : RelV (kV k) u) (l : (valV kvs k).isSome = true) (h : ∀ s', Inv X pins σ (upd H a (.dK (dropK kvs k))) s' → Q () s') :
    wpAny (model X.prog X.w) A (delItem (.ref a) u) Q E s := by
  obtain ⟨z, hd, vs, rel, dd⟩ := dk_of I.hok e
  refine wpAny_delItem_slot dd.typeIs (by decide) PySem.F.slot_dict_delitem
    (call_meetsIn PySem.F.slot_dict_delitem dd.typeIs PySem.F.entry_dict_delitem (PySem.F.args_dict_delitem_2 _ _) (meets_dict_delitem_pairs (mixKind X.prog X.w) a (kV_is ry)) ⟨vs, dd, by rw [← rel.length]; exact z, by rw [← (rel.val k).isSome_eq]; exact l, fun h' dd' hs => h _ ?_⟩)
  have he : ∃ q, h'.get? a = some q := let ⟨q, _, _, hq, _⟩ := dd'; ⟨q, hq⟩
  exact d_write I (by rw [e]; exact True.intro) hs he (dk_new (Nat.le_trans (dropK_le kvs k) z) hd (rel.drop k) dd')
/-- d.pop(k[, x]), there -/
theorem d_pop {v : V} {more : List Value} {Q : Value → Shared → Prop} (I : Inv X pins σ H s) (e : H a = some (.dK kvs)) (ry : RelV (kV k) u) (l : valV kvs k = some v) (hm : more = [] ∨ ∃ x, more = [x])
    (h : ∀ w' s', Inv X pins σ (upd H a (.dK (dropK kvs k))) s' → RelV v w' → Q w' s') : wpAny (model X.prog X.w) A (call (.builtin "dict.pop") (.ref a :: u :: more)) Q E s := by
  obtain ⟨z, hd, vs, rel, dd⟩ := dk_of I.hok e
  obtain ⟨w', hw, rw'⟩ := RelO.some_of (v := v) (o := valueAt vs k) (by rw [← l]; exact rel.val k)
  have hp : (keyPart u).isSome = true := by
    cases k with
    | inl i => obtain ⟨t, q⟩ := (show ∃ t, u = Value.int i t from ry); subst q; rfl
    | inr x => obtain ⟨t, q⟩ := (show ∃ t, u = Value.str x t from ry); subst q; rfl
  have ha : argsOk "dict.pop" ⟨.ref a :: u :: more, []⟩ := by
    rcases hm with q | ⟨x, q⟩
    · subst q; exact PySem.F.args_dict_pop_2 _ _
    · subst q; exact PySem.F.args_dict_pop_3 _ _ _
  refine call_meetsIn PySem.F.slot_dict_pop dd.typeIs PySem.F.entry_dict_pop ha (meets_dict_pop_there (mixKind X.prog X.w) a (kV_is ry) more hm hp)
    ⟨vs, w', dd, by rw [← rel.length]; exact z, hw, fun h' dd' hs => h w' _ ?_ rw'⟩
  have he : ∃ q, h'.get? a = some q := let ⟨q, _, _, hq, _⟩ := dd'; ⟨q, hq⟩
  exact d_write I (by rw [e]; exact True.intro) hs he (dk_new (Nat.le_trans (dropK_le kvs k) z) hd (rel.drop k) dd')
/-- d.pop(k, x), not there -/
theorem d_popD {r : Value} {Q : Value → Shared → Prop} (I : Inv X pins σ H s) (e : H a = some (.dK kvs)) (ry : RelV (kV k) u) (l : valV kvs k = none) (h : ∀ s', Inv X pins σ H s' → Q r s') :
    wpAny (model X.prog X.w) A (call (.builtin "dict.pop") [.ref a, u, r]) Q E s := by
  obtain ⟨z, hd, vs, rel, dd⟩ := dk_of I.hok e
  have hn : valueAt vs k = none := RelO.none_of (by rw [← l]; exact rel.val k)
  have hp : (keyPart u).isSome = true := by
    cases k with
    | inl i => obtain ⟨t, q⟩ := (show ∃ t, u = Value.int i t from ry); subst q; rfl
    | inr x => obtain ⟨t, q⟩ := (show ∃ t, u = Value.str x t from ry); subst q; rfl
  exact call_meetsIn PySem.F.slot_dict_pop dd.typeIs PySem.F.entry_dict_pop (PySem.F.args_dict_pop_3 _ _ _) (meets_dict_pop_default (mixKind X.prog X.w) a (kV_is ry) hd hp r) ⟨vs, dd, hn, h _ (I.tok _)⟩
/-- d.clear() -/
theorem d_clear {Q : Value → Shared → Prop} (I : Inv X pins σ H s) (e : H a = some (.dK kvs)) (h : ∀ s', Inv X pins σ (upd H a (.dK [])) s' → Q .none s') : wpAny (model X.prog X.w) A (call (.builtin "dict.clear") [.ref a]) Q E s := by
  obtain ⟨z, hd, vs, rel, dd⟩ := dk_of I.hok e
  refine call_meetsIn PySem.F.slot_dict_clear dd.typeIs PySem.F.entry_dict_clear (PySem.F.args_dict_clear_1 _) (meets_dict_clear (mixKind X.prog X.w) a) ⟨vs, dd, by rw [← rel.length]; exact z, fun h' dd' hs => h _ ?_⟩
  have he : ∃ q, h'.get? a = some q := let ⟨q, _, _, hq, _⟩ := dd'; ⟨q, hq⟩
  exact d_write (t' := s.toks) I (by rw [e]; exact True.intro) hs he (dk_new (Nat.zero_le _) hd .nil dd')
/-- len(d) -/
theorem d_len {Q : Value → Shared → Prop} (I : Inv X pins σ H s) (e : Rd H a (.dK kvs)) (h : ∀ t s', Inv X pins σ H s' → Q (.int kvs.length t) s') : wpAny (model X.prog X.w) A (call (.builtin "len") [.ref a]) Q E s := by
  obtain ⟨z, hd, vs, rel, dd⟩ := dk_rd I.hok e
  refine call_len_dict hd dd (by rw [← rel.length]; rw [sizeLine_eq] at z; omega) ?_
  rw [← rel.length]
  exact h _ _ (I.tok _)
/-- if d -/
theorem d_truth {Q : Bool → Shared → Prop} (I : Inv X pins σ H s) (e : Rd H a (.dK kvs)) (h : ∀ s', Inv X pins σ H s' → Q (!kvs.isEmpty) s') : wpAny (model X.prog X.w) A (truthy (.ref a)) Q E s := by
  obtain ⟨z, hd, vs, rel, dd⟩ := dk_rd I.hok e
  refine wpAny_truthy_dict hd dd (by rw [← rel.length]; rw [sizeLine_eq] at z; omega) ?_
  have q : kvs.isEmpty = vs.isEmpty := by cases rel <;> rfl
  rw [← q]
  exact h _ (I.tok _)
end


/-! ### readings and rules -/
/-- the element of a subscription, not a slice -/
def NoSl (i : Expr) : Prop := ∀ ov iv, subscripted i false ov iv = operate [ov, iv] (getItem ov iv)
theorem subD_of {prog : Program} {w : World} {A : Around} {E : Value → Shared → Prop} {s : Shared} {env : Env} {value slice : Expr} {pos : Pos} {T id : String} {Q : Value → Shared → Prop}
    (hl : typeLookup (.type T) "__getitem__" = pure (some (.builtin id))) (hs : NoSl slice)
    (h : wpAny (model prog w) A (eval value env) (fun o s₁ => wpAny (model prog w) A (eval slice env) (fun i s₂ => s₂.TypeIs o T ∧ wpAny (model prog w) A (getItem o i) Q E s₂) E s₁) E s) :
    wpAny (model prog w) A (eval (.Subscript value slice pos) env) Q E s := by
  refine Subscript_ (wpAny_mono h (fun o s₁ h₁ => wpAny_mono h₁ (fun i s₂ h₂ => ?_) fun _ _ x => x) fun _ _ x => x)
  obtain ⟨hT, h₂⟩ := h₂
  unfold subscriptTail
  refine wpAny_bind ?_
  rw [getitemInPython_of_ne hT.not_modules]
  refine wpAny_bind (wpAny_specialOf hT hl ?_)
  have fin : wpAny (model prog w) A (subscripted slice false o i) (fun r s₃ => wpAny (model prog w) A (letTemporaryGo value o r >>= fun _ => pure r) Q E s₃) E s₂ := by
    rw [hs o i]
    exact wpAny_operating (wpAny_mono h₂ (fun r s₃ h₃ => wpAny_bind (wpAny_letTemporaryGo (wpAny_pure h₃))) fun _ _ x => x)
  first
    | exact wpAny_pure (wpAny_bind fin)
    | exact wpAny_bind (wpAny_pure (wpAny_bind fin))
    | exact wpAny_bind fin

theorem dict_typeIs {X : Cx} {pins : List (Addr × Obj)} {σ : St} {H : Hp} {s : Shared} {a : Addr} {y : V} {o : Option V} (I : Inv X pins σ H s) (g : DGet H a y o) : s.TypeIs (.ref a) "dict" := by
  rcases g with ⟨kvs, k, e, _, _⟩ | ⟨kvs, k, b, e, _, _, _⟩
  · obtain ⟨_, _, vs, _, dd⟩ := dk_rd I.hok e
    exact dd.typeIs
  · obtain ⟨_, _, xs, _, dd⟩ := dt_rd I.hok e
    exact dd.typeIs
theorem dict_noDict {X : Cx} {pins : List (Addr × Obj)} {σ : St} {H : Hp} {s : Shared} {a : Addr} {y : V} {o : Option V} (I : Inv X pins σ H s) (g : DGet H a y o) :
    ∀ b, Value.ref a = .ref b → ∃ ob, s.heap.get? b = some ob ∧ ob.dict = none := fun b q => by
  cases q
  rcases g with ⟨kvs, k, e, _, _⟩ | ⟨kvs, k, b, e, _, _, _⟩
  · obtain ⟨_, _, vs, _, ob, _, _, h1, h2, _⟩ := dk_rd I.hok e
    exact ⟨ob, h1, h2.2.1⟩
  · obtain ⟨_, _, xs, _, ob, _, _, h1, h2, _⟩ := dt_rd I.hok e
    exact ⟨ob, h1, h2.2.1⟩

/-- d[y] -/
def tDGet (td ty : TE) : TE := fun σ H Q => td σ H fun x H1 => ty σ H1 fun y H2 => ∃ a v, x = .ref a ∧ DGet H2 a y (some v) ∧ Q v H2
/-- y in d, y not in d -/
def tDIn (ty td : TE) : TE := fun σ H Q => ty σ H fun y H1 => td σ H1 fun x H2 => ∃ a o, x = .ref a ∧ DGet H2 a y o ∧ Q (.bl o.isSome) H2
def tDNotIn (ty td : TE) : TE := fun σ H Q => ty σ H fun y H1 => td σ H1 fun x H2 => ∃ a o, x = .ref a ∧ DGet H2 a y o ∧ Q (.bl (!o.isSome)) H2
/-- d[y] = v -/
def sDPut (td ty tv : TE) : TS := fun D σ H => tv σ H fun v H1 => td σ H1 fun x H2 => ty σ H2 fun y H3 => ∃ a H4, x = .ref a ∧ DPut H3 a y v H4 ∧ D.nx σ H4
/-- d[y] op= v -/
def sDAug (td ty tv : TE) (rd : V → V → Hp → VK → Prop) : TS := fun D σ H => td σ H fun x H1 => ty σ H1 fun y H2 => ∃ a v, x = .ref a ∧ DGet H2 a y (some v) ∧
  tv σ H2 fun y2 H3 => rd v y2 H3 fun z H4 => ∃ H5, DPut H4 a y z H5 ∧ D.nx σ H5
/-- del d[y] -/
def sDDel (td ty : TE) : TS := fun D σ H => td σ H fun x H1 => ty σ H1 fun y H2 => ∃ a kvs k, x = .ref a ∧ H2 a = some (.dK kvs) ∧ y = kV k ∧ (valV kvs k).isSome = true ∧ D.nx σ (upd H2 a (.dK (dropK kvs k)))

section
variable {X : Cx} {o i e value : Expr} {pos pos' tpos : Pos} {td ty tv : TE}
theorem pe_dget (hu : X.A.units + 1 < cLine) (ho : PE X o td) (hi : PE X i ty) (hs : NoSl i) : PE X (.Subscript o i pos) (tDGet td ty) := by
  intro pins s σ H Q I h
  refine subD_of PySem.F.slot_dict_getitem.lookup hs (thn (ho pins s σ H _ I h) fun u s1 ⟨x, H1, I1, rx, q1⟩ => thn (hi pins s1 σ H1 _ I1 q1) fun iv s2 ⟨y, H2, I2, ry, a, v, ex, g, q2⟩ => ?_)
  subst ex
  obtain rfl : u = Value.ref a := rx
  exact ⟨dict_typeIs I2 g, d_getItem hu I2 g ry fun w' s3 I3 rw' => ⟨v, H2, I3, rw', q2⟩⟩
theorem pc_din (hu : X.A.units + 1 < cLine) (hi : PE X i ty) (ho : PE X o td) : PC X .In i o (tDIn ty td) := by
  intro pins s σ H Q I h
  refine thn (hi pins s σ H _ I h) fun iv s1 ⟨y, H1, I1, ry, q1⟩ => thn (ho pins s1 σ H1 _ I1 q1) fun u s2 ⟨x, H2, I2, rx, a, ov, ex, g, q2⟩ => ?_
  subst ex
  obtain rfl : u = Value.ref a := rx
  exact d_in hu I2 g ry fun s3 I3 => ⟨.bl ov.isSome, H2, I3, rfl, q2⟩
theorem pc_dnotin (hu : X.A.units + 1 < cLine) (hi : PE X i ty) (ho : PE X o td) : PC X .NotIn i o (tDNotIn ty td) := by
  intro pins s σ H Q I h
  refine thn (hi pins s σ H _ I h) fun iv s1 ⟨y, H1, I1, ry, q1⟩ => thn (ho pins s1 σ H1 _ I1 q1) fun u s2 ⟨x, H2, I2, rx, a, ov, ex, g, q2⟩ => ?_
  subst ex
  obtain rfl : u = Value.ref a := rx
  exact d_notIn hu I2 g ry fun s3 I3 => ⟨.bl (!ov.isSome), H2, I3, rfl, q2⟩
theorem ps_dput (hu : X.A.units + 1 < cLine) (ho : PE X o td) (hi : PE X i ty) (hv : PE X value tv) (hs : swapsWith value (some (.Subscript o i pos')) pos.line X.env = pure false) :
    PS X (.Assign [.Subscript o i pos'] value pos) (sDPut td ty tv) := by
  intro pins s σ H D I h
  refine wpAny_Assign_Subscript (thn (hv pins s σ H _ I h) fun r s1 ⟨v, H1, I1, rv, q1⟩ => thn (ho pins s1 σ H1 _ I1 q1) fun u s2 ⟨x, H2, I2, rx, q2⟩ => thn (hi pins s2 σ H2 _ I2 q2) fun iv s3 ⟨y, H3, I3, ry, a, H4, ex, g, q3⟩ => ?_) hs
  subst ex
  obtain rfl : u = Value.ref a := rx
  exact d_setItem hu I3 g ry rv fun s4 I4 => ⟨σ, H4, I4, q3⟩
theorem ps_daug {op : Operator} {rd : V → V → Hp → VK → Prop} (hu : X.A.units + 1 < cLine) (ho : PE X o td) (hi : PE X i ty) (hv : PE X value tv) (hop : InOp X op rd)
    (ha : ∀ ov iv new, augStore i ov iv new = (do holding [new, ov, iv] (setItem ov iv new); release [new, ov, iv] []; pure .next)) : PS X (.AugAssign (.Subscript o i tpos) op value pos) (sDAug td ty tv rd) := by
  intro pins s σ H D I h
  refine wpAny_AugAssign_SubscriptAny (thn (ho pins s σ H _ I h) fun u s1 ⟨x, H1, I1, rx, q1⟩ => thn (hi pins s1 σ H1 _ I1 q1) fun iv s2 ⟨y, H2, I2, ry, a, v, ex, g, q2⟩ => ?_) ha
  subst ex
  obtain rfl : u = Value.ref a := rx
  refine d_getItem hu I2 g ry fun w' s3 I3 rw' => thn (hv pins s3 σ H2 _ I3 q2) fun w2 s4 ⟨y2, H3, I4, ry2, q3⟩ => thn (hop pins s4 σ H3 v y2 w' w2 _ I4 rw' ry2 q3) fun w3 s5 ⟨z, H4, I5, rz, H5, g5, q4⟩ => ?_
  exact d_setItem hu I5 g5 ry rz fun s6 I6 => ⟨σ, H5, I6, q4⟩
theorem ps_ddel (ho : PE X o td) (hi : PE X i ty) : PS X (.Delete [.Subscript o i tpos] pos) (sDDel td ty) := by
  intro pins s σ H D I h
  refine wpAny_Delete (wpAny_deleteEach_cons (wpAny_delete_Subscript (thn (ho pins s σ H _ I h) fun u s1 ⟨x, H1, I1, rx, q1⟩ => thn (hi pins s1 σ H1 _ I1 q1) fun iv s2 ⟨y, H2, I2, ry, a, kvs, k, ex, e, ey, l, q2⟩ => ?_)))
  subst ex ey
  obtain rfl : u = Value.ref a := rx
  exact d_delItem I2 e ry l fun s3 I3 => wpAny_deleteEach_nil ⟨σ, _, I3, q2⟩
end


/-! ### displays -/
theorem dk_empty {P : Program} {w : World} {H : Hp} (h : Heap) (hb : sysModules < h.objs.size) : ObjOk P w H (h.push { cls := .type "dict", data := .dict #[] }) h.objs.size (.dK []) :=
  ⟨Nat.zero_le _, beq_eq_false_iff_ne.mpr (Ne.symm (Nat.ne_of_lt hb)), [], .nil, Heap.DictOf.new h⟩
theorem dt_empty {P : Program} {w : World} {H : Hp} (h : Heap) (hb : sysModules < h.objs.size) : ObjOk P w H (h.push { cls := .type "dict", data := .dict #[] }) h.objs.size (.dT []) :=
  ⟨Nat.zero_le _, beq_eq_false_iff_ne.mpr (Ne.symm (Nat.ne_of_lt hb)), [], .nil, _, #[], 0, Heap.get?_push_size _ rfl, ⟨rfl, rfl, rfl⟩, rfl, rfl, List.nodup_nil⟩
/-- {}, to be a dict of the kind that is wanted -/
def tDNewK : TE := fun _ H Q => ∀ p, H p = none → Q (.ref p) (upd H p (.dK []))
def tDNewT : TE := fun _ H Q => ∀ p, H p = none → Q (.ref p) (upd H p (.dT []))
section
variable {X : Cx} {pos : Pos}
theorem pe_dnewK : PE X (.Dict [] [] pos) tDNewK := fun pins s σ H Q I h =>
  wpAny_Dict_empty ⟨.ref s.heap.objs.size, _, I.laid (a := s.heap.objs.size) (o := .dK []) (t' := s.toks) (fun _ _ q => Heap.get?_push_of_some _ q) (Nat.le_refl _) (dk_empty s.heap I.big), rfl, h _ (I.hok.fresh (Nat.le_refl _))⟩
theorem pe_dnewT : PE X (.Dict [] [] pos) tDNewT := fun pins s σ H Q I h =>
  wpAny_Dict_empty ⟨.ref s.heap.objs.size, _, I.laid (a := s.heap.objs.size) (o := .dT []) (t' := s.toks) (fun _ _ q => Heap.get?_push_of_some _ q) (Nat.le_refl _) (dt_empty s.heap I.big), rfl, h _ (I.hok.fresh (Nat.le_refl _))⟩
end

/-- the pairs of a display, from the left -/
def tPairs : List (TE × TE) → St → Hp → (List (V × V) → Hp → Prop) → Prop
  | [], _, H, Q => Q [] H
  | (tk, tv) :: r, σ, H, Q => tk σ H fun x H1 => tv σ H1 fun y H2 => tPairs r σ H2 fun ps H3 => Q ((x, y) :: ps) H3
abbrev VV : List (V × V) → List (Value × Value) → Prop := Paired fun p q => RelV p.1 q.1 ∧ RelV p.2 q.2
def PPs (X : Cx) (pos : Pos) (keys : List (Option Expr)) (values : List Expr) (trs : List (TE × TE)) : Prop :=
  ∀ (pins : List (Addr × Obj)) (s : Shared) (σ : St) (H : Hp) (Q : List (V × V) → Hp → Prop), Inv X pins σ H s → tPairs trs σ H Q →
    wpAny (model X.prog X.w) X.A (evalPairs (pairTrees keys values X.env pos)) (fun vs s' => ∃ ps H', Inv X pins σ H' s' ∧ VV ps vs ∧ Q ps H') X.xe s
theorem pps_nil {X : Cx} {pos : Pos} : PPs X pos [] [] [] := fun pins s σ H Q I h => pairTrees_nil_walk ⟨[], H, I, .nil, h⟩
theorem pps_cons {X : Cx} {pos : Pos} {k v : Expr} {ks : List (Option Expr)} {vs : List Expr} {tk tv : TE} {trs : List (TE × TE)} (hk : PE X k tk) (hv : PE X v tv) (hr : PPs X pos ks vs trs) :
    PPs X pos (some k :: ks) (v :: vs) ((tk, tv) :: trs) := fun pins s σ H Q I h =>
  pairTrees_cons_walk (thn (hk pins s σ H _ I h) fun u s1 ⟨x, H1, I1, rx, q1⟩ => thn (hv pins s1 σ H1 _ I1 q1) fun w2 s2 ⟨y, H2, I2, ry, q2⟩ =>
    thn (hr pins s2 σ H2 _ I2 q2) fun ws s3 ⟨ps, H3, I3, rel, q3⟩ => ⟨(x, y) :: ps, H3, I3, .cons ⟨rx, ry⟩ rel, q3⟩)

def mergeK (kvs more : List (Key × V)) : List (Key × V) := more.foldl (fun acc kv => putK acc kv.1 kv.2) kvs
theorem KV.merge : ∀ {more : List (Key × V)} {rs : List (Key × Value)} {kvs : List (Key × V)} {vs : List (Key × Value)}, KV more rs → KV kvs vs → KV (mergeK kvs more) (merged vs rs) := by
  intro more rs kvs vs r
  unfold KV at r
  induction r generalizing kvs vs with
  | nil => intro q; exact q
  | @cons p q ps qs h t ih =>
    intro r0
    have e : KV (putK kvs p.1 p.2) (stored vs q.1 q.2) := by
      have := r0.put p.1 h.2
      rw [← h.1]; exact this
    exact ih e
theorem length_mergeK : ∀ (more kvs : List (Key × V)), (mergeK kvs more).length ≤ kvs.length + more.length
  | [], kvs => by show kvs.length ≤ kvs.length + 0; omega
  | p :: r, kvs => by
    have h1 := length_mergeK r (putK kvs p.1 p.2)
    have h2 := length_putK kvs p.1 p.2
    show (mergeK (putK kvs p.1 p.2) r).length ≤ _
    rw [List.length_cons]; omega
theorem carries_of {P : Program} {w : World} : ∀ {kvs : List (Key × V)} {ws : List (Value × Value)}, VV (kvs.map fun kv => (kV kv.1, kv.2)) ws → ∃ rs, Carries (mixKind P w) ws rs ∧ KV kvs rs
  | [], _, r => by rw [List.map_nil] at r; cases r; exact ⟨[], True.intro, .nil⟩
  | p :: kvs, _, r => by
    rw [List.map_cons] at r
    cases r with
    | @cons a b as bs h t =>
      obtain ⟨rs, c, q⟩ := carries_of (P := P) (w := w) t
      obtain ⟨b1, b2⟩ := b
      exact ⟨(p.1, b2) :: rs, ⟨kV_is h.1, rfl, c⟩, .cons ⟨rfl, h.2⟩ q⟩
/-- {k: v, ..} with keys ints and texts; the new dict stands empty while the pairs are made -/
def tDisp (trs : List (TE × TE)) : TE := fun σ H Q => ∀ p, H p = none → tPairs trs σ (upd H p (.dK [])) fun ps H2 => H2 p = some (.dK []) ∧ ∃ kvs : List (Key × V), ps = kvs.map (fun kv => (kV kv.1, kv.2)) ∧ kvs.length ≤ 15 ∧ Q (.ref p) (upd H2 p (.dK (mergeK [] kvs)))
theorem pe_disp {X : Cx} {pos : Pos} {keys : List (Option Expr)} {values : List Expr} {trs : List (TE × TE)} (h : PPs X pos keys values trs) (hall : keys.all (·.isSome) = true) (hl : keys.length = values.length) (h0 : keys ≠ [])
    (h15 : keys.length ≤ 15) : PE X (.Dict keys values pos) (tDisp trs) := by
  intro pins s σ H Q I q
  have hn := I.hok.fresh (Nat.le_refl s.heap.objs.size)
  have I1 := I.laid (a := s.heap.objs.size) (o := .dK []) (h' := s.heap.push { cls := .type "dict", data := .dict #[] }) (t' := s.toks) (fun _ _ q => Heap.get?_push_of_some _ q) (Nat.le_refl _) (dk_empty s.heap I.big)
  refine wpAny_Dict_walk (knd := mixKind X.prog X.w) hall hl h0 h15 (thn (h pins _ σ _ _ I1 (q _ hn)) fun ws s2 ⟨ps, H2, I2, rel, e, kvs, ep, lk, q2⟩ => ?_)
  subst ep
  obtain ⟨rs, c, rk⟩ := carries_of (P := X.prog) (w := X.w) rel
  obtain ⟨z, hd, vs0, r0, dd⟩ := dk_of I2.hok e
  cases r0
  refine ⟨rs, c, dd, fun h' dd' hs => ⟨.ref s.heap.objs.size, _, ?_, rfl, q2⟩⟩
  have hz : (mergeK [] kvs).length ≤ sizeLine := by
    have h1 := length_mergeK kvs []
    rw [List.length_nil] at h1
    rw [sizeLine_eq]; omega
  have he : ∃ q, h'.get? s.heap.objs.size = some q := let ⟨q, _, _, hq, _⟩ := dd'; ⟨q, hq⟩
  exact d_write I2 (by rw [e]; exact True.intro) hs he (dk_new hz hd (rk.merge .nil) dd')


/-! ### methods -/
/-- a method call o.m(e) of a built-in, with one argument: what must be seen of the text -/
structure M1 (X : Cx) (o : Expr) (m : Str) (apos : Pos) (e : Expr) (cpos : Pos) : Prop where
  base : attributeBase o m X.env (eval o X.env) = eval o X.env
  few : ((backTo cpos (starEach [e] X.env)).all (fun x => !x.1) && (backToKw cpos (keywordEach [] X.env)).all (fun x => x.1.isSome)
    && decide (([e] : List Expr).length + ([] : List Keyword).length + (if ([] : List Keyword).isEmpty then 0 else 1) < 30)) = true
  line : (apos.endLine == cpos.line) = true
  trees : backTo cpos (starEach [e] X.env) = [(false, eval e X.env)]
structure M2 (X : Cx) (o : Expr) (m : Str) (apos : Pos) (e f : Expr) (cpos : Pos) : Prop where
  base : attributeBase o m X.env (eval o X.env) = eval o X.env
  few : ((backTo cpos (starEach [e, f] X.env)).all (fun x => !x.1) && (backToKw cpos (keywordEach [] X.env)).all (fun x => x.1.isSome)
    && decide (([e, f] : List Expr).length + ([] : List Keyword).length + (if ([] : List Keyword).isEmpty then 0 else 1) < 30)) = true
  line : (apos.endLine == cpos.line) = true
  trees : backTo cpos (starEach [e, f] X.env) = [(false, eval e X.env), (false, eval f X.env)]

/-- a is a dict, whatever its keys -/
def IsD (H : Hp) (a : Addr) : Prop := (∃ kvs, Rd H a (.dK kvs)) ∨ ∃ kvs, Rd H a (.dT kvs)
theorem isD_at {X : Cx} {pins : List (Addr × Obj)} {σ : St} {H : Hp} {s : Shared} {a : Addr} (I : Inv X pins σ H s) (d : IsD H a) :
    s.TypeIs (.ref a) "dict" ∧ (∀ b, Value.ref a = .ref b → ∃ ob, s.heap.get? b = some ob ∧ ob.dict = none) ∧ (a == sysModules) = false := by
  rcases d with ⟨kvs, e⟩ | ⟨kvs, e⟩
  · obtain ⟨_, hd, vs, _, dd⟩ := dk_rd I.hok e
    refine ⟨dd.typeIs, fun b q => ?_, hd⟩
    cases q
    obtain ⟨ob, _, _, h1, h2, _⟩ := dd
    exact ⟨ob, h1, h2.2.1⟩
  · obtain ⟨_, hd, xs, _, dd⟩ := dt_rd I.hok e
    refine ⟨dd.typeIs, fun b q => ?_, hd⟩
    cases q
    obtain ⟨ob, _, _, h1, h2, _⟩ := dd
    exact ⟨ob, h1, h2.2.1⟩

section
variable {X : Cx} {pins : List (Addr × Obj)} {σ : St} {H : Hp} {s : Shared} {a : Addr} {y d : V} {u r : Value} {o : Option V} {A : Around} {E : Value → Shared → Prop}
/-- d.get(y) -/
theorem d_get1 {Q : Value → Shared → Prop} (hu : A.units + 1 < cLine) (I : Inv X pins σ H s) (g : DGet H a y o) (ry : RelV y u) (h : ∀ w' s', Inv X pins σ H s' → RelV (o.getD .non) w' → Q w' s') :
    wpAny (model X.prog X.w) A (call (.builtin "dict.get") [.ref a, u]) Q E s := by
  rcases g with ⟨kvs, k, e, ey, l⟩ | ⟨kvs, k, b, e, ey, eb, l⟩
  · subst ey
    obtain ⟨z, hd, vs, rel, dd⟩ := dk_rd I.hok e
    refine call_meetsIn PySem.F.slot_dict_get dd.typeIs PySem.F.entry_dict_get (PySem.F.args_dict_get_2 _ _) (meets_dict_get (mixKind X.prog X.w) a (kV_is ry) hd) ⟨_, dd.mapOf, h _ _ (I.tok _) ?_⟩
    rw [l]
    exact (rel.val k).getD rfl
  · subst ey
    cases (show u = Value.ref b from ry)
    obtain ⟨z, hd, xs, rel, dd⟩ := dt_rd I.hok e
    refine call_meetsIn PySem.F.slot_dict_get dd.typeIs PySem.F.entry_dict_get (PySem.F.args_dict_get_2 _ _) (meetsH_dict_get (tupleKind (mixKind X.prog X.w)) a b hd) ⟨tupleKind_room_in1 hu, k, xs, key_of I.hok eb, dd, h _ _ (I.tok _) ?_⟩
    rw [l]
    exact (rel.val k).getD rfl
/-- d.get(y, x) -/
theorem d_get2 {Q : Value → Shared → Prop} (hu : A.units + 1 < cLine) (I : Inv X pins σ H s) (g : DGet H a y o) (ry : RelV y u) (rd : RelV d r) (h : ∀ w' s', Inv X pins σ H s' → RelV (o.getD d) w' → Q w' s') :
    wpAny (model X.prog X.w) A (call (.builtin "dict.get") [.ref a, u, r]) Q E s := by
  rcases g with ⟨kvs, k, e, ey, l⟩ | ⟨kvs, k, b, e, ey, eb, l⟩
  · subst ey
    obtain ⟨z, hd, vs, rel, dd⟩ := dk_rd I.hok e
    refine call_meetsIn PySem.F.slot_dict_get dd.typeIs PySem.F.entry_dict_get (PySem.F.args_dict_get_3 _ _ _) (meets_dict_get_default (mixKind X.prog X.w) a (kV_is ry) hd r) ⟨_, dd.mapOf, h _ _ (I.tok _) ?_⟩
    rw [l]
    exact (rel.val k).getD rd
  · subst ey
    cases (show u = Value.ref b from ry)
    obtain ⟨z, hd, xs, rel, dd⟩ := dt_rd I.hok e
    refine call_meetsIn PySem.F.slot_dict_get dd.typeIs PySem.F.entry_dict_get (PySem.F.args_dict_get_3 _ _ _) (meetsH_dict_get_default (tupleKind (mixKind X.prog X.w)) a b hd r) ⟨tupleKind_room_in1 hu, k, xs, key_of I.hok eb, dd, h _ _ (I.tok _) ?_⟩
    rw [l]
    exact (rel.val k).getD rd
end

def tDGet1 (td ty : TE) : TE := fun σ H Q => td σ H fun x H1 => ∃ a, x = .ref a ∧ IsD H1 a ∧ ty σ H1 fun y H2 => ∃ o, DGet H2 a y o ∧ Q (o.getD .non) H2
def tDGet2 (td ty tx : TE) : TE := fun σ H Q => td σ H fun x H1 => ∃ a, x = .ref a ∧ IsD H1 a ∧ ty σ H1 fun y H2 => tx σ H2 fun z H3 => ∃ o, DGet H3 a y o ∧ Q (o.getD z) H3
/-- d.pop(k): there; d.pop(k, x): there or not -/
def tDPop1 (td ty : TE) : TE := fun σ H Q => td σ H fun x H1 => ∃ a, x = .ref a ∧ IsD H1 a ∧ ty σ H1 fun y H2 => ∃ kvs k v, H2 a = some (.dK kvs) ∧ y = kV k ∧ valV kvs k = some v ∧ Q v (upd H2 a (.dK (dropK kvs k)))
def tDPop2 (td ty tx : TE) : TE := fun σ H Q => td σ H fun x H1 => ∃ a, x = .ref a ∧ IsD H1 a ∧ ty σ H1 fun y H2 => tx σ H2 fun z H3 => ∃ kvs k, H3 a = some (.dK kvs) ∧ y = kV k ∧
  (∀ v, valV kvs k = some v → Q v (upd H3 a (.dK (dropK kvs k)))) ∧ (valV kvs k = none → Q z H3)
section
variable {X : Cx} {o e f : Expr} {apos cpos : Pos} {td ty tx : TE}
theorem pe_dget1 (hu : X.A.units + 1 < cLine) (ho : PE X o td) (he : PE X e ty) (m : M1 X o "get" apos e cpos) : PE X (.Call (.Attribute o "get" apos) [e] [] cpos) (tDGet1 td ty) := by
  intro pins s σ H Q I h
  refine wpAny_Call_method m.base m.few m.line PySem.F.plainAttrs_dict PySem.F.slot_dict_get PySem.F.type_dict_get (thn (ho pins s σ H _ I h) fun u s1 ⟨x, H1, I1, rx, a, ex, d, q1⟩ => ?_)
  subst ex
  obtain rfl : u = Value.ref a := rx
  obtain ⟨t1, t2, _⟩ := isD_at I1 d
  refine ⟨t1, t2, ?_⟩
  rw [m.trees]
  refine Calls.callWith_builtin rfl (Calls.evalArgs_plain (Calls.spliced_cons (thn (he pins s1 σ H1 _ I1 q1) fun iv s2 ⟨y, H2, I2, ry, ov, g, q2⟩ => Calls.spliced_nil ?_)))
  exact d_get1 hu I2 g ry fun w' s3 I3 rw' => ⟨_, H2, I3, rw', q2⟩
theorem pe_dget2 (hu : X.A.units + 1 < cLine) (ho : PE X o td) (he : PE X e ty) (hf : PE X f tx) (m : M2 X o "get" apos e f cpos) : PE X (.Call (.Attribute o "get" apos) [e, f] [] cpos) (tDGet2 td ty tx) := by
  intro pins s σ H Q I h
  refine wpAny_Call_method m.base m.few m.line PySem.F.plainAttrs_dict PySem.F.slot_dict_get PySem.F.type_dict_get (thn (ho pins s σ H _ I h) fun u s1 ⟨x, H1, I1, rx, a, ex, d, q1⟩ => ?_)
  subst ex
  obtain rfl : u = Value.ref a := rx
  obtain ⟨t1, t2, _⟩ := isD_at I1 d
  refine ⟨t1, t2, ?_⟩
  rw [m.trees]
  refine Calls.callWith_builtin rfl (Calls.evalArgs_plain (Calls.spliced_cons (thn (he pins s1 σ H1 _ I1 q1) fun iv s2 ⟨y, H2, I2, ry, q2⟩ =>
    Calls.spliced_cons (thn (hf pins s2 σ H2 _ I2 q2) fun fv s3 ⟨z, H3, I3, rz, ov, g, q3⟩ => Calls.spliced_nil ?_))))
  exact d_get2 hu I3 g ry rz fun w' s4 I4 rw' => ⟨_, H3, I4, rw', q3⟩
theorem pe_dpop1 (ho : PE X o td) (he : PE X e ty) (m : M1 X o "pop" apos e cpos) : PE X (.Call (.Attribute o "pop" apos) [e] [] cpos) (tDPop1 td ty) := by
  intro pins s σ H Q I h
  refine wpAny_Call_method m.base m.few m.line PySem.F.plainAttrs_dict PySem.F.slot_dict_pop PySem.F.type_dict_pop (thn (ho pins s σ H _ I h) fun u s1 ⟨x, H1, I1, rx, a, ex, d, q1⟩ => ?_)
  subst ex
  obtain rfl : u = Value.ref a := rx
  obtain ⟨t1, t2, _⟩ := isD_at I1 d
  refine ⟨t1, t2, ?_⟩
  rw [m.trees]
  refine Calls.callWith_builtin rfl (Calls.evalArgs_plain (Calls.spliced_cons (thn (he pins s1 σ H1 _ I1 q1) fun iv s2 ⟨y, H2, I2, ry, kvs, k, v, ea, ey, l, q2⟩ => Calls.spliced_nil ?_)))
  subst ey
  exact d_pop I2 ea ry l (.inl rfl) fun w' s3 I3 rw' => ⟨v, _, I3, rw', q2⟩
theorem pe_dpop2 (ho : PE X o td) (he : PE X e ty) (hf : PE X f tx) (m : M2 X o "pop" apos e f cpos) : PE X (.Call (.Attribute o "pop" apos) [e, f] [] cpos) (tDPop2 td ty tx) := by
  intro pins s σ H Q I h
  refine wpAny_Call_method m.base m.few m.line PySem.F.plainAttrs_dict PySem.F.slot_dict_pop PySem.F.type_dict_pop (thn (ho pins s σ H _ I h) fun u s1 ⟨x, H1, I1, rx, a, ex, d, q1⟩ => ?_)
  subst ex
  obtain rfl : u = Value.ref a := rx
  obtain ⟨t1, t2, _⟩ := isD_at I1 d
  refine ⟨t1, t2, ?_⟩
  rw [m.trees]
  refine Calls.callWith_builtin rfl (Calls.evalArgs_plain (Calls.spliced_cons (thn (he pins s1 σ H1 _ I1 q1) fun iv s2 ⟨y, H2, I2, ry, q2⟩ =>
    Calls.spliced_cons (thn (hf pins s2 σ H2 _ I2 q2) fun fv s3 ⟨z, H3, I3, rz, kvs, k, ea, ey, q3, q4⟩ => Calls.spliced_nil ?_))))
  subst ey
  cases l : valV kvs k with
  | some v => exact d_pop I3 ea ry l (.inr ⟨fv, rfl⟩) fun w' s4 I4 rw' => ⟨v, _, I4, rw', q3 v l⟩
  | none => exact d_popD I3 ea ry l fun s4 I4 => ⟨z, H3, I4, rz, q4 l⟩
end

/-! ### dict(d): a copy -/
section
variable {X : Cx} {pins : List (Addr × Obj)} {σ : St} {H : Hp} {s : Shared} {a : Addr} {kvs : List (Key × V)} {A : Around} {E : Value → Shared → Prop}
theorem d_copyOf {Q : Value → Shared → Prop} (I : Inv X pins σ H s) (e : Rd H a (.dK kvs)) (h : ∀ p s', H p = none → Inv X pins σ (upd H p (.dK kvs)) s' → Q (.ref p) s') : wpAny (model X.prog X.w) A (call (.type "dict") [.ref a]) Q E s := by
  obtain ⟨z, hd, vs, rel, dd⟩ := dk_rd I.hok e
  refine kt_call_dict hd dd (by rw [← rel.length]; exact z) fun h' dd' hs => ?_
  refine h _ _ (I.hok.fresh (Nat.le_refl _)) (I.laid (a := s.heap.objs.size) (o := .dK kvs) (t' := s.toks) (fun b q hq => ?_) (Nat.le_refl _) (dk_new z (beq_eq_false_iff_ne.mpr (Ne.symm (Nat.ne_of_lt I.big))) rel dd'))
  exact (hs.2 b (Nat.ne_of_lt (Heap.lt_size hq))).trans (Heap.get?_push_of_some _ hq)
end


section
variable {X : Cx} {pins : List (Addr × Obj)} {σ : St} {H : Hp} {s : Shared} {a : Addr} {y : V} {u : Value} {A : Around} {E : Value → Shared → Prop}
/-- d[y], not there: a KeyError -/
theorem d_missing {Q : Value → Shared → Prop} (hu : A.units + 1 < cLine) (hh : A.handled = none) (I : Inv X pins σ H s) (g : DGet H a y none) (ry : RelV y u)
    (h : ∀ h' e t', Heap.NewExc s.heap h' e "KeyError" → E (.ref e) { s with heap := h', toks := t' }) : wpAny (model X.prog X.w) A (getItem (.ref a) u) Q E s := by
  rcases g with ⟨kvs, k, e, ey, l⟩ | ⟨kvs, k, b, e, ey, eb, l⟩
  · subst ey
    obtain ⟨z, hd, vs, rel, dd⟩ := dk_rd I.hok e
    have hn : valueAt vs k = none := RelO.none_of (by rw [l]; exact rel.val k)
    exact wpAny_getItem_missing_of (kV_is ry) hd hh dd.mapOf hn fun h' ex ne => h h' ex _ ne
  · subst ey
    cases (show u = Value.ref b from ry)
    obtain ⟨z, hd, xs, rel, dd⟩ := dt_rd I.hok e
    have hn : (atKey xs k).map (·.2) = none := RelO.none_of (by rw [l]; exact rel.val k)
    exact wpAny_getItem_missing_heap (tupleKind_room_in1 hu) (key_of I.hok eb) hd hh dd (Option.map_eq_none_iff.mp hn) fun h' ex ne => h h' ex _ ne
end
end L2

namespace HT
open PySem PyProof.Rows

/-- t < u of tuples of ints -/
def lexLt : List Int → List Int → Bool
  | [], [] => false
  | [], _ :: _ => true
  | _ :: _, [] => false
  | x :: xs, y :: ys => if x = y then lexLt xs ys else decide (x < y)
theorem lexLt_cons (x y : Int) (xs ys : List Int) : lexLt (x :: xs) (y :: ys) = if x = y then lexLt xs ys else decide (x < y) := rfl
theorem lexLt_nil_nil : lexLt [] [] = false := rfl
theorem lexLt_nil_cons (y : Int) (ys : List Int) : lexLt [] (y :: ys) = true := rfl
theorem lexLt_cons_nil (x : Int) (xs : List Int) : lexLt (x :: xs) [] = false := rfl

theorem eqAt_int (A : Around) (s : Shared) (a : Int) (t : Tok) (c : Int) (u : Tok) : ∃ e, SeqAt.EqAt A s (.int a t) (.int c u) e ∧ (e = true ↔ a = c) :=
  ⟨(a == c), SeqAt.EqAt.int_int a t c u, by simp⟩
theorem rcLt_int (A : Around) (s : Shared) (a : Int) (t : Tok) (c : Int) (u : Tok) (prog : Program) (w : World) (E : Value → Shared → Prop) (Q : Value → Shared → Prop) (h : Q (.bool (decide (a < c))) s) :
    wpAny (model prog w) A (richCompare .Lt (.int a t) (.int c u)) Q E s :=
  (PyProof.Rows.lt_int h : wpAny (model prog w) A (compareOp .Lt (.int a t) (.int c u)) Q E s)

section
open PySem.SeqAt
open PySem.AutoSeq1 (wpAny_loadPart')
open PySem.MeetsSeq PySem.MeetsSeq2 PySem.MeetsSeq3

theorem tuple_lt_ints (l b : Addr) (items items2 : Array Value) (n n2 : Nat) (dd dd2 : Option Addr) (sl sl2 : Array (Option Value)) (ns ms : List Int) (hi : IntsAre items.toList ns) (hj : IntsAre items2.toList ms) :
    Meets (Builtin.«tuple.__lt__» ⟨[.ref l, .ref b], []⟩)
      (fun _ R s => s.heap.get? l = some { cls := .type "tuple", dict := dd, data := .seq items n, slots := sl } ∧ s.heap.get? b = some { cls := .type "tuple", dict := dd2, data := .seq items2 n2, slots := sl2 } ∧
        R (.ok (.ret (.bool (lexLt ns ms)))) s) :=
  .of_wp fun prog w A R s h => by
    obtain ⟨hp, g, d, tk, os⟩ := s; obtain ⟨hl, hb, h⟩ := h
    have f2 := AutoSeq1.sub_tuple_tuple
    have z1 : items.size = ns.length := by rw [← hi.length]; simp
    have z2 : items2.size = ms.length := by rw [← hj.length]; simp
    wp_walk using wpAny_loadPart' hl, wpAny_loadPart' hb, wpAny_forIn_list _ (fun rest b s' => b.1 = none ∧ s' = ⟨hp, g, d, tk, os⟩ ∧ ∃ (vs ws : List Value) (ns' ms' : List Int), rest = vs.zip ws ∧
      IntsAre vs ns' ∧ IntsAre ws ms' ∧ ns'.length + items2.size = ms'.length + items.size ∧ R (.ok (.ret (.bool (lexLt ns' ms')))) ⟨hp, g, d, tk, os⟩) _
    case turn =>
      rintro ⟨y, x⟩ rest b s' ⟨hb', rfl, vs, ws, ns', ms', hz, hvi, hwi, hlen, hR⟩
      cases hvi with
      | nil => rw [List.zip_nil_left] at hz; cases hz
      | cons a t hvi' =>
        cases hwi with
        | nil => rw [List.zip_nil_right] at hz; cases hz
        | cons c u hwi' =>
          rw [List.zip_cons_cons] at hz
          injection hz with hyx hrest
          injection hyx with hy hx
          subst hy hx
          rw [lexLt_cons] at hR
          simp only [List.length_cons] at hlen
          obtain ⟨e, he, hiff⟩ := eqAt_int A.in1 ⟨hp, g, d, tk, os⟩ a t c u
          refine wpAny_bind (he prog w _ _ ?_)
          cases e with
          | true =>
            rw [if_pos (hiff.mp rfl)] at hR
            wp_walk
            exact ⟨rfl, rfl, _, _, _, _, hrest, hvi', hwi', by omega, hR⟩
          | false =>
            rw [if_neg (fun q => absurd (hiff.mpr q) Bool.false_ne_true)] at hR
            have hri := rcLt_int A.in1 ⟨hp, g, d, tk, os⟩ a t c u prog w
            wp_walk using hri
            exact ⟨_, rfl, by simpa using hR⟩
    case fin =>
      rintro ⟨b1, b2⟩ s' ⟨hb', rfl, vs, ws, ns', ms', hz, hvi, hwi, hlen, hR⟩
      simp only at hb'
      subst hb'
      have hv : lexLt ns' ms' = decide (items.size < items2.size) := by
        cases hvi with
        | nil =>
          cases hwi with
          | nil =>
            simp only [List.length_nil] at hlen
            rw [lexLt_nil_nil]
            exact (decide_eq_false (by omega)).symm
          | cons c u hw =>
            simp only [List.length_nil, List.length_cons] at hlen
            rw [lexLt_nil_cons]
            exact (decide_eq_true (by omega)).symm
        | cons a t hv =>
          cases hwi with
          | nil =>
            simp only [List.length_nil, List.length_cons] at hlen
            rw [lexLt_cons_nil]
            exact (decide_eq_false (by omega)).symm
          | cons c u hw =>
            rw [List.zip_cons_cons] at hz
            cases hz
      rw [hv] at hR
      wp_walk
      exact ⟨_, rfl, by simpa [Builtin.Tuple.tupleCompareSizes] using hR⟩
    case h =>
      exact ⟨rfl, rfl, items.toList, items2.toList, ns, ms, rfl, hi, hj, by omega, h⟩
end

section
variable {prog : Program} {w : World} {A : Around} {E : Value → Shared → Prop} {s : Shared}

theorem lt_tupInts {l b : Addr} {items items2 : Array Value} {ns ms : List Int} {Q : Value → Shared → Prop} (hl : IsTup s.heap l items) (hb : IsTup s.heap b items2) (hi : IntsAre items.toList ns) (hj : IntsAre items2.toList ms)
    (hu : A.units < cLine) (h : Q (.bool (lexLt ns ms)) s) : wpAny (model prog w) A (compareOp .Lt (.ref l) (.ref b)) Q E s := by
  obtain ⟨⟨cls, dd, data, sl⟩, ho, hc, n, hd⟩ := id hl
  obtain ⟨⟨cls2, dd2, data2, sl2⟩, ho2, hc2, n2, hd2⟩ := id hb
  simp only at hc hd hc2 hd2
  subst hc hd hc2 hd2
  exact richCompare_meets_room (op := .Lt) ⟨_, ho, rfl⟩ ⟨_, ho2, rfl⟩ PySem.F.slot_tuple_lt PySem.F.entry_tuple_lt (PySem.F.args_tuple_lt_2 _ _) (tuple_lt_ints l b items items2 n n2 dd dd2 sl sl2 ns ms hi hj)
    ⟨ho, ho2, show Value.bool (lexLt ns ms) ≠ Value.notImplemented ∧ Q (.bool (lexLt ns ms)) s from ⟨(fun x => nomatch x), h⟩⟩ hu

/-- t + u, t not empty -/
theorem cat_tup {t b : Addr} {vs ws : List Value} {Q : Value → Shared → Prop} (ht : IsTup s.heap t vs.toArray) (hb : IsTup s.heap b ws.toArray) (hv : vs ≠ [])
    (h1 : ws = [] → Q (.ref t) s) (h2 : ws ≠ [] → Q (.ref s.heap.objs.size) { s with heap := s.heap.push { cls := .type "tuple", data := .seq (vs ++ ws).toArray } })
    (hsz : vs.length + ws.length ≤ sizeLine) : wpAny (model prog w) A (binaryOp .Add (.ref t) (.ref b)) Q E s := by
  obtain ⟨⟨cls, dd, data, sl⟩, ho, hc, n, hd⟩ := id ht
  obtain ⟨⟨cls2, dd2, data2, sl2⟩, ho2, hc2, n2, hd2⟩ := id hb
  simp only at hc hd hc2 hd2
  subst hc hd hc2 hd2
  have e : vs.toArray ++ ws.toArray = (vs ++ ws).toArray := by simp
  by_cases hw : ws = []
  · exact concat_meets ⟨_, ho, rfl⟩ ⟨_, ho2, rfl⟩ noFill_tuple_add seq_tuple_add PySem.F.slot_tuple_add PySem.F.entry_tuple_add (PySem.F.args_tuple_add_2 _ _)
      (tuple_addW1 t b vs.toArray ws.toArray n n2 dd dd2 sl sl2 (by simpa using hv) (by simp [hw])) ⟨ho, ho2, h1 hw⟩
  · refine concat_meets ⟨_, ho, rfl⟩ ⟨_, ho2, rfl⟩ noFill_tuple_add seq_tuple_add PySem.F.slot_tuple_add PySem.F.entry_tuple_add (PySem.F.args_tuple_add_2 _ _)
      (tuple_addW2 t b vs.toArray ws.toArray n n2 dd dd2 sl sl2 (by simpa using hv) (by simpa using hw) (by rw [List.size_toArray, List.size_toArray]; exact hsz)) ⟨ho, ho2, ?_⟩
    rw [e]
    exact h2 hw

/-! ### t[a:b], not the whole -/
/-- a slice's bound as a place among n (d where it is left out) -/
def sIx (n d : Nat) : Option Int → Nat
  | none => d
  | some v => if v < 0 then (v + (n : Int)).toNat else min v.toNat n
theorem sIx_none (n d : Nat) : sIx n d none = d := rfl
theorem sIx_nat (n d k : Nat) : sIx n d (some (k : Int)) = min k n := by
  show (if (k : Int) < 0 then ((k : Int) + (n : Int)).toNat else min (k : Int).toNat n) = min k n
  rw [if_neg (by omega), Int.toNat_natCast]
theorem sIx_le (n d : Nat) (hd : d ≤ n) (o : Option Int) : sIx n d o ≤ n := by
  cases o with
  | none => exact hd
  | some v =>
    show (if v < 0 then (v + (n : Int)).toNat else min v.toNat n) ≤ n
    by_cases hv : v < 0
    · rw [if_pos hv]; omega
    · rw [if_neg hv]; exact Nat.min_le_right _ _
theorem clip_eq (v : Int) (n d : Nat) : (if v < 0 then max (v + (n : Int)) 0 else min v (n : Int)) = ((sIx n d (some v) : Nat) : Int) := by
  show (if v < 0 then max (v + (n : Int)) 0 else min v (n : Int)) = (((if v < 0 then (v + (n : Int)).toNat else min v.toNat n) : Nat) : Int)
  by_cases hv : v < 0
  · simp only [if_pos hv]; omega
  · simp only [if_neg hv]; omega
theorem adjust_gen (lo hi : Option Int) (n : Nat) : Builtin.Slice.sliceAdjust lo hi 1 (n : Int) = (((sIx n 0 lo : Nat) : Int), ((sIx n n hi : Nat) : Int)) := by
  have h1 : ¬ ((1 : Int) < 0) := by omega
  unfold Builtin.Slice.sliceAdjust
  simp only [h1, if_false]
  refine Prod.ext ?_ ?_
  · cases lo with
    | none => rfl
    | some v => exact clip_eq v n 0
  · cases hi with
    | none => rfl
    | some v => exact clip_eq v n n
theorem places_gen (i j : Nat) : Builtin.Slice.slicePlaces (i : Int) (j : Int) 1 = j - i := by
  unfold Builtin.Slice.slicePlaces
  have h1 : (1 : Int) > 0 := by omega
  simp only [h1, if_true, Int.ediv_one]
  split <;> omega
theorem slicePart_ {v : Value} {o : Option Int} {Q : Option Int → Shared → Prop} (p : IsPart v o) (h : Q o s) : wpAny (model prog w) A (Builtin.Slice.slicePartIndex v) Q E s := by
  cases p with
  | none => exact slicePart_none h
  | int i t => exact slicePart_int h
theorem sliceApplied_gen {sl : Addr} {vl vu : Value} {lo hi : Option Int} {n : Nat} {Q : Int × Int × Nat → Shared → Prop} (hs : s.heap.IsSliceOf sl vl vu .none) (pl : IsPart vl lo) (pu : IsPart vu hi)
    (h : Q (((sIx n 0 lo : Nat) : Int), 1, sIx n n hi - sIx n 0 lo) s) : wpAny (model prog w) A (Builtin.Slice.sliceApplied (.ref sl) (pure (n : Int))) Q E s := by
  obtain ⟨os, hos, hcs, hds⟩ := id hs
  unfold Builtin.Slice.sliceApplied Builtin.Slice.sliceFields
  refine wpAny_bind (wpAny_bind (wpAny_field hos hds (x := vl) rfl (wpAny_bind (wpAny_field hos hds (x := vu) rfl (wpAny_bind (wpAny_field hos hds (x := .none) rfl (wpAny_pure ?_)))))))
  refine wpAny_bind (slicePart_none ?_)
  show wpAny _ _ (if ((1 : Int) == 0) = true then _ else _) _ _ s
  rw [if_neg (by decide)]
  refine wpAny_bind (slicePart_ pl (wpAny_bind (slicePart_ pu (wpAny_bind (wpAny_pure ?_)))))
  show wpAny _ _ (match Builtin.Slice.sliceAdjust lo hi 1 (n : Int) with | (lo, hi) => pure (lo, (1 : Int), Builtin.Slice.slicePlaces lo hi 1)) _ _ s
  rw [adjust_gen lo hi n]
  show wpAny _ _ (pure (((sIx n 0 lo : Nat) : Int), (1 : Int), Builtin.Slice.slicePlaces ((sIx n 0 lo : Nat) : Int) ((sIx n n hi : Nat) : Int) 1)) _ _ s
  rw [places_gen]
  exact wpAny_pure h
theorem pick_gen (xs : Array Value) (i k : Nat) : ((List.range k).filterMap fun (m : Nat) => xs[((i : Int) + (m : Int) * 1).toNat]?).toArray = ((xs.toList.drop i).take k).toArray := by
  have e : (fun (m : Nat) => xs[((i : Int) + (m : Int) * 1).toNat]?) = fun m => xs[i + m]? := by
    funext m
    have : ((i : Int) + (m : Int) * 1).toNat = i + m := by omega
    rw [this]
  rw [e]
  have := pick_run xs i k
  rw [List.filterMap_map] at this
  have e2 : ((fun x => xs[x]?) ∘ fun x => i + x) = fun m => xs[i + m]? := rfl
  rw [e2] at this
  rw [this]

theorem getItem_tuple_cut {t sl : Addr} {items : Array Value} {vl vu : Value} {lo hi : Option Int} {Q : Value → Shared → Prop} (ht : IsTup s.heap t items) (hs : s.heap.IsSliceOf sl vl vu .none) (pl : IsPart vl lo) (pu : IsPart vu hi)
    (hw : ¬ (sIx items.size 0 lo = 0 ∧ sIx items.size items.size hi = items.size))
    (h : Q (.ref s.heap.objs.size) { s with heap := s.heap.push { cls := .type "tuple", data := .seq ((items.toList.drop (sIx items.size 0 lo)).take (sIx items.size items.size hi - sIx items.size 0 lo)).toArray } })
    (hsz : items.size ≤ sizeLine) : wpAny (model prog w) A (getItem (.ref t) (.ref sl)) Q E s := by
  have htake : sizeOk (.seq ((items.toList.drop (sIx items.size 0 lo)).take (sIx items.size items.size hi - sIx items.size 0 lo)).toArray) := by
    show ((items.toList.drop (sIx items.size 0 lo)).take (sIx items.size items.size hi - sIx items.size 0 lo)).toArray.size ≤ sizeLine
    rw [List.size_toArray, List.length_take, List.length_drop, Array.length_toList]
    omega
  have hj : sIx items.size items.size hi ≤ items.size := sIx_le _ _ (Nat.le_refl _) hi
  obtain ⟨os, hos, hcs, hds⟩ := id hs
  have hTs : s.TypeIs (.ref sl) "slice" := ⟨os, hos, hcs⟩
  unfold getItem
  try with_reducible refine wpAny_holding ?_
  first | refine wpAny_bind (wpAny_pure ?_) | skip
  refine wpAny_bind (wpAny_sequenceKey ht.typeIs (by decide) ?_)
  refine wpAny_bind (wpAny_callSpecial?_slot (name := Str.ofString "__getitem__") ht.typeIs PyProof.Rows.slot_tuple_getitem
    (wpAny_call_entry PyProof.Rows.slot_tuple_getitem ht.typeIs entry_tuple_getitem ?_ (args_tuple_getitem _ _)))
  show wpAny _ _ (Builtin.Tuple.tupleItemsOf (.ref t) >>= _) _ _ s
  refine wpAny_bind (tupleItemsOf_ ht ?_)
  refine wpAny_bind (wpAny_typeOf hTs ?_)
  rw [if_pos (by decide)]
  refine wpAny_bind (sliceApplied_gen hs pl pu ?_)
  have hno : ¬ ((((sIx items.size 0 lo : Nat) : Int) == 0 && (1 : Int) == 1 && (sIx items.size items.size hi - sIx items.size 0 lo) == items.size) = true) := by
    intro q
    rw [Bool.and_eq_true, Bool.and_eq_true] at q
    have q1 : ((sIx items.size 0 lo : Nat) : Int) = 0 := eq_of_beq q.1.1
    have q2 : sIx items.size items.size hi - sIx items.size 0 lo = items.size := eq_of_beq q.2
    exact hw ⟨by omega, by omega⟩
  show wpAny _ _ (if (((sIx items.size 0 lo : Nat) : Int) == 0 && (1 : Int) == 1 && (sIx items.size items.size hi - sIx items.size 0 lo) == items.size) = true then _ else _) _ _ s
  rw [if_neg hno, pick_gen]
  first
    | exact wpAny_bind (m := Builtin.Tuple.tupleExact _) (wpAny_newObj_type (wpAny_pure ⟨_, rfl, wpAny_pure h⟩) htake)
    | exact wpAny_bind (m := Builtin.Tuple.tupleExact _) (wpAny_newObj_type (wpAny_bind (wpAny_pure (wpAny_pure ⟨_, rfl, wpAny_pure h⟩))) htake)
    | exact wpAny_bind (wpAny_bind (m := Builtin.Tuple.tupleExact _) (wpAny_newObj_type (wpAny_pure (wpAny_pure ⟨_, rfl, wpAny_pure h⟩)) htake))
    | exact wpAny_bind (wpAny_bind (m := Builtin.Tuple.tupleExact _) (wpAny_newObj_type (wpAny_pure ⟨_, rfl, wpAny_pure h⟩) htake))
end
end HT

namespace L2
open PySem PySem.Spec PyProof.Rows

/-! ### the parts of a slice -/
abbrev TO := St → Hp → (Option Int → Hp → Prop) → Prop
/-- a slice's part (left out, or an int) -/
def PO (X : Cx) (e : Option Expr) (t : TO) : Prop :=
  ∀ (pins : List (Addr × Obj)) (s : Shared) (σ : St) (H : Hp) (Q : Option Int → Hp → Prop), Inv X pins σ H s → t σ H Q →
    wpAny (model X.prog X.w) X.A (evalPart e X.env) (fun u s' => ∃ o H', Inv X pins σ H' s' ∧ IsPart u o ∧ Q o H') X.xe s
def tNoPart : TO := fun _ H Q => Q none H
def tPart (t : TE) : TO := fun σ H Q => t σ H fun x H1 => ∃ i, x = .int i ∧ Q (some i) H1

theorem intsAre_of {ns : List Int} : ∀ {us : List Value}, Vals (ns.map V.int) us → IntsAre us ns := by
  induction ns with
  | nil => intro us r; rw [List.map_nil] at r; cases r; exact .nil
  | cons n ns ih =>
    intro us r
    rw [List.map_cons] at r
    cases r with
    | cons r1 r2 =>
      obtain ⟨t, e⟩ := r1
      subst e
      exact .cons n t (ih r2)

section
variable {X : Cx} {e : Expr} {te : TE} {lo hi : Option Expr} {tl th : TO} {pos p2 : Pos}

theorem po_none : PO X none tNoPart := by
  intro pins s σ H Q I h
  rw [evalPart_none]
  exact wpAny_pure ⟨none, H, I, .none, h⟩
theorem po_some (h : PE X e te) : PO X (some e) (tPart te) := by
  intro pins s σ H Q I hw
  rw [evalPart_some]
  refine thn (h pins s σ H _ I hw) fun u s1 ⟨x, H1, I1, r1, q1⟩ => ?_
  obtain ⟨i, rfl, q⟩ := q1
  obtain ⟨t, rfl⟩ := r1
  exact ⟨some i, H1, I1, .int i t, q⟩

/-- what a slice of a value is, by values: the slice object stands at sl -/
def SlR (X : Cx) (r : V → Option Int → Option Int → Hp → VK → Prop) : Prop :=
  ∀ (pins : List (Addr × Obj)) (s : Shared) (σ : St) (H : Hp) (x : V) (v vl vu : Value) (lo hi : Option Int) (sl : Addr) (Q : VK), Inv X pins σ H s → RelV x v → s.heap.IsSliceOf sl vl vu .none → IsPart vl lo → IsPart vu hi → r x lo hi H Q →
    ∃ T id, typeLookup (.type T) "__getitem__" = pure (some (.builtin id)) ∧ s.TypeIs v T ∧ wpAny (model X.prog X.w) X.A (getItem v (.ref sl)) (EP X pins σ Q) X.xe s
theorem SlR.or {r r' : V → Option Int → Option Int → Hp → VK → Prop} (h : SlR X r) (h' : SlR X r') : SlR X (fun x lo hi H Q => r x lo hi H Q ∨ r' x lo hi H Q) := by
  intro pins s σ H x v vl vu lo hi sl Q I rx hs pl pu q
  rcases q with q | q
  · exact h pins s σ H x v vl vu lo hi sl Q I rx hs pl pu q
  · exact h' pins s σ H x v vl vu lo hi sl Q I rx hs pl pu q
def tSl (r : V → Option Int → Option Int → Hp → VK → Prop) (te : TE) (tl th : TO) : TE := fun σ H Q => te σ H fun x H1 => tl σ H1 fun l H2 => th σ H2 fun u H3 => r x l u H3 Q
/-- a[lo:hi], any a -/
theorem pe_slice {r : V → Option Int → Option Int → Hp → VK → Prop} (hr : SlR X r) (he : PE X e te) (hl : PO X lo tl) (hu : PO X hi th) : PE X (.Subscript e (.Slice lo hi none p2) pos) (tSl r te tl th) := by
  intro pins s σ H Q I h
  refine Subscript_ (thn (he pins s σ H _ I h) fun v s1 ⟨x, H1, I1, r1, q1⟩ => ?_)
  refine wpAny_Slice (thn (hl pins s1 σ H1 _ I1 q1) fun vl s2 ⟨l, H2, I2, pl, q2⟩ => thn (hu pins s2 σ H2 _ I2 q2) fun vu s3 ⟨u, H3, I3, pu, q3⟩ => ?_)
  rw [evalPart_none]
  refine wpAny_pure ?_
  have I4 : Inv X pins σ H3 { s3 with heap := s3.heap.push { cls := .type "slice", data := .fields #[vl, vu, .none] } } := I3.kept (t' := s3.toks) fun b ob q => Heap.get?_push_of_some _ q
  obtain ⟨T, id, hT, ht, hg⟩ := hr pins { s3 with heap := s3.heap.push { cls := .type "slice", data := .fields #[vl, vu, .none] } } σ H3 x v vl vu l u s3.heap.objs.size Q I4 r1 (Heap.IsSliceOf.new ..) pl pu q3
  show wpAny (model X.prog X.w) X.A (subscriptTail e (.Slice lo hi none p2) v (.ref s3.heap.objs.size)) (EP X pins σ Q) X.xe { s3 with heap := s3.heap.push { cls := .type "slice", data := .fields #[vl, vu, .none] } }
  exact tail_any (ops := [.ref s3.heap.objs.size, v]) ht hT hg (by with_unfolding_all rfl)

/-- the items of xs[lo:hi] -/
def cutV (xs : List V) (lo hi : Option Int) : List V := (xs.drop (HT.sIx xs.length 0 lo)).take (HT.sIx xs.length xs.length hi - HT.sIx xs.length 0 lo)
theorem cutV_length (xs : List V) (lo hi : Option Int) : (cutV xs lo hi).length ≤ xs.length := by
  unfold cutV
  rw [List.length_take, List.length_drop]
  omega
/-- t[lo:hi], not the whole of it (the whole would be t itself) -/
def rSlT (K : PySem.W.Frag) : V → Option Int → Option Int → Hp → VK → Prop := fun x lo hi H Q => ∃ a xs, x = .ref a ∧ SqT K H a xs ∧
  ¬ (HT.sIx xs.length 0 lo = 0 ∧ HT.sIx xs.length xs.length hi = xs.length) ∧ ∀ p, H p = none → Q (.ref p) (upd H p (.tup (cutV xs lo hi)))
theorem sl_tup : SlR X (rSlT X.K) := by
  intro pins s σ H x v vl vu lo hi sl Q I rx hs pl pu h
  obtain ⟨a, xs, rfl, hx, hw, q⟩ := h
  cases rx
  obtain ⟨its, r, ht, hz⟩ := I.tuple hx
  have hlen : its.toArray.size = xs.length := by rw [List.size_toArray]; exact r.length.symm
  refine ⟨"tuple", _, PyProof.Rows.slot_tuple_getitem.lookup, ht.typeIs, ?_⟩
  refine HT.getItem_tuple_cut ht hs pl pu (by rw [hlen]; exact hw) ?_ (by rw [hlen]; exact hz)
  rw [hlen]
  refine ⟨.ref s.heap.objs.size, _, I.laid (t' := s.toks) (o := .tup (cutV xs lo hi)) (fun b ob q => Heap.get?_push_of_some _ q) (Nat.le_refl _) ?_, rfl, q _ (I.hok.fresh (Nat.le_refl _))⟩
  exact ⟨Nat.le_trans (cutV_length xs lo hi) hz, _, (r.drop (HT.sIx xs.length 0 lo)).take (HT.sIx xs.length xs.length hi - HT.sIx xs.length 0 lo), IsTup.new _ _⟩

/-! ### t < u, t + u -/
def rLtT (K : PySem.W.Frag) : R2 := fun x y H Q => ∃ a b ns ms, x = .ref a ∧ y = .ref b ∧ SqT K H a (ns.map V.int) ∧ SqT K H b (ms.map V.int) ∧ Q (.bl (HT.lexLt ns ms)) H
theorem op_ltT (hu : X.A.units < cLine) : OpR X (compareOp .Lt) (rLtT X.K) := by
  intro pins s σ H x y v u Q I rx ry h
  obtain ⟨a, b, ns, ms, rfl, rfl, ha, hb, q⟩ := h
  cases rx
  cases ry
  obtain ⟨its, r1, p1, _⟩ := I.tuple ha
  obtain ⟨its2, r2, p2, _⟩ := I.tuple hb
  have i1 : IntsAre its.toArray.toList ns := intsAre_of r1
  have i2 : IntsAre its2.toArray.toList ms := intsAre_of r2
  exact HT.lt_tupInts p1 p2 i1 i2 hu ⟨.bl (HT.lexLt ns ms), H, I, rfl, q⟩
/-- t + u, t not empty: u empty gives t itself -/
def rCatT (K : PySem.W.Frag) : R2 := fun x y H Q => ∃ a b xs ys, x = .ref a ∧ y = .ref b ∧ SqT K H a xs ∧ SqT K H b ys ∧ xs ≠ [] ∧ xs.length + ys.length ≤ sizeLine ∧
  (ys = [] → Q (.ref a) H) ∧ (ys ≠ [] → ∀ p, H p = none → Q (.ref p) (upd H p (.tup (xs ++ ys))))
theorem Vals.nil_iff {xs : List V} {us : List Value} (r : Vals xs us) : us = [] ↔ xs = [] := by
  cases r with
  | nil => simp
  | cons _ _ => simp
theorem op_catT : OpR X (binaryOp .Add) (rCatT X.K) := by
  intro pins s σ H x y v u Q I rx ry h
  obtain ⟨a, b, xs, ys, rfl, rfl, ha, hb, hx, hz, q1, q2⟩ := h
  cases rx
  cases ry
  obtain ⟨its, r1, p1, _⟩ := I.tuple ha
  obtain ⟨its2, r2, p2, _⟩ := I.tuple hb
  refine HT.cat_tup p1 p2 (fun z => hx (r1.nil_iff.mp z)) (fun z => ⟨.ref a, H, I, rfl, q1 (r2.nil_iff.mp z)⟩) (fun z => ?_) (by rw [← r1.length, ← r2.length]; exact hz)
  refine ⟨.ref s.heap.objs.size, _, I.laid (t' := s.toks) (o := .tup (xs ++ ys)) (fun b ob q => Heap.get?_push_of_some _ q) (Nat.le_refl _) ?_, rfl, q2 (fun w => z (r2.nil_iff.mpr w)) _ (I.hok.fresh (Nat.le_refl _))⟩
  exact ⟨by rw [List.length_append]; exact hz, _, r1.append r2, IsTup.new _ _⟩
/-- tuple(t) -/
theorem call_tupleT : CallR X (.type "tuple") (fun xs H Q => ∃ a ys, xs = [.ref a] ∧ SqT X.K H a ys ∧ Q (.ref a) H) := by
  intro pins s σ H xs us Q I r h
  obtain ⟨a, ys, rfl, ha, q⟩ := h
  obtain ⟨u, rfl, ru⟩ := vals1 r
  cases ru
  obtain ⟨its, _, p1, _⟩ := I.tuple ha
  exact call_tuple_same (items := its.toArray) p1 ⟨.ref a, H, I, rfl, q⟩
end
end L2

namespace L2
open PySem PySem.Spec PyProof.Rows

/-! ### places -/
/-- the place that an index of any sign means -/
def ixN (n : Nat) (i : Int) : Option Nat := if 0 ≤ i then (if i < n then some i.toNat else none) else if -(n : Int) ≤ i then some (i + n).toNat else none
def atI {α : Type} (xs : List α) (i : Int) : Option α := (ixN xs.length i).bind fun j => xs[j]?
theorem ixN_seq {n : Nat} {i : Int} {j : Nat} (h : ixN n i = some j) : seqIndex? i n = some j ∧ j < n ∧ -(n : Int) ≤ i ∧ i < n := by
  unfold ixN at h
  by_cases h0 : 0 ≤ i
  · rw [if_pos h0] at h
    by_cases h1 : i < n
    · rw [if_pos h1] at h
      have e : i.toNat = j := Option.some.inj h
      exact ⟨by rw [seqIndex_of h0 h1, e], by omega, by omega, h1⟩
    · rw [if_neg h1] at h; cases h
  · rw [if_neg h0] at h
    by_cases h1 : -(n : Int) ≤ i
    · rw [if_pos h1] at h
      have e : (i + n).toNat = j := Option.some.inj h
      exact ⟨by rw [seqIndex_neg (by omega) h1, e], by omega, h1, by omega⟩
    · rw [if_neg h1] at h; cases h
theorem atI_get {α : Type} {xs : List α} {i : Int} {v : α} (h : atI xs i = some v) : ∃ j, seqIndex? i xs.length = some j ∧ xs[j]? = some v ∧ j < xs.length ∧ -(xs.length : Int) ≤ i ∧ i < xs.length := by
  unfold atI at h
  cases e : ixN xs.length i with
  | none => rw [e] at h; cases h
  | some j =>
    rw [e] at h
    obtain ⟨h1, h2, h3, h4⟩ := ixN_seq e
    exact ⟨j, h1, h, h2, h3, h4⟩
theorem atI_nat {α : Type} {xs : List α} {j : Nat} {v : α} (h : xs[j]? = some v) : atI xs (j : Int) = some v := by
  have hj : j < xs.length := (List.getElem?_eq_some_iff.mp h).1
  have e : ixN xs.length (j : Int) = some j := by
    unfold ixN
    rw [if_pos (by omega), if_pos (by omega)]; simp
  unfold atI; rw [e]; exact h
theorem atI_last {α : Type} (xs : List α) (v : α) : atI (xs ++ [v]) (-1) = some v := by
  have hl : (xs ++ [v]).length = xs.length + 1 := by simp
  have e : ixN (xs ++ [v]).length (-1) = some xs.length := by
    unfold ixN
    rw [hl, if_neg (by decide), if_pos (by omega)]
    congr 1
    omega
  unfold atI
  rw [e]
  show (xs ++ [v])[xs.length]? = some v
  simp

/-! ### what may be subscripted -/
/-- what stands as an index of a plain subscript -/
def PlainIx (b : Expr) : Prop := ∀ o i, subscripted b false o i = operate [o, i] (getItem o i)
/-- a subscript by values -/
def IxR (X : Cx) (r : R2) : Prop :=
  ∀ (value slice : Expr) (pins : List (Addr × Obj)) (s : Shared) (σ : St) (H : Hp) (x y : V) (v u : Value) (Q : VK), Inv X pins σ H s → RelV x v → RelV y u → r x y H Q →
    subscripted slice false v u = operate [v, u] (getItem v u) → wpAny (model X.prog X.w) X.A (subscriptTail value slice v u) (EP X pins σ Q) X.xe s
/-- a call of a builtin's method by values: the receiver, the arguments -/
def MtR (X : Cx) (id : String) (r : V → List V → Hp → VK → Prop) : Prop :=
  ∀ (pins : List (Addr × Obj)) (s : Shared) (σ : St) (H : Hp) (x : V) (xs : List V) (v : Value) (us : List Value) (Q : VK), Inv X pins σ H s → RelV x v → Vals xs us → r x xs H Q →
    wpAny (model X.prog X.w) X.A (call (.builtin id) (v :: us)) (EP X pins σ Q) X.xe s
section
variable {X : Cx} {a b : Expr} {ta tb : TE} {pos : Pos}
theorem IxR.or {r r' : R2} (h : IxR X r) (h' : IxR X r') : IxR X (fun x y H Q => r x y H Q ∨ r' x y H Q) := by
  intro value slice pins s σ H x y v u Q I rx ry q hs
  rcases q with q | q
  · exact h value slice pins s σ H x y v u Q I rx ry q hs
  · exact h' value slice pins s σ H x y v u Q I rx ry q hs
theorem MtR.or {id : String} {r r' : V → List V → Hp → VK → Prop} (h : MtR X id r) (h' : MtR X id r') : MtR X id (fun x xs H Q => r x xs H Q ∨ r' x xs H Q) := by
  intro pins s σ H x xs v us Q I rx rs q
  rcases q with q | q
  · exact h pins s σ H x xs v us Q I rx rs q
  · exact h' pins s σ H x xs v us Q I rx rs q
/-- a[b] -/
theorem pe_ix {r : R2} (hr : IxR X r) (ha : PE X a ta) (hb : PE X b tb) (hs : PlainIx b) : PE X (.Subscript a b pos) (tOp r ta tb) := by
  intro pins s σ H Q I h
  exact Subscript_ (binT ha hb I h fun v u s2 x y H2 I2 rx ry q => hr a b pins s2 σ H2 x y v u Q I2 rx ry q (hs _ _))

def rIxL (K : PySem.W.Frag) : R2 := fun x y H Q => ∃ p xs i v, x = .ref p ∧ y = .int i ∧ SqL K H p xs ∧ atI xs i = some v ∧ Q v H
def rIxT (K : PySem.W.Frag) : R2 := fun x y H Q => ∃ p xs i v, x = .ref p ∧ y = .int i ∧ SqT K H p xs ∧ atI xs i = some v ∧ Q v H
def rIxS : R2 := fun x y H Q => ∃ z i c, x = .str z ∧ y = .int i ∧ z.length ≤ sizeLine ∧ atI z.cps.toList i = some c ∧ Q (.str ⟨#[c]⟩) H
theorem ix_list : IxR X (rIxL X.K) := by
  intro value slice pins s σ H x y v u Q I rx ry h hs
  obtain ⟨p, xs, i, z, rfl, rfl, hq, he, q⟩ := h
  cases rx
  obtain ⟨t, rfl⟩ := ry
  obtain ⟨its, r, pl, hz⟩ := I.list hq
  obtain ⟨j, h1, h2, h3, h4, h5⟩ := atI_get he
  obtain ⟨w, ew, rw'⟩ := r.get h2
  have hl := r.length
  have hn := line63
  have fin : EP X pins σ Q w s := ⟨z, H, I, rw', q⟩
  by_cases h0 : 0 ≤ i
  · have hj : i.toNat = j := by
      rw [seqIndex_of h0 h5] at h1
      exact Option.some.inj h1
    exact item_listR pl.isList h0 (by omega) (by rw [hj]; simpa using ew) fin hs
  · have hj : (i + (its.toArray.size : Int)).toNat = j := by
      rw [seqIndex_neg (by omega) h4] at h1
      rw [List.size_toArray, ← hl]
      exact Option.some.inj h1
    exact subscriptTail_builtinR (x := w) pl.isList.typeIs slot_list_getitem.lookup
      (wpAny_getItem_list_neg (Q := fun r s' => r = w ∧ EP X pins σ Q r s') pl.isList (by omega) (by rw [List.size_toArray] <;> omega) (by omega) (by rw [hj]; simpa using ew) ⟨rfl, fin⟩) hs
theorem ix_tup : IxR X (rIxT X.K) := by
  intro value slice pins s σ H x y v u Q I rx ry h hs
  obtain ⟨p, xs, i, z, rfl, rfl, hq, he, q⟩ := h
  cases rx
  obtain ⟨t, rfl⟩ := ry
  obtain ⟨its, r, pl, hz⟩ := I.tuple hq
  obtain ⟨j, h1, h2, h3, h4, h5⟩ := atI_get he
  obtain ⟨w, ew, rw'⟩ := r.get h2
  have hl := r.length
  have hn := line63
  have fin : EP X pins σ Q w s := ⟨z, H, I, rw', q⟩
  exact subscriptTail_builtinR (x := w) pl.typeIs slot_tuple_getitem.lookup
    (getItem_tuple (j := j) (Q := fun r s' => r = w ∧ EP X pins σ Q r s') pl (by omega) (by omega) (by rw [List.size_toArray, ← hl]; exact h1) (by simpa using ew) ⟨rfl, fin⟩) hs
theorem ix_str : IxR X rIxS := by
  intro value slice pins s σ H x y v u Q I rx ry h hs
  obtain ⟨z, i, c, rfl, rfl, hz, he, q⟩ := h
  obtain ⟨t, rfl⟩ := rx
  obtain ⟨t', rfl⟩ := ry
  obtain ⟨j, h1, h2, h3, h4, h5⟩ := atI_get he
  have hl : z.cps.toList.length = z.length := by simp [Str.length]
  rw [hl] at h1 h4 h5
  have hn := line63
  exact tail_any (typeIs_str s z t) slot_str_getitem.lookup (getItem_str (c := c) (by
    have e1 : decide (i < -(2 ^ 63 : Int)) = false := decide_eq_false (by omega)
    have e2 : decide (i ≥ 2 ^ 63) = false := decide_eq_false (by omega)
    rw [e1, e2, Bool.or_false]) (by rw [h1]; simpa using h2) ⟨.str ⟨#[c]⟩, H, I.tok _, ⟨_, rfl⟩, q⟩) hs
/-- list, tuple or str -/
def rIx (K : PySem.W.Frag) : R2 := fun x y H Q => rIxL K x y H Q ∨ rIxT K x y H Q ∨ rIxS x y H Q
theorem ix_seq : IxR X (rIx X.K) := ix_list.or (ix_tup.or ix_str)

/-! ### xs[i] = v, any sign -/
/-- the list's object behind a store -/
theorem mapSeq_set (its : List Value) (n j : Nat) (u : Value) : Obj.mapSeq (·.setIfInBounds j u) { cls := .type "list", data := .seq its.toArray n } = { cls := .type "list", data := .seq (its.set j u).toArray n } := by
  simp [Obj.mapSeq]
theorem Inv.lst {pins : List (Addr × Obj)} {σ : St} {H : Hp} {s : Shared} {p : Addr} {xs : List V} (I : Inv X pins σ H s) (h : H p = some (.lst xs)) :
    ∃ (its : List Value) (n : Nat), Vals xs its ∧ s.heap.get? p = some { cls := .type "list", data := .seq its.toArray n } ∧ xs.length ≤ sizeLine := by
  obtain ⟨z, its, n, r, e⟩ := I.hok p _ h
  exact ⟨its, n, r, e, z⟩
/-- the list at p is written by an update of its object -/
theorem Inv.lstUpd {pins : List (Addr × Obj)} {σ : St} {H : Hp} {s : Shared} {p : Addr} {xs ys : List V} {its its' : List Value} {n n' : Nat} {f : Obj → Obj} (I : Inv X pins σ H s) (h : H p = some (.lst xs))
    (ho : s.heap.get? p = some { cls := .type "list", data := .seq its.toArray n }) (hf : f { cls := .type "list", data := .seq its.toArray n } = { cls := .type "list", data := .seq its'.toArray n' }) (r : Vals ys its') (hz : ys.length ≤ sizeLine) (t : Nat) :
    Inv X pins σ (upd H p (.lst ys)) { s with heap := s.heap.update p f, toks := t } := by
  have e : (s.heap.update p f).get? p = some { cls := .type "list", data := .seq its'.toArray n' } := by
    rw [Heap.get?_update_self f ho (by rw [hf] <;> rfl), hf]
  refine I.write (x := p) (e := p) (by rw [h]; trivial) (.inl rfl) (fun b u hb q => (Heap.get?_update_other _ _ (Ne.symm hb)).trans q) ⟨_, e⟩ ?_
  exact ⟨hz, its', n', r, e⟩
def rSetL : V → V → V → Hp → (Hp → Prop) → Prop := fun o i v H Q => ∃ p xs k j, o = .ref p ∧ i = .int k ∧ H p = some (.lst xs) ∧ ixN xs.length k = some j ∧ Q (upd H p (.lst (xs.set j v)))
theorem set_list : PSet X rSetL := by
  intro pins s σ H o i v ov iv u Q I ro ri rv h
  obtain ⟨p, xs, k, j, rfl, rfl, hp, hj, q⟩ := h
  cases ro
  obtain ⟨t, rfl⟩ := ri
  obtain ⟨its, n, r, ho, hz⟩ := I.lst hp
  obtain ⟨h1, h2, h3, h4⟩ := ixN_seq hj
  have hl := r.length
  have hn := line63
  have I' : Inv X pins σ (upd H p (.lst (xs.set j v))) { s with heap := s.heap.update p (Obj.mapSeq (·.setIfInBounds j u)) } :=
    I.lstUpd hp ho (mapSeq_set its n j u) (r.set rv j) (by rw [List.length_set]; exact hz) s.toks
  by_cases h0 : 0 ≤ k
  · have hk : k.toNat = j := by
      rw [seqIndex_of h0 h4] at h1
      exact Option.some.inj h1
    exact PySem.W.ki_setAt ho h0 (by omega) (by rw [List.size_toArray, ← hl]; exact h4) (by rw [hk]; exact ⟨_, I', q⟩)
  · have hk : (k + (its.toArray.size : Int)).toNat = j := by
      rw [seqIndex_neg (by omega) h3] at h1
      rw [List.size_toArray, ← hl]
      exact Option.some.inj h1
    exact PySem.W.ki_setBack ho (by omega) (by rw [List.size_toArray, ← hl]; exact h3) (by omega) (by rw [hk]; exact ⟨_, I', q⟩)

/-! ### slices -/
theorem slice_bounds (lo hi : Option Int) (n : Nat) : (sliceBounds lo hi none n).1 = ((HT.sIx n 0 lo : Nat) : Int) ∧ (sliceBounds lo hi none n).2.1 = ((HT.sIx n n hi : Nat) : Int) ∧ (sliceBounds lo hi none n).2.2 = 1 := by
  refine ⟨?_, ?_, rfl⟩
  · cases lo with
    | none => simp [sliceBounds, HT.sIx]
    | some i =>
      simp only [sliceBounds, HT.sIx, Option.getD_none, show (1 : Int) > 0 by decide, if_true]
      by_cases h : i < 0
      · simp only [h, if_true] <;> omega
      · simp only [h, if_false] <;> omega
  · cases hi with
    | none => simp [sliceBounds, HT.sIx]
    | some i =>
      simp only [sliceBounds, HT.sIx, Option.getD_none, show (1 : Int) > 0 by decide, if_true]
      by_cases h : i < 0
      · simp only [h, if_true] <;> omega
      · simp only [h, if_false] <;> omega
theorem slicePick_cut (its : List Value) (lo hi : Option Int) : slicePick its.toArray lo hi none = ((its.drop (HT.sIx its.length 0 lo)).take (HT.sIx its.length its.length hi - HT.sIx its.length 0 lo)).toArray := by
  obtain ⟨h1, h2, h3⟩ := slice_bounds lo hi its.toArray.size
  unfold slicePick
  rw [h1, h2, h3]
  simp only [sliceRange_one, pick_run, List.size_toArray] <;> rfl
/-- xs[lo:hi] of a list: a new list -/
def rSlL (K : PySem.W.Frag) : V → Option Int → Option Int → Hp → VK → Prop := fun x lo hi H Q => ∃ a xs, x = .ref a ∧ SqL K H a xs ∧ ∀ p, H p = none → Q (.ref p) (upd H p (.lst (cutV xs lo hi)))
theorem sl_list : SlR X (rSlL X.K) := by
  intro pins s σ H x v vl vu lo hi sl Q I rx hs pl pu h
  obtain ⟨a, xs, rfl, hx, q⟩ := h
  cases rx
  obtain ⟨its, r, ht, hz⟩ := I.list hx
  have hlen := r.length
  refine ⟨"list", _, slot_list_getitem.lookup, ht.isList.typeIs, ?_⟩
  refine wpAny_getItem_list_slice ht.isList hs pl pu .none (by simp) ?_ (by rw [List.size_toArray] <;> omega)
  rw [slicePick_cut, ← hlen]
  refine ⟨.ref s.heap.objs.size, _, I.laid (t' := s.toks) (o := .lst (cutV xs lo hi)) (fun b ob q => Heap.get?_push_of_some _ q) (Nat.le_refl _) ?_, rfl, q _ (I.hok.fresh (Nat.le_refl _))⟩
  exact ⟨Nat.le_trans (cutV_length xs lo hi) hz, _, 0, (r.drop (HT.sIx xs.length 0 lo)).take (HT.sIx xs.length xs.length hi - HT.sIx xs.length 0 lo), Heap.get?_push_size _ rfl⟩

/-! ### in, not in: flat items -/
def flatV : V → Bool
  | .non => true
  | .bl _ => true
  | .int _ => true
  | .str _ => true
  | _ => false
/-- == of flat values -/
def eqV : V → V → Bool
  | .non, .non => true
  | .bl a, .bl b => a == b
  | .bl a, .int b => (if a then 1 else 0) == b
  | .int a, .bl b => a == (if b then 1 else 0)
  | .int a, .int b => a == b
  | .str a, .str b => a == b
  | _, _ => false
theorem eqAt_V {A : Around} {s : Shared} {y x : V} {u v : Value} (ry : RelV y u) (rx : RelV x v) (fy : flatV y = true) (fx : flatV x = true) : SeqAt.EqAt A s u v (eqV y x) := by
  cases y with
  | non =>
    cases ry
    cases x with
    | non => cases rx; exact SeqAt.EqAt.same _
    | bl b => cases rx; exact SeqAt.EqAt.none_bool b
    | int b => obtain ⟨t, rfl⟩ := rx; exact SeqAt.EqAt.none_int b t
    | str b => obtain ⟨t, rfl⟩ := rx; exact SeqAt.EqAt.none_str b t
    | _ => exact absurd (show false = true from fx) Bool.false_ne_true
  | bl a =>
    cases ry
    cases x with
    | non => cases rx; exact SeqAt.EqAt.bool_none a
    | bl b => cases rx; exact SeqAt.EqAt.bool_bool a b
    | int b => obtain ⟨t, rfl⟩ := rx; exact SeqAt.EqAt.bool_int a b t
    | str b => obtain ⟨t, rfl⟩ := rx; exact SeqAt.EqAt.bool_str a b t
    | _ => exact absurd (show false = true from fx) Bool.false_ne_true
  | int a =>
    obtain ⟨t', rfl⟩ := ry
    cases x with
    | non => cases rx; exact SeqAt.EqAt.int_none a t'
    | bl b => cases rx; exact SeqAt.EqAt.int_bool a t' b
    | int b => obtain ⟨t, rfl⟩ := rx; exact SeqAt.EqAt.int_int a t' b t
    | str b => obtain ⟨t, rfl⟩ := rx; exact SeqAt.EqAt.int_str a t' b t
    | _ => exact absurd (show false = true from fx) Bool.false_ne_true
  | str a =>
    obtain ⟨t', rfl⟩ := ry
    cases x with
    | non => cases rx; exact SeqAt.EqAt.str_none a t'
    | bl b => cases rx; exact SeqAt.EqAt.str_bool a t' b
    | int b => obtain ⟨t, rfl⟩ := rx; exact SeqAt.EqAt.str_int a t' b t
    | str b => obtain ⟨t, rfl⟩ := rx; exact SeqAt.EqAt.str_str a t' b t
    | _ => exact absurd (show false = true from fx) Bool.false_ne_true
  | _ => exact absurd (show false = true from fy) Bool.false_ne_true
/-- the items' answers, read off the values (a value's own answer does not lean on its token) -/
def eqU (x : V) (u : Value) : Bool := match u with
  | .none => eqV .non x
  | .bool b => eqV (.bl b) x
  | .int i _ => eqV (.int i) x
  | .str z _ => eqV (.str z) x
  | _ => false
theorem eqU_of {x y : V} {u : Value} (r : RelV y u) (f : flatV y = true) : eqU x u = eqV y x := by
  cases y with
  | non => cases r; rfl
  | bl b => cases r; rfl
  | int i => obtain ⟨t, rfl⟩ := r; rfl
  | str z => obtain ⟨t, rfl⟩ := r; rfl
  | _ => exact absurd (show false = true from f) Bool.false_ne_true
theorem any_eqU {x : V} : ∀ {xs : List V} {us : List Value}, Vals xs us → xs.all flatV = true → us.any (eqU x) = xs.any fun y => eqV y x
  | _, _, .nil, _ => rfl
  | y :: xs, u :: us, .cons r t, f => by
    rw [List.all_cons, Bool.and_eq_true] at f
    rw [List.any_cons, List.any_cons, eqU_of r f.1, any_eqU t f.2]
theorem mem_eqAt {A : Around} {s : Shared} {x : V} {v : Value} (rx : RelV x v) (fx : flatV x = true) : ∀ {xs : List V} {us : List Value}, Vals xs us → xs.all flatV = true → ∀ u ∈ us, SeqAt.EqAt A s u v (eqU x u)
  | _, _, .nil, _ => fun u hu => by cases hu
  | y :: xs, u :: us, .cons r t, f => fun u' hu => by
    rw [List.all_cons, Bool.and_eq_true] at f
    rcases List.mem_cons.mp hu with rfl | hu
    · rw [eqU_of r f.1]; exact eqAt_V r rx f.1 fx
    · exact mem_eqAt rx fx t f.2 u' hu
def inV (x : V) (xs : List V) : Bool := xs.any fun y => eqV y x
/-- x in a list or tuple of flat items -/
def rIn (K : PySem.W.Frag) (neg : Bool) : R2 := fun x y H Q => ∃ p xs, y = .ref p ∧ (SqL K H p xs ∨ SqT K H p xs) ∧ flatV x = true ∧ xs.all flatV = true ∧ Q (.bl (if neg then !inV x xs else inV x xs)) H
theorem op_in_seq : OpR X (compareOp .In) (rIn X.K false) := by
  intro pins s σ H x y v u Q I rx ry h
  obtain ⟨p, xs, rfl, hq, fx, fs, q⟩ := h
  cases ry
  rcases hq with hq | hq
  · obtain ⟨its, r, pl, hz⟩ := I.list hq
    refine SeqAt.in_listAt (eqU x) pl.isList (fun w hw => mem_eqAt rx fx r fs w (by simpa using hw)) ⟨.bl _, H, I, rfl, ?_⟩
    rw [show its.toArray.any (eqU x) = its.any (eqU x) by simp, any_eqU r fs]
    exact q
  · obtain ⟨its, r, pl, hz⟩ := I.tuple hq
    refine SeqAt.in_tupleAt (eqU x) pl (fun w hw => mem_eqAt rx fx r fs w (by simpa using hw)) ⟨.bl _, H, I, rfl, ?_⟩
    rw [show its.toArray.any (eqU x) = its.any (eqU x) by simp, any_eqU r fs]
    exact q
theorem op_notIn_seq : OpR X (compareOp .NotIn) (rIn X.K true) := by
  intro pins s σ H x y v u Q I rx ry h
  obtain ⟨p, xs, rfl, hq, fx, fs, q⟩ := h
  cases ry
  rcases hq with hq | hq
  · obtain ⟨its, r, pl, hz⟩ := I.list hq
    refine SeqAt.notIn_listAt (eqU x) pl.isList (fun w hw => mem_eqAt rx fx r fs w (by simpa using hw)) ⟨.bl _, H, I, rfl, ?_⟩
    rw [show its.toArray.any (eqU x) = its.any (eqU x) by simp, any_eqU r fs]
    exact q
  · obtain ⟨its, r, pl, hz⟩ := I.tuple hq
    refine SeqAt.notIn_tupleAt (eqU x) pl (fun w hw => mem_eqAt rx fx r fs w (by simpa using hw)) ⟨.bl _, H, I, rfl, ?_⟩
    rw [show its.toArray.any (eqU x) = its.any (eqU x) by simp, any_eqU r fs]
    exact q
theorem op_notIn_str : OpR X (compareOp .NotIn) (fun x y H Q => ∃ i j, x = .str i ∧ y = .str j ∧ Q (.bl (!(!(Builtin.Str.occurrences j i 0 j.length 1).isEmpty))) H) := by
  intro pins s σ H x y v u Q I rx ry h
  obtain ⟨i, j, rfl, rfl, q⟩ := h
  obtain ⟨t, rfl⟩ := rx
  obtain ⟨t', rfl⟩ := ry
  exact notIn_str ⟨.bl _, H, I, rfl, q⟩

/-! ### len, list(x), tuple(x) of any list or tuple that is read -/
theorem call_len_seq : CallR X (.builtin "len") (fun xs H Q => ∃ p ys, xs = [.ref p] ∧ (SqL X.K H p ys ∨ SqT X.K H p ys) ∧ Q (.int ys.length) H) := by
  intro pins s σ H xs us Q I r h
  obtain ⟨p, ys, rfl, hq, q⟩ := h
  obtain ⟨u, rfl, rx⟩ := vals1 r
  cases rx
  have hn := line63
  rcases hq with hq | hq
  · obtain ⟨its, r', pl, hz⟩ := I.list hq
    have hlen := r'.length
    exact Calls.call_len_list pl.isList (by simp only [List.size_toArray] <;> omega) ⟨.int ys.length, H, I.tok _, ⟨s.toks + 1, by rw [List.size_toArray, hlen]⟩, q⟩
  · obtain ⟨its, r', pl, hz⟩ := I.tuple hq
    have hlen := r'.length
    exact len_tuple pl (by simp only [List.size_toArray] <;> omega) ⟨.int ys.length, H, I.tok _, ⟨s.toks + 1, by rw [List.size_toArray, hlen]⟩, q⟩
theorem call_len_str : CallR X (.builtin "len") (fun xs H Q => ∃ z, xs = [.str z] ∧ z.length ≤ sizeLine ∧ Q (.int z.length) H) := by
  intro pins s σ H xs us Q I r h
  obtain ⟨z, rfl, hz, q⟩ := h
  obtain ⟨u, rfl, t, rfl⟩ := vals1 r
  have hn := line63
  exact len_str (by omega) ⟨.int z.length, H, I.tok _, ⟨_, rfl⟩, q⟩
theorem CallR.or {f : Value} {r r' : List V → Hp → VK → Prop} (h : CallR X f r) (h' : CallR X f r') : CallR X f (fun xs H Q => r xs H Q ∨ r' xs H Q) := by
  intro pins s σ H xs us Q I rs q
  rcases q with q | q
  · exact h pins s σ H xs us Q I rs q
  · exact h' pins s σ H xs us Q I rs q
theorem call_list_of : CallR X (.type "list") (fun xs H Q => ∃ p ys, xs = [.ref p] ∧ (SqL X.K H p ys ∨ SqT X.K H p ys) ∧ ∀ l, H l = none → Q (.ref l) (upd H l (.lst ys))) := by
  intro pins s σ H xs us Q I r h
  obtain ⟨p, ys, rfl, hq, q⟩ := h
  obtain ⟨u, rfl, rx⟩ := vals1 r
  cases rx
  have fin : ∀ (its : List Value), Vals ys its → ys.length ≤ sizeLine → ∀ (h' : Heap) (c' : Nat), (∀ b o', s.heap.get? b = some o' → h'.get? b = some o') →
      h'.get? s.heap.objs.size = some { cls := .type "list", dict := none, data := .seq its.toArray c', slots := #[] } → EP X pins σ Q (.ref s.heap.objs.size) { s with heap := h' } := fun its r' hz h' c' kp e =>
    ⟨.ref s.heap.objs.size, _, I.laid (t' := s.toks) kp (Nat.le_refl _) (show ObjOk X.prog X.w _ h' _ (.lst ys) from ⟨hz, its, c', r', e⟩), rfl, q _ (I.hok.fresh (Nat.le_refl _))⟩
  rcases hq with hq | hq
  · obtain ⟨its, r', pl, hz⟩ := I.list hq
    have hlen := r'.length
    obtain ⟨o, ho, hc, n, hd⟩ := pl.isList
    exact call_list_seq p (.inl rfl) ho hc hd (fun h' c' kp e => fin its r' hz h' c' kp e) (by simp only [List.size_toArray] <;> omega)
  · obtain ⟨its, r', pl, hz⟩ := I.tuple hq
    have hlen := r'.length
    obtain ⟨o, ho, hc, n, hd⟩ := pl
    exact call_list_seq p (.inr rfl) ho hc hd (fun h' c' kp e => fin its r' hz h' c' kp e) (by simp only [List.size_toArray] <;> omega)
theorem call_tuple_of : CallR X (.type "tuple") (fun xs H Q => ∃ p ys, xs = [.ref p] ∧ ((SqL X.K H p ys ∧ ∀ l, H l = none → Q (.ref l) (upd H l (.tup ys))) ∨ (SqT X.K H p ys ∧ Q (.ref p) H))) := by
  intro pins s σ H xs us Q I r h
  obtain ⟨p, ys, rfl, h⟩ := h
  obtain ⟨u, rfl, rx⟩ := vals1 r
  cases rx
  rcases h with ⟨hq, q⟩ | ⟨hq, q⟩
  · obtain ⟨its, r', pl, hz⟩ := I.list hq
    have hlen := r'.length
    refine call_tuple_list pl.isList (fun h' kp => ?_) (by simp only [List.size_toArray] <;> omega)
    have I1 : Inv X pins σ H { s with heap := h' } := I.kept (t' := s.toks) kp
    have I2 : Inv X pins σ (upd H h'.objs.size (.tup ys)) { s with heap := h'.push { cls := .type "tuple", data := .seq its.toArray } } :=
      I1.laid (t' := s.toks) (fun b o e => Heap.get?_push_of_some _ e) (Nat.le_refl _) (show ObjOk X.prog X.w _ _ _ (.tup ys) from ⟨hz, its, r', IsTup.new _ _⟩)
    exact ⟨.ref h'.objs.size, _, I2, rfl, q _ (I1.hok.fresh (Nat.le_refl _))⟩
  · obtain ⟨its, r', pl, hz⟩ := I.tuple hq
    exact call_tuple_same pl ⟨.ref p, H, I, rfl, q⟩

/-! ### the call of a builtin's method: o.m(..) -/
/-- the value is of that builtin type -/
def tyV (K : PySem.W.Frag) (T : String) (x : V) (H : Hp) : Prop := match x with
  | .str _ => T = "str"
  | .int _ => T = "int"
  | .ref p => (T = "list" ∧ ∃ xs, SqL K H p xs) ∨ (T = "tuple" ∧ ∃ o, K.lookup p = some o ∧ o.cls = .type "tuple" ∧ o.dict = none) ∨
      (T = "dict" ∧ ((∃ kvs, H p = some (.dK kvs)) ∨ ∃ kvs, H p = some (.dT kvs))) ∨ (T = "set" ∧ ∃ S n, H p = some (.set S n))
  | _ => False
theorem tyV_is {pins : List (Addr × Obj)} {σ : St} {H : Hp} {s : Shared} {T : String} {x : V} {v : Value} (I : Inv X pins σ H s) (r : RelV x v) (ty : tyV X.K T x H) :
    s.TypeIs v T ∧ ∀ a, v = .ref a → ∃ ob, s.heap.get? a = some ob ∧ ob.dict = none := by
  cases x with
  | str z =>
    obtain ⟨t, rfl⟩ := r
    cases (show T = "str" from ty)
    exact ⟨typeIs_str s z t, fun _ e => nomatch e⟩
  | int i =>
    obtain ⟨t, rfl⟩ := r
    cases (show T = "int" from ty)
    exact ⟨typeIs_int s i t, fun _ e => nomatch e⟩
  | ref p =>
    cases r
    rcases ty with ⟨rfl, xs, hq⟩ | ⟨rfl, o, hk, hc, hd⟩ | ⟨rfl, hk⟩ | ⟨rfl, S, n, hk⟩
    · obtain ⟨its, _, pl, _⟩ := I.list hq
      refine ⟨pl.isList.typeIs, fun a e => ?_⟩
      cases e
      obtain ⟨o, n, e, c, hd, _⟩ := pl
      exact ⟨o, e, hd⟩
    · refine ⟨⟨o, I.kIn p o hk, hc⟩, fun a e => ?_⟩
      cases e
      exact ⟨o, I.kIn _ o hk, hd⟩
    · have z : ∃ o, s.heap.get? p = some o ∧ o.ExactDict := by
        rcases hk with ⟨kvs, hk⟩ | ⟨kvs, hk⟩
        · obtain ⟨_, _, _, _, o, _, _, e, ex, _⟩ := I.hok p _ hk
          exact ⟨o, e, ex⟩
        · obtain ⟨_, _, _, _, o, _, _, e, ex, _⟩ := I.hok p _ hk
          exact ⟨o, e, ex⟩
      obtain ⟨o, e, ex⟩ := z
      refine ⟨⟨o, e, ex.1⟩, fun a e2 => ?_⟩
      cases e2
      exact ⟨o, e, ex.2.1⟩
    · obtain ⟨o, _, _, _, e, ex, _⟩ := I.hok p _ hk
      refine ⟨⟨o, e, ex.1⟩, fun a e2 => ?_⟩
      cases e2
      exact ⟨o, e, ex.2.1⟩
  | _ => exact False.elim ty
def tBM0 (K : PySem.W.Frag) (T : String) (r : V → List V → Hp → VK → Prop) (to : TE) : TE := fun σ H Q => to σ H fun x H1 => tyV K T x H1 ∧ r x [] H1 Q
def tBM (K : PySem.W.Frag) (T : String) (r : V → List V → Hp → VK → Prop) (to : TE) (t : TA) : TE := fun σ H Q => to σ H fun x H1 => tyV K T x H1 ∧ t σ H1 fun xs H2 => r x xs H2 Q
variable {o e : Expr} {es : List Expr} {to : TE} {t : TA} {name : Str} {apos cpos : Pos} {T id : String} {r : V → List V → Hp → VK → Prop}
theorem pe_bm0 (pa : PlainAttrs T) (slot : Slot T name id) (hty : typeOf (.builtin id) = pure (.type "method_descriptor")) (hm : MtR X id r) (ho : PE X o to)
    (hbase : attributeBase o name X.env (eval o X.env) = eval o X.env := by rfl) (hline : (apos.endLine == cpos.line) = true := by rfl) : PE X (.Call (.Attribute o name apos) [] [] cpos) (tBM0 X.K T r to) := by
  intro pins s σ H Q I h
  refine wpAny_Call_method0_late hbase hline (thn (ho pins s σ H _ I h) fun v s1 ⟨x, H1, I1, r1, ty, q1⟩ => ?_)
  obtain ⟨h1, h2⟩ := tyV_is I1 r1 ty
  exact ⟨T, id, pa, slot, hty, h1, h2, Calls.callWith_builtin rfl (PySem.evalArgs_none (hm pins s1 σ H1 x [] v [] Q I1 r1 .nil q1))⟩
theorem pe_bm (pa : PlainAttrs T) (slot : Slot T name id) (hty : typeOf (.builtin id) = pure (.type "method_descriptor")) (hm : MtR X id r) (ho : PE X o to) (ha : PA X (e :: es) t)
    (hbase : attributeBase o name X.env (eval o X.env) = eval o X.env := by rfl)
    (hfew : ((backTo cpos (starEach (e :: es) X.env)).all (fun x => !x.1) && (backToKw cpos (keywordEach [] X.env)).all (fun x => x.1.isSome)
      && decide ((e :: es).length + ([] : List Keyword).length + (if ([] : List Keyword).isEmpty then 0 else 1) < 30)) = true := by rfl)
    (hline : (apos.endLine == cpos.line) = true := by rfl) (hs : starEach (e :: es) X.env = (false, eval e X.env) :: starEach es X.env := by rfl) (hplain : (backTo cpos (starEach es X.env)).any (·.1) = false := by rfl) :
    PE X (.Call (.Attribute o name apos) (e :: es) [] cpos) (tBM X.K T r to t) := by
  intro pins s σ H Q I h
  refine wpAny_Call_method_late hbase hfew hline rfl (thn (ho pins s σ H _ I h) fun v s1 ⟨x, H1, I1, r1, ty, q1⟩ => ?_)
  obtain ⟨h1, h2⟩ := tyV_is I1 r1 ty
  refine ⟨T, id, pa, slot, hty, h1, h2, ?_⟩
  have hA := ha cpos pins s1 σ H1 _ I1 q1
  rw [hs] at hA ⊢
  refine Calls.callWith_builtin (by show (false || (backTo cpos (starEach es X.env)).any (·.1)) = false; rw [hplain] <;> rfl) (Calls.evalArgs_plain ?_)
  exact thn hA fun us s2 ⟨vs, H2, I2, r2, q2⟩ => hm pins s2 σ H2 x vs v us Q I2 r1 r2 q2
/- xs.append(e), list.index on a module's tuple .. are MtR facts of 06m -/
end
end L2

namespace L2
open PySem PySem.Spec PyProof.Rows

def MtM (X : Cx) (id : String) (r : V → List V → Hp → VK → Prop) : Prop :=
  ∀ (pins : List (Addr × Obj)) (s : Shared) (σ : St) (H : Hp) (x : V) (xs : List V) (v : Value) (us : List Value) (Q : VK), Inv X pins σ H s → RelV x v → Vals xs us → r x xs H Q →
    wpAny (model X.prog X.w) X.A (call (.builtin id) (v :: us)) (EP X pins σ Q) X.xe s

/-! ### lists of values -/
theorem Vals.one : ∀ {x : V} {us : List Value}, Vals [x] us → ∃ u, us = [u] ∧ RelV x u
  | _, _, .cons r .nil => ⟨_, rfl, r⟩
theorem Vals.two : ∀ {x y : V} {us : List Value}, Vals [x, y] us → ∃ u v, us = [u, v] ∧ RelV x u ∧ RelV y v
  | _, _, _, .cons r (.cons q .nil) => ⟨_, _, rfl, r, q⟩
theorem Vals.zero : ∀ {us : List Value}, Vals [] us → us = []
  | _, .nil => rfl
theorem Vals.dropLast {xs : List V} {us : List Value} (h : Vals xs us) : Vals xs.dropLast us.dropLast := by
  induction h with
  | nil => exact .nil
  | cons r t ih =>
    cases t with
    | nil => exact .nil
    | cons q t' => exact .cons r ih
theorem Vals.eraseIdx : ∀ {xs : List V} {us : List Value} (i : Nat), Vals xs us → Vals (xs.eraseIdx i) (us.eraseIdx i)
  | _, _, _, .nil => .nil
  | _, _, 0, .cons _ t => t
  | _, _, i + 1, .cons r t => .cons r (Vals.eraseIdx i t)
theorem Vals.reverse {xs : List V} {us : List Value} (h : Vals xs us) : Vals xs.reverse us.reverse := by
  induction h with
  | nil => exact .nil
  | cons r t ih => rw [List.reverse_cons, List.reverse_cons]; exact Vals.append ih (.cons r .nil)
theorem Vals.rep {xs : List V} {us : List Value} (h : Vals xs us) : ∀ k : Nat, Vals (List.replicate k xs).flatten (List.replicate k us).flatten
  | 0 => .nil
  | k + 1 => by
    rw [List.replicate_succ, List.replicate_succ, List.flatten_cons, List.flatten_cons]
    exact Vals.append h (Vals.rep h k)
theorem erase_last {α : Type} (l : List α) : l.eraseIdx (l.length - 1) = l.dropLast := by
  induction l with
  | nil => rfl
  | cons a r ih =>
    cases r with
    | nil => rfl
    | cons b r =>
      have e : (a :: b :: r).length - 1 = ((b :: r).length - 1) + 1 := by
        have h1 : (a :: b :: r).length = r.length + 2 := rfl
        have h2 : (b :: r).length = r.length + 1 := rfl
        omega
      rw [e, List.eraseIdx_cons_succ, ih]
      all_goals rfl
theorem len_erase {α : Type} : ∀ (l : List α) (i : Nat), (l.eraseIdx i).length ≤ l.length
  | [], _ => Nat.le_refl _
  | _ :: _, 0 => Nat.le_succ _
  | _ :: r, i + 1 => Nat.succ_le_succ (len_erase r i)
theorem foldl_rep (its : List Value) : ∀ (k : Nat) (acc : List Value),
    List.foldl (fun x1 x2 => x1 ++ x2) acc.toArray (List.replicate k its.toArray) = (acc ++ (List.replicate k its).flatten).toArray
  | 0, acc => by simp
  | k + 1, acc => by
    have e : acc.toArray ++ its.toArray = (acc ++ its).toArray := by simp
    have e2 : (acc ++ its) ++ (List.replicate k its).flatten = acc ++ (List.replicate (k + 1) its).flatten := by
      rw [List.replicate_succ, List.flatten_cons, List.append_assoc]
    rw [← e2, ← foldl_rep its k (acc ++ its), ← e, List.replicate_succ, List.foldl_cons]

section
variable {X : Cx} {pins : List (Addr × Obj)} {σ : St} {H : Hp} {s : Shared} {l b : Addr} {xs ys zs : List V}

/-! ### the two steps: a tracked list is rewritten, a new list is laid -/
theorem Inv.lset {its its' : List Value} {n : Nat} {f : Array Value → Array Value} {t' : Nat} (I : Inv X pins σ H s) (hH : H l = some (.lst xs))
    (e : s.heap.get? l = some { cls := .type "list", data := .seq its.toArray n }) (hf : f its.toArray = its'.toArray) (hv : Vals ys its') (hz : ys.length ≤ sizeLine) :
    Inv X pins σ (upd H l (.lst ys)) { s with heap := s.heap.update l (Obj.mapSeq f), toks := t' } := by
  have q := PySem.IsL.update e f
  rw [hf] at q
  refine I.write (x := l) (e := l) (by rw [hH]; exact trivial) (.inl rfl) (fun b' u hb hu => (Heap.get?_update_other s.heap (Obj.mapSeq f) (Ne.symm hb)).trans hu) ⟨_, q⟩ ?_
  exact ⟨hz, its', _, hv, q⟩
theorem Inv.lnew {its : List Value} {t' : Nat} (I : Inv X pins σ H s) (hv : Vals ys its) (hz : ys.length ≤ sizeLine) :
    Inv X pins σ (upd H s.heap.objs.size (.lst ys)) { s with heap := s.heap.push { cls := .type "list", data := .seq its.toArray }, toks := t' } :=
  I.laid (fun _ _ q => Heap.get?_push_of_some _ q) (Nat.le_refl _) ⟨hz, its, 0, hv, Heap.get?_push_size _ rfl⟩
theorem Inv.fresh (I : Inv X pins σ H s) : H s.heap.objs.size = none := I.hok.fresh (Nat.le_refl _)
theorem Inv.lstM (I : Inv X pins σ H s) (hH : H l = some (.lst xs)) : xs.length ≤ sizeLine ∧ ∃ (its : List Value) (n : Nat), Vals xs its ∧ xs.length = its.length ∧ s.heap.get? l = some { cls := .type "list", data := .seq its.toArray n } := by
  obtain ⟨z, its, n, r, e⟩ := I.hok l _ hH
  exact ⟨z, its, n, r, r.length, e⟩

theorem notLongL {n : Nat} (h : n ≤ sizeLine) : Builtin.List.listTooLong n = false := by
  unfold Builtin.List.listTooLong
  exact decide_eq_false (by omega)
end

section
variable {X : Cx}

/-! ### methods -/
def rAppend : V → List V → Hp → VK → Prop := fun x vs H Q => ∃ l xs y, x = .ref l ∧ vs = [y] ∧ H l = some (.lst xs) ∧ xs.length < sizeLine ∧ Q .non (upd H l (.lst (xs ++ [y])))
theorem mt_append : MtM X "list.append" rAppend := by
  intro pins s σ H x vs v us Q I rx rv h
  obtain ⟨l, xs, y, rfl, rfl, hH, hz, q⟩ := h
  cases rx
  obtain ⟨u, rfl, ru⟩ := rv.one
  obtain ⟨z, its, n, r, hl, e⟩ := I.lstM hH
  refine call_meets F.slot_list_append ⟨_, e, rfl⟩ F.entry_list_append (F.args_list_append_2 _ _) (PySem.list_append l its.toArray n u (by rw [List.size_toArray]; omega)) ⟨e, ?_⟩
  refine ⟨.non, _, I.lset (its' := its ++ [u]) hH e (by simp) (r.append (.cons ru .nil)) ?_, rfl, q⟩
  rw [List.length_append, List.length_singleton]
  omega

def rExtend : V → List V → Hp → VK → Prop := fun x vs H Q => ∃ l b xs zs, x = .ref l ∧ vs = [.ref b] ∧ H l = some (.lst xs) ∧ H b = some (.lst zs) ∧ xs.length + zs.length ≤ sizeLine ∧ Q .non (upd H l (.lst (xs ++ zs)))
theorem mt_extend : MtM X "list.extend" rExtend := by
  intro pins s σ H x vs v us Q I rx rv h
  obtain ⟨l, b, xs, zs, rfl, rfl, hH, hB, hz, q⟩ := h
  cases rx
  obtain ⟨u, rfl, ru⟩ := rv.one
  cases ru
  obtain ⟨z, its, n, r, hl, e⟩ := I.lstM hH
  obtain ⟨z2, its2, n2, r2, hl2, e2⟩ := I.lstM hB
  have hsz : its.toArray.size + its2.toArray.size ≤ sizeLine := by rw [List.size_toArray, List.size_toArray]; omega
  have hlong : ¬ (!its.toArray.isEmpty && Builtin.List.listTooLong (its.toArray.size + its2.toArray.size)) = true := by
    rw [notLongL hsz, Bool.and_false]
    exact Bool.false_ne_true
  refine call_meets F.slot_list_extend ⟨_, e, rfl⟩ F.entry_list_extend (F.args_list_extend_2 _ _)
    (AutoSeq1.list_extend_list_list_0 l its.toArray n b its2.toArray n2 hlong (by rw [List.size_toArray]; omega) (by omega)) ⟨e, e2, ?_⟩
  refine ⟨.non, _, I.lset (its' := its ++ its2) hH e (by simp) (r.append r2) ?_, rfl, q⟩
  rw [List.length_append]
  omega

def rPop : V → List V → Hp → VK → Prop := fun x vs H Q => ∃ l xs y, x = .ref l ∧ vs = [] ∧ H l = some (.lst xs) ∧ xs[xs.length - 1]? = some y ∧ Q y (upd H l (.lst xs.dropLast))
theorem mt_pop : MtM X "list.pop" rPop := by
  intro pins s σ H x vs v us Q I rx rv h
  obtain ⟨l, xs, y, rfl, rfl, hH, hy, q⟩ := h
  cases rx
  have hus := rv.zero
  subst hus
  obtain ⟨z, its, n, r, hl, e⟩ := I.lstM hH
  obtain ⟨u, hu, ru⟩ := r.get hy
  have hy' : its.toArray[its.toArray.size - 1]? = some u := by
    show its.toArray[its.length - 1]? = some u
    rw [← Array.getElem?_toList, ← hl]
    exact hu
  refine call_meets F.slot_list_pop ⟨_, e, rfl⟩ F.entry_list_pop (F.args_list_pop_1 _) (MeetsSeq.list_pop_last l its.toArray n u hy' (by rw [List.size_toArray]; omega)) ⟨e, ?_⟩
  refine ⟨y, _, I.lset (its' := its.dropLast) hH e ?_ r.dropLast ?_, ru, q⟩
  · show its.toArray.eraseIdxIfInBounds (its.toArray.size - 1) = its.dropLast.toArray
    rw [List.size_toArray, List.eraseIdxIfInBounds_toArray, erase_last]
  · rw [List.length_dropLast]
    omega

def rPopAt : V → List V → Hp → VK → Prop := fun x vs H Q => ∃ l xs i k y, x = .ref l ∧ vs = [.int i] ∧ H l = some (.lst xs) ∧ -(2 ^ 63) ≤ i ∧ i < 2 ^ 63 ∧ seqIndex? i xs.length = some k ∧ xs[k]? = some y ∧ Q y (upd H l (.lst (xs.eraseIdx k)))
theorem mt_popAt : MtM X "list.pop" rPopAt := by
  intro pins s σ H x vs v us Q I rx rv h
  obtain ⟨l, xs, i, k, y, rfl, rfl, hH, h1, h2, hk, hy, q⟩ := h
  cases rx
  obtain ⟨u, rfl, ru⟩ := rv.one
  obtain ⟨t, rfl⟩ := ru
  obtain ⟨z, its, n, r, hl, e⟩ := I.lstM hH
  obtain ⟨w, hw, rw'⟩ := r.get hy
  refine call_meets F.slot_list_pop ⟨_, e, rfl⟩ F.entry_list_pop (F.args_list_pop_2 _ _)
    (MeetsSeq.list_pop_at l its.toArray n i t k w (fitsIndex_both h1 h2) (by rw [List.size_toArray, ← hl]; exact hk) (by rw [← Array.getElem?_toList]; exact hw) (by rw [List.size_toArray]; omega)) ⟨e, ?_⟩
  refine ⟨y, _, I.lset (its' := its.eraseIdx k) hH e ?_ (r.eraseIdx k) ?_, rw', q⟩
  · show its.toArray.eraseIdxIfInBounds k = (its.eraseIdx k).toArray
    rw [List.eraseIdxIfInBounds_toArray]
  · have := len_erase xs k
    omega

def rReverse : V → List V → Hp → VK → Prop := fun x vs H Q => ∃ l xs, x = .ref l ∧ vs = [] ∧ H l = some (.lst xs) ∧ Q .non (upd H l (.lst xs.reverse))
theorem mt_reverse : MtM X "list.reverse" rReverse := by
  intro pins s σ H x vs v us Q I rx rv h
  obtain ⟨l, xs, rfl, rfl, hH, q⟩ := h
  cases rx
  have hus := rv.zero
  subst hus
  obtain ⟨z, its, n, r, hl, e⟩ := I.lstM hH
  refine call_meets F.slot_list_reverse ⟨_, e, rfl⟩ F.entry_list_reverse (F.args_list_reverse_1 _) (AutoSeq1.list_reverse_list_0 l its.toArray n (by rw [List.size_toArray]; omega)) ⟨e, ?_⟩
  refine ⟨.non, _, I.lset (its' := its.reverse) hH e (by simp) r.reverse ?_, rfl, q⟩
  rw [List.length_reverse]
  omega

def rClear : V → List V → Hp → VK → Prop := fun x vs H Q => ∃ l xs, x = .ref l ∧ vs = [] ∧ H l = some (.lst xs) ∧ Q .non (upd H l (.lst []))
theorem mt_clear : MtM X "list.clear" rClear := by
  intro pins s σ H x vs v us Q I rx rv h
  obtain ⟨l, xs, rfl, rfl, hH, q⟩ := h
  cases rx
  have hus := rv.zero
  subst hus
  obtain ⟨z, its, n, r, hl, e⟩ := I.lstM hH
  refine call_meets F.slot_list_clear ⟨_, e, rfl⟩ F.entry_list_clear (F.args_list_clear_1 _) (AutoSeq1.list_clear_list_0 l its.toArray n (by rw [List.size_toArray]; omega)) ⟨e, ?_⟩
  exact ⟨.non, _, I.lset (its' := []) (ys := []) hH e rfl .nil (Nat.zero_le _), rfl, q⟩

/-! ### list + list, list += list, list * int -/
def rCat : R2 := fun x y H Q => ∃ l b xs zs, x = .ref l ∧ y = .ref b ∧ H l = some (.lst xs) ∧ H b = some (.lst zs) ∧ xs.length + zs.length ≤ sizeLine ∧ ∀ p, H p = none → Q (.ref p) (upd H p (.lst (xs ++ zs)))
theorem op_cat : OpR X (binaryOp .Add) rCat := by
  intro pins s σ H x y v u Q I rx ry h
  obtain ⟨l, b, xs, zs, rfl, rfl, hH, hB, hz, q⟩ := h
  cases rx
  cases ry
  obtain ⟨z, its, n, r, hl, e⟩ := I.lstM hH
  obtain ⟨z2, its2, n2, r2, hl2, e2⟩ := I.lstM hB
  refine PySem.P.add_list e e2 ?_ (by rw [List.size_toArray, List.size_toArray]; omega)
  have ea : its.toArray ++ its2.toArray = (its ++ its2).toArray := by simp
  rw [ea]
  exact ⟨.ref _, _, I.lnew (t' := s.toks) (r.append r2) (by rw [List.length_append]; omega), rfl, q _ I.fresh⟩
/-- a list times an int (a negative one is nothing) -/
def rRep : R2 := fun x y H Q => ∃ l k xs, x = .ref l ∧ y = .int k ∧ H l = some (.lst xs) ∧ -(2 ^ 63) ≤ k ∧ k < 2 ^ 63 ∧ xs.length * k.toNat ≤ sizeLine ∧
  ∀ p, H p = none → Q (.ref p) (upd H p (.lst (List.replicate k.toNat xs).flatten))
theorem len_rep {α : Type} (xs : List α) (k : Nat) : (List.replicate k xs).flatten.length = k * xs.length := by
  induction k with
  | zero => simp
  | succ k ih => rw [List.replicate_succ, List.flatten_cons, List.length_append, ih, Nat.succ_mul, Nat.add_comm]
theorem op_rep : OpR X (binaryOp .Mult) rRep := by
  intro pins s σ H x y v u Q I rx ry h
  obtain ⟨l, k, xs, rfl, rfl, hH, h1, h2, hz, q⟩ := h
  cases rx
  obtain ⟨t, rfl⟩ := ry
  obtain ⟨z, its, n, r, hl, e⟩ := I.lstM hH
  have hlen : its.toArray.size * k.toNat ≤ sizeLine := by rw [List.size_toArray, ← hl]; exact hz
  have hcap : ¬ its.toArray.size * k.toNat > (2 ^ 63 - 1) / 8 := by
    have : (sizeLine : Nat) ≤ (2 ^ 63 - 1) / 8 := by decide
    omega
  have hfit : ¬ (!Builtin.List.listFitsIndex k) = true := by
    rw [fitsIndex_both h1 h2]
    exact Bool.false_ne_true
  have hlong : ¬ Builtin.List.listTooLong (its.toArray.size * k.toNat) = true := by
    rw [notLongL hlen]
    exact Bool.false_ne_true
  have hnew : List.foldl (fun x1 x2 => x1 ++ x2) #[] (List.replicate (if its.toArray.isEmpty = true then 0 else k.toNat) its.toArray) = (List.replicate k.toNat its).flatten.toArray := by
    have f0 : ∀ m : Nat, List.foldl (fun x1 x2 => x1 ++ x2) #[] (List.replicate m its.toArray) = (List.replicate m its).flatten.toArray := fun m => by
      have := foldl_rep its m []
      rw [List.nil_append] at this
      exact this
    rw [f0]
    cases its with
    | nil => simp
    | cons a r' => rw [if_neg (by simp)]
  refine wpAny_binaryOp_repeat_ref (T := "list") (U := "int") (by decide) ⟨_, e, rfl⟩ (fun s' => typeIs_int s' k t) noFill_list_mul F.fills_int_mul F.slot_int_rmul repeat_list F.slot_int_index.lookup
    (call_meets F.slot_int_rmul (typeIs_int s k t) F.entry_int_rmul (F.args_int_rmul_2 _ _) (int___rmul___int_list k t l its.toArray n)
      ⟨e, rfl, ⟨_, e, rfl⟩, call_meets F.slot_list_mul ⟨_, e, rfl⟩ F.entry_list_mul (F.args_list_mul_2 _ _) (AutoListH.list___mul___list_int_3 l its.toArray n k t hfit hcap hlong) ⟨e, ?_⟩⟩)
  rw [hnew]
  exact ⟨.ref _, _, I.lnew (t' := s.toks) (r.rep k.toNat) (by rw [len_rep, Nat.mul_comm]; exact hz), rfl, q _ I.fresh⟩

/-! ### del xs[i] -/
theorem del_list {pins : List (Addr × Obj)} {s : Shared} {σ : St} {H : Hp} {l : Addr} {xs : List V} {i : Int} {t : Tok} {k : Nat} {Q : Unit → Shared → Prop} (I : Inv X pins σ H s) (hH : H l = some (.lst xs))
    (h1 : -(2 ^ 63) ≤ i) (h2 : i < 2 ^ 63) (hk : seqIndex? i xs.length = some k) (h : ∀ s', Inv X pins σ (upd H l (.lst (xs.eraseIdx k))) s' → Q () s') :
    wpAny (model X.prog X.w) X.A (delItem (.ref l) (.int i t)) Q X.xe s := by
  obtain ⟨z, its, n, r, hl, e⟩ := I.lstM hH
  refine PySem.P.delItem_list (k := k) e (fitsIndex_both h1 h2) (by rw [List.size_toArray, ← hl]; exact hk) (h _ ?_) (by rw [List.size_toArray]; omega)
  refine I.lset (its' := its.eraseIdx k) (t' := s.toks) hH e ?_ (r.eraseIdx k) ?_
  · show its.toArray.eraseIdxIfInBounds k = (its.eraseIdx k).toArray
    rw [List.eraseIdxIfInBounds_toArray]
  · have := len_erase xs k
    omega
end

/-! ### xs[a:b] = ys -/
section
variable {prog : Program} {w : World} {A : Around} {E : Value → Shared → Prop} {s : Shared}
theorem splice_eq (its its2 : List Value) (a c : Nat) : its.toArray.extract 0 a ++ its2.toArray ++ its.toArray.extract c its.toArray.size = (its.take a ++ its2 ++ its.drop c).toArray := by
  apply Array.toList_inj.mp
  first
    | (simp
       exact List.take_of_length_le (by simp))
    | simp [List.take_of_length_le]
    | simp
theorem bounds_run {a c n : Nat} (hac : a ≤ c) (hc : c ≤ n) : sliceBounds (some (a : Int)) (some (c : Int)) none n = ((a : Int), (c : Int), 1) := by
  simp only [sliceBounds, Option.getD_none]
  have h1 : ¬ ((a : Int) < 0) := by omega
  have h2 : ¬ ((c : Int) < 0) := by omega
  simp only [h1, h2, if_false, show (1 : Int) > 0 by decide, if_true]
  congr 1
  · omega
  · congr 1; omega
set_option maxRecDepth 100000 in
/-- list.__setitem__ with a slice of step one and another list -/
theorem setItem_slice {l b sl : Addr} {items new : Array Value} {n n2 : Nat} {vl vu : Value} {a c : Nat} {Q : Unit → Shared → Prop}
    (e : s.heap.get? l = some { cls := .type "list", data := .seq items n }) (e2 : s.heap.get? b = some { cls := .type "list", data := .seq new n2 }) (hne : l ≠ b)
    (hs : s.heap.IsSliceOf sl vl vu .none) (pl : IsPart vl (some (a : Int))) (pu : IsPart vu (some (c : Int))) (hac : a ≤ c) (hc : c ≤ items.size)
    (hsz : items.size + new.size ≤ sizeLine) (h : Q () { s with heap := s.heap.update l (Obj.mapSeq fun xs => xs.extract 0 a ++ new ++ xs.extract c xs.size) }) :
    wpAny (model prog w) A (setItem (.ref l) (.ref sl) (.ref b)) Q E s := by
  have hl : s.heap.IsList l items := PySem.IsL.isList e
  have hb : s.heap.IsList b new := PySem.IsL.isList e2
  obtain ⟨os, hos, hcs, hds⟩ := id hs
  have hTs : s.TypeIs (.ref sl) "slice" := ⟨os, hos, hcs⟩
  have hstep : ¬ ((rawPart none == rawInt 0) = true) := Bool.false_ne_true
  have hsame : Builtin.List.listSameRef (.ref l) (.ref b) = false := by
    unfold Builtin.List.listSameRef
    exact beq_eq_false_iff_ne.mpr hne
  have hmax : (max (a : Int) (c : Int)).toNat = c := by omega
  have hz' : ((fun xs : Array Value => xs.extract 0 a ++ new ++ xs.extract c xs.size) items).size ≤ sizeLine + 1 := by
    simp only [Array.size_append, Array.size_extract]
    omega
  unfold setItem
  try with_reducible refine wpAny_holding ?_
  first | refine wpAny_bind (wpAny_pure ?_) | skip
  refine wpAny_bind (wpAny_sequenceKey hl.typeIs (by decide) ?_)
  refine wpAny_bind (wpAny_callSpecial?_slot (name := Str.ofString "__setitem__") hl.typeIs slot_list_setitem
    (wpAny_call_entry slot_list_setitem hl.typeIs entry_list_setitem ?_ (args_list_setitem _ _ _)))
  show wpAny _ _ (Builtin.List.listSubscript? (.ref sl) >>= _) _ _ s
  refine wpAny_bind ?_
  unfold Builtin.List.listSubscript?
  refine wpAny_bind (wpAny_specialOf hTs slice_no_index ?_)
  simp only [Option.isNone_none, if_true]
  refine wpAny_pure ?_
  show wpAny _ _ (typeOf (.ref sl) >>= _) _ _ s
  refine wpAny_bind (wpAny_typeOf hTs ?_)
  first
    | rw [if_neg (by decide)]
    | refine PySem.W.KFB.if_not (by decide) ?_
  rw [listSliceParts_eq]
  refine wpAny_bind (wpAny_bind (wpAny_field hos hds (x := .none) rfl (wpAny_bind (wpAny_listPart .none ?_))))
  rw [if_neg hstep]
  refine wpAny_bind (wpAny_field hos hds (x := vl) rfl (wpAny_bind (wpAny_listPart pl ?_)))
  refine wpAny_bind (wpAny_field hos hds (x := vu) rfl (wpAny_bind (wpAny_listPart pu (wpAny_pure ?_))))
  first
    | simp only [hsame, Bool.false_eq_true, if_false]
    | refine PySem.W.KFB.if_not hsame ?_
    | (dsimp only
       rw [if_neg (by rw [hsame]; exact Bool.false_ne_true)])
  refine wpAny_bind (m := Builtin.List.listAllItems (.ref b) "must assign iterable to extended slice") ?_
  unfold Builtin.List.listAllItems
  refine wpAny_bind (wpAny_typeOf hb.typeIs ?_)
  first
    | refine PySem.W.KFB.if_so (by decide) ?_
    | rw [if_pos (by decide)]
    | simp only [beq_self_eq_true, Bool.true_or, if_true]
  unfold Builtin.List.listItems
  refine wpAny_bind (wpAny_seqItems e2 rfl (wpAny_pure ?_))
  refine wpAny_bind (wpAny_bind (wpAny_seqItems e rfl (wpAny_pure ?_)))
  refine wpAny_bind (wpAny_of_eq ((sliceIndices_raw (some (a : Int)) (some (c : Int)) none items.size (by simp)).trans (congrArg (pure : Int × Int × Int → Sem (Int × Int × Int)) (bounds_run hac hc))) ?_)
  show wpAny _ _ (if ((1 : Int) == 1) = true then _ else _) _ _ s
  rw [if_pos (by decide)]
  refine wpAny_bind (wpAny_rule ?_)
  first
    | simp only [notLongL hsz, Bool.false_eq_true, if_false]
    | refine PySem.W.KFB.if_not (notLongL hsz) ?_
  first | refine wpAny_bind (wpAny_pure ?_) | skip
  show wpAny _ _ (updateSeq l (fun xs => xs.extract 0 ((a : Int)).toNat ++ new ++ xs.extract (max (a : Int) (c : Int)).toNat xs.size) >>= _) _ _ s
  rw [hmax, Int.toNat_natCast]
  refine wpAny_bind (wpAny_updateSeq (hz := Nat.le_trans (Nat.le_add_right _ _) hsz) (_hz' := hz') e rfl ?_)
  refine wpAny_bind (wpAny_letGo ?_)
  first
    | exact wpAny_bind (wpAny_pure (wpAny_pure ⟨.none, rfl, wpAny_pure h⟩))
    | exact wpAny_pure ⟨.none, rfl, wpAny_pure h⟩
end

section
variable {X : Cx}
/-- xs[a:c] = ys of another list, at the value level: sl is the slice object that was just made -/
theorem set_slice {pins : List (Addr × Obj)} {s : Shared} {σ : St} {H : Hp} {l b sl : Addr} {xs ys : List V} {a c : Int} {vl vu : Value} {Q : Unit → Shared → Prop} (I : Inv X pins σ H s)
    (hH : H l = some (.lst xs)) (hB : H b = some (.lst ys)) (hne : l ≠ b) (hs : s.heap.IsSliceOf sl vl vu .none) (ra : RelV (.int a) vl) (rc : RelV (.int c) vu) (h0 : 0 ≤ a) (hac : a ≤ c) (hc : c ≤ xs.length)
    (hz : xs.length + ys.length ≤ sizeLine) (h : ∀ s', Inv X pins σ (upd H l (.lst (xs.take a.toNat ++ ys ++ xs.drop c.toNat))) s' → Q () s') :
    wpAny (model X.prog X.w) X.A (setItem (.ref l) (.ref sl) (.ref b)) Q X.xe s := by
  obtain ⟨ta, rfl⟩ := ra
  obtain ⟨tc, rfl⟩ := rc
  obtain ⟨z, its, n, r, hl, e⟩ := I.lstM hH
  obtain ⟨z2, its2, n2, r2, hl2, e2⟩ := I.lstM hB
  obtain ⟨a', rfl⟩ := Int.eq_ofNat_of_zero_le h0
  obtain ⟨c', rfl⟩ := Int.eq_ofNat_of_zero_le (Int.le_trans h0 hac)
  simp only [Int.toNat_natCast] at h
  refine setItem_slice (a := a') (c := c') e e2 hne hs (.int _ _) (.int _ _) (by omega) (by rw [List.size_toArray]; omega) (by rw [List.size_toArray, List.size_toArray]; omega) (h _ ?_)
  refine I.lset (its' := its.take a' ++ its2 ++ its.drop c') (t' := s.toks) hH e ?_ (Vals.append (Vals.append (r.take _) r2) (r.drop _)) ?_
  · exact splice_eq its its2 a' c'
  · rw [List.length_append, List.length_append, List.length_take, List.length_drop]
    omega
end
end L2

namespace Att
open PySem PySem.W PySem.Calls PyProof.Rows

/-! ### the script -/
theorem ints_of_wellAll {P : Params} {h : Heap} : ∀ (ns : List Int) (vs : List Value), WellAll P h vs (ns.map WData.int) → IntsAre vs ns := by
  intro ns
  induction ns with
  | nil =>
    intro vs w
    rw [List.map_nil] at w
    cases w
    exact .nil
  | cons n ns ih =>
    intro vs w
    rw [List.map_cons] at w
    cases w with
    | cons a b =>
      cases a
      exact .cons _ _ (ih _ b)

theorem script_of {l : OpenLaw} {n : Nat} (hn : l.most = some n) {P : Params} {h : Heap} {args : List WData} {vals : List Value}
    (hpre : l.row.toRowW.claim.pre args = true) (hwl : WellAll P h vals args) :
    ∃ a vs ns, vals = [Value.ref a] ∧ args = [WData.list (ns.map WData.int)] ∧ h.get? a = some { cls := .type "list", data := .seq vs.toArray } ∧ IntsAre vs ns ∧ ns.length ≤ n := by
  have hsh : WShape.hasAll [] args [.list .int] = true := (pre_splitW hpre).1
  have hc : l.pre.holds [] { args := args } = true := (pre_splitW hpre).2
  obtain ⟨d, r, rfl, h1, h2⟩ := hasAllW_cons hsh
  obtain rfl := hasAllW_nil h2
  obtain ⟨xs, rfl, h3⟩ := hasW_list h1
  obtain ⟨ns, rfl⟩ := items_int h3
  have hlen : ns.length ≤ n := by
    unfold OpenLaw.pre at hc
    have h4 : (WTm.not (.lt (.lit (.int (n : Int))) (.len (.arg 0)))).holds [] { args := [.list (ns.map .int)] } = true := by
      have h4 := (holds_andW hc).1
      rw [hn] at h4
      exact h4
    have h5 := condW_of h4 (w_not (w_lt w_lit (w_len_list (w_arg rfl))))
    rw [List.length_map] at h5
    refine Nat.le_of_not_lt fun q => ?_
    have q' : (n : Int) < ((ns.length : Nat) : Int) := by omega
    first
      | (rw [decide_eq_true q'] at h5; exact absurd h5 (by decide))
      | (simp at h5; omega)
  cases hwl with
  | cons w1 w2 =>
    cases w2
    cases w1 with
    | list ho hall => exact ⟨_, _, ns, rfl, rfl, ho, ints_of_wellAll ns _ hall, hlen⟩

theorem post_true (l : OpenLaw) (args : List WData) : l.row.toRowW.claim.post args (.bool true) args = true :=
  postW_of (r := l.row.toRowW) (X := (true == true))
    (show WShape.has [] (.bool true) .bool = true by first | rfl | decide | simp [WShape.has, WShape.arms, WShape.armsAll])
    (show (WTm.eq .res (.lit (.bool true))).value [] { args := args, res := some (.bool true), after := args } = some (.bool (true == true)) from w_eq_bool (w_res rfl) w_lit) rfl

/-! ### the attachment: holds_open's last premise (the goal 'hc' behind k_head) from a wpAny of the law's body -/
theorem attach {l : OpenLaw} {n : Nat} {q : Program} {loose : List Str} {XP : (Str → Option Value) → Heap → Prop} {YP : World → Heap → Prop} {d : DefRec} {x : Str}
    (hn : l.most = some n) (hdf : d.params.defaults = [])
    (hbind : ∀ pm cd doc v : Value, bindArgs (docDef d.name d.params d.body d.scope pm cd doc) ⟨[v], []⟩ = pure [(x, v)])
    (hx : d.scope.names.lookup x = some .local ∨ d.scope.names.lookup x = some .cell)
    (hk : d.scope.kind = .function) (hco : d.scope.isCoroutine = false) (hgen : d.scope.isGenerator = false)
    (body : ∀ (w : World) (s₀ s₁ s : Shared) (mg mb : Str → Option Value) (fa : Addr) (o : Obj) (pm cd doc : Value) (a : Addr) (vs : List Value) (ns : List Int),
      Ground q loose [] XP w s₀ mg mb s₁.heap → YP w s₁.heap →
      s₁.heap.get? fa = some o → o.data = .func (docDef d.name d.params d.body d.scope pm cd doc) → s₁.heap.CodeRec cd d.name → mg d.name = some (.ref fa) →
      s₁.heap.get? a = some { cls := .type "list", data := .seq vs.toArray } → IntsAre vs ns → ns.length ≤ n →
      s.gens = #[] → s.os = s₁.os →
      Fr s₁.heap s₁.heap.objs.size s.heap (bindL (envOfC d.name d.scope s₁.heap.objs.size fa cd).kindOf [(x, .ref a)] fun _ => none) →
      Cl s₁.heap.objs.size (cellsFrom (s₁.heap.objs.size + 1) d.scope.names []) s.heap (bindC (envOfC d.name d.scope s₁.heap.objs.size fa cd).kindOf [(x, .ref a)] fun _ => none) →
      wpAny (model l.prog w) (callerA.deeper (envOfC d.name d.scope s₁.heap.objs.size fa cd)) (execs d.body (envOfC d.name d.scope s₁.heap.objs.size fa cd))
        (fun f s' => f = .ret (.bool true) ∧ OldK s₁.heap s'.heap ∧ s'.os = s₁.os ∧ AllBare s'.gens) (fun _ _ => False) s) :
    WalkO q loose XP YP l.row.toRowW d [] (fun f vs => PySem.call f vs) := by
  intro w s₀ s₁ mg mb G Y fa o pm cd doc dV kV ho hd hcd hD hmg hg args vals as hpre hlay hrd hwl hlo
  obtain rfl : dV = .none := Dflts.none hD hdf
  obtain rfl : kV = .none := Dflts.noKw hD
  obtain ⟨a, vs, ns, rfl, rfl, hobj, hints, hlen⟩ := script_of hn hpre hwl
  refine enter_call ?_
  refine call_cells_ret (o := o) (by rw [depth_caller]; decide) ho (fd_plain hd) G.T.nolimit hcd (hbind pm cd doc (.ref a)) (fun y hy => ?_) (fun h₁ tk F X => ?_) hco hgen hk
  · obtain rfl : y = (x, Value.ref a) := List.mem_singleton.mp hy
    rcases hx with e | e
    · exact .inl e
    · exact .inr ⟨e, cellsFrom_some _ _ _ (.inl e)⟩
  · refine wpAny_mono (body w s₀ s₁ { s₁ with heap := h₁, toks := tk } mg mb fa o pm cd doc a vs ns G Y ho (fd_plain hd) hcd hmg hobj hints hlen hg rfl F X) (fun f s' hq => ?_) (fun _ _ hq => hq)
    obtain ⟨rfl, h2, h3, h4⟩ := hq
    exact ⟨.inl ⟨.bool true, .bool true, [], rfl, fun _ => rfl, .bool true, post_true l _, fun _ => ⟨List.Pairwise.nil, fun _ hm => (nomatch hm)⟩⟩, h2, h3, h4⟩

/-- the same from a codeAny of the CALL (for a layer whose function contracts speak of calls) -/
theorem attach_call {l : OpenLaw} {n : Nat} {q : Program} {loose : List Str} {XP : (Str → Option Value) → Heap → Prop} {YP : World → Heap → Prop} {d : DefRec}
    (hn : l.most = some n) (hdf : d.params.defaults = [])
    (call : ∀ (w : World) (s₀ s₁ : Shared) (mg mb : Str → Option Value) (fa : Addr) (o : Obj) (pm cd doc : Value) (a : Addr) (vs : List Value) (ns : List Int),
      Ground q loose [] XP w s₀ mg mb s₁.heap → YP w s₁.heap →
      s₁.heap.get? fa = some o → o.data = .func (docDef d.name d.params d.body d.scope pm cd doc) → s₁.heap.CodeRec cd d.name → mg d.name = some (.ref fa) →
      s₁.heap.get? a = some { cls := .type "list", data := .seq vs.toArray } → IntsAre vs ns → ns.length ≤ n → s₁.gens = #[] →
      codeAny (model l.prog w) callerA (.call (.ref fa) ⟨[.ref a], []⟩) (fun r s' => r = .ok (.ret (.bool true)) ∧ OldK s₁.heap s'.heap ∧ s'.os = s₁.os ∧ AllBare s'.gens) s₁) :
    WalkO q loose XP YP l.row.toRowW d [] (fun f vs => PySem.call f vs) := by
  intro w s₀ s₁ mg mb G Y fa o pm cd doc dV kV ho hd hcd hD hmg hg args vals as hpre hlay hrd hwl hlo
  obtain rfl : dV = .none := Dflts.none hD hdf
  obtain rfl : kV = .none := Dflts.noKw hD
  obtain ⟨a, vs, ns, rfl, rfl, hobj, hints, hlen⟩ := script_of hn hpre hwl
  refine enter_call (codeAny_mono (call w s₀ s₁ mg mb fa o pm cd doc a vs ns G Y ho (fd_plain hd) hcd hmg hobj hints hlen hg) fun r s' hq => ?_)
  obtain ⟨rfl, h2, h3, h4⟩ := hq
  exact ⟨.inl ⟨.bool true, .bool true, [], rfl, fun _ => rfl, .bool true, post_true l _, fun _ => ⟨List.Pairwise.nil, fun _ hm => (nomatch hm)⟩⟩, h2, h3, h4⟩

/-- the same where the top left finished generators (o_head chose holds_openN): nothing may have changed at all and no generator may be left -/
theorem attachN {l : OpenLaw} {n : Nat} {q : Program} {loose : List Str} {XP : (Str → Option Value) → Heap → Prop} {YP : World → Heap → Prop} {d : DefRec} {x : Str}
    (hn : l.most = some n) (hdf : d.params.defaults = [])
    (hbind : ∀ pm cd doc v : Value, bindArgs (docDef d.name d.params d.body d.scope pm cd doc) ⟨[v], []⟩ = pure [(x, v)])
    (hx : d.scope.names.lookup x = some .local ∨ d.scope.names.lookup x = some .cell)
    (hk : d.scope.kind = .function) (hco : d.scope.isCoroutine = false) (hgen : d.scope.isGenerator = false)
    (body : ∀ (w : World) (s₀ s₁ s : Shared) (mg mb : Str → Option Value) (fa : Addr) (o : Obj) (pm cd doc : Value) (a : Addr) (vs : List Value) (ns : List Int),
      Ground q loose [] XP w s₀ mg mb s₁.heap → YP w s₁.heap →
      s₁.heap.get? fa = some o → o.data = .func (docDef d.name d.params d.body d.scope pm cd doc) → s₁.heap.CodeRec cd d.name → mg d.name = some (.ref fa) →
      s₁.heap.get? a = some { cls := .type "list", data := .seq vs.toArray } → IntsAre vs ns → ns.length ≤ n →
      s.gens = #[] → s.os = s₁.os →
      Fr s₁.heap s₁.heap.objs.size s.heap (bindL (envOfC d.name d.scope s₁.heap.objs.size fa cd).kindOf [(x, .ref a)] fun _ => none) →
      Cl s₁.heap.objs.size (cellsFrom (s₁.heap.objs.size + 1) d.scope.names []) s.heap (bindC (envOfC d.name d.scope s₁.heap.objs.size fa cd).kindOf [(x, .ref a)] fun _ => none) →
      wpAny (model l.prog w) (callerA.deeper (envOfC d.name d.scope s₁.heap.objs.size fa cd)) (execs d.body (envOfC d.name d.scope s₁.heap.objs.size fa cd))
        (fun f s' => f = .ret (.bool true) ∧ (∀ b o, s₁.heap.get? b = some o → s'.heap.get? b = some o) ∧ s'.os = s₁.os ∧ s'.gens = #[]) (fun _ _ => False) s) :
    WalkN q loose XP YP l.row.toRowW d [] (fun f vs => PySem.call f vs) := by
  intro w s₀ s₁ mg mb G Y fa o pm cd doc dV kV ho hd hcd hD hmg hg args vals as hpre hlay hrd hwl hlo
  obtain rfl : dV = .none := Dflts.none hD hdf
  obtain rfl : kV = .none := Dflts.noKw hD
  obtain ⟨a, vs, ns, rfl, rfl, hobj, hints, hlen⟩ := script_of hn hpre hwl
  refine enter_callW ?_
  refine call_cells_ret (o := o) (by rw [depth_caller]; decide) ho (fd_plain hd) G.T.nolimit hcd (hbind pm cd doc (.ref a)) (fun y hy => ?_) (fun h₁ tk F X => ?_) hco hgen hk
  · obtain rfl : y = (x, Value.ref a) := List.mem_singleton.mp hy
    rcases hx with e | e
    · exact .inl e
    · exact .inr ⟨e, cellsFrom_some _ _ _ (.inl e)⟩
  · refine wpAny_mono (body w s₀ s₁ { s₁ with heap := h₁, toks := tk } mg mb fa o pm cd doc a vs ns G Y ho (fd_plain hd) hcd hmg hobj hints hlen hg rfl F X) (fun f s' hq => ?_) (fun _ _ hq => hq)
    obtain ⟨rfl, h2, h3, h4⟩ := hq
    exact ⟨.inl ⟨.bool true, .bool true, [], rfl, fun _ => rfl, .bool true, post_true l _, fun _ => ⟨List.Pairwise.nil, fun _ hm => (nomatch hm)⟩⟩, h2, h3, h4⟩

/-! ### rules over ANY heap (no ledger) from facts about the written part K: the library's own take a ledger (News) for what they write -/
section
variable {prog : Program} {w : World} {A : Around} {E : Value → Shared → Prop} {s : Shared} {K : Frag}

/-- a def of the module, or a method (qual 'C.m'), entered: the frame is the next address; cells behind it -/
theorem call_fn {R : Result → Shared → Prop} {name qual : Str} {params : Arguments} {body : List Stmt} {scope : Scope} {dV kV doc pm cdv ct oc : Value} {an od : Option Addr} {osl : Array (Option Value)} {f : Addr} {args : Args} {binds : List (Str × Value)}
    (X : K.In s.heap) (hlim : s.heap.NoLimit) (ho : K.lookup f = some ⟨oc, od, .func (fnOf name qual params body scope dV kV doc pm an cdv ct), osl⟩) (hcd : codeIn K cdv qual = true) (hroom : A.depth < recursionLimit)
    (hbind : BindsTo s (fnOf name qual params body scope dV kV doc pm an cdv ct) args binds)
    (hkind : (binds.all fun y => scope.names.lookup y.1 == some .local || scope.names.lookup y.1 == some .cell) = true)
    (h : ∀ s₁, InCallC s s.heap.objs.size (bindL (envOfC qual scope s.heap.objs.size f cdv).kindOf binds fun _ => none) (cellsFrom (s.heap.objs.size + 1) scope.names [])
        (bindC (envOfC qual scope s.heap.objs.size f cdv).kindOf binds fun _ => none) s₁ →
      wpAny (model prog w) (A.deeper (envOfC qual scope s.heap.objs.size f cdv)) (execs body (envOfC qual scope s.heap.objs.size f cdv))
        (fun fl s' => R (.ok (.ret (match fl with | .ret v => v | _ => .none))) s')
        (fun e s' => wpAny (model prog w) (A.deeper (envOfC qual scope s.heap.objs.size f cdv)) (leaving (envOfC qual scope s.heap.objs.size f cdv) e) (fun _ s'' => R (.error e) s'') (fun e' s'' => R (.error e') s'') s') s₁)
    (hco : scope.isCoroutine = false) (hgen : scope.isGenerator = false) (hk : scope.kind = .function) : codeAny (model prog w) A (.call (.ref f) args) R s := by
  refine codeAny_call_function hroom (X _ _ ho) rfl hco hgen rfl (codeRec_of X hcd) (hbind _ _ _ _ ?_)
  refine wpAny_newFunctionEnv_cells hk (kindsX hkind _) fun env he s₁ x => ?_
  subst he
  exact ⟨hlim.keeps x.toInCall.keep, codeAny_func (h s₁ x)⟩

/-- C(..): dict at size, instance at size + 1, then __init__ -/
theorem make_obj {R : Result → Shared → Prop} {C fI : Addr} {rest : List Value} {kw : List (Str × Value)}
    (X : K.In s.heap) (hm : makesIn K C = true) (hi : findIn K (.ref C) "__init__" = some (some (.ref fI))) (hf : isFn K (.ref fI) = true)
    (h : codeAny (model prog w) (A.under (.builtin "type.__call__" ⟨.ref C :: rest, kw⟩)) (.call (.ref fI) ⟨.ref (s.heap.objs.size + 1) :: rest, kw⟩) (InitBack (s.heap.objs.size + 1) R)
      { s with heap := (s.heap.push emptyDict).push (instObj C s.heap.objs.size) }) : codeAny (model prog w) A (.call (.ref C) ⟨rest, kw⟩) R s := by
  obtain ⟨hh, g, d, t, os⟩ := s
  exact make_core (makes_of X hm) (looks_findIn X hi) (fun self => bind_fn X self (beq_iff_eq.mp hf)) (.inl rfl) h

/-- x.name where the instance's dict holds the name and the class does not -/
theorem get_field {x C : Addr} {ox : Obj} {es : List DictEntry} {n : Nat} {name : Str} {expr : Bool} {v : Value} {Q : Value → Shared → Prop}
    (X : K.In s.heap) (I : PySem.W.InstAt s.heap x ox C (some (dictOf es n))) (hg : plainGet K C name = true) (hh : hasDictIn K C = true) (ha : findIn K (.ref C) name = some none)
    (hl : getL name es = some (some v)) (hv : handedIn v = true) (h : Q v { s with toks := s.toks + 1 }) : wpAny (model prog w) A (getAttr (.ref x) name expr) Q E s :=
  get_value X I (plainGet_of hg).1 (findObj_own hh ha rfl hl) hv h

/-- x.m(..): the method found in the class -/
theorem get_method {x C f : Addr} {ox : Obj} {es : List DictEntry} {n : Nat} {name : Str} {pl : Sem Bool} {Q : Value × List Value → Shared → Prop}
    (X : K.In s.heap) (I : PySem.W.InstAt s.heap x ox C (some (dictOf es n))) (hg : plainGet K C name = true) (hf : findIn K (.ref C) name = some (some (.ref f))) (ht : isFn K (.ref f) = true)
    (hl : getL name es = some none) (h : Q (.ref f, [.ref x]) s) : wpAny (model prog w) A (getMethod (.ref x) name pl) Q E s :=
  method_fn X I (plainGet_of hg).1 (plainGet_of hg).2 hf (beq_iff_eq.mp ht) (by show (lookIn name (dictOf es n)).map _ = _; rw [lookIn_dict, hl]; rfl) h

/-! the whole heap as the ledger: makes every rule that writes through a ledger a rule over any heap -/
def noObjs (h : Heap) : Heap := { h with objs := #[] }
theorem noObjs_get (h : Heap) (b : Addr) : (noObjs h).get? b = none := by
  cases e : (noObjs h).get? b with
  | none => rfl
  | some o => exact absurd (Heap.lt_size e) (Nat.not_lt_zero _)
def ledger (h : Heap) (L d : Addr) : List (Addr × Obj) := (List.range h.objs.size).filterMap fun a => if a = L ∨ a = d then none else (h.get? a).map fun o => (a, o)
theorem mem_ledger {h : Heap} {L d a : Addr} {o : Obj} : (a, o) ∈ ledger h L d ↔ a ≠ L ∧ a ≠ d ∧ h.get? a = some o := by
  unfold ledger
  rw [List.mem_filterMap]
  constructor
  · rintro ⟨b, _, e⟩
    split at e
    · cases e
    · rename_i hb
      obtain ⟨o', ho, e'⟩ := Option.map_eq_some_iff.mp e
      cases e'
      exact ⟨fun q => hb (.inl q), fun q => hb (.inr q), ho⟩
  · rintro ⟨n1, n2, ho⟩
    refine ⟨a, List.mem_range.mpr (Heap.lt_size ho), ?_⟩
    rw [if_neg (show ¬ (a = L ∨ a = d) from fun q => q.elim n1 n2), ho] <;> rfl
theorem news_ledger {h : Heap} {L d : Addr} {od : Obj} (hne : d ≠ L) (ho : h.get? d = some od) : News (noObjs h) L h ([] ++ (d, od) :: ledger h L d) := by
  rintro ⟨a, o⟩ hp
  rcases List.mem_cons.mp hp with e | hp
  · cases e
    exact ⟨ho, hne, noObjs_get _ _⟩
  · obtain ⟨n1, n2, e⟩ := mem_ledger.mp hp
    exact ⟨e, n1, noObjs_get _ _⟩
theorem fr_all {h : Heap} {L : Addr} {m : Str → Option Value} (n : h.Ns L m) : Fr (noObjs h) L h m :=
  ⟨n, fun b o e => (by rw [noObjs_get] at e; cases e), Nat.zero_le _⟩
/-- Upd of the head entry (for append_K, setItem_K ..) -/
theorem upd_ledger {h : Heap} {L d : Addr} {o o' : Obj} : Upd d o o' ((d, o) :: ledger h L d) ((d, o') :: ledger h L d) :=
  .head fun ⟨_, _⟩ hp => (mem_ledger.mp hp).2.1

/-- x.name = v over any heap: L is any namespace of the heap (the frame's, say): its map stays, its object is not told; all else but the dict stays -/
theorem set_field {x C dx L : Addr} {ox : Obj} {m : Str → Option Value} {es es' : List DictEntry} {n n' : Nat} {name : Str} {v : Value} {Q : Unit → Shared → Prop}
    (X : K.In s.heap) (I : PySem.W.InstAt s.heap x ox C (some (dictOf es n))) (hd : ox.dict = some dx) (hL : s.heap.Ns L m) (hne : dx ≠ L)
    (hs : findIn K (.ref C) "__setattr__" = some (some (.builtin "object.__setattr__"))) (hp : plainOver K C = true) (ht : takerIn K C name = some none) (hh : hasDictIn K C = true) (hl : (getL name es).isSome = true)
    (e : (putL name (PyData.keyHash w.params name) (.str name (s.toks + 1)) v es, putN name es n) = (es', n')) (hz : es'.length ≤ 1000)
    (h : ∀ h' : Heap, h'.Ns L m → h'.get? dx = some (dictOf es' n') → (∀ b o, b ≠ dx → b ≠ L → s.heap.get? b = some o → h'.get? b = some o) → Q () { s with heap := h', toks := s.toks + 2 }) :
    wpAny (model prog w) A (setAttr (.ref x) name v) Q E s := by
  obtain ⟨e1, e2⟩ := Prod.mk.inj e
  have hdx : s.heap.get? dx = some (dictOf es n) := by
    have := I.dict
    rw [hd] at this
    exact this
  refine set_plain X I hs (osa_dict (s := { s with toks := s.toks + 1 }) (h₀ := noObjs s.heap) (L := L) (m := m) (od := dictOf es n) (od' := dictOf es' n') (es := es') (n := n') (pre := []) (post := ledger s.heap L dx)
    (fr_all hL) (news_ledger hne hdx) X I hd hp ht hh hl (fun _ q => nomatch q) (fun ⟨_, _⟩ q => (mem_ledger.mp q).2.1) (by rw [putName_dict, e1, e2]) rfl hz fun h' F' N' => ?_)
  exact h h' F'.ns (N'.get (List.Mem.head _)) fun b o n1 n2 ho => N'.get (List.Mem.tail _ (mem_ledger.mpr ⟨n2, n1, ho⟩))
end
end Att

namespace L2
open PySem PySem.Spec PyProof.Rows

theorem vals_ints : ∀ {vs : List Value} {ns : List Int}, IntsAre vs ns → Vals (ns.map V.int) vs
  | _, _, .nil => .nil
  | _, _, .cons n t h => .cons ⟨t, rfl⟩ (vals_ints h)

/-- nothing is tracked but the script, known to the object (or it is an object of the module) -/
def Only (H : Hp) : Prop := ∀ b, H b = none ∨ ∃ o xs, H b = some (.frz o (.lst xs))

/-- THE HEAD: the law's promise, at the heap behind the top. F, the promise of the law's def, may use that base is part of the heap (so K.In base, base.Ns mainGlobals mg stand in Mod) -/
theorem law_call {P : Program} {w : World} {K : PySem.W.Frag} {mg mb : Str → Option Value} {CX : CXT} {k : Nat} {fa a : Addr} {fd : FuncData} {x : Str} {sp : Sp} {s₁ : Shared} {vs : List Value} {ns : List Int}
    (KX : K.In s₁.heap) (hns : s₁.heap.Ns mainGlobals mg) (hb : s₁.heap.Ns builtinsNs mb) (hbb : ∀ x : Str, x ≠ "__name__" → mb x = bootBuiltins x) (hlim : s₁.heap.NoLimit) (hg : s₁.gens = #[])
    (ha : s₁.heap.get? a = some { cls := .type "list", data := .seq vs.toArray }) (hi : IntsAre vs ns) (hl : ns.length ≤ sizeLine) (hr : Room k callerA)
    (F : ∀ base : Heap, K.In base → base.Ns mainGlobals mg → FnOk P w K mg base CX k fa fd [x] sp) (hbind : ∀ (s : Shared) (u : Value), BindsTo s fd ⟨[u], []⟩ [(x, u)])
    (hsp : ∀ H : Hp, Only H → SqL K H a (ns.map V.int) → sp [.ref a] H (fun v _ => v = .bl true) fun _ _ _ => False)
    (hCX : ∀ H e s', CX [] H s₁ (fun _ _ _ => False) e s' → False) :
    codeAny (model P w) callerA (.call (.ref fa) ⟨[.ref a], []⟩) (fun r s' => r = .ok (.ret (.bool true)) ∧ OldK s₁.heap s'.heap ∧ s'.os = s₁.os ∧ AllBare s'.gens) s₁ := by
  have rv := vals_ints hi
  have lenV := hi.length
  -- from an abstract heap in which nothing but the script may be tracked
  have core : ∀ H : Hp, Only H → SqL K H a (ns.map V.int) → HOk P w H s₁.heap → (∀ b, H b ≠ none → b = a) → (H a ≠ none → K.lookup a = none) →
      codeAny (model P w) callerA (.call (.ref fa) ⟨[.ref a], []⟩) (fun r s' => r = .ok (.ret (.bool true)) ∧ OldK s₁.heap s'.heap ∧ s'.os = s₁.os ∧ AllBare s'.gens) s₁ := by
    intro H hO hS hok hA hK
    have base_of : ∀ {b : Addr} {o : Obj}, s₁.heap.get? b = some o → H b = none → (hidT s₁.heap H).get? b = some o := fun e n => hidT_get e n
    have noA : ∀ {b : Addr} {o : Obj} {es : Array DictEntry} {ep : Nat}, s₁.heap.get? b = some o → o.data = .dict es ep → H b = none := fun {b o es ep} e d => by
      cases q : H b with
      | none => rfl
      | some u =>
        have e' : b = a := hA b (by rw [q]; simp)
        subst e'
        rw [ha] at e; cases e
        have d' : Data.seq vs.toArray _ = Data.dict es ep := d
        cases d'
    have nsK : ∀ {b : Addr} {m : Str → Option Value}, s₁.heap.Ns b m → (hidT s₁.heap H).Ns b m := fun {b m} ⟨o, es, ep, e, d, r⟩ => ⟨o, es, ep, base_of e (noA e d), d, r⟩
    have hKb : K.In (hidT s₁.heap H) := fun b o e => base_of (KX b o e) (by
      cases q : H b with
      | none => rfl
      | some u =>
        have e' : b = a := hA b (by rw [q]; simp)
        subst e'
        rw [hK (by rw [q]; simp)] at e; cases e)
    have hM : Mod K mg (hidT s₁.heap H) := ⟨hKb, nsK hns, ⟨mb, nsK hb, hbb⟩, let ⟨mc, h1, h2⟩ := hlim; ⟨mc, nsK h1, h2⟩⟩
    have e0 : Env0 P w K mg (hidT s₁.heap H) callerA [] s₁ H := ⟨rfl, hM, fun b o e => of_hidT e, Nat.le_of_eq (hidT_size _ _), trivial, fun b hb => absurd (show b ∈ ([] : List Addr) from hb) (by simp), hok, .of_eq hg⟩
    refine codeAny_mono ((F _ hKb (nsK hns)).run callerA [] s₁ H ⟨[.ref a], []⟩ [.ref a] [.ref a] _ _ hr e0 (hbind s₁ (.ref a)) (.cons rfl .nil) (hsp H hO hS)) fun r s' h => ?_
    cases r with
    | error e => exact (hCX H e s' h).elim
    | ok fl =>
      cases fl with
      | next => exact False.elim h
      | brk => exact False.elim h
      | cont => exact False.elim h
      | ret u =>
        obtain ⟨v, H', os, bare, un, hok', r', q⟩ := h
        have q' : v = .bl true := q
        subst q'
        obtain rfl : u = Value.bool true := r'
        refine ⟨rfl, OldK.of_keep fun b o e => ?_, os, bare⟩
        cases q : H b with
        | none => exact un.keep b o e q (by intro z; exact absurd (show b ∈ ([] : List Addr) from z) (by simp)) (by simp)
        | some u =>
          rcases hO b with z | ⟨ob, xs, z⟩
          · rw [q] at z; cases z
          · have z2 := un.frzs b ob _ z
            obtain ⟨e1, _⟩ := hok b _ z
            obtain ⟨e2, _⟩ := hok' b _ z2
            rw [e] at e1; cases e1
            exact e2
  cases hk : K.lookup a with
  | some o =>
    -- the script is one of the module's own objects
    have e := KX a o hk
    rw [ha] at e
    cases e
    refine core (fun _ => none) (fun _ => .inl rfl) (.inr ⟨_, vs.toArray, _, hk, rfl, rfl, rfl, by rw [List.size_toArray, lenV]; exact hl, by simpa using rv⟩) (fun b u z => by have z' : (none : Option HO) = some u := z; cases z') (fun b z => absurd rfl z) fun z => absurd rfl z
  | none =>
    refine core (fun b => if b = a then some (.frz { cls := .type "list", data := .seq vs.toArray } (.lst (ns.map V.int))) else none) (fun b => ?_) (.inl (.inr ⟨{ cls := .type "list", data := .seq vs.toArray }, if_pos rfl⟩)) (fun b u z => ?_) (fun b z => ?_) fun _ => hk
    · by_cases hb : b = a
      · exact .inr ⟨_, _, if_pos hb⟩
      · exact .inl (if_neg hb)
    · by_cases hb : b = a
      · have z' := (if_pos hb).symm.trans z
        cases z'
        subst hb
        exact ⟨ha, by rw [List.length_map]; exact hl, vs, _, rv, ha⟩
      · have z' := (if_neg hb).symm.trans z
        cases z'
    · by_cases hb : b = a
      · exact hb
      · exact absurd (if_neg hb) z
end L2

namespace L2
open PySem PySem.Spec PyProof.Rows

abbrev KOf {K : PySem.W.Frag} {h : Heap} (_ : K.In h) : PySem.W.Frag := K

/-- the goal that k_head leaves (case hc), from the law's promise. F gives the function object fd (K's own) once, then the promise over every base -/
theorem walk_of {l : PySem.W.OpenLaw} {n k : Nat} {q : Program} {loose : List Str} {XP : (Str → Option Value) → Heap → Prop} {YP : World → Heap → Prop} {d : DefRec} {K : Params → PySem.W.Frag} {CX : World → CXT} {sp : World → Sp} {x : Str}
    (hn : l.most = some n) (hn2 : n ≤ sizeLine) (hdf : d.params.defaults = []) (hr : Room k callerA)
    (hY : ∀ (w : World) (h : Heap), YP w h → (K w.params).In h)
    (F : ∀ (w : World) (mg : Str → Option Value) (fa : Addr) (h : Heap), (K w.params).In h → h.Ns mainGlobals mg → mg d.name = some (.ref fa) →
      ∃ fd : FuncData, (∀ (s : Shared) (u : Value), BindsTo s fd ⟨[u], []⟩ [(x, u)]) ∧
        ∀ base : Heap, (K w.params).In base → base.Ns mainGlobals mg → FnOk l.prog w (K w.params) mg base (CX w) k fa fd [x] (sp w))
    (hsp : ∀ (w : World) (H : Hp) (a : Addr) (ns : List Int), ns.length ≤ n → Only H → SqL (K w.params) H a (ns.map V.int) → sp w [.ref a] H (fun v _ => v = .bl true) fun _ _ _ => False)
    (hCX : ∀ (w : World) (H : Hp) (s : Shared) (e : Value) (s' : Shared), CX w [] H s (fun _ _ _ => False) e s' → False) :
    PySem.W.WalkO q loose XP YP l.row.toRowW d [] (fun f vs => PySem.call f vs) := by
  refine Att.attach_call hn hdf fun w s₀ s₁ mg mb fa o pm cd doc a vs ns G Y ho hd hcd hmg hobj hints hlen hg => ?_
  have KX := hY w _ Y
  obtain ⟨fd, hb, hF⟩ := F w mg fa _ KX G.T.g hmg
  exact law_call KX G.T.g G.T.b G.T.builtins G.T.nolimit hg hobj hints (Nat.le_trans hlen hn2) hr hF hb (fun H hO hS => hsp w H a ns hlen hO hS) fun H e s' => hCX w H s₁ e s'
/-- the same where the promise hangs on the written part alone: (sp := My.sp_law), no hole under a binder -/
theorem walk_ofK {l : PySem.W.OpenLaw} {n k : Nat} {q : Program} {loose : List Str} {XP : (Str → Option Value) → Heap → Prop} {YP : World → Heap → Prop} {d : DefRec} {K : Params → PySem.W.Frag} {CX : CXT} {sp : PySem.W.Frag → Sp} {x : Str}
    (hn : l.most = some n) (hn2 : n ≤ sizeLine) (hdf : d.params.defaults = []) (hr : Room k callerA)
    (hY : ∀ (w : World) (h : Heap), YP w h → (K w.params).In h)
    (F : ∀ (w : World) (mg : Str → Option Value) (fa : Addr) (h : Heap), (K w.params).In h → h.Ns mainGlobals mg → mg d.name = some (.ref fa) →
      ∃ fd : FuncData, (∀ (s : Shared) (u : Value), BindsTo s fd ⟨[u], []⟩ [(x, u)]) ∧
        ∀ base : Heap, (K w.params).In base → base.Ns mainGlobals mg → FnOk l.prog w (K w.params) mg base CX k fa fd [x] (sp (K w.params)))
    (hsp : ∀ (K : PySem.W.Frag) (H : Hp) (a : Addr) (ns : List Int), ns.length ≤ n → Only H → SqL K H a (ns.map V.int) → sp K [.ref a] H (fun v _ => v = .bl true) fun _ _ _ => False)
    (hCX : ∀ (H : Hp) (s : Shared) (e : Value) (s' : Shared), CX [] H s (fun _ _ _ => False) e s' → False) :
    PySem.W.WalkO q loose XP YP l.row.toRowW d [] (fun f vs => PySem.call f vs) :=
  walk_of (K := K) (CX := fun _ => CX) (sp := fun w => sp (K w.params)) hn hn2 hdf hr hY F (fun w H a ns h1 h2 h3 => hsp (K w.params) H a ns h1 h2 h3) fun _ H s e s' => hCX H s e s'
end L2


/-! SHORT WORDS over the layer: a def of the text, its body, what a loop and a test want. -/
namespace L2
open PySem PySem.Spec PyProof.Rows

/-! ### the text by places -/
/-- the j-th statement of a class's body -/
def inClass (s : Stmt) (j : Nat) : Stmt := match s with
  | .ClassDef _ _ _ body _ _ _ _ _ _ _ => body.getD j (.Pass ⟨0, 0, 0, 0⟩)
  | _ => .Pass ⟨0, 0, 0, 0⟩
def defArgs (s : Stmt) : Arguments := match s with
  | .FunctionDef _ a _ _ _ _ _ _ _ _ => a
  | _ => { posonlyargs := [], args := [], vararg := none, kwonlyargs := [], kw_defaults := [], kwarg := none, defaults := [] }
def defBody (s : Stmt) : List Stmt := match s with
  | .FunctionDef _ _ b _ _ _ _ _ _ _ => b
  | _ => []
def defScope (s : Stmt) : Scope := match s with
  | .FunctionDef _ _ _ _ _ _ sc _ _ _ => sc
  | _ => { kind := .function, names := [], isGenerator := false, isCoroutine := false }

/-! ### no exception leaves a def -/
abbrev CX0 : CXT := fun _ _ _ _ _ _ => False
abbrev E0 : XK := fun _ _ _ => False
theorem pass0 {X : Cx} : Passes CX0 X E0 := fun _ _ _ _ _ _ _ h => h.elim

/-! ### a def (or method) of the text as it stands behind the top -/
structure Fun (K : PySem.W.Frag) (x qual : Str) (st : Stmt) (f : Addr) (fd : FuncData) : Prop where
  ex : ∃ (oc : Value) (od : Option Addr) (kV doc pm : Value) (an : Option Addr) (cdv ct : Value) (osl : Array (Option Value)),
    fd = PySem.W.fnOf x qual (defArgs st) (defBody st) (defScope st) .none kV doc pm an cdv ct ∧ K.lookup f = some ⟨oc, od, .func fd, osl⟩ ∧ PySem.W.codeIn K cdv qual = true
  kp : PySem.W.keepIn K (.ref f) = true
section
variable {P : Program} {w : World} {K : PySem.W.Frag} {mg : Str → Option Value} {base : Heap}
/-- THE RULE for a def: its body as a term of rules, and the reading of that term -/
theorem Fun.ok {x qual : Str} {st : Stmt} {f : Addr} {fd : FuncData} {N ps : List Str} {k : Nat} {sp : Sp} (F : Fun K x qual st f fd) (S : FnScope N ps (defScope st)) (len : ∀ vs H Q E, sp vs H Q E → vs.length = ps.length)
    (hbody : ∀ (cdv : Value) (A : Around) (outer : List Env) (s : Shared) (H : Hp) (vs : List V) (Q : VK) (E : XK), Room k (A.deeper (envOfC qual (defScope st) s.heap.objs.size f cdv)) → sp vs H Q E →
      ∃ t, PSs (cxOf CX0 P w K mg base N qual (defScope st) f cdv A outer s H E).nox (defBody st) t ∧ t { nx := fun _ H' => Q .non H', rt := Q } (start N vs) H) : FnOk P w K mg base CX0 (k + 1) f fd ps sp := by
  obtain ⟨oc, od, kV, doc, pm, an, cdv, ct, osl, rfl, lk, hcd⟩ := F.ex
  refine fn_of lk hcd S len fun A outer s H vs Q E hr hsp => ?_
  obtain ⟨t, h, q⟩ := hbody cdv A outer s H vs Q E hr hsp
  exact ⟨t, h.nox, q⟩
/-- how its arguments bind (no defaults): h is «fun _ _ _ _ _ _ us hl => match us, hl with | [_, _], _ => rfl», one _ a parameter -/
theorem Fun.binds {x qual : Str} {st : Stmt} {f : Addr} {fd : FuncData} {ps : List Str} (F : Fun K x qual st f fd)
    (h : ∀ (kV doc pm : Value) (an : Option Addr) (cdv ct : Value) (us : List Value), us.length = ps.length → bindArgs (PySem.W.fnOf x qual (defArgs st) (defBody st) (defScope st) .none kV doc pm an cdv ct) ⟨us, []⟩ = pure (ps.zip us)) : Binds K fd ps [] := by
  obtain ⟨oc, od, kV, doc, pm, an, cdv, ct, osl, rfl, lk, hcd⟩ := F.ex
  exact .all (h kV doc pm an cdv ct)
theorem fun_mk {x qual : Str} {st : Stmt} {f : Addr} {oc : Value} {od an : Option Addr} {osl : Array (Option Value)} {kV doc pm cdv ct : Value} (l : K.lookup f = some ⟨oc, od, .func (PySem.W.fnOf x qual (defArgs st) (defBody st) (defScope st) .none kV doc pm an cdv ct), osl⟩)
    (c : PySem.W.codeIn K cdv qual = true) (k : PySem.W.keepIn K (.ref f) = true) : Fun K x qual st f (PySem.W.fnOf x qual (defArgs st) (defBody st) (defScope st) .none kV doc pm an cdv ct) := ⟨⟨oc, od, kV, doc, pm, an, cdv, ct, osl, rfl, l, c⟩, k⟩
end
theorem hu_of {A : Around} {k : Nat} (hr : Room k A) : A.units + 1 < cLine := Nat.lt_of_le_of_lt (Nat.add_le_add_left (by decide : 1 ≤ 64) _) hr.units
theorem small1000 {n : Nat} (h : n ≤ 1000) : n < sizeLine := Nat.lt_of_le_of_lt h (by decide)

/-! ### expressions in short: the name that stands in the i-th slot -/
section
variable {X : Cx}
theorem pv (i : Nat) {x : Str} {pos : Pos} (hN : X.N[i]? = some x := by rfl) (hv : Vis X.env.scope x := by first | exact Or.inl rfl | exact Or.inr (Or.inl rfl) | exact Or.inr (Or.inr rfl)) (hd : (x == ("__debug__" : Str)) = false := by decide)
    (hcd : (x == ("__classdict__" : Str)) = false := by decide) : PE X (.Name x pos) (tVar i) := pe_var hN hv hd hcd
/-- len of a dict -/
theorem call_lenD : CallR X (.builtin "len") (fun xs H Q => ∃ a kvs, xs = [V.ref a] ∧ H a = some (.dK kvs) ∧ Q (.int kvs.length) H) := by
  intro pins s σ H xs us Q I r h
  obtain ⟨a, kvs, rfl, ha, q⟩ := h
  obtain ⟨u, rfl, ru⟩ := vals1 r
  cases ru
  exact d_len I (.inl ha) fun t s' I' => ⟨.int kvs.length, H, I', ⟨t, rfl⟩, q⟩
end

/-! ### tests -/
theorem iteF {A B : Prop} (h : B) : if false = true then A else B := by
  rw [if_neg Bool.false_ne_true]
  exact h
theorem iteT {A B : Prop} (h : A) : if true = true then A else B := by
  rw [if_pos rfl]
  exact h
theorem ite2 {c A B : Prop} [Decidable c] (h1 : c → A) (h2 : ¬ c → B) : if c then A else B := by
  by_cases h : c
  · rw [if_pos h]
    exact h1 h
  · rw [if_neg h]
    exact h2 h
theorem iteNS {c A B : Prop} [Decidable c] (hc : c) (h : B) : if (!decide c) = true then A else B := by
  rw [decide_eq_true hc]
  exact iteF h

/-! ### heaps -/
/-- all that was tracked is as it was -/
def Same (H H' : Hp) : Prop := ∀ b o, H b = some o → H' b = some o
theorem Same.refl (H : Hp) : Same H H := fun _ _ h => h
theorem Same.trans {H H1 H2 : Hp} (a : Same H H1) (b : Same H1 H2) : Same H H2 := fun c o h => b c o (a c o h)
theorem Same.free {H H' : Hp} (e : Same H H') {l : Addr} (h : H' l = Option.none) : H l = Option.none := by
  cases q : H l with
  | none => rfl
  | some o =>
    rw [e l o q] at h
    cases h
theorem Same.seq {K : PySem.W.Frag} {H H' : Hp} {a : Addr} {xs : List V} (e : Same H H') (h : SqL K H a xs) : SqL K H' a xs := by
  rcases h with (h | ⟨o, h⟩) | h
  · exact .inl (.inl (e _ _ h))
  · exact .inl (.inr ⟨o, e _ _ h⟩)
  · exact .inr h

/-! ### a dict's pairs: keys that differ -/
section
variable {κ : Type} [DecidableEq κ]
theorem valV_not {kvs : List (κ × V)} {k : κ} (h : valV kvs k = none) : ¬ k ∈ kvs.map (·.1) := by
  intro m
  obtain ⟨p, hp, e⟩ := List.mem_map.mp m
  have q : (kvs.any fun kv => decide (kv.1 = k)) = true := List.any_eq_true.mpr ⟨p, hp, decide_eq_true e⟩
  rw [valV_any, h] at q
  exact absurd q (by simp)
theorem valV_in {kvs : List (κ × V)} {k : κ} {v : V} (h : valV kvs k = some v) : k ∈ kvs.map (·.1) := by
  have q : (kvs.any fun kv => decide (kv.1 = k)) = true := by
    rw [valV_any, h]
    all_goals rfl
  obtain ⟨p, hp, e⟩ := List.any_eq_true.mp q
  exact List.mem_map.mpr ⟨p, hp, of_decide_eq_true e⟩
theorem nd_snoc : ∀ {l : List κ} {k : κ}, l.Nodup → ¬ k ∈ l → (l ++ [k]).Nodup
  | [], k, _, _ => by simp
  | a :: r, k, h, hk => by
    obtain ⟨h1, h2⟩ := List.nodup_cons.mp h
    show (a :: (r ++ [k])).Nodup
    refine List.nodup_cons.mpr ⟨fun m => ?_, nd_snoc h2 fun m => hk (List.mem_cons.mpr (Or.inr m))⟩
    rcases List.mem_append.mp m with q | q
    · exact h1 q
    · exact hk (List.mem_cons.mpr (Or.inl (List.mem_singleton.mp q).symm))
theorem nd_putK {kvs : List (κ × V)} {k : κ} (v : V) (hn : (kvs.map (·.1)).Nodup) (h : valV kvs k = none) : ((putK kvs k v).map (·.1)).Nodup := by
  rw [putK_new v h, List.map_append]
  exact nd_snoc hn (valV_not h)
theorem dropK_pos {p : κ × V} {r : List (κ × V)} {k : κ} (e : p.1 = k) : dropK (p :: r) k = dropK r k := by
  unfold dropK
  rw [List.filter_cons, if_neg (by simp [e])]
theorem dropK_neg {p : κ × V} {r : List (κ × V)} {k : κ} (e : ¬ p.1 = k) : dropK (p :: r) k = p :: dropK r k := by
  unfold dropK
  rw [List.filter_cons, if_pos (by simp [e])]
theorem dropK_no : ∀ {kvs : List (κ × V)} {k : κ}, ¬ k ∈ kvs.map (·.1) → dropK kvs k = kvs
  | [], _, _ => rfl
  | p :: r, k, h => by
    have h' : ¬ k ∈ r.map (·.1) := fun m => by
      obtain ⟨q, hq, e⟩ := List.mem_map.mp m
      exact h (List.mem_map.mpr ⟨q, List.mem_cons.mpr (Or.inr hq), e⟩)
    rw [dropK_neg fun e => h (List.mem_map.mpr ⟨p, List.mem_cons.mpr (Or.inl rfl), e⟩), dropK_no h']
theorem dropK_mem {kvs : List (κ × V)} {k : κ} {p : κ × V} (h : p ∈ dropK kvs k) : p ∈ kvs := (List.mem_filter.mp h).1
theorem nd_dropK : ∀ {kvs : List (κ × V)} {k : κ}, (kvs.map (·.1)).Nodup → ((dropK kvs k).map (·.1)).Nodup
  | [], _, _ => List.nodup_nil
  | p :: r, k, h => by
    have h : (p.1 :: r.map (·.1)).Nodup := h
    obtain ⟨h1, h2⟩ := List.nodup_cons.mp h
    by_cases e : p.1 = k
    · rw [dropK_pos e]
      exact nd_dropK h2
    · rw [dropK_neg e]
      show (p.1 :: (dropK r k).map (·.1)).Nodup
      refine List.nodup_cons.mpr ⟨fun m => h1 ?_, nd_dropK h2⟩
      obtain ⟨q, hq, eq⟩ := List.mem_map.mp m
      exact List.mem_map.mpr ⟨q, dropK_mem hq, eq⟩
theorem dropK_len : ∀ {kvs : List (κ × V)} {k : κ}, (kvs.map (·.1)).Nodup → k ∈ kvs.map (·.1) → (dropK kvs k).length + 1 = kvs.length
  | [], _, _, m => by simp at m
  | p :: r, k, h, m => by
    have h : (p.1 :: r.map (·.1)).Nodup := h
    have m : k = p.1 ∨ k ∈ r.map (·.1) := List.mem_cons.mp m
    obtain ⟨h1, h2⟩ := List.nodup_cons.mp h
    by_cases e : p.1 = k
    · subst e
      rw [dropK_pos rfl, dropK_no h1]
      all_goals rfl
    · have m' : k ∈ r.map (·.1) := m.resolve_left fun z => e z.symm
      have q := dropK_len h2 m'
      rw [dropK_neg e, List.length_cons, List.length_cons]
      omega
end
end L2

set_option Elab.async false
set_option linter.all false
set_option maxRecDepth 100000
namespace L2
open PySem PySem.Spec PyProof.Rows

/-! ### what is known of the abstract heap: a list of addresses (all different) and what stands there -/
abbrev Kn := List (Addr × HO)
structure Has (H : Hp) (L : Kn) : Prop where
  nd : (L.map (·.1)).Nodup
  at_ : ∀ x ∈ L, H x.1 = some x.2
namespace Has
variable {H H' : Hp} {L L' X Y R : Kn} {a p : Addr} {o o' : HO} {x y : Addr × HO}
theorem nil : Has H [] := ⟨List.nodup_nil, fun _ h => nomatch h⟩
theorem get (h : Has H L) (i : Nat) (e : L[i]? = some (a, o)) : H a = some o := h.at_ (a, o) (List.mem_of_getElem? e)
theorem alloc (h : Has H L) (hp : H p = none) (o : HO) : Has (upd H p o) ((p, o) :: L) := by
  have ne : ∀ x ∈ L, x.1 ≠ p := fun x hx e => by
    have := h.at_ x hx
    rw [e, hp] at this; cases this
  refine ⟨?_, fun x hx => ?_⟩
  · rw [List.map_cons, List.nodup_cons]
    refine ⟨fun m => ?_, h.nd⟩
    obtain ⟨x, hx, e⟩ := List.mem_map.mp m
    exact ne x hx e
  · rcases List.mem_cons.mp hx with rfl | hx
    · exact upd_same
    · rw [upd_ne (ne x hx)]; exact h.at_ x hx
theorem same (h : Has H L) (s : Same H H') : Has H' L := ⟨h.nd, fun x hx => s _ _ (h.at_ x hx)⟩
/-- fewer, or in another order -/
theorem sub (h : Has H L) (s : L'.Sublist L) : Has H L' := ⟨h.nd.sublist (s.map _), fun x hx => h.at_ x (s.subset hx)⟩
theorem perm (h : Has H L) (s : L.Perm L') : Has H L' := ⟨(s.map _).nodup_iff.mp h.nd, fun x hx => h.at_ x (s.mem_iff.mpr hx)⟩
theorem tail (h : Has H (x :: L)) : Has H L := h.sub (List.sublist_cons_self _ _)
theorem right (h : Has H (X ++ R)) : Has H R := h.sub (List.sublist_append_right _ _)
theorem left (h : Has H (X ++ R)) : Has H X := h.sub (List.sublist_append_left _ _)
theorem swap2 (h : Has H (x :: y :: L)) : Has H (y :: x :: L) := h.perm (List.Perm.swap _ _ _)
theorem comm (h : Has H (X ++ (Y ++ R))) : Has H (Y ++ (X ++ R)) := h.perm (by rw [← List.append_assoc, ← List.append_assoc]; exact List.perm_append_comm.append_right R)
theorem inn (h : Has H (x :: (Y ++ R))) : Has H (Y ++ (x :: R)) := h.perm List.perm_middle.symm
theorem out (h : Has H (Y ++ (x :: R))) : Has H (x :: (Y ++ R)) := h.perm List.perm_middle
theorem ne2 (h : Has H ((a, o) :: R)) {b : Addr} (m : b ∈ R.map (·.1)) : b ≠ a := fun e => by
  have := List.nodup_cons.mp (show ((a :: R.map (·.1)).Nodup) from h.nd)
  exact this.1 (e ▸ m)
/-- one is written: the first -/
theorem put (h : Has H ((a, o) :: R)) (o' : HO) : Has (upd H a o') ((a, o') :: R) := by
  refine ⟨h.nd, fun x hx => ?_⟩
  rcases List.mem_cons.mp hx with rfl | hx
  · exact upd_same
  · rw [upd_ne (h.ne2 (List.mem_map_of_mem hx))]; exact h.at_ x (List.mem_cons_of_mem _ hx)
theorem map_set_fst : ∀ (L : Kn) (i : Nat), L[i]? = some (a, o) → (L.set i (a, o')).map (·.1) = L.map (·.1)
  | [], i, e => by simp at e
  | x :: L, 0, e => by simp at e; subst e; rfl
  | x :: L, i + 1, e => by
    simp only [List.set_cons_succ, List.map_cons]
    rw [map_set_fst L i (by simpa using e)]
/-- one is written: the i-th -/
theorem puti (h : Has H L) (i : Nat) (e : L[i]? = some (a, o)) (o' : HO) : Has (upd H a o') (L.set i (a, o')) := by
  have hi : i < L.length := (List.getElem?_eq_some_iff.mp e).1
  refine ⟨by rw [map_set_fst (o' := o') L i e]; exact h.nd, fun x hx => ?_⟩
  obtain ⟨j, hj⟩ := List.getElem?_of_mem hx
  by_cases hij : j = i
  · subst hij
    rw [List.getElem?_set_self hi] at hj
    cases hj
    exact upd_same
  · rw [List.getElem?_set_ne (Ne.symm hij)] at hj
    have hx' : x ∈ L := List.mem_of_getElem? hj
    have : x.1 ≠ a := fun z => by
      have e1 : (L.map (·.1))[i]? = some a := by rw [List.getElem?_map, e]; rfl
      have e2 : (L.map (·.1))[j]? = some a := by rw [List.getElem?_map, hj, ← z]; rfl
      obtain ⟨l1, q1⟩ := List.getElem?_eq_some_iff.mp e1
      obtain ⟨l2, q2⟩ := List.getElem?_eq_some_iff.mp e2
      exact hij ((List.getElem_inj h.nd).mp (q2.trans q1.symm))
    rw [upd_ne this]
    exact h.at_ x hx'
theorem ne (h : Has H L) (i j : Nat) {b : Addr} {u : HO} (e : L[i]? = some (a, o)) (e' : L[j]? = some (b, u)) (hij : i ≠ j) : a ≠ b := fun z => by
  have e1 : (L.map (·.1))[i]? = some a := by rw [List.getElem?_map, e]; rfl
  have e2 : (L.map (·.1))[j]? = some a := by rw [List.getElem?_map, e', ← z]; rfl
  obtain ⟨l1, q1⟩ := List.getElem?_eq_some_iff.mp e1
  obtain ⟨l2, q2⟩ := List.getElem?_eq_some_iff.mp e2
  exact hij ((List.getElem_inj h.nd).mp (q1.trans q2.symm))
end Has

/-! ### isinstance(x, T) -/
section
variable {X : Cx}
theorem call_isi : CallR X (.builtin "isinstance") (fun xs H Q => ∃ x T t b, xs = [x, .ty T] ∧ TyOf X.K H x t ∧ PySem.W.kitOne X.K t (.type T) = some b ∧ Q (.bl b) H) := by
  intro pins s σ H xs us Q I r h
  obtain ⟨x, T, t, b, rfl, ty, e, q⟩ := h
  obtain ⟨u1, u2, rfl, r1, r2⟩ := vals2 r
  cases (show u2 = Value.type T from r2)
  exact isinst_ok I r1 ty e fun tk => ⟨.bl b, H, I.tok _, rfl, q⟩
end
end L2
namespace L2
open PySem PySem.Spec PyProof.Rows
theorem SqL.alloc {K : PySem.W.Frag} {H : Hp} {a p : Addr} {xs : List V} {o : HO} (h : SqL K H a xs) (hp : H p = none) : SqL K (upd H p o) a xs :=
  Same.seq (fun b u e => by rw [upd_ne (ne_of_none e hp)]; exact e) h
theorem cut_take (xs : List V) (n : Int) (h0 : 0 ≤ n) : cutV xs none (some n) = xs.take n.toNat := by
  show ((xs.drop 0).take ((if n < 0 then (n + (xs.length : Int)).toNat else min n.toNat xs.length) - 0)) = _
  rw [if_neg (by omega), List.drop_zero, Nat.sub_zero]
  by_cases hl : n.toNat ≤ xs.length
  · rw [Nat.min_eq_left hl]
  · rw [Nat.min_eq_right (by omega), List.take_of_length_le (Nat.le_refl _), List.take_of_length_le (by omega)]
end L2
namespace L2
open PySem PySem.Spec PyProof.Rows
theorem sizeOk {n : Nat} (h : n ≤ 1000000) : n < sizeLine := Nat.lt_of_le_of_lt h (by decide)
theorem sizeOk' {n : Nat} (h : n ≤ 1000000) : n ≤ sizeLine := Nat.le_of_lt (sizeOk h)
end L2
namespace L2
theorem ifF {b : Bool} {A B : Prop} (e : b = false) (h : B) : if b = true then A else B := by subst e; exact iteF h
theorem ifT {b : Bool} {A B : Prop} (e : b = true) (h : A) : if b = true then A else B := by subst e; exact iteT h
/-- both ways of a test -/
theorem if2 {b : Bool} {A B : Prop} (h1 : b = true → A) (h2 : b = false → B) : if b = true then A else B := by
  cases b
  · exact iteF (h2 rfl)
  · exact iteT (h1 rfl)
/-- both ways of a decided test -/
theorem ifd {c : Prop} [Decidable c] {A B : Prop} (h1 : c → A) (h2 : ¬ c → B) : if decide c = true then A else B := by
  by_cases h : c
  · exact ifT (decide_eq_true h) (h1 h)
  · exact ifF (decide_eq_false h) (h2 h)
theorem ifdn {c : Prop} [Decidable c] {A B : Prop} (h1 : ¬ c → A) (h2 : c → B) : if (!decide c) = true then A else B := by
  by_cases h : c
  · exact ifF (by simp [h]) (h2 h)
  · exact ifT (by simp [h]) (h1 h)
end L2

set_option Elab.async false
set_option linter.all false
set_option maxRecDepth 100000
namespace L2
open PySem PySem.Spec PyProof.Rows

/-! ### a list comprehension of one clause -/
/-- the cells that a block takes along -/
def clOf (cells : List (Str × Addr)) : List (Str × NameKind) → List (Str × Addr) → List (Str × Addr)
  | [], acc => acc
  | (n, k) :: r, acc => if k == .free then clOf cells r ((n, (cells.lookup n).getD 0) :: acc) else clOf cells r acc
theorem closure_eq (scope : Scope) (env : Env) (h : ∀ y ∈ scope.names, y.2 = .free → ∃ c, env.cells.lookup y.1 = some c) : closureFor scope env = pure (clOf env.cells scope.names []) := by
  unfold closureFor
  have all : ∀ (l : List (Str × NameKind)) (acc : List (Str × Addr)), (∀ y ∈ l, y.2 = .free → ∃ c, env.cells.lookup y.1 = some c) →
      (forIn l acc fun x r => match x with
        | (name, kind) => if (kind == .free) = true then do let a ← cellOf env name; pure (ForInStep.yield ((name, a) :: r)) else pure (ForInStep.yield r)) = (pure (clOf env.cells l acc) : Sem _) := by
    intro l
    induction l with
    | nil => intro acc _; rfl
    | cons y l ih =>
      obtain ⟨n, k⟩ := y
      intro acc hl
      rw [List.forIn_cons]
      by_cases hk : (k == NameKind.free) = true
      · obtain ⟨c, hc⟩ := hl (n, k) List.mem_cons_self (by simpa using hk)
        have e : cellOf env n = pure c := by unfold cellOf; rw [hc]
        simp only [hk, if_true, e, pure_bind, clOf, hc, Option.getD_some]
        exact ih _ fun y hy => hl y (List.mem_cons_of_mem _ hy)
      · simp only [hk, if_false, pure_bind, clOf]
        exact ih _ fun y hy => hl y (List.mem_cons_of_mem _ hy)
  have := all scope.names [] h
  simp only [this, pure_bind]
theorem clOf_sub {cells : List (Str × Addr)} {x : Str} {c : Addr} : ∀ (l : List (Str × NameKind)) (acc : List (Str × Addr)), (∀ y ∈ l, y.2 = .free → ∃ c, cells.lookup y.1 = some c) →
    (∀ y d, acc.lookup y = some d → cells.lookup y = some d) → (clOf cells l acc).lookup x = some c → cells.lookup x = some c
  | [], acc, _, ha, h => ha x c h
  | (n, k) :: r, acc, hl, ha, h => by
    unfold clOf at h
    split at h
    · rename_i hk
      obtain ⟨d, hd⟩ := hl (n, k) List.mem_cons_self (by simpa using hk)
      refine clOf_sub r _ (fun y hy => hl y (List.mem_cons_of_mem _ hy)) (fun y e he => ?_) h
      rw [List.lookup_cons] at he
      split at he
      · rename_i hyn
        have : y = n := by simpa using hyn
        subst this
        cases he
        rw [hd]; rfl
      · exact ha y e he
    · exact clOf_sub r _ (fun y hy => hl y (List.mem_cons_of_mem _ hy)) ha h
theorem clOf_acc {cells : List (Str × Addr)} {x : Str} : ∀ (l : List (Str × NameKind)) (acc : List (Str × Addr)), (∃ c, acc.lookup x = some c) → ∃ c, (clOf cells l acc).lookup x = some c
  | [], acc, h => h
  | (n, k) :: r, acc, h => by
    unfold clOf
    split
    · refine clOf_acc r _ ?_
      rw [List.lookup_cons]
      split
      · exact ⟨_, rfl⟩
      · exact h
    · exact clOf_acc r _ h
theorem clOf_has {cells : List (Str × Addr)} {x : Str} : ∀ (l : List (Str × NameKind)) (acc : List (Str × Addr)), (x, NameKind.free) ∈ l → ∃ c, (clOf cells l acc).lookup x = some c
  | [], _, h => nomatch h
  | (n, k) :: r, acc, h => by
    unfold clOf
    rcases List.mem_cons.mp h with e | h
    · cases e
      rw [if_pos (by rfl)]
      exact clOf_acc r _ ⟨(cells.lookup x).getD 0, by rw [List.lookup_cons]; simp⟩
    · split
      · exact clOf_has r _ h
      · exact clOf_has r _ h
theorem relabel_cf {env : Env} {x : Str} : ∀ (l : List (Str × NameKind)), (∀ y ∈ l, y.2 ≠ .cell) →
    ((l.map fun (n, k) => if (k == NameKind.free && env.scope.kind == .function && env.kindOf n == some .cell) then (n, NameKind.cell) else (n, k)).lookup x = some .cell ∨
     (l.map fun (n, k) => if (k == NameKind.free && env.scope.kind == .function && env.kindOf n == some .cell) then (n, NameKind.cell) else (n, k)).lookup x = some .free) → (x, NameKind.free) ∈ l
  | [], _, h => by simp at h
  | (n, k) :: r, hl, h => by
    have ih := relabel_cf (env := env) (x := x) r fun y hy => hl y (List.mem_cons_of_mem _ hy)
    by_cases hc : (k == NameKind.free && env.scope.kind == .function && env.kindOf n == some .cell) = true
    · have hkf : k = .free := by
        rw [Bool.and_eq_true, Bool.and_eq_true] at hc
        simpa using hc.1.1
      subst hkf
      simp only [List.map_cons, hc, if_true, List.lookup_cons] at h
      cases hx : x == n with
      | true =>
        have : x = n := by simpa using hx
        subst this
        exact List.mem_cons_self
      | false =>
        simp only [hx] at h
        exact List.mem_cons_of_mem _ (ih h)
    · simp only [List.map_cons, if_neg hc, List.lookup_cons] at h
      cases hx : x == n with
      | true =>
        have : x = n := by simpa using hx
        subst this
        simp only [hx] at h
        rcases h with h | h
        · cases h
          exact absurd rfl (hl (x, .cell) List.mem_cons_self)
        · cases h
          exact List.mem_cons_self
      | false =>
        simp only [hx] at h
        exact List.mem_cons_of_mem _ (ih h)

/-- the tests of a clause -/
def PTs (X : Cx) (ifs : List Expr) (t : TT) : Prop :=
  ∀ (pins : List (Addr × Obj)) (s : Shared) (σ : St) (H : Hp) (Q : Bool → Hp → Prop), Inv X pins σ H s → t σ H Q →
    wpAny (model X.prog X.w) X.A (forIn ifs true fun c r => if r = true then do let ok ← isTrue c X.env (eval c X.env); pure (ForInStep.yield ok) else pure (ForInStep.yield r)) (TP X pins σ Q) X.xe s
def tTrue : TT := fun _ H Q => Q true H
theorem pts_nil {X : Cx} : PTs X [] tTrue := fun _ _ _ H _ I h => wpAny_tests_nil ⟨H, I, h⟩
theorem pts_one {X : Cx} {c : Expr} {t : TT} (h : PT X c t) : PTs X [c] t := fun pins s σ H Q I q => wpAny_tests_one (h pins s σ H Q I q)

theorem compLoop_go {prog : Program} {w : World} {A : Around} {R : Result → Shared → Prop} {s : Shared} {elt target iter : Expr} {ifs : List Expr} {scope : Scope} {pos : Pos} {it acc : Value} {env : Env} (I : Nat → Shared → Prop)
    (turn : ∀ n s, I n s → wpAny (model prog w) A (pyNext it) (fun r s₁ => match r with
      | none => R (.ok .next) s₁
      | some v => wpAny (model prog w) A (letOwnedTupleGo target it v) (fun _ s₀ => wpAny (model prog w) A (assign target env v) (fun _ s₂ =>
          wpAny (model prog w) A (forIn ifs true fun c r => if r = true then do let ok ← isTrue c env (eval c env); pure (ForInStep.yield ok) else pure (ForInStep.yield r)) (fun ok s₃ =>
            if ok = true then wpAny (model prog w) A (eval elt env) (fun x s₄ =>
              wpAny (model prog w) A (call (.builtin "list.append") [acc, x]) (fun _ s₅ => ∃ m, m < n ∧ I m s₅) (fun _ _ => False) s₄) (fun _ _ => False) s₃
            else ∃ m, m < n ∧ I m s₃) (fun _ _ => False) s₂) (fun _ _ => False) s₀) (fun _ _ => False) s₁) (fun _ _ => False) s)
    (n : Nat) (h : I n s) :
    codeAny (model prog w) A (.compLoop (.ListComp elt [⟨target, iter, ifs, 0⟩] scope pos) 0 it acc env) R s := by
  have no : ∀ {α : Type} {t : Sem α} {Q : α → Shared → Prop} {s : Shared} {E : Value → Shared → Prop}, wpAny (model prog w) A t Q (fun _ _ => False) s → wpAny (model prog w) A t Q E s := fun h => wpAny_mono h (fun _ _ q => q) fun _ _ z => False.elim z
  refine codeAny_loop rfl I (fun n s hI => ?_) n h
  show wpAny _ A ((compTurn (.ListComp elt [⟨target, iter, ifs, 0⟩] scope pos) 0 it acc env).onRaise (fun x => do noteFrame x env; theTreesLotGoes x)) _ _ s
  refine wpAny_noted ?_
  rw [compTurn_list]
  refine wpAny_bind (wpAny_standAt (wpAny_bind (wpAny_mono (no (turn n s hI)) (fun r s₁ h₁ => ?_) fun _ _ h' => h')))
  cases r with
  | none => exact wpAny_pure h₁
  | some v =>
    refine wpAny_bind (wpAny_mono (no h₁) (fun _ s₀ h₀ => ?_) fun _ _ h' => h')
    refine wpAny_bind (wpAny_mono (no h₀) (fun _ s₂ h₂ => wpAny_bind (wpAny_mono (no h₂) (fun ok s₃ h₃ => ?_) fun _ _ h' => h')) fun _ _ h' => h')
    cases ok with
    | false => exact wpAny_pure ⟨rfl, h₃⟩
    | true =>
      exact wpAny_bind (wpAny_bind (wpAny_mono (no h₃) (fun x s₄ h₄ => wpAny_bind (wpAny_mono (no h₄) (fun _ s₅ h₅ => wpAny_pure (wpAny_pure ⟨rfl, h₅⟩)) fun _ _ h' => h')) fun _ _ h' => h'))
end L2

set_option Elab.async false
set_option linter.all false
set_option maxRecDepth 100000
namespace L2
open PySem PySem.Spec PyProof.Rows

/-- the block of a comprehension within X -/
abbrev blk (X : Cx) (scope : Scope) (N' : List Str) (C : Addr) (s₀ : Shared) (H₀ : Hp) (fp : List Addr) (pins : List (Addr × Obj)) : Cx :=
  { X with N := N', s₀ := s₀, H₀ := H₀, env := compEnvC scope (clOf X.env.cells scope.names []) C X.env, outer := X.stack, stack := X.stack, ex := fp, fn := fun _ => false, pn := X.pn ++ pins, xe := fun _ _ => False }

/-- W: turn, measure, the items so far, the heap -/
def tLC (wi : TI) (k : Nat) (g : TG) (tc : TT) (te : TE) : TE := fun σ H Q => wi σ H fun J H1 => ∀ D, H1 D = none → ∃ W : Nat → Nat → List V → Hp → Prop, (∃ m, W 0 m [] (upd H1 D (.lst []))) ∧ ∀ i m ys H, W i m ys H → H D = some (.lst ys) ∧
  ((J.stop i H ∧ Q (.ref D) H) ∨ (J.go i H ∧ ∀ x H', J.yld i H x H' → g x (List.replicate k none ++ σ) H' fun σ2 H2 => σ2.drop k = σ ∧ tc σ2 H2 fun b H3 =>
    if b = true then te σ2 H3 fun y H4 => ys.length < sizeLine ∧ H4 D = some (.lst ys) ∧ ∃ m', m' < m ∧ W (i + 1) m' (ys ++ [y]) (upd H4 D (.lst (ys ++ [y]))) else ∃ m', m' < m ∧ W (i + 1) m' ys H3))

section
variable {X : Cx}
theorem pe_lc {elt tg iter : Expr} {ifs : List Expr} {scope : Scope} {pos : Pos} {wi : TI} {k : Nat} {g : TG} {tc : TT} {te : TE} (N' : List Str) (hc : X.calm = true) (hi : PI X tg iter wi)
    (hg : ∀ C s₀ H₀ fp pins, PG (blk X scope N' C s₀ H₀ fp pins) tg g) (ht : ∀ C s₀ H₀ fp pins, PTs (blk X scope N' C s₀ H₀ fp pins) ifs tc) (he : ∀ C s₀ H₀ fp pins, PE (blk X scope N' C s₀ H₀ fp pins) elt te)
    (hk : scope.kind = .function) (hcell : ∀ y ∈ scope.names, y.2 ≠ .cell) (hnames : ∀ y ∈ scope.names, y.2 = .local → scope.names.lookup y.1 = some .local)
    {esc : Scope} (hsc : X.env.scope = esc) (hfr' : ∀ y ∈ scope.names, y.2 = .free → esc.names.lookup y.1 = some .cell ∨ esc.names.lookup y.1 = some .free)
    (hlen : N'.length = k + X.N.length)
    (hN : ∀ (i : Nat) (x : Str), N'[i + k]? = some x → (x, NameKind.free) ∈ scope.names → X.N[i]? = some x)
    (hN2 : ∀ x ∈ N'.drop k, scope.names.lookup x ≠ some .local)
    (hs : ∀ x, foldedSetIterable iter X.env x = pure x := by intro _; rfl) :
    PE X (.ListComp elt [⟨tg, iter, ifs, 0⟩] scope pos) (tLC wi k g tc te) := by
  intro pins s σ H Q I h
  have hfr : ∀ y ∈ scope.names, y.2 = .free → X.env.kindOf y.1 = some .cell ∨ X.env.kindOf y.1 = some .free := fun y hy hf => by
    show X.env.scope.names.lookup y.1 = _ ∨ X.env.scope.names.lookup y.1 = _
    rw [hsc]; exact hfr' y hy hf
  have hcells : ∀ y ∈ scope.names, y.2 = .free → ∃ c, X.env.cells.lookup y.1 = some c := fun y hy hf => I.ok.has y.1 (hfr y hy hf)
  have hclos := closure_eq scope X.env hcells
  rw [eval_ListComp]
  refine wpAny_comprehension_free (use := none) rfl hs hclos hk hnames (thn (hi pins s σ H _ I h) fun v s1 h1 => thn h1 fun itv s2 h2 => ?_)
  obtain ⟨it, fp, tn, J, H2, e, I2, T, st2, f2, R⟩ := h2
  subst e
  refine wpAny_newObj_type ?_
  have hD : H2 s2.heap.objs.size = none := I2.hok.fresh (Nat.le_refl _)
  obtain ⟨W, ⟨m0, w0⟩, turn⟩ := R _ hD
  generalize eD : s2.heap.objs.size = D at *
  have I3 : Inv X pins σ (upd H2 D (.lst [])) { s2 with heap := s2.heap.push { cls := .type "list", dict := none, data := .seq ([] : List Value).toArray } } :=
    I2.laid (a := D) (o := .lst []) (t' := s2.toks) (fun b u e => Heap.get?_push_of_some _ e) (Nat.le_of_eq eD) ⟨Nat.zero_le _, [], 0, .nil, by rw [← eD]; exact Heap.get?_push_size _ rfl⟩
  generalize e3 : ({ s2 with heap := s2.heap.push { cls := .type "list", dict := none, data := .seq ([] : List Value).toArray } } : Shared) = s3 at *
  have st3 : tn 0 s3.heap := T.keep _ _ _ st2 fun b _ o e => by rw [← e3]; exact Heap.get?_push_of_some _ e
  have lt2 : ∀ b ∈ fp, b < s2.heap.objs.size := fun b hb => by
    obtain ⟨o, e, _⟩ := T.obj _ _ st2 b hb
    exact Heap.lt_size e
  have neD : ∀ b ∈ fp, b ≠ D := fun b hb => by
    have := lt2 b hb
    rw [eD] at this
    exact Nat.ne_of_lt this
  have f3 : ∀ b ∈ fp, FpOk X pins (upd H2 D (.lst [])) b := fun b hb => ⟨by rw [upd_ne (neD b hb)]; exact (f2 b hb).1, (f2 b hb).2⟩
  generalize upd H2 D (.lst []) = H3 at *
  refine wpAny_newFunctionEnv hcell (by intro y hy; simp at hy) (fun h₁ hns₁ hsb₁ => ?_) hk
  try dsimp only at hns₁ hsb₁ ⊢
  have lt3 : ∀ b ∈ fp, b < s3.heap.objs.size := fun b hb => by
    obtain ⟨o, e, _⟩ := T.obj _ _ st3 b hb
    exact Heap.lt_size e
  generalize eC : s3.heap.objs.size = C at *
  have kp : ∀ b o, s3.heap.get? b = some o → h₁.get? b = some o := fun b o e => (hsb₁.2 b (by rw [← eC]; exact Nat.ne_of_lt (Heap.lt_size e))).trans (Heap.get?_push_of_some _ e)
  have subC : ∀ x c, (clOf X.env.cells scope.names []).lookup x = some c → X.env.cells.lookup x = some c := fun x c e => clOf_sub scope.names [] hcells (fun y d z => by simp at z) e
  have hCnone : H3 C = none := I3.hok.fresh (Nat.le_of_eq eC)
  have ok' : (blk X scope N' C s3 H3 fp pins).Ok := {
    mod := I3.ok.mod
    kind := hk
    glob := I3.ok.glob
    blt := I3.ok.blt
    above := Nat.le_of_eq eC
    inj := fun x y c a b => I3.ok.inj x y c (subC x c a) (subC y c b)
    has := fun x hx => clOf_has scope.names [] (relabel_cf scope.names hcell hx)
    cab := fun x c a _ => absurd a Bool.false_ne_true
    hd := I3.ok.hd
    frames := I3.ok.frames
    stk := .inl rfl
    exf := fun b hb => ⟨by have := lt3 b hb; exact Nat.ne_of_lt this, fun x c e => (f3 b hb).2.2.2.2.1 x c (subC x c e)⟩
    bs := I3.bs
    bsz := Nat.le_trans I3.ok.bsz I3.sz
    noex := fun b o e hb => by
      rcases (f3 b hb).2.2.2.1 with z | z
      · exact I3.ok.noex b o e z
      · exact absurd (Nat.lt_of_lt_of_le (Heap.lt_size e) (Nat.le_trans I3.ok.bsz z)) (Nat.lt_irrefl _)
    exfs := fun b hb z => by
      rcases List.mem_cons.mp (I3.stkSub b z) with e | e
      · exact (f3 b hb).2.1 e
      · exact (f3 b hb).2.2.1 e
    funs := I3.stack
    frf := I3.stkFree }
  have s4os : ({ s3 with heap := h₁, toks := s3.toks + ([] : List (Str × Value)).length } : Shared).os = s3.os := rfl
  generalize e4 : ({ s3 with heap := h₁, toks := s3.toks + ([] : List (Str × Value)).length } : Shared) = s4 at *
  have h4 : s4.heap = h₁ := by rw [← e4]
  have J4 : Inv (blk X scope N' C s3 H3 fp pins) [] (List.replicate k none ++ σ) H3 s4 := by
    refine ⟨ok', s4os, by rw [← e4]; exact I3.bare, ?_, ⟨_, by rw [h4]; exact hns₁, fun i x v e1 e2 e5 => ?_⟩, fun x c e => ?_, hCnone, fun x c e => I3.freeC x c (subC x c e), fun p hp => ?_, ?_, ?_⟩
    · rw [h4]; exact Un.kept kp
    · have hik : ¬ i < k := fun hlt => by
        rw [List.getElem?_append_left (by rw [List.length_replicate]; exact hlt), List.getElem?_replicate] at e2
        split at e2 <;> cases e2
      obtain ⟨j, rfl⟩ : ∃ j, i = j + k := ⟨i - k, by omega⟩
      have e2' : σ[j]? = some (some v) := by
        rw [List.getElem?_append_right (by rw [List.length_replicate]; omega), List.length_replicate] at e2
        have : j + k - k = j := by omega
        rw [this] at e2; exact e2
      have nl : (relabel scope X.env).names.lookup x ≠ some .local := fun z => by
        have q : ∀ (l : List (Str × NameKind)), (l.map fun (n, k) => if (k == NameKind.free && X.env.scope.kind == .function && X.env.kindOf n == some .cell) then (n, NameKind.cell) else (n, k)).lookup x = some .local → l.lookup x = some .local := by
          intro l
          induction l with
          | nil => intro z; simp at z
          | cons y l ih =>
            obtain ⟨n, kk⟩ := y
            intro z
            by_cases hcc : (kk == NameKind.free && X.env.scope.kind == .function && X.env.kindOf n == some .cell) = true
            · simp only [List.map_cons, if_pos hcc, List.lookup_cons] at z ⊢
              cases hx : x == n with
              | true => simp only [hx] at z; cases z
              | false => simp only [hx] at z ⊢; exact ih z
            · simp only [List.map_cons, if_neg hcc, List.lookup_cons] at z ⊢
              cases hx : x == n with
              | true => simp only [hx] at z ⊢; exact z
              | false => simp only [hx] at z ⊢; exact ih z
        exact hN2 x (List.mem_of_getElem? (i := j) (by rw [List.getElem?_drop, Nat.add_comm]; exact e1)) (q _ z)
      have hcf : (relabel scope X.env).names.lookup x = some .cell ∨ (relabel scope X.env).names.lookup x = some .free := by
        rcases e5 with z | z | z
        · exact absurd z nl
        · exact .inl z
        · exact .inr z
      have hmem : (x, NameKind.free) ∈ scope.names := relabel_cf scope.names hcell hcf
      have hx := hN j x e1 hmem
      obtain ⟨mo, _, hl⟩ := I3.loc
      have hkx := hfr (x, .free) hmem rfl
      obtain ⟨u, ru, lk⟩ := hl j x v hx e2' (by
        rcases hkx with z | z
        · exact .inr (.inl z)
        · exact .inr (.inr z))
      refine ⟨u, ru, .inr ⟨hcf, ?_⟩⟩
      rcases lk with ⟨z, _⟩ | ⟨_, c, hc1, hc2⟩
      · rcases hkx with q | q
        · rw [q] at z; cases z
        · rw [q] at z; cases z
      · obtain ⟨c', hc'⟩ := clOf_has (cells := X.env.cells) scope.names [] hmem
        have := subC x c' hc'
        rw [hc1] at this; cases this
        obtain ⟨oc, h5, h6⟩ := hc2
        exact ⟨c, hc', oc, by rw [h4]; exact kp _ _ h5, h6⟩
    · obtain ⟨v, oc, h5, h6⟩ := I3.cell x c (subC x c e)
      exact ⟨v, oc, by rw [h4]; exact kp _ _ h5, h6⟩
    · have hp' : p ∈ X.pn ++ pins := by simpa using hp
      obtain ⟨a1, a2, a3, a4, a5⟩ := I3.pin p hp'
      refine ⟨by rw [h4]; exact kp _ _ a1, a2, ?_, fun z => ?_, a5⟩
      · have := Heap.lt_size a1
        rw [eC] at this
        exact Nat.ne_of_lt this
      · rcases List.mem_cons.mp (I3.stkSub p.1 z) with q | q
        · exact a3 q
        · exact a4 q
    · rw [h4]; exact I3.hok.kept kp
    · rw [List.length_append, List.length_replicate, I3.len]; exact hlen.symm
  have stat : ∀ {H' : Hp}, (∀ b ∈ fp, H' b = none) → ∀ b ∈ fp, FpOk (blk X scope N' C s3 H3 fp pins) [] H' b := fun hn b hb =>
    ⟨hn b hb, (ok'.exf b hb).1, ok'.exfs b hb, .inl hb, fun x c e => (ok'.exf b hb).2 x c e, fun p hp => (f3 b hb).2.2.2.2.2 p (by simpa using hp)⟩
  have fr4 : ∀ b ∈ fp, H3 b = none := fun b hb => (f3 b hb).1
  have st4 : tn 0 s4.heap := T.keep _ _ _ st3 fun b _ o e => by rw [h4]; exact kp _ _ e
  -- the loop
  have loop : codeAny (model X.prog X.w) X.A (.compLoop (.ListComp elt [⟨tg, iter, ifs, 0⟩] scope pos) 0 (.ref it) (.ref D) (compEnvC scope (clOf X.env.cells scope.names []) C X.env))
      (compPost (model X.prog X.w) X.A X.xe none (EP X pins σ Q) (.ref D) C) s4 := by
    refine compLoop_go (fun n s' => ∃ i ys H', Inv (blk X scope N' C s3 H3 fp pins) [] (List.replicate k none ++ σ) H' s' ∧ tn i s'.heap ∧ (∀ b ∈ fp, H' b = none) ∧ W i n ys H') ?_ m0 ⟨0, [], H3, J4, st4, fr4, w0⟩
    rintro n s5 ⟨i, ys, H5, I5, st5, fr5, w5⟩
    obtain ⟨hDl, stp⟩ := turn i n ys H5 w5
    rcases stp with ⟨stop, qn⟩ | ⟨go, step⟩
    · refine thn (T.done (blk X scope N' C s3 H3 fp pins) rfl rfl rfl hc i [] s5 _ H5 (fun _ _ => False) I5 (stat fr5) st5 stop) fun r s6 ⟨hr, I6⟩ => ?_
      subst hr
      obtain ⟨m6, ns6, _⟩ := id I6.loc
      refine ⟨m6, ns6, fun h' hsb => ⟨.ref D, H5, ?_, rfl, qn⟩⟩
      have hC5 : H5 C = none := I6.free
      have un6 : Un (frs X.stack) fp H3 H5 s3.heap s6.heap := I6.base
      have neC : ∀ b o, s3.heap.get? b = some o → b ≠ C := fun b o e => by
        have := Heap.lt_size e
        rw [eC] at this
        exact Nat.ne_of_lt this
      refine I3.call' (s' := { s6 with heap := h' }) (ch := fp) I6.os ⟨fun b o e a1 a2 a3 => ?_, fun b o e a1 a2 a3 => ?_, un6.free, fun b o e a3 => ?_, un6.tups, un6.frzs, un6.tbls⟩ ?_ I6.bare (fun b hb => ?_)
      · exact (hsb.2 b (neC b o e)).trans (un6.keep b o e a1 a2 a3)
      · obtain ⟨sl, z⟩ := un6.slot b o e a1 a2 a3
        exact ⟨sl, (hsb.2 b (neC b o e)).trans z⟩
      · obtain ⟨o', z⟩ := un6.there b o e a3
        exact ⟨o', (hsb.2 b (neC b o e)).trans z⟩
      · intro b u e
        refine (I6.hok b u e).stay (fun c w' hcc q => (hsb.2 c ?_).trans q) (fun _ q => q) fun _ _ q => q
        rintro rfl
        rcases hcc with z | z
        · rw [z, e] at hC5; cases hC5
        · rw [z] at hC5; cases hC5
      · exact ⟨(f3 b hb).2.2.2.1, (f3 b hb).2.1, (f3 b hb).2.2.2.2.1, (f3 b hb).2.2.2.2.2⟩
    · refine thn (T.item (blk X scope N' C s3 H3 fp pins) rfl rfl rfl hc i [] s5 _ H5 (fun _ _ => False) I5 (stat fr5) st5 go) fun r s6 ⟨u, hr, h6⟩ => ?_
      subst hr
      refine thn h6 fun _ s7 ⟨x, H7, I7, r7, y7, st7, fr7⟩ => ?_
      have I7' := I7.pinned (stat fr7) (T.obj _ _ st7)
      refine thn (hg C s3 H3 fp pins _ s7 _ H7 x u _ I7' r7 (step x H7 y7)) fun _ s8 ⟨σ8, H8, I8, d8, q8⟩ => ?_
      refine thn (ht C s3 H3 fp pins _ s8 σ8 H8 _ I8 q8) fun b s9 ⟨H9, I9, q9⟩ => ?_
      have kz : ∀ (j : Nat) v, (List.replicate k none ++ σ)[j]? = some (some v) → σ8[j]? = some (some v) := fun j v e => by
        have hik : ¬ j < k := fun hlt => by
          rw [List.getElem?_append_left (by rw [List.length_replicate]; exact hlt), List.getElem?_replicate] at e
          split at e <;> cases e
        rw [List.getElem?_append_right (by rw [List.length_replicate]; omega), List.length_replicate, ← d8, List.getElem?_drop] at e
        have : k + (j - k) = j := by omega
        rw [this] at e; exact e
      have again : ∀ {Hz : Hp} {sz : Shared} {zs : List V} {m' : Nat}, Inv (blk X scope N' C s3 H3 fp pins) ([] ++ pinsAt fp s7.heap) σ8 Hz sz → m' < n → W (i + 1) m' zs Hz →
          ∃ m, m < n ∧ ∃ i ys H', Inv (blk X scope N' C s3 H3 fp pins) [] (List.replicate k none ++ σ) H' sz ∧ tn i sz.heap ∧ (∀ b ∈ fp, H' b = none) ∧ W i m ys H' := fun {Hz sz zs m'} Iz hm wz => by
        refine ⟨m', hm, i + 1, zs, Hz, (Iz.unpinned).weak ?_ kz, T.keep _ _ _ st7 fun b hb o e => (Iz.pin (b, o) (List.mem_append_right _ (List.mem_append_right _ (mem_pinsAt hb e)))).1, fun b hb => ?_, wz⟩
        · rw [Iz.len]; exact I5.len
        · obtain ⟨o, e, d⟩ := T.obj _ _ st7 b hb
          exact (Iz.pin (b, o) (List.mem_append_right _ (List.mem_append_right _ (mem_pinsAt hb e)))).2.1
      cases b with
      | false =>
        obtain ⟨m', hm, w9⟩ := (show ∃ m', m' < n ∧ W (i + 1) m' ys H9 by simpa using q9)
        rw [if_neg Bool.false_ne_true]
        exact again I9 hm w9
      | true =>
        rw [if_pos rfl] at q9 ⊢
        refine thn (he C s3 H3 fp pins _ s9 σ8 H9 _ I9 q9) fun u9 s10 ⟨y, H10, I10, r10, hz, hD10, m', hm, w10⟩ => ?_
        refine thn (mt_append (X := blk X scope N' C s3 H3 fp pins) _ s10 σ8 H10 (.ref D) [y] (.ref D) [u9] (fun _ H' => H' = upd H10 D (.lst (ys ++ [y]))) I10 rfl (.cons r10 .nil) ⟨D, ys, y, rfl, rfl, hD10, hz, rfl⟩) fun _ s11 ⟨_, H11, I11, _, e11⟩ => ?_
        subst e11
        exact again I11 hm w10
  exact codeAny_compStart_list loop (T.self _ 0 _ _ _ st4 loop)
end
end L2

set_option Elab.async false
set_option linter.all false
set_option maxRecDepth 100000
namespace L2
open PySem PySem.Spec PyProof.Rows

section
variable {X : Cx} {pins : List (Addr × Obj)} {σ : St} {H : Hp} {s : Shared} {h' : Heap}
/-- the iterator's objects have turned -/
theorem Inv.turnedL {t' : Nat} {fp : List Addr} (I : Inv X pins σ H s) (k : ∀ b o, b ∉ fp → s.heap.get? b = some o → h'.get? b = some o) (hf : ∀ b ∈ fp, FpOk X pins H b) : Inv X pins σ H { s with heap := h', toks := t' } := by
  have nit : ∀ b u, H b = some u → b ∉ fp := fun b u e z => by rw [(hf b z).1] at e; cases e
  refine I.step (g' := s.gens) (d' := s.drawn) (ch := fp) (fun b hb => ⟨(hf b hb).2.2.2.1, (hf b hb).2.1, (hf b hb).2.2.2.2.1, (hf b hb).2.2.2.2.2⟩) (fun b o _ _ hc e _ => k b o hc e) (fun b o _ _ hc e _ => ⟨o.slots, k b o hc e⟩) (fun _ _ _ _ n => n)
    (fun b o hc e => ⟨o, k b o hc e⟩) (fun _ _ e => e) (fun _ _ _ e => e) (fun b ps e => ⟨#[], by rw [e]; simp⟩) (fun m hm => ?_) (fun b u e => ?_) I.bare
  · obtain ⟨o, es, ep, ho, r⟩ := hm
    exact ⟨o, es, ep, k _ o (fun z => (hf _ z).2.1 rfl) ho, r⟩
  · refine (I.hok b u e).stay (fun c v hc q => k c v ?_ q) (fun _ q => q) fun _ _ q => q
    rcases hc with z | z
    · rw [z]; exact nit b u e
    · exact nit c _ z
/-- a new object, made already, is tracked -/
theorem Inv.track {p : Addr} {o : HO} (I : Inv X pins σ H s) (hp : X.s₀.heap.objs.size ≤ p) (hL : p ≠ X.env.locals) (hc : ∀ x c, X.env.cells.lookup x = some c → c ≠ p) (hpin : ∀ q ∈ X.pn ++ pins, q.1 ≠ p) (hn : H p = none)
    (new : ObjOk X.prog X.w (upd H p o) s.heap p o) : Inv X pins σ (upd H p o) s := by
  refine ⟨I.ok, I.os, I.bare, ⟨I.base.keep, I.base.slot, fun b ob e n hx => ?_, I.base.there, fun b xs e => ?_, fun b ob u e => ?_, fun b ps e => ?_⟩, I.loc, I.cell, by rw [upd_ne (Ne.symm hL)]; exact I.free, fun x c e => by rw [upd_ne (hc x c e)]; exact I.freeC x c e, fun q hq => ?_, fun b u e => ?_, I.len⟩
  · rw [upd_ne (Nat.ne_of_lt (Nat.lt_of_lt_of_le (Heap.lt_size e) hp))]; exact I.base.free b ob e n hx
  · have := I.base.tups b xs e
    rw [upd_ne (ne_of_none this hn)]; exact this
  · have := I.base.frzs b ob u e
    rw [upd_ne (ne_of_none this hn)]; exact this
  · obtain ⟨more, e2⟩ := I.base.tbls b ps e
    exact ⟨more, by rw [upd_ne (ne_of_none e2 hn)]; exact e2⟩
  · obtain ⟨a1, a2, a3, a4, a5⟩ := I.pin q hq
    exact ⟨a1, by rw [upd_ne (hpin q hq)]; exact a2, a3, a4, a5⟩
  · by_cases hb : b = p
    · subst hb; rw [upd_same] at e; cases e; exact new
    · rw [upd_ne hb] at e
      exact (I.hok b u e).stay (fun _ _ _ q => q) (fun c q => by rw [upd_ne (ne_of_none q hn)]; exact q) fun c xs q => by rw [upd_ne (ne_of_none q hn)]; exact q
end

/-- zip of the lists at a and b: a new tuple each turn -/
def Itz (K : PySem.W.Frag) (a b : Addr) : It :=
  ⟨fun i H => ∃ xs x ys y, SqL K H a xs ∧ xs[i]? = some x ∧ SqL K H b ys ∧ ys[i]? = some y,
   fun i H v H' => ∃ p x y, v = .ref p ∧ H p = none ∧ H' = upd H p (.tup [x, y]) ∧ (∀ xs, SqL K H a xs → xs[i]? = some x) ∧ ∀ ys, SqL K H b ys → ys[i]? = some y,
   fun i H => ∃ xs ys, SqL K H a xs ∧ SqL K H b ys ∧ (xs.length ≤ i ∨ ys.length ≤ i)⟩
theorem turn_zip {P : Program} {w : World} {K : PySem.W.Frag} {es : List Expr} {x1} {pos : Pos} (a b z TI TO i1 i2 : Addr) : Turn P w K (.Tuple es x1 pos) (Itz K a b) [z, TI, TO, i1, i2] z
    (fun i h => IsZip h z TI TO .none ∧ IsPair h TI (.ref i1) (.ref i2) ∧ (∃ u v, IsPair h TO u v) ∧ h.IsListIter i1 a i ∧ h.IsListIter i2 b i ∧ TI ≠ TO ∧ i1 ≠ i2) where
  mem := by simp
  obj := fun i h ⟨hz, hTI, ⟨u, v, hTO⟩, h1, h2, _⟩ c hc => by
    simp only [List.mem_cons, List.not_mem_nil, or_false] at hc
    rcases hc with rfl | rfl | rfl | rfl | rfl
    · exact ⟨_, hz, fun v q => by cases (show Data.fields _ = Data.cell v from q)⟩
    · exact ⟨_, hTI, fun v q => by cases (show Data.seq _ _ = Data.cell v from q)⟩
    · exact ⟨_, hTO, fun v q => by cases (show Data.seq _ _ = Data.cell v from q)⟩
    · obtain ⟨o, e, _, d⟩ := h1
      exact ⟨o, e, fun v q => by rw [d] at q; cases q⟩
    · obtain ⟨o, e, _, d⟩ := h2
      exact ⟨o, e, fun v q => by rw [d] at q; cases q⟩
  keep := fun i h h' ⟨hz, hTI, ⟨u, v, hTO⟩, h1, h2, n1, n2⟩ k => ⟨k z (by simp) _ hz, k TI (by simp) _ hTI, ⟨u, v, k TO (by simp) _ hTO⟩, h1.at fun o e => k i1 (by simp) o e, h2.at fun o e => k i2 (by simp) o e, n1, n2⟩
  item := by
    intro X hP hw hK hc i pins s σ H E I hf ⟨hz, hTI, ⟨u, v, hTO⟩, h1, h2, n1, n2⟩ hg
    subst hP hw hK
    obtain ⟨xs, x, ys, y, hqa, hx, hqb, hy⟩ := hg
    obtain ⟨its, rv, p, hsz⟩ := I.list hqa
    obtain ⟨jts, rw', p', hsz'⟩ := I.list hqb
    obtain ⟨ux, hux, rux⟩ := rv.get hx
    obtain ⟨uy, huy, ruy⟩ := rw'.get hy
    have D : ZipApart z TI TO i1 i2 a b := by
      obtain ⟨oa, ea, ca, _, _⟩ := p.isList
      obtain ⟨ob, eb, cb, _, _⟩ := p'.isList
      obtain ⟨o1, e1, c1, _⟩ := h1
      obtain ⟨o2, e2, c2, _⟩ := h2
      have dz : ∀ {c : Addr} {o : Obj} {T : String}, s.heap.get? c = some o → o.cls = .type T → T ≠ "zip" → c ≠ z := fun e q n r => by
        rw [r, hz] at e; cases e; cases q; exact n rfl
      have dT : ∀ {c d : Addr} {o q : Obj} {T U : String}, s.heap.get? c = some o → o.cls = .type T → s.heap.get? d = some q → q.cls = .type U → T ≠ U → c ≠ d := fun e1 c1 e2 c2 n r => by
        subst r; rw [e1] at e2; cases e2; rw [c1] at c2; cases c2; exact n rfl
      exact ⟨dz hTI rfl (by decide), dz hTO rfl (by decide), dz e1 c1 (by decide), dz e2 c2 (by decide), n1, dT hTI rfl e1 c1 (by decide), dT hTI rfl e2 c2 (by decide), dT hTO rfl e1 c1 (by decide), dT hTO rfl e2 c2 (by decide), n2,
        dz ea ca (by decide), dT ea ca hTO rfl (by decide), dT ea ca e1 c1 (by decide), dT ea ca e2 c2 (by decide), dz eb cb (by decide), dT eb cb hTO rfl (by decide), dT eb cb e1 c1 (by decide), dT eb cb e2 c2 (by decide)⟩
    refine wpAny_pyNext_zip_item D hz hTI hTO h1 h2 p.isList p'.isList (x := ux) (y := uy) (by simpa using hux) (by simpa using huy) fun h' a1 a2 a3 a4 a5 a6 hk => ?_
    refine ⟨_, rfl, ?_⟩
    refine wpAny_letOwnedTupleGo_zip (s := { s with heap := h' }) a1 fun h2' hz' hs' => ?_
    have lt : ∀ b ∈ [z, TI, TO, i1, i2], b < s.heap.objs.size := fun c hcm => by
      simp only [List.mem_cons, List.not_mem_nil, or_false] at hcm
      rcases hcm with rfl | rfl | rfl | rfl | rfl
      · exact Heap.lt_size hz
      · exact Heap.lt_size hTI
      · exact Heap.lt_size hTO
      · obtain ⟨o, e, _⟩ := h1; exact Heap.lt_size e
      · obtain ⟨o, e, _⟩ := h2; exact Heap.lt_size e
    have hTI2 : IsPair h2' TI (.ref i1) (.ref i2) := hs'.extBut _ _ D.TIz (hk _ _ D.TIz D.TITO D.TIi1 D.TIi2 hTI)
    have hTO2 : IsPair h2' TO ux uy := hs'.extBut _ _ D.TOz a2
    have h12 : h2'.IsListIter i1 a (i + 1) := a3.extBut hs'.extBut D.i1z
    have h22 : h2'.IsListIter i2 b (i + 1) := a4.extBut hs'.extBut D.i2z
    have pz : s.heap.objs.size ≠ z := Nat.ne_of_gt (Heap.lt_size hz)
    have hp2 : IsPair h2' s.heap.objs.size ux uy := hs'.extBut _ _ pz a5
    have kk : ∀ c o, c ∉ [z, TI, TO, i1, i2] → s.heap.get? c = some o → h2'.get? c = some o := fun c o hcm e => by
      simp only [List.mem_cons, List.not_mem_nil, or_false, not_or] at hcm
      exact hs'.extBut _ _ hcm.1 (hk c o hcm.1 hcm.2.2.1 hcm.2.2.2.1 hcm.2.2.2.2 e)
    have I1 : Inv X pins σ H { s with heap := h2', toks := s.toks } := I.turnedL kk hf
    have fP : FpOk X pins H s.heap.objs.size := I.fpOk (Nat.le_refl _) (I.hok.fresh (Nat.le_refl _))
    have I2 : Inv X pins σ (upd H s.heap.objs.size (.tup [x, y])) { s with heap := h2', toks := s.toks } := by
      refine I1.track I.sz (fP.2.1) fP.2.2.2.2.1 fP.2.2.2.2.2 fP.1 ?_
      exact ⟨(show 2 ≤ sizeLine by decide), [ux, uy], .cons rux (.cons ruy .nil), ⟨_, hp2, rfl, _, rfl⟩⟩
    refine ⟨.ref s.heap.objs.size, _, I2, rfl, ⟨_, x, y, rfl, fP.1, rfl, fun zs hzs => by rw [I.list_inj hzs hqa]; exact hx, fun zs hzs => by rw [I.list_inj hzs hqb]; exact hy⟩, ⟨hz', hTI2, ⟨_, _, hTO2⟩, h12, h22, n1, n2⟩, fun c hcm => ?_⟩
    rw [upd_ne (Nat.ne_of_lt (lt c hcm))]
    exact (hf c hcm).1
  done := by
    intro X hP hw hK hc i pins s σ H E I hf ⟨hz, hTI, ⟨u, v, hTO⟩, h1, h2, n1, n2⟩ hg
    subst hP hw hK
    obtain ⟨xs, ys, hqa, hqb, hend⟩ := hg
    obtain ⟨its, rv, p, hsz⟩ := I.list hqa
    obtain ⟨jts, rw', p', hsz'⟩ := I.list hqb
    have D : ZipApart z TI TO i1 i2 a b := by
      obtain ⟨oa, ea, ca, _, _⟩ := p.isList
      obtain ⟨ob, eb, cb, _, _⟩ := p'.isList
      obtain ⟨o1, e1, c1, _⟩ := h1
      obtain ⟨o2, e2, c2, _⟩ := h2
      have dz : ∀ {c : Addr} {o : Obj} {T : String}, s.heap.get? c = some o → o.cls = .type T → T ≠ "zip" → c ≠ z := fun e q n r => by
        rw [r, hz] at e; cases e; cases q; exact n rfl
      have dT : ∀ {c d : Addr} {o q : Obj} {T U : String}, s.heap.get? c = some o → o.cls = .type T → s.heap.get? d = some q → q.cls = .type U → T ≠ U → c ≠ d := fun e1 c1 e2 c2 n r => by
        subst r; rw [e1] at e2; cases e2; rw [c1] at c2; cases c2; exact n rfl
      exact ⟨dz hTI rfl (by decide), dz hTO rfl (by decide), dz e1 c1 (by decide), dz e2 c2 (by decide), n1, dT hTI rfl e1 c1 (by decide), dT hTI rfl e2 c2 (by decide), dT hTO rfl e1 c1 (by decide), dT hTO rfl e2 c2 (by decide), n2,
        dz ea ca (by decide), dT ea ca hTO rfl (by decide), dT ea ca e1 c1 (by decide), dT ea ca e2 c2 (by decide), dz eb cb (by decide), dT eb cb hTO rfl (by decide), dT eb cb e1 c1 (by decide), dT eb cb e2 c2 (by decide)⟩
    have e1 := rv.length
    have e2 := rw'.length
    refine wpAny_pyNext_zip_end (I.ok.hd hc) D hz hTI hTO h1 h2 p.isList p'.isList (k1 := i) (k2 := i) (by
      rcases hend with h | h
      · left; simp; omega
      · right; simp; omega) fun h' hk => ⟨rfl, ?_⟩
    exact I.turnedL (t' := s.toks) (fun c o hcm e => by
      simp only [List.mem_cons, List.not_mem_nil, or_false, not_or] at hcm
      exact hk c o hcm.1 hcm.2.2.1 hcm.2.2.2.1 hcm.2.2.2.2 e) hf
  self := fun _ _ _ _ _ st h => wpAny_pyIter_zip st.1 h
section
variable {X : Cx}
def iZip (K : PySem.W.Frag) (ta : TA) : TI := fun σ H R => ta σ H fun vs H1 => ∃ a b, vs = [.ref a, .ref b] ∧ (∃ xs, SqL K H1 a xs) ∧ (∃ ys, SqL K H1 b ys) ∧ R (Itz K a b) H1
theorem pi_zip {es : List Expr} {x1} {tpos : Pos} {e1 e2 : Expr} {ta : TA} {p pos : Pos} (hg : Gl X "zip") (hm : X.mg "zip" = none) (ha : PA X [e1, e2] ta) (hs : starEach [e1, e2] X.env = [(false, eval e1 X.env), (false, eval e2 X.env)] := by rfl) (hs2 : starEach [e2] X.env = [(false, eval e2 X.env)] := by rfl) :
    PI X (.Tuple es x1 tpos) (.Call (.Name "zip" p) [e1, e2] [] pos) (iZip X.K ta) := by
  intro pins s σ H R I h
  refine Call_ (ld_blt I hg hm (by rfl) (PyProof.Rows.callWith_type1 (thn (ha pos pins s σ H _ I h) fun us s1 ⟨vs, H1, I1, r1, q1⟩ => ?_) (by rw [hs, hs2]) (by rw [hs2]; rfl)))
  obtain ⟨a, b, rfl, ⟨xs, hqa⟩, ⟨ys, hqb⟩, q⟩ := q1
  obtain ⟨u1, u2, rfl, ru1, ru2⟩ := vals2 r1
  cases (show u1 = Value.ref a from ru1)
  cases (show u2 = Value.ref b from ru2)
  obtain ⟨its, rv, pa, hsz⟩ := I1.list hqa
  obtain ⟨jts, rw', pb, hsz'⟩ := I1.list hqb
  refine call_zip_2 pa.isList pb.isList fun h' hz hTI hTO h1 h2 hsize hk => ?_
  refine wpAny_pyIter_zip (s := { s1 with heap := h' }) hz ?_
  refine ⟨_, _, _, _, H1, rfl, I1.kept (t' := s1.toks) hk, turn_zip a b (s1.heap.objs.size + 4) (s1.heap.objs.size + 2) (s1.heap.objs.size + 3) s1.heap.objs.size (s1.heap.objs.size + 1), ⟨hz, hTI, ⟨_, _, hTO⟩, h1, h2, (fun z => by have : s1.heap.objs.size + 2 = s1.heap.objs.size + 3 := z; omega), (fun z => by have : s1.heap.objs.size = s1.heap.objs.size + 1 := z; omega)⟩, fun c hc => ?_, q⟩
  have hge : s1.heap.objs.size ≤ c := by
    simp only [List.mem_cons, List.not_mem_nil, or_false] at hc
    rcases hc with h | h | h | h | h <;> (rw [h]; omega)
  exact I1.fpOk hge (I1.hok.fresh hge)
end

/-- enumerate of the list at a -/
def Ite (K : PySem.W.Frag) (a : Addr) : It :=
  ⟨fun i H => ∃ xs x, SqL K H a xs ∧ xs[i]? = some x,
   fun i H v H' => ∃ p x, v = .ref p ∧ H p = none ∧ H' = upd H p (.tup [.int i, x]) ∧ ∀ xs, SqL K H a xs → xs[i]? = some x,
   fun i H => ∃ xs, SqL K H a xs ∧ xs.length ≤ i⟩
theorem turn_enum {P : Program} {w : World} {K : PySem.W.Frag} {es : List Expr} {x1} {pos : Pos} (a e it : Addr) : Turn P w K (.Tuple es x1 pos) (Ite K a) [e, it] e
    (fun i h => (∃ old, IsEnum h e it i old) ∧ h.IsListIter it a i) where
  mem := by simp
  obj := fun i h ⟨⟨old, he⟩, h1⟩ c hc => by
    simp only [List.mem_cons, List.not_mem_nil, or_false] at hc
    rcases hc with rfl | rfl
    · exact ⟨_, he, fun v q => by cases (show Data.fields _ = Data.cell v from q)⟩
    · obtain ⟨o, e, _, d⟩ := h1
      exact ⟨o, e, fun v q => by rw [d] at q; cases q⟩
  keep := fun i h h' ⟨⟨old, he⟩, h1⟩ k => ⟨⟨old, k e (by simp) _ he⟩, h1.at fun o q => k it (by simp) o q⟩
  item := by
    intro X hP hw hK hc i pins s σ H E I hf ⟨⟨old, he⟩, h1⟩ hg
    subst hP hw hK
    obtain ⟨xs, x, hqa, hx⟩ := hg
    obtain ⟨its, rv, p, hsz⟩ := I.list hqa
    obtain ⟨ux, hux, rux⟩ := rv.get hx
    have hne : e ≠ it := fun z => by
      obtain ⟨o1, e1, c1, _⟩ := h1
      rw [← z, he] at e1; cases e1
      exact absurd (show Value.type "enumerate" = Value.type "list_iterator" from c1) (by decide)
    refine wpAny_pyNext_enum_item he h1 p.isList (x := ux) (by simpa using hux) hne fun h' a1 a3 a5 a6 hk => ?_
    refine ⟨_, rfl, ?_⟩
    refine wpAny_letOwnedTupleGo_enum (s := { s with heap := h', toks := s.toks + 1 }) a1 fun h2' hz' hs' => ?_
    have lt : ∀ b ∈ [e, it], b < s.heap.objs.size := fun c hcm => by
      simp only [List.mem_cons, List.not_mem_nil, or_false] at hcm
      rcases hcm with rfl | rfl
      · exact Heap.lt_size he
      · obtain ⟨o, q, _⟩ := h1; exact Heap.lt_size q
    have h12 : h2'.IsListIter it a (i + 1) := a3.extBut hs'.extBut (Ne.symm hne)
    have pz : s.heap.objs.size ≠ e := Nat.ne_of_gt (Heap.lt_size he)
    have hp2 : h2'.get? s.heap.objs.size = some { cls := .type "tuple", data := .seq #[.int i s.toks, ux] } := hs'.extBut _ _ pz a5
    have kk : ∀ c o, c ∉ [e, it] → s.heap.get? c = some o → h2'.get? c = some o := fun c o hcm q => by
      simp only [List.mem_cons, List.not_mem_nil, or_false, not_or] at hcm
      exact hs'.extBut _ _ hcm.1 (hk c o hcm.1 hcm.2 q)
    have I1 : Inv X pins σ H { s with heap := h2', toks := s.toks + 1 } := I.turnedL kk hf
    have fP : FpOk X pins H s.heap.objs.size := I.fpOk (Nat.le_refl _) (I.hok.fresh (Nat.le_refl _))
    have I2 : Inv X pins σ (upd H s.heap.objs.size (.tup [.int i, x])) { s with heap := h2', toks := s.toks + 1 } := by
      refine I1.track I.sz (fP.2.1) fP.2.2.2.2.1 fP.2.2.2.2.2 fP.1 ?_
      exact ⟨(show 2 ≤ sizeLine by decide), [.int i s.toks, ux], .cons ⟨_, rfl⟩ (.cons rux .nil), ⟨_, hp2, rfl, _, rfl⟩⟩
    refine ⟨.ref s.heap.objs.size, _, I2, rfl, ⟨_, x, rfl, fP.1, rfl, fun zs hzs => by rw [I.list_inj hzs hqa]; exact hx⟩, ⟨⟨_, hz'⟩, h12⟩, fun c hcm => ?_⟩
    rw [upd_ne (Nat.ne_of_lt (lt c hcm))]
    exact (hf c hcm).1
  done := by
    intro X hP hw hK hc i pins s σ H E I hf ⟨⟨old, he⟩, h1⟩ hg
    subst hP hw hK
    obtain ⟨xs, hqa, hend⟩ := hg
    obtain ⟨its, rv, p, hsz⟩ := I.list hqa
    have e1 := rv.length
    refine wpAny_pyNext_enum_end (I.ok.hd hc) he h1 p.isList (i := i) (by simp; omega) fun h' hk => ⟨rfl, ?_⟩
    exact I.turnedL (t' := s.toks) (fun c o hcm q => by
      simp only [List.mem_cons, List.not_mem_nil, or_false, not_or] at hcm
      exact hk c o hcm.2 q) hf
  self := fun _ _ _ _ _ ⟨⟨_, st⟩, _⟩ h => wpAny_pyIter_enum st h
section
variable {X : Cx}
def iEnum (K : PySem.W.Frag) (ta : TA) : TI := fun σ H R => ta σ H fun vs H1 => ∃ a, vs = [.ref a] ∧ (∃ xs, SqL K H1 a xs) ∧ R (Ite K a) H1
theorem pi_enum {es : List Expr} {x1} {tpos : Pos} {e1 : Expr} {ta : TA} {p pos : Pos} (hg : Gl X "enumerate") (hm : X.mg "enumerate" = none) (ha : PA X [e1] ta) (hs : starEach [e1] X.env = [(false, eval e1 X.env)] := by rfl) :
    PI X (.Tuple es x1 tpos) (.Call (.Name "enumerate" p) [e1] [] pos) (iEnum X.K ta) := by
  intro pins s σ H R I h
  refine Call_ (ld_blt I hg hm (by rfl) (PyProof.Rows.callWith_type1 (thn (ha pos pins s σ H _ I h) fun us s1 ⟨vs, H1, I1, r1, q1⟩ => ?_) hs rfl))
  obtain ⟨a, rfl, ⟨xs, hqa⟩, q⟩ := q1
  obtain ⟨u1, rfl, ru1⟩ := vals1 r1
  cases (show u1 = Value.ref a from ru1)
  obtain ⟨its, rv, pa, hsz⟩ := I1.list hqa
  refine call_enumerate_list pa.isList fun h' hz h1 hsize hk => ?_
  refine wpAny_pyIter_enum (s := { s1 with heap := h' }) hz ?_
  refine ⟨_, _, _, _, H1, rfl, I1.kept (t' := s1.toks) hk, turn_enum a (s1.heap.objs.size + 1) s1.heap.objs.size, ⟨⟨_, hz⟩, h1⟩, fun c hc => ?_, q⟩
  have hge : s1.heap.objs.size ≤ c := by
    simp only [List.mem_cons, List.not_mem_nil, or_false] at hc
    rcases hc with h | h <;> (rw [h]; omega)
  exact I1.fpOk hge (I1.hok.fresh hge)
end
end L2

set_option Elab.async false
set_option linter.all false
set_option maxRecDepth 100000
namespace L2
open PySem PySem.Spec PyProof.Rows

theorem vals_of_items {P : Nat → Value → Prop} {acc : List Value} {xs : List V} (hl : acc.length = xs.length) (h : ∀ (j : Nat) (v : Value), acc[j]? = some v → P j v) (hP : ∀ (j : Nat) v x, P j v → xs[j]? = some x → RelV x v) : Vals xs acc := by
  induction xs generalizing acc P with
  | nil =>
    cases acc with
    | nil => exact .nil
    | cons _ _ => simp at hl
  | cons x xs ih =>
    cases acc with
    | nil => simp at hl
    | cons u acc =>
      refine .cons (hP 0 u x (h 0 u rfl) rfl) (ih (P := fun j => P (j + 1)) (by simpa using hl) (fun j v e => h (j + 1) v (by simpa using e)) fun j v y p e => hP (j + 1) v y p (by simpa using e))

section
variable {X : Cx}
theorem bools_of : ∀ {bs : List Bool} {us : List Value}, Vals (bs.map V.bl) us → LSm.BoolsAre us bs
  | [], _, .nil => .nil
  | b :: bs, _, .cons r t => by
    obtain rfl := (show _ = Value.bool b from r)
    exact .cons b (bools_of t)
/-- all of a list of bools -/
theorem call_all (hc : X.calm = true) : CallR X (.builtin "all") (fun xs H Q => ∃ (a : Addr) (bs : List Bool), xs = [V.ref a] ∧ SqL X.K H a (bs.map V.bl) ∧ Q (.bl (bs.all id)) H) := by
  intro pins s σ H xs us Q I r h
  obtain ⟨a, bs, rfl, hq, q⟩ := h
  obtain ⟨u, rfl, ru⟩ := vals1 r
  cases (show u = Value.ref a from ru)
  obtain ⟨its, rv, p, hz⟩ := I.list hq
  obtain ⟨m, F⟩ := I.fr
  have hlt : a < s.heap.objs.size := by obtain ⟨_, e, _⟩ := p.isList; exact Heap.lt_size e
  have hb := bools_of rv
  refine call_all_walk (wpAny_pyIter_list p.isList ?_)
  refine ⟨s.heap.objs.size, [s.heap.objs.size, a], [s.heap.objs.size], its.toArray.size, _, _, fun i => (bs[i]?).getD true, rfl, Walks.list (A := X.A.in1) (I.ok.hd hc) _ a (Nat.ne_of_lt hlt) its.toArray,
    ⟨⟨_, Heap.get?_push_size _ rfl, rfl, rfl⟩, p.isList.push _⟩, fun i v s' Q' E' hP hQ => ?_, fun h' tk hk => ?_⟩
  · obtain ⟨b, e, rfl⟩ := hb.get i v (by simpa using hP)
    simp only [e, Option.getD_some] at hQ
    exact wpAny_truthy_bool hQ
  · have e : ((List.range its.toArray.size).all fun i => (bs[i]?).getD true) = bs.all id := by
      rw [List.size_toArray, hb.length]; exact LSm.range_all bs
    rw [e]
    exact ⟨.bl (bs.all id), H, I.kept (LSm.kept_iter hk), rfl, q⟩
/-- range(n) as a value -/
theorem call_range1 : CallR X (.type "range") (fun xs H Q => ∃ j : Int, xs = [.int j] ∧ ∀ p, H p = none → Q (.ref p) (upd H p (.rng 0 j))) := by
  intro pins s σ H xs us Q I r h
  obtain ⟨j, rfl, q⟩ := h
  obtain ⟨u, rfl, t, rfl⟩ := vals1 r
  refine call_range_1 ⟨.ref s.heap.objs.size, _, I.laid (fun b o e => Heap.get?_push_of_some _ e) (Nat.le_refl _) ?_, rfl, q _ (I.hok.fresh (Nat.le_refl _))⟩
  exact ⟨_, _, _, Heap.get?_push_size _ rfl⟩
def intsV (n : Nat) : List V := (List.range n).map fun i => V.int (i : Nat)
theorem intsV_length (n : Nat) : (intsV n).length = n := by simp [intsV]
theorem intsV_get {n i : Nat} (h : i < n) : (intsV n)[i]? = some (.int i) := by simp [intsV, h]
/-- list(range(n)) -/
theorem call_list_rng (hc : X.calm = true) : CallR X (.type "list") (fun xs H Q => ∃ p j, xs = [.ref p] ∧ H p = some (.rng 0 j) ∧ 0 ≤ j ∧ j ≤ 2 ^ 24 ∧ ∀ l, H l = none → Q (.ref l) (upd H l (.lst (intsV j.toNat)))) := by
  intro pins s σ H xs us Q I r h
  obtain ⟨p, j, rfl, hp, h0, h1, q⟩ := h
  obtain ⟨u, rfl, ru⟩ := vals1 r
  cases (show u = Value.ref p from ru)
  obtain ⟨t, u, v, e⟩ := (show ObjOk X.prog X.w H s.heap p (.rng 0 j) from I.hok p _ hp)
  have sz : (j.toNat : Nat) ≤ sizeLine := by rw [sizeLine_eq]; omega
  refine call_list_range (n := j.toNat) (I.ok.hd hc) e (small_one (by omega) (by omega) (by omega) (by omega)) (by rw [rangeSize_one]; split <;> omega) (by omega) fun h' tk acc c hk hS hi => ?_
  refine ⟨.ref s.heap.objs.size, _, I.laid hk (Nat.le_refl _) ?_, rfl, q _ (I.hok.fresh (Nat.le_refl _))⟩
  refine ⟨by rw [intsV_length]; exact sz, acc.toList, c, vals_of_items (P := fun i v => ∃ t, v = .int ((0 : Int) + i * 1) t) (by rw [intsV_length, Array.length_toList]; exact hi.1) (fun i v e => hi.2 i v (by simpa using e)) (fun i v x ⟨t, e⟩ ex => ?_), by simpa using hS⟩
  subst e
  have hlt : i < j.toNat := by
    have := (List.getElem?_eq_some_iff.mp ex).1
    rw [intsV_length] at this; exact this
  rw [intsV_get hlt] at ex
  cases ex
  exact ⟨t, by congr 1; omega⟩
/-- list(d), d a dict -/
theorem call_list_dK (hc : X.calm = true) : CallR X (.type "list") (fun xs H Q => ∃ p kvs, xs = [.ref p] ∧ Rd H p (.dK kvs) ∧ ∀ l, H l = none → Q (.ref l) (upd H l (.lst (kvs.map fun kv => kV kv.1)))) := by
  intro pins s σ H xs us Q I r h
  obtain ⟨p, kvs, rfl, hp, q⟩ := h
  obtain ⟨u, rfl, ru⟩ := vals1 r
  cases (show u = Value.ref p from ru)
  obtain ⟨z, hd, vs, rel, o, es, ep, g1, g2, g3, g4, g5, g6⟩ := dk_rd I.hok hp
  refine PySem.W.kdl_call (PySem.W.kdl_dict (knd := mixKind X.prog X.w) (kvs := vs) (ep := ep) hd) (I.ok.hd hc) ⟨o, es, g1, g2, g3, g4, g5, g6⟩ (by rw [← rel.length]; exact z) fun h' tk acc c hk hS hi => ?_
  refine ⟨.ref s.heap.objs.size, _, I.laid hk (Nat.le_refl _) ?_, rfl, q _ (I.hok.fresh (Nat.le_refl _))⟩
  refine ⟨by rw [List.length_map]; exact z, acc.toList, c, vals_of_items (P := fun i v => ∃ k x, vs[i]? = some (k, x) ∧ (mixKind X.prog X.w).is k v = true) (by rw [List.length_map, Array.length_toList, hi.1, rel.length]) (fun i v e => hi.2 i v (by simpa using e)) (fun i v x ⟨k, y, e1, e2⟩ ex => ?_), by simpa using hS⟩
  have hk1 : (kvs.map (·.1))[i]? = some k := by
    have := rel.keys
    rw [this, List.getElem?_map, e1]; rfl
  rw [List.getElem?_map] at ex hk1
  cases hkv : kvs[i]? with
  | none => rw [hkv] at ex; cases ex
  | some kv =>
    rw [hkv] at ex hk1
    cases ex
    have : kv.1 = k := by simpa using hk1
    subst this
    rcases keyIs_shape (k := kv.1) (v := v) e2 with ⟨i, t, e3, e4⟩ | ⟨x, t, e3, e4⟩
    · show RelV (kV kv.1) v
      rw [e3, e4]; exact ⟨t, rfl⟩
    · show RelV (kV kv.1) v
      rw [e3, e4]; exact ⟨t, rfl⟩
end
end L2

set_option Elab.async false
set_option linter.all false
set_option maxRecDepth 100000
namespace L2
open PySem PySem.Spec PyProof.Rows

theorem inKeys_map (k : Str) : ∀ D : List (Str × PyData), KTD.inKeys k (D.map fun p => (p.1, KTD.Dat.flat p.2)) = (D.any fun p => decide (k = p.1))
  | [] => rfl
  | p :: D => by rw [List.map_cons, List.any_cons, KTD.inKeys, inKeys_map k D]
section
variable {X : Cx}
/-- a dict of the module's own, its keys texts, its values ints -/
abbrev TabK (K : PySem.W.Frag) (a : Addr) (D : List (Str × PyData)) : Prop := KTD.tabLook KTD.flatLooks (fun b => K.lookup b) a D = true
theorem tab_here {pins : List (Addr × Obj)} {σ : St} {H : Hp} {s : Shared} {a : Addr} {D : List (Str × PyData)} (I : Inv X pins σ H s) (T : TabK X.K a D) : KTD.Here s.heap s.heap a (D.map fun p => (p.1, KTD.Dat.flat p.2)) :=
  ⟨(KTD.tab_of_look (fun _ _ x => KTD.flat_of_looks x) (fun b o e => I.kIn b o e) T).text, fun _ _ e => e⟩
theorem op_inK : OpR X (compareOp .In) (fun x y H Q => ∃ k a D, x = V.str k ∧ y = V.ref a ∧ TabK X.K a D ∧ Q (.bl (D.any fun p => decide (k = p.1))) H) := by
  intro pins s σ H x y v u Q I rx ry h
  obtain ⟨k, a, D, rfl, rfl, T, q⟩ := h
  obtain ⟨t, rfl⟩ := (show ∃ t, v = Value.str k t from rx)
  cases (show u = Value.ref a from ry)
  refine KTD.in_text (tab_here I T) ⟨.bl (KTD.inKeys k (D.map fun (p : Str × PyData) => (p.1, KTD.Dat.flat p.2))), H, I.tok _, rfl, ?_⟩
  rw [inKeys_map]; exact q
theorem op_notInK : OpR X (compareOp .NotIn) (fun x y H Q => ∃ k a D, x = V.str k ∧ y = V.ref a ∧ TabK X.K a D ∧ Q (.bl (!(D.any fun p => decide (k = p.1)))) H) := by
  intro pins s σ H x y v u Q I rx ry h
  obtain ⟨k, a, D, rfl, rfl, T, q⟩ := h
  obtain ⟨t, rfl⟩ := (show ∃ t, v = Value.str k t from rx)
  cases (show u = Value.ref a from ry)
  refine KTD.notin_text (tab_here I T) ⟨.bl (!KTD.inKeys k (D.map fun (p : Str × PyData) => (p.1, KTD.Dat.flat p.2))), H, I.tok _, rfl, ?_⟩
  rw [inKeys_map]; exact q
theorem ix_K : IxR X (fun x y H Q => ∃ k a D i, x = V.ref a ∧ y = V.str k ∧ TabK X.K a D ∧ D.lookup k = some (PyData.int i) ∧ (D.all fun p => match p.2 with | .int _ => true | _ => false) = true ∧ Q (.int i) H) := by
  intro value slice pins s σ H x y v u Q I rx ry h hs
  obtain ⟨k, a, D, i, rfl, rfl, T, e, hp, q⟩ := h
  cases (show v = Value.ref a from rx)
  obtain ⟨t, rfl⟩ := (show ∃ t, u = Value.str k t from ry)
  have e1 : ∀ D : List (Str × PyData), (D.all fun p => match p.2 with | .int _ => true | _ => false) = true → ((D.map fun p => (p.1, KTD.Dat.flat p.2)).all fun p => KTD.plain p.2) = true := fun D hD => by
    rw [List.all_map]
    refine List.all_eq_true.mpr fun p hp' => ?_
    have := List.all_eq_true.mp hD p hp'
    cases hq : p.2 <;> simp [hq] at this <;> simp [Function.comp, hq, KTD.plain]
  have e2 : ∀ D : List (Str × PyData), KTD.datumAt k (D.map fun p => (p.1, KTD.Dat.flat p.2)) = (D.lookup k).map KTD.Dat.flat := fun D => by
    induction D with
    | nil => rfl
    | cons p D ih =>
      obtain ⟨x, d⟩ := p
      rw [List.map_cons, KTD.datumAt, List.lookup_cons, ih]
      by_cases hk : k = x
      · subst hk; simp
      · have : (k == x) = false := beq_eq_false_iff_ne.mpr hk
        simp [hk, this]
  have hT := tab_here I T
  have hat : KTD.datumAt k (D.map fun p => (p.1, KTD.Dat.flat p.2)) = some (KTD.Dat.flat (.int i)) := by rw [e2 D, e]; rfl
  have hmem : KTD.inKeys k (D.map fun p => (p.1, KTD.Dat.flat p.2)) = true := by rw [← KTD.isSome_datumAt, hat]; rfl
  refine subscriptTail_builtin_flat hT.typeIs slot_dict_getitem.lookup ?_ hs
  unfold getItem
  try with_reducible refine wpAny_holding ?_
  refine wpAny_bind (wpAny_sequenceKey hT.typeIs (by decide) ?_)
  refine wpAny_bind (wpAny_callSpecial?_slot (name := Str.ofString "__getitem__") hT.typeIs slot_dict_getitem
    (wpAny_call_entry slot_dict_getitem hT.typeIs entry_dict_getitem ?_ (args_dict_getitem _ _)))
  show wpAny _ _ (dictGet a (.str k t) >>= _) _ _ s
  refine wpAny_bind (KTD.dictGet_text hT (fun d v ha hv => wpAny_pure ⟨v, rfl, wpAny_pure ⟨KTD.notRef_of_plain (KTD.plain_at (e1 D hp) ha) hv, ?_⟩⟩) fun hn => absurd hn (KTD.at_of_mem hmem))
  rw [hat] at ha
  cases ha
  obtain ⟨t', rfl⟩ : ∃ t, v = Value.int i t := by
    exact PyProof.V.Flat.int_inv (show PyProof.V.Flat v (PyData.int i) from hv)
  exact ⟨.int i, H, I.tok _, ⟨_, rfl⟩, q⟩
end
end L2

set_option Elab.async false
set_option linter.all false
set_option maxRecDepth 100000
namespace L2
open PySem PySem.Spec PyProof.Rows
/-- a def of the text behind the top, its defaults at dV -/
structure FunG (K : PySem.W.Frag) (x qual : Str) (st : Stmt) (dV : Value) (f : Addr) (fd : FuncData) : Prop where
  ex : ∃ (oc : Value) (od : Option Addr) (kV doc pm : Value) (an : Option Addr) (cdv ct : Value) (osl : Array (Option Value)),
    fd = PySem.W.fnOf x qual (defArgs st) (defBody st) (defScope st) dV kV doc pm an cdv ct ∧ K.lookup f = some ⟨oc, od, .func fd, osl⟩ ∧ PySem.W.codeIn K cdv qual = true
  kp : PySem.W.keepIn K (.ref f) = true
section
variable {P : Program} {w : World} {K : PySem.W.Frag} {mg : Str → Option Value} {base : Heap}
theorem FunG.ok {x qual : Str} {st : Stmt} {dV : Value} {f : Addr} {fd : FuncData} {N ps : List Str} {k : Nat} {sp : Sp} (F : FunG K x qual st dV f fd) (S : FnScope N ps (defScope st)) (len : ∀ vs H Q E, sp vs H Q E → vs.length = ps.length)
    (hbody : ∀ (cdv : Value) (A : Around) (outer : List Env) (s : Shared) (H : Hp) (vs : List V) (Q : VK) (E : XK), Room k (A.deeper (envOfC qual (defScope st) s.heap.objs.size f cdv)) → sp vs H Q E →
      ∃ t, PSs (cxOf CX0 P w K mg base N qual (defScope st) f cdv A outer s H E).nox (defBody st) t ∧ t { nx := fun _ H' => Q .non H', rt := Q } (start N vs) H) : FnOk P w K mg base CX0 (k + 1) f fd ps sp := by
  obtain ⟨oc, od, kV, doc, pm, an, cdv, ct, osl, rfl, lk, hcd⟩ := F.ex
  refine fn_of lk hcd S len fun A outer s H vs Q E hr hsp => ?_
  obtain ⟨t, h, q⟩ := hbody cdv A outer s H vs Q E hr hsp
  exact ⟨t, h.nox, q⟩
theorem FunG.binds {x qual : Str} {st : Stmt} {dV : Value} {f : Addr} {fd : FuncData} {ps : List Str} (F : FunG K x qual st dV f fd)
    (h : ∀ (kV doc pm : Value) (an : Option Addr) (cdv ct : Value) (us : List Value), us.length = ps.length → bindArgs (PySem.W.fnOf x qual (defArgs st) (defBody st) (defScope st) dV kV doc pm an cdv ct) ⟨us, []⟩ = pure (ps.zip us)) : Binds K fd ps [] := by
  obtain ⟨oc, od, kV, doc, pm, an, cdv, ct, osl, rfl, lk, hcd⟩ := F.ex
  exact .all (h kV doc pm an cdv ct)
theorem funG_mk {x qual : Str} {st : Stmt} {f : Addr} {oc : Value} {od an : Option Addr} {osl : Array (Option Value)} {dV kV doc pm cdv ct : Value} (l : K.lookup f = some ⟨oc, od, .func (PySem.W.fnOf x qual (defArgs st) (defBody st) (defScope st) dV kV doc pm an cdv ct), osl⟩)
    (c : PySem.W.codeIn K cdv qual = true) (k : PySem.W.keepIn K (.ref f) = true) : FunG K x qual st dV f (PySem.W.fnOf x qual (defArgs st) (defBody st) (defScope st) dV kV doc pm an cdv ct) := ⟨⟨oc, od, kV, doc, pm, an, cdv, ct, osl, rfl, l, c⟩, k⟩
end
end L2

set_option Elab.async false
set_option linter.all false
set_option maxRecDepth 100000
namespace L2
open PySem PySem.Spec PyProof.Rows
/-! the rules that speak of the module's part, with that part named (within a comprehension's block) -/
section
variable {X : Cx} {K : PySem.W.Frag}
theorem pg_tupK (hK : X.K = K) {es : List Expr} {k : Nat} {t : TGs} {n : Nat} {pos : Pos} (hc : X.calm = true) (h : PGs X es t)
    (hn : (assignEach es X.env).length = n := by rfl) (hst : (assignEach es X.env).findIdx? (·.1) = none := by rfl) : PG X (.Tuple es k pos) (gTup K n t) := by
  subst hK; exact pg_tup hc h hn hst
theorem ix_listK (hK : X.K = K) : IxR X (rIxL K) := by subst hK; exact ix_list
theorem ix_tupK (hK : X.K = K) : IxR X (rIxT K) := by subst hK; exact ix_tup
theorem pe_fldK (hK : X.K = K) {e : Expr} {ta : TE} {f : Str} {pos : Pos} (he : PE X e ta) (hb : attributeBase e f X.env (eval e X.env) = eval e X.env) : PE X (.Attribute e f pos) (tFld K ta f) := by
  subst hK; exact pe_fld he hb
theorem call_len_seqK (hK : X.K = K) : CallR X (.builtin "len") (fun xs H Q => ∃ p ys, xs = [.ref p] ∧ (SqL K H p ys ∨ SqT K H p ys) ∧ Q (.int ys.length) H) := by subst hK; exact call_len_seq
theorem call_isiK (hK : X.K = K) : CallR X (.builtin "isinstance") (fun xs H Q => ∃ x T t b, xs = [x, .ty T] ∧ TyOf K H x t ∧ PySem.W.kitOne K t (.type T) = some b ∧ Q (.bl b) H) := by subst hK; exact call_isi
end
end L2
namespace L2
theorem tTrueT {σ : St} {H : Hp} {A B : Hp → Prop} (h : A H) : tTrue σ H (fun b H3 => if b = true then A H3 else B H3) := (iteT h : if true = true then A H else B H)
end L2
namespace L2
open PySem PySem.Spec PyProof.Rows
section
variable {X : Cx} {CX : CXT} {k : Nat} {f C : Addr} {fd : FuncData} {ps ks : List Str} {sp : Sp} {E : XK} {x m : Str} {p pos apos kpos : Pos} {e o : Expr} {es : List Expr} {kws : List Keyword} {te ta : TE} {t tk : TA}
  {g : List Value → List Value → List Value} {gV : List V → List V → List V}
/-- o.m(e, .., name=value) -/
def tMethK (C : Addr) (m : Str) (sp : Sp) (gV : List V → List V → List V) (E : XK) (ta : TE) (t tk : TA) : TE := fun σ H Q => ta σ H fun x H1 => ∃ a dx fs, x = .ref a ∧ H1 a = some (.ins C dx fs) ∧ fs.lookup m = none ∧
  t σ H1 fun vs H2 => tk σ H2 fun zs H3 => sp (gV (x :: vs) zs) H3 Q E
theorem pe_methK {pl : Sem Bool} (he : PE X o ta) (c : Cls X.K C) (hm : Meth X.K C m f) (F : FnOk X.prog X.w X.K X.mg X.base CX k f fd ps sp) (hr : Room k X.A) (hb : KBinds X.K fd ps ks g gV) (hx : Passes CX X E) (ha : PA X (e :: es) t) (hkw : PK X kws tk)
    (hall : (backToKw pos (keywordEach kws X.env)).all (·.1.isSome) = true := by rfl) (hks : (backToKw pos (keywordEach kws X.env)).filterMap (·.1) = ks := by rfl)
    (hst : starEach (e :: es) X.env = (false, eval e X.env) :: starEach es X.env := by rfl)
    (hpl : ((backTo pos (starEach (e :: es) X.env)).any (·.1) || (backToKw pos (keywordEach kws X.env)).any (·.1.isNone)) = false := by rfl)
    (ht : eval (.Call (.Attribute o m apos) (e :: es) kws pos) X.env = (do
      let ov ← eval o X.env
      standAt apos.atName
      let (f, first) ← holding [ov] (getMethod ov m pl)
      callWith pos f first (backTo pos (starEach (e :: es) X.env)) (backToKw pos (keywordEach kws X.env))) := by rfl) :
    PE X (.Call (.Attribute o m apos) (e :: es) kws pos) (tMethK C m sp gV E ta t tk) := by
  intro pins s σ H Q I h
  refine PySem.W.methodCall_KW (pl := pl) (thn (he pins s σ H _ I h) fun u s1 ⟨x, H1, I1, rx, a, dx, fs, ex, ea, l, q⟩ => ?_) ht
  subst ex
  obtain rfl : u = Value.ref a := rx
  refine getmeth_ok I1 ea c hm l ?_
  refine PySem.W.callWith_KW (first := [.ref a]) (h₀ := X.base) I.ok.mod.kin hm.kp hall (thn (ha pos pins s1 σ H1 _ I1 q) fun us s2 ⟨vs, H2, I2, r, q2⟩ => ?_) hpl hst
  refine thn (hkw pos pins s2 σ H2 _ I2 q2) fun ws s3 ⟨zs, H3, I3, rz, q3⟩ => ⟨I3.kIn, ?_⟩
  rw [hks]
  exact run_fnk F hr hb hx I3 (us := .ref a :: us) (vs := .ref a :: vs) (.cons rfl r) rz q3
end
end L2
namespace L2
/-- a test whose first way comes to where the second stands -/
theorem ifJ {b : Bool} {A B : Prop} (hA : b = true → B → A) (g : B) : if b = true then A else B := by
  cases b
  · exact iteF g
  · exact iteT (hA rfl g)
end L2

set_option Elab.async false
set_option linter.all false
set_option maxRecDepth 100000
namespace L2
open PySem PySem.Spec PyProof.Rows
section
variable {prog : Program} {w : World} {K : Type} [DecidableEq K] {knd : HeapKind prog w K} {A : Around} {E : Value → Shared → Prop} {s : Shared} {d a : Addr} {k : K} {xs : List (K × Addr × Value)}
theorem filter_not_mem {α : Type} : ∀ {xs : List (K × α)} {k : K}, k ∉ xs.map (·.1) → xs.filter (fun x => decide (x.1 ≠ k)) = xs
  | [], _, _ => rfl
  | x :: xs, k, h => by
    rw [List.map_cons, List.mem_cons, not_or] at h
    rw [List.filter_cons, if_pos (by simpa using fun e => h.1 e.symm), filter_not_mem h.2]
theorem erase_filter {α : Type} : ∀ {xs : List (K × α)} {j : Nat} {k : K} {p : α}, (xs.map (·.1)).Nodup → xs[j]? = some (k, p) → xs.eraseIdx j = xs.filter (fun x => decide (x.1 ≠ k))
  | [], _, _, _, _, h => by simp at h
  | x :: xs, 0, k, p, hn, h => by
    rw [List.map_cons, List.nodup_cons] at hn
    simp only [List.getElem?_cons_zero, Option.some.injEq] at h
    subst h
    rw [List.eraseIdx_cons_zero, List.filter_cons, if_neg (by simp), filter_not_mem hn.1]
  | x :: xs, j + 1, k, p, hn, h => by
    rw [List.map_cons, List.nodup_cons] at hn
    simp only [List.getElem?_cons_succ] at h
    have hmem : k ∈ xs.map (·.1) := List.mem_map.mpr ⟨(k, p), List.mem_of_getElem? h, rfl⟩
    have hne : ¬ x.1 = k := fun e => hn.1 (e ▸ hmem)
    rw [List.eraseIdx_cons_succ, erase_filter hn.2 h, List.filter_cons, if_pos (by simpa using hne)]
theorem eraseIdx_map {α β : Type} (f : α → β) : ∀ (xs : List α) (j : Nat), (xs.map f).eraseIdx j = (xs.eraseIdx j).map f
  | [], _ => rfl
  | _ :: _, 0 => rfl
  | x :: xs, j + 1 => by rw [List.map_cons, List.eraseIdx_cons_succ, List.eraseIdx_cons_succ, List.map_cons, eraseIdx_map f xs j]
/-- takeOut, the key there -/
theorem takeOut_heap {Q : Option DictEntry → Shared → Prop} {p : Addr × Value} (hu : knd.room A) (hkey : knd.is s.heap k a) (hm : s.heap.DictOfH knd d xs) (hp : atKey xs k = some p)
    (hQ : ∀ h', h'.DictOfH knd d (xs.filter fun x => decide (x.1 ≠ k)) → Heap.SameBut d s.heap h' → Q (some ⟨knd.hash k, .ref p.1, p.2⟩) { s with heap := h', toks := s.toks + knd.draws k })
    (hsz : xs.length ≤ sizeLine) : wpAny (model prog w) A (Builtin.Dict.takeOut d (.ref a)) Q E s := by
  obtain ⟨o, es, ep, ho, hc, hd, he, his, hn⟩ := hm
  have hes : es.size ≤ sizeLine := by have e := size_of_entries he; omega
  unfold Builtin.Dict.takeOut
  try with_reducible refine wpAny_holding ?_
  refine wpAny_bind (knd.pyHash hu hkey (wpAny_bind (wpAny_dictFind_heap (s := { s with toks := s.toks + knd.draws k }) hu hkey ho hd he his hn ?_ ?_)))
  · intro hno
    rw [atKey_none_of_get hno] at hp
    cases hp
  · intro j q hj
    rw [atKey_of_get hn hj] at hp
    cases hp
    refine wpAny_bind (wpAny_dictEntries (s := { s with toks := s.toks + knd.draws k }) ho hd ?_)
    rw [entry_at he j, hj]
    show wpAny _ _ (updateDictKeys d (·.eraseIdxIfInBounds j) (keyPart (.ref a)) >>= _) _ _ _
    refine wpAny_bind (wpAny_updateDictKeys (hz := hes) (s := { s with toks := s.toks + knd.draws k }) ho hd (wpAny_pure (hQ _ ⟨_, _, ep + 1, Heap.get?_update_self _ ho (Obj.isFreed_of_dict (Obj.data_mapDictKeys hd _)),
      hc.mapDictKeys _, Obj.data_mapDictKeys hd _, ?_, ?_, ?_⟩ (Heap.SameBut.update ..))))
    · rw [← erase_filter hn hj, ← eraseIdx_map, ← he]
      obtain ⟨l⟩ := es
      simp
    · intro x hx
      exact knd.keeps (his x (List.mem_filter.mp hx).1) ho hd (Heap.SameBut.update ..)
    · exact hn.sublist ((List.filter_sublist).map _)
theorem meetsH_dict_delitem :
    MeetsIn prog w (Builtin.«dict.__delitem__» ⟨[.ref d, .ref a], []⟩) (fun A R s => knd.room A.in1 ∧ ∃ k xs p, knd.is s.heap k a ∧ s.heap.DictOfH knd d xs ∧ xs.length ≤ sizeLine ∧ atKey xs k = some p ∧
      ∀ h', h'.DictOfH knd d (xs.filter fun x => decide (x.1 ≠ k)) → Heap.SameBut d s.heap h' → R (.ok (.ret .none)) { s with heap := h', toks := s.toks + knd.draws k }) :=
  .of_wp fun A R s ⟨hu, k, xs, p, hkey, hm, hsz, hp, h⟩ => by
    unfold Builtin.«dict.__delitem__»
    refine wpAny_bind ?_
    unfold Builtin.Dict.dictSlotArgs
    refine wpAny_bind (wpAny_notOrdered_dict hm.typeIs ?_)
    show wpAny _ _ (pure (Value.ref d, Value.ref a)) _ _ s
    refine wpAny_pure ?_
    show wpAny _ _ (Builtin.Dict.takeOut d (.ref a) >>= _) _ _ s
    refine wpAny_bind (takeOut_heap (hsz := hsz) hu hkey hm hp fun h' hm' hs' => ?_)
    exact wpAny_bind (wpAny_letGo (wpAny_pure ⟨.none, rfl, h h' hm' hs'⟩))
theorem meetsH_dict_pop :
    MeetsIn prog w (Builtin.«dict.pop» ⟨[.ref d, .ref a], []⟩) (fun A R s => knd.room A.in1 ∧ ∃ k xs p, knd.is s.heap k a ∧ s.heap.DictOfH knd d xs ∧ xs.length ≤ sizeLine ∧ atKey xs k = some p ∧
      ∀ h', h'.DictOfH knd d (xs.filter fun x => decide (x.1 ≠ k)) → Heap.SameBut d s.heap h' → R (.ok (.ret p.2)) { s with heap := h', toks := s.toks + knd.draws k }) :=
  .of_wp fun A R s ⟨hu, k, xs, p, hkey, hm, hsz, hp, h⟩ => by
    unfold Builtin.«dict.pop»
    refine wpAny_bind ?_
    unfold Builtin.Dict.keyAndDefault
    refine wpAny_bind (wpAny_notOrdered_dict hm.typeIs ?_)
    show wpAny _ _ (pure (d, Value.ref a, none)) _ _ s
    refine wpAny_pure ?_
    obtain ⟨o, es, ep, ho, hc, hd, he, his, hn⟩ := id hm
    have hne : es.isEmpty = false := by
      cases xs with
      | nil => simp [atKey] at hp
      | cons x xs =>
        have e := size_of_entries he
        rw [Array.isEmpty_eq_false_iff]
        intro z
        rw [z] at e
        simp at e
    refine wpAny_bind ?_
    refine wpAny_dictEntries ho hd (wpAny_bind (wpAny_pure ?_))
    rw [hne]
    simp only [Bool.false_eq_true, if_false]
    refine wpAny_bind (takeOut_heap (hsz := hsz) hu hkey hm hp fun h' hm' hs' => ?_)
    simp only [Option.isNone_some, Bool.false_eq_true, if_false]
    exact wpAny_bind (wpAny_letGo (wpAny_pure ⟨p.2, rfl, h h' hm' hs'⟩))
end
end L2
namespace L2
open PySem PySem.Spec PyProof.Rows
theorem KT.drop {H : Hp} {kvs : List (List Key × V)} {xs : List (List Key × Addr × Value)} (r : KT H kvs xs) (k : List Key) : KT H (dropK kvs k) (xs.filter fun x => decide (x.1 ≠ k)) := by
  unfold dropK
  induction r with
  | nil => exact .nil
  | @cons p q ps qs hq t ih =>
    rw [List.filter_cons, List.filter_cons]
    have e : p.1 = q.1 := hq.1
    by_cases c : q.1 = k
    · rw [if_neg (by simpa using e.trans c), if_neg (by simpa using c)]; exact ih
    · rw [if_pos (by simpa using fun z => c (e.symm.trans z)), if_pos (by simpa using c)]; exact .cons hq ih
section
variable {X : Cx} {pins : List (Addr × Obj)} {σ : St} {H : Hp} {s : Shared} {a b : Addr} {kvs : List (List Key × V)} {k : List Key} {u : Value} {A : Around} {E : Value → Shared → Prop}
/-- del d[k], k a tuple -/
theorem d_delItemT {v : V} {Q : Unit → Shared → Prop} (hu : A.units + 1 < cLine) (I : Inv X pins σ H s) (e : H a = some (.dT kvs)) (eb : H b = some (.tup (k.map kV))) (l : valV kvs k = some v)
    (h : ∀ s', Inv X pins σ (upd H a (.dT (dropK kvs k))) s' → Q () s') : wpAny (model X.prog X.w) A (delItem (.ref a) (.ref b)) Q E s := by
  obtain ⟨z, hd, xs, rel, dd⟩ := dt_of I.hok e
  obtain ⟨w', hw, rw'⟩ := RelO.some_of (v := v) (o := (atKey xs k).map (·.2)) (by rw [← l]; exact rel.val k)
  obtain ⟨p, hp, hp2⟩ := Option.map_eq_some_iff.mp hw
  have hz : xs.length ≤ sizeLine := by rw [← Paired.length rel]; exact z
  refine wpAny_delItem_slot dd.typeIs (by decide) PySem.F.slot_dict_delitem
    (call_meetsIn PySem.F.slot_dict_delitem dd.typeIs PySem.F.entry_dict_delitem (PySem.F.args_dict_delitem_2 _ _) meetsH_dict_delitem ⟨tupleKind_room_in1 hu, k, xs, p, key_of I.hok eb, dd, hz, hp, fun h' dd' hs => h _ ?_⟩)
  obtain ⟨q, es, ep, hq, h2, h3, h4, _, h5⟩ := dd'
  refine d_write I (by rw [e]; exact True.intro) hs ⟨q, hq⟩ ⟨Nat.le_trans (dropK_le kvs k) z, hd, _, (rel.drop k).keeps fun c ys ec => ?_, q, es, ep, hq, h2, h3, h4, h5⟩
  rw [upd_ne (ne_of ec e (fun z => nomatch z))]
  exact ec
/-- d.pop(k), k a tuple, there -/
theorem d_popT {v : V} {Q : Value → Shared → Prop} (hu : A.units + 1 < cLine) (I : Inv X pins σ H s) (e : H a = some (.dT kvs)) (eb : H b = some (.tup (k.map kV))) (l : valV kvs k = some v)
    (h : ∀ w' s', Inv X pins σ (upd H a (.dT (dropK kvs k))) s' → RelV v w' → Q w' s') : wpAny (model X.prog X.w) A (call (.builtin "dict.pop") [.ref a, .ref b]) Q E s := by
  obtain ⟨z, hd, xs, rel, dd⟩ := dt_of I.hok e
  obtain ⟨w', hw, rw'⟩ := RelO.some_of (v := v) (o := (atKey xs k).map (·.2)) (by rw [← l]; exact rel.val k)
  obtain ⟨p, hp, hp2⟩ := Option.map_eq_some_iff.mp hw
  have hz : xs.length ≤ sizeLine := by rw [← Paired.length rel]; exact z
  refine call_meetsIn PySem.F.slot_dict_pop dd.typeIs PySem.F.entry_dict_pop (PySem.F.args_dict_pop_2 _ _) meetsH_dict_pop ⟨tupleKind_room_in1 hu, k, xs, p, key_of I.hok eb, dd, hz, hp, fun h' dd' hs => h _ _ ?_ (by rw [hp2]; exact rw')⟩
  obtain ⟨q, es, ep, hq, h2, h3, h4, _, h5⟩ := dd'
  refine d_write I (by rw [e]; exact True.intro) hs ⟨q, hq⟩ ⟨Nat.le_trans (dropK_le kvs k) z, hd, _, (rel.drop k).keeps fun c ys ec => ?_, q, es, ep, hq, h2, h3, h4, h5⟩
  rw [upd_ne (ne_of ec e (fun z => nomatch z))]
  exact ec
end
section
variable {X : Cx} {o i e : Expr} {td ty : TE} {tpos pos apos cpos : Pos}
def sDDelT (td ty : TE) : TS := fun D σ H => td σ H fun x H1 => ty σ H1 fun y H2 => ∃ a b kvs k v, x = .ref a ∧ y = .ref b ∧ H2 a = some (.dT kvs) ∧ H2 b = some (.tup (k.map kV)) ∧ valV kvs k = some v ∧ D.nx σ (upd H2 a (.dT (dropK kvs k)))
theorem ps_ddelT (hu : X.A.units + 1 < cLine) (ho : PE X o td) (hi : PE X i ty) : PS X (.Delete [.Subscript o i tpos] pos) (sDDelT td ty) := by
  intro pins s σ H D I h
  refine wpAny_Delete (wpAny_deleteEach_cons (wpAny_delete_Subscript (thn (ho pins s σ H _ I h) fun u s1 ⟨x, H1, I1, rx, q1⟩ => thn (hi pins s1 σ H1 _ I1 q1) fun iv s2 ⟨y, H2, I2, ry, a, b, kvs, k, v, ex, ey, e, eb, l, q2⟩ => ?_)))
  subst ex ey
  obtain rfl : u = Value.ref a := rx
  obtain rfl : iv = Value.ref b := ry
  exact d_delItemT hu I2 e eb l fun s3 I3 => wpAny_deleteEach_nil ⟨σ, _, I3, q2⟩
def tDPopT (td ty : TE) : TE := fun σ H Q => td σ H fun x H1 => ∃ a, x = .ref a ∧ IsD H1 a ∧ ty σ H1 fun y H2 => ∃ b kvs k v, y = .ref b ∧ H2 a = some (.dT kvs) ∧ H2 b = some (.tup (k.map kV)) ∧ valV kvs k = some v ∧ Q v (upd H2 a (.dT (dropK kvs k)))
theorem pe_dpopT (hu : X.A.units + 1 < cLine) (ho : PE X o td) (he : PE X e ty) (m : M1 X o "pop" apos e cpos) : PE X (.Call (.Attribute o "pop" apos) [e] [] cpos) (tDPopT td ty) := by
  intro pins s σ H Q I h
  refine wpAny_Call_method m.base m.few m.line PySem.F.plainAttrs_dict PySem.F.slot_dict_pop PySem.F.type_dict_pop (thn (ho pins s σ H _ I h) fun u s1 ⟨x, H1, I1, rx, a, ex, d, q1⟩ => ?_)
  subst ex
  obtain rfl : u = Value.ref a := rx
  obtain ⟨t1, t2, _⟩ := isD_at I1 d
  refine ⟨t1, t2, ?_⟩
  rw [m.trees]
  refine Calls.callWith_builtin rfl (Calls.evalArgs_plain (Calls.spliced_cons (thn (he pins s1 σ H1 _ I1 q1) fun iv s2 ⟨y, H2, I2, ry, b, kvs, k, v, ey, ea, eb, l, q2⟩ => Calls.spliced_nil ?_)))
  subst ey
  obtain rfl : iv = Value.ref b := ry
  exact d_popT hu I2 ea eb l fun w' s3 I3 rw' => ⟨v, _, I3, rw', q2⟩
/-- two lists, one behind the other -/
theorem op_addL : OpR X (binaryOp .Add) (fun x y H Q => ∃ a b xs ys, x = .ref a ∧ y = .ref b ∧ SqL X.K H a xs ∧ SqL X.K H b ys ∧ xs.length + ys.length ≤ sizeLine ∧ ∀ l, H l = none → Q (.ref l) (upd H l (.lst (xs ++ ys)))) := by
  intro pins s σ H x y u v Q I rx ry h
  obtain ⟨a, b, xs, ys, rfl, rfl, ha, hb, hz, q⟩ := h
  cases (show u = Value.ref a from rx)
  cases (show v = Value.ref b from ry)
  obtain ⟨ia, ra, ⟨⟨cls, dd, data, sl⟩, n, ho, hc, _, hd⟩, _⟩ := I.list ha
  obtain ⟨ib, rb, ⟨⟨cls2, dd2, data2, sl2⟩, n2, ho2, hc2, _, hd2⟩, _⟩ := I.list hb
  simp only at hc hd hc2 hd2
  subst hc hd hc2 hd2
  have e : ia.toArray ++ ib.toArray = (ia ++ ib).toArray := by simp
  have e1 := ra.length
  have e2 := rb.length
  refine concat_meets ⟨_, ho, rfl⟩ ⟨_, ho2, rfl⟩ noFill_list_add seq_list_add PySem.F.slot_list_add PySem.F.entry_list_add (PySem.F.args_list_add_2 _ _) (list_addW a b ia.toArray ib.toArray n n2 dd dd2 sl sl2 (by simp; omega)) ⟨ho, ho2, ?_⟩
  rw [e]
  refine ⟨.ref s.heap.objs.size, _, I.laid (a := s.heap.objs.size) (o := .lst (xs ++ ys)) (t' := s.toks) (fun _ _ q => Heap.get?_push_of_some _ q) (Nat.le_refl _) ⟨by simpa using hz, ia ++ ib, 0, ra.append rb, Heap.get?_push_size _ rfl⟩, rfl, q _ (I.hok.fresh (Nat.le_refl _))⟩
/-- tuples of ints -/
theorem reads_ints {h : Heap} : ∀ {ns : List Int} {vs : List Value}, Vals (ns.map V.int) vs → ReadsAll h vs (ns.map PyData.int) []
  | [], _, r => by cases r; exact .nil
  | n :: ns, _, r => by
    cases r with
    | cons r1 r2 =>
      obtain ⟨t, rfl⟩ := r1
      exact .cons (as := []) (.int _ t) (reads_ints r2)
theorem reads_tup {pins : List (Addr × Obj)} {s : Shared} {σ : St} {H : Hp} {a : Addr} {ns : List Int} (I : Inv X pins σ H s) (h : H a = some (.tup (ns.map V.int))) : Reads s.heap (.ref a) (.tuple (ns.map PyData.int)) [] := by
  obtain ⟨_, its, r, o, h1, h2, n, h3⟩ := (show ObjOk X.prog X.w H s.heap a (.tup (ns.map V.int)) from I.hok a _ h)
  exact reads_tuple_at h1 h2 h3 (by simpa using reads_ints r)
theorem shaped_tup (ns : List Int) : SeqAt.shaped (.tuple (ns.map PyData.int)) = true := by
  simp [SeqAt.shaped, PyData.canLay0, PyData.depth, PySem.W.ke_canLayAll0, PySem.W.ke_depthAll]
theorem same_tup (ns ms : List Int) : PySem.Spec.same (.tuple (ns.map PyData.int)) (.tuple (ms.map PyData.int)) = decide (ns = ms) := by
  simp only [PySem.Spec.same]; exact PySem.W.ke_sameAll ns ms
/-- the same ints in two tuples -/
def rTup (neg : Bool) : R2 := fun x y H Q => ∃ (a b : Addr) (ns ms : List Int), x = .ref a ∧ y = .ref b ∧ H a = some (.tup (ns.map V.int)) ∧ H b = some (.tup (ms.map V.int)) ∧ Q (.bl (if neg then !decide (ns = ms) else decide (ns = ms))) H
theorem tup_has (ns : List Int) : (Shape.tuples .int).has (.tuple (ns.map PyData.int)) = true := by
  simp only [Shape.has]
  induction ns with
  | nil => rfl
  | cons n ns ih => simp [Shape.hasAll, Shape.has] at ih ⊢; try exact ih
theorem op_eqT (hu : X.A.units + 64 < cLine) : OpR X (compareOp .Eq) (rTup false) := by
  intro pins s σ H x y u v Q I rx ry h
  obtain ⟨a, b, ns, ms, rfl, rfl, ha, hb, q⟩ := h
  cases (show u = Value.ref a from rx)
  cases (show v = Value.ref b from ry)
  exact eq_dataH_same (reads_tup I ha) (reads_tup I hb) (shaped_tup _) (shaped_tup _) hu (SeqAt.noMix_of_shape (.tuples .int) rfl _ _ (tup_has ns) (tup_has ms)) (by rw [same_tup]; exact fin_bl I q (by simp))
theorem op_neT (hu : X.A.units + 64 < cLine) : OpR X (compareOp .NotEq) (rTup true) := by
  intro pins s σ H x y u v Q I rx ry h
  obtain ⟨a, b, ns, ms, rfl, rfl, ha, hb, q⟩ := h
  cases (show u = Value.ref a from rx)
  cases (show v = Value.ref b from ry)
  exact ne_dataH_same (reads_tup I ha) (reads_tup I hb) (shaped_tup _) (shaped_tup _) hu (SeqAt.noMix_of_shape (.tuples .int) rfl _ _ (tup_has ns) (tup_has ms)) (by rw [same_tup]; exact fin_bl I q (by simp))
end
end L2
namespace L2
open PySem PySem.Spec PyProof.Rows
theorem for_enum {K : PySem.W.Frag} {a : Addr} {xs : List V} {g : TG} {tb : TS} {D : Ends} {σ : St} {H : Hp} (Pv : Nat → St → Hp → Prop) (h0 : Pv 0 σ H) (hl : ∀ i σ H, i ≤ xs.length → Pv i σ H → SqL K H a xs)
    (hs : ∀ i x σ H p, xs[i]? = some x → Pv i σ H → H p = none → g (.ref p) σ (upd H p (.tup [.int i, x])) fun σ2 H2 => tb { D with nx := Pv (i + 1), ct := Pv (i + 1), bk := D.nx } σ2 H2) (hd : ∀ σ H, Pv xs.length σ H → D.nx σ H) :
    ∃ W : Nat → Nat → St → Hp → Prop, (∃ m, W 0 m σ H) ∧ ∀ i m σ H, W i m σ H →
      ((Ite K a).stop i H ∧ D.nx σ H) ∨ ((Ite K a).go i H ∧ ∃ N : St → Hp → Prop, (∀ σ' H', N σ' H' → ∃ m', m' < m ∧ W (i + 1) m' σ' H') ∧ ∀ x H', (Ite K a).yld i H x H' → g x σ H' fun σ2 H2 => tb { D with nx := N, ct := N, bk := D.nx } σ2 H2) := by
  refine ⟨fun i m σ H => m = xs.length - i ∧ i ≤ xs.length ∧ Pv i σ H, ⟨xs.length, by simp, Nat.zero_le _, h0⟩, ?_⟩
  rintro i m σ H ⟨rfl, hi, p⟩
  have hq := hl i σ H hi p
  by_cases hlt : i < xs.length
  · refine .inr ⟨⟨xs, xs[i], hq, List.getElem?_eq_getElem hlt⟩, Pv (i + 1), fun σ' H' p' => ⟨xs.length - (i + 1), by omega, rfl, hlt, p'⟩, fun x H' y => ?_⟩
    obtain ⟨b, z, rfl, hb, rfl, hz⟩ := y
    exact hs i z σ H b (hz xs hq) p hb
  · have e : i = xs.length := by omega
    subst e
    exact .inl ⟨⟨xs, hq, Nat.le_refl _⟩, hd σ H p⟩
end L2

set_option Elab.async false
set_option linter.all false
set_option maxRecDepth 100000
namespace L2
open PySem PySem.Spec PyProof.Rows
/-- a key that may be None: only asked for, never kept -/
abbrev OKey := Option Key
def okeyIs : OKey → Value → Bool
  | none, .none => true
  | none, _ => false
  | some k, v => keyIs k v
def okeyH (w : World) : OKey → Int
  | none => reduceHash 0xFCA86420
  | some k => keyH w k
theorem okeyIs_none {v : Value} (h : okeyIs none v = true) : v = .none := by cases v <;> first | rfl | cases h
section
variable {prog : Program} {w : World} {A : Around} {E : Value → Shared → Prop} {s : Shared}
theorem wpAny_pyHash_none {Q : Int → Shared → Prop} (h : Q (reduceHash 0xFCA86420) { s with toks := s.toks + 1 }) : wpAny (model prog w) A (pyHash .none) Q E s :=
  PySem.W.pyHash_slot (T := "NoneType") rfl F.slot_NoneType_hash F.entry_NoneType_hash (F.args_NoneType_hash_1 _) (beq_builtin_none _) (.inl rfl) (wpAny_bind (wpAny_pure (wpAny_bind (wpAny_mkInt (wpAny_pure ⟨_, _, rfl, h⟩)))))
end
theorem dec_some (a b : Key) : decide ((some a : OKey) = some b) = decide (a = b) := by
  by_cases e : a = b
  · subst e; simp
  · rw [decide_eq_false e, decide_eq_false (fun q => e (Option.some.inj q))]
def optKind (prog : Program) (w : World) : PySem.KeyKind prog w OKey where
  is := okeyIs
  hash := okeyH w
  inj := fun v a b ha hb => by
    cases a with
    | none =>
      cases b with
      | none => rfl
      | some b => rw [okeyIs_none ha] at hb; rcases keyIs_shape (k := b) hb with ⟨_, _, _, e⟩ | ⟨_, _, _, e⟩ <;> cases e
    | some a =>
      cases b with
      | none => rw [okeyIs_none hb] at ha; rcases keyIs_shape (k := a) ha with ⟨_, _, _, e⟩ | ⟨_, _, _, e⟩ <;> cases e
      | some b => exact congrArg some ((mixKind prog w).inj v a b ha hb)
  byValue := fun k v h => by
    cases k with
    | none => rw [okeyIs_none h]; rfl
    | some k => exact (mixKind prog w).byValue k v h
  pyHash := fun {A E s k v Q} hv h => by
    cases k with
    | none => rw [okeyIs_none hv]; exact wpAny_pyHash_none h
    | some k => exact (mixKind prog w).pyHash hv h
  eqBool := fun {A E s a b u v Q} hu hv h => by
    cases a with
    | none =>
      have e1 := okeyIs_none hu
      subst e1
      cases b with
      | none =>
        have e2 := okeyIs_none hv
        subst e2
        exact SeqAt.EqAt.same _ _ _ _ _ h
      | some b =>
        rw [decide_eq_false (fun q => nomatch q)] at h
        rcases keyIs_shape (k := b) hv with ⟨j, t, _, rfl⟩ | ⟨y, t, _, rfl⟩
        · exact SeqAt.EqAt.none_int _ _ _ _ _ _ h
        · exact SeqAt.EqAt.none_str _ _ _ _ _ _ h
    | some a =>
      cases b with
      | none =>
        have e2 := okeyIs_none hv
        subst e2
        rw [decide_eq_false (fun q => nomatch q)] at h
        rcases keyIs_shape (k := a) hu with ⟨j, t, _, rfl⟩ | ⟨y, t, _, rfl⟩
        · exact SeqAt.EqAt.int_none _ _ _ _ _ _ h
        · exact SeqAt.EqAt.str_none _ _ _ _ _ _ h
      | some b => rw [dec_some] at h; exact (mixKind prog w).eqBool (a := a) (b := b) hu hv h
  «strs» := fun k x t v h => by
    cases k with
    | none => cases h
    | some k => exact (mixKind prog w).strs k x t v h
theorem items_some {P : Program} {w : World} {ks : List Key} {us : List Value} (h : ItemsAre (mixKind P w) ks us) : ItemsAre (optKind P w) (ks.map some) us := by
  induction h with
  | nil => exact .nil
  | cons a b ih => exact .cons a ih
theorem dictOfH_some {P : Program} {w : World} {h : Heap} {a : Addr} {xs : List (List Key × Addr × Value)} (d : h.DictOfH (tupleKind (mixKind P w)) a xs) :
    h.DictOfH (tupleKind (optKind P w)) a (xs.map fun x => (x.1.map some, x.2)) := by
  obtain ⟨o, es, ep, h1, h2, h3, h4, h5, h6⟩ := d
  refine ⟨o, es, ep, h1, h2, h3, ?_, ?_, ?_⟩
  · rw [h4, List.map_map]
    refine List.map_congr_left fun x _ => ?_
    show entryOfKey _ x = entryOfKey _ (x.1.map some, x.2)
    unfold entryOfKey
    have e : (tupleKind (mixKind P w)).hash x.1 = (tupleKind (optKind P w)).hash (x.1.map some) := by
      show reduceHash _ = reduceHash _
      rw [List.map_map]
      rfl
    rw [e]
  · intro x hx
    obtain ⟨y, hy, rfl⟩ := List.mem_map.mp hx
    obtain ⟨o, its, n, g1, g2, g3, g4⟩ := h5 y hy
    exact ⟨o, its, n, g1, g2, g3, items_some g4⟩
  · rw [List.map_map]
    have : (fun x : List Key × Addr × Value => (x.1.map some, x.2).1) = (List.map some) ∘ fun x => x.1 := rfl
    show List.Nodup (xs.map ((fun x => x.1) ∘ fun x => (x.1.map some, x.2)))
    have e : ((fun x : List OKey × Addr × Value => x.1) ∘ fun x : List Key × Addr × Value => (x.1.map some, x.2)) = (List.map (some : Key → OKey)) ∘ fun x => x.1 := rfl
    rw [e, ← List.map_map]
    have inj : Function.Injective (some : Key → OKey) := fun _ _ h => Option.some.inj h
    refine List.Pairwise.map _ (fun a b hab hc => hab ?_) h6
    exact List.map_inj_right (fun _ _ h => Option.some.inj h) |>.mp hc
/-- what the dict at a has at the key y, which may hold a None (then nothing) -/
def DGetN (H : Hp) (a : Addr) (y : V) (r : Option V) : Prop :=
  DGet H a y r ∨ ∃ (kvs : List (List Key × V)) (n : Int) (b : Addr), Rd H a (.dT kvs) ∧ y = .ref b ∧ H b = some (.tup [.int n, .non]) ∧ r = none
section
variable {X : Cx} {pins : List (Addr × Obj)} {σ : St} {H : Hp} {s : Shared} {a : Addr} {y v : V} {u r : Value} {o : Option V} {A : Around} {E : Value → Shared → Prop}
theorem keyN_of {P : Program} {w : World} {h : Heap} {n : Int} {b : Addr} (ok : HOk P w H h) (e : H b = some (.tup [.int n, .non])) : (tupleKind (optKind P w)).is h [some (Sum.inl n), none] b := by
  obtain ⟨_, its, r, o, h1, h2, m, h3⟩ := (show ObjOk P w H h b (.tup [.int n, .non]) from ok b _ e)
  refine ⟨o, its.toArray, m, h1, h2, h3, ?_⟩
  cases r with
  | cons r1 r2 =>
    cases r2 with
    | cons r2 r3 =>
      cases r3
      obtain ⟨t, rfl⟩ := (show ∃ t, _ = Value.int n t from r1)
      obtain rfl := (show _ = Value.none from r2)
      refine .cons ?_ (.cons rfl .nil)
      exact keyIs_int n t
theorem atKey_noneN (xs : List (List Key × Addr × Value)) (n : Int) : atKey (xs.map fun x => (x.1.map (some : Key → OKey), x.2)) [some (Sum.inl n), none] = none := by
  unfold atKey
  rw [Option.map_eq_none_iff, List.find?_eq_none]
  intro x hx
  obtain ⟨y, hy, rfl⟩ := List.mem_map.mp hx
  intro h
  have h := of_decide_eq_true h
  have : (none : OKey) ∈ y.1.map (some : Key → OKey) := by
    rw [show y.1.map (some : Key → OKey) = [some (Sum.inl n), none] from h]
    exact .tail _ (.head _)
  obtain ⟨z, _, hz⟩ := List.mem_map.mp this
  cases hz
theorem d_notInN {Q : Value → Shared → Prop} (hu : A.units + 1 < cLine) (I : Inv X pins σ H s) (g : DGetN H a y o) (ry : RelV y u) (h : ∀ s', Inv X pins σ H s' → Q (.bool (!o.isSome)) s') :
    wpAny (model X.prog X.w) A (compareOp .NotIn u (.ref a)) Q E s := by
  rcases g with g | ⟨kvs, n, b, e, ey, eb, rfl⟩
  · exact d_notIn hu I g ry h
  · subst ey
    cases (show u = Value.ref b from ry)
    obtain ⟨z, hd, xs, rel, dd⟩ := dt_rd I.hok e
    refine wpAny_notIn_heap (tupleKind_room_in1 hu) (keyN_of I.hok eb) hd (dictOfH_some dd) ?_
    rw [atKey_noneN]
    exact h _ (I.tok _)
end
def tDNotInN (ty td : TE) : TE := fun σ H Q => ty σ H fun y H1 => td σ H1 fun x H2 => ∃ a o, x = .ref a ∧ DGetN H2 a y o ∧ Q (.bl (!o.isSome)) H2
theorem pc_dnotinN {X : Cx} {i o : Expr} {ty td : TE} (hu : X.A.units + 1 < cLine) (hi : PE X i ty) (ho : PE X o td) : PC X .NotIn i o (tDNotInN ty td) := by
  intro pins s σ H Q I h
  refine thn (hi pins s σ H _ I h) fun iv s1 ⟨y, H1, I1, ry, q1⟩ => thn (ho pins s1 σ H1 _ I1 q1) fun u s2 ⟨x, H2, I2, rx, a, ov, ex, g, q2⟩ => ?_
  subst ex
  obtain rfl : u = Value.ref a := rx
  exact d_notInN hu I2 g ry fun s3 I3 => ⟨.bl (!ov.isSome), H2, I3, rfl, q2⟩
end L2

set_option Elab.async false
set_option linter.all false
set_option maxRecDepth 100000
namespace L2
open PySem PySem.Spec PyProof.Rows
section
variable {X : Cx}
/-- x = [.. for ..], x a local name of the same row: stored ahead of the block's end -/
theorem ps_setC {ix : Nat} {nm : Str} {pos' spos : Pos} {elt tg iter : Expr} {ifs : List Expr} {scope : Scope} {pos : Pos} {wi : TI} {k : Nat} {g : TG} {tc : TT} {te : TE} (hNd : X.N.Nodup) (hix : X.N[ix]? = some nm) (hLx : Loc X.env.scope nm) (N' : List Str) (hc : X.calm = true) (hi : PI X tg iter wi)
    (hg : ∀ C s₀ H₀ fp pins, PG (blk X scope N' C s₀ H₀ fp pins) tg g) (ht : ∀ C s₀ H₀ fp pins, PTs (blk X scope N' C s₀ H₀ fp pins) ifs tc) (he : ∀ C s₀ H₀ fp pins, PE (blk X scope N' C s₀ H₀ fp pins) elt te)
    (hk : scope.kind = .function) (hcell : ∀ y ∈ scope.names, y.2 ≠ .cell) (hnames : ∀ y ∈ scope.names, y.2 = .local → scope.names.lookup y.1 = some .local)
    {esc : Scope} (hsc : X.env.scope = esc) (hfr' : ∀ y ∈ scope.names, y.2 = .free → esc.names.lookup y.1 = some .cell ∨ esc.names.lookup y.1 = some .free)
    (hlen : N'.length = k + X.N.length)
    (hN : ∀ (i : Nat) (x : Str), N'[i + k]? = some x → (x, NameKind.free) ∈ scope.names → X.N[i]? = some x)
    (hN2 : ∀ x ∈ N'.drop k, scope.names.lookup x ≠ some .local)
    (hs : ∀ x, foldedSetIterable iter X.env x = pure x := by intro _; rfl)
    (hsw : swapsWith (.ListComp elt [⟨tg, iter, ifs, 0⟩] scope pos) (some (.Name nm pos')) spos.line X.env = pure true := by rfl)
    (hf : X.fn nm = true ∨ X.env.scope.names.lookup nm = some .local := by first | exact .inl rfl | exact .inr rfl | assumption) :
    PS X (.Assign [.Name nm pos'] (.ListComp elt [⟨tg, iter, ifs, 0⟩] scope pos) spos) (tAsg (tLC wi k g tc te) (gName ix)) := by
  intro pins s σ H Dn I h
  have hfr : ∀ y ∈ scope.names, y.2 = .free → X.env.kindOf y.1 = some .cell ∨ X.env.kindOf y.1 = some .free := fun y hy hf => by
    show X.env.scope.names.lookup y.1 = _ ∨ X.env.scope.names.lookup y.1 = _
    rw [hsc]; exact hfr' y hy hf
  have hcells : ∀ y ∈ scope.names, y.2 = .free → ∃ c, X.env.cells.lookup y.1 = some c := fun y hy hf => I.ok.has y.1 (hfr y hy hf)
  have hclos := closure_eq scope X.env hcells
  rw [exec_Assign_Name_used _ _ _ _ hsw]
  refine wpAny_bind (wpAny_standAt (wpAny_bind ?_))
  show wpAny _ X.A (do let _ ← comprehension (.ListComp elt [⟨tg, iter, ifs, 0⟩] scope pos) scope X.env _ (newList []) false (eval iter X.env) (some (assign (.Name nm pos') X.env))) _ _ s
  refine wpAny_bind (wpAny_mono (wpAny_comprehension_free (Q := fun _ s' => SP X pins Dn .next s') (use := some (assign (.Name nm pos') X.env)) rfl hs hclos hk hnames ?_) (fun _ s' hq => wpAny_pure (wpAny_pure hq)) fun _ _ e => e)
  refine (thn (hi pins s σ H _ I h) fun v s1 h1 => thn h1 fun itv s2 h2 => ?_)
  obtain ⟨it, fp, tn, J, H2, e, I2, T, st2, f2, R⟩ := h2
  subst e
  refine wpAny_newObj_type ?_
  have hD : H2 s2.heap.objs.size = none := I2.hok.fresh (Nat.le_refl _)
  obtain ⟨W, ⟨m0, w0⟩, turn⟩ := R _ hD
  generalize eD : s2.heap.objs.size = D at *
  have I3 : Inv X pins σ (upd H2 D (.lst [])) { s2 with heap := s2.heap.push { cls := .type "list", dict := none, data := .seq ([] : List Value).toArray } } :=
    I2.laid (a := D) (o := .lst []) (t' := s2.toks) (fun b u e => Heap.get?_push_of_some _ e) (Nat.le_of_eq eD) ⟨Nat.zero_le _, [], 0, .nil, by rw [← eD]; exact Heap.get?_push_size _ rfl⟩
  generalize e3 : ({ s2 with heap := s2.heap.push { cls := .type "list", dict := none, data := .seq ([] : List Value).toArray } } : Shared) = s3 at *
  have st3 : tn 0 s3.heap := T.keep _ _ _ st2 fun b _ o e => by rw [← e3]; exact Heap.get?_push_of_some _ e
  have lt2 : ∀ b ∈ fp, b < s2.heap.objs.size := fun b hb => by
    obtain ⟨o, e, _⟩ := T.obj _ _ st2 b hb
    exact Heap.lt_size e
  have neD : ∀ b ∈ fp, b ≠ D := fun b hb => by
    have := lt2 b hb
    rw [eD] at this
    exact Nat.ne_of_lt this
  have f3 : ∀ b ∈ fp, FpOk X pins (upd H2 D (.lst [])) b := fun b hb => ⟨by rw [upd_ne (neD b hb)]; exact (f2 b hb).1, (f2 b hb).2⟩
  generalize upd H2 D (.lst []) = H3 at *
  refine wpAny_newFunctionEnv hcell (by intro y hy; simp at hy) (fun h₁ hns₁ hsb₁ => ?_) hk
  try dsimp only at hns₁ hsb₁ ⊢
  have lt3 : ∀ b ∈ fp, b < s3.heap.objs.size := fun b hb => by
    obtain ⟨o, e, _⟩ := T.obj _ _ st3 b hb
    exact Heap.lt_size e
  generalize eC : s3.heap.objs.size = C at *
  have kp : ∀ b o, s3.heap.get? b = some o → h₁.get? b = some o := fun b o e => (hsb₁.2 b (by rw [← eC]; exact Nat.ne_of_lt (Heap.lt_size e))).trans (Heap.get?_push_of_some _ e)
  have subC : ∀ x c, (clOf X.env.cells scope.names []).lookup x = some c → X.env.cells.lookup x = some c := fun x c e => clOf_sub scope.names [] hcells (fun y d z => by simp at z) e
  have hCnone : H3 C = none := I3.hok.fresh (Nat.le_of_eq eC)
  have ok' : (blk X scope N' C s3 H3 fp pins).Ok := {
    mod := I3.ok.mod
    kind := hk
    glob := I3.ok.glob
    blt := I3.ok.blt
    above := Nat.le_of_eq eC
    inj := fun x y c a b => I3.ok.inj x y c (subC x c a) (subC y c b)
    has := fun x hx => clOf_has scope.names [] (relabel_cf scope.names hcell hx)
    cab := fun x c a _ => absurd a Bool.false_ne_true
    hd := I3.ok.hd
    frames := I3.ok.frames
    stk := .inl rfl
    exf := fun b hb => ⟨by have := lt3 b hb; exact Nat.ne_of_lt this, fun x c e => (f3 b hb).2.2.2.2.1 x c (subC x c e)⟩
    bs := I3.bs
    bsz := Nat.le_trans I3.ok.bsz I3.sz
    noex := fun b o e hb => by
      rcases (f3 b hb).2.2.2.1 with z | z
      · exact I3.ok.noex b o e z
      · exact absurd (Nat.lt_of_lt_of_le (Heap.lt_size e) (Nat.le_trans I3.ok.bsz z)) (Nat.lt_irrefl _)
    exfs := fun b hb z => by
      rcases List.mem_cons.mp (I3.stkSub b z) with e | e
      · exact (f3 b hb).2.1 e
      · exact (f3 b hb).2.2.1 e
    funs := I3.stack
    frf := I3.stkFree }
  have s4os : ({ s3 with heap := h₁, toks := s3.toks + ([] : List (Str × Value)).length } : Shared).os = s3.os := rfl
  generalize e4 : ({ s3 with heap := h₁, toks := s3.toks + ([] : List (Str × Value)).length } : Shared) = s4 at *
  have h4 : s4.heap = h₁ := by rw [← e4]
  have J4 : Inv (blk X scope N' C s3 H3 fp pins) [] (List.replicate k none ++ σ) H3 s4 := by
    refine ⟨ok', s4os, by rw [← e4]; exact I3.bare, ?_, ⟨_, by rw [h4]; exact hns₁, fun i x v e1 e2 e5 => ?_⟩, fun x c e => ?_, hCnone, fun x c e => I3.freeC x c (subC x c e), fun p hp => ?_, ?_, ?_⟩
    · rw [h4]; exact Un.kept kp
    · have hik : ¬ i < k := fun hlt => by
        rw [List.getElem?_append_left (by rw [List.length_replicate]; exact hlt), List.getElem?_replicate] at e2
        split at e2 <;> cases e2
      obtain ⟨j, rfl⟩ : ∃ j, i = j + k := ⟨i - k, by omega⟩
      have e2' : σ[j]? = some (some v) := by
        rw [List.getElem?_append_right (by rw [List.length_replicate]; omega), List.length_replicate] at e2
        have : j + k - k = j := by omega
        rw [this] at e2; exact e2
      have nl : (relabel scope X.env).names.lookup x ≠ some .local := fun z => by
        have q : ∀ (l : List (Str × NameKind)), (l.map fun (n, k) => if (k == NameKind.free && X.env.scope.kind == .function && X.env.kindOf n == some .cell) then (n, NameKind.cell) else (n, k)).lookup x = some .local → l.lookup x = some .local := by
          intro l
          induction l with
          | nil => intro z; simp at z
          | cons y l ih =>
            obtain ⟨n, kk⟩ := y
            intro z
            by_cases hcc : (kk == NameKind.free && X.env.scope.kind == .function && X.env.kindOf n == some .cell) = true
            · simp only [List.map_cons, if_pos hcc, List.lookup_cons] at z ⊢
              cases hx : x == n with
              | true => simp only [hx] at z; cases z
              | false => simp only [hx] at z ⊢; exact ih z
            · simp only [List.map_cons, if_neg hcc, List.lookup_cons] at z ⊢
              cases hx : x == n with
              | true => simp only [hx] at z ⊢; exact z
              | false => simp only [hx] at z ⊢; exact ih z
        exact hN2 x (List.mem_of_getElem? (i := j) (by rw [List.getElem?_drop, Nat.add_comm]; exact e1)) (q _ z)
      have hcf : (relabel scope X.env).names.lookup x = some .cell ∨ (relabel scope X.env).names.lookup x = some .free := by
        rcases e5 with z | z | z
        · exact absurd z nl
        · exact .inl z
        · exact .inr z
      have hmem : (x, NameKind.free) ∈ scope.names := relabel_cf scope.names hcell hcf
      have hx := hN j x e1 hmem
      obtain ⟨mo, _, hl⟩ := I3.loc
      have hkx := hfr (x, .free) hmem rfl
      obtain ⟨u, ru, lk⟩ := hl j x v hx e2' (by
        rcases hkx with z | z
        · exact .inr (.inl z)
        · exact .inr (.inr z))
      refine ⟨u, ru, .inr ⟨hcf, ?_⟩⟩
      rcases lk with ⟨z, _⟩ | ⟨_, c, hc1, hc2⟩
      · rcases hkx with q | q
        · rw [q] at z; cases z
        · rw [q] at z; cases z
      · obtain ⟨c', hc'⟩ := clOf_has (cells := X.env.cells) scope.names [] hmem
        have := subC x c' hc'
        rw [hc1] at this; cases this
        obtain ⟨oc, h5, h6⟩ := hc2
        exact ⟨c, hc', oc, by rw [h4]; exact kp _ _ h5, h6⟩
    · obtain ⟨v, oc, h5, h6⟩ := I3.cell x c (subC x c e)
      exact ⟨v, oc, by rw [h4]; exact kp _ _ h5, h6⟩
    · have hp' : p ∈ X.pn ++ pins := by simpa using hp
      obtain ⟨a1, a2, a3, a4, a5⟩ := I3.pin p hp'
      refine ⟨by rw [h4]; exact kp _ _ a1, a2, ?_, fun z => ?_, a5⟩
      · have := Heap.lt_size a1
        rw [eC] at this
        exact Nat.ne_of_lt this
      · rcases List.mem_cons.mp (I3.stkSub p.1 z) with q | q
        · exact a3 q
        · exact a4 q
    · rw [h4]; exact I3.hok.kept kp
    · rw [List.length_append, List.length_replicate, I3.len]; exact hlen.symm
  have stat : ∀ {H' : Hp}, (∀ b ∈ fp, H' b = none) → ∀ b ∈ fp, FpOk (blk X scope N' C s3 H3 fp pins) [] H' b := fun hn b hb =>
    ⟨hn b hb, (ok'.exf b hb).1, ok'.exfs b hb, .inl hb, fun x c e => (ok'.exf b hb).2 x c e, fun p hp => (f3 b hb).2.2.2.2.2 p (by simpa using hp)⟩
  have fr4 : ∀ b ∈ fp, H3 b = none := fun b hb => (f3 b hb).1
  have st4 : tn 0 s4.heap := T.keep _ _ _ st3 fun b _ o e => by rw [h4]; exact kp _ _ e
  -- the loop
  have loop : codeAny (model X.prog X.w) X.A (.compLoop (.ListComp elt [⟨tg, iter, ifs, 0⟩] scope pos) 0 (.ref it) (.ref D) (compEnvC scope (clOf X.env.cells scope.names []) C X.env))
      (compPost (model X.prog X.w) X.A X.xe (some (assign (.Name nm pos') X.env)) (fun _ s' => SP X pins Dn .next s') (.ref D) C) s4 := by
    refine compLoop_go (fun n s' => ∃ i ys H', Inv (blk X scope N' C s3 H3 fp pins) [] (List.replicate k none ++ σ) H' s' ∧ tn i s'.heap ∧ (∀ b ∈ fp, H' b = none) ∧ W i n ys H') ?_ m0 ⟨0, [], H3, J4, st4, fr4, w0⟩
    rintro n s5 ⟨i, ys, H5, I5, st5, fr5, w5⟩
    obtain ⟨hDl, stp⟩ := turn i n ys H5 w5
    rcases stp with ⟨stop, qn⟩ | ⟨go, step⟩
    · refine thn (T.done (blk X scope N' C s3 H3 fp pins) rfl rfl rfl hc i [] s5 _ H5 (fun _ _ => False) I5 (stat fr5) st5 stop) fun r s6 ⟨hr, I6⟩ => ?_
      subst hr
      obtain ⟨m6, ns6, _⟩ := id I6.loc
      have hC5 : H5 C = none := I6.free
      have un6 : Un (frs X.stack) fp H3 H5 s3.heap s6.heap := I6.base
      have IX : Inv X pins σ H5 s6 := by
        refine I3.call' (s' := s6) (ch := fp) I6.os un6 I6.hok I6.bare (fun b hb => ?_)
        exact ⟨(f3 b hb).2.2.2.1, (f3 b hb).2.1, (f3 b hb).2.2.2.2.1, (f3 b hb).2.2.2.2.2⟩
      have fpC : FpOk X pins H5 C := I3.fpOk (Nat.le_of_eq eC) hC5
      obtain ⟨oC, esC, epC, gC, dC, rC⟩ := ns6
      have IXp := IX.pinned (fp := [C]) (fun b hb => by rw [List.mem_singleton.mp hb]; exact fpC) (fun b hb => by rw [List.mem_singleton.mp hb]; exact ⟨oC, gC, fun v z => by rw [dC] at z; cases z⟩)
      have sto := pg_name (pos := pos') hNd hix hLx hf _ s6 σ H5 (.ref D) (.ref D) (fun σ' H' => σ' = σ.set ix (some (.ref D)) ∧ H' = H5) IXp rfl ⟨rfl, rfl⟩
      show wpAny _ _ (assign (.Name nm pos') X.env (.ref D)) _ _ s6
      refine thn sto fun _ s7 ⟨σ7, H7, I7, e7, e7'⟩ => ?_
      subst e7 e7'
      have gC7 : s7.heap.get? C = some oC := (I7.pin (C, oC) (List.mem_append_right _ (List.mem_append_right _ (mem_pinsAt (List.mem_singleton.mpr rfl) gC)))).1
      refine ⟨_, ⟨oC, esC, epC, gC7, dC, rC⟩, fun h' hsb => ⟨σ.set ix (some (.ref D)), _, ?_, qn⟩⟩
      refine (I7.unpinned).call' (s' := { s7 with heap := h' }) (ch := [C]) rfl ⟨fun b o e a1 a2 a3 => ?_, fun b o e a1 a2 a3 => ?_, fun _ _ _ n _ => n, fun b o e a3 => ?_, fun _ _ q => q, fun _ _ _ q => q, fun _ ps q => ⟨#[], by rw [q]; simp⟩⟩ ?_ I7.bare (fun b hb => ?_)
      · exact (hsb.2 b (fun z => a3 (List.mem_singleton.mpr z))).trans e
      · exact ⟨o.slots, (hsb.2 b (fun z => a3 (List.mem_singleton.mpr z))).trans e⟩
      · exact ⟨o, (hsb.2 b (fun z => a3 (List.mem_singleton.mpr z))).trans e⟩
      · intro b u e
        refine (I7.hok b u e).stay (fun c w' hcc q => (hsb.2 c ?_).trans q) (fun _ q => q) fun _ _ q => q
        rintro rfl
        rcases hcc with z | z
        · rw [z, e] at hC5; cases hC5
        · rw [z] at hC5; cases hC5
      · rw [List.mem_singleton.mp hb]
        exact ⟨fpC.2.2.2.1, fpC.2.1, fpC.2.2.2.2.1, fpC.2.2.2.2.2⟩
    · refine thn (T.item (blk X scope N' C s3 H3 fp pins) rfl rfl rfl hc i [] s5 _ H5 (fun _ _ => False) I5 (stat fr5) st5 go) fun r s6 ⟨u, hr, h6⟩ => ?_
      subst hr
      refine thn h6 fun _ s7 ⟨x, H7, I7, r7, y7, st7, fr7⟩ => ?_
      have I7' := I7.pinned (stat fr7) (T.obj _ _ st7)
      refine thn (hg C s3 H3 fp pins _ s7 _ H7 x u _ I7' r7 (step x H7 y7)) fun _ s8 ⟨σ8, H8, I8, d8, q8⟩ => ?_
      refine thn (ht C s3 H3 fp pins _ s8 σ8 H8 _ I8 q8) fun b s9 ⟨H9, I9, q9⟩ => ?_
      have kz : ∀ (j : Nat) v, (List.replicate k none ++ σ)[j]? = some (some v) → σ8[j]? = some (some v) := fun j v e => by
        have hik : ¬ j < k := fun hlt => by
          rw [List.getElem?_append_left (by rw [List.length_replicate]; exact hlt), List.getElem?_replicate] at e
          split at e <;> cases e
        rw [List.getElem?_append_right (by rw [List.length_replicate]; omega), List.length_replicate, ← d8, List.getElem?_drop] at e
        have : k + (j - k) = j := by omega
        rw [this] at e; exact e
      have again : ∀ {Hz : Hp} {sz : Shared} {zs : List V} {m' : Nat}, Inv (blk X scope N' C s3 H3 fp pins) ([] ++ pinsAt fp s7.heap) σ8 Hz sz → m' < n → W (i + 1) m' zs Hz →
          ∃ m, m < n ∧ ∃ i ys H', Inv (blk X scope N' C s3 H3 fp pins) [] (List.replicate k none ++ σ) H' sz ∧ tn i sz.heap ∧ (∀ b ∈ fp, H' b = none) ∧ W i m ys H' := fun {Hz sz zs m'} Iz hm wz => by
        refine ⟨m', hm, i + 1, zs, Hz, (Iz.unpinned).weak ?_ kz, T.keep _ _ _ st7 fun b hb o e => (Iz.pin (b, o) (List.mem_append_right _ (List.mem_append_right _ (mem_pinsAt hb e)))).1, fun b hb => ?_, wz⟩
        · rw [Iz.len]; exact I5.len
        · obtain ⟨o, e, d⟩ := T.obj _ _ st7 b hb
          exact (Iz.pin (b, o) (List.mem_append_right _ (List.mem_append_right _ (mem_pinsAt hb e)))).2.1
      cases b with
      | false =>
        obtain ⟨m', hm, w9⟩ := (show ∃ m', m' < n ∧ W (i + 1) m' ys H9 by simpa using q9)
        rw [if_neg Bool.false_ne_true]
        exact again I9 hm w9
      | true =>
        rw [if_pos rfl] at q9 ⊢
        refine thn (he C s3 H3 fp pins _ s9 σ8 H9 _ I9 q9) fun u9 s10 ⟨y, H10, I10, r10, hz, hD10, m', hm, w10⟩ => ?_
        refine thn (mt_append (X := blk X scope N' C s3 H3 fp pins) _ s10 σ8 H10 (.ref D) [y] (.ref D) [u9] (fun _ H' => H' = upd H10 D (.lst (ys ++ [y]))) I10 rfl (.cons r10 .nil) ⟨D, ys, y, rfl, rfl, hD10, hz, rfl⟩) fun _ s11 ⟨_, H11, I11, _, e11⟩ => ?_
        subst e11
        exact again I11 hm w10
  exact codeAny_compStart_list loop (T.self _ 0 _ _ _ st4 loop)
end
end L2

set_option Elab.async false
set_option linter.all false
set_option maxRecDepth 100000
namespace L2
open PySem PySem.Spec PyProof.Rows
section
variable {X : Cx}
theorem ints_of : ∀ {ns : List Int} {us : List Value}, Vals (ns.map V.int) us → IntsAre us ns
  | [], _, .nil => .nil
  | n :: ns, _, .cons r t => by
    obtain ⟨k, rfl⟩ := (show ∃ t, _ = Value.int n t from r)
    exact .cons n k (ints_of t)
/-- sum of a list of ints -/
theorem call_sum (hc : X.calm = true) : CallR X (.builtin "sum") (fun xs H Q => ∃ (a : Addr) (ns : List Int), xs = [V.ref a] ∧ SqL X.K H a (ns.map V.int) ∧ Q (.int ns.sum) H) := by
  intro pins s σ H xs us Q I r h
  obtain ⟨a, ns, rfl, hq, q⟩ := h
  obtain ⟨u, rfl, ru⟩ := vals1 r
  cases (show u = Value.ref a from ru)
  obtain ⟨its, rv, p, hz⟩ := I.list hq
  have hi := ints_of rv
  obtain ⟨xs, hxs⟩ := hi.allInts.items
  have hl := p.isList
  rw [hxs] at hl
  refine sum_intListG (I.ok.hd hc) hl fun h' tk t' hk => ?_
  have e : preSum (numAt xs) xs.size = ns.sum := by
    rw [preSum_eq, ← nums_intItems, ← hxs]
    show (List.take xs.size (numsOf its)).sum = ns.sum
    rw [hi.numsOf, List.take_of_length_le]
    have e1 := congrArg Array.size hxs
    rw [List.size_toArray] at e1
    rw [show (intItems xs).size = xs.size by unfold intItems; simp] at e1
    rw [← e1, hi.length]
    exact Nat.le_refl _
  rw [e]
  exact ⟨.int ns.sum, H, I.kept hk, ⟨t', rfl⟩, q⟩
theorem op_isB : OpR X (compareOp .Is) (fun x y H Q => ∃ b c, x = .bl b ∧ y = .bl c ∧ Q (.bl (b == c)) H) := by
  intro pins s σ H x y v u Q I rx ry h
  obtain ⟨b, c, rfl, rfl, q⟩ := h
  cases rx
  cases ry
  exact is_bool (fin_bl I q rfl)
theorem op_notB : OpR X (compareOp .IsNot) (fun x y H Q => ∃ b c, x = .bl b ∧ y = .bl c ∧ Q (.bl (b != c)) H) := by
  intro pins s σ H x y v u Q I rx ry h
  obtain ⟨b, c, rfl, rfl, q⟩ := h
  cases rx
  cases ry
  exact isnot_bool (fin_bl I q rfl)
end
theorem filt1 {α : Type} (f : α → Int) : ∀ (L : List α) (y : α), (L.map f).Nodup → y ∈ L → (L.filter fun x => f x == f y).length = 1
  | [], y, _, h => nomatch h
  | x :: L, y, n, h => by
    rw [List.map_cons, List.nodup_cons] at n
    rw [List.filter_cons]
    rcases List.mem_cons.mp h with rfl | h
    · rw [if_pos (by simp), List.length_cons, List.filter_eq_nil_iff.mpr (fun a ha e => n.1 (List.mem_map.mpr ⟨a, ha, by simpa using e⟩))]
      rfl
    · rw [if_neg (fun e => n.1 (List.mem_map.mpr ⟨y, h, (show f y = f x by rw [(show f x = f y by simpa using e)])⟩)), filt1 f L y n.2 h]
section
variable {prog : Program} {w : World} {A : Around} {E : Value → Shared → Prop} {s : Shared} {K : Type} [DecidableEq K] {knd : PySem.KeyKind prog w K}
theorem wp_mergeT {nm : String} {d o : Addr} {xs : List (List K × Addr × Value)} {Q : Unit → Shared → Prop} (hne : d ≠ o) (hs : (o == sysModules) = false) (dd : s.heap.DictOfH (tupleKind knd) d []) (od : s.heap.DictOfH (tupleKind knd) o xs)
    (nd : (xs.map fun x => (tupleKind knd).hash x.1).Nodup) (hz : xs.length ≤ sizeLine) (h : ∀ h', h'.DictOfH (tupleKind knd) d xs → Heap.SameBut d s.heap h' → Q () { s with heap := h' }) :
    wpAny (model prog w) A (Builtin.Dict.mergeDict nm d o) Q E s := by
  obtain ⟨o1, es1, ep1, g1, x1, d1, l1, _, _⟩ := id dd
  obtain ⟨o2, es2, ep2, g2, x2, d2, l2, i2, n2⟩ := id od
  unfold Builtin.Dict.mergeDict
  rw [if_neg (by simpa using hne)]
  refine wpAny_bind ?_
  unfold Builtin.Dict.showsAll
  rw [if_neg (by rw [hs]; exact Bool.false_ne_true)]
  refine wpAny_pure (wpAny_bind (wpAny_dictEntries g2 d2 ?_))
  dsimp only
  have z1 : es1 = #[] := by apply Array.ext'; rw [l1]; rfl
  subst z1
  cases xs with
  | nil =>
    have z2 : es2 = #[] := by apply Array.ext'; rw [l2]; rfl
    subst z2
    rw [if_neg (by simp)]
    refine wpAny_bind (wpAny_dictEpoch g2 d2 ?_)
    refine wpAny_bind (wpAny_dictEntries g2 d2 ?_)
    refine wpAny_bind (wpAny_of_eq (a := PUnit.unit) (by simp [Std.Legacy.Range.forIn_eq_forIn_range']) ?_)
    exact wpAny_pure (h _ dd (Heap.SameBut.refl _ _))
  | cons x xs =>
    have hfew : (decide (es2.size ≤ 8) && es2.all fun e => (keyPart e.key).isSome) = false := by
      rw [Bool.and_eq_false_iff]; right
      rw [← Array.all_toList, l2]
      rfl
    rw [hfew, if_pos (show (!false) = true from rfl)]
    refine wpAny_bind (wpAny_dictEntries g1 d1 ?_)
    rw [if_pos (show (#[] : Array DictEntry).isEmpty = true from rfl)]
    refine wpAny_bind ?_
    unfold Builtin.Dict.entriesForEmpty
    refine wpAny_bind (wpAny_dictEntries g2 d2 ?_)
    refine wpAny_bind ?_
    rw [← Array.forIn_toList]
    refine wpAny_forIn_list _ (fun rest b s' => s' = s ∧ ∀ e ∈ rest, e ∈ es2.toList) _ ?_ ?_ _ _ ⟨rfl, fun e he => he⟩
    · rintro e rest b s' ⟨rfl, hr⟩
      have he := hr e (List.mem_cons_self ..)
      rw [l2] at he
      obtain ⟨y, hy, rfl⟩ := List.mem_map.mp he
      obtain ⟨o3, its, n3, q1, q2, q3, q4⟩ := (show IsTupleKey knd s'.heap y.1 y.2.1 from i2 y hy)
      refine wpAny_bind ?_
      show wpAny _ _ (Builtin.Dict.quietEq (.ref y.2.1)) _ _ _
      unfold Builtin.Dict.quietEq
      refine wpAny_bind (wpAny_specialOf (T := "tuple") ⟨o3, q1, q2⟩ F.slot_tuple_eq.lookup (wpAny_pure ?_))
      rw [if_pos (by decide +kernel)]
      have hone : (es2.filter fun x => x.hash == (entryOfKey (tupleKind knd) y).hash).size = 1 := by
        rw [← Array.length_toList, Array.toList_filter, l2, List.filter_map, List.length_map]
        exact filt1 (fun x : List K × Addr × Value => (tupleKind knd).hash x.1) _ y nd hy
      rw [if_neg (by rw [hone]; decide)]
      exact wpAny_pure ⟨rfl, fun e he => hr e (List.mem_cons_of_mem _ he)⟩
    · rintro b s' ⟨rfl, _⟩
      refine wpAny_pure ?_
      have hes : es2.isEmpty = false := by
        cases hh : es2.isEmpty with
        | false => rfl
        | true => 
          rw [Array.isEmpty_iff] at hh
          rw [hh] at l2; cases l2
      rw [hes, if_pos (show (!false) = true from rfl)]
      refine wpAny_bind (wpAny_updateDictKeysTo g1 d1 ?_ ?_)
      · refine wpAny_pure (h _ ⟨_, es2, ep1 + 1, Heap.get?_update_self _ g1 (Obj.isFreed_of_dict (Obj.data_mapDictKeys d1 _)), x1.mapDictKeys _, Obj.data_mapDictKeys d1 _, l2, fun y hy => ?_, n2⟩ (Heap.SameBut.update _ _ _))
        obtain ⟨o3, its, n3, q1, q2, q3, q4⟩ := (show IsTupleKey knd s'.heap y.1 y.2.1 from i2 y hy)
        have ne : y.2.1 ≠ d := fun e => by rw [e, g1] at q1; cases q1; rw [x1.1] at q2; exact absurd q2 (by decide +kernel)
        exact ⟨o3, its, n3, ((Heap.SameBut.update s'.heap d _).2 _ ne).trans q1, q2, q3, q4⟩
      · show es2.size ≤ _
        rw [← Array.length_toList, l2, List.length_map]
        omega
/-- dict(d), d a dict whose keys are tuples, no two of one hash -/
theorem wp_dictT {o : Addr} {xs : List (List K × Addr × Value)} {Q : Value → Shared → Prop} (hs : (o == sysModules) = false) (od : s.heap.DictOfH (tupleKind knd) o xs)
    (nd : (xs.map fun x => (tupleKind knd).hash x.1).Nodup) (hz : xs.length ≤ sizeLine) (h : ∀ h', h'.DictOfH (tupleKind knd) s.heap.objs.size xs → Heap.SameBut s.heap.objs.size (s.heap.push { cls := .type "dict", data := .dict #[] }) h' → Q (.ref s.heap.objs.size) { s with heap := h' }) :
    wpAny (model prog w) A (call (.type "dict") [.ref o]) Q E s := by
  refine callType_codes F.kt_called_dict (F.kt_typeCall_dict_1 _) F.entry_dict_init (kt_code_dict_new (Q₁ := fun obj s₁ => obj = .ref s.heap.objs.size ∧ s₁ = { s with heap := s.heap.push { cls := .type "dict", data := .dict #[] } }) _ ⟨rfl, rfl⟩) ?_
  rintro obj s₁ ⟨rfl, rfl⟩
  have hne : s.heap.objs.size ≠ o := by
    obtain ⟨o2, es2, ep2, g2, _⟩ := od
    exact Nat.ne_of_gt (Heap.lt_size g2)
  have keep : ∀ b ob, s.heap.get? b = some ob → (s.heap.push { cls := .type "dict", data := .dict #[] }).get? b = some ob := fun b ob e => Heap.get?_push_of_some _ e
  have dd : (s.heap.push { cls := .type "dict", data := .dict #[] }).DictOfH (tupleKind knd) s.heap.objs.size [] := ⟨_, #[], 0, Heap.get?_push_size _ rfl, ⟨rfl, rfl, rfl⟩, rfl, rfl, fun _ h => (nomatch h), List.nodup_nil⟩
  have od' : (s.heap.push { cls := .type "dict", data := .dict #[] }).DictOfH (tupleKind knd) o xs := by
    obtain ⟨o2, es2, ep2, g2, x2, d2, l2, i2, n2⟩ := od
    refine ⟨o2, es2, ep2, keep _ _ g2, x2, d2, l2, fun y hy => ?_, n2⟩
    obtain ⟨o3, its, n3, q1, q⟩ := (show IsTupleKey knd s.heap y.1 y.2.1 from i2 y hy)
    exact ⟨o3, its, n3, keep _ _ q1, q⟩
  have td : Shared.TypeIs { s with heap := s.heap.push { cls := .type "dict", data := .dict #[] } } (.ref s.heap.objs.size) "dict" := ⟨_, Heap.get?_push_size _ rfl, rfl⟩
  have to : Shared.TypeIs { s with heap := s.heap.push { cls := .type "dict", data := .dict #[] } } (.ref o) "dict" := by
    obtain ⟨o2, es2, ep2, g2, x2, _⟩ := od'
    exact ⟨o2, g2, x2.1⟩
  refine ⟨td, F.args_dict_init_2 _ _, ?_⟩
  unfold Builtin.«dict.__init__»
  refine wpAny_bind ?_
  unfold Builtin.Dict.selfAndRest
  refine wpAny_bind (wpAny_notOrdered_dict td ?_)
  show wpAny _ _ (Builtin.Dict.addrOf (.ref s.heap.objs.size) >>= _) _ _ _
  refine wpAny_bind (wpAny_of_eq (a := s.heap.objs.size) rfl (wpAny_pure ?_))
  show wpAny _ _ (Builtin.Dict.updateFrom "dict.__init__" s.heap.objs.size (.ref o) [] .none) _ _ _
  unfold Builtin.Dict.updateFrom
  refine wpAny_bind (wpAny_typeOf to ?_)
  rw [if_neg (by decide +kernel)]
  refine wpAny_bind ?_
  unfold Builtin.Dict.merge
  refine wpAny_bind ?_
  unfold Builtin.Dict.readDirectly
  refine wpAny_bind (wpAny_isInstance to isSubtype_dict_dict ?_)
  rw [if_neg (by decide)]
  refine wpAny_bind (wpAny_specialOf to F.slot_dict_iter.lookup (wpAny_pure ?_))
  rw [if_pos (by decide +kernel)]
  refine wpAny_bind (wpAny_of_eq (a := o) rfl ?_)
  refine wp_mergeT (knd := knd) hne hs dd od' nd hz fun h' dd' sb => ?_
  refine wpAny_bind (wpAny_of_eq (a := ()) rfl ?_)
  exact wpAny_pure ⟨rfl, h h' dd' sb⟩
end

theorem nodup_map_inj {α β : Type} (f : α → β) : ∀ {l : List α}, l.Nodup → (∀ a ∈ l, ∀ b ∈ l, f a = f b → a = b) → (l.map f).Nodup
  | [], _, _ => List.nodup_nil
  | x :: l, n, h => by
    rw [List.nodup_cons] at n
    rw [List.map_cons, List.nodup_cons]
    refine ⟨fun m => ?_, nodup_map_inj f n.2 (fun a ha b hb => h a (List.mem_cons_of_mem _ ha) b (List.mem_cons_of_mem _ hb))⟩
    obtain ⟨y, hy, e⟩ := List.mem_map.mp m
    exact n.1 (h y (List.mem_cons_of_mem _ hy) x (List.mem_cons_self ..) e ▸ hy)
/-- the hash of a tuple of keys -/
abbrev hashT (P : Program) (w : World) (k : List Key) : Int := (tupleKind (mixKind P w)).hash k
section
variable {X : Cx}
theorem call_dictK : CallR X (.type "dict") (fun xs H Q => ∃ p kvs, xs = [.ref p] ∧ Rd H p (.dK kvs) ∧ ∀ l, H l = none → Q (.ref l) (upd H l (.dK kvs))) := by
  intro pins s σ H xs us Q I r h
  obtain ⟨p, kvs, rfl, hp, q⟩ := h
  obtain ⟨u, rfl, ru⟩ := vals1 r
  cases (show u = Value.ref p from ru)
  exact d_copyOf I hp fun l s' hl I' => ⟨.ref l, _, I', rfl, q l hl⟩
theorem call_dictT : CallR X (.type "dict") (fun xs H Q => ∃ p kvs, xs = [.ref p] ∧ Rd H p (.dT kvs) ∧ (∀ k1 ∈ kvs.map (·.1), ∀ k2 ∈ kvs.map (·.1), hashT X.prog X.w k1 = hashT X.prog X.w k2 → k1 = k2) ∧ ∀ l, H l = none → Q (.ref l) (upd H l (.dT kvs))) := by
  intro pins s σ H xs us Q I r h
  obtain ⟨p, kvs, rfl, hp, hi, q⟩ := h
  obtain ⟨u, rfl, ru⟩ := vals1 r
  cases (show u = Value.ref p from ru)
  obtain ⟨z, hd, xs, rel, dd⟩ := dt_rd I.hok hp
  have ek : xs.map (·.1) = kvs.map (·.1) := by
    clear dd z hi hp q
    induction rel with
    | nil => rfl
    | cons a b ih => rw [List.map_cons, List.map_cons, ih, a.1]
  have el : xs.length = kvs.length := by have := congrArg List.length ek; rwa [List.length_map, List.length_map] at this
  have nd : (xs.map fun x => (tupleKind (mixKind X.prog X.w)).hash x.1).Nodup := by
    obtain ⟨_, _, _, _, _, _, _, _, n2⟩ := id dd
    have e : (xs.map fun x => (tupleKind (mixKind X.prog X.w)).hash x.1) = (xs.map (·.1)).map (hashT X.prog X.w) := by rw [List.map_map]; rfl
    rw [e]
    rw [ek] at n2 ⊢
    exact nodup_map_inj _ n2 hi
  refine wp_dictT (knd := mixKind X.prog X.w) hd dd nd (by omega) fun h' dd' sb => ?_
  obtain ⟨o, es, ep, g1, g2, g3, g4, g5, g6⟩ := dd'
  refine ⟨.ref s.heap.objs.size, _, I.laid (a := s.heap.objs.size) (o := .dT kvs) (t' := s.toks) (fun b q hq => ?_) (Nat.le_refl _) ?_, rfl, q _ (I.hok.fresh (Nat.le_refl _))⟩
  · exact (sb.2 b (Nat.ne_of_lt (Heap.lt_size hq))).trans (Heap.get?_push_of_some _ hq)
  · refine ⟨z, beq_eq_false_iff_ne.mpr (Ne.symm (Nat.ne_of_lt I.big)), xs, ?_, o, es, ep, g1, g2, g3, g4, g6⟩
    refine rel.keeps fun b ys hb => ?_
    rw [upd_ne (fun e => by rw [e, I.hok.fresh (Nat.le_refl _)] at hb; cases hb)]
    exact hb
end
end L2

set_option Elab.async false
set_option linter.all false
set_option maxRecDepth 100000
namespace L2
open PySem PySem.Spec PyProof.Rows
section
variable {X : Cx}
theorem reads_lst {pins : List (Addr × Obj)} {s : Shared} {σ : St} {H : Hp} {a : Addr} {ns : List Int} (I : Inv X pins σ H s) (h : SqL X.K H a (ns.map V.int)) : Reads s.heap (.ref a) (.list (ns.map PyData.int)) [a] := by
  obtain ⟨its, r, ⟨o, n, e, c, d, dd⟩, hz⟩ := I.list h
  exact reads_list_at e c dd (by simpa using reads_ints r)
theorem shaped_lst (ns : List Int) : SeqAt.shaped (.list (ns.map PyData.int)) = true := by
  simp [SeqAt.shaped, PyData.canLay0, PyData.depth, PySem.W.ke_canLayAll0, PySem.W.ke_depthAll]
theorem same_lst (ns ms : List Int) : PySem.Spec.same (.list (ns.map PyData.int)) (.list (ms.map PyData.int)) = decide (ns = ms) := by
  simp only [PySem.Spec.same]; exact PySem.W.ke_sameAll ns ms
theorem lst_has (ns : List Int) : (Shape.list .int).has (.list (ns.map PyData.int)) = true := by
  simp only [Shape.has]
  induction ns with
  | nil => rfl
  | cons n ns ih => simp [Shape.hasAll, Shape.has] at ih ⊢; try exact ih
/-- the same ints in two lists -/
def rLst (K : PySem.W.Frag) (neg : Bool) : R2 := fun x y H Q => ∃ (a b : Addr) (ns ms : List Int), x = .ref a ∧ y = .ref b ∧ SqL K H a (ns.map V.int) ∧ SqL K H b (ms.map V.int) ∧ Q (.bl (if neg then !decide (ns = ms) else decide (ns = ms))) H
theorem op_eqL (hu : X.A.units + 64 < cLine) : OpR X (compareOp .Eq) (rLst X.K false) := by
  intro pins s σ H x y u v Q I rx ry h
  obtain ⟨a, b, ns, ms, rfl, rfl, ha, hb, q⟩ := h
  cases (show u = Value.ref a from rx)
  cases (show v = Value.ref b from ry)
  exact eq_dataH_same (reads_lst I ha) (reads_lst I hb) (shaped_lst _) (shaped_lst _) hu (SeqAt.noMix_of_shape (.list .int) rfl _ _ (lst_has ns) (lst_has ms)) (by rw [same_lst]; exact fin_bl I q (by simp))
theorem op_neL (hu : X.A.units + 64 < cLine) : OpR X (compareOp .NotEq) (rLst X.K true) := by
  intro pins s σ H x y u v Q I rx ry h
  obtain ⟨a, b, ns, ms, rfl, rfl, ha, hb, q⟩ := h
  cases (show u = Value.ref a from rx)
  cases (show v = Value.ref b from ry)
  exact ne_dataH_same (reads_lst I ha) (reads_lst I hb) (shaped_lst _) (shaped_lst _) hu (SeqAt.noMix_of_shape (.list .int) rfl _ _ (lst_has ns) (lst_has ms)) (by rw [same_lst]; exact fin_bl I q (by simp))
/-- a = b = value -/
def tAsg2 (te : TE) (g1 g2 : TG) : TS := fun D σ H => te σ H fun x H1 => g1 x σ H1 fun σ2 H2 => g2 x σ2 H2 D.nx
theorem ps_asg2 {t1 t2 e : Expr} {te : TE} {g1 g2 : TG} {pos : Pos} (he : PE X e te) (h1 : PG X t1 g1) (h2 : PG X t2 g2) (hs : swapsWithSole [t1, t2] e pos.line X.env = pure false := by rfl) (hw : swappedStores [t1, t2] e X.env = pure none := by rfl)
    (ha : (assignEach [t1, t2] X.env).map (·.2) = [assign t1 X.env, assign t2 X.env] := by rfl) : PS X (.Assign [t1, t2] e pos) (tAsg2 te g1 g2) := by
  intro pins s σ H D I h
  refine wpAny_Assign_stores (thn (he pins s σ H _ I h) fun v s1 ⟨x, H1, I1, r1, q1⟩ => ?_) hs hw
  rw [ha]
  unfold assignAll
  refine wpAny_bind (wpAny_holding (thn (h1 pins s1 σ H1 x v _ I1 r1 q1) fun _ s2 ⟨σ2, H2, I2, q2⟩ => ?_))
  unfold assignAll
  exact thn (h2 pins s2 σ2 H2 x v _ I2 r1 q2) fun _ s3 q => q
end
end L2

set_option linter.all false
set_option maxRecDepth 100000
namespace L2
open PySem PySem.Spec PyProof.Rows
def hE (n e : Nat) : Int := reduceHash (Builtin.Tuple.tupleHashOf [hashInt n, hashInt e])
def hN (i : Nat) : Nat := (hE (i / 3) (i % 3) + 9223372036854775808).toNat
def mrg : Nat → List Nat → List Nat → List Nat
  | 0, a, b => a ++ b
  | n + 1, [], b => b
  | n + 1, a, [] => a
  | n + 1, x :: xs, y :: ys => if Nat.ble x y = true then x :: mrg n xs (y :: ys) else y :: mrg n (x :: xs) ys
def splt : List Nat → List Nat × List Nat
  | [] => ([], [])
  | [x] => ([x], [])
  | x :: y :: r => (x :: (splt r).1, y :: (splt r).2)
def ms : Nat → List Nat → List Nat
  | 0, l => l
  | n + 1, l => mrg l.length (ms n (splt l).1) (ms n (splt l).2)
def strict : List Nat → Bool
  | [] => true
  | [_] => true
  | x :: y :: r => Nat.blt x y && strict (y :: r)
theorem mrg_perm : ∀ (n : Nat) (a b : List Nat), (mrg n a b).Perm (a ++ b)
  | 0, a, b => .refl _
  | n + 1, [], b => .refl _
  | n + 1, x :: xs, [] => by rw [List.append_nil]; exact .refl _
  | n + 1, x :: xs, y :: ys => by
    unfold mrg
    split
    · exact .cons _ (mrg_perm n xs (y :: ys))
    · exact (List.Perm.cons _ (mrg_perm n (x :: xs) ys)).trans (List.perm_middle (l₁ := x :: xs)).symm
theorem splt_perm : ∀ l : List Nat, ((splt l).1 ++ (splt l).2).Perm l
  | [] => .refl _
  | [x] => .refl _
  | x :: y :: r => by
    show (x :: ((splt r).1 ++ y :: (splt r).2)).Perm _
    exact .cons _ (List.perm_middle.trans (.cons _ (splt_perm r)))
theorem ms_perm : ∀ (n : Nat) (l : List Nat), (ms n l).Perm l
  | 0, l => .refl _
  | n + 1, l => (mrg_perm _ _ _).trans (((ms_perm n _).append (ms_perm n _)).trans (splt_perm l))
theorem strict_lt : ∀ {l : List Nat}, strict l = true → l.Pairwise (· < ·)
  | [], _ => .nil
  | [x], _ => .cons (fun _ h => nomatch h) .nil
  | x :: y :: r, h => by
    have h1 : Nat.blt x y = true ∧ strict (y :: r) = true := by simpa [strict] using h
    have ih := strict_lt h1.2
    have xy1 : x + 1 ≤ y := by simpa [Nat.blt] using h1.1
    have xy : x < y := xy1
    refine .cons (fun z hz => ?_) ih
    rcases List.mem_cons.mp hz with rfl | hz
    · exact xy
    · exact Nat.lt_trans xy ((List.pairwise_cons.mp ih).1 z hz)
theorem hN_strict : strict (ms 13 ((List.range 6000).map hN)) = true := by decide +kernel
theorem hN_nodup : ((List.range 6000).map hN).Nodup :=
  (ms_perm 13 _).nodup_iff.mp ((strict_lt hN_strict).imp (fun h => Nat.ne_of_lt h))
end L2


set_option Elab.async false
set_option linter.all false
set_option maxRecDepth 100000
set_option maxHeartbeats 4000000
namespace P
open PySem L2

def top (i : Nat) : Stmt := PySem.Challenge.pw_lazyrails_k25_fate_of_a_round.main.body.getD i (.Pass ⟨0, 0, 0, 0⟩)
abbrev s_law : Stmt := top 44
abbrev s_draws : Stmt := top 38
abbrev s_fate : Stmt := top 32
abbrev s_twin : Stmt := top 30
abbrev s_held : Stmt := top 27
abbrev s_next_step : Stmt := top 26
abbrev s_passage : Stmt := top 23
abbrev s_check_end : Stmt := top 20
abbrev s_ends_of : Stmt := top 18
abbrev s_is_point : Stmt := top 19
abbrev s_check_side : Stmt := top 21
abbrev s_point_passage : Stmt := top 24
abbrev s_run : Stmt := top 28
abbrev s_alike : Stmt := top 34
abbrev s_fate_on_round : Stmt := top 33
abbrev s_road : Stmt := top 43
abbrev s_is : Stmt := top 40
abbrev s_whole : Stmt := top 39
abbrev s_is_end : Stmt := top 41
abbrev s_check_note : Stmt := top 22
abbrev s_Yard_init : Stmt := inClass (top 36) 0
abbrev s_Yard_lay : Stmt := inClass (top 36) 1
abbrev s_Yard_end_trail : Stmt := inClass (top 36) 22
abbrev s_Yard_check_rod : Stmt := inClass (top 36) 24
abbrev s_Yard_new_rod : Stmt := inClass (top 36) 2
abbrev s_Yard_throw : Stmt := inClass (top 36) 6
abbrev s_Yard_link : Stmt := inClass (top 36) 4
abbrev s_Yard_check_there : Stmt := inClass (top 36) 25
abbrev s_Yard_check_piece : Stmt := inClass (top 36) 23
abbrev s_Yard_put : Stmt := inClass (top 36) 7
abbrev s_Yard_rod : Stmt := inClass (top 36) 16
abbrev s_Yard_engine : Stmt := inClass (top 36) 19
abbrev s_Yard_make_twin : Stmt := inClass (top 36) 11
abbrev s_Yard_kind : Stmt := inClass (top 36) 14
abbrev s_Yard_mate : Stmt := inClass (top 36) 18
abbrev s_Yard_side : Stmt := inClass (top 36) 17
abbrev s_Yard_carry : Stmt := inClass (top 36) 9
structure Adr where
  f_law : Addr
  d_law : FuncData
  v_law : Value
  f_draws : Addr
  d_draws : FuncData
  v_draws : Value
  f_fate : Addr
  d_fate : FuncData
  v_fate : Value
  f_twin : Addr
  d_twin : FuncData
  v_twin : Value
  f_held : Addr
  d_held : FuncData
  v_held : Value
  f_next_step : Addr
  d_next_step : FuncData
  v_next_step : Value
  f_passage : Addr
  d_passage : FuncData
  v_passage : Value
  f_check_end : Addr
  d_check_end : FuncData
  v_check_end : Value
  f_ends_of : Addr
  d_ends_of : FuncData
  v_ends_of : Value
  f_is_point : Addr
  d_is_point : FuncData
  v_is_point : Value
  f_check_side : Addr
  d_check_side : FuncData
  v_check_side : Value
  f_point_passage : Addr
  d_point_passage : FuncData
  v_point_passage : Value
  f_run : Addr
  d_run : FuncData
  v_run : Value
  f_alike : Addr
  d_alike : FuncData
  v_alike : Value
  f_fate_on_round : Addr
  d_fate_on_round : FuncData
  v_fate_on_round : Value
  f_road : Addr
  d_road : FuncData
  v_road : Value
  f_is : Addr
  d_is : FuncData
  v_is : Value
  f_whole : Addr
  d_whole : FuncData
  v_whole : Value
  f_is_end : Addr
  d_is_end : FuncData
  v_is_end : Value
  f_check_note : Addr
  d_check_note : FuncData
  v_check_note : Value
  f_Yard_init : Addr
  d_Yard_init : FuncData
  v_Yard_init : Value
  f_Yard_lay : Addr
  d_Yard_lay : FuncData
  v_Yard_lay : Value
  f_Yard_end_trail : Addr
  d_Yard_end_trail : FuncData
  v_Yard_end_trail : Value
  f_Yard_check_rod : Addr
  d_Yard_check_rod : FuncData
  v_Yard_check_rod : Value
  f_Yard_new_rod : Addr
  d_Yard_new_rod : FuncData
  v_Yard_new_rod : Value
  f_Yard_throw : Addr
  d_Yard_throw : FuncData
  v_Yard_throw : Value
  f_Yard_link : Addr
  d_Yard_link : FuncData
  v_Yard_link : Value
  f_Yard_check_there : Addr
  d_Yard_check_there : FuncData
  v_Yard_check_there : Value
  f_Yard_check_piece : Addr
  d_Yard_check_piece : FuncData
  v_Yard_check_piece : Value
  f_Yard_put : Addr
  d_Yard_put : FuncData
  v_Yard_put : Value
  f_Yard_rod : Addr
  d_Yard_rod : FuncData
  v_Yard_rod : Value
  f_Yard_engine : Addr
  d_Yard_engine : FuncData
  v_Yard_engine : Value
  f_Yard_make_twin : Addr
  d_Yard_make_twin : FuncData
  v_Yard_make_twin : Value
  f_Yard_kind : Addr
  d_Yard_kind : FuncData
  v_Yard_kind : Value
  f_Yard_mate : Addr
  d_Yard_mate : FuncData
  v_Yard_mate : Value
  f_Yard_side : Addr
  d_Yard_side : FuncData
  v_Yard_side : Value
  f_Yard_carry : Addr
  d_Yard_carry : FuncData
  v_Yard_carry : Value
  c_Yard : Addr
  u_ENDS : Value
  u_LAST_NOTE : Value
  u_POINTS : Value
  u_STEM : Value
structure Txt (K : PySem.W.Frag) (mg : Str → Option Value) (t : Adr) : Prop where
  F_law : FunG K "law" "law" s_law t.v_law t.f_law t.d_law
  F_draws : FunG K "_law_draws" "_law_draws" s_draws t.v_draws t.f_draws t.d_draws
  F_fate : FunG K "fate" "fate" s_fate t.v_fate t.f_fate t.d_fate
  F_twin : FunG K "twin" "twin" s_twin t.v_twin t.f_twin t.d_twin
  F_held : FunG K "held" "held" s_held t.v_held t.f_held t.d_held
  F_next_step : FunG K "next_step" "next_step" s_next_step t.v_next_step t.f_next_step t.d_next_step
  F_passage : FunG K "passage" "passage" s_passage t.v_passage t.f_passage t.d_passage
  F_check_end : FunG K "check_end" "check_end" s_check_end t.v_check_end t.f_check_end t.d_check_end
  F_ends_of : FunG K "ends_of" "ends_of" s_ends_of t.v_ends_of t.f_ends_of t.d_ends_of
  F_is_point : FunG K "is_point" "is_point" s_is_point t.v_is_point t.f_is_point t.d_is_point
  F_check_side : FunG K "check_side" "check_side" s_check_side t.v_check_side t.f_check_side t.d_check_side
  F_point_passage : FunG K "point_passage" "point_passage" s_point_passage t.v_point_passage t.f_point_passage t.d_point_passage
  F_run : FunG K "run" "run" s_run t.v_run t.f_run t.d_run
  F_alike : FunG K "alike" "alike" s_alike t.v_alike t.f_alike t.d_alike
  F_fate_on_round : FunG K "fate_on_round" "fate_on_round" s_fate_on_round t.v_fate_on_round t.f_fate_on_round t.d_fate_on_round
  F_road : FunG K "_law_road" "_law_road" s_road t.v_road t.f_road t.d_road
  F_is : FunG K "_law_is" "_law_is" s_is t.v_is t.f_is t.d_is
  F_whole : FunG K "_law_whole" "_law_whole" s_whole t.v_whole t.f_whole t.d_whole
  F_is_end : FunG K "_law_is_end" "_law_is_end" s_is_end t.v_is_end t.f_is_end t.d_is_end
  F_check_note : FunG K "check_note" "check_note" s_check_note t.v_check_note t.f_check_note t.d_check_note
  F_Yard_init : FunG K "__init__" "Yard.__init__" s_Yard_init t.v_Yard_init t.f_Yard_init t.d_Yard_init
  F_Yard_lay : FunG K "lay" "Yard.lay" s_Yard_lay t.v_Yard_lay t.f_Yard_lay t.d_Yard_lay
  F_Yard_end_trail : FunG K "end_trail" "Yard.end_trail" s_Yard_end_trail t.v_Yard_end_trail t.f_Yard_end_trail t.d_Yard_end_trail
  F_Yard_check_rod : FunG K "check_rod" "Yard.check_rod" s_Yard_check_rod t.v_Yard_check_rod t.f_Yard_check_rod t.d_Yard_check_rod
  F_Yard_new_rod : FunG K "new_rod" "Yard.new_rod" s_Yard_new_rod t.v_Yard_new_rod t.f_Yard_new_rod t.d_Yard_new_rod
  F_Yard_throw : FunG K "throw" "Yard.throw" s_Yard_throw t.v_Yard_throw t.f_Yard_throw t.d_Yard_throw
  F_Yard_link : FunG K "link" "Yard.link" s_Yard_link t.v_Yard_link t.f_Yard_link t.d_Yard_link
  F_Yard_check_there : FunG K "check_there" "Yard.check_there" s_Yard_check_there t.v_Yard_check_there t.f_Yard_check_there t.d_Yard_check_there
  F_Yard_check_piece : FunG K "check_piece" "Yard.check_piece" s_Yard_check_piece t.v_Yard_check_piece t.f_Yard_check_piece t.d_Yard_check_piece
  F_Yard_put : FunG K "put" "Yard.put" s_Yard_put t.v_Yard_put t.f_Yard_put t.d_Yard_put
  F_Yard_rod : FunG K "rod" "Yard.rod" s_Yard_rod t.v_Yard_rod t.f_Yard_rod t.d_Yard_rod
  F_Yard_engine : FunG K "engine" "Yard.engine" s_Yard_engine t.v_Yard_engine t.f_Yard_engine t.d_Yard_engine
  F_Yard_make_twin : FunG K "make_twin" "Yard.make_twin" s_Yard_make_twin t.v_Yard_make_twin t.f_Yard_make_twin t.d_Yard_make_twin
  F_Yard_kind : FunG K "kind" "Yard.kind" s_Yard_kind t.v_Yard_kind t.f_Yard_kind t.d_Yard_kind
  F_Yard_mate : FunG K "mate" "Yard.mate" s_Yard_mate t.v_Yard_mate t.f_Yard_mate t.d_Yard_mate
  F_Yard_side : FunG K "side" "Yard.side" s_Yard_side t.v_Yard_side t.f_Yard_side t.d_Yard_side
  F_Yard_carry : FunG K "carry" "Yard.carry" s_Yard_carry t.v_Yard_carry t.f_Yard_carry t.d_Yard_carry
  m_law : mg "law" = some (.ref t.f_law)
  e_law : t.v_law = .none
  m_draws : mg "_law_draws" = some (.ref t.f_draws)
  e_draws : t.v_draws = .none
  m_fate : mg "fate" = some (.ref t.f_fate)
  e_fate : t.v_fate = .none
  m_twin : mg "twin" = some (.ref t.f_twin)
  e_twin : t.v_twin = .none
  m_held : mg "held" = some (.ref t.f_held)
  e_held : t.v_held = .none
  m_next_step : mg "next_step" = some (.ref t.f_next_step)
  e_next_step : t.v_next_step = .none
  m_passage : mg "passage" = some (.ref t.f_passage)
  e_passage : t.v_passage = .none
  m_check_end : mg "check_end" = some (.ref t.f_check_end)
  e_check_end : t.v_check_end = .none
  m_ends_of : mg "ends_of" = some (.ref t.f_ends_of)
  e_ends_of : t.v_ends_of = .none
  m_is_point : mg "is_point" = some (.ref t.f_is_point)
  e_is_point : t.v_is_point = .none
  m_check_side : mg "check_side" = some (.ref t.f_check_side)
  e_check_side : t.v_check_side = .none
  m_point_passage : mg "point_passage" = some (.ref t.f_point_passage)
  e_point_passage : t.v_point_passage = .none
  m_run : mg "run" = some (.ref t.f_run)
  e_run : t.v_run = .none
  m_alike : mg "alike" = some (.ref t.f_alike)
  e_alike : t.v_alike = .none
  m_fate_on_round : mg "fate_on_round" = some (.ref t.f_fate_on_round)
  e_fate_on_round : t.v_fate_on_round = .none
  m_road : mg "_law_road" = some (.ref t.f_road)
  e_road : t.v_road = .none
  m_is : mg "_law_is" = some (.ref t.f_is)
  e_is : t.v_is = .none
  m_whole : mg "_law_whole" = some (.ref t.f_whole)
  e_whole : t.v_whole = .none
  m_is_end : mg "_law_is_end" = some (.ref t.f_is_end)
  e_is_end : t.v_is_end = .none
  m_check_note : mg "check_note" = some (.ref t.f_check_note)
  e_check_note : t.v_check_note = .none
  e_Yard_init : t.v_Yard_init = .none
  M_Yard_lay : Meth K t.c_Yard "lay" t.f_Yard_lay
  D_Yard_lay : ∃ (T : Addr) (od : Option Addr) (n : Nat) (sl : Array (Option Value)) (tk0 : Tok), t.v_Yard_lay = .ref T ∧ K.lookup T = some ⟨.type "tuple", od, .seq #[.int 0 tk0, .none] n, sl⟩
  M_Yard_end_trail : Meth K t.c_Yard "end_trail" t.f_Yard_end_trail
  e_Yard_end_trail : t.v_Yard_end_trail = .none
  M_Yard_check_rod : Meth K t.c_Yard "check_rod" t.f_Yard_check_rod
  e_Yard_check_rod : t.v_Yard_check_rod = .none
  M_Yard_new_rod : Meth K t.c_Yard "new_rod" t.f_Yard_new_rod
  D_Yard_new_rod : ∃ (T : Addr) (od : Option Addr) (n : Nat) (sl : Array (Option Value)) (tk0 : Tok), t.v_Yard_new_rod = .ref T ∧ K.lookup T = some ⟨.type "tuple", od, .seq #[.int 1 tk0] n, sl⟩
  M_Yard_throw : Meth K t.c_Yard "throw" t.f_Yard_throw
  e_Yard_throw : t.v_Yard_throw = .none
  M_Yard_link : Meth K t.c_Yard "link" t.f_Yard_link
  e_Yard_link : t.v_Yard_link = .none
  M_Yard_check_there : Meth K t.c_Yard "check_there" t.f_Yard_check_there
  e_Yard_check_there : t.v_Yard_check_there = .none
  M_Yard_check_piece : Meth K t.c_Yard "check_piece" t.f_Yard_check_piece
  e_Yard_check_piece : t.v_Yard_check_piece = .none
  M_Yard_put : Meth K t.c_Yard "put" t.f_Yard_put
  e_Yard_put : t.v_Yard_put = .none
  M_Yard_rod : Meth K t.c_Yard "rod" t.f_Yard_rod
  e_Yard_rod : t.v_Yard_rod = .none
  M_Yard_engine : Meth K t.c_Yard "engine" t.f_Yard_engine
  e_Yard_engine : t.v_Yard_engine = .none
  M_Yard_make_twin : Meth K t.c_Yard "make_twin" t.f_Yard_make_twin
  e_Yard_make_twin : t.v_Yard_make_twin = .none
  M_Yard_kind : Meth K t.c_Yard "kind" t.f_Yard_kind
  e_Yard_kind : t.v_Yard_kind = .none
  M_Yard_mate : Meth K t.c_Yard "mate" t.f_Yard_mate
  e_Yard_mate : t.v_Yard_mate = .none
  M_Yard_side : Meth K t.c_Yard "side" t.f_Yard_side
  e_Yard_side : t.v_Yard_side = .none
  M_Yard_carry : Meth K t.c_Yard "carry" t.f_Yard_carry
  e_Yard_carry : t.v_Yard_carry = .none
  cl_Yard : Cls K t.c_Yard
  m_Yard : mg "Yard" = some (.ref t.c_Yard)
  mk_Yard : Mk K t.c_Yard t.f_Yard_init
  n_Yard_next_piece : NoAttr K t.c_Yard "next_piece"
  n_Yard_kinds : NoAttr K t.c_Yard "kinds"
  n_Yard_notes : NoAttr K t.c_Yard "notes"
  n_Yard_rods_under : NoAttr K t.c_Yard "rods_under"
  n_Yard_sides : NoAttr K t.c_Yard "sides"
  n_Yard_mates : NoAttr K t.c_Yard "mates"
  n_Yard_engine_end : NoAttr K t.c_Yard "engine_end"
  n_Yard_rung : NoAttr K t.c_Yard "rung"
  n_Yard_trail : NoAttr K t.c_Yard "trail"
  z_abs : mg "abs" = none
  z_bool : mg "bool" = none
  z_dict : mg "dict" = none
  z_int : mg "int" = none
  z_isinstance : mg "isinstance" = none
  z_len : mg "len" = none
  z_list : mg "list" = none
  z_max : mg "max" = none
  z_range : mg "range" = none
  z_tuple : mg "tuple" = none
  g_ENDS : mg "ENDS" = some t.u_ENDS
  x_ENDS : ∃ a, t.u_ENDS = .ref a ∧ TabK K a [("line", .int 2), ("bell", .int 2), ("stop", .int 1), ("still", .int 3), ("lazy", .int 3), ("turning", .int 3)]
  g_LAST_NOTE : mg "LAST_NOTE" = some t.u_LAST_NOTE
  r_LAST_NOTE : RelV (.int 9999) t.u_LAST_NOTE
  g_POINTS : mg "POINTS" = some t.u_POINTS
  x_POINTS : ∃ (a : Addr) (o : Obj) (its : Array Value) (n : Nat), t.u_POINTS = .ref a ∧ K.lookup a = some o ∧ o.cls = .type "tuple" ∧ o.data = .seq its n ∧ its.size ≤ sizeLine ∧ Vals [.str "still", .str "lazy", .str "turning"] its.toList
  g_STEM : mg "STEM" = some t.u_STEM
  r_STEM : RelV (.int 0) t.u_STEM
section
variable {K : PySem.W.Frag} {mg : Str → Option Value} {t : Adr}
theorem b_law (T : Txt K mg t) : Binds K t.d_law ["_law_script"] [] := (T.e_law ▸ T.F_law).binds fun _ _ _ _ _ _ us hl => match us, hl with | [_], _ => rfl
theorem b_draws (T : Txt K mg t) : Binds K t.d_draws ["_law_script", "_law_many"] [] := (T.e_draws ▸ T.F_draws).binds fun _ _ _ _ _ _ us hl => match us, hl with | [_, _], _ => rfl
theorem b_fate (T : Txt K mg t) : Binds K t.d_fate ["yard", "most"] [] := (T.e_fate ▸ T.F_fate).binds fun _ _ _ _ _ _ us hl => match us, hl with | [_, _], _ => rfl
theorem b_twin (T : Txt K mg t) : Binds K t.d_twin ["yard"] [] := (T.e_twin ▸ T.F_twin).binds fun _ _ _ _ _ _ us hl => match us, hl with | [_], _ => rfl
theorem b_held (T : Txt K mg t) : Binds K t.d_held ["yard"] [] := (T.e_held ▸ T.F_held).binds fun _ _ _ _ _ _ us hl => match us, hl with | [_], _ => rfl
theorem b_next_step (T : Txt K mg t) : Binds K t.d_next_step ["yard"] [] := (T.e_next_step ▸ T.F_next_step).binds fun _ _ _ _ _ _ us hl => match us, hl with | [_], _ => rfl
theorem b_passage (T : Txt K mg t) : Binds K t.d_passage ["kind", "end", "side"] [] := (T.e_passage ▸ T.F_passage).binds fun _ _ _ _ _ _ us hl => match us, hl with | [_, _, _], _ => rfl
theorem b_check_end (T : Txt K mg t) : Binds K t.d_check_end ["kind", "end"] [] := (T.e_check_end ▸ T.F_check_end).binds fun _ _ _ _ _ _ us hl => match us, hl with | [_, _], _ => rfl
theorem b_ends_of (T : Txt K mg t) : Binds K t.d_ends_of ["kind"] [] := (T.e_ends_of ▸ T.F_ends_of).binds fun _ _ _ _ _ _ us hl => match us, hl with | [_], _ => rfl
theorem b_is_point (T : Txt K mg t) : Binds K t.d_is_point ["kind"] [] := (T.e_is_point ▸ T.F_is_point).binds fun _ _ _ _ _ _ us hl => match us, hl with | [_], _ => rfl
theorem b_check_side (T : Txt K mg t) : Binds K t.d_check_side ["side"] [] := (T.e_check_side ▸ T.F_check_side).binds fun _ _ _ _ _ _ us hl => match us, hl with | [_], _ => rfl
theorem b_point_passage (T : Txt K mg t) : Binds K t.d_point_passage ["kind", "end", "side"] [] := (T.e_point_passage ▸ T.F_point_passage).binds fun _ _ _ _ _ _ us hl => match us, hl with | [_, _, _], _ => rfl
theorem b_run (T : Txt K mg t) : Binds K t.d_run ["yard", "most"] [] := (T.e_run ▸ T.F_run).binds fun _ _ _ _ _ _ us hl => match us, hl with | [_, _], _ => rfl
theorem b_alike (T : Txt K mg t) : Binds K t.d_alike ["one", "other"] [] := (T.e_alike ▸ T.F_alike).binds fun _ _ _ _ _ _ us hl => match us, hl with | [_, _], _ => rfl
theorem b_fate_on_round (T : Txt K mg t) : Binds K t.d_fate_on_round ["yard", "ahead", "limit"] [] := (T.e_fate_on_round ▸ T.F_fate_on_round).binds fun _ _ _ _ _ _ us hl => match us, hl with | [_, _, _], _ => rfl
theorem b_road (T : Txt K mg t) : Binds K t.d_road ["_law_yard", "_law_out", "_law_many"] [] := (T.e_road ▸ T.F_road).binds fun _ _ _ _ _ _ us hl => match us, hl with | [_, _, _], _ => rfl
theorem b_is (T : Txt K mg t) : Binds K t.d_is ["_law_found", "_law_due"] [] := (T.e_is ▸ T.F_is).binds fun _ _ _ _ _ _ us hl => match us, hl with | [_, _], _ => rfl
theorem b_whole (T : Txt K mg t) : Binds K t.d_whole ["_law_found"] [] := (T.e_whole ▸ T.F_whole).binds fun _ _ _ _ _ _ us hl => match us, hl with | [_], _ => rfl
theorem b_is_end (T : Txt K mg t) : Binds K t.d_is_end ["_law_found", "_law_due"] [] := (T.e_is_end ▸ T.F_is_end).binds fun _ _ _ _ _ _ us hl => match us, hl with | [_, _], _ => rfl
theorem b_check_note (T : Txt K mg t) : Binds K t.d_check_note ["note"] [] := (T.e_check_note ▸ T.F_check_note).binds fun _ _ _ _ _ _ us hl => match us, hl with | [_], _ => rfl
theorem b_Yard_init (T : Txt K mg t) : Binds K t.d_Yard_init ["self"] [] := (T.e_Yard_init ▸ T.F_Yard_init).binds fun _ _ _ _ _ _ us hl => match us, hl with | [_], _ => rfl
theorem b_Yard_end_trail (T : Txt K mg t) : Binds K t.d_Yard_end_trail ["self"] [] := (T.e_Yard_end_trail ▸ T.F_Yard_end_trail).binds fun _ _ _ _ _ _ us hl => match us, hl with | [_], _ => rfl
theorem b_Yard_check_rod (T : Txt K mg t) : Binds K t.d_Yard_check_rod ["self", "rod"] [] := (T.e_Yard_check_rod ▸ T.F_Yard_check_rod).binds fun _ _ _ _ _ _ us hl => match us, hl with | [_, _], _ => rfl
theorem b_Yard_throw (T : Txt K mg t) : Binds K t.d_Yard_throw ["self", "rod", "side"] [] := (T.e_Yard_throw ▸ T.F_Yard_throw).binds fun _ _ _ _ _ _ us hl => match us, hl with | [_, _, _], _ => rfl
theorem b_Yard_link (T : Txt K mg t) : Binds K t.d_Yard_link ["self", "one", "other"] [] := (T.e_Yard_link ▸ T.F_Yard_link).binds fun _ _ _ _ _ _ us hl => match us, hl with | [_, _, _], _ => rfl
theorem b_Yard_check_there (T : Txt K mg t) : Binds K t.d_Yard_check_there ["self", "end"] [] := (T.e_Yard_check_there ▸ T.F_Yard_check_there).binds fun _ _ _ _ _ _ us hl => match us, hl with | [_, _], _ => rfl
theorem b_Yard_check_piece (T : Txt K mg t) : Binds K t.d_Yard_check_piece ["self", "piece"] [] := (T.e_Yard_check_piece ▸ T.F_Yard_check_piece).binds fun _ _ _ _ _ _ us hl => match us, hl with | [_, _], _ => rfl
theorem b_Yard_put (T : Txt K mg t) : Binds K t.d_Yard_put ["self", "end"] [] := (T.e_Yard_put ▸ T.F_Yard_put).binds fun _ _ _ _ _ _ us hl => match us, hl with | [_, _], _ => rfl
theorem b_Yard_rod (T : Txt K mg t) : Binds K t.d_Yard_rod ["self", "piece"] [] := (T.e_Yard_rod ▸ T.F_Yard_rod).binds fun _ _ _ _ _ _ us hl => match us, hl with | [_, _], _ => rfl
theorem b_Yard_engine (T : Txt K mg t) : Binds K t.d_Yard_engine ["self"] [] := (T.e_Yard_engine ▸ T.F_Yard_engine).binds fun _ _ _ _ _ _ us hl => match us, hl with | [_], _ => rfl
theorem b_Yard_make_twin (T : Txt K mg t) : Binds K t.d_Yard_make_twin ["self"] [] := (T.e_Yard_make_twin ▸ T.F_Yard_make_twin).binds fun _ _ _ _ _ _ us hl => match us, hl with | [_], _ => rfl
theorem b_Yard_kind (T : Txt K mg t) : Binds K t.d_Yard_kind ["self", "piece"] [] := (T.e_Yard_kind ▸ T.F_Yard_kind).binds fun _ _ _ _ _ _ us hl => match us, hl with | [_, _], _ => rfl
theorem b_Yard_mate (T : Txt K mg t) : Binds K t.d_Yard_mate ["self", "end"] [] := (T.e_Yard_mate ▸ T.F_Yard_mate).binds fun _ _ _ _ _ _ us hl => match us, hl with | [_, _], _ => rfl
theorem b_Yard_side (T : Txt K mg t) : Binds K t.d_Yard_side ["self", "rod"] [] := (T.e_Yard_side ▸ T.F_Yard_side).binds fun _ _ _ _ _ _ us hl => match us, hl with | [_, _], _ => rfl
theorem b_Yard_carry (T : Txt K mg t) : Binds K t.d_Yard_carry ["self", "end", "side"] [] := (T.e_Yard_carry ▸ T.F_Yard_carry).binds fun _ _ _ _ _ _ us hl => match us, hl with | [_, _, _], _ => rfl
theorem bD_Yard_lay_4 (T : Txt K mg t) : ∃ ds : List Value, Vals [] ds ∧ Binds K t.d_Yard_lay ["self", "kind", "note", "rod"] ds := by
  obtain ⟨Td, od, n, sl, tk0, e1, e2⟩ := T.D_Yard_lay
  obtain ⟨oc, od2, kV, doc, pm, an, cdv, ct, osl, e3, lk, hcd⟩ := T.F_Yard_lay.ex
  refine ⟨[], .nil, fun s us X hl => ?_⟩
  have hl2 : us.length = 4 := by simpa using hl
  rw [e3, e1]
  match us, hl2 with
  | [_, _, _, _], _ => exact PySem.W.binds_K X rfl e2 rfl rfl rfl
theorem bD_Yard_lay_3 (T : Txt K mg t) : ∃ ds : List Value, Vals [.non] ds ∧ Binds K t.d_Yard_lay ["self", "kind", "note", "rod"] ds := by
  obtain ⟨Td, od, n, sl, tk0, e1, e2⟩ := T.D_Yard_lay
  obtain ⟨oc, od2, kV, doc, pm, an, cdv, ct, osl, e3, lk, hcd⟩ := T.F_Yard_lay.ex
  refine ⟨[.none], .cons rfl (.nil), fun s us X hl => ?_⟩
  have hl2 : us.length = 3 := by simpa using hl
  rw [e3, e1]
  match us, hl2 with
  | [_, _, _], _ => exact PySem.W.binds_K X rfl e2 rfl rfl rfl
theorem bD_Yard_lay_2 (T : Txt K mg t) : ∃ ds : List Value, Vals [.int 0, .non] ds ∧ Binds K t.d_Yard_lay ["self", "kind", "note", "rod"] ds := by
  obtain ⟨Td, od, n, sl, tk0, e1, e2⟩ := T.D_Yard_lay
  obtain ⟨oc, od2, kV, doc, pm, an, cdv, ct, osl, e3, lk, hcd⟩ := T.F_Yard_lay.ex
  refine ⟨[.int 0 tk0, .none], .cons ⟨_, rfl⟩ (.cons rfl (.nil)), fun s us X hl => ?_⟩
  have hl2 : us.length = 2 := by simpa using hl
  rw [e3, e1]
  match us, hl2 with
  | [_, _], _ => exact PySem.W.binds_K X rfl e2 rfl rfl rfl
def gK_Yard_lay_2_rod : List V → List V → List V := fun us ws => if us.length = 2 ∧ ws.length = 1 then us ++ [.int 0] ++ ws ++ [] else []
theorem kb_Yard_lay_2_rod (T : Txt K mg t) : ∃ g, KBinds K t.d_Yard_lay ["self", "kind", "note", "rod"] ["rod"] g gK_Yard_lay_2_rod := by
  obtain ⟨Td, od, n, sl, tk0, e1, e2⟩ := T.D_Yard_lay
  obtain ⟨oc, od2, kV, doc, pm, an, cdv, ct, osl, e3, lk, hcd⟩ := T.F_Yard_lay.ex
  refine ⟨fun us ws => if us.length = 2 ∧ ws.length = 1 then us ++ [.int 0 tk0] ++ ws ++ [] else [], ⟨fun s us ws X hl => ?_, fun {vs us zs ws} r rz => ?_⟩⟩
  · by_cases hc : us.length = 2 ∧ ws.length = 1
    · rw [if_pos hc]
      rw [e3, e1]
      match us, ws, hc with
      | [_, _], [_], _ => exact PySem.W.binds_K X rfl e2 rfl rfl rfl
    · rw [if_neg hc] at hl
      cases hl
  · have e4 := r.length
    have e5 := rz.length
    unfold gK_Yard_lay_2_rod
    by_cases hc : vs.length = 2 ∧ zs.length = 1
    · rw [if_pos hc, if_pos (by omega)]
      exact ((r.append (show Vals [.int 0] [.int 0 tk0] from .cons ⟨_, rfl⟩ (.nil))).append rz).append (show Vals [] [] from .nil)
    · rw [if_neg hc, if_neg (by omega)]
      exact .nil
theorem bD_Yard_new_rod_2 (T : Txt K mg t) : ∃ ds : List Value, Vals [] ds ∧ Binds K t.d_Yard_new_rod ["self", "side"] ds := by
  obtain ⟨Td, od, n, sl, tk0, e1, e2⟩ := T.D_Yard_new_rod
  obtain ⟨oc, od2, kV, doc, pm, an, cdv, ct, osl, e3, lk, hcd⟩ := T.F_Yard_new_rod.ex
  refine ⟨[], .nil, fun s us X hl => ?_⟩
  have hl2 : us.length = 2 := by simpa using hl
  rw [e3, e1]
  match us, hl2 with
  | [_, _], _ => exact PySem.W.binds_K X rfl e2 rfl rfl rfl
theorem bD_Yard_new_rod_1 (T : Txt K mg t) : ∃ ds : List Value, Vals [.int 1] ds ∧ Binds K t.d_Yard_new_rod ["self", "side"] ds := by
  obtain ⟨Td, od, n, sl, tk0, e1, e2⟩ := T.D_Yard_new_rod
  obtain ⟨oc, od2, kV, doc, pm, an, cdv, ct, osl, e3, lk, hcd⟩ := T.F_Yard_new_rod.ex
  refine ⟨[.int 1 tk0], .cons ⟨_, rfl⟩ (.nil), fun s us X hl => ?_⟩
  have hl2 : us.length = 1 := by simpa using hl
  rw [e3, e1]
  match us, hl2 with
  | [_], _ => exact PySem.W.binds_K X rfl e2 rfl rfl rfl
end
def Dr (ds : List Int) : Prop := ∀ d ∈ ds, 0 ≤ d ∧ d < 10 ^ 18
def sp_draws (K : PySem.W.Frag) : Sp := fun vs H Q _ => ∃ (a : Addr) (ns : List Int) (n : Int) (L : Kn), vs = [.ref a, .int n] ∧ SqL K H a (ns.map V.int) ∧ ns.length ≤ 63 ∧ 0 ≤ n ∧ n ≤ 1000 ∧ Has H L ∧
  ∀ H' p ds, Has H' ((p, .lst (ds.map V.int)) :: L) → ds.length = n.toNat → Dr ds → Q (.ref p) H'
section
variable {P : Program} {w : World} {K : PySem.W.Frag} {mg : Str → Option Value} {base : Heap} {t : Adr}
theorem scD : FnScope ["_law_script", "_law_many", "_law_row", "_law_base", "_law_cell", "_law_left", "_law_turn"] ["_law_script", "_law_many"] (defScope s_draws) := ⟨rfl, rfl, rfl, by decide +kernel, rfl, by decide +kernel, by decide +kernel⟩
theorem Dr.snoc {ds : List Int} {d : Int} (h : Dr ds) (h0 : 0 ≤ d) (h1 : d < 10 ^ 18) : Dr (ds ++ [d]) := fun x hx => by
  rcases List.mem_append.mp hx with hx | hx
  · exact h x hx
  · have : x = d := by simpa using hx
    subst this; exact ⟨h0, h1⟩
theorem map_snoc (ds : List Int) (d : Int) : ds.map V.int ++ [V.int d] = (ds ++ [d]).map V.int := by simp
theorem ok_draws (T : Txt K mg t) : FnOk P w K mg base CX0 1 t.f_draws t.d_draws ["_law_script", "_law_many"] (sp_draws K) := by
  refine T.F_draws.ok scD (fun vs H Q E h => ?_) (fun cdv A outer s H vs Q E hr h => ?_)
  · obtain ⟨_, _, _, _, rfl, _⟩ := h
    rfl
  · obtain ⟨a, ns, n, L, rfl, hS, hns, hn0, hn1, hL, k⟩ := h
    refine ⟨_, (pss_cons (ps_set (i := 2) scD.nd rfl (Or.inl rfl) (pe_lst pa_nil))
      (pss_cons (ps_set (i := 3) scD.nd rfl (Or.inl rfl) pe_int)
      (pss_cons (ps_for PassesOwn.never rfl (pi_list (pe_slice sl_list (pv 0) po_none (po_some pe_int))) (pg_name (i := 4) scD.nd rfl (Or.inl rfl))
        (pss_cons (ps_set (i := 5) scD.nd rfl (Or.inl rfl) (pe_callB call_abs (by rfl) T.z_abs (by rfl) (pa_cons (pv 4) pa_nil)))
          (pss_cons (ps_set (i := 3) scD.nd rfl (Or.inl rfl) (pe_op op_mod (pe_op op_add (pe_op op_add (pe_op op_mul (pv 3) pe_int) (pv 5)) (pe_op op_mul pe_int (pe_callTy call_int1 (by rfl) T.z_int (by rfl) (pa_cons (pe_cmpR op_lt (pv 4) pe_int (nomark _)) pa_nil)))) pe_int))
          (pss_one (ps_if (pt_cmpR op_lt (pv 5) (pe_op op_pow pe_int pe_int) (nomark _))
            (pss_one (ps_expr (pe_bm PySem.F.plainAttrs_list PySem.F.slot_list_append PySem.F.type_list_append mt_append (pv 2) (pa_cons (pv 5) pa_nil))))
            (pss_one (ps_for PassesOwn.never rfl (pi_range1 (by rfl) T.z_range (pa_cons pe_int pa_nil)) (pg_name (i := 6) scD.nd rfl (Or.inl rfl))
                (pss_one (ps_if (pt_cmpR op_gt (pv 5) pe_int (nomark _))
                    (pss_cons (ps_expr (pe_bm PySem.F.plainAttrs_list PySem.F.slot_list_append PySem.F.type_list_append mt_append (pv 2) (pa_cons (pe_op op_mod (pv 5) pe_int) pa_nil)))
                      (pss_one (ps_set (i := 5) scD.nd rfl (Or.inl rfl) (pe_op op_fdiv (pv 5) pe_int))))
                    pss_nil)))))))))
      (pss_cons (ps_while PassesOwn.never (pt_cmpR op_lt (pe_callB call_len_seq (by rfl) T.z_len (by rfl) (pa_cons (pv 2) pa_nil)) (pv 1) (nomark _))
        (pss_cons (ps_set (i := 3) scD.nd rfl (Or.inl rfl) (pe_op op_mod (pe_op op_add (pe_op op_mul (pv 3) pe_int) pe_int) pe_int))
          (pss_one (ps_expr (pe_bm PySem.F.plainAttrs_list PySem.F.slot_list_append PySem.F.type_list_append mt_append (pv 2) (pa_cons (pe_op op_mod (pe_op op_fdiv (pe_op op_mul (pv 3) (pv 3)) pe_int) pe_int) pa_nil))))))
      (pss_one (ps_ret (pe_slice sl_list (pv 2) po_none (po_some (pv 1))))))))), ?_⟩
    refine ⟨by decide, fun r hr0 => ?_⟩
    have h1 := hL.alloc hr0 (.lst [])
    have hS1 : SqL K (upd H r (.lst [])) a (ns.map V.int) := hS.alloc hr0
    generalize upd H r (.lst []) = H1 at *
    refine ⟨_, rfl, _, rfl, a, _, rfl, hS1, fun sl hsl => ?_⟩
    have h2 := h1.alloc hsl (.lst (cutV (ns.map V.int) none (some 63)))
    generalize upd H1 sl (.lst (cutV (ns.map V.int) none (some 63))) = H2 at *
    refine ⟨sl, rfl, ⟨_, SqL.of (h2.get 0 rfl)⟩, ?_⟩
    refine for_list (K := K) (a := sl) (xs := cutV (ns.map V.int) none (some 63)) (fun i σ H' => ∃ (row : List Int) (b : Int) (c l t : Option V), σ = [some (.ref a), some (.int n), some (.ref r), some (.int b), c, l, t] ∧
      Has H' ((r, .lst (row.map V.int)) :: (sl, .lst (cutV (ns.map V.int) none (some 63))) :: L) ∧ row.length ≤ 60 * i ∧ Dr row ∧ 0 ≤ b ∧ b < 2147483647)
      ⟨[], 7, none, none, none, rfl, h2.swap2, Nat.zero_le _, (fun _ h => nomatch h), by decide, by decide⟩ (fun i σ H' _ ⟨row, b, c, l, t, _, h, _⟩ => SqL.of (h.get 1 rfl)) ?_ ?_
    · rintro i y σ H' hi ⟨row, b, c, l, t, rfl, h3, hlen, hd, b0, b1⟩
      have hi63 : i < 63 := by
        have h5 := (List.getElem?_eq_some_iff.mp hi).1
        rw [cut_take _ _ (by decide), List.length_take, List.length_map] at h5
        omega
      obtain ⟨z, rfl⟩ : ∃ z, y = V.int z := by
        rw [cut_take _ _ (by decide), List.getElem?_take_of_lt (by omega), List.getElem?_map] at hi
        cases e : ns[i]? with
        | none => rw [e] at hi; cases hi
        | some z => rw [e] at hi; exact ⟨z, (Option.some.inj hi).symm⟩
      refine ⟨_, rfl, _, rfl, ?_⟩
      have hab : 0 ≤ (if z < 0 then -z else z) := by split <;> omega
      generalize (if z < 0 then -z else z) = left at *
      refine ⟨_, rfl, _, _, rfl, rfl, .inl ⟨by omega, by omega⟩, _, rfl, _, _, rfl, rfl, _, rfl, _, _, rfl, rfl, .inr ⟨_, rfl, _, _, rfl, rfl, .inl ⟨by decide, by decide⟩, _, _, rfl, rfl, _, _, rfl, rfl, (show (0 : Int) < 2147483647 by decide), ?_⟩⟩
      have hb0 := Int.emod_nonneg (b * 48271 + left + 2 * (if decide (z < 0) = true then 1 else 0)) (show (2147483647 : Int) ≠ 0 by decide)
      have hb1 := Int.emod_lt_of_pos (b * 48271 + left + 2 * (if decide (z < 0) = true then 1 else 0)) (show (0 : Int) < 2147483647 by decide)
      -- if left < 10 ** 18
      refine ⟨_, rfl, _, _, rfl, rfl, ⟨by decide, by decide, by decide⟩, _, _, rfl, rfl, _, rfl, ?_⟩
      refine ite2 (fun hc => ?_) (fun hc => ?_)
      · have hc' : left < 10 ^ 18 := of_decide_eq_true hc
        refine ⟨_, rfl, .inl ⟨rfl, _, SqL.of (h3.get 0 rfl)⟩, _, rfl, r, _, _, rfl, rfl, h3.get 0 rfl, ?_, ?_⟩
        · rw [List.length_map]
          exact sizeOk (by omega)
        · refine ⟨row ++ [left], _, _, _, _, rfl, ?_, ?_, hd.snoc hab hc', hb0, hb1⟩
          · rw [← map_snoc]
            exact h3.puti 0 rfl _
          · rw [List.length_append, List.length_singleton]; omega
      · -- for turn in range(60)
        refine ⟨_, rfl, by decide, by decide, for_range (n := 60) (fun j σ H2 => ∃ (row2 : List Int) (l2 : Int) (t2 : Option V) (b2 : Int), 0 ≤ b2 ∧ b2 < 2147483647 ∧ σ = [some (.ref a), some (.int n), some (.ref r), some (.int b2), some (.int z), some (.int l2), t2] ∧
          Has H2 ((r, .lst (row2.map V.int)) :: (sl, .lst (cutV (ns.map V.int) none (some 63))) :: L) ∧ row2.length ≤ row.length + j ∧ Dr row2 ∧ 0 ≤ l2) ⟨row, _, _, _, hb0, hb1, rfl, h3, Nat.le_add_right _ _, hd, hab⟩ ?_ ?_⟩
        · rintro j σ H2 hj ⟨row2, l2, t2, b2, hb20, hb21, rfl, h4, hlen2, hd2, hl2⟩
          refine ⟨_, rfl, _, _, rfl, rfl, _, rfl, ?_⟩
          refine ite2 (fun hc2 => ?_) (fun hc2 => ?_)
          · refine ⟨_, rfl, .inl ⟨rfl, _, SqL.of (h4.get 0 rfl)⟩, _, rfl, _, _, rfl, rfl, (show (0 : Int) < 10007 by decide), r, _, _, rfl, rfl, h4.get 0 rfl, ?_, ?_⟩
            · rw [List.length_map]
              exact sizeOk (by omega)
            · refine ⟨_, rfl, _, _, rfl, rfl, ⟨by decide, by decide⟩, ?_⟩
              refine ⟨row2 ++ [l2 % 10007], _, _, _, hb20, hb21, rfl, ?_, ?_, hd2.snoc (Int.emod_nonneg _ (by decide)) (Int.lt_trans (Int.emod_lt_of_pos _ (by decide)) (by decide)), Int.ediv_nonneg hl2 (by decide)⟩
              · rw [← map_snoc]
                exact h4.puti 0 rfl _
              · rw [List.length_append, List.length_singleton]; omega
          · exact ⟨row2, l2, _, b2, hb20, hb21, rfl, h4, by omega, hd2, hl2⟩
        · rintro σ H2 ⟨row2, l2, t2, b2, hb20, hb21, rfl, h4, hlen2, hd2, hl2⟩
          exact ⟨row2, b2, _, _, _, rfl, h4, by omega, hd2, hb20, hb21⟩
    · rintro σ H' ⟨row, b, c, l, t, rfl, h3, hlen, hd, b0, b1⟩
      have hlx : (cutV (ns.map V.int) none (some 63)).length ≤ 63 := by
        rw [cut_take _ _ (by decide), List.length_take]; omega
      refine while_by (fun σ H' => ∃ (row : List Int) (b : Int) (c l t : Option V), σ = [some (.ref a), some (.int n), some (.ref r), some (.int b), c, l, t] ∧ Has H' ((r, .lst (row.map V.int)) :: L) ∧ row.length ≤ 4000 ∧ Dr row ∧ 0 ≤ b ∧ b < 2147483647)
        (fun σ H' => match H' r with | some (.lst xs) => n.toNat - xs.length | _ => 0) ⟨row, b, c, l, t, rfl, h3.swap2.tail, by omega, hd, b0, b1⟩ ?_ ?_
      · rintro σ H' ⟨row, b, c, l, t, rfl, h4, hlen, hd, b0, b1⟩
        refine ⟨_, rfl, r, _, rfl, .inl (SqL.of (h4.get 0 rfl)), _, rfl, _, _, rfl, rfl, _, rfl, ?_⟩
        rw [List.length_map]
        refine ite2 (fun hc => ?_) (fun hc => ?_)
        · have hc' : (row.length : Int) < n := of_decide_eq_true hc
          refine ⟨_, rfl, _, _, rfl, rfl, .inl ⟨by omega, by omega⟩, _, _, rfl, rfl, _, _, rfl, rfl, (show (0 : Int) < 2147483647 by decide), ?_⟩
          have hb0 := Int.emod_nonneg (b * 69621 + 12289) (show (2147483647 : Int) ≠ 0 by decide)
          have hb1 := Int.emod_lt_of_pos (b * 69621 + 12289) (show (0 : Int) < 2147483647 by decide)
          refine ⟨_, rfl, .inl ⟨rfl, _, SqL.of (h4.get 0 rfl)⟩, _, rfl, _, rfl, _, _, rfl, rfl, .inl ⟨?_, ?_⟩, _, _, rfl, rfl, ⟨by decide, by decide⟩, _, _, rfl, rfl, (show (0 : Int) < 10007 by decide), r, _, _, rfl, rfl, h4.get 0 rfl, ?_, ?_⟩
          · show -(2 ^ 64) < (b * 69621 + 12289) % 2147483647
            omega
          · show (b * 69621 + 12289) % 2147483647 < 2 ^ 64
            omega
          · rw [List.length_map]
            exact sizeOk (by omega)
          · have hq0 := Int.emod_nonneg ((b * 69621 + 12289) % 2147483647 * ((b * 69621 + 12289) % 2147483647) / 4099) (show (10007 : Int) ≠ 0 by decide)
            have hq1 := Int.emod_lt_of_pos ((b * 69621 + 12289) % 2147483647 * ((b * 69621 + 12289) % 2147483647) / 4099) (show (0 : Int) < 10007 by decide)
            refine ⟨⟨row ++ [(b * 69621 + 12289) % 2147483647 * ((b * 69621 + 12289) % 2147483647) / 4099 % 10007], _, _, _, _, rfl, ?_, ?_, hd.snoc hq0 (Int.lt_trans hq1 (by decide)), hb0, hb1⟩, ?_⟩
            · rw [← map_snoc]
              exact h4.puti 0 rfl _
            · rw [List.length_append, List.length_singleton]; omega
            · have e1 : H' r = some (.lst (row.map V.int)) := h4.get 0 rfl
              simp only [e1, upd_same, List.length_append, List.length_map, List.length_singleton]
              omega
        · have hc' : ¬ (row.length : Int) < n := fun z => hc (decide_eq_true z)
          refine ⟨_, rfl, _, rfl, _, rfl, r, _, rfl, SqL.of (h4.get 0 rfl), fun p hp => ?_⟩
          refine k _ p (row.take n.toNat) ?_ (by rw [List.length_take]; omega) (fun d hd' => hd d (List.mem_of_mem_take hd'))
          have h5 := (h4.tail).alloc hp (.lst (cutV (row.map V.int) none (some n)))
          rw [cut_take _ _ hn0, ← List.map_take] at h5 ⊢
          exact h5
      · rintro σ H' Q1 Q2 hQ ⟨v, e, p, ys, e2, h, w', e3, i, j, e4, e5, c, e6, q⟩
        exact ⟨v, e, p, ys, e2, h, w', e3, i, j, e4, e5, c, e6, hQ _ _ q⟩
end

/-- whole, is: of ints -/
def sp_whole : Sp := fun vs H Q _ => ∃ i : Int, vs = [.int i] ∧ Q (.bl true) H
def sp_is : Sp := fun vs H Q _ => ∃ i j : Int, vs = [.int i, .int j] ∧ Q (.bl (decide (i = j))) H
theorem kit_ii (K : PySem.W.Frag) : PySem.W.kitOne K (.type "int") (.type "int") = some true := by kernel_rfl
theorem kit_ib (K : PySem.W.Frag) : PySem.W.kitOne K (.type "int") (.type "bool") = some false := by kernel_rfl
theorem kit_tt (K : PySem.W.Frag) : PySem.W.kitOne K (.type "tuple") (.type "tuple") = some true := by kernel_rfl
theorem kit_ll (K : PySem.W.Frag) : PySem.W.kitOne K (.type "list") (.type "list") = some true := by kernel_rfl
section
variable {P : Program} {w : World} {K : PySem.W.Frag} {mg : Str → Option Value} {base : Heap} {t : Adr}
theorem scWh : FnScope ["_law_found"] ["_law_found"] (defScope s_whole) := ⟨rfl, rfl, rfl, by decide +kernel, rfl, by decide +kernel, by decide +kernel⟩
theorem ok_whole (T : Txt K mg t) : FnOk P w K mg base CX0 1 t.f_whole t.d_whole ["_law_found"] sp_whole := by
  refine T.F_whole.ok scWh (fun vs H Q E h => ?_) (fun cdv A outer s H vs Q E hr h => ?_)
  · obtain ⟨_, rfl, _⟩ := h
    rfl
  · obtain ⟨i, rfl, k⟩ := h
    refine ⟨_, (pss_one (ps_ret (pe_and (pe_callB call_isi (by rfl) T.z_isinstance (by rfl) (pa_cons (pv 0) (pa_cons (pe_bltn (v := .ty "int") (by rfl) T.z_int (by rfl) rfl) pa_nil))) (pe_one (pe_not (pe_callB call_isi (by rfl) T.z_isinstance (by rfl) (pa_cons (pv 0) (pa_cons (pe_bltn (v := .ty "bool") (by rfl) T.z_bool (by rfl) rfl) pa_nil)))))))), ?_⟩
    refine ⟨_, rfl, _, _, _, _, rfl, .int i, kit_ii K, _, rfl, iteT ?_⟩
    exact ⟨_, rfl, _, _, _, _, rfl, .int i, kit_ib K, _, rfl, k⟩
theorem scIs : FnScope ["_law_found", "_law_due"] ["_law_found", "_law_due"] (defScope s_is) := ⟨rfl, rfl, rfl, by decide +kernel, rfl, by decide +kernel, by decide +kernel⟩
theorem ok_is (T : Txt K mg t) : FnOk P w K mg base CX0 2 t.f_is t.d_is ["_law_found", "_law_due"] sp_is := by
  refine T.F_is.ok scIs (fun vs H Q E h => ?_) (fun cdv A outer s H vs Q E hr h => ?_)
  · obtain ⟨_, _, rfl, _⟩ := h
    rfl
  · obtain ⟨i, j, rfl, k⟩ := h
    refine ⟨_, (pss_one (ps_ret (pe_and (pe_call (ok_whole T) (hr.mono (by decide)) (by rfl) T.m_whole T.F_whole.kp (b_whole T) .nil pass0 (pa_cons (pv 0) pa_nil)) (pe_one (pe_cmpR op_eq (pv 0) (pv 1) (nomark _)))))), ?_⟩
    refine ⟨_, rfl, i, rfl, _, rfl, iteT ?_⟩
    refine ⟨_, rfl, _, rfl, rfl, ?_⟩
    have e : decide (V.int i = V.int j) = decide (i = j) := by by_cases h : i = j <;> simp [h]
    rw [e]
    exact k
end

/-- the six kinds -/
inductive Kd where | line | bell | still | lazy | turning | stop
  deriving DecidableEq
def Kd.str : Kd → Str
  | .line => "line" | .bell => "bell" | .still => "still" | .lazy => "lazy" | .turning => "turning" | .stop => "stop"
def Kd.many : Kd → Int
  | .line => 2 | .bell => 2 | .still => 3 | .lazy => 3 | .turning => 3 | .stop => 1
def Kd.point : Kd → Bool
  | .still => true | .lazy => true | .turning => true | _ => false
def endsD : List (Str × PyData) := [("line", .int 2), ("bell", .int 2), ("stop", .int 1), ("still", .int 3), ("lazy", .int 3), ("turning", .int 3)]
theorem Kd.inEnds (k : Kd) : (endsD.any fun p => decide (k.str = p.1)) = true := by cases k <;> decide +kernel
theorem Kd.atEnds (k : Kd) : endsD.lookup k.str = some (.int k.many) := by cases k <;> rfl
theorem endsD_int : (endsD.all fun p => match p.2 with | .int _ => true | _ => false) = true := by decide +kernel
theorem Kd.inPoints (k : Kd) : inV (.str k.str) [.str "still", .str "lazy", .str "turning"] = k.point := by cases k <;> decide +kernel
theorem Kd.isStop (k : Kd) : decide (V.str k.str = V.str "stop") = decide (k = .stop) := by cases k <;> decide +kernel
theorem Kd.isTurning (k : Kd) : decide (V.str k.str = V.str "turning") = decide (k = .turning) := by cases k <;> decide +kernel
theorem Kd.isLazy (k : Kd) : decide (V.str k.str = V.str "lazy") = decide (k = .lazy) := by cases k <;> decide +kernel
theorem Kd.isBell (k : Kd) : decide (V.str k.str = V.str "bell") = decide (k = .bell) := by cases k <;> decide +kernel
theorem Kd.isLine (k : Kd) : decide (V.str k.str = V.str "line") = decide (k = .line) := by cases k <;> decide +kernel
def Kd.out (k : Kd) (e s : Int) : V := if k = .stop then .non else if k.point then (if e = 0 then .int s else .int 0) else .int (1 - e)
def Kd.side (k : Kd) (e s : Int) : Int := if k.point then (if e = 0 then (if k = .turning then 3 - s else s) else (if k = .lazy then e else s)) else s
def sp_ends_of : Sp := fun vs H Q _ => ∃ k : Kd, vs = [.str k.str] ∧ Q (.int k.many) H
def sp_is_point : Sp := fun vs H Q _ => ∃ k : Kd, vs = [.str k.str] ∧ Q (.bl k.point) H
def sp_check_end : Sp := fun vs H Q _ => ∃ (k : Kd) (e : Int), vs = [.str k.str, .int e] ∧ 0 ≤ e ∧ e < k.many ∧ Q .non H
def sp_check_side : Sp := fun vs H Q _ => ∃ s : Int, vs = [.int s] ∧ (s = 1 ∨ s = 2) ∧ Q .non H
/-- passage; the side of a kind that is no point may be any value -/
def sp_passage : Sp := fun vs H Q _ => ∃ (k : Kd) (e s : Int) (v : V), vs = [.str k.str, .int e, v] ∧ 0 ≤ e ∧ e < k.many ∧ (k.point = true → v = .int s ∧ (s = 1 ∨ s = 2)) ∧ ∀ p, H p = none → Q (.ref p) (upd H p (.tup [k.out e s, if k.point then .int (k.side e s) else v]))
def sp_point_passage : Sp := fun vs H Q _ => ∃ (k : Kd) (e s : Int), vs = [.str k.str, .int e, .int s] ∧ k.point = true ∧ ∀ p, H p = none → Q (.ref p) (upd H p (.tup [k.out e s, .int (k.side e s)]))
section
variable {P : Program} {w : World} {K : PySem.W.Frag} {mg : Str → Option Value} {base : Heap} {t : Adr}
theorem decInt (i j : Int) : decide (V.int i = V.int j) = decide (i = j) := by by_cases h : i = j <;> simp [h]
theorem scEo : FnScope ["kind"] ["kind"] (defScope s_ends_of) := ⟨rfl, rfl, rfl, by decide +kernel, rfl, by decide +kernel, by decide +kernel⟩
theorem ok_ends_of (T : Txt K mg t) : FnOk P w K mg base CX0 1 t.f_ends_of t.d_ends_of ["kind"] sp_ends_of := by
  refine T.F_ends_of.ok scEo (fun vs H Q E h => ?_) (fun cdv A outer s H vs Q E hr h => ?_)
  · obtain ⟨_, rfl, _⟩ := h
    rfl
  · obtain ⟨k, rfl, q⟩ := h
    obtain ⟨aE, eE, hE⟩ := T.x_ENDS
    have T_r_ENDS : RelV (.ref aE) t.u_ENDS := by rw [eE]; rfl
    refine ⟨_, (pss_cons (ps_if (pt_cmpR op_notInK (pv 0) (pe_glob (by rfl) T.g_ENDS T_r_ENDS) (by rfl))
        (pss_one ps_never)
        pss_nil)
      (pss_one (ps_ret (pe_ix ix_K (pe_glob (by rfl) T.g_ENDS T_r_ENDS) (pv 0) (fun _ _ => rfl))))), ?_⟩
    refine ⟨_, rfl, _, aE, endsD, rfl, rfl, hE, _, rfl, ?_⟩
    rw [k.inEnds]
    exact ⟨_, rfl, _, aE, endsD, _, rfl, rfl, hE, k.atEnds, endsD_int, q⟩
theorem scIp : FnScope ["kind"] ["kind"] (defScope s_is_point) := ⟨rfl, rfl, rfl, by decide +kernel, rfl, by decide +kernel, by decide +kernel⟩
theorem ok_is_point (T : Txt K mg t) : FnOk P w K mg base CX0 1 t.f_is_point t.d_is_point ["kind"] sp_is_point := by
  refine T.F_is_point.ok scIp (fun vs H Q E h => ?_) (fun cdv A outer s H vs Q E hr h => ?_)
  · obtain ⟨_, rfl, _⟩ := h
    rfl
  · obtain ⟨k, rfl, q⟩ := h
    obtain ⟨aE, eE, hE⟩ := T.x_ENDS
    have T_r_ENDS : RelV (.ref aE) t.u_ENDS := by rw [eE]; rfl
    obtain ⟨aP, oP, its, n, eP, h1, h2, h3, h4, h5⟩ := T.x_POINTS
    have T_r_POINTS : RelV (.ref aP) t.u_POINTS := by rw [eP]; rfl
    refine ⟨_, (pss_cons (ps_if (pt_cmpR op_notInK (pv 0) (pe_glob (by rfl) T.g_ENDS T_r_ENDS) (by rfl))
        (pss_one ps_never)
        pss_nil)
      (pss_one (ps_ret (pe_cmpR op_in_seq (pv 0) (pe_glob (by rfl) T.g_POINTS T_r_POINTS) (by rfl))))), ?_⟩
    refine ⟨_, rfl, _, aE, endsD, rfl, rfl, hE, _, rfl, ?_⟩
    rw [k.inEnds]
    refine ⟨_, rfl, aP, _, rfl, .inr (.inr ⟨oP, its, n, h1, h2, h3, h4, h5⟩), rfl, by decide, ?_⟩
    rw [if_neg Bool.false_ne_true, k.inPoints]
    exact q
theorem scCe : FnScope ["kind", "end", "many"] ["kind", "end"] (defScope s_check_end) := ⟨rfl, rfl, rfl, by decide +kernel, rfl, by decide +kernel, by decide +kernel⟩
theorem ok_check_end (T : Txt K mg t) : FnOk P w K mg base CX0 2 t.f_check_end t.d_check_end ["kind", "end"] sp_check_end := by
  refine T.F_check_end.ok scCe (fun vs H Q E h => ?_) (fun cdv A outer s H vs Q E hr h => ?_)
  · obtain ⟨_, _, rfl, _⟩ := h
    rfl
  · obtain ⟨k, e, rfl, e0, e1, q⟩ := h
    refine ⟨_, (pss_cons (ps_set (i := 2) scCe.nd rfl (Or.inl rfl) (pe_call (ok_ends_of T) (hr.mono (by decide)) (by rfl) T.m_ends_of T.F_ends_of.kp (b_ends_of T) .nil pass0 (pa_cons (pv 0) pa_nil)))
      (pss_one (ps_if (PW.pt (pw_or (pt_cmpR op_lt (pv 1) pe_int (nomark _)) (pw_or1 (pt_cmpR op_ge (pv 1) (pv 2) (nomark _)))))
        (pss_one ps_never)
        pss_nil))), ?_⟩
    refine ⟨_, rfl, k, rfl, ?_⟩
    refine ⟨_, rfl, _, _, rfl, rfl, _, rfl, ?_⟩
    refine ifF (decide_eq_false (by omega)) ?_
    refine ⟨_, rfl, _, rfl, _, _, rfl, rfl, _, rfl, ?_⟩
    exact ifF (decide_eq_false (by omega)) q
theorem scCs : FnScope ["side"] ["side"] (defScope s_check_side) := ⟨rfl, rfl, rfl, by decide +kernel, rfl, by decide +kernel, by decide +kernel⟩
theorem ok_check_side (T : Txt K mg t) : FnOk P w K mg base CX0 1 t.f_check_side t.d_check_side ["side"] sp_check_side := by
  refine T.F_check_side.ok scCs (fun vs H Q E h => ?_) (fun cdv A outer s H vs Q E hr h => ?_)
  · obtain ⟨_, rfl, _⟩ := h
    rfl
  · obtain ⟨z, rfl, hz, q⟩ := h
    refine ⟨_, (pss_one (ps_if (PW.pt (pw_and (pt_cmpR op_ne (pv 0) pe_int (nomark _)) (pw_and1 (pt_cmpR op_ne (pv 0) pe_int (nomark _)))))
        (pss_one ps_never)
        pss_nil)), ?_⟩
    refine ⟨_, rfl, rfl, _, rfl, ?_⟩
    rw [decInt]
    refine ifdn (fun hc => ?_) (fun hc => iteF q)
    refine ⟨_, rfl, rfl, _, rfl, ?_⟩
    rw [decInt]
    exact ifF (by simp; omega) q
theorem scPp : FnScope ["kind", "end", "side"] ["kind", "end", "side"] (defScope s_point_passage) := ⟨rfl, rfl, rfl, by decide +kernel, rfl, by decide +kernel, by decide +kernel⟩
theorem ok_point_passage (T : Txt K mg t) : FnOk P w K mg base CX0 1 t.f_point_passage t.d_point_passage ["kind", "end", "side"] sp_point_passage := by
  refine T.F_point_passage.ok scPp (fun vs H Q E h => ?_) (fun cdv A outer s H vs Q E hr h => ?_)
  · obtain ⟨_, _, _, rfl, _⟩ := h
    rfl
  · obtain ⟨k, e, z, rfl, hk, q⟩ := h
    have ns : ¬ k = .stop := fun h => by rw [h] at hk; cases hk
    refine ⟨_, (pss_cons (ps_if (pt_cmpR op_eq (pv 1) (pe_glob (by rfl) T.g_STEM T.r_STEM) (nomark _))
        (pss_one (ps_ret (pe_tup (pa_cons (pv 2) (pa_cons (pe_ifExp (pt_cmpR op_eq (pv 0) pe_str (nomark _)) (pe_op op_sub pe_int (pv 2)) (pv 2)) pa_nil)))))
        pss_nil)
      (pss_one (ps_ret (pe_tup (pa_cons (pe_glob (by rfl) T.g_STEM T.r_STEM) (pa_cons (pe_ifExp (pt_cmpR op_eq (pv 0) pe_str (nomark _)) (pv 1) (pv 2)) pa_nil)))))), ?_⟩
    refine ⟨_, rfl, rfl, _, rfl, ?_⟩
    rw [decInt]
    refine ite2 (fun hc => ?_) (fun hc => ?_)
    · have he : e = 0 := of_decide_eq_true hc
      refine ⟨_, rfl, _, rfl, rfl, _, rfl, ?_⟩
      rw [k.isTurning]
      have o1 : k.out e z = .int z := by unfold Kd.out; rw [if_neg ns, if_pos hk, if_pos he]
      have o2 : k.side e z = if k = .turning then 3 - z else z := by unfold Kd.side; rw [if_pos hk, if_pos he]
      rw [o1, o2] at q
      refine ite2 (fun hc => ?_) (fun hc => ?_)
      · rw [if_pos (of_decide_eq_true hc)] at q
        exact ⟨_, rfl, _, _, rfl, rfl, (show 2 ≤ sizeLine by decide), fun p hp => q p hp⟩
      · rw [if_neg (fun h => hc (decide_eq_true h))] at q
        exact ⟨_, rfl, (show 2 ≤ sizeLine by decide), fun p hp => q p hp⟩
    · have he : ¬ e = 0 := fun h => hc (decide_eq_true h)
      refine ⟨_, rfl, rfl, _, rfl, ?_⟩
      rw [k.isLazy]
      have o1 : k.out e z = .int 0 := by unfold Kd.out; rw [if_neg ns, if_pos hk, if_neg he]
      have o2 : k.side e z = if k = .lazy then e else z := by unfold Kd.side; rw [if_pos hk, if_neg he]
      rw [o1, o2] at q
      refine ite2 (fun hc => ?_) (fun hc => ?_)
      · rw [if_pos (of_decide_eq_true hc)] at q
        exact ⟨_, rfl, (show 2 ≤ sizeLine by decide), fun p hp => q p hp⟩
      · rw [if_neg (fun h => hc (decide_eq_true h))] at q
        exact ⟨_, rfl, (show 2 ≤ sizeLine by decide), fun p hp => q p hp⟩
theorem scPa : FnScope ["kind", "end", "side"] ["kind", "end", "side"] (defScope s_passage) := ⟨rfl, rfl, rfl, by decide +kernel, rfl, by decide +kernel, by decide +kernel⟩
theorem ok_passage (T : Txt K mg t) : FnOk P w K mg base CX0 3 t.f_passage t.d_passage ["kind", "end", "side"] sp_passage := by
  refine T.F_passage.ok scPa (fun vs H Q E h => ?_) (fun cdv A outer s H vs Q E hr h => ?_)
  · obtain ⟨_, _, _, _, rfl, _⟩ := h
    rfl
  · obtain ⟨k, e, z, v, rfl, e0, e1, hs, q⟩ := h
    refine ⟨_, (pss_cons (ps_expr (pe_call (ok_check_end T) (hr.mono (by decide)) (by rfl) T.m_check_end T.F_check_end.kp (b_check_end T) .nil pass0 (pa_cons (pv 0) (pa_cons (pv 1) pa_nil))))
      (pss_cons (ps_if (pt_val (pe_call (ok_is_point T) (hr.mono (by decide)) (by rfl) T.m_is_point T.F_is_point.kp (b_is_point T) .nil pass0 (pa_cons (pv 0) pa_nil)))
        (pss_cons (ps_expr (pe_call (ok_check_side T) (hr.mono (by decide)) (by rfl) T.m_check_side T.F_check_side.kp (b_check_side T) .nil pass0 (pa_cons (pv 2) pa_nil)))
          (pss_one (ps_ret (pe_call (ok_point_passage T) (hr.mono (by decide)) (by rfl) T.m_point_passage T.F_point_passage.kp (b_point_passage T) .nil pass0 (pa_cons (pv 0) (pa_cons (pv 1) (pa_cons (pv 2) pa_nil)))))))
        pss_nil)
      (pss_cons (ps_if (pt_cmpR op_eq (pv 0) pe_str (nomark _))
        (pss_one (ps_ret (pe_tup (pa_cons pe_non (pa_cons (pv 2) pa_nil)))))
        pss_nil)
      (pss_one (ps_ret (pe_tup (pa_cons (pe_op op_sub pe_int (pv 1)) (pa_cons (pv 2) pa_nil)))))))), ?_⟩
    refine ⟨_, rfl, _, rfl, k, e, rfl, e0, e1, ?_⟩
    refine ⟨_, rfl, k, rfl, _, rfl, ?_⟩
    refine ite2 (fun hc => ?_) (fun hc => ?_)
    · obtain ⟨rfl, hz⟩ := hs hc
      rw [if_pos hc] at q
      exact ⟨_, rfl, z, rfl, hz, _, rfl, _, rfl, _, rfl, k, e, z, rfl, hc, q⟩
    · rw [if_neg hc] at q
      refine ⟨_, rfl, rfl, _, rfl, ?_⟩
      rw [k.isStop]
      refine ite2 (fun hc2 => ?_) (fun hc2 => ?_)
      · have hk : k = .stop := of_decide_eq_true hc2
        subst hk
        exact ⟨_, rfl, (show 2 ≤ sizeLine by decide), fun p hp => q p hp⟩
      · have hk : ¬ k = .stop := fun h => hc2 (decide_eq_true h)
        have o1 : k.out e z = .int (1 - e) := by unfold Kd.out; rw [if_neg hk, if_neg hc]
        rw [o1] at q
        exact ⟨_, rfl, _, _, rfl, rfl, _, rfl, (show 2 ≤ sizeLine by decide), fun p hp => q p hp⟩
end

theorem Kd.out_point {k : Kd} (h : k.point = true) (e s : Int) : k.out e s = if e = 0 then .int s else .int 0 := by
  have ns : ¬ k = .stop := fun h' => by rw [h'] at h; cases h
  unfold Kd.out; rw [if_neg ns, if_pos h]
theorem Kd.out_int {k : Kd} (h : ¬ k = .stop) (e s : Int) : ∃ i, k.out e s = .int i := by
  unfold Kd.out; rw [if_neg h]
  split
  · split
    · exact ⟨_, rfl⟩
    · exact ⟨_, rfl⟩
  · exact ⟨_, rfl⟩
theorem Kd.many_point {k : Kd} (h : k.point = true) : k.many = 3 := by cases k <;> first | rfl | cases h
theorem Kd.many_pos (k : Kd) : 0 < k.many := by cases k <;> decide
theorem Kd.side12 {k : Kd} {e s : Int} (e0 : 0 ≤ e) (e1 : e < k.many) (h : s = 1 ∨ s = 2) : k.side e s = 1 ∨ k.side e s = 2 := by
  unfold Kd.side
  split
  · rename_i hp
    have := Kd.many_point hp
    split
    · split <;> omega
    · split <;> omega
  · exact h

/-- where a yard's parts stand -/
structure YA where
  p : Addr
  dx : Addr
  tr : Addr
  k : Addr
  n : Addr
  r : Addr
  s : Addr
  m : Addr
  g : Addr
/-- a yard's parts -/
structure YR where
  next : Int
  kinds : List (Key × V)
  notes : List (Key × V)
  rods : List (Key × V)
  sides : List V
  mates : List (List Key × V)
  eng : V
  rung : List V
  trail : List V
def fl (A : YA) (next : Int) (eng : V) : List (Str × V) :=
  [("next_piece", .int next), ("kinds", .ref A.k), ("notes", .ref A.n), ("rods_under", .ref A.r), ("sides", .ref A.s), ("mates", .ref A.m), ("engine_end", eng), ("rung", .ref A.g), ("trail", .ref A.tr)]
def yL (C : Addr) (A : YA) (y : YR) : Kn :=
  [(A.tr, .lst y.trail), (A.p, .ins C A.dx (fl A y.next y.eng)), (A.dx, .own A.p), (A.k, .dK y.kinds), (A.n, .dK y.notes), (A.r, .dK y.rods), (A.s, .lst y.sides), (A.m, .dT y.mates), (A.g, .lst y.rung)]
def y0 : YR := ⟨0, [], [], [], [], [], .non, [], []⟩
section
variable (A : YA) (next : Int) (eng : V)
theorem fl_next : (fl A next eng).lookup ("next_piece" : Str) = some (.int next) := by kernel_rfl
theorem fl_kinds : (fl A next eng).lookup ("kinds" : Str) = some (.ref A.k) := by kernel_rfl
theorem fl_notes : (fl A next eng).lookup ("notes" : Str) = some (.ref A.n) := by kernel_rfl
theorem fl_rods : (fl A next eng).lookup ("rods_under" : Str) = some (.ref A.r) := by kernel_rfl
theorem fl_sides : (fl A next eng).lookup ("sides" : Str) = some (.ref A.s) := by kernel_rfl
theorem fl_mates : (fl A next eng).lookup ("mates" : Str) = some (.ref A.m) := by kernel_rfl
theorem fl_eng : (fl A next eng).lookup ("engine_end" : Str) = some eng := by kernel_rfl
theorem fl_rung : (fl A next eng).lookup ("rung" : Str) = some (.ref A.g) := by kernel_rfl
theorem fl_trail : (fl A next eng).lookup ("trail" : Str) = some (.ref A.tr) := by kernel_rfl
theorem fl_put_trail (q : Addr) : putF "trail" (.ref q) (fl A next eng) = fl { A with tr := q } next eng := by kernel_rfl
theorem fl_put_next (n' : Int) : putF "next_piece" (.int n') (fl A next eng) = fl A n' eng := by kernel_rfl
theorem fl_put_eng (e' : V) : putF "engine_end" e' (fl A next eng) = fl A next e' := by kernel_rfl
end
/-- methods are no attributes -/
theorem fl_m (A : YA) (next : Int) (eng : V) : (fl A next eng).lookup ("lay" : Str) = none ∧ (fl A next eng).lookup ("new_rod" : Str) = none ∧ (fl A next eng).lookup ("throw" : Str) = none ∧ (fl A next eng).lookup ("rods" : Str) = none ∧ (fl A next eng).lookup ("rod" : Str) = none ∧
    (fl A next eng).lookup ("side" : Str) = none ∧ (fl A next eng).lookup ("end_trail" : Str) = none ∧ (fl A next eng).lookup ("check_piece" : Str) = none ∧ (fl A next eng).lookup ("check_rod" : Str) = none :=
  ⟨by kernel_rfl, by kernel_rfl, by kernel_rfl, by kernel_rfl, by kernel_rfl, by kernel_rfl, by kernel_rfl, by kernel_rfl, by kernel_rfl⟩
def sp_init (C : Addr) : Sp := fun vs H Q _ => ∃ (p dx : Addr) (L : Kn), vs = [.ref p] ∧ Has H ((p, .ins C dx []) :: (dx, .own p) :: L) ∧ ∀ H' A, A.p = p → Has H' (yL C A y0 ++ L) → Q .non H'
/-- self.trail = [] -/
def sp_end_trail (C : Addr) : Sp := fun vs H Q _ => ∃ (A : YA) (y : YR) (L : Kn), vs = [.ref A.p] ∧ Has H (yL C A y ++ L) ∧ ∀ H' q, Has H' (yL C { A with tr := q } { y with trail := [] } ++ L) → Q .non H'
theorem init_perm {H : Hp} {C p dx a1 a2 a3 a4 a5 a7 a8 : Addr} {fs : List (Str × V)} {L : Kn} (h : Has H ((a8, .lst []) :: (a7, .lst []) :: (a5, .dT []) :: (a4, .lst []) :: (a3, .dK []) :: (a2, .dK []) :: (a1, .dK []) :: (p, .ins C dx fs) :: (dx, .own p) :: L)) :
    Has H ([(a8, .lst []), (p, .ins C dx fs), (dx, .own p), (a1, .dK []), (a2, .dK []), (a3, .dK []), (a4, .lst []), (a5, .dT []), (a7, .lst [])] ++ L) := by
  refine h.perm ?_
  refine .cons _ ?_
  show List.Perm ([(a7, HO.lst []), (a5, .dT []), (a4, .lst []), (a3, .dK []), (a2, .dK []), (a1, .dK []), (p, .ins C dx fs), (dx, .own p)] ++ L) ([(p, .ins C dx fs), (dx, .own p), (a1, .dK []), (a2, .dK []), (a3, .dK []), (a4, .lst []), (a5, .dT []), (a7, .lst [])] ++ L)
  refine List.Perm.append_right L ?_
  have e : [(a7, HO.lst []), (a5, .dT []), (a4, .lst []), (a3, .dK []), (a2, .dK []), (a1, .dK []), (p, .ins C dx fs), (dx, .own p)] = [(a7, HO.lst []), (a5, .dT []), (a4, .lst []), (a3, .dK []), (a2, .dK []), (a1, .dK [])] ++ [(p, .ins C dx fs), (dx, .own p)] := rfl
  rw [e]
  refine List.perm_append_comm.trans ?_
  refine .cons _ (.cons _ ?_)
  exact List.reverse_perm [(a1, HO.dK []), (a2, .dK []), (a3, .dK []), (a4, .lst []), (a5, .dT []), (a7, .lst [])]
section
variable {P : Program} {w : World} {K : PySem.W.Frag} {mg : Str → Option Value} {base : Heap} {t : Adr}
theorem scYi : FnScope ["self"] ["self"] (defScope s_Yard_init) := ⟨rfl, rfl, rfl, by decide +kernel, rfl, by decide +kernel, by decide +kernel⟩
theorem ok_Yard_init (T : Txt K mg t) : FnOk P w K mg base CX0 1 t.f_Yard_init t.d_Yard_init ["self"] (sp_init t.c_Yard) := by
  refine T.F_Yard_init.ok scYi (fun vs H Q E h => ?_) (fun cdv A outer s H vs Q E hr h => ?_)
  · obtain ⟨_, _, _, rfl, _⟩ := h
    rfl
  · obtain ⟨p, dx, L, rfl, hH, q⟩ := h
    refine ⟨_, (pss_cons (ps_fld (pv 0) pe_int rfl)
      (pss_cons (ps_fld (pv 0) pe_dnewK rfl)
      (pss_cons (ps_fld (pv 0) pe_dnewK rfl)
      (pss_cons (ps_fld (pv 0) pe_dnewK rfl)
      (pss_cons (ps_fld (pv 0) (pe_lst pa_nil) rfl)
      (pss_cons (ps_fld (pv 0) pe_dnewT rfl)
      (pss_cons (ps_fld (pv 0) pe_non rfl)
      (pss_cons (ps_fld (pv 0) (pe_lst pa_nil) rfl)
      (pss_one (ps_fld (pv 0) (pe_lst pa_nil) rfl)))))))))), ?_⟩
    refine ⟨_, rfl, p, _, dx, _, rfl, hH.get 0 rfl, T.cl_Yard, T.n_Yard_next_piece, (show 0 < 1000 by decide), ?_⟩
    have h1 := hH.puti 0 rfl (.ins t.c_Yard dx (putF ("next_piece" : Str) (V.int 0) ([] : List (Str × V))))
    rw [show putF ("next_piece" : Str) (V.int 0) ([] : List (Str × V)) = ([(("next_piece" : Str), V.int 0)] : List (Str × V)) from by kernel_rfl] at h1 ⊢
    generalize upd H p _ = H1 at h1 ⊢
    intro a1 n1
    refine ⟨_, rfl, p, _, dx, _, rfl, (h1.alloc n1 (.dK [])).get 1 rfl, T.cl_Yard, T.n_Yard_kinds, (show 1 < 1000 by decide), ?_⟩
    have h2 := (h1.alloc n1 (.dK [])).puti 1 rfl (.ins t.c_Yard dx (putF ("kinds" : Str) (V.ref a1) ([(("next_piece" : Str), V.int 0)] : List (Str × V))))
    rw [show putF ("kinds" : Str) (V.ref a1) ([(("next_piece" : Str), V.int 0)] : List (Str × V)) = ([(("next_piece" : Str), V.int 0), (("kinds" : Str), V.ref a1)] : List (Str × V)) from by kernel_rfl] at h2 ⊢
    generalize upd (upd H1 a1 _) p _ = H2 at h2 ⊢
    intro a2 n2
    refine ⟨_, rfl, p, _, dx, _, rfl, (h2.alloc n2 (.dK [])).get 2 rfl, T.cl_Yard, T.n_Yard_notes, (show 2 < 1000 by decide), ?_⟩
    have h3 := (h2.alloc n2 (.dK [])).puti 2 rfl (.ins t.c_Yard dx (putF ("notes" : Str) (V.ref a2) ([(("next_piece" : Str), V.int 0), (("kinds" : Str), V.ref a1)] : List (Str × V))))
    rw [show putF ("notes" : Str) (V.ref a2) ([(("next_piece" : Str), V.int 0), (("kinds" : Str), V.ref a1)] : List (Str × V)) = ([(("next_piece" : Str), V.int 0), (("kinds" : Str), V.ref a1), (("notes" : Str), V.ref a2)] : List (Str × V)) from by kernel_rfl] at h3 ⊢
    generalize upd (upd H2 a2 _) p _ = H3 at h3 ⊢
    intro a3 n3
    refine ⟨_, rfl, p, _, dx, _, rfl, (h3.alloc n3 (.dK [])).get 3 rfl, T.cl_Yard, T.n_Yard_rods_under, (show 3 < 1000 by decide), ?_⟩
    have h4 := (h3.alloc n3 (.dK [])).puti 3 rfl (.ins t.c_Yard dx (putF ("rods_under" : Str) (V.ref a3) ([(("next_piece" : Str), V.int 0), (("kinds" : Str), V.ref a1), (("notes" : Str), V.ref a2)] : List (Str × V))))
    rw [show putF ("rods_under" : Str) (V.ref a3) ([(("next_piece" : Str), V.int 0), (("kinds" : Str), V.ref a1), (("notes" : Str), V.ref a2)] : List (Str × V)) = ([(("next_piece" : Str), V.int 0), (("kinds" : Str), V.ref a1), (("notes" : Str), V.ref a2), (("rods_under" : Str), V.ref a3)] : List (Str × V)) from by kernel_rfl] at h4 ⊢
    generalize upd (upd H3 a3 _) p _ = H4 at h4 ⊢
    refine ⟨by decide, fun a4 n4 => ?_⟩
    refine ⟨_, rfl, p, _, dx, _, rfl, (h4.alloc n4 (.lst [])).get 4 rfl, T.cl_Yard, T.n_Yard_sides, (show 4 < 1000 by decide), ?_⟩
    have h5 := (h4.alloc n4 (.lst [])).puti 4 rfl (.ins t.c_Yard dx (putF ("sides" : Str) (V.ref a4) ([(("next_piece" : Str), V.int 0), (("kinds" : Str), V.ref a1), (("notes" : Str), V.ref a2), (("rods_under" : Str), V.ref a3)] : List (Str × V))))
    rw [show putF ("sides" : Str) (V.ref a4) ([(("next_piece" : Str), V.int 0), (("kinds" : Str), V.ref a1), (("notes" : Str), V.ref a2), (("rods_under" : Str), V.ref a3)] : List (Str × V)) = ([(("next_piece" : Str), V.int 0), (("kinds" : Str), V.ref a1), (("notes" : Str), V.ref a2), (("rods_under" : Str), V.ref a3), (("sides" : Str), V.ref a4)] : List (Str × V)) from by kernel_rfl] at h5 ⊢
    generalize upd (upd H4 a4 _) p _ = H5 at h5 ⊢
    intro a5 n5
    refine ⟨_, rfl, p, _, dx, _, rfl, (h5.alloc n5 (.dT [])).get 5 rfl, T.cl_Yard, T.n_Yard_mates, (show 5 < 1000 by decide), ?_⟩
    have h6 := (h5.alloc n5 (.dT [])).puti 5 rfl (.ins t.c_Yard dx (putF ("mates" : Str) (V.ref a5) ([(("next_piece" : Str), V.int 0), (("kinds" : Str), V.ref a1), (("notes" : Str), V.ref a2), (("rods_under" : Str), V.ref a3), (("sides" : Str), V.ref a4)] : List (Str × V))))
    rw [show putF ("mates" : Str) (V.ref a5) ([(("next_piece" : Str), V.int 0), (("kinds" : Str), V.ref a1), (("notes" : Str), V.ref a2), (("rods_under" : Str), V.ref a3), (("sides" : Str), V.ref a4)] : List (Str × V)) = ([(("next_piece" : Str), V.int 0), (("kinds" : Str), V.ref a1), (("notes" : Str), V.ref a2), (("rods_under" : Str), V.ref a3), (("sides" : Str), V.ref a4), (("mates" : Str), V.ref a5)] : List (Str × V)) from by kernel_rfl] at h6 ⊢
    generalize upd (upd H5 a5 _) p _ = H6 at h6 ⊢
    refine ⟨_, rfl, p, _, dx, _, rfl, h6.get 5 rfl, T.cl_Yard, T.n_Yard_engine_end, (show 6 < 1000 by decide), ?_⟩
    have h7 := h6.puti 5 rfl (.ins t.c_Yard dx (putF ("engine_end" : Str) (V.non) ([(("next_piece" : Str), V.int 0), (("kinds" : Str), V.ref a1), (("notes" : Str), V.ref a2), (("rods_under" : Str), V.ref a3), (("sides" : Str), V.ref a4), (("mates" : Str), V.ref a5)] : List (Str × V))))
    rw [show putF ("engine_end" : Str) (V.non) ([(("next_piece" : Str), V.int 0), (("kinds" : Str), V.ref a1), (("notes" : Str), V.ref a2), (("rods_under" : Str), V.ref a3), (("sides" : Str), V.ref a4), (("mates" : Str), V.ref a5)] : List (Str × V)) = ([(("next_piece" : Str), V.int 0), (("kinds" : Str), V.ref a1), (("notes" : Str), V.ref a2), (("rods_under" : Str), V.ref a3), (("sides" : Str), V.ref a4), (("mates" : Str), V.ref a5), (("engine_end" : Str), V.non)] : List (Str × V)) from by kernel_rfl] at h7 ⊢
    generalize upd H6 p _ = H7 at h7 ⊢
    refine ⟨by decide, fun a7 n7 => ?_⟩
    refine ⟨_, rfl, p, _, dx, _, rfl, (h7.alloc n7 (.lst [])).get 6 rfl, T.cl_Yard, T.n_Yard_rung, (show 7 < 1000 by decide), ?_⟩
    have h8 := (h7.alloc n7 (.lst [])).puti 6 rfl (.ins t.c_Yard dx (putF ("rung" : Str) (V.ref a7) ([(("next_piece" : Str), V.int 0), (("kinds" : Str), V.ref a1), (("notes" : Str), V.ref a2), (("rods_under" : Str), V.ref a3), (("sides" : Str), V.ref a4), (("mates" : Str), V.ref a5), (("engine_end" : Str), V.non)] : List (Str × V))))
    rw [show putF ("rung" : Str) (V.ref a7) ([(("next_piece" : Str), V.int 0), (("kinds" : Str), V.ref a1), (("notes" : Str), V.ref a2), (("rods_under" : Str), V.ref a3), (("sides" : Str), V.ref a4), (("mates" : Str), V.ref a5), (("engine_end" : Str), V.non)] : List (Str × V)) = ([(("next_piece" : Str), V.int 0), (("kinds" : Str), V.ref a1), (("notes" : Str), V.ref a2), (("rods_under" : Str), V.ref a3), (("sides" : Str), V.ref a4), (("mates" : Str), V.ref a5), (("engine_end" : Str), V.non), (("rung" : Str), V.ref a7)] : List (Str × V)) from by kernel_rfl] at h8 ⊢
    generalize upd (upd H7 a7 _) p _ = H8 at h8 ⊢
    refine ⟨by decide, fun a8 n8 => ?_⟩
    refine ⟨_, rfl, p, _, dx, _, rfl, (h8.alloc n8 (.lst [])).get 7 rfl, T.cl_Yard, T.n_Yard_trail, (show 8 < 1000 by decide), ?_⟩
    refine q _ ⟨p, dx, a8, a1, a2, a3, a4, a5, a7⟩ rfl ?_
    have h9 := (h8.alloc n8 (.lst [])).puti 7 rfl (.ins t.c_Yard dx (putF ("trail" : Str) (V.ref a8) ([(("next_piece" : Str), V.int 0), (("kinds" : Str), V.ref a1), (("notes" : Str), V.ref a2), (("rods_under" : Str), V.ref a3), (("sides" : Str), V.ref a4), (("mates" : Str), V.ref a5), (("engine_end" : Str), V.non), (("rung" : Str), V.ref a7)] : List (Str × V))))
    rw [show putF ("trail" : Str) (V.ref a8) ([(("next_piece" : Str), V.int 0), (("kinds" : Str), V.ref a1), (("notes" : Str), V.ref a2), (("rods_under" : Str), V.ref a3), (("sides" : Str), V.ref a4), (("mates" : Str), V.ref a5), (("engine_end" : Str), V.non), (("rung" : Str), V.ref a7)] : List (Str × V)) = ([(("next_piece" : Str), V.int 0), (("kinds" : Str), V.ref a1), (("notes" : Str), V.ref a2), (("rods_under" : Str), V.ref a3), (("sides" : Str), V.ref a4), (("mates" : Str), V.ref a5), (("engine_end" : Str), V.non), (("rung" : Str), V.ref a7), (("trail" : Str), V.ref a8)] : List (Str × V)) from by kernel_rfl] at h9 ⊢
    exact init_perm h9
end

/-- the notes and rods behind a laying -/
def layY (y : YR) (k : Kd) (note : Int) (rod : V) : YR :=
  { y with next := y.next + 1, kinds := putK y.kinds (Sum.inl y.next) (.str k.str),
           notes := if k = .bell then putK y.notes (Sum.inl y.next) (.int note) else y.notes,
           rods := if k.point then putK y.rods (Sum.inl y.next) (if rod = .non then .int y.sides.length else rod) else y.rods,
           sides := if k.point ∧ rod = .non then y.sides ++ [.int 1] else y.sides, trail := [] }
/-- the sizes that the rules ask for -/
structure Small (y : YR) : Prop where
  k : y.kinds.length ≤ 10000
  n : y.notes.length ≤ 10000
  r : y.rods.length ≤ 10000
  s : y.sides.length ≤ 10000
  m : y.mates.length ≤ 30000
  g : y.rung.length ≤ 300000
  t : y.trail.length ≤ 300000
def sp_check_piece (C : Addr) : Sp := fun vs H Q _ => ∃ (A : YA) (y : YR) (L : Kn) (n : Int) (v : V), vs = [.ref A.p, .int n] ∧ Has H (yL C A y ++ L) ∧ valV y.kinds (Sum.inl n) = some v ∧ Q .non H
def sp_check_rod (C : Addr) : Sp := fun vs H Q _ => ∃ (A : YA) (y : YR) (L : Kn) (r : Int), vs = [.ref A.p, .int r] ∧ Has H (yL C A y ++ L) ∧ 0 ≤ r ∧ r < y.sides.length ∧ Q .non H
def sp_check_note : Sp := fun vs H Q _ => ∃ n : Int, vs = [.int n] ∧ 0 ≤ n ∧ n ≤ 9999 ∧ Q .non H
def sp_new_rod (C : Addr) : Sp := fun vs H Q _ => ∃ (A : YA) (y : YR) (L : Kn) (s : Int), vs = [.ref A.p, .int s] ∧ Has H (yL C A y ++ L) ∧ (s = 1 ∨ s = 2) ∧ y.sides.length ≤ 10000 ∧
  ∀ H' q, Has H' (yL C { A with tr := q } { y with sides := y.sides ++ [.int s], trail := [] } ++ L) → Q (.int y.sides.length) H'
def sp_throw (C : Addr) : Sp := fun vs H Q _ => ∃ (A : YA) (y : YR) (L : Kn) (r s : Int), vs = [.ref A.p, .int r, .int s] ∧ Has H (yL C A y ++ L) ∧ 0 ≤ r ∧ r < y.sides.length ∧ (s = 1 ∨ s = 2) ∧
  ∀ H' q, Has H' (yL C { A with tr := q } { y with sides := y.sides.set r.toNat (.int s), trail := [] } ++ L) → Q .non H'
def sp_rods (C : Addr) : Sp := fun vs H Q _ => ∃ (A : YA) (y : YR) (L : Kn), vs = [.ref A.p] ∧ Has H (yL C A y ++ L) ∧ Small y ∧ ∀ H' l, Has H' ((l, .lst (intsV y.sides.length)) :: (yL C A y ++ L)) → Q (.ref l) H'
def sp_side (C : Addr) : Sp := fun vs H Q _ => ∃ (A : YA) (y : YR) (L : Kn) (r : Int) (v : V), vs = [.ref A.p, .int r] ∧ Has H (yL C A y ++ L) ∧ 0 ≤ r ∧ y.sides[r.toNat]? = some v ∧ Q v H
def sp_rod (C : Addr) : Sp := fun vs H Q _ => ∃ (A : YA) (y : YR) (L : Kn) (n : Int) (u v : V), vs = [.ref A.p, .int n] ∧ Has H (yL C A y ++ L) ∧ valV y.kinds (Sum.inl n) = some u ∧ valV y.rods (Sum.inl n) = some v ∧ Q v H
def sp_lay (C : Addr) : Sp := fun vs H Q _ => ∃ (A : YA) (y : YR) (L : Kn) (k : Kd) (note : Int) (rod : V), vs = [.ref A.p, .str k.str, .int note, rod] ∧ Has H (yL C A y ++ L) ∧ Small y ∧ (k = .bell → 0 ≤ note ∧ note ≤ 9999) ∧
  (k.point = true → rod ≠ .non → ∃ r : Int, rod = .int r ∧ 0 ≤ r ∧ r < y.sides.length) ∧ ∀ H' q, Has H' (yL C { A with tr := q } (layY y k note rod) ++ L) → Q (.int y.next) H'
section
variable {P : Program} {w : World} {K : PySem.W.Frag} {mg : Str → Option Value} {base : Heap} {t : Adr}
theorem scEt : FnScope ["self"] ["self"] (defScope s_Yard_end_trail) := ⟨rfl, rfl, rfl, by decide +kernel, rfl, by decide +kernel, by decide +kernel⟩
theorem ok_Yard_end_trail (T : Txt K mg t) : FnOk P w K mg base CX0 1 t.f_Yard_end_trail t.d_Yard_end_trail ["self"] (sp_end_trail t.c_Yard) := by
  refine T.F_Yard_end_trail.ok scEt (fun vs H Q E h => ?_) (fun cdv A outer s H vs Q E hr h => ?_)
  · obtain ⟨_, _, _, rfl, _⟩ := h
    rfl
  · obtain ⟨A, y, L, rfl, hH, q⟩ := h
    refine ⟨_, (pss_one (ps_fld (pv 0) (pe_lst pa_nil) rfl)), ?_⟩
    refine ⟨by decide, fun a ha => ?_⟩
    have h1 := hH.alloc ha (.lst [])
    refine ⟨_, rfl, A.p, _, A.dx, _, rfl, h1.get 2 rfl, T.cl_Yard, T.n_Yard_trail, (show 9 < 1000 by decide), ?_⟩
    refine q _ a ?_
    rw [fl_put_trail]
    have h2 := (h1.puti 2 rfl (.ins t.c_Yard A.dx (fl { A with tr := a } y.next y.eng)))
    exact (h2.swap2).tail
theorem scCr : FnScope ["self", "rod"] ["self", "rod"] (defScope s_Yard_check_rod) := ⟨rfl, rfl, rfl, by decide +kernel, rfl, by decide +kernel, by decide +kernel⟩
theorem ok_Yard_check_rod (T : Txt K mg t) : FnOk P w K mg base CX0 1 t.f_Yard_check_rod t.d_Yard_check_rod ["self", "rod"] (sp_check_rod t.c_Yard) := by
  refine T.F_Yard_check_rod.ok scCr (fun vs H Q E h => ?_) (fun cdv A outer s H vs Q E hr h => ?_)
  · obtain ⟨_, _, _, _, rfl, _⟩ := h
    rfl
  · obtain ⟨A, y, L, r, rfl, hH, r0, r1, q⟩ := h
    refine ⟨_, (pss_one (ps_if (PW.pt (pw_or (pt_cmpR op_lt (pv 1) pe_int (nomark _)) (pw_or1 (pt_cmpR op_ge (pv 1) (pe_callB call_len_seq (by rfl) T.z_len (by rfl) (pa_cons (pe_fld (pv 0) rfl) pa_nil)) (nomark _)))))
        (pss_one ps_never)
        pss_nil)), ?_⟩
    refine ⟨_, rfl, _, _, rfl, rfl, _, rfl, ifF (decide_eq_false (by omega)) ?_⟩
    refine ⟨_, rfl, _, rfl, A.p, _, A.dx, _, _, rfl, hH.get 1 rfl, T.cl_Yard, T.n_Yard_sides, fl_sides _ _ _, A.s, _, rfl, .inl (SqL.of (hH.get 6 rfl)), _, _, rfl, rfl, _, rfl, ?_⟩
    exact ifF (decide_eq_false (by omega)) q
theorem scCn : FnScope ["note"] ["note"] (defScope s_check_note) := ⟨rfl, rfl, rfl, by decide +kernel, rfl, by decide +kernel, by decide +kernel⟩
theorem ok_check_note (T : Txt K mg t) : FnOk P w K mg base CX0 1 t.f_check_note t.d_check_note ["note"] sp_check_note := by
  refine T.F_check_note.ok scCn (fun vs H Q E h => ?_) (fun cdv A outer s H vs Q E hr h => ?_)
  · obtain ⟨_, rfl, _⟩ := h
    rfl
  · obtain ⟨n, rfl, n0, n1, q⟩ := h
    refine ⟨_, (pss_one (ps_if (PW.pt (pw_or (pt_cmpR op_lt (pv 0) pe_int (nomark _)) (pw_or1 (pt_cmpR op_gt (pv 0) (pe_glob (by rfl) T.g_LAST_NOTE T.r_LAST_NOTE) (nomark _)))))
        (pss_one ps_never)
        pss_nil)), ?_⟩
    refine ⟨_, rfl, _, _, rfl, rfl, _, rfl, ifF (decide_eq_false (by omega)) ?_⟩
    refine ⟨_, rfl, _, _, rfl, rfl, _, rfl, ifF (decide_eq_false (by omega)) q⟩
theorem scCp : FnScope ["self", "piece"] ["self", "piece"] (defScope s_Yard_check_piece) := ⟨rfl, rfl, rfl, by decide +kernel, rfl, by decide +kernel, by decide +kernel⟩
theorem ok_Yard_check_piece (T : Txt K mg t) : FnOk P w K mg base CX0 1 t.f_Yard_check_piece t.d_Yard_check_piece ["self", "piece"] (sp_check_piece t.c_Yard) := by
  refine T.F_Yard_check_piece.ok scCp (fun vs H Q E h => ?_) (fun cdv A outer s H vs Q E hr h => ?_)
  · obtain ⟨_, _, _, _, _, rfl, _⟩ := h
    rfl
  · obtain ⟨A, y, L, n, v, rfl, hH, hv, q⟩ := h
    have hu := hu_of hr
    refine ⟨_, (pss_one (ps_if (pt_cmp (pc_dnotin hu (pv 1) (pe_fld (pv 0) rfl)))
        (pss_one ps_never)
        pss_nil)), ?_⟩
    refine ⟨_, rfl, _, rfl, A.p, _, A.dx, _, _, rfl, hH.get 1 rfl, T.cl_Yard, T.n_Yard_kinds, fl_kinds _ _ _, A.k, _, rfl, DGet.k (k := Sum.inl n) (hH.get 3 rfl), _, rfl, ?_⟩
    exact ifF (by rw [hv]; rfl) q
theorem scNr : FnScope ["self", "side"] ["self", "side"] (defScope s_Yard_new_rod) := ⟨rfl, rfl, rfl, by decide +kernel, rfl, by decide +kernel, by decide +kernel⟩
theorem ok_Yard_new_rod (T : Txt K mg t) : FnOk P w K mg base CX0 2 t.f_Yard_new_rod t.d_Yard_new_rod ["self", "side"] (sp_new_rod t.c_Yard) := by
  refine T.F_Yard_new_rod.ok scNr (fun vs H Q E h => ?_) (fun cdv A outer s H vs Q E hr h => ?_)
  · obtain ⟨_, _, _, _, rfl, _⟩ := h
    rfl
  · obtain ⟨A, y, L, z, rfl, hH, hz, sm, q⟩ := h
    refine ⟨_, (pss_cons (ps_expr (pe_call (ok_check_side T) (hr.mono (by decide)) (by rfl) T.m_check_side T.F_check_side.kp (b_check_side T) .nil pass0 (pa_cons (pv 1) pa_nil)))
      (pss_cons (ps_expr (pe_bm PySem.F.plainAttrs_list PySem.F.slot_list_append PySem.F.type_list_append mt_append (pe_fld (pv 0) rfl) (pa_cons (pv 1) pa_nil)))
      (pss_cons (ps_expr (pe_meth0 (pv 0) T.cl_Yard T.M_Yard_end_trail (ok_Yard_end_trail T) (hr.mono (by decide)) (b_Yard_end_trail T) .nil pass0))
      (pss_one (ps_ret (pe_op op_sub (pe_callB call_len_seq (by rfl) T.z_len (by rfl) (pa_cons (pe_fld (pv 0) rfl) pa_nil)) pe_int)))))), ?_⟩
    refine ⟨_, rfl, z, rfl, hz, ?_⟩
    refine ⟨_, rfl, A.p, _, A.dx, _, _, rfl, hH.get 1 rfl, T.cl_Yard, T.n_Yard_sides, fl_sides _ _ _, .inl ⟨rfl, _, SqL.of (hH.get 6 rfl)⟩, _, rfl, A.s, _, _, rfl, rfl, hH.get 6 rfl, sizeOk (by omega), ?_⟩
    have h1 : Has _ (yL t.c_Yard A { y with sides := y.sides ++ [.int z] } ++ L) := hH.puti 6 rfl (.lst (y.sides ++ [.int z]))
    refine ⟨_, rfl, A.p, A.dx, _, rfl, h1.get 1 rfl, (fl_m _ _ _).2.2.2.2.2.2.1, A, _, L, rfl, h1, fun H' a h2 => ?_⟩
    refine ⟨_, rfl, A.p, _, A.dx, _, _, rfl, h2.get 1 rfl, T.cl_Yard, T.n_Yard_sides, fl_sides _ _ _, A.s, _, rfl, .inl (SqL.of (h2.get 6 rfl)), _, _, rfl, rfl, ?_⟩
    have e : ((y.sides ++ [V.int z]).length : Int) - 1 = y.sides.length := by rw [List.length_append, List.length_singleton]; omega
    show Q (.int (((y.sides ++ [V.int z]).length : Int) - 1)) H'
    rw [e]
    exact q H' a h2
theorem scTh : FnScope ["self", "rod", "side"] ["self", "rod", "side"] (defScope s_Yard_throw) := ⟨rfl, rfl, rfl, by decide +kernel, rfl, by decide +kernel, by decide +kernel⟩
theorem ok_Yard_throw (T : Txt K mg t) : FnOk P w K mg base CX0 2 t.f_Yard_throw t.d_Yard_throw ["self", "rod", "side"] (sp_throw t.c_Yard) := by
  refine T.F_Yard_throw.ok scTh (fun vs H Q E h => ?_) (fun cdv A outer s H vs Q E hr h => ?_)
  · obtain ⟨_, _, _, _, _, rfl, _⟩ := h
    rfl
  · obtain ⟨A, y, L, r, z, rfl, hH, r0, r1, hz, q⟩ := h
    refine ⟨_, (pss_cons (ps_expr (pe_meth (pv 0) T.cl_Yard T.M_Yard_check_rod (ok_Yard_check_rod T) (hr.mono (by decide)) (b_Yard_check_rod T) .nil pass0 (pa_cons (pv 1) pa_nil)))
      (pss_cons (ps_expr (pe_call (ok_check_side T) (hr.mono (by decide)) (by rfl) T.m_check_side T.F_check_side.kp (b_check_side T) .nil pass0 (pa_cons (pv 2) pa_nil)))
      (pss_cons (ps_asg (pv 2) (pg_sub (pe_fld (pv 0) rfl) (pv 1) set_list))
      (pss_one (ps_expr (pe_meth0 (pv 0) T.cl_Yard T.M_Yard_end_trail (ok_Yard_end_trail T) (hr.mono (by decide)) (b_Yard_end_trail T) .nil pass0)))))), ?_⟩
    refine ⟨_, rfl, A.p, A.dx, _, rfl, hH.get 1 rfl, (fl_m _ _ _).2.2.2.2.2.2.2.2, _, rfl, A, y, L, r, rfl, hH, r0, r1, ?_⟩
    refine ⟨_, rfl, z, rfl, hz, ?_⟩
    have hj : ixN y.sides.length r = some r.toNat := by unfold ixN; rw [if_pos r0, if_pos r1]
    refine ⟨_, rfl, _, rfl, A.p, _, A.dx, _, _, rfl, hH.get 1 rfl, T.cl_Yard, T.n_Yard_sides, fl_sides _ _ _, _, rfl, A.s, _, r, r.toNat, rfl, rfl, hH.get 6 rfl, hj, ?_⟩
    have h1 : Has _ (yL t.c_Yard A { y with sides := y.sides.set r.toNat (.int z) } ++ L) := hH.puti 6 rfl (.lst (y.sides.set r.toNat (.int z)))
    exact ⟨_, rfl, A.p, A.dx, _, rfl, h1.get 1 rfl, (fl_m _ _ _).2.2.2.2.2.2.1, A, _, L, rfl, h1, fun H' a h2 => q H' a h2⟩
theorem scSi : FnScope ["self", "rod"] ["self", "rod"] (defScope s_Yard_side) := ⟨rfl, rfl, rfl, by decide +kernel, rfl, by decide +kernel, by decide +kernel⟩
theorem ok_Yard_side (T : Txt K mg t) : FnOk P w K mg base CX0 2 t.f_Yard_side t.d_Yard_side ["self", "rod"] (sp_side t.c_Yard) := by
  refine T.F_Yard_side.ok scSi (fun vs H Q E h => ?_) (fun cdv A outer s H vs Q E hr h => ?_)
  · obtain ⟨_, _, _, _, _, rfl, _⟩ := h
    rfl
  · obtain ⟨A, y, L, r, v, rfl, hH, r0, hv, q⟩ := h
    have r1 : r < y.sides.length := by have := (List.getElem?_eq_some_iff.mp hv).1; omega
    have er : (r.toNat : Int) = r := by omega
    refine ⟨_, (pss_cons (ps_expr (pe_meth (pv 0) T.cl_Yard T.M_Yard_check_rod (ok_Yard_check_rod T) (hr.mono (by decide)) (b_Yard_check_rod T) .nil pass0 (pa_cons (pv 1) pa_nil)))
      (pss_one (ps_ret (pe_ix ix_list (pe_fld (pv 0) rfl) (pv 1) (fun _ _ => rfl))))), ?_⟩
    refine ⟨_, rfl, A.p, A.dx, _, rfl, hH.get 1 rfl, (fl_m _ _ _).2.2.2.2.2.2.2.2, _, rfl, A, y, L, r, rfl, hH, r0, r1, ?_⟩
    exact ⟨_, rfl, A.p, _, A.dx, _, _, rfl, hH.get 1 rfl, T.cl_Yard, T.n_Yard_sides, fl_sides _ _ _, _, rfl, A.s, _, r, v, rfl, rfl, SqL.of (hH.get 6 rfl), (by rw [← er]; exact atI_nat hv), q⟩
theorem scRo : FnScope ["self", "piece"] ["self", "piece"] (defScope s_Yard_rod) := ⟨rfl, rfl, rfl, by decide +kernel, rfl, by decide +kernel, by decide +kernel⟩
theorem ok_Yard_rod (T : Txt K mg t) : FnOk P w K mg base CX0 2 t.f_Yard_rod t.d_Yard_rod ["self", "piece"] (sp_rod t.c_Yard) := by
  refine T.F_Yard_rod.ok scRo (fun vs H Q E h => ?_) (fun cdv A outer s H vs Q E hr h => ?_)
  · obtain ⟨_, _, _, _, _, _, rfl, _⟩ := h
    rfl
  · obtain ⟨A, y, L, n, u, v, rfl, hH, hk, hv, q⟩ := h
    have hu := hu_of hr
    refine ⟨_, (pss_cons (ps_expr (pe_meth (pv 0) T.cl_Yard T.M_Yard_check_piece (ok_Yard_check_piece T) (hr.mono (by decide)) (b_Yard_check_piece T) .nil pass0 (pa_cons (pv 1) pa_nil)))
      (pss_cons (ps_if (pt_cmp (pc_dnotin hu (pv 1) (pe_fld (pv 0) rfl)))
        (pss_one ps_never)
        pss_nil)
      (pss_one (ps_ret (pe_dget hu (pe_fld (pv 0) rfl) (pv 1) (fun _ _ => rfl)))))), ?_⟩
    refine ⟨_, rfl, A.p, A.dx, _, rfl, hH.get 1 rfl, (fl_m _ _ _).2.2.2.2.2.2.2.1, _, rfl, A, y, L, n, u, rfl, hH, hk, ?_⟩
    refine ⟨_, rfl, _, rfl, A.p, _, A.dx, _, _, rfl, hH.get 1 rfl, T.cl_Yard, T.n_Yard_rods_under, fl_rods _ _ _, A.r, _, rfl, DGet.k (k := Sum.inl n) (hH.get 5 rfl), _, rfl, ifF (by rw [hv]; rfl) ?_⟩
    refine ⟨_, rfl, A.p, _, A.dx, _, _, rfl, hH.get 1 rfl, T.cl_Yard, T.n_Yard_rods_under, fl_rods _ _ _, _, rfl, A.r, _, rfl, ?_, q⟩
    rw [← hv]
    exact DGet.k (k := Sum.inl n) (hH.get 5 rfl)
theorem scLy : FnScope ["self", "kind", "note", "rod", "point", "piece"] ["self", "kind", "note", "rod"] (defScope s_Yard_lay) := ⟨rfl, rfl, rfl, by decide +kernel, rfl, by decide +kernel, by decide +kernel⟩
theorem ok_Yard_lay (T : Txt K mg t) : FnOk P w K mg base CX0 3 t.f_Yard_lay t.d_Yard_lay ["self", "kind", "note", "rod"] (sp_lay t.c_Yard) := by
  obtain ⟨ds_nr, hd_Yard_new_rod_1, hb_Yard_new_rod_1⟩ := bD_Yard_new_rod_1 T
  refine T.F_Yard_lay.ok scLy (fun vs H Q E h => ?_) (fun cdv A outer s H vs Q E hr h => ?_)
  · obtain ⟨_, _, _, _, _, _, rfl, _⟩ := h
    rfl
  · obtain ⟨A, y, L, k, note, rod, rfl, hH, sm, hnote, hrod, q⟩ := h
    have hu := hu_of hr
    refine ⟨_, (pss_cons (ps_set (i := 4) scLy.nd rfl (Or.inl rfl) (pe_call (ok_is_point T) (hr.mono (by decide)) (by rfl) T.m_is_point T.F_is_point.kp (b_is_point T) .nil pass0 (pa_cons (pv 1) pa_nil)))
      (pss_cons (ps_if (pt_cmpR op_eq (pv 1) pe_str (nomark _))
        (pss_one (ps_expr (pe_call (ok_check_note T) (hr.mono (by decide)) (by rfl) T.m_check_note T.F_check_note.kp (b_check_note T) .nil pass0 (pa_cons (pv 2) pa_nil))))
        pss_nil)
      (pss_cons (ps_if (PW.pt (pw_and (pt_val (pv 4)) (pw_and1 (pt_cmpR op_notN (pv 3) pe_non (nomark _)))))
        (pss_one (ps_expr (pe_meth (pv 0) T.cl_Yard T.M_Yard_check_rod (ok_Yard_check_rod T) (hr.mono (by decide)) (b_Yard_check_rod T) .nil pass0 (pa_cons (pv 3) pa_nil))))
        pss_nil)
      (pss_cons (ps_set (i := 5) scLy.nd rfl (Or.inl rfl) (pe_fld (pv 0) rfl))
      (pss_cons (ps_fldaug (pv 0) pe_int in_add)
      (pss_cons (ps_dput hu (pe_fld (pv 0) rfl) (pv 5) (pv 1) rfl)
      (pss_cons (ps_if (pt_cmpR op_eq (pv 1) pe_str (nomark _))
        (pss_one (ps_dput hu (pe_fld (pv 0) rfl) (pv 5) (pv 2) rfl))
        pss_nil)
      (pss_cons (ps_if (pt_val (pv 4))
        (pss_one (ps_dput hu (pe_fld (pv 0) rfl) (pv 5) (pe_ifExp (pt_cmpR op_isN (pv 3) pe_non (nomark _)) (pe_meth0 (pv 0) T.cl_Yard T.M_Yard_new_rod (ok_Yard_new_rod T) (hr.mono (by decide)) hb_Yard_new_rod_1 hd_Yard_new_rod_1 pass0) (pv 3)) rfl))
        pss_nil)
      (pss_cons (ps_expr (pe_meth0 (pv 0) T.cl_Yard T.M_Yard_end_trail (ok_Yard_end_trail T) (hr.mono (by decide)) (b_Yard_end_trail T) .nil pass0))
      (pss_one (ps_ret (pv 5)))))))))))), ?_⟩
    refine ⟨_, rfl, k, rfl, ?_⟩
    refine ⟨_, rfl, rfl, _, rfl, ifJ (fun hc g => ?_) ?_⟩
    · rw [k.isBell] at hc
      have hb := hnote (of_decide_eq_true hc)
      exact ⟨_, rfl, note, rfl, hb.1, hb.2, g⟩
    -- if point and rod is not None
    refine ⟨_, rfl, _, rfl, ?_⟩
    refine (fun (g : _) => if2 (fun hp => ⟨_, rfl, rfl, _, rfl, ifJ (fun hc g' => ?a) g⟩) (fun hp => iteF g)) ?b
    case a =>
      have hn : rod ≠ .non := by simpa using hc
      obtain ⟨r, rfl, r0, r1⟩ := hrod hp hn
      exact ⟨_, rfl, A.p, A.dx, _, rfl, hH.get 1 rfl, (fl_m _ _ _).2.2.2.2.2.2.2.2, _, rfl, A, y, L, r, rfl, hH, r0, r1, g'⟩
    -- piece = self.next_piece; self.next_piece += 1
    refine ⟨_, rfl, A.p, _, A.dx, _, _, rfl, hH.get 1 rfl, T.cl_Yard, T.n_Yard_next_piece, fl_next _ _ _, ?_⟩
    refine ⟨_, rfl, A.p, _, A.dx, _, _, rfl, hH.get 1 rfl, T.cl_Yard, T.n_Yard_next_piece, fl_next _ _ _, _, _, rfl, rfl, _, _, hH.get 1 rfl, (show 9 < 1000 by decide), ?_⟩
    rw [fl_put_next]
    have h1 : Has _ (yL t.c_Yard A { y with next := y.next + 1 } ++ L) := hH.puti 1 rfl (.ins t.c_Yard A.dx (fl A (y.next + 1) y.eng))
    generalize upd H A.p _ = H1 at h1 ⊢
    -- self.kinds[piece] = kind
    refine ⟨_, rfl, _, rfl, A.p, _, A.dx, _, _, rfl, h1.get 1 rfl, T.cl_Yard, T.n_Yard_kinds, fl_kinds _ _ _, _, rfl, A.k, _, rfl, DPut.k (k := Sum.inl y.next) (h1.get 3 rfl) (sizeOk (show y.kinds.length ≤ 1000000 by have := sm.k; omega)), ?_⟩
    have h2 : Has _ (yL t.c_Yard A { y with next := y.next + 1, kinds := putK y.kinds (Sum.inl y.next) (.str k.str) } ++ L) := h1.puti 3 rfl (.dK (putK y.kinds (Sum.inl y.next) (.str k.str)))
    generalize upd H1 A.k _ = H2 at h2 ⊢
    refine ⟨_, rfl, rfl, _, rfl, ?_⟩
    rw [k.isBell]
    -- the end of every way
    have fin : ∀ (H3 : Hp) (A3 : YA) (y3 : YR), A3.p = A.p → (∀ q, { A3 with tr := q } = { A with tr := q }) → { y3 with trail := [] } = layY y k note rod → Has H3 (yL t.c_Yard A3 y3 ++ L) →
        tSeq (tDrop (tMeth t.c_Yard "end_trail" (sp_end_trail t.c_Yard) [] E0 (tVar 0) tNil)) (tRet (tVar 5)) { nx := fun _ H' => Q .non H', rt := Q } [some (.ref A.p), some (.str k.str), some (.int note), some rod, some (.bl k.point), some (.int y.next)] H3 := fun H3 A3 y3 e1 e2 e3 h3 => by
      have g1 := h3.get 1 rfl
      rw [e1] at g1
      refine ⟨_, rfl, A.p, A3.dx, _, rfl, g1, (fl_m _ _ _).2.2.2.2.2.2.1, A3, y3, L, (by rw [e1]; rfl), h3, fun H4 a h4 => ⟨_, rfl, ?_⟩⟩
      rw [e2, e3] at h4
      exact q H4 a h4
    refine ifd (fun hb => ?_) (fun hb => ?_)
    · subst hb
      refine ⟨_, rfl, _, rfl, A.p, _, A.dx, _, _, rfl, h2.get 1 rfl, T.cl_Yard, T.n_Yard_notes, fl_notes _ _ _, _, rfl, A.n, _, rfl, DPut.k (k := Sum.inl y.next) (h2.get 4 rfl) (sizeOk (show y.notes.length ≤ 1000000 by have := sm.n; omega)), ?_⟩
      have h3 : Has _ (yL t.c_Yard A { y with next := y.next + 1, kinds := putK y.kinds (Sum.inl y.next) (.str Kd.bell.str), notes := putK y.notes (Sum.inl y.next) (.int note) } ++ L) := h2.puti 4 rfl (.dK (putK y.notes (Sum.inl y.next) (.int note)))
      refine ⟨_, rfl, _, rfl, iteF ?_⟩
      exact fin _ A _ rfl (fun _ => rfl) rfl h3
    · refine ⟨_, rfl, _, rfl, if2 (fun hp => ?_) (fun hp => ?_)⟩
      · refine ⟨_, rfl, rfl, _, rfl, ifd (fun hn => ?_) (fun hn => ?_)⟩
        · subst hn
          refine ⟨_, rfl, A.p, A.dx, _, rfl, h2.get 1 rfl, (fl_m _ _ _).2.1, A, _, L, 1, rfl, h2, .inl rfl, sm.s, fun H3 a h3 => ?_⟩
          refine ⟨_, rfl, A.p, _, A.dx, _, _, rfl, h3.get 1 rfl, T.cl_Yard, T.n_Yard_rods_under, fl_rods _ _ _, _, rfl, A.r, _, rfl, DPut.k (k := Sum.inl y.next) (h3.get 5 rfl) (sizeOk (show y.rods.length ≤ 1000000 by have := sm.r; omega)), ?_⟩
          have h4 : Has _ (yL t.c_Yard { A with tr := a } { y with next := y.next + 1, kinds := putK y.kinds (Sum.inl y.next) (.str k.str), rods := putK y.rods (Sum.inl y.next) (.int y.sides.length), sides := y.sides ++ [.int 1], trail := [] } ++ L) := h3.puti 5 rfl (.dK (putK y.rods (Sum.inl y.next) (.int y.sides.length)))
          exact fin _ { A with tr := a } _ rfl (fun _ => rfl) (by unfold layY; rw [if_neg hb, if_pos hp, if_pos rfl, if_pos ⟨hp, rfl⟩]) h4
        · refine ⟨_, rfl, _, rfl, A.p, _, A.dx, _, _, rfl, h2.get 1 rfl, T.cl_Yard, T.n_Yard_rods_under, fl_rods _ _ _, _, rfl, A.r, _, rfl, DPut.k (k := Sum.inl y.next) (h2.get 5 rfl) (sizeOk (show y.rods.length ≤ 1000000 by have := sm.r; omega)), ?_⟩
          have h3 : Has _ (yL t.c_Yard A { y with next := y.next + 1, kinds := putK y.kinds (Sum.inl y.next) (.str k.str), rods := putK y.rods (Sum.inl y.next) rod } ++ L) := h2.puti 5 rfl (.dK (putK y.rods (Sum.inl y.next) rod))
          exact fin _ A _ rfl (fun _ => rfl) (by unfold layY; rw [if_neg hb, if_pos hp, if_neg hn, if_neg (fun z => hn z.2)]) h3
      · exact fin _ A _ rfl (fun _ => rfl) (by unfold layY; rw [if_neg hb, if_neg (by rw [hp]; exact Bool.false_ne_true), if_neg (fun z => by rw [hp] at z; exact Bool.false_ne_true z.1)]) h2
end

end P


set_option Elab.async false
set_option linter.all false
set_option maxRecDepth 100000
set_option maxHeartbeats 4000000
namespace P
open PySem L2

/-- an end's key -/
abbrev kE (n e : Int) : List Key := [Sum.inl n, Sum.inl e]
theorem fl_m2 (A : YA) (next : Int) (eng : V) : (fl A next eng).lookup ("check_there" : Str) = none ∧ (fl A next eng).lookup ("mate" : Str) = none ∧ (fl A next eng).lookup ("link" : Str) = none ∧ (fl A next eng).lookup ("unlink" : Str) = none :=
  ⟨by kernel_rfl, by kernel_rfl, by kernel_rfl, by kernel_rfl⟩
/-- the end (n, e) is there -/
def There (y : YR) (n e : Int) : Prop := ∃ k : Kd, valV y.kinds (Sum.inl n) = some (.str k.str) ∧ 0 ≤ e ∧ e < k.many
def sp_check_there (C : Addr) : Sp := fun vs H Q _ => ∃ (A : YA) (y : YR) (L : Kn) (b : Addr) (n e : Int) (j : Nat), vs = [.ref A.p, .ref b] ∧ Has H (yL C A y ++ L) ∧ L[j]? = some (b, .tup [.int n, .int e]) ∧ There y n e ∧ Q .non H
def sp_mate (C : Addr) : Sp := fun vs H Q _ => ∃ (A : YA) (y : YR) (L : Kn) (b : Addr) (n e : Int) (j : Nat), vs = [.ref A.p, .ref b] ∧ Has H (yL C A y ++ L) ∧ L[j]? = some (b, .tup [.int n, .int e]) ∧ There y n e ∧ Q ((valV y.mates (kE n e)).getD .non) H
def sp_link (C : Addr) : Sp := fun vs H Q _ => ∃ (A : YA) (y : YR) (L : Kn) (b1 b2 : Addr) (n1 e1 n2 e2 : Int) (j1 j2 : Nat), vs = [.ref A.p, .ref b1, .ref b2] ∧ Has H (yL C A y ++ L) ∧ L[j1]? = some (b1, .tup [.int n1, .int e1]) ∧ L[j2]? = some (b2, .tup [.int n2, .int e2]) ∧
  There y n1 e1 ∧ There y n2 e2 ∧ ¬ kE n1 e1 = kE n2 e2 ∧ valV y.mates (kE n1 e1) = none ∧ valV y.mates (kE n2 e2) = none ∧ y.mates.length ≤ 30000 ∧
  ∀ H' q, Has H' (yL C { A with tr := q } { y with mates := putK (putK y.mates (kE n1 e1) (.ref b2)) (kE n2 e2) (.ref b1), trail := [] } ++ L) → Q .non H'
def sp_unlink (C : Addr) : Sp := fun vs H Q _ => ∃ (A : YA) (y : YR) (L : Kn) (b1 b2 : Addr) (n1 e1 n2 e2 : Int) (j1 j2 : Nat) (v : V), vs = [.ref A.p, .ref b1] ∧ Has H (yL C A y ++ L) ∧ L[j1]? = some (b1, .tup [.int n1, .int e1]) ∧ L[j2]? = some (b2, .tup [.int n2, .int e2]) ∧
  There y n1 e1 ∧ ¬ kE n2 e2 = kE n1 e1 ∧ valV y.mates (kE n1 e1) = some (.ref b2) ∧ valV y.mates (kE n2 e2) = some v ∧
  ∀ H' q, Has H' (yL C { A with tr := q } { y with mates := dropK (dropK y.mates (kE n1 e1)) (kE n2 e2), trail := [] } ++ L) → Q .non H'
theorem valV_drop {κ : Type} [DecidableEq κ] {kvs : List (κ × V)} {k j : κ} (h : ¬ j = k) : valV (dropK kvs k) j = valV kvs j := by
  induction kvs with
  | nil => rfl
  | cons p r ih =>
    by_cases e : p.1 = k
    · rw [dropK_pos e, ih, valV_neg (fun z => h (z.symm.trans e))]
    · rw [dropK_neg e]
      by_cases e2 : p.1 = j
      · rw [valV_pos e2, valV_pos e2]
      · rw [valV_neg e2, valV_neg e2, ih]
theorem valV_drop_self {κ : Type} [DecidableEq κ] {kvs : List (κ × V)} {k : κ} : valV (dropK kvs k) k = none := by
  induction kvs with
  | nil => rfl
  | cons p r ih =>
    by_cases e : p.1 = k
    · rw [dropK_pos e, ih]
    · rw [dropK_neg e, valV_neg e, ih]
section
variable {P : Program} {w : World} {K : PySem.W.Frag} {mg : Str → Option Value} {base : Heap} {t : Adr}
theorem scCt : FnScope ["self", "end", "piece", "place"] ["self", "end"] (defScope s_Yard_check_there) := ⟨rfl, rfl, rfl, by decide +kernel, rfl, by decide +kernel, by decide +kernel⟩
theorem ok_Yard_check_there (T : Txt K mg t) : FnOk P w K mg base CX0 3 t.f_Yard_check_there t.d_Yard_check_there ["self", "end"] (sp_check_there t.c_Yard) := by
  refine T.F_Yard_check_there.ok scCt (fun vs H Q E h => ?_) (fun cdv A outer s H vs Q E hr h => ?_)
  · obtain ⟨_, _, _, _, _, _, _, rfl, _⟩ := h
    rfl
  · obtain ⟨A, y, L, b, n, e, j, rfl, hH, hj, ⟨k, hk, e0, e1⟩, q⟩ := h
    have hu := hu_of hr
    refine ⟨_, (pss_cons (ps_asg (pv 1) (pg_tup rfl (pgs_cons (pg_name (i := 2) scCt.nd rfl (Or.inl rfl)) (pgs_cons (pg_name (i := 3) scCt.nd rfl (Or.inl rfl)) pgs_nil))))
      (pss_cons (ps_expr (pe_meth (pv 0) T.cl_Yard T.M_Yard_check_piece (ok_Yard_check_piece T) (hr.mono (by decide)) (b_Yard_check_piece T) .nil pass0 (pa_cons (pv 2) pa_nil)))
      (pss_one (ps_expr (pe_call (ok_check_end T) (hr.mono (by decide)) (by rfl) T.m_check_end T.F_check_end.kp (b_check_end T) .nil pass0 (pa_cons (pe_dget hu (pe_fld (pv 0) rfl) (pv 2) (fun _ _ => rfl)) (pa_cons (pv 3) pa_nil))))))), ?_⟩
    have gb := hH.get (j + 9) (by simpa [yL] using hj)
    refine ⟨_, rfl, b, _, rfl, SqT.of gb, rfl, _, _, rfl, _, _, rfl, rfl, ?_⟩
    refine ⟨_, rfl, A.p, A.dx, _, rfl, hH.get 1 rfl, (fl_m _ _ _).2.2.2.2.2.2.2.1, _, rfl, A, y, L, n, _, rfl, hH, hk, ?_⟩
    refine ⟨_, rfl, A.p, _, A.dx, _, _, rfl, hH.get 1 rfl, T.cl_Yard, T.n_Yard_kinds, fl_kinds _ _ _, _, rfl, A.k, _, rfl, ?_, _, rfl, k, e, rfl, e0, e1, q⟩
    rw [← hk]
    exact DGet.k (k := Sum.inl n) (hH.get 3 rfl)
theorem scMt : FnScope ["self", "end"] ["self", "end"] (defScope s_Yard_mate) := ⟨rfl, rfl, rfl, by decide +kernel, rfl, by decide +kernel, by decide +kernel⟩
theorem ok_Yard_mate (T : Txt K mg t) : FnOk P w K mg base CX0 4 t.f_Yard_mate t.d_Yard_mate ["self", "end"] (sp_mate t.c_Yard) := by
  refine T.F_Yard_mate.ok scMt (fun vs H Q E h => ?_) (fun cdv A outer s H vs Q E hr h => ?_)
  · obtain ⟨_, _, _, _, _, _, _, rfl, _⟩ := h
    rfl
  · obtain ⟨A, y, L, b, n, e, j, rfl, hH, hj, th, q⟩ := h
    have hu := hu_of hr
    refine ⟨_, (pss_cons (ps_expr (pe_meth (pv 0) T.cl_Yard T.M_Yard_check_there (ok_Yard_check_there T) (hr.mono (by decide)) (b_Yard_check_there T) .nil pass0 (pa_cons (pv 1) pa_nil)))
      (pss_one (ps_ret (pe_dget1 hu (pe_fld (pv 0) rfl) (pv 1) ⟨rfl, rfl, rfl, rfl⟩)))), ?_⟩
    have gb := hH.get (j + 9) (by simpa [yL] using hj)
    refine ⟨_, rfl, A.p, A.dx, _, rfl, hH.get 1 rfl, (fl_m2 _ _ _).1, _, rfl, A, y, L, b, n, e, j, rfl, hH, hj, th, ?_⟩
    exact ⟨_, rfl, A.p, _, A.dx, _, _, rfl, hH.get 1 rfl, T.cl_Yard, T.n_Yard_mates, fl_mates _ _ _, A.m, rfl, .inr ⟨_, .inl (hH.get 7 rfl)⟩, _, rfl, _, DGet.t (k := kE n e) (hH.get 7 rfl) gb, q⟩
theorem scLk : FnScope ["self", "one", "other", "end"] ["self", "one", "other"] (defScope s_Yard_link) := ⟨rfl, rfl, rfl, by decide +kernel, rfl, by decide +kernel, by decide +kernel⟩
theorem ok_Yard_link (T : Txt K mg t) : FnOk P w K mg base CX0 4 t.f_Yard_link t.d_Yard_link ["self", "one", "other"] (sp_link t.c_Yard) := by
  refine T.F_Yard_link.ok scLk (fun vs H Q E h => ?_) (fun cdv A outer s H vs Q E hr h => ?_)
  · obtain ⟨_, _, _, _, _, _, _, _, _, _, _, rfl, _⟩ := h
    rfl
  · obtain ⟨A, y, L, b1, b2, n1, e1, n2, e2, j1, j2, rfl, hH, hj1, hj2, t1, t2, ne, v1, v2, hl, q⟩ := h
    have hu := hu_of hr
    refine ⟨_, (pss_cons (ps_expr (pe_meth (pv 0) T.cl_Yard T.M_Yard_check_there (ok_Yard_check_there T) (hr.mono (by decide)) (b_Yard_check_there T) .nil pass0 (pa_cons (pv 1) pa_nil)))
      (pss_cons (ps_expr (pe_meth (pv 0) T.cl_Yard T.M_Yard_check_there (ok_Yard_check_there T) (hr.mono (by decide)) (b_Yard_check_there T) .nil pass0 (pa_cons (pv 2) pa_nil)))
      (pss_cons (ps_if (pt_cmpR (op_eqT hr.units) (pv 1) (pv 2) (nomark _))
        (pss_one ps_never)
        pss_nil)
      (pss_cons (ps_for PassesOwn.never rfl (pi_tup (pe_tup (pa_cons (pv 1) (pa_cons (pv 2) pa_nil)))) (pg_name (i := 3) scLk.nd rfl (Or.inl rfl))
        (pss_one (ps_if (pt_cmp (pc_din hu (pv 3) (pe_fld (pv 0) rfl)))
            (pss_one ps_never)
            pss_nil)))
      (pss_cons (ps_dput hu (pe_fld (pv 0) rfl) (pv 1) (pv 2) rfl)
      (pss_cons (ps_dput hu (pe_fld (pv 0) rfl) (pv 2) (pv 1) rfl)
      (pss_one (ps_expr (pe_meth0 (pv 0) T.cl_Yard T.M_Yard_end_trail (ok_Yard_end_trail T) (hr.mono (by decide)) (b_Yard_end_trail T) .nil pass0))))))))), ?_⟩
    have g1 := hH.get (j1 + 9) (by simpa [yL] using hj1)
    have g2 := hH.get (j2 + 9) (by simpa [yL] using hj2)
    refine ⟨_, rfl, A.p, A.dx, _, rfl, hH.get 1 rfl, (fl_m2 _ _ _).1, _, rfl, A, y, L, b1, n1, e1, j1, rfl, hH, hj1, t1, ?_⟩
    refine ⟨_, rfl, A.p, A.dx, _, rfl, hH.get 1 rfl, (fl_m2 _ _ _).1, _, rfl, A, y, L, b2, n2, e2, j2, rfl, hH, hj2, t2, ?_⟩
    have ne' : ¬ [n1, e1] = [n2, e2] := fun z => ne (by cases z; rfl)
    refine ⟨_, rfl, _, rfl, b1, b2, [n1, e1], [n2, e2], rfl, rfl, g1, g2, _, rfl, ifF (decide_eq_false ne') ?_⟩
    refine ⟨_, rfl, _, rfl, (show 2 ≤ sizeLine by decide), fun p hp => ?_⟩
    have h1 := (hH.alloc hp (.tup [.ref b1, .ref b2]))
    generalize upd H p _ = H1 at h1 ⊢
    refine ⟨p, rfl, ⟨_, SqT.of (h1.get 0 rfl)⟩, for_tup (xs := [.ref b1, .ref b2]) (fun i σ H' => H' = H1 ∧ ∃ o, σ = [some (.ref A.p), some (.ref b1), some (.ref b2), o]) ⟨rfl, _, rfl⟩ (fun i σ H' _ ⟨e, _⟩ => by rw [e]; exact SqT.of (h1.get 0 rfl)) ?_ ?_⟩
    · rintro i x σ H' hx ⟨rfl, o, rfl⟩
      have k1 := h1.get (j1 + 10) (by simpa [yL] using hj1)
      have k2 := h1.get (j2 + 10) (by simpa [yL] using hj2)
      match i, hx with
      | 0, hx =>
        cases hx
        refine ⟨_, rfl, _, rfl, A.p, _, A.dx, _, _, rfl, h1.get 2 rfl, T.cl_Yard, T.n_Yard_mates, fl_mates _ _ _, A.m, _, rfl, DGet.t (k := kE n1 e1) (h1.get 8 rfl) k1, _, rfl, ifF (by rw [v1]; rfl) ⟨rfl, _, rfl⟩⟩
      | 1, hx =>
        cases hx
        refine ⟨_, rfl, _, rfl, A.p, _, A.dx, _, _, rfl, h1.get 2 rfl, T.cl_Yard, T.n_Yard_mates, fl_mates _ _ _, A.m, _, rfl, DGet.t (k := kE n2 e2) (h1.get 8 rfl) k2, _, rfl, ifF (by rw [v2]; rfl) ⟨rfl, _, rfl⟩⟩
    · rintro σ H' ⟨rfl, o, rfl⟩
      have h2 := h1.tail
      have k1 := h2.get (j1 + 9) (by simpa [yL] using hj1)
      refine ⟨_, rfl, _, rfl, A.p, _, A.dx, _, _, rfl, h2.get 1 rfl, T.cl_Yard, T.n_Yard_mates, fl_mates _ _ _, _, rfl, A.m, _, rfl, DPut.t (k := kE n1 e1) (h2.get 7 rfl) k1 (sizeOk (by omega)), ?_⟩
      have h3 : Has _ (yL t.c_Yard A { y with mates := putK y.mates (kE n1 e1) (.ref b2) } ++ L) := h2.puti 7 rfl (.dT (putK y.mates (kE n1 e1) (.ref b2)))
      generalize upd H' A.m _ = H3 at h3 ⊢
      have k2 := h3.get (j2 + 9) (by simpa [yL] using hj2)
      refine ⟨_, rfl, _, rfl, A.p, _, A.dx, _, _, rfl, h3.get 1 rfl, T.cl_Yard, T.n_Yard_mates, fl_mates _ _ _, _, rfl, A.m, _, rfl, DPut.t (k := kE n2 e2) (h3.get 7 rfl) k2 (sizeOk (Nat.le_trans (length_putK _ _ _) (by omega))), ?_⟩
      have h4 : Has _ (yL t.c_Yard A { y with mates := putK (putK y.mates (kE n1 e1) (.ref b2)) (kE n2 e2) (.ref b1) } ++ L) := h3.puti 7 rfl (.dT (putK (putK y.mates (kE n1 e1) (.ref b2)) (kE n2 e2) (.ref b1)))
      exact ⟨_, rfl, A.p, A.dx, _, rfl, h4.get 1 rfl, (fl_m _ _ _).2.2.2.2.2.2.1, A, _, L, rfl, h4, fun H' a h2 => q H' a h2⟩
end

theorem fl_m4 (A : YA) (next : Int) (eng : V) : (fl A next eng).lookup ("put" : Str) = none ∧ (fl A next eng).lookup ("off" : Str) = none ∧ (fl A next eng).lookup ("carry" : Str) = none ∧ (fl A next eng).lookup ("pieces" : Str) = none ∧ (fl A next eng).lookup ("kind" : Str) = none ∧
    (fl A next eng).lookup ("note" : Str) = none ∧ (fl A next eng).lookup ("engine" : Str) = none ∧ (fl A next eng).lookup ("bells" : Str) = none ∧ (fl A next eng).lookup ("steps" : Str) = none :=
  ⟨by kernel_rfl, by kernel_rfl, by kernel_rfl, by kernel_rfl, by kernel_rfl, by kernel_rfl, by kernel_rfl, by kernel_rfl, by kernel_rfl⟩
def sp_put (C : Addr) : Sp := fun vs H Q _ => ∃ (A : YA) (y : YR) (L : Kn) (b : Addr) (n e : Int) (j : Nat), vs = [.ref A.p, .ref b] ∧ Has H (yL C A y ++ L) ∧ L[j]? = some (b, .tup [.int n, .int e]) ∧ There y n e ∧
  ∀ H' q, Has H' (yL C { A with tr := q } { y with eng := .ref b, trail := [] } ++ L) → Q .non H'
def sp_off (C : Addr) : Sp := fun vs H Q _ => ∃ (A : YA) (y : YR) (L : Kn), vs = [.ref A.p] ∧ Has H (yL C A y ++ L) ∧ ∀ H' q, Has H' (yL C { A with tr := q } { y with eng := .non, trail := [] } ++ L) → Q .non H'
def sp_engine (C : Addr) : Sp := fun vs H Q _ => ∃ (A : YA) (y : YR) (L : Kn), vs = [.ref A.p] ∧ Has H (yL C A y ++ L) ∧ Q y.eng H
def sp_steps (C : Addr) : Sp := fun vs H Q _ => ∃ (A : YA) (y : YR) (L : Kn), vs = [.ref A.p] ∧ Has H (yL C A y ++ L) ∧ Q (.int y.trail.length) H
def sp_bells (C : Addr) : Sp := fun vs H Q _ => ∃ (A : YA) (y : YR) (L : Kn), vs = [.ref A.p] ∧ Has H (yL C A y ++ L) ∧ ∀ H' l, Has H' ((l, .lst y.rung) :: (yL C A y ++ L)) → Q (.ref l) H'
def sp_pieces (C : Addr) : Sp := fun vs H Q _ => ∃ (A : YA) (y : YR) (L : Kn), vs = [.ref A.p] ∧ Has H (yL C A y ++ L) ∧ ∀ H' l, Has H' ((l, .lst (y.kinds.map fun kv => kV kv.1)) :: (yL C A y ++ L)) → Q (.ref l) H'
def sp_ykind (C : Addr) : Sp := fun vs H Q _ => ∃ (A : YA) (y : YR) (L : Kn) (n : Int) (v : V), vs = [.ref A.p, .int n] ∧ Has H (yL C A y ++ L) ∧ valV y.kinds (Sum.inl n) = some v ∧ Q v H
def sp_ynote (C : Addr) : Sp := fun vs H Q _ => ∃ (A : YA) (y : YR) (L : Kn) (n : Int) (u v : V), vs = [.ref A.p, .int n] ∧ Has H (yL C A y ++ L) ∧ valV y.kinds (Sum.inl n) = some u ∧ valV y.notes (Sum.inl n) = some v ∧ Q v H
section
variable {P : Program} {w : World} {K : PySem.W.Frag} {mg : Str → Option Value} {base : Heap} {t : Adr}
theorem scPu : FnScope ["self", "end"] ["self", "end"] (defScope s_Yard_put) := ⟨rfl, rfl, rfl, by decide +kernel, rfl, by decide +kernel, by decide +kernel⟩
theorem ok_Yard_put (T : Txt K mg t) : FnOk P w K mg base CX0 4 t.f_Yard_put t.d_Yard_put ["self", "end"] (sp_put t.c_Yard) := by
  refine T.F_Yard_put.ok scPu (fun vs H Q E h => ?_) (fun cdv A outer s H vs Q E hr h => ?_)
  · obtain ⟨_, _, _, _, _, _, _, rfl, _⟩ := h
    rfl
  · obtain ⟨A, y, L, b, n, e, j, rfl, hH, hj, th, q⟩ := h
    refine ⟨_, (pss_cons (ps_expr (pe_meth (pv 0) T.cl_Yard T.M_Yard_check_there (ok_Yard_check_there T) (hr.mono (by decide)) (b_Yard_check_there T) .nil pass0 (pa_cons (pv 1) pa_nil)))
      (pss_cons (ps_fld (pv 0) (pv 1) rfl)
      (pss_one (ps_expr (pe_meth0 (pv 0) T.cl_Yard T.M_Yard_end_trail (ok_Yard_end_trail T) (hr.mono (by decide)) (b_Yard_end_trail T) .nil pass0))))), ?_⟩
    refine ⟨_, rfl, A.p, A.dx, _, rfl, hH.get 1 rfl, (fl_m2 _ _ _).1, _, rfl, A, y, L, b, n, e, j, rfl, hH, hj, th, ?_⟩
    refine ⟨_, rfl, _, rfl, A.p, _, A.dx, _, rfl, hH.get 1 rfl, T.cl_Yard, T.n_Yard_engine_end, (show 9 < 1000 by decide), ?_⟩
    rw [fl_put_eng]
    have h1 : Has _ (yL t.c_Yard A { y with eng := .ref b } ++ L) := hH.puti 1 rfl (.ins t.c_Yard A.dx (fl A y.next (.ref b)))
    exact ⟨_, rfl, A.p, A.dx, _, rfl, h1.get 1 rfl, (fl_m _ _ _).2.2.2.2.2.2.1, A, _, L, rfl, h1, fun H' a h2 => q H' a h2⟩
theorem scEg : FnScope ["self"] ["self"] (defScope s_Yard_engine) := ⟨rfl, rfl, rfl, by decide +kernel, rfl, by decide +kernel, by decide +kernel⟩
theorem ok_Yard_engine (T : Txt K mg t) : FnOk P w K mg base CX0 1 t.f_Yard_engine t.d_Yard_engine ["self"] (sp_engine t.c_Yard) := by
  refine T.F_Yard_engine.ok scEg (fun vs H Q E h => ?_) (fun cdv A outer s H vs Q E hr h => ?_)
  · obtain ⟨_, _, _, rfl, _⟩ := h
    rfl
  · obtain ⟨A, y, L, rfl, hH, q⟩ := h
    refine ⟨_, (pss_one (ps_ret (pe_fld (pv 0) rfl))), ?_⟩
    exact ⟨_, rfl, A.p, _, A.dx, _, _, rfl, hH.get 1 rfl, T.cl_Yard, T.n_Yard_engine_end, fl_eng _ _ _, q⟩
theorem scYk : FnScope ["self", "piece"] ["self", "piece"] (defScope s_Yard_kind) := ⟨rfl, rfl, rfl, by decide +kernel, rfl, by decide +kernel, by decide +kernel⟩
theorem ok_Yard_kind (T : Txt K mg t) : FnOk P w K mg base CX0 2 t.f_Yard_kind t.d_Yard_kind ["self", "piece"] (sp_ykind t.c_Yard) := by
  refine T.F_Yard_kind.ok scYk (fun vs H Q E h => ?_) (fun cdv A outer s H vs Q E hr h => ?_)
  · obtain ⟨_, _, _, _, _, rfl, _⟩ := h
    rfl
  · obtain ⟨A, y, L, n, v, rfl, hH, hv, q⟩ := h
    have hu := hu_of hr
    refine ⟨_, (pss_cons (ps_expr (pe_meth (pv 0) T.cl_Yard T.M_Yard_check_piece (ok_Yard_check_piece T) (hr.mono (by decide)) (b_Yard_check_piece T) .nil pass0 (pa_cons (pv 1) pa_nil)))
      (pss_one (ps_ret (pe_dget hu (pe_fld (pv 0) rfl) (pv 1) (fun _ _ => rfl))))), ?_⟩
    refine ⟨_, rfl, A.p, A.dx, _, rfl, hH.get 1 rfl, (fl_m _ _ _).2.2.2.2.2.2.2.1, _, rfl, A, y, L, n, v, rfl, hH, hv, ?_⟩
    refine ⟨_, rfl, A.p, _, A.dx, _, _, rfl, hH.get 1 rfl, T.cl_Yard, T.n_Yard_kinds, fl_kinds _ _ _, _, rfl, A.k, _, rfl, ?_, q⟩
    rw [← hv]
    exact DGet.k (k := Sum.inl n) (hH.get 3 rfl)
end

/-- an end: its tuple's address, the piece, the place -/
abbrev En := Addr × Int × Int
/-- what stays while an engine runs: kinds, notes, rods, mates -/
structure Wd where
  kf : Int → Option Kd
  nf : Int → Int
  rf : Int → Int
  mf : Int → Int → Option En
/-- what a step changes -/
structure Sd where
  ss : List Int
  at_ : Option En
  rg : List Int
def Wd.sv (w : Wd) (s : Sd) (n : Int) : Int := s.ss.getD (w.rf n).toNat 0
def Wd.ok (w : Wd) (z : En) : Prop := ∃ k, w.kf z.2.1 = some k ∧ 0 ≤ z.2.2 ∧ z.2.2 < k.many
def stepS (w : Wd) (s : Sd) (z : En) (k : Kd) (z' : En) : Sd :=
  ⟨if k.point then s.ss.set (w.rf z.2.1).toNat (k.side z.2.2 (w.sv s z.2.1)) else s.ss, some z', if k = .bell then s.rg ++ [w.nf z.2.1] else s.rg⟩
/-- the next step's way out: None at a stop -/
def Wd.nx (w : Wd) (s : Sd) : Option Sd :=
  match s.at_ with
  | none => none
  | some z => match w.kf z.2.1 with
    | none => none
    | some k => match k.out z.2.2 (w.sv s z.2.1) with
      | .int o => (w.mf z.2.1 o).map (stepS w s z k)
      | _ => none
def Wd.why (w : Wd) (s : Sd) : V :=
  match s.at_ with
  | none => .str "none"
  | some z => match w.kf z.2.1 with
    | none => .non
    | some k => match k.out z.2.2 (w.sv s z.2.1) with
      | .int o => (match w.mf z.2.1 o with | none => .str "loose" | some _ => .non)
      | _ => .str "stop"
def Wd.go (w : Wd) : Nat → Sd → Sd
  | 0, s => s
  | n + 1, s => match w.nx s with | none => s | some s' => w.go n s'
def Wd.hist (w : Wd) : Nat → Sd → List Sd
  | 0, _ => []
  | n + 1, s => match w.nx s with | none => [] | some s' => s :: w.hist n s'
/-- what the trail keeps of a step from here -/
def Wd.tv (w : Wd) (s : Sd) (z : En) : V := match w.kf z.2.1 with | some k => if k.point then .int (w.sv s z.2.1) else .non | none => .non
def Wd.tr (w : Wd) (s : Sd) : HO := match s.at_ with | some z => .tup [.ref z.1, w.tv s z] | none => .tup []
def trK (w : Wd) (ts : List (Addr × Sd)) : Kn := ts.map fun x => (x.1, w.tr x.2)
def trV (ts : List (Addr × Sd)) : List V := ts.map fun x => V.ref x.1
def enV : Option En → V
  | none => .non
  | some z => .ref z.1
structure Rep (w : Wd) (s : Sd) (y : YR) : Prop where
  kd : ∀ n k, w.kf n = some k → valV y.kinds (Sum.inl n) = some (.str k.str)
  no : ∀ n k, w.kf n = some k → valV y.notes (Sum.inl n) = if k = .bell then some (.int (w.nf n)) else none
  ro : ∀ n k, w.kf n = some k → valV y.rods (Sum.inl n) = if k.point = true then some (.int (w.rf n)) else none
  rr : ∀ n k, w.kf n = some k → k.point = true → 0 ≤ w.rf n ∧ w.rf n < s.ss.length
  sd : y.sides = s.ss.map V.int
  s12 : ∀ x ∈ s.ss, x = 1 ∨ x = 2
  mt : ∀ n e, valV y.mates (kE n e) = (w.mf n e).map fun z => V.ref z.1
  mo : ∀ n e z, w.mf n e = some z → w.ok z
  en : y.eng = enV s.at_
  eo : ∀ z, s.at_ = some z → w.ok z
  rg : y.rung = s.rg.map V.int
/-- the tuples of the ends that the engine may come to are known -/
structure Pool (w : Wd) (s : Sd) (L : Kn) : Prop where
  m : ∀ n e z, w.mf n e = some z → ∃ j : Nat, L[j]? = some (z.1, HO.tup [.int z.2.1, .int z.2.2])
  e : ∀ z, s.at_ = some z → ∃ j : Nat, L[j]? = some (z.1, HO.tup [.int z.2.1, .int z.2.2])
theorem Rep.s1 {w : Wd} {s : Sd} {y : YR} (R : Rep w s y) {n : Int} {k : Kd} (hk : w.kf n = some k) (hp : k.point = true) : w.sv s n = 1 ∨ w.sv s n = 2 := by
  obtain ⟨h0, h1⟩ := R.rr n k hk hp
  refine R.s12 _ ?_
  unfold Wd.sv
  rw [List.getD_eq_getElem?_getD, List.getElem?_eq_getElem (by omega)]
  exact List.getElem_mem _
theorem Rep.sideAt {w : Wd} {s : Sd} {y : YR} (R : Rep w s y) {n : Int} {k : Kd} (hk : w.kf n = some k) (hp : k.point = true) : y.sides[(w.rf n).toNat]? = some (.int (w.sv s n)) := by
  obtain ⟨h0, h1⟩ := R.rr n k hk hp
  rw [R.sd, List.getElem?_map, List.getElem?_eq_getElem (by omega)]
  unfold Wd.sv
  rw [List.getD_eq_getElem?_getD, List.getElem?_eq_getElem (by omega)]
  rfl
theorem Kd.out_stop {k : Kd} {e s : Int} (h : k.out e s = .non) : k = .stop := by
  unfold Kd.out at h
  by_cases c : k = .stop
  · exact c
  · rw [if_neg c] at h
    split at h
    · split at h <;> cases h
    · cases h
theorem Kd.out_in {k : Kd} {e s o : Int} (e0 : 0 ≤ e) (e1 : e < k.many) (hs : k.point = true → s = 1 ∨ s = 2) (h : k.out e s = .int o) : 0 ≤ o ∧ o < k.many := by
  unfold Kd.out at h
  by_cases c : k = .stop
  · rw [if_pos c] at h; cases h
  rw [if_neg c] at h
  by_cases p : k.point = true
  · rw [if_pos p] at h
    have m := Kd.many_point p
    rcases hs p with r | r <;> split at h <;> (injection h with h; omega)
  · rw [if_neg p] at h
    have m : k.many = 2 := by cases k <;> first | rfl | (exfalso; exact c rfl) | (exfalso; exact p rfl)
    injection h with h
    omega
theorem Kd.out_np {k : Kd} (h : ¬ k.point = true) (e s s' : Int) : k.out e s = k.out e s' := by unfold Kd.out; rw [if_neg h, if_neg h]
theorem stepS_at (w : Wd) (s : Sd) (z : En) (k : Kd) (z' : En) : (stepS w s z k z').at_ = some z' := rfl
/-- a step, seen from its ends -/
theorem nx_some {w : Wd} {s s' : Sd} (h : w.nx s = some s') : ∃ (z : En) (k : Kd) (o : Int) (z' : En), s.at_ = some z ∧ w.kf z.2.1 = some k ∧ k.out z.2.2 (w.sv s z.2.1) = .int o ∧ w.mf z.2.1 o = some z' ∧ s' = stepS w s z k z' := by
  unfold Wd.nx at h
  split at h
  · cases h
  · rename_i z hz
    split at h
    · cases h
    · rename_i k hk
      split at h
      · rename_i o ho
        obtain ⟨z', hm, e⟩ := Option.map_eq_some_iff.mp h
        exact ⟨z, k, o, z', hz, hk, ho, hm, e.symm⟩
      · cases h
theorem nx_of {w : Wd} {s : Sd} {z : En} {k : Kd} {o : Int} {z' : En} (hz : s.at_ = some z) (hk : w.kf z.2.1 = some k) (ho : k.out z.2.2 (w.sv s z.2.1) = .int o) (hm : w.mf z.2.1 o = some z') : w.nx s = some (stepS w s z k z') := by
  unfold Wd.nx
  simp only [hz, hk, ho, hm, Option.map_some]
theorem stepS_keep {w : Wd} {s : Sd} {y y' : YR} {z : En} {k : Kd} {z' : En} {o : Int} (R : Rep w s y) (hz : s.at_ = some z) (hk : w.kf z.2.1 = some k) (hm : w.mf z.2.1 o = some z')
    (e1 : y'.kinds = y.kinds) (e2 : y'.notes = y.notes) (e3 : y'.rods = y.rods) (e4 : y'.mates = y.mates) (e5 : y'.sides = (stepS w s z k z').ss.map V.int) (e6 : y'.eng = .ref z'.1) (e7 : y'.rung = (stepS w s z k z').rg.map V.int) :
    Rep w (stepS w s z k z') y' := by
  have hl : (stepS w s z k z').ss.length = s.ss.length := by
    unfold stepS; dsimp only; split
    · exact List.length_set
    · rfl
  refine ⟨fun n k h => by rw [e1]; exact R.kd n k h, fun n k h => by rw [e2]; exact R.no n k h, fun n k h => by rw [e3]; exact R.ro n k h, fun n k h1 h2 => by rw [hl]; exact R.rr n k h1 h2, e5, fun x hx => ?_, fun n e => by rw [e4]; exact R.mt n e, R.mo, e6, fun u hu => ?_, e7⟩
  · unfold stepS at hx
    dsimp only at hx
    split at hx
    · rename_i hp
      rcases List.mem_or_eq_of_mem_set hx with hx | hx
      · exact R.s12 x hx
      · obtain ⟨k', h1, h2, h3⟩ := R.eo z hz
        rw [hk] at h1
        cases h1
        rw [hx]
        exact Kd.side12 h2 h3 (R.s1 hk hp)
    · exact R.s12 x hx
  · rw [stepS_at] at hu
    cases hu
    exact R.mo _ _ _ hm
theorem Pool.step {w : Wd} {s s' : Sd} {L : Kn} (p : Pool w s L) (h : w.nx s = some s') : Pool w s' L := by
  obtain ⟨z, k, o, z', _, _, _, hm, rfl⟩ := nx_some h
  refine ⟨p.m, fun u hu => ?_⟩
  rw [stepS_at] at hu
  cases hu
  exact p.m _ _ _ hm
/-- what next_step tells -/
inductive Nxt (w : Wd) (s : Sd) : List V → Prop
  | held (h : w.nx s = none) (x : Str) (e : w.why s = .str x) : Nxt w s [.str x, .non, .non]
  | goes (z : En) (k : Kd) (o : Int) (z' : En) (hz : s.at_ = some z) (hk : w.kf z.2.1 = some k) (ho : k.out z.2.2 (w.sv s z.2.1) = .int o) (hm : w.mf z.2.1 o = some z') :
      Nxt w s [.non, .ref z'.1, if k.point then .int (k.side z.2.2 (w.sv s z.2.1)) else .non]

end P


set_option Elab.async false
set_option linter.all false
set_option maxRecDepth 100000
set_option maxHeartbeats 4000000
namespace P
open PySem L2

/-- carry: the engine at z passes its piece, of the kind k, and then stands at z' -/
def sp_carry (C : Addr) : Sp := fun vs H Q _ => ∃ (A : YA) (y : YR) (L : Kn) (w : Wd) (s : Sd) (z : En) (k : Kd) (z' : En), vs = [.ref A.p, .ref z'.1, if k.point then .int (k.side z.2.2 (w.sv s z.2.1)) else .non] ∧ Has H (yL C A y ++ L) ∧ Rep w s y ∧ s.at_ = some z ∧ w.kf z.2.1 = some k ∧
  (∃ j : Nat, L[j]? = some (z.1, HO.tup [.int z.2.1, .int z.2.2])) ∧ y.trail.length ≤ 900000 ∧ y.rung.length ≤ 900000 ∧
  ∀ H' a, Has H' (yL C A { y with sides := (stepS w s z k z').ss.map V.int, eng := .ref z'.1, rung := (stepS w s z k z').rg.map V.int, trail := y.trail ++ [.ref a] } ++ ((a, w.tr s) :: L)) → Q .non H'
def sp_next (C : Addr) : Sp := fun vs H Q _ => ∃ (A : YA) (y : YR) (L : Kn) (w : Wd) (s : Sd), vs = [.ref A.p] ∧ Has H (yL C A y ++ L) ∧ Rep w s y ∧ Pool w s L ∧
  ∀ H' p xs, Nxt w s xs → Has H' ((p, .tup xs) :: (yL C A y ++ L)) → Q (.ref p) H'
def sp_held (C : Addr) : Sp := fun vs H Q _ => ∃ (A : YA) (y : YR) (L : Kn) (w : Wd) (s : Sd), vs = [.ref A.p] ∧ Has H (yL C A y ++ L) ∧ Rep w s y ∧ Pool w s L ∧ ∀ H', Has H' (yL C A y ++ L) → Q (w.why s) H'
def sp_run (C : Addr) : Sp := fun vs H Q _ => ∃ (A : YA) (y : YR) (L : Kn) (w : Wd) (s : Sd) (ts : List (Addr × Sd)) (m : Int), vs = [.ref A.p, .int m] ∧ Has H (yL C A y ++ (trK w ts ++ L)) ∧ Rep w s y ∧ Pool w s L ∧ y.trail = trV ts ∧ ts.length + m ≤ 900000 ∧ y.rung.length + m ≤ 900000 ∧ ts.length ≤ 900000 ∧ y.rung.length ≤ 900000 ∧
  ∀ H' y' ts', Has H' (yL C A y' ++ (trK w (ts ++ ts') ++ L)) → Rep w (w.go m.toNat s) y' → y'.trail = trV (ts ++ ts') → ts'.map (·.2) = w.hist m.toNat s → y'.next = y.next → y'.kinds = y.kinds → y'.notes = y.notes → y'.rods = y.rods → y'.mates = y.mates → Pool w (w.go m.toNat s) L → Q (.int ts'.length) H'
theorem why_none {w : Wd} {s : Sd} (h : s.at_ = none) : w.nx s = none ∧ w.why s = .str "none" := by
  unfold Wd.nx Wd.why; simp only [h]; exact ⟨trivial, trivial⟩
theorem why_stop {w : Wd} {s : Sd} {z : En} {k : Kd} (hz : s.at_ = some z) (hk : w.kf z.2.1 = some k) (ho : k.out z.2.2 (w.sv s z.2.1) = .non) : w.nx s = none ∧ w.why s = .str "stop" := by
  unfold Wd.nx Wd.why; simp only [hz, hk, ho]; exact ⟨trivial, trivial⟩
theorem why_loose {w : Wd} {s : Sd} {z : En} {k : Kd} {o : Int} (hz : s.at_ = some z) (hk : w.kf z.2.1 = some k) (ho : k.out z.2.2 (w.sv s z.2.1) = .int o) (hm : w.mf z.2.1 o = none) : w.nx s = none ∧ w.why s = .str "loose" := by
  unfold Wd.nx Wd.why; simp only [hz, hk, ho, hm, Option.map_none]; exact ⟨trivial, trivial⟩
theorem why_goes {w : Wd} {s : Sd} {z : En} {k : Kd} {o : Int} {z' : En} (hz : s.at_ = some z) (hk : w.kf z.2.1 = some k) (ho : k.out z.2.2 (w.sv s z.2.1) = .int o) (hm : w.mf z.2.1 o = some z') : w.why s = .non := by
  unfold Wd.why; simp only [hz, hk, ho, hm]
theorem Nxt.why {w : Wd} {s : Sd} {xs : List V} (h : Nxt w s xs) : xs.length = 3 ∧ xs[0]? = some (w.why s) := by
  cases h with
  | held h x e => rw [e]; exact ⟨rfl, rfl⟩
  | goes z k o z' hz hk ho hm => rw [why_goes hz hk ho hm]; exact ⟨rfl, rfl⟩
theorem go_succ (w : Wd) {s s' : Sd} (h : w.nx s = some s') (n : Nat) : w.go (n + 1) s = w.go n s' := by show (match w.nx s with | none => s | some s' => w.go n s') = _; rw [h]
theorem hist_succ (w : Wd) {s s' : Sd} (h : w.nx s = some s') (n : Nat) : w.hist (n + 1) s = s :: w.hist n s' := by show (match w.nx s with | none => [] | some s' => s :: w.hist n s') = _; rw [h]
theorem go_held (w : Wd) {s : Sd} (h : w.nx s = none) : ∀ n, w.go n s = s
  | 0 => rfl
  | n + 1 => by show (match w.nx s with | none => s | some s' => w.go n s') = _; rw [h]
theorem hist_held (w : Wd) {s : Sd} (h : w.nx s = none) : ∀ n, w.hist n s = []
  | 0 => rfl
  | n + 1 => by show (match w.nx s with | none => [] | some s' => s :: w.hist n s') = _; rw [h]
theorem trK_snoc (w : Wd) (ts : List (Addr × Sd)) (a : Addr) (s : Sd) (L : Kn) : trK w (ts ++ [(a, s)]) ++ L = trK w ts ++ ((a, w.tr s) :: L) := by
  unfold trK; rw [List.map_append, List.append_assoc]; rfl
theorem stepS_rg_le {w : Wd} {s : Sd} {z : En} {k : Kd} {z' : En} : (stepS w s z k z').rg.length ≤ s.rg.length + 1 := by
  unfold stepS; dsimp only; split
  · simp
  · omega
theorem go_len (w : Wd) : ∀ (n : Nat) (s : Sd), (w.go n s).ss.length = s.ss.length
  | 0, s => rfl
  | n + 1, s => by
    cases h : w.nx s with
    | none => rw [go_held w h]
    | some s' =>
      rw [go_succ w h, go_len w n s']
      obtain ⟨z, k, o, z', _, _, _, _, rfl⟩ := nx_some h
      unfold stepS; dsimp only; split
      · exact List.length_set
      · rfl
theorem Pool.app {w : Wd} {s : Sd} {L : Kn} (p : Pool w s L) (M : Kn) : Pool w s (M ++ L) := by
  have sh : ∀ {x : Addr × HO}, (∃ j : Nat, L[j]? = some x) → ∃ j : Nat, (M ++ L)[j]? = some x := fun {x} ⟨j, h⟩ => ⟨M.length + j, by rw [List.getElem?_append_right (by omega), show M.length + j - M.length = j by omega]; exact h⟩
  exact ⟨fun n e z h => sh (p.m n e z h), fun z h => sh (p.e z h)⟩
/-- behind i steps of a run -/
def runInv (C : Addr) (A : YA) (y : YR) (L : Kn) (W : Wd) (s : Sd) (ts : List (Addr × Sd)) (m : Int) (r : Nat) (σ : St) (H : Hp) : Prop :=
  ∃ (i : Nat) (y1 : YR) (ts1 : List (Addr × Sd)) (s1 : Sd) (o1 o2 o3 : Option V), r = m.toNat - i ∧ i ≤ m.toNat ∧ σ = [some (.ref A.p), some (.int m), some (.int i), o1, o2, o3] ∧ Has H (yL C A y1 ++ (trK W (ts ++ ts1) ++ L)) ∧ Rep W s1 y1 ∧ Pool W s1 L ∧ y1.trail = trV (ts ++ ts1) ∧ ts1.length = i ∧
    W.go m.toNat s = W.go (m.toNat - i) s1 ∧ W.hist m.toNat s = ts1.map (·.2) ++ W.hist (m.toNat - i) s1 ∧ y1.rung.length ≤ y.rung.length + i ∧ y1.next = y.next ∧ y1.kinds = y.kinds ∧ y1.notes = y.notes ∧ y1.rods = y.rods ∧ y1.mates = y.mates
section
variable {P : Program} {w : World} {K : PySem.W.Frag} {mg : Str → Option Value} {base : Heap} {t : Adr}
theorem scCy : FnScope ["self", "end", "side", "piece", "rod"] ["self", "end", "side"] (defScope s_Yard_carry) := ⟨rfl, rfl, rfl, by decide +kernel, rfl, by decide +kernel, by decide +kernel⟩
theorem ok_Yard_carry (T : Txt K mg t) : FnOk P w K mg base CX0 1 t.f_Yard_carry t.d_Yard_carry ["self", "end", "side"] (sp_carry t.c_Yard) := by
  refine T.F_Yard_carry.ok scCy (fun vs H Q E h => ?_) (fun cdv A outer s H vs Q E hr h => ?_)
  · obtain ⟨_, _, _, _, _, _, _, _, rfl, _⟩ := h
    rfl
  · obtain ⟨A, y, L, W, s1, z, k, z', rfl, hH, R, hz, hk, ⟨j, hj⟩, tl, rl, q⟩ := h
    have hu := hu_of hr
    refine ⟨_, (pss_cons (ps_set (i := 3) scCy.nd rfl (Or.inl rfl) (pe_ix ix_tup (pe_fld (pv 0) rfl) pe_int (fun _ _ => rfl)))
      (pss_cons (ps_set (i := 4) scCy.nd rfl (Or.inl rfl) (pe_dget1 hu (pe_fld (pv 0) rfl) (pv 3) ⟨rfl, rfl, rfl, rfl⟩))
      (pss_cons (ps_expr (pe_bm PySem.F.plainAttrs_list PySem.F.slot_list_append PySem.F.type_list_append mt_append (pe_fld (pv 0) rfl) (pa_cons (pe_tup (pa_cons (pe_fld (pv 0) rfl) (pa_cons (pe_ifExp (pt_cmpR op_isN (pv 4) pe_non (nomark _)) pe_non (pe_ix ix_list (pe_fld (pv 0) rfl) (pv 4) (fun _ _ => rfl))) pa_nil))) pa_nil)))
      (pss_cons (ps_if (pt_cmpR op_notN (pv 4) pe_non (nomark _))
        (pss_one (ps_asg (pv 2) (pg_sub (pe_fld (pv 0) rfl) (pv 4) set_list)))
        pss_nil)
      (pss_cons (ps_if (pt_cmp (pc_din hu (pv 3) (pe_fld (pv 0) rfl)))
        (pss_one (ps_expr (pe_bm PySem.F.plainAttrs_list PySem.F.slot_list_append PySem.F.type_list_append mt_append (pe_fld (pv 0) rfl) (pa_cons (pe_dget hu (pe_fld (pv 0) rfl) (pv 3) (fun _ _ => rfl)) pa_nil))))
        pss_nil)
      (pss_one (ps_fld (pv 0) (pv 1) rfl))))))), ?_⟩
    have gz := hH.get (j + 9) (by simpa [yL] using hj)
    have en : y.eng = .ref z.1 := by rw [R.en, hz]; rfl
    refine ⟨_, rfl, A.p, _, A.dx, _, _, rfl, hH.get 1 rfl, T.cl_Yard, T.n_Yard_engine_end, fl_eng _ _ _, z.1, _, _, _, en, rfl, SqT.of gz, rfl, ?_⟩
    refine ⟨_, rfl, A.p, _, A.dx, _, _, rfl, hH.get 1 rfl, T.cl_Yard, T.n_Yard_rods_under, fl_rods _ _ _, A.r, rfl, .inl ⟨_, .inl (hH.get 5 rfl)⟩, _, rfl, _, DGet.k (k := Sum.inl z.2.1) (hH.get 5 rfl), ?_⟩
    refine ⟨_, rfl, A.p, _, A.dx, _, _, rfl, hH.get 1 rfl, T.cl_Yard, T.n_Yard_trail, fl_trail _ _ _, .inl ⟨rfl, _, SqL.of (hH.get 0 rfl)⟩, ?_⟩
    refine ⟨_, rfl, A.p, _, A.dx, _, _, rfl, hH.get 1 rfl, T.cl_Yard, T.n_Yard_engine_end, fl_eng _ _ _, _, rfl, rfl, _, rfl, ?_⟩
    rw [R.ro _ _ hk, en]
    have etr : W.tr s1 = .tup [.ref z.1, if k.point then .int (W.sv s1 z.2.1) else .non] := by unfold Wd.tr; rw [hz]; show HO.tup [.ref z.1, W.tv s1 z] = _; unfold Wd.tv; rw [hk]
    by_cases hp : k.point = true
    · rw [if_pos hp] at etr ⊢
      try rw [if_pos hp]
      obtain ⟨r0, r1⟩ := R.rr _ _ hk hp
      have sa := R.sideAt hk hp
      refine ifF rfl ?_
      refine ⟨_, rfl, A.p, _, A.dx, _, _, rfl, hH.get 1 rfl, T.cl_Yard, T.n_Yard_sides, fl_sides _ _ _, _, rfl, A.s, _, W.rf z.2.1, _, rfl, rfl, SqL.of (hH.get 6 rfl), (by rw [show W.rf z.2.1 = (((W.rf z.2.1).toNat : Nat) : Int) by omega]; exact atI_nat sa), ?_⟩
      refine ⟨(show 2 ≤ sizeLine by decide), fun a ha => ?_⟩
      have h1 := hH.alloc ha (.tup [.ref z.1, .int (W.sv s1 z.2.1)])
      refine ⟨A.tr, _, _, rfl, rfl, h1.get 1 rfl, sizeOk (by omega), ?_⟩
      have h2 := Has.comm (X := [_]) (Y := yL t.c_Yard A { y with trail := y.trail ++ [.ref a] }) (R := L) (h1.puti 1 rfl (.lst (y.trail ++ [.ref a])))
      generalize upd (upd H a _) A.tr _ = H2 at h2 ⊢
      replace h2 : Has H2 (yL t.c_Yard A { y with trail := y.trail ++ [.ref a] } ++ ((a, W.tr s1) :: L)) := by rw [etr]; exact h2
      clear h1 ha
      refine ⟨_, rfl, rfl, _, rfl, ifT rfl ?_⟩
      have sl : y.sides.length = s1.ss.length := by rw [R.sd, List.length_map]
      have hjx : ixN y.sides.length (W.rf z.2.1) = some (W.rf z.2.1).toNat := by unfold ixN; rw [if_pos r0, if_pos (by omega)]
      refine ⟨_, rfl, _, rfl, A.p, _, A.dx, _, _, rfl, h2.get 1 rfl, T.cl_Yard, T.n_Yard_sides, fl_sides _ _ _, _, rfl, A.s, _, _, _, rfl, rfl, h2.get 6 rfl, hjx, ?_⟩
      have h3 := h2.puti 6 rfl (.lst (y.sides.set (W.rf z.2.1).toNat (.int (k.side z.2.2 (W.sv s1 z.2.1)))))
      have es : (stepS W s1 z k z').ss.map V.int = y.sides.set (W.rf z.2.1).toNat (.int (k.side z.2.2 (W.sv s1 z.2.1))) := by unfold stepS; dsimp only; rw [if_pos hp, List.map_set, R.sd]
      have hT : Has _ (yL t.c_Yard A { y with sides := y.sides.set (W.rf z.2.1).toNat (.int (k.side z.2.2 (W.sv s1 z.2.1))), trail := y.trail ++ [.ref a] } ++ ((a, W.tr s1) :: L)) := h3
      refine ⟨_, rfl, _, rfl, A.p, _, A.dx, _, _, rfl, hT.get 1 rfl, T.cl_Yard, T.n_Yard_notes, fl_notes _ _ _, A.n, _, rfl, DGet.k (k := Sum.inl z.2.1) (hT.get 4 rfl), _, rfl, if2 (fun hb => ?_) (fun hb => ?_)⟩
      · have kb : k = .bell := by
          rw [R.no _ _ hk] at hb
          by_cases c : k = .bell
          · exact c
          · rw [if_neg c] at hb; cases hb
        have nv : valV y.notes (Sum.inl z.2.1) = some (.int (W.nf z.2.1)) := by rw [R.no _ _ hk, if_pos kb]
        refine ⟨_, rfl, A.p, _, A.dx, _, _, rfl, hT.get 1 rfl, T.cl_Yard, T.n_Yard_rung, fl_rung _ _ _, .inl ⟨rfl, _, SqL.of (hT.get 8 rfl)⟩, _, rfl, A.p, _, A.dx, _, _, rfl, hT.get 1 rfl, T.cl_Yard, T.n_Yard_notes, fl_notes _ _ _, _, rfl, A.n, _, rfl, (by rw [← nv]; exact DGet.k (k := Sum.inl z.2.1) (hT.get 4 rfl)), A.g, _, _, rfl, rfl, hT.get 8 rfl, sizeOk (show y.rung.length ≤ 1000000 by omega), ?_⟩
        have h4 : Has _ (yL t.c_Yard A { y with sides := y.sides.set (W.rf z.2.1).toNat (.int (k.side z.2.2 (W.sv s1 z.2.1))), rung := y.rung ++ [.int (W.nf z.2.1)], trail := y.trail ++ [.ref a] } ++ ((a, W.tr s1) :: L)) := hT.puti 8 rfl (.lst (y.rung ++ [.int (W.nf z.2.1)]))
        refine ⟨_, rfl, _, rfl, A.p, _, A.dx, _, rfl, h4.get 1 rfl, T.cl_Yard, T.n_Yard_engine_end, (show 9 < 1000 by decide), ?_⟩
        rw [fl_put_eng]
        have h5 := h4.puti 1 rfl (.ins t.c_Yard A.dx (fl A y.next (.ref z'.1)))
        have er : (stepS W s1 z k z').rg.map V.int = y.rung ++ [.int (W.nf z.2.1)] := by unfold stepS; dsimp only; rw [if_pos kb, List.map_append, R.rg]; rfl
        refine q _ a ?_
        rw [er, es]
        exact h5
      · have kb : ¬ k = .bell := fun c => by rw [R.no _ _ hk, if_pos c] at hb; cases hb
        refine ⟨_, rfl, _, rfl, A.p, _, A.dx, _, rfl, hT.get 1 rfl, T.cl_Yard, T.n_Yard_engine_end, (show 9 < 1000 by decide), ?_⟩
        rw [fl_put_eng]
        have h5 := hT.puti 1 rfl (.ins t.c_Yard A.dx (fl A y.next (.ref z'.1)))
        have er : (stepS W s1 z k z').rg.map V.int = y.rung := by unfold stepS; dsimp only; rw [if_neg kb, R.rg]
        refine q _ a ?_
        rw [er, es]
        exact h5
    · rw [if_neg hp] at etr ⊢
      try rw [if_neg hp]
      refine ifT rfl ?_
      refine ⟨(show 2 ≤ sizeLine by decide), fun a ha => ?_⟩
      have h1 := hH.alloc ha (.tup [.ref z.1, .non])
      refine ⟨A.tr, _, _, rfl, rfl, h1.get 1 rfl, sizeOk (by omega), ?_⟩
      have h2 := Has.comm (X := [_]) (Y := yL t.c_Yard A { y with trail := y.trail ++ [.ref a] }) (R := L) (h1.puti 1 rfl (.lst (y.trail ++ [.ref a])))
      generalize upd (upd H a _) A.tr _ = H2 at h2 ⊢
      replace h2 : Has H2 (yL t.c_Yard A { y with trail := y.trail ++ [.ref a] } ++ ((a, W.tr s1) :: L)) := by rw [etr]; exact h2
      clear h1 ha
      refine ⟨_, rfl, rfl, _, rfl, ifF rfl ?_⟩
      have h3 := h2
      have es : (stepS W s1 z k z').ss.map V.int = y.sides := by unfold stepS; dsimp only; rw [if_neg hp, R.sd]
      have hT : Has _ (yL t.c_Yard A { y with sides := y.sides, trail := y.trail ++ [.ref a] } ++ ((a, W.tr s1) :: L)) := h3
      refine ⟨_, rfl, _, rfl, A.p, _, A.dx, _, _, rfl, hT.get 1 rfl, T.cl_Yard, T.n_Yard_notes, fl_notes _ _ _, A.n, _, rfl, DGet.k (k := Sum.inl z.2.1) (hT.get 4 rfl), _, rfl, if2 (fun hb => ?_) (fun hb => ?_)⟩
      · have kb : k = .bell := by
          rw [R.no _ _ hk] at hb
          by_cases c : k = .bell
          · exact c
          · rw [if_neg c] at hb; cases hb
        have nv : valV y.notes (Sum.inl z.2.1) = some (.int (W.nf z.2.1)) := by rw [R.no _ _ hk, if_pos kb]
        refine ⟨_, rfl, A.p, _, A.dx, _, _, rfl, hT.get 1 rfl, T.cl_Yard, T.n_Yard_rung, fl_rung _ _ _, .inl ⟨rfl, _, SqL.of (hT.get 8 rfl)⟩, _, rfl, A.p, _, A.dx, _, _, rfl, hT.get 1 rfl, T.cl_Yard, T.n_Yard_notes, fl_notes _ _ _, _, rfl, A.n, _, rfl, (by rw [← nv]; exact DGet.k (k := Sum.inl z.2.1) (hT.get 4 rfl)), A.g, _, _, rfl, rfl, hT.get 8 rfl, sizeOk (show y.rung.length ≤ 1000000 by omega), ?_⟩
        have h4 : Has _ (yL t.c_Yard A { y with sides := y.sides, rung := y.rung ++ [.int (W.nf z.2.1)], trail := y.trail ++ [.ref a] } ++ ((a, W.tr s1) :: L)) := hT.puti 8 rfl (.lst (y.rung ++ [.int (W.nf z.2.1)]))
        refine ⟨_, rfl, _, rfl, A.p, _, A.dx, _, rfl, h4.get 1 rfl, T.cl_Yard, T.n_Yard_engine_end, (show 9 < 1000 by decide), ?_⟩
        rw [fl_put_eng]
        have h5 := h4.puti 1 rfl (.ins t.c_Yard A.dx (fl A y.next (.ref z'.1)))
        have er : (stepS W s1 z k z').rg.map V.int = y.rung ++ [.int (W.nf z.2.1)] := by unfold stepS; dsimp only; rw [if_pos kb, List.map_append, R.rg]; rfl
        refine q _ a ?_
        rw [er, es]
        exact h5
      · have kb : ¬ k = .bell := fun c => by rw [R.no _ _ hk, if_pos c] at hb; cases hb
        refine ⟨_, rfl, _, rfl, A.p, _, A.dx, _, rfl, hT.get 1 rfl, T.cl_Yard, T.n_Yard_engine_end, (show 9 < 1000 by decide), ?_⟩
        rw [fl_put_eng]
        have h5 := hT.puti 1 rfl (.ins t.c_Yard A.dx (fl A y.next (.ref z'.1)))
        have er : (stepS W s1 z k z').rg.map V.int = y.rung := by unfold stepS; dsimp only; rw [if_neg kb, R.rg]
        refine q _ a ?_
        rw [er, es]
        exact h5
theorem scNs : FnScope ["yard", "stand", "piece", "end", "kind", "side", "out", "behind", "mate"] ["yard"] (defScope s_next_step) := ⟨rfl, rfl, rfl, by decide +kernel, rfl, by decide +kernel, by decide +kernel⟩
theorem ok_next_step (T : Txt K mg t) : FnOk P w K mg base CX0 5 t.f_next_step t.d_next_step ["yard"] (sp_next t.c_Yard) := by
  refine T.F_next_step.ok scNs (fun vs H Q E h => ?_) (fun cdv A outer s H vs Q E hr h => ?_)
  · obtain ⟨_, _, _, _, _, rfl, _⟩ := h
    rfl
  · obtain ⟨A, y, L, W, s1, rfl, hH, R, PL, q⟩ := h
    have three : 3 ≤ sizeLine := by decide
    refine ⟨_, (pss_cons (ps_set (i := 1) scNs.nd rfl (Or.inl rfl) (pe_meth0 (pv 0) T.cl_Yard T.M_Yard_engine (ok_Yard_engine T) (hr.mono (by decide)) (b_Yard_engine T) .nil pass0))
      (pss_cons (ps_if (pt_cmpR op_isN (pv 1) pe_non (nomark _))
        (pss_one (ps_ret (pe_tup (pa_cons pe_str (pa_cons pe_non (pa_cons pe_non pa_nil))))))
        pss_nil)
      (pss_cons (ps_asg (pv 1) (pg_tup rfl (pgs_cons (pg_name (i := 2) scNs.nd rfl (Or.inl rfl)) (pgs_cons (pg_name (i := 3) scNs.nd rfl (Or.inl rfl)) pgs_nil))))
      (pss_cons (ps_set (i := 4) scNs.nd rfl (Or.inl rfl) (pe_meth (pv 0) T.cl_Yard T.M_Yard_kind (ok_Yard_kind T) (hr.mono (by decide)) (b_Yard_kind T) .nil pass0 (pa_cons (pv 2) pa_nil)))
      (pss_cons (ps_set (i := 5) scNs.nd rfl (Or.inl rfl) (pe_ifExp (pt_val (pe_call (ok_is_point T) (hr.mono (by decide)) (by rfl) T.m_is_point T.F_is_point.kp (b_is_point T) .nil pass0 (pa_cons (pv 4) pa_nil))) (pe_meth (pv 0) T.cl_Yard T.M_Yard_side (ok_Yard_side T) (hr.mono (by decide)) (b_Yard_side T) .nil pass0 (pa_cons (pe_meth (pv 0) T.cl_Yard T.M_Yard_rod (ok_Yard_rod T) (hr.mono (by decide)) (b_Yard_rod T) .nil pass0 (pa_cons (pv 2) pa_nil)) pa_nil)) pe_non))
      (pss_cons (ps_asg (pe_call (ok_passage T) (hr.mono (by decide)) (by rfl) T.m_passage T.F_passage.kp (b_passage T) .nil pass0 (pa_cons (pv 4) (pa_cons (pv 3) (pa_cons (pv 5) pa_nil)))) (pg_tup rfl (pgs_cons (pg_name (i := 6) scNs.nd rfl (Or.inl rfl)) (pgs_cons (pg_name (i := 7) scNs.nd rfl (Or.inl rfl)) pgs_nil))))
      (pss_cons (ps_if (pt_cmpR op_isN (pv 6) pe_non (nomark _))
        (pss_one (ps_ret (pe_tup (pa_cons pe_str (pa_cons pe_non (pa_cons pe_non pa_nil))))))
        pss_nil)
      (pss_cons (ps_set (i := 8) scNs.nd rfl (Or.inl rfl) (pe_meth (pv 0) T.cl_Yard T.M_Yard_mate (ok_Yard_mate T) (hr.mono (by decide)) (b_Yard_mate T) .nil pass0 (pa_cons (pe_tup (pa_cons (pv 2) (pa_cons (pv 6) pa_nil))) pa_nil)))
      (pss_cons (ps_if (pt_cmpR op_isN (pv 8) pe_non (nomark _))
        (pss_one (ps_ret (pe_tup (pa_cons pe_str (pa_cons pe_non (pa_cons pe_non pa_nil))))))
        pss_nil)
      (pss_one (ps_ret (pe_tup (pa_cons pe_non (pa_cons (pv 8) (pa_cons (pv 7) pa_nil))))))))))))))), ?_⟩
    refine ⟨_, rfl, A.p, A.dx, _, rfl, hH.get 1 rfl, (fl_m4 _ _ _).2.2.2.2.2.2.1, A, y, L, rfl, hH, ?_⟩
    refine ⟨_, rfl, rfl, _, rfl, ?_⟩
    rw [R.en]
    cases hz : s1.at_ with
    | none =>
      obtain ⟨n1, n2⟩ := why_none (w := W) hz
      exact iteT ⟨three, fun p hp => q _ p _ (.held n1 _ n2) (hH.alloc hp _)⟩
    | some z =>
      obtain ⟨j, hj⟩ := PL.e z hz
      obtain ⟨k, hk, e0, e1⟩ := R.eo z hz
      have gz := hH.get (j + 9) (by simpa [yL] using hj)
      have vk : valV y.kinds (Sum.inl z.2.1) = some (.str k.str) := R.kd _ _ hk
      refine iteF ?_
      refine ⟨_, rfl, z.1, _, rfl, SqT.of gz, rfl, _, _, rfl, _, _, rfl, rfl, ?_⟩
      refine ⟨_, rfl, A.p, A.dx, _, rfl, hH.get 1 rfl, (fl_m4 _ _ _).2.2.2.2.1, _, rfl, A, y, L, z.2.1, _, rfl, hH, vk, ?_⟩
      refine ⟨_, rfl, k, rfl, _, rfl, ?_⟩
      have thr : ∀ o : Int, k.out z.2.2 (W.sv s1 z.2.1) = .int o → There y z.2.1 o := fun o ho => by
        have := Kd.out_in e0 e1 (fun hp => R.s1 hk hp) ho
        exact ⟨k, vk, this.1, this.2⟩
      refine if2 (fun hp => ?_) (fun hp => ?_)
      · obtain ⟨r0, r1⟩ := R.rr _ _ hk hp
        have vr : valV y.rods (Sum.inl z.2.1) = some (.int (W.rf z.2.1)) := by rw [R.ro _ _ hk, if_pos hp]
        refine ⟨_, rfl, A.p, A.dx, _, rfl, hH.get 1 rfl, (fl_m _ _ _).2.2.2.2.2.1, _, rfl, A.p, A.dx, _, rfl, hH.get 1 rfl, (fl_m _ _ _).2.2.2.2.1, _, rfl, A, y, L, z.2.1, _, _, rfl, hH, vk, vr, A, y, L, W.rf z.2.1, _, rfl, hH, r0, R.sideAt hk hp, ?_⟩
        refine ⟨_, rfl, _, rfl, _, rfl, k, z.2.2, W.sv s1 z.2.1, V.int (W.sv s1 z.2.1), rfl, e0, e1, (fun h => ⟨rfl, R.s1 hk hp⟩), fun p hp1 => ?_⟩
        have h1 := hH.alloc hp1 (.tup [k.out z.2.2 (W.sv s1 z.2.1), if k.point then .int (k.side z.2.2 (W.sv s1 z.2.1)) else V.int (W.sv s1 z.2.1)])
        refine ⟨p, _, rfl, SqT.of (h1.get 0 rfl), rfl, _, _, rfl, _, _, rfl, rfl, ?_⟩
        replace h1 := h1.tail
        generalize upd H p _ = H1 at h1 ⊢
        refine ⟨_, rfl, rfl, _, rfl, ?_⟩
        by_cases c : k.out z.2.2 (W.sv s1 z.2.1) = .non
        · obtain ⟨n1, n2⟩ := why_stop hz hk c
          exact ifT (decide_eq_true c) ⟨three, fun p hp => q _ p _ (.held n1 _ n2) (h1.alloc hp _)⟩
        · refine ifF (decide_eq_false c) ?_
          obtain ⟨o, ho⟩ := Kd.out_int (k := k) (fun e => c (by unfold Kd.out; rw [if_pos e])) z.2.2 (W.sv s1 z.2.1)
          rw [ho]
          refine ⟨_, rfl, A.p, A.dx, _, rfl, h1.get 1 rfl, (fl_m2 _ _ _).2.1, _, rfl, _, rfl, (show 2 ≤ sizeLine by decide), fun b hb => ?_⟩
          have h2 := Has.comm (X := [(b, .tup [.int z.2.1, .int o])]) (Y := yL t.c_Yard A y) (R := L) (h1.alloc hb (.tup [.int z.2.1, .int o]))
          generalize upd H1 b _ = H2 at h2 ⊢
          refine ⟨A, y, _, b, z.2.1, o, 0, rfl, h2, rfl, thr o ho, ?_⟩
          have h3 := (Has.comm (X := yL t.c_Yard A y) (Y := [(b, .tup [.int z.2.1, .int o])]) (R := L) h2).tail
          refine ⟨_, rfl, rfl, _, rfl, ?_⟩
          rw [R.mt]
          cases hm : W.mf z.2.1 o with
          | none =>
            obtain ⟨n1, n2⟩ := why_loose hz hk ho hm
            exact iteT ⟨three, fun p hp => q _ p _ (.held n1 _ n2) (h3.alloc hp _)⟩
          | some z' =>
            exact iteF ⟨_, rfl, _, rfl, three, fun p hp => q _ p _ (.goes z k o z' hz hk ho hm) (by rw [if_pos (by assumption : k.point = true)]; have := h3.alloc hp (.tup [.non, .ref z'.1, .int (k.side z.2.2 (W.sv s1 z.2.1))]); simpa [*] using this)⟩
      · refine ⟨_, rfl, _, rfl, _, rfl, k, z.2.2, W.sv s1 z.2.1, V.non, rfl, e0, e1, (fun h => absurd h (by rw [hp]; decide)), fun p hp1 => ?_⟩
        have h1 := hH.alloc hp1 (.tup [k.out z.2.2 (W.sv s1 z.2.1), if k.point then .int (k.side z.2.2 (W.sv s1 z.2.1)) else V.non])
        refine ⟨p, _, rfl, SqT.of (h1.get 0 rfl), rfl, _, _, rfl, _, _, rfl, rfl, ?_⟩
        replace h1 := h1.tail
        generalize upd H p _ = H1 at h1 ⊢
        refine ⟨_, rfl, rfl, _, rfl, ?_⟩
        by_cases c : k.out z.2.2 (W.sv s1 z.2.1) = .non
        · obtain ⟨n1, n2⟩ := why_stop hz hk c
          exact ifT (decide_eq_true c) ⟨three, fun p hp => q _ p _ (.held n1 _ n2) (h1.alloc hp _)⟩
        · refine ifF (decide_eq_false c) ?_
          obtain ⟨o, ho⟩ := Kd.out_int (k := k) (fun e => c (by unfold Kd.out; rw [if_pos e])) z.2.2 (W.sv s1 z.2.1)
          rw [ho]
          refine ⟨_, rfl, A.p, A.dx, _, rfl, h1.get 1 rfl, (fl_m2 _ _ _).2.1, _, rfl, _, rfl, (show 2 ≤ sizeLine by decide), fun b hb => ?_⟩
          have h2 := Has.comm (X := [(b, .tup [.int z.2.1, .int o])]) (Y := yL t.c_Yard A y) (R := L) (h1.alloc hb (.tup [.int z.2.1, .int o]))
          generalize upd H1 b _ = H2 at h2 ⊢
          refine ⟨A, y, _, b, z.2.1, o, 0, rfl, h2, rfl, thr o ho, ?_⟩
          have h3 := (Has.comm (X := yL t.c_Yard A y) (Y := [(b, .tup [.int z.2.1, .int o])]) (R := L) h2).tail
          refine ⟨_, rfl, rfl, _, rfl, ?_⟩
          rw [R.mt]
          cases hm : W.mf z.2.1 o with
          | none =>
            obtain ⟨n1, n2⟩ := why_loose hz hk ho hm
            exact iteT ⟨three, fun p hp => q _ p _ (.held n1 _ n2) (h3.alloc hp _)⟩
          | some z' =>
            exact iteF ⟨_, rfl, _, rfl, three, fun p hp => q _ p _ (.goes z k o z' hz hk ho hm) (by exact h3.alloc hp _)⟩
theorem scHe : FnScope ["yard"] ["yard"] (defScope s_held) := ⟨rfl, rfl, rfl, by decide +kernel, rfl, by decide +kernel, by decide +kernel⟩
theorem ok_held (T : Txt K mg t) : FnOk P w K mg base CX0 6 t.f_held t.d_held ["yard"] (sp_held t.c_Yard) := by
  refine T.F_held.ok scHe (fun vs H Q E h => ?_) (fun cdv A outer s H vs Q E hr h => ?_)
  · obtain ⟨_, _, _, _, _, rfl, _⟩ := h
    rfl
  · obtain ⟨A, y, L, W, s1, rfl, hH, R, PL, q⟩ := h
    refine ⟨_, (pss_one (ps_ret (pe_ix ix_tup (pe_call (ok_next_step T) (hr.mono (by decide)) (by rfl) T.m_next_step T.F_next_step.kp (b_next_step T) .nil pass0 (pa_cons (pv 0) pa_nil)) pe_int (fun _ _ => rfl)))), ?_⟩
    refine ⟨_, rfl, A, y, L, W, s1, rfl, hH, R, PL, fun H1 p xs nx h1 => ?_⟩
    exact ⟨p, _, _, _, rfl, rfl, SqT.of (h1.get 0 rfl), atI_nat (j := 0) nx.why.2, q _ h1.tail⟩
theorem scRn : FnScope ["yard", "most", "done", "why", "end", "side"] ["yard", "most"] (defScope s_run) := ⟨rfl, rfl, rfl, by decide +kernel, rfl, by decide +kernel, by decide +kernel⟩
theorem ok_run (T : Txt K mg t) : FnOk P w K mg base CX0 6 t.f_run t.d_run ["yard", "most"] (sp_run t.c_Yard) := by
  refine T.F_run.ok scRn (fun vs H Q E h => ?_) (fun cdv A outer s H vs Q E hr h => ?_)
  · obtain ⟨_, _, _, _, _, _, _, rfl, _⟩ := h
    rfl
  · obtain ⟨A, y, L, W, s0, ts, m, rfl, hH, R, PL, tl, b1, b2, b3, b4, q⟩ := h
    refine ⟨_, (pss_cons (ps_set (i := 2) scRn.nd rfl (Or.inl rfl) pe_int)
      (pss_cons (ps_while PassesOwn.never (pt_cmpR op_lt (pv 2) (pv 1) (nomark _))
        (pss_cons (ps_asg (pe_call (ok_next_step T) (hr.mono (by decide)) (by rfl) T.m_next_step T.F_next_step.kp (b_next_step T) .nil pass0 (pa_cons (pv 0) pa_nil)) (pg_tup rfl (pgs_cons (pg_name (i := 3) scRn.nd rfl (Or.inl rfl)) (pgs_cons (pg_name (i := 4) scRn.nd rfl (Or.inl rfl)) (pgs_cons (pg_name (i := 5) scRn.nd rfl (Or.inl rfl)) pgs_nil)))))
          (pss_cons (ps_if (pt_cmpR op_notN (pv 3) pe_non (nomark _))
            (pss_one ps_break)
            pss_nil)
          (pss_cons (ps_expr (pe_meth (pv 0) T.cl_Yard T.M_Yard_carry (ok_Yard_carry T) (hr.mono (by decide)) (b_Yard_carry T) .nil pass0 (pa_cons (pv 4) (pa_cons (pv 5) pa_nil))))
          (pss_one (ps_aug (i := 2) scRn.nd rfl (Or.inl rfl) pe_int ip_add))))))
      (pss_one (ps_ret (pv 2))))), ?_⟩
    refine ⟨runInv t.c_Yard A y L W s0 ts m, ⟨_, 0, y, [], s0, _, _, _, rfl, Nat.zero_le _, rfl, by rw [List.append_nil]; exact hH, R, PL, by rw [List.append_nil]; exact tl, rfl, rfl, rfl, Nat.le_refl _, rfl, rfl, rfl, rfl, rfl⟩, ?_⟩
    rintro r σ H1 ⟨i, y1, ts1, s1, o1, o2, o3, rfl, im, rfl, h1, R1, P1, tl1, li, eg, eh, rg, f1, f2, f3, f4, f5⟩
    refine ⟨_, rfl, _, rfl, _, _, rfl, rfl, _, rfl, if2 (fun hc => ?_) (fun hc => ?_)⟩
    · have hlt : (i : Int) < m := of_decide_eq_true hc
      refine ⟨fun σ' H' => ∃ r', r' < m.toNat - i ∧ runInv t.c_Yard A y L W s0 ts m r' σ' H', fun _ _ h => h, ?_⟩
      refine ⟨_, rfl, A, y1, _, W, s1, rfl, h1, R1, P1.app _, fun H2 p xs nx h2 => ?_⟩
      cases nx with
      | held hn x e =>
        refine ⟨p, _, rfl, SqT.of (h2.get 0 rfl), rfl, _, _, rfl, _, _, rfl, _, _, rfl, rfl, ?_⟩
        refine ⟨_, rfl, rfl, _, rfl, ifT rfl ?_⟩
        rw [go_held W hn] at eg
        rw [hist_held W hn, List.append_nil] at eh
        refine ⟨_, rfl, ?_⟩
        have := q H2 y1 ts1 h2.tail (by rw [eg]; exact R1) tl1 eh.symm f1 f2 f3 f4 f5 (by rw [eg]; exact P1)
        rw [li] at this
        exact this
      | goes z k o z' hz hk ho hm =>
        have hn := nx_of hz hk ho hm
        refine ⟨p, _, rfl, SqT.of (h2.get 0 rfl), rfl, _, _, rfl, _, _, rfl, _, _, rfl, rfl, ?_⟩
        refine ⟨_, rfl, rfl, _, rfl, ifF rfl ?_⟩
        replace h2 := h2.tail
        have tll : y1.trail.length = ts.length + i := by rw [tl1]; unfold trV; rw [List.length_map, List.length_append, li]
        refine ⟨_, rfl, A.p, A.dx, _, rfl, h2.get 1 rfl, (fl_m4 _ _ _).2.2.1, _, rfl, _, rfl, A, y1, _, W, s1, z, k, z', rfl, h2, R1, hz, hk, (P1.app _).e z hz, by omega, by omega, fun H3 a h3 => ?_⟩
        refine ⟨_, rfl, _, _, rfl, rfl, ?_⟩
        have em : m.toNat - i = (m.toNat - (i + 1)) + 1 := by omega
        rw [em, go_succ W hn] at eg
        rw [em, hist_succ W hn] at eh
        refine ⟨m.toNat - (i + 1), by omega, i + 1, { y1 with sides := (stepS W s1 z k z').ss.map V.int, eng := .ref z'.1, rung := (stepS W s1 z k z').rg.map V.int, trail := y1.trail ++ [.ref a] }, ts1 ++ [(a, s1)], stepS W s1 z k z', _, _, _, rfl, by omega, rfl, ?_, stepS_keep R1 hz hk hm rfl rfl rfl rfl rfl rfl rfl, P1.step hn, ?_, by simp [li], eg, by rw [eh]; simp, ?_, f1, f2, f3, f4, f5⟩
        · rw [← List.append_assoc ts ts1, trK_snoc]
          exact h3.perm (List.Perm.append_left _ List.perm_middle.symm)
        · show y1.trail ++ [.ref a] = _
          rw [tl1]; unfold trV; simp
        · show ((stepS W s1 z k z').rg.map V.int).length ≤ _
          have := stepS_rg_le (w := W) (s := s1) (z := z) (k := k) (z' := z')
          have e := congrArg List.length R1.rg
          rw [List.length_map] at e ⊢
          omega
    · have hge : ¬ (i : Int) < m := of_decide_eq_false hc
      have e0 : m.toNat - i = 0 := by omega
      rw [e0] at eg eh
      refine ⟨_, rfl, ?_⟩
      have := q H1 y1 ts1 h1 (by rw [eg]; exact R1) tl1 (by rw [eh]; exact (List.append_nil _).symm) f1 f2 f3 f4 f5 (by rw [eg]; exact P1)
      rw [li] at this
      exact this
end

def esK (es : List (Addr × Int × Int)) : Kn := es.map fun x => (x.1, HO.tup [.int x.2.1, .int x.2.2])
def esV (es : List (Addr × Int × Int)) : List V := es.map fun x => V.ref x.1

theorem all_true (n : Nat) : (List.replicate n true).all id = true := by induction n with | zero => rfl | succ n ih => rw [List.replicate_succ, List.all_cons, ih]; rfl
/-- is_end: of the ends that the laws compare -/
def sp_is_end : Sp := fun vs H Q _ => (vs = [.non, .non] ∧ Q (.bl true) H) ∨ ∃ (a b : Addr) (n e : Int), vs = [.ref a, .ref b] ∧ H a = some (.tup [.int n, .int e]) ∧ H b = some (.tup [.int n, .int e]) ∧ Q (.bl true) H
theorem esK_get {es : List (Addr × Int × Int)} {i : Nat} {x : Addr × Int × Int} (L : Kn) (h : es[i]? = some x) : (esK es ++ L)[i]? = some (x.1, .tup [.int x.2.1, .int x.2.2]) := by
  have hi := (List.getElem?_eq_some_iff.mp h).1
  rw [List.getElem?_append_left (by unfold esK; rw [List.length_map]; exact hi)]
  unfold esK
  rw [List.getElem?_map, h]
  rfl
theorem esV_get {es : List (Addr × Int × Int)} {i : Nat} {x : Addr × Int × Int} (h : es[i]? = some x) : (esV es)[i]? = some (.ref x.1) := by
  unfold esV
  rw [List.getElem?_map, h]
  rfl
section
variable {P : Program} {w : World} {K : PySem.W.Frag} {mg : Str → Option Value} {base : Heap} {t : Adr}
theorem scIe : FnScope ["_law_found", "_law_due"] ["_law_found", "_law_due"] (defScope s_is_end) := ⟨rfl, rfl, rfl, by decide +kernel, rfl, by decide +kernel, by decide +kernel⟩
theorem ok_is_end (T : Txt K mg t) : FnOk P w K mg base CX0 3 t.f_is_end t.d_is_end ["_law_found", "_law_due"] sp_is_end := by
  refine T.F_is_end.ok scIe (fun vs H Q E h => ?_) (fun cdv A outer s H vs Q E hr h => ?_)
  · rcases h with ⟨rfl, _⟩ | ⟨_, _, _, _, rfl, _⟩ <;> rfl
  · rcases h with ⟨rfl, q⟩ | ⟨a, b, n, e, rfl, ga, gb, q⟩
    all_goals refine ⟨_, (pss_cons (ps_if (pt_cmpR op_isN (pv 1) pe_non (nomark _))
        (pss_one (ps_ret (pe_cmpR op_isN (pv 0) pe_non (nomark _))))
        pss_nil)
      (pss_cons (ps_if (PW.pt (pw_or (pt_not (pt_val (pe_callB call_isi (by rfl) T.z_isinstance (by rfl) (pa_cons (pv 0) (pa_cons (pe_bltn (v := .ty "tuple") (by rfl) T.z_tuple (by rfl) rfl) pa_nil))))) (pw_or1 (pt_cmpR op_ne (pe_callB call_len_seq (by rfl) T.z_len (by rfl) (pa_cons (pv 0) pa_nil)) pe_int (nomark _)))))
        (pss_one (ps_ret pe_bl))
        pss_nil)
      (pss_one (ps_ret (pe_and (pe_call (ok_is T) (hr.mono (by decide)) (by rfl) T.m_is T.F_is.kp (b_is T) .nil pass0 (pa_cons (pe_ix ix_tup (pv 0) pe_int (fun _ _ => rfl)) (pa_cons (pe_ix ix_tup (pv 1) pe_int (fun _ _ => rfl)) pa_nil))) (pe_one (pe_call (ok_is T) (hr.mono (by decide)) (by rfl) T.m_is T.F_is.kp (b_is T) .nil pass0 (pa_cons (pe_ix ix_tup (pv 0) pe_int (fun _ _ => rfl)) (pa_cons (pe_ix ix_tup (pv 1) pe_int (fun _ _ => rfl)) pa_nil))))))))), ?_⟩
    · refine ⟨_, rfl, rfl, _, rfl, iteT ?_⟩
      exact ⟨_, rfl, rfl, q⟩
    · refine ⟨_, rfl, rfl, _, rfl, iteF ?_⟩
      refine ⟨_, rfl, _, _, _, _, rfl, .tup ga, kit_tt K, _, rfl, iteF ?_⟩
      refine ⟨_, rfl, a, _, rfl, .inr (SqT.of ga), rfl, _, rfl, iteF ?_⟩
      refine ⟨_, rfl, a, _, _, _, rfl, rfl, SqT.of ga, rfl, _, rfl, b, _, _, _, rfl, rfl, SqT.of gb, rfl, _, _, rfl, ?_⟩
      rw [decide_eq_true rfl]
      refine ⟨_, rfl, iteT ?_⟩
      refine ⟨_, rfl, a, _, _, _, rfl, rfl, SqT.of ga, rfl, _, rfl, b, _, _, _, rfl, rfl, SqT.of gb, rfl, _, _, rfl, ?_⟩
      rw [decide_eq_true rfl]
      exact q
end

theorem Rep.eng {w : Wd} {s : Sd} {y : YR} (R : Rep w s y) (u : Option En) (hu : ∀ z, u = some z → w.ok z) (tr : List V) : Rep w { s with at_ := u } { y with eng := enV u, trail := tr } :=
  ⟨R.kd, R.no, R.ro, R.rr, R.sd, R.s12, R.mt, R.mo, rfl, hu, R.rg⟩
theorem why_cases (w : Wd) (s : Sd) (h : ∀ z, s.at_ = some z → w.ok z) : w.why s = .non ∨ ∃ x, w.why s = .str x := by
  cases hz : s.at_ with
  | none => exact .inr ⟨_, (why_none hz).2⟩
  | some z =>
    obtain ⟨k, hk, _⟩ := h z hz
    by_cases c : k.out z.2.2 (w.sv s z.2.1) = .non
    · exact .inr ⟨_, (why_stop hz hk c).2⟩
    · obtain ⟨o, ho⟩ := Kd.out_int (k := k) (fun e => c (by unfold Kd.out; rw [if_pos e])) z.2.2 (w.sv s z.2.1)
      cases hm : w.mf z.2.1 o with
      | none => exact .inr ⟨_, (why_loose hz hk ho hm).2⟩
      | some z' => exact .inl (why_goes hz hk ho hm)
theorem why_scal {w : Wd} {s : Sd} (h : ∀ z, s.at_ = some z → w.ok z) : scal (w.why s) (w.why s) = true := by
  rcases why_cases w s h with e | ⟨x, e⟩ <;> rw [e] <;> rfl

theorem en_pool {es : List En} {M R : Kn} {z : En} (h : z ∈ es) : ∃ j : Nat, (M ++ (esK es ++ R))[j]? = some (z.1, HO.tup [.int z.2.1, .int z.2.2]) := by
  obtain ⟨i, hi⟩ := List.mem_iff_getElem?.mp h
  exact ⟨M.length + i, by rw [List.getElem?_append_right (by omega), show M.length + i - M.length = i by omega]; exact esK_get R hi⟩
theorem trK_get (W : Wd) (ts : List (Addr × Sd)) (L : Kn) (j : Nat) : (trK W ts ++ L)[ts.length + j]? = L[j]? := by
  have e : (trK W ts).length = ts.length := by unfold trK; rw [List.length_map]
  rw [List.getElem?_append_right (by omega), show ts.length + j - (trK W ts).length = j by omega]
theorem atD {ds : List Int} {i : Int} (h0 : 0 ≤ i) (h1 : i < ds.length) : atI (ds.map V.int) i = some (.int (ds.getD i.toNat 0)) := by
  obtain ⟨m, rfl⟩ : ∃ m : Nat, i = m := ⟨i.toNat, by omega⟩
  have hl : m < ds.length := by omega
  rw [Int.toNat_natCast]
  refine atI_nat ?_
  rw [List.getElem?_map, List.getElem?_eq_getElem hl]
  simp [List.getD, List.getElem?_eq_getElem hl]
theorem Has.dropL {H : Hp} (X : Kn) {L : Kn} (h : Has H (X ++ L)) : Has H L := h.right
/-- a piece more -/
def Wd.lay (w : Wd) (n : Int) (k : Kd) (note r : Int) : Wd := ⟨fun i => if i = n then some k else w.kf i, fun i => if i = n then note else w.nf i, fun i => if i = n then r else w.rf i, w.mf⟩
/-- two mates more -/
def Wd.link (w : Wd) (x z : En) : Wd := { w with mf := fun n e => if (n, e) = z.2 then some x else if (n, e) = x.2 then some z else w.mf n e }
/-- nothing stands under the numbers to come -/
def Fre (y : YR) : Prop := ∀ n : Int, y.next ≤ n → valV y.kinds (Sum.inl n) = none ∧ valV y.notes (Sum.inl n) = none ∧ valV y.rods (Sum.inl n) = none
structure Sz (y : YR) (n m : Nat) : Prop where
  k : y.kinds.length ≤ n
  o : y.notes.length ≤ n
  r : y.rods.length ≤ n
  s : y.sides.length ≤ n
  m : y.mates.length ≤ m
  g : y.rung = []
  t : y.trail = []
theorem Sz.small {y : YR} {n m : Nat} (h : Sz y n m) (hn : n ≤ 10000) (hm : m ≤ 30000) : Small y := ⟨Nat.le_trans h.k hn, Nat.le_trans h.o hn, Nat.le_trans h.r hn, Nat.le_trans h.s hn, Nat.le_trans h.m hm, by rw [h.g]; exact Nat.zero_le _, by rw [h.t]; exact Nat.zero_le _⟩
theorem Fre.nil : Fre y0 := fun _ _ => ⟨rfl, rfl, rfl⟩
theorem Sz.nil : Sz y0 0 0 := ⟨Nat.le_refl _, Nat.le_refl _, Nat.le_refl _, Nat.le_refl _, Nat.le_refl _, rfl, rfl⟩
theorem key_ne {i n : Int} (h : ¬ i = n) : ¬ (Sum.inl i : Key) = Sum.inl n := fun e => h (Sum.inl.inj e)
theorem Fre.lay {y : YR} (h : Fre y) (k : Kd) (note : Int) (rod : V) : Fre (layY y k note rod) := fun n hn => by
  have hn : y.next + 1 ≤ n := hn
  obtain ⟨a, b, c⟩ := h n (by omega)
  have ne : ¬ n = y.next := by omega
  refine ⟨?_, ?_, ?_⟩
  · show valV (putK y.kinds (Sum.inl y.next) (.str k.str)) _ = none
    rw [valV_put, if_neg (key_ne ne)]; exact a
  · show valV (if k = .bell then putK y.notes (Sum.inl y.next) (.int note) else y.notes) _ = none
    split
    · rw [valV_put, if_neg (key_ne ne)]; exact b
    · exact b
  · show valV (if k.point = true then putK y.rods (Sum.inl y.next) (if rod = .non then .int y.sides.length else rod) else y.rods) _ = none
    split
    · rw [valV_put, if_neg (key_ne ne)]; exact c
    · exact c
theorem Sz.lay {y : YR} {n m : Nat} (h : Sz y n m) (k : Kd) (note : Int) (rod : V) : Sz (layY y k note rod) (n + 1) m := by
  refine ⟨?_, ?_, ?_, ?_, h.m, h.g, rfl⟩
  · show (putK y.kinds _ _).length ≤ _
    have := length_putK y.kinds (Sum.inl y.next) (.str k.str); have := h.k; omega
  · show (if k = .bell then putK y.notes (Sum.inl y.next) (.int note) else y.notes).length ≤ _
    have := length_putK y.notes (Sum.inl y.next) (.int note); have := h.o
    split <;> omega
  · show (if k.point = true then putK y.rods (Sum.inl y.next) (if rod = .non then .int y.sides.length else rod) else y.rods).length ≤ _
    have := length_putK y.rods (Sum.inl y.next) (if rod = .non then .int y.sides.length else rod); have := h.r
    split <;> omega
  · show (if k.point = true ∧ rod = .non then y.sides ++ [.int 1] else y.sides).length ≤ _
    have := h.s
    split
    · rw [List.length_append, List.length_singleton]; omega
    · omega
theorem Wd.ok_lay {w : Wd} {n : Int} {k : Kd} {note r : Int} {z : En} (hf : w.kf n = none) (h : w.ok z) : (w.lay n k note r).ok z := by
  obtain ⟨k', hk, e⟩ := h
  refine ⟨k', ?_, e⟩
  show (if z.2.1 = n then some k else w.kf z.2.1) = some k'
  rw [if_neg (fun c => by rw [c, hf] at hk; cases hk)]
  exact hk
theorem Rep.lay {w : Wd} {s : Sd} {y : YR} (R : Rep w s y) (F : Fre y) (hf : w.kf y.next = none) (k : Kd) (note r : Int) (rod : V) (ss' : List Int)
    (hp : k.point = true → (rod = .non ∧ r = s.ss.length ∧ ss' = s.ss ++ [1]) ∨ (rod = .int r ∧ 0 ≤ r ∧ r < s.ss.length ∧ ss' = s.ss)) (hn : k.point = false → ss' = s.ss) :
    Rep (w.lay y.next k note r) ⟨ss', s.at_, s.rg⟩ (layY y k note rod) := by
  obtain ⟨f1, f2, f3⟩ := F y.next (Int.le_refl _)
  have up : s.ss.length ≤ ss'.length := by
    cases e : k.point with
    | false => rw [hn e]; exact Nat.le_refl _
    | true => rcases hp e with ⟨_, _, h⟩ | ⟨_, _, _, h⟩ <;> rw [h] <;> simp
  have kfn : ∀ {n : Int} {k' : Kd}, (w.lay y.next k note r).kf n = some k' → (n = y.next ∧ k' = k) ∨ (¬ n = y.next ∧ w.kf n = some k') := fun {n k'} h => by
    by_cases c : n = y.next
    · refine .inl ⟨c, ?_⟩
      have h : (if n = y.next then some k else w.kf n) = some k' := h
      rw [if_pos c] at h
      exact (Option.some.inj h).symm
    · refine .inr ⟨c, ?_⟩
      have h : (if n = y.next then some k else w.kf n) = some k' := h
      rw [if_neg c] at h
      exact h
  refine ⟨fun n k' h => ?_, fun n k' h => ?_, fun n k' h => ?_, fun n k' h hpt => ?_, ?_, ?_, fun n e => R.mt n e, fun n e z h => Wd.ok_lay hf (R.mo n e z h), R.en, fun z hz => Wd.ok_lay hf (R.eo z hz), R.rg⟩
  · show valV (putK y.kinds (Sum.inl y.next) (.str k.str)) _ = _
    rcases kfn h with ⟨rfl, rfl⟩ | ⟨c, h'⟩
    · rw [valV_put, if_pos rfl]
    · rw [valV_put, if_neg (key_ne c)]; exact R.kd _ _ h'
  · show valV (if k = .bell then putK y.notes (Sum.inl y.next) (.int note) else y.notes) _ = if k' = .bell then some (.int (if n = y.next then note else w.nf n)) else none
    rcases kfn h with ⟨rfl, rfl⟩ | ⟨c, h'⟩
    · rw [if_pos rfl]
      by_cases kb : k' = .bell
      · rw [if_pos kb, if_pos kb, valV_put, if_pos rfl]
      · rw [if_neg kb, if_neg kb]; exact f2
    · rw [if_neg c, ← R.no _ _ h']
      split
      · rw [valV_put, if_neg (key_ne c)]
      · rfl
  · show valV (if k.point = true then putK y.rods (Sum.inl y.next) (if rod = .non then .int y.sides.length else rod) else y.rods) _ = if k'.point = true then some (.int (if n = y.next then r else w.rf n)) else none
    rcases kfn h with ⟨rfl, rfl⟩ | ⟨c, h'⟩
    · rw [if_pos rfl]
      by_cases kp : k'.point = true
      · rw [if_pos kp, if_pos kp, valV_put, if_pos rfl]
        rcases hp kp with ⟨e1, e2, _⟩ | ⟨e1, _, _, _⟩
        · rw [if_pos e1, R.sd, List.length_map, e2]
        · rw [e1, if_neg (fun h => nomatch h)]
      · rw [if_neg kp, if_neg kp]; exact f3
    · rw [if_neg c, ← R.ro _ _ h']
      split
      · rw [valV_put, if_neg (key_ne c)]
      · rfl
  · show 0 ≤ (if n = y.next then r else w.rf n) ∧ (if n = y.next then r else w.rf n) < (ss'.length : Int)
    rcases kfn h with ⟨rfl, rfl⟩ | ⟨c, h'⟩
    · rw [if_pos rfl]
      rcases hp hpt with ⟨_, e2, e3⟩ | ⟨_, e2, e3, e4⟩
      · rw [e3, List.length_append, List.length_singleton]; omega
      · rw [e4]; exact ⟨e2, e3⟩
    · rw [if_neg c]
      have := R.rr _ _ h' hpt
      omega
  · show (if k.point = true ∧ rod = .non then y.sides ++ [.int 1] else y.sides) = ss'.map V.int
    cases kp : k.point with
    | true =>
      rcases hp kp with ⟨e1, _, e3⟩ | ⟨e1, _, _, e4⟩
      · rw [if_pos ⟨rfl, e1⟩, R.sd, e3, List.map_append]; rfl
      · rw [if_neg (fun c => by rw [e1] at c; exact nomatch c.2), R.sd, e4]
    | false => rw [if_neg (fun c => Bool.false_ne_true c.1), R.sd, hn kp]
  · intro x hx
    cases kp : k.point with
    | true =>
      rcases hp kp with ⟨_, _, e3⟩ | ⟨_, _, _, e4⟩
      · rw [show ss' = _ from e3, List.mem_append] at hx
        rcases hx with hx | hx
        · exact R.s12 x hx
        · exact .inl (by simpa using hx)
      · rw [show ss' = _ from e4] at hx; exact R.s12 x hx
    | false => rw [show ss' = _ from hn kp] at hx; exact R.s12 x hx
theorem Rep.link {w : Wd} {s : Sd} {y : YR} (R : Rep w s y) {x z : En} (hx : w.ok x) (hz : w.ok z) : Rep (w.link x z) s { y with mates := putK (putK y.mates (kE x.2.1 x.2.2) (.ref z.1)) (kE z.2.1 z.2.2) (.ref x.1), trail := [] } := by
  have ke : ∀ (n e : Int) (u : En), kE n e = kE u.2.1 u.2.2 ↔ (n, e) = u.2 := fun n e u => by
    constructor
    · intro h
      injection h with h1 h2
      injection h2 with h2 _
      injection h1 with h1
      injection h2 with h2
      rw [h1, h2]
    · intro h
      rw [← h]
  refine ⟨R.kd, R.no, R.ro, R.rr, R.sd, R.s12, fun n e => ?_, fun n e u h => ?_, R.en, R.eo, R.rg⟩
  · show valV (putK (putK y.mates (kE x.2.1 x.2.2) (.ref z.1)) (kE z.2.1 z.2.2) (.ref x.1)) (kE n e) = Option.map _ (if (n, e) = z.2 then some x else if (n, e) = x.2 then some z else w.mf n e)
    rw [valV_put, valV_put]
    by_cases c1 : (n, e) = z.2
    · rw [if_pos ((ke _ _ _).mpr c1), if_pos c1]; rfl
    · rw [if_neg (fun h => c1 ((ke _ _ _).mp h)), if_neg c1]
      by_cases c2 : (n, e) = x.2
      · rw [if_pos ((ke _ _ _).mpr c2), if_pos c2]; rfl
      · rw [if_neg (fun h => c2 ((ke _ _ _).mp h)), if_neg c2]; exact R.mt n e
  · have h : (if (n, e) = z.2 then some x else if (n, e) = x.2 then some z else w.mf n e) = some u := h
    show w.ok u
    split at h
    · cases h; exact hx
    · split at h
      · cases h; exact hz
      · exact R.mo _ _ _ h
theorem Sz.link {y : YR} {n m : Nat} (h : Sz y n m) (k1 k2 : List Key) (v1 v2 : V) : Sz { y with mates := putK (putK y.mates k1 v1) k2 v2, trail := [] } n (m + 2) := by
  refine ⟨h.k, h.o, h.r, h.s, ?_, h.g, rfl⟩
  show (putK (putK y.mates k1 v1) k2 v2).length ≤ _
  have a := length_putK y.mates k1 v1
  have b := length_putK (putK y.mates k1 v1) k2 v2
  have := h.m
  omega
theorem Sz.rod {y : YR} {n m : Nat} (h : Sz y n m) (v : V) : Sz { y with sides := y.sides ++ [v], trail := [] } (n + 1) m :=
  ⟨Nat.le_succ_of_le h.k, Nat.le_succ_of_le h.o, Nat.le_succ_of_le h.r, by show (y.sides ++ [v]).length ≤ _; rw [List.length_append, List.length_singleton]; exact Nat.succ_le_succ h.s, h.m, h.g, rfl⟩
theorem Rep.throw {w : Wd} {s : Sd} {y : YR} (R : Rep w s y) (r : Nat) (x : Int) (hx : x = 1 ∨ x = 2) : Rep w { s with ss := s.ss.set r x } { y with sides := y.sides.set r (.int x), trail := [] } := by
  refine ⟨R.kd, R.no, R.ro, fun n k h1 h2 => by show _ ∧ _ < ((s.ss.set r x).length : Int); rw [List.length_set]; exact R.rr n k h1 h2, ?_, fun u hu => ?_, R.mt, R.mo, R.en, R.eo, R.rg⟩
  · show y.sides.set r (.int x) = (s.ss.set r x).map V.int
    rw [R.sd, List.map_set]
  · rcases List.mem_or_eq_of_mem_set hu with hu | hu
    · exact R.s12 u hu
    · rw [hu]; exact hx
theorem Rep.rod {w : Wd} {s : Sd} {y : YR} (R : Rep w s y) (x : Int) (hx : x = 1 ∨ x = 2) : Rep w { s with ss := s.ss ++ [x] } { y with sides := y.sides ++ [.int x], trail := [] } := by
  refine ⟨R.kd, R.no, R.ro, fun n k h1 h2 => by have := R.rr n k h1 h2; show _ ∧ _ < ((s.ss ++ [x]).length : Int); rw [List.length_append, List.length_singleton]; omega, ?_, fun u hu => ?_, R.mt, R.mo, R.en, R.eo, R.rg⟩
  · show y.sides ++ [.int x] = (s.ss ++ [x]).map V.int
    rw [R.sd, List.map_append]; rfl
  · rcases List.mem_append.mp hu with hu | hu
    · exact R.s12 u hu
    · rw [List.mem_singleton.mp hu]; exact hx
def w0 : Wd := ⟨fun _ => none, fun _ => 0, fun _ => 0, fun _ _ => none⟩
theorem Rep.nil : Rep w0 ⟨[], none, []⟩ y0 := ⟨(fun _ _ h => nomatch h), (fun _ _ h => nomatch h), (fun _ _ h => nomatch h), (fun _ _ h => nomatch h), rfl, (fun _ h => nomatch h), (fun _ _ => rfl), (fun _ _ _ h => nomatch h), rfl, (fun _ h => nomatch h), rfl⟩
theorem Wd.ok_there {w : Wd} {s : Sd} {y : YR} (R : Rep w s y) {z : En} (h : w.ok z) : There y z.2.1 z.2.2 := by
  obtain ⟨k, hk, e0, e1⟩ := h
  exact ⟨k, R.kd _ _ hk, e0, e1⟩
theorem Rep.free {w : Wd} {s : Sd} {y : YR} (R : Rep w s y) {n e : Int} (h : w.mf n e = none) : valV y.mates (kE n e) = none := by rw [R.mt, h]; rfl

end P


set_option Elab.async false
set_option linter.all false
set_option maxRecDepth 100000
set_option maxHeartbeats 4000000
namespace P
open PySem L2

theorem set_perm {α : Type} : ∀ (L : List α) (i : Nat) (x : α), i < L.length → (x :: L.eraseIdx i).Perm (L.set i x)
  | [], i, x, h => absurd h (Nat.not_lt_zero i)
  | a :: L, 0, x, h => List.Perm.refl _
  | a :: L, i + 1, x, h => (List.Perm.swap _ _ _).trans (List.Perm.cons a (set_perm L i x (by simpa using h)))
/-- one in the place of another -/
theorem Has.repl {H : Hp} {x : Addr × HO} {L : Kn} (h : Has H (x :: L)) (i : Nat) (hi : i < L.length) : Has H (L.set i x) :=
  (Has.sub h (List.Sublist.cons₂ x (List.eraseIdx_sublist L i))).perm (set_perm L i x hi)
/-- the keys are ends of the first two thousand pieces -/
def EK (kvs : List (List Key × V)) : Prop := ∀ k ∈ kvs.map (·.1), ∃ n e : Nat, n < 2000 ∧ e < 3 ∧ k = kE n e
theorem nodup_ix {l : List Nat} (h : l.Nodup) {i j : Nat} {x : Nat} (hi : l[i]? = some x) (hj : l[j]? = some x) : i = j := by
  obtain ⟨li, ei⟩ := List.getElem?_eq_some_iff.mp hi
  obtain ⟨lj, ej⟩ := List.getElem?_eq_some_iff.mp hj
  rcases Nat.lt_trichotomy i j with c | c | c
  · exact absurd (ei.trans ej.symm) (List.pairwise_iff_getElem.mp h i j li lj c)
  · exact c
  · exact absurd (ej.trans ei.symm) (List.pairwise_iff_getElem.mp h j i lj li c)
theorem hN_get (n e : Nat) (hn : n < 2000) (he : e < 3) : ((List.range 6000).map hN)[3 * n + e]? = some (hE n e + 9223372036854775808).toNat := by
  rw [List.getElem?_map, List.getElem?_range (by omega), Option.map_some]
  unfold hN
  rw [show (3 * n + e) / 3 = n by omega, show (3 * n + e) % 3 = e by omega]
theorem EK.inj {P : Program} {w : World} {kvs : List (List Key × V)} (h : EK kvs) : ∀ k1 ∈ kvs.map (·.1), ∀ k2 ∈ kvs.map (·.1), hashT P w k1 = hashT P w k2 → k1 = k2 := fun k1 h1 k2 h2 e => by
  obtain ⟨n1, e1, a1, b1, rfl⟩ := h k1 h1
  obtain ⟨n2, e2, a2, b2, rfl⟩ := h k2 h2
  have e' : hE n1 e1 = hE n2 e2 := e
  have g1 := hN_get n1 e1 a1 b1
  have g2 := hN_get n2 e2 a2 b2
  rw [← e'] at g2
  have ix := nodup_ix hN_nodup g1 g2
  have : n1 = n2 ∧ e1 = e2 := by omega
  rw [this.1, this.2]
theorem fl_put_kinds (A : YA) (next : Int) (eng : V) (q : Addr) : putF "kinds" (.ref q) (fl A next eng) = fl { A with k := q } next eng := by kernel_rfl
theorem fl_put_notes (A : YA) (next : Int) (eng : V) (q : Addr) : putF "notes" (.ref q) (fl A next eng) = fl { A with n := q } next eng := by kernel_rfl
theorem fl_put_rods_under (A : YA) (next : Int) (eng : V) (q : Addr) : putF "rods_under" (.ref q) (fl A next eng) = fl { A with r := q } next eng := by kernel_rfl
theorem fl_put_sides (A : YA) (next : Int) (eng : V) (q : Addr) : putF "sides" (.ref q) (fl A next eng) = fl { A with s := q } next eng := by kernel_rfl
theorem fl_put_mates (A : YA) (next : Int) (eng : V) (q : Addr) : putF "mates" (.ref q) (fl A next eng) = fl { A with m := q } next eng := by kernel_rfl
theorem fl_put_rung (A : YA) (next : Int) (eng : V) (q : Addr) : putF "rung" (.ref q) (fl A next eng) = fl { A with g := q } next eng := by kernel_rfl
theorem fl_m7 (A : YA) (next : Int) (eng : V) : (fl A next eng).lookup ("make_twin" : Str) = none := by kernel_rfl
def sp_make_twin (C : Addr) : Sp := fun vs H Q _ => ∃ (A : YA) (y : YR) (L : Kn), vs = [.ref A.p] ∧ Has H (yL C A y ++ L) ∧ EK y.mates ∧ ∀ H' B, Has H' (yL C B { y with trail := [] } ++ (yL C A y ++ L)) → Q (.ref B.p) H'
section
variable {P : Program} {w : World} {K : PySem.W.Frag} {mg : Str → Option Value} {base : Heap} {t : Adr}
theorem scMk7 : FnScope ["self", "other"] ["self"] (defScope s_Yard_make_twin) := ⟨rfl, rfl, rfl, by decide +kernel, rfl, by decide +kernel, by decide +kernel⟩
theorem ok_Yard_make_twin (T : Txt K mg t) : FnOk P w K mg base CX0 3 t.f_Yard_make_twin t.d_Yard_make_twin ["self"] (sp_make_twin t.c_Yard) := by
  refine T.F_Yard_make_twin.ok scMk7 (fun vs H Q E h => ?_) (fun cdv A outer s H vs Q E hr h => ?_)
  · obtain ⟨_, _, _, rfl, _⟩ := h
    rfl
  · obtain ⟨A, y, L, rfl, hH, ek, q⟩ := h
    refine ⟨_, (pss_cons (ps_set (i := 1) scMk7.nd rfl (Or.inl rfl) (pe_make0 T.mk_Yard (ok_Yard_init T) (hr.mono (by decide)) (by rfl) T.m_Yard (b_Yard_init T) .nil pass0))
      (pss_cons (ps_fld (pv 1) (pe_fld (pv 0) rfl) rfl)
      (pss_cons (ps_fld (pv 1) (pe_callTy call_dictK (by rfl) T.z_dict (by rfl) (pa_cons (pe_fld (pv 0) rfl) pa_nil)) rfl)
      (pss_cons (ps_fld (pv 1) (pe_callTy call_dictK (by rfl) T.z_dict (by rfl) (pa_cons (pe_fld (pv 0) rfl) pa_nil)) rfl)
      (pss_cons (ps_fld (pv 1) (pe_callTy call_dictK (by rfl) T.z_dict (by rfl) (pa_cons (pe_fld (pv 0) rfl) pa_nil)) rfl)
      (pss_cons (ps_fld (pv 1) (pe_callTy call_list_of (by rfl) T.z_list (by rfl) (pa_cons (pe_fld (pv 0) rfl) pa_nil)) rfl)
      (pss_cons (ps_fld (pv 1) (pe_callTy call_dictT (by rfl) T.z_dict (by rfl) (pa_cons (pe_fld (pv 0) rfl) pa_nil)) rfl)
      (pss_cons (ps_fld (pv 1) (pe_fld (pv 0) rfl) rfl)
      (pss_cons (ps_fld (pv 1) (pe_callTy call_list_of (by rfl) T.z_list (by rfl) (pa_cons (pe_fld (pv 0) rfl) pa_nil)) rfl)
      (pss_one (ps_ret (pv 1)))))))))))), ?_⟩
    intro p1 dx1 hp1 hdx1 ne1
    refine ⟨p1, dx1, _, rfl, (hH.alloc hdx1 (.own p1)).alloc (by rw [upd_ne (Ne.symm ne1)]; exact hp1) (.ins t.c_Yard dx1 []), fun H2 B e1 h => ⟨rfl, ?_⟩⟩
    subst e1
    clear hp1 hdx1 ne1 hH
    -- other.next_piece
    refine ⟨_, rfl, A.p, _, A.dx, _, _, rfl, h.get 10 rfl, T.cl_Yard, T.n_Yard_next_piece, fl_next _ _ _, ?_⟩
    refine ⟨_, rfl, B.p, _, B.dx, _, rfl, h.get 1 rfl, T.cl_Yard, T.n_Yard_next_piece, (show 9 < 1000 by decide), ?_⟩
    rw [show (y0.next) = 0 from rfl, fl_put_next]
    replace h : Has _ (yL t.c_Yard B { y0 with next := y.next } ++ (yL t.c_Yard A y ++ L)) := h.puti 1 rfl (.ins t.c_Yard B.dx (fl B y.next y0.eng))
    -- other.kinds
    refine ⟨_, rfl, A.p, _, A.dx, _, _, rfl, h.get 10 rfl, T.cl_Yard, T.n_Yard_kinds, fl_kinds _ _ _, A.k, _, rfl, .inl (h.get 12 rfl), fun l_k hl_k => ?_⟩
    refine ⟨_, rfl, B.p, _, B.dx, _, rfl, (h.alloc hl_k _).get 2 rfl, T.cl_Yard, T.n_Yard_kinds, (show 9 < 1000 by decide), ?_⟩
    rw [fl_put_kinds]
    replace h : Has _ (yL t.c_Yard { B with k := l_k } { y0 with next := y.next, kinds := y.kinds } ++ (yL t.c_Yard A y ++ L)) := Has.repl ((h.alloc hl_k (.dK y.kinds)).puti 2 rfl (.ins t.c_Yard B.dx (fl { B with k := l_k } y.next .non))) 3 (by simp [yL])
    clear hl_k
    -- other.notes
    refine ⟨_, rfl, A.p, _, A.dx, _, _, rfl, h.get 10 rfl, T.cl_Yard, T.n_Yard_notes, fl_notes _ _ _, A.n, _, rfl, .inl (h.get 13 rfl), fun l_n hl_n => ?_⟩
    refine ⟨_, rfl, B.p, _, B.dx, _, rfl, (h.alloc hl_n _).get 2 rfl, T.cl_Yard, T.n_Yard_notes, (show 9 < 1000 by decide), ?_⟩
    rw [fl_put_notes]
    replace h : Has _ (yL t.c_Yard { B with k := l_k, n := l_n } { y0 with next := y.next, kinds := y.kinds, notes := y.notes } ++ (yL t.c_Yard A y ++ L)) := Has.repl ((h.alloc hl_n (.dK y.notes)).puti 2 rfl (.ins t.c_Yard B.dx (fl { B with k := l_k, n := l_n } y.next .non))) 4 (by simp [yL])
    clear hl_n
    -- other.rods_under
    refine ⟨_, rfl, A.p, _, A.dx, _, _, rfl, h.get 10 rfl, T.cl_Yard, T.n_Yard_rods_under, fl_rods _ _ _, A.r, _, rfl, .inl (h.get 14 rfl), fun l_r hl_r => ?_⟩
    refine ⟨_, rfl, B.p, _, B.dx, _, rfl, (h.alloc hl_r _).get 2 rfl, T.cl_Yard, T.n_Yard_rods_under, (show 9 < 1000 by decide), ?_⟩
    rw [fl_put_rods_under]
    replace h : Has _ (yL t.c_Yard { B with k := l_k, n := l_n, r := l_r } { y0 with next := y.next, kinds := y.kinds, notes := y.notes, rods := y.rods } ++ (yL t.c_Yard A y ++ L)) := Has.repl ((h.alloc hl_r (.dK y.rods)).puti 2 rfl (.ins t.c_Yard B.dx (fl { B with k := l_k, n := l_n, r := l_r } y.next .non))) 5 (by simp [yL])
    clear hl_r
    -- other.sides
    refine ⟨_, rfl, A.p, _, A.dx, _, _, rfl, h.get 10 rfl, T.cl_Yard, T.n_Yard_sides, fl_sides _ _ _, A.s, _, rfl, .inl (SqL.of (h.get 15 rfl)), fun l_s hl_s => ?_⟩
    refine ⟨_, rfl, B.p, _, B.dx, _, rfl, (h.alloc hl_s _).get 2 rfl, T.cl_Yard, T.n_Yard_sides, (show 9 < 1000 by decide), ?_⟩
    rw [fl_put_sides]
    replace h : Has _ (yL t.c_Yard { B with k := l_k, n := l_n, r := l_r, s := l_s } { y0 with next := y.next, kinds := y.kinds, notes := y.notes, rods := y.rods, sides := y.sides } ++ (yL t.c_Yard A y ++ L)) := Has.repl ((h.alloc hl_s (.lst y.sides)).puti 2 rfl (.ins t.c_Yard B.dx (fl { B with k := l_k, n := l_n, r := l_r, s := l_s } y.next .non))) 6 (by simp [yL])
    clear hl_s
    -- other.mates
    refine ⟨_, rfl, A.p, _, A.dx, _, _, rfl, h.get 10 rfl, T.cl_Yard, T.n_Yard_mates, fl_mates _ _ _, A.m, _, rfl, .inl (h.get 16 rfl), ek.inj, fun l_m hl_m => ?_⟩
    refine ⟨_, rfl, B.p, _, B.dx, _, rfl, (h.alloc hl_m _).get 2 rfl, T.cl_Yard, T.n_Yard_mates, (show 9 < 1000 by decide), ?_⟩
    rw [fl_put_mates]
    replace h : Has _ (yL t.c_Yard { B with k := l_k, n := l_n, r := l_r, s := l_s, m := l_m } { y0 with next := y.next, kinds := y.kinds, notes := y.notes, rods := y.rods, sides := y.sides, mates := y.mates } ++ (yL t.c_Yard A y ++ L)) := Has.repl ((h.alloc hl_m (.dT y.mates)).puti 2 rfl (.ins t.c_Yard B.dx (fl { B with k := l_k, n := l_n, r := l_r, s := l_s, m := l_m } y.next .non))) 7 (by simp [yL])
    clear hl_m
    -- other.engine_end
    refine ⟨_, rfl, A.p, _, A.dx, _, _, rfl, h.get 10 rfl, T.cl_Yard, T.n_Yard_engine_end, fl_eng _ _ _, ?_⟩
    refine ⟨_, rfl, B.p, _, B.dx, _, rfl, h.get 1 rfl, T.cl_Yard, T.n_Yard_engine_end, (show 9 < 1000 by decide), ?_⟩
    rw [fl_put_eng]
    replace h : Has _ (yL t.c_Yard { B with k := l_k, n := l_n, r := l_r, s := l_s, m := l_m } { y0 with next := y.next, kinds := y.kinds, notes := y.notes, rods := y.rods, sides := y.sides, mates := y.mates, eng := y.eng } ++ (yL t.c_Yard A y ++ L)) := h.puti 1 rfl (.ins t.c_Yard B.dx (fl { B with k := l_k, n := l_n, r := l_r, s := l_s, m := l_m } y.next y.eng))
    -- other.rung
    refine ⟨_, rfl, A.p, _, A.dx, _, _, rfl, h.get 10 rfl, T.cl_Yard, T.n_Yard_rung, fl_rung _ _ _, A.g, _, rfl, .inl (SqL.of (h.get 17 rfl)), fun l_g hl_g => ?_⟩
    refine ⟨_, rfl, B.p, _, B.dx, _, rfl, (h.alloc hl_g _).get 2 rfl, T.cl_Yard, T.n_Yard_rung, (show 9 < 1000 by decide), ?_⟩
    rw [fl_put_rung]
    replace h : Has _ (yL t.c_Yard { B with k := l_k, n := l_n, r := l_r, s := l_s, m := l_m, g := l_g } { y0 with next := y.next, kinds := y.kinds, notes := y.notes, rods := y.rods, sides := y.sides, mates := y.mates, eng := y.eng, rung := y.rung } ++ (yL t.c_Yard A y ++ L)) := Has.repl ((h.alloc hl_g (.lst y.rung)).puti 2 rfl (.ins t.c_Yard B.dx (fl { B with k := l_k, n := l_n, r := l_r, s := l_s, m := l_m, g := l_g } y.next y.eng))) 8 (by simp [yL])
    clear hl_g
    refine ⟨_, rfl, q _ { B with k := l_k, n := l_n, r := l_r, s := l_s, m := l_m, g := l_g } h⟩
theorem scTn : FnScope ["yard"] ["yard"] (defScope s_twin) := ⟨rfl, rfl, rfl, by decide +kernel, rfl, by decide +kernel, by decide +kernel⟩
theorem ok_twin (T : Txt K mg t) : FnOk P w K mg base CX0 4 t.f_twin t.d_twin ["yard"] (sp_make_twin t.c_Yard) := by
  refine T.F_twin.ok scTn (fun vs H Q E h => ?_) (fun cdv A outer s H vs Q E hr h => ?_)
  · obtain ⟨_, _, _, rfl, _⟩ := h
    rfl
  · obtain ⟨A, y, L, rfl, hH, ek, q⟩ := h
    refine ⟨_, (pss_one (ps_ret (pe_meth0 (pv 0) T.cl_Yard T.M_Yard_make_twin (ok_Yard_make_twin T) (hr.mono (by decide)) (b_Yard_make_twin T) .nil pass0))), ?_⟩
    exact ⟨_, rfl, A.p, A.dx, _, rfl, hH.get 1 rfl, fl_m7 _ _ _, A, y, L, rfl, hH, ek, q⟩
end

end P


set_option Elab.async false
set_option linter.all false
set_option maxRecDepth 100000
set_option maxHeartbeats 4000000
namespace P
open PySem L2

/-- like in end and sides -/
structure Lk (s1 s2 : Sd) : Prop where
  s : s1.ss = s2.ss
  a : s1.at_.map (·.2) = s2.at_.map (·.2)
theorem opt_cases {α β : Type} {f : α → β} {x y : Option α} (h : x.map f = y.map f) : (x = none ∧ y = none) ∨ ∃ u v, x = some u ∧ y = some v ∧ f u = f v := by
  cases x with
  | none => cases y with
    | none => exact .inl ⟨rfl, rfl⟩
    | some v => cases h
  | some u => cases y with
    | none => cases h
    | some v => exact .inr ⟨u, v, rfl, rfl, Option.some.inj h⟩
theorem nx_none_at {w : Wd} {s : Sd} (h : s.at_ = none) : w.nx s = none := by unfold Wd.nx; simp only [h]
theorem lk_nx {w : Wd} {s1 s2 : Sd} (S : Lk s1 s2) : (w.nx s1 = none ∧ w.nx s2 = none) ∨ ∃ t1 t2, w.nx s1 = some t1 ∧ w.nx s2 = some t2 ∧ Lk t1 t2 := by
  rcases opt_cases S.a with ⟨h1, h2⟩ | ⟨z1, z2, h1, h2, e⟩
  · exact .inl ⟨nx_none_at h1, nx_none_at h2⟩
  · have sv : w.sv s1 z1.2.1 = w.sv s2 z2.2.1 := by unfold Wd.sv; rw [S.s, e]
    cases hk : w.kf z2.2.1 with
    | none =>
      left
      refine ⟨?_, ?_⟩
      · unfold Wd.nx; simp only [h1]; rw [e, hk]
      · unfold Wd.nx; simp only [h2]; rw [hk]
    | some k =>
      have hk1 : w.kf z1.2.1 = some k := by rw [e, hk]
      cases ho : k.out z2.2.2 (w.sv s2 z2.2.1) with
      | int o =>
        have ho1 : k.out z1.2.2 (w.sv s1 z1.2.1) = .int o := by rw [sv, e]; exact ho
        cases hm : w.mf z2.2.1 o with
        | none =>
          have hm1 : w.mf z1.2.1 o = none := by rw [e]; exact hm
          left
          refine ⟨?_, ?_⟩
          · unfold Wd.nx; simp only [h1, hk1, ho1, hm1, Option.map_none]
          · unfold Wd.nx; simp only [h2, hk, ho, hm, Option.map_none]
        | some u =>
          have hm1 : w.mf z1.2.1 o = some u := by rw [e]; exact hm
          right
          refine ⟨_, _, nx_of h1 hk1 ho1 hm1, nx_of h2 hk ho hm, ?_, ?_⟩
          · unfold stepS; dsimp only; rw [S.s, sv, e]
          · rw [stepS_at, stepS_at]
      | _ =>
        left
        have ho1 := ho
        rw [← sv, ← e] at ho1
        refine ⟨?_, ?_⟩
        · unfold Wd.nx; simp only [h1, hk1, ho1]
        · unfold Wd.nx; simp only [h2, hk, ho]
theorem lk_hist {w : Wd} : ∀ (n : Nat) {s1 s2 : Sd}, Lk s1 s2 → (w.hist n s1).length = (w.hist n s2).length
  | 0, s1, s2, S => rfl
  | n + 1, s1, s2, S => by
    rcases lk_nx (w := w) S with ⟨h1, h2⟩ | ⟨t1, t2, h1, h2, T⟩
    · rw [hist_held w h1, hist_held w h2]
    · rw [hist_succ w h1, hist_succ w h2, List.length_cons, List.length_cons, lk_hist n T]
theorem go_sum (w : Wd) : ∀ (a b : Nat) (s : Sd), w.go (a + b) s = w.go b (w.go a s) ∧ (w.hist (a + b) s).length = (w.hist a s).length + (w.hist b (w.go a s)).length
  | 0, b, s => by rw [Nat.zero_add]; exact ⟨rfl, (Nat.zero_add _).symm⟩
  | a + 1, b, s => by
    rw [show a + 1 + b = (a + b) + 1 by omega]
    cases h : w.nx s with
    | none => rw [go_held w h, go_held w h, go_held w h, hist_held w h, hist_held w h, hist_held w h]; exact ⟨rfl, rfl⟩
    | some s' =>
      rw [go_succ w h, go_succ w h, hist_succ w h, hist_succ w h]
      have := go_sum w a b s'
      exact ⟨this.1, by rw [List.length_cons, List.length_cons, this.2]; omega⟩
theorem hist_len_le (w : Wd) : ∀ (n : Nat) (s : Sd), (w.hist n s).length ≤ n
  | 0, s => Nat.le_refl _
  | n + 1, s => by
    cases h : w.nx s with
    | none => rw [hist_held w h]; exact Nat.zero_le _
    | some s' => rw [hist_succ w h, List.length_cons]; have := hist_len_le w n s'; omega
theorem go_rg_le (w : Wd) : ∀ (n : Nat) (s : Sd), (w.go n s).rg.length ≤ s.rg.length + n
  | 0, s => Nat.le_refl _
  | n + 1, s => by
    cases h : w.nx s with
    | none => rw [go_held w h]; omega
    | some s' =>
      rw [go_succ w h]
      have h1 := go_rg_le w n s'
      obtain ⟨z, k, o, z', _, _, _, _, rfl⟩ := nx_some h
      have h2 := stepS_rg_le (w := w) (s := s) (z := z) (k := k) (z' := z')
      omega
/-- the run is held behind D steps -/
def EndsAt (w : Wd) (s : Sd) (D : Nat) : Prop := (w.hist D s).length = D ∧ w.nx (w.go D s) = none
theorem EndsAt.len {w : Wd} {s : Sd} {D : Nat} (h : EndsAt w s D) (n : Nat) : (w.hist n s).length = min n D := by
  by_cases c : n ≤ D
  · have := (go_sum w n (D - n) s).2
    rw [show n + (D - n) = D by omega, h.1] at this
    have h1 := hist_len_le w n s
    have h2 := hist_len_le w (D - n) (w.go n s)
    omega
  · have := (go_sum w D (n - D) s).2
    rw [show D + (n - D) = n by omega, h.1, hist_held w h.2] at this
    rw [this]
    show D + 0 = min n D
    omega
theorem EndsAt.go {w : Wd} {s : Sd} {D : Nat} (h : EndsAt w s D) {n : Nat} (hn : D ≤ n) : w.go n s = w.go D s := by
  have := (go_sum w D (n - D) s).1
  rw [show D + (n - D) = n by omega, go_held w h.2] at this
  exact this
theorem EndsAt.nolk {w : Wd} {s : Sd} {D : Nat} (h : EndsAt w s D) {i j : Nat} (hij : i < j) (hj : j ≤ D) (l : Lk (w.go i s) (w.go j s)) : False := by
  have h1 := lk_hist (w := w) D l
  have a1 := (go_sum w i D s).2
  have a2 := (go_sum w j D s).2
  rw [h.len, h.len] at a1 a2
  omega
/-- where a run is on, the engine stands at a place -/
theorem go_on_at {w : Wd} : ∀ (n : Nat) (s : Sd), s.at_ ≠ none → (w.go n s).at_ ≠ none
  | 0, s, h => h
  | n + 1, s, h => by
    cases hx : w.nx s with
    | none => rw [go_held w hx]; exact h
    | some s' =>
      rw [go_succ w hx]
      refine go_on_at n s' ?_
      obtain ⟨z, k, o, z', _, _, _, _, rfl⟩ := nx_some hx
      rw [stepS_at]; exact fun e => nomatch e
theorem Pool.go' {w : Wd} {L : Kn} : ∀ (n : Nat) {s : Sd}, Pool w s L → Pool w (w.go n s) L
  | 0, _, p => p
  | n + 1, s, p => by
    cases h : w.nx s with
    | none => rw [go_held w h]; exact p
    | some s' => rw [go_succ w h]; exact Pool.go' n (p.step h)
def sp_alike (C : Addr) : Sp := fun vs H Q _ => ∃ (A1 A2 : YA) (y1 y2 : YR) (M1 L : Kn) (z1 z2 : En) (ss1 ss2 : List Int), vs = [.ref A1.p, .ref A2.p] ∧ Has H (yL C A1 y1 ++ (M1 ++ (yL C A2 y2 ++ L))) ∧ y1.eng = .ref z1.1 ∧ y2.eng = .ref z2.1 ∧ (z1.1, HO.tup [.int z1.2.1, .int z1.2.2]) ∈ L ∧ (z2.1, HO.tup [.int z2.2.1, .int z2.2.2]) ∈ L ∧
  y1.sides = ss1.map V.int ∧ y2.sides = ss2.map V.int ∧ Q (.bl (decide (z1.2 = z2.2) && decide (ss1 = ss2))) H
section
variable {P : Program} {w : World} {K : PySem.W.Frag} {mg : Str → Option Value} {base : Heap} {t : Adr}
theorem scAk : FnScope ["one", "other"] ["one", "other"] (defScope s_alike) := ⟨rfl, rfl, rfl, by decide +kernel, rfl, by decide +kernel, by decide +kernel⟩
theorem ok_alike (T : Txt K mg t) : FnOk P w K mg base CX0 2 t.f_alike t.d_alike ["one", "other"] (sp_alike t.c_Yard) := by
  refine T.F_alike.ok scAk (fun vs H Q E h => ?_) (fun cdv A outer s H vs Q E hr h => ?_)
  · obtain ⟨_, _, _, _, _, _, _, _, _, _, rfl, _⟩ := h
    rfl
  · obtain ⟨A1, A2, y1, y2, M1, L, z1, z2, ss1, ss2, rfl, hH, e1, e2, m1, m2, s1, s2, q⟩ := h
    refine ⟨_, (pss_one (ps_ret (pe_and (pe_cmpR (op_eqT hr.units) (pe_meth0 (pv 0) T.cl_Yard T.M_Yard_engine (ok_Yard_engine T) (hr.mono (by decide)) (b_Yard_engine T) .nil pass0) (pe_meth0 (pv 1) T.cl_Yard T.M_Yard_engine (ok_Yard_engine T) (hr.mono (by decide)) (b_Yard_engine T) .nil pass0) (nomark _)) (pe_one (pe_cmpR (op_eqL hr.units) (pe_fld (pv 0) rfl) (pe_fld (pv 1) rfl) (nomark _)))))), ?_⟩
    have inL : ∀ {x : Addr × HO}, x ∈ L → H x.1 = some x.2 := fun {x} hx => hH.at_ x (List.mem_append_right _ (List.mem_append_right _ (List.mem_append_right _ hx)))
    have h2 : Has H (yL t.c_Yard A2 y2 ++ ((yL t.c_Yard A1 y1 ++ M1) ++ L)) := by
      refine Has.comm (X := yL t.c_Yard A1 y1 ++ M1) (Y := yL t.c_Yard A2 y2) (R := L) ?_
      rw [List.append_assoc]; exact hH
    refine ⟨_, rfl, A1.p, A1.dx, _, rfl, hH.get 1 rfl, (fl_m4 _ _ _).2.2.2.2.2.2.1, A1, y1, _, rfl, hH, ?_⟩
    refine ⟨_, rfl, A2.p, A2.dx, _, rfl, h2.get 1 rfl, (fl_m4 _ _ _).2.2.2.2.2.2.1, A2, y2, _, rfl, h2, ?_⟩
    refine ⟨z1.1, z2.1, [z1.2.1, z1.2.2], [z2.2.1, z2.2.2], e1, e2, inL m1, inL m2, _, rfl, ?_⟩
    have ez : (if false = true then !decide ([z1.2.1, z1.2.2] = [z2.2.1, z2.2.2]) else decide ([z1.2.1, z1.2.2] = [z2.2.1, z2.2.2])) = decide (z1.2 = z2.2) := by
      rw [if_neg Bool.false_ne_true]
      by_cases c : z1.2 = z2.2
      · rw [c]; simp
      · rw [decide_eq_false c, decide_eq_false (fun h => c (by injection h with a b; injection b with b _; exact Prod.ext a b))]
    rw [ez]
    refine if2 (fun c => ?_) (fun c => ?_)
    · rw [c] at q
      refine ⟨_, rfl, A1.p, _, A1.dx, _, _, rfl, hH.get 1 rfl, T.cl_Yard, T.n_Yard_sides, fl_sides _ _ _, ?_⟩
      refine ⟨_, rfl, A2.p, _, A2.dx, _, _, rfl, h2.get 1 rfl, T.cl_Yard, T.n_Yard_sides, fl_sides _ _ _, ?_⟩
      refine ⟨A1.s, A2.s, ss1, ss2, rfl, rfl, ?_, ?_, ?_⟩
      · rw [← s1]; exact SqL.of (hH.get 6 rfl)
      · rw [← s2]; exact SqL.of (h2.get 6 rfl)
      · rw [if_neg Bool.false_ne_true]; simpa using q
    · rw [c] at q
      exact q
end

theorem Rep.twin {W : Wd} {s : Sd} {y : YR} (R : Rep W s y) : Rep W s { y with trail := [] } := ⟨R.kd, R.no, R.ro, R.rr, R.sd, R.s12, R.mt, R.mo, R.en, R.eo, R.rg⟩
theorem why_on {W : Wd} {s s' : Sd} (h : W.nx s = some s') : W.why s = .non := by
  obtain ⟨z, k, o, z', hz, hk, ho, hm, _⟩ := nx_some h
  exact why_goes hz hk ho hm
/-- a run that goes round: mu steps to it, lam long -/
structure Cyc (w : Wd) (s : Sd) (mu lam : Nat) : Prop where
  l0 : 0 < lam
  on : ∀ n, (w.hist n s).length = n
  lk : ∀ i j, i < j → (Lk (w.go i s) (w.go j s) ↔ mu ≤ i ∧ lam ∣ (j - i))
theorem Cyc.one {w : Wd} {s : Sd} {mu lam : Nat} (C : Cyc w s mu lam) (i k : Nat) : (w.hist k (w.go i s)).length = k := by
  have := (go_sum w i k s).2
  rw [C.on, C.on] at this
  omega
theorem Cyc.nx {w : Wd} {s : Sd} {mu lam : Nat} (C : Cyc w s mu lam) (i : Nat) : ∃ s', w.nx (w.go i s) = some s' := by
  cases h : w.nx (w.go i s) with
  | none => have := C.one i 1; rw [hist_held w h] at this; cases this
  | some s' => exact ⟨s', rfl⟩
theorem Cyc.eq {w : Wd} {s : Sd} {mu lam : Nat} (C : Cyc w s mu lam) {i j : Nat} (h : i < j) {z1 z2 : En} (h1 : (w.go i s).at_ = some z1) (h2 : (w.go j s).at_ = some z2) :
    (decide (z1.2 = z2.2) && decide ((w.go i s).ss = (w.go j s).ss)) = decide (mu ≤ i ∧ lam ∣ (j - i)) := by
  have e : (z1.2 = z2.2 ∧ (w.go i s).ss = (w.go j s).ss) ↔ Lk (w.go i s) (w.go j s) := by
    constructor
    · rintro ⟨a, b⟩; exact ⟨b, by rw [h1, h2]; exact congrArg some a⟩
    · rintro ⟨b, a⟩; rw [h1, h2] at a; exact ⟨Option.some.inj a, b⟩
  rw [← Bool.decide_and]
  exact decide_eq_decide.mpr (e.trans (C.lk i j h))
def roundV (mu lam n : Nat) : List V := if mu + lam ≤ n then [.str "round", .int mu, .int lam] else [.str "open", .int n]
def sp_on_round (C : Addr) : Sp := fun vs H Q _ => ∃ (A A2 : YA) (y y2 : YR) (M L : Kn) (ts2 : List (Addr × Sd)) (W : Wd) (s : Sd) (i lim mu lam : Nat), vs = [.ref A.p, .ref A2.p, .int lim] ∧ Has H (yL C A2 y2 ++ (trK W ts2 ++ (M ++ (yL C A y ++ L)))) ∧ Rep W s y ∧ Rep W (W.go i s) y2 ∧ y2.trail = trV ts2 ∧ ts2.length ≤ 200000 ∧ Pool W s L ∧ EK y.mates ∧ Cyc W s mu lam ∧ lam ∣ i ∧ mu ≤ i ∧ 1 ≤ i ∧ i ≤ 200000 ∧ mu ≤ 10000 ∧ lam ≤ 10000 ∧ s.rg.length ≤ 100000 ∧ s.at_ ≠ none ∧
  ∀ H' p, Has H' ((p, .tup (roundV mu lam lim)) :: (yL C A y ++ L)) → Q (.ref p) H'
def orInv (C : Addr) (A A2 F : YA) (y : YR) (M L : Kn) (W : Wd) (s : Sd) (i lim mu : Nat) (r : Nat) (σ : St) (H : Hp) : Prop :=
  ∃ (b : Nat) (yf y2 : YR) (tf t2 : List (Addr × Sd)) (o1 : Option V), r = mu - b ∧ b ≤ mu ∧ σ = [some (.ref A.p), some (.ref A2.p), some (.int lim), some (.ref F.p), some (.int b), o1] ∧
    Has H (yL C F yf ++ (trK W tf ++ (yL C A2 y2 ++ (trK W t2 ++ (M ++ (yL C A y ++ L)))))) ∧ Rep W (W.go b s) yf ∧ Rep W (W.go (i + b) s) y2 ∧ yf.trail = trV tf ∧ y2.trail = trV t2 ∧ tf.length ≤ b ∧ t2.length ≤ 200000 + b
def orInv2 (C : Addr) (A A2 F : YA) (y : YR) (M L : Kn) (W : Wd) (s : Sd) (i lim mu lam : Nat) (r : Nat) (σ : St) (H : Hp) : Prop :=
  ∃ (l : Nat) (yf y2 : YR) (tf t2 : List (Addr × Sd)), r = lam - l ∧ 1 ≤ l ∧ l ≤ lam ∧ σ = [some (.ref A.p), some (.ref A2.p), some (.int lim), some (.ref F.p), some (.int mu), some (.int l)] ∧
    Has H (yL C F yf ++ (trK W tf ++ (yL C A2 y2 ++ (trK W t2 ++ (M ++ (yL C A y ++ L)))))) ∧ Rep W (W.go mu s) yf ∧ Rep W (W.go (i + mu + l) s) y2 ∧ y2.trail = trV t2 ∧ t2.length ≤ 210000 + l
section
variable {P : Program} {w : World} {K : PySem.W.Frag} {mg : Str → Option Value} {base : Heap} {t : Adr}
theorem scOr : FnScope ["yard", "ahead", "limit", "first", "begin", "length"] ["yard", "ahead", "limit"] (defScope s_fate_on_round) := ⟨rfl, rfl, rfl, by decide +kernel, rfl, by decide +kernel, by decide +kernel⟩
theorem ok_fate_on_round (T : Txt K mg t) : FnOk P w K mg base CX0 7 t.f_fate_on_round t.d_fate_on_round ["yard", "ahead", "limit"] (sp_on_round t.c_Yard) := by
  refine T.F_fate_on_round.ok scOr (fun vs H Q E h => ?_) (fun cdv A outer s H vs Q E hr h => ?_)
  · obtain ⟨_, _, _, _, _, _, _, _, _, _, _, _, _, rfl, _⟩ := h
    rfl
  · obtain ⟨A, A2, y, y2, M, L, ts2, W, s0, i, lim, mu, lam, rfl, hH, R, R2, t2e, t2l, PL, ek, Cy, di, mi, i1, ib, mb, lb, rb, at0, q⟩ := h
    refine ⟨_, (pss_cons (ps_set (i := 3) scOr.nd rfl (Or.inl rfl) (pe_call (ok_twin T) (hr.mono (by decide)) (by rfl) T.m_twin T.F_twin.kp (b_twin T) .nil pass0 (pa_cons (pv 0) pa_nil)))
      (pss_cons (ps_set (i := 4) scOr.nd rfl (Or.inl rfl) pe_int)
      (pss_cons (ps_while PassesOwn.never (pt_not (pt_val (pe_call (ok_alike T) (hr.mono (by decide)) (by rfl) T.m_alike T.F_alike.kp (b_alike T) .nil pass0 (pa_cons (pv 3) (pa_cons (pv 1) pa_nil)))))
        (pss_cons (ps_aug (i := 4) scOr.nd rfl (Or.inl rfl) (pe_call (ok_run T) (hr.mono (by decide)) (by rfl) T.m_run T.F_run.kp (b_run T) .nil pass0 (pa_cons (pv 3) (pa_cons pe_int pa_nil))) ip_add)
          (pss_one (ps_expr (pe_call (ok_run T) (hr.mono (by decide)) (by rfl) T.m_run T.F_run.kp (b_run T) .nil pass0 (pa_cons (pv 1) (pa_cons pe_int pa_nil)))))))
      (pss_cons (ps_set (i := 5) scOr.nd rfl (Or.inl rfl) (pe_call (ok_run T) (hr.mono (by decide)) (by rfl) T.m_run T.F_run.kp (b_run T) .nil pass0 (pa_cons (pv 1) (pa_cons pe_int pa_nil))))
      (pss_cons (ps_while PassesOwn.never (pt_not (pt_val (pe_call (ok_alike T) (hr.mono (by decide)) (by rfl) T.m_alike T.F_alike.kp (b_alike T) .nil pass0 (pa_cons (pv 3) (pa_cons (pv 1) pa_nil)))))
        (pss_one (ps_aug (i := 5) scOr.nd rfl (Or.inl rfl) (pe_call (ok_run T) (hr.mono (by decide)) (by rfl) T.m_run T.F_run.kp (b_run T) .nil pass0 (pa_cons (pv 1) (pa_cons pe_int pa_nil))) ip_add)))
      (pss_cons (ps_if (pt_cmpR op_gt (pe_op op_add (pv 4) (pv 5)) (pv 2) (nomark _))
        (pss_one (ps_ret (pe_tup (pa_cons pe_str (pa_cons (pv 2) pa_nil)))))
        pss_nil)
      (pss_one (ps_ret (pe_tup (pa_cons pe_str (pa_cons (pv 4) (pa_cons (pv 5) pa_nil)))))))))))), ?_⟩
    have h1 : Has H (yL t.c_Yard A y ++ ((yL t.c_Yard A2 y2 ++ (trK W ts2 ++ M)) ++ L)) := by
      refine Has.comm (X := yL t.c_Yard A2 y2 ++ (trK W ts2 ++ M)) (Y := yL t.c_Yard A y) (R := L) ?_
      rw [List.append_assoc, List.append_assoc]; exact hH
    refine ⟨_, rfl, A, y, _, rfl, h1, ek, fun H1 F h2 => ?_⟩
    have h3 : Has H1 (yL t.c_Yard F { y with trail := [] } ++ (trK W [] ++ (yL t.c_Yard A2 y2 ++ (trK W ts2 ++ (M ++ (yL t.c_Yard A y ++ L)))))) := by
      refine Has.perm h2 (List.Perm.append_left _ ?_)
      refine (List.perm_append_comm_assoc _ _ _).trans ?_
      rw [List.append_assoc, List.append_assoc]
      exact .refl _
    clear h2 h1 hH
    dsimp only [tSeq, tAsg, tC, gName, List.set]
    refine ⟨orInv t.c_Yard A A2 F y M L W s0 i lim mu, ⟨_, 0, _, _, [], ts2, _, rfl, Nat.zero_le _, rfl, h3, R.twin, R2, rfl, t2e, Nat.zero_le _, t2l⟩, ?_⟩
    clear h3 R2 t2e t2l
    rintro r σ H2 ⟨b, yf, y2, tf, t2, o1, rfl, bm, rfl, h2, Rf, R2, tfe, t2e, tfl, t2l⟩
    have a1 := go_on_at (w := W) (b) s0 at0
    have a2 := go_on_at (w := W) ((i + b)) s0 at0
    obtain ⟨z1, hz1⟩ := Option.ne_none_iff_exists'.mp a1
    obtain ⟨z2, hz2⟩ := Option.ne_none_iff_exists'.mp a2
    obtain ⟨j1, g1⟩ := (PL.go' (b)).e z1 hz1
    obtain ⟨j2, g2⟩ := (PL.go' ((i + b))).e z2 hz2
    have ce := Cy.eq (show b < (i + b) by omega) hz1 hz2
    have ce' : (decide (z1.2 = z2.2) && decide ((W.go b s0).ss = (W.go (i + b) s0).ss)) = decide (mu ≤ b) := by
      rw [ce, show i + b - b = i by omega]
      exact decide_eq_decide.mpr ⟨fun h => h.1, fun h => ⟨h, di⟩⟩
    refine ⟨_, rfl, _, rfl, F, A2, yf, y2, _, _, z1, z2, (W.go b s0).ss, (W.go (i + b) s0).ss, rfl, h2, (by rw [Rf.en, hz1]; rfl), (by rw [R2.en, hz2]; rfl), List.mem_append_right _ (List.mem_append_right _ (List.mem_append_right _ (List.mem_of_getElem? g1))), List.mem_append_right _ (List.mem_append_right _ (List.mem_append_right _ (List.mem_of_getElem? g2))), Rf.sd, R2.sd, _, rfl, ?_⟩
    rw [ce']
    clear ce ce' z1 z2 hz1 hz2 g1 g2 a1 a2
    have rf := go_rg_le W b s0
    have r2 := go_rg_le W (i + b) s0
    have rfl' : yf.rung.length ≤ 400000 := by rw [Rf.rg, List.length_map]; omega
    have r2l : y2.rung.length ≤ 400000 := by rw [R2.rg, List.length_map]; omega
    refine ifdn (fun hc => ?_) (fun hc => ?_)
    · refine ⟨fun σ' H' => ∃ r', r' < mu - b ∧ orInv t.c_Yard A A2 F y M L W s0 i lim mu r' σ' H', fun _ _ h => h, ?_⟩
      refine ⟨_, rfl, _, rfl, F, yf, _, W, W.go b s0, tf, 1, rfl, h2, Rf, (((PL.go' _).app _).app _).app _ |>.app _, tfe, by omega, by omega, by omega, by omega, fun H3 yf2 tf2 h3 R3 t3 m3 _ _ _ _ _ _ => ?_⟩
      have l3 : tf2.length = 1 := by have := congrArg List.length m3; rw [List.length_map] at this; rw [this]; exact Cy.one b 1
      have R3' : Rep W (W.go (b + 1) s0) yf2 := by rw [(go_sum W b 1 s0).1]; exact R3
      refine ⟨_, _, rfl, rfl, ?_⟩
      have h4 : Has H3 (yL t.c_Yard A2 y2 ++ (trK W t2 ++ ((yL t.c_Yard F yf2 ++ trK W (tf ++ tf2)) ++ (M ++ (yL t.c_Yard A y ++ L))))) := by
        have := Has.comm (X := yL t.c_Yard F yf2 ++ trK W (tf ++ tf2)) (Y := yL t.c_Yard A2 y2 ++ trK W t2) (R := M ++ (yL t.c_Yard A y ++ L)) (by rw [List.append_assoc, List.append_assoc]; exact h3)
        rw [List.append_assoc] at this
        exact this
      clear h3 h2
      dsimp only [List.set]
      refine ⟨_, rfl, A2, y2, _, W, W.go (i + b) s0, t2, 1, rfl, h4, R2, (((PL.go' _).app _).app _).app _, t2e, by omega, by omega, by omega, by omega, fun H5 y22 t22 h5 R5 t5 m5 _ _ _ _ _ _ => ?_⟩
      have l5 : t22.length = 1 := by have := congrArg List.length m5; rw [List.length_map] at this; rw [this]; exact Cy.one (i + b) 1
      have R5' : Rep W (W.go (i + (b + 1)) s0) y22 := by rw [show i + (b + 1) = i + b + 1 by omega, (go_sum W (i + b) 1 s0).1]; exact R5
      have h6 : Has H5 (yL t.c_Yard F yf2 ++ (trK W (tf ++ tf2) ++ (yL t.c_Yard A2 y22 ++ (trK W (t2 ++ t22) ++ (M ++ (yL t.c_Yard A y ++ L)))))) := by
        have := Has.comm (X := yL t.c_Yard A2 y22 ++ trK W (t2 ++ t22)) (Y := yL t.c_Yard F yf2 ++ trK W (tf ++ tf2)) (R := M ++ (yL t.c_Yard A y ++ L)) (by rw [List.append_assoc]; exact h5)
        rw [List.append_assoc, List.append_assoc] at this
        exact this
      refine ⟨mu - (b + 1), by omega, b + 1, yf2, y22, tf ++ tf2, t2 ++ t22, o1, rfl, by omega, ?_, h6, R3', R5', t3, t5, by rw [List.length_append]; omega, by rw [List.length_append]; omega⟩
      rw [l3]
      rfl
    · have eb : b = mu := by omega
      subst eb
      -- length
      have h4 : Has H2 (yL t.c_Yard A2 y2 ++ (trK W t2 ++ ((yL t.c_Yard F yf ++ trK W tf) ++ (M ++ (yL t.c_Yard A y ++ L))))) := by
        have := Has.comm (X := yL t.c_Yard F yf ++ trK W tf) (Y := yL t.c_Yard A2 y2 ++ trK W t2) (R := M ++ (yL t.c_Yard A y ++ L)) (by rw [List.append_assoc, List.append_assoc]; exact h2)
        rw [List.append_assoc] at this
        exact this
      clear h2
      refine ⟨_, rfl, A2, y2, _, W, W.go (i + b) s0, t2, 1, rfl, h4, R2, (((PL.go' _).app _).app _).app _, t2e, by omega, by omega, by omega, by omega, fun H5 y22 t22 h5 R5 t5 m5 _ _ _ _ _ _ => ?_⟩
      have l5 : t22.length = 1 := by have := congrArg List.length m5; rw [List.length_map] at this; rw [this]; exact Cy.one (i + b) 1
      have R5' : Rep W (W.go (i + b + 1) s0) y22 := by rw [(go_sum W (i + b) 1 s0).1]; exact R5
      have h6 : Has H5 (yL t.c_Yard F yf ++ (trK W tf ++ (yL t.c_Yard A2 y22 ++ (trK W (t2 ++ t22) ++ (M ++ (yL t.c_Yard A y ++ L)))))) := by
        have := Has.comm (X := yL t.c_Yard A2 y22 ++ trK W (t2 ++ t22)) (Y := yL t.c_Yard F yf ++ trK W tf) (R := M ++ (yL t.c_Yard A y ++ L)) (by rw [List.append_assoc]; exact h5)
        rw [List.append_assoc, List.append_assoc] at this
        exact this
      rw [l5]
      clear h4 h5 R2 t2e r2 r2l
      have lam0 := Cy.l0
      dsimp only [List.set]
      refine ⟨orInv2 t.c_Yard A A2 F y M L W s0 i lim b lam, ⟨_, 1, yf, y22, tf, t2 ++ t22, rfl, Nat.le_refl _, by omega, rfl, h6, Rf, R5', t5, by rw [List.length_append]; omega⟩, ?_⟩
      clear h6 R5 R5' t5 m5 l5 t2l
      rintro r σ H6 ⟨l, yf, y2, tf, t2, rfl, l1, ll, rfl, h2, Rf, R2, t2e, t2l⟩
      have a1 := go_on_at (w := W) (b) s0 at0
      have a2 := go_on_at (w := W) ((i + b + l)) s0 at0
      obtain ⟨z1, hz1⟩ := Option.ne_none_iff_exists'.mp a1
      obtain ⟨z2, hz2⟩ := Option.ne_none_iff_exists'.mp a2
      obtain ⟨j1, g1⟩ := (PL.go' (b)).e z1 hz1
      obtain ⟨j2, g2⟩ := (PL.go' ((i + b + l))).e z2 hz2
      have ce := Cy.eq (show b < (i + b + l) by omega) hz1 hz2
      have ce' : (decide (z1.2 = z2.2) && decide ((W.go b s0).ss = (W.go (i + b + l) s0).ss)) = decide (l = lam) := by
        rw [ce, show i + b + l - b = i + l by omega]
        refine decide_eq_decide.mpr ⟨fun h => ?_, fun h => ⟨Nat.le_refl _, by rw [h]; exact Nat.dvd_add di (Nat.dvd_refl _)⟩⟩
        have := (Nat.dvd_add_right di).mp h.2
        have := Nat.le_of_dvd (by omega) this
        omega
      refine ⟨_, rfl, _, rfl, F, A2, yf, y2, _, _, z1, z2, (W.go b s0).ss, (W.go (i + b + l) s0).ss, rfl, h2, (by rw [Rf.en, hz1]; rfl), (by rw [R2.en, hz2]; rfl), List.mem_append_right _ (List.mem_append_right _ (List.mem_append_right _ (List.mem_of_getElem? g1))), List.mem_append_right _ (List.mem_append_right _ (List.mem_append_right _ (List.mem_of_getElem? g2))), Rf.sd, R2.sd, _, rfl, ?_⟩
      rw [ce']
      clear ce ce' z1 z2 hz1 hz2 g1 g2 a1 a2
      have r2 := go_rg_le W (i + b + l) s0
      have r2l : y2.rung.length ≤ 400000 := by rw [R2.rg, List.length_map]; omega
      refine ifdn (fun hc => ?_) (fun hc => ?_)
      · refine ⟨fun σ' H' => ∃ r', r' < lam - l ∧ orInv2 t.c_Yard A A2 F y M L W s0 i lim b lam r' σ' H', fun _ _ h => h, ?_⟩
        have h4 : Has H6 (yL t.c_Yard A2 y2 ++ (trK W t2 ++ ((yL t.c_Yard F yf ++ trK W tf) ++ (M ++ (yL t.c_Yard A y ++ L))))) := by
          have := Has.comm (X := yL t.c_Yard F yf ++ trK W tf) (Y := yL t.c_Yard A2 y2 ++ trK W t2) (R := M ++ (yL t.c_Yard A y ++ L)) (by rw [List.append_assoc, List.append_assoc]; exact h2)
          rw [List.append_assoc] at this
          exact this
        clear h2
        refine ⟨_, rfl, _, rfl, A2, y2, _, W, W.go (i + b + l) s0, t2, 1, rfl, h4, R2, (((PL.go' _).app _).app _).app _, t2e, by omega, by omega, by omega, by omega, fun H5 y22 t22 h5 R5 t5 m5 _ _ _ _ _ _ => ?_⟩
        have l5 : t22.length = 1 := by have := congrArg List.length m5; rw [List.length_map] at this; rw [this]; exact Cy.one (i + b + l) 1
        have R5' : Rep W (W.go (i + b + (l + 1)) s0) y22 := by rw [show i + b + (l + 1) = i + b + l + 1 by omega, (go_sum W (i + b + l) 1 s0).1]; exact R5
        have h6 : Has H5 (yL t.c_Yard F yf ++ (trK W tf ++ (yL t.c_Yard A2 y22 ++ (trK W (t2 ++ t22) ++ (M ++ (yL t.c_Yard A y ++ L)))))) := by
          have := Has.comm (X := yL t.c_Yard A2 y22 ++ trK W (t2 ++ t22)) (Y := yL t.c_Yard F yf ++ trK W tf) (R := M ++ (yL t.c_Yard A y ++ L)) (by rw [List.append_assoc]; exact h5)
          rw [List.append_assoc, List.append_assoc] at this
          exact this
        refine ⟨_, _, rfl, rfl, ?_⟩
        refine ⟨lam - (l + 1), by omega, l + 1, yf, y22, tf, t2 ++ t22, rfl, by omega, by omega, ?_, h6, Rf, R5', t5, by rw [List.length_append]; omega⟩
        rw [l5]
        rfl
      · subst hc
        have hA : ∀ {H : Hp} {X : Kn}, Has H (X ++ (yL t.c_Yard A y ++ L)) → ∀ {p : Addr}, H p = none → ∀ o, Has (upd H p o) ((p, o) :: (yL t.c_Yard A y ++ L)) := fun {H X} h {p} hp o => Has.sub (h.alloc hp o) (List.Sublist.cons₂ _ (List.sublist_append_right _ _))
        have h9 : Has H6 ((yL t.c_Yard F yf ++ (trK W tf ++ (yL t.c_Yard A2 y2 ++ (trK W t2 ++ M)))) ++ (yL t.c_Yard A y ++ L)) := by
          rw [List.append_assoc, List.append_assoc, List.append_assoc, List.append_assoc]; exact h2
        refine ⟨_, rfl, _, rfl, _, _, rfl, rfl, _, rfl, _, _, rfl, rfl, _, rfl, if2 (fun hc => ?_) (fun hc => ?_)⟩
        · have hlt : (lim : Int) < (b : Int) + (l : Int) := of_decide_eq_true hc
          refine ⟨_, rfl, (show 2 ≤ sizeLine by decide), fun p hp => ?_⟩
          refine q _ p ?_
          have e : roundV b l lim = [.str "open", .int (lim : Int)] := by unfold roundV; rw [if_neg (by omega)]
          rw [e]
          exact hA h9 hp _
        · have hlt : ¬ (lim : Int) < (b : Int) + (l : Int) := of_decide_eq_false hc
          refine ⟨_, rfl, _, rfl, (show 3 ≤ sizeLine by decide), fun p hp => ?_⟩
          refine q _ p ?_
          have e : roundV b l lim = [.str "round", .int (b : Int), .int (l : Int)] := by unfold roundV; rw [if_pos (by omega)]
          rw [e]
          exact hA h9 hp _
end

end P


set_option Elab.async false
set_option linter.all false
set_option maxRecDepth 100000
set_option maxHeartbeats 4000000
namespace P
open PySem L2


def sp_fate (C : Addr) : Sp := fun vs H Q _ => ∃ (A : YA) (y : YR) (L : Kn) (W : Wd) (s : Sd) (m : Int) (mu lam : Nat), vs = [.ref A.p, .int m] ∧ Has H (yL C A y ++ L) ∧ Rep W s y ∧ Pool W s L ∧ EK y.mates ∧ Cyc W s mu lam ∧ m ≤ 100000 ∧ mu ≤ 10000 ∧ lam ≤ 10000 ∧ s.rg.length ≤ 100000 ∧ s.at_ ≠ none ∧
  ∀ H' p, Has H' ((p, .tup (roundV mu lam m.toNat)) :: (yL C A y ++ L)) → Q (.ref p) H'
def fateInv (C : Addr) (A Bs Bf : YA) (y : YR) (L : Kn) (W : Wd) (s : Sd) (m : Int) (mu lam : Nat) (r : Nat) (σ : St) (H : Hp) : Prop :=
  ∃ (i : Nat) (ys yf : YR) (ts tf : List (Addr × Sd)) (o1 o2 : Option V), r = m.toNat - i ∧ i ≤ m.toNat ∧ σ = [some (.ref A.p), some (.int m), some (.int m.toNat), some (.ref Bs.p), some (.ref Bf.p), some (.int i), some (.int ((2 * i : Nat) : Int)), o1, o2] ∧
    Has H (yL C Bs ys ++ (trK W ts ++ (yL C Bf yf ++ (trK W tf ++ (yL C A y ++ L))))) ∧ Rep W (W.go i s) ys ∧ Rep W (W.go (2 * i) s) yf ∧ ys.trail = trV ts ∧ yf.trail = trV tf ∧ ts.length = i ∧ tf.length = 2 * i ∧ ∀ k, 1 ≤ k → k ≤ i → ¬ (mu ≤ k ∧ lam ∣ k)
/-- a multiple of lam, not less than mu, soon comes -/
theorem mult_soon {mu lam : Nat} (h : 0 < lam) : ∃ k, 1 ≤ k ∧ k ≤ mu + lam ∧ mu ≤ k ∧ lam ∣ k := by
  by_cases c : mu = 0
  · exact ⟨lam, h, by omega, by omega, Nat.dvd_refl _⟩
  · have e := Nat.div_add_mod (mu + lam - 1) lam
    have l := Nat.mod_lt (mu + lam - 1) h
    exact ⟨lam * ((mu + lam - 1) / lam), by omega, by omega, by omega, Nat.dvd_mul_right _ _⟩
section
variable {P : Program} {w : World} {K : PySem.W.Frag} {mg : Str → Option Value} {base : Heap} {t : Adr}
theorem scFt : FnScope ["yard", "most", "limit", "slow", "fast", "slow_steps", "fast_steps", "done", "why"] ["yard", "most"] (defScope s_fate) := ⟨rfl, rfl, rfl, by decide +kernel, rfl, by decide +kernel, by decide +kernel⟩
theorem ok_fate (T : Txt K mg t) : FnOk P w K mg base CX0 8 t.f_fate t.d_fate ["yard", "most"] (sp_fate t.c_Yard) := by
  refine T.F_fate.ok scFt (fun vs H Q E h => ?_) (fun cdv A outer s H vs Q E hr h => ?_)
  · obtain ⟨_, _, _, _, _, _, _, _, rfl, _⟩ := h
    rfl
  · obtain ⟨A, y, L, W, s0, m, mu, lam, rfl, hH, R, PL, ek, Cy, mb, mub, lamb, rb, at0, q⟩ := h
    refine ⟨_, (pss_cons (ps_set (i := 2) scFt.nd rfl (Or.inl rfl) (pe_callB (call_max2 rfl) (by rfl) T.z_max (by rfl) (pa_cons (pv 1) (pa_cons pe_int pa_nil))))
      (pss_cons (ps_set (i := 3) scFt.nd rfl (Or.inl rfl) (pe_call (ok_twin T) (hr.mono (by decide)) (by rfl) T.m_twin T.F_twin.kp (b_twin T) .nil pass0 (pa_cons (pv 0) pa_nil)))
      (pss_cons (ps_set (i := 4) scFt.nd rfl (Or.inl rfl) (pe_call (ok_twin T) (hr.mono (by decide)) (by rfl) T.m_twin T.F_twin.kp (b_twin T) .nil pass0 (pa_cons (pv 0) pa_nil)))
      (pss_cons (ps_asg2 pe_int (pg_name (i := 5) scFt.nd rfl (Or.inl rfl)) (pg_name (i := 6) scFt.nd rfl (Or.inl rfl)))
      (pss_cons (ps_while PassesOwn.never (pt_cmpR op_lt (pv 5) (pv 2) (nomark _))
        (pss_cons (ps_set (i := 7) scFt.nd rfl (Or.inl rfl) (pe_call (ok_run T) (hr.mono (by decide)) (by rfl) T.m_run T.F_run.kp (b_run T) .nil pass0 (pa_cons (pv 4) (pa_cons pe_int pa_nil))))
          (pss_cons (ps_aug (i := 6) scFt.nd rfl (Or.inl rfl) (pv 7) ip_add)
          (pss_cons (ps_if (pt_cmpR op_lt (pv 7) pe_int (nomark _))
            (pss_one ps_break)
            pss_nil)
          (pss_cons (ps_aug (i := 5) scFt.nd rfl (Or.inl rfl) (pe_call (ok_run T) (hr.mono (by decide)) (by rfl) T.m_run T.F_run.kp (b_run T) .nil pass0 (pa_cons (pv 3) (pa_cons pe_int pa_nil))) ip_add)
          (pss_one (ps_if (pt_val (pe_call (ok_alike T) (hr.mono (by decide)) (by rfl) T.m_alike T.F_alike.kp (b_alike T) .nil pass0 (pa_cons (pv 3) (pa_cons (pv 4) pa_nil))))
            (pss_one (ps_ret (pe_call (ok_fate_on_round T) (hr.mono (by decide)) (by rfl) T.m_fate_on_round T.F_fate_on_round.kp (b_fate_on_round T) .nil pass0 (pa_cons (pv 0) (pa_cons (pv 3) (pa_cons (pv 2) pa_nil))))))
            pss_nil)))))))
      (pss_cons (ps_set (i := 8) scFt.nd rfl (Or.inl rfl) (pe_call (ok_held T) (hr.mono (by decide)) (by rfl) T.m_held T.F_held.kp (b_held T) .nil pass0 (pa_cons (pv 4) pa_nil)))
      (pss_cons (ps_if (PW.pt (pw_and (pt_cmpR op_notN (pv 8) pe_non (nomark _)) (pw_and1 (pt_cmpR op_le (pv 6) (pv 2) (nomark _)))))
        (pss_one (ps_ret (pe_tup (pa_cons pe_str (pa_cons (pv 8) (pa_cons (pv 6) pa_nil))))))
        pss_nil)
      (pss_one (ps_ret (pe_tup (pa_cons pe_str (pa_cons (pv 2) pa_nil)))))))))))), ?_⟩
    refine ⟨_, rfl, _, _, rfl, ?_⟩
    rw [show (if (0 : Int) > m then 0 else m) = (m.toNat : Int) by split <;> omega]
    refine ⟨_, rfl, A, y, L, rfl, hH, ek, fun H1 Bs h1 => ?_⟩
    replace h1 := Has.comm (X := yL t.c_Yard Bs { y with trail := [] }) (Y := yL t.c_Yard A y) (R := L) h1
    refine ⟨_, rfl, A, y, _, rfl, h1, ek, fun H2 Bf h2 => ?_⟩
    have h3 : Has H2 (yL t.c_Yard Bs { y with trail := [] } ++ (trK W [] ++ (yL t.c_Yard Bf { y with trail := [] } ++ (trK W [] ++ (yL t.c_Yard A y ++ L))))) := by
      show Has H2 (yL t.c_Yard Bs { y with trail := [] } ++ (yL t.c_Yard Bf { y with trail := [] } ++ (yL t.c_Yard A y ++ L)))
      refine Has.perm h2 ?_
      rw [← List.append_assoc (yL t.c_Yard Bf { y with trail := [] }), ← List.append_assoc (yL t.c_Yard Bf { y with trail := [] })]
      exact List.perm_append_comm_assoc _ _ _
    clear h2 h1 hH
    dsimp only [gName, List.set]
    refine ⟨fateInv t.c_Yard A Bs Bf y L W s0 m mu lam, ⟨_, 0, _, _, [], [], _, _, rfl, Nat.zero_le _, rfl, h3, R.twin, R.twin, rfl, rfl, rfl, rfl, fun k h1 h2 => by omega⟩, ?_⟩
    clear h3
    rintro r σ H1 ⟨i, ys, yf, ts, tf, o1, o2, rfl, im, rfl, h1, Rs, Rf, t1, t2, l1, l2, nk⟩
    have h2 : Has H1 (yL t.c_Yard Bf yf ++ (trK W tf ++ ((yL t.c_Yard Bs ys ++ trK W ts) ++ (yL t.c_Yard A y ++ L)))) := by
      have := Has.comm (X := yL t.c_Yard Bs ys ++ trK W ts) (Y := yL t.c_Yard Bf yf ++ trK W tf) (R := yL t.c_Yard A y ++ L) (by rw [List.append_assoc, List.append_assoc]; exact h1)
      rw [List.append_assoc] at this
      exact this
    refine ⟨_, rfl, _, rfl, _, _, rfl, rfl, _, rfl, if2 (fun hc => ?_) (fun hc => ?_)⟩
    · have hlt : (i : Int) < ((m.toNat : Nat) : Int) := of_decide_eq_true hc
      refine ⟨fun σ' H' => ∃ r', r' < m.toNat - i ∧ fateInv t.c_Yard A Bs Bf y L W s0 m mu lam r' σ' H', fun _ _ h => h, ?_⟩
      have rf := go_rg_le W (2 * i) s0
      have rf' : yf.rung.length ≤ 300000 := by rw [Rf.rg, List.length_map]; omega
      refine ⟨_, rfl, Bf, yf, _, W, W.go (2 * i) s0, tf, 2, rfl, h2, Rf, ((PL.go' _).app _).app _, t2, by omega, by omega, by omega, by omega, fun H3 yf2 tf2 h3 R3 t3 m3 _ _ _ _ _ P3 => ?_⟩
      have s2 := go_sum W (2 * i) 2 s0
      have e2 : tf2.length = 2 := by have := congrArg List.length m3; rw [List.length_map] at this; rw [this]; exact Cy.one (2 * i) 2
      replace R3 : Rep W (W.go (2 * i + 2) s0) yf2 := by rw [s2.1]; exact R3
      refine ⟨_, rfl, _, rfl, _, _, rfl, rfl, ?_⟩
      refine ⟨_, rfl, _, _, rfl, rfl, _, rfl, ifF (decide_eq_false (by omega)) ?_⟩
      have h4 : Has H3 (yL t.c_Yard Bs ys ++ (trK W ts ++ ((yL t.c_Yard Bf yf2 ++ trK W (tf ++ tf2)) ++ (yL t.c_Yard A y ++ L)))) := by
        have := Has.comm (X := yL t.c_Yard Bf yf2 ++ trK W (tf ++ tf2)) (Y := yL t.c_Yard Bs ys ++ trK W ts) (R := yL t.c_Yard A y ++ L) (by rw [List.append_assoc]; exact h3)
        rw [List.append_assoc] at this
        exact this
      clear h3 h2 h1
      have rs := go_rg_le W i s0
      have rs' : ys.rung.length ≤ 300000 := by rw [Rs.rg, List.length_map]; omega
      refine ⟨_, rfl, _, rfl, Bs, ys, _, W, W.go i s0, ts, 1, rfl, h4, Rs, ((PL.go' _).app _).app _, t1, by omega, by omega, by omega, by omega, fun H5 ys2 ts2 h5 R5 t5 m5 _ _ _ _ _ P5 => ?_⟩
      have e1 : ts2.length = 1 := by have := congrArg List.length m5; rw [List.length_map] at this; rw [this]; exact Cy.one i 1
      replace R5 : Rep W (W.go (i + 1) s0) ys2 := by rw [(go_sum W i 1 s0).1]; exact R5
      refine ⟨_, _, rfl, rfl, ?_⟩
      rw [List.append_assoc] at h5
      have a1 := go_on_at (w := W) ((i + 1)) s0 at0
      have a2 := go_on_at (w := W) ((2 * i + 2)) s0 at0
      obtain ⟨z1, hz1⟩ := Option.ne_none_iff_exists'.mp a1
      obtain ⟨z2, hz2⟩ := Option.ne_none_iff_exists'.mp a2
      obtain ⟨j1, g1⟩ := (PL.go' ((i + 1))).e z1 hz1
      obtain ⟨j2, g2⟩ := (PL.go' ((2 * i + 2))).e z2 hz2
      have ce := Cy.eq (show (i + 1) < (2 * i + 2) by omega) hz1 hz2
      have ce' : (decide (z1.2 = z2.2) && decide ((W.go (i + 1) s0).ss = (W.go (2 * i + 2) s0).ss)) = decide (mu ≤ i + 1 ∧ lam ∣ i + 1) := by
        rw [ce, show 2 * i + 2 - (i + 1) = i + 1 by omega]
      refine ⟨_, rfl, _, rfl, Bs, Bf, ys2, yf2, _, _, z1, z2, (W.go (i + 1) s0).ss, (W.go (2 * i + 2) s0).ss, rfl, h5, (by rw [R5.en, hz1]; rfl), (by rw [R3.en, hz2]; rfl), List.mem_append_right _ (List.mem_append_right _ (List.mem_of_getElem? g1)), List.mem_append_right _ (List.mem_append_right _ (List.mem_of_getElem? g2)), R5.sd, R3.sd, _, rfl, ?_⟩
      rw [ce']
      clear ce ce' z1 z2 hz1 hz2 g1 g2 a1 a2
      refine ifd (fun hf => ?_) (fun hf => ?_)
      · refine ⟨_, rfl, _, rfl, _, rfl, A, Bs, y, ys2, yL t.c_Yard Bf yf2 ++ trK W (tf ++ tf2), L, ts ++ ts2, W, s0, i + 1, m.toNat, mu, lam, rfl, (by rw [List.append_assoc (yL t.c_Yard Bf yf2)]; exact h5), R, R5, t5, by rw [List.length_append]; omega, PL, ek, Cy, hf.2, hf.1, by omega, by omega, mub, lamb, rb, at0, q⟩
      · refine ⟨m.toNat - (i + 1), by omega, i + 1, ys2, yf2, ts ++ ts2, tf ++ tf2, some (.int tf2.length), o2, rfl, by omega, ?_, h5, R5, by rw [show 2 * (i + 1) = 2 * i + 2 by omega]; exact R3, t5, t3, by rw [List.length_append]; omega, by rw [List.length_append]; omega, fun k k1 k2 => ?_⟩
        · dsimp only [List.set]
          rw [show (i : Int) + (ts2.length : Int) = ((i + 1 : Nat) : Int) by omega, show (((2 * i : Nat) : Int) + (tf2.length : Int)) = ((2 * (i + 1) : Nat) : Int) by omega]
        · by_cases c : k = i + 1
          · rw [c]; exact hf
          · exact nk k k1 (by omega)
    · have hge : ¬ (i : Int) < ((m.toNat : Nat) : Int) := of_decide_eq_false hc
      have ei : i = m.toNat := by omega
      have big : ¬ mu + lam ≤ m.toNat := fun hle => by
        obtain ⟨k, k1, k2, k3, k4⟩ := mult_soon (mu := mu) Cy.l0
        exact nk k k1 (by omega) ⟨k3, k4⟩
      have h4 := h2
      rw [← List.append_assoc (trK W tf)] at h4
      refine ⟨_, rfl, Bf, yf, _, W, W.go (2 * i) s0, rfl, h4, Rf, ((PL.go' _).app _).app _, fun H9 h9 => ?_⟩
      obtain ⟨s', hn⟩ := Cy.nx (2 * i)
      rw [why_on hn]
      refine ⟨_, rfl, rfl, _, rfl, ifF rfl (iteF ?_)⟩
      refine ⟨_, rfl, (show 2 ≤ sizeLine by decide), fun p hp => ?_⟩
      refine q _ p ?_
      have e : roundV mu lam m.toNat = [.str "open", .int ((m.toNat : Nat) : Int)] := by unfold roundV; rw [if_neg big]
      rw [e]
      exact Has.sub (h9.alloc hp _) (List.Sublist.cons₂ _ (List.Sublist.trans (List.sublist_append_right _ _) (List.sublist_append_right _ _)))
end

end P


set_option Elab.async false
set_option linter.all false
set_option maxRecDepth 100000
set_option maxHeartbeats 4000000
namespace P
open PySem L2

theorem putK_keys {κ : Type} [DecidableEq κ] {kvs : List (κ × V)} {k : κ} {v : V} {x : κ} (h : x ∈ (putK kvs k v).map (·.1)) : x ∈ kvs.map (·.1) ∨ x = k := by
  unfold putK at h
  split at h
  · left
    rw [List.map_map] at h
    obtain ⟨p, hp, e⟩ := List.mem_map.mp h
    refine List.mem_map.mpr ⟨p, hp, ?_⟩
    rw [← e]
    show p.1 = (if p.1 = k then (p.1, v) else p).1
    split <;> rfl
  · rw [List.map_append, List.mem_append] at h
    rcases h with h | h
    · exact .inl h
    · right; simpa using h
theorem EK.put {m : List (List Key × V)} (h : EK m) {n e : Int} (n0 : 0 ≤ n) (hn : n < 2000) (e0 : 0 ≤ e) (he : e < 3) (v : V) : EK (putK m (kE n e) v) := fun k hk => by
  rcases putK_keys hk with hk | rfl
  · exact h k hk
  · exact ⟨n.toNat, e.toNat, by omega, by omega, by rw [show ((n.toNat : Nat) : Int) = n by omega, show ((e.toNat : Nat) : Int) = e by omega]⟩
theorem mem_ix {Z : Kn} {x : Addr × HO} (h : x ∈ Z) : ∃ j : Nat, Z[j]? = some x := List.mem_iff_getElem?.mp h
theorem esK_mem {es : List En} {z : En} (h : z ∈ es) : (z.1, HO.tup [.int z.2.1, .int z.2.2]) ∈ esK es := List.mem_map.mpr ⟨z, h, rfl⟩
/-- a yard under way: N pieces laid -/
structure Bd (y : YR) (w : Wd) (s : Sd) (es : List En) (N M : Nat) : Prop where
  R : Rep w s y
  F : Fre y
  Z : Sz y N M
  nx : y.next = N
  kn : ∀ n : Int, (N : Int) ≤ n → w.kf n = none
  k0 : ∀ n : Int, n < 0 → w.kf n = none
  ek : EK y.mates
  me : ∀ n e z, w.mf n e = some z → z ∈ es
theorem Bd.more {y : YR} {w : Wd} {s : Sd} {es : List En} {N M : Nat} (B : Bd y w s es N M) (z : En) : Bd y w s (z :: es) N M := ⟨B.R, B.F, B.Z, B.nx, B.kn, B.k0, B.ek, fun n e z h => .tail _ (B.me n e z h)⟩
theorem Bd.lay {y : YR} {w : Wd} {s : Sd} {es : List En} {N M : Nat} (B : Bd y w s es N M) (k : Kd) (r : Int) (ss' : List Int)
    (hp : k.point = true → r = s.ss.length ∧ ss' = s.ss ++ [1]) (hn : k.point = false → ss' = s.ss) : Bd (layY y k 0 .non) (w.lay N k 0 r) ⟨ss', s.at_, s.rg⟩ es (N + 1) M := by
  have R := B.R.lay B.F (by rw [B.nx]; exact B.kn _ (Int.le_refl _)) k 0 r .non ss' (fun h => .inl ⟨rfl, hp h⟩) hn
  rw [B.nx] at R
  refine ⟨R, B.F.lay _ _ _, B.Z.lay _ _ _, by show y.next + 1 = _; rw [B.nx]; rfl, fun n h => ?_, fun n h => ?_, B.ek, B.me⟩
  · show (if n = (N : Int) then some k else w.kf n) = none
    rw [if_neg (by omega)]; exact B.kn n (by omega)
  · show (if n = (N : Int) then some k else w.kf n) = none
    rw [if_neg (by omega)]; exact B.k0 n h
theorem Bd.ok_b {y : YR} {w : Wd} {s : Sd} {es : List En} {N M : Nat} (B : Bd y w s es N M) {x : En} (h : w.ok x) : 0 ≤ x.2.1 ∧ x.2.1 < N ∧ 0 ≤ x.2.2 ∧ x.2.2 < 3 := by
  obtain ⟨k, hk, e0, e1⟩ := h
  have km : k.many ≤ 3 := by cases k <;> decide
  refine ⟨?_, ?_, e0, by omega⟩
  · rcases Int.lt_or_le x.2.1 0 with c | c
    · rw [B.k0 _ c] at hk; cases hk
    · exact c
  · rcases Int.lt_or_le x.2.1 N with c | c
    · exact c
    · rw [B.kn _ c] at hk; cases hk
theorem Bd.link {y : YR} {w : Wd} {s : Sd} {es : List En} {N M : Nat} (B : Bd y w s es N M) (hN : N ≤ 2000) {x z : En} (hx : w.ok x) (hz : w.ok z) :
    Bd { y with mates := putK (putK y.mates (kE x.2.1 x.2.2) (.ref z.1)) (kE z.2.1 z.2.2) (.ref x.1), trail := [] } (w.link x z) s (z :: x :: es) N (M + 2) := by
  have a1 := B.ok_b hx
  have a2 := B.ok_b hz
  refine ⟨B.R.link hx hz, B.F, ⟨B.Z.k, B.Z.o, B.Z.r, B.Z.s, ?_, B.Z.g, rfl⟩, B.nx, B.kn, B.k0, (B.ek.put a1.1 (by omega) a1.2.2.1 a1.2.2.2 _).put a2.1 (by omega) a2.2.2.1 a2.2.2.2 _, fun n e u hu => ?_⟩
  · show (putK (putK y.mates (kE x.2.1 x.2.2) (.ref z.1)) (kE z.2.1 z.2.2) (.ref x.1)).length ≤ _
    have b1 := length_putK y.mates (kE x.2.1 x.2.2) (.ref z.1)
    have b2 := length_putK (putK y.mates (kE x.2.1 x.2.2) (.ref z.1)) (kE z.2.1 z.2.2) (.ref x.1)
    have := B.Z.m
    omega
  · have hu : (if (n, e) = z.2 then some x else if (n, e) = x.2 then some z else w.mf n e) = some u := hu
    split at hu
    · cases hu; exact .tail _ (.head _)
    · split at hu
      · cases hu; exact .head _
      · exact .tail _ (.tail _ (B.me n e u hu))
/-- a road of n lines from N on, from the end o -/
structure RoadS (w w' : Wd) (o : Int × Int) (N n : Nat) : Prop where
  f0 : 0 < n → ∃ z, w'.mf o.1 o.2 = some z ∧ z.2 = ((N : Int), (0 : Int))
  f1 : ∀ j : Nat, j + 1 < n → ∃ z, w'.mf ((N + j : Nat) : Int) 1 = some z ∧ z.2 = (((N + j + 1 : Nat) : Int), (0 : Int))
  fe : 0 < n → w'.mf ((N + n - 1 : Nat) : Int) 1 = none
  sm : ∀ p e : Int, ¬ (p, e) = o → ¬ ((N : Int) ≤ p ∧ p < ((N + n : Nat) : Int)) → w'.mf p e = w.mf p e
  z0 : n = 0 → ∀ p e, w'.mf p e = w.mf p e
  kl : ∀ j : Nat, j < n → w'.kf ((N + j : Nat) : Int) = some .line
  ks : ∀ p : Int, ¬ ((N : Int) ≤ p ∧ p < ((N + n : Nat) : Int)) → w'.kf p = w.kf p
  rs : ∀ p : Int, ¬ ((N : Int) ≤ p ∧ p < ((N + n : Nat) : Int)) → w'.rf p = w.rf p
def roadO (o : Int × Int) (N n : Nat) : Int × Int := if n = 0 then o else (((N + n - 1 : Nat) : Int), (1 : Int))
theorem RoadS.next {w w' : Wd} {o : Int × Int} {N n : Nat} (S : RoadS w w' o N n) (ho : o.1 < N) (hf : w.mf o.1 o.2 = none) (hN : ∀ p e : Int, (N : Int) ≤ p → w.mf p e = none) (b c : Addr) :
    RoadS w ((w'.lay ((N + n : Nat) : Int) .line 0 0).link (b, roadO o N n) (c, (((N + n : Nat) : Int), (0 : Int)))) o N (n + 1) := by
  have mf : ∀ p e : Int, ((w'.lay ((N + n : Nat) : Int) .line 0 0).link (b, roadO o N n) (c, (((N + n : Nat) : Int), (0 : Int)))).mf p e = if (p, e) = (((N + n : Nat) : Int), (0 : Int)) then some (b, roadO o N n) else if (p, e) = roadO o N n then some (c, (((N + n : Nat) : Int), (0 : Int))) else w'.mf p e := fun _ _ => rfl
  have kf : ∀ p : Int, ((w'.lay ((N + n : Nat) : Int) .line 0 0).link (b, roadO o N n) (c, (((N + n : Nat) : Int), (0 : Int)))).kf p = if p = ((N + n : Nat) : Int) then some .line else w'.kf p := fun _ => rfl
  have rf : ∀ p : Int, ((w'.lay ((N + n : Nat) : Int) .line 0 0).link (b, roadO o N n) (c, (((N + n : Nat) : Int), (0 : Int)))).rf p = if p = ((N + n : Nat) : Int) then 0 else w'.rf p := fun _ => rfl
  have ne1 : ∀ {x y u v : Int}, ¬ x = u → ¬ (x, y) = (u, v) := fun h e => h (Prod.mk.inj e).1
  have oo : o = (o.1, o.2) := rfl
  refine ⟨fun _ => ?_, fun j hj => ?_, fun _ => ?_, fun p e h1 h2 => ?_, fun h => by omega, fun j hj => ?_, fun p hp => ?_, fun p hp => ?_⟩
  · rw [mf, if_neg (ne1 (by omega))]
    by_cases c0 : n = 0
    · subst c0; rw [if_pos (by unfold roadO; rw [if_pos rfl])]; exact ⟨_, rfl, rfl⟩
    · rw [if_neg (by unfold roadO; rw [if_neg c0]; exact ne1 (by omega))]
      exact S.f0 (by omega)
  · rw [mf, if_neg (fun e => by have := (Prod.mk.inj e).2; omega)]
    by_cases c1 : j + 1 < n
    · rw [if_neg (by unfold roadO; rw [if_neg (by omega)]; exact ne1 (by omega))]
      exact S.f1 j c1
    · have : n = j + 1 := by omega
      subst this
      rw [if_pos (by unfold roadO; rw [if_neg (by omega)]; rfl)]
      exact ⟨_, rfl, rfl⟩
  · rw [mf, if_neg (fun e => by have := (Prod.mk.inj e).2; omega), show N + (n + 1) - 1 = N + n by omega]
    rw [if_neg (by
      unfold roadO
      split
      · rw [oo]; exact ne1 (by omega)
      · exact ne1 (by omega))]
    by_cases c0 : n = 0
    · rw [S.z0 c0]; exact hN _ _ (by omega)
    · rw [S.sm _ _ (by rw [oo]; exact ne1 (by omega)) (by omega)]; exact hN _ _ (by omega)
  · rw [mf, if_neg (ne1 (by omega))]
    by_cases c0 : n = 0
    · rw [if_neg (by unfold roadO; rw [if_pos c0]; exact h1), S.z0 c0]
    · rw [if_neg (by unfold roadO; rw [if_neg c0]; exact ne1 (by omega))]
      exact S.sm p e h1 (by omega)
  · rw [kf]
    by_cases c0 : j = n
    · rw [if_pos (by rw [c0])]
    · rw [if_neg (by omega)]; exact S.kl j (by omega)
  · rw [kf, if_neg (by omega)]; exact S.ks p (by omega)
  · rw [rf, if_neg (by omega)]; exact S.rs p (by omega)
theorem RoadS.zero (w : Wd) (o : Int × Int) (N : Nat) : RoadS w w o N 0 := ⟨fun h => by omega, fun j h => by omega, fun h => by omega, fun _ _ _ _ => rfl, fun _ _ _ => rfl, fun j h => by omega, fun _ _ => rfl, fun _ _ => rfl⟩
def sp_road (C : Addr) : Sp := fun vs H Q _ => ∃ (A : YA) (y : YR) (w : Wd) (s : Sd) (es : List En) (N M : Nat) (L : Kn) (o : En) (n : Nat), vs = [.ref A.p, .ref o.1, .int n] ∧ Has H (yL C A y ++ (esK es ++ L)) ∧ Bd y w s es N M ∧ o ∈ es ∧ w.ok o ∧ w.mf o.2.1 o.2.2 = none ∧ (∀ p e : Int, (N : Int) ≤ p → w.mf p e = none) ∧ N + n ≤ 1990 ∧ M + 2 * n ≤ 20000 ∧
  ∀ (H' : Hp) (q : Addr) (y' : YR) (w' : Wd) (es' : List En) (b : Addr), Bd y' w' s es' (N + n) (M + 2 * n) → Has H' (yL C { A with tr := q } y' ++ (esK es' ++ L)) → (b, roadO o.2 N n) ∈ es' → RoadS w w' o.2 N n → Q (.ref b) H'
section
variable {P : Program} {w : World} {K : PySem.W.Frag} {mg : Str → Option Value} {base : Heap} {t : Adr}
theorem scRd : FnScope ["_law_yard", "_law_out", "_law_many", "_law_turn", "_law_line"] ["_law_yard", "_law_out", "_law_many"] (defScope s_road) := ⟨rfl, rfl, rfl, by decide +kernel, rfl, by decide +kernel, by decide +kernel⟩
theorem ok_road (T : Txt K mg t) : FnOk P w K mg base CX0 5 t.f_road t.d_road ["_law_yard", "_law_out", "_law_many"] (sp_road t.c_Yard) := by
  obtain ⟨_, hd_Yard_lay_2, hb_Yard_lay_2⟩ := bD_Yard_lay_2 T
  refine T.F_road.ok scRd (fun vs H Q E h => ?_) (fun cdv A outer s H vs Q E hr h => ?_)
  · obtain ⟨_, _, _, _, _, _, _, _, _, _, rfl, _⟩ := h
    rfl
  · obtain ⟨A, y, w0, s0, es, N, M, L, o, n, rfl, hH, B, oe, oko, of, nf, Nb, Mb, q⟩ := h
    refine ⟨_, (pss_cons (ps_for PassesOwn.never rfl (pi_range1 (by rfl) T.z_range (pa_cons (pv 2) pa_nil)) (pg_name (i := 3) scRd.nd rfl (Or.inl rfl))
        (pss_cons (ps_set (i := 4) scRd.nd rfl (Or.inl rfl) (pe_meth (pv 0) T.cl_Yard T.M_Yard_lay (ok_Yard_lay T) (hr.mono (by decide)) hb_Yard_lay_2 hd_Yard_lay_2 pass0 (pa_cons pe_str pa_nil)))
          (pss_cons (ps_expr (pe_meth (pv 0) T.cl_Yard T.M_Yard_link (ok_Yard_link T) (hr.mono (by decide)) (b_Yard_link T) .nil pass0 (pa_cons (pv 1) (pa_cons (pe_tup (pa_cons (pv 4) (pa_cons pe_int pa_nil))) pa_nil))))
          (pss_one (ps_set (i := 1) scRd.nd rfl (Or.inl rfl) (pe_tup (pa_cons (pv 4) (pa_cons pe_int pa_nil))))))))
      (pss_one (ps_ret (pv 1)))), ?_⟩
    have oN := B.ok_b oko
    refine ⟨_, rfl, _, rfl, by omega, by omega, for_range (fun i σ H' => ∃ (q1 : Addr) (y' : YR) (w' : Wd) (es' : List En) (b : Addr) (o1 o2 : Option V), σ = [some (.ref A.p), some (.ref b), some (.int n), o1, o2] ∧ Bd y' w' s0 es' (N + i) (M + 2 * i) ∧ (b, roadO o.2 N i) ∈ es' ∧ RoadS w0 w' o.2 N i ∧ w'.ok (b, roadO o.2 N i) ∧ Has H' (yL t.c_Yard { A with tr := q1 } y' ++ (esK es' ++ L)))
      ⟨A.tr, y, w0, es, o.1, _, _, rfl, B, oe, RoadS.zero _ _ _, oko, hH⟩ ?_ ?_⟩
    · clear hH
      rintro i σ H1 hi ⟨q1, y', w', es', b, o1, o2, rfl, B', be, S, okb, h1⟩
      have hi : i < n := by omega
      refine ⟨_, rfl, A.p, A.dx, _, rfl, h1.get 1 rfl, (fl_m _ _ _).1, { A with tr := q1 }, y', _, .line, 0, .non, rfl, h1, B'.Z.small (by omega) (by omega), (fun h => nomatch h), (fun h => nomatch h), fun H2 q2 h2 => ?_⟩
      have B2 := B'.lay .line 0 s0.ss (fun h => nomatch h) (fun _ => rfl)
      have en : y'.next = ((N + i : Nat) : Int) := B'.nx
      rw [en]
      dsimp only [List.set]
      refine ⟨_, rfl, A.p, A.dx, _, rfl, h2.get 1 rfl, (fl_m2 _ _ _).2.2.1, _, rfl, _, rfl, (show 2 ≤ sizeLine by decide), fun c hc => ?_⟩
      have h3 := Has.comm (X := [_]) (Y := yL t.c_Yard { A with tr := q2 } (layY y' .line 0 .non)) (R := esK es' ++ L) (h2.alloc hc (.tup [.int ((N + i : Nat) : Int), .int 0]))
      generalize upd H2 c _ = H3 at h3 ⊢
      have okb2 : (w'.lay ((N + i : Nat) : Int) .line 0 0).ok (b, roadO o.2 N i) := Wd.ok_lay (B'.kn _ (by omega)) okb
      have okc : (w'.lay ((N + i : Nat) : Int) .line 0 0).ok (c, (((N + i : Nat) : Int), (0 : Int))) := ⟨.line, (by show (if ((N + i : Nat) : Int) = ((N + i : Nat) : Int) then some Kd.line else _) = _; rw [if_pos rfl]), by show (0 : Int) ≤ 0; omega, by show (0 : Int) < 2; omega⟩
      have fb : w'.mf (roadO o.2 N i).1 (roadO o.2 N i).2 = none := by
        unfold roadO
        by_cases c0 : i = 0
        · rw [if_pos c0, S.z0 c0]; exact of
        · rw [if_neg c0]; exact S.fe (by omega)
      have fc : w'.mf ((N + i : Nat) : Int) 0 = none := by
        by_cases c0 : i = 0
        · rw [S.z0 c0]; exact nf _ _ (by omega)
        · rw [S.sm _ _ (fun e => by have := congrArg Prod.fst e; dsimp only at this; omega) (by omega)]; exact nf _ _ (by omega)
      obtain ⟨jb, hjb⟩ := mem_ix (show (b, HO.tup [.int (roadO o.2 N i).1, .int (roadO o.2 N i).2]) ∈ (c, HO.tup [.int ((N + i : Nat) : Int), .int 0]) :: (esK es' ++ L) from .tail _ (List.mem_append_left _ (esK_mem be)))
      have lt := B'.ok_b okb
      refine ⟨{ A with tr := q2 }, layY y' .line 0 .non, _, b, c, (roadO o.2 N i).1, (roadO o.2 N i).2, ((N + i : Nat) : Int), 0, jb, 0, rfl, h3, hjb, rfl, Wd.ok_there B2.R okb2, Wd.ok_there B2.R okc, (fun e => by
        injection e with e1 e2
        injection e1 with e1
        have : (roadO o.2 N i).1 < ((N + i : Nat) : Int) := lt.2.1
        omega), B2.R.free fb, B2.R.free fc, (by have := B2.Z.m; omega), fun H4 q4 h4 => ?_⟩
      have B4 := B2.link (by omega) okb2 okc
      have S4 := S.next (by omega) of nf b c
      refine ⟨_, rfl, (show 2 ≤ sizeLine by decide), fun c2 hc2 => ?_⟩
      dsimp only [List.set]
      have h5 := Has.comm (X := [_]) (Y := yL t.c_Yard { A with tr := q4 } _) (R := (c, HO.tup [.int ((N + i : Nat) : Int), .int 0]) :: (esK es' ++ L)) (h4.alloc hc2 (.tup [.int ((N + i : Nat) : Int), .int 1]))
      have eo : roadO o.2 N (i + 1) = (((N + i : Nat) : Int), (1 : Int)) := by unfold roadO; rw [if_neg (by omega), show N + (i + 1) - 1 = N + i by omega]
      refine ⟨q4, _, _, (c2, (((N + i : Nat) : Int), (1 : Int))) :: (c, (((N + i : Nat) : Int), (0 : Int))) :: es', c2, _, _, rfl, ?_, by rw [eo]; exact .head _, S4, ?_, h5⟩
      · have B5 : Bd _ _ s0 ((c, (((N + i : Nat) : Int), (0 : Int))) :: es') (N + i + 1) (M + 2 * i + 2) := ⟨B4.R, B4.F, B4.Z, B4.nx, B4.kn, B4.k0, B4.ek, fun p e u hu => by
          rcases List.mem_cons.mp (B4.me p e u hu) with h | h
          · rw [h]; exact .head _
          · rcases List.mem_cons.mp h with h | h
            · rw [h]; exact .tail _ be
            · exact .tail _ h⟩
        exact B5.more _
      · rw [eo]
        exact ⟨.line, (by show (if ((N + i : Nat) : Int) = ((N + i : Nat) : Int) then some Kd.line else _) = _; rw [if_pos rfl]), by show (0 : Int) ≤ 1; omega, by show (1 : Int) < 2; omega⟩
    · rintro σ H1 ⟨q1, y', w', es', b, o1, o2, rfl, B', be, S, okb, h1⟩
      rw [Int.toNat_natCast] at B' be S
      exact ⟨_, rfl, q _ q1 y' w' es' b B' h1 be S⟩
end

end P


set_option Elab.async false
set_option linter.all false
set_option maxRecDepth 100000
set_option maxHeartbeats 4000000
namespace P
open PySem L2

theorem Lk.refl (s : Sd) : Lk s s := ⟨rfl, rfl⟩
theorem Lk.symm {s1 s2 : Sd} (h : Lk s1 s2) : Lk s2 s1 := ⟨h.s.symm, h.a.symm⟩
theorem Lk.trans {s1 s2 s3 : Sd} (h : Lk s1 s2) (g : Lk s2 s3) : Lk s1 s3 := ⟨h.s.trans g.s, h.a.trans g.a⟩
theorem lk_go {w : Wd} : ∀ (n : Nat) {s1 s2 : Sd}, Lk s1 s2 → Lk (w.go n s1) (w.go n s2)
  | 0, s1, s2, S => S
  | n + 1, s1, s2, S => by
    rcases lk_nx (w := w) S with ⟨h1, h2⟩ | ⟨t1, t2, h1, h2, T⟩
    · rw [go_held w h1, go_held w h2]; exact S
    · rw [go_succ w h1, go_succ w h2]; exact lk_go n T
theorem cyc_of {w : Wd} {s : Sd} {mu lam : Nat} (l0 : 0 < lam) (full : (w.hist (mu + lam) s).length = mu + lam) (bk : Lk (w.go mu s) (w.go (mu + lam) s))
    (inj : ∀ i j, i < j → j < mu + lam → ¬ Lk (w.go i s) (w.go j s)) : Cyc w s mu lam := by
  have on : ∀ n, (w.hist n s).length = n := fun n => by
    induction n using Nat.strongRecOn with
    | _ n ih =>
      by_cases c : n ≤ mu + lam
      · have := (go_sum w n (mu + lam - n) s).2
        rw [show n + (mu + lam - n) = mu + lam by omega, full] at this
        have h1 := hist_len_le w n s
        have h2 := hist_len_le w (mu + lam - n) (w.go n s)
        omega
      · obtain ⟨k, rfl⟩ : ∃ k, n = mu + lam + k := ⟨n - (mu + lam), by omega⟩
        have a1 := (go_sum w (mu + lam) k s).2
        have a2 := (go_sum w mu k s).2
        have a3 := lk_hist (w := w) k bk
        have a4 := ih (mu + k) (by omega)
        have a5 := ih mu (by omega)
        omega
  have per : ∀ n, mu ≤ n → Lk (w.go n s) (w.go (n + lam) s) := fun n hn => by
    have := lk_go (w := w) (n - mu) bk
    rw [← (go_sum w mu (n - mu) s).1, ← (go_sum w (mu + lam) (n - mu) s).1, show mu + (n - mu) = n by omega, show mu + lam + (n - mu) = n + lam by omega] at this
    exact this
  have perq : ∀ q n, mu ≤ n → Lk (w.go n s) (w.go (n + lam * q) s) := fun q => by
    induction q with
    | zero => intro n _; rw [Nat.mul_zero, Nat.add_zero]; exact Lk.refl _
    | succ q ih =>
      intro n hn
      have := (ih n hn).trans (per (n + lam * q) (by omega))
      rw [Nat.mul_succ, ← Nat.add_assoc]; exact this
  have red : ∀ n, mu ≤ n → Lk (w.go (mu + (n - mu) % lam) s) (w.go n s) ∧ (n - mu) % lam < lam := fun n hn => by
    have e := Nat.mod_add_div (n - mu) lam
    have := perq ((n - mu) / lam) (mu + (n - mu) % lam) (by omega)
    rw [show mu + (n - mu) % lam + lam * ((n - mu) / lam) = n by omega] at this
    exact ⟨this, Nat.mod_lt _ l0⟩
  refine ⟨l0, on, fun i j hij => ⟨fun h => ?_, fun ⟨h1, h2⟩ => ?_⟩⟩
  · by_cases ci : mu ≤ i
    · obtain ⟨r1, b1⟩ := red i ci
      obtain ⟨r2, b2⟩ := red j (by omega)
      have hl := (r1.trans h).trans r2.symm
      have e : (i - mu) % lam = (j - mu) % lam := by
        rcases Nat.lt_trichotomy ((i - mu) % lam) ((j - mu) % lam) with c | c | c
        · exact absurd hl (inj _ _ (by omega) (by omega))
        · exact c
        · exact absurd hl.symm (inj _ _ (by omega) (by omega))
      refine ⟨ci, ?_⟩
      have := Nat.sub_mod_eq_zero_of_mod_eq e.symm
      rw [show j - mu - (i - mu) = j - i by omega] at this
      exact Nat.dvd_of_mod_eq_zero this
    · exfalso
      by_cases cj : mu ≤ j
      · obtain ⟨r2, b2⟩ := red j cj
        exact inj i _ (by omega) (by omega) (h.trans r2.symm)
      · exact inj i j hij (by omega) h
  · obtain ⟨q, hq⟩ := h2
    have := perq q i h1
    rw [show i + lam * q = j by omega] at this
    exact this
/-- the j-th end of a road of n lines from N on that leads to T -/
def rpos (N n : Nat) (T : Int × Int) (j : Nat) : Int × Int := if j < n then (((N + j : Nat) : Int), (0 : Int)) else T
def aN (r a1 : Nat) (x : Int) : Nat := if x = 1 then 4 + r else 4 + r + a1
def aL (a1 a2 : Nat) (x : Int) : Nat := if x = 1 then a1 else a2
structure W25 (W : Wd) (k : Kd) (r a1 a2 : Nat) : Prop where
  kp : k.point = true
  k0 : W.kf 0 = some k
  k1 : W.kf 1 = some .still
  k2 : W.kf 2 = some .still
  k3 : W.kf 3 = some .line
  r0 : W.rf 0 = 0
  r1 : W.rf 1 = 1
  r2 : W.rf 2 = 2
  kr : ∀ j : Nat, j < r + a1 + a2 → W.kf ((4 + j : Nat) : Int) = some .line
  m3 : ∃ z, W.mf 3 1 = some z ∧ z.2 = rpos 4 r (2, 1) 0
  mr : ∀ j : Nat, j < r → ∃ z, W.mf ((4 + j : Nat) : Int) 1 = some z ∧ z.2 = rpos 4 r (2, 1) (j + 1)
  m20 : ∃ z, W.mf 2 0 = some z ∧ z.2 = ((0 : Int), (0 : Int))
  m10 : ∃ z, W.mf 1 0 = some z ∧ z.2 = ((2 : Int), (2 : Int))
  ma : ∀ x : Int, x = 1 ∨ x = 2 → ∃ z, W.mf 0 x = some z ∧ z.2 = rpos (aN r a1 x) (aL a1 a2 x) (1, x) 0
  mb : ∀ (x : Int) (j : Nat), x = 1 ∨ x = 2 → j < aL a1 a2 x → ∃ z, W.mf ((aN r a1 x + j : Nat) : Int) 1 = some z ∧ z.2 = rpos (aN r a1 x) (aL a1 a2 x) (1, x) (j + 1)
def AtC (s : Sd) (c : Int × Int) : Prop := ∃ b, s.at_ = some (b, c)
/-- behind n steps the engine stands at p, the point lies to x -/
structure St25 (W : Wd) (s : Sd) (n : Nat) (p : Int × Int) (x : Int) : Prop where
  a : AtC (W.go n s) p
  e : (W.go n s).ss = [x, 1, 1]
  h : (W.hist n s).length = n
theorem St25.next {W : Wd} {s s' : Sd} {n : Nat} {p p' : Int × Int} {x x' : Int} (S : St25 W s n p x) (hn : W.nx (W.go n s) = some s') (a : AtC s' p') (e : s'.ss = [x', 1, 1]) : St25 W s (n + 1) p' x' := by
  have g := go_sum W n 1 s
  have g1 : W.go 1 (W.go n s) = s' := by rw [show (1 : Nat) = 0 + 1 from rfl, go_succ W hn]; rfl
  have h1 : (W.hist 1 (W.go n s)).length = 1 := by rw [show (1 : Nat) = 0 + 1 from rfl, hist_succ W hn]; rfl
  refine ⟨?_, ?_, ?_⟩
  · rw [g.1, g1]; exact a
  · rw [g.1, g1]; exact e
  · rw [g.2, h1, S.h]
theorem St25.line {W : Wd} {s : Sd} {n : Nat} {q : Int} {x : Int} {z : En} (S : St25 W s n (q, 0) x) (hk : W.kf q = some .line) (hm : W.mf q 1 = some z) : St25 W s (n + 1) z.2 x := by
  obtain ⟨b, hb⟩ := S.a
  exact S.next (nx_of (z := (b, (q, 0))) (k := .line) (o := 1) hb hk rfl hm) ⟨z.1, rfl⟩ S.e
theorem St25.still {W : Wd} {s : Sd} {n : Nat} {q e : Int} {x : Int} {z : En} (S : St25 W s n (q, e) x) (hk : W.kf q = some .still) (he : e = 1 ∨ e = 2) (hr : W.rf q = 1 ∨ W.rf q = 2) (hm : W.mf q 0 = some z) : St25 W s (n + 1) z.2 x := by
  obtain ⟨b, hb⟩ := S.a
  have ho : Kd.still.out e (W.sv (W.go n s) q) = .int 0 := by rcases he with rfl | rfl <;> rfl
  refine S.next (nx_of (z := (b, (q, e))) (k := .still) (o := 0) hb hk ho hm) ⟨z.1, rfl⟩ ?_
  have sv : W.sv (W.go n s) q = 1 := by unfold Wd.sv; rw [S.e]; rcases hr with h | h <;> rw [h] <;> rfl
  show (if Kd.still.point = true then (W.go n s).ss.set (W.rf q).toNat (Kd.still.side e (W.sv (W.go n s) q)) else (W.go n s).ss) = _
  rw [if_pos (show Kd.still.point = true from rfl), sv, S.e]
  rcases he with rfl | rfl <;> rcases hr with h | h <;> rw [h] <;> rfl
theorem St25.pt {W : Wd} {s : Sd} {n : Nat} {k : Kd} {x : Int} {z : En} (S : St25 W s n (0, 0) x) (kp : k.point = true) (hk : W.kf 0 = some k) (hr : W.rf 0 = 0) (hm : W.mf 0 x = some z) : St25 W s (n + 1) z.2 (k.side 0 x) := by
  obtain ⟨b, hb⟩ := S.a
  have sv : W.sv (W.go n s) 0 = x := by unfold Wd.sv; rw [S.e, hr]; rfl
  have ho : k.out 0 (W.sv (W.go n s) 0) = .int x := by rw [sv]; cases k <;> first | rfl | cases kp
  refine S.next (nx_of (z := (b, (0, 0))) (k := k) (o := x) hb hk ho hm) ⟨z.1, rfl⟩ ?_
  show (if k.point = true then (W.go n s).ss.set (W.rf 0).toNat (k.side 0 (W.sv (W.go n s) 0)) else (W.go n s).ss) = _
  rw [if_pos kp, sv, S.e, hr]
  rfl
section
variable {W : Wd} {k : Kd} {r a1 a2 : Nat} {s : Sd}
theorem w25_road (w : W25 W k r a1 a2) {x : Int} (S : St25 W s 0 (3, 0) x) : ∀ j : Nat, j ≤ r → St25 W s (1 + j) (rpos 4 r (2, 1) j) x
  | 0, _ => by
    obtain ⟨z, hz, ez⟩ := w.m3
    have := S.line w.k3 hz
    rw [ez] at this
    exact this
  | j + 1, h => by
    have S := w25_road w S j (by omega)
    obtain ⟨z, hz, ez⟩ := w.mr j (by omega)
    have e : rpos 4 r (2, 1) j = (((4 + j : Nat) : Int), 0) := by unfold rpos; rw [if_pos (by omega)]
    rw [e] at S
    have := S.line (w.kr j (by omega)) hz
    rw [ez] at this
    exact this
theorem w25_mu (w : W25 W k r a1 a2) {x : Int} (S : St25 W s 0 (3, 0) x) : St25 W s (r + 2) (0, 0) x := by
  have S := w25_road w S r (Nat.le_refl _)
  have e : rpos 4 r (2, 1) r = (2, 1) := by unfold rpos; rw [if_neg (by omega)]
  rw [e] at S
  obtain ⟨z, hz, ez⟩ := w.m20
  have := S.still w.k2 (.inl rfl) (.inr w.r2) hz
  rw [ez, show 1 + r + 1 = r + 2 by omega] at this
  exact this
theorem w25_arm (w : W25 W k r a1 a2) {x : Int} (hx : x = 1 ∨ x = 2) {n : Nat} (S : St25 W s n (0, 0) x) : ∀ j : Nat, j ≤ aL a1 a2 x → St25 W s (n + 1 + j) (rpos (aN r a1 x) (aL a1 a2 x) (1, x) j) (k.side 0 x)
  | 0, _ => by
    obtain ⟨z, hz, ez⟩ := w.ma x hx
    have := S.pt w.kp w.k0 w.r0 hz
    rw [ez] at this
    exact this
  | j + 1, h => by
    have S := w25_arm w hx S j (by omega)
    obtain ⟨z, hz, ez⟩ := w.mb x j hx (by omega)
    have e : rpos (aN r a1 x) (aL a1 a2 x) (1, x) j = (((aN r a1 x + j : Nat) : Int), 0) := by unfold rpos; rw [if_pos (by omega)]
    rw [e] at S
    have hk : W.kf ((aN r a1 x + j : Nat) : Int) = some .line := by
      have := w.kr (aN r a1 x + j - 4) (by unfold aN; unfold aL at h; split <;> rename_i c <;> simp only [c, if_true, if_false] at h <;> omega)
      rw [show 4 + (aN r a1 x + j - 4) = aN r a1 x + j by unfold aN; split <;> omega] at this
      exact this
    have := S.line hk hz
    rw [ez] at this
    exact this
theorem w25_loop (w : W25 W k r a1 a2) {x : Int} (hx : x = 1 ∨ x = 2) {n : Nat} (S : St25 W s n (0, 0) x) : St25 W s (n + aL a1 a2 x + 1) (1, x) (k.side 0 x) ∧ St25 W s (n + aL a1 a2 x + 2) (2, 2) (k.side 0 x) ∧ St25 W s (n + aL a1 a2 x + 3) (0, 0) (k.side 0 x) := by
  have S1 := w25_arm w hx S (aL a1 a2 x) (Nat.le_refl _)
  have e : rpos (aN r a1 x) (aL a1 a2 x) (1, x) (aL a1 a2 x) = (1, x) := by unfold rpos; rw [if_neg (by omega)]
  rw [e, show n + 1 + aL a1 a2 x = n + aL a1 a2 x + 1 by omega] at S1
  obtain ⟨z, hz, ez⟩ := w.m10
  have S2 := S1.still w.k1 hx (.inl w.r1) hz
  rw [ez] at S2
  obtain ⟨z', hz', ez'⟩ := w.m20
  have S3 := S2.still w.k2 (.inr rfl) (.inr w.r2) hz'
  rw [ez'] at S3
  exact ⟨S1, S2, S3⟩
end

end P


set_option Elab.async false
set_option linter.all false
set_option maxRecDepth 100000
set_option maxHeartbeats 4000000
namespace P
open PySem L2

/-- the step at which a stand comes first -/
def dec25 (r N1 L1 N2 L2 : Nat) (x0 y1 : Int) (p : Int × Int) (x : Int) : Nat :=
  if p.1 = 3 then 0
  else if p.1 = 2 then (if p.2 = 1 then r + 1 else if x = y1 then r + 2 + L1 + 2 else r + 2 + L1 + 3 + L2 + 2)
  else if p.1 = 0 then (if x = x0 then r + 2 else r + 2 + L1 + 3)
  else if p.1 = 1 then (if p.2 = x0 then r + 2 + L1 + 1 else r + 2 + L1 + 3 + L2 + 1)
  else if p.1 < 4 + r then 1 + (p.1 - 4).toNat
  else if (N1 : Int) ≤ p.1 ∧ p.1 < N1 + L1 then r + 2 + 1 + (p.1 - N1).toNat
  else r + 2 + L1 + 3 + 1 + (p.1 - N2).toNat
theorem dec_far {r N1 L1 N2 L2 : Nat} {x0 y1 : Int} {q e x : Int} (h : 4 ≤ q) : dec25 r N1 L1 N2 L2 x0 y1 (q, e) x = if q < 4 + r then 1 + (q - 4).toNat else if (N1 : Int) ≤ q ∧ q < N1 + L1 then r + 2 + 1 + (q - N1).toNat else r + 2 + L1 + 3 + 1 + (q - N2).toNat := by
  unfold dec25
  dsimp only
  rw [if_neg (by omega), if_neg (by omega), if_neg (by omega), if_neg (by omega)]
theorem w25_cyc {W : Wd} {k : Kd} {r a1 a2 : Nat} {s : Sd} (w : W25 W k r a1 a2) {x0 : Int} (hx : x0 = 1 ∨ x0 = 2) (S0 : St25 W s 0 (3, 0) x0) :
    Cyc W s (r + 2) (if k = .turning then a1 + a2 + 6 else aL a1 a2 x0 + 3) := by
  have hx3 : 3 - x0 = 1 ∨ 3 - x0 = 2 := by omega
  have Sm := w25_mu w S0
  have L := w25_loop w hx Sm
  have A := w25_arm w hx Sm
  have sk : k.side 0 x0 = if k = .turning then 3 - x0 else x0 := by unfold Kd.side; rw [if_pos w.kp, if_pos rfl]
  have sk3 : k.side 0 (3 - x0) = if k = .turning then x0 else 3 - x0 := by unfold Kd.side; rw [if_pos w.kp, if_pos rfl, show 3 - (3 - x0) = x0 by omega]
  have f1 : 4 + r ≤ aN r a1 x0 := by unfold aN; split <;> omega
  have f2 : 4 + r ≤ aN r a1 (3 - x0) := by unfold aN; split <;> omega
  have f3 : aN r a1 x0 + aL a1 a2 x0 ≤ aN r a1 (3 - x0) ∨ aN r a1 (3 - x0) + aL a1 a2 (3 - x0) ≤ aN r a1 x0 := by
    unfold aN aL
    rcases hx with rfl | rfl
    · left; rw [if_pos rfl, if_pos rfl, if_neg (by decide)]
      exact Nat.le_refl _
    · right; rw [if_pos (by decide), if_pos (by decide), if_neg (by decide)]
      exact Nat.le_refl _
  have f4 : aL a1 a2 x0 + aL a1 a2 (3 - x0) = a1 + a2 := by
    unfold aL
    rcases hx with rfl | rfl
    · rw [if_pos rfl, if_neg (by decide)]
    · rw [if_neg (by decide), if_pos (by decide)]; omega
  have d0 : dec25 r (aN r a1 x0) (aL a1 a2 x0) (aN r a1 (3 - x0)) (aL a1 a2 (3 - x0)) x0 (k.side 0 x0) (3, 0) x0 = 0 := rfl
  -- the first part
  have P1 : ∀ n, n < r + 2 + aL a1 a2 x0 + 3 → ∃ p x, St25 W s n p x ∧ dec25 r (aN r a1 x0) (aL a1 a2 x0) (aN r a1 (3 - x0)) (aL a1 a2 (3 - x0)) x0 (k.side 0 x0) p x = n := fun n hn => by
    by_cases c0 : n = 0
    · subst c0; exact ⟨_, _, S0, rfl⟩
    by_cases c1 : n ≤ r + 1
    · refine ⟨_, _, (by have := w25_road w S0 (n - 1) (by omega); rw [show 1 + (n - 1) = n by omega] at this; exact this), ?_⟩
      unfold rpos
      by_cases c2 : n - 1 < r
      · rw [if_pos c2, dec_far (by omega), if_pos (by omega)]; omega
      · rw [if_neg c2]
        unfold dec25
        dsimp only
        rw [if_neg (by decide), if_pos rfl, if_pos rfl]; omega
    by_cases c2 : n = r + 2
    · subst c2
      refine ⟨_, _, Sm, ?_⟩
      unfold dec25
      dsimp only
      rw [if_neg (by decide), if_neg (by decide), if_pos rfl, if_pos rfl]
    by_cases c3 : n < r + 2 + aL a1 a2 x0 + 1
    · refine ⟨_, _, (by have := A (n - (r + 3)) (by omega); rw [show r + 2 + 1 + (n - (r + 3)) = n by omega] at this; exact this), ?_⟩
      unfold rpos
      rw [if_pos (by omega), dec_far (by omega), if_neg (by omega), if_pos (by omega)]; omega
    by_cases c4 : n = r + 2 + aL a1 a2 x0 + 1
    · subst c4
      refine ⟨_, _, L.1, ?_⟩
      unfold dec25
      dsimp only
      rw [if_neg (by decide), if_neg (by decide), if_neg (by decide), if_pos rfl, if_pos rfl]
    · have : n = r + 2 + aL a1 a2 x0 + 2 := by omega
      subst this
      refine ⟨_, _, L.2.1, ?_⟩
      unfold dec25
      dsimp only
      rw [if_neg (by decide), if_pos rfl, if_neg (by decide), if_pos rfl]
  have inj : ∀ (lam : Nat), (∀ n, n < r + 2 + lam → ∃ p x, St25 W s n p x ∧ dec25 r (aN r a1 x0) (aL a1 a2 x0) (aN r a1 (3 - x0)) (aL a1 a2 (3 - x0)) x0 (k.side 0 x0) p x = n) → ∀ i j, i < j → j < r + 2 + lam → ¬ Lk (W.go i s) (W.go j s) := fun lam H i j hij hj l => by
    obtain ⟨p1, x1, ⟨⟨b1, q1⟩, e1, _⟩, d1⟩ := H i (by omega)
    obtain ⟨p2, x2, ⟨⟨b2, q2⟩, e2, _⟩, d2⟩ := H j hj
    have a := l.a
    rw [q1, q2] at a
    have ap : p1 = p2 := Option.some.inj a
    have as := l.s
    rw [e1, e2] at as
    have ax : x1 = x2 := by injection as
    rw [ap, ax, d2] at d1
    omega
  have bk : ∀ {n : Nat}, St25 W s n (0, 0) x0 → Lk (W.go (r + 2) s) (W.go n s) := fun {n} S => by
    obtain ⟨b1, q1⟩ := Sm.a
    obtain ⟨b2, q2⟩ := S.a
    exact ⟨by rw [Sm.e, S.e], by rw [q1, q2]; rfl⟩
  by_cases ct : k = .turning
  · rw [if_pos ct] at sk sk3 ⊢
    have Sm2 := L.2.2
    rw [sk] at Sm2
    have L2 := w25_loop w hx3 Sm2
    have A2 := w25_arm w hx3 Sm2
    rw [sk3] at L2 A2
    have e6 : r + 2 + aL a1 a2 x0 + 3 + aL a1 a2 (3 - x0) + 3 = r + 2 + (a1 + a2 + 6) := by omega
    have fin := L2.2.2
    rw [e6] at fin
    refine cyc_of (by omega) fin.h (bk fin) (inj _ fun n hn => ?_)
    by_cases c0 : n < r + 2 + aL a1 a2 x0 + 3
    · exact P1 n c0
    by_cases c2 : n = r + 2 + aL a1 a2 x0 + 3
    · subst c2
      refine ⟨_, _, Sm2, ?_⟩
      unfold dec25
      dsimp only
      rw [if_neg (by decide), if_neg (by decide), if_pos rfl, if_neg (by omega)]
    by_cases c3 : n < r + 2 + aL a1 a2 x0 + 3 + aL a1 a2 (3 - x0) + 1
    · refine ⟨_, _, (by have := A2 (n - (r + 2 + aL a1 a2 x0 + 4)) (by omega); rw [show r + 2 + aL a1 a2 x0 + 3 + 1 + (n - (r + 2 + aL a1 a2 x0 + 4)) = n by omega] at this; exact this), ?_⟩
      unfold rpos
      rw [if_pos (by omega), dec_far (by omega), if_neg (by omega), if_neg (by omega)]; omega
    by_cases c4 : n = r + 2 + aL a1 a2 x0 + 3 + aL a1 a2 (3 - x0) + 1
    · subst c4
      refine ⟨_, _, L2.1, ?_⟩
      unfold dec25
      dsimp only
      rw [if_neg (by decide), if_neg (by decide), if_neg (by decide), if_pos rfl, if_neg (by omega)]
    · have : n = r + 2 + aL a1 a2 x0 + 3 + aL a1 a2 (3 - x0) + 2 := by omega
      subst this
      refine ⟨_, _, L2.2.1, ?_⟩
      unfold dec25
      dsimp only
      rw [if_neg (by decide), if_pos rfl, if_neg (by decide), if_neg (by rw [sk]; omega)]
  · rw [if_neg ct] at sk ⊢
    have fin := L.2.2
    rw [sk] at fin
    refine cyc_of (by omega) (by have := fin.h; rw [show r + 2 + (aL a1 a2 x0 + 3) = r + 2 + aL a1 a2 x0 + 3 by omega]; exact this) (by have := bk fin; rw [show r + 2 + (aL a1 a2 x0 + 3) = r + 2 + aL a1 a2 x0 + 3 by omega]; exact this) (inj _ fun n hn => P1 n (by omega))

end P


set_option Elab.async false
set_option linter.all false
set_option maxRecDepth 100000
set_option maxHeartbeats 4000000
namespace P
open PySem L2

theorem Kd.of3t (x : Int) : ∃ k : Kd, k.point = true ∧ atI [V.str "turning", .str "still", .str "lazy"] (x % 3) = some (.str k.str) := by
  have l0 := Int.emod_nonneg x (show (3 : Int) ≠ 0 by decide)
  have l1 := Int.emod_lt_of_pos x (show (0 : Int) < 3 by decide)
  generalize x % 3 = m at *
  have : m = 0 ∨ m = 1 ∨ m = 2 := by omega
  rcases this with rfl | rfl | rfl
  · exact ⟨.turning, rfl, rfl⟩
  · exact ⟨.still, rfl, rfl⟩
  · exact ⟨.lazy, rfl, rfl⟩
theorem Bd.throw {y : YR} {w : Wd} {s : Sd} {es : List En} {N M : Nat} (B : Bd y w s es N M) (r : Nat) (x : Int) (hx : x = 1 ∨ x = 2) : Bd { y with sides := y.sides.set r (.int x), trail := [] } w { s with ss := s.ss.set r x } es N M :=
  ⟨B.R.throw r x hx, B.F, ⟨B.Z.k, B.Z.o, B.Z.r, by show (y.sides.set r (.int x)).length ≤ N; rw [List.length_set]; exact B.Z.s, B.Z.m, B.Z.g, rfl⟩, B.nx, B.kn, B.k0, B.ek, B.me⟩
theorem Bd.linkE {y : YR} {w : Wd} {s : Sd} {es : List En} {N M : Nat} (B : Bd y w s es N M) (hN : N ≤ 2000) {x z : En} (hx : w.ok x) (hz : w.ok z) (xe : x ∈ es) :
    Bd { y with mates := putK (putK y.mates (kE x.2.1 x.2.2) (.ref z.1)) (kE z.2.1 z.2.2) (.ref x.1), trail := [] } (w.link x z) s (z :: es) N (M + 2) := by
  have B4 := B.link hN hx hz
  refine ⟨B4.R, B4.F, B4.Z, B4.nx, B4.kn, B4.k0, B4.ek, fun p e u hu => ?_⟩
  rcases List.mem_cons.mp (B4.me p e u hu) with h | h
  · rw [h]; exact .head _
  · rcases List.mem_cons.mp h with h | h
    · rw [h]; exact .tail _ xe
    · exact .tail _ h
/-- pieces laid for the arms that are led home -/
def q25n (l1 l2 i : Nat) : Nat := if i = 0 then 0 else if i = 1 then l1 else l1 + l2
structure Q25 (W : Wd) (k : Kd) (r l1 l2 i : Nat) : Prop where
  kp : k.point = true
  k0 : W.kf 0 = some k
  k1 : W.kf 1 = some .still
  k2 : W.kf 2 = some .still
  k3 : W.kf 3 = some .line
  r0 : W.rf 0 = 0
  r1 : W.rf 1 = 1
  r2 : W.rf 2 = 2
  kr : ∀ j : Nat, j < r + q25n l1 l2 i → W.kf ((4 + j : Nat) : Int) = some .line
  m3 : ∃ z, W.mf 3 1 = some z ∧ z.2 = rpos 4 r (2, 1) 0
  mr : ∀ j : Nat, j < r → ∃ z, W.mf ((4 + j : Nat) : Int) 1 = some z ∧ z.2 = rpos 4 r (2, 1) (j + 1)
  m20 : ∃ z, W.mf 2 0 = some z ∧ z.2 = ((0 : Int), (0 : Int))
  m10 : ∃ z, W.mf 1 0 = some z ∧ z.2 = ((2 : Int), (2 : Int))
  ma : ∀ x : Int, 1 ≤ x → x ≤ i → ∃ z, W.mf 0 x = some z ∧ z.2 = rpos (aN r l1 x) (aL l1 l2 x) (1, x) 0
  mb : ∀ (x : Int) (j : Nat), 1 ≤ x → x ≤ i → j < aL l1 l2 x → ∃ z, W.mf ((aN r l1 x + j : Nat) : Int) 1 = some z ∧ z.2 = rpos (aN r l1 x) (aL l1 l2 x) (1, x) (j + 1)
  fr : ∀ x : Int, (i : Int) < x → W.mf 0 x = none ∧ W.mf 1 x = none
  fN : ∀ p e : Int, ((4 + r + q25n l1 l2 i : Nat) : Int) ≤ p → W.mf p e = none
theorem Q25.whole {W : Wd} {k : Kd} {r l1 l2 : Nat} (q : Q25 W k r l1 l2 2) : W25 W k r l1 l2 :=
  ⟨q.kp, q.k0, q.k1, q.k2, q.k3, q.r0, q.r1, q.r2, fun j hj => q.kr j (by show j < r + (l1 + l2); omega), q.m3, q.mr, q.m20, q.m10, fun x hx => q.ma x (by omega) (by omega), fun x j hx hj => q.mb x j (by omega) (by omega) hj⟩
theorem Q25.arm {W W' : Wd} {k : Kd} {r l1 l2 i : Nat} (q : Q25 W k r l1 l2 i) (hi : i < 2) (S : RoadS W W' (0, (i : Int) + 1) (4 + r + q25n l1 l2 i) (aL l1 l2 ((i : Int) + 1))) (b c : Addr) :
    Q25 (W'.link (b, roadO (0, (i : Int) + 1) (4 + r + q25n l1 l2 i) (aL l1 l2 ((i : Int) + 1))) (c, ((1 : Int), (i : Int) + 1))) k r l1 l2 (i + 1) := by
  have eN : aN r l1 ((i : Int) + 1) = 4 + r + q25n l1 l2 i := by
    have : i = 0 ∨ i = 1 := by omega
    rcases this with rfl | rfl <;> rfl
  have eS : q25n l1 l2 (i + 1) = q25n l1 l2 i + aL l1 l2 ((i : Int) + 1) := by
    have : i = 0 ∨ i = 1 := by omega
    rcases this with rfl | rfl
    · show l1 = 0 + l1; omega
    · rfl
  have old : ∀ x : Int, 1 ≤ x → x ≤ i → aN r l1 x + aL l1 l2 x ≤ 4 + r + q25n l1 l2 i ∧ 4 + r ≤ aN r l1 x := fun x h1 h2 => by
    have : i = 1 := by omega
    subst this
    have : x = 1 := by omega
    subst this
    exact ⟨Nat.le_refl _, Nat.le_refl _⟩
  generalize hn : aL l1 l2 ((i : Int) + 1) = n at *
  generalize hN : 4 + r + q25n l1 l2 i = N at *
  have N4 : 4 + r ≤ N := by omega
  have mf : ∀ p e : Int, (W'.link (b, roadO (0, (i : Int) + 1) N n) (c, ((1 : Int), (i : Int) + 1))).mf p e = if (p, e) = ((1 : Int), (i : Int) + 1) then some (b, roadO (0, (i : Int) + 1) N n) else if (p, e) = roadO (0, (i : Int) + 1) N n then some (c, ((1 : Int), (i : Int) + 1)) else W'.mf p e := fun _ _ => rfl
  have ne1 : ∀ {x y u v : Int}, ¬ x = u → ¬ (x, y) = (u, v) := fun h e => h (Prod.mk.inj e).1
  have ne2 : ∀ {x y u v : Int}, ¬ y = v → ¬ (x, y) = (u, v) := fun h e => h (Prod.mk.inj e).2
  have kf : ∀ p : Int, p < N → (W'.link (b, roadO (0, (i : Int) + 1) N n) (c, ((1 : Int), (i : Int) + 1))).kf p = W.kf p := fun p hp => S.ks p (by omega)
  have rf : ∀ p : Int, p < N → (W'.link (b, roadO (0, (i : Int) + 1) N n) (c, ((1 : Int), (i : Int) + 1))).rf p = W.rf p := fun p hp => S.rs p (by omega)
  -- what was there stays
  have st : ∀ p e : Int, p < N → ¬ (p, e) = (0, (i : Int) + 1) → ¬ (p, e) = ((1 : Int), (i : Int) + 1) → (W'.link (b, roadO (0, (i : Int) + 1) N n) (c, ((1 : Int), (i : Int) + 1))).mf p e = W.mf p e := fun p e hp h0 h1 => by
    rw [mf, if_neg h1]
    have : ¬ (p, e) = roadO (0, (i : Int) + 1) N n := by
      unfold roadO
      split
      · exact h0
      · exact ne1 (by omega)
    rw [if_neg this]
    exact S.sm p e h0 (by omega)
  refine ⟨q.kp, by rw [kf _ (by omega)]; exact q.k0, by rw [kf _ (by omega)]; exact q.k1, by rw [kf _ (by omega)]; exact q.k2, by rw [kf _ (by omega)]; exact q.k3, by rw [rf _ (by omega)]; exact q.r0, by rw [rf _ (by omega)]; exact q.r1, by rw [rf _ (by omega)]; exact q.r2, fun j hj => ?_, by rw [st _ _ (by omega) (ne1 (by decide)) (ne1 (by decide))]; exact q.m3, fun j hj => ?_, by rw [st _ _ (by omega) (ne1 (by decide)) (ne1 (by decide))]; exact q.m20, ?_, fun x h1 h2 => ?_, fun x j h1 h2 hj => ?_, fun x h => ?_, fun p e h => ?_⟩
  · by_cases c1 : 4 + j < N
    · rw [kf _ (by omega)]; exact q.kr j (by omega)
    · have := S.kl (4 + j - N) (by omega)
      rw [show N + (4 + j - N) = 4 + j by omega] at this
      exact this
  · rw [st _ _ (by omega) (ne1 (by omega)) (ne1 (by omega))]; exact q.mr j hj
  · rw [st _ _ (by omega) (ne1 (by decide)) (ne2 (by omega))]; exact q.m10
  · by_cases cx : x = (i : Int) + 1
    · subst cx
      rw [eN, hn, mf, if_neg (ne1 (by decide))]
      by_cases c0 : n = 0
      · subst c0
        rw [if_pos (by unfold roadO; rw [if_pos rfl])]
        exact ⟨_, rfl, by unfold rpos; rw [if_neg (by omega)]⟩
      · rw [if_neg (by unfold roadO; rw [if_neg c0]; exact ne1 (by omega))]
        obtain ⟨z, hz, ez⟩ := S.f0 (by omega)
        exact ⟨z, hz, by rw [ez]; unfold rpos; rw [if_pos (by omega)]; rfl⟩
    · rw [st _ _ (by omega) (ne2 cx) (ne1 (by decide))]; exact q.ma x h1 (by omega)
  · by_cases cx : x = (i : Int) + 1
    · subst cx
      rw [eN, hn]
      rw [hn] at hj
      rw [mf, if_neg (ne1 (by omega))]
      by_cases c0 : j + 1 < n
      · rw [if_neg (by unfold roadO; rw [if_neg (by omega)]; exact ne1 (by omega))]
        obtain ⟨z, hz, ez⟩ := S.f1 j c0
        exact ⟨z, hz, by rw [ez]; unfold rpos; rw [if_pos c0]; rfl⟩
      · rw [if_pos (by unfold roadO; rw [if_neg (by omega), show N + n - 1 = N + j by omega])]
        exact ⟨_, rfl, by unfold rpos; rw [if_neg c0]⟩
    · have o := old x h1 (by omega)
      rw [st _ _ (by omega) (ne1 (by omega)) (ne1 (by omega))]; exact q.mb x j h1 (by omega) hj
  · exact ⟨by rw [st _ _ (by omega) (ne2 (by omega)) (ne1 (by decide))]; exact (q.fr x (by omega)).1, by rw [st _ _ (by omega) (ne1 (by decide)) (ne2 (by omega))]; exact (q.fr x (by omega)).2⟩
  · rw [mf, if_neg (ne1 (by omega))]
    by_cases c0 : n = 0
    · rw [if_neg (by unfold roadO; rw [if_pos c0]; exact ne1 (by omega)), S.z0 c0]; exact q.fN p e (by omega)
    · rw [if_neg (by unfold roadO; rw [if_neg c0]; exact ne1 (by omega)), S.sm p e (ne1 (by omega)) (by omega)]; exact q.fN p e (by omega)

theorem Q25.base {w5 w6 : Wd} {k : Kd} {r l1 l2 : Nat} (kp : k.point = true) (k0 : w5.kf 0 = some k) (k1 : w5.kf 1 = some .still) (k2 : w5.kf 2 = some .still) (k3 : w5.kf 3 = some .line) (r0 : w5.rf 0 = 0) (r1 : w5.rf 1 = 1) (r2 : w5.rf 2 = 2) (mn : ∀ p e : Int, w5.mf p e = none)
    (S : RoadS w5 w6 (3, 1) 4 r) (b c2 c3 c4 c5 c6 : Addr) :
    Q25 (((w6.link (b, roadO (3, 1) 4 r) (c2, ((2 : Int), (1 : Int)))).link (c3, ((2 : Int), (0 : Int))) (c4, ((0 : Int), (0 : Int)))).link (c5, ((1 : Int), (0 : Int))) (c6, ((2 : Int), (2 : Int)))) k r l1 l2 0 := by
  have mf : ∀ p e : Int, (((w6.link (b, roadO (3, 1) 4 r) (c2, ((2 : Int), (1 : Int)))).link (c3, ((2 : Int), (0 : Int))) (c4, ((0 : Int), (0 : Int)))).link (c5, ((1 : Int), (0 : Int))) (c6, ((2 : Int), (2 : Int)))).mf p e =
      if (p, e) = ((2 : Int), (2 : Int)) then some (c5, ((1 : Int), (0 : Int))) else if (p, e) = ((1 : Int), (0 : Int)) then some (c6, ((2 : Int), (2 : Int))) else
      if (p, e) = ((0 : Int), (0 : Int)) then some (c3, ((2 : Int), (0 : Int))) else if (p, e) = ((2 : Int), (0 : Int)) then some (c4, ((0 : Int), (0 : Int))) else
      if (p, e) = ((2 : Int), (1 : Int)) then some (b, roadO (3, 1) 4 r) else if (p, e) = roadO (3, 1) 4 r then some (c2, ((2 : Int), (1 : Int))) else w6.mf p e := fun _ _ => rfl
  have ne1 : ∀ {x y u v : Int}, ¬ x = u → ¬ (x, y) = (u, v) := fun h e => h (Prod.mk.inj e).1
  have ne2 : ∀ {x y u v : Int}, ¬ y = v → ¬ (x, y) = (u, v) := fun h e => h (Prod.mk.inj e).2
  have far : ∀ p e : Int, 3 ≤ p → (((w6.link (b, roadO (3, 1) 4 r) (c2, ((2 : Int), (1 : Int)))).link (c3, ((2 : Int), (0 : Int))) (c4, ((0 : Int), (0 : Int)))).link (c5, ((1 : Int), (0 : Int))) (c6, ((2 : Int), (2 : Int)))).mf p e = if (p, e) = roadO (3, 1) 4 r then some (c2, ((2 : Int), (1 : Int))) else w6.mf p e := fun p e h => by
    rw [mf, if_neg (ne1 (by omega)), if_neg (ne1 (by omega)), if_neg (ne1 (by omega)), if_neg (ne1 (by omega)), if_neg (ne1 (by omega))]
  have kf : ∀ p : Int, p < 4 → (((w6.link (b, roadO (3, 1) 4 r) (c2, ((2 : Int), (1 : Int)))).link (c3, ((2 : Int), (0 : Int))) (c4, ((0 : Int), (0 : Int)))).link (c5, ((1 : Int), (0 : Int))) (c6, ((2 : Int), (2 : Int)))).kf p = w5.kf p := fun p hp => S.ks p (by omega)
  have rf : ∀ p : Int, p < 4 → (((w6.link (b, roadO (3, 1) 4 r) (c2, ((2 : Int), (1 : Int)))).link (c3, ((2 : Int), (0 : Int))) (c4, ((0 : Int), (0 : Int)))).link (c5, ((1 : Int), (0 : Int))) (c6, ((2 : Int), (2 : Int)))).rf p = w5.rf p := fun p hp => S.rs p (by omega)
  have w6n : ∀ p e : Int, ¬ (p, e) = ((3 : Int), (1 : Int)) → ¬ ((4 : Int) ≤ p ∧ p < ((4 + r : Nat) : Int)) → w6.mf p e = none := fun p e h1 h2 => by rw [S.sm p e h1 (by omega)]; exact mn p e
  have rn : ∀ {p e : Int}, p < 3 → ¬ (p, e) = roadO (3, 1) 4 r := fun {p e} h => by
    unfold roadO
    split
    · exact ne1 (by omega)
    · exact ne1 (by omega)
  refine ⟨kp, by rw [kf _ (by decide)]; exact k0, by rw [kf _ (by decide)]; exact k1, by rw [kf _ (by decide)]; exact k2, by rw [kf _ (by decide)]; exact k3, by rw [rf _ (by decide)]; exact r0, by rw [rf _ (by decide)]; exact r1, by rw [rf _ (by decide)]; exact r2, fun j hj => S.kl j (by unfold q25n at hj; rw [if_pos rfl] at hj; omega), ?_, fun j hj => ?_, ?_, ?_, fun x h1 h2 => by omega, fun x j h1 h2 => by omega, fun x h => ?_, fun p e h => ?_⟩
  · rw [far _ _ (by omega)]
    by_cases c0 : r = 0
    · subst c0
      rw [if_pos (by unfold roadO; rw [if_pos rfl])]
      exact ⟨_, rfl, rfl⟩
    · rw [if_neg (by unfold roadO; rw [if_neg c0]; exact ne1 (by omega))]
      obtain ⟨z, hz, ez⟩ := S.f0 (by omega)
      exact ⟨z, hz, by rw [ez]; unfold rpos; rw [if_pos (by omega)]⟩
  · rw [far _ _ (by omega)]
    by_cases c0 : j + 1 < r
    · rw [if_neg (by unfold roadO; rw [if_neg (by omega)]; exact ne1 (by omega))]
      obtain ⟨z, hz, ez⟩ := S.f1 j c0
      exact ⟨z, hz, by rw [ez]; unfold rpos; rw [if_pos c0]; rfl⟩
    · rw [if_pos (by unfold roadO; rw [if_neg (by omega), show 4 + r - 1 = 4 + j by omega])]
      exact ⟨_, rfl, by unfold rpos; rw [if_neg c0]⟩
  · rw [mf, if_neg (ne2 (by decide)), if_neg (ne1 (by decide)), if_neg (ne1 (by decide)), if_pos rfl]; exact ⟨_, rfl, rfl⟩
  · rw [mf, if_neg (ne1 (by decide)), if_pos rfl]; exact ⟨_, rfl, rfl⟩
  · constructor
    · rw [mf, if_neg (ne1 (by decide)), if_neg (ne1 (by decide)), if_neg (ne2 (by omega)), if_neg (ne1 (by decide)), if_neg (ne1 (by decide)), if_neg (rn (by decide))]
      exact w6n _ _ (ne1 (by decide)) (by omega)
    · rw [mf, if_neg (ne1 (by decide)), if_neg (ne2 (by omega)), if_neg (ne1 (by decide)), if_neg (ne1 (by decide)), if_neg (ne1 (by decide)), if_neg (rn (by decide))]
      exact w6n _ _ (ne1 (by decide)) (by omega)
  · have h : ((4 + r : Nat) : Int) ≤ p := by unfold q25n at h; rw [if_pos rfl] at h; omega
    rw [far _ _ (by omega), if_neg (by
      unfold roadO
      split
      · exact ne1 (by omega)
      · exact ne1 (by omega))]
    exact w6n _ _ (ne1 (by omega)) (by omega)

end P


set_option Elab.async false
set_option linter.all false
set_option maxRecDepth 100000
set_option maxHeartbeats 4000000
namespace P
open PySem L2

/-- the law's promise -/
def sp_law (K : PySem.W.Frag) : Sp := fun vs H Q _ => ∃ (a : Addr) (ns : List Int), vs = [.ref a] ∧ SqL K H a (ns.map V.int) ∧ ns.length ≤ 63 ∧ ∀ H', Q (.bl true) H'
theorem law_binds {K : PySem.W.Frag} {mg : Str → Option Value} {t : Adr} (T : Txt K mg t) (s : Shared) (u : Value) : BindsTo s t.d_law ⟨[u], []⟩ [("_law_script", u)] := by
  obtain ⟨oc, od, kV, doc, pm, an, cdv, ct, osl, e, lk, hcd⟩ := T.F_law.ex
  rw [e, T.e_law]
  exact .of_eq rfl
theorem law_start {K : PySem.W.Frag} {H : Hp} {a : Addr} {ns : List Int} (hl : ns.length ≤ 63) (hS : SqL K H a (ns.map V.int)) {E : XK} : sp_law K [.ref a] H (fun v _ => v = .bl true) E := ⟨a, ns, rfl, hS, hl, fun _ => rfl⟩

section
variable {P : Program} {w : World} {K : PySem.W.Frag} {mg : Str → Option Value} {base : Heap} {t : Adr}
theorem scLa : FnScope ["_law_script", "_law_d", "_law_yard", "_law_kind", "_law_side", "_law_lengths", "_law_road_here", "_law_point", "_law_inner", "_law_outer", "_law_start", "_law_arm", "_law_begin", "_law_length", "_law_due", "_law_most", "_law_found"] ["_law_script"] (defScope s_law) := ⟨rfl, rfl, rfl, by decide +kernel, rfl, by decide +kernel, by decide +kernel⟩
theorem ok_law (T : Txt K mg t) : FnOk P w K mg base CX0 12 t.f_law t.d_law ["_law_script"] (sp_law K) := by
  obtain ⟨_, hd_Yard_lay_2, hb_Yard_lay_2⟩ := bD_Yard_lay_2 T
  refine T.F_law.ok scLa (fun vs H Q E h => ?_) (fun cdv A outer s H vs Q E hr h => ?_)
  · obtain ⟨_, _, rfl, _⟩ := h
    rfl
  · obtain ⟨a, ns0, rfl, hS, hns, q⟩ := h
    refine ⟨_, (pss_cons (ps_set (i := 1) scLa.nd rfl (Or.inl rfl) (pe_call (ok_draws T) (hr.mono (by decide)) (by rfl) T.m_draws T.F_draws.kp (b_draws T) .nil pass0 (pa_cons (pv 0) (pa_cons pe_int pa_nil))))
      (pss_cons (ps_set (i := 2) scLa.nd rfl (Or.inl rfl) (pe_make0 T.mk_Yard (ok_Yard_init T) (hr.mono (by decide)) (by rfl) T.m_Yard (b_Yard_init T) .nil pass0))
      (pss_cons (ps_set (i := 3) scLa.nd rfl (Or.inl rfl) (pe_ix ix_list (pe_lst (pa_cons pe_str (pa_cons pe_str (pa_cons pe_str pa_nil)))) (pe_op op_mod (pe_ix ix_list (pv 1) pe_int (fun _ _ => rfl)) pe_int) (fun _ _ => rfl)))
      (pss_cons (ps_set (i := 4) scLa.nd rfl (Or.inl rfl) (pe_op op_add pe_int (pe_op op_mod (pe_ix ix_list (pv 1) pe_int (fun _ _ => rfl)) pe_int)))
      (pss_cons (ps_set (i := 5) scLa.nd rfl (Or.inl rfl) (pe_lst (pa_cons (pe_op op_mod (pe_ix ix_list (pv 1) pe_int (fun _ _ => rfl)) pe_int) (pa_cons (pe_op op_mod (pe_ix ix_list (pv 1) pe_int (fun _ _ => rfl)) pe_int) pa_nil))))
      (pss_cons (ps_if (pt_cmpR op_eq (pe_op op_mod (pe_ix ix_list (pv 1) pe_int (fun _ _ => rfl)) pe_int) pe_int (nomark _))
        (pss_one (ps_setC (ix := 5) scLa.nd rfl (Or.inl rfl) (esc := defScope s_law) (k := 1) ["_law_length", "_law_script", "_law_d", "_law_yard", "_law_kind", "_law_side", "_law_lengths", "_law_road_here", "_law_point", "_law_inner", "_law_outer", "_law_start", "_law_arm", "_law_begin", "_law_length'", "_law_due", "_law_most", "_law_found"] rfl (pi_list (pv 5)) (fun _ _ _ _ _ => by exact (pg_name (i := 0) (show List.Nodup (["_law_length", "_law_script", "_law_d", "_law_yard", "_law_kind", "_law_side", "_law_lengths", "_law_road_here", "_law_point", "_law_inner", "_law_outer", "_law_start", "_law_arm", "_law_begin", "_law_length'", "_law_due", "_law_most", "_law_found"] : List Str) from by decide +kernel) rfl (Or.inl rfl))) (fun _ _ _ _ _ => by exact pts_nil) (fun _ _ _ _ _ => by exact (pe_op op_mul pe_int (pv 0))) rfl (by decide +kernel) (by decide +kernel) rfl (by decide +kernel) (by rfl) (fun i y h hf => by
        by_cases c : i = 13
        · subst c; cases h; exact absurd hf (by decide +kernel)
        · have h2 : (List.set (["_law_script", "_law_d", "_law_yard", "_law_kind", "_law_side", "_law_lengths", "_law_road_here", "_law_point", "_law_inner", "_law_outer", "_law_start", "_law_arm", "_law_begin", "_law_length", "_law_due", "_law_most", "_law_found"] : List Str) 13 "_law_length'")[i]? = some y := h
          rw [List.getElem?_set_ne (fun z => c z.symm)] at h2; exact h2) (by decide +kernel)))
        pss_nil)
      (pss_cons (ps_set (i := 6) scLa.nd rfl (Or.inl rfl) (pe_op op_mod (pe_ix ix_list (pv 1) pe_int (fun _ _ => rfl)) pe_int))
      (pss_cons (ps_set (i := 7) scLa.nd rfl (Or.inl rfl) (pe_meth (pv 2) T.cl_Yard T.M_Yard_lay (ok_Yard_lay T) (hr.mono (by decide)) hb_Yard_lay_2 hd_Yard_lay_2 pass0 (pa_cons (pv 3) pa_nil)))
      (pss_cons (ps_expr (pe_meth (pv 2) T.cl_Yard T.M_Yard_throw (ok_Yard_throw T) (hr.mono (by decide)) (b_Yard_throw T) .nil pass0 (pa_cons (pe_meth (pv 2) T.cl_Yard T.M_Yard_rod (ok_Yard_rod T) (hr.mono (by decide)) (b_Yard_rod T) .nil pass0 (pa_cons (pv 7) pa_nil)) (pa_cons (pv 4) pa_nil))))
      (pss_cons (ps_set (i := 8) scLa.nd rfl (Or.inl rfl) (pe_meth (pv 2) T.cl_Yard T.M_Yard_lay (ok_Yard_lay T) (hr.mono (by decide)) hb_Yard_lay_2 hd_Yard_lay_2 pass0 (pa_cons pe_str pa_nil)))
      (pss_cons (ps_set (i := 9) scLa.nd rfl (Or.inl rfl) (pe_meth (pv 2) T.cl_Yard T.M_Yard_lay (ok_Yard_lay T) (hr.mono (by decide)) hb_Yard_lay_2 hd_Yard_lay_2 pass0 (pa_cons pe_str pa_nil)))
      (pss_cons (ps_set (i := 10) scLa.nd rfl (Or.inl rfl) (pe_meth (pv 2) T.cl_Yard T.M_Yard_lay (ok_Yard_lay T) (hr.mono (by decide)) hb_Yard_lay_2 hd_Yard_lay_2 pass0 (pa_cons pe_str pa_nil)))
      (pss_cons (ps_expr (pe_meth (pv 2) T.cl_Yard T.M_Yard_link (ok_Yard_link T) (hr.mono (by decide)) (b_Yard_link T) .nil pass0 (pa_cons (pe_call (ok_road T) (hr.mono (by decide)) (by rfl) T.m_road T.F_road.kp (b_road T) .nil pass0 (pa_cons (pv 2) (pa_cons (pe_tup (pa_cons (pv 10) (pa_cons pe_int pa_nil))) (pa_cons (pv 6) pa_nil)))) (pa_cons (pe_tup (pa_cons (pv 9) (pa_cons pe_int pa_nil))) pa_nil))))
      (pss_cons (ps_expr (pe_meth (pv 2) T.cl_Yard T.M_Yard_link (ok_Yard_link T) (hr.mono (by decide)) (b_Yard_link T) .nil pass0 (pa_cons (pe_tup (pa_cons (pv 9) (pa_cons pe_int pa_nil))) (pa_cons (pe_tup (pa_cons (pv 7) (pa_cons pe_int pa_nil))) pa_nil))))
      (pss_cons (ps_expr (pe_meth (pv 2) T.cl_Yard T.M_Yard_link (ok_Yard_link T) (hr.mono (by decide)) (b_Yard_link T) .nil pass0 (pa_cons (pe_tup (pa_cons (pv 8) (pa_cons pe_int pa_nil))) (pa_cons (pe_tup (pa_cons (pv 9) (pa_cons pe_int pa_nil))) pa_nil))))
      (pss_cons (ps_for PassesOwn.never rfl (pi_list (pe_lst (pa_cons pe_int (pa_cons pe_int pa_nil)))) (pg_name (i := 11) scLa.nd rfl (Or.inl rfl))
        (pss_one (ps_expr (pe_meth (pv 2) T.cl_Yard T.M_Yard_link (ok_Yard_link T) (hr.mono (by decide)) (b_Yard_link T) .nil pass0 (pa_cons (pe_call (ok_road T) (hr.mono (by decide)) (by rfl) T.m_road T.F_road.kp (b_road T) .nil pass0 (pa_cons (pv 2) (pa_cons (pe_tup (pa_cons (pv 7) (pa_cons (pv 11) pa_nil))) (pa_cons (pe_ix ix_list (pv 5) (pe_op op_sub (pv 11) pe_int) (fun _ _ => rfl)) pa_nil)))) (pa_cons (pe_tup (pa_cons (pv 8) (pa_cons (pv 11) pa_nil))) pa_nil))))))
      (pss_cons (ps_expr (pe_meth (pv 2) T.cl_Yard T.M_Yard_put (ok_Yard_put T) (hr.mono (by decide)) (b_Yard_put T) .nil pass0 (pa_cons (pe_tup (pa_cons (pv 10) (pa_cons pe_int pa_nil))) pa_nil)))
      (pss_cons (ps_set (i := 12) scLa.nd rfl (Or.inl rfl) (pe_op op_add (pv 6) pe_int))
      (pss_cons (ps_set (i := 13) scLa.nd rfl (Or.inl rfl) (pe_op op_add (pe_ix ix_list (pv 5) (pe_op op_sub (pv 4) pe_int) (fun _ _ => rfl)) pe_int))
      (pss_cons (ps_if (pt_cmpR op_eq (pv 3) pe_str (nomark _))
        (pss_one (ps_set (i := 13) scLa.nd rfl (Or.inl rfl) (pe_op op_add (pe_op op_add (pe_ix ix_list (pv 5) pe_int (fun _ _ => rfl)) (pe_ix ix_list (pv 5) pe_int (fun _ _ => rfl))) pe_int)))
        pss_nil)
      (pss_cons (ps_set (i := 14) scLa.nd rfl (Or.inl rfl) (pe_op op_add (pv 12) (pv 13)))
      (pss_cons (ps_set (i := 15) scLa.nd rfl (Or.inl rfl) (pe_ix ix_list (pe_lst (pa_cons (pv 14) (pa_cons (pe_op op_sub (pv 14) pe_int) (pa_cons (pe_op op_add (pv 14) pe_int) (pa_cons (pe_op op_add (pv 14) pe_int) (pa_cons (pe_op op_mod (pe_ix ix_list (pv 1) pe_int (fun _ _ => rfl)) pe_int) (pa_cons (pv 12) (pa_cons (pe_op op_mul pe_int (pv 14)) (pa_cons pe_int pa_nil))))))))) (pe_op op_mod (pe_ix ix_list (pv 1) pe_int (fun _ _ => rfl)) pe_int) (fun _ _ => rfl)))
      (pss_cons (ps_set (i := 16) scLa.nd rfl (Or.inl rfl) (pe_call (ok_fate T) (hr.mono (by decide)) (by rfl) T.m_fate T.F_fate.kp (b_fate T) .nil pass0 (pa_cons (pv 2) (pa_cons (pv 15) pa_nil))))
      (pss_cons (ps_if (PW.pt (pw_or (pt_not (pt_val (pe_callB call_isi (by rfl) T.z_isinstance (by rfl) (pa_cons (pv 16) (pa_cons (pe_bltn (v := .ty "tuple") (by rfl) T.z_tuple (by rfl) rfl) pa_nil))))) (pw_or1 (pt_not (pt_val (pe_call (ok_is_end T) (hr.mono (by decide)) (by rfl) T.m_is_end T.F_is_end.kp (b_is_end T) .nil pass0 (pa_cons (pe_meth0 (pv 2) T.cl_Yard T.M_Yard_engine (ok_Yard_engine T) (hr.mono (by decide)) (b_Yard_engine T) .nil pass0) (pa_cons (pe_tup (pa_cons (pv 10) (pa_cons pe_int pa_nil))) pa_nil))))))))
        (pss_one (ps_ret pe_bl))
        pss_nil)
      (pss_cons (ps_if (pt_cmpR op_lt (pv 15) (pv 14) (nomark _))
        (pss_one (ps_ret (pe_and (pe_cmpR op_eq (pe_callB call_len_seq (by rfl) T.z_len (by rfl) (pa_cons (pv 16) pa_nil)) pe_int (nomark _)) (pe_and (pe_cmpR op_eq (pe_ix ix_tup (pv 16) pe_int (fun _ _ => rfl)) pe_str (nomark _)) (pe_one (pe_call (ok_is T) (hr.mono (by decide)) (by rfl) T.m_is T.F_is.kp (b_is T) .nil pass0 (pa_cons (pe_ix ix_tup (pv 16) pe_int (fun _ _ => rfl)) (pa_cons (pv 15) pa_nil))))))))
        pss_nil)
      (pss_cons (ps_if (PW.pt (pw_or (pt_cmpR op_ne (pe_callB call_len_seq (by rfl) T.z_len (by rfl) (pa_cons (pv 16) pa_nil)) pe_int (nomark _)) (pw_or1 (pt_cmpR op_ne (pe_ix ix_tup (pv 16) pe_int (fun _ _ => rfl)) pe_str (nomark _)))))
        (pss_one (ps_ret pe_bl))
        pss_nil)
      (pss_one (ps_ret (pe_and (pe_call (ok_is T) (hr.mono (by decide)) (by rfl) T.m_is T.F_is.kp (b_is T) .nil pass0 (pa_cons (pe_ix ix_tup (pv 16) pe_int (fun _ _ => rfl)) (pa_cons (pv 12) pa_nil))) (pe_one (pe_call (ok_is T) (hr.mono (by decide)) (by rfl) T.m_is T.F_is.kp (b_is T) .nil pass0 (pa_cons (pe_ix ix_tup (pv 16) pe_int (fun _ _ => rfl)) (pa_cons (pv 13) pa_nil))))))))))))))))))))))))))))))))), ?_⟩
    rw [show L2.start ["_law_script", "_law_d", "_law_yard", "_law_kind", "_law_side", "_law_lengths", "_law_road_here", "_law_point", "_law_inner", "_law_outer", "_law_start", "_law_arm", "_law_begin", "_law_length", "_law_due", "_law_most", "_law_found"] [V.ref a] = ([some (V.ref a), none, none, none, none, none, none, none, none, none, none, none, none, none, none, none, none] : St) from rfl]
    refine ⟨_, rfl, a, ns0, 10, [], rfl, hS, hns, by decide, by decide, Has.nil, fun H1 d ds h1 hds hdr => ?_⟩
    clear hS hns
    dsimp only [List.set]
    intro p3 dx3 hp3 hdx3 ne3
    refine ⟨p3, dx3, _, rfl, (h1.alloc hdx3 (.own p3)).alloc (by rw [upd_ne (Ne.symm ne3)]; exact hp3) (.ins t.c_Yard dx3 []), fun H2 A1 e1 h2 => ⟨rfl, ?_⟩⟩
    subst e1
    clear hp3 hdx3 ne3 h1
    dsimp only [List.set]
    have gd : ∀ {H : Hp} {X : Kn}, Has H (X ++ [(d, .lst (ds.map V.int))]) → SqL K H d (ds.map V.int) := fun {H X} h => SqL.of (h.at_ (d, _) (List.mem_append_right _ (.head _)))
    -- the kind
    refine ⟨(show 3 ≤ sizeLine by decide), fun kl hkl => ?_⟩
    have h3 := h2.alloc hkl (.lst [.str "turning", .str "still", .str "lazy"])
    obtain ⟨k, kp, hk⟩ := Kd.of3t (ds.getD (0 : Int).toNat 0)
    refine ⟨_, rfl, d, _, _, _, rfl, rfl, gd (X := _ :: yL t.c_Yard A1 y0) h3, atD (by omega) (by omega), _, _, rfl, rfl, (show (0 : Int) < 3 by decide), kl, _, _, _, rfl, rfl, SqL.of (h3.get 0 rfl), hk, ?_⟩
    replace h3 := h3.tail
    generalize upd H2 kl _ = H3 at h3 ⊢
    clear h2 hkl hk
    dsimp only [List.set]
    -- the side
    refine ⟨_, rfl, d, _, _, _, rfl, rfl, gd h3, atD (by omega) (by omega), _, _, rfl, rfl, (show (0 : Int) < 2 by decide), _, _, rfl, rfl, ?_⟩
    dsimp only [List.set]
    have b0 := Int.emod_nonneg (ds.getD (1 : Int).toNat 0) (show (2 : Int) ≠ 0 by decide)
    have b1 := Int.emod_lt_of_pos (ds.getD (1 : Int).toNat 0) (show (0 : Int) < 2 by decide)
    obtain ⟨x0, hx0, hx⟩ : ∃ x0 : Int, 1 + ds.getD (1 : Int).toNat 0 % 2 = x0 ∧ (x0 = 1 ∨ x0 = 2) := ⟨_, rfl, by omega⟩
    rw [hx0]
    clear hx0 b0 b1
    -- the lengths
    refine ⟨_, rfl, d, _, _, _, rfl, rfl, gd h3, atD (by omega) (by omega), _, _, rfl, rfl, (show (0 : Int) < 7 by decide), _, rfl, d, _, _, _, rfl, rfl, gd h3, atD (by omega) (by omega), _, _, rfl, rfl, (show (0 : Int) < 7 by decide), (show 2 ≤ sizeLine by decide), fun la hla => ?_⟩
    dsimp only [List.set] at hla ⊢
    obtain ⟨u1, hu1, u1b⟩ : ∃ u1 : Nat, ds.getD (2 : Int).toNat 0 % 7 = u1 ∧ u1 < 7 := by
      have c0 := Int.emod_nonneg (ds.getD (2 : Int).toNat 0) (show (7 : Int) ≠ 0 by decide)
      have c1 := Int.emod_lt_of_pos (ds.getD (2 : Int).toNat 0) (show (0 : Int) < 7 by decide)
      exact ⟨(ds.getD (2 : Int).toNat 0 % 7).toNat, by omega, by omega⟩
    obtain ⟨u2, hu2, u2b⟩ : ∃ u2 : Nat, ds.getD (3 : Int).toNat 0 % 7 = u2 ∧ u2 < 7 := by
      have c0 := Int.emod_nonneg (ds.getD (3 : Int).toNat 0) (show (7 : Int) ≠ 0 by decide)
      have c1 := Int.emod_lt_of_pos (ds.getD (3 : Int).toNat 0) (show (0 : Int) < 7 by decide)
      exact ⟨(ds.getD (3 : Int).toNat 0 % 7).toNat, by omega, by omega⟩
    rw [hu1, hu2]
    have h4 := Has.comm (X := [_]) (Y := yL t.c_Yard A1 y0) (R := [(d, .lst (ds.map V.int))]) (h3.alloc hla (.lst [.int (u1 : Int), .int (u2 : Int)]))
    generalize upd H3 la _ = H4 at h4 ⊢
    clear h3 hla hu1 hu2
    refine ⟨_, rfl, d, _, _, _, rfl, rfl, gd (X := yL t.c_Yard A1 y0 ++ [_]) (by rw [List.append_assoc]; exact h4), atD (by omega) (by omega), _, _, rfl, rfl, (show (0 : Int) < 8 by decide), rfl, _, rfl, ?_⟩
    refine if2 (fun _ => ?pA) (fun _ => ?pB)
    case' pA =>
      refine ⟨_, rfl, la, rfl, ⟨_, SqL.of (h4.get 9 rfl)⟩, fun D hD => ?_⟩
      refine ⟨fun n m zs H' => m = 2 - n ∧ n ≤ 2 ∧ zs = ([u1, u2].take n).map (fun u : Nat => V.int ((160 * u : Nat) : Int)) ∧ Has H' ((D, .lst zs) :: (yL t.c_Yard A1 y0 ++ [(la, .lst [.int (u1 : Int), .int (u2 : Int)]), (d, .lst (ds.map V.int))])), ⟨2, rfl, by omega, rfl, h4.alloc hD _⟩, ?_⟩
      rintro n m' zs H' ⟨rfl, hn, rfl, h6⟩
      refine ⟨h6.get 0 rfl, ?_⟩
      have gla : SqL K H' la [V.int (u1 : Int), .int (u2 : Int)] := SqL.of (h6.get 10 rfl)
      by_cases hlt : n < 2
      focus
        have gn : ([V.int (u1 : Int), .int (u2 : Int)] : List V)[n]? = some (V.int (([u1, u2][n]'hlt : Nat) : Int)) := by
          have : n = 0 ∨ n = 1 := by omega
          rcases this with rfl | rfl <;> rfl
        refine .inr ⟨⟨_, _, gla, gn⟩, ?_⟩
        rintro x H2 ⟨rfl, hx1⟩
        have hx2 := hx1 _ gla
        rw [gn] at hx2
        cases hx2
        refine ⟨rfl, ?_⟩
        refine tTrueT ?_
        refine ⟨_, rfl, _, _, rfl, rfl, (.inl ⟨by decide, by decide⟩), ?_⟩
        refine ⟨?_, h6.get 0 rfl, 2 - (n + 1), by omega, rfl, hlt, ?_, ?_⟩
        · rw [List.length_map, List.length_take]
          exact sizeOk (by show min n 2 ≤ 1000000; omega)
        · have : n = 0 ∨ n = 1 := by omega
          rcases this with rfl | rfl
          · show [V.int (160 * (u1 : Int))] = [V.int ((160 * u1 : Nat) : Int)]
            rw [show ((160 * u1 : Nat) : Int) = 160 * (u1 : Int) by omega]
          · show [V.int ((160 * u1 : Nat) : Int), V.int (160 * (u2 : Int))] = [V.int ((160 * u1 : Nat) : Int), V.int ((160 * u2 : Nat) : Int)]
            rw [show ((160 * u2 : Nat) : Int) = 160 * (u2 : Int) by omega]
        · exact h6.puti 0 rfl _
      have en : n = 2 := by omega
      subst en
      refine .inl ⟨⟨_, gla, by show 2 ≤ 2; omega⟩, ?_⟩
      have h5 : Has H' (yL t.c_Yard A1 y0 ++ [(D, .lst [.int ((160 * u1 : Nat) : Int), .int ((160 * u2 : Nat) : Int)]), (la, .lst [.int (u1 : Int), .int (u2 : Int)]), (d, .lst (ds.map V.int))]) := Has.comm (X := [_]) (Y := yL t.c_Yard A1 y0) h6
      replace h5 := Has.sub h5 (List.Sublist.append_left (List.Sublist.cons₂ _ (List.sublist_cons_self _ _)) _)
      obtain ⟨l1, hl1, l1b⟩ : ∃ l1, 160 * u1 = l1 ∧ l1 ≤ 960 := ⟨_, rfl, by omega⟩
      obtain ⟨l2, hl2, l2b⟩ : ∃ l2, 160 * u2 = l2 ∧ l2 ≤ 960 := ⟨_, rfl, by omega⟩
      rw [hl1, hl2] at h5
      clear h6 h4 gla hlt hn hl1 hl2
      generalize D = lb at h5 ⊢
      dsimp only [List.set]
    case' pB =>
      have h5 : Has H4 (yL t.c_Yard A1 y0 ++ [(la, .lst [.int (u1 : Int), .int (u2 : Int)]), (d, .lst (ds.map V.int))]) := h4
      obtain ⟨l1, hl1, l1b⟩ : ∃ l1, u1 = l1 ∧ l1 ≤ 960 := ⟨_, rfl, by omega⟩
      obtain ⟨l2, hl2, l2b⟩ : ∃ l2, u2 = l2 ∧ l2 ≤ 960 := ⟨_, rfl, by omega⟩
      rw [hl1, hl2] at h5
      clear h4 hl1 hl2
      generalize la = lb at h5 ⊢
      dsimp only [tNext]
    all_goals
      obtain ⟨L, hL, xl, xd⟩ : ∃ L : Kn, [(lb, HO.lst [V.int (l1 : Int), V.int (l2 : Int)]), (d, HO.lst (ds.map V.int))] = L ∧ (lb, HO.lst [V.int (l1 : Int), V.int (l2 : Int)]) ∈ L ∧ (d, HO.lst (ds.map V.int)) ∈ L := ⟨_, rfl, .head _, .tail _ (.head _)⟩
      rw [hL] at h5
      clear hL gd
      have gd : ∀ {H : Hp} {X : Kn}, Has H (X ++ L) → SqL K H d (ds.map V.int) := fun {H X} h => SqL.of (h.at_ (d, _) (List.mem_append_right _ xd))
      have gl : ∀ {H : Hp} {X : Kn}, Has H (X ++ L) → SqL K H lb [V.int (l1 : Int), V.int (l2 : Int)] := fun {H X} h => SqL.of (h.at_ (lb, _) (List.mem_append_right _ xl))
      refine ⟨_, rfl, d, _, _, _, rfl, rfl, gd h5, atD (by omega) (by omega), _, _, rfl, rfl, (show (0 : Int) < 9 by decide), ?_⟩
      dsimp only [List.set]
      obtain ⟨r, hr9, r9⟩ : ∃ r : Nat, ds.getD (4 : Int).toNat 0 % 9 = r ∧ r < 9 := by
        have c0 := Int.emod_nonneg (ds.getD (4 : Int).toNat 0) (show (9 : Int) ≠ 0 by decide)
        have c1 := Int.emod_lt_of_pos (ds.getD (4 : Int).toNat 0) (show (0 : Int) < 9 by decide)
        exact ⟨(ds.getD (4 : Int).toNat 0 % 9).toNat, by omega, by omega⟩
      rw [hr9]
      clear hr9
      -- the point
      have B0 : Bd y0 w0 ⟨[], none, []⟩ [] 0 0 := ⟨Rep.nil, Fre.nil, Sz.nil, rfl, fun _ _ => rfl, fun _ _ => rfl, (fun k hk => nomatch hk), (fun n e z h => nomatch h)⟩
      have nb : k ≠ .bell := fun h => by rw [h] at kp; cases kp
      refine ⟨_, rfl, A1.p, A1.dx, _, rfl, h5.get 1 rfl, (fl_m _ _ _).1, _, rfl, A1, y0, _, k, 0, .non, rfl, h5, B0.Z.small (by omega) (by omega), (fun h => absurd h nb), (fun _ h => absurd rfl h), fun H6 q6 h6 => ?_⟩
      have B1 := B0.lay k 0 [1] (fun _ => ⟨rfl, rfl⟩) (fun h => by rw [kp] at h; cases h)
      rw [show y0.next = (0 : Int) from rfl]
      obtain ⟨y1, hy1⟩ : ∃ y1, layY y0 k 0 .non = y1 := ⟨_, rfl⟩
      rw [hy1] at h6 B1
      clear h5 B0 hy1
      dsimp only [List.set]
      have kf0 : (w0.lay ((0 : Nat) : Int) k 0 0).kf 0 = some k := rfl
      have kd0 := B1.R.kd 0 k kf0
      have rd0 := B1.R.ro 0 k kf0
      rw [if_pos kp] at rd0
      have sl1 : y1.sides.length = 1 := by rw [B1.R.sd]; rfl
      refine ⟨_, rfl, A1.p, A1.dx, _, rfl, h6.get 1 rfl, (fl_m _ _ _).2.2.1, ?_⟩
      refine ⟨_, rfl, A1.p, A1.dx, _, rfl, h6.get 1 rfl, (fl_m _ _ _).2.2.2.2.1, _, rfl, { A1 with tr := q6 }, y1, _, 0, .str k.str, .int 0, rfl, h6, kd0, rd0, ?_⟩
      refine ⟨_, rfl, { A1 with tr := q6 }, y1, _, 0, x0, rfl, h6, by omega, by omega, hx, fun H7 q7 h7 => ?_⟩
      have B2 : Bd _ _ ⟨[x0], none, []⟩ [] 1 0 := B1.throw 0 x0 hx
      obtain ⟨y2, hy2⟩ : ∃ y2, ({ y1 with sides := y1.sides.set 0 (.int x0), trail := [] } : YR) = y2 := ⟨_, rfl⟩
      rw [hy2] at B2
      replace h7 : Has H7 (yL t.c_Yard { A1 with tr := q7 } y2 ++ L) := by rw [← hy2]; exact h7
      clear h6 B1 hy2 kd0 rd0 sl1 kf0
      -- inner, outer, start
      refine ⟨_, rfl, A1.p, A1.dx, _, rfl, h7.get 1 rfl, (fl_m _ _ _).1, { A1 with tr := q7 }, y2, _, .still, 0, .non, rfl, h7, B2.Z.small (by omega) (by omega), (fun h => nomatch h), (fun _ h => absurd rfl h), fun H8 q8 h8 => ?_⟩
      have B3 := B2.lay .still 1 [x0, 1] (fun _ => ⟨rfl, rfl⟩) (fun h => nomatch h)
      rw [show y2.next = (1 : Int) from B2.nx]
      obtain ⟨y3, hy3⟩ : ∃ y3, layY y2 .still 0 .non = y3 := ⟨_, rfl⟩
      rw [hy3] at h8 B3
      clear h7 B2 hy3
      dsimp only [List.set]
      refine ⟨_, rfl, A1.p, A1.dx, _, rfl, h8.get 1 rfl, (fl_m _ _ _).1, { A1 with tr := q8 }, y3, _, .still, 0, .non, rfl, h8, B3.Z.small (by omega) (by omega), (fun h => nomatch h), (fun _ h => absurd rfl h), fun H9 q9 h9 => ?_⟩
      have B4 := B3.lay .still 2 [x0, 1, 1] (fun _ => ⟨rfl, rfl⟩) (fun h => nomatch h)
      rw [show y3.next = (2 : Int) from B3.nx]
      obtain ⟨y4, hy4⟩ : ∃ y4, layY y3 .still 0 .non = y4 := ⟨_, rfl⟩
      rw [hy4] at h9 B4
      clear h8 B3 hy4
      dsimp only [List.set]
      refine ⟨_, rfl, A1.p, A1.dx, _, rfl, h9.get 1 rfl, (fl_m _ _ _).1, { A1 with tr := q9 }, y4, _, .line, 0, .non, rfl, h9, B4.Z.small (by omega) (by omega), (fun h => nomatch h), (fun h => nomatch h), fun H10 q10 h10 => ?_⟩
      have B5 := B4.lay .line 0 [x0, 1, 1] (fun h => nomatch h) (fun _ => rfl)
      rw [show y4.next = (3 : Int) from B4.nx]
      obtain ⟨y5, hy5⟩ : ∃ y5, layY y4 .line 0 .non = y5 := ⟨_, rfl⟩
      rw [hy5] at h10 B5
      clear h9 B4 hy5
      dsimp only [List.set]
      obtain ⟨w5, hw5, k0, k1, k2, k3, r0, r1, r2, mn⟩ : ∃ w5 : Wd, ((((w0.lay ((0 : Nat) : Int) k 0 0).lay ((0 + 1 : Nat) : Int) .still 0 1).lay ((0 + 1 + 1 : Nat) : Int) .still 0 2).lay ((0 + 1 + 1 + 1 : Nat) : Int) .line 0 0) = w5 ∧ w5.kf 0 = some k ∧ w5.kf 1 = some .still ∧ w5.kf 2 = some .still ∧ w5.kf 3 = some .line ∧ w5.rf 0 = 0 ∧ w5.rf 1 = 1 ∧ w5.rf 2 = 2 ∧ ∀ p e : Int, w5.mf p e = none :=
        ⟨_, rfl, rfl, rfl, rfl, rfl, rfl, rfl, rfl, fun _ _ => rfl⟩
      replace B5 : Bd y5 w5 ⟨[x0, 1, 1], none, []⟩ [] 4 0 := by rw [← hw5]; exact B5
      clear hw5
      -- the road to the outer point
      refine ⟨_, rfl, A1.p, A1.dx, _, rfl, h10.get 1 rfl, (fl_m2 _ _ _).2.2.1, ?_⟩
      refine ⟨_, rfl, _, rfl, (show 2 ≤ sizeLine by decide), fun c1 hc1 => ?_⟩
      have h11 : Has _ (yL t.c_Yard { A1 with tr := q10 } y5 ++ (esK [(c1, ((3 : Int), (1 : Int)))] ++ L)) := Has.comm (X := [_]) (Y := yL t.c_Yard { A1 with tr := q10 } y5) (R := L) (h10.alloc hc1 (.tup [.int 3, .int 1]))
      have ok3 : w5.ok (c1, ((3 : Int), (1 : Int))) := ⟨.line, k3, by show (0 : Int) ≤ 1; omega, by show (1 : Int) < 2; omega⟩
      refine ⟨_, rfl, { A1 with tr := q10 }, y5, w5, _, _, 4, 0, L, (c1, ((3 : Int), (1 : Int))), r, rfl, h11, B5.more _, .head _, ok3, mn _ _, (fun p e _ => mn p e), by omega, by omega, fun H12 q12 y6 w6 es6 b6 B6 h12 be6 S6 => ?_⟩
      clear h10 h11 hc1
      have kf6 : ∀ p : Int, p < 4 → w6.kf p = w5.kf p := fun p hp => S6.ks p (by omega)
      have mf6 : ∀ p e : Int, p < 3 → w6.mf p e = none := fun p e hp => by rw [S6.sm p e (fun h => by have := (Prod.mk.inj h).1; omega) (by omega)]; exact mn p e
      have okb6 : w6.ok (b6, roadO (3, 1) 4 r) := by
        unfold roadO
        by_cases c0 : r = 0
        · rw [if_pos c0]; exact ⟨.line, (kf6 3 (by decide)).trans k3, by show (0 : Int) ≤ 1; omega, by show (1 : Int) < 2; omega⟩
        · rw [if_neg c0]
          have := S6.kl (r - 1) (by omega)
          rw [show 4 + (r - 1) = 4 + r - 1 by omega] at this
          exact ⟨.line, this, by show (0 : Int) ≤ 1; omega, by show (1 : Int) < 2; omega⟩
      have fb6 : w6.mf (roadO (3, 1) 4 r).1 (roadO (3, 1) 4 r).2 = none := by
        unfold roadO
        by_cases c0 : r = 0
        · rw [if_pos c0, S6.z0 c0]; exact mn _ _
        · rw [if_neg c0]; exact S6.fe (by omega)
      have rb3 : 3 ≤ (roadO (3, 1) 4 r).1 := by unfold roadO; split <;> (dsimp only; omega)
      refine ⟨_, rfl, (show 2 ≤ sizeLine by decide), fun c2 hc2 => ?_⟩
      have h13 := Has.comm (X := [_]) (Y := yL t.c_Yard { A1 with tr := q12 } y6) (R := esK es6 ++ L) (h12.alloc hc2 (.tup [.int 2, .int 1]))
      obtain ⟨jb, hjb⟩ := mem_ix (show (b6, HO.tup [.int (roadO (3, 1) 4 r).1, .int (roadO (3, 1) 4 r).2]) ∈ [(c2, HO.tup [.int 2, .int 1])] ++ (esK es6 ++ L) from List.mem_append_right _ (List.mem_append_left _ (esK_mem be6)))
      have ok21 : w6.ok (c2, ((2 : Int), (1 : Int))) := ⟨.still, (kf6 2 (by decide)).trans k2, by show (0 : Int) ≤ 1; omega, by show (1 : Int) < 3; omega⟩
      refine ⟨{ A1 with tr := q12 }, y6, _, b6, c2, (roadO (3, 1) 4 r).1, (roadO (3, 1) 4 r).2, 2, 1, jb, 0, rfl, h13, hjb, rfl, Wd.ok_there B6.R okb6, Wd.ok_there B6.R ok21, (fun e => by
        injection e with e1 e2
        injection e1 with e1
        omega), B6.R.free fb6, B6.R.free (mf6 _ _ (by decide)), (by have := B6.Z.m; omega), fun H14 q14 h14 => ?_⟩
      have B7 := B6.linkE (by omega) okb6 ok21 be6
      obtain ⟨y7, hy7⟩ : ∃ y7, ({ y6 with mates := putK (putK y6.mates (kE (roadO (3, 1) 4 r).1 (roadO (3, 1) 4 r).2) (.ref c2)) (kE 2 1) (.ref b6), trail := [] } : YR) = y7 := ⟨_, rfl⟩
      replace B7 : Bd y7 (w6.link (b6, roadO (3, 1) 4 r) (c2, ((2 : Int), (1 : Int)))) ⟨[x0, 1, 1], none, []⟩ ((c2, ((2 : Int), (1 : Int))) :: es6) (4 + r) (2 * r + 2) := by rw [← hy7, show 2 * r + 2 = 0 + 2 * r + 2 by omega]; exact B7
      replace h14 : Has H14 (yL t.c_Yard { A1 with tr := q14 } y7 ++ (esK ((c2, ((2 : Int), (1 : Int))) :: es6) ++ L)) := by rw [← hy7]; exact h14
      clear h12 h13 hjb hc2 hy7 B6
      have m7 : ∀ p e : Int, p < 3 → ¬ (p, e) = ((2 : Int), (1 : Int)) → (w6.link (b6, roadO (3, 1) 4 r) (c2, ((2 : Int), (1 : Int)))).mf p e = none := fun p e hp hne => by
        show (if (p, e) = ((2 : Int), (1 : Int)) then _ else if (p, e) = roadO (3, 1) 4 r then _ else w6.mf p e) = none
        rw [if_neg hne, if_neg (fun h => by have := congrArg Prod.fst h; dsimp only at this; omega)]
        exact mf6 p e hp
      have kf7 : ∀ p : Int, p < 4 → (w6.link (b6, roadO (3, 1) 4 r) (c2, ((2 : Int), (1 : Int)))).kf p = w5.kf p := kf6
      generalize hw7 : w6.link (b6, roadO (3, 1) 4 r) (c2, ((2 : Int), (1 : Int))) = w7 at B7 m7 kf7
      have ok7 : ∀ (c : Addr) (p e : Int), (p = 0 ∨ p = 1 ∨ p = 2) → 0 ≤ e → e < 3 → w7.ok (c, (p, e)) := fun c p e hp e0 e1 => by
        have km := Kd.many_point kp
        rcases hp with rfl | rfl | rfl
        · exact ⟨k, (kf7 0 (by decide)).trans k0, e0, by show e < k.many; omega⟩
        · exact ⟨.still, (kf7 1 (by decide)).trans k1, e0, by show e < 3; omega⟩
        · exact ⟨.still, (kf7 2 (by decide)).trans k2, e0, by show e < 3; omega⟩
      -- outer to the point
      refine ⟨_, rfl, A1.p, A1.dx, _, rfl, h14.get 1 rfl, (fl_m2 _ _ _).2.2.1, ?_⟩
      refine ⟨_, rfl, (show 2 ≤ sizeLine by decide), fun c3 hc3 => ?_⟩
      have hac3 := h14.alloc hc3 (.tup [.int 2, .int 0])
      generalize upd _ c3 _ = Hac3 at hac3 ⊢
      refine ⟨_, rfl, (show 2 ≤ sizeLine by decide), fun c4 hc4 => ?_⟩
      have hbc3 := Has.comm (X := [_, _]) (Y := yL t.c_Yard { A1 with tr := q14 } y7) (R := (esK ((c2, ((2 : Int), (1 : Int))) :: es6) ++ L)) (hac3.alloc hc4 (.tup [.int 0, .int 0]))
      refine ⟨{ A1 with tr := q14 }, y7, _, c3, c4, 2, 0, 0, 0, 1, 0, rfl, hbc3, rfl, rfl, Wd.ok_there B7.R ((fun c => ok7 c 2 0 (by omega) (by omega) (by omega)) c3), Wd.ok_there B7.R ((fun c => ok7 c 0 0 (by omega) (by omega) (by omega)) c4), (fun e => by injection e with e1 e2; injection e1 with e1; omega), B7.R.free (m7 _ _ (by decide) (by decide)), B7.R.free (m7 _ _ (by decide) (by decide)), (by have := B7.Z.m; omega), fun H16 q16 h16 => ?_⟩
      clear hac3 hbc3
      have B8 := B7.link (by omega) (ok7 c3 2 0 (by omega) (by omega) (by omega)) (ok7 c4 0 0 (by omega) (by omega) (by omega))
      obtain ⟨y8, hy8⟩ : ∃ y8, ({ y7 with mates := putK (putK y7.mates (kE 2 0) (.ref c4)) (kE 0 0) (.ref c3), trail := [] } : YR) = y8 := ⟨_, rfl⟩
      replace B8 : Bd y8 (w7.link (c3, ((2 : Int), (0 : Int))) (c4, ((0 : Int), (0 : Int)))) ⟨[x0, 1, 1], none, []⟩ ((c4, ((0 : Int), (0 : Int))) :: (c3, ((2 : Int), (0 : Int))) :: (c2, ((2 : Int), (1 : Int))) :: es6) (4 + r) (2 * r + 2 + 2) := by rw [← hy8]; exact B8
      replace h16 : Has H16 (yL t.c_Yard { A1 with tr := q16 } y8 ++ (esK ((c4, ((0 : Int), (0 : Int))) :: (c3, ((2 : Int), (0 : Int))) :: (c2, ((2 : Int), (1 : Int))) :: es6) ++ L)) := by rw [← hy8]; exact h16
      clear h14 hy8
      have m8 : ∀ p e : Int, p < 3 → ¬ (p, e) = ((2 : Int), (1 : Int)) → ¬ (p, e) = ((2 : Int), (0 : Int)) → ¬ (p, e) = ((0 : Int), (0 : Int)) → (w7.link (c3, ((2 : Int), (0 : Int))) (c4, ((0 : Int), (0 : Int)))).mf p e = none := fun p e hp h1 h2 h3 => by
        show (if (p, e) = ((0 : Int), (0 : Int)) then _ else if (p, e) = ((2 : Int), (0 : Int)) then _ else w7.mf p e) = none
        rw [if_neg h3, if_neg h2]; exact m7 p e hp h1
      have ok8 : ∀ (c : Addr) (p e : Int), (p = 0 ∨ p = 1 ∨ p = 2) → 0 ≤ e → e < 3 → (w7.link (c3, ((2 : Int), (0 : Int))) (c4, ((0 : Int), (0 : Int)))).ok (c, (p, e)) := ok7
      -- inner to outer
      refine ⟨_, rfl, A1.p, A1.dx, _, rfl, h16.get 1 rfl, (fl_m2 _ _ _).2.2.1, ?_⟩
      refine ⟨_, rfl, (show 2 ≤ sizeLine by decide), fun c5 hc5 => ?_⟩
      have hac5 := h16.alloc hc5 (.tup [.int 1, .int 0])
      generalize upd _ c5 _ = Hac5 at hac5 ⊢
      refine ⟨_, rfl, (show 2 ≤ sizeLine by decide), fun c6 hc6 => ?_⟩
      have hbc5 := Has.comm (X := [_, _]) (Y := yL t.c_Yard { A1 with tr := q16 } y8) (R := (esK ((c4, ((0 : Int), (0 : Int))) :: (c3, ((2 : Int), (0 : Int))) :: (c2, ((2 : Int), (1 : Int))) :: es6) ++ L)) (hac5.alloc hc6 (.tup [.int 2, .int 2]))
      refine ⟨{ A1 with tr := q16 }, y8, _, c5, c6, 1, 0, 2, 2, 1, 0, rfl, hbc5, rfl, rfl, Wd.ok_there B8.R ((fun c => ok8 c 1 0 (by omega) (by omega) (by omega)) c5), Wd.ok_there B8.R ((fun c => ok8 c 2 2 (by omega) (by omega) (by omega)) c6), (fun e => by injection e with e1 e2; injection e1 with e1; omega), B8.R.free (m8 _ _ (by decide) (by decide) (by decide) (by decide)), B8.R.free (m8 _ _ (by decide) (by decide) (by decide) (by decide)), (by have := B8.Z.m; omega), fun H18 q18 h18 => ?_⟩
      clear hac5 hbc5
      have B9 := B8.link (by omega) (ok8 c5 1 0 (by omega) (by omega) (by omega)) (ok8 c6 2 2 (by omega) (by omega) (by omega))
      have Q0 : Q25 ((w7.link (c3, ((2 : Int), (0 : Int))) (c4, ((0 : Int), (0 : Int)))).link (c5, ((1 : Int), (0 : Int))) (c6, ((2 : Int), (2 : Int)))) k r l1 l2 0 := by
        rw [← hw7]; exact Q25.base kp k0 k1 k2 k3 r0 r1 r2 mn S6 b6 c2 c3 c4 c5 c6
      obtain ⟨y9, hy9⟩ : ∃ y9, ({ y8 with mates := putK (putK y8.mates (kE 1 0) (.ref c6)) (kE 2 2) (.ref c5), trail := [] } : YR) = y9 := ⟨_, rfl⟩
      obtain ⟨w9, hw9⟩ : ∃ w9, (w7.link (c3, ((2 : Int), (0 : Int))) (c4, ((0 : Int), (0 : Int)))).link (c5, ((1 : Int), (0 : Int))) (c6, ((2 : Int), (2 : Int))) = w9 := ⟨_, rfl⟩
      obtain ⟨es9, he9⟩ : ∃ es9 : List En, (c6, ((2 : Int), (2 : Int))) :: (c5, ((1 : Int), (0 : Int))) :: (c4, ((0 : Int), (0 : Int))) :: (c3, ((2 : Int), (0 : Int))) :: (c2, ((2 : Int), (1 : Int))) :: es6 = es9 := ⟨_, rfl⟩
      replace B9 : Bd y9 w9 ⟨[x0, 1, 1], none, []⟩ es9 (4 + r) (2 * r + 2 + 2 + 2) := by rw [← hy9, ← hw9, ← he9]; exact B9
      replace h18 : Has H18 (yL t.c_Yard { A1 with tr := q18 } y9 ++ (esK es9 ++ L)) := by rw [← hy9, ← he9]; exact h18
      rw [hw9] at Q0
      clear h16 B8 B7 hy9 hw9 he9 m8 m7 ok8 ok7 kf7 hw7 S6 be6 okb6 ok21 fb6 mf6 kf6 k0 k1 k2 k3 r0 r1 r2 mn B5 ok3
      dsimp only [tSeq]
      -- the arms
      refine ⟨(show 2 ≤ sizeLine by decide), fun al hal => ?_⟩
      have h20 : Has _ (yL t.c_Yard { A1 with tr := q18 } y9 ++ (esK es9 ++ ((al, HO.lst [V.int 1, V.int 2]) :: L))) := Has.perm (h18.alloc hal (.lst [.int 1, .int 2])) (by
        refine (List.perm_append_comm_assoc [_] (yL t.c_Yard { A1 with tr := q18 } y9) (esK es9 ++ L)).trans (List.Perm.append_left _ ?_)
        exact List.perm_append_comm_assoc [_] (esK es9) L)
      generalize upd H18 al _ = H20 at h20 ⊢
      clear h18 hal
      have ga : ∀ {H : Hp} {X : Kn}, Has H (X ++ ((al, HO.lst [V.int 1, V.int 2]) :: L)) → SqL K H al [V.int 1, V.int 2] := fun {H X} h => SqL.of (h.at_ (al, _) (List.mem_append_right _ (.head _)))
      have gd2 : ∀ {H : Hp} {X : Kn}, Has H (X ++ ((al, HO.lst [V.int 1, V.int 2]) :: L)) → SqL K H d (ds.map V.int) := fun {H X} h => SqL.of (h.at_ (d, _) (List.mem_append_right _ (.tail _ xd)))
      have gl2 : ∀ {H : Hp} {X : Kn}, Has H (X ++ ((al, HO.lst [V.int 1, V.int 2]) :: L)) → SqL K H lb [V.int (l1 : Int), V.int (l2 : Int)] := fun {H X} h => SqL.of (h.at_ (lb, _) (List.mem_append_right _ (.tail _ xl)))
      have aLb : ∀ x, aL l1 l2 x ≤ 960 := fun x => by unfold aL; split <;> omega
      refine ⟨al, rfl, ⟨_, ga (X := yL t.c_Yard { A1 with tr := q18 } y9 ++ esK es9) (by rw [List.append_assoc]; exact h20)⟩, for_list (xs := [V.int 1, V.int 2]) (fun i σ H' => ∃ (q1 : Addr) (y : YR) (w : Wd) (es : List En) (M : Nat) (o1 : Option V), σ = [some (.ref a), some (.ref d), some (.ref A1.p), some (.str k.str), some (.int x0), some (.ref lb), some (.int r), some (.int 0), some (.int 1), some (.int 2), some (.int 3), o1, none, none, none, none, none] ∧
        Bd y w ⟨[x0, 1, 1], none, []⟩ es (4 + r + q25n l1 l2 i) M ∧ M ≤ 100 + 2 * q25n l1 l2 i + 2 * i ∧ Q25 w k r l1 l2 i ∧ Has H' (yL t.c_Yard { A1 with tr := q1 } y ++ (esK es ++ ((al, HO.lst [V.int 1, V.int 2]) :: L))))
        ⟨q18, y9, w9, es9, _, _, rfl, B9, (by show 2 * r + 2 + 2 + 2 ≤ 100 + 2 * 0 + 2 * 0; omega), Q0, h20⟩ (fun i σ H' _ ⟨q1, y, w, es, M, o1, _, _, _, _, h⟩ => ga (X := yL t.c_Yard { A1 with tr := q1 } y ++ esK es) (by rw [List.append_assoc]; exact h)) ?_ ?_⟩
      · clear h20 B9 Q0
        rintro i x σ H21 hx1 ⟨q1, y, w, es, M, o1, rfl, B, Mb, Q1, h21⟩
        have i2 : i < 2 := (List.getElem?_eq_some_iff.mp hx1).1
        have ex : x = .int ((i : Int) + 1) := by
          have : i = 0 ∨ i = 1 := by omega
          rcases this with rfl | rfl <;> (cases hx1; rfl)
        subst ex
        have at1 : atI [V.int (l1 : Int), V.int (l2 : Int)] ((i : Int) + 1 - 1) = some (.int ((aL l1 l2 ((i : Int) + 1) : Nat) : Int)) := by
          have : i = 0 ∨ i = 1 := by omega
          rcases this with rfl | rfl <;> rfl
        have qb : q25n l1 l2 i ≤ 960 := by unfold q25n; have : i = 0 ∨ i = 1 := by omega
                                           rcases this with rfl | rfl
                                           · rw [if_pos rfl]; omega
                                           · rw [if_neg (by decide), if_pos rfl]; omega
        have ab := aLb ((i : Int) + 1)
        refine ⟨_, rfl, A1.p, A1.dx, _, rfl, h21.get 1 rfl, (fl_m2 _ _ _).2.2.1, ?_⟩
        refine ⟨_, rfl, _, rfl, _, rfl, (show 2 ≤ sizeLine by decide), fun c1 hc1 => ?_⟩
        have h22 : Has _ (yL t.c_Yard { A1 with tr := q1 } y ++ (esK ((c1, ((0 : Int), (i : Int) + 1)) :: es) ++ ((al, HO.lst [V.int 1, V.int 2]) :: L))) := Has.comm (X := [_]) (Y := yL t.c_Yard { A1 with tr := q1 } y) (R := esK es ++ ((al, HO.lst [V.int 1, V.int 2]) :: L)) (h21.alloc hc1 (.tup [.int 0, .int ((i : Int) + 1)]))
        have km := Kd.many_point kp
        have okc : w.ok (c1, ((0 : Int), (i : Int) + 1)) := ⟨k, Q1.k0, by show (0 : Int) ≤ (i : Int) + 1; omega, by show (i : Int) + 1 < k.many; omega⟩
        refine ⟨_, rfl, _, rfl, _, _, rfl, rfl, lb, _, _, _, rfl, rfl, gl2 (X := yL t.c_Yard { A1 with tr := q1 } y ++ esK _) (by rw [List.append_assoc]; exact h22), at1, ?_⟩
        refine ⟨{ A1 with tr := q1 }, y, w, _, _, _, M, _, (c1, ((0 : Int), (i : Int) + 1)), aL l1 l2 ((i : Int) + 1), rfl, h22, B.more _, .head _, okc, (Q1.fr ((i : Int) + 1) (by omega)).1, Q1.fN, by omega, by omega, fun H23 q23 y' w' es' b B' h23 be S => ?_⟩
        clear h21 h22 hc1
        generalize hn : aL l1 l2 ((i : Int) + 1) = n at *
        generalize hN : 4 + r + q25n l1 l2 i = N at *
        have eS : 4 + r + q25n l1 l2 (i + 1) = N + n ∧ q25n l1 l2 (i + 1) = q25n l1 l2 i + n := by
          have : i = 0 ∨ i = 1 := by omega
          rcases this with rfl | rfl
          · have e : n = l1 := hn.symm
            have e2 : q25n l1 l2 (0 + 1) = l1 := rfl
            have e3 : q25n l1 l2 0 = 0 := rfl
            omega
          · have e : n = l2 := hn.symm
            have e2 : q25n l1 l2 (1 + 1) = l1 + l2 := rfl
            have e3 : q25n l1 l2 1 = l1 := rfl
            omega
        have N4 : 4 ≤ N := by omega
        have okb : w'.ok (b, roadO (0, (i : Int) + 1) N n) := by
          unfold roadO
          by_cases c0 : n = 0
          · rw [if_pos c0]
            obtain ⟨k', hk', e0, e1⟩ := okc
            exact ⟨k', (S.ks _ (by show ¬ ((N : Int) ≤ (0 : Int) ∧ _); omega)).trans hk', e0, e1⟩
          · rw [if_neg c0]
            have := S.kl (n - 1) (by omega)
            rw [show N + (n - 1) = N + n - 1 by omega] at this
            exact ⟨.line, this, by show (0 : Int) ≤ 1; omega, by show (1 : Int) < 2; omega⟩
        have fb : w'.mf (roadO (0, (i : Int) + 1) N n).1 (roadO (0, (i : Int) + 1) N n).2 = none := by
          unfold roadO
          by_cases c0 : n = 0
          · rw [if_pos c0, S.z0 c0]; exact (Q1.fr _ (by omega)).1
          · rw [if_neg c0]; exact S.fe (by omega)
        have rb1 : ¬ (roadO (0, (i : Int) + 1) N n).1 = 1 := by unfold roadO; split <;> (dsimp only; omega)
        refine ⟨_, rfl, _, rfl, (show 2 ≤ sizeLine by decide), fun c2 hc2 => ?_⟩
        have h24 := Has.comm (X := [_]) (Y := yL t.c_Yard { A1 with tr := q23 } y') (R := esK es' ++ ((al, HO.lst [V.int 1, V.int 2]) :: L)) (h23.alloc hc2 (.tup [.int 1, .int ((i : Int) + 1)]))
        obtain ⟨jb, hjb⟩ := mem_ix (show (b, HO.tup [.int (roadO (0, (i : Int) + 1) N n).1, .int (roadO (0, (i : Int) + 1) N n).2]) ∈ [(c2, HO.tup [.int 1, .int ((i : Int) + 1)])] ++ (esK es' ++ ((al, HO.lst [V.int 1, V.int 2]) :: L)) from List.mem_append_right _ (List.mem_append_left _ (esK_mem be)))
        have okz : w'.ok (c2, ((1 : Int), (i : Int) + 1)) := ⟨.still, (S.ks 1 (by omega)).trans Q1.k1, by show (0 : Int) ≤ (i : Int) + 1; omega, by show (i : Int) + 1 < 3; omega⟩
        have fz : w'.mf 1 ((i : Int) + 1) = none := by rw [S.sm _ _ (fun h => by have := (Prod.mk.inj h).1; omega) (by omega)]; exact (Q1.fr _ (by omega)).2
        refine ⟨{ A1 with tr := q23 }, y', _, b, c2, (roadO (0, (i : Int) + 1) N n).1, (roadO (0, (i : Int) + 1) N n).2, 1, (i : Int) + 1, jb, 0, rfl, h24, hjb, rfl, Wd.ok_there B'.R okb, Wd.ok_there B'.R okz, (fun e => by
          injection e with e1 e2
          injection e1 with e1
          exact rb1 e1), B'.R.free fb, B'.R.free fz, (by have := B'.Z.m; omega), fun H25 q25 h25 => ?_⟩
        have B2 := B'.linkE (by omega) okb okz be
        have Q2 := Q1.arm i2 (by rw [hn, hN]; exact S) b c2
        rw [hn, hN] at Q2
        exact ⟨q25, _, _, (c2, ((1 : Int), (i : Int) + 1)) :: es', M + 2 * n + 2, _, rfl, by rw [eS.1]; exact B2, by omega, Q2, h25⟩
      · clear h20 B9 Q0
        rintro σ H21 ⟨q1, y, w, es, M, o1, rfl, B, Mb, Q1, h21⟩
        have W1 : W25 w k r l1 l2 := Q25.whole Q1
        have k3 := Q1.k3
        clear Q1 Mb
        replace B : Bd y w ⟨[x0, 1, 1], none, []⟩ es (4 + r + (l1 + l2)) M := B
        -- the engine
        refine ⟨_, rfl, A1.p, A1.dx, _, rfl, h21.get 1 rfl, (fl_m4 _ _ _).1, _, rfl, (show 2 ≤ sizeLine by decide), fun b hb => ?_⟩
        have h22 := Has.comm (X := [_]) (Y := yL t.c_Yard { A1 with tr := q1 } y) (R := esK es ++ ((al, HO.lst [V.int 1, V.int 2]) :: L)) (h21.alloc hb (.tup [.int 3, .int 0]))
        have ok0 : w.ok (b, ((3 : Int), (0 : Int))) := ⟨.line, k3, by show (0 : Int) ≤ 0; omega, by show (0 : Int) < 2; omega⟩
        refine ⟨{ A1 with tr := q1 }, y, _, b, 3, 0, 0, rfl, h22, rfl, Wd.ok_there B.R ok0, fun H23 q23 h23 => ?_⟩
        clear h21 h22
        have R23 : Rep w ⟨[x0, 1, 1], some (b, ((3 : Int), (0 : Int))), []⟩ { y with eng := .ref b, trail := [] } := B.R.eng (some (b, ((3 : Int), (0 : Int)))) (fun z hz => by cases hz; exact ok0) []
        have Cy := w25_cyc W1 hx (s := ⟨[x0, 1, 1], some (b, ((3 : Int), (0 : Int))), []⟩) ⟨⟨b, rfl⟩, rfl, rfl⟩
        have pl : Pool w ⟨[x0, 1, 1], some (b, ((3 : Int), (0 : Int))), []⟩ ([(b, HO.tup [.int 3, .int 0])] ++ (esK es ++ ((al, HO.lst [V.int 1, V.int 2]) :: L))) := ⟨fun n e z hz => mem_ix (List.mem_append_right _ (List.mem_append_left _ (esK_mem (B.me n e z hz)))), fun z hz => by cases hz; exact ⟨0, rfl⟩⟩
        have ekB := B.ek
        clear B W1 ok0 k3
        obtain ⟨X, hX, xa, xb⟩ : ∃ X : Kn, [(b, HO.tup [.int 3, .int 0])] ++ (esK es ++ ((al, HO.lst [V.int 1, V.int 2]) :: L)) = X ∧ (∀ x ∈ L, x ∈ X) ∧ (b, HO.tup [.int 3, .int 0]) ∈ X :=
          ⟨_, rfl, fun x hx => List.mem_append_right _ (List.mem_append_right _ (.tail _ hx)), .head _⟩
        rw [hX] at h23 pl
        clear hX
        obtain ⟨y2, hy2⟩ : ∃ y2 : YR, { y with eng := .ref b, trail := [] } = y2 := ⟨_, rfl⟩
        have en2 : y2.eng = .ref b := by rw [← hy2]
        have ek2 : EK y2.mates := by rw [← hy2]; exact ekB
        rw [hy2] at h23 R23
        clear hy2 ekB
        have gd3 : SqL K H23 d (ds.map V.int) := SqL.of (h23.at_ (d, _) (List.mem_append_right _ (xa _ xd)))
        have gl3 : SqL K H23 lb [V.int (l1 : Int), V.int (l2 : Int)] := SqL.of (h23.at_ (lb, _) (List.mem_append_right _ (xa _ xl)))
        dsimp only [tSeq]
        -- begin, length
        refine ⟨_, rfl, _, _, rfl, rfl, ?_⟩
        dsimp only [List.set]
        have at2 : atI [V.int (l1 : Int), V.int (l2 : Int)] (x0 - 1) = some (.int ((aL l1 l2 x0 : Nat) : Int)) := by rcases hx with rfl | rfl <;> rfl
        refine ⟨_, rfl, _, rfl, _, _, rfl, rfl, lb, _, _, _, rfl, rfl, gl3, at2, _, _, rfl, rfl, ?_⟩
        dsimp only [List.set]
        refine ⟨_, rfl, rfl, _, rfl, ?_⟩
        rw [k.isTurning]
        have aLb2 := aLb x0
        refine ifd (fun ct => ?_) (fun ct => ?_)
        rw [if_pos ct] at Cy
        refine ⟨_, rfl, lb, _, _, _, rfl, rfl, gl3, rfl, _, rfl, lb, _, _, _, rfl, rfl, gl3, rfl, _, _, rfl, rfl, _, _, rfl, rfl, ?_⟩
        dsimp only [List.set]
        obtain ⟨lam, hlam⟩ : ∃ lam : Nat, l1 + l2 + 6 = lam := ⟨_, rfl⟩
        rw [hlam] at Cy
        rw [show (l1 : Int) + (l2 : Int) + 6 = (lam : Int) by omega]
        rotate_left
        rw [if_neg ct] at Cy
        obtain ⟨lam, hlam⟩ : ∃ lam : Nat, aL l1 l2 x0 + 3 = lam := ⟨_, rfl⟩
        rw [hlam] at Cy
        rw [show ((aL l1 l2 x0 : Nat) : Int) + 3 = (lam : Int) by omega]
        dsimp only [tNext]
        all_goals
          have lamb : lam ≤ 2000 := by omega
          clear hlam at2
          -- due
          refine ⟨_, rfl, _, rfl, _, _, rfl, rfl, ?_⟩
          dsimp only [List.set]
          obtain ⟨due, hdue⟩ : ∃ due : Nat, r + 2 + lam = due := ⟨_, rfl⟩
          rw [show (r : Int) + 2 + (lam : Int) = (due : Int) by omega]
          refine ⟨_, rfl, _, rfl, _, _, rfl, rfl, _, rfl, _, _, rfl, rfl, _, rfl, _, _, rfl, rfl, _, rfl, d, _, _, _, rfl, rfl, gd3, atD (by omega) (by omega), _, _, rfl, rfl, (show (0 : Int) < 40 by decide), _, rfl, _, rfl, _, _, rfl, rfl, (.inl ⟨by decide, by decide⟩), (show 8 ≤ sizeLine by decide), fun ml hml => ?_⟩
          dsimp only at hml ⊢
          have v0 := Int.emod_nonneg (ds.getD (6 : Int).toNat 0) (show (8 : Int) ≠ 0 by decide)
          have v1 := Int.emod_lt_of_pos (ds.getD (6 : Int).toNat 0) (show (0 : Int) < 8 by decide)
          have z0 := Int.emod_nonneg (ds.getD (5 : Int).toNat 0) (show (40 : Int) ≠ 0 by decide)
          have z1 := Int.emod_lt_of_pos (ds.getD (5 : Int).toNat 0) (show (0 : Int) < 40 by decide)
          obtain ⟨m, hm, mb, mp⟩ : ∃ m : Int, atI [V.int (due : Int), .int ((due : Int) - 1), .int ((due : Int) + 1), .int ((due : Int) + 7), .int (ds.getD (5 : Int).toNat 0 % 40), .int ((r : Int) + 2), .int (2 * (due : Int)), .int 0] (ds.getD (6 : Int).toNat 0 % 8) = some (.int m) ∧ m ≤ 100000 ∧ 0 ≤ m := by
            generalize ds.getD (6 : Int).toNat 0 % 8 = ix at v0 v1
            have : ix = 0 ∨ ix = 1 ∨ ix = 2 ∨ ix = 3 ∨ ix = 4 ∨ ix = 5 ∨ ix = 6 ∨ ix = 7 := by omega
            rcases this with rfl | rfl | rfl | rfl | rfl | rfl | rfl | rfl
            · exact ⟨_, rfl, by omega, by omega⟩
            · exact ⟨_, rfl, by omega, by omega⟩
            · exact ⟨_, rfl, by omega, by omega⟩
            · exact ⟨_, rfl, by omega, by omega⟩
            · exact ⟨_, rfl, by omega, by omega⟩
            · exact ⟨_, rfl, by omega, by omega⟩
            · exact ⟨_, rfl, by omega, by omega⟩
            · exact ⟨_, rfl, by omega, by omega⟩
          have h24 := h23.alloc hml (.lst [V.int (due : Int), .int ((due : Int) - 1), .int ((due : Int) + 1), .int ((due : Int) + 7), .int (ds.getD (5 : Int).toNat 0 % 40), .int ((r : Int) + 2), .int (2 * (due : Int)), .int 0])
          refine ⟨_, rfl, d, _, _, _, rfl, rfl, SqL.alloc gd3 hml, atD (by omega) (by omega), _, _, rfl, rfl, (show (0 : Int) < 8 by decide), ml, _, _, _, rfl, rfl, SqL.of (h24.get 0 rfl), hm, ?_⟩
          replace h24 := h24.tail
          clear h23 hm v0 v1 z0 z1
          dsimp only [List.set]
          -- its fate
          refine ⟨_, rfl, _, rfl, { A1 with tr := q23 }, y2, X, w, _, m, r + 2, lam, rfl, h24, R23, pl, ek2, Cy, mb, by omega, by omega, Nat.zero_le _, (fun h => nomatch h), fun H25 p h25 => ?_⟩
          clear h24 hml
          dsimp only [List.set]
          refine ⟨_, rfl, _, _, _, _, rfl, .tup (h25.get 0 rfl), kit_tt K, _, rfl, iteF ?_⟩
          have h26 := Has.comm (X := [_]) (Y := yL t.c_Yard { A1 with tr := q23 } y2) h25
          refine ⟨_, rfl, A1.p, A1.dx, _, rfl, h26.get 1 rfl, (fl_m4 _ _ _).2.2.2.2.2.2.1, { A1 with tr := q23 }, y2, _, rfl, h26, _, rfl, (show 2 ≤ sizeLine by decide), fun c27 hc27 => ?_⟩
          have h27 := h25.alloc hc27 (.tup [.int 3, .int 0])
          refine .inr ⟨b, c27, 3, 0, by rw [en2]; rfl, h27.at_ (b, _) (.tail _ (.tail _ (List.mem_append_right _ xb))), h27.get 0 rfl, ?_⟩
          refine ⟨_, rfl, iteF ?_⟩
          have gp : ∀ {vs : List V}, roundV (r + 2) lam m.toNat = vs → SqT K (upd H25 c27 (.tup [.int 3, .int 0])) p vs := fun h => by rw [← h]; exact SqT.of (h27.get 1 rfl)
          refine ⟨_, rfl, _, rfl, _, _, rfl, rfl, _, rfl, if2 (fun hc => ?_) (fun hc => ?_)⟩
          · have hlt : m < (due : Int) := of_decide_eq_true hc
            have ev : roundV (r + 2) lam m.toNat = [.str "open", .int m] := by unfold roundV; rw [if_neg (by omega), show ((m.toNat : Nat) : Int) = m by omega]
            have g := gp ev
            refine ⟨_, rfl, p, _, rfl, .inr g, rfl, _, rfl, iteT ?_⟩
            refine ⟨_, rfl, p, _, _, _, rfl, rfl, g, rfl, rfl, _, rfl, iteT ?_⟩
            refine ⟨_, rfl, p, _, _, _, rfl, rfl, g, rfl, _, rfl, _, _, rfl, ?_⟩
            rw [decide_eq_true rfl]
            exact q _
          · have hge : ¬ m < (due : Int) := of_decide_eq_false hc
            have ev : roundV (r + 2) lam m.toNat = [.str "round", .int ((r + 2 : Nat) : Int), .int (lam : Int)] := by unfold roundV; rw [if_pos (by omega)]
            have g := gp ev
            refine ⟨_, rfl, p, _, rfl, .inr g, rfl, _, rfl, iteF ?_⟩
            refine ⟨_, rfl, p, _, _, _, rfl, rfl, g, rfl, rfl, _, rfl, iteF ?_⟩
            refine ⟨_, rfl, p, _, _, _, rfl, rfl, g, rfl, _, rfl, _, _, rfl, ?_⟩
            rw [decide_eq_true (show ((r + 2 : Nat) : Int) = (r : Int) + 2 by omega)]
            refine ⟨_, rfl, iteT ?_⟩
            refine ⟨_, rfl, p, _, _, _, rfl, rfl, g, rfl, _, rfl, _, _, rfl, ?_⟩
            rw [decide_eq_true rfl]
            exact q _
end

end P


set_option Elab.async false
set_option linter.all false
set_option maxRecDepth 100000
set_option maxHeartbeats 4000000
namespace P
open PySem L2

theorem txt_mk {K : PySem.W.Frag} {h : Heap} {mg : Str → Option Value} (KX : K.In h) (G : h.Ns mainGlobals mg)
    {f_law : Addr} {od_law an_law : Option Addr} {sl_law : Array (Option Value)} {oc_law dV_law kV_law dc_law pm_law cd_law ct_law : Value}
    {f_draws : Addr} {od_draws an_draws : Option Addr} {sl_draws : Array (Option Value)} {oc_draws dV_draws kV_draws dc_draws pm_draws cd_draws ct_draws : Value}
    {f_fate : Addr} {od_fate an_fate : Option Addr} {sl_fate : Array (Option Value)} {oc_fate dV_fate kV_fate dc_fate pm_fate cd_fate ct_fate : Value}
    {f_twin : Addr} {od_twin an_twin : Option Addr} {sl_twin : Array (Option Value)} {oc_twin dV_twin kV_twin dc_twin pm_twin cd_twin ct_twin : Value}
    {f_held : Addr} {od_held an_held : Option Addr} {sl_held : Array (Option Value)} {oc_held dV_held kV_held dc_held pm_held cd_held ct_held : Value}
    {f_next_step : Addr} {od_next_step an_next_step : Option Addr} {sl_next_step : Array (Option Value)} {oc_next_step dV_next_step kV_next_step dc_next_step pm_next_step cd_next_step ct_next_step : Value}
    {f_passage : Addr} {od_passage an_passage : Option Addr} {sl_passage : Array (Option Value)} {oc_passage dV_passage kV_passage dc_passage pm_passage cd_passage ct_passage : Value}
    {f_check_end : Addr} {od_check_end an_check_end : Option Addr} {sl_check_end : Array (Option Value)} {oc_check_end dV_check_end kV_check_end dc_check_end pm_check_end cd_check_end ct_check_end : Value}
    {f_ends_of : Addr} {od_ends_of an_ends_of : Option Addr} {sl_ends_of : Array (Option Value)} {oc_ends_of dV_ends_of kV_ends_of dc_ends_of pm_ends_of cd_ends_of ct_ends_of : Value}
    {f_is_point : Addr} {od_is_point an_is_point : Option Addr} {sl_is_point : Array (Option Value)} {oc_is_point dV_is_point kV_is_point dc_is_point pm_is_point cd_is_point ct_is_point : Value}
    {f_check_side : Addr} {od_check_side an_check_side : Option Addr} {sl_check_side : Array (Option Value)} {oc_check_side dV_check_side kV_check_side dc_check_side pm_check_side cd_check_side ct_check_side : Value}
    {f_point_passage : Addr} {od_point_passage an_point_passage : Option Addr} {sl_point_passage : Array (Option Value)} {oc_point_passage dV_point_passage kV_point_passage dc_point_passage pm_point_passage cd_point_passage ct_point_passage : Value}
    {f_run : Addr} {od_run an_run : Option Addr} {sl_run : Array (Option Value)} {oc_run dV_run kV_run dc_run pm_run cd_run ct_run : Value}
    {f_alike : Addr} {od_alike an_alike : Option Addr} {sl_alike : Array (Option Value)} {oc_alike dV_alike kV_alike dc_alike pm_alike cd_alike ct_alike : Value}
    {f_fate_on_round : Addr} {od_fate_on_round an_fate_on_round : Option Addr} {sl_fate_on_round : Array (Option Value)} {oc_fate_on_round dV_fate_on_round kV_fate_on_round dc_fate_on_round pm_fate_on_round cd_fate_on_round ct_fate_on_round : Value}
    {f_road : Addr} {od_road an_road : Option Addr} {sl_road : Array (Option Value)} {oc_road dV_road kV_road dc_road pm_road cd_road ct_road : Value}
    {f_is : Addr} {od_is an_is : Option Addr} {sl_is : Array (Option Value)} {oc_is dV_is kV_is dc_is pm_is cd_is ct_is : Value}
    {f_whole : Addr} {od_whole an_whole : Option Addr} {sl_whole : Array (Option Value)} {oc_whole dV_whole kV_whole dc_whole pm_whole cd_whole ct_whole : Value}
    {f_is_end : Addr} {od_is_end an_is_end : Option Addr} {sl_is_end : Array (Option Value)} {oc_is_end dV_is_end kV_is_end dc_is_end pm_is_end cd_is_end ct_is_end : Value}
    {f_check_note : Addr} {od_check_note an_check_note : Option Addr} {sl_check_note : Array (Option Value)} {oc_check_note dV_check_note kV_check_note dc_check_note pm_check_note cd_check_note ct_check_note : Value}
    {f_Yard_init : Addr} {od_Yard_init an_Yard_init : Option Addr} {sl_Yard_init : Array (Option Value)} {oc_Yard_init dV_Yard_init kV_Yard_init dc_Yard_init pm_Yard_init cd_Yard_init ct_Yard_init : Value}
    {f_Yard_lay : Addr} {od_Yard_lay an_Yard_lay : Option Addr} {sl_Yard_lay : Array (Option Value)} {oc_Yard_lay dV_Yard_lay kV_Yard_lay dc_Yard_lay pm_Yard_lay cd_Yard_lay ct_Yard_lay : Value}
    {f_Yard_end_trail : Addr} {od_Yard_end_trail an_Yard_end_trail : Option Addr} {sl_Yard_end_trail : Array (Option Value)} {oc_Yard_end_trail dV_Yard_end_trail kV_Yard_end_trail dc_Yard_end_trail pm_Yard_end_trail cd_Yard_end_trail ct_Yard_end_trail : Value}
    {f_Yard_check_rod : Addr} {od_Yard_check_rod an_Yard_check_rod : Option Addr} {sl_Yard_check_rod : Array (Option Value)} {oc_Yard_check_rod dV_Yard_check_rod kV_Yard_check_rod dc_Yard_check_rod pm_Yard_check_rod cd_Yard_check_rod ct_Yard_check_rod : Value}
    {f_Yard_new_rod : Addr} {od_Yard_new_rod an_Yard_new_rod : Option Addr} {sl_Yard_new_rod : Array (Option Value)} {oc_Yard_new_rod dV_Yard_new_rod kV_Yard_new_rod dc_Yard_new_rod pm_Yard_new_rod cd_Yard_new_rod ct_Yard_new_rod : Value}
    {f_Yard_throw : Addr} {od_Yard_throw an_Yard_throw : Option Addr} {sl_Yard_throw : Array (Option Value)} {oc_Yard_throw dV_Yard_throw kV_Yard_throw dc_Yard_throw pm_Yard_throw cd_Yard_throw ct_Yard_throw : Value}
    {f_Yard_link : Addr} {od_Yard_link an_Yard_link : Option Addr} {sl_Yard_link : Array (Option Value)} {oc_Yard_link dV_Yard_link kV_Yard_link dc_Yard_link pm_Yard_link cd_Yard_link ct_Yard_link : Value}
    {f_Yard_check_there : Addr} {od_Yard_check_there an_Yard_check_there : Option Addr} {sl_Yard_check_there : Array (Option Value)} {oc_Yard_check_there dV_Yard_check_there kV_Yard_check_there dc_Yard_check_there pm_Yard_check_there cd_Yard_check_there ct_Yard_check_there : Value}
    {f_Yard_check_piece : Addr} {od_Yard_check_piece an_Yard_check_piece : Option Addr} {sl_Yard_check_piece : Array (Option Value)} {oc_Yard_check_piece dV_Yard_check_piece kV_Yard_check_piece dc_Yard_check_piece pm_Yard_check_piece cd_Yard_check_piece ct_Yard_check_piece : Value}
    {f_Yard_put : Addr} {od_Yard_put an_Yard_put : Option Addr} {sl_Yard_put : Array (Option Value)} {oc_Yard_put dV_Yard_put kV_Yard_put dc_Yard_put pm_Yard_put cd_Yard_put ct_Yard_put : Value}
    {f_Yard_rod : Addr} {od_Yard_rod an_Yard_rod : Option Addr} {sl_Yard_rod : Array (Option Value)} {oc_Yard_rod dV_Yard_rod kV_Yard_rod dc_Yard_rod pm_Yard_rod cd_Yard_rod ct_Yard_rod : Value}
    {f_Yard_engine : Addr} {od_Yard_engine an_Yard_engine : Option Addr} {sl_Yard_engine : Array (Option Value)} {oc_Yard_engine dV_Yard_engine kV_Yard_engine dc_Yard_engine pm_Yard_engine cd_Yard_engine ct_Yard_engine : Value}
    {f_Yard_make_twin : Addr} {od_Yard_make_twin an_Yard_make_twin : Option Addr} {sl_Yard_make_twin : Array (Option Value)} {oc_Yard_make_twin dV_Yard_make_twin kV_Yard_make_twin dc_Yard_make_twin pm_Yard_make_twin cd_Yard_make_twin ct_Yard_make_twin : Value}
    {f_Yard_kind : Addr} {od_Yard_kind an_Yard_kind : Option Addr} {sl_Yard_kind : Array (Option Value)} {oc_Yard_kind dV_Yard_kind kV_Yard_kind dc_Yard_kind pm_Yard_kind cd_Yard_kind ct_Yard_kind : Value}
    {f_Yard_mate : Addr} {od_Yard_mate an_Yard_mate : Option Addr} {sl_Yard_mate : Array (Option Value)} {oc_Yard_mate dV_Yard_mate kV_Yard_mate dc_Yard_mate pm_Yard_mate cd_Yard_mate ct_Yard_mate : Value}
    {f_Yard_side : Addr} {od_Yard_side an_Yard_side : Option Addr} {sl_Yard_side : Array (Option Value)} {oc_Yard_side dV_Yard_side kV_Yard_side dc_Yard_side pm_Yard_side cd_Yard_side ct_Yard_side : Value}
    {f_Yard_carry : Addr} {od_Yard_carry an_Yard_carry : Option Addr} {sl_Yard_carry : Array (Option Value)} {oc_Yard_carry dV_Yard_carry kV_Yard_carry dc_Yard_carry pm_Yard_carry cd_Yard_carry ct_Yard_carry : Value}
    {c_Yard : Addr}
    {u_ENDS : Value}
    {u_LAST_NOTE : Value}
    {u_POINTS : Value}
    {u_STEM : Value}
    {dT_Yard_lay : Addr} {dd_Yard_lay : Option Addr} {dn_Yard_lay : Nat} {ds_Yard_lay : Array (Option Value)} {dk0_Yard_lay : Tok}
    {dT_Yard_new_rod : Addr} {dd_Yard_new_rod : Option Addr} {dn_Yard_new_rod : Nat} {ds_Yard_new_rod : Array (Option Value)} {dk0_Yard_new_rod : Tok}
    {a_POINTS : Addr} {od_POINTS : Option Addr} {its_POINTS : Array Value} {n_POINTS : Nat} {sl_POINTS : Array (Option Value)}
    (a_Yard : PySem.W.nsIn K mainGlobals "Yard" = some (some (.ref c_Yard)))
    (a_law : PySem.W.nsIn K mainGlobals "law" = some (some (.ref f_law)))
    (l_law : K.lookup f_law = some ⟨oc_law, od_law, .func (PySem.W.fnOf "law" "law" (defArgs s_law) (defBody s_law) (defScope s_law) dV_law kV_law dc_law pm_law an_law cd_law ct_law), sl_law⟩)
    (q_law : PySem.W.codeIn K cd_law "law" = true)
    (k_law : PySem.W.keepIn K (.ref f_law) = true)
    (e_law : dV_law = .none)
    (a_draws : PySem.W.nsIn K mainGlobals "_law_draws" = some (some (.ref f_draws)))
    (l_draws : K.lookup f_draws = some ⟨oc_draws, od_draws, .func (PySem.W.fnOf "_law_draws" "_law_draws" (defArgs s_draws) (defBody s_draws) (defScope s_draws) dV_draws kV_draws dc_draws pm_draws an_draws cd_draws ct_draws), sl_draws⟩)
    (q_draws : PySem.W.codeIn K cd_draws "_law_draws" = true)
    (k_draws : PySem.W.keepIn K (.ref f_draws) = true)
    (e_draws : dV_draws = .none)
    (a_fate : PySem.W.nsIn K mainGlobals "fate" = some (some (.ref f_fate)))
    (l_fate : K.lookup f_fate = some ⟨oc_fate, od_fate, .func (PySem.W.fnOf "fate" "fate" (defArgs s_fate) (defBody s_fate) (defScope s_fate) dV_fate kV_fate dc_fate pm_fate an_fate cd_fate ct_fate), sl_fate⟩)
    (q_fate : PySem.W.codeIn K cd_fate "fate" = true)
    (k_fate : PySem.W.keepIn K (.ref f_fate) = true)
    (e_fate : dV_fate = .none)
    (a_twin : PySem.W.nsIn K mainGlobals "twin" = some (some (.ref f_twin)))
    (l_twin : K.lookup f_twin = some ⟨oc_twin, od_twin, .func (PySem.W.fnOf "twin" "twin" (defArgs s_twin) (defBody s_twin) (defScope s_twin) dV_twin kV_twin dc_twin pm_twin an_twin cd_twin ct_twin), sl_twin⟩)
    (q_twin : PySem.W.codeIn K cd_twin "twin" = true)
    (k_twin : PySem.W.keepIn K (.ref f_twin) = true)
    (e_twin : dV_twin = .none)
    (a_held : PySem.W.nsIn K mainGlobals "held" = some (some (.ref f_held)))
    (l_held : K.lookup f_held = some ⟨oc_held, od_held, .func (PySem.W.fnOf "held" "held" (defArgs s_held) (defBody s_held) (defScope s_held) dV_held kV_held dc_held pm_held an_held cd_held ct_held), sl_held⟩)
    (q_held : PySem.W.codeIn K cd_held "held" = true)
    (k_held : PySem.W.keepIn K (.ref f_held) = true)
    (e_held : dV_held = .none)
    (a_next_step : PySem.W.nsIn K mainGlobals "next_step" = some (some (.ref f_next_step)))
    (l_next_step : K.lookup f_next_step = some ⟨oc_next_step, od_next_step, .func (PySem.W.fnOf "next_step" "next_step" (defArgs s_next_step) (defBody s_next_step) (defScope s_next_step) dV_next_step kV_next_step dc_next_step pm_next_step an_next_step cd_next_step ct_next_step), sl_next_step⟩)
    (q_next_step : PySem.W.codeIn K cd_next_step "next_step" = true)
    (k_next_step : PySem.W.keepIn K (.ref f_next_step) = true)
    (e_next_step : dV_next_step = .none)
    (a_passage : PySem.W.nsIn K mainGlobals "passage" = some (some (.ref f_passage)))
    (l_passage : K.lookup f_passage = some ⟨oc_passage, od_passage, .func (PySem.W.fnOf "passage" "passage" (defArgs s_passage) (defBody s_passage) (defScope s_passage) dV_passage kV_passage dc_passage pm_passage an_passage cd_passage ct_passage), sl_passage⟩)
    (q_passage : PySem.W.codeIn K cd_passage "passage" = true)
    (k_passage : PySem.W.keepIn K (.ref f_passage) = true)
    (e_passage : dV_passage = .none)
    (a_check_end : PySem.W.nsIn K mainGlobals "check_end" = some (some (.ref f_check_end)))
    (l_check_end : K.lookup f_check_end = some ⟨oc_check_end, od_check_end, .func (PySem.W.fnOf "check_end" "check_end" (defArgs s_check_end) (defBody s_check_end) (defScope s_check_end) dV_check_end kV_check_end dc_check_end pm_check_end an_check_end cd_check_end ct_check_end), sl_check_end⟩)
    (q_check_end : PySem.W.codeIn K cd_check_end "check_end" = true)
    (k_check_end : PySem.W.keepIn K (.ref f_check_end) = true)
    (e_check_end : dV_check_end = .none)
    (a_ends_of : PySem.W.nsIn K mainGlobals "ends_of" = some (some (.ref f_ends_of)))
    (l_ends_of : K.lookup f_ends_of = some ⟨oc_ends_of, od_ends_of, .func (PySem.W.fnOf "ends_of" "ends_of" (defArgs s_ends_of) (defBody s_ends_of) (defScope s_ends_of) dV_ends_of kV_ends_of dc_ends_of pm_ends_of an_ends_of cd_ends_of ct_ends_of), sl_ends_of⟩)
    (q_ends_of : PySem.W.codeIn K cd_ends_of "ends_of" = true)
    (k_ends_of : PySem.W.keepIn K (.ref f_ends_of) = true)
    (e_ends_of : dV_ends_of = .none)
    (a_is_point : PySem.W.nsIn K mainGlobals "is_point" = some (some (.ref f_is_point)))
    (l_is_point : K.lookup f_is_point = some ⟨oc_is_point, od_is_point, .func (PySem.W.fnOf "is_point" "is_point" (defArgs s_is_point) (defBody s_is_point) (defScope s_is_point) dV_is_point kV_is_point dc_is_point pm_is_point an_is_point cd_is_point ct_is_point), sl_is_point⟩)
    (q_is_point : PySem.W.codeIn K cd_is_point "is_point" = true)
    (k_is_point : PySem.W.keepIn K (.ref f_is_point) = true)
    (e_is_point : dV_is_point = .none)
    (a_check_side : PySem.W.nsIn K mainGlobals "check_side" = some (some (.ref f_check_side)))
    (l_check_side : K.lookup f_check_side = some ⟨oc_check_side, od_check_side, .func (PySem.W.fnOf "check_side" "check_side" (defArgs s_check_side) (defBody s_check_side) (defScope s_check_side) dV_check_side kV_check_side dc_check_side pm_check_side an_check_side cd_check_side ct_check_side), sl_check_side⟩)
    (q_check_side : PySem.W.codeIn K cd_check_side "check_side" = true)
    (k_check_side : PySem.W.keepIn K (.ref f_check_side) = true)
    (e_check_side : dV_check_side = .none)
    (a_point_passage : PySem.W.nsIn K mainGlobals "point_passage" = some (some (.ref f_point_passage)))
    (l_point_passage : K.lookup f_point_passage = some ⟨oc_point_passage, od_point_passage, .func (PySem.W.fnOf "point_passage" "point_passage" (defArgs s_point_passage) (defBody s_point_passage) (defScope s_point_passage) dV_point_passage kV_point_passage dc_point_passage pm_point_passage an_point_passage cd_point_passage ct_point_passage), sl_point_passage⟩)
    (q_point_passage : PySem.W.codeIn K cd_point_passage "point_passage" = true)
    (k_point_passage : PySem.W.keepIn K (.ref f_point_passage) = true)
    (e_point_passage : dV_point_passage = .none)
    (a_run : PySem.W.nsIn K mainGlobals "run" = some (some (.ref f_run)))
    (l_run : K.lookup f_run = some ⟨oc_run, od_run, .func (PySem.W.fnOf "run" "run" (defArgs s_run) (defBody s_run) (defScope s_run) dV_run kV_run dc_run pm_run an_run cd_run ct_run), sl_run⟩)
    (q_run : PySem.W.codeIn K cd_run "run" = true)
    (k_run : PySem.W.keepIn K (.ref f_run) = true)
    (e_run : dV_run = .none)
    (a_alike : PySem.W.nsIn K mainGlobals "alike" = some (some (.ref f_alike)))
    (l_alike : K.lookup f_alike = some ⟨oc_alike, od_alike, .func (PySem.W.fnOf "alike" "alike" (defArgs s_alike) (defBody s_alike) (defScope s_alike) dV_alike kV_alike dc_alike pm_alike an_alike cd_alike ct_alike), sl_alike⟩)
    (q_alike : PySem.W.codeIn K cd_alike "alike" = true)
    (k_alike : PySem.W.keepIn K (.ref f_alike) = true)
    (e_alike : dV_alike = .none)
    (a_fate_on_round : PySem.W.nsIn K mainGlobals "fate_on_round" = some (some (.ref f_fate_on_round)))
    (l_fate_on_round : K.lookup f_fate_on_round = some ⟨oc_fate_on_round, od_fate_on_round, .func (PySem.W.fnOf "fate_on_round" "fate_on_round" (defArgs s_fate_on_round) (defBody s_fate_on_round) (defScope s_fate_on_round) dV_fate_on_round kV_fate_on_round dc_fate_on_round pm_fate_on_round an_fate_on_round cd_fate_on_round ct_fate_on_round), sl_fate_on_round⟩)
    (q_fate_on_round : PySem.W.codeIn K cd_fate_on_round "fate_on_round" = true)
    (k_fate_on_round : PySem.W.keepIn K (.ref f_fate_on_round) = true)
    (e_fate_on_round : dV_fate_on_round = .none)
    (a_road : PySem.W.nsIn K mainGlobals "_law_road" = some (some (.ref f_road)))
    (l_road : K.lookup f_road = some ⟨oc_road, od_road, .func (PySem.W.fnOf "_law_road" "_law_road" (defArgs s_road) (defBody s_road) (defScope s_road) dV_road kV_road dc_road pm_road an_road cd_road ct_road), sl_road⟩)
    (q_road : PySem.W.codeIn K cd_road "_law_road" = true)
    (k_road : PySem.W.keepIn K (.ref f_road) = true)
    (e_road : dV_road = .none)
    (a_is : PySem.W.nsIn K mainGlobals "_law_is" = some (some (.ref f_is)))
    (l_is : K.lookup f_is = some ⟨oc_is, od_is, .func (PySem.W.fnOf "_law_is" "_law_is" (defArgs s_is) (defBody s_is) (defScope s_is) dV_is kV_is dc_is pm_is an_is cd_is ct_is), sl_is⟩)
    (q_is : PySem.W.codeIn K cd_is "_law_is" = true)
    (k_is : PySem.W.keepIn K (.ref f_is) = true)
    (e_is : dV_is = .none)
    (a_whole : PySem.W.nsIn K mainGlobals "_law_whole" = some (some (.ref f_whole)))
    (l_whole : K.lookup f_whole = some ⟨oc_whole, od_whole, .func (PySem.W.fnOf "_law_whole" "_law_whole" (defArgs s_whole) (defBody s_whole) (defScope s_whole) dV_whole kV_whole dc_whole pm_whole an_whole cd_whole ct_whole), sl_whole⟩)
    (q_whole : PySem.W.codeIn K cd_whole "_law_whole" = true)
    (k_whole : PySem.W.keepIn K (.ref f_whole) = true)
    (e_whole : dV_whole = .none)
    (a_is_end : PySem.W.nsIn K mainGlobals "_law_is_end" = some (some (.ref f_is_end)))
    (l_is_end : K.lookup f_is_end = some ⟨oc_is_end, od_is_end, .func (PySem.W.fnOf "_law_is_end" "_law_is_end" (defArgs s_is_end) (defBody s_is_end) (defScope s_is_end) dV_is_end kV_is_end dc_is_end pm_is_end an_is_end cd_is_end ct_is_end), sl_is_end⟩)
    (q_is_end : PySem.W.codeIn K cd_is_end "_law_is_end" = true)
    (k_is_end : PySem.W.keepIn K (.ref f_is_end) = true)
    (e_is_end : dV_is_end = .none)
    (a_check_note : PySem.W.nsIn K mainGlobals "check_note" = some (some (.ref f_check_note)))
    (l_check_note : K.lookup f_check_note = some ⟨oc_check_note, od_check_note, .func (PySem.W.fnOf "check_note" "check_note" (defArgs s_check_note) (defBody s_check_note) (defScope s_check_note) dV_check_note kV_check_note dc_check_note pm_check_note an_check_note cd_check_note ct_check_note), sl_check_note⟩)
    (q_check_note : PySem.W.codeIn K cd_check_note "check_note" = true)
    (k_check_note : PySem.W.keepIn K (.ref f_check_note) = true)
    (e_check_note : dV_check_note = .none)
    (a_Yard_init : PySem.W.findIn K (.ref c_Yard) "__init__" = some (some (.ref f_Yard_init)))
    (i_Yard_init : PySem.W.isFn K (.ref f_Yard_init) = true)
    (l_Yard_init : K.lookup f_Yard_init = some ⟨oc_Yard_init, od_Yard_init, .func (PySem.W.fnOf "__init__" "Yard.__init__" (defArgs s_Yard_init) (defBody s_Yard_init) (defScope s_Yard_init) dV_Yard_init kV_Yard_init dc_Yard_init pm_Yard_init an_Yard_init cd_Yard_init ct_Yard_init), sl_Yard_init⟩)
    (q_Yard_init : PySem.W.codeIn K cd_Yard_init "Yard.__init__" = true)
    (k_Yard_init : PySem.W.keepIn K (.ref f_Yard_init) = true)
    (e_Yard_init : dV_Yard_init = .none)
    (a_Yard_lay : PySem.W.findIn K (.ref c_Yard) "lay" = some (some (.ref f_Yard_lay)))
    (i_Yard_lay : PySem.W.isFn K (.ref f_Yard_lay) = true)
    (l_Yard_lay : K.lookup f_Yard_lay = some ⟨oc_Yard_lay, od_Yard_lay, .func (PySem.W.fnOf "lay" "Yard.lay" (defArgs s_Yard_lay) (defBody s_Yard_lay) (defScope s_Yard_lay) dV_Yard_lay kV_Yard_lay dc_Yard_lay pm_Yard_lay an_Yard_lay cd_Yard_lay ct_Yard_lay), sl_Yard_lay⟩)
    (q_Yard_lay : PySem.W.codeIn K cd_Yard_lay "Yard.lay" = true)
    (k_Yard_lay : PySem.W.keepIn K (.ref f_Yard_lay) = true)
    (e_Yard_lay : dV_Yard_lay = .ref dT_Yard_lay)
    (w_Yard_lay : K.lookup dT_Yard_lay = some ⟨.type "tuple", dd_Yard_lay, .seq #[.int 0 dk0_Yard_lay, .none] dn_Yard_lay, ds_Yard_lay⟩)
    (a_Yard_end_trail : PySem.W.findIn K (.ref c_Yard) "end_trail" = some (some (.ref f_Yard_end_trail)))
    (i_Yard_end_trail : PySem.W.isFn K (.ref f_Yard_end_trail) = true)
    (l_Yard_end_trail : K.lookup f_Yard_end_trail = some ⟨oc_Yard_end_trail, od_Yard_end_trail, .func (PySem.W.fnOf "end_trail" "Yard.end_trail" (defArgs s_Yard_end_trail) (defBody s_Yard_end_trail) (defScope s_Yard_end_trail) dV_Yard_end_trail kV_Yard_end_trail dc_Yard_end_trail pm_Yard_end_trail an_Yard_end_trail cd_Yard_end_trail ct_Yard_end_trail), sl_Yard_end_trail⟩)
    (q_Yard_end_trail : PySem.W.codeIn K cd_Yard_end_trail "Yard.end_trail" = true)
    (k_Yard_end_trail : PySem.W.keepIn K (.ref f_Yard_end_trail) = true)
    (e_Yard_end_trail : dV_Yard_end_trail = .none)
    (a_Yard_check_rod : PySem.W.findIn K (.ref c_Yard) "check_rod" = some (some (.ref f_Yard_check_rod)))
    (i_Yard_check_rod : PySem.W.isFn K (.ref f_Yard_check_rod) = true)
    (l_Yard_check_rod : K.lookup f_Yard_check_rod = some ⟨oc_Yard_check_rod, od_Yard_check_rod, .func (PySem.W.fnOf "check_rod" "Yard.check_rod" (defArgs s_Yard_check_rod) (defBody s_Yard_check_rod) (defScope s_Yard_check_rod) dV_Yard_check_rod kV_Yard_check_rod dc_Yard_check_rod pm_Yard_check_rod an_Yard_check_rod cd_Yard_check_rod ct_Yard_check_rod), sl_Yard_check_rod⟩)
    (q_Yard_check_rod : PySem.W.codeIn K cd_Yard_check_rod "Yard.check_rod" = true)
    (k_Yard_check_rod : PySem.W.keepIn K (.ref f_Yard_check_rod) = true)
    (e_Yard_check_rod : dV_Yard_check_rod = .none)
    (a_Yard_new_rod : PySem.W.findIn K (.ref c_Yard) "new_rod" = some (some (.ref f_Yard_new_rod)))
    (i_Yard_new_rod : PySem.W.isFn K (.ref f_Yard_new_rod) = true)
    (l_Yard_new_rod : K.lookup f_Yard_new_rod = some ⟨oc_Yard_new_rod, od_Yard_new_rod, .func (PySem.W.fnOf "new_rod" "Yard.new_rod" (defArgs s_Yard_new_rod) (defBody s_Yard_new_rod) (defScope s_Yard_new_rod) dV_Yard_new_rod kV_Yard_new_rod dc_Yard_new_rod pm_Yard_new_rod an_Yard_new_rod cd_Yard_new_rod ct_Yard_new_rod), sl_Yard_new_rod⟩)
    (q_Yard_new_rod : PySem.W.codeIn K cd_Yard_new_rod "Yard.new_rod" = true)
    (k_Yard_new_rod : PySem.W.keepIn K (.ref f_Yard_new_rod) = true)
    (e_Yard_new_rod : dV_Yard_new_rod = .ref dT_Yard_new_rod)
    (w_Yard_new_rod : K.lookup dT_Yard_new_rod = some ⟨.type "tuple", dd_Yard_new_rod, .seq #[.int 1 dk0_Yard_new_rod] dn_Yard_new_rod, ds_Yard_new_rod⟩)
    (a_Yard_throw : PySem.W.findIn K (.ref c_Yard) "throw" = some (some (.ref f_Yard_throw)))
    (i_Yard_throw : PySem.W.isFn K (.ref f_Yard_throw) = true)
    (l_Yard_throw : K.lookup f_Yard_throw = some ⟨oc_Yard_throw, od_Yard_throw, .func (PySem.W.fnOf "throw" "Yard.throw" (defArgs s_Yard_throw) (defBody s_Yard_throw) (defScope s_Yard_throw) dV_Yard_throw kV_Yard_throw dc_Yard_throw pm_Yard_throw an_Yard_throw cd_Yard_throw ct_Yard_throw), sl_Yard_throw⟩)
    (q_Yard_throw : PySem.W.codeIn K cd_Yard_throw "Yard.throw" = true)
    (k_Yard_throw : PySem.W.keepIn K (.ref f_Yard_throw) = true)
    (e_Yard_throw : dV_Yard_throw = .none)
    (a_Yard_link : PySem.W.findIn K (.ref c_Yard) "link" = some (some (.ref f_Yard_link)))
    (i_Yard_link : PySem.W.isFn K (.ref f_Yard_link) = true)
    (l_Yard_link : K.lookup f_Yard_link = some ⟨oc_Yard_link, od_Yard_link, .func (PySem.W.fnOf "link" "Yard.link" (defArgs s_Yard_link) (defBody s_Yard_link) (defScope s_Yard_link) dV_Yard_link kV_Yard_link dc_Yard_link pm_Yard_link an_Yard_link cd_Yard_link ct_Yard_link), sl_Yard_link⟩)
    (q_Yard_link : PySem.W.codeIn K cd_Yard_link "Yard.link" = true)
    (k_Yard_link : PySem.W.keepIn K (.ref f_Yard_link) = true)
    (e_Yard_link : dV_Yard_link = .none)
    (a_Yard_check_there : PySem.W.findIn K (.ref c_Yard) "check_there" = some (some (.ref f_Yard_check_there)))
    (i_Yard_check_there : PySem.W.isFn K (.ref f_Yard_check_there) = true)
    (l_Yard_check_there : K.lookup f_Yard_check_there = some ⟨oc_Yard_check_there, od_Yard_check_there, .func (PySem.W.fnOf "check_there" "Yard.check_there" (defArgs s_Yard_check_there) (defBody s_Yard_check_there) (defScope s_Yard_check_there) dV_Yard_check_there kV_Yard_check_there dc_Yard_check_there pm_Yard_check_there an_Yard_check_there cd_Yard_check_there ct_Yard_check_there), sl_Yard_check_there⟩)
    (q_Yard_check_there : PySem.W.codeIn K cd_Yard_check_there "Yard.check_there" = true)
    (k_Yard_check_there : PySem.W.keepIn K (.ref f_Yard_check_there) = true)
    (e_Yard_check_there : dV_Yard_check_there = .none)
    (a_Yard_check_piece : PySem.W.findIn K (.ref c_Yard) "check_piece" = some (some (.ref f_Yard_check_piece)))
    (i_Yard_check_piece : PySem.W.isFn K (.ref f_Yard_check_piece) = true)
    (l_Yard_check_piece : K.lookup f_Yard_check_piece = some ⟨oc_Yard_check_piece, od_Yard_check_piece, .func (PySem.W.fnOf "check_piece" "Yard.check_piece" (defArgs s_Yard_check_piece) (defBody s_Yard_check_piece) (defScope s_Yard_check_piece) dV_Yard_check_piece kV_Yard_check_piece dc_Yard_check_piece pm_Yard_check_piece an_Yard_check_piece cd_Yard_check_piece ct_Yard_check_piece), sl_Yard_check_piece⟩)
    (q_Yard_check_piece : PySem.W.codeIn K cd_Yard_check_piece "Yard.check_piece" = true)
    (k_Yard_check_piece : PySem.W.keepIn K (.ref f_Yard_check_piece) = true)
    (e_Yard_check_piece : dV_Yard_check_piece = .none)
    (a_Yard_put : PySem.W.findIn K (.ref c_Yard) "put" = some (some (.ref f_Yard_put)))
    (i_Yard_put : PySem.W.isFn K (.ref f_Yard_put) = true)
    (l_Yard_put : K.lookup f_Yard_put = some ⟨oc_Yard_put, od_Yard_put, .func (PySem.W.fnOf "put" "Yard.put" (defArgs s_Yard_put) (defBody s_Yard_put) (defScope s_Yard_put) dV_Yard_put kV_Yard_put dc_Yard_put pm_Yard_put an_Yard_put cd_Yard_put ct_Yard_put), sl_Yard_put⟩)
    (q_Yard_put : PySem.W.codeIn K cd_Yard_put "Yard.put" = true)
    (k_Yard_put : PySem.W.keepIn K (.ref f_Yard_put) = true)
    (e_Yard_put : dV_Yard_put = .none)
    (a_Yard_rod : PySem.W.findIn K (.ref c_Yard) "rod" = some (some (.ref f_Yard_rod)))
    (i_Yard_rod : PySem.W.isFn K (.ref f_Yard_rod) = true)
    (l_Yard_rod : K.lookup f_Yard_rod = some ⟨oc_Yard_rod, od_Yard_rod, .func (PySem.W.fnOf "rod" "Yard.rod" (defArgs s_Yard_rod) (defBody s_Yard_rod) (defScope s_Yard_rod) dV_Yard_rod kV_Yard_rod dc_Yard_rod pm_Yard_rod an_Yard_rod cd_Yard_rod ct_Yard_rod), sl_Yard_rod⟩)
    (q_Yard_rod : PySem.W.codeIn K cd_Yard_rod "Yard.rod" = true)
    (k_Yard_rod : PySem.W.keepIn K (.ref f_Yard_rod) = true)
    (e_Yard_rod : dV_Yard_rod = .none)
    (a_Yard_engine : PySem.W.findIn K (.ref c_Yard) "engine" = some (some (.ref f_Yard_engine)))
    (i_Yard_engine : PySem.W.isFn K (.ref f_Yard_engine) = true)
    (l_Yard_engine : K.lookup f_Yard_engine = some ⟨oc_Yard_engine, od_Yard_engine, .func (PySem.W.fnOf "engine" "Yard.engine" (defArgs s_Yard_engine) (defBody s_Yard_engine) (defScope s_Yard_engine) dV_Yard_engine kV_Yard_engine dc_Yard_engine pm_Yard_engine an_Yard_engine cd_Yard_engine ct_Yard_engine), sl_Yard_engine⟩)
    (q_Yard_engine : PySem.W.codeIn K cd_Yard_engine "Yard.engine" = true)
    (k_Yard_engine : PySem.W.keepIn K (.ref f_Yard_engine) = true)
    (e_Yard_engine : dV_Yard_engine = .none)
    (a_Yard_make_twin : PySem.W.findIn K (.ref c_Yard) "make_twin" = some (some (.ref f_Yard_make_twin)))
    (i_Yard_make_twin : PySem.W.isFn K (.ref f_Yard_make_twin) = true)
    (l_Yard_make_twin : K.lookup f_Yard_make_twin = some ⟨oc_Yard_make_twin, od_Yard_make_twin, .func (PySem.W.fnOf "make_twin" "Yard.make_twin" (defArgs s_Yard_make_twin) (defBody s_Yard_make_twin) (defScope s_Yard_make_twin) dV_Yard_make_twin kV_Yard_make_twin dc_Yard_make_twin pm_Yard_make_twin an_Yard_make_twin cd_Yard_make_twin ct_Yard_make_twin), sl_Yard_make_twin⟩)
    (q_Yard_make_twin : PySem.W.codeIn K cd_Yard_make_twin "Yard.make_twin" = true)
    (k_Yard_make_twin : PySem.W.keepIn K (.ref f_Yard_make_twin) = true)
    (e_Yard_make_twin : dV_Yard_make_twin = .none)
    (a_Yard_kind : PySem.W.findIn K (.ref c_Yard) "kind" = some (some (.ref f_Yard_kind)))
    (i_Yard_kind : PySem.W.isFn K (.ref f_Yard_kind) = true)
    (l_Yard_kind : K.lookup f_Yard_kind = some ⟨oc_Yard_kind, od_Yard_kind, .func (PySem.W.fnOf "kind" "Yard.kind" (defArgs s_Yard_kind) (defBody s_Yard_kind) (defScope s_Yard_kind) dV_Yard_kind kV_Yard_kind dc_Yard_kind pm_Yard_kind an_Yard_kind cd_Yard_kind ct_Yard_kind), sl_Yard_kind⟩)
    (q_Yard_kind : PySem.W.codeIn K cd_Yard_kind "Yard.kind" = true)
    (k_Yard_kind : PySem.W.keepIn K (.ref f_Yard_kind) = true)
    (e_Yard_kind : dV_Yard_kind = .none)
    (a_Yard_mate : PySem.W.findIn K (.ref c_Yard) "mate" = some (some (.ref f_Yard_mate)))
    (i_Yard_mate : PySem.W.isFn K (.ref f_Yard_mate) = true)
    (l_Yard_mate : K.lookup f_Yard_mate = some ⟨oc_Yard_mate, od_Yard_mate, .func (PySem.W.fnOf "mate" "Yard.mate" (defArgs s_Yard_mate) (defBody s_Yard_mate) (defScope s_Yard_mate) dV_Yard_mate kV_Yard_mate dc_Yard_mate pm_Yard_mate an_Yard_mate cd_Yard_mate ct_Yard_mate), sl_Yard_mate⟩)
    (q_Yard_mate : PySem.W.codeIn K cd_Yard_mate "Yard.mate" = true)
    (k_Yard_mate : PySem.W.keepIn K (.ref f_Yard_mate) = true)
    (e_Yard_mate : dV_Yard_mate = .none)
    (a_Yard_side : PySem.W.findIn K (.ref c_Yard) "side" = some (some (.ref f_Yard_side)))
    (i_Yard_side : PySem.W.isFn K (.ref f_Yard_side) = true)
    (l_Yard_side : K.lookup f_Yard_side = some ⟨oc_Yard_side, od_Yard_side, .func (PySem.W.fnOf "side" "Yard.side" (defArgs s_Yard_side) (defBody s_Yard_side) (defScope s_Yard_side) dV_Yard_side kV_Yard_side dc_Yard_side pm_Yard_side an_Yard_side cd_Yard_side ct_Yard_side), sl_Yard_side⟩)
    (q_Yard_side : PySem.W.codeIn K cd_Yard_side "Yard.side" = true)
    (k_Yard_side : PySem.W.keepIn K (.ref f_Yard_side) = true)
    (e_Yard_side : dV_Yard_side = .none)
    (a_Yard_carry : PySem.W.findIn K (.ref c_Yard) "carry" = some (some (.ref f_Yard_carry)))
    (i_Yard_carry : PySem.W.isFn K (.ref f_Yard_carry) = true)
    (l_Yard_carry : K.lookup f_Yard_carry = some ⟨oc_Yard_carry, od_Yard_carry, .func (PySem.W.fnOf "carry" "Yard.carry" (defArgs s_Yard_carry) (defBody s_Yard_carry) (defScope s_Yard_carry) dV_Yard_carry kV_Yard_carry dc_Yard_carry pm_Yard_carry an_Yard_carry cd_Yard_carry ct_Yard_carry), sl_Yard_carry⟩)
    (q_Yard_carry : PySem.W.codeIn K cd_Yard_carry "Yard.carry" = true)
    (k_Yard_carry : PySem.W.keepIn K (.ref f_Yard_carry) = true)
    (e_Yard_carry : dV_Yard_carry = .none)
    (pg_Yard : PySem.W.plainGet K c_Yard Str.empty = true)
    (hd_Yard : PySem.W.hasDictIn K c_Yard = true)
    (po_Yard : PySem.W.plainOver K c_Yard = true)
    (sa_Yard : PySem.W.findIn K (.ref c_Yard) "__setattr__" = some (some (.builtin "object.__setattr__")))
    (mk_Yard : PySem.W.makesIn K c_Yard = true)
    (kc_Yard : PySem.W.keepIn K (.ref c_Yard) = true)
    (n_Yard_next_piece : PySem.W.findIn K (.ref c_Yard) "next_piece" = some none)
    (n_Yard_kinds : PySem.W.findIn K (.ref c_Yard) "kinds" = some none)
    (n_Yard_notes : PySem.W.findIn K (.ref c_Yard) "notes" = some none)
    (n_Yard_rods_under : PySem.W.findIn K (.ref c_Yard) "rods_under" = some none)
    (n_Yard_sides : PySem.W.findIn K (.ref c_Yard) "sides" = some none)
    (n_Yard_mates : PySem.W.findIn K (.ref c_Yard) "mates" = some none)
    (n_Yard_engine_end : PySem.W.findIn K (.ref c_Yard) "engine_end" = some none)
    (n_Yard_rung : PySem.W.findIn K (.ref c_Yard) "rung" = some none)
    (n_Yard_trail : PySem.W.findIn K (.ref c_Yard) "trail" = some none)
    (z_abs : PySem.W.nsIn K mainGlobals "abs" = some none)
    (z_bool : PySem.W.nsIn K mainGlobals "bool" = some none)
    (z_dict : PySem.W.nsIn K mainGlobals "dict" = some none)
    (z_int : PySem.W.nsIn K mainGlobals "int" = some none)
    (z_isinstance : PySem.W.nsIn K mainGlobals "isinstance" = some none)
    (z_len : PySem.W.nsIn K mainGlobals "len" = some none)
    (z_list : PySem.W.nsIn K mainGlobals "list" = some none)
    (z_max : PySem.W.nsIn K mainGlobals "max" = some none)
    (z_range : PySem.W.nsIn K mainGlobals "range" = some none)
    (z_tuple : PySem.W.nsIn K mainGlobals "tuple" = some none)
    (g_ENDS : PySem.W.nsIn K mainGlobals "ENDS" = some (some u_ENDS))
    (x_ENDS : ∃ a, u_ENDS = .ref a ∧ TabK K a [("line", .int 2), ("bell", .int 2), ("stop", .int 1), ("still", .int 3), ("lazy", .int 3), ("turning", .int 3)])
    (g_LAST_NOTE : PySem.W.nsIn K mainGlobals "LAST_NOTE" = some (some u_LAST_NOTE))
    (r_LAST_NOTE : RelV (.int 9999) u_LAST_NOTE)
    (g_POINTS : PySem.W.nsIn K mainGlobals "POINTS" = some (some u_POINTS))
    (y_POINTS : u_POINTS = .ref a_POINTS)
    (l_POINTS : K.lookup a_POINTS = some ⟨.type "tuple", od_POINTS, .seq its_POINTS n_POINTS, sl_POINTS⟩)
    (s_POINTS : its_POINTS.size ≤ sizeLine)
    (v_POINTS : Vals [.str "still", .str "lazy", .str "turning"] its_POINTS.toList)
    (g_STEM : PySem.W.nsIn K mainGlobals "STEM" = some (some u_STEM))
    (r_STEM : RelV (.int 0) u_STEM) :
    Txt K mg ⟨f_law, PySem.W.fnOf "law" "law" (defArgs s_law) (defBody s_law) (defScope s_law) dV_law kV_law dc_law pm_law an_law cd_law ct_law, dV_law, f_draws, PySem.W.fnOf "_law_draws" "_law_draws" (defArgs s_draws) (defBody s_draws) (defScope s_draws) dV_draws kV_draws dc_draws pm_draws an_draws cd_draws ct_draws, dV_draws, f_fate, PySem.W.fnOf "fate" "fate" (defArgs s_fate) (defBody s_fate) (defScope s_fate) dV_fate kV_fate dc_fate pm_fate an_fate cd_fate ct_fate, dV_fate, f_twin, PySem.W.fnOf "twin" "twin" (defArgs s_twin) (defBody s_twin) (defScope s_twin) dV_twin kV_twin dc_twin pm_twin an_twin cd_twin ct_twin, dV_twin, f_held, PySem.W.fnOf "held" "held" (defArgs s_held) (defBody s_held) (defScope s_held) dV_held kV_held dc_held pm_held an_held cd_held ct_held, dV_held, f_next_step, PySem.W.fnOf "next_step" "next_step" (defArgs s_next_step) (defBody s_next_step) (defScope s_next_step) dV_next_step kV_next_step dc_next_step pm_next_step an_next_step cd_next_step ct_next_step, dV_next_step, f_passage, PySem.W.fnOf "passage" "passage" (defArgs s_passage) (defBody s_passage) (defScope s_passage) dV_passage kV_passage dc_passage pm_passage an_passage cd_passage ct_passage, dV_passage, f_check_end, PySem.W.fnOf "check_end" "check_end" (defArgs s_check_end) (defBody s_check_end) (defScope s_check_end) dV_check_end kV_check_end dc_check_end pm_check_end an_check_end cd_check_end ct_check_end, dV_check_end, f_ends_of, PySem.W.fnOf "ends_of" "ends_of" (defArgs s_ends_of) (defBody s_ends_of) (defScope s_ends_of) dV_ends_of kV_ends_of dc_ends_of pm_ends_of an_ends_of cd_ends_of ct_ends_of, dV_ends_of, f_is_point, PySem.W.fnOf "is_point" "is_point" (defArgs s_is_point) (defBody s_is_point) (defScope s_is_point) dV_is_point kV_is_point dc_is_point pm_is_point an_is_point cd_is_point ct_is_point, dV_is_point, f_check_side, PySem.W.fnOf "check_side" "check_side" (defArgs s_check_side) (defBody s_check_side) (defScope s_check_side) dV_check_side kV_check_side dc_check_side pm_check_side an_check_side cd_check_side ct_check_side, dV_check_side, f_point_passage, PySem.W.fnOf "point_passage" "point_passage" (defArgs s_point_passage) (defBody s_point_passage) (defScope s_point_passage) dV_point_passage kV_point_passage dc_point_passage pm_point_passage an_point_passage cd_point_passage ct_point_passage, dV_point_passage, f_run, PySem.W.fnOf "run" "run" (defArgs s_run) (defBody s_run) (defScope s_run) dV_run kV_run dc_run pm_run an_run cd_run ct_run, dV_run, f_alike, PySem.W.fnOf "alike" "alike" (defArgs s_alike) (defBody s_alike) (defScope s_alike) dV_alike kV_alike dc_alike pm_alike an_alike cd_alike ct_alike, dV_alike, f_fate_on_round, PySem.W.fnOf "fate_on_round" "fate_on_round" (defArgs s_fate_on_round) (defBody s_fate_on_round) (defScope s_fate_on_round) dV_fate_on_round kV_fate_on_round dc_fate_on_round pm_fate_on_round an_fate_on_round cd_fate_on_round ct_fate_on_round, dV_fate_on_round, f_road, PySem.W.fnOf "_law_road" "_law_road" (defArgs s_road) (defBody s_road) (defScope s_road) dV_road kV_road dc_road pm_road an_road cd_road ct_road, dV_road, f_is, PySem.W.fnOf "_law_is" "_law_is" (defArgs s_is) (defBody s_is) (defScope s_is) dV_is kV_is dc_is pm_is an_is cd_is ct_is, dV_is, f_whole, PySem.W.fnOf "_law_whole" "_law_whole" (defArgs s_whole) (defBody s_whole) (defScope s_whole) dV_whole kV_whole dc_whole pm_whole an_whole cd_whole ct_whole, dV_whole, f_is_end, PySem.W.fnOf "_law_is_end" "_law_is_end" (defArgs s_is_end) (defBody s_is_end) (defScope s_is_end) dV_is_end kV_is_end dc_is_end pm_is_end an_is_end cd_is_end ct_is_end, dV_is_end, f_check_note, PySem.W.fnOf "check_note" "check_note" (defArgs s_check_note) (defBody s_check_note) (defScope s_check_note) dV_check_note kV_check_note dc_check_note pm_check_note an_check_note cd_check_note ct_check_note, dV_check_note, f_Yard_init, PySem.W.fnOf "__init__" "Yard.__init__" (defArgs s_Yard_init) (defBody s_Yard_init) (defScope s_Yard_init) dV_Yard_init kV_Yard_init dc_Yard_init pm_Yard_init an_Yard_init cd_Yard_init ct_Yard_init, dV_Yard_init, f_Yard_lay, PySem.W.fnOf "lay" "Yard.lay" (defArgs s_Yard_lay) (defBody s_Yard_lay) (defScope s_Yard_lay) dV_Yard_lay kV_Yard_lay dc_Yard_lay pm_Yard_lay an_Yard_lay cd_Yard_lay ct_Yard_lay, dV_Yard_lay, f_Yard_end_trail, PySem.W.fnOf "end_trail" "Yard.end_trail" (defArgs s_Yard_end_trail) (defBody s_Yard_end_trail) (defScope s_Yard_end_trail) dV_Yard_end_trail kV_Yard_end_trail dc_Yard_end_trail pm_Yard_end_trail an_Yard_end_trail cd_Yard_end_trail ct_Yard_end_trail, dV_Yard_end_trail, f_Yard_check_rod, PySem.W.fnOf "check_rod" "Yard.check_rod" (defArgs s_Yard_check_rod) (defBody s_Yard_check_rod) (defScope s_Yard_check_rod) dV_Yard_check_rod kV_Yard_check_rod dc_Yard_check_rod pm_Yard_check_rod an_Yard_check_rod cd_Yard_check_rod ct_Yard_check_rod, dV_Yard_check_rod, f_Yard_new_rod, PySem.W.fnOf "new_rod" "Yard.new_rod" (defArgs s_Yard_new_rod) (defBody s_Yard_new_rod) (defScope s_Yard_new_rod) dV_Yard_new_rod kV_Yard_new_rod dc_Yard_new_rod pm_Yard_new_rod an_Yard_new_rod cd_Yard_new_rod ct_Yard_new_rod, dV_Yard_new_rod, f_Yard_throw, PySem.W.fnOf "throw" "Yard.throw" (defArgs s_Yard_throw) (defBody s_Yard_throw) (defScope s_Yard_throw) dV_Yard_throw kV_Yard_throw dc_Yard_throw pm_Yard_throw an_Yard_throw cd_Yard_throw ct_Yard_throw, dV_Yard_throw, f_Yard_link, PySem.W.fnOf "link" "Yard.link" (defArgs s_Yard_link) (defBody s_Yard_link) (defScope s_Yard_link) dV_Yard_link kV_Yard_link dc_Yard_link pm_Yard_link an_Yard_link cd_Yard_link ct_Yard_link, dV_Yard_link, f_Yard_check_there, PySem.W.fnOf "check_there" "Yard.check_there" (defArgs s_Yard_check_there) (defBody s_Yard_check_there) (defScope s_Yard_check_there) dV_Yard_check_there kV_Yard_check_there dc_Yard_check_there pm_Yard_check_there an_Yard_check_there cd_Yard_check_there ct_Yard_check_there, dV_Yard_check_there, f_Yard_check_piece, PySem.W.fnOf "check_piece" "Yard.check_piece" (defArgs s_Yard_check_piece) (defBody s_Yard_check_piece) (defScope s_Yard_check_piece) dV_Yard_check_piece kV_Yard_check_piece dc_Yard_check_piece pm_Yard_check_piece an_Yard_check_piece cd_Yard_check_piece ct_Yard_check_piece, dV_Yard_check_piece, f_Yard_put, PySem.W.fnOf "put" "Yard.put" (defArgs s_Yard_put) (defBody s_Yard_put) (defScope s_Yard_put) dV_Yard_put kV_Yard_put dc_Yard_put pm_Yard_put an_Yard_put cd_Yard_put ct_Yard_put, dV_Yard_put, f_Yard_rod, PySem.W.fnOf "rod" "Yard.rod" (defArgs s_Yard_rod) (defBody s_Yard_rod) (defScope s_Yard_rod) dV_Yard_rod kV_Yard_rod dc_Yard_rod pm_Yard_rod an_Yard_rod cd_Yard_rod ct_Yard_rod, dV_Yard_rod, f_Yard_engine, PySem.W.fnOf "engine" "Yard.engine" (defArgs s_Yard_engine) (defBody s_Yard_engine) (defScope s_Yard_engine) dV_Yard_engine kV_Yard_engine dc_Yard_engine pm_Yard_engine an_Yard_engine cd_Yard_engine ct_Yard_engine, dV_Yard_engine, f_Yard_make_twin, PySem.W.fnOf "make_twin" "Yard.make_twin" (defArgs s_Yard_make_twin) (defBody s_Yard_make_twin) (defScope s_Yard_make_twin) dV_Yard_make_twin kV_Yard_make_twin dc_Yard_make_twin pm_Yard_make_twin an_Yard_make_twin cd_Yard_make_twin ct_Yard_make_twin, dV_Yard_make_twin, f_Yard_kind, PySem.W.fnOf "kind" "Yard.kind" (defArgs s_Yard_kind) (defBody s_Yard_kind) (defScope s_Yard_kind) dV_Yard_kind kV_Yard_kind dc_Yard_kind pm_Yard_kind an_Yard_kind cd_Yard_kind ct_Yard_kind, dV_Yard_kind, f_Yard_mate, PySem.W.fnOf "mate" "Yard.mate" (defArgs s_Yard_mate) (defBody s_Yard_mate) (defScope s_Yard_mate) dV_Yard_mate kV_Yard_mate dc_Yard_mate pm_Yard_mate an_Yard_mate cd_Yard_mate ct_Yard_mate, dV_Yard_mate, f_Yard_side, PySem.W.fnOf "side" "Yard.side" (defArgs s_Yard_side) (defBody s_Yard_side) (defScope s_Yard_side) dV_Yard_side kV_Yard_side dc_Yard_side pm_Yard_side an_Yard_side cd_Yard_side ct_Yard_side, dV_Yard_side, f_Yard_carry, PySem.W.fnOf "carry" "Yard.carry" (defArgs s_Yard_carry) (defBody s_Yard_carry) (defScope s_Yard_carry) dV_Yard_carry kV_Yard_carry dc_Yard_carry pm_Yard_carry an_Yard_carry cd_Yard_carry ct_Yard_carry, dV_Yard_carry, c_Yard, u_ENDS, u_LAST_NOTE, u_POINTS, u_STEM⟩ where
  F_law := funG_mk l_law q_law k_law
  F_draws := funG_mk l_draws q_draws k_draws
  F_fate := funG_mk l_fate q_fate k_fate
  F_twin := funG_mk l_twin q_twin k_twin
  F_held := funG_mk l_held q_held k_held
  F_next_step := funG_mk l_next_step q_next_step k_next_step
  F_passage := funG_mk l_passage q_passage k_passage
  F_check_end := funG_mk l_check_end q_check_end k_check_end
  F_ends_of := funG_mk l_ends_of q_ends_of k_ends_of
  F_is_point := funG_mk l_is_point q_is_point k_is_point
  F_check_side := funG_mk l_check_side q_check_side k_check_side
  F_point_passage := funG_mk l_point_passage q_point_passage k_point_passage
  F_run := funG_mk l_run q_run k_run
  F_alike := funG_mk l_alike q_alike k_alike
  F_fate_on_round := funG_mk l_fate_on_round q_fate_on_round k_fate_on_round
  F_road := funG_mk l_road q_road k_road
  F_is := funG_mk l_is q_is k_is
  F_whole := funG_mk l_whole q_whole k_whole
  F_is_end := funG_mk l_is_end q_is_end k_is_end
  F_check_note := funG_mk l_check_note q_check_note k_check_note
  F_Yard_init := funG_mk l_Yard_init q_Yard_init k_Yard_init
  F_Yard_lay := funG_mk l_Yard_lay q_Yard_lay k_Yard_lay
  F_Yard_end_trail := funG_mk l_Yard_end_trail q_Yard_end_trail k_Yard_end_trail
  F_Yard_check_rod := funG_mk l_Yard_check_rod q_Yard_check_rod k_Yard_check_rod
  F_Yard_new_rod := funG_mk l_Yard_new_rod q_Yard_new_rod k_Yard_new_rod
  F_Yard_throw := funG_mk l_Yard_throw q_Yard_throw k_Yard_throw
  F_Yard_link := funG_mk l_Yard_link q_Yard_link k_Yard_link
  F_Yard_check_there := funG_mk l_Yard_check_there q_Yard_check_there k_Yard_check_there
  F_Yard_check_piece := funG_mk l_Yard_check_piece q_Yard_check_piece k_Yard_check_piece
  F_Yard_put := funG_mk l_Yard_put q_Yard_put k_Yard_put
  F_Yard_rod := funG_mk l_Yard_rod q_Yard_rod k_Yard_rod
  F_Yard_engine := funG_mk l_Yard_engine q_Yard_engine k_Yard_engine
  F_Yard_make_twin := funG_mk l_Yard_make_twin q_Yard_make_twin k_Yard_make_twin
  F_Yard_kind := funG_mk l_Yard_kind q_Yard_kind k_Yard_kind
  F_Yard_mate := funG_mk l_Yard_mate q_Yard_mate k_Yard_mate
  F_Yard_side := funG_mk l_Yard_side q_Yard_side k_Yard_side
  F_Yard_carry := funG_mk l_Yard_carry q_Yard_carry k_Yard_carry
  m_law := PySem.W.mg_of KX G a_law
  e_law := e_law
  m_draws := PySem.W.mg_of KX G a_draws
  e_draws := e_draws
  m_fate := PySem.W.mg_of KX G a_fate
  e_fate := e_fate
  m_twin := PySem.W.mg_of KX G a_twin
  e_twin := e_twin
  m_held := PySem.W.mg_of KX G a_held
  e_held := e_held
  m_next_step := PySem.W.mg_of KX G a_next_step
  e_next_step := e_next_step
  m_passage := PySem.W.mg_of KX G a_passage
  e_passage := e_passage
  m_check_end := PySem.W.mg_of KX G a_check_end
  e_check_end := e_check_end
  m_ends_of := PySem.W.mg_of KX G a_ends_of
  e_ends_of := e_ends_of
  m_is_point := PySem.W.mg_of KX G a_is_point
  e_is_point := e_is_point
  m_check_side := PySem.W.mg_of KX G a_check_side
  e_check_side := e_check_side
  m_point_passage := PySem.W.mg_of KX G a_point_passage
  e_point_passage := e_point_passage
  m_run := PySem.W.mg_of KX G a_run
  e_run := e_run
  m_alike := PySem.W.mg_of KX G a_alike
  e_alike := e_alike
  m_fate_on_round := PySem.W.mg_of KX G a_fate_on_round
  e_fate_on_round := e_fate_on_round
  m_road := PySem.W.mg_of KX G a_road
  e_road := e_road
  m_is := PySem.W.mg_of KX G a_is
  e_is := e_is
  m_whole := PySem.W.mg_of KX G a_whole
  e_whole := e_whole
  m_is_end := PySem.W.mg_of KX G a_is_end
  e_is_end := e_is_end
  m_check_note := PySem.W.mg_of KX G a_check_note
  e_check_note := e_check_note
  e_Yard_init := e_Yard_init
  M_Yard_lay := ⟨a_Yard_lay, i_Yard_lay, k_Yard_lay⟩
  D_Yard_lay := ⟨dT_Yard_lay, dd_Yard_lay, dn_Yard_lay, ds_Yard_lay, dk0_Yard_lay, e_Yard_lay, w_Yard_lay⟩
  M_Yard_end_trail := ⟨a_Yard_end_trail, i_Yard_end_trail, k_Yard_end_trail⟩
  e_Yard_end_trail := e_Yard_end_trail
  M_Yard_check_rod := ⟨a_Yard_check_rod, i_Yard_check_rod, k_Yard_check_rod⟩
  e_Yard_check_rod := e_Yard_check_rod
  M_Yard_new_rod := ⟨a_Yard_new_rod, i_Yard_new_rod, k_Yard_new_rod⟩
  D_Yard_new_rod := ⟨dT_Yard_new_rod, dd_Yard_new_rod, dn_Yard_new_rod, ds_Yard_new_rod, dk0_Yard_new_rod, e_Yard_new_rod, w_Yard_new_rod⟩
  M_Yard_throw := ⟨a_Yard_throw, i_Yard_throw, k_Yard_throw⟩
  e_Yard_throw := e_Yard_throw
  M_Yard_link := ⟨a_Yard_link, i_Yard_link, k_Yard_link⟩
  e_Yard_link := e_Yard_link
  M_Yard_check_there := ⟨a_Yard_check_there, i_Yard_check_there, k_Yard_check_there⟩
  e_Yard_check_there := e_Yard_check_there
  M_Yard_check_piece := ⟨a_Yard_check_piece, i_Yard_check_piece, k_Yard_check_piece⟩
  e_Yard_check_piece := e_Yard_check_piece
  M_Yard_put := ⟨a_Yard_put, i_Yard_put, k_Yard_put⟩
  e_Yard_put := e_Yard_put
  M_Yard_rod := ⟨a_Yard_rod, i_Yard_rod, k_Yard_rod⟩
  e_Yard_rod := e_Yard_rod
  M_Yard_engine := ⟨a_Yard_engine, i_Yard_engine, k_Yard_engine⟩
  e_Yard_engine := e_Yard_engine
  M_Yard_make_twin := ⟨a_Yard_make_twin, i_Yard_make_twin, k_Yard_make_twin⟩
  e_Yard_make_twin := e_Yard_make_twin
  M_Yard_kind := ⟨a_Yard_kind, i_Yard_kind, k_Yard_kind⟩
  e_Yard_kind := e_Yard_kind
  M_Yard_mate := ⟨a_Yard_mate, i_Yard_mate, k_Yard_mate⟩
  e_Yard_mate := e_Yard_mate
  M_Yard_side := ⟨a_Yard_side, i_Yard_side, k_Yard_side⟩
  e_Yard_side := e_Yard_side
  M_Yard_carry := ⟨a_Yard_carry, i_Yard_carry, k_Yard_carry⟩
  e_Yard_carry := e_Yard_carry
  cl_Yard := ⟨pg_Yard, hd_Yard, po_Yard, sa_Yard⟩
  m_Yard := PySem.W.mg_of KX G a_Yard
  mk_Yard := ⟨mk_Yard, a_Yard_init, i_Yard_init, kc_Yard⟩
  n_Yard_next_piece := n_Yard_next_piece
  n_Yard_kinds := n_Yard_kinds
  n_Yard_notes := n_Yard_notes
  n_Yard_rods_under := n_Yard_rods_under
  n_Yard_sides := n_Yard_sides
  n_Yard_mates := n_Yard_mates
  n_Yard_engine_end := n_Yard_engine_end
  n_Yard_rung := n_Yard_rung
  n_Yard_trail := n_Yard_trail
  z_abs := PySem.W.mg_none_of KX G z_abs
  z_bool := PySem.W.mg_none_of KX G z_bool
  z_dict := PySem.W.mg_none_of KX G z_dict
  z_int := PySem.W.mg_none_of KX G z_int
  z_isinstance := PySem.W.mg_none_of KX G z_isinstance
  z_len := PySem.W.mg_none_of KX G z_len
  z_list := PySem.W.mg_none_of KX G z_list
  z_max := PySem.W.mg_none_of KX G z_max
  z_range := PySem.W.mg_none_of KX G z_range
  z_tuple := PySem.W.mg_none_of KX G z_tuple
  g_ENDS := PySem.W.mg_of KX G g_ENDS
  x_ENDS := x_ENDS
  g_LAST_NOTE := PySem.W.mg_of KX G g_LAST_NOTE
  r_LAST_NOTE := r_LAST_NOTE
  g_POINTS := PySem.W.mg_of KX G g_POINTS
  x_POINTS := ⟨a_POINTS, _, its_POINTS, n_POINTS, y_POINTS, l_POINTS, rfl, rfl, s_POINTS, v_POINTS⟩
  g_STEM := PySem.W.mg_of KX G g_STEM
  r_STEM := r_STEM
end P
def PySem.W.Fast.tw125689389020831040 : Unit := ()
def PySem.W.Fast.tw5514721588833822439 : Unit := ()
def PySem.W.Fast.tw4108021846512081180 : Unit := ()
def PySem.W.Fast.tw14490463630681743432 : Unit := ()
def PySem.W.Fast.tw17160208217274647808 : Unit := ()
def PySem.W.Fast.tw11740181019776046268 : Unit := ()
def PySem.W.Fast.tw8459006155643950658 : Unit := ()
def PySem.W.Fast.tw2687667831040836275 : Unit := ()
def PySem.W.Fast.tw16830976415043201235 : Unit := ()
def PySem.W.Fast.tw7907632542800177477 : Unit := ()
def PySem.W.Fast.tw6468269747200460718 : Unit := ()
def PySem.W.Fast.tw3367014924481550837 : Unit := ()
def PySem.W.Fast.tw2944352319138054603 : Unit := ()
def PySem.W.Fast.tw6804732297256687270 : Unit := ()
def PySem.W.Fast.tw13596933768091838179 : Unit := ()
def PySem.W.Fast.tw11236656112503563465 : Unit := ()
def PySem.W.Fast.tw12286409241338770277 : Unit := ()
def PySem.W.Fast.tw4290405648413328584 : Unit := ()
def PySem.W.Fast.tw7267412578384430326 : Unit := ()
def PySem.W.Fast.tw6437478274026066066 : Unit := ()
def PySem.W.Fast.tw3053410270661754373 : Unit := ()
def PySem.W.Fast.tw14741285339287357047 : Unit := ()
def PySem.W.Fast.tw12218314303255006213 : Unit := ()
def PySem.W.Fast.tw4595165395589877176 : Unit := ()
def PySem.W.Fast.tw12513518645789500683 : Unit := ()
def PySem.W.Fast.tw10881326644017312014 : Unit := ()
def PySem.W.Fast.tw17838503532986200481 : Unit := ()
def PySem.W.Fast.tw3188316050398184934 : Unit := ()
def PySem.W.Fast.tw888050723652437842 : Unit := ()
def PySem.W.Fast.tw16343692347925458666 : Unit := ()
def PySem.W.Fast.tw8508581444337797066 : Unit := ()
def PySem.W.Fast.tw7366451498579791371 : Unit := ()
def PySem.W.Fast.tw2875506779541132585 : Unit := ()
def PySem.W.Fast.tw10481302381567431526 : Unit := ()
def PySem.W.Fast.tw14612956430959971898 : Unit := ()
def PySem.W.Fast.tw6231044967307654221 : Unit := ()
def PySem.W.Fast.tw2717546848323595660 : Unit := ()
def PySem.W.Fast.tw10846576803797848310 : Unit := ()
def PySem.W.Fast.tw11561898314684824080 : Unit := ()
def PySem.W.Fast.tw14597137640269839800 : Unit := ()
def PySem.W.Fast.tw7546232438058918675 : Unit := ()
def PySem.W.Fast.tw165093057058955360 : Unit := ()
def PySem.W.Fast.tw13528617759128211457 : Unit := ()
def PySem.W.Fast.tw17775132081649253063 : Unit := ()
def PySem.W.Fast.tw4280137897313223007 : Unit := ()
def PySem.W.Fast.tw17386838726527002371 : Unit := ()

open PySem PySem.W PyProof.Rows
set_option maxRecDepth 100000 in
set_option maxHeartbeats 0 in
theorem PySem.Challenge.cw_lazyrails_k25_fate_of_a_round_holds : PySem.Challenge.rw_lazyrails_k25_fate_of_a_round.Holds := by
  w_on; o_law; k_head; (case hw => w_witness2)
  k_fill
  refine L2.walk_ofK (l := PySem.Challenge.rw_lazyrails_k25_fate_of_a_round) (n := 63) (k := 12) (x := "_law_script") (CX := L2.CX0) (sp := P.sp_law) rfl (by decide) rfl ⟨rfl, by decide, by decide⟩ (fun w h Y => PySem.W.kIn_of Y) ?F ?S ?C
  case F =>
    intro w mg fa h KX G hmg
    have T : ∃ t, P.Txt (L2.KOf KX) mg t := by
      dsimp only [L2.KOf]
      refine' ⟨_, P.txt_mk KX G ?a_Yard ?a_law ?l_law ?q_law ?k_law ?e_law ?a_draws ?l_draws ?q_draws ?k_draws ?e_draws ?a_fate ?l_fate ?q_fate ?k_fate ?e_fate ?a_twin ?l_twin ?q_twin ?k_twin ?e_twin ?a_held ?l_held ?q_held ?k_held ?e_held ?a_next_step ?l_next_step ?q_next_step ?k_next_step ?e_next_step ?a_passage ?l_passage ?q_passage ?k_passage ?e_passage ?a_check_end ?l_check_end ?q_check_end ?k_check_end ?e_check_end ?a_ends_of ?l_ends_of ?q_ends_of ?k_ends_of ?e_ends_of ?a_is_point ?l_is_point ?q_is_point ?k_is_point ?e_is_point ?a_check_side ?l_check_side ?q_check_side ?k_check_side ?e_check_side ?a_point_passage ?l_point_passage ?q_point_passage ?k_point_passage ?e_point_passage ?a_run ?l_run ?q_run ?k_run ?e_run ?a_alike ?l_alike ?q_alike ?k_alike ?e_alike ?a_fate_on_round ?l_fate_on_round ?q_fate_on_round ?k_fate_on_round ?e_fate_on_round ?a_road ?l_road ?q_road ?k_road ?e_road ?a_is ?l_is ?q_is ?k_is ?e_is ?a_whole ?l_whole ?q_whole ?k_whole ?e_whole ?a_is_end ?l_is_end ?q_is_end ?k_is_end ?e_is_end ?a_check_note ?l_check_note ?q_check_note ?k_check_note ?e_check_note ?a_Yard_init ?i_Yard_init ?l_Yard_init ?q_Yard_init ?k_Yard_init ?e_Yard_init ?a_Yard_lay ?i_Yard_lay ?l_Yard_lay ?q_Yard_lay ?k_Yard_lay ?e_Yard_lay ?w_Yard_lay ?a_Yard_end_trail ?i_Yard_end_trail ?l_Yard_end_trail ?q_Yard_end_trail ?k_Yard_end_trail ?e_Yard_end_trail ?a_Yard_check_rod ?i_Yard_check_rod ?l_Yard_check_rod ?q_Yard_check_rod ?k_Yard_check_rod ?e_Yard_check_rod ?a_Yard_new_rod ?i_Yard_new_rod ?l_Yard_new_rod ?q_Yard_new_rod ?k_Yard_new_rod ?e_Yard_new_rod ?w_Yard_new_rod ?a_Yard_throw ?i_Yard_throw ?l_Yard_throw ?q_Yard_throw ?k_Yard_throw ?e_Yard_throw ?a_Yard_link ?i_Yard_link ?l_Yard_link ?q_Yard_link ?k_Yard_link ?e_Yard_link ?a_Yard_check_there ?i_Yard_check_there ?l_Yard_check_there ?q_Yard_check_there ?k_Yard_check_there ?e_Yard_check_there ?a_Yard_check_piece ?i_Yard_check_piece ?l_Yard_check_piece ?q_Yard_check_piece ?k_Yard_check_piece ?e_Yard_check_piece ?a_Yard_put ?i_Yard_put ?l_Yard_put ?q_Yard_put ?k_Yard_put ?e_Yard_put ?a_Yard_rod ?i_Yard_rod ?l_Yard_rod ?q_Yard_rod ?k_Yard_rod ?e_Yard_rod ?a_Yard_engine ?i_Yard_engine ?l_Yard_engine ?q_Yard_engine ?k_Yard_engine ?e_Yard_engine ?a_Yard_make_twin ?i_Yard_make_twin ?l_Yard_make_twin ?q_Yard_make_twin ?k_Yard_make_twin ?e_Yard_make_twin ?a_Yard_kind ?i_Yard_kind ?l_Yard_kind ?q_Yard_kind ?k_Yard_kind ?e_Yard_kind ?a_Yard_mate ?i_Yard_mate ?l_Yard_mate ?q_Yard_mate ?k_Yard_mate ?e_Yard_mate ?a_Yard_side ?i_Yard_side ?l_Yard_side ?q_Yard_side ?k_Yard_side ?e_Yard_side ?a_Yard_carry ?i_Yard_carry ?l_Yard_carry ?q_Yard_carry ?k_Yard_carry ?e_Yard_carry ?pg_Yard ?hd_Yard ?po_Yard ?sa_Yard ?mk_Yard ?kc_Yard ?n_Yard_next_piece ?n_Yard_kinds ?n_Yard_notes ?n_Yard_rods_under ?n_Yard_sides ?n_Yard_mates ?n_Yard_engine_end ?n_Yard_rung ?n_Yard_trail ?z_abs ?z_bool ?z_dict ?z_int ?z_isinstance ?z_len ?z_list ?z_max ?z_range ?z_tuple ?g_ENDS ?x_ENDS ?g_LAST_NOTE ?r_LAST_NOTE ?g_POINTS ?y_POINTS ?l_POINTS ?s_POINTS ?v_POINTS ?g_STEM ?r_STEM⟩
      (case a_Yard => k_is)
      (case a_law => k_is)
      (case l_law => k_is)
      (case q_law => k_is)
      (case k_law => k_is)
      (case e_law => exact rfl)
      (case a_draws => k_is)
      (case l_draws => k_is)
      (case q_draws => k_is)
      (case k_draws => k_is)
      (case e_draws => exact rfl)
      (case a_fate => k_is)
      (case l_fate => k_is)
      (case q_fate => k_is)
      (case k_fate => k_is)
      (case e_fate => exact rfl)
      (case a_twin => k_is)
      (case l_twin => k_is)
      (case q_twin => k_is)
      (case k_twin => k_is)
      (case e_twin => exact rfl)
      (case a_held => k_is)
      (case l_held => k_is)
      (case q_held => k_is)
      (case k_held => k_is)
      (case e_held => exact rfl)
      (case a_next_step => k_is)
      (case l_next_step => k_is)
      (case q_next_step => k_is)
      (case k_next_step => k_is)
      (case e_next_step => exact rfl)
      (case a_passage => k_is)
      (case l_passage => k_is)
      (case q_passage => k_is)
      (case k_passage => k_is)
      (case e_passage => exact rfl)
      (case a_check_end => k_is)
      (case l_check_end => k_is)
      (case q_check_end => k_is)
      (case k_check_end => k_is)
      (case e_check_end => exact rfl)
      (case a_ends_of => k_is)
      (case l_ends_of => k_is)
      (case q_ends_of => k_is)
      (case k_ends_of => k_is)
      (case e_ends_of => exact rfl)
      (case a_is_point => k_is)
      (case l_is_point => k_is)
      (case q_is_point => k_is)
      (case k_is_point => k_is)
      (case e_is_point => exact rfl)
      (case a_check_side => k_is)
      (case l_check_side => k_is)
      (case q_check_side => k_is)
      (case k_check_side => k_is)
      (case e_check_side => exact rfl)
      (case a_point_passage => k_is)
      (case l_point_passage => k_is)
      (case q_point_passage => k_is)
      (case k_point_passage => k_is)
      (case e_point_passage => exact rfl)
      (case a_run => k_is)
      (case l_run => k_is)
      (case q_run => k_is)
      (case k_run => k_is)
      (case e_run => exact rfl)
      (case a_alike => k_is)
      (case l_alike => k_is)
      (case q_alike => k_is)
      (case k_alike => k_is)
      (case e_alike => exact rfl)
      (case a_fate_on_round => k_is)
      (case l_fate_on_round => k_is)
      (case q_fate_on_round => k_is)
      (case k_fate_on_round => k_is)
      (case e_fate_on_round => exact rfl)
      (case a_road => k_is)
      (case l_road => k_is)
      (case q_road => k_is)
      (case k_road => k_is)
      (case e_road => exact rfl)
      (case a_is => k_is)
      (case l_is => k_is)
      (case q_is => k_is)
      (case k_is => k_is)
      (case e_is => exact rfl)
      (case a_whole => k_is)
      (case l_whole => k_is)
      (case q_whole => k_is)
      (case k_whole => k_is)
      (case e_whole => exact rfl)
      (case a_is_end => k_is)
      (case l_is_end => k_is)
      (case q_is_end => k_is)
      (case k_is_end => k_is)
      (case e_is_end => exact rfl)
      (case a_check_note => k_is)
      (case l_check_note => k_is)
      (case q_check_note => k_is)
      (case k_check_note => k_is)
      (case e_check_note => exact rfl)
      (case a_Yard_init => k_is)
      (case i_Yard_init => k_is)
      (case l_Yard_init => k_is)
      (case q_Yard_init => k_is)
      (case k_Yard_init => k_is)
      (case e_Yard_init => exact rfl)
      (case a_Yard_lay => k_is)
      (case i_Yard_lay => k_is)
      (case l_Yard_lay => k_is)
      (case q_Yard_lay => k_is)
      (case k_Yard_lay => k_is)
      (case e_Yard_lay => exact rfl)
      (case w_Yard_lay => k_is)
      (case a_Yard_end_trail => k_is)
      (case i_Yard_end_trail => k_is)
      (case l_Yard_end_trail => k_is)
      (case q_Yard_end_trail => k_is)
      (case k_Yard_end_trail => k_is)
      (case e_Yard_end_trail => exact rfl)
      (case a_Yard_check_rod => k_is)
      (case i_Yard_check_rod => k_is)
      (case l_Yard_check_rod => k_is)
      (case q_Yard_check_rod => k_is)
      (case k_Yard_check_rod => k_is)
      (case e_Yard_check_rod => exact rfl)
      (case a_Yard_new_rod => k_is)
      (case i_Yard_new_rod => k_is)
      (case l_Yard_new_rod => k_is)
      (case q_Yard_new_rod => k_is)
      (case k_Yard_new_rod => k_is)
      (case e_Yard_new_rod => exact rfl)
      (case w_Yard_new_rod => k_is)
      (case a_Yard_throw => k_is)
      (case i_Yard_throw => k_is)
      (case l_Yard_throw => k_is)
      (case q_Yard_throw => k_is)
      (case k_Yard_throw => k_is)
      (case e_Yard_throw => exact rfl)
      (case a_Yard_link => k_is)
      (case i_Yard_link => k_is)
      (case l_Yard_link => k_is)
      (case q_Yard_link => k_is)
      (case k_Yard_link => k_is)
      (case e_Yard_link => exact rfl)
      (case a_Yard_check_there => k_is)
      (case i_Yard_check_there => k_is)
      (case l_Yard_check_there => k_is)
      (case q_Yard_check_there => k_is)
      (case k_Yard_check_there => k_is)
      (case e_Yard_check_there => exact rfl)
      (case a_Yard_check_piece => k_is)
      (case i_Yard_check_piece => k_is)
      (case l_Yard_check_piece => k_is)
      (case q_Yard_check_piece => k_is)
      (case k_Yard_check_piece => k_is)
      (case e_Yard_check_piece => exact rfl)
      (case a_Yard_put => k_is)
      (case i_Yard_put => k_is)
      (case l_Yard_put => k_is)
      (case q_Yard_put => k_is)
      (case k_Yard_put => k_is)
      (case e_Yard_put => exact rfl)
      (case a_Yard_rod => k_is)
      (case i_Yard_rod => k_is)
      (case l_Yard_rod => k_is)
      (case q_Yard_rod => k_is)
      (case k_Yard_rod => k_is)
      (case e_Yard_rod => exact rfl)
      (case a_Yard_engine => k_is)
      (case i_Yard_engine => k_is)
      (case l_Yard_engine => k_is)
      (case q_Yard_engine => k_is)
      (case k_Yard_engine => k_is)
      (case e_Yard_engine => exact rfl)
      (case a_Yard_make_twin => k_is)
      (case i_Yard_make_twin => k_is)
      (case l_Yard_make_twin => k_is)
      (case q_Yard_make_twin => k_is)
      (case k_Yard_make_twin => k_is)
      (case e_Yard_make_twin => exact rfl)
      (case a_Yard_kind => k_is)
      (case i_Yard_kind => k_is)
      (case l_Yard_kind => k_is)
      (case q_Yard_kind => k_is)
      (case k_Yard_kind => k_is)
      (case e_Yard_kind => exact rfl)
      (case a_Yard_mate => k_is)
      (case i_Yard_mate => k_is)
      (case l_Yard_mate => k_is)
      (case q_Yard_mate => k_is)
      (case k_Yard_mate => k_is)
      (case e_Yard_mate => exact rfl)
      (case a_Yard_side => k_is)
      (case i_Yard_side => k_is)
      (case l_Yard_side => k_is)
      (case q_Yard_side => k_is)
      (case k_Yard_side => k_is)
      (case e_Yard_side => exact rfl)
      (case a_Yard_carry => k_is)
      (case i_Yard_carry => k_is)
      (case l_Yard_carry => k_is)
      (case q_Yard_carry => k_is)
      (case k_Yard_carry => k_is)
      (case e_Yard_carry => exact rfl)
      (case pg_Yard => k_is)
      (case hd_Yard => k_is)
      (case po_Yard => k_is)
      (case sa_Yard => k_is)
      (case mk_Yard => k_is)
      (case kc_Yard => k_is)
      (case n_Yard_next_piece => k_is)
      (case n_Yard_kinds => k_is)
      (case n_Yard_notes => k_is)
      (case n_Yard_rods_under => k_is)
      (case n_Yard_sides => k_is)
      (case n_Yard_mates => k_is)
      (case n_Yard_engine_end => k_is)
      (case n_Yard_rung => k_is)
      (case n_Yard_trail => k_is)
      (case z_abs => k_is)
      (case z_bool => k_is)
      (case z_dict => k_is)
      (case z_int => k_is)
      (case z_isinstance => k_is)
      (case z_len => k_is)
      (case z_list => k_is)
      (case z_max => k_is)
      (case z_range => k_is)
      (case z_tuple => k_is)
      (case g_ENDS => k_is)
      (case x_ENDS => exact ⟨_, rfl, by kernel_rfl⟩)
      (case g_LAST_NOTE => k_is)
      (case r_LAST_NOTE => exact ⟨_, rfl⟩)
      (case g_POINTS => k_is)
      (case y_POINTS => exact rfl)
      (case l_POINTS => k_is)
      (case s_POINTS => exact (show 3 ≤ PySem.sizeLine by decide))
      (case v_POINTS => exact .cons ⟨_, rfl⟩ (.cons ⟨_, rfl⟩ (.cons ⟨_, rfl⟩ (.nil))))
      (case g_STEM => k_is)
      (case r_STEM => exact ⟨_, rfl⟩)
    obtain ⟨t, T⟩ := T
    have e0 := hmg.symm.trans T.m_law
    cases e0
    exact ⟨_, fun s u => P.law_binds T s u, fun base kb nb => P.ok_law T⟩
  case S => exact fun K H a ns hl hO hS => P.law_start hl hS
  case C => exact fun H s e s' z => z
