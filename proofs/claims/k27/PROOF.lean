import PyProof.Rows.All
import Wide.All
import OpenK.AllK
import Wide.FinOn
import Lean
import PyProof.EqAt
import PyProof.EqKinds
import PyProof.TupleCall
import PyProof.ZipIter
import PyProof.EnumMake
import PyProof.ListRange
import KE.KDictList
import KE.LcSums
import KE.KTabLook
import PyProof.P3In
import PySem.Challenge.RW_lazyrails_k27_whole_round_is_walked
set_option Elab.async false
set_option linter.all false
set_option maxRecDepth 100000
namespace L2
open PySem PySem.Spec PyProof.Rows

abbrev Key := Sum Int Str
def keyIs : Key → Value → Bool
  | .inl k, v => Value.isInt k v
  | .inr x, v => Value.isStrOf x v
def keyH (w : World) : Key → Int
  | .inl k => hashInt k
  | .inr x => hashStr w x
theorem keyIs_shape : ∀ {k : Key} {v : Value}, keyIs k v = true → (∃ i t, k = Sum.inl i ∧ v = Value.int i t) ∨ (∃ x t, k = Sum.inr x ∧ v = Value.str x t)
  | .inl i, v, h => by
    obtain ⟨t, e⟩ := Value.isInt_shape (k := i) (v := v) h
    exact .inl ⟨i, t, rfl, e⟩
  | .inr x, v, h => by
    obtain ⟨t, e⟩ := Value.isStrOf_shape (x := x) (v := v) h
    exact .inr ⟨x, t, rfl, e⟩
theorem keyIs_int (i : Int) (t : Tok) : keyIs (.inl i) (.int i t) = true := by simp [keyIs, Value.isInt]
theorem keyIs_str (x : Str) (t : Tok) : keyIs (.inr x) (.str x t) = true := by simp [keyIs, Value.isStrOf]
theorem key_ll (a b : Int) : decide ((Sum.inl a : Key) = Sum.inl b) = (a == b) := by
  by_cases e : a = b
  · subst e; simp
  · have h : ¬ (Sum.inl a : Key) = Sum.inl b := fun q => e (Sum.inl.inj q)
    rw [decide_eq_false h]
    exact (beq_eq_false_iff_ne.mpr e).symm
theorem key_rr (a b : Str) : decide ((Sum.inr a : Key) = Sum.inr b) = decide (a = b) := by
  by_cases e : a = b
  · subst e; simp
  · have h : ¬ (Sum.inr a : Key) = Sum.inr b := fun q => e (Sum.inr.inj q)
    rw [decide_eq_false h, decide_eq_false e]
theorem key_lr (a : Int) (b : Str) : decide ((Sum.inl a : Key) = Sum.inr b) = false := decide_eq_false (fun q => nomatch q)
theorem key_rl (a : Str) (b : Int) : decide ((Sum.inr a : Key) = Sum.inl b) = false := decide_eq_false (fun q => nomatch q)

def mixKind (prog : Program) (w : World) : PySem.KeyKind prog w Key where
  is := keyIs
  hash := keyH w
  inj := fun v a b ha hb => by
    rcases keyIs_shape ha with ⟨i, t, rfl, rfl⟩ | ⟨x, t, rfl, rfl⟩
    · rcases keyIs_shape hb with ⟨j, u, rfl, e⟩ | ⟨y, u, rfl, e⟩
      · injection e with e1 _; rw [e1]
      · exact nomatch e
    · rcases keyIs_shape hb with ⟨j, u, rfl, e⟩ | ⟨y, u, rfl, e⟩
      · exact nomatch e
      · injection e with e1 _; rw [e1]
  byValue := fun k v h => by
    rcases keyIs_shape h with ⟨i, t, rfl, rfl⟩ | ⟨x, t, rfl, rfl⟩ <;> rfl
  pyHash := fun hv h => by
    rcases keyIs_shape hv with ⟨i, t, rfl, rfl⟩ | ⟨x, t, rfl, rfl⟩
    · exact wpAny_pyHash_int h
    · exact wpAny_pyHash_str h
  eqBool := fun hu hv h => by
    rcases keyIs_shape hu with ⟨i, t, rfl, rfl⟩ | ⟨x, t, rfl, rfl⟩
    · rcases keyIs_shape hv with ⟨j, u, rfl, rfl⟩ | ⟨y, u, rfl, rfl⟩
      · rw [key_ll] at h; exact wpAny_eqBool_int h
      · rw [key_lr] at h; exact SeqAt.EqAt.int_str i t y u _ _ _ _ h
    · rcases keyIs_shape hv with ⟨j, u, rfl, rfl⟩ | ⟨y, u, rfl, rfl⟩
      · rw [key_rl] at h; exact SeqAt.EqAt.str_int x t j u _ _ _ _ h
      · rw [key_rr] at h; exact wpAny_eqBool_str h
  «strs» := fun k x t v h => by
    rcases keyIs_shape h with ⟨i, u, rfl, e⟩ | ⟨y, u, rfl, e⟩
    · exact nomatch e
    · injection e with e1 _
      subst e1
      cases v <;> rfl

theorem mixKind_int (prog : Program) (w : World) (i : Int) (t : Tok) : (mixKind prog w).is (.inl i) (.int i t) = true := keyIs_int i t
theorem mixKind_str (prog : Program) (w : World) (x : Str) (t : Tok) : (mixKind prog w).is (.inr x) (.str x t) = true := keyIs_str x t
end L2

namespace L2
open PySem PySem.Spec PyProof.Rows

inductive V where
  | non | bl (b : Bool) | int (i : Int) | str (x : Str) | byt (b : Array UInt8) | flt (b : UInt64) | ref (a : Addr) | ty (n : String)
  deriving DecidableEq

def RelV : V → Value → Prop
  | .non, u => u = Value.none
  | .bl b, u => u = Value.bool b
  | .int i, u => ∃ t, u = Value.int i t
  | .str x, u => ∃ t, u = Value.str x t
  | .byt b, u => ∃ t, u = Value.bytes b t
  | .flt b, u => ∃ t, u = Value.float b t
  | .ref a, u => u = Value.ref a
  | .ty n, u => u = Value.type n

abbrev Vals : List V → List Value → Prop := Paired RelV
theorem Vals.length {xs : List V} {us : List Value} (r : Vals xs us) : xs.length = us.length := Paired.length r
theorem Vals.get : ∀ {xs : List V} {us : List Value} {i : Nat} {x : V}, Vals xs us → xs[i]? = some x → ∃ u, us[i]? = some u ∧ RelV x u
  | _, _, _, _, .nil, e => by simp at e
  | _, _, 0, _, .cons r _, e => by simp at e; subst e; exact ⟨_, rfl, r⟩
  | _, _, i + 1, x, .cons _ t, e => by
    obtain ⟨u, h1, h2⟩ := Vals.get (i := i) (x := x) t (by simpa using e)
    exact ⟨u, by simpa using h1, h2⟩
theorem Vals.set {x : V} {u : Value} (r : RelV x u) : ∀ {xs : List V} {us : List Value} (i : Nat), Vals xs us → Vals (xs.set i x) (us.set i u)
  | _, _, _, .nil => .nil
  | _, _, 0, .cons _ t => .cons r t
  | _, _, i + 1, .cons q t => .cons q (Vals.set r i t)
theorem Vals.append : ∀ {xs ys : List V} {us ws : List Value}, Vals xs us → Vals ys ws → Vals (xs ++ ys) (us ++ ws)
  | _, _, _, _, .nil, s => s
  | _, _, _, _, .cons r t, s => .cons r (Vals.append t s)
theorem Vals.take : ∀ {xs : List V} {us : List Value} (n : Nat), Vals xs us → Vals (xs.take n) (us.take n)
  | _, _, 0, _ => .nil
  | _, _, _ + 1, .nil => .nil
  | _, _, n + 1, .cons r t => .cons r (Vals.take n t)
theorem Vals.drop : ∀ {xs : List V} {us : List Value} (n : Nat), Vals xs us → Vals (xs.drop n) (us.drop n)
  | _, _, 0, r => r
  | _, _, _ + 1, .nil => .nil
  | _, _, n + 1, .cons _ t => Vals.drop n t
theorem Vals.none_of : ∀ {xs : List V} {us : List Value} {i : Nat}, Vals xs us → xs[i]? = none → us[i]? = none := fun {xs us i} r e => by
  have h1 := r.length
  have h2 : xs.length ≤ i := List.getElem?_eq_none_iff.mp e
  exact List.getElem?_eq_none_iff.mpr (by omega)

def RelO : Option V → Option Value → Prop
  | some v, some u => RelV v u
  | none, none => True
  | _, _ => False
def KV {κ : Type} : List (κ × V) → List (κ × Value) → Prop := Paired fun (p : κ × V) (q : κ × Value) => p.1 = q.1 ∧ RelV p.2 q.2

def kV : Key → V
  | .inl i => .int i
  | .inr x => .str x

inductive HO where
    | lst (xs : List V)
    | tup (xs : List V)
    | dK (kvs : List (Key × V)) | dT (kvs : List (List Key × V))
    | set (S : Int → Bool) (n : Nat)
    | ins (C dx : Addr) (fs : List (Str × V))
    | own (x : Addr)
    | xd (fs : List (Str × V))
    | met (f x : Addr)
    | rng (lo hi : Int)
    | frz (o : Obj) (u : HO)
    | tbl (ps : Array Value)
    | ext (φ : Heap → Prop)

abbrev Hp := Addr → Option HO
def upd (H : Hp) (a : Addr) (o : HO) : Hp := fun b => if b = a then some o else H b
theorem upd_same {H : Hp} {a : Addr} {o : HO} : upd H a o a = some o := by unfold upd; rw [if_pos rfl]
theorem upd_ne {H : Hp} {a b : Addr} {o : HO} (h : b ≠ a) : upd H a o b = H b := by unfold upd; rw [if_neg h]
theorem ne_of {H : Hp} {a b : Addr} {o u : HO} (h : H a = some o) (h' : H b = some u) (d : o ≠ u) : a ≠ b := by
  intro e; subst e; rw [h] at h'; exact d (Option.some.inj h')
theorem ne_of_none {H : Hp} {a b : Addr} {o : HO} (h : H a = some o) (h' : H b = none) : a ≠ b := by
  intro e; subst e; rw [h] at h'; cases h'

section
variable (P : Program) (w : World)
def ObjOk (H : Hp) (h : Heap) (a : Addr) : HO → Prop
  | .lst xs => xs.length ≤ sizeLine ∧ ∃ (its : List Value) (n : Nat), Vals xs its ∧ h.get? a = some { cls := .type "list", data := .seq its.toArray n }
  | .tup xs => xs.length ≤ sizeLine ∧ ∃ its : List Value, Vals xs its ∧ IsTup h a its.toArray
  | .dK kvs => kvs.length ≤ sizeLine ∧ (a == sysModules) = false ∧ ∃ vs, KV kvs vs ∧ h.DictOf (mixKind P w) a vs
  | .dT kvs => kvs.length ≤ sizeLine ∧ (a == sysModules) = false ∧ ∃ xs : List (List Key × Addr × Value),
      Paired (fun (p : List Key × V) (q : List Key × Addr × Value) => p.1 = q.1 ∧ H q.2.1 = some (.tup (p.1.map kV)) ∧ RelV p.2 q.2.2) kvs xs ∧
      ∃ o es ep, h.get? a = some o ∧ o.ExactDict ∧ o.data = .dict es ep ∧ es.toList = xs.map (entryOfKey (tupleKind (mixKind P w))) ∧ (xs.map (·.1)).Nodup
  | .set S n => h.SetOf (intKind P w) a S n
  | .ins C dx fs => H dx = some (.own a) ∧ fs.length ≤ 1000 ∧ dx ≠ a ∧ h.get? a = some (PySem.W.instObj C dx) ∧
      ∃ mA, h.Ns1 dx mA ∧ (∀ f, RelO (fs.lookup f) (mA f)) ∧ PySem.Within mA (fs.map (·.1))
  | .own _ => ∃ o, h.get? a = some o
  | .xd fs => ∃ mA, h.Ns1 a mA ∧ ∀ f, RelO (fs.lookup f) (mA f)
  | .rng lo hi => ∃ t u v, h.get? a = some { cls := .type "range", data := .fields #[.int lo t, .int hi u, .int 1 v] }
  | .frz o u => h.get? a = some o ∧ ObjOk H h a u
  | .tbl ps => h.get? a = some { cls := .none, data := .fields ps }
  | .met f x => h.get? a = some (PySem.W.methodObj (.ref f) (.ref x))
  | .ext φ => φ h ∧ (∃ o, h.get? a = some o) ∧ ∀ h1 h2 : Heap, φ h1 → (∀ o, h1.get? a = some o → h2.get? a = some o) → φ h2
def HOk (H : Hp) (h : Heap) : Prop := ∀ a o, H a = some o → ObjOk P w H h a o
end

section
variable {P : Program} {w : World} {H H' : Hp} {h h' : Heap} {a : Addr} {o : HO}
theorem ObjOk.lt (x : ObjOk P w H h a o) : a < h.objs.size := by
  cases o with
  | lst xs => obtain ⟨_, _, _, _, e⟩ := x; exact Heap.lt_size e
  | tup xs => obtain ⟨_, _, _, p⟩ := x; exact p.lt
  | dK kvs => obtain ⟨_, _, _, _, o, _, _, e, _⟩ := x; exact Heap.lt_size e
  | dT kvs => obtain ⟨_, _, _, _, o, _, _, e, _⟩ := x; exact Heap.lt_size e
  | set S n => obtain ⟨o, _, _, _, e, _⟩ := x; exact Heap.lt_size e
  | ins C dx fs => obtain ⟨_, _, _, e, _⟩ := x; exact Heap.lt_size e
  | own y => obtain ⟨_, e⟩ := x; exact Heap.lt_size e
  | xd fs => obtain ⟨_, ⟨_, _, _, e, _⟩, _⟩ := x; exact Heap.lt_size e
  | rng lo hi => obtain ⟨_, _, _, e⟩ := x; exact Heap.lt_size e
  | frz ob u => obtain ⟨e, _⟩ := x; exact Heap.lt_size e
  | tbl ps => exact Heap.lt_size (show h.get? a = some _ from x)
  | met f y => exact Heap.lt_size (show h.get? a = some _ from x)
  | ext φ => obtain ⟨_, ⟨_, e⟩, _⟩ := x; exact Heap.lt_size e
theorem Paired.mapP {α β : Type} {F G : α → β → Prop} : ∀ {l₁ : List α} {l₂ : List β}, Paired F l₁ l₂ → (∀ a b, F a b → G a b) → Paired G l₁ l₂
  | _, _, .nil, _ => .nil
  | _, _, .cons r t, f => .cons (f _ _ r) (Paired.mapP t f)
theorem ObjOk.stay (x : ObjOk P w H h a o) (k : ∀ b u, (b = a ∨ H b = some (.own a)) → h.get? b = some u → h'.get? b = some u)
    (ho : ∀ b, H b = some (.own a) → H' b = some (.own a)) (ht : ∀ b xs, H b = some (.tup xs) → H' b = some (.tup xs)) : ObjOk P w H' h' a o := by
  induction o with
  | lst xs => obtain ⟨z, its, n, r, e⟩ := x; exact ⟨z, its, n, r, k _ _ (.inl rfl) e⟩
  | tup xs => obtain ⟨z, its, r, ob, e, c⟩ := x; exact ⟨z, its, r, ob, k _ _ (.inl rfl) e, c⟩
  | dK kvs => obtain ⟨z, y, vs, r, ob, es, ep, e, c⟩ := x; exact ⟨z, y, vs, r, ob, es, ep, k _ _ (.inl rfl) e, c⟩
  | dT kvs =>
    obtain ⟨z, y, xs, r, ob, es, ep, e, c⟩ := x
    exact ⟨z, y, xs, Paired.mapP r fun p q z => ⟨z.1, ht _ _ z.2.1, z.2.2⟩, ob, es, ep, k _ _ (.inl rfl) e, c⟩
  | set S n => obtain ⟨ob, es, ep, t, e, c⟩ := x; exact ⟨ob, es, ep, t, k _ _ (.inl rfl) e, c⟩
  | ins C dx fs =>
    obtain ⟨d, z, ne, e, mA, ⟨od, es, ep, e2, c⟩, r⟩ := x
    exact ⟨ho _ d, z, ne, k _ _ (.inl rfl) e, mA, ⟨od, es, ep, k _ _ (.inr d) e2, c⟩, r⟩
  | own y => obtain ⟨ob, e⟩ := x; exact ⟨ob, k _ _ (.inl rfl) e⟩
  | xd fs => obtain ⟨mA, ⟨od, es, ep, e, c⟩, r⟩ := x; exact ⟨mA, ⟨od, es, ep, k _ _ (.inl rfl) e, c⟩, r⟩
  | rng lo hi => obtain ⟨t, u, v, e⟩ := x; exact ⟨t, u, v, k _ _ (.inl rfl) e⟩
  | frz ob u ih => obtain ⟨e, q⟩ := x; exact ⟨k _ _ (.inl rfl) e, ih q⟩
  | tbl ps =>
    have e : h.get? a = some { cls := .none, data := .fields ps } := x
    show h'.get? a = some { cls := .none, data := .fields ps }
    exact k a _ (.inl rfl) e
  | met f y =>
    have e : h.get? a = some (PySem.W.methodObj (.ref f) (.ref y)) := x
    show h'.get? a = some (PySem.W.methodObj (.ref f) (.ref y))
    exact k a _ (.inl rfl) e
  | ext φ => obtain ⟨p, ⟨o, e⟩, st⟩ := x; exact ⟨st _ _ p fun o q => k _ _ (.inl rfl) q, ⟨o, k _ _ (.inl rfl) e⟩, st⟩
theorem HOk.lt (x : HOk P w H h) (e : H a = some o) : a < h.objs.size := (x a o e).lt
theorem HOk.fresh (x : HOk P w H h) (e : h.objs.size ≤ a) : H a = none := by
  cases q : H a with
  | none => rfl
  | some u => exact absurd (Nat.lt_of_lt_of_le (x.lt q) e) (Nat.lt_irrefl _)
theorem HOk.kept (x : HOk P w H h) (k : ∀ b u, h.get? b = some u → h'.get? b = some u) : HOk P w H h' := fun a o e =>
  (x a o e).stay (fun b u _ q => k b u q) (fun _ q => q) fun _ _ q => q
theorem HOk.laid (x : HOk P w H h) (k : ∀ b u, h.get? b = some u → h'.get? b = some u) (hp : h.objs.size ≤ a) (new : ObjOk P w (upd H a o) h' a o) : HOk P w (upd H a o) h' := fun b u e => by
  have hn := x.fresh hp
  by_cases hb : b = a
  · subst hb; rw [upd_same] at e; cases e; exact new
  · rw [upd_ne hb] at e
    exact (x b u e).stay (fun c v _ q => k c v q) (fun c q => by rw [upd_ne (ne_of_none q hn)]; exact q) fun c xs q => by rw [upd_ne (ne_of_none q hn)]; exact q
end

def Rd (H : Hp) (a : Addr) (u : HO) : Prop := H a = some u ∨ ∃ o, H a = some (.frz o u)
theorem Rd.of {H : Hp} {a : Addr} {u : HO} (h : H a = some u) : Rd H a u := .inl h
theorem Rd.ok {P : Program} {w : World} {H : Hp} {h : Heap} {a : Addr} {u : HO} (r : Rd H a u) (x : HOk P w H h) : ObjOk P w H h a u := by
  rcases r with r | ⟨o, r⟩
  · exact x a u r
  · obtain ⟨_, q⟩ := x a _ r
    exact q
def Mut : Option HO → Prop
  | some (.lst _) => True
  | some (.dK _) => True
  | some (.dT _) => True
  | some (.set _ _) => True
  | some (.ins _ _ _) => True
  | some (.ext _) => True
  | _ => False
section
variable {P : Program} {w : World} {H : Hp} {h h' : Heap} {x e : Addr} {o' : HO}
theorem HOk.write (ok : HOk P w H h) (mu : Mut (H x)) (he : e = x ∨ H e = some (.own x)) (k : ∀ b u, b ≠ e → h.get? b = some u → h'.get? b = some u) (heo : ∃ u, h'.get? e = some u)
    (new : ObjOk P w (upd H x o') h' x o') : HOk P w (upd H x o') h' := fun b u q => by
  have nown : ∀ c y, H c = some (.own y) → c ≠ x := fun c y r z => by subst z; rw [r] at mu; exact mu
  have ntup : ∀ c xs, H c = some (.tup xs) → c ≠ x := fun c xs r z => by subst z; rw [r] at mu; exact mu
  by_cases hb : b = x
  · subst hb; rw [upd_same] at q; cases q; exact new
  · rw [upd_ne hb] at q
    by_cases hbe : b = e
    · have q' : H b = some (.own x) := by
        rcases he with z | z
        · exact absurd (hbe.trans z) hb
        · rw [hbe]; exact z
      rw [q] at q'; cases q'
      obtain ⟨v, hv⟩ := heo
      exact ⟨v, by rw [hbe]; exact hv⟩
    · refine (ok b u q).stay (fun c v hc r => k c v ?_ r) (fun c r => by rw [upd_ne (nown c b r)]; exact r) fun c xs r => by rw [upd_ne (ntup c xs r)]; exact r
      rcases hc with rfl | hc
      · exact hbe
      · rintro rfl
        rcases he with z | z
        · exact nown c b hc z
        · rw [hc] at z; cases z; exact hb rfl
end

structure Un (fs ex : List Addr) (H H' : Hp) (h h' : Heap) : Prop where
  keep : ∀ b o, h.get? b = some o → H b = none → b ∉ fs → b ∉ ex → h'.get? b = some o
  slot : ∀ b o, h.get? b = some o → H b = none → b ∈ fs → b ∉ ex → ∃ sl, h'.get? b = some { o with slots := sl }
  free : ∀ b o, h.get? b = some o → H b = none → b ∉ ex → H' b = none
  there : ∀ b o, h.get? b = some o → b ∉ ex → ∃ o', h'.get? b = some o'
  tups : ∀ b xs, H b = some (.tup xs) → H' b = some (.tup xs)
  frzs : ∀ b o u, H b = some (.frz o u) → H' b = some (.frz o u)
  tbls : ∀ b ps, H b = some (.tbl ps) → ∃ more, H' b = some (.tbl (ps ++ more))
section
variable {fs fs' ex ex' : List Addr} {H H1 H2 : Hp} {h h1 h2 h' : Heap} {a x e : Addr} {o : HO}
theorem Un.any (u : Un fs ex H H1 h h1) {b : Addr} {ob : Obj} (q : h.get? b = some ob) (n : H b = none) (hx : b ∉ ex) : ∃ sl, h1.get? b = some { ob with slots := sl } := by
  by_cases hb : b ∈ fs
  · exact u.slot b ob q n hb hx
  · exact ⟨ob.slots, u.keep b ob q n hb hx⟩
theorem Un.trans (a : Un fs ex H H1 h h1) (b : Un fs ex H1 H2 h1 h2) : Un fs ex H H2 h h2 where
  keep := fun c ob q n hc hx => b.keep c ob (a.keep c ob q n hc hx) (a.free c ob q n hx) hc hx
  slot := fun c ob q n hc hx => by
    obtain ⟨sl, e1⟩ := a.slot c ob q n hc hx
    obtain ⟨sl', e2⟩ := b.slot c _ e1 (a.free c ob q n hx) hc hx
    exact ⟨sl', e2⟩
  free := fun c ob q n hx => by
    obtain ⟨o', e1⟩ := a.there c ob q hx
    exact b.free c o' e1 (a.free c ob q n hx) hx
  there := fun c ob q hx => by
    obtain ⟨o', e1⟩ := a.there c ob q hx
    exact b.there c o' e1 hx
  tups := fun c xs q => b.tups c xs (a.tups c xs q)
  frzs := fun c ob xs q => b.frzs c ob xs (a.frzs c ob xs q)
  tbls := fun c ps q => by
    obtain ⟨m1, e1⟩ := a.tbls c ps q
    obtain ⟨m2, e2⟩ := b.tbls c _ e1
    exact ⟨m1 ++ m2, by rw [e2, Array.append_assoc]⟩
theorem Un.kept (k : ∀ b u, h.get? b = some u → h'.get? b = some u) : Un fs ex H H h h' :=
  ⟨fun b ob q _ _ _ => k b ob q, fun b ob q _ _ _ => ⟨ob.slots, k b ob q⟩, fun _ _ _ n _ => n, fun b ob q _ => ⟨ob, k b ob q⟩, fun _ _ q => q, fun _ _ _ q => q, fun _ ps q => ⟨#[], by rw [q]; simp⟩⟩
theorem Un.refl : Un fs ex H H h h := Un.kept fun _ _ q => q
theorem Un.laid (k : ∀ b u, h.get? b = some u → h'.get? b = some u) (hp : h.objs.size ≤ a) (hn : H a = none) : Un fs ex H (upd H a o) h h' where
  keep := fun b u q _ _ _ => k b u q
  slot := fun b u q _ _ _ => ⟨u.slots, k b u q⟩
  free := fun b u q n _ => by rw [upd_ne (Nat.ne_of_lt (Nat.lt_of_lt_of_le (Heap.lt_size q) hp))]; exact n
  there := fun b u q _ => ⟨u, k b u q⟩
  tups := fun b xs q => by rw [upd_ne (ne_of_none q hn)]; exact q
  frzs := fun b u xs q => by rw [upd_ne (ne_of_none q hn)]; exact q
  tbls := fun b ps q => ⟨#[], by rw [upd_ne (ne_of_none q hn), q]; simp⟩
theorem Un.write (mu : Mut (H x)) (he : e = x ∨ H e = some (.own x)) (k : ∀ b u, b ≠ e → h.get? b = some u → h'.get? b = some u) (heo : ∃ u, h'.get? e = some u) : Un fs ex H (upd H x o) h h' := by
  have hx : ∀ b, H b = none → b ≠ x := fun b n z => by subst z; rw [n] at mu; exact mu
  have hb : ∀ b, H b = none → b ≠ e := fun b n z => by
    subst z
    rcases he with r | r
    · exact hx b n r
    · rw [n] at r; cases r
  have hm : ∀ b u, H b = some u → ¬ Mut (some u) → b ≠ x := fun b u q nm z => by subst z; rw [q] at mu; exact nm mu
  refine ⟨fun b u q n _ _ => k b u (hb b n) q, fun b u q n _ _ => ⟨u.slots, k b u (hb b n) q⟩, fun b u q n _ => by rw [upd_ne (hx b n)]; exact n, fun b u q _ => ?_,
    fun b xs q => by rw [upd_ne (hm b _ q fun z => z)]; exact q, fun b u xs q => by rw [upd_ne (hm b _ q fun z => z)]; exact q, fun b ps q => ⟨#[], by rw [upd_ne (hm b _ q fun z => z), q]; simp⟩⟩
  by_cases hbe : b = e
  · subst hbe; exact heo
  · exact ⟨u, k b u hbe q⟩
theorem Un.mono (u : Un fs ex H H1 h h1) (hs : ∀ b ∈ fs, b ∈ fs') (hx : ∀ b ∈ ex, b ∈ ex') : Un fs' ex' H H1 h h1 :=
  ⟨fun b ob q n hb he => u.keep b ob q n (fun z => hb (hs b z)) fun z => he (hx b z), fun _ _ q n _ he => u.any q n fun z => he (hx _ z), fun b ob q n he => u.free b ob q n fun z => he (hx b z), fun b ob q he => u.there b ob q fun z => he (hx b z), u.tups, u.frzs, u.tbls⟩
end

def trk (h : Heap) (H : Hp) : List Addr := (List.range h.objs.size).filter fun a => (H a).isSome
def hidT (h : Heap) (H : Hp) : Heap := PySem.W.hideAll h (trk h H)
theorem hidT_size (h : Heap) (H : Hp) : (hidT h H).objs.size = h.objs.size := PySem.W.hideAll_size _ _
theorem hidT_get {h : Heap} {H : Hp} {b : Addr} {o : Obj} (e : h.get? b = some o) (n : H b = none) : (hidT h H).get? b = some o :=
  PySem.W.hideAll_get _ e fun hm => by
    have q : (H b).isSome = true := (List.mem_filter.mp hm).2
    rw [n] at q; simp at q
theorem of_hidT {h : Heap} {H : Hp} {b : Addr} {o : Obj} (e : (hidT h H).get? b = some o) : h.get? b = some o ∧ H b = none := by
  have e' : h.get? b = some o := PySem.W.of_hideAll (trk h H) e
  refine ⟨e', ?_⟩
  cases q : H b with
  | none => rfl
  | some x =>
    have hm : b ∈ trk h H := List.mem_filter.mpr ⟨List.mem_range.mpr (Heap.lt_size e'), by simp [q]⟩
    have z : (hidT h H).get? b = none := PySem.W.hideAll_none (trk h H) hm
    rw [z] at e; cases e

def allNews (g h : Heap) (L : Addr) : List (Addr × Obj) := (List.range h.objs.size).filterMap fun a => if a = L ∨ (g.get? a).isSome = true then none else (h.get? a).map fun o => (a, o)
def rest (g h : Heap) (L d : Addr) : List (Addr × Obj) := (allNews g h L).filter fun p => decide (p.1 ≠ d)
end L2

namespace L2
open PySem PySem.Spec PyProof.Rows

structure Mod (K : PySem.W.Frag) (mg : Str → Option Value) (base : Heap) : Prop where
  kin : K.In base
  glob : base.Ns mainGlobals mg
  blt : ∃ mb, base.Ns builtinsNs mb ∧ ∀ x : Str, x ≠ "__name__" → mb x = bootBuiltins x
  nolimit : base.NoLimit

structure Cx where
  prog : Program
  w : World
  K : PySem.W.Frag
  mg : Str → Option Value
  base : Heap
  A : Around
  N : List Str
  s₀ : Shared
  H₀ : Hp
  env : Env
  outer : List Env
  stack : List Env
  ex : List Addr
  fn : Str → Bool
  calm : Bool
  pn : List (Addr × Obj)
  xe : Value → Shared → Prop
def frs (l : List Env) : List Addr := l.filterMap (·.frame)
abbrev Cx.fs (X : Cx) : List Addr := frs X.outer

def Vis (sc : Scope) (x : Str) : Prop := sc.names.lookup x = some .local ∨ sc.names.lookup x = some .cell ∨ sc.names.lookup x = some .free
def Loc (sc : Scope) (x : Str) : Prop := sc.names.lookup x = some .local ∨ sc.names.lookup x = some .cell
def Look (env : Env) (h : Heap) (m : Str → Option Value) (x : Str) (u : Value) : Prop :=
  (env.kindOf x = some .local ∧ m x = some u) ∨ ((env.kindOf x = some .cell ∨ env.kindOf x = some .free) ∧ ∃ c, env.cells.lookup x = some c ∧ h.IsCell c (some u))

structure Cx.Ok (X : Cx) : Prop where
  mod : Mod X.K X.mg X.base
  kind : X.env.scope.kind = .function
  glob : X.env.globals = mainGlobals
  blt : X.env.builtins = builtinsNs
  above : X.s₀.heap.objs.size ≤ X.env.locals
  inj : ∀ x y c, X.env.cells.lookup x = some c → X.env.cells.lookup y = some c → x = y
  has : ∀ x, (X.env.kindOf x = some .cell ∨ X.env.kindOf x = some .free) → ∃ c, X.env.cells.lookup x = some c
  cab : ∀ x c, X.fn x = true → X.env.cells.lookup x = some c → X.s₀.heap.objs.size ≤ c
  hd : X.calm = true → X.A.handled = none
  frames : X.A.frames = some X.stack
  stk : X.stack = X.outer ∨ (X.stack = X.env :: X.outer ∧ X.env.frame = some X.env.locals)
  exf : ∀ b ∈ X.ex, b ≠ X.env.locals ∧ ∀ x c, X.env.cells.lookup x = some c → c ≠ b
  bs : ∀ b o, X.base.get? b = some o → X.s₀.heap.get? b = some o ∧ X.H₀ b = none
  bsz : X.base.objs.size ≤ X.s₀.heap.objs.size
  noex : ∀ b o, X.base.get? b = some o → b ∉ X.ex
  exfs : ∀ b ∈ X.ex, b ∉ X.fs
  funs : X.s₀.heap.FunFrames X.base X.outer
  frf : ∀ b ∈ X.fs, X.H₀ b = none

structure Inv (X : Cx) (pins : List (Addr × Obj)) (σ : List (Option V)) (H : Hp) (s : Shared) : Prop where
  ok : X.Ok
  os : s.os = X.s₀.os
  bare : AllBare s.gens
  base : Un X.fs X.ex X.H₀ H X.s₀.heap s.heap
  loc : ∃ m, s.heap.Ns X.env.locals m ∧ ∀ (i : Nat) (x : Str) (v : V), X.N[i]? = some x → σ[i]? = some (some v) → Vis X.env.scope x → ∃ u, RelV v u ∧ Look X.env s.heap m x u
  cell : ∀ x c, X.env.cells.lookup x = some c → ∃ v, s.heap.IsCell c v
  free : H X.env.locals = none
  freeC : ∀ x c, X.env.cells.lookup x = some c → H c = none
  pin : ∀ p ∈ X.pn ++ pins, s.heap.get? p.1 = some p.2 ∧ H p.1 = none ∧ p.1 ≠ X.env.locals ∧ p.1 ∉ X.fs ∧ ∀ v, p.2.data ≠ .cell v
  hok : HOk X.prog X.w H s.heap
  len : σ.length = X.N.length

section
variable {X : Cx} {pins : List (Addr × Obj)} {σ : List (Option V)} {H H' : Hp} {s : Shared} {h' : Heap}

theorem Cx.Ok.nofr (ok : X.Ok) {b : Addr} {o : Obj} (e : X.base.get? b = some o) : b ∉ X.fs := fun hb => by
  have := (ok.funs.mem hb).1
  rw [e] at this; cases this
theorem Inv.bs (I : Inv X pins σ H s) : ∀ b o, X.base.get? b = some o → s.heap.get? b = some o ∧ H b = none := fun b o e =>
  ⟨I.base.keep b o (I.ok.bs b o e).1 (I.ok.bs b o e).2 (I.ok.nofr e) (I.ok.noex b o e), I.base.free b o (I.ok.bs b o e).1 (I.ok.bs b o e).2 (I.ok.noex b o e)⟩
theorem Inv.bk (I : Inv X pins σ H s) : ∀ b o, X.base.get? b = some o → s.heap.get? b = some o := fun b o e => (I.bs b o e).1
theorem Inv.mod (I : Inv X pins σ H s) : Mod X.K X.mg X.base := I.ok.mod
theorem Inv.kIn (I : Inv X pins σ H s) : X.K.In s.heap := I.ok.mod.kin.keeps I.bk
theorem Inv.nolimit (I : Inv X pins σ H s) : s.heap.NoLimit := I.ok.mod.nolimit.keeps I.bk
theorem Inv.fr (I : Inv X pins σ H s) : ∃ m, Fr X.base X.env.locals s.heap m :=
  let ⟨m, hn, _⟩ := I.loc
  ⟨m, hn, I.bk, Nat.le_trans I.ok.bsz I.ok.above⟩
theorem Inv.lt (I : Inv X pins σ H s) : X.env.locals < s.heap.objs.size := let ⟨_, hn, _⟩ := I.loc; hn.lt
theorem Inv.sz (I : Inv X pins σ H s) : X.s₀.heap.objs.size ≤ s.heap.objs.size := Nat.le_trans I.ok.above (Nat.le_of_lt I.lt)
theorem Inv.nofs (I : Inv X pins σ H s) {a : Addr} (h : s.heap.objs.size ≤ a) : a ∉ X.fs := fun hb => by
  obtain ⟨_, o, ho, _⟩ := I.ok.funs.mem hb
  exact absurd (Nat.lt_of_lt_of_le (Heap.lt_size ho) (Nat.le_trans I.sz h)) (Nat.lt_irrefl _)
theorem Inv.cne (I : Inv X pins σ H s) : ∀ x c, X.env.cells.lookup x = some c → c ≠ X.env.locals := fun x c e z => by
  obtain ⟨v, o, ho, hd⟩ := I.cell x c e
  obtain ⟨m, ⟨o', es, ep, ho', hd', _⟩, _⟩ := I.loc
  rw [z, ho'] at ho; cases ho; rw [hd'] at hd; cases hd
theorem Inv.funs (I : Inv X pins σ H s) : s.heap.FunFrames X.base X.outer := by
  have all : ∀ (l : List Env), (∀ b ∈ frs l, b ∈ X.fs) → X.s₀.heap.FunFrames X.base l → s.heap.FunFrames X.base l := by
    intro l
    induction l with
    | nil => intro _ _; trivial
    | cons env r ih =>
      intro hs hl
      obtain ⟨hk, ⟨L, o, hf, hn, ho, hd⟩, hr⟩ := hl
      have hL : L ∈ X.fs := hs L (by unfold frs; rw [List.filterMap_cons, hf]; exact List.mem_cons_self)
      obtain ⟨sl, e⟩ := I.base.slot L o ho (I.ok.frf L hL) hL fun z => I.ok.exfs L z hL
      exact ⟨hk, ⟨L, _, hf, hn, e, hd⟩, ih (fun b hb => hs b (by unfold frs; rw [List.filterMap_cons, hf]; exact List.mem_cons_of_mem _ hb)) hr⟩
  exact all X.outer (fun _ hb => hb) I.ok.funs

theorem Inv.stack (I : Inv X pins σ H s) : s.heap.FunFrames X.base X.stack := by
  rcases I.ok.stk with e | ⟨e, hf⟩
  · rw [e]; exact I.funs
  · rw [e]
    obtain ⟨m, hn, _⟩ := I.loc
    refine .cons (by rw [I.ok.kind]; decide) hf hn ?_ I.funs
    exact Heap.get?_none_of_le (Nat.le_trans I.ok.bsz I.ok.above)
theorem Inv.stkSub (I : Inv X pins σ H s) : ∀ b ∈ frs X.stack, b ∈ X.env.locals :: X.fs := fun b hb => by
  rcases I.ok.stk with e | ⟨e, hf⟩
  · rw [e] at hb; exact List.mem_cons_of_mem _ hb
  · rw [e] at hb
    unfold frs at hb
    rw [List.filterMap_cons, hf] at hb
    exact hb
theorem Inv.stkFree (I : Inv X pins σ H s) : ∀ b ∈ frs X.stack, H b = none := fun b hb => by
  rcases List.mem_cons.mp (I.stkSub b hb) with e | hb
  · rw [e]; exact I.free
  · obtain ⟨_, o, ho, _⟩ := I.ok.funs.mem hb
    exact I.base.free b o ho (I.ok.frf b hb) fun z => I.ok.exfs b z hb

theorem Inv.step {g' : Array GenState} {t' : Nat} {d' : Drawn} {ch : List Addr} (I : Inv X pins σ H s)
    (hch : ∀ b ∈ ch, (b ∈ X.ex ∨ X.s₀.heap.objs.size ≤ b) ∧ b ≠ X.env.locals ∧ (∀ x c, X.env.cells.lookup x = some c → c ≠ b) ∧ ∀ p ∈ X.pn ++ pins, p.1 ≠ b)
    (keep : ∀ b o, b ≠ X.env.locals → b ∉ X.fs → b ∉ ch → s.heap.get? b = some o → H b = none → h'.get? b = some o)
    (slot : ∀ b o, b ≠ X.env.locals → b ∈ X.fs → b ∉ ch → s.heap.get? b = some o → H b = none → ∃ sl, h'.get? b = some { o with slots := sl }) (free : ∀ b o, b ∉ ch → s.heap.get? b = some o → H b = none → H' b = none)
    (there : ∀ b o, b ∉ ch → s.heap.get? b = some o → ∃ o', h'.get? b = some o')
    (tups : ∀ b xs, H b = some (.tup xs) → H' b = some (.tup xs)) (frzs : ∀ b o u, H b = some (.frz o u) → H' b = some (.frz o u)) (tbls : ∀ b ps, H b = some (.tbl ps) → ∃ more, H' b = some (.tbl (ps ++ more)))
    (ns : ∀ m, s.heap.Ns X.env.locals m → h'.Ns X.env.locals m) (hok : HOk X.prog X.w H' h') (hg : AllBare g') :
    Inv X pins σ H' { s with heap := h', gens := g', drawn := d', toks := t' } := by
  have neL : ∀ b o, X.s₀.heap.get? b = some o → b ≠ X.env.locals := fun b o e => Nat.ne_of_lt (Nat.lt_of_lt_of_le (Heap.lt_size e) I.ok.above)
  have neC : ∀ b o, X.s₀.heap.get? b = some o → b ∉ X.ex → b ∉ ch := fun b o e hx hb => by
    rcases (hch b hb).1 with z | z
    · exact hx z
    · exact absurd (Nat.lt_of_lt_of_le (Heap.lt_size e) z) (Nat.lt_irrefl _)
  have cellK : ∀ x c, X.env.cells.lookup x = some c → ∀ v, s.heap.IsCell c v → h'.IsCell c v := fun x c e v ⟨o, ho, hd⟩ => by
    have nch : c ∉ ch := fun z => (hch c z).2.2.1 x c e rfl
    by_cases hc : c ∈ X.fs
    · obtain ⟨sl, q⟩ := slot c o (I.cne x c e) hc nch ho (I.freeC x c e)
      exact ⟨_, q, hd⟩
    · exact ⟨o, keep c o (I.cne x c e) hc nch ho (I.freeC x c e), hd⟩
  refine ⟨I.ok, I.os, hg, ⟨fun b o e n hb hx => ?_, fun b o e n hb hx => ?_, fun b o e n hx => ?_, fun b o e hx => ?_, fun b xs e => tups b xs (I.base.tups b xs e), fun b o xs e => frzs b o xs (I.base.frzs b o xs e), fun b ps e => ?_⟩, ?_, fun x c e => ?_, ?_, fun x c e => ?_, fun p hp => ?_, hok, I.len⟩
  · exact keep b o (neL b o e) hb (neC b o e hx) (I.base.keep b o e n hb hx) (I.base.free b o e n hx)
  · obtain ⟨sl, e1⟩ := I.base.slot b o e n hb hx
    obtain ⟨sl', e2⟩ := slot b _ (neL b o e) hb (neC b o e hx) e1 (I.base.free b o e n hx)
    exact ⟨sl', e2⟩
  · obtain ⟨o', e1⟩ := I.base.there b o e hx
    exact free b o' (neC b o e hx) e1 (I.base.free b o e n hx)
  · obtain ⟨o', e1⟩ := I.base.there b o e hx
    exact there b o' (neC b o e hx) e1
  · obtain ⟨m1, e1⟩ := I.base.tbls b ps e
    obtain ⟨m2, e2⟩ := tbls b _ e1
    exact ⟨m1 ++ m2, by rw [e2, Array.append_assoc]⟩
  · obtain ⟨m, hn, hl⟩ := I.loc
    refine ⟨m, ns m hn, fun i x v e1 e2 e3 => ?_⟩
    obtain ⟨u, r, l⟩ := hl i x v e1 e2 e3
    refine ⟨u, r, ?_⟩
    rcases l with l | ⟨k, c, e, z⟩
    · exact .inl l
    · exact .inr ⟨k, c, e, cellK x c e _ z⟩
  · obtain ⟨v, z⟩ := I.cell x c e
    exact ⟨v, cellK x c e v z⟩
  · obtain ⟨m, ⟨o, _, _, ho, _⟩, _⟩ := I.loc
    exact free _ o (fun z => (hch _ z).2.1 rfl) ho I.free
  · obtain ⟨v, o, ho, hd⟩ := I.cell x c e
    exact free c o (fun z => (hch c z).2.2.1 x c e rfl) ho (I.freeC x c e)
  · obtain ⟨e, n, ne, nf, d⟩ := I.pin p hp
    have nch : p.1 ∉ ch := fun z => (hch p.1 z).2.2.2 p hp rfl
    exact ⟨keep p.1 p.2 ne nf nch e n, free p.1 p.2 nch e n, ne, nf, d⟩
theorem Inv.un {t' : Nat} (I : Inv X pins σ H s) (u : Un X.fs [] H H' s.heap h') (hok : HOk X.prog X.w H' h') : Inv X pins σ H' { s with heap := h', toks := t' } := by
  obtain ⟨m, ⟨o, es, ep, ho, r⟩, _⟩ := id I.loc
  obtain ⟨sl, hL⟩ := u.any ho I.free (by simp)
  exact I.step (g' := s.gens) (d' := s.drawn) (ch := []) (fun _ z => nomatch z) (fun b o _ hb _ e n => u.keep b o e n hb (by simp)) (fun b o _ hb _ e n => u.slot b o e n hb (by simp)) (fun b o _ e n => u.free b o e n (by simp)) (fun b o _ e => u.there b o e (by simp)) u.tups u.frzs u.tbls (fun m' hm => by
    obtain ⟨o', es', ep', ho', r'⟩ := hm
    rw [ho] at ho'; cases ho'
    exact ⟨_, es', ep', hL, r'⟩) hok I.bare
theorem Inv.call {g' : Array GenState} {t' : Nat} {d' : Drawn} {ch : List Addr} (I : Inv X pins σ H s) (u : Un (frs X.stack) ch H H' s.heap h') (hok : HOk X.prog X.w H' h') (hg : AllBare g')
    (hch : ∀ b ∈ ch, (b ∈ X.ex ∨ X.s₀.heap.objs.size ≤ b) ∧ b ≠ X.env.locals ∧ (∀ x c, X.env.cells.lookup x = some c → c ≠ b) ∧ ∀ p ∈ X.pn ++ pins, p.1 ≠ b) :
    Inv X pins σ H' { s with heap := h', gens := g', drawn := d', toks := t' } := by
  obtain ⟨m, ⟨o, es, ep, ho, r⟩, _⟩ := id I.loc
  obtain ⟨sl, hL⟩ := u.any ho I.free fun z => (hch _ z).2.1 rfl
  exact I.step (ch := ch) hch (fun b o hL hb hc e n => u.keep b o e n (fun z => (List.mem_cons.mp (I.stkSub b z)).elim hL hb) hc) (fun b o _ _ hc e n => u.any e n hc) (fun b o hc e n => u.free b o e n hc) (fun b o hc e => u.there b o e hc) u.tups u.frzs u.tbls (fun m' hm => by
    obtain ⟨o', es', ep', ho', r'⟩ := hm
    rw [ho] at ho'; cases ho'
    exact ⟨_, es', ep', hL, r'⟩) hok hg
theorem Inv.turned {t' : Nat} {it : Addr} (I : Inv X pins σ H s) (k : ∀ b o, b ≠ it → s.heap.get? b = some o → h'.get? b = some o) (hn : H it = none) (hL : it ≠ X.env.locals)
    (h1 : it ∈ X.ex ∨ X.s₀.heap.objs.size ≤ it) (h2 : ∀ x c, X.env.cells.lookup x = some c → c ≠ it) (h3 : ∀ p ∈ X.pn ++ pins, p.1 ≠ it) : Inv X pins σ H { s with heap := h', toks := t' } := by
  have nit : ∀ b u, H b = some u → b ≠ it := fun b u e z => by rw [z, hn] at e; cases e
  refine I.step (g' := s.gens) (d' := s.drawn) (ch := [it]) (fun b hb => ?_) (fun b o _ _ hc e _ => k b o (fun z => hc (by simp [z])) e) (fun b o _ _ hc e _ => ⟨o.slots, k b o (fun z => hc (by simp [z])) e⟩) (fun _ _ _ _ n => n)
    (fun b o hc e => ⟨o, k b o (fun z => hc (by simp [z])) e⟩) (fun _ _ e => e) (fun _ _ _ e => e) (fun b ps e => ⟨#[], by rw [e]; simp⟩) (fun m hm => ?_) (fun b u e => ?_) I.bare
  · have e : b = it := by simpa using hb
    subst e
    exact ⟨h1, hL, h2, h3⟩
  · obtain ⟨o, es, ep, ho, r⟩ := hm
    exact ⟨o, es, ep, k _ o (Ne.symm hL) ho, r⟩
  · refine (I.hok b u e).stay (fun c v hc q => k c v ?_ q) (fun _ q => q) fun _ _ q => q
    rcases hc with z | z
    · rw [z]; exact nit b u e
    · exact nit c _ z
theorem Inv.tok (I : Inv X pins σ H s) (t : Nat) : Inv X pins σ H { s with toks := t } := I.un (h' := s.heap) (t' := t) Un.refl I.hok
theorem Inv.kept {t' : Nat} (I : Inv X pins σ H s) (k : ∀ b u, s.heap.get? b = some u → h'.get? b = some u) : Inv X pins σ H { s with heap := h', toks := t' } := I.un (Un.kept k) (I.hok.kept k)
theorem Inv.laid {a : Addr} {o : HO} {t' : Nat} (I : Inv X pins σ H s) (k : ∀ b u, s.heap.get? b = some u → h'.get? b = some u) (hp : s.heap.objs.size ≤ a) (new : ObjOk X.prog X.w (upd H a o) h' a o) :
    Inv X pins σ (upd H a o) { s with heap := h', toks := t' } := I.un (Un.laid k hp (I.hok.fresh hp)) (I.hok.laid k hp new)
theorem Inv.write {x e : Addr} {o : HO} {t' : Nat} (I : Inv X pins σ H s) (mu : Mut (H x)) (he : e = x ∨ H e = some (.own x)) (k : ∀ b u, b ≠ e → s.heap.get? b = some u → h'.get? b = some u) (heo : ∃ u, h'.get? e = some u)
    (new : ObjOk X.prog X.w (upd H x o) h' x o) : Inv X pins σ (upd H x o) { s with heap := h', toks := t' } := I.un (Un.write mu he k heo) (I.hok.write mu he k heo new)
theorem Inv.weak {σ' : List (Option V)} (I : Inv X pins σ H s) (hl : σ'.length = σ.length) (w : ∀ (i : Nat) v, σ'[i]? = some (some v) → σ[i]? = some (some v)) : Inv X pins σ' H s :=
  ⟨I.ok, I.os, I.bare, I.base, let ⟨m, hn, hl'⟩ := I.loc; ⟨m, hn, fun i x v e1 e2 e3 => hl' i x v e1 (w i v e2) e3⟩, I.cell, I.free, I.freeC, I.pin, I.hok, hl.trans I.len⟩
theorem Inv.pins_of {pins' : List (Addr × Obj)} (I : Inv X pins σ H s) (h : ∀ p ∈ pins', s.heap.get? p.1 = some p.2 ∧ H p.1 = none ∧ p.1 ≠ X.env.locals ∧ p.1 ∉ X.fs ∧ ∀ v, p.2.data ≠ .cell v) : Inv X pins' σ H s :=
  ⟨I.ok, I.os, I.bare, I.base, I.loc, I.cell, I.free, I.freeC, fun p hp => (List.mem_append.mp hp).elim (fun z => I.pin p (List.mem_append_left _ z)) (h p), I.hok, I.len⟩

theorem nodup_ix {N : List Str} (hN : N.Nodup) {i j : Nat} {x : Str} (a : N[i]? = some x) (b : N[j]? = some x) : i = j := by
  obtain ⟨h1, e1⟩ := List.getElem?_eq_some_iff.mp a
  obtain ⟨h2, e2⟩ := List.getElem?_eq_some_iff.mp b
  exact (List.getElem_inj hN).mp (e1.trans e2.symm)

theorem store_ok2 {M : Model} {A : Around} {E : Value → Shared → Prop} {i : Nat} {x : Str} {v : V} {u : Value} {Q : Unit → Shared → Prop} (I : Inv X pins σ H s) (hN : X.N.Nodup) (hi : X.N[i]? = some x) (hx : Loc X.env.scope x) (r : RelV v u)
    (h : ∀ s', Inv X pins (σ.set i (some v)) H s' → (∃ a, Heap.SameBut a s.heap s'.heap ∧ (a = X.env.locals ∨ X.env.cells.lookup x = some a)) → Q () s') (hf : X.fn x = true ∨ X.env.scope.names.lookup x = some .local := by first | exact .inl rfl | exact .inr rfl | assumption) : wpAny M A (storeName X.env x u) Q E s := by
  obtain ⟨m, hn, hl⟩ := id I.loc
  have hcls : (X.env.scope.kind == .class || (X.env.scope.kind == .module && X.env.locals != X.env.globals)) = false := by rw [I.ok.kind]; rfl
  have hiσ : i < σ.length := by rw [I.len]; exact (List.getElem?_eq_some_iff.mp hi).1
  have cne := I.cne
  have tracked : ∀ {a : Addr} {h' : Heap}, (∃ o, s.heap.get? a = some o ∧ H a = none) → Heap.SameBut a s.heap h' → HOk X.prog X.w H h' := fun {a h'} ha hs b ob e => by
    obtain ⟨_, _, hfree⟩ := ha
    refine (I.hok b ob e).stay (fun c w' hc q => (hs.2 c ?_).trans q) (fun _ q => q) fun _ _ q => q
    rintro rfl
    rcases hc with rfl | hc
    · rw [hfree] at e; cases e
    · rw [hfree] at hc; cases hc
  rcases hx with hk | hk
  · refine wpAny_storeName_local hk hn (fun h' hn' hs => ?_) hcls
    obtain ⟨oL, _, _, hoL, _⟩ := id hn
    refine h _ ⟨I.ok, I.os, I.bare, ⟨fun b o e n hb hx => ?_, fun b o e n hb hx => ?_, I.base.free, fun b o e hx => ?_, I.base.tups, I.base.frzs, I.base.tbls⟩, ⟨_, hn', fun j y v' e1 e2 e3 => ?_⟩, fun y c e => ?_, I.free, I.freeC, fun p hp => ?_, tracked ⟨oL, hoL, I.free⟩ hs, by simpa using I.len⟩ ⟨_, hs, .inl rfl⟩
    · exact (hs.2 b (Nat.ne_of_lt (Nat.lt_of_lt_of_le (Heap.lt_size e) I.ok.above))).trans (I.base.keep b o e n hb hx)
    · obtain ⟨sl, e1⟩ := I.base.slot b o e n hb hx
      exact ⟨sl, (hs.2 b (Nat.ne_of_lt (Nat.lt_of_lt_of_le (Heap.lt_size e) I.ok.above))).trans e1⟩
    · obtain ⟨o', e1⟩ := I.base.there b o e hx
      exact ⟨o', (hs.2 b (Nat.ne_of_lt (Nat.lt_of_lt_of_le (Heap.lt_size e) I.ok.above))).trans e1⟩
    · by_cases hj : j = i
      · subst hj
        rw [hi] at e1; cases e1
        rw [List.getElem?_set_self hiσ] at e2
        cases e2
        exact ⟨u, r, .inl ⟨hk, by simp⟩⟩
      · rw [List.getElem?_set_ne (Ne.symm hj)] at e2
        obtain ⟨u', r', q⟩ := hl j y v' e1 e2 e3
        refine ⟨u', r', ?_⟩
        rcases q with ⟨k, e⟩ | ⟨k, c, e, z⟩
        · refine .inl ⟨k, ?_⟩
          have : y ≠ x := fun e => hj (nodup_ix hN e1 (e ▸ hi))
          simp [this, e]
        · exact .inr ⟨k, c, e, z.sameBut hs (cne y c e)⟩
    · obtain ⟨w', z⟩ := I.cell y c e
      exact ⟨w', z.sameBut hs (cne y c e)⟩
    · obtain ⟨e, n, ne, nf, d⟩ := I.pin p hp
      exact ⟨(hs.2 p.1 ne).trans e, n, ne, nf, d⟩
  · have hfn : X.fn x = true := by
      rcases hf with z | z
      · exact z
      · rw [z] at hk; cases hk
    obtain ⟨c, hc⟩ := I.ok.has x (.inl hk)
    obtain ⟨w', z⟩ := I.cell x c hc
    refine wpAny_storeName_cell I.ok.kind hk hc z (fun h' hc' hs => ?_)
    obtain ⟨oc, hoc, hocd⟩ := id z
    refine h { s with heap := h' } ⟨I.ok, I.os, I.bare, ⟨fun b o e n hb hx => ?_, fun b o e n hb hx => ?_, I.base.free, fun b o e hx => ?_, I.base.tups, I.base.frzs, I.base.tbls⟩, ⟨m, hn.sameBut hs (Ne.symm (cne x c hc)), fun j y v' e1 e2 e3 => ?_⟩, fun y c' e => ?_, I.free, I.freeC, fun p hp => ?_, tracked ⟨oc, hoc, I.freeC x c hc⟩ hs, by simpa using I.len⟩ ⟨c, hs, .inr hc⟩
    · exact (hs.2 b (Nat.ne_of_lt (Nat.lt_of_lt_of_le (Heap.lt_size e) (I.ok.cab x c hfn hc)))).trans (I.base.keep b o e n hb hx)
    · obtain ⟨sl, e1⟩ := I.base.slot b o e n hb hx
      exact ⟨sl, (hs.2 b (Nat.ne_of_lt (Nat.lt_of_lt_of_le (Heap.lt_size e) (I.ok.cab x c hfn hc)))).trans e1⟩
    · obtain ⟨o', e1⟩ := I.base.there b o e hx
      exact ⟨o', (hs.2 b (Nat.ne_of_lt (Nat.lt_of_lt_of_le (Heap.lt_size e) (I.ok.cab x c hfn hc)))).trans e1⟩
    · by_cases hj : j = i
      · subst hj
        rw [hi] at e1; cases e1
        rw [List.getElem?_set_self hiσ] at e2
        cases e2
        exact ⟨u, r, .inr ⟨.inl hk, c, hc, hc'⟩⟩
      · rw [List.getElem?_set_ne (Ne.symm hj)] at e2
        obtain ⟨u', r', q⟩ := hl j y v' e1 e2 e3
        refine ⟨u', r', ?_⟩
        rcases q with q | ⟨k, c', e, z'⟩
        · exact .inl q
        · refine .inr ⟨k, c', e, z'.sameBut hs ?_⟩
          rintro rfl
          exact hj (nodup_ix hN e1 (I.ok.inj _ _ _ e hc ▸ hi))
    · by_cases hcc : c' = c
      · subst hcc; exact ⟨_, hc'⟩
      · obtain ⟨w2, z2⟩ := I.cell y c' e
        exact ⟨w2, z2.sameBut hs hcc⟩
    · obtain ⟨e, n, ne, nf, d⟩ := I.pin p hp
      refine ⟨(hs.2 p.1 ?_).trans e, n, ne, nf, d⟩
      intro q
      rw [q, hoc] at e
      have q' : oc = p.2 := Option.some.inj e
      exact d w' (by rw [← q']; exact hocd)
theorem store_ok {M : Model} {A : Around} {E : Value → Shared → Prop} {i : Nat} {x : Str} {v : V} {u : Value} {Q : Unit → Shared → Prop} (I : Inv X pins σ H s) (hN : X.N.Nodup) (hi : X.N[i]? = some x) (hx : Loc X.env.scope x) (r : RelV v u)
    (h : ∀ s', Inv X pins (σ.set i (some v)) H s' → Q () s') (hf : X.fn x = true ∨ X.env.scope.names.lookup x = some .local := by first | exact .inl rfl | exact .inr rfl | assumption) : wpAny M A (storeName X.env x u) Q E s :=
  store_ok2 I hN hi hx r (fun s' I' _ => h s' I') hf
theorem Inv.call' {s' : Shared} {ch : List Addr} (I : Inv X pins σ H s) (ho : s'.os = s.os) (u : Un (frs X.stack) ch H H' s.heap s'.heap) (hok : HOk X.prog X.w H' s'.heap) (hg : AllBare s'.gens)
    (hch : ∀ b ∈ ch, (b ∈ X.ex ∨ X.s₀.heap.objs.size ≤ b) ∧ b ≠ X.env.locals ∧ (∀ x c, X.env.cells.lookup x = some c → c ≠ b) ∧ ∀ p ∈ X.pn ++ pins, p.1 ≠ b) : Inv X pins σ H' s' := by
  obtain ⟨h', g', d', t', o'⟩ := s'
  have e : o' = s.os := ho
  subst e
  exact I.call (g' := g') (t' := t') (d' := d') u hok hg hch
end

abbrev XK := Value → Option Addr → Hp → Prop
abbrev St := List (Option V)
abbrev VK := V → Hp → Prop
abbrev TE := St → Hp → VK → Prop
abbrev TT := St → Hp → (Bool → Hp → Prop) → Prop
abbrev TA := St → Hp → (List V → Hp → Prop) → Prop
structure Ends where
  nx : St → Hp → Prop
  rt : VK
  bk : St → Hp → Prop := fun _ _ => False
  ct : St → Hp → Prop := fun _ _ => False
abbrev TS := Ends → St → Hp → Prop

def EP (X : Cx) (pins : List (Addr × Obj)) (σ : St) (Q : VK) (u : Value) (s' : Shared) : Prop := ∃ v H', Inv X pins σ H' s' ∧ RelV v u ∧ Q v H'
def TP (X : Cx) (pins : List (Addr × Obj)) (σ : St) (Q : Bool → Hp → Prop) (b : Bool) (s' : Shared) : Prop := ∃ H', Inv X pins σ H' s' ∧ Q b H'
def AP (X : Cx) (pins : List (Addr × Obj)) (σ : St) (Q : List V → Hp → Prop) (us : List Value) (s' : Shared) : Prop := ∃ vs H', Inv X pins σ H' s' ∧ Vals vs us ∧ Q vs H'
def SP (X : Cx) (pins : List (Addr × Obj)) (D : Ends) (f : Flow) (s' : Shared) : Prop :=
  match f with
  | .next => ∃ σ' H', Inv X pins σ' H' s' ∧ D.nx σ' H'
  | .brk => ∃ σ' H', Inv X pins σ' H' s' ∧ D.bk σ' H'
  | .cont => ∃ σ' H', Inv X pins σ' H' s' ∧ D.ct σ' H'
  | .ret u => ∃ v σ' H', Inv X pins σ' H' s' ∧ RelV v u ∧ D.rt v H'

def PE (X : Cx) (e : Expr) (t : TE) : Prop :=
  ∀ (pins : List (Addr × Obj)) (s : Shared) (σ : St) (H : Hp) (Q : VK), Inv X pins σ H s → t σ H Q → wpAny (model X.prog X.w) X.A (eval e X.env) (EP X pins σ Q) X.xe s
def PT (X : Cx) (e : Expr) (t : TT) : Prop :=
  ∀ (pins : List (Addr × Obj)) (s : Shared) (σ : St) (H : Hp) (Q : Bool → Hp → Prop), Inv X pins σ H s → t σ H Q → wpAny (model X.prog X.w) X.A (isTrue e X.env (eval e X.env)) (TP X pins σ Q) X.xe s
def PW (X : Cx) (e : Expr) (t : TT) : Prop :=
  ∀ (whole : Sem Value) (pins : List (Addr × Obj)) (s : Shared) (σ : St) (H : Hp) (Q : Bool → Hp → Prop), Inv X pins σ H s → t σ H Q → wpAny (model X.prog X.w) X.A (isTrue e X.env whole) (TP X pins σ Q) X.xe s
theorem PW.pt {X : Cx} {e : Expr} {t : TT} (h : PW X e t) : PT X e t := h _
def PA (X : Cx) (es : List Expr) (t : TA) : Prop :=
  ∀ (pos : Pos) (pins : List (Addr × Obj)) (s : Shared) (σ : St) (H : Hp) (Q : List V → Hp → Prop), Inv X pins σ H s → t σ H Q → wpAny (model X.prog X.w) X.A (spliced (backTo pos (starEach es X.env))) (AP X pins σ Q) X.xe s
def PS (X : Cx) (st : Stmt) (t : TS) : Prop :=
  ∀ (pins : List (Addr × Obj)) (s : Shared) (σ : St) (H : Hp) (D : Ends), Inv X pins σ H s → t D σ H → wpAny (model X.prog X.w) X.A (exec st X.env) (SP X pins D) X.xe s
def PSs (X : Cx) (st : List Stmt) (t : TS) : Prop :=
  ∀ (pins : List (Addr × Obj)) (s : Shared) (σ : St) (H : Hp) (D : Ends), Inv X pins σ H s → t D σ H → wpAny (model X.prog X.w) X.A (execs st X.env) (SP X pins D) X.xe s
theorem thn {α : Type} {t : Sem α} {Q Q' : α → Shared → Prop} {M : Model} {A : Around} {E : Value → Shared → Prop} {s : Shared} (h : wpAny M A t Q E s) (hQ : ∀ a s, Q a s → Q' a s) : wpAny M A t Q' E s := wpAny_mono h hQ fun _ _ x => x
end L2

namespace L2
open PySem PySem.Spec PyProof.Rows
section
variable {X : Cx}

def tVar (i : Nat) : TE := fun σ H Q => ∃ v, σ[i]? = some (some v) ∧ Q v H
def tC (v : V) : TE := fun _ H Q => Q v H
theorem pe_var {i : Nat} {x : Str} {pos : Pos} (hN : X.N[i]? = some x) (hv : Vis X.env.scope x) (hd : (x == ("__debug__" : Str)) = false := by decide) (hcd : (x == ("__classdict__" : Str)) = false := by decide) : PE X (.Name x pos) (tVar i) := by
  intro pins s σ H Q I h
  obtain ⟨v, e, h⟩ := h
  obtain ⟨m, hn, hl⟩ := I.loc
  obtain ⟨u, r, l⟩ := hl i x v hN e hv
  have fin : EP X pins σ Q u s := ⟨v, H, I, r, h⟩
  rcases l with ⟨hk, hm⟩ | ⟨hk, c, hc, hcell⟩
  · exact wpAny_Name (wpAny_loadName_local I.ok.kind hk hn hm fin) hd
  · rcases hk with hk | hk
    · exact wpAny_Name (wpAny_loadName_cell I.ok.kind hk hc hcell fin) hd
    · exact wpAny_Name (wpAny_loadName_free I.ok.kind hk hc hcell fin hcd) hd
theorem pe_int {i j pos} : PE X (.Constant (.int i) j pos) (tC (.int i)) := fun _ _ _ H _ I h => wpAny_Constant_int ⟨.int i, H, I.tok _, ⟨_, rfl⟩, h⟩
theorem pe_bl {b j pos} : PE X (.Constant (.bool b) j pos) (tC (.bl b)) := fun _ _ _ H _ I h => Constant_bool ⟨.bl b, H, I, rfl, h⟩
theorem pe_non {j pos} : PE X (.Constant .none j pos) (tC .non) := fun _ _ _ H _ I h => Constant_none ⟨.non, H, I, rfl, h⟩
theorem pe_str {x j pos} : PE X (.Constant (.str x) j pos) (tC (.str x)) := fun _ _ _ H _ I h => Calls.Constant_str ⟨.str x, H, I.tok _, ⟨_, rfl⟩, h⟩

def Gl (X : Cx) (x : Str) : Prop := X.env.kindOf x = some .globalImplicit
theorem ld_glob {E : Value → Shared → Prop} {pins : List (Addr × Obj)} {s : Shared} {σ : St} {H : Hp} {x : Str} {u : Value} {pos : Pos} {Q : Value → Shared → Prop} (I : Inv X pins σ H s) (hg : Gl X x) (hm : X.mg x = some u) (h : Q u s)
    (hd : (x == ("__debug__" : Str)) = false := by decide) : wpAny (model X.prog X.w) X.A (eval (.Name x pos) X.env) Q E s :=
  Calls.Name_function_global I.ok.kind hg (Calls.loadGlobal_global (by rw [I.ok.glob]; exact I.mod.glob.keeps I.bk) hm h) hd
theorem ld_blt {E : Value → Shared → Prop} {pins : List (Addr × Obj)} {s : Shared} {σ : St} {H : Hp} {x : Str} {u : Value} {pos : Pos} {Q : Value → Shared → Prop} (I : Inv X pins σ H s) (hg : Gl X x) (hm : X.mg x = none) (hv : bootBuiltins x = some u) (h : Q u s)
    (hn : x ≠ "__name__" := by decide) (hd : (x == ("__debug__" : Str)) = false := by decide) : wpAny (model X.prog X.w) X.A (eval (.Name x pos) X.env) Q E s := by
  obtain ⟨mb, h1, h2⟩ := I.mod.blt
  exact Calls.Name_function_global I.ok.kind hg (Calls.loadGlobal_builtin (by rw [I.ok.glob]; exact I.mod.glob.keeps I.bk) hm (by rw [I.ok.blt]; exact h1.keeps I.bk) ((h2 x hn).trans hv) h) hd
theorem pe_glob {x : Str} {v : V} {u : Value} {pos : Pos} (hg : Gl X x) (hm : X.mg x = some u) (r : RelV v u) (hd : (x == ("__debug__" : Str)) = false := by decide) : PE X (.Name x pos) (tC v) :=
  fun _ _ _ H _ I h => ld_glob I hg hm ⟨v, H, I, r, h⟩ hd
theorem pe_bltn {x : Str} {v : V} {u : Value} {pos : Pos} (hg : Gl X x) (hm : X.mg x = none) (hv : bootBuiltins x = some u) (r : RelV v u) (hn : x ≠ "__name__" := by decide) (hd : (x == ("__debug__" : Str)) = false := by decide) : PE X (.Name x pos) (tC v) :=
  fun _ _ _ H _ I h => ld_blt I hg hm hv ⟨v, H, I, r, h⟩ hn hd

variable {a b : Expr} {ta tb : TE} {pos : Pos}
def PC (X : Cx) (op : CmpOp) (a b : Expr) (t : TE) : Prop :=
  ∀ (pins : List (Addr × Obj)) (s : Shared) (σ : St) (H : Hp) (Q : VK), Inv X pins σ H s → t σ H Q →
    wpAny (model X.prog X.w) X.A (eval a X.env) (fun v s₁ => wpAny (model X.prog X.w) X.A (eval b X.env) (fun u s₂ => wpAny (model X.prog X.w) X.A (compareOp op v u) (EP X pins σ Q) X.xe s₂) X.xe s₁) X.xe s
theorem nobehind (b : Expr) {op : CmpOp} (h : op ≠ .In) (h2 : op ≠ .NotIn) : behindInMarks op b = false := by
  have e1 : (op == CmpOp.In) = false := by cases op <;> first | rfl | exact absurd rfl h
  have e2 : (op == CmpOp.NotIn) = false := by cases op <;> first | rfl | exact absurd rfl h2
  cases b <;> simp [behindInMarks, e1, e2]
def tB (t : TE) : TT := fun σ H Q => t σ H fun x H1 => ∃ c, x = .bl c ∧ Q c H1
theorem pt_cmp {op : CmpOp} {t : TE} (h : PC X op a b t) (h1 : behindInMarks op b = false := by first | exact nobehind _ (by decide) (by decide) | rfl) : PT X (.Compare a [op] [b] pos) (tB t) := by
  intro pins s σ H Q I hw
  refine wpAny_isTrue_Compare1 (thn (h pins s σ H _ I hw) fun v s1 h1 => thn h1 fun u s2 h2 => thn h2 fun c s3 ⟨x, H1, I1, r1, q1⟩ => ?_) h1
  obtain ⟨d, rfl, q⟩ := q1
  cases r1
  exact wpAny_truthy_bool ⟨H1, I1, q⟩
theorem pt_val {e : Expr} {t : TE} (h : PE X e t) (he : ∀ whole, isTrue e X.env whole = (do let v ← whole; standAt e.pos; holding [v] (truthy v)) := by intro _; rfl) : PT X e (tB t) := by
  intro pins s σ H Q I hw
  refine isTrue_plain (thn (h pins s σ H _ I hw) fun v s1 ⟨x, H1, I1, r1, q1⟩ => ?_) (he _)
  obtain ⟨d, rfl, q⟩ := q1
  cases r1
  exact wpAny_truthy_bool ⟨H1, I1, q⟩

variable {tA tB' : TT} {rest : List Expr}
def tAnd (t u : TT) : TT := fun σ H Q => t σ H fun c H1 => if c = true then u σ H1 Q else Q false H1
def tOr (t u : TT) : TT := fun σ H Q => t σ H fun c H1 => if c = true then Q true H1 else u σ H1 Q
def tNot (t : TT) : TT := fun σ H Q => t σ H fun c H1 => Q (!c) H1
theorem pw_and1 (ha : PT X a tA) : PW X (.BoolOp .And [a] pos) tA := by
  intro wh pins s σ H Q I h
  refine isTrue_and (thn (ha pins s σ H Q I h) fun c s1 e => ?_)
  cases c with
  | true => exact isTrue_and_nil e
  | false => exact e
theorem pw_or1 (ha : PT X a tA) : PW X (.BoolOp .Or [a] pos) tA := by
  intro wh pins s σ H Q I h
  refine isTrue_or (thn (ha pins s σ H Q I h) fun c s1 e => ?_)
  cases c with
  | false => exact isTrue_or_nil e
  | true => exact e
theorem pw_and (ha : PT X a tA) (hb : PW X (.BoolOp .And (b :: rest) pos) tB') : PW X (.BoolOp .And (a :: b :: rest) pos) (tAnd tA tB') := by
  intro wh pins s σ H Q I h
  refine isTrue_and (thn (ha pins s σ H _ I h) fun c s1 ⟨H1, I1, q1⟩ => ?_)
  cases c with
  | true => exact hb wh pins s1 σ H1 Q I1 q1
  | false => exact ⟨H1, I1, q1⟩
theorem pw_or (ha : PT X a tA) (hb : PW X (.BoolOp .Or (b :: rest) pos) tB') : PW X (.BoolOp .Or (a :: b :: rest) pos) (tOr tA tB') := by
  intro wh pins s σ H Q I h
  refine isTrue_or (thn (ha pins s σ H _ I h) fun c s1 ⟨H1, I1, q1⟩ => ?_)
  cases c with
  | true => exact ⟨H1, I1, q1⟩
  | false => exact hb wh pins s1 σ H1 Q I1 q1
theorem pt_not (ha : PT X a tA) : PT X (.UnaryOp .Not a pos) (tNot tA) := by
  intro pins s σ H Q I h
  exact isTrue_not (ha pins s σ H (fun c H1 => Q (!c) H1) I h)
def tAndV (ta tb : TE) : TE := fun σ H Q => ta σ H fun x H1 => ∃ c, x = .bl c ∧ if c = true then tb σ H1 Q else Q (.bl false) H1
def tNotV (ta : TE) : TE := fun σ H Q => ta σ H fun x H1 => ∃ c, x = .bl c ∧ Q (.bl (!c)) H1
theorem pe_one {op} {t : TE} (h : PE X a t) : PE X (.BoolOp op [a] pos) t := fun pins s σ H Q I hw => BoolOp_one (h pins s σ H Q I hw)
theorem pe_and (ha : PE X a ta) (hb : PE X (.BoolOp .And (b :: rest) pos) tb) : PE X (.BoolOp .And (a :: b :: rest) pos) (tAndV ta tb) := by
  intro pins s σ H Q I h
  refine BoolOp_and (thn (ha pins s σ H _ I h) fun v s1 ⟨x, H1, I1, r1, q1⟩ => ?_)
  obtain ⟨c, rfl, q1⟩ := q1
  cases r1
  refine wpAny_truthy_bool ?_
  cases c with
  | true => exact hb pins s1 σ H1 Q I1 q1
  | false => exact ⟨.bl false, H1, I1, rfl, q1⟩
theorem pe_not (ha : PE X a ta) : PE X (.UnaryOp .Not a pos) (tNotV ta) := by
  intro pins s σ H Q I h
  refine UnaryOp_ (thn (ha pins s σ H _ I h) fun v s1 ⟨x, H1, I1, r1, q1⟩ => ?_)
  obtain ⟨c, rfl, q1⟩ := q1
  cases r1
  exact not_of (wpAny_truthy_bool ⟨.bl (!c), H1, I1, rfl, q1⟩)
def tIf (t : TT) (ta tb : TE) : TE := fun σ H Q => t σ H fun c H1 => if c = true then ta σ H1 Q else tb σ H1 Q
theorem pe_ifExp {c : Expr} (hc : PT X c tA) (ha : PE X a ta) (hb : PE X b tb) : PE X (.IfExp c a b pos) (tIf tA ta tb) := by
  intro pins s σ H Q I h
  refine wpAny_IfExp (thn (hc pins s σ H _ I h) fun d s1 ⟨H1, I1, q1⟩ => ?_)
  cases d with
  | true => exact ha pins s1 σ H1 Q I1 q1
  | false => exact hb pins s1 σ H1 Q I1 q1
end
end L2

namespace L2
open PySem PySem.Spec PyProof.Rows

def SqL (K : PySem.W.Frag) (H : Hp) (a : Addr) (xs : List V) : Prop :=
  Rd H a (.lst xs) ∨
    ∃ (o : Obj) (its : Array Value) (n : Nat), K.lookup a = some o ∧ o.cls = .type "list" ∧ o.dict = none ∧ o.data = .seq its n ∧ its.size ≤ sizeLine ∧ Vals xs its.toList
def SqT (K : PySem.W.Frag) (H : Hp) (a : Addr) (xs : List V) : Prop :=
  Rd H a (.tup xs) ∨
    ∃ (o : Obj) (its : Array Value) (n : Nat), K.lookup a = some o ∧ o.cls = .type "tuple" ∧ o.data = .seq its n ∧ its.size ≤ sizeLine ∧ Vals xs its.toList
def absV : Value → Option V
  | .none => some .non
  | .bool b => some (.bl b)
  | .int i _ => some (.int i)
  | .str x _ => some (.str x)
  | .bytes b _ => some (.byt b)
  | .float b _ => some (.flt b)
  | .ref a => some (.ref a)
  | .type n => some (.ty n)
  | _ => none
theorem RelV.abs {x : V} {u : Value} (r : RelV x u) : absV u = some x := by
  cases x with
  | non => cases r; rfl
  | bl _ => cases r; rfl
  | int _ => obtain ⟨t, rfl⟩ := r; rfl
  | str _ => obtain ⟨t, rfl⟩ := r; rfl
  | byt _ => obtain ⟨t, rfl⟩ := r; rfl
  | flt _ => obtain ⟨t, rfl⟩ := r; rfl
  | ref _ => cases r; rfl
  | ty _ => cases r; rfl
theorem RelV.inj {x y : V} {u : Value} (r : RelV x u) (q : RelV y u) : x = y := Option.some.inj (r.abs.symm.trans q.abs)
theorem Vals.inj : ∀ {xs ys : List V} {us : List Value}, Vals xs us → Vals ys us → xs = ys
  | _, _, _, .nil, .nil => rfl
  | _, _, _, .cons r t, .cons r' t' => by rw [r.inj r', Vals.inj t t']
section
variable {X : Cx} {pins : List (Addr × Obj)} {σ : St} {H : Hp} {s : Shared} {a : Addr} {xs ys : List V}
theorem SqL.of {K : PySem.W.Frag} (h : H a = some (.lst xs)) : SqL K H a xs := .inl (.inl h)
theorem SqT.of {K : PySem.W.Frag} (h : H a = some (.tup xs)) : SqT K H a xs := .inl (.inl h)
theorem Inv.list (I : Inv X pins σ H s) (h : SqL X.K H a xs) : ∃ its : List Value, Vals xs its ∧ PlainL s.heap a its.toArray ∧ xs.length ≤ sizeLine := by
  rcases h with h | ⟨o, its, n, hk, hc, hd, hs, hz, r⟩
  · obtain ⟨z, its, n, r, e⟩ := h.ok I.hok
    exact ⟨its, r, ⟨_, n, e, rfl, rfl, rfl⟩, z⟩
  · refine ⟨its.toList, r, ⟨o, n, I.kIn a o hk, hc, hd, by simpa using hs⟩, ?_⟩
    have e := r.length
    simp only [Array.length_toList] at e
    omega
theorem Inv.tuple (I : Inv X pins σ H s) (h : SqT X.K H a xs) : ∃ its : List Value, Vals xs its ∧ IsTup s.heap a its.toArray ∧ xs.length ≤ sizeLine := by
  rcases h with h | ⟨o, its, n, hk, hc, hs, hz, r⟩
  · obtain ⟨z, its, r, p⟩ := h.ok I.hok
    exact ⟨its, r, p, z⟩
  · refine ⟨its.toList, r, ⟨o, I.kIn a o hk, hc, n, by simpa using hs⟩, ?_⟩
    have e := r.length
    simp only [Array.length_toList] at e
    omega
theorem Inv.list_inj (I : Inv X pins σ H s) (h : SqL X.K H a xs) (h' : SqL X.K H a ys) : xs = ys := by
  obtain ⟨its, r, ⟨o, n, e, _, _, d⟩, _⟩ := I.list h
  obtain ⟨its', r', ⟨o', n', e', _, _, d'⟩, _⟩ := I.list h'
  rw [e] at e'; cases e'
  rw [d] at d'
  injection d' with d1 _
  have : its = its' := by simpa using congrArg Array.toList d1
  subst this
  exact r.inj r'
theorem Inv.tuple_inj (I : Inv X pins σ H s) (h : SqT X.K H a xs) (h' : SqT X.K H a ys) : xs = ys := by
  obtain ⟨its, r, ⟨o, e, _, n, d⟩, _⟩ := I.tuple h
  obtain ⟨its', r', ⟨o', e', _, n', d'⟩, _⟩ := I.tuple h'
  rw [e] at e'; cases e'
  rw [d] at d'
  injection d' with d1 _
  have : its = its' := by simpa using congrArg Array.toList d1
  subst this
  exact r.inj r'
end

abbrev Cx.wish (X : Cx) (E : Value → Shared → Prop) : Cx := { X with xe := E }
abbrev Cx.nox (X : Cx) : Cx := X.wish fun _ _ => False
theorem Cx.Ok.wish {X : Cx} (ok : X.Ok) (E : Value → Shared → Prop) : (X.wish E).Ok :=
  ⟨ok.mod, ok.kind, ok.glob, ok.blt, ok.above, ok.inj, ok.has, ok.cab, ok.hd, ok.frames, ok.stk, ok.exf, ok.bs, ok.bsz, ok.noex, ok.exfs, ok.funs, ok.frf⟩
theorem Cx.Ok.unwish {X : Cx} {E : Value → Shared → Prop} (ok : (X.wish E).Ok) : X.Ok :=
  ⟨ok.mod, ok.kind, ok.glob, ok.blt, ok.above, ok.inj, ok.has, ok.cab, ok.hd, ok.frames, ok.stk, ok.exf, ok.bs, ok.bsz, ok.noex, ok.exfs, ok.funs, ok.frf⟩
section
variable {X : Cx} {pins : List (Addr × Obj)} {σ : St} {H : Hp} {s : Shared} {E : Value → Shared → Prop}
theorem Inv.wish (I : Inv X pins σ H s) (E : Value → Shared → Prop) : Inv (X.wish E) pins σ H s := ⟨I.ok.wish E, I.os, I.bare, I.base, I.loc, I.cell, I.free, I.freeC, I.pin, I.hok, I.len⟩
theorem Inv.unwish (I : Inv (X.wish E) pins σ H s) : Inv X pins σ H s := ⟨I.ok.unwish, I.os, I.bare, I.base, I.loc, I.cell, I.free, I.freeC, I.pin, I.hok, I.len⟩
theorem SP.unwish {D : Ends} {f : Flow} {s' : Shared} (h : SP (X.wish E) pins D f s') : SP X pins D f s' := by
  cases f with
  | next => obtain ⟨σ', H', I, q⟩ := h; exact ⟨σ', H', I.unwish, q⟩
  | brk => obtain ⟨σ', H', I, q⟩ := h; exact ⟨σ', H', I.unwish, q⟩
  | cont => obtain ⟨σ', H', I, q⟩ := h; exact ⟨σ', H', I.unwish, q⟩
  | ret u => obtain ⟨v, σ', H', I, r, q⟩ := h; exact ⟨v, σ', H', I.unwish, r, q⟩
theorem PE.nox {e : Expr} {t : TE} (h : PE X.nox e t) : PE X e t := fun pins s σ H Q I hw =>
  wpAny_mono (h pins s σ H Q (I.wish _) hw) (fun _ _ ⟨v, H', I', r, q⟩ => ⟨v, H', I'.unwish, r, q⟩) fun _ _ z => False.elim z
theorem PT.nox {e : Expr} {t : TT} (h : PT X.nox e t) : PT X e t := fun pins s σ H Q I hw =>
  wpAny_mono (h pins s σ H Q (I.wish _) hw) (fun _ _ ⟨H', I', q⟩ => ⟨H', I'.unwish, q⟩) fun _ _ z => False.elim z
theorem PSs.nox {st : List Stmt} {t : TS} (h : PSs X.nox st t) : PSs X st t := fun pins s σ H D I hw =>
  wpAny_mono (h pins s σ H D (I.wish _) hw) (fun _ _ q => q.unwish) fun _ _ z => False.elim z
end

section
variable {X : Cx} {st : Stmt} {rest : List Stmt} {t u : TS} {e : Expr} {te : TE} {pos : Pos}
def tNext : TS := fun D σ H => D.nx σ H
def tSeq (t u : TS) : TS := fun D σ H => t { D with nx := u D } σ H
theorem pss_nil : PSs X [] tNext := fun _ _ σ H _ I h => wpAny_execs_nil ⟨σ, H, I, h⟩
theorem pss_cons (h1 : PS X st t) (h2 : PSs X rest u) : PSs X (st :: rest) (tSeq t u) := by
  intro pins s σ H D I h
  refine wpAny_execs_cons (thn (h1 pins s σ H { D with nx := u D } I h) fun f s1 q => ?_)
  cases f with
  | next =>
    obtain ⟨σ', H', I', q⟩ := q
    exact h2 pins s1 σ' H' D I' q
  | ret v => exact q
  | brk => exact q
  | cont => exact q
theorem pss_one (h1 : PS X st t) : PSs X [st] t := by
  intro pins s σ H D I h
  refine wpAny_execs_cons (thn (h1 pins s σ H D I h) fun f s1 q => ?_)
  cases f with
  | next => exact wpAny_execs_nil q
  | ret v => exact q
  | brk => exact q
  | cont => exact q
def tBreak : TS := fun D σ H => D.bk σ H
theorem ps_break : PS X (.Break pos) tBreak := fun _ _ σ H _ I h => wpAny_Break ⟨σ, H, I, h⟩
theorem Inv.quiet {pins : List (Addr × Obj)} {σ : St} {H : Hp} {s : Shared} (I : Inv X pins σ H s) : interactive X.env = false := by simp [interactive, I.ok.kind]
def tDrop (te : TE) : TS := fun D σ H => te σ H fun _ H1 => D.nx σ H1
theorem ps_expr (he : PE X e te) (hs : swapsWith e none pos.line X.env = pure false := by rfl) : PS X (.Expr e pos) (tDrop te) := by
  intro pins s σ H D I h
  exact wpAny_Expr_any (thn (he pins s σ H _ I h) fun v s1 ⟨x, H1, I1, r1, q1⟩ => ⟨σ, H1, I1, q1⟩) I.quiet hs
def tRet (te : TE) : TS := fun D σ H => te σ H D.rt
theorem ps_ret (he : PE X e te) : PS X (.Return (some e) pos) (tRet te) := by
  intro pins s σ H D I h
  exact wpAny_Return_some (thn (he pins s σ H _ I h) fun v s1 ⟨x, H1, I1, r1, q1⟩ => ⟨x, σ, H1, I1, r1, q1⟩)
def tIfS (c : TT) (t u : TS) : TS := fun D σ H => c σ H fun b H1 => if b = true then t D σ H1 else u D σ H1
theorem ps_if {c : Expr} {a b : List Stmt} {tc : TT} (hc : PT X c tc) (ha : PSs X a t) (hb : PSs X b u) : PS X (.If c a b pos) (tIfS tc t u) := by
  intro pins s σ H D I h
  refine wpAny_If (thn (hc pins s σ H _ I h) fun d s1 ⟨H1, I1, q1⟩ => ?_)
  cases d with
  | true => exact ha pins s1 σ H1 D I1 q1
  | false => exact hb pins s1 σ H1 D I1 q1
def tNever : TS := fun _ _ _ => False
theorem ps_never : PS X st tNever := fun _ _ _ _ _ _ h => h.elim
end

abbrev TG := V → St → Hp → (St → Hp → Prop) → Prop
abbrev TGs := List V → St → Hp → (St → Hp → Prop) → Prop
def PG (X : Cx) (target : Expr) (t : TG) : Prop :=
  ∀ (pins : List (Addr × Obj)) (s : Shared) (σ : St) (H : Hp) (v : V) (u : Value) (Q : St → Hp → Prop), Inv X pins σ H s → RelV v u → t v σ H Q →
    wpAny (model X.prog X.w) X.A (assign target X.env u) (fun _ s' => ∃ σ' H', Inv X pins σ' H' s' ∧ Q σ' H') X.xe s
def PGs (X : Cx) (ts : List Expr) (t : TGs) : Prop :=
  ∀ (pins : List (Addr × Obj)) (s : Shared) (σ : St) (H : Hp) (vs : List V) (us : List Value) (Q : St → Hp → Prop), Inv X pins σ H s → Vals vs us → t vs σ H Q →
    wpAny (model X.prog X.w) X.A (assignInOrder ((assignEach ts X.env).map (·.2)) us) (fun _ s' => ∃ σ' H', Inv X pins σ' H' s' ∧ Q σ' H') X.xe s
abbrev TSet := V → V → V → Hp → (Hp → Prop) → Prop
def PSet (X : Cx) (t : TSet) : Prop :=
  ∀ (pins : List (Addr × Obj)) (s : Shared) (σ : St) (H : Hp) (o i v : V) (ov iv u : Value) (Q : Hp → Prop), Inv X pins σ H s → RelV o ov → RelV i iv → RelV v u → t o i v H Q →
    wpAny (model X.prog X.w) X.A (setItem ov iv u) (fun _ s' => ∃ H', Inv X pins σ H' s' ∧ Q H') X.xe s
abbrev TIp := V → V → Hp → VK → Prop
def PIp (X : Cx) (op : Operator) (t : TIp) : Prop :=
  ∀ (pins : List (Addr × Obj)) (s : Shared) (σ : St) (H : Hp) (x y : V) (v u : Value) (Q : VK), Inv X pins σ H s → RelV x v → RelV y u → t x y H Q →
    wpAny (model X.prog X.w) X.A (inplaceOp op v u) (EP X pins σ Q) X.xe s
section
variable {X : Cx} {pos : Pos}
def gName (i : Nat) : TG := fun v σ H Q => Q (σ.set i (some v)) H
theorem pg_name {i : Nat} {x : Str} (hN : X.N.Nodup) (hi : X.N[i]? = some x) (hx : Loc X.env.scope x) (hf : X.fn x = true ∨ X.env.scope.names.lookup x = some .local := by first | exact .inl rfl | exact .inr rfl | assumption) : PG X (.Name x pos) (gName i) := by
  intro pins s σ H v u Q I r h
  exact wpAny_assign_Name (store_ok I hN hi hx r (fun s' I' => ⟨_, H, I', h⟩) hf)
def gNil : TGs := fun vs σ H Q => vs = [] ∧ Q σ H
def gCons (t : TG) (u : TGs) : TGs := fun vs σ H Q => ∃ v r, vs = v :: r ∧ t v σ H fun σ' H' => u r σ' H' Q
theorem pgs_nil : PGs X [] gNil := by
  intro pins s σ H vs us Q I r h
  obtain ⟨e, h⟩ := h
  subst e
  cases r
  exact assignInOrder_nil ⟨σ, H, I, h⟩
theorem pgs_cons {e : Expr} {es : List Expr} {t : TG} {u : TGs} (h1 : PG X e t) (h2 : PGs X es u)
    (hs : (assignEach (e :: es) X.env).map (·.2) = assign e X.env :: (assignEach es X.env).map (·.2) := by rfl) : PGs X (e :: es) (gCons t u) := by
  intro pins s σ H vs us Q I r h
  obtain ⟨v, vr, e1, h⟩ := h
  subst e1
  cases r with
  | cons r rr =>
    rw [hs]
    refine assignInOrder_cons (thn (h1 pins s σ H _ _ _ I r h) fun _ s1 ⟨σ1, H1, I1, q1⟩ => ?_)
    exact h2 pins s1 σ1 H1 _ _ Q I1 rr q1
def gTup (K : PySem.W.Frag) (n : Nat) (t : TGs) : TG := fun v σ H Q => ∃ a xs, v = .ref a ∧ SqT K H a xs ∧ xs.length = n ∧ t xs σ H Q
theorem pg_tup {es : List Expr} {k : Nat} {t : TGs} {n : Nat} (hc : X.calm = true) (h : PGs X es t)
    (hn : (assignEach es X.env).length = n := by rfl) (hst : (assignEach es X.env).findIdx? (·.1) = none := by rfl) : PG X (.Tuple es k pos) (gTup X.K n t) := by
  intro pins s σ H v u Q I r hw
  obtain ⟨a, xs, e1, hq, hl, hw⟩ := hw
  subst e1
  cases r
  obtain ⟨its, rv, ht, hz⟩ := I.tuple hq
  refine assign_Tuple_tuple (I.ok.hd hc) ht (by simp [hn, ← hl, rv.length]) hst fun h' hx => ?_
  have I1 : Inv X pins σ H { s with heap := h' } := I.kept (t' := s.toks) fun b o e => hx b o (Nat.ne_of_lt (Heap.lt_size e)) e
  exact h pins _ σ H xs _ Q I1 (by simpa using rv) hw
def gSub (to ti : TE) (t : TSet) : TG := fun v σ H Q => to σ H fun o H1 => ti σ H1 fun i H2 => t o i v H2 fun H3 => Q σ H3
theorem pg_sub {o i : Expr} {to ti : TE} {t : TSet} (ho : PE X o to) (hi : PE X i ti) (hs : PSet X t)
    (ha : ∀ v, assign (.Subscript o i pos) X.env v = (do
      let ov ← holding [v] (eval o X.env)
      let iv ← holding [v, ov] (eval i X.env)
      standAt pos
      holding [v, ov, iv] (setItem ov iv v)
      release [v, ov, iv] []) := by intro _; rfl) : PG X (.Subscript o i pos) (gSub to ti t) := by
  intro pins s σ H v u Q I r h
  rw [ha]
  refine wpAny_bind (wpAny_holding (thn (ho pins s σ H _ I h) fun ov s1 ⟨x, H1, I1, r1, q1⟩ => ?_))
  refine wpAny_bind (wpAny_holding (thn (hi pins s1 σ H1 _ I1 q1) fun iv s2 ⟨y, H2, I2, r2, q2⟩ => ?_))
  refine wpAny_bind (wpAny_standAt (wpAny_bind (wpAny_holding (thn (hs pins s2 σ H2 x y v ov iv u _ I2 r1 r2 r q2) fun _ s3 ⟨H3, I3, q3⟩ => ?_))))
  exact wpAny_release ⟨σ, H3, I3, q3⟩
def tAsg (te : TE) (g : TG) : TS := fun D σ H => te σ H fun x H1 => g x σ H1 D.nx
theorem ps_asg {tg e : Expr} {te : TE} {g : TG} (he : PE X e te) (hg : PG X tg g) (hs : swapsWithSole [tg] e pos.line X.env = pure false := by rfl) (hw : swappedStores [tg] e X.env = pure none := by rfl)
    (h1 : (assignEach [tg] X.env).map (·.2) = [assign tg X.env] := by rfl) : PS X (.Assign [tg] e pos) (tAsg te g) := by
  intro pins s σ H D I h
  refine wpAny_Assign_stores (thn (he pins s σ H _ I h) fun v s1 ⟨x, H1, I1, r1, q1⟩ => ?_) hs hw
  rw [h1]
  exact thn (hg pins s1 σ H1 x v _ I1 r1 q1) fun _ s2 q => q
theorem ps_set {i : Nat} {x : Str} {e : Expr} {te : TE} {pos' : Pos} (hN : X.N.Nodup) (hi : X.N[i]? = some x) (hx : Loc X.env.scope x) (he : PE X e te) (hs : swapsWith e (some (.Name x pos')) pos.line X.env = pure false := by rfl) (hf : X.fn x = true ∨ X.env.scope.names.lookup x = some .local := by first | exact .inl rfl | exact .inr rfl | assumption) :
    PS X (.Assign [.Name x pos'] e pos) (tAsg te (gName i)) := by
  intro pins s σ H D I h
  refine wpAny_Assign_Name (thn (he pins s σ H _ I h) fun v s1 ⟨y, H1, I1, r1, q1⟩ => ?_) hs
  exact store_ok I1 hN hi hx r1 (fun s2 I2 => ⟨_, H1, I2, q1⟩) hf
def tAug (i : Nat) (te : TE) (ti : TIp) : TS := fun D σ H => ∃ x, σ[i]? = some (some x) ∧ te σ H fun y H1 => ti x y H1 fun z H2 => D.nx (σ.set i (some z)) H2
theorem ps_aug {i : Nat} {x : Str} {e : Expr} {te : TE} {op : Operator} {ti : TIp} {pos' : Pos} (hN : X.N.Nodup) (hi : X.N[i]? = some x) (hx : Loc X.env.scope x) (he : PE X e te) (ho : PIp X op ti) (hf : X.fn x = true ∨ X.env.scope.names.lookup x = some .local := by first | exact .inl rfl | exact .inr rfl | assumption) :
    PS X (.AugAssign (.Name x pos') op e pos) (tAug i te ti) := by
  intro pins s σ H D I h
  obtain ⟨v, e1, h⟩ := h
  obtain ⟨m, hn, hl⟩ := I.loc
  have vis : Vis X.env.scope x := by rcases hx with k | k; exact .inl k; exact .inr (.inl k)
  obtain ⟨u, r, l⟩ := hl i x v hi e1 vis
  refine wpAny_AugAssign_Name ?_
  have go : wpAny (model X.prog X.w) X.A (eval e X.env) (fun w s₂ => wpAny (model X.prog X.w) X.A (inplaceOp op u w) (fun r s₃ => wpAny (model X.prog X.w) X.A (storeName X.env x r) (fun _ => SP X pins D .next) X.xe s₃) X.xe s₂) X.xe s := by
    refine thn (he pins s σ H _ I h) fun w s1 ⟨y, H1, I1, r1, q1⟩ => ?_
    refine thn (ho pins s1 σ H1 v y u w _ I1 r r1 q1) fun z s2 ⟨zv, H2, I2, r2, q2⟩ => ?_
    exact store_ok I2 hN hi hx r2 (fun s3 I3 => ⟨_, H2, I3, q2⟩) hf
  rcases l with ⟨hk, hm⟩ | ⟨hk, c, hc, hcell⟩
  · exact wpAny_loadName_local I.ok.kind hk hn hm go
  · rcases hk with hk | hk
    · exact wpAny_loadName_cell I.ok.kind hk hc hcell go
    · rcases hx with k | k
      · have : X.env.scope.names.lookup x = some .free := hk
        rw [k] at this; cases this
      · have : X.env.scope.names.lookup x = some .free := hk
        rw [k] at this; cases this
def ipI (f : Int → Int → Int) : TIp := fun x y H Q => ∃ i j, x = .int i ∧ y = .int j ∧ Q (.int (f i j)) H
theorem ip_add : PIp X .Add (ipI fun i j => i + j) := by
  intro pins s σ H x y v u Q I r1 r2 h
  obtain ⟨i, j, e1, e2, q⟩ := h
  subst e1; subst e2
  obtain ⟨t, rfl⟩ := r1
  obtain ⟨t', rfl⟩ := r2
  exact iadd_int ⟨.int _, H, I.tok _, ⟨_, rfl⟩, q⟩
end

section
variable {X : Cx} {pos : Pos}
def tWhile (c : TT) (tb : TS) : TS := fun D σ H => ∃ W : Nat → St → Hp → Prop, (∃ m, W m σ H) ∧ ∀ m σ H, W m σ H →
  c σ H fun b H1 => if b = true then ∃ N : St → Hp → Prop, (∀ σ' H', N σ' H' → ∃ m', m' < m ∧ W m' σ' H') ∧ tb { D with nx := N, ct := N, bk := D.nx } σ H1 else D.nx σ H1
theorem ps_while {c : Expr} {body : List Stmt} {tc : TT} {tb : TS} (hp : PassesOwn (model X.prog X.w) X.A X.env X.xe) (hc : PT X c tc) (hb : PSs X body tb) : PS X (.While c body [] pos) (tWhile tc tb) := by
  intro pins s σ H D I h
  obtain ⟨W, ⟨m0, w0⟩, turn⟩ := h
  refine wpAny_While (codeAny_whileLoop (fun n s' => ∃ σ' H', Inv X pins σ' H' s' ∧ W n σ' H') ?_ m0 ⟨σ, H, I, w0⟩)
  rintro n s1 ⟨σ1, H1, I1, w1⟩
  refine wpAny_passesOwn hp (thn (hc pins s1 σ1 H1 _ I1 (turn n σ1 H1 w1)) fun b s2 ⟨H2, I2, q2⟩ => ?_)
  cases b with
  | true =>
    obtain ⟨N, hN, q2⟩ := q2
    rw [if_pos rfl]
    refine wpAny_passesOwn hp (thn (hb pins s2 σ1 H2 _ I2 q2) fun f s3 q3 => ?_)
    cases f with
    | next =>
      obtain ⟨σ3, H3, I3, n3⟩ := q3
      obtain ⟨m', hm, w3⟩ := hN σ3 H3 n3
      exact ⟨m', hm, σ3, H3, I3, w3⟩
    | cont =>
      obtain ⟨σ3, H3, I3, n3⟩ := q3
      obtain ⟨m', hm, w3⟩ := hN σ3 H3 n3
      exact ⟨m', hm, σ3, H3, I3, w3⟩
    | brk => exact q3
    | ret v => exact q3
  | false =>
    rw [if_neg Bool.false_ne_true]
    exact wpAny_execs_nil ⟨σ1, H2, I2, q2⟩
end

structure It where
  go : Nat → Hp → Prop
  yld : Nat → Hp → V → Hp → Prop
  stop : Nat → Hp → Prop
def FpOk (X : Cx) (pins : List (Addr × Obj)) (H : Hp) (b : Addr) : Prop :=
  H b = none ∧ b ≠ X.env.locals ∧ b ∉ X.fs ∧ (b ∈ X.ex ∨ X.s₀.heap.objs.size ≤ b) ∧ (∀ x c, X.env.cells.lookup x = some c → c ≠ b) ∧ ∀ p ∈ X.pn ++ pins, p.1 ≠ b
theorem Inv.fpOk {X : Cx} {pins : List (Addr × Obj)} {σ : St} {H H' : Hp} {s : Shared} {b : Addr} (I : Inv X pins σ H s) (hb : s.heap.objs.size ≤ b) (hn : H' b = none) : FpOk X pins H' b := by
  refine ⟨hn, Nat.ne_of_gt (Nat.lt_of_lt_of_le I.lt hb), I.nofs hb, .inr (Nat.le_trans I.sz hb), fun x c e z => ?_, fun p hp z => ?_⟩
  · obtain ⟨v, q⟩ := I.cell x c e
    exact absurd (Nat.lt_of_lt_of_le q.lt (by rw [z]; exact hb)) (Nat.lt_irrefl _)
  · exact absurd (Nat.lt_of_lt_of_le (Heap.lt_size (I.pin p hp).1) (by rw [z]; exact hb)) (Nat.lt_irrefl _)
structure Turn (P : Program) (w : World) (K : PySem.W.Frag) (tg : Expr) (J : It) (fp : List Addr) (it : Addr) (tn : Nat → Heap → Prop) : Prop where
  mem : it ∈ fp
  obj : ∀ i h, tn i h → ∀ b ∈ fp, ∃ o, h.get? b = some o ∧ ∀ v, o.data ≠ .cell v
  keep : ∀ i h h', tn i h → (∀ b ∈ fp, ∀ o, h.get? b = some o → h'.get? b = some o) → tn i h'
  item : ∀ (X : Cx), X.prog = P → X.w = w → X.K = K → X.calm = true → ∀ (i : Nat) (pins : List (Addr × Obj)) (s : Shared) (σ : St) (H : Hp) (E : Value → Shared → Prop), Inv X pins σ H s → (∀ b ∈ fp, FpOk X pins H b) → tn i s.heap → J.go i H →
    wpAny (model P w) X.A (pyNext (.ref it)) (fun r s1 => ∃ u, r = some u ∧
      wpAny (model P w) X.A (letOwnedTupleGo tg (.ref it) u) (fun _ s2 => ∃ x H', Inv X pins σ H' s2 ∧ RelV x u ∧ J.yld i H x H' ∧ tn (i + 1) s2.heap ∧ ∀ b ∈ fp, H' b = none) E s1) E s
  done : ∀ (X : Cx), X.prog = P → X.w = w → X.K = K → X.calm = true → ∀ (i : Nat) (pins : List (Addr × Obj)) (s : Shared) (σ : St) (H : Hp) (E : Value → Shared → Prop), Inv X pins σ H s → (∀ b ∈ fp, FpOk X pins H b) → tn i s.heap → J.stop i H →
    wpAny (model P w) X.A (pyNext (.ref it)) (fun r s1 => r = none ∧ Inv X pins σ H s1) E s
  self : ∀ (A : Around) (i : Nat) (s : Shared) (Q : Value → Shared → Prop) (E : Value → Shared → Prop), tn i s.heap → Q (.ref it) s → wpAny (model P w) A (pyIter (.ref it)) Q E s
abbrev TI := St → Hp → (It → Hp → Prop) → Prop
def PIE (X : Cx) (pins : List (Addr × Obj)) (σ : St) (tg : Expr) (R : It → Hp → Prop) (itv : Value) (s2 : Shared) : Prop :=
  ∃ (it : Addr) (fp : List Addr) (tn : Nat → Heap → Prop) (J : It) (H' : Hp), itv = .ref it ∧ Inv X pins σ H' s2 ∧ Turn X.prog X.w X.K tg J fp it tn ∧ tn 0 s2.heap ∧ (∀ b ∈ fp, FpOk X pins H' b) ∧ R J H'
def PI (X : Cx) (tg iter : Expr) (wi : TI) : Prop :=
  ∀ (pins : List (Addr × Obj)) (s : Shared) (σ : St) (H : Hp) (R : It → Hp → Prop), Inv X pins σ H s → wi σ H R →
    wpAny (model X.prog X.w) X.A (eval iter X.env) (fun v s1 => wpAny (model X.prog X.w) X.A (pyIter v) (PIE X pins σ tg R) X.xe s1) X.xe s

theorem go_of {M : Model} {A : Around} {E : Value → Shared → Prop} {s : Shared} {tg : Expr} {it : Addr} {u : Value} {o : Obj} {n : String} {vs : Array Value} {Q : Unit → Shared → Prop} (ho : s.heap.get? it = some o) (hc : o.cls = .type n) (hd : o.data = .fields vs)
    (hn : ["enumerate", "zip", "dict_itemiterator", "dict_reverseitemiterator", "odict_iterator", "itertools.zip_longest", "itertools.pairwise"].contains n = false) (hQ : Q () s) : wpAny M A (letOwnedTupleGo tg (.ref it) u) Q E s := by
  unfold letOwnedTupleGo
  cases tg <;> first
    | exact wpAny_pure hQ
    | (cases u <;> first
        | exact wpAny_pure hQ
        | (refine wpAny_bind (wpAny_load ho ?_)
           rw [hc, hd]
           show wpAny M A (if (["enumerate", "zip", "dict_itemiterator", "dict_reverseitemiterator", "odict_iterator", "itertools.zip_longest", "itertools.pairwise"].contains n && vs[0]? == some (rawInt _)) = true then _ else _) Q E s
           rw [if_neg (by intro h; rw [hn, Bool.false_and] at h; cases h)]
           exact wpAny_pure hQ))

def Itl (K : PySem.W.Frag) (a : Addr) : It :=
  ⟨fun i H => ∃ xs x, SqL K H a xs ∧ xs[i]? = some x, fun i H x H' => H' = H ∧ ∀ xs, SqL K H a xs → xs[i]? = some x, fun i H => ∃ xs, SqL K H a xs ∧ xs.length ≤ i⟩
def Itt (K : PySem.W.Frag) (a : Addr) : It :=
  ⟨fun i H => ∃ xs x, SqT K H a xs ∧ xs[i]? = some x, fun i H x H' => H' = H ∧ ∀ xs, SqT K H a xs → xs[i]? = some x, fun i H => ∃ xs, SqT K H a xs ∧ xs.length ≤ i⟩
def Itr (lo : Int) (n : Nat) : It := ⟨fun i _ => i < n, fun i H x H' => H' = H ∧ x = .int (lo + i), fun i _ => n ≤ i⟩
theorem turn_list {P : Program} {w : World} {K : PySem.W.Frag} {tg : Expr} (a it : Addr) : Turn P w K tg (Itl K a) [it] it (fun i h => h.IsListIter it a i) where
  mem := by simp
  obj := fun i h st b hb => by
    have e : b = it := by simpa using hb
    subst e
    obtain ⟨o, e, c, d⟩ := st
    exact ⟨o, e, fun v z => by rw [d] at z; cases z⟩
  keep := fun i h h' st k => st.at fun o e => k it (by simp) o e
  item := by
    intro X hP hw hK hc i pins s σ H E I hf st hg
    subst hP hw hK
    obtain ⟨xs, x, hq, hx⟩ := hg
    obtain ⟨its, rv, p, hz⟩ := I.list hq
    obtain ⟨u, hu, ru⟩ := rv.get hx
    obtain ⟨f0, f1, f2, f3, f4, f5⟩ := hf it (by simp)
    refine wpAny_pyNext_list_item st p.isList (x := u) (by simpa using hu) fun h' st' sb => ?_
    have I1 : Inv X pins σ H { s with heap := h' } := I.turned (t' := s.toks) (fun b o hb e => (sb.2 b hb).trans e) f0 f1 f3 f4 f5
    obtain ⟨o, e, c, d⟩ := id st'
    exact ⟨u, rfl, go_of (s := { s with heap := h' }) e c d (by decide) ⟨x, H, I1, ru, ⟨rfl, fun ys hy => by rw [I.list_inj hy hq]; exact hx⟩, st', fun b hb => (hf b hb).1⟩⟩
  done := by
    intro X hP hw hK hc i pins s σ H E I hf st hg
    subst hP hw hK
    obtain ⟨xs, hq, hx⟩ := hg
    obtain ⟨its, rv, p, hz⟩ := I.list hq
    obtain ⟨f0, f1, f2, f3, f4, f5⟩ := hf it (by simp)
    have hl := rv.length
    exact wpAny_pyNext_list_end (I.ok.hd hc) st p.isList (by simp; omega) fun h' eb => ⟨rfl, I.turned (t' := s.toks) (fun b o hb e => eb b o hb e) f0 f1 f3 f4 f5⟩
  self := fun _ _ _ _ _ st h => wpAny_pyIter_listiter st h
theorem turn_tuple {P : Program} {w : World} {K : PySem.W.Frag} {tg : Expr} (a it : Addr) : Turn P w K tg (Itt K a) [it] it (fun i h => h.IsTupleIter it a i) where
  mem := by simp
  obj := fun i h st b hb => by
    have e : b = it := by simpa using hb
    subst e
    obtain ⟨o, e, c, d⟩ := st
    exact ⟨o, e, fun v z => by rw [d] at z; cases z⟩
  keep := fun i h h' st k => st.at fun o e => k it (by simp) o e
  item := by
    intro X hP hw hK hc i pins s σ H E I hf st hg
    subst hP hw hK
    obtain ⟨xs, x, hq, hx⟩ := hg
    obtain ⟨its, rv, p, hz⟩ := I.tuple hq
    obtain ⟨u, hu, ru⟩ := rv.get hx
    obtain ⟨f0, f1, f2, f3, f4, f5⟩ := hf it (by simp)
    refine wpAny_pyNext_tuple_item st (show s.heap.IsTuple a its.toArray from p) (x := u) (by simpa using hu) fun h' st' sb => ?_
    have I1 : Inv X pins σ H { s with heap := h' } := I.turned (t' := s.toks) (fun b o hb e => (sb.2 b hb).trans e) f0 f1 f3 f4 f5
    obtain ⟨o, e, c, d⟩ := id st'
    exact ⟨u, rfl, go_of (s := { s with heap := h' }) e c d (by decide) ⟨x, H, I1, ru, ⟨rfl, fun ys hy => by rw [I.tuple_inj hy hq]; exact hx⟩, st', fun b hb => (hf b hb).1⟩⟩
  done := by
    intro X hP hw hK hc i pins s σ H E I hf st hg
    subst hP hw hK
    obtain ⟨xs, hq, hx⟩ := hg
    obtain ⟨its, rv, p, hz⟩ := I.tuple hq
    obtain ⟨f0, f1, f2, f3, f4, f5⟩ := hf it (by simp)
    have hl := rv.length
    exact wpAny_pyNext_tuple_end (I.ok.hd hc) st (show s.heap.IsTuple a its.toArray from p) (by simp; omega) fun h' eb => ⟨rfl, I.turned (t' := s.toks) (fun b o hb e => eb b o hb e) f0 f1 f3 f4 f5⟩
  self := fun _ _ _ _ _ st h => wpAny_pyIter_tupleiter st h
theorem turn_range {P : Program} {w : World} {K : PySem.W.Frag} {tg : Expr} (it : Addr) (lo : Int) (n : Nat) : Turn P w K tg (Itr lo n) [it] it (fun i h => IsRangeIter h it (lo + (i : Nat) * 1) ((n : Int) - (i : Nat)) 1) where
  mem := by simp
  obj := fun i h st b hb => by
    have e : b = it := by simpa using hb
    subst e
    exact ⟨_, st, fun v z => by
      have z' : Data.fields _ = Data.cell v := z
      cases z'⟩
  keep := fun i h h' st k => k it (by simp) _ st
  item := by
    intro X hP hw hK hc i pins s σ H E I hf st hg
    subst hP hw hK
    obtain ⟨f0, f1, f2, f3, f4, f5⟩ := hf it (by simp)
    have W := Walks.range (prog := X.prog) (w := X.w) (I.ok.hd hc) it lo 1 n
    refine W.item i s _ _ hg st fun v h' tk hv st' kk => ?_
    obtain ⟨t, rfl⟩ := hv
    have I1 : Inv X pins σ H { s with heap := h', toks := tk } := I.turned (fun b o hb e => kk b o (by simpa using hb) e) f0 f1 f3 f4 f5
    refine ⟨_, rfl, go_of (s := { s with heap := h', toks := tk }) (n := "range_iterator") st' rfl rfl (by decide) ⟨.int (lo + i), H, I1, ⟨t, ?_⟩, ⟨rfl, rfl⟩, st', fun b hb => (hf b hb).1⟩⟩
    rw [Int.mul_one]
  done := by
    intro X hP hw hK hc i pins s σ H E I hf st hg
    subst hP hw hK
    obtain ⟨f0, f1, f2, f3, f4, f5⟩ := hf it (by simp)
    exact wpAny_pyNext_range_end (I.ok.hd hc) st (by have : n ≤ i := hg; omega) fun h' eb => ⟨rfl, I.turned (t' := s.toks) (fun b o hb e => eb b o hb e) f0 f1 f3 f4 f5⟩
  self := fun _ _ _ _ _ st h => wpAny_pyIter_rangeiter st h
end L2

namespace L2
open PySem PySem.Spec PyProof.Rows
section
variable {X : Cx} {tg : Expr}
def iList (K : PySem.W.Frag) (tl : TE) : TI := fun σ H R => tl σ H fun x H1 => ∃ a, x = .ref a ∧ (∃ xs, SqL K H1 a xs) ∧ R (Itl K a) H1
def iTup (K : PySem.W.Frag) (tl : TE) : TI := fun σ H R => tl σ H fun x H1 => ∃ a, x = .ref a ∧ (∃ xs, SqT K H1 a xs) ∧ R (Itt K a) H1
theorem pi_list {l : Expr} {tl : TE} (hl : PE X l tl) : PI X tg l (iList X.K tl) := by
  intro pins s σ H R I h
  refine thn (hl pins s σ H _ I h) fun v s1 ⟨x, H1, I1, r1, q1⟩ => ?_
  obtain ⟨a, e, ⟨xs, hq⟩, q⟩ := q1
  subst e
  cases r1
  obtain ⟨its, rv, p, hz⟩ := I1.list hq
  refine wpAny_pyIter_list p.isList ?_
  refine ⟨s1.heap.objs.size, [s1.heap.objs.size], _, _, H1, rfl, I1.kept (t' := s1.toks) fun b o e => Heap.get?_push_of_some _ e, turn_list a _, ⟨_, Heap.get?_push_size _ rfl, rfl, rfl⟩, fun b hb => ?_, q⟩
  have e : b = s1.heap.objs.size := by simpa using hb
  subst e
  exact I1.fpOk (Nat.le_refl _) (I1.hok.fresh (Nat.le_refl _))
theorem pi_tup {l : Expr} {tl : TE} (hl : PE X l tl) : PI X tg l (iTup X.K tl) := by
  intro pins s σ H R I h
  refine thn (hl pins s σ H _ I h) fun v s1 ⟨x, H1, I1, r1, q1⟩ => ?_
  obtain ⟨a, e, ⟨xs, hq⟩, q⟩ := q1
  subst e
  cases r1
  obtain ⟨its, rv, p, hz⟩ := I1.tuple hq
  refine wpAny_pyIter_tuple (show s1.heap.IsTuple a its.toArray from p) ?_
  refine ⟨s1.heap.objs.size, [s1.heap.objs.size], _, _, H1, rfl, I1.kept (t' := s1.toks) fun b o e => Heap.get?_push_of_some _ e, turn_tuple a _, ⟨_, Heap.get?_push_size _ rfl, rfl, rfl⟩, fun b hb => ?_, q⟩
  have e : b = s1.heap.objs.size := by simpa using hb
  subst e
  exact I1.fpOk (Nat.le_refl _) (I1.hok.fresh (Nat.le_refl _))
theorem range_it {pins : List (Addr × Obj)} {σ : St} {H : Hp} {s : Shared} {R : It → Hp → Prop} {E : Value → Shared → Prop} {lo hi : Int} {t u v : Tok} {tk : Nat} (I : Inv X pins σ H s) (h1 : -(2 ^ 62) ≤ lo) (h2 : lo < 2 ^ 62) (h3 : -(2 ^ 62) ≤ hi) (h4 : hi < 2 ^ 62)
    (q : R (Itr lo (hi - lo).toNat) H) : wpAny (model X.prog X.w) X.A (pyIter (.ref s.heap.objs.size)) (PIE X pins σ tg R) E { s with heap := s.heap.push { cls := .type "range", data := .fields #[.int lo t, .int hi u, .int 1 v] }, toks := tk } := by
  refine wpAny_pyIter_range (IsRange.new ..) (small_one h1 h2 h3 h4) ?_
  have I1 : Inv X pins σ H { s with heap := s.heap.push { cls := .type "range", data := .fields #[.int lo t, .int hi u, .int 1 v] }, toks := tk } := I.kept fun b o e => Heap.get?_push_of_some _ e
  refine ⟨(s.heap.push { cls := .type "range", data := .fields #[.int lo t, .int hi u, .int 1 v] }).objs.size, [(s.heap.push { cls := .type "range", data := .fields #[.int lo t, .int hi u, .int 1 v] }).objs.size], _, _, H, rfl,
    I1.kept (t' := tk) fun b o e => Heap.get?_push_of_some _ e, turn_range _ lo (hi - lo).toNat, ?_, fun b hb => ?_, q⟩
  · have e1 : lo + ((0 : Nat) : Int) * 1 = lo := by simp
    have e2 : (((hi - lo).toNat : Nat) : Int) - ((0 : Nat) : Int) = Builtin.Range.rangeSize lo hi 1 := by rw [rangeSize_one]; split <;> omega
    show IsRangeIter _ _ (lo + ((0 : Nat) : Int) * 1) ((((hi - lo).toNat : Nat) : Int) - ((0 : Nat) : Int)) 1
    rw [e1, e2]
    exact Heap.get?_push_size _ rfl
  · have e : b = (s.heap.push { cls := .type "range", data := .fields #[.int lo t, .int hi u, .int 1 v] }).objs.size := by simpa using hb
    subst e
    exact I1.fpOk (Nat.le_refl _) (I1.hok.fresh (Nat.le_refl _))
def iRng1 (ta : TA) : TI := fun σ H R => ta σ H fun vs H1 => ∃ j : Int, vs = [.int j] ∧ -(2 ^ 62) ≤ j ∧ j < 2 ^ 62 ∧ R (Itr 0 j.toNat) H1
theorem pi_range1 {a : Expr} {ta : TA} {p pos : Pos} (hg : Gl X "range") (hm : X.mg "range" = none) (ha : PA X [a] ta) (hs : starEach [a] X.env = [(false, eval a X.env)] := by rfl) : PI X tg (.Call (.Name "range" p) [a] [] pos) (iRng1 ta) := by
  intro pins s σ H R I h
  refine Call_ (ld_blt I hg hm boot_range (PyProof.Rows.callWith_type1 (thn (ha pos pins s σ H _ I h) fun us s1 ⟨vs, H1, I1, r1, q1⟩ => ?_) hs rfl))
  obtain ⟨j, e, q1, q2, q⟩ := q1
  subst e
  cases r1 with
  | cons r rr =>
    cases rr
    obtain ⟨t, rfl⟩ := r
    exact call_range_1 (range_it I1 (by omega) (by omega) q1 q2 (by simpa using q))
def tFor (wi : TI) (g : TG) (tb : TS) : TS := fun D σ H => wi σ H fun J H1 => ∃ W : Nat → Nat → St → Hp → Prop, (∃ m, W 0 m σ H1) ∧ ∀ i m σ H, W i m σ H →
  (J.stop i H ∧ D.nx σ H) ∨ (J.go i H ∧ ∃ N : St → Hp → Prop, (∀ σ' H', N σ' H' → ∃ m', m' < m ∧ W (i + 1) m' σ' H') ∧ ∀ x H', J.yld i H x H' → g x σ H' fun σ2 H2 => tb { D with nx := N, ct := N, bk := D.nx } σ2 H2)
def pinsAt (fp : List Addr) (h : Heap) : List (Addr × Obj) := fp.filterMap fun b => (h.get? b).map fun o => (b, o)
theorem mem_pinsAt {fp : List Addr} {h : Heap} {b : Addr} {o : Obj} (hb : b ∈ fp) (e : h.get? b = some o) : (b, o) ∈ pinsAt fp h := List.mem_filterMap.mpr ⟨b, hb, by rw [e]; rfl⟩
theorem of_pinsAt {fp : List Addr} {h : Heap} {p : Addr × Obj} (hp : p ∈ pinsAt fp h) : p.1 ∈ fp ∧ h.get? p.1 = some p.2 := by
  obtain ⟨b, hb, e⟩ := List.mem_filterMap.mp hp
  cases q : h.get? b with
  | none => rw [q] at e; cases e
  | some o =>
    rw [q] at e
    have e' : (b, o) = p := Option.some.inj e
    subst e'
    exact ⟨hb, q⟩
theorem Inv.pinned {pins : List (Addr × Obj)} {σ : St} {H : Hp} {s : Shared} {fp : List Addr} (I : Inv X pins σ H s) (hf : ∀ b ∈ fp, FpOk X pins H b) (ho : ∀ b ∈ fp, ∃ o, s.heap.get? b = some o ∧ ∀ v, o.data ≠ .cell v) : Inv X (pins ++ pinsAt fp s.heap) σ H s :=
  I.pins_of fun p hp => (List.mem_append.mp hp).elim (fun z => I.pin p (List.mem_append_right _ z)) fun z => by
    obtain ⟨hb, e⟩ := of_pinsAt z
    obtain ⟨f0, f1, f2, _⟩ := hf p.1 hb
    obtain ⟨o, e', d⟩ := ho p.1 hb
    rw [e] at e'; cases e'
    exact ⟨e, f0, f1, f2, d⟩
theorem Inv.unpinned {pins pl : List (Addr × Obj)} {σ : St} {H : Hp} {s : Shared} (I : Inv X (pins ++ pl) σ H s) : Inv X pins σ H s := I.pins_of fun p hp => I.pin p (List.mem_append_right _ (List.mem_append_left _ hp))
theorem ps_for {iter : Expr} {body : List Stmt} {wi : TI} {g : TG} {tb : TS} {pos : Pos} (hp : PassesOwn (model X.prog X.w) X.A X.env X.xe) (hc : X.calm = true) (hi : PI X tg iter wi) (hg : PG X tg g) (hb : PSs X body tb)
    (hs : ∀ x, foldedSetIterable iter X.env x = pure x := by intro _; rfl) : PS X (.For tg iter body [] pos) (tFor wi g tb) := by
  intro pins s σ H D I h
  refine wpAny_For (thn (hi pins s σ H _ I h) fun v s1 h1 => thn h1 fun itv s2 h2 => ?_) hs
  obtain ⟨it, fp, tn, J, H2, e, I2, T, st2, f2, W, ⟨m0, w0⟩, turn⟩ := h2
  subst e
  have stat : ∀ {H' : Hp}, (∀ b ∈ fp, H' b = none) → ∀ b ∈ fp, FpOk X pins H' b := fun hn b hb => ⟨hn b hb, (f2 b hb).2⟩
  refine codeAny_forLoop_any (fun n s' => ∃ i σ' H', Inv X pins σ' H' s' ∧ tn i s'.heap ∧ (∀ b ∈ fp, H' b = none) ∧ W i n σ' H') ?_ m0 ⟨0, σ, H2, I2, st2, fun b hb => (f2 b hb).1, w0⟩
  rintro n s3 ⟨i, σ3, H3, I3, st3, fr3, w3⟩
  rcases turn i n σ3 H3 w3 with ⟨stop, qn⟩ | ⟨go, N, hN, step⟩
  · refine wpAny_passesOwn hp (thn (T.done X rfl rfl rfl hc i pins s3 σ3 H3 X.xe I3 (stat fr3) st3 stop) fun r s4 ⟨hr, I4⟩ => ?_)
    subst hr
    exact wpAny_execs_nil ⟨σ3, H3, I4, qn⟩
  · refine wpAny_passesOwn hp (thn (T.item X rfl rfl rfl hc i pins s3 σ3 H3 X.xe I3 (stat fr3) st3 go) fun r s4 ⟨u, hr, h4⟩ => ?_)
    subst hr
    refine wpAny_passesOwn hp (thn h4 fun _ s5 ⟨x, H5, I5, r5, y5, st5, fr5⟩ => ?_)
    have I5' := I5.pinned (stat fr5) (T.obj _ _ st5)
    refine wpAny_passesOwn hp (thn (hg _ s5 σ3 H5 x u _ I5' r5 (step x H5 y5)) fun _ s6 ⟨σ6, H6, I6, q6⟩ => ?_)
    refine wpAny_passesOwn hp (thn (hb _ s6 σ6 H6 _ I6 q6) fun f s7 q7 => ?_)
    have again : ∀ {σ7 : St} {H7 : Hp}, Inv X (pins ++ pinsAt fp s5.heap) σ7 H7 s7 → N σ7 H7 → ∃ m, m < n ∧ ∃ i σ' H', Inv X pins σ' H' s7 ∧ tn i s7.heap ∧ (∀ b ∈ fp, H' b = none) ∧ W i m σ' H' := fun {σ7 H7} I7 n7 => by
      obtain ⟨m', hm, w7⟩ := hN σ7 H7 n7
      refine ⟨m', hm, i + 1, σ7, H7, I7.unpinned, T.keep _ _ _ st5 fun b hb o e => (I7.pin (b, o) (List.mem_append_right _ (List.mem_append_right _ (mem_pinsAt hb e)))).1, fun b hb => ?_, w7⟩
      obtain ⟨o, e, d⟩ := T.obj _ _ st5 b hb
      exact (I7.pin (b, o) (List.mem_append_right _ (List.mem_append_right _ (mem_pinsAt hb e)))).2.1
    cases f with
    | next => obtain ⟨σ7, H7, I7, n7⟩ := q7; exact again I7 n7
    | cont => obtain ⟨σ7, H7, I7, n7⟩ := q7; exact again I7 n7
    | brk => obtain ⟨σ7, H7, I7, q7⟩ := q7; exact ⟨σ7, H7, I7.unpinned, q7⟩
    | ret v => obtain ⟨x7, σ7, H7, I7, r7, q7⟩ := q7; exact ⟨x7, σ7, H7, I7.unpinned, r7, q7⟩
end

theorem for_list {K : PySem.W.Frag} {a : Addr} {xs : List V} {g : TG} {tb : TS} {D : Ends} {σ : St} {H : Hp} (Pv : Nat → St → Hp → Prop) (h0 : Pv 0 σ H) (hl : ∀ i σ H, i ≤ xs.length → Pv i σ H → SqL K H a xs)
    (hs : ∀ i x σ H, xs[i]? = some x → Pv i σ H → g x σ H fun σ2 H2 => tb { D with nx := Pv (i + 1), ct := Pv (i + 1), bk := D.nx } σ2 H2) (hd : ∀ σ H, Pv xs.length σ H → D.nx σ H) :
    ∃ W : Nat → Nat → St → Hp → Prop, (∃ m, W 0 m σ H) ∧ ∀ i m σ H, W i m σ H →
      ((Itl K a).stop i H ∧ D.nx σ H) ∨ ((Itl K a).go i H ∧ ∃ N : St → Hp → Prop, (∀ σ' H', N σ' H' → ∃ m', m' < m ∧ W (i + 1) m' σ' H') ∧ ∀ x H', (Itl K a).yld i H x H' → g x σ H' fun σ2 H2 => tb { D with nx := N, ct := N, bk := D.nx } σ2 H2) := by
  refine ⟨fun i m σ H => m = xs.length - i ∧ i ≤ xs.length ∧ Pv i σ H, ⟨xs.length, by simp, Nat.zero_le _, h0⟩, ?_⟩
  rintro i m σ H ⟨rfl, hi, p⟩
  have q := hl i σ H hi p
  by_cases hlt : i < xs.length
  · refine .inr ⟨⟨xs, xs[i], q, by simp [hlt]⟩, Pv (i + 1), fun σ' H' p' => ⟨xs.length - (i + 1), by omega, rfl, hlt, p'⟩, fun x H' y => ?_⟩
    obtain ⟨e, y⟩ := y
    subst e
    exact hs i x σ _ (y xs q) p
  · have e : i = xs.length := by omega
    subst e
    exact .inl ⟨⟨xs, q, Nat.le_refl _⟩, hd σ H p⟩
theorem for_tup {K : PySem.W.Frag} {a : Addr} {xs : List V} {g : TG} {tb : TS} {D : Ends} {σ : St} {H : Hp} (Pv : Nat → St → Hp → Prop) (h0 : Pv 0 σ H) (hl : ∀ i σ H, i ≤ xs.length → Pv i σ H → SqT K H a xs)
    (hs : ∀ i x σ H, xs[i]? = some x → Pv i σ H → g x σ H fun σ2 H2 => tb { D with nx := Pv (i + 1), ct := Pv (i + 1), bk := D.nx } σ2 H2) (hd : ∀ σ H, Pv xs.length σ H → D.nx σ H) :
    ∃ W : Nat → Nat → St → Hp → Prop, (∃ m, W 0 m σ H) ∧ ∀ i m σ H, W i m σ H →
      ((Itt K a).stop i H ∧ D.nx σ H) ∨ ((Itt K a).go i H ∧ ∃ N : St → Hp → Prop, (∀ σ' H', N σ' H' → ∃ m', m' < m ∧ W (i + 1) m' σ' H') ∧ ∀ x H', (Itt K a).yld i H x H' → g x σ H' fun σ2 H2 => tb { D with nx := N, ct := N, bk := D.nx } σ2 H2) := by
  refine ⟨fun i m σ H => m = xs.length - i ∧ i ≤ xs.length ∧ Pv i σ H, ⟨xs.length, by simp, Nat.zero_le _, h0⟩, ?_⟩
  rintro i m σ H ⟨rfl, hi, p⟩
  have q := hl i σ H hi p
  by_cases hlt : i < xs.length
  · refine .inr ⟨⟨xs, xs[i], q, by simp [hlt]⟩, Pv (i + 1), fun σ' H' p' => ⟨xs.length - (i + 1), by omega, rfl, hlt, p'⟩, fun x H' y => ?_⟩
    obtain ⟨e, y⟩ := y
    subst e
    exact hs i x σ _ (y xs q) p
  · have e : i = xs.length := by omega
    subst e
    exact .inl ⟨⟨xs, q, Nat.le_refl _⟩, hd σ H p⟩
theorem for_range {lo : Int} {n : Nat} {g : TG} {tb : TS} {D : Ends} {σ : St} {H : Hp} (Pv : Nat → St → Hp → Prop) (h0 : Pv 0 σ H)
    (hs : ∀ i σ H, i < n → Pv i σ H → g (.int (lo + i)) σ H fun σ2 H2 => tb { D with nx := Pv (i + 1), ct := Pv (i + 1), bk := D.nx } σ2 H2) (hd : ∀ σ H, Pv n σ H → D.nx σ H) :
    ∃ W : Nat → Nat → St → Hp → Prop, (∃ m, W 0 m σ H) ∧ ∀ i m σ H, W i m σ H →
      ((Itr lo n).stop i H ∧ D.nx σ H) ∨ ((Itr lo n).go i H ∧ ∃ N : St → Hp → Prop, (∀ σ' H', N σ' H' → ∃ m', m' < m ∧ W (i + 1) m' σ' H') ∧ ∀ x H', (Itr lo n).yld i H x H' → g x σ H' fun σ2 H2 => tb { D with nx := N, ct := N, bk := D.nx } σ2 H2) := by
  refine ⟨fun i m σ H => m = n - i ∧ i ≤ n ∧ Pv i σ H, ⟨n, by simp, Nat.zero_le _, h0⟩, ?_⟩
  rintro i m σ H ⟨rfl, hi, p⟩
  by_cases hlt : i < n
  · refine .inr ⟨hlt, Pv (i + 1), fun σ' H' p' => ⟨n - (i + 1), by omega, rfl, hlt, p'⟩, fun x H' y => ?_⟩
    obtain ⟨e, y⟩ := y
    subst e y
    exact hs i σ _ hlt p
  · have e : i = n := by omega
    subst e
    exact .inl ⟨Nat.le_refl _, hd σ H p⟩
theorem while_by {c : TT} {tb : TS} {D : Ends} {σ : St} {H : Hp} (Pv : St → Hp → Prop) (μ : St → Hp → Nat) (h0 : Pv σ H)
    (hs : ∀ σ H, Pv σ H → c σ H fun b H1 => if b = true then tb { D with nx := fun σ' H' => Pv σ' H' ∧ μ σ' H' < μ σ H, ct := fun σ' H' => Pv σ' H' ∧ μ σ' H' < μ σ H, bk := D.nx } σ H1 else D.nx σ H1)
    (mono : ∀ σ H Q Q', (∀ b H1, Q b H1 → Q' b H1) → c σ H Q → c σ H Q') : tWhile c tb D σ H := by
  refine ⟨fun m σ H => m = μ σ H ∧ Pv σ H, ⟨_, rfl, h0⟩, ?_⟩
  rintro m σ H ⟨rfl, p⟩
  refine mono σ H _ _ (fun b H1 q => ?_) (hs σ H p)
  cases b with
  | true => exact ⟨_, fun σ' H' ⟨p', l⟩ => ⟨_, l, rfl, p'⟩, q⟩
  | false => exact q
end L2

namespace L2
open PySem PySem.Spec PyProof.Rows

abbrev R2 := V → V → Hp → VK → Prop
def OpR (X : Cx) (f : Value → Value → Sem Value) (r : R2) : Prop :=
  ∀ (pins : List (Addr × Obj)) (s : Shared) (σ : St) (H : Hp) (x y : V) (v u : Value) (Q : VK), Inv X pins σ H s → RelV x v → RelV y u → r x y H Q →
    wpAny (model X.prog X.w) X.A (f v u) (EP X pins σ Q) X.xe s
def UnR (X : Cx) (f : Value → Sem Value) (r : V → Hp → VK → Prop) : Prop :=
  ∀ (pins : List (Addr × Obj)) (s : Shared) (σ : St) (H : Hp) (x : V) (v : Value) (Q : VK), Inv X pins σ H s → RelV x v → r x H Q →
    wpAny (model X.prog X.w) X.A (f v) (EP X pins σ Q) X.xe s
def CallR (X : Cx) (f : Value) (r : List V → Hp → VK → Prop) : Prop :=
  ∀ (pins : List (Addr × Obj)) (s : Shared) (σ : St) (H : Hp) (xs : List V) (us : List Value) (Q : VK), Inv X pins σ H s → Vals xs us → r xs H Q →
    wpAny (model X.prog X.w) X.A (call f us) (EP X pins σ Q) X.xe s
def tOp (r : R2) (ta tb : TE) : TE := fun σ H Q => ta σ H fun x H1 => tb σ H1 fun y H2 => r x y H2 Q
def tUn (r : V → Hp → VK → Prop) (ta : TE) : TE := fun σ H Q => ta σ H fun x H1 => r x H1 Q
def rI (C : Int → Int → Prop) (g : Int → Int → V) : R2 := fun x y H Q => ∃ i j, x = .int i ∧ y = .int j ∧ C i j ∧ Q (g i j) H
def rI0 (g : Int → Int → V) : R2 := fun x y H Q => ∃ i j, x = .int i ∧ y = .int j ∧ Q (g i j) H
def rU (g : Int → V) : V → Hp → VK → Prop := fun x H Q => ∃ i, x = .int i ∧ Q (g i) H

section
variable {X : Cx} {a b c : Expr} {ta tb tc : TE} {pos : Pos}

theorem binT (ha : PE X a ta) (hb : PE X b tb) {pins : List (Addr × Obj)} {s : Shared} {σ : St} {H : Hp} {R : V → V → Hp → Prop} (I : Inv X pins σ H s)
    (h : ta σ H fun x H1 => tb σ H1 fun y H2 => R x y H2) {Q : Value → Shared → Prop} {f : Value → Value → Sem Value}
    (hf : ∀ v u s2 x y H2, Inv X pins σ H2 s2 → RelV x v → RelV y u → R x y H2 → wpAny (model X.prog X.w) X.A (f v u) Q X.xe s2) :
    wpAny (model X.prog X.w) X.A (eval a X.env) (fun v s₁ => wpAny (model X.prog X.w) X.A (eval b X.env) (fun u s₂ => wpAny (model X.prog X.w) X.A (f v u) Q X.xe s₂) X.xe s₁) X.xe s := by
  refine thn (ha pins s σ H _ I h) fun v s1 ⟨x, H1, I1, r1, q1⟩ => ?_
  refine thn (hb pins s1 σ H1 _ I1 q1) fun u s2 ⟨y, H2, I2, r2, q2⟩ => ?_
  exact hf v u s2 x y H2 I2 r1 r2 q2

theorem pe_op {op : Operator} {r : R2} (ho : OpR X (binaryOp op) r) (ha : PE X a ta) (hb : PE X b tb) : PE X (.BinOp a op b pos) (tOp r ta tb) := by
  intro pins s σ H Q I h
  exact wpAny_BinOp (binT ha hb I h fun v u s2 x y H2 I2 rx ry q => ho pins s2 σ H2 x y v u Q I2 rx ry q)
theorem pe_un {op : UnaryOp} {r : V → Hp → VK → Prop} (ho : UnR X (unaryOp op) r) (ha : PE X a ta) : PE X (.UnaryOp op a pos) (tUn r ta) := by
  intro pins s σ H Q I h
  exact UnaryOp_ (thn (ha pins s σ H _ I h) fun v s1 ⟨x, H1, I1, r1, q1⟩ => ho pins s1 σ H1 x v Q I1 r1 q1)
theorem opI {f : Value → Value → Sem Value} {C : Int → Int → Prop} {g : Int → Int → Int}
    (rule : ∀ (i j : Int) (t u : Tok) (s : Shared) (Q : Value → Shared → Prop) (E : Value → Shared → Prop), C i j → Q (.int (g i j) s.toks) { s with toks := s.toks + 1 } → wpAny (model X.prog X.w) X.A (f (.int i t) (.int j u)) Q E s) :
    OpR X f (rI C fun i j => .int (g i j)) := by
  intro pins s σ H x y v u Q I rx ry h
  obtain ⟨i, j, rfl, rfl, hc, q⟩ := h
  obtain ⟨t, rfl⟩ := rx
  obtain ⟨t', rfl⟩ := ry
  exact rule i j t t' s _ _ hc ⟨.int (g i j), H, I.tok _, ⟨_, rfl⟩, q⟩
theorem opI0 {f : Value → Value → Sem Value} {g : Int → Int → Int}
    (rule : ∀ (i j : Int) (t u : Tok) (s : Shared) (Q : Value → Shared → Prop) (E : Value → Shared → Prop), Q (.int (g i j) s.toks) { s with toks := s.toks + 1 } → wpAny (model X.prog X.w) X.A (f (.int i t) (.int j u)) Q E s) :
    OpR X f (rI0 fun i j => .int (g i j)) := by
  intro pins s σ H x y v u Q I rx ry h
  obtain ⟨i, j, rfl, rfl, q⟩ := h
  obtain ⟨t, rfl⟩ := rx
  obtain ⟨t', rfl⟩ := ry
  exact rule i j t t' s _ _ ⟨.int (g i j), H, I.tok _, ⟨_, rfl⟩, q⟩
theorem opB0 {f : Value → Value → Sem Value} {g : Int → Int → Bool}
    (rule : ∀ (i j : Int) (t u : Tok) (s : Shared) (Q : Value → Shared → Prop) (E : Value → Shared → Prop), Q (.bool (g i j)) s → wpAny (model X.prog X.w) X.A (f (.int i t) (.int j u)) Q E s) :
    OpR X f (rI0 fun i j => .bl (g i j)) := by
  intro pins s σ H x y v u Q I rx ry h
  obtain ⟨i, j, rfl, rfl, q⟩ := h
  obtain ⟨t, rfl⟩ := rx
  obtain ⟨t', rfl⟩ := ry
  exact rule i j t t' s _ _ ⟨.bl (g i j), H, I, rfl, q⟩

def CDiv (i j : Int) : Prop := 0 < j ∧ j < 1073741824
def CPow (i j : Int) : Prop := 0 ≤ j ∧ j ≤ 1000000 ∧ i.natAbs < 2 ^ 64
def CMul (i j : Int) : Prop := (-(2 ^ 64) < i ∧ i < 2 ^ 64) ∨ (-(2 ^ 64) < j ∧ j < 2 ^ 64)
theorem CMul.ok {i j : Int} (h : CMul i j) : IntMulOk i j := by
  rcases h with ⟨h1, h2⟩ | ⟨h1, h2⟩
  · exact .of_left (intBits_le_64 h1 h2)
  · exact .of_right (intBits_le_64 h1 h2)
theorem op_add : OpR X (binaryOp .Add) (rI0 fun i j => .int (i + j)) := opI0 fun _ _ _ _ _ _ _ q => add_int q
theorem op_sub : OpR X (binaryOp .Sub) (rI0 fun i j => .int (i - j)) := opI0 fun _ _ _ _ _ _ _ q => sub_int q
theorem op_mul : OpR X (binaryOp .Mult) (rI CMul fun i j => .int (i * j)) := opI fun _ _ _ _ _ _ _ hc q => mul_int q hc.ok
theorem op_fdiv : OpR X (binaryOp .FloorDiv) (rI CDiv fun i j => .int (i / j)) := opI fun i j _ _ _ _ _ hc q => by
  have h1 : (0 : Int) < j := hc.1
  have h2 : j < 1073741824 := hc.2
  exact floordiv_int (by omega) (by rw [Int.fdiv_eq_ediv_of_nonneg i (by omega)]; exact q) (.inl (PyProof.noPylong_small (by omega)))
theorem op_mod : OpR X (binaryOp .Mod) (rI (fun _ j => 0 < j) fun i j => .int (i % j)) := opI fun i j _ _ _ _ _ hc q => by
  have h1 : (0 : Int) < j := hc
  exact mod_int' (by omega) (by rw [Int.fmod_eq_emod_of_nonneg i (by omega)]; exact q)
theorem op_pow : OpR X (binaryOp .Pow) (rI CPow fun i j => .int (i ^ j.toNat)) := opI fun _ _ _ _ _ _ _ hc q => pow_int_small hc.1 hc.2.1 hc.2.2 q
theorem unI {f : Value → Sem Value} {g : Int → Int}
    (rule : ∀ (i : Int) (t : Tok) (s : Shared) (Q : Value → Shared → Prop) (E : Value → Shared → Prop), Q (.int (g i) s.toks) { s with toks := s.toks + 1 } → wpAny (model X.prog X.w) X.A (f (.int i t)) Q E s) :
    UnR X f (rU fun i => .int (g i)) := by
  intro pins s σ H x v Q I rx h
  obtain ⟨i, rfl, q⟩ := h
  obtain ⟨t, rfl⟩ := rx
  exact rule i t s _ _ ⟨.int (g i), H, I.tok _, ⟨_, rfl⟩, q⟩
theorem un_neg : UnR X (unaryOp .USub) (rU fun i => .int (-i)) := unI fun _ _ _ _ _ q => neg_int q
end

def scal : V → V → Bool
  | .non, .non => true | .non, .int _ => true | .int _, .non => true | .non, .bl _ => true | .bl _, .non => true | .non, .str _ => true | .str _, .non => true
  | .int _, .int _ => true | .bl _, .bl _ => true | .str _, .str _ => true | .byt _, .byt _ => true
  | .int _, .str _ => true | .str _, .int _ => true | .bl _, .str _ => true | .str _, .bl _ => true
  | _, _ => false
def rEq : R2 := fun x y H Q => scal x y = true ∧ Q (.bl (decide (x = y))) H
def rNe : R2 := fun x y H Q => scal x y = true ∧ Q (.bl (!decide (x = y))) H

theorem dec_int {i j : Int} : decide (V.int i = V.int j) = (i == j) := by
  rw [Bool.eq_iff_iff]
  simp
theorem dec_bl {i j : Bool} : decide (V.bl i = V.bl j) = (i == j) := by
  rw [Bool.eq_iff_iff]
  simp
theorem dec_str {i j : Str} : decide (V.str i = V.str j) = (i == j) := by
  rw [Bool.eq_iff_iff]
  simp
theorem dec_byt {i j : Array UInt8} : decide (V.byt i = V.byt j) = (i.toList == j.toList) := by
  rw [Bool.eq_iff_iff]
  cases i
  cases j
  simp

section
variable {X : Cx} {a b c : Expr} {ta tb tc : TE} {pos : Pos}
theorem fin_bl {pins : List (Addr × Obj)} {σ : St} {H : Hp} {s : Shared} {Q : VK} {k k' : Bool} (I : Inv X pins σ H s) (q : Q (.bl k) H) (e : k = k') : EP X pins σ Q (.bool k') s := by
  subst e
  exact ⟨.bl k, H, I, rfl, q⟩
theorem op_eq : OpR X (compareOp .Eq) rEq := by
  intro pins s σ H x y v u Q I rx ry h
  obtain ⟨hs, q⟩ := h
  cases x with
  | non =>
    cases rx
    cases y with
    | non => cases ry; exact PySem.EqNone.eq_none_none (fin_bl I q (by simp))
    | bl j => cases ry; exact PySem.EqNone.eq_none_bool (fin_bl I q (by simp))
    | int j => obtain ⟨t', rfl⟩ := ry; exact PySem.EqNone.eq_none_int (fin_bl I q (by simp))
    | str j => obtain ⟨t', rfl⟩ := ry; exact PySem.EqNone.eq_none_str (fin_bl I q (by simp))
    | _ => exact absurd (show false = true from hs) Bool.false_ne_true
  | bl i =>
    cases rx
    cases y with
    | non => cases ry; exact PySem.EqNone.eq_bool_none (fin_bl I q (by simp))
    | bl j => cases ry; exact eq_bool (fin_bl I q dec_bl)
    | str j => obtain ⟨t', rfl⟩ := ry; exact PySem.EqMixed.eq_bool_str (fin_bl I q (by simp))
    | _ => exact absurd (show false = true from hs) Bool.false_ne_true
  | int i =>
    obtain ⟨t, rfl⟩ := rx
    cases y with
    | non => cases ry; exact PySem.EqNone.eq_int_none (fin_bl I q (by simp))
    | int j => obtain ⟨t', rfl⟩ := ry; exact eq_int (fin_bl I q dec_int)
    | str j => obtain ⟨t', rfl⟩ := ry; exact PySem.EqMixed.eq_int_str (fin_bl I q (by simp))
    | _ => exact absurd (show false = true from hs) Bool.false_ne_true
  | str i =>
    obtain ⟨t, rfl⟩ := rx
    cases y with
    | non => cases ry; exact PySem.EqNone.eq_str_none (fin_bl I q (by simp))
    | bl j => cases ry; exact PySem.EqMixed.eq_str_bool (fin_bl I q (by simp))
    | int j => obtain ⟨t', rfl⟩ := ry; exact PySem.EqMixed.eq_str_int (fin_bl I q (by simp))
    | str j => obtain ⟨t', rfl⟩ := ry; exact eq_str (fin_bl I q dec_str)
    | _ => exact absurd (show false = true from hs) Bool.false_ne_true
  | byt i =>
    obtain ⟨t, rfl⟩ := rx
    cases y with
    | byt j => obtain ⟨t', rfl⟩ := ry; exact PySem.W.eq_bytes (fin_bl I q dec_byt)
    | _ => exact absurd (show false = true from hs) Bool.false_ne_true
  | _ => cases y <;> exact absurd (show false = true from hs) Bool.false_ne_true
theorem op_ne : OpR X (compareOp .NotEq) rNe := by
  intro pins s σ H x y v u Q I rx ry h
  obtain ⟨hs, q⟩ := h
  cases x with
  | non =>
    cases rx
    cases y with
    | non => cases ry; exact PySem.EqNone.ne_none_none (fin_bl I q (by simp))
    | bl j => cases ry; exact PySem.EqNone.ne_none_bool (fin_bl I q (by simp))
    | int j => obtain ⟨t', rfl⟩ := ry; exact PySem.EqNone.ne_none_int (fin_bl I q (by simp))
    | str j => obtain ⟨t', rfl⟩ := ry; exact PySem.EqNone.ne_none_str (fin_bl I q (by simp))
    | _ => exact absurd (show false = true from hs) Bool.false_ne_true
  | bl i =>
    cases rx
    cases y with
    | non => cases ry; exact PySem.EqNone.ne_bool_none (fin_bl I q (by simp))
    | bl j => cases ry; exact ne_bool (fin_bl I q (congrArg not dec_bl))
    | str j => obtain ⟨t', rfl⟩ := ry; exact PySem.EqMixed.ne_bool_str (fin_bl I q (by simp))
    | _ => exact absurd (show false = true from hs) Bool.false_ne_true
  | int i =>
    obtain ⟨t, rfl⟩ := rx
    cases y with
    | non => cases ry; exact PySem.EqNone.ne_int_none (fin_bl I q (by simp))
    | int j => obtain ⟨t', rfl⟩ := ry; exact ne_int (fin_bl I q (congrArg not dec_int))
    | str j => obtain ⟨t', rfl⟩ := ry; exact PySem.EqMixed.ne_int_str (fin_bl I q (by simp))
    | _ => exact absurd (show false = true from hs) Bool.false_ne_true
  | str i =>
    obtain ⟨t, rfl⟩ := rx
    cases y with
    | non => cases ry; exact PySem.EqNone.ne_str_none (fin_bl I q (by simp))
    | bl j => cases ry; exact PySem.EqMixed.ne_str_bool (fin_bl I q (by simp))
    | int j => obtain ⟨t', rfl⟩ := ry; exact PySem.EqMixed.ne_str_int (fin_bl I q (by simp))
    | str j => obtain ⟨t', rfl⟩ := ry; exact ne_str (fin_bl I q (congrArg not dec_str))
    | _ => exact absurd (show false = true from hs) Bool.false_ne_true
  | byt i =>
    obtain ⟨t, rfl⟩ := rx
    cases y with
    | byt j => obtain ⟨t', rfl⟩ := ry; exact PySem.W.ne_bytes (fin_bl I q (congrArg not dec_byt))
    | _ => exact absurd (show false = true from hs) Bool.false_ne_true
  | _ => cases y <;> exact absurd (show false = true from hs) Bool.false_ne_true

theorem op_lt : OpR X (compareOp .Lt) (rI0 fun i j => .bl (decide (i < j))) := opB0 fun _ _ _ _ _ _ _ q => lt_int q
theorem op_le : OpR X (compareOp .LtE) (rI0 fun i j => .bl (decide (i ≤ j))) := opB0 fun _ _ _ _ _ _ _ q => le_int q
theorem op_gt : OpR X (compareOp .Gt) (rI0 fun i j => .bl (decide (j < i))) := opB0 fun _ _ _ _ _ _ _ q => gt_int q
theorem op_ge : OpR X (compareOp .GtE) (rI0 fun i j => .bl (decide (j ≤ i))) := opB0 fun _ _ _ _ _ _ _ q => ge_int q
theorem op_isN : OpR X (compareOp .Is) (fun x y H Q => y = .non ∧ Q (.bl (decide (x = .non))) H) := by
  intro pins s σ H x y v u Q I rx ry h
  obtain ⟨rfl, q⟩ := h
  cases ry
  refine is_none_gen (fin_bl I q ?_)
  cases x <;> first
    | (cases rx; rfl)
    | (obtain ⟨t, rfl⟩ := rx; rfl)
theorem op_notN : OpR X (compareOp .IsNot) (fun x y H Q => y = .non ∧ Q (.bl (!decide (x = .non))) H) := by
  intro pins s σ H x y v u Q I rx ry h
  obtain ⟨rfl, q⟩ := h
  cases ry
  refine isnot_none_gen (fin_bl I q ?_)
  cases x <;> first
    | (cases rx; rfl)
    | (obtain ⟨t, rfl⟩ := rx; rfl)

theorem OpR.or {f : Value → Value → Sem Value} {r r' : R2} (h : OpR X f r) (h' : OpR X f r') : OpR X f (fun x y H Q => r x y H Q ∨ r' x y H Q) := by
  intro pins s σ H x y v u Q I rx ry q
  rcases q with q | q
  · exact h pins s σ H x y v u Q I rx ry q
  · exact h' pins s σ H x y v u Q I rx ry q

theorem nomark (b : Expr) {op : CmpOp} (h : op ≠ .In := by decide) (h2 : op ≠ .NotIn := by decide) : behindInMarks op b = false := by
  have e1 : (op == CmpOp.In) = false := by cases op <;> first | rfl | exact absurd rfl h
  have e2 : (op == CmpOp.NotIn) = false := by cases op <;> first | rfl | exact absurd rfl h2
  cases b <;> simp [behindInMarks, e1, e2]
theorem pe_cmpR {op : CmpOp} {r : R2} (ho : OpR X (compareOp op) r) (ha : PE X a ta) (hb : PE X b tb) (hm : behindInMarks op b = false) : PE X (.Compare a [op] [b] pos) (tOp r ta tb) := by
  intro pins s σ H Q I h
  exact wpAny_Compare1 (binT ha hb I h fun v u s2 x y H2 I2 rx ry q => ho pins s2 σ H2 x y v u Q I2 rx ry q) hm
def tTest (t : TE) : TT := fun σ H Q => t σ H fun x H' => ∃ k, x = .bl k ∧ Q k H'
theorem pt_cmpR {op : CmpOp} {r : R2} (ho : OpR X (compareOp op) r) (ha : PE X a ta) (hb : PE X b tb) (hm : behindInMarks op b = false) : PT X (.Compare a [op] [b] pos) (tTest (tOp r ta tb)) := by
  intro pins s σ H Q I h
  refine wpAny_isTrue_Compare1 (thn (ha pins s σ H _ I h) fun v s1 ⟨x, H1, I1, r1, q1⟩ => thn (hb pins s1 σ H1 _ I1 q1) fun u s2 ⟨y, H2, I2, r2, q2⟩ =>
    thn (ho pins s2 σ H2 x y v u _ I2 r1 r2 q2) fun c s3 ⟨z, H3, I3, r3, k, e, q3⟩ => ?_) hm
  subst e
  cases r3
  exact wpAny_truthy_bool ⟨H3, I3, q3⟩
theorem line63 : (sizeLine : Nat) < 2 ^ 63 := by rw [sizeLine_eq]; decide
theorem vals1 {x : V} {us : List Value} (r : Vals [x] us) : ∃ u, us = [u] ∧ RelV x u := by
  cases r with
  | cons r1 r2 => cases r2; exact ⟨_, rfl, r1⟩
theorem vals2 {x y : V} {us : List Value} (r : Vals [x, y] us) : ∃ u w', us = [u, w'] ∧ RelV x u ∧ RelV y w' := by
  cases r with
  | cons r1 r2 =>
    cases r2 with
    | cons r3 r4 => cases r4; exact ⟨_, _, rfl, r1, r3⟩
theorem call_abs : CallR X (.builtin "abs") (fun xs H Q => ∃ i, xs = [.int i] ∧ Q (.int (if i < 0 then -i else i)) H) := by
  intro pins s σ H xs us Q I r h
  obtain ⟨i, rfl, q⟩ := h
  obtain ⟨u, rfl, t, rfl⟩ := vals1 r
  exact call_abs_int fun u tk => ⟨.int (if i < 0 then -i else i), H, I.tok _, ⟨_, rfl⟩, q⟩
theorem call_max2 (hc : X.calm = true) : CallR X (.builtin "max") (fun xs H Q => ∃ i j, xs = [.int i, .int j] ∧ Q (.int (if j > i then j else i)) H) := by
  intro pins s σ H xs us Q I r h
  obtain ⟨i, j, rfl, q⟩ := h
  obtain ⟨u, w', rfl, ⟨t, rfl⟩, ⟨t', rfl⟩⟩ := vals2 r
  refine max_two_ints (I.ok.hd hc) fun h' tk k => ⟨_, H, I.kept k, ?_, q⟩
  by_cases hj : j > i
  · rw [if_pos hj, if_pos hj]; exact ⟨_, rfl⟩
  · rw [if_neg hj, if_neg hj]; exact ⟨_, rfl⟩
theorem call_int1 : CallR X (.type "int") (fun xs H Q => (∃ i, xs = [.int i] ∧ Q (.int i) H) ∨ ∃ k, xs = [.bl k] ∧ Q (.int (if k then 1 else 0)) H) := by
  intro pins s σ H xs us Q I r h
  rcases h with ⟨i, rfl, q⟩ | ⟨k, rfl, q⟩
  · obtain ⟨u, rfl, t, rfl⟩ := vals1 r
    exact call_int_int ⟨.int i, H, I, ⟨_, rfl⟩, q⟩
  · obtain ⟨u, rfl, r1⟩ := vals1 r
    cases r1
    exact call_int_bool ⟨.int (if k then 1 else 0), H, I.tok _, ⟨_, rfl⟩, q⟩
end
end L2

namespace L2
open PySem PySem.Spec PyProof.Rows

structure ObjM (h : Heap) (x dx C : Addr) (mA : Str → Option Value) : Prop where
  obj : h.get? x = some (PySem.W.instObj C dx)
  ns : h.Ns1 dx mA
  ne : dx ≠ x

theorem lookIn_ns {h : Heap} {dx : Addr} {mA : Str → Option Value} (n : h.Ns1 dx mA) : ∃ od, h.get? dx = some od ∧ ∀ name, PySem.W.lookIn name od = some (mA name) := by
  obtain ⟨o, es, ep, ho, hd, hk, _, hm⟩ := n
  refine ⟨o, ho, fun name => ?_⟩
  have e := hm name
  unfold nsFind findBy at e
  rw [← Array.find?_toList] at e
  unfold PySem.W.lookIn
  rw [hd]
  dsimp only
  split
  · rename_i y q
    rw [q] at e
    exact congrArg some e
  · rename_i q
    rw [q] at e
    have a : es.toList.any (·.refKey) = false := by
      rw [List.any_eq_false]
      intro y hy
      obtain ⟨z, t, hkey⟩ := hk y (Array.mem_toList_iff.mp hy)
      simp [DictEntry.refKey, hkey]
    have a' : ¬ es.toList.any (·.refKey) = true := by rw [a]; exact Bool.false_ne_true
    rw [if_neg a']
    exact congrArg some e

theorem ObjM.look {h : Heap} {x dx C : Addr} {mA : Str → Option Value} (I : ObjM h x dx C mA) : ∃ od, PySem.W.InstAt h x (PySem.W.instObj C dx) C (some od) ∧ ∀ name, PySem.W.lookIn name od = some (mA name) :=
  let ⟨od, ho, hl⟩ := lookIn_ns I.ns
  ⟨od, ⟨I.obj, rfl, rfl, ho⟩, hl⟩

section
variable {prog : Program} {w : World} {A : Around} {E : Value → Shared → Prop} {s : Shared} {K : PySem.W.Frag} {x dx C f : Addr} {mA : Str → Option Value} {name : Str} {v : Value}

theorem get_map {expr : Bool} {Q : Value → Shared → Prop} (X : K.In s.heap) (I : ObjM s.heap x dx C mA) (hg : PySem.W.plainGet K C name = true) (hh : PySem.W.hasDictIn K C = true)
    (ha : PySem.W.findIn K (.ref C) name = some none) (hv : mA name = some v) (hv' : PySem.W.handedIn v = true) (h : Q v { s with toks := s.toks + 1 }) :
    wpAny (model prog w) A (getAttr (.ref x) name expr) Q E s := by
  obtain ⟨od, J, hl⟩ := I.look
  exact PySem.W.get_value X J (PySem.W.plainGet_of hg).1 (PySem.W.findObj_own hh ha rfl (by rw [hl, hv])) hv' h

theorem get_meth {pl : Sem Bool} {Q : Value × List Value → Shared → Prop} (X : K.In s.heap) (I : ObjM s.heap x dx C mA) (hg : PySem.W.plainGet K C name = true)
    (hf : PySem.W.findIn K (.ref C) name = some (some (.ref f))) (ht : PySem.W.isFn K (.ref f) = true) (hv : mA name = none) (h : Q (.ref f, [.ref x]) s) :
    wpAny (model prog w) A (getMethod (.ref x) name pl) Q E s := by
  obtain ⟨od, J, hl⟩ := I.look
  exact PySem.W.method_fn X J (PySem.W.plainGet_of hg).1 (PySem.W.plainGet_of hg).2 hf (beq_iff_eq.mp ht) (by show (PySem.W.lookIn name od).map (·.isSome) = some false; rw [hl, hv]; rfl) h

theorem set_map {ns : List Str} {Q : Unit → Shared → Prop} (X : K.In s.heap) (I : ObjM s.heap x dx C mA)
    (hs : PySem.W.findIn K (.ref C) "__setattr__" = some (some (.builtin "object.__setattr__"))) (hp : PySem.W.plainOver K C = true) (ht : PySem.W.takerIn K C name = some none) (hh : PySem.W.hasDictIn K C = true)
    (hw : PySem.Within mA ns) (hsz : ns.length ≤ sizeLine)
    (h : ∀ h', ObjM h' x dx C (fun y => if y = name then some v else mA y) → Heap.SameBut dx s.heap h' → Q () { s with heap := h', toks := s.toks + 2 }) :
    wpAny (model prog w) A (setAttr (.ref x) name v) Q E s := by
  obtain ⟨od, J, hl⟩ := I.look
  refine PySem.W.set_plain X J hs (PySem.W.osa_open (s := { s with toks := s.toks + 1 }) (r := none) X J hp ht fun b => ?_)
  obtain ⟨cd, hc, hd'⟩ := PySem.W.any_some hh
  have hx : s.heap.get? x = some ⟨.ref C, some dx, .plain, #[]⟩ := I.obj
  refine wpAny_bind (wpAny_pure (wpAny_bind (wpAny_bind (wpAny_loadPart hx (wpAny_bind (PySem.W.Looks.here (s := { s with toks := s.toks + 1 }) (PySem.W.looks_clsIn X hc) ?_))))))
  rw [hd']
  refine wpAny_pure (a := some dx) (wpAny_bind (wpAny_pure (wpAny_bind ?_)))
  refine wpAny_nsSet1 (s := { s with toks := s.toks + 1 }) I.ns fun h' hn2 hs2 => ?_
  obtain ⟨oD, esD, epD, hoD, hdD, hcD⟩ := hn2.count (PySem.Within.cons name v hw)
  refine wpAny_bind (wpAny_lookBehind hoD (by rw [hdD]; exact pastItsLine_dict (Nat.le_trans hcD (by rw [List.length_cons]; omega))) ?_)
  exact wpAny_pure (h _ ⟨(hs2.2 _ (Ne.symm I.ne)).trans I.obj, hn2, I.ne⟩ hs2)

theorem make_map {R : Result → Shared → Prop} {vs : List Value} {kw : List (Str × Value)} (X : K.In s.heap) (hm : PySem.W.makesIn K C = true)
    (hi : PySem.W.findIn K (.ref C) "__init__" = some (some (.ref f))) (hf : PySem.W.typeIn K (.ref f) = some (.type "function"))
    (h : codeAny (model prog w) (A.under (.builtin "type.__call__" ⟨.ref C :: vs, kw⟩)) (.call (.ref f) ⟨.ref (s.heap.objs.size + 1) :: vs, kw⟩) (PySem.W.InitBack (s.heap.objs.size + 1) R)
      { s with heap := (s.heap.push PySem.W.emptyDict).push (PySem.W.instObj C s.heap.objs.size) }) :
    codeAny (model prog w) A (.call (.ref C) ⟨vs, kw⟩) R s := by
  obtain ⟨hh, g, d, t, os⟩ := s
  exact PySem.W.make_core (PySem.W.makes_of X hm) (PySem.W.looks_findIn X hi) (fun self => PySem.W.bind_fn X self hf) (.inl rfl) h
end

def putF (f : Str) (v : V) : List (Str × V) → List (Str × V)
  | [] => [(f, v)]
  | (g, x) :: r => if g = f then (g, v) :: r else (g, x) :: putF f v r
theorem lookup_putF (f g : Str) (v : V) : ∀ fs : List (Str × V), (putF f v fs).lookup g = if g = f then some v else fs.lookup g
  | [] => by
    show List.lookup g [(f, v)] = _
    by_cases h : g = f
    · have hb : (g == f) = true := beq_iff_eq.mpr h
      simp only [List.lookup, hb, if_pos h]
    · have hb : (g == f) = false := beq_eq_false_iff_ne.mpr h
      simp only [List.lookup, hb, if_neg h]
  | (k, x) :: r => by
    have ih := lookup_putF f g v r
    rw [show putF f v ((k, x) :: r) = (if k = f then (k, v) :: r else (k, x) :: putF f v r) from rfl]
    by_cases hk : k = f
    · rw [if_pos hk]
      by_cases h : g = k
      · have hb : (g == k) = true := beq_iff_eq.mpr h
        simp only [List.lookup, hb, if_pos (h.trans hk)]
      · have hb : (g == k) = false := beq_eq_false_iff_ne.mpr h
        simp only [List.lookup, hb, if_neg (fun e : g = f => h (e.trans hk.symm))]
    · rw [if_neg hk]
      by_cases h : g = k
      · have hb : (g == k) = true := beq_iff_eq.mpr h
        simp only [List.lookup, hb, if_neg (fun e : g = f => hk (h.symm.trans e))]
      · have hb : (g == k) = false := beq_eq_false_iff_ne.mpr h
        simp only [List.lookup, hb]
        exact ih
theorem keys_putF (f : Str) (v : V) : ∀ fs : List (Str × V), f ∈ (putF f v fs).map (·.1) ∧ ∀ g, g ∈ fs.map (·.1) → g ∈ (putF f v fs).map (·.1)
  | [] => ⟨by simp [putF], fun g h => by simp at h⟩
  | (k, x) :: r => by
    obtain ⟨i1, i2⟩ := keys_putF f v r
    rw [show putF f v ((k, x) :: r) = (if k = f then (k, v) :: r else (k, x) :: putF f v r) from rfl]
    by_cases hk : k = f
    · rw [if_pos hk]
      subst hk
      exact ⟨by simp, fun g h => by simpa using h⟩
    · rw [if_neg hk]
      refine ⟨?_, fun g h => ?_⟩
      · rw [List.map_cons]
        exact List.mem_cons_of_mem _ i1
      · rw [List.map_cons] at h ⊢
        rcases List.mem_cons.mp h with e | e
        · exact List.mem_cons.mpr (.inl e)
        · exact List.mem_cons_of_mem _ (i2 g e)
theorem length_putF (f : Str) (v : V) : ∀ fs : List (Str × V), (putF f v fs).length ≤ fs.length + 1
  | [] => by simp [putF]
  | (k, x) :: r => by
    have ih := length_putF f v r
    rw [show putF f v ((k, x) :: r) = (if k = f then (k, v) :: r else (k, x) :: putF f v r) from rfl]
    by_cases hk : k = f
    · rw [if_pos hk, List.length_cons, List.length_cons]; omega
    · rw [if_neg hk, List.length_cons, List.length_cons]; omega

theorem RelO.some_of {v : V} {o : Option Value} (r : RelO (some v) o) : ∃ u, o = some u ∧ RelV v u := by
  cases o with
  | none => exact (show False from r).elim
  | some u => exact ⟨u, rfl, r⟩
theorem RelO.none_of {o : Option Value} (r : RelO none o) : o = none := by
  cases o with
  | none => rfl
  | some u => exact (show False from r).elim
theorem handed_of {v : V} {u : Value} (r : RelV v u) : PySem.W.handedIn u = true := by
  cases v with
  | non => cases (show u = Value.none from r); rfl
  | bl b => cases (show u = Value.bool b from r); rfl
  | int i => obtain ⟨t, e⟩ := (show ∃ t, u = Value.int i t from r); cases e; rfl
  | str x => obtain ⟨t, e⟩ := (show ∃ t, u = Value.str x t from r); cases e; rfl
  | byt b => obtain ⟨t, e⟩ := (show ∃ t, u = Value.bytes b t from r); cases e; rfl
  | flt b => obtain ⟨t, e⟩ := (show ∃ t, u = Value.float b t from r); cases e; rfl
  | ref a => cases (show u = Value.ref a from r); rfl
  | ty n => cases (show u = Value.type n from r); rfl

section
variable {P : Program} {w : World} {H H' : Hp} {h h' : Heap} {a C dx : Addr} {fs fs' : List (Str × V)}
theorem ins_get (hok : HOk P w H h) (e : H a = some (.ins C dx fs)) : ∃ mA, ObjM h a dx C mA ∧ (∀ f, RelO (fs.lookup f) (mA f)) ∧ PySem.Within mA (fs.map (·.1)) ∧ fs.length ≤ 1000 ∧ H dx = some (.own a) := by
  obtain ⟨d, z, ne, ob, mA, n, r, q⟩ := (show ObjOk P w H h a (.ins C dx fs) from hok a _ e)
  exact ⟨mA, ⟨ob, n, ne⟩, r, q, z, d⟩
end

structure Cls (K : PySem.W.Frag) (C : Addr) : Prop where
  pg : PySem.W.plainGet K C Str.empty = true
  hd : PySem.W.hasDictIn K C = true
  po : PySem.W.plainOver K C = true
  sa : PySem.W.findIn K (.ref C) "__setattr__" = some (some (.builtin "object.__setattr__"))
theorem Cls.get {K : PySem.W.Frag} {C : Addr} (c : Cls K C) (f : Str) : PySem.W.plainGet K C f = true := c.pg
def NoAttr (K : PySem.W.Frag) (C : Addr) (f : Str) : Prop := PySem.W.findIn K (.ref C) f = some none
theorem NoAttr.taker {K : PySem.W.Frag} {C : Addr} {f : Str} (n : NoAttr K C f) : PySem.W.takerIn K C f = some none := by
  unfold PySem.W.takerIn
  rw [show PySem.W.findIn K (.ref C) f = some none from n]
  rfl
structure Con (K : PySem.W.Frag) (C : Addr) (f : Str) (v : V) (u : Value) : Prop where
  at_ : PySem.W.findIn K (.ref C) f = some (some u)
  rel : RelV v u
  get : PySem.W.specialIn K u "__get__" = some none
  cp : PySem.W.copiedNames.contains f = false
structure Meth (K : PySem.W.Frag) (C : Addr) (m : Str) (f : Addr) : Prop where
  at_ : PySem.W.findIn K (.ref C) m = some (some (.ref f))
  fn : PySem.W.isFn K (.ref f) = true
  kp : PySem.W.keepIn K (.ref f) = true

section
variable {X : Cx} {pins : List (Addr × Obj)} {σ : St} {H : Hp} {s : Shared} {a C dx : Addr} {fs : List (Str × V)} {f : Str} {v : V} {A : Around} {E : Value → Shared → Prop}

theorem getattr_ok {b : Bool} {Q : Value → Shared → Prop} (I : Inv X pins σ H s) (e : H a = some (.ins C dx fs)) (c : Cls X.K C) (n : NoAttr X.K C f) (l : fs.lookup f = some v)
    (h : ∀ u s', Inv X pins σ H s' → RelV v u → Q u s') : wpAny (model X.prog X.w) A (getAttr (.ref a) f b) Q E s := by
  obtain ⟨mA, O, r, _, _, _⟩ := ins_get I.hok e
  obtain ⟨u, hu, ru⟩ := RelO.some_of (v := v) (o := mA f) (by rw [← l]; exact r f)
  exact get_map I.kIn O (c.get f) c.hd n hu (handed_of ru) (h u _ (I.tok _) ru)

theorem getmeth_ok {m : Str} {g : Addr} {pl : Sem Bool} {Q : Value × List Value → Shared → Prop} (I : Inv X pins σ H s) (e : H a = some (.ins C dx fs)) (c : Cls X.K C) (k : Meth X.K C m g) (l : fs.lookup m = none)
    (h : Q (.ref g, [.ref a]) s) : wpAny (model X.prog X.w) A (getMethod (.ref a) m pl) Q E s := by
  obtain ⟨mA, O, r, _, _, _⟩ := ins_get I.hok e
  have hn : mA m = none := RelO.none_of (by rw [← l]; exact r m)
  exact get_meth I.kIn O (c.get m) k.at_ k.fn hn h

theorem setattr_ok {y : V} {u : Value} {Q : Unit → Shared → Prop} (I : Inv X pins σ H s) (e : H a = some (.ins C dx fs)) (c : Cls X.K C) (n : NoAttr X.K C f) (hl : fs.length < 1000) (ry : RelV y u)
    (h : ∀ s', Inv X pins σ (upd H a (.ins C dx (putF f y fs))) s' → Q () s') : wpAny (model X.prog X.w) A (setAttr (.ref a) f u) Q E s := by
  obtain ⟨mA, O, r, wi, _, ho⟩ := ins_get I.hok e
  have hz : (fs.map (·.1)).length ≤ sizeLine := by rw [List.length_map, sizeLine_eq]; omega
  refine set_map I.kIn O c.sa c.po n.taker c.hd wi hz fun h' O' sb => h _ ?_
  have hd : ∃ o, h'.get? dx = some o := let ⟨o, _, _, e', _⟩ := O'.ns; ⟨o, e'⟩
  refine I.write (x := a) (e := dx) (by rw [e]; exact True.intro) (.inr ho) (fun b q hb z => (sb.2 b hb).trans z) hd ?_
  refine ⟨by rw [upd_ne O.ne]; exact ho, ?_, O.ne, O'.obj, _, O'.ns, fun g => ?_, fun g hg => ?_⟩
  · have := length_putF f y fs; omega
  · show RelO ((putF f y fs).lookup g) (if g = f then some u else mA g)
    rw [lookup_putF]
    by_cases q : g = f
    · rw [if_pos q, if_pos q]; exact ry
    · rw [if_neg q, if_neg q]; exact r g
  · by_cases q : g = f
    · rw [q]; exact (keys_putF f y fs).1
    · refine (keys_putF f y fs).2 g (wi g fun z => hg ?_)
      show (if g = f then some u else mA g) = none
      rw [if_neg q]; exact z

theorem Inv.made (I : Inv X pins σ H s) : Inv X pins σ (upd (upd H s.heap.objs.size (.own (s.heap.objs.size + 1))) (s.heap.objs.size + 1) (.ins C s.heap.objs.size []))
    { s with heap := (s.heap.push PySem.W.emptyDict).push (PySem.W.instObj C s.heap.objs.size) } := by
  have e1 : (s.heap.push PySem.W.emptyDict).get? s.heap.objs.size = some PySem.W.emptyDict := Heap.get?_push_size s.heap rfl
  have e2 : ((s.heap.push PySem.W.emptyDict).push (PySem.W.instObj C s.heap.objs.size)).get? (s.heap.objs.size + 1) = some (PySem.W.instObj C s.heap.objs.size) := by
    have := Heap.get?_push_size (s.heap.push PySem.W.emptyDict) (o := PySem.W.instObj C s.heap.objs.size) rfl
    rwa [Heap.size_push] at this
  have e3 : (s.heap.push PySem.W.emptyDict).Ns s.heap.objs.size (fun _ => none) := ⟨PySem.W.emptyDict, #[], _, e1, rfl, (fun e he => absurd he (by simp)), fun _ => rfl⟩
  have I1 := I.laid (a := s.heap.objs.size) (o := .own (s.heap.objs.size + 1)) (h' := s.heap.push PySem.W.emptyDict) (t' := s.toks) (fun b u q => Heap.get?_push_of_some _ q) (Nat.le_refl _) ⟨_, e1⟩
  refine I1.laid (a := s.heap.objs.size + 1) (o := .ins C s.heap.objs.size []) (t' := s.toks) (fun b u q => Heap.get?_push_of_some _ q) (Nat.le_of_eq (Heap.size_push _ _)) ?_
  have ne : s.heap.objs.size ≠ s.heap.objs.size + 1 := Nat.ne_of_lt (Nat.lt_succ_self _)
  refine ⟨by rw [upd_ne ne, upd_same], Nat.zero_le _, ne, e2, fun _ => none, (Heap.Ns1.of_empty e3).at fun o q => Heap.get?_push_of_some _ q, fun _ => True.intro, fun y hy => absurd rfl hy⟩

theorem attr_of {prog : Program} {w : World} {env : Env} {e : Expr} {f : Str} {pos : Pos} {s : Shared} {Q : Value → Shared → Prop} (hb : attributeBase e f env (eval e env) = eval e env)
    (h : wpAny (model prog w) A (eval e env) (fun o s₁ => wpAny (model prog w) A (getAttr o f true) Q E s₁) E s) : wpAny (model prog w) A (eval (.Attribute e f pos) env) Q E s :=
  Attribute_any_ h (by rw [arm_eval_Attribute, hb])
end

def tFld (K : PySem.W.Frag) (ta : TE) (f : Str) : TE := fun σ H Q => ta σ H fun x H1 => ∃ a C dx fs v, x = .ref a ∧ H1 a = some (.ins C dx fs) ∧ Cls K C ∧ NoAttr K C f ∧ fs.lookup f = some v ∧ Q v H1
def sFld (K : PySem.W.Frag) (ta tv : TE) (f : Str) : TS := fun D σ H => tv σ H fun y H1 => ta σ H1 fun x H2 => ∃ a C dx fs, x = .ref a ∧ H2 a = some (.ins C dx fs) ∧ Cls K C ∧ NoAttr K C f ∧ fs.length < 1000 ∧
  D.nx σ (upd H2 a (.ins C dx (putF f y fs)))
def InOp (X : Cx) (op : Operator) (rd : V → V → Hp → VK → Prop) : Prop :=
  ∀ (pins : List (Addr × Obj)) (s : Shared) (σ : St) (H : Hp) (x y : V) (u v : Value) (Q : VK), Inv X pins σ H s → RelV x u → RelV y v → rd x y H Q → wpAny (model X.prog X.w) X.A (inplaceOp op u v) (EP X pins σ Q) X.xe s
def sFldAug (K : PySem.W.Frag) (ta tv : TE) (rd : V → V → Hp → VK → Prop) (f : Str) : TS := fun D σ H => ta σ H fun x H1 => ∃ a C dx fs v, x = .ref a ∧ H1 a = some (.ins C dx fs) ∧ Cls K C ∧ NoAttr K C f ∧ fs.lookup f = some v ∧
  tv σ H1 fun y H2 => rd v y H2 fun z H3 => ∃ dx' fs', H3 a = some (.ins C dx' fs') ∧ fs'.length < 1000 ∧ D.nx σ (upd H3 a (.ins C dx' (putF f z fs')))

section
variable {X : Cx} {o e value : Expr} {f : Str} {pos pos' tpos : Pos} {ta tv : TE}
theorem pe_fld (he : PE X e ta) (hb : attributeBase e f X.env (eval e X.env) = eval e X.env) : PE X (.Attribute e f pos) (tFld X.K ta f) := by
  intro pins s σ H Q I h
  refine attr_of hb (thn (he pins s σ H _ I h) fun u s1 ⟨x, H1, I1, rx, a, C, dx, fs, v, ex, ea, c, n, l, q⟩ => ?_)
  subst ex
  obtain rfl : u = Value.ref a := rx
  exact getattr_ok I1 ea c n l fun u' s2 I2 ru => ⟨v, H1, I2, ru, q⟩
theorem ps_fld (ha : PE X o ta) (hv : PE X value tv) (hs : swapsWith value (some (.Attribute o f pos')) pos.line X.env = pure false) : PS X (.Assign [.Attribute o f pos'] value pos) (sFld X.K ta tv f) := by
  intro pins s σ H D I h
  refine plainObj_wpAny_Assign_Attribute (thn (hv pins s σ H _ I h) fun u s1 ⟨y, H1, I1, ry, q⟩ => thn (ha pins s1 σ H1 _ I1 q) fun ov s2 ⟨x, H2, I2, rx, a, C, dx, fs, ex, ea, c, n, l, q2⟩ => ?_) hs
  subst ex
  obtain rfl : ov = Value.ref a := rx
  exact setattr_ok I2 ea c n l ry fun s3 I3 => ⟨σ, _, I3, q2⟩
theorem ps_fldaug {op : Operator} {rd : V → V → Hp → VK → Prop} (ha : PE X o ta) (hv : PE X value tv) (hop : InOp X op rd) : PS X (.AugAssign (.Attribute o f tpos) op value pos) (sFldAug X.K ta tv rd f) := by
  intro pins s σ H D I h
  refine wpAny_AugAssign_AttributeAny (thn (ha pins s σ H _ I h) fun ov s1 ⟨x, H1, I1, rx, a, C, dx, fs, v, ex, ea, c, n, l, q⟩ => ?_)
  subst ex
  obtain rfl : ov = Value.ref a := rx
  refine getattr_ok I1 ea c n l fun u s2 I2 ru => thn (hv pins s2 σ H1 _ I2 q) fun w3 s3 ⟨y, H2, I3, ry, q3⟩ => thn (hop pins s3 σ H2 v y u w3 _ I3 ru ry q3) fun w4 s4 ⟨z, H3, I4, rz, dx', fs', ea', l', q4⟩ => ?_
  exact setattr_ok I4 ea' c n l' rz fun s5 I5 => ⟨σ, _, I5, q4⟩
def rAdd : V → V → Hp → VK → Prop := fun x y H Q => ∃ i j, x = .int i ∧ y = .int j ∧ Q (.int (i + j)) H
theorem in_add : InOp X .Add rAdd := by
  rintro pins s σ H x y u v Q I rx ry ⟨i, j, rfl, rfl, q⟩
  obtain ⟨t, rfl⟩ := (show ∃ t, u = Value.int i t from rx)
  obtain ⟨t', rfl⟩ := (show ∃ t', v = Value.int j t' from ry)
  exact PyProof.Rows.iadd_int ⟨.int (i + j), H, I.tok _, ⟨_, rfl⟩, q⟩
end

section
variable {X : Cx} {pins : List (Addr × Obj)} {σ : St} {H : Hp} {s : Shared} {A : Around} {E : Value → Shared → Prop} {Q : Value → Shared → Prop} {c : Value} {b : Bool}
inductive TyOf (K : PySem.W.Frag) (H : Hp) : V → Value → Prop where
  | non : TyOf K H .non (.type "NoneType")
  | bl (x : Bool) : TyOf K H (.bl x) (.type "bool")
  | int (i : Int) : TyOf K H (.int i) (.type "int")
  | str (x : Str) : TyOf K H (.str x) (.type "str")
  | flt (x : UInt64) : TyOf K H (.flt x) (.type "float")
  | lst {a : Addr} {xs : List V} (e : H a = some (.lst xs)) : TyOf K H (.ref a) (.type "list")
  | frz {a : Addr} {o : Obj} {xs : List V} (e : H a = some (.frz o (.lst xs))) : TyOf K H (.ref a) (.type "list")
  | tup {a : Addr} {xs : List V} (e : H a = some (.tup xs)) : TyOf K H (.ref a) (.type "tuple")
  | dK {a : Addr} {kvs : List (Key × V)} (e : H a = some (.dK kvs)) : TyOf K H (.ref a) (.type "dict")
  | dT {a : Addr} {kvs : List (List Key × V)} (e : H a = some (.dT kvs)) : TyOf K H (.ref a) (.type "dict")
  | ins {a C dx : Addr} {fs : List (Str × V)} (e : H a = some (.ins C dx fs)) (cl : Cls K C) (ha : PySem.W.findIn K (.ref C) "__class__" = some (some (.builtin "object.__class__")))
      (hn : PySem.W.specialIn K (.builtin "object.__class__") "__get__" = some (some (.builtin "getset_descriptor.__get__"))) (htk : PySem.W.takesIn K (.builtin "object.__class__") = some true)
      (hm : PySem.W.mroIn K C (.type "object") = some true) : TyOf K H (.ref a) (.ref C)
theorem isinst_ok {x : V} {u t : Value} (I : Inv X pins σ H s) (rx : RelV x u) (ty : TyOf X.K H x t) (e : PySem.W.kitOne X.K t c = some b) (h : ∀ tk, Q (.bool b) { s with toks := tk }) :
    wpAny (model X.prog X.w) A (call (.builtin "isinstance") [u, c]) Q E s := by
  cases ty with
  | non => cases (show u = Value.none from rx); exact PySem.W.kia_one PySem.W.kitx_none I.kIn True.intro e (fun z => nomatch z) h
  | bl y => cases (show u = Value.bool y from rx); exact PySem.W.kia_one PySem.W.kitx_bool I.kIn True.intro e (fun z => nomatch z) h
  | int i => obtain ⟨t, q⟩ := (show ∃ t, u = Value.int i t from rx); cases q; exact PySem.W.kia_one PySem.W.kitx_int I.kIn True.intro e (fun z => nomatch z) h
  | str y => obtain ⟨t, q⟩ := (show ∃ t, u = Value.str y t from rx); cases q; exact PySem.W.kia_one PySem.W.kitx_str I.kIn True.intro e (fun z => nomatch z) h
  | flt y => obtain ⟨t, q⟩ := (show ∃ t, u = Value.float y t from rx); cases q; exact PySem.W.kia_one PySem.W.kitx_float I.kIn True.intro e (fun z => nomatch z) h
  | @lst a xs ea =>
    cases (show u = Value.ref a from rx)
    obtain ⟨_, _, n, _, h1⟩ := (show ObjOk X.prog X.w H s.heap a (.lst xs) from I.hok a _ ea)
    exact PySem.W.kia_one PySem.W.kitx_list I.kIn ⟨_, h1, rfl⟩ e (fun z => nomatch z) h
  | @frz a ob xs ea =>
    cases (show u = Value.ref a from rx)
    obtain ⟨_, _, _, n, _, h1⟩ := (show ObjOk X.prog X.w H s.heap a (.frz ob (.lst xs)) from I.hok a _ ea)
    exact PySem.W.kia_one PySem.W.kitx_list I.kIn ⟨_, h1, rfl⟩ e (fun z => nomatch z) h
  | @tup a xs ea =>
    cases (show u = Value.ref a from rx)
    obtain ⟨_, _, _, p⟩ := (show ObjOk X.prog X.w H s.heap a (.tup xs) from I.hok a _ ea)
    obtain ⟨o, h1, h2, _⟩ := p
    exact PySem.W.kia_one PySem.W.kitx_tuple I.kIn ⟨o, h1, h2⟩ e (fun z => nomatch z) h
  | @dK a kvs ea =>
    cases (show u = Value.ref a from rx)
    obtain ⟨_, _, vs, _, p⟩ := (show ObjOk X.prog X.w H s.heap a (.dK kvs) from I.hok a _ ea)
    obtain ⟨o, es, ep, h1, h2, _⟩ := p
    exact PySem.W.kia_one PySem.W.kitx_dict I.kIn ⟨o, h1, h2.1⟩ e (fun z => nomatch z) h
  | @dT a kvs ea =>
    cases (show u = Value.ref a from rx)
    obtain ⟨_, _, xs, _, o, es, ep, h1, h2, _⟩ := (show ObjOk X.prog X.w H s.heap a (.dT kvs) from I.hok a _ ea)
    exact PySem.W.kia_one PySem.W.kitx_dict I.kIn ⟨o, h1, h2.1⟩ e (fun z => nomatch z) h
  | @ins a C dx fs ea cl ha hn htk hm =>
    cases (show u = Value.ref a from rx)
    obtain ⟨mA, O, _⟩ := ins_get I.hok ea
    obtain ⟨od, J, _⟩ := O.look
    exact PySem.W.kia_one (PySem.W.kitx_own (cl.get _) cl.hd ha hn htk hm) I.kIn J e (fun z => nomatch z) h
end
end L2

namespace L2
open PySem PySem.Spec PyProof.Rows

structure Room (k : Nat) (A : Around) : Prop where
  hd : A.handled = none
  dp : A.depth + 3 * k + 5 < recursionLimit
  un : A.units + 16 * k + 200 < cLine
  gd : A.guards = some []
theorem Room.mono {j k : Nat} {A : Around} (r : Room k A) (h : j ≤ k) : Room j A := ⟨r.hd, by have := r.dp; omega, by have := r.un; omega, r.gd⟩
theorem Room.deeper {k : Nat} {A : Around} (r : Room (k + 1) A) (env : Env) : Room k (A.deeper env) :=
  ⟨r.hd, by have := r.dp; show A.depth + 1 + 3 * k + 5 < _; omega, by have := r.un; show A.units + 3 + 16 * k + 200 < _; omega, r.gd⟩
theorem make_depth {A : Around} {C : Addr} {us : List Value} {kw : List (Str × Value)} : (A.under (.builtin "type.__call__" ⟨.ref C :: us, kw⟩)).depth = A.depth + 1 := by
  first | rfl | simp [Around.under, Code.weight, Code.isCreation, Code.isGuard, Code.isCaller, Code.frames, Code.isFrame, guardIds]
theorem make_units {A : Around} {C : Addr} {us : List Value} {kw : List (Str × Value)} : (A.under (.builtin "type.__call__" ⟨.ref C :: us, kw⟩)).units = A.units + 1 := by
  first | rfl | simp [Around.under, Code.cUnits, Code.frames, Code.isFrame]
theorem make_guards {A : Around} {C : Addr} {us : List Value} {kw : List (Str × Value)} : (A.under (.builtin "type.__call__" ⟨.ref C :: us, kw⟩)).guards = A.guards := by
  cases h : A.guards with
  | none => simp [Around.under, Code.guards, Code.isGuard, guardIds, pushGuards, h]
  | some l => simp [Around.under, Code.guards, Code.isGuard, guardIds, pushGuards, h]
theorem Room.make {k : Nat} {A : Around} (r : Room (k + 1) A) (C : Addr) (us : List Value) (kw : List (Str × Value)) : Room k (A.under (.builtin "type.__call__" ⟨.ref C :: us, kw⟩)) :=
  ⟨r.hd, by have := r.dp; rw [make_depth]; omega, by have := r.un; rw [make_units]; omega, by rw [make_guards]; exact r.gd⟩
theorem Room.depth {k : Nat} {A : Around} (r : Room k A) : A.depth < recursionLimit := by have := r.dp; omega
theorem Room.units {k : Nat} {A : Around} (r : Room k A) : A.units + 64 < cLine := by have := r.un; omega
def tNil : TA := fun _ H Q => Q [] H
def tCons (ta : TE) (tr : TA) : TA := fun σ H Q => ta σ H fun x H1 => tr σ H1 fun xs H2 => Q (x :: xs) H2
section
variable {X : Cx} {e : Expr} {es : List Expr} {te : TE} {t : TA} {pos : Pos}
theorem pa_nil : PA X [] tNil := fun _ _ _ _ H Q I h => Calls.spliced_nil ⟨[], H, I, .nil, h⟩
theorem pa_cons (ha : PE X e te) (hr : PA X es t) (hs : starEach (e :: es) X.env = (false, eval e X.env) :: starEach es X.env := by rfl) : PA X (e :: es) (tCons te t) := by
  intro pos pins s σ H Q I h
  rw [hs]
  show wpAny _ _ (spliced ((false, eval e X.env) :: backTo pos (starEach es X.env))) _ _ s
  refine Calls.spliced_cons (thn (ha pins s σ H _ I h) fun u s1 ⟨x, H1, I1, r1, q1⟩ => ?_)
  exact thn (hr pos pins s1 σ H1 _ I1 q1) fun us s2 ⟨xs, H2, I2, r2, q2⟩ => ⟨x :: xs, H2, I2, .cons r1 r2, q2⟩

def tTup (t : TA) : TE := fun σ H Q => t σ H fun xs H1 => xs.length ≤ sizeLine ∧ ∀ p, H1 p = none → Q (.ref p) (upd H1 p (.tup xs))
def tLst (t : TA) : TE := fun σ H Q => t σ H fun xs H1 => xs.length ≤ sizeLine ∧ ∀ p, H1 p = none → Q (.ref p) (upd H1 p (.lst xs))
theorem pe_tup {x1} (h : PA X es t) : PE X (.Tuple es x1 pos) (tTup t) := by
  intro pins s σ H Q I hq
  refine wpAny_Tuple_spliced (thn (h pos pins s σ H _ I hq) fun us s1 ⟨xs, H1, I1, r, z, q⟩ => ⟨by rw [← r.length]; exact z, ?_⟩)
  have hf : H1 s1.heap.objs.size = none := I1.hok.fresh (Nat.le_refl _)
  refine ⟨.ref s1.heap.objs.size, upd H1 s1.heap.objs.size (.tup xs), I1.laid (t' := s1.toks) (fun b u e => Heap.get?_push_of_some _ e) (Nat.le_refl _) ?_, rfl, q _ hf⟩
  exact ⟨z, us, r, ⟨_, Heap.get?_push_size _ rfl, rfl, _, rfl⟩⟩
theorem pe_lst (h : PA X es t) : PE X (.List es pos) (tLst t) := by
  intro pins s σ H Q I hq
  refine wpAny_List_spliced (thn (h pos pins s σ H _ I hq) fun us s1 ⟨xs, H1, I1, r, z, q⟩ => ⟨by rw [← r.length]; exact z, ?_⟩)
  have hf : H1 s1.heap.objs.size = none := I1.hok.fresh (Nat.le_refl _)
  refine ⟨.ref s1.heap.objs.size, upd H1 s1.heap.objs.size (.lst xs), I1.laid (t' := s1.toks) (fun b u e => Heap.get?_push_of_some _ e) (Nat.le_refl _) ?_, rfl, q _ hf⟩
  exact ⟨z, us, 0, r, Heap.get?_push_size _ rfl⟩
end

abbrev Sp := List V → Hp → VK → XK → Prop
abbrev CXT := List Env → Hp → Shared → XK → Value → Shared → Prop

structure Env0 (P : Program) (w : World) (K : PySem.W.Frag) (mg : Str → Option Value) (base : Heap) (A : Around) (outer : List Env) (s : Shared) (H : Hp) : Prop where
  frames : A.frames = some outer
  mod : Mod K mg base
  bs : ∀ b o, base.get? b = some o → s.heap.get? b = some o ∧ H b = none
  bsz : base.objs.size ≤ s.heap.objs.size
  funs : s.heap.FunFrames base outer
  frf : ∀ b ∈ frs outer, H b = none
  hok : HOk P w H s.heap
  bare : AllBare s.gens
def CE (outer : List Env) (P : Program) (w : World) (H : Hp) (s : Shared) (Q : VK) (u : Value) (s' : Shared) : Prop :=
  ∃ v H', s'.os = s.os ∧ AllBare s'.gens ∧ Un (frs outer) [] H H' s.heap s'.heap ∧ HOk P w H' s'.heap ∧ RelV v u ∧ Q v H'
def CR (CX : CXT) (outer : List Env) (P : Program) (w : World) (H : Hp) (s : Shared) (Q : VK) (E : XK) (r : Result) (s' : Shared) : Prop :=
  match r with
  | .ok (.ret u) => CE outer P w H s Q u s'
  | .ok _ => False
  | .error e => CX outer H s E e s'
structure FnOk (P : Program) (w : World) (K : PySem.W.Frag) (mg : Str → Option Value) (base : Heap) (CX : CXT) (k : Nat) (f : Addr) (fd : FuncData) (ps : List Str) (sp : Sp) : Prop where
  len : ∀ vs H Q E, sp vs H Q E → vs.length = ps.length
  run : ∀ (A : Around) (outer : List Env) (s : Shared) (H : Hp) (args : Args) (us : List Value) (vs : List V) (Q : VK) (E : XK), Room k A → Env0 P w K mg base A outer s H → BindsTo s fd args (ps.zip us) → Vals vs us → sp vs H Q E →
    codeAny (model P w) A (.call (.ref f) args) (CR CX outer P w H s Q E) s
theorem FnOk.mono {P : Program} {w : World} {K : PySem.W.Frag} {mg : Str → Option Value} {base : Heap} {CX : CXT} {j k : Nat} {f : Addr} {fd : FuncData} {ps : List Str} {sp : Sp} (F : FnOk P w K mg base CX j f fd ps sp) (h : j ≤ k) :
    FnOk P w K mg base CX k f fd ps sp := ⟨F.len, fun A outer s H args us vs Q E hr => F.run A outer s H args us vs Q E (hr.mono h)⟩
theorem FnOk.imp {P : Program} {w : World} {K : PySem.W.Frag} {mg : Str → Option Value} {base : Heap} {CX : CXT} {k : Nat} {f : Addr} {fd : FuncData} {ps : List Str} {sp sp' : Sp} (F : FnOk P w K mg base CX k f fd ps sp)
    (h : ∀ vs H Q E, sp' vs H Q E → sp vs H Q E) : FnOk P w K mg base CX k f fd ps sp' :=
  ⟨fun vs H Q E q => F.len vs H Q E (h _ _ _ _ q), fun A outer s H args us vs Q E hr he hb hv hs => F.run A outer s H args us vs Q E hr he hb hv (h _ _ _ _ hs)⟩

theorem Env0.make {P : Program} {w : World} {K : PySem.W.Frag} {mg : Str → Option Value} {base : Heap} {A : Around} {outer : List Env} {s : Shared} {H : Hp} (e : Env0 P w K mg base A outer s H) (C : Addr) (us : List Value) (kw : List (Str × Value)) :
    Env0 P w K mg base (A.under (.builtin "type.__call__" ⟨.ref C :: us, kw⟩)) outer s H := ⟨by first | exact e.frames | (simpa [Around.under, Code.envs, Code.isFrame, pushEnvs] using e.frames), e.mod, e.bs, e.bsz, e.funs, e.frf, e.hok, e.bare⟩
section
variable {X : Cx} {pins : List (Addr × Obj)} {σ : St} {H : Hp} {s s' : Shared}
theorem Inv.env0 (I : Inv X pins σ H s) : Env0 X.prog X.w X.K X.mg X.base X.A X.stack s H :=
  ⟨I.ok.frames, I.ok.mod, I.bs, Nat.le_trans I.ok.bsz I.sz, I.stack, I.stkFree, I.hok, I.bare⟩
theorem Inv.after {Q : VK} {u : Value} (I : Inv X pins σ H s) (h : CE X.stack X.prog X.w H s Q u s') : EP X pins σ Q u s' := by
  obtain ⟨v, H', os, bare, un, hok, r, q⟩ := h
  obtain ⟨hh, g, d, t, os'⟩ := s'
  obtain rfl : os' = s.os := os
  exact ⟨v, H', I.call (h' := hh) (g' := g) (d' := d) (t' := t) (ch := []) un hok bare (fun b z => absurd z (by simp)), r, q⟩
end

def tCall (sp : Sp) (dvs : List V) (E : XK) (t : TA) : TE := fun σ H Q => t σ H fun vs H1 => sp (vs ++ dvs) H1 Q E
def tMeth (C : Addr) (m : Str) (sp : Sp) (dvs : List V) (E : XK) (ta : TE) (t : TA) : TE := fun σ H Q => ta σ H fun x H1 => ∃ a dx fs, x = .ref a ∧ H1 a = some (.ins C dx fs) ∧ fs.lookup m = none ∧
  t σ H1 fun vs H2 => sp (x :: (vs ++ dvs)) H2 Q E
def tMake (C : Addr) (sp : Sp) (dvs : List V) (E : XK) (t : TA) : TE := fun σ H Q => t σ H fun vs H1 => ∀ x dx, H1 x = none → H1 dx = none → dx ≠ x →
  sp (.ref x :: (vs ++ dvs)) (upd (upd H1 dx (.own x)) x (.ins C dx [])) (fun v H2 => v = .non ∧ Q (.ref x) H2) E

def Binds (K : PySem.W.Frag) (fd : FuncData) (ps : List Str) (ds : List Value) : Prop :=
  ∀ (s : Shared) (us : List Value), K.In s.heap → (us ++ ds).length = ps.length → BindsTo s fd ⟨us, []⟩ (ps.zip (us ++ ds))
theorem Binds.all {K : PySem.W.Frag} {fd : FuncData} {ps : List Str} (h : ∀ us : List Value, us.length = ps.length → bindArgs fd ⟨us, []⟩ = pure (ps.zip us)) : Binds K fd ps [] := fun s us _ hl => by
  rw [List.append_nil] at hl ⊢
  exact .of_eq (h us hl)

def Passes (CX : CXT) (X : Cx) (E : XK) : Prop := ∀ (pins : List (Addr × Obj)) (σ : St) (H : Hp) (s : Shared) (e : Value) (s' : Shared), Inv X pins σ H s → CX X.stack H s E e s' → X.xe e s'

section
variable {X : Cx} {CX : CXT} {k : Nat} {f C : Addr} {fd : FuncData} {ps : List Str} {sp : Sp} {dvs : List V} {ds : List Value} {E : XK} {x m : Str} {p pos apos : Pos} {e o : Expr} {es : List Expr} {ta : TE} {t : TA}

theorem run_fn {pins : List (Addr × Obj)} {σ : St} {H : Hp} {s : Shared} {Q : VK} {us : List Value} {vs : List V} (F : FnOk X.prog X.w X.K X.mg X.base CX k f fd ps sp) (hr : Room k X.A) (hb : Binds X.K fd ps ds) (hd : Vals dvs ds) (hx : Passes CX X E)
    (I : Inv X pins σ H s) (r : Vals vs us) (h : sp (vs ++ dvs) H Q E) : wpAny (model X.prog X.w) X.A (call (.ref f) us) (EP X pins σ Q) X.xe s := by
  have r2 : Vals (vs ++ dvs) (us ++ ds) := r.append hd
  have hl : (us ++ ds).length = ps.length := by rw [← r2.length]; exact F.len _ _ _ _ h
  refine wpAny_call (codeAny_mono (F.run X.A X.stack s H ⟨us, []⟩ (us ++ ds) (vs ++ dvs) Q E hr I.env0 (hb s us I.kIn hl) r2 h) fun r s' hq => ?_)
  cases r with
  | error e => exact hx pins σ H s e s' I hq
  | ok fl =>
    cases fl with
    | ret u => exact I.after hq
    | next => exact False.elim hq
    | brk => exact False.elim hq
    | cont => exact False.elim hq

theorem pe_call (F : FnOk X.prog X.w X.K X.mg X.base CX k f fd ps sp) (hr : Room k X.A) (hg : Gl X x) (hm : X.mg x = some (.ref f)) (hk : PySem.W.keepIn X.K (.ref f) = true) (hb : Binds X.K fd ps ds) (hd : Vals dvs ds) (hx : Passes CX X E)
    (ha : PA X (e :: es) t) (hdb : (x == ("__debug__" : Str)) = false := by decide) (he : starEach (e :: es) X.env = (false, eval e X.env) :: starEach es X.env := by rfl) (hpl : (backTo pos (starEach es X.env)).any (·.1) = false := by rfl) :
    PE X (.Call (.Name x p) (e :: es) [] pos) (tCall sp dvs E t) := by
  intro pins s σ H Q I h
  refine wpAny_Call_Name_kw (ld_glob I hg hm ?_ hdb)
  refine PySem.W.callWith_K (h₀ := X.base) I.ok.mod.kin hk (thn (ha pos pins s σ H _ I h) fun us s1 ⟨vs, H1, I1, r, q⟩ => ⟨I1.kIn, ?_⟩) he hpl
  exact run_fn F hr hb hd hx I1 r q
theorem pe_call0 (F : FnOk X.prog X.w X.K X.mg X.base CX k f fd ps sp) (hr : Room k X.A) (hg : Gl X x) (hm : X.mg x = some (.ref f)) (hk : PySem.W.keepIn X.K (.ref f) = true) (hb : Binds X.K fd ps ds) (hd : Vals dvs ds) (hx : Passes CX X E)
    (hdb : (x == ("__debug__" : Str)) = false := by decide) : PE X (.Call (.Name x p) [] [] pos) (tCall sp dvs E tNil) := by
  intro pins s σ H Q I h
  refine wpAny_Call_Name_kw (ld_glob I hg hm ?_ hdb)
  exact PySem.W.callWith_K0 I.kIn hk (run_fn (us := []) F hr hb hd hx I .nil h)

theorem pe_meth {pl : Sem Bool} (he : PE X o ta) (c : Cls X.K C) (hm : Meth X.K C m f) (F : FnOk X.prog X.w X.K X.mg X.base CX k f fd ps sp) (hr : Room k X.A) (hb : Binds X.K fd ps ds) (hd : Vals dvs ds) (hx : Passes CX X E) (ha : PA X (e :: es) t)
    (hst : starEach (e :: es) X.env = (false, eval e X.env) :: starEach es X.env := by rfl) (hpl : (backTo pos (starEach es X.env)).any (·.1) = false := by rfl)
    (ht : eval (.Call (.Attribute o m apos) (e :: es) [] pos) X.env = (do
      let ov ← eval o X.env
      standAt apos.atName
      let (f, first) ← holding [ov] (getMethod ov m pl)
      callWith pos f first (backTo pos (starEach (e :: es) X.env)) (backToKw pos (keywordEach [] X.env))) := by rfl) :
    PE X (.Call (.Attribute o m apos) (e :: es) [] pos) (tMeth C m sp dvs E ta t) := by
  intro pins s σ H Q I h
  refine PySem.W.methodCall_KW (pl := pl) (thn (he pins s σ H _ I h) fun u s1 ⟨x, H1, I1, rx, a, dx, fs, ex, ea, l, q⟩ => ?_) ht
  subst ex
  obtain rfl : u = Value.ref a := rx
  refine getmeth_ok I1 ea c hm l ?_
  refine PySem.W.callWith_K (first := [.ref a]) (h₀ := X.base) I.ok.mod.kin hm.kp (thn (ha pos pins s1 σ H1 _ I1 q) fun us s2 ⟨vs, H2, I2, r, q2⟩ => ⟨I2.kIn, ?_⟩) hst hpl
  exact run_fn (us := .ref a :: us) (vs := .ref a :: vs) F hr hb hd hx I2 (.cons rfl r) q2
theorem pe_meth0 {pl : Sem Bool} (he : PE X o ta) (c : Cls X.K C) (hm : Meth X.K C m f) (F : FnOk X.prog X.w X.K X.mg X.base CX k f fd ps sp) (hr : Room k X.A) (hb : Binds X.K fd ps ds) (hd : Vals dvs ds) (hx : Passes CX X E)
    (ht : eval (.Call (.Attribute o m apos) [] [] pos) X.env = (do
      let ov ← eval o X.env
      standAt apos.atName
      let (f, first) ← holding [ov] (getMethod ov m pl)
      callWith pos f first (backTo pos (starEach [] X.env)) (backToKw pos (keywordEach [] X.env))) := by rfl) :
    PE X (.Call (.Attribute o m apos) [] [] pos) (tMeth C m sp dvs E ta tNil) := by
  intro pins s σ H Q I h
  refine PySem.W.methodCall_KW (pl := pl) (thn (he pins s σ H _ I h) fun u s1 ⟨x, H1, I1, rx, a, dx, fs, ex, ea, l, q⟩ => ?_) ht
  subst ex
  obtain rfl : u = Value.ref a := rx
  refine getmeth_ok I1 ea c hm l ?_
  exact PySem.W.callWith_K0 (first := [.ref a]) I1.kIn hm.kp (run_fn (us := [.ref a]) (vs := [.ref a]) F hr hb hd hx I1 (.cons rfl .nil) q)

structure Mk (K : PySem.W.Frag) (C f : Addr) : Prop where
  makes : PySem.W.makesIn K C = true
  init : PySem.W.findIn K (.ref C) "__init__" = some (some (.ref f))
  fn : PySem.W.isFn K (.ref f) = true
  kp : PySem.W.keepIn K (.ref C) = true

theorem run_make {pins : List (Addr × Obj)} {σ : St} {H : Hp} {s : Shared} {Q : VK} {us : List Value} {vs : List V} (M : Mk X.K C f) (F : FnOk X.prog X.w X.K X.mg X.base CX k f fd ps sp) (hr : Room (k + 1) X.A) (hb : Binds X.K fd ps ds) (hd : Vals dvs ds)
    (hx : Passes CX X E) (I : Inv X pins σ H s) (r : Vals vs us)
    (h : ∀ x dx, H x = none → H dx = none → dx ≠ x → sp (.ref x :: (vs ++ dvs)) (upd (upd H dx (.own x)) x (.ins C dx [])) (fun v H2 => v = .non ∧ Q (.ref x) H2) E) :
    wpAny (model X.prog X.w) X.A (call (.ref C) us) (EP X pins σ Q) X.xe s := by
  have hq := h (s.heap.objs.size + 1) s.heap.objs.size (I.hok.fresh (Nat.le_succ _)) (I.hok.fresh (Nat.le_refl _)) (Nat.ne_of_lt (Nat.lt_succ_self _))
  have I2 := Inv.made (C := C) I
  have r2 : Vals (V.ref (s.heap.objs.size + 1) :: (vs ++ dvs)) (Value.ref (s.heap.objs.size + 1) :: (us ++ ds)) := .cons rfl (r.append hd)
  have hl : (Value.ref (s.heap.objs.size + 1) :: us ++ ds).length = ps.length := by
    have e := r2.length
    rw [F.len _ _ _ _ hq] at e
    exact e.symm
  refine wpAny_call (make_map (f := f) I.kIn M.makes M.init (beq_iff_eq.mp M.fn) (codeAny_mono (F.run _ X.stack _ _ ⟨Value.ref (s.heap.objs.size + 1) :: us, []⟩ (Value.ref (s.heap.objs.size + 1) :: (us ++ ds)) _ _ E (hr.make C us [])
    (I2.env0.make C us []) (hb _ (Value.ref (s.heap.objs.size + 1) :: us) I2.kIn hl) r2 hq) fun r s' hq' => ?_))
  cases r with
  | error e => exact hx pins σ _ _ e s' I2 hq'
  | ok fl =>
    cases fl with
    | ret u =>
      obtain ⟨v, H', I3, rv, ev, q3⟩ := I2.after hq'
      subst ev
      exact ⟨rv, ⟨V.ref (s.heap.objs.size + 1), H', I3, rfl, q3⟩⟩
    | next => exact False.elim hq'
    | brk => exact False.elim hq'
    | cont => exact False.elim hq'
theorem pe_make0 (M : Mk X.K C f) (F : FnOk X.prog X.w X.K X.mg X.base CX k f fd ps sp) (hr : Room (k + 1) X.A) (hg : Gl X x) (hm : X.mg x = some (.ref C)) (hb : Binds X.K fd ps ds) (hd : Vals dvs ds) (hx : Passes CX X E)
    (hdb : (x == ("__debug__" : Str)) = false := by decide) : PE X (.Call (.Name x p) [] [] pos) (tMake C sp dvs E tNil) := by
  intro pins s σ H Q I h
  refine wpAny_Call_Name_kw (ld_glob I hg hm ?_ hdb)
  exact PySem.W.callWith_K0 I.kIn M.kp (run_make (us := []) M F hr hb hd hx I .nil h)
end

section
variable {X : Cx} {CX : CXT} {k : Nat} {f C : Addr} {fd : FuncData} {ps ks : List Str} {sp : Sp} {E : XK} {x m : Str} {p pos apos kpos : Pos} {e o : Expr} {es : List Expr} {kws : List Keyword} {te ta : TE} {t tk : TA} {nm : Option Str}
structure KBinds (K : PySem.W.Frag) (fd : FuncData) (ps ks : List Str) (g : List Value → List Value → List Value) (gV : List V → List V → List V) : Prop where
  to : ∀ (s : Shared) (us ws : List Value), K.In s.heap → (g us ws).length = ps.length → BindsTo s fd ⟨us, ks.zip ws⟩ (ps.zip (g us ws))
  rel : ∀ {vs : List V} {us : List Value} {zs : List V} {ws : List Value}, Vals vs us → Vals zs ws → Vals (gV vs zs) (g us ws)
variable {g : List Value → List Value → List Value} {gV : List V → List V → List V}
end

structure FnScope (N P : List Str) (sc : Scope) : Prop where
  kind : sc.kind = .function
  co : sc.isCoroutine = false
  gen : sc.isGenerator = false
  nd : N.Nodup
  pre : N.take P.length = P
  par : ∀ x ∈ P, sc.names.lookup x = some .local ∨ sc.names.lookup x = some .cell
  nofree : ∀ y ∈ sc.names, y.2 ≠ .free

theorem bindL_out {kindOf : Str → Option NameKind} {x : Str} : ∀ {binds : List (Str × Value)} {m : Str → Option Value}, (∀ v, (x, v) ∉ binds) → bindL kindOf binds m x = m x
  | [], _, _ => rfl
  | (n, v) :: r, m, h => by
    unfold bindL
    rw [bindL_out fun w hw => h w (List.mem_cons_of_mem _ hw)]
    split
    · have : x ≠ n := by rintro rfl; exact h v List.mem_cons_self
      simp [this]
    · rfl
theorem bindC_out {kindOf : Str → Option NameKind} {x : Str} : ∀ {binds : List (Str × Value)} {m : Str → Option Value}, (∀ v, (x, v) ∉ binds) → bindC kindOf binds m x = m x
  | [], _, _ => rfl
  | (n, v) :: r, m, h => by
    unfold bindC
    rw [bindC_out fun w hw => h w (List.mem_cons_of_mem _ hw)]
    split
    · rfl
    · have : x ≠ n := by rintro rfl; exact h v List.mem_cons_self
      simp [this]
theorem bindL_get {kindOf : Str → Option NameKind} {x : Str} {v : Value} : ∀ {P : List Str} {vs : List Value} {i : Nat} {m : Str → Option Value}, P.Nodup → P[i]? = some x → vs[i]? = some v → kindOf x = some .local →
    bindL kindOf (P.zip vs) m x = some v
  | [], _, _, _, _, h, _, _ => by simp at h
  | _ :: _, [], _, _, _, _, h, _ => by simp at h
  | p :: P, w :: vs, 0, m, nd, h1, h2, hk => by
    simp at h1 h2; subst h1; subst h2
    show bindL kindOf ((p, w) :: P.zip vs) m p = _
    unfold bindL
    rw [bindL_out fun v hv => (List.nodup_cons.mp nd).1 (List.of_mem_zip hv).1, if_pos hk]
    simp
  | p :: P, w :: vs, i + 1, m, nd, h1, h2, hk => by
    show bindL kindOf ((p, w) :: P.zip vs) m x = _
    unfold bindL
    exact bindL_get (i := i) (List.nodup_cons.mp nd).2 (by simpa using h1) (by simpa using h2) hk
theorem bindC_get {kindOf : Str → Option NameKind} {x : Str} {v : Value} : ∀ {P : List Str} {vs : List Value} {i : Nat} {m : Str → Option Value}, P.Nodup → P[i]? = some x → vs[i]? = some v → kindOf x ≠ some .local →
    bindC kindOf (P.zip vs) m x = some v
  | [], _, _, _, _, h, _, _ => by simp at h
  | _ :: _, [], _, _, _, _, h, _ => by simp at h
  | p :: P, w :: vs, 0, m, nd, h1, h2, hk => by
    simp at h1 h2; subst h1; subst h2
    show bindC kindOf ((p, w) :: P.zip vs) m p = _
    unfold bindC
    rw [bindC_out fun v hv => (List.nodup_cons.mp nd).1 (List.of_mem_zip hv).1, if_neg hk]
    simp
  | p :: P, w :: vs, i + 1, m, nd, h1, h2, hk => by
    show bindC kindOf ((p, w) :: P.zip vs) m x = _
    unfold bindC
    exact bindC_get (i := i) (List.nodup_cons.mp nd).2 (by simpa using h1) (by simpa using h2) hk

def start (N : List Str) (vs : List V) : St := vs.map some ++ List.replicate (N.length - vs.length) none

def cxOf (CX : CXT) (P : Program) (w : World) (K : PySem.W.Frag) (mg : Str → Option Value) (base : Heap) (N : List Str) (qual : Str) (scope : Scope) (f : Addr) (cd : Value) (A : Around) (outer : List Env) (s : Shared) (H : Hp) (E : XK) : Cx where
  prog := P
  w := w
  K := K
  mg := mg
  base := base
  A := A.deeper (envOfC qual scope s.heap.objs.size f cd)
  N := N
  s₀ := s
  H₀ := H
  env := envOfC qual scope s.heap.objs.size f cd
  outer := outer
  stack := envOfC qual scope s.heap.objs.size f cd :: outer
  ex := []
  calm := true
  fn := fun _ => true
  pn := []
  xe := fun e s' => wpAny (model P w) (A.deeper (envOfC qual scope s.heap.objs.size f cd)) (leaving (envOfC qual scope s.heap.objs.size f cd) e) (fun _ s'' => CX outer H s E e s'') (fun e' s'' => CX outer H s E e' s'') s'

theorem cell_has {sc : Scope} {n : Nat} {x : Str} (h : sc.names.lookup x = some .cell) : ∃ c, (cellsFrom n sc.names []).lookup x = some c := by
  have q := PySem.W.cellsFrom_some sc.names n [] (.inl h)
  exact Option.isSome_iff_exists.mp q

theorem inv_start {CX : CXT} {P : Program} {w : World} {K : PySem.W.Frag} {mg : Str → Option Value} {base : Heap} {N ps : List Str} {qual : Str} {scope : Scope} {f : Addr} {cd : Value} {A : Around} {outer : List Env} {s s1 : Shared} {H : Hp} {E : XK} {us : List Value} {vs : List V}
    (S : FnScope N ps scope) (hd : A.handled = none) (e0 : Env0 P w K mg base A outer s H) (hl : vs.length = ps.length) (r : Vals vs us)
    (x : InCallC s s.heap.objs.size (bindL (envOfC qual scope s.heap.objs.size f cd).kindOf (ps.zip us) fun _ => none) (cellsFrom (s.heap.objs.size + 1) scope.names []) (bindC (envOfC qual scope s.heap.objs.size f cd).kindOf (ps.zip us) fun _ => none) s1) :
    Inv (cxOf CX P w K mg base N qual scope f cd A outer s H E) [] (start N vs) H s1 := by
  have hpl : ps.length ≤ N.length := by have := congrArg List.length S.pre; rw [List.length_take] at this; omega
  obtain ⟨h1, tk, rfl, hk⟩ := x.done
  have noA : ∀ b : Addr, b ∉ (cxOf CX P w K mg base N qual scope f cd A outer s H E).ex := fun b z => absurd (show b ∈ ([] : List Addr) from z) (by simp)
  refine ⟨⟨e0.mod, S.kind, rfl, rfl, Nat.le_refl _, fun y z c h1 h2 => ?_, fun y hy => ?_, fun y c _ h => ?_, fun _ => hd, Around.frames_deeper e0.frames, .inr ⟨rfl, rfl⟩, fun b z => absurd z (noA b), e0.bs, e0.bsz, fun b _ _ => noA b, fun b z => absurd z (noA b), e0.funs, e0.frf⟩,
    rfl, e0.bare, Un.kept hk, ⟨_, x.toInCall.ns, fun i y v h1 h2 h3 => ?_⟩, fun y c h => ⟨_, x.cell y c h⟩, e0.hok.fresh (Nat.le_refl _), fun y c h => ?_, fun p hp => absurd (show p ∈ ([] : List (Addr × Obj)) from hp) (by simp), e0.hok.kept hk, ?_⟩
  · exact name_of_addr x.apart (PySem.mem_of_lookup h1) (PySem.mem_of_lookup h2)
  · have hy : scope.names.lookup y = some .cell ∨ scope.names.lookup y = some .free := hy
    rcases hy with hy | hy
    · exact cell_has hy
    · exact absurd rfl (S.nofree _ (PySem.mem_of_lookup hy))
  · exact Nat.le_of_lt (x.above y c (PySem.mem_of_lookup h))
  · have hi : i < vs.length := by
      unfold start at h2
      by_cases hi : i < vs.length
      · exact hi
      · rw [List.getElem?_append_right (by simpa using hi)] at h2
        rw [List.getElem?_replicate] at h2
        split at h2 <;> cases h2
    have ha : vs[i]? = some v := by
      unfold start at h2
      rw [List.getElem?_append_left (by simpa using hi), List.getElem?_map] at h2
      cases e : vs[i]? with
      | none => rw [e] at h2; cases h2
      | some a => rw [e] at h2; cases h2; rfl
    obtain ⟨u, hu, rv⟩ := r.get ha
    have hp : ps[i]? = some y := by
      rw [← S.pre, List.getElem?_take_of_lt (by omega)]; exact h1
    have ndP : ps.Nodup := by rw [← S.pre]; exact S.nd.sublist (List.take_sublist _ _)
    refine ⟨u, rv, ?_⟩
    rcases S.par y (List.mem_of_getElem? hp) with k | k
    · exact .inl ⟨k, bindL_get ndP hp hu k⟩
    · obtain ⟨c, e⟩ := cell_has (n := s.heap.objs.size + 1) k
      refine .inr ⟨.inl k, c, e, ?_⟩
      have q := x.cell y c e
      rw [bindC_get ndP hp hu (by show scope.names.lookup y ≠ _; rw [k]; decide)] at q
      exact q
  · exact e0.hok.fresh (Nat.le_of_lt (x.above y c (PySem.mem_of_lookup h)))
  · unfold start
    show _ = N.length
    rw [List.length_append, List.length_map, List.length_replicate]
    omega

theorem fn_of {CX : CXT} {P : Program} {w : World} {K : PySem.W.Frag} {mg : Str → Option Value} {base : Heap} {k : Nat} {f : Addr} {name qual : Str} {params : Arguments} {body : List Stmt} {scope : Scope} {dV kV doc pm cdv ct oc : Value} {an od : Option Addr}
    {osl : Array (Option Value)} {N ps : List Str} {sp : Sp} (lk : K.lookup f = some ⟨oc, od, .func (PySem.W.fnOf name qual params body scope dV kV doc pm an cdv ct), osl⟩) (hcd : PySem.W.codeIn K cdv qual = true) (S : FnScope N ps scope)
    (len : ∀ vs H Q E, sp vs H Q E → vs.length = ps.length)
    (hbody : ∀ (A : Around) (outer : List Env) (s : Shared) (H : Hp) (vs : List V) (Q : VK) (E : XK), Room k (A.deeper (envOfC qual scope s.heap.objs.size f cdv)) → sp vs H Q E →
      ∃ t, PSs (cxOf CX P w K mg base N qual scope f cdv A outer s H E) body t ∧ t { nx := fun _ H' => Q .non H', rt := Q } (start N vs) H) :
    FnOk P w K mg base CX (k + 1) f (PySem.W.fnOf name qual params body scope dV kV doc pm an cdv ct) ps sp := by
  refine ⟨len, fun A outer s H args us vs Q E hr e0 hb r hsp => ?_⟩
  have hl := len _ _ _ _ hsp
  have KX : K.In s.heap := e0.mod.kin.keeps fun b o e => (e0.bs b o e).1
  have lim : s.heap.NoLimit := e0.mod.nolimit.keeps fun b o e => (e0.bs b o e).1
  have hkind : ∀ y ∈ ps.zip us, scope.names.lookup y.1 = some .local ∨ (scope.names.lookup y.1 = some .cell ∧ ((cellsFrom (s.heap.objs.size + 1) scope.names []).lookup y.1).isSome = true) := fun ⟨n, v⟩ hy => by
    rcases S.par n (List.of_mem_zip hy).1 with q | q
    · exact .inl q
    · exact .inr ⟨q, PySem.W.cellsFrom_some _ _ _ (.inl q)⟩
  refine codeAny_call_function hr.depth (KX _ _ lk) rfl S.co S.gen rfl (PySem.W.codeRec_of KX hcd) (hb _ _ _ _ ?_)
  refine wpAny_newFunctionEnv_cells S.kind hkind fun env he s1 x => ?_
  subst he
  refine ⟨lim.keeps x.toInCall.keep, codeAny_func ?_⟩
  obtain ⟨t, ht, hq⟩ := hbody A outer s H vs Q E (hr.deeper _) hsp
  have I : Inv (cxOf CX P w K mg base N qual scope f cdv A outer s H E) [] (start N vs) H s1 := inv_start S hr.hd e0 hl r x
  refine wpAny_mono (ht [] s1 (start N vs) H _ I hq) (fun fl s' hs => ?_) fun e s' hs => hs
  have fin : ∀ {σ' : St} {H' : Hp} {v : V} {u : Value}, Inv (cxOf CX P w K mg base N qual scope f cdv A outer s H E) [] σ' H' s' → RelV v u → Q v H' → CE outer P w H s Q u s' :=
    fun {σ' H' v u} J rv q => ⟨v, H', J.os, J.bare, J.base, J.hok, rv, q⟩
  cases fl with
  | ret u =>
    obtain ⟨v, σ', H', J, rv, q⟩ := hs
    exact fin J rv q
  | next =>
    obtain ⟨σ', H', J, q⟩ := hs
    exact fin (v := V.non) (u := Value.none) J rfl q
  | brk =>
    obtain ⟨_, _, _, q⟩ := hs
    exact False.elim q
  | cont =>
    obtain ⟨_, _, _, q⟩ := hs
    exact False.elim q
end L2

namespace L2
open PySem PySem.Spec PyProof.Rows
section
variable {X : Cx} {x : Str} {p pos : Pos} {e : Expr} {es : List Expr} {t : TA} {id T : String} {r : List V → Hp → VK → Prop}

def tCB (r : List V → Hp → VK → Prop) (t : TA) : TE := fun σ H Q => t σ H fun vs H1 => r vs H1 Q
theorem pe_callB (hc : CallR X (.builtin id) r) (hg : Gl X x) (hm : X.mg x = none) (hv : bootBuiltins x = some (.builtin id)) (ha : PA X (e :: es) t) (hn : x ≠ "__name__" := by decide) (hdb : (x == ("__debug__" : Str)) = false := by decide)
    (he : starEach (e :: es) X.env = (false, eval e X.env) :: starEach es X.env := by rfl) (hpl : (backTo pos (starEach es X.env)).any (·.1) = false := by rfl) : PE X (.Call (.Name x p) (e :: es) [] pos) (tCB r t) := by
  intro pins s σ H Q I h
  refine wpAny_Call_Name_kw (ld_blt I hg hm hv ?_ hn hdb)
  exact PyProof.Rows.callWith_builtin1 (thn (ha pos pins s σ H _ I h) fun us s1 ⟨vs, H1, I1, r1, q1⟩ => hc pins s1 σ H1 vs us Q I1 r1 q1) he hpl
theorem pe_callTy (hc : CallR X (.type T) r) (hg : Gl X x) (hm : X.mg x = none) (hv : bootBuiltins x = some (.type T)) (ha : PA X (e :: es) t) (hn : x ≠ "__name__" := by decide) (hdb : (x == ("__debug__" : Str)) = false := by decide)
    (he : starEach (e :: es) X.env = (false, eval e X.env) :: starEach es X.env := by rfl) (hpl : (backTo pos (starEach es X.env)).any (·.1) = false := by rfl) : PE X (.Call (.Name x p) (e :: es) [] pos) (tCB r t) := by
  intro pins s σ H Q I h
  refine wpAny_Call_Name_kw (ld_blt I hg hm hv ?_ hn hdb)
  exact PyProof.Rows.callWith_type1 (thn (ha pos pins s σ H _ I h) fun us s1 ⟨vs, H1, I1, r1, q1⟩ => hc pins s1 σ H1 vs us Q I1 r1 q1) he hpl
end
end L2

namespace L2
open PySem PySem.Spec PyProof.Rows

section
variable {κ : Type} [DecidableEq κ]
def valV (kvs : List (κ × V)) (k : κ) : Option V := (kvs.find? fun kv => decide (kv.1 = k)).map (·.2)
def putK (kvs : List (κ × V)) (k : κ) (v : V) : List (κ × V) :=
  if (kvs.any fun kv => decide (kv.1 = k)) = true then kvs.map (fun kv => if kv.1 = k then (kv.1, v) else kv) else kvs ++ [(k, v)]
def dropK (kvs : List (κ × V)) (k : κ) : List (κ × V) := kvs.filter fun kv => decide (kv.1 ≠ k)

theorem valV_nil {k : κ} : valV ([] : List (κ × V)) k = none := rfl
theorem valV_pos {p : κ × V} {r : List (κ × V)} {k : κ} (e : p.1 = k) : valV (p :: r) k = some p.2 := by simp [valV, List.find?_cons, e]
theorem valV_neg {p : κ × V} {r : List (κ × V)} {k : κ} (e : ¬ p.1 = k) : valV (p :: r) k = valV r k := by simp [valV, List.find?_cons, e]
theorem valV_any (k : κ) : ∀ kvs : List (κ × V), (kvs.any fun kv => decide (kv.1 = k)) = (valV kvs k).isSome
  | [] => rfl
  | p :: r => by
    rw [List.any_cons]
    by_cases e : p.1 = k
    · simp only [valV_pos e, decide_eq_true e, Bool.true_or, Option.isSome_some]
    · rw [valV_neg e, decide_eq_false e, Bool.false_or]; exact valV_any k r
theorem valV_map (k j : κ) (y : V) : ∀ kvs : List (κ × V), valV (kvs.map fun kv => if kv.1 = k then (kv.1, y) else kv) j = (valV kvs j).map fun x => if j = k then y else x
  | [] => rfl
  | p :: r => by
    have ih := valV_map k j y r
    rw [List.map_cons]
    by_cases h : p.1 = k
    · rw [if_pos h]
      by_cases e : p.1 = j
      · rw [valV_pos (p := (p.1, y)) e, valV_pos e, Option.map_some, if_pos (e.symm.trans h)]
      · rw [valV_neg (p := (p.1, y)) e, valV_neg e, ih]
    · rw [if_neg h]
      by_cases e : p.1 = j
      · rw [valV_pos (p := p) e, valV_pos e, Option.map_some, if_neg (fun z => h (e.trans z))]
      · rw [valV_neg (p := p) e, valV_neg e, ih]
theorem valV_snoc (k j : κ) (y : V) : ∀ kvs : List (κ × V), valV kvs k = none → valV (kvs ++ [(k, y)]) j = if j = k then some y else valV kvs j
  | [], _ => by
    by_cases e : k = j
    · rw [if_pos e.symm]; exact valV_pos (p := (k, y)) e
    · rw [if_neg (fun z => e z.symm)]; exact valV_neg (p := (k, y)) e
  | p :: r, hn => by
    rw [List.cons_append]
    have hk : ¬ p.1 = k := fun z => by rw [valV_pos z] at hn; cases hn
    rw [valV_neg hk] at hn
    have ih := valV_snoc k j y r hn
    by_cases e : p.1 = j
    · rw [valV_pos e, valV_pos e, if_neg (fun z => hk (e.trans z))]
    · rw [valV_neg e, valV_neg e, ih]
theorem valV_put (kvs : List (κ × V)) (k j : κ) (y : V) : valV (putK kvs k y) j = if j = k then some y else valV kvs j := by
  unfold putK
  by_cases a : (kvs.any fun kv => decide (kv.1 = k)) = true
  · rw [if_pos a, valV_map]
    rw [valV_any] at a
    by_cases e : j = k
    · obtain ⟨x, hx⟩ := Option.isSome_iff_exists.mp a
      rw [if_pos e, e, hx, Option.map_some, if_pos rfl]
    · rw [if_neg e]
      cases valV kvs j with
      | none => rfl
      | some x => rw [Option.map_some, if_neg e]
  · rw [if_neg a]
    refine valV_snoc k j y kvs ?_
    rw [valV_any] at a
    cases q : valV kvs k with
    | none => rfl
    | some x => rw [q] at a; exact (a rfl).elim
theorem length_putK (kvs : List (κ × V)) (k : κ) (v : V) : (putK kvs k v).length ≤ kvs.length + 1 := by
  unfold putK
  split
  · rw [List.length_map]; omega
  · rw [List.length_append, List.length_cons, List.length_nil]; omega
theorem putK_new {kvs : List (κ × V)} {k : κ} (v : V) (h : valV kvs k = none) : putK kvs k v = kvs ++ [(k, v)] := by
  unfold putK
  rw [valV_any, h]
  exact if_neg (by decide)

theorem RelO.isSome_eq {o : Option V} {u : Option Value} (r : RelO o u) : o.isSome = u.isSome := by
  cases o with
  | none => cases u with
    | none => rfl
    | some _ => exact (show False from r).elim
  | some _ => cases u with
    | none => exact (show False from r).elim
    | some _ => rfl
theorem RelO.getD {o : Option V} {u : Option Value} {d : V} {d' : Value} (r : RelO o u) (rd : RelV d d') : RelV (o.getD d) (u.getD d') := by
  cases o with
  | none => cases u with
    | none => exact rd
    | some _ => exact (show False from r).elim
  | some _ => cases u with
    | none => exact (show False from r).elim
    | some _ => exact r

theorem KV.val {kvs : List (κ × V)} {vs : List (κ × Value)} (r : KV kvs vs) (k : κ) : RelO (valV kvs k) (valueAt vs k) := by
  unfold KV at r
  induction r with
  | nil => exact True.intro
  | @cons p q ps qs h t ih =>
    obtain ⟨h1, h2⟩ := h
    by_cases e : p.1 = k
    · have e' : q.1 = k := h1.symm.trans e
      have b : valueAt (q :: qs) k = some q.2 := by simp [valueAt, List.find?_cons, e']
      rw [valV_pos e, b]; exact h2
    · have e' : ¬ q.1 = k := fun z => e (h1.trans z)
      have b : valueAt (q :: qs) k = valueAt qs k := by simp [valueAt, List.find?_cons, e']
      rw [valV_neg e, b]; exact ih
theorem KV.any {kvs : List (κ × V)} {vs : List (κ × Value)} (r : KV kvs vs) (k : κ) : (kvs.any fun kv => decide (kv.1 = k)) = vs.any fun kv => decide (kv.1 = k) := by
  unfold KV at r
  induction r with
  | nil => rfl
  | cons h t ih => rw [List.any_cons, List.any_cons, ih, h.1]
theorem KV.repl {kvs : List (κ × V)} {vs : List (κ × Value)} (r : KV kvs vs) (k : κ) {y : V} {u : Value} (ry : RelV y u) :
    KV (kvs.map fun kv => if kv.1 = k then (kv.1, y) else kv) (vs.map fun kv => if kv.1 = k then (kv.1, u) else kv) := by
  unfold KV at r ⊢
  induction r with
  | nil => exact .nil
  | @cons p q ps qs h t ih =>
    rw [List.map_cons, List.map_cons]
    refine .cons ?_ ih
    obtain ⟨h1, h2⟩ := h
    by_cases e : p.1 = k
    · rw [if_pos e, if_pos (h1.symm.trans e)]; exact ⟨h1, ry⟩
    · rw [if_neg e, if_neg (fun z => e (h1.trans z))]; exact ⟨h1, h2⟩
theorem KV.put {kvs : List (κ × V)} {vs : List (κ × Value)} (r : KV kvs vs) (k : κ) {y : V} {u : Value} (ry : RelV y u) : KV (putK kvs k y) (stored vs k u) := by
  unfold putK stored
  rw [r.any k]
  by_cases e : (vs.any fun kv => decide (kv.1 = k)) = true
  · rw [if_pos e, if_pos e]; exact r.repl k ry
  · rw [if_neg e, if_neg e]; exact Paired.snoc r ⟨rfl, ry⟩
theorem KV.drop {kvs : List (κ × V)} {vs : List (κ × Value)} (r : KV kvs vs) (k : κ) : KV (dropK kvs k) (without vs k) := by
  unfold KV at r ⊢
  unfold dropK without
  induction r with
  | nil => exact .nil
  | @cons p q ps qs h t ih =>
    obtain ⟨h1, h2⟩ := h
    rw [List.filter_cons, List.filter_cons]
    by_cases e : p.1 = k
    · have a : ¬ decide (p.1 ≠ k) = true := by simp [e]
      have b : ¬ decide (q.1 ≠ k) = true := by simp [h1.symm.trans e]
      rw [if_neg a, if_neg b]; exact ih
    · have e' : ¬ q.1 = k := fun z => e (h1.trans z)
      have a : decide (p.1 ≠ k) = true := by simp [e]
      have b : decide (q.1 ≠ k) = true := by simp [e']
      rw [if_pos a, if_pos b]; exact .cons ⟨h1, h2⟩ ih
theorem KV.keys {kvs : List (κ × V)} {vs : List (κ × Value)} (r : KV kvs vs) : kvs.map (·.1) = vs.map (·.1) := by
  unfold KV at r
  induction r with
  | nil => rfl
  | cons h t ih => rw [List.map_cons, List.map_cons, ih, h.1]
theorem KV.length {kvs : List (κ × V)} {vs : List (κ × Value)} (r : KV kvs vs) : kvs.length = vs.length := Paired.length r
end


theorem kV_is {P : Program} {w : World} {k : Key} {u : Value} (r : RelV (kV k) u) : (mixKind P w).is k u = true := by
  cases k with
  | inl i => obtain ⟨t, e⟩ := (show ∃ t, u = Value.int i t from r); subst e; exact mixKind_int P w i t
  | inr x => obtain ⟨t, e⟩ := (show ∃ t, u = Value.str x t from r); subst e; exact mixKind_str P w x t
theorem items_are {P : Program} {w : World} : ∀ {ks : List Key} {us : List Value}, Vals (ks.map kV) us → ItemsAre (mixKind P w) ks us
  | [], _, r => by rw [List.map_nil] at r; cases r; exact .nil
  | k :: ks, _, r => by
    rw [List.map_cons] at r
    cases r with
    | cons h t => exact .cons (kV_is h) (items_are t)

abbrev KT (H : Hp) : List (List Key × V) → List (List Key × Addr × Value) → Prop := Paired fun p q => p.1 = q.1 ∧ H q.2.1 = some (.tup (p.1.map kV)) ∧ RelV p.2 q.2.2
theorem KT.val {H : Hp} {kvs : List (List Key × V)} {xs : List (List Key × Addr × Value)} (r : KT H kvs xs) (k : List Key) : RelO (valV kvs k) ((atKey xs k).map (·.2)) := by
  induction r with
  | nil => exact True.intro
  | @cons p q ps qs h t ih =>
    obtain ⟨h1, _, h2⟩ := h
    by_cases e : p.1 = k
    · have e' : q.1 = k := h1.symm.trans e
      have b : atKey (q :: qs) k = some q.2 := by simp [atKey, List.find?_cons, e']
      rw [valV_pos e, b]; exact h2
    · have e' : ¬ q.1 = k := fun z => e (h1.trans z)
      have b : atKey (q :: qs) k = atKey qs k := by simp [atKey, List.find?_cons, e']
      rw [valV_neg e, b]; exact ih
theorem KT.repl {H : Hp} {kvs : List (List Key × V)} {xs : List (List Key × Addr × Value)} (r : KT H kvs xs) (k : List Key) {y : V} {u : Value} (ry : RelV y u) :
    KT H (kvs.map fun kv => if kv.1 = k then (kv.1, y) else kv) (xs.map (putAt k u)) := by
  induction r with
  | nil => exact .nil
  | @cons p q ps qs h t ih =>
    rw [List.map_cons, List.map_cons]
    refine .cons ?_ ih
    obtain ⟨h1, h2, h3⟩ := h
    unfold putAt
    by_cases e : p.1 = k
    · rw [if_pos e, if_pos (h1.symm.trans e)]; exact ⟨h1, h2, ry⟩
    · rw [if_neg e, if_neg (fun z => e (h1.trans z))]; exact ⟨h1, h2, h3⟩
theorem KT.put {H : Hp} {kvs : List (List Key × V)} {xs : List (List Key × Addr × Value)} (r : KT H kvs xs) (k : List Key) {b : Addr} {y : V} {u : Value} (hb : H b = some (.tup (k.map kV))) (ry : RelV y u) :
    KT H (putK kvs k y) (storedH xs k b u) := by
  have e : (kvs.any fun kv => decide (kv.1 = k)) = (atKey xs k).isSome := by
    rw [valV_any, (r.val k).isSome_eq, Option.isSome_map]
  unfold putK storedH
  rw [e]
  by_cases q : (atKey xs k).isSome = true
  · rw [if_pos q, if_pos q]; exact r.repl k ry
  · rw [if_neg q, if_neg q]; exact Paired.snoc r ⟨rfl, hb, ry⟩
theorem KT.keeps {H H' : Hp} {kvs : List (List Key × V)} {xs : List (List Key × Addr × Value)} (r : KT H kvs xs) (ht : ∀ b ys, H b = some (.tup ys) → H' b = some (.tup ys)) : KT H' kvs xs :=
  Paired.mapP r fun _ _ z => ⟨z.1, ht _ _ z.2.1, z.2.2⟩

section
variable {P : Program} {w : World} {H : Hp} {h : Heap} {a : Addr}
theorem rd_of {u : HO} (ok : HOk P w H h) (e : Rd H a u) : ObjOk P w H h a u := e.ok ok
theorem dk_rd {kvs : List (Key × V)} (ok : HOk P w H h) (e : Rd H a (.dK kvs)) : kvs.length ≤ sizeLine ∧ (a == sysModules) = false ∧ ∃ vs, KV kvs vs ∧ h.DictOf (mixKind P w) a vs :=
  show ObjOk P w H h a (.dK kvs) from rd_of ok e
theorem dk_of {kvs : List (Key × V)} (ok : HOk P w H h) (e : H a = some (.dK kvs)) : kvs.length ≤ sizeLine ∧ (a == sysModules) = false ∧ ∃ vs, KV kvs vs ∧ h.DictOf (mixKind P w) a vs := dk_rd ok (.inl e)
theorem key_of {ks : List Key} (ok : HOk P w H h) (e : H a = some (.tup (ks.map kV))) : (tupleKind (mixKind P w)).is h ks a := by
  obtain ⟨_, its, r, o, h1, h2, n, h3⟩ := (show ObjOk P w H h a (.tup (ks.map kV)) from ok a _ e)
  exact ⟨o, its.toArray, n, h1, h2, h3, by simpa using items_are r⟩
theorem dt_rd {kvs : List (List Key × V)} (ok : HOk P w H h) (e : Rd H a (.dT kvs)) : kvs.length ≤ sizeLine ∧ (a == sysModules) = false ∧
    ∃ xs, KT H kvs xs ∧ h.DictOfH (tupleKind (mixKind P w)) a xs := by
  obtain ⟨z, y, xs, r, o, es, ep, h1, h2, h3, h4, h5⟩ := (show ObjOk P w H h a (.dT kvs) from rd_of ok e)
  refine ⟨z, y, xs, r, o, es, ep, h1, h2, h3, h4, fun x hx => ?_, h5⟩
  have all : ∀ {l : List (List Key × V)} {m : List (List Key × Addr × Value)}, KT H l m → ∀ x ∈ m, (tupleKind (mixKind P w)).is h x.1 x.2.1 := by
    intro l m q
    induction q with
    | nil => intro x hx; exact nomatch hx
    | @cons p q ps qs hq t ih =>
      intro x hx
      rcases List.mem_cons.mp hx with e | hx
      · subst e
        exact key_of ok (by rw [← hq.1]; exact hq.2.1)
      · exact ih x hx
  exact all r x hx
theorem dt_of {kvs : List (List Key × V)} (ok : HOk P w H h) (e : H a = some (.dT kvs)) : kvs.length ≤ sizeLine ∧ (a == sysModules) = false ∧
    ∃ xs, KT H kvs xs ∧ h.DictOfH (tupleKind (mixKind P w)) a xs := dt_rd ok (.inl e)
end

def DGet (H : Hp) (a : Addr) (y : V) (r : Option V) : Prop :=
  (∃ kvs k, Rd H a (.dK kvs) ∧ y = kV k ∧ r = valV kvs k) ∨ ∃ kvs k b, Rd H a (.dT kvs) ∧ y = .ref b ∧ H b = some (.tup (k.map kV)) ∧ r = valV kvs k
def DPut (H : Hp) (a : Addr) (y v : V) (H' : Hp) : Prop :=
  (∃ kvs k, H a = some (.dK kvs) ∧ y = kV k ∧ kvs.length < sizeLine ∧ H' = upd H a (.dK (putK kvs k v))) ∨
  ∃ kvs k b, H a = some (.dT kvs) ∧ y = .ref b ∧ H b = some (.tup (k.map kV)) ∧ kvs.length < sizeLine ∧ H' = upd H a (.dT (putK kvs k v))
theorem DGet.k {H : Hp} {a : Addr} {kvs : List (Key × V)} {k : Key} (e : H a = some (.dK kvs)) : DGet H a (kV k) (valV kvs k) := .inl ⟨kvs, k, .inl e, rfl, rfl⟩
theorem DGet.t {H : Hp} {a b : Addr} {kvs : List (List Key × V)} {k : List Key} (e : H a = some (.dT kvs)) (eb : H b = some (.tup (k.map kV))) : DGet H a (.ref b) (valV kvs k) := .inr ⟨kvs, k, b, .inl e, rfl, eb, rfl⟩
theorem DPut.k {H : Hp} {a : Addr} {kvs : List (Key × V)} {k : Key} {v : V} (e : H a = some (.dK kvs)) (hl : kvs.length < sizeLine) : DPut H a (kV k) v (upd H a (.dK (putK kvs k v))) := .inl ⟨kvs, k, e, rfl, hl, rfl⟩
theorem DPut.t {H : Hp} {a b : Addr} {kvs : List (List Key × V)} {k : List Key} {v : V} (e : H a = some (.dT kvs)) (eb : H b = some (.tup (k.map kV))) (hl : kvs.length < sizeLine) :
    DPut H a (.ref b) v (upd H a (.dT (putK kvs k v))) := .inr ⟨kvs, k, b, e, rfl, eb, hl, rfl⟩


section
variable {X : Cx} {pins : List (Addr × Obj)} {σ : St} {H : Hp} {s : Shared} {a : Addr} {y v : V} {u r : Value} {o : Option V} {A : Around} {E : Value → Shared → Prop}

theorem Inv.big (I : Inv X pins σ H s) : sysModules < s.heap.objs.size := by
  have h : mainGlobals < s.heap.objs.size := (I.mod.glob.keeps I.bk).lt
  exact Nat.lt_trans (by decide) h

theorem d_getItem {Q : Value → Shared → Prop} (hu : A.units + 1 < cLine) (I : Inv X pins σ H s) (g : DGet H a y (some v)) (ry : RelV y u) (h : ∀ w' s', Inv X pins σ H s' → RelV v w' → Q w' s') :
    wpAny (model X.prog X.w) A (getItem (.ref a) u) Q E s := by
  rcases g with ⟨kvs, k, e, ey, l⟩ | ⟨kvs, k, b, e, ey, eb, l⟩
  · subst ey
    obtain ⟨z, hd, vs, rel, dd⟩ := dk_rd I.hok e
    obtain ⟨w', hw, rw'⟩ := RelO.some_of (v := v) (o := valueAt vs k) (by rw [l]; exact rel.val k)
    exact wpAny_getItem_of (kV_is ry) dd.mapOf hw (h w' _ (I.tok _) rw')
  · subst ey
    cases (show u = Value.ref b from ry)
    obtain ⟨z, hd, xs, rel, dd⟩ := dt_rd I.hok e
    obtain ⟨w', hw, rw'⟩ := RelO.some_of (v := v) (o := (atKey xs k).map (·.2)) (by rw [l]; exact rel.val k)
    obtain ⟨p, hp, hp2⟩ := Option.map_eq_some_iff.mp hw
    refine wpAny_getItem_heap (tupleKind_room_in1 hu) (key_of I.hok eb) dd hp ?_
    rw [hp2]
    exact h w' _ (I.tok _) rw'
theorem d_in {Q : Value → Shared → Prop} (hu : A.units + 1 < cLine) (I : Inv X pins σ H s) (g : DGet H a y o) (ry : RelV y u) (h : ∀ s', Inv X pins σ H s' → Q (.bool o.isSome) s') :
    wpAny (model X.prog X.w) A (compareOp .In u (.ref a)) Q E s := by
  rcases g with ⟨kvs, k, e, ey, l⟩ | ⟨kvs, k, b, e, ey, eb, l⟩
  · subst ey
    obtain ⟨z, hd, vs, rel, dd⟩ := dk_rd I.hok e
    refine wpAny_in_of (kV_is ry) hd dd.mapOf ?_
    rw [← (rel.val k).isSome_eq, ← l]
    exact h _ (I.tok _)
  · subst ey
    cases (show u = Value.ref b from ry)
    obtain ⟨z, hd, xs, rel, dd⟩ := dt_rd I.hok e
    refine wpAny_in_heap (tupleKind_room_in1 hu) (key_of I.hok eb) hd dd ?_
    have q := (rel.val k).isSome_eq
    rw [Option.isSome_map] at q
    rw [← q, ← l]
    exact h _ (I.tok _)
theorem d_notIn {Q : Value → Shared → Prop} (hu : A.units + 1 < cLine) (I : Inv X pins σ H s) (g : DGet H a y o) (ry : RelV y u) (h : ∀ s', Inv X pins σ H s' → Q (.bool (!o.isSome)) s') :
    wpAny (model X.prog X.w) A (compareOp .NotIn u (.ref a)) Q E s := by
  rcases g with ⟨kvs, k, e, ey, l⟩ | ⟨kvs, k, b, e, ey, eb, l⟩
  · subst ey
    obtain ⟨z, hd, vs, rel, dd⟩ := dk_rd I.hok e
    refine wpAny_notIn_of (kV_is ry) hd dd.mapOf ?_
    rw [← (rel.val k).isSome_eq, ← l]
    exact h _ (I.tok _)
  · subst ey
    cases (show u = Value.ref b from ry)
    obtain ⟨z, hd, xs, rel, dd⟩ := dt_rd I.hok e
    refine wpAny_notIn_heap (tupleKind_room_in1 hu) (key_of I.hok eb) hd dd ?_
    have q := (rel.val k).isSome_eq
    rw [Option.isSome_map] at q
    rw [← q, ← l]
    exact h _ (I.tok _)
theorem d_write {h' : Heap} {t' : Nat} {ob : HO} (I : Inv X pins σ H s) (mu : Mut (H a)) (hs : Heap.SameBut a s.heap h') (he : ∃ q, h'.get? a = some q) (new : ObjOk X.prog X.w (upd H a ob) h' a ob) :
    Inv X pins σ (upd H a ob) { s with heap := h', toks := t' } :=
  I.write (x := a) (e := a) mu (.inl rfl) (fun b q hb z => (hs.2 b hb).trans z) he new
theorem dk_new {P : Program} {w : World} {H' : Hp} {h' : Heap} {kvs : List (Key × V)} {vs : List (Key × Value)} (z : kvs.length ≤ sizeLine) (hd : (a == sysModules) = false) (rel : KV kvs vs) (dd : h'.DictOf (mixKind P w) a vs) :
    ObjOk P w H' h' a (.dK kvs) := ⟨z, hd, vs, rel, dd⟩
theorem d_setItem {H' : Hp} {Q : Unit → Shared → Prop} (hu : A.units + 1 < cLine) (I : Inv X pins σ H s) (g : DPut H a y v H') (ry : RelV y u) (rv : RelV v r) (h : ∀ s', Inv X pins σ H' s' → Q () s') :
    wpAny (model X.prog X.w) A (setItem (.ref a) u r) Q E s := by
  rcases g with ⟨kvs, k, e, ey, l, eH⟩ | ⟨kvs, k, b, e, ey, eb, l, eH⟩
  · subst ey eH
    obtain ⟨z, hd, vs, rel, dd⟩ := dk_of I.hok e
    have hz : vs.length ≤ sizeLine := by rw [← rel.length]; exact z
    have hl : (putK kvs k v).length ≤ sizeLine := by have := length_putK kvs k v; omega
    refine wpAny_setItem_pairs (hsz := hz) (kV_is ry) dd fun h' dd' hs => h _ ?_
    have he : ∃ q, h'.get? a = some q := let ⟨q, _, _, hq, _⟩ := dd'; ⟨q, hq⟩
    exact d_write I (by rw [e]; exact True.intro) hs he (dk_new hl hd (rel.put k rv) dd')
  · subst ey eH
    cases (show u = Value.ref b from ry)
    obtain ⟨z, hd, xs, rel, dd⟩ := dt_of I.hok e
    have hz : xs.length ≤ sizeLine := by rw [← Paired.length rel]; exact z
    have hl : (putK kvs k v).length ≤ sizeLine := by have := length_putK kvs k v; omega
    refine wpAny_setItem_heap (hsz := hz) (tupleKind_room_in1 hu) (key_of I.hok eb) dd fun h' dd' hs => h _ ?_
    obtain ⟨q, es, ep, hq, h2, h3, h4, _, h5⟩ := dd'
    refine d_write I (by rw [e]; exact True.intro) hs ⟨q, hq⟩ ⟨hl, hd, _, (rel.put k eb rv).keeps fun c ys ec => ?_, q, es, ep, hq, h2, h3, h4, h5⟩
    rw [upd_ne (ne_of ec e (fun z => nomatch z))]
    exact ec
end

section
variable {X : Cx} {pins : List (Addr × Obj)} {σ : St} {H : Hp} {s : Shared} {a : Addr} {kvs : List (Key × V)} {k : Key} {u : Value} {A : Around} {E : Value → Shared → Prop}
end


def NoSl (i : Expr) : Prop := ∀ ov iv, subscripted i false ov iv = operate [ov, iv] (getItem ov iv)
theorem subD_of {prog : Program} {w : World} {A : Around} {E : Value → Shared → Prop} {s : Shared} {env : Env} {value slice : Expr} {pos : Pos} {T id : String} {Q : Value → Shared → Prop}
    (hl : typeLookup (.type T) "__getitem__" = pure (some (.builtin id))) (hs : NoSl slice)
    (h : wpAny (model prog w) A (eval value env) (fun o s₁ => wpAny (model prog w) A (eval slice env) (fun i s₂ => s₂.TypeIs o T ∧ wpAny (model prog w) A (getItem o i) Q E s₂) E s₁) E s) :
    wpAny (model prog w) A (eval (.Subscript value slice pos) env) Q E s := by
  refine Subscript_ (wpAny_mono h (fun o s₁ h₁ => wpAny_mono h₁ (fun i s₂ h₂ => ?_) fun _ _ x => x) fun _ _ x => x)
  obtain ⟨hT, h₂⟩ := h₂
  unfold subscriptTail
  refine wpAny_bind ?_
  rw [getitemInPython_of_ne hT.not_modules]
  refine wpAny_bind (wpAny_specialOf hT hl ?_)
  have fin : wpAny (model prog w) A (subscripted slice false o i) (fun r s₃ => wpAny (model prog w) A (letTemporaryGo value o r >>= fun _ => pure r) Q E s₃) E s₂ := by
    rw [hs o i]
    exact wpAny_operating (wpAny_mono h₂ (fun r s₃ h₃ => wpAny_bind (wpAny_letTemporaryGo (wpAny_pure h₃))) fun _ _ x => x)
  first
    | exact wpAny_pure (wpAny_bind fin)
    | exact wpAny_bind (wpAny_pure (wpAny_bind fin))
    | exact wpAny_bind fin

theorem dict_typeIs {X : Cx} {pins : List (Addr × Obj)} {σ : St} {H : Hp} {s : Shared} {a : Addr} {y : V} {o : Option V} (I : Inv X pins σ H s) (g : DGet H a y o) : s.TypeIs (.ref a) "dict" := by
  rcases g with ⟨kvs, k, e, _, _⟩ | ⟨kvs, k, b, e, _, _, _⟩
  · obtain ⟨_, _, vs, _, dd⟩ := dk_rd I.hok e
    exact dd.typeIs
  · obtain ⟨_, _, xs, _, dd⟩ := dt_rd I.hok e
    exact dd.typeIs
def tDGet (td ty : TE) : TE := fun σ H Q => td σ H fun x H1 => ty σ H1 fun y H2 => ∃ a v, x = .ref a ∧ DGet H2 a y (some v) ∧ Q v H2
def tDIn (ty td : TE) : TE := fun σ H Q => ty σ H fun y H1 => td σ H1 fun x H2 => ∃ a o, x = .ref a ∧ DGet H2 a y o ∧ Q (.bl o.isSome) H2
def tDNotIn (ty td : TE) : TE := fun σ H Q => ty σ H fun y H1 => td σ H1 fun x H2 => ∃ a o, x = .ref a ∧ DGet H2 a y o ∧ Q (.bl (!o.isSome)) H2
def sDPut (td ty tv : TE) : TS := fun D σ H => tv σ H fun v H1 => td σ H1 fun x H2 => ty σ H2 fun y H3 => ∃ a H4, x = .ref a ∧ DPut H3 a y v H4 ∧ D.nx σ H4
section
variable {X : Cx} {o i e value : Expr} {pos pos' tpos : Pos} {td ty tv : TE}
theorem pe_dget (hu : X.A.units + 1 < cLine) (ho : PE X o td) (hi : PE X i ty) (hs : NoSl i) : PE X (.Subscript o i pos) (tDGet td ty) := by
  intro pins s σ H Q I h
  refine subD_of PySem.F.slot_dict_getitem.lookup hs (thn (ho pins s σ H _ I h) fun u s1 ⟨x, H1, I1, rx, q1⟩ => thn (hi pins s1 σ H1 _ I1 q1) fun iv s2 ⟨y, H2, I2, ry, a, v, ex, g, q2⟩ => ?_)
  subst ex
  obtain rfl : u = Value.ref a := rx
  exact ⟨dict_typeIs I2 g, d_getItem hu I2 g ry fun w' s3 I3 rw' => ⟨v, H2, I3, rw', q2⟩⟩
theorem pc_din (hu : X.A.units + 1 < cLine) (hi : PE X i ty) (ho : PE X o td) : PC X .In i o (tDIn ty td) := by
  intro pins s σ H Q I h
  refine thn (hi pins s σ H _ I h) fun iv s1 ⟨y, H1, I1, ry, q1⟩ => thn (ho pins s1 σ H1 _ I1 q1) fun u s2 ⟨x, H2, I2, rx, a, ov, ex, g, q2⟩ => ?_
  subst ex
  obtain rfl : u = Value.ref a := rx
  exact d_in hu I2 g ry fun s3 I3 => ⟨.bl ov.isSome, H2, I3, rfl, q2⟩
theorem pc_dnotin (hu : X.A.units + 1 < cLine) (hi : PE X i ty) (ho : PE X o td) : PC X .NotIn i o (tDNotIn ty td) := by
  intro pins s σ H Q I h
  refine thn (hi pins s σ H _ I h) fun iv s1 ⟨y, H1, I1, ry, q1⟩ => thn (ho pins s1 σ H1 _ I1 q1) fun u s2 ⟨x, H2, I2, rx, a, ov, ex, g, q2⟩ => ?_
  subst ex
  obtain rfl : u = Value.ref a := rx
  exact d_notIn hu I2 g ry fun s3 I3 => ⟨.bl (!ov.isSome), H2, I3, rfl, q2⟩
theorem ps_dput (hu : X.A.units + 1 < cLine) (ho : PE X o td) (hi : PE X i ty) (hv : PE X value tv) (hs : swapsWith value (some (.Subscript o i pos')) pos.line X.env = pure false) :
    PS X (.Assign [.Subscript o i pos'] value pos) (sDPut td ty tv) := by
  intro pins s σ H D I h
  refine wpAny_Assign_Subscript (thn (hv pins s σ H _ I h) fun r s1 ⟨v, H1, I1, rv, q1⟩ => thn (ho pins s1 σ H1 _ I1 q1) fun u s2 ⟨x, H2, I2, rx, q2⟩ => thn (hi pins s2 σ H2 _ I2 q2) fun iv s3 ⟨y, H3, I3, ry, a, H4, ex, g, q3⟩ => ?_) hs
  subst ex
  obtain rfl : u = Value.ref a := rx
  exact d_setItem hu I3 g ry rv fun s4 I4 => ⟨σ, H4, I4, q3⟩
end


theorem dk_empty {P : Program} {w : World} {H : Hp} (h : Heap) (hb : sysModules < h.objs.size) : ObjOk P w H (h.push { cls := .type "dict", data := .dict #[] }) h.objs.size (.dK []) :=
  ⟨Nat.zero_le _, beq_eq_false_iff_ne.mpr (Ne.symm (Nat.ne_of_lt hb)), [], .nil, Heap.DictOf.new h⟩
theorem dt_empty {P : Program} {w : World} {H : Hp} (h : Heap) (hb : sysModules < h.objs.size) : ObjOk P w H (h.push { cls := .type "dict", data := .dict #[] }) h.objs.size (.dT []) :=
  ⟨Nat.zero_le _, beq_eq_false_iff_ne.mpr (Ne.symm (Nat.ne_of_lt hb)), [], .nil, _, #[], 0, Heap.get?_push_size _ rfl, ⟨rfl, rfl, rfl⟩, rfl, rfl, List.nodup_nil⟩
def tDNewK : TE := fun _ H Q => ∀ p, H p = none → Q (.ref p) (upd H p (.dK []))
def tDNewT : TE := fun _ H Q => ∀ p, H p = none → Q (.ref p) (upd H p (.dT []))
section
variable {X : Cx} {pos : Pos}
theorem pe_dnewK : PE X (.Dict [] [] pos) tDNewK := fun pins s σ H Q I h =>
  wpAny_Dict_empty ⟨.ref s.heap.objs.size, _, I.laid (a := s.heap.objs.size) (o := .dK []) (t' := s.toks) (fun _ _ q => Heap.get?_push_of_some _ q) (Nat.le_refl _) (dk_empty s.heap I.big), rfl, h _ (I.hok.fresh (Nat.le_refl _))⟩
theorem pe_dnewT : PE X (.Dict [] [] pos) tDNewT := fun pins s σ H Q I h =>
  wpAny_Dict_empty ⟨.ref s.heap.objs.size, _, I.laid (a := s.heap.objs.size) (o := .dT []) (t' := s.toks) (fun _ _ q => Heap.get?_push_of_some _ q) (Nat.le_refl _) (dt_empty s.heap I.big), rfl, h _ (I.hok.fresh (Nat.le_refl _))⟩
end

def mergeK (kvs more : List (Key × V)) : List (Key × V) := more.foldl (fun acc kv => putK acc kv.1 kv.2) kvs
theorem KV.merge : ∀ {more : List (Key × V)} {rs : List (Key × Value)} {kvs : List (Key × V)} {vs : List (Key × Value)}, KV more rs → KV kvs vs → KV (mergeK kvs more) (merged vs rs) := by
  intro more rs kvs vs r
  unfold KV at r
  induction r generalizing kvs vs with
  | nil => intro q; exact q
  | @cons p q ps qs h t ih =>
    intro r0
    have e : KV (putK kvs p.1 p.2) (stored vs q.1 q.2) := by
      have := r0.put p.1 h.2
      rw [← h.1]; exact this
    exact ih e
structure M1 (X : Cx) (o : Expr) (m : Str) (apos : Pos) (e : Expr) (cpos : Pos) : Prop where
  base : attributeBase o m X.env (eval o X.env) = eval o X.env
  few : ((backTo cpos (starEach [e] X.env)).all (fun x => !x.1) && (backToKw cpos (keywordEach [] X.env)).all (fun x => x.1.isSome)
    && decide (([e] : List Expr).length + ([] : List Keyword).length + (if ([] : List Keyword).isEmpty then 0 else 1) < 30)) = true
  line : (apos.endLine == cpos.line) = true
  trees : backTo cpos (starEach [e] X.env) = [(false, eval e X.env)]
structure M2 (X : Cx) (o : Expr) (m : Str) (apos : Pos) (e f : Expr) (cpos : Pos) : Prop where
  base : attributeBase o m X.env (eval o X.env) = eval o X.env
  few : ((backTo cpos (starEach [e, f] X.env)).all (fun x => !x.1) && (backToKw cpos (keywordEach [] X.env)).all (fun x => x.1.isSome)
    && decide (([e, f] : List Expr).length + ([] : List Keyword).length + (if ([] : List Keyword).isEmpty then 0 else 1) < 30)) = true
  line : (apos.endLine == cpos.line) = true
  trees : backTo cpos (starEach [e, f] X.env) = [(false, eval e X.env), (false, eval f X.env)]

def IsD (H : Hp) (a : Addr) : Prop := (∃ kvs, Rd H a (.dK kvs)) ∨ ∃ kvs, Rd H a (.dT kvs)
theorem isD_at {X : Cx} {pins : List (Addr × Obj)} {σ : St} {H : Hp} {s : Shared} {a : Addr} (I : Inv X pins σ H s) (d : IsD H a) :
    s.TypeIs (.ref a) "dict" ∧ (∀ b, Value.ref a = .ref b → ∃ ob, s.heap.get? b = some ob ∧ ob.dict = none) ∧ (a == sysModules) = false := by
  rcases d with ⟨kvs, e⟩ | ⟨kvs, e⟩
  · obtain ⟨_, hd, vs, _, dd⟩ := dk_rd I.hok e
    refine ⟨dd.typeIs, fun b q => ?_, hd⟩
    cases q
    obtain ⟨ob, _, _, h1, h2, _⟩ := dd
    exact ⟨ob, h1, h2.2.1⟩
  · obtain ⟨_, hd, xs, _, dd⟩ := dt_rd I.hok e
    refine ⟨dd.typeIs, fun b q => ?_, hd⟩
    cases q
    obtain ⟨ob, _, _, h1, h2, _⟩ := dd
    exact ⟨ob, h1, h2.2.1⟩

section
variable {X : Cx} {pins : List (Addr × Obj)} {σ : St} {H : Hp} {s : Shared} {a : Addr} {y d : V} {u r : Value} {o : Option V} {A : Around} {E : Value → Shared → Prop}
theorem d_get1 {Q : Value → Shared → Prop} (hu : A.units + 1 < cLine) (I : Inv X pins σ H s) (g : DGet H a y o) (ry : RelV y u) (h : ∀ w' s', Inv X pins σ H s' → RelV (o.getD .non) w' → Q w' s') :
    wpAny (model X.prog X.w) A (call (.builtin "dict.get") [.ref a, u]) Q E s := by
  rcases g with ⟨kvs, k, e, ey, l⟩ | ⟨kvs, k, b, e, ey, eb, l⟩
  · subst ey
    obtain ⟨z, hd, vs, rel, dd⟩ := dk_rd I.hok e
    refine call_meetsIn PySem.F.slot_dict_get dd.typeIs PySem.F.entry_dict_get (PySem.F.args_dict_get_2 _ _) (meets_dict_get (mixKind X.prog X.w) a (kV_is ry) hd) ⟨_, dd.mapOf, h _ _ (I.tok _) ?_⟩
    rw [l]
    exact (rel.val k).getD rfl
  · subst ey
    cases (show u = Value.ref b from ry)
    obtain ⟨z, hd, xs, rel, dd⟩ := dt_rd I.hok e
    refine call_meetsIn PySem.F.slot_dict_get dd.typeIs PySem.F.entry_dict_get (PySem.F.args_dict_get_2 _ _) (meetsH_dict_get (tupleKind (mixKind X.prog X.w)) a b hd) ⟨tupleKind_room_in1 hu, k, xs, key_of I.hok eb, dd, h _ _ (I.tok _) ?_⟩
    rw [l]
    exact (rel.val k).getD rfl
end

def tDGet1 (td ty : TE) : TE := fun σ H Q => td σ H fun x H1 => ∃ a, x = .ref a ∧ IsD H1 a ∧ ty σ H1 fun y H2 => ∃ o, DGet H2 a y o ∧ Q (o.getD .non) H2
section
variable {X : Cx} {o e f : Expr} {apos cpos : Pos} {td ty tx : TE}
theorem pe_dget1 (hu : X.A.units + 1 < cLine) (ho : PE X o td) (he : PE X e ty) (m : M1 X o "get" apos e cpos) : PE X (.Call (.Attribute o "get" apos) [e] [] cpos) (tDGet1 td ty) := by
  intro pins s σ H Q I h
  refine wpAny_Call_method m.base m.few m.line PySem.F.plainAttrs_dict PySem.F.slot_dict_get PySem.F.type_dict_get (thn (ho pins s σ H _ I h) fun u s1 ⟨x, H1, I1, rx, a, ex, d, q1⟩ => ?_)
  subst ex
  obtain rfl : u = Value.ref a := rx
  obtain ⟨t1, t2, _⟩ := isD_at I1 d
  refine ⟨t1, t2, ?_⟩
  rw [m.trees]
  refine Calls.callWith_builtin rfl (Calls.evalArgs_plain (Calls.spliced_cons (thn (he pins s1 σ H1 _ I1 q1) fun iv s2 ⟨y, H2, I2, ry, ov, g, q2⟩ => Calls.spliced_nil ?_)))
  exact d_get1 hu I2 g ry fun w' s3 I3 rw' => ⟨_, H2, I3, rw', q2⟩
end

section
variable {X : Cx} {pins : List (Addr × Obj)} {σ : St} {H : Hp} {s : Shared} {a : Addr} {kvs : List (Key × V)} {A : Around} {E : Value → Shared → Prop}
theorem d_copyOf {Q : Value → Shared → Prop} (I : Inv X pins σ H s) (e : Rd H a (.dK kvs)) (h : ∀ p s', H p = none → Inv X pins σ (upd H p (.dK kvs)) s' → Q (.ref p) s') : wpAny (model X.prog X.w) A (call (.type "dict") [.ref a]) Q E s := by
  obtain ⟨z, hd, vs, rel, dd⟩ := dk_rd I.hok e
  refine kt_call_dict hd dd (by rw [← rel.length]; exact z) fun h' dd' hs => ?_
  refine h _ _ (I.hok.fresh (Nat.le_refl _)) (I.laid (a := s.heap.objs.size) (o := .dK kvs) (t' := s.toks) (fun b q hq => ?_) (Nat.le_refl _) (dk_new z (beq_eq_false_iff_ne.mpr (Ne.symm (Nat.ne_of_lt I.big))) rel dd'))
  exact (hs.2 b (Nat.ne_of_lt (Heap.lt_size hq))).trans (Heap.get?_push_of_some _ hq)
end


section
variable {X : Cx} {pins : List (Addr × Obj)} {σ : St} {H : Hp} {s : Shared} {a : Addr} {y : V} {u : Value} {A : Around} {E : Value → Shared → Prop}
end
end L2

namespace HT
open PySem PyProof.Rows

section
open PySem.SeqAt
open PySem.AutoSeq1 (wpAny_loadPart')
open PySem.MeetsSeq PySem.MeetsSeq2 PySem.MeetsSeq3

end

section
variable {prog : Program} {w : World} {A : Around} {E : Value → Shared → Prop} {s : Shared}

def sIx (n d : Nat) : Option Int → Nat
  | none => d
  | some v => if v < 0 then (v + (n : Int)).toNat else min v.toNat n
end
end HT

namespace L2
open PySem PySem.Spec PyProof.Rows

abbrev TO := St → Hp → (Option Int → Hp → Prop) → Prop
def PO (X : Cx) (e : Option Expr) (t : TO) : Prop :=
  ∀ (pins : List (Addr × Obj)) (s : Shared) (σ : St) (H : Hp) (Q : Option Int → Hp → Prop), Inv X pins σ H s → t σ H Q →
    wpAny (model X.prog X.w) X.A (evalPart e X.env) (fun u s' => ∃ o H', Inv X pins σ H' s' ∧ IsPart u o ∧ Q o H') X.xe s
def tNoPart : TO := fun _ H Q => Q none H
def tPart (t : TE) : TO := fun σ H Q => t σ H fun x H1 => ∃ i, x = .int i ∧ Q (some i) H1

section
variable {X : Cx} {e : Expr} {te : TE} {lo hi : Option Expr} {tl th : TO} {pos p2 : Pos}

theorem po_none : PO X none tNoPart := by
  intro pins s σ H Q I h
  rw [evalPart_none]
  exact wpAny_pure ⟨none, H, I, .none, h⟩
theorem po_some (h : PE X e te) : PO X (some e) (tPart te) := by
  intro pins s σ H Q I hw
  rw [evalPart_some]
  refine thn (h pins s σ H _ I hw) fun u s1 ⟨x, H1, I1, r1, q1⟩ => ?_
  obtain ⟨i, rfl, q⟩ := q1
  obtain ⟨t, rfl⟩ := r1
  exact ⟨some i, H1, I1, .int i t, q⟩

def SlR (X : Cx) (r : V → Option Int → Option Int → Hp → VK → Prop) : Prop :=
  ∀ (pins : List (Addr × Obj)) (s : Shared) (σ : St) (H : Hp) (x : V) (v vl vu : Value) (lo hi : Option Int) (sl : Addr) (Q : VK), Inv X pins σ H s → RelV x v → s.heap.IsSliceOf sl vl vu .none → IsPart vl lo → IsPart vu hi → r x lo hi H Q →
    ∃ T id, typeLookup (.type T) "__getitem__" = pure (some (.builtin id)) ∧ s.TypeIs v T ∧ wpAny (model X.prog X.w) X.A (getItem v (.ref sl)) (EP X pins σ Q) X.xe s
theorem SlR.or {r r' : V → Option Int → Option Int → Hp → VK → Prop} (h : SlR X r) (h' : SlR X r') : SlR X (fun x lo hi H Q => r x lo hi H Q ∨ r' x lo hi H Q) := by
  intro pins s σ H x v vl vu lo hi sl Q I rx hs pl pu q
  rcases q with q | q
  · exact h pins s σ H x v vl vu lo hi sl Q I rx hs pl pu q
  · exact h' pins s σ H x v vl vu lo hi sl Q I rx hs pl pu q
def tSl (r : V → Option Int → Option Int → Hp → VK → Prop) (te : TE) (tl th : TO) : TE := fun σ H Q => te σ H fun x H1 => tl σ H1 fun l H2 => th σ H2 fun u H3 => r x l u H3 Q
theorem pe_slice {r : V → Option Int → Option Int → Hp → VK → Prop} (hr : SlR X r) (he : PE X e te) (hl : PO X lo tl) (hu : PO X hi th) : PE X (.Subscript e (.Slice lo hi none p2) pos) (tSl r te tl th) := by
  intro pins s σ H Q I h
  refine Subscript_ (thn (he pins s σ H _ I h) fun v s1 ⟨x, H1, I1, r1, q1⟩ => ?_)
  refine wpAny_Slice (thn (hl pins s1 σ H1 _ I1 q1) fun vl s2 ⟨l, H2, I2, pl, q2⟩ => thn (hu pins s2 σ H2 _ I2 q2) fun vu s3 ⟨u, H3, I3, pu, q3⟩ => ?_)
  rw [evalPart_none]
  refine wpAny_pure ?_
  have I4 : Inv X pins σ H3 { s3 with heap := s3.heap.push { cls := .type "slice", data := .fields #[vl, vu, .none] } } := I3.kept (t' := s3.toks) fun b ob q => Heap.get?_push_of_some _ q
  obtain ⟨T, id, hT, ht, hg⟩ := hr pins { s3 with heap := s3.heap.push { cls := .type "slice", data := .fields #[vl, vu, .none] } } σ H3 x v vl vu l u s3.heap.objs.size Q I4 r1 (Heap.IsSliceOf.new ..) pl pu q3
  show wpAny (model X.prog X.w) X.A (subscriptTail e (.Slice lo hi none p2) v (.ref s3.heap.objs.size)) (EP X pins σ Q) X.xe { s3 with heap := s3.heap.push { cls := .type "slice", data := .fields #[vl, vu, .none] } }
  exact tail_any (ops := [.ref s3.heap.objs.size, v]) ht hT hg (by with_unfolding_all rfl)

def cutV (xs : List V) (lo hi : Option Int) : List V := (xs.drop (HT.sIx xs.length 0 lo)).take (HT.sIx xs.length xs.length hi - HT.sIx xs.length 0 lo)
theorem cutV_length (xs : List V) (lo hi : Option Int) : (cutV xs lo hi).length ≤ xs.length := by
  unfold cutV
  rw [List.length_take, List.length_drop]
  omega
end
end L2

namespace L2
open PySem PySem.Spec PyProof.Rows

def ixN (n : Nat) (i : Int) : Option Nat := if 0 ≤ i then (if i < n then some i.toNat else none) else if -(n : Int) ≤ i then some (i + n).toNat else none
def atI {α : Type} (xs : List α) (i : Int) : Option α := (ixN xs.length i).bind fun j => xs[j]?
theorem ixN_seq {n : Nat} {i : Int} {j : Nat} (h : ixN n i = some j) : seqIndex? i n = some j ∧ j < n ∧ -(n : Int) ≤ i ∧ i < n := by
  unfold ixN at h
  by_cases h0 : 0 ≤ i
  · rw [if_pos h0] at h
    by_cases h1 : i < n
    · rw [if_pos h1] at h
      have e : i.toNat = j := Option.some.inj h
      exact ⟨by rw [seqIndex_of h0 h1, e], by omega, by omega, h1⟩
    · rw [if_neg h1] at h; cases h
  · rw [if_neg h0] at h
    by_cases h1 : -(n : Int) ≤ i
    · rw [if_pos h1] at h
      have e : (i + n).toNat = j := Option.some.inj h
      exact ⟨by rw [seqIndex_neg (by omega) h1, e], by omega, h1, by omega⟩
    · rw [if_neg h1] at h; cases h
theorem atI_get {α : Type} {xs : List α} {i : Int} {v : α} (h : atI xs i = some v) : ∃ j, seqIndex? i xs.length = some j ∧ xs[j]? = some v ∧ j < xs.length ∧ -(xs.length : Int) ≤ i ∧ i < xs.length := by
  unfold atI at h
  cases e : ixN xs.length i with
  | none => rw [e] at h; cases h
  | some j =>
    rw [e] at h
    obtain ⟨h1, h2, h3, h4⟩ := ixN_seq e
    exact ⟨j, h1, h, h2, h3, h4⟩
theorem atI_nat {α : Type} {xs : List α} {j : Nat} {v : α} (h : xs[j]? = some v) : atI xs (j : Int) = some v := by
  have hj : j < xs.length := (List.getElem?_eq_some_iff.mp h).1
  have e : ixN xs.length (j : Int) = some j := by
    unfold ixN
    rw [if_pos (by omega), if_pos (by omega)]; simp
  unfold atI; rw [e]; exact h
theorem atI_last {α : Type} (xs : List α) (v : α) : atI (xs ++ [v]) (-1) = some v := by
  have hl : (xs ++ [v]).length = xs.length + 1 := by simp
  have e : ixN (xs ++ [v]).length (-1) = some xs.length := by
    unfold ixN
    rw [hl, if_neg (by decide), if_pos (by omega)]
    congr 1
    omega
  unfold atI
  rw [e]
  show (xs ++ [v])[xs.length]? = some v
  simp

def PlainIx (b : Expr) : Prop := ∀ o i, subscripted b false o i = operate [o, i] (getItem o i)
def IxR (X : Cx) (r : R2) : Prop :=
  ∀ (value slice : Expr) (pins : List (Addr × Obj)) (s : Shared) (σ : St) (H : Hp) (x y : V) (v u : Value) (Q : VK), Inv X pins σ H s → RelV x v → RelV y u → r x y H Q →
    subscripted slice false v u = operate [v, u] (getItem v u) → wpAny (model X.prog X.w) X.A (subscriptTail value slice v u) (EP X pins σ Q) X.xe s
def MtR (X : Cx) (id : String) (r : V → List V → Hp → VK → Prop) : Prop :=
  ∀ (pins : List (Addr × Obj)) (s : Shared) (σ : St) (H : Hp) (x : V) (xs : List V) (v : Value) (us : List Value) (Q : VK), Inv X pins σ H s → RelV x v → Vals xs us → r x xs H Q →
    wpAny (model X.prog X.w) X.A (call (.builtin id) (v :: us)) (EP X pins σ Q) X.xe s
section
variable {X : Cx} {a b : Expr} {ta tb : TE} {pos : Pos}
theorem IxR.or {r r' : R2} (h : IxR X r) (h' : IxR X r') : IxR X (fun x y H Q => r x y H Q ∨ r' x y H Q) := by
  intro value slice pins s σ H x y v u Q I rx ry q hs
  rcases q with q | q
  · exact h value slice pins s σ H x y v u Q I rx ry q hs
  · exact h' value slice pins s σ H x y v u Q I rx ry q hs
theorem MtR.or {id : String} {r r' : V → List V → Hp → VK → Prop} (h : MtR X id r) (h' : MtR X id r') : MtR X id (fun x xs H Q => r x xs H Q ∨ r' x xs H Q) := by
  intro pins s σ H x xs v us Q I rx rs q
  rcases q with q | q
  · exact h pins s σ H x xs v us Q I rx rs q
  · exact h' pins s σ H x xs v us Q I rx rs q
theorem pe_ix {r : R2} (hr : IxR X r) (ha : PE X a ta) (hb : PE X b tb) (hs : PlainIx b) : PE X (.Subscript a b pos) (tOp r ta tb) := by
  intro pins s σ H Q I h
  exact Subscript_ (binT ha hb I h fun v u s2 x y H2 I2 rx ry q => hr a b pins s2 σ H2 x y v u Q I2 rx ry q (hs _ _))

def rIxL (K : PySem.W.Frag) : R2 := fun x y H Q => ∃ p xs i v, x = .ref p ∧ y = .int i ∧ SqL K H p xs ∧ atI xs i = some v ∧ Q v H
def rIxT (K : PySem.W.Frag) : R2 := fun x y H Q => ∃ p xs i v, x = .ref p ∧ y = .int i ∧ SqT K H p xs ∧ atI xs i = some v ∧ Q v H
theorem ix_list : IxR X (rIxL X.K) := by
  intro value slice pins s σ H x y v u Q I rx ry h hs
  obtain ⟨p, xs, i, z, rfl, rfl, hq, he, q⟩ := h
  cases rx
  obtain ⟨t, rfl⟩ := ry
  obtain ⟨its, r, pl, hz⟩ := I.list hq
  obtain ⟨j, h1, h2, h3, h4, h5⟩ := atI_get he
  obtain ⟨w, ew, rw'⟩ := r.get h2
  have hl := r.length
  have hn := line63
  have fin : EP X pins σ Q w s := ⟨z, H, I, rw', q⟩
  by_cases h0 : 0 ≤ i
  · have hj : i.toNat = j := by
      rw [seqIndex_of h0 h5] at h1
      exact Option.some.inj h1
    exact item_listR pl.isList h0 (by omega) (by rw [hj]; simpa using ew) fin hs
  · have hj : (i + (its.toArray.size : Int)).toNat = j := by
      rw [seqIndex_neg (by omega) h4] at h1
      rw [List.size_toArray, ← hl]
      exact Option.some.inj h1
    exact subscriptTail_builtinR (x := w) pl.isList.typeIs slot_list_getitem.lookup
      (wpAny_getItem_list_neg (Q := fun r s' => r = w ∧ EP X pins σ Q r s') pl.isList (by omega) (by rw [List.size_toArray] <;> omega) (by omega) (by rw [hj]; simpa using ew) ⟨rfl, fin⟩) hs
theorem ix_tup : IxR X (rIxT X.K) := by
  intro value slice pins s σ H x y v u Q I rx ry h hs
  obtain ⟨p, xs, i, z, rfl, rfl, hq, he, q⟩ := h
  cases rx
  obtain ⟨t, rfl⟩ := ry
  obtain ⟨its, r, pl, hz⟩ := I.tuple hq
  obtain ⟨j, h1, h2, h3, h4, h5⟩ := atI_get he
  obtain ⟨w, ew, rw'⟩ := r.get h2
  have hl := r.length
  have hn := line63
  have fin : EP X pins σ Q w s := ⟨z, H, I, rw', q⟩
  exact subscriptTail_builtinR (x := w) pl.typeIs slot_tuple_getitem.lookup
    (getItem_tuple (j := j) (Q := fun r s' => r = w ∧ EP X pins σ Q r s') pl (by omega) (by omega) (by rw [List.size_toArray, ← hl]; exact h1) (by simpa using ew) ⟨rfl, fin⟩) hs
theorem mapSeq_set (its : List Value) (n j : Nat) (u : Value) : Obj.mapSeq (·.setIfInBounds j u) { cls := .type "list", data := .seq its.toArray n } = { cls := .type "list", data := .seq (its.set j u).toArray n } := by
  simp [Obj.mapSeq]
theorem Inv.lst {pins : List (Addr × Obj)} {σ : St} {H : Hp} {s : Shared} {p : Addr} {xs : List V} (I : Inv X pins σ H s) (h : H p = some (.lst xs)) :
    ∃ (its : List Value) (n : Nat), Vals xs its ∧ s.heap.get? p = some { cls := .type "list", data := .seq its.toArray n } ∧ xs.length ≤ sizeLine := by
  obtain ⟨z, its, n, r, e⟩ := I.hok p _ h
  exact ⟨its, n, r, e, z⟩
theorem Inv.lstUpd {pins : List (Addr × Obj)} {σ : St} {H : Hp} {s : Shared} {p : Addr} {xs ys : List V} {its its' : List Value} {n n' : Nat} {f : Obj → Obj} (I : Inv X pins σ H s) (h : H p = some (.lst xs))
    (ho : s.heap.get? p = some { cls := .type "list", data := .seq its.toArray n }) (hf : f { cls := .type "list", data := .seq its.toArray n } = { cls := .type "list", data := .seq its'.toArray n' }) (r : Vals ys its') (hz : ys.length ≤ sizeLine) (t : Nat) :
    Inv X pins σ (upd H p (.lst ys)) { s with heap := s.heap.update p f, toks := t } := by
  have e : (s.heap.update p f).get? p = some { cls := .type "list", data := .seq its'.toArray n' } := by
    rw [Heap.get?_update_self f ho (by rw [hf] <;> rfl), hf]
  refine I.write (x := p) (e := p) (by rw [h]; trivial) (.inl rfl) (fun b u hb q => (Heap.get?_update_other _ _ (Ne.symm hb)).trans q) ⟨_, e⟩ ?_
  exact ⟨hz, its', n', r, e⟩
def rSetL : V → V → V → Hp → (Hp → Prop) → Prop := fun o i v H Q => ∃ p xs k j, o = .ref p ∧ i = .int k ∧ H p = some (.lst xs) ∧ ixN xs.length k = some j ∧ Q (upd H p (.lst (xs.set j v)))
theorem set_list : PSet X rSetL := by
  intro pins s σ H o i v ov iv u Q I ro ri rv h
  obtain ⟨p, xs, k, j, rfl, rfl, hp, hj, q⟩ := h
  cases ro
  obtain ⟨t, rfl⟩ := ri
  obtain ⟨its, n, r, ho, hz⟩ := I.lst hp
  obtain ⟨h1, h2, h3, h4⟩ := ixN_seq hj
  have hl := r.length
  have hn := line63
  have I' : Inv X pins σ (upd H p (.lst (xs.set j v))) { s with heap := s.heap.update p (Obj.mapSeq (·.setIfInBounds j u)) } :=
    I.lstUpd hp ho (mapSeq_set its n j u) (r.set rv j) (by rw [List.length_set]; exact hz) s.toks
  by_cases h0 : 0 ≤ k
  · have hk : k.toNat = j := by
      rw [seqIndex_of h0 h4] at h1
      exact Option.some.inj h1
    exact PySem.W.ki_setAt ho h0 (by omega) (by rw [List.size_toArray, ← hl]; exact h4) (by rw [hk]; exact ⟨_, I', q⟩)
  · have hk : (k + (its.toArray.size : Int)).toNat = j := by
      rw [seqIndex_neg (by omega) h3] at h1
      rw [List.size_toArray, ← hl]
      exact Option.some.inj h1
    exact PySem.W.ki_setBack ho (by omega) (by rw [List.size_toArray, ← hl]; exact h3) (by omega) (by rw [hk]; exact ⟨_, I', q⟩)

theorem slice_bounds (lo hi : Option Int) (n : Nat) : (sliceBounds lo hi none n).1 = ((HT.sIx n 0 lo : Nat) : Int) ∧ (sliceBounds lo hi none n).2.1 = ((HT.sIx n n hi : Nat) : Int) ∧ (sliceBounds lo hi none n).2.2 = 1 := by
  refine ⟨?_, ?_, rfl⟩
  · cases lo with
    | none => simp [sliceBounds, HT.sIx]
    | some i =>
      simp only [sliceBounds, HT.sIx, Option.getD_none, show (1 : Int) > 0 by decide, if_true]
      by_cases h : i < 0
      · simp only [h, if_true] <;> omega
      · simp only [h, if_false] <;> omega
  · cases hi with
    | none => simp [sliceBounds, HT.sIx]
    | some i =>
      simp only [sliceBounds, HT.sIx, Option.getD_none, show (1 : Int) > 0 by decide, if_true]
      by_cases h : i < 0
      · simp only [h, if_true] <;> omega
      · simp only [h, if_false] <;> omega
theorem slicePick_cut (its : List Value) (lo hi : Option Int) : slicePick its.toArray lo hi none = ((its.drop (HT.sIx its.length 0 lo)).take (HT.sIx its.length its.length hi - HT.sIx its.length 0 lo)).toArray := by
  obtain ⟨h1, h2, h3⟩ := slice_bounds lo hi its.toArray.size
  unfold slicePick
  rw [h1, h2, h3]
  simp only [sliceRange_one, pick_run, List.size_toArray] <;> rfl
def rSlL (K : PySem.W.Frag) : V → Option Int → Option Int → Hp → VK → Prop := fun x lo hi H Q => ∃ a xs, x = .ref a ∧ SqL K H a xs ∧ ∀ p, H p = none → Q (.ref p) (upd H p (.lst (cutV xs lo hi)))
theorem sl_list : SlR X (rSlL X.K) := by
  intro pins s σ H x v vl vu lo hi sl Q I rx hs pl pu h
  obtain ⟨a, xs, rfl, hx, q⟩ := h
  cases rx
  obtain ⟨its, r, ht, hz⟩ := I.list hx
  have hlen := r.length
  refine ⟨"list", _, slot_list_getitem.lookup, ht.isList.typeIs, ?_⟩
  refine wpAny_getItem_list_slice ht.isList hs pl pu .none (by simp) ?_ (by rw [List.size_toArray] <;> omega)
  rw [slicePick_cut, ← hlen]
  refine ⟨.ref s.heap.objs.size, _, I.laid (t' := s.toks) (o := .lst (cutV xs lo hi)) (fun b ob q => Heap.get?_push_of_some _ q) (Nat.le_refl _) ?_, rfl, q _ (I.hok.fresh (Nat.le_refl _))⟩
  exact ⟨Nat.le_trans (cutV_length xs lo hi) hz, _, 0, (r.drop (HT.sIx xs.length 0 lo)).take (HT.sIx xs.length xs.length hi - HT.sIx xs.length 0 lo), Heap.get?_push_size _ rfl⟩

def flatV : V → Bool
  | .non => true
  | .bl _ => true
  | .int _ => true
  | .str _ => true
  | _ => false
def eqV : V → V → Bool
  | .non, .non => true
  | .bl a, .bl b => a == b
  | .bl a, .int b => (if a then 1 else 0) == b
  | .int a, .bl b => a == (if b then 1 else 0)
  | .int a, .int b => a == b
  | .str a, .str b => a == b
  | _, _ => false
theorem eqAt_V {A : Around} {s : Shared} {y x : V} {u v : Value} (ry : RelV y u) (rx : RelV x v) (fy : flatV y = true) (fx : flatV x = true) : SeqAt.EqAt A s u v (eqV y x) := by
  cases y with
  | non =>
    cases ry
    cases x with
    | non => cases rx; exact SeqAt.EqAt.same _
    | bl b => cases rx; exact SeqAt.EqAt.none_bool b
    | int b => obtain ⟨t, rfl⟩ := rx; exact SeqAt.EqAt.none_int b t
    | str b => obtain ⟨t, rfl⟩ := rx; exact SeqAt.EqAt.none_str b t
    | _ => exact absurd (show false = true from fx) Bool.false_ne_true
  | bl a =>
    cases ry
    cases x with
    | non => cases rx; exact SeqAt.EqAt.bool_none a
    | bl b => cases rx; exact SeqAt.EqAt.bool_bool a b
    | int b => obtain ⟨t, rfl⟩ := rx; exact SeqAt.EqAt.bool_int a b t
    | str b => obtain ⟨t, rfl⟩ := rx; exact SeqAt.EqAt.bool_str a b t
    | _ => exact absurd (show false = true from fx) Bool.false_ne_true
  | int a =>
    obtain ⟨t', rfl⟩ := ry
    cases x with
    | non => cases rx; exact SeqAt.EqAt.int_none a t'
    | bl b => cases rx; exact SeqAt.EqAt.int_bool a t' b
    | int b => obtain ⟨t, rfl⟩ := rx; exact SeqAt.EqAt.int_int a t' b t
    | str b => obtain ⟨t, rfl⟩ := rx; exact SeqAt.EqAt.int_str a t' b t
    | _ => exact absurd (show false = true from fx) Bool.false_ne_true
  | str a =>
    obtain ⟨t', rfl⟩ := ry
    cases x with
    | non => cases rx; exact SeqAt.EqAt.str_none a t'
    | bl b => cases rx; exact SeqAt.EqAt.str_bool a t' b
    | int b => obtain ⟨t, rfl⟩ := rx; exact SeqAt.EqAt.str_int a t' b t
    | str b => obtain ⟨t, rfl⟩ := rx; exact SeqAt.EqAt.str_str a t' b t
    | _ => exact absurd (show false = true from fx) Bool.false_ne_true
  | _ => exact absurd (show false = true from fy) Bool.false_ne_true
def eqU (x : V) (u : Value) : Bool := match u with
  | .none => eqV .non x
  | .bool b => eqV (.bl b) x
  | .int i _ => eqV (.int i) x
  | .str z _ => eqV (.str z) x
  | _ => false
theorem eqU_of {x y : V} {u : Value} (r : RelV y u) (f : flatV y = true) : eqU x u = eqV y x := by
  cases y with
  | non => cases r; rfl
  | bl b => cases r; rfl
  | int i => obtain ⟨t, rfl⟩ := r; rfl
  | str z => obtain ⟨t, rfl⟩ := r; rfl
  | _ => exact absurd (show false = true from f) Bool.false_ne_true
theorem any_eqU {x : V} : ∀ {xs : List V} {us : List Value}, Vals xs us → xs.all flatV = true → us.any (eqU x) = xs.any fun y => eqV y x
  | _, _, .nil, _ => rfl
  | y :: xs, u :: us, .cons r t, f => by
    rw [List.all_cons, Bool.and_eq_true] at f
    rw [List.any_cons, List.any_cons, eqU_of r f.1, any_eqU t f.2]
theorem mem_eqAt {A : Around} {s : Shared} {x : V} {v : Value} (rx : RelV x v) (fx : flatV x = true) : ∀ {xs : List V} {us : List Value}, Vals xs us → xs.all flatV = true → ∀ u ∈ us, SeqAt.EqAt A s u v (eqU x u)
  | _, _, .nil, _ => fun u hu => by cases hu
  | y :: xs, u :: us, .cons r t, f => fun u' hu => by
    rw [List.all_cons, Bool.and_eq_true] at f
    rcases List.mem_cons.mp hu with rfl | hu
    · rw [eqU_of r f.1]; exact eqAt_V r rx f.1 fx
    · exact mem_eqAt rx fx t f.2 u' hu
def inV (x : V) (xs : List V) : Bool := xs.any fun y => eqV y x
def rIn (K : PySem.W.Frag) (neg : Bool) : R2 := fun x y H Q => ∃ p xs, y = .ref p ∧ (SqL K H p xs ∨ SqT K H p xs) ∧ flatV x = true ∧ xs.all flatV = true ∧ Q (.bl (if neg then !inV x xs else inV x xs)) H
theorem op_in_seq : OpR X (compareOp .In) (rIn X.K false) := by
  intro pins s σ H x y v u Q I rx ry h
  obtain ⟨p, xs, rfl, hq, fx, fs, q⟩ := h
  cases ry
  rcases hq with hq | hq
  · obtain ⟨its, r, pl, hz⟩ := I.list hq
    refine SeqAt.in_listAt (eqU x) pl.isList (fun w hw => mem_eqAt rx fx r fs w (by simpa using hw)) ⟨.bl _, H, I, rfl, ?_⟩
    rw [show its.toArray.any (eqU x) = its.any (eqU x) by simp, any_eqU r fs]
    exact q
  · obtain ⟨its, r, pl, hz⟩ := I.tuple hq
    refine SeqAt.in_tupleAt (eqU x) pl (fun w hw => mem_eqAt rx fx r fs w (by simpa using hw)) ⟨.bl _, H, I, rfl, ?_⟩
    rw [show its.toArray.any (eqU x) = its.any (eqU x) by simp, any_eqU r fs]
    exact q
theorem call_len_seq : CallR X (.builtin "len") (fun xs H Q => ∃ p ys, xs = [.ref p] ∧ (SqL X.K H p ys ∨ SqT X.K H p ys) ∧ Q (.int ys.length) H) := by
  intro pins s σ H xs us Q I r h
  obtain ⟨p, ys, rfl, hq, q⟩ := h
  obtain ⟨u, rfl, rx⟩ := vals1 r
  cases rx
  have hn := line63
  rcases hq with hq | hq
  · obtain ⟨its, r', pl, hz⟩ := I.list hq
    have hlen := r'.length
    exact Calls.call_len_list pl.isList (by simp only [List.size_toArray] <;> omega) ⟨.int ys.length, H, I.tok _, ⟨s.toks + 1, by rw [List.size_toArray, hlen]⟩, q⟩
  · obtain ⟨its, r', pl, hz⟩ := I.tuple hq
    have hlen := r'.length
    exact len_tuple pl (by simp only [List.size_toArray] <;> omega) ⟨.int ys.length, H, I.tok _, ⟨s.toks + 1, by rw [List.size_toArray, hlen]⟩, q⟩
theorem CallR.or {f : Value} {r r' : List V → Hp → VK → Prop} (h : CallR X f r) (h' : CallR X f r') : CallR X f (fun xs H Q => r xs H Q ∨ r' xs H Q) := by
  intro pins s σ H xs us Q I rs q
  rcases q with q | q
  · exact h pins s σ H xs us Q I rs q
  · exact h' pins s σ H xs us Q I rs q
theorem call_list_of : CallR X (.type "list") (fun xs H Q => ∃ p ys, xs = [.ref p] ∧ (SqL X.K H p ys ∨ SqT X.K H p ys) ∧ ∀ l, H l = none → Q (.ref l) (upd H l (.lst ys))) := by
  intro pins s σ H xs us Q I r h
  obtain ⟨p, ys, rfl, hq, q⟩ := h
  obtain ⟨u, rfl, rx⟩ := vals1 r
  cases rx
  have fin : ∀ (its : List Value), Vals ys its → ys.length ≤ sizeLine → ∀ (h' : Heap) (c' : Nat), (∀ b o', s.heap.get? b = some o' → h'.get? b = some o') →
      h'.get? s.heap.objs.size = some { cls := .type "list", dict := none, data := .seq its.toArray c', slots := #[] } → EP X pins σ Q (.ref s.heap.objs.size) { s with heap := h' } := fun its r' hz h' c' kp e =>
    ⟨.ref s.heap.objs.size, _, I.laid (t' := s.toks) kp (Nat.le_refl _) (show ObjOk X.prog X.w _ h' _ (.lst ys) from ⟨hz, its, c', r', e⟩), rfl, q _ (I.hok.fresh (Nat.le_refl _))⟩
  rcases hq with hq | hq
  · obtain ⟨its, r', pl, hz⟩ := I.list hq
    have hlen := r'.length
    obtain ⟨o, ho, hc, n, hd⟩ := pl.isList
    exact call_list_seq p (.inl rfl) ho hc hd (fun h' c' kp e => fin its r' hz h' c' kp e) (by simp only [List.size_toArray] <;> omega)
  · obtain ⟨its, r', pl, hz⟩ := I.tuple hq
    have hlen := r'.length
    obtain ⟨o, ho, hc, n, hd⟩ := pl
    exact call_list_seq p (.inr rfl) ho hc hd (fun h' c' kp e => fin its r' hz h' c' kp e) (by simp only [List.size_toArray] <;> omega)
def tyV (K : PySem.W.Frag) (T : String) (x : V) (H : Hp) : Prop := match x with
  | .str _ => T = "str"
  | .int _ => T = "int"
  | .ref p => (T = "list" ∧ ∃ xs, SqL K H p xs) ∨ (T = "tuple" ∧ ∃ o, K.lookup p = some o ∧ o.cls = .type "tuple" ∧ o.dict = none) ∨
      (T = "dict" ∧ ((∃ kvs, H p = some (.dK kvs)) ∨ ∃ kvs, H p = some (.dT kvs))) ∨ (T = "set" ∧ ∃ S n, H p = some (.set S n))
  | _ => False
theorem tyV_is {pins : List (Addr × Obj)} {σ : St} {H : Hp} {s : Shared} {T : String} {x : V} {v : Value} (I : Inv X pins σ H s) (r : RelV x v) (ty : tyV X.K T x H) :
    s.TypeIs v T ∧ ∀ a, v = .ref a → ∃ ob, s.heap.get? a = some ob ∧ ob.dict = none := by
  cases x with
  | str z =>
    obtain ⟨t, rfl⟩ := r
    cases (show T = "str" from ty)
    exact ⟨typeIs_str s z t, fun _ e => nomatch e⟩
  | int i =>
    obtain ⟨t, rfl⟩ := r
    cases (show T = "int" from ty)
    exact ⟨typeIs_int s i t, fun _ e => nomatch e⟩
  | ref p =>
    cases r
    rcases ty with ⟨rfl, xs, hq⟩ | ⟨rfl, o, hk, hc, hd⟩ | ⟨rfl, hk⟩ | ⟨rfl, S, n, hk⟩
    · obtain ⟨its, _, pl, _⟩ := I.list hq
      refine ⟨pl.isList.typeIs, fun a e => ?_⟩
      cases e
      obtain ⟨o, n, e, c, hd, _⟩ := pl
      exact ⟨o, e, hd⟩
    · refine ⟨⟨o, I.kIn p o hk, hc⟩, fun a e => ?_⟩
      cases e
      exact ⟨o, I.kIn _ o hk, hd⟩
    · have z : ∃ o, s.heap.get? p = some o ∧ o.ExactDict := by
        rcases hk with ⟨kvs, hk⟩ | ⟨kvs, hk⟩
        · obtain ⟨_, _, _, _, o, _, _, e, ex, _⟩ := I.hok p _ hk
          exact ⟨o, e, ex⟩
        · obtain ⟨_, _, _, _, o, _, _, e, ex, _⟩ := I.hok p _ hk
          exact ⟨o, e, ex⟩
      obtain ⟨o, e, ex⟩ := z
      refine ⟨⟨o, e, ex.1⟩, fun a e2 => ?_⟩
      cases e2
      exact ⟨o, e, ex.2.1⟩
    · obtain ⟨o, _, _, _, e, ex, _⟩ := I.hok p _ hk
      refine ⟨⟨o, e, ex.1⟩, fun a e2 => ?_⟩
      cases e2
      exact ⟨o, e, ex.2.1⟩
  | _ => exact False.elim ty
def tBM (K : PySem.W.Frag) (T : String) (r : V → List V → Hp → VK → Prop) (to : TE) (t : TA) : TE := fun σ H Q => to σ H fun x H1 => tyV K T x H1 ∧ t σ H1 fun xs H2 => r x xs H2 Q
variable {o e : Expr} {es : List Expr} {to : TE} {t : TA} {name : Str} {apos cpos : Pos} {T id : String} {r : V → List V → Hp → VK → Prop}
theorem pe_bm (pa : PlainAttrs T) (slot : Slot T name id) (hty : typeOf (.builtin id) = pure (.type "method_descriptor")) (hm : MtR X id r) (ho : PE X o to) (ha : PA X (e :: es) t)
    (hbase : attributeBase o name X.env (eval o X.env) = eval o X.env := by rfl)
    (hfew : ((backTo cpos (starEach (e :: es) X.env)).all (fun x => !x.1) && (backToKw cpos (keywordEach [] X.env)).all (fun x => x.1.isSome)
      && decide ((e :: es).length + ([] : List Keyword).length + (if ([] : List Keyword).isEmpty then 0 else 1) < 30)) = true := by rfl)
    (hline : (apos.endLine == cpos.line) = true := by rfl) (hs : starEach (e :: es) X.env = (false, eval e X.env) :: starEach es X.env := by rfl) (hplain : (backTo cpos (starEach es X.env)).any (·.1) = false := by rfl) :
    PE X (.Call (.Attribute o name apos) (e :: es) [] cpos) (tBM X.K T r to t) := by
  intro pins s σ H Q I h
  refine wpAny_Call_method_late hbase hfew hline rfl (thn (ho pins s σ H _ I h) fun v s1 ⟨x, H1, I1, r1, ty, q1⟩ => ?_)
  obtain ⟨h1, h2⟩ := tyV_is I1 r1 ty
  refine ⟨T, id, pa, slot, hty, h1, h2, ?_⟩
  have hA := ha cpos pins s1 σ H1 _ I1 q1
  rw [hs] at hA ⊢
  refine Calls.callWith_builtin (by show (false || (backTo cpos (starEach es X.env)).any (·.1)) = false; rw [hplain] <;> rfl) (Calls.evalArgs_plain ?_)
  exact thn hA fun us s2 ⟨vs, H2, I2, r2, q2⟩ => hm pins s2 σ H2 x vs v us Q I2 r1 r2 q2
/- xs.append(e), list.index on a module's tuple .. are MtR facts of 06m -/
end
end L2

namespace L2
open PySem PySem.Spec PyProof.Rows

def MtM (X : Cx) (id : String) (r : V → List V → Hp → VK → Prop) : Prop :=
  ∀ (pins : List (Addr × Obj)) (s : Shared) (σ : St) (H : Hp) (x : V) (xs : List V) (v : Value) (us : List Value) (Q : VK), Inv X pins σ H s → RelV x v → Vals xs us → r x xs H Q →
    wpAny (model X.prog X.w) X.A (call (.builtin id) (v :: us)) (EP X pins σ Q) X.xe s

theorem Vals.one : ∀ {x : V} {us : List Value}, Vals [x] us → ∃ u, us = [u] ∧ RelV x u
  | _, _, .cons r .nil => ⟨_, rfl, r⟩
theorem Vals.two : ∀ {x y : V} {us : List Value}, Vals [x, y] us → ∃ u v, us = [u, v] ∧ RelV x u ∧ RelV y v
  | _, _, _, .cons r (.cons q .nil) => ⟨_, _, rfl, r, q⟩
theorem Vals.zero : ∀ {us : List Value}, Vals [] us → us = []
  | _, .nil => rfl
theorem Vals.eraseIdx : ∀ {xs : List V} {us : List Value} (i : Nat), Vals xs us → Vals (xs.eraseIdx i) (us.eraseIdx i)
  | _, _, _, .nil => .nil
  | _, _, 0, .cons _ t => t
  | _, _, i + 1, .cons r t => .cons r (Vals.eraseIdx i t)
theorem len_erase {α : Type} : ∀ (l : List α) (i : Nat), (l.eraseIdx i).length ≤ l.length
  | [], _ => Nat.le_refl _
  | _ :: _, 0 => Nat.le_succ _
  | _ :: r, i + 1 => Nat.succ_le_succ (len_erase r i)
section
variable {X : Cx} {pins : List (Addr × Obj)} {σ : St} {H : Hp} {s : Shared} {l b : Addr} {xs ys zs : List V}

theorem Inv.lset {its its' : List Value} {n : Nat} {f : Array Value → Array Value} {t' : Nat} (I : Inv X pins σ H s) (hH : H l = some (.lst xs))
    (e : s.heap.get? l = some { cls := .type "list", data := .seq its.toArray n }) (hf : f its.toArray = its'.toArray) (hv : Vals ys its') (hz : ys.length ≤ sizeLine) :
    Inv X pins σ (upd H l (.lst ys)) { s with heap := s.heap.update l (Obj.mapSeq f), toks := t' } := by
  have q := PySem.IsL.update e f
  rw [hf] at q
  refine I.write (x := l) (e := l) (by rw [hH]; exact trivial) (.inl rfl) (fun b' u hb hu => (Heap.get?_update_other s.heap (Obj.mapSeq f) (Ne.symm hb)).trans hu) ⟨_, q⟩ ?_
  exact ⟨hz, its', _, hv, q⟩
theorem Inv.fresh (I : Inv X pins σ H s) : H s.heap.objs.size = none := I.hok.fresh (Nat.le_refl _)
theorem Inv.lstM (I : Inv X pins σ H s) (hH : H l = some (.lst xs)) : xs.length ≤ sizeLine ∧ ∃ (its : List Value) (n : Nat), Vals xs its ∧ xs.length = its.length ∧ s.heap.get? l = some { cls := .type "list", data := .seq its.toArray n } := by
  obtain ⟨z, its, n, r, e⟩ := I.hok l _ hH
  exact ⟨z, its, n, r, r.length, e⟩

end

section
variable {X : Cx}

def rAppend : V → List V → Hp → VK → Prop := fun x vs H Q => ∃ l xs y, x = .ref l ∧ vs = [y] ∧ H l = some (.lst xs) ∧ xs.length < sizeLine ∧ Q .non (upd H l (.lst (xs ++ [y])))
theorem mt_append : MtM X "list.append" rAppend := by
  intro pins s σ H x vs v us Q I rx rv h
  obtain ⟨l, xs, y, rfl, rfl, hH, hz, q⟩ := h
  cases rx
  obtain ⟨u, rfl, ru⟩ := rv.one
  obtain ⟨z, its, n, r, hl, e⟩ := I.lstM hH
  refine call_meets F.slot_list_append ⟨_, e, rfl⟩ F.entry_list_append (F.args_list_append_2 _ _) (PySem.list_append l its.toArray n u (by rw [List.size_toArray]; omega)) ⟨e, ?_⟩
  refine ⟨.non, _, I.lset (its' := its ++ [u]) hH e (by simp) (r.append (.cons ru .nil)) ?_, rfl, q⟩
  rw [List.length_append, List.length_singleton]
  omega

def rPopAt : V → List V → Hp → VK → Prop := fun x vs H Q => ∃ l xs i k y, x = .ref l ∧ vs = [.int i] ∧ H l = some (.lst xs) ∧ -(2 ^ 63) ≤ i ∧ i < 2 ^ 63 ∧ seqIndex? i xs.length = some k ∧ xs[k]? = some y ∧ Q y (upd H l (.lst (xs.eraseIdx k)))
theorem mt_popAt : MtM X "list.pop" rPopAt := by
  intro pins s σ H x vs v us Q I rx rv h
  obtain ⟨l, xs, i, k, y, rfl, rfl, hH, h1, h2, hk, hy, q⟩ := h
  cases rx
  obtain ⟨u, rfl, ru⟩ := rv.one
  obtain ⟨t, rfl⟩ := ru
  obtain ⟨z, its, n, r, hl, e⟩ := I.lstM hH
  obtain ⟨w, hw, rw'⟩ := r.get hy
  refine call_meets F.slot_list_pop ⟨_, e, rfl⟩ F.entry_list_pop (F.args_list_pop_2 _ _)
    (MeetsSeq.list_pop_at l its.toArray n i t k w (fitsIndex_both h1 h2) (by rw [List.size_toArray, ← hl]; exact hk) (by rw [← Array.getElem?_toList]; exact hw) (by rw [List.size_toArray]; omega)) ⟨e, ?_⟩
  refine ⟨y, _, I.lset (its' := its.eraseIdx k) hH e ?_ (r.eraseIdx k) ?_, rw', q⟩
  · show its.toArray.eraseIdxIfInBounds k = (its.eraseIdx k).toArray
    rw [List.eraseIdxIfInBounds_toArray]
  · have := len_erase xs k
    omega

end

section
variable {prog : Program} {w : World} {A : Around} {E : Value → Shared → Prop} {s : Shared}
end

section
variable {X : Cx}
end
end L2

namespace Att
open PySem PySem.W PySem.Calls PyProof.Rows

theorem ints_of_wellAll {P : Params} {h : Heap} : ∀ (ns : List Int) (vs : List Value), WellAll P h vs (ns.map WData.int) → IntsAre vs ns := by
  intro ns
  induction ns with
  | nil =>
    intro vs w
    rw [List.map_nil] at w
    cases w
    exact .nil
  | cons n ns ih =>
    intro vs w
    rw [List.map_cons] at w
    cases w with
    | cons a b =>
      cases a
      exact .cons _ _ (ih _ b)

theorem script_of {l : OpenLaw} {n : Nat} (hn : l.most = some n) {P : Params} {h : Heap} {args : List WData} {vals : List Value}
    (hpre : l.row.toRowW.claim.pre args = true) (hwl : WellAll P h vals args) :
    ∃ a vs ns, vals = [Value.ref a] ∧ args = [WData.list (ns.map WData.int)] ∧ h.get? a = some { cls := .type "list", data := .seq vs.toArray } ∧ IntsAre vs ns ∧ ns.length ≤ n := by
  have hsh : WShape.hasAll [] args [.list .int] = true := (pre_splitW hpre).1
  have hc : l.pre.holds [] { args := args } = true := (pre_splitW hpre).2
  obtain ⟨d, r, rfl, h1, h2⟩ := hasAllW_cons hsh
  obtain rfl := hasAllW_nil h2
  obtain ⟨xs, rfl, h3⟩ := hasW_list h1
  obtain ⟨ns, rfl⟩ := items_int h3
  have hlen : ns.length ≤ n := by
    unfold OpenLaw.pre at hc
    have h4 : (WTm.not (.lt (.lit (.int (n : Int))) (.len (.arg 0)))).holds [] { args := [.list (ns.map .int)] } = true := by
      have h4 := (holds_andW hc).1
      rw [hn] at h4
      exact h4
    have h5 := condW_of h4 (w_not (w_lt w_lit (w_len_list (w_arg rfl))))
    rw [List.length_map] at h5
    refine Nat.le_of_not_lt fun q => ?_
    have q' : (n : Int) < ((ns.length : Nat) : Int) := by omega
    first
      | (rw [decide_eq_true q'] at h5; exact absurd h5 (by decide))
      | (simp at h5; omega)
  cases hwl with
  | cons w1 w2 =>
    cases w2
    cases w1 with
    | list ho hall => exact ⟨_, _, ns, rfl, rfl, ho, ints_of_wellAll ns _ hall, hlen⟩

theorem post_true (l : OpenLaw) (args : List WData) : l.row.toRowW.claim.post args (.bool true) args = true :=
  postW_of (r := l.row.toRowW) (X := (true == true))
    (show WShape.has [] (.bool true) .bool = true by first | rfl | decide | simp [WShape.has, WShape.arms, WShape.armsAll])
    (show (WTm.eq .res (.lit (.bool true))).value [] { args := args, res := some (.bool true), after := args } = some (.bool (true == true)) from w_eq_bool (w_res rfl) w_lit) rfl

theorem attach_call {l : OpenLaw} {n : Nat} {q : Program} {loose : List Str} {XP : (Str → Option Value) → Heap → Prop} {YP : World → Heap → Prop} {d : DefRec}
    (hn : l.most = some n) (hdf : d.params.defaults = [])
    (call : ∀ (w : World) (s₀ s₁ : Shared) (mg mb : Str → Option Value) (fa : Addr) (o : Obj) (pm cd doc : Value) (a : Addr) (vs : List Value) (ns : List Int),
      Ground q loose [] XP w s₀ mg mb s₁.heap → YP w s₁.heap →
      s₁.heap.get? fa = some o → o.data = .func (docDef d.name d.params d.body d.scope pm cd doc) → s₁.heap.CodeRec cd d.name → mg d.name = some (.ref fa) →
      s₁.heap.get? a = some { cls := .type "list", data := .seq vs.toArray } → IntsAre vs ns → ns.length ≤ n → s₁.gens = #[] →
      codeAny (model l.prog w) callerA (.call (.ref fa) ⟨[.ref a], []⟩) (fun r s' => r = .ok (.ret (.bool true)) ∧ OldK s₁.heap s'.heap ∧ s'.os = s₁.os ∧ AllBare s'.gens) s₁) :
    WalkO q loose XP YP l.row.toRowW d [] (fun f vs => PySem.call f vs) := by
  intro w s₀ s₁ mg mb G Y fa o pm cd doc dV kV ho hd hcd hD hmg hg args vals as hpre hlay hrd hwl hlo
  obtain rfl : dV = .none := Dflts.none hD hdf
  obtain rfl : kV = .none := Dflts.noKw hD
  obtain ⟨a, vs, ns, rfl, rfl, hobj, hints, hlen⟩ := script_of hn hpre hwl
  refine enter_call (codeAny_mono (call w s₀ s₁ mg mb fa o pm cd doc a vs ns G Y ho (fd_plain hd) hcd hmg hobj hints hlen hg) fun r s' hq => ?_)
  obtain ⟨rfl, h2, h3, h4⟩ := hq
  exact ⟨.inl ⟨.bool true, .bool true, [], rfl, fun _ => rfl, .bool true, post_true l _, fun _ => ⟨List.Pairwise.nil, fun _ hm => (nomatch hm)⟩⟩, h2, h3, h4⟩

section
variable {prog : Program} {w : World} {A : Around} {E : Value → Shared → Prop} {s : Shared} {K : Frag}

def ledger (h : Heap) (L d : Addr) : List (Addr × Obj) := (List.range h.objs.size).filterMap fun a => if a = L ∨ a = d then none else (h.get? a).map fun o => (a, o)
end
end Att

namespace L2
open PySem PySem.Spec PyProof.Rows

theorem vals_ints : ∀ {vs : List Value} {ns : List Int}, IntsAre vs ns → Vals (ns.map V.int) vs
  | _, _, .nil => .nil
  | _, _, .cons n t h => .cons ⟨t, rfl⟩ (vals_ints h)

def Only (H : Hp) : Prop := ∀ b, H b = none ∨ ∃ o xs, H b = some (.frz o (.lst xs))

theorem law_call {P : Program} {w : World} {K : PySem.W.Frag} {mg mb : Str → Option Value} {CX : CXT} {k : Nat} {fa a : Addr} {fd : FuncData} {x : Str} {sp : Sp} {s₁ : Shared} {vs : List Value} {ns : List Int}
    (KX : K.In s₁.heap) (hns : s₁.heap.Ns mainGlobals mg) (hb : s₁.heap.Ns builtinsNs mb) (hbb : ∀ x : Str, x ≠ "__name__" → mb x = bootBuiltins x) (hlim : s₁.heap.NoLimit) (hg : s₁.gens = #[])
    (ha : s₁.heap.get? a = some { cls := .type "list", data := .seq vs.toArray }) (hi : IntsAre vs ns) (hl : ns.length ≤ sizeLine) (hr : Room k callerA)
    (F : ∀ base : Heap, K.In base → base.Ns mainGlobals mg → FnOk P w K mg base CX k fa fd [x] sp) (hbind : ∀ (s : Shared) (u : Value), BindsTo s fd ⟨[u], []⟩ [(x, u)])
    (hsp : ∀ H : Hp, Only H → SqL K H a (ns.map V.int) → sp [.ref a] H (fun v _ => v = .bl true) fun _ _ _ => False)
    (hCX : ∀ H e s', CX [] H s₁ (fun _ _ _ => False) e s' → False) :
    codeAny (model P w) callerA (.call (.ref fa) ⟨[.ref a], []⟩) (fun r s' => r = .ok (.ret (.bool true)) ∧ OldK s₁.heap s'.heap ∧ s'.os = s₁.os ∧ AllBare s'.gens) s₁ := by
  have rv := vals_ints hi
  have lenV := hi.length
  have core : ∀ H : Hp, Only H → SqL K H a (ns.map V.int) → HOk P w H s₁.heap → (∀ b, H b ≠ none → b = a) → (H a ≠ none → K.lookup a = none) →
      codeAny (model P w) callerA (.call (.ref fa) ⟨[.ref a], []⟩) (fun r s' => r = .ok (.ret (.bool true)) ∧ OldK s₁.heap s'.heap ∧ s'.os = s₁.os ∧ AllBare s'.gens) s₁ := by
    intro H hO hS hok hA hK
    have base_of : ∀ {b : Addr} {o : Obj}, s₁.heap.get? b = some o → H b = none → (hidT s₁.heap H).get? b = some o := fun e n => hidT_get e n
    have noA : ∀ {b : Addr} {o : Obj} {es : Array DictEntry} {ep : Nat}, s₁.heap.get? b = some o → o.data = .dict es ep → H b = none := fun {b o es ep} e d => by
      cases q : H b with
      | none => rfl
      | some u =>
        have e' : b = a := hA b (by rw [q]; simp)
        subst e'
        rw [ha] at e; cases e
        have d' : Data.seq vs.toArray _ = Data.dict es ep := d
        cases d'
    have nsK : ∀ {b : Addr} {m : Str → Option Value}, s₁.heap.Ns b m → (hidT s₁.heap H).Ns b m := fun {b m} ⟨o, es, ep, e, d, r⟩ => ⟨o, es, ep, base_of e (noA e d), d, r⟩
    have hKb : K.In (hidT s₁.heap H) := fun b o e => base_of (KX b o e) (by
      cases q : H b with
      | none => rfl
      | some u =>
        have e' : b = a := hA b (by rw [q]; simp)
        subst e'
        rw [hK (by rw [q]; simp)] at e; cases e)
    have hM : Mod K mg (hidT s₁.heap H) := ⟨hKb, nsK hns, ⟨mb, nsK hb, hbb⟩, let ⟨mc, h1, h2⟩ := hlim; ⟨mc, nsK h1, h2⟩⟩
    have e0 : Env0 P w K mg (hidT s₁.heap H) callerA [] s₁ H := ⟨rfl, hM, fun b o e => of_hidT e, Nat.le_of_eq (hidT_size _ _), trivial, fun b hb => absurd (show b ∈ ([] : List Addr) from hb) (by simp), hok, .of_eq hg⟩
    refine codeAny_mono ((F _ hKb (nsK hns)).run callerA [] s₁ H ⟨[.ref a], []⟩ [.ref a] [.ref a] _ _ hr e0 (hbind s₁ (.ref a)) (.cons rfl .nil) (hsp H hO hS)) fun r s' h => ?_
    cases r with
    | error e => exact (hCX H e s' h).elim
    | ok fl =>
      cases fl with
      | next => exact False.elim h
      | brk => exact False.elim h
      | cont => exact False.elim h
      | ret u =>
        obtain ⟨v, H', os, bare, un, hok', r', q⟩ := h
        have q' : v = .bl true := q
        subst q'
        obtain rfl : u = Value.bool true := r'
        refine ⟨rfl, OldK.of_keep fun b o e => ?_, os, bare⟩
        cases q : H b with
        | none => exact un.keep b o e q (by intro z; exact absurd (show b ∈ ([] : List Addr) from z) (by simp)) (by simp)
        | some u =>
          rcases hO b with z | ⟨ob, xs, z⟩
          · rw [q] at z; cases z
          · have z2 := un.frzs b ob _ z
            obtain ⟨e1, _⟩ := hok b _ z
            obtain ⟨e2, _⟩ := hok' b _ z2
            rw [e] at e1; cases e1
            exact e2
  cases hk : K.lookup a with
  | some o =>
    have e := KX a o hk
    rw [ha] at e
    cases e
    refine core (fun _ => none) (fun _ => .inl rfl) (.inr ⟨_, vs.toArray, _, hk, rfl, rfl, rfl, by rw [List.size_toArray, lenV]; exact hl, by simpa using rv⟩) (fun b u z => by have z' : (none : Option HO) = some u := z; cases z') (fun b z => absurd rfl z) fun z => absurd rfl z
  | none =>
    refine core (fun b => if b = a then some (.frz { cls := .type "list", data := .seq vs.toArray } (.lst (ns.map V.int))) else none) (fun b => ?_) (.inl (.inr ⟨{ cls := .type "list", data := .seq vs.toArray }, if_pos rfl⟩)) (fun b u z => ?_) (fun b z => ?_) fun _ => hk
    · by_cases hb : b = a
      · exact .inr ⟨_, _, if_pos hb⟩
      · exact .inl (if_neg hb)
    · by_cases hb : b = a
      · have z' := (if_pos hb).symm.trans z
        cases z'
        subst hb
        exact ⟨ha, by rw [List.length_map]; exact hl, vs, _, rv, ha⟩
      · have z' := (if_neg hb).symm.trans z
        cases z'
    · by_cases hb : b = a
      · exact hb
      · exact absurd (if_neg hb) z
end L2

namespace L2
open PySem PySem.Spec PyProof.Rows

abbrev KOf {K : PySem.W.Frag} {h : Heap} (_ : K.In h) : PySem.W.Frag := K

theorem walk_of {l : PySem.W.OpenLaw} {n k : Nat} {q : Program} {loose : List Str} {XP : (Str → Option Value) → Heap → Prop} {YP : World → Heap → Prop} {d : DefRec} {K : Params → PySem.W.Frag} {CX : World → CXT} {sp : World → Sp} {x : Str}
    (hn : l.most = some n) (hn2 : n ≤ sizeLine) (hdf : d.params.defaults = []) (hr : Room k callerA)
    (hY : ∀ (w : World) (h : Heap), YP w h → (K w.params).In h)
    (F : ∀ (w : World) (mg : Str → Option Value) (fa : Addr) (h : Heap), (K w.params).In h → h.Ns mainGlobals mg → mg d.name = some (.ref fa) →
      ∃ fd : FuncData, (∀ (s : Shared) (u : Value), BindsTo s fd ⟨[u], []⟩ [(x, u)]) ∧
        ∀ base : Heap, (K w.params).In base → base.Ns mainGlobals mg → FnOk l.prog w (K w.params) mg base (CX w) k fa fd [x] (sp w))
    (hsp : ∀ (w : World) (H : Hp) (a : Addr) (ns : List Int), ns.length ≤ n → Only H → SqL (K w.params) H a (ns.map V.int) → sp w [.ref a] H (fun v _ => v = .bl true) fun _ _ _ => False)
    (hCX : ∀ (w : World) (H : Hp) (s : Shared) (e : Value) (s' : Shared), CX w [] H s (fun _ _ _ => False) e s' → False) :
    PySem.W.WalkO q loose XP YP l.row.toRowW d [] (fun f vs => PySem.call f vs) := by
  refine Att.attach_call hn hdf fun w s₀ s₁ mg mb fa o pm cd doc a vs ns G Y ho hd hcd hmg hobj hints hlen hg => ?_
  have KX := hY w _ Y
  obtain ⟨fd, hb, hF⟩ := F w mg fa _ KX G.T.g hmg
  exact law_call KX G.T.g G.T.b G.T.builtins G.T.nolimit hg hobj hints (Nat.le_trans hlen hn2) hr hF hb (fun H hO hS => hsp w H a ns hlen hO hS) fun H e s' => hCX w H s₁ e s'
theorem walk_ofK {l : PySem.W.OpenLaw} {n k : Nat} {q : Program} {loose : List Str} {XP : (Str → Option Value) → Heap → Prop} {YP : World → Heap → Prop} {d : DefRec} {K : Params → PySem.W.Frag} {CX : CXT} {sp : PySem.W.Frag → Sp} {x : Str}
    (hn : l.most = some n) (hn2 : n ≤ sizeLine) (hdf : d.params.defaults = []) (hr : Room k callerA)
    (hY : ∀ (w : World) (h : Heap), YP w h → (K w.params).In h)
    (F : ∀ (w : World) (mg : Str → Option Value) (fa : Addr) (h : Heap), (K w.params).In h → h.Ns mainGlobals mg → mg d.name = some (.ref fa) →
      ∃ fd : FuncData, (∀ (s : Shared) (u : Value), BindsTo s fd ⟨[u], []⟩ [(x, u)]) ∧
        ∀ base : Heap, (K w.params).In base → base.Ns mainGlobals mg → FnOk l.prog w (K w.params) mg base CX k fa fd [x] (sp (K w.params)))
    (hsp : ∀ (K : PySem.W.Frag) (H : Hp) (a : Addr) (ns : List Int), ns.length ≤ n → Only H → SqL K H a (ns.map V.int) → sp K [.ref a] H (fun v _ => v = .bl true) fun _ _ _ => False)
    (hCX : ∀ (H : Hp) (s : Shared) (e : Value) (s' : Shared), CX [] H s (fun _ _ _ => False) e s' → False) :
    PySem.W.WalkO q loose XP YP l.row.toRowW d [] (fun f vs => PySem.call f vs) :=
  walk_of (K := K) (CX := fun _ => CX) (sp := fun w => sp (K w.params)) hn hn2 hdf hr hY F (fun w H a ns h1 h2 h3 => hsp (K w.params) H a ns h1 h2 h3) fun _ H s e s' => hCX H s e s'
end L2


namespace L2
open PySem PySem.Spec PyProof.Rows

def inClass (s : Stmt) (j : Nat) : Stmt := match s with
  | .ClassDef _ _ _ body _ _ _ _ _ _ _ => body.getD j (.Pass ⟨0, 0, 0, 0⟩)
  | _ => .Pass ⟨0, 0, 0, 0⟩
def defArgs (s : Stmt) : Arguments := match s with
  | .FunctionDef _ a _ _ _ _ _ _ _ _ => a
  | _ => { posonlyargs := [], args := [], vararg := none, kwonlyargs := [], kw_defaults := [], kwarg := none, defaults := [] }
def defBody (s : Stmt) : List Stmt := match s with
  | .FunctionDef _ _ b _ _ _ _ _ _ _ => b
  | _ => []
def defScope (s : Stmt) : Scope := match s with
  | .FunctionDef _ _ _ _ _ _ sc _ _ _ => sc
  | _ => { kind := .function, names := [], isGenerator := false, isCoroutine := false }

abbrev CX0 : CXT := fun _ _ _ _ _ _ => False
abbrev E0 : XK := fun _ _ _ => False
theorem pass0 {X : Cx} : Passes CX0 X E0 := fun _ _ _ _ _ _ _ h => h.elim

structure Fun (K : PySem.W.Frag) (x qual : Str) (st : Stmt) (f : Addr) (fd : FuncData) : Prop where
  ex : ∃ (oc : Value) (od : Option Addr) (kV doc pm : Value) (an : Option Addr) (cdv ct : Value) (osl : Array (Option Value)),
    fd = PySem.W.fnOf x qual (defArgs st) (defBody st) (defScope st) .none kV doc pm an cdv ct ∧ K.lookup f = some ⟨oc, od, .func fd, osl⟩ ∧ PySem.W.codeIn K cdv qual = true
  kp : PySem.W.keepIn K (.ref f) = true
section
variable {P : Program} {w : World} {K : PySem.W.Frag} {mg : Str → Option Value} {base : Heap}
theorem Fun.ok {x qual : Str} {st : Stmt} {f : Addr} {fd : FuncData} {N ps : List Str} {k : Nat} {sp : Sp} (F : Fun K x qual st f fd) (S : FnScope N ps (defScope st)) (len : ∀ vs H Q E, sp vs H Q E → vs.length = ps.length)
    (hbody : ∀ (cdv : Value) (A : Around) (outer : List Env) (s : Shared) (H : Hp) (vs : List V) (Q : VK) (E : XK), Room k (A.deeper (envOfC qual (defScope st) s.heap.objs.size f cdv)) → sp vs H Q E →
      ∃ t, PSs (cxOf CX0 P w K mg base N qual (defScope st) f cdv A outer s H E).nox (defBody st) t ∧ t { nx := fun _ H' => Q .non H', rt := Q } (start N vs) H) : FnOk P w K mg base CX0 (k + 1) f fd ps sp := by
  obtain ⟨oc, od, kV, doc, pm, an, cdv, ct, osl, rfl, lk, hcd⟩ := F.ex
  refine fn_of lk hcd S len fun A outer s H vs Q E hr hsp => ?_
  obtain ⟨t, h, q⟩ := hbody cdv A outer s H vs Q E hr hsp
  exact ⟨t, h.nox, q⟩
theorem Fun.binds {x qual : Str} {st : Stmt} {f : Addr} {fd : FuncData} {ps : List Str} (F : Fun K x qual st f fd)
    (h : ∀ (kV doc pm : Value) (an : Option Addr) (cdv ct : Value) (us : List Value), us.length = ps.length → bindArgs (PySem.W.fnOf x qual (defArgs st) (defBody st) (defScope st) .none kV doc pm an cdv ct) ⟨us, []⟩ = pure (ps.zip us)) : Binds K fd ps [] := by
  obtain ⟨oc, od, kV, doc, pm, an, cdv, ct, osl, rfl, lk, hcd⟩ := F.ex
  exact .all (h kV doc pm an cdv ct)
end
theorem hu_of {A : Around} {k : Nat} (hr : Room k A) : A.units + 1 < cLine := Nat.lt_of_le_of_lt (Nat.add_le_add_left (by decide : 1 ≤ 64) _) hr.units
section
variable {X : Cx}
theorem pv (i : Nat) {x : Str} {pos : Pos} (hN : X.N[i]? = some x := by rfl) (hv : Vis X.env.scope x := by first | exact Or.inl rfl | exact Or.inr (Or.inl rfl) | exact Or.inr (Or.inr rfl)) (hd : (x == ("__debug__" : Str)) = false := by decide)
    (hcd : (x == ("__classdict__" : Str)) = false := by decide) : PE X (.Name x pos) (tVar i) := pe_var hN hv hd hcd
end

theorem iteF {A B : Prop} (h : B) : if false = true then A else B := by
  rw [if_neg Bool.false_ne_true]
  exact h
theorem iteT {A B : Prop} (h : A) : if true = true then A else B := by
  rw [if_pos rfl]
  exact h
theorem ite2 {c A B : Prop} [Decidable c] (h1 : c → A) (h2 : ¬ c → B) : if c then A else B := by
  by_cases h : c
  · rw [if_pos h]
    exact h1 h
  · rw [if_neg h]
    exact h2 h
def Same (H H' : Hp) : Prop := ∀ b o, H b = some o → H' b = some o
theorem Same.refl (H : Hp) : Same H H := fun _ _ h => h
theorem Same.trans {H H1 H2 : Hp} (a : Same H H1) (b : Same H1 H2) : Same H H2 := fun c o h => b c o (a c o h)
theorem Same.free {H H' : Hp} (e : Same H H') {l : Addr} (h : H' l = Option.none) : H l = Option.none := by
  cases q : H l with
  | none => rfl
  | some o =>
    rw [e l o q] at h
    cases h
theorem Same.seq {K : PySem.W.Frag} {H H' : Hp} {a : Addr} {xs : List V} (e : Same H H') (h : SqL K H a xs) : SqL K H' a xs := by
  rcases h with (h | ⟨o, h⟩) | h
  · exact .inl (.inl (e _ _ h))
  · exact .inl (.inr ⟨o, e _ _ h⟩)
  · exact .inr h

section
variable {κ : Type} [DecidableEq κ]
end
end L2

set_option Elab.async false
set_option linter.all false
set_option maxRecDepth 100000
namespace L2
open PySem PySem.Spec PyProof.Rows

abbrev Kn := List (Addr × HO)
structure Has (H : Hp) (L : Kn) : Prop where
  nd : (L.map (·.1)).Nodup
  at_ : ∀ x ∈ L, H x.1 = some x.2
namespace Has
variable {H H' : Hp} {L L' X Y R : Kn} {a p : Addr} {o o' : HO} {x y : Addr × HO}
theorem nil : Has H [] := ⟨List.nodup_nil, fun _ h => nomatch h⟩
theorem get (h : Has H L) (i : Nat) (e : L[i]? = some (a, o)) : H a = some o := h.at_ (a, o) (List.mem_of_getElem? e)
theorem alloc (h : Has H L) (hp : H p = none) (o : HO) : Has (upd H p o) ((p, o) :: L) := by
  have ne : ∀ x ∈ L, x.1 ≠ p := fun x hx e => by
    have := h.at_ x hx
    rw [e, hp] at this; cases this
  refine ⟨?_, fun x hx => ?_⟩
  · rw [List.map_cons, List.nodup_cons]
    refine ⟨fun m => ?_, h.nd⟩
    obtain ⟨x, hx, e⟩ := List.mem_map.mp m
    exact ne x hx e
  · rcases List.mem_cons.mp hx with rfl | hx
    · exact upd_same
    · rw [upd_ne (ne x hx)]; exact h.at_ x hx
theorem same (h : Has H L) (s : Same H H') : Has H' L := ⟨h.nd, fun x hx => s _ _ (h.at_ x hx)⟩
theorem sub (h : Has H L) (s : L'.Sublist L) : Has H L' := ⟨h.nd.sublist (s.map _), fun x hx => h.at_ x (s.subset hx)⟩
theorem perm (h : Has H L) (s : L.Perm L') : Has H L' := ⟨(s.map _).nodup_iff.mp h.nd, fun x hx => h.at_ x (s.mem_iff.mpr hx)⟩
theorem tail (h : Has H (x :: L)) : Has H L := h.sub (List.sublist_cons_self _ _)
theorem right (h : Has H (X ++ R)) : Has H R := h.sub (List.sublist_append_right _ _)
theorem left (h : Has H (X ++ R)) : Has H X := h.sub (List.sublist_append_left _ _)
theorem swap2 (h : Has H (x :: y :: L)) : Has H (y :: x :: L) := h.perm (List.Perm.swap _ _ _)
theorem comm (h : Has H (X ++ (Y ++ R))) : Has H (Y ++ (X ++ R)) := h.perm (by rw [← List.append_assoc, ← List.append_assoc]; exact List.perm_append_comm.append_right R)
theorem out (h : Has H (Y ++ (x :: R))) : Has H (x :: (Y ++ R)) := h.perm List.perm_middle
theorem ne2 (h : Has H ((a, o) :: R)) {b : Addr} (m : b ∈ R.map (·.1)) : b ≠ a := fun e => by
  have := List.nodup_cons.mp (show ((a :: R.map (·.1)).Nodup) from h.nd)
  exact this.1 (e ▸ m)
theorem put (h : Has H ((a, o) :: R)) (o' : HO) : Has (upd H a o') ((a, o') :: R) := by
  refine ⟨h.nd, fun x hx => ?_⟩
  rcases List.mem_cons.mp hx with rfl | hx
  · exact upd_same
  · rw [upd_ne (h.ne2 (List.mem_map_of_mem hx))]; exact h.at_ x (List.mem_cons_of_mem _ hx)
theorem map_set_fst : ∀ (L : Kn) (i : Nat), L[i]? = some (a, o) → (L.set i (a, o')).map (·.1) = L.map (·.1)
  | [], i, e => by simp at e
  | x :: L, 0, e => by simp at e; subst e; rfl
  | x :: L, i + 1, e => by
    simp only [List.set_cons_succ, List.map_cons]
    rw [map_set_fst L i (by simpa using e)]
theorem puti (h : Has H L) (i : Nat) (e : L[i]? = some (a, o)) (o' : HO) : Has (upd H a o') (L.set i (a, o')) := by
  have hi : i < L.length := (List.getElem?_eq_some_iff.mp e).1
  refine ⟨by rw [map_set_fst (o' := o') L i e]; exact h.nd, fun x hx => ?_⟩
  obtain ⟨j, hj⟩ := List.getElem?_of_mem hx
  by_cases hij : j = i
  · subst hij
    rw [List.getElem?_set_self hi] at hj
    cases hj
    exact upd_same
  · rw [List.getElem?_set_ne (Ne.symm hij)] at hj
    have hx' : x ∈ L := List.mem_of_getElem? hj
    have : x.1 ≠ a := fun z => by
      have e1 : (L.map (·.1))[i]? = some a := by rw [List.getElem?_map, e]; rfl
      have e2 : (L.map (·.1))[j]? = some a := by rw [List.getElem?_map, hj, ← z]; rfl
      obtain ⟨l1, q1⟩ := List.getElem?_eq_some_iff.mp e1
      obtain ⟨l2, q2⟩ := List.getElem?_eq_some_iff.mp e2
      exact hij ((List.getElem_inj h.nd).mp (q2.trans q1.symm))
    rw [upd_ne this]
    exact h.at_ x hx'
theorem ne (h : Has H L) (i j : Nat) {b : Addr} {u : HO} (e : L[i]? = some (a, o)) (e' : L[j]? = some (b, u)) (hij : i ≠ j) : a ≠ b := fun z => by
  have e1 : (L.map (·.1))[i]? = some a := by rw [List.getElem?_map, e]; rfl
  have e2 : (L.map (·.1))[j]? = some a := by rw [List.getElem?_map, e', ← z]; rfl
  obtain ⟨l1, q1⟩ := List.getElem?_eq_some_iff.mp e1
  obtain ⟨l2, q2⟩ := List.getElem?_eq_some_iff.mp e2
  exact hij ((List.getElem_inj h.nd).mp (q1.trans q2.symm))
end Has

section
variable {X : Cx}
theorem call_isi : CallR X (.builtin "isinstance") (fun xs H Q => ∃ x T t b, xs = [x, .ty T] ∧ TyOf X.K H x t ∧ PySem.W.kitOne X.K t (.type T) = some b ∧ Q (.bl b) H) := by
  intro pins s σ H xs us Q I r h
  obtain ⟨x, T, t, b, rfl, ty, e, q⟩ := h
  obtain ⟨u1, u2, rfl, r1, r2⟩ := vals2 r
  cases (show u2 = Value.type T from r2)
  exact isinst_ok I r1 ty e fun tk => ⟨.bl b, H, I.tok _, rfl, q⟩
end
end L2
namespace L2
open PySem PySem.Spec PyProof.Rows
theorem SqL.alloc {K : PySem.W.Frag} {H : Hp} {a p : Addr} {xs : List V} {o : HO} (h : SqL K H a xs) (hp : H p = none) : SqL K (upd H p o) a xs :=
  Same.seq (fun b u e => by rw [upd_ne (ne_of_none e hp)]; exact e) h
theorem cut_take (xs : List V) (n : Int) (h0 : 0 ≤ n) : cutV xs none (some n) = xs.take n.toNat := by
  show ((xs.drop 0).take ((if n < 0 then (n + (xs.length : Int)).toNat else min n.toNat xs.length) - 0)) = _
  rw [if_neg (by omega), List.drop_zero, Nat.sub_zero]
  by_cases hl : n.toNat ≤ xs.length
  · rw [Nat.min_eq_left hl]
  · rw [Nat.min_eq_right (by omega), List.take_of_length_le (Nat.le_refl _), List.take_of_length_le (by omega)]
end L2
namespace L2
open PySem PySem.Spec PyProof.Rows
theorem sizeOk {n : Nat} (h : n ≤ 1000000) : n < sizeLine := Nat.lt_of_le_of_lt h (by decide)
end L2
namespace L2
theorem ifF {b : Bool} {A B : Prop} (e : b = false) (h : B) : if b = true then A else B := by subst e; exact iteF h
theorem ifT {b : Bool} {A B : Prop} (e : b = true) (h : A) : if b = true then A else B := by subst e; exact iteT h
theorem if2 {b : Bool} {A B : Prop} (h1 : b = true → A) (h2 : b = false → B) : if b = true then A else B := by
  cases b
  · exact iteF (h2 rfl)
  · exact iteT (h1 rfl)
theorem ifd {c : Prop} [Decidable c] {A B : Prop} (h1 : c → A) (h2 : ¬ c → B) : if decide c = true then A else B := by
  by_cases h : c
  · exact ifT (decide_eq_true h) (h1 h)
  · exact ifF (decide_eq_false h) (h2 h)
theorem ifdn {c : Prop} [Decidable c] {A B : Prop} (h1 : ¬ c → A) (h2 : c → B) : if (!decide c) = true then A else B := by
  by_cases h : c
  · exact ifF (by simp [h]) (h2 h)
  · exact ifT (by simp [h]) (h1 h)
end L2

set_option Elab.async false
set_option linter.all false
set_option maxRecDepth 100000
namespace L2
open PySem PySem.Spec PyProof.Rows

def clOf (cells : List (Str × Addr)) : List (Str × NameKind) → List (Str × Addr) → List (Str × Addr)
  | [], acc => acc
  | (n, k) :: r, acc => if k == .free then clOf cells r ((n, (cells.lookup n).getD 0) :: acc) else clOf cells r acc
theorem closure_eq (scope : Scope) (env : Env) (h : ∀ y ∈ scope.names, y.2 = .free → ∃ c, env.cells.lookup y.1 = some c) : closureFor scope env = pure (clOf env.cells scope.names []) := by
  unfold closureFor
  have all : ∀ (l : List (Str × NameKind)) (acc : List (Str × Addr)), (∀ y ∈ l, y.2 = .free → ∃ c, env.cells.lookup y.1 = some c) →
      (forIn l acc fun x r => match x with
        | (name, kind) => if (kind == .free) = true then do let a ← cellOf env name; pure (ForInStep.yield ((name, a) :: r)) else pure (ForInStep.yield r)) = (pure (clOf env.cells l acc) : Sem _) := by
    intro l
    induction l with
    | nil => intro acc _; rfl
    | cons y l ih =>
      obtain ⟨n, k⟩ := y
      intro acc hl
      rw [List.forIn_cons]
      by_cases hk : (k == NameKind.free) = true
      · obtain ⟨c, hc⟩ := hl (n, k) List.mem_cons_self (by simpa using hk)
        have e : cellOf env n = pure c := by unfold cellOf; rw [hc]
        simp only [hk, if_true, e, pure_bind, clOf, hc, Option.getD_some]
        exact ih _ fun y hy => hl y (List.mem_cons_of_mem _ hy)
      · simp only [hk, if_false, pure_bind, clOf]
        exact ih _ fun y hy => hl y (List.mem_cons_of_mem _ hy)
  have := all scope.names [] h
  simp only [this, pure_bind]
theorem clOf_sub {cells : List (Str × Addr)} {x : Str} {c : Addr} : ∀ (l : List (Str × NameKind)) (acc : List (Str × Addr)), (∀ y ∈ l, y.2 = .free → ∃ c, cells.lookup y.1 = some c) →
    (∀ y d, acc.lookup y = some d → cells.lookup y = some d) → (clOf cells l acc).lookup x = some c → cells.lookup x = some c
  | [], acc, _, ha, h => ha x c h
  | (n, k) :: r, acc, hl, ha, h => by
    unfold clOf at h
    split at h
    · rename_i hk
      obtain ⟨d, hd⟩ := hl (n, k) List.mem_cons_self (by simpa using hk)
      refine clOf_sub r _ (fun y hy => hl y (List.mem_cons_of_mem _ hy)) (fun y e he => ?_) h
      rw [List.lookup_cons] at he
      split at he
      · rename_i hyn
        have : y = n := by simpa using hyn
        subst this
        cases he
        rw [hd]; rfl
      · exact ha y e he
    · exact clOf_sub r _ (fun y hy => hl y (List.mem_cons_of_mem _ hy)) ha h
theorem clOf_acc {cells : List (Str × Addr)} {x : Str} : ∀ (l : List (Str × NameKind)) (acc : List (Str × Addr)), (∃ c, acc.lookup x = some c) → ∃ c, (clOf cells l acc).lookup x = some c
  | [], acc, h => h
  | (n, k) :: r, acc, h => by
    unfold clOf
    split
    · refine clOf_acc r _ ?_
      rw [List.lookup_cons]
      split
      · exact ⟨_, rfl⟩
      · exact h
    · exact clOf_acc r _ h
theorem clOf_has {cells : List (Str × Addr)} {x : Str} : ∀ (l : List (Str × NameKind)) (acc : List (Str × Addr)), (x, NameKind.free) ∈ l → ∃ c, (clOf cells l acc).lookup x = some c
  | [], _, h => nomatch h
  | (n, k) :: r, acc, h => by
    unfold clOf
    rcases List.mem_cons.mp h with e | h
    · cases e
      rw [if_pos (by rfl)]
      exact clOf_acc r _ ⟨(cells.lookup x).getD 0, by rw [List.lookup_cons]; simp⟩
    · split
      · exact clOf_has r _ h
      · exact clOf_has r _ h
theorem relabel_cf {env : Env} {x : Str} : ∀ (l : List (Str × NameKind)), (∀ y ∈ l, y.2 ≠ .cell) →
    ((l.map fun (n, k) => if (k == NameKind.free && env.scope.kind == .function && env.kindOf n == some .cell) then (n, NameKind.cell) else (n, k)).lookup x = some .cell ∨
     (l.map fun (n, k) => if (k == NameKind.free && env.scope.kind == .function && env.kindOf n == some .cell) then (n, NameKind.cell) else (n, k)).lookup x = some .free) → (x, NameKind.free) ∈ l
  | [], _, h => by simp at h
  | (n, k) :: r, hl, h => by
    have ih := relabel_cf (env := env) (x := x) r fun y hy => hl y (List.mem_cons_of_mem _ hy)
    by_cases hc : (k == NameKind.free && env.scope.kind == .function && env.kindOf n == some .cell) = true
    · have hkf : k = .free := by
        rw [Bool.and_eq_true, Bool.and_eq_true] at hc
        simpa using hc.1.1
      subst hkf
      simp only [List.map_cons, hc, if_true, List.lookup_cons] at h
      cases hx : x == n with
      | true =>
        have : x = n := by simpa using hx
        subst this
        exact List.mem_cons_self
      | false =>
        simp only [hx] at h
        exact List.mem_cons_of_mem _ (ih h)
    · simp only [List.map_cons, if_neg hc, List.lookup_cons] at h
      cases hx : x == n with
      | true =>
        have : x = n := by simpa using hx
        subst this
        simp only [hx] at h
        rcases h with h | h
        · cases h
          exact absurd rfl (hl (x, .cell) List.mem_cons_self)
        · cases h
          exact List.mem_cons_self
      | false =>
        simp only [hx] at h
        exact List.mem_cons_of_mem _ (ih h)

def PTs (X : Cx) (ifs : List Expr) (t : TT) : Prop :=
  ∀ (pins : List (Addr × Obj)) (s : Shared) (σ : St) (H : Hp) (Q : Bool → Hp → Prop), Inv X pins σ H s → t σ H Q →
    wpAny (model X.prog X.w) X.A (forIn ifs true fun c r => if r = true then do let ok ← isTrue c X.env (eval c X.env); pure (ForInStep.yield ok) else pure (ForInStep.yield r)) (TP X pins σ Q) X.xe s
def tTrue : TT := fun _ H Q => Q true H
theorem pts_nil {X : Cx} : PTs X [] tTrue := fun _ _ _ H _ I h => wpAny_tests_nil ⟨H, I, h⟩
theorem compLoop_go {prog : Program} {w : World} {A : Around} {R : Result → Shared → Prop} {s : Shared} {elt target iter : Expr} {ifs : List Expr} {scope : Scope} {pos : Pos} {it acc : Value} {env : Env} (I : Nat → Shared → Prop)
    (turn : ∀ n s, I n s → wpAny (model prog w) A (pyNext it) (fun r s₁ => match r with
      | none => R (.ok .next) s₁
      | some v => wpAny (model prog w) A (letOwnedTupleGo target it v) (fun _ s₀ => wpAny (model prog w) A (assign target env v) (fun _ s₂ =>
          wpAny (model prog w) A (forIn ifs true fun c r => if r = true then do let ok ← isTrue c env (eval c env); pure (ForInStep.yield ok) else pure (ForInStep.yield r)) (fun ok s₃ =>
            if ok = true then wpAny (model prog w) A (eval elt env) (fun x s₄ =>
              wpAny (model prog w) A (call (.builtin "list.append") [acc, x]) (fun _ s₅ => ∃ m, m < n ∧ I m s₅) (fun _ _ => False) s₄) (fun _ _ => False) s₃
            else ∃ m, m < n ∧ I m s₃) (fun _ _ => False) s₂) (fun _ _ => False) s₀) (fun _ _ => False) s₁) (fun _ _ => False) s)
    (n : Nat) (h : I n s) :
    codeAny (model prog w) A (.compLoop (.ListComp elt [⟨target, iter, ifs, 0⟩] scope pos) 0 it acc env) R s := by
  have no : ∀ {α : Type} {t : Sem α} {Q : α → Shared → Prop} {s : Shared} {E : Value → Shared → Prop}, wpAny (model prog w) A t Q (fun _ _ => False) s → wpAny (model prog w) A t Q E s := fun h => wpAny_mono h (fun _ _ q => q) fun _ _ z => False.elim z
  refine codeAny_loop rfl I (fun n s hI => ?_) n h
  show wpAny _ A ((compTurn (.ListComp elt [⟨target, iter, ifs, 0⟩] scope pos) 0 it acc env).onRaise (fun x => do noteFrame x env; theTreesLotGoes x)) _ _ s
  refine wpAny_noted ?_
  rw [compTurn_list]
  refine wpAny_bind (wpAny_standAt (wpAny_bind (wpAny_mono (no (turn n s hI)) (fun r s₁ h₁ => ?_) fun _ _ h' => h')))
  cases r with
  | none => exact wpAny_pure h₁
  | some v =>
    refine wpAny_bind (wpAny_mono (no h₁) (fun _ s₀ h₀ => ?_) fun _ _ h' => h')
    refine wpAny_bind (wpAny_mono (no h₀) (fun _ s₂ h₂ => wpAny_bind (wpAny_mono (no h₂) (fun ok s₃ h₃ => ?_) fun _ _ h' => h')) fun _ _ h' => h')
    cases ok with
    | false => exact wpAny_pure ⟨rfl, h₃⟩
    | true =>
      exact wpAny_bind (wpAny_bind (wpAny_mono (no h₃) (fun x s₄ h₄ => wpAny_bind (wpAny_mono (no h₄) (fun _ s₅ h₅ => wpAny_pure (wpAny_pure ⟨rfl, h₅⟩)) fun _ _ h' => h')) fun _ _ h' => h'))
end L2

set_option Elab.async false
set_option linter.all false
set_option maxRecDepth 100000
namespace L2
open PySem PySem.Spec PyProof.Rows

abbrev blk (X : Cx) (scope : Scope) (N' : List Str) (C : Addr) (s₀ : Shared) (H₀ : Hp) (fp : List Addr) (pins : List (Addr × Obj)) : Cx :=
  { X with N := N', s₀ := s₀, H₀ := H₀, env := compEnvC scope (clOf X.env.cells scope.names []) C X.env, outer := X.stack, stack := X.stack, ex := fp, fn := fun _ => false, pn := X.pn ++ pins, xe := fun _ _ => False }

def tLC (wi : TI) (k : Nat) (g : TG) (tc : TT) (te : TE) : TE := fun σ H Q => wi σ H fun J H1 => ∀ D, H1 D = none → ∃ W : Nat → Nat → List V → Hp → Prop, (∃ m, W 0 m [] (upd H1 D (.lst []))) ∧ ∀ i m ys H, W i m ys H → H D = some (.lst ys) ∧
  ((J.stop i H ∧ Q (.ref D) H) ∨ (J.go i H ∧ ∀ x H', J.yld i H x H' → g x (List.replicate k none ++ σ) H' fun σ2 H2 => σ2.drop k = σ ∧ tc σ2 H2 fun b H3 =>
    if b = true then te σ2 H3 fun y H4 => ys.length < sizeLine ∧ H4 D = some (.lst ys) ∧ ∃ m', m' < m ∧ W (i + 1) m' (ys ++ [y]) (upd H4 D (.lst (ys ++ [y]))) else ∃ m', m' < m ∧ W (i + 1) m' ys H3))

section
variable {X : Cx}
theorem pe_lc {elt tg iter : Expr} {ifs : List Expr} {scope : Scope} {pos : Pos} {wi : TI} {k : Nat} {g : TG} {tc : TT} {te : TE} (N' : List Str) (hc : X.calm = true) (hi : PI X tg iter wi)
    (hg : ∀ C s₀ H₀ fp pins, PG (blk X scope N' C s₀ H₀ fp pins) tg g) (ht : ∀ C s₀ H₀ fp pins, PTs (blk X scope N' C s₀ H₀ fp pins) ifs tc) (he : ∀ C s₀ H₀ fp pins, PE (blk X scope N' C s₀ H₀ fp pins) elt te)
    (hk : scope.kind = .function) (hcell : ∀ y ∈ scope.names, y.2 ≠ .cell) (hnames : ∀ y ∈ scope.names, y.2 = .local → scope.names.lookup y.1 = some .local)
    {esc : Scope} (hsc : X.env.scope = esc) (hfr' : ∀ y ∈ scope.names, y.2 = .free → esc.names.lookup y.1 = some .cell ∨ esc.names.lookup y.1 = some .free)
    (hlen : N'.length = k + X.N.length)
    (hN : ∀ (i : Nat) (x : Str), N'[i + k]? = some x → (x, NameKind.free) ∈ scope.names → X.N[i]? = some x)
    (hN2 : ∀ x ∈ N'.drop k, scope.names.lookup x ≠ some .local)
    (hs : ∀ x, foldedSetIterable iter X.env x = pure x := by intro _; rfl) :
    PE X (.ListComp elt [⟨tg, iter, ifs, 0⟩] scope pos) (tLC wi k g tc te) := by
  intro pins s σ H Q I h
  have hfr : ∀ y ∈ scope.names, y.2 = .free → X.env.kindOf y.1 = some .cell ∨ X.env.kindOf y.1 = some .free := fun y hy hf => by
    show X.env.scope.names.lookup y.1 = _ ∨ X.env.scope.names.lookup y.1 = _
    rw [hsc]; exact hfr' y hy hf
  have hcells : ∀ y ∈ scope.names, y.2 = .free → ∃ c, X.env.cells.lookup y.1 = some c := fun y hy hf => I.ok.has y.1 (hfr y hy hf)
  have hclos := closure_eq scope X.env hcells
  rw [eval_ListComp]
  refine wpAny_comprehension_free (use := none) rfl hs hclos hk hnames (thn (hi pins s σ H _ I h) fun v s1 h1 => thn h1 fun itv s2 h2 => ?_)
  obtain ⟨it, fp, tn, J, H2, e, I2, T, st2, f2, R⟩ := h2
  subst e
  refine wpAny_newObj_type ?_
  have hD : H2 s2.heap.objs.size = none := I2.hok.fresh (Nat.le_refl _)
  obtain ⟨W, ⟨m0, w0⟩, turn⟩ := R _ hD
  generalize eD : s2.heap.objs.size = D at *
  have I3 : Inv X pins σ (upd H2 D (.lst [])) { s2 with heap := s2.heap.push { cls := .type "list", dict := none, data := .seq ([] : List Value).toArray } } :=
    I2.laid (a := D) (o := .lst []) (t' := s2.toks) (fun b u e => Heap.get?_push_of_some _ e) (Nat.le_of_eq eD) ⟨Nat.zero_le _, [], 0, .nil, by rw [← eD]; exact Heap.get?_push_size _ rfl⟩
  generalize e3 : ({ s2 with heap := s2.heap.push { cls := .type "list", dict := none, data := .seq ([] : List Value).toArray } } : Shared) = s3 at *
  have st3 : tn 0 s3.heap := T.keep _ _ _ st2 fun b _ o e => by rw [← e3]; exact Heap.get?_push_of_some _ e
  have lt2 : ∀ b ∈ fp, b < s2.heap.objs.size := fun b hb => by
    obtain ⟨o, e, _⟩ := T.obj _ _ st2 b hb
    exact Heap.lt_size e
  have neD : ∀ b ∈ fp, b ≠ D := fun b hb => by
    have := lt2 b hb
    rw [eD] at this
    exact Nat.ne_of_lt this
  have f3 : ∀ b ∈ fp, FpOk X pins (upd H2 D (.lst [])) b := fun b hb => ⟨by rw [upd_ne (neD b hb)]; exact (f2 b hb).1, (f2 b hb).2⟩
  generalize upd H2 D (.lst []) = H3 at *
  refine wpAny_newFunctionEnv hcell (by intro y hy; simp at hy) (fun h₁ hns₁ hsb₁ => ?_) hk
  try dsimp only at hns₁ hsb₁ ⊢
  have lt3 : ∀ b ∈ fp, b < s3.heap.objs.size := fun b hb => by
    obtain ⟨o, e, _⟩ := T.obj _ _ st3 b hb
    exact Heap.lt_size e
  generalize eC : s3.heap.objs.size = C at *
  have kp : ∀ b o, s3.heap.get? b = some o → h₁.get? b = some o := fun b o e => (hsb₁.2 b (by rw [← eC]; exact Nat.ne_of_lt (Heap.lt_size e))).trans (Heap.get?_push_of_some _ e)
  have subC : ∀ x c, (clOf X.env.cells scope.names []).lookup x = some c → X.env.cells.lookup x = some c := fun x c e => clOf_sub scope.names [] hcells (fun y d z => by simp at z) e
  have hCnone : H3 C = none := I3.hok.fresh (Nat.le_of_eq eC)
  have ok' : (blk X scope N' C s3 H3 fp pins).Ok := {
    mod := I3.ok.mod
    kind := hk
    glob := I3.ok.glob
    blt := I3.ok.blt
    above := Nat.le_of_eq eC
    inj := fun x y c a b => I3.ok.inj x y c (subC x c a) (subC y c b)
    has := fun x hx => clOf_has scope.names [] (relabel_cf scope.names hcell hx)
    cab := fun x c a _ => absurd a Bool.false_ne_true
    hd := I3.ok.hd
    frames := I3.ok.frames
    stk := .inl rfl
    exf := fun b hb => ⟨by have := lt3 b hb; exact Nat.ne_of_lt this, fun x c e => (f3 b hb).2.2.2.2.1 x c (subC x c e)⟩
    bs := I3.bs
    bsz := Nat.le_trans I3.ok.bsz I3.sz
    noex := fun b o e hb => by
      rcases (f3 b hb).2.2.2.1 with z | z
      · exact I3.ok.noex b o e z
      · exact absurd (Nat.lt_of_lt_of_le (Heap.lt_size e) (Nat.le_trans I3.ok.bsz z)) (Nat.lt_irrefl _)
    exfs := fun b hb z => by
      rcases List.mem_cons.mp (I3.stkSub b z) with e | e
      · exact (f3 b hb).2.1 e
      · exact (f3 b hb).2.2.1 e
    funs := I3.stack
    frf := I3.stkFree }
  have s4os : ({ s3 with heap := h₁, toks := s3.toks + ([] : List (Str × Value)).length } : Shared).os = s3.os := rfl
  generalize e4 : ({ s3 with heap := h₁, toks := s3.toks + ([] : List (Str × Value)).length } : Shared) = s4 at *
  have h4 : s4.heap = h₁ := by rw [← e4]
  have J4 : Inv (blk X scope N' C s3 H3 fp pins) [] (List.replicate k none ++ σ) H3 s4 := by
    refine ⟨ok', s4os, by rw [← e4]; exact I3.bare, ?_, ⟨_, by rw [h4]; exact hns₁, fun i x v e1 e2 e5 => ?_⟩, fun x c e => ?_, hCnone, fun x c e => I3.freeC x c (subC x c e), fun p hp => ?_, ?_, ?_⟩
    · rw [h4]; exact Un.kept kp
    · have hik : ¬ i < k := fun hlt => by
        rw [List.getElem?_append_left (by rw [List.length_replicate]; exact hlt), List.getElem?_replicate] at e2
        split at e2 <;> cases e2
      obtain ⟨j, rfl⟩ : ∃ j, i = j + k := ⟨i - k, by omega⟩
      have e2' : σ[j]? = some (some v) := by
        rw [List.getElem?_append_right (by rw [List.length_replicate]; omega), List.length_replicate] at e2
        have : j + k - k = j := by omega
        rw [this] at e2; exact e2
      have nl : (relabel scope X.env).names.lookup x ≠ some .local := fun z => by
        have q : ∀ (l : List (Str × NameKind)), (l.map fun (n, k) => if (k == NameKind.free && X.env.scope.kind == .function && X.env.kindOf n == some .cell) then (n, NameKind.cell) else (n, k)).lookup x = some .local → l.lookup x = some .local := by
          intro l
          induction l with
          | nil => intro z; simp at z
          | cons y l ih =>
            obtain ⟨n, kk⟩ := y
            intro z
            by_cases hcc : (kk == NameKind.free && X.env.scope.kind == .function && X.env.kindOf n == some .cell) = true
            · simp only [List.map_cons, if_pos hcc, List.lookup_cons] at z ⊢
              cases hx : x == n with
              | true => simp only [hx] at z; cases z
              | false => simp only [hx] at z ⊢; exact ih z
            · simp only [List.map_cons, if_neg hcc, List.lookup_cons] at z ⊢
              cases hx : x == n with
              | true => simp only [hx] at z ⊢; exact z
              | false => simp only [hx] at z ⊢; exact ih z
        exact hN2 x (List.mem_of_getElem? (i := j) (by rw [List.getElem?_drop, Nat.add_comm]; exact e1)) (q _ z)
      have hcf : (relabel scope X.env).names.lookup x = some .cell ∨ (relabel scope X.env).names.lookup x = some .free := by
        rcases e5 with z | z | z
        · exact absurd z nl
        · exact .inl z
        · exact .inr z
      have hmem : (x, NameKind.free) ∈ scope.names := relabel_cf scope.names hcell hcf
      have hx := hN j x e1 hmem
      obtain ⟨mo, _, hl⟩ := I3.loc
      have hkx := hfr (x, .free) hmem rfl
      obtain ⟨u, ru, lk⟩ := hl j x v hx e2' (by
        rcases hkx with z | z
        · exact .inr (.inl z)
        · exact .inr (.inr z))
      refine ⟨u, ru, .inr ⟨hcf, ?_⟩⟩
      rcases lk with ⟨z, _⟩ | ⟨_, c, hc1, hc2⟩
      · rcases hkx with q | q
        · rw [q] at z; cases z
        · rw [q] at z; cases z
      · obtain ⟨c', hc'⟩ := clOf_has (cells := X.env.cells) scope.names [] hmem
        have := subC x c' hc'
        rw [hc1] at this; cases this
        obtain ⟨oc, h5, h6⟩ := hc2
        exact ⟨c, hc', oc, by rw [h4]; exact kp _ _ h5, h6⟩
    · obtain ⟨v, oc, h5, h6⟩ := I3.cell x c (subC x c e)
      exact ⟨v, oc, by rw [h4]; exact kp _ _ h5, h6⟩
    · have hp' : p ∈ X.pn ++ pins := by simpa using hp
      obtain ⟨a1, a2, a3, a4, a5⟩ := I3.pin p hp'
      refine ⟨by rw [h4]; exact kp _ _ a1, a2, ?_, fun z => ?_, a5⟩
      · have := Heap.lt_size a1
        rw [eC] at this
        exact Nat.ne_of_lt this
      · rcases List.mem_cons.mp (I3.stkSub p.1 z) with q | q
        · exact a3 q
        · exact a4 q
    · rw [h4]; exact I3.hok.kept kp
    · rw [List.length_append, List.length_replicate, I3.len]; exact hlen.symm
  have stat : ∀ {H' : Hp}, (∀ b ∈ fp, H' b = none) → ∀ b ∈ fp, FpOk (blk X scope N' C s3 H3 fp pins) [] H' b := fun hn b hb =>
    ⟨hn b hb, (ok'.exf b hb).1, ok'.exfs b hb, .inl hb, fun x c e => (ok'.exf b hb).2 x c e, fun p hp => (f3 b hb).2.2.2.2.2 p (by simpa using hp)⟩
  have fr4 : ∀ b ∈ fp, H3 b = none := fun b hb => (f3 b hb).1
  have st4 : tn 0 s4.heap := T.keep _ _ _ st3 fun b _ o e => by rw [h4]; exact kp _ _ e
  have loop : codeAny (model X.prog X.w) X.A (.compLoop (.ListComp elt [⟨tg, iter, ifs, 0⟩] scope pos) 0 (.ref it) (.ref D) (compEnvC scope (clOf X.env.cells scope.names []) C X.env))
      (compPost (model X.prog X.w) X.A X.xe none (EP X pins σ Q) (.ref D) C) s4 := by
    refine compLoop_go (fun n s' => ∃ i ys H', Inv (blk X scope N' C s3 H3 fp pins) [] (List.replicate k none ++ σ) H' s' ∧ tn i s'.heap ∧ (∀ b ∈ fp, H' b = none) ∧ W i n ys H') ?_ m0 ⟨0, [], H3, J4, st4, fr4, w0⟩
    rintro n s5 ⟨i, ys, H5, I5, st5, fr5, w5⟩
    obtain ⟨hDl, stp⟩ := turn i n ys H5 w5
    rcases stp with ⟨stop, qn⟩ | ⟨go, step⟩
    · refine thn (T.done (blk X scope N' C s3 H3 fp pins) rfl rfl rfl hc i [] s5 _ H5 (fun _ _ => False) I5 (stat fr5) st5 stop) fun r s6 ⟨hr, I6⟩ => ?_
      subst hr
      obtain ⟨m6, ns6, _⟩ := id I6.loc
      refine ⟨m6, ns6, fun h' hsb => ⟨.ref D, H5, ?_, rfl, qn⟩⟩
      have hC5 : H5 C = none := I6.free
      have un6 : Un (frs X.stack) fp H3 H5 s3.heap s6.heap := I6.base
      have neC : ∀ b o, s3.heap.get? b = some o → b ≠ C := fun b o e => by
        have := Heap.lt_size e
        rw [eC] at this
        exact Nat.ne_of_lt this
      refine I3.call' (s' := { s6 with heap := h' }) (ch := fp) I6.os ⟨fun b o e a1 a2 a3 => ?_, fun b o e a1 a2 a3 => ?_, un6.free, fun b o e a3 => ?_, un6.tups, un6.frzs, un6.tbls⟩ ?_ I6.bare (fun b hb => ?_)
      · exact (hsb.2 b (neC b o e)).trans (un6.keep b o e a1 a2 a3)
      · obtain ⟨sl, z⟩ := un6.slot b o e a1 a2 a3
        exact ⟨sl, (hsb.2 b (neC b o e)).trans z⟩
      · obtain ⟨o', z⟩ := un6.there b o e a3
        exact ⟨o', (hsb.2 b (neC b o e)).trans z⟩
      · intro b u e
        refine (I6.hok b u e).stay (fun c w' hcc q => (hsb.2 c ?_).trans q) (fun _ q => q) fun _ _ q => q
        rintro rfl
        rcases hcc with z | z
        · rw [z, e] at hC5; cases hC5
        · rw [z] at hC5; cases hC5
      · exact ⟨(f3 b hb).2.2.2.1, (f3 b hb).2.1, (f3 b hb).2.2.2.2.1, (f3 b hb).2.2.2.2.2⟩
    · refine thn (T.item (blk X scope N' C s3 H3 fp pins) rfl rfl rfl hc i [] s5 _ H5 (fun _ _ => False) I5 (stat fr5) st5 go) fun r s6 ⟨u, hr, h6⟩ => ?_
      subst hr
      refine thn h6 fun _ s7 ⟨x, H7, I7, r7, y7, st7, fr7⟩ => ?_
      have I7' := I7.pinned (stat fr7) (T.obj _ _ st7)
      refine thn (hg C s3 H3 fp pins _ s7 _ H7 x u _ I7' r7 (step x H7 y7)) fun _ s8 ⟨σ8, H8, I8, d8, q8⟩ => ?_
      refine thn (ht C s3 H3 fp pins _ s8 σ8 H8 _ I8 q8) fun b s9 ⟨H9, I9, q9⟩ => ?_
      have kz : ∀ (j : Nat) v, (List.replicate k none ++ σ)[j]? = some (some v) → σ8[j]? = some (some v) := fun j v e => by
        have hik : ¬ j < k := fun hlt => by
          rw [List.getElem?_append_left (by rw [List.length_replicate]; exact hlt), List.getElem?_replicate] at e
          split at e <;> cases e
        rw [List.getElem?_append_right (by rw [List.length_replicate]; omega), List.length_replicate, ← d8, List.getElem?_drop] at e
        have : k + (j - k) = j := by omega
        rw [this] at e; exact e
      have again : ∀ {Hz : Hp} {sz : Shared} {zs : List V} {m' : Nat}, Inv (blk X scope N' C s3 H3 fp pins) ([] ++ pinsAt fp s7.heap) σ8 Hz sz → m' < n → W (i + 1) m' zs Hz →
          ∃ m, m < n ∧ ∃ i ys H', Inv (blk X scope N' C s3 H3 fp pins) [] (List.replicate k none ++ σ) H' sz ∧ tn i sz.heap ∧ (∀ b ∈ fp, H' b = none) ∧ W i m ys H' := fun {Hz sz zs m'} Iz hm wz => by
        refine ⟨m', hm, i + 1, zs, Hz, (Iz.unpinned).weak ?_ kz, T.keep _ _ _ st7 fun b hb o e => (Iz.pin (b, o) (List.mem_append_right _ (List.mem_append_right _ (mem_pinsAt hb e)))).1, fun b hb => ?_, wz⟩
        · rw [Iz.len]; exact I5.len
        · obtain ⟨o, e, d⟩ := T.obj _ _ st7 b hb
          exact (Iz.pin (b, o) (List.mem_append_right _ (List.mem_append_right _ (mem_pinsAt hb e)))).2.1
      cases b with
      | false =>
        obtain ⟨m', hm, w9⟩ := (show ∃ m', m' < n ∧ W (i + 1) m' ys H9 by simpa using q9)
        rw [if_neg Bool.false_ne_true]
        exact again I9 hm w9
      | true =>
        rw [if_pos rfl] at q9 ⊢
        refine thn (he C s3 H3 fp pins _ s9 σ8 H9 _ I9 q9) fun u9 s10 ⟨y, H10, I10, r10, hz, hD10, m', hm, w10⟩ => ?_
        refine thn (mt_append (X := blk X scope N' C s3 H3 fp pins) _ s10 σ8 H10 (.ref D) [y] (.ref D) [u9] (fun _ H' => H' = upd H10 D (.lst (ys ++ [y]))) I10 rfl (.cons r10 .nil) ⟨D, ys, y, rfl, rfl, hD10, hz, rfl⟩) fun _ s11 ⟨_, H11, I11, _, e11⟩ => ?_
        subst e11
        exact again I11 hm w10
  exact codeAny_compStart_list loop (T.self _ 0 _ _ _ st4 loop)
end
end L2

set_option Elab.async false
set_option linter.all false
set_option maxRecDepth 100000
namespace L2
open PySem PySem.Spec PyProof.Rows

section
variable {X : Cx} {pins : List (Addr × Obj)} {σ : St} {H : Hp} {s : Shared} {h' : Heap}
theorem Inv.turnedL {t' : Nat} {fp : List Addr} (I : Inv X pins σ H s) (k : ∀ b o, b ∉ fp → s.heap.get? b = some o → h'.get? b = some o) (hf : ∀ b ∈ fp, FpOk X pins H b) : Inv X pins σ H { s with heap := h', toks := t' } := by
  have nit : ∀ b u, H b = some u → b ∉ fp := fun b u e z => by rw [(hf b z).1] at e; cases e
  refine I.step (g' := s.gens) (d' := s.drawn) (ch := fp) (fun b hb => ⟨(hf b hb).2.2.2.1, (hf b hb).2.1, (hf b hb).2.2.2.2.1, (hf b hb).2.2.2.2.2⟩) (fun b o _ _ hc e _ => k b o hc e) (fun b o _ _ hc e _ => ⟨o.slots, k b o hc e⟩) (fun _ _ _ _ n => n)
    (fun b o hc e => ⟨o, k b o hc e⟩) (fun _ _ e => e) (fun _ _ _ e => e) (fun b ps e => ⟨#[], by rw [e]; simp⟩) (fun m hm => ?_) (fun b u e => ?_) I.bare
  · obtain ⟨o, es, ep, ho, r⟩ := hm
    exact ⟨o, es, ep, k _ o (fun z => (hf _ z).2.1 rfl) ho, r⟩
  · refine (I.hok b u e).stay (fun c v hc q => k c v ?_ q) (fun _ q => q) fun _ _ q => q
    rcases hc with z | z
    · rw [z]; exact nit b u e
    · exact nit c _ z
theorem Inv.track {p : Addr} {o : HO} (I : Inv X pins σ H s) (hp : X.s₀.heap.objs.size ≤ p) (hL : p ≠ X.env.locals) (hc : ∀ x c, X.env.cells.lookup x = some c → c ≠ p) (hpin : ∀ q ∈ X.pn ++ pins, q.1 ≠ p) (hn : H p = none)
    (new : ObjOk X.prog X.w (upd H p o) s.heap p o) : Inv X pins σ (upd H p o) s := by
  refine ⟨I.ok, I.os, I.bare, ⟨I.base.keep, I.base.slot, fun b ob e n hx => ?_, I.base.there, fun b xs e => ?_, fun b ob u e => ?_, fun b ps e => ?_⟩, I.loc, I.cell, by rw [upd_ne (Ne.symm hL)]; exact I.free, fun x c e => by rw [upd_ne (hc x c e)]; exact I.freeC x c e, fun q hq => ?_, fun b u e => ?_, I.len⟩
  · rw [upd_ne (Nat.ne_of_lt (Nat.lt_of_lt_of_le (Heap.lt_size e) hp))]; exact I.base.free b ob e n hx
  · have := I.base.tups b xs e
    rw [upd_ne (ne_of_none this hn)]; exact this
  · have := I.base.frzs b ob u e
    rw [upd_ne (ne_of_none this hn)]; exact this
  · obtain ⟨more, e2⟩ := I.base.tbls b ps e
    exact ⟨more, by rw [upd_ne (ne_of_none e2 hn)]; exact e2⟩
  · obtain ⟨a1, a2, a3, a4, a5⟩ := I.pin q hq
    exact ⟨a1, by rw [upd_ne (hpin q hq)]; exact a2, a3, a4, a5⟩
  · by_cases hb : b = p
    · subst hb; rw [upd_same] at e; cases e; exact new
    · rw [upd_ne hb] at e
      exact (I.hok b u e).stay (fun _ _ _ q => q) (fun c q => by rw [upd_ne (ne_of_none q hn)]; exact q) fun c xs q => by rw [upd_ne (ne_of_none q hn)]; exact q
end

section
variable {X : Cx}
end

def Ite (K : PySem.W.Frag) (a : Addr) : It :=
  ⟨fun i H => ∃ xs x, SqL K H a xs ∧ xs[i]? = some x,
   fun i H v H' => ∃ p x, v = .ref p ∧ H p = none ∧ H' = upd H p (.tup [.int i, x]) ∧ ∀ xs, SqL K H a xs → xs[i]? = some x,
   fun i H => ∃ xs, SqL K H a xs ∧ xs.length ≤ i⟩
theorem turn_enum {P : Program} {w : World} {K : PySem.W.Frag} {es : List Expr} {x1} {pos : Pos} (a e it : Addr) : Turn P w K (.Tuple es x1 pos) (Ite K a) [e, it] e
    (fun i h => (∃ old, IsEnum h e it i old) ∧ h.IsListIter it a i) where
  mem := by simp
  obj := fun i h ⟨⟨old, he⟩, h1⟩ c hc => by
    simp only [List.mem_cons, List.not_mem_nil, or_false] at hc
    rcases hc with rfl | rfl
    · exact ⟨_, he, fun v q => by cases (show Data.fields _ = Data.cell v from q)⟩
    · obtain ⟨o, e, _, d⟩ := h1
      exact ⟨o, e, fun v q => by rw [d] at q; cases q⟩
  keep := fun i h h' ⟨⟨old, he⟩, h1⟩ k => ⟨⟨old, k e (by simp) _ he⟩, h1.at fun o q => k it (by simp) o q⟩
  item := by
    intro X hP hw hK hc i pins s σ H E I hf ⟨⟨old, he⟩, h1⟩ hg
    subst hP hw hK
    obtain ⟨xs, x, hqa, hx⟩ := hg
    obtain ⟨its, rv, p, hsz⟩ := I.list hqa
    obtain ⟨ux, hux, rux⟩ := rv.get hx
    have hne : e ≠ it := fun z => by
      obtain ⟨o1, e1, c1, _⟩ := h1
      rw [← z, he] at e1; cases e1
      exact absurd (show Value.type "enumerate" = Value.type "list_iterator" from c1) (by decide)
    refine wpAny_pyNext_enum_item he h1 p.isList (x := ux) (by simpa using hux) hne fun h' a1 a3 a5 a6 hk => ?_
    refine ⟨_, rfl, ?_⟩
    refine wpAny_letOwnedTupleGo_enum (s := { s with heap := h', toks := s.toks + 1 }) a1 fun h2' hz' hs' => ?_
    have lt : ∀ b ∈ [e, it], b < s.heap.objs.size := fun c hcm => by
      simp only [List.mem_cons, List.not_mem_nil, or_false] at hcm
      rcases hcm with rfl | rfl
      · exact Heap.lt_size he
      · obtain ⟨o, q, _⟩ := h1; exact Heap.lt_size q
    have h12 : h2'.IsListIter it a (i + 1) := a3.extBut hs'.extBut (Ne.symm hne)
    have pz : s.heap.objs.size ≠ e := Nat.ne_of_gt (Heap.lt_size he)
    have hp2 : h2'.get? s.heap.objs.size = some { cls := .type "tuple", data := .seq #[.int i s.toks, ux] } := hs'.extBut _ _ pz a5
    have kk : ∀ c o, c ∉ [e, it] → s.heap.get? c = some o → h2'.get? c = some o := fun c o hcm q => by
      simp only [List.mem_cons, List.not_mem_nil, or_false, not_or] at hcm
      exact hs'.extBut _ _ hcm.1 (hk c o hcm.1 hcm.2 q)
    have I1 : Inv X pins σ H { s with heap := h2', toks := s.toks + 1 } := I.turnedL kk hf
    have fP : FpOk X pins H s.heap.objs.size := I.fpOk (Nat.le_refl _) (I.hok.fresh (Nat.le_refl _))
    have I2 : Inv X pins σ (upd H s.heap.objs.size (.tup [.int i, x])) { s with heap := h2', toks := s.toks + 1 } := by
      refine I1.track I.sz (fP.2.1) fP.2.2.2.2.1 fP.2.2.2.2.2 fP.1 ?_
      exact ⟨(show 2 ≤ sizeLine by decide), [.int i s.toks, ux], .cons ⟨_, rfl⟩ (.cons rux .nil), ⟨_, hp2, rfl, _, rfl⟩⟩
    refine ⟨.ref s.heap.objs.size, _, I2, rfl, ⟨_, x, rfl, fP.1, rfl, fun zs hzs => by rw [I.list_inj hzs hqa]; exact hx⟩, ⟨⟨_, hz'⟩, h12⟩, fun c hcm => ?_⟩
    rw [upd_ne (Nat.ne_of_lt (lt c hcm))]
    exact (hf c hcm).1
  done := by
    intro X hP hw hK hc i pins s σ H E I hf ⟨⟨old, he⟩, h1⟩ hg
    subst hP hw hK
    obtain ⟨xs, hqa, hend⟩ := hg
    obtain ⟨its, rv, p, hsz⟩ := I.list hqa
    have e1 := rv.length
    refine wpAny_pyNext_enum_end (I.ok.hd hc) he h1 p.isList (i := i) (by simp; omega) fun h' hk => ⟨rfl, ?_⟩
    exact I.turnedL (t' := s.toks) (fun c o hcm q => by
      simp only [List.mem_cons, List.not_mem_nil, or_false, not_or] at hcm
      exact hk c o hcm.2 q) hf
  self := fun _ _ _ _ _ ⟨⟨_, st⟩, _⟩ h => wpAny_pyIter_enum st h
section
variable {X : Cx}
def iEnum (K : PySem.W.Frag) (ta : TA) : TI := fun σ H R => ta σ H fun vs H1 => ∃ a, vs = [.ref a] ∧ (∃ xs, SqL K H1 a xs) ∧ R (Ite K a) H1
theorem pi_enum {es : List Expr} {x1} {tpos : Pos} {e1 : Expr} {ta : TA} {p pos : Pos} (hg : Gl X "enumerate") (hm : X.mg "enumerate" = none) (ha : PA X [e1] ta) (hs : starEach [e1] X.env = [(false, eval e1 X.env)] := by rfl) :
    PI X (.Tuple es x1 tpos) (.Call (.Name "enumerate" p) [e1] [] pos) (iEnum X.K ta) := by
  intro pins s σ H R I h
  refine Call_ (ld_blt I hg hm (by rfl) (PyProof.Rows.callWith_type1 (thn (ha pos pins s σ H _ I h) fun us s1 ⟨vs, H1, I1, r1, q1⟩ => ?_) hs rfl))
  obtain ⟨a, rfl, ⟨xs, hqa⟩, q⟩ := q1
  obtain ⟨u1, rfl, ru1⟩ := vals1 r1
  cases (show u1 = Value.ref a from ru1)
  obtain ⟨its, rv, pa, hsz⟩ := I1.list hqa
  refine call_enumerate_list pa.isList fun h' hz h1 hsize hk => ?_
  refine wpAny_pyIter_enum (s := { s1 with heap := h' }) hz ?_
  refine ⟨_, _, _, _, H1, rfl, I1.kept (t' := s1.toks) hk, turn_enum a (s1.heap.objs.size + 1) s1.heap.objs.size, ⟨⟨_, hz⟩, h1⟩, fun c hc => ?_, q⟩
  have hge : s1.heap.objs.size ≤ c := by
    simp only [List.mem_cons, List.not_mem_nil, or_false] at hc
    rcases hc with h | h <;> (rw [h]; omega)
  exact I1.fpOk hge (I1.hok.fresh hge)
end
end L2

set_option Elab.async false
set_option linter.all false
set_option maxRecDepth 100000
namespace L2
open PySem PySem.Spec PyProof.Rows

theorem vals_of_items {P : Nat → Value → Prop} {acc : List Value} {xs : List V} (hl : acc.length = xs.length) (h : ∀ (j : Nat) (v : Value), acc[j]? = some v → P j v) (hP : ∀ (j : Nat) v x, P j v → xs[j]? = some x → RelV x v) : Vals xs acc := by
  induction xs generalizing acc P with
  | nil =>
    cases acc with
    | nil => exact .nil
    | cons _ _ => simp at hl
  | cons x xs ih =>
    cases acc with
    | nil => simp at hl
    | cons u acc =>
      refine .cons (hP 0 u x (h 0 u rfl) rfl) (ih (P := fun j => P (j + 1)) (by simpa using hl) (fun j v e => h (j + 1) v (by simpa using e)) fun j v y p e => hP (j + 1) v y p (by simpa using e))

section
variable {X : Cx}
theorem call_range1 : CallR X (.type "range") (fun xs H Q => ∃ j : Int, xs = [.int j] ∧ ∀ p, H p = none → Q (.ref p) (upd H p (.rng 0 j))) := by
  intro pins s σ H xs us Q I r h
  obtain ⟨j, rfl, q⟩ := h
  obtain ⟨u, rfl, t, rfl⟩ := vals1 r
  refine call_range_1 ⟨.ref s.heap.objs.size, _, I.laid (fun b o e => Heap.get?_push_of_some _ e) (Nat.le_refl _) ?_, rfl, q _ (I.hok.fresh (Nat.le_refl _))⟩
  exact ⟨_, _, _, Heap.get?_push_size _ rfl⟩
def intsV (n : Nat) : List V := (List.range n).map fun i => V.int (i : Nat)
theorem intsV_length (n : Nat) : (intsV n).length = n := by simp [intsV]
theorem intsV_get {n i : Nat} (h : i < n) : (intsV n)[i]? = some (.int i) := by simp [intsV, h]
theorem call_list_rng (hc : X.calm = true) : CallR X (.type "list") (fun xs H Q => ∃ p j, xs = [.ref p] ∧ H p = some (.rng 0 j) ∧ 0 ≤ j ∧ j ≤ 2 ^ 24 ∧ ∀ l, H l = none → Q (.ref l) (upd H l (.lst (intsV j.toNat)))) := by
  intro pins s σ H xs us Q I r h
  obtain ⟨p, j, rfl, hp, h0, h1, q⟩ := h
  obtain ⟨u, rfl, ru⟩ := vals1 r
  cases (show u = Value.ref p from ru)
  obtain ⟨t, u, v, e⟩ := (show ObjOk X.prog X.w H s.heap p (.rng 0 j) from I.hok p _ hp)
  have sz : (j.toNat : Nat) ≤ sizeLine := by rw [sizeLine_eq]; omega
  refine call_list_range (n := j.toNat) (I.ok.hd hc) e (small_one (by omega) (by omega) (by omega) (by omega)) (by rw [rangeSize_one]; split <;> omega) (by omega) fun h' tk acc c hk hS hi => ?_
  refine ⟨.ref s.heap.objs.size, _, I.laid hk (Nat.le_refl _) ?_, rfl, q _ (I.hok.fresh (Nat.le_refl _))⟩
  refine ⟨by rw [intsV_length]; exact sz, acc.toList, c, vals_of_items (P := fun i v => ∃ t, v = .int ((0 : Int) + i * 1) t) (by rw [intsV_length, Array.length_toList]; exact hi.1) (fun i v e => hi.2 i v (by simpa using e)) (fun i v x ⟨t, e⟩ ex => ?_), by simpa using hS⟩
  subst e
  have hlt : i < j.toNat := by
    have := (List.getElem?_eq_some_iff.mp ex).1
    rw [intsV_length] at this; exact this
  rw [intsV_get hlt] at ex
  cases ex
  exact ⟨t, by congr 1; omega⟩
end
end L2

set_option Elab.async false
set_option linter.all false
set_option maxRecDepth 100000
namespace L2
open PySem PySem.Spec PyProof.Rows

theorem inKeys_map (k : Str) : ∀ D : List (Str × PyData), KTD.inKeys k (D.map fun p => (p.1, KTD.Dat.flat p.2)) = (D.any fun p => decide (k = p.1))
  | [] => rfl
  | p :: D => by rw [List.map_cons, List.any_cons, KTD.inKeys, inKeys_map k D]
section
variable {X : Cx}
abbrev TabK (K : PySem.W.Frag) (a : Addr) (D : List (Str × PyData)) : Prop := KTD.tabLook KTD.flatLooks (fun b => K.lookup b) a D = true
theorem tab_here {pins : List (Addr × Obj)} {σ : St} {H : Hp} {s : Shared} {a : Addr} {D : List (Str × PyData)} (I : Inv X pins σ H s) (T : TabK X.K a D) : KTD.Here s.heap s.heap a (D.map fun p => (p.1, KTD.Dat.flat p.2)) :=
  ⟨(KTD.tab_of_look (fun _ _ x => KTD.flat_of_looks x) (fun b o e => I.kIn b o e) T).text, fun _ _ e => e⟩
theorem op_notInK : OpR X (compareOp .NotIn) (fun x y H Q => ∃ k a D, x = V.str k ∧ y = V.ref a ∧ TabK X.K a D ∧ Q (.bl (!(D.any fun p => decide (k = p.1)))) H) := by
  intro pins s σ H x y v u Q I rx ry h
  obtain ⟨k, a, D, rfl, rfl, T, q⟩ := h
  obtain ⟨t, rfl⟩ := (show ∃ t, v = Value.str k t from rx)
  cases (show u = Value.ref a from ry)
  refine KTD.notin_text (tab_here I T) ⟨.bl (!KTD.inKeys k (D.map fun (p : Str × PyData) => (p.1, KTD.Dat.flat p.2))), H, I.tok _, rfl, ?_⟩
  rw [inKeys_map]; exact q
theorem ix_K : IxR X (fun x y H Q => ∃ k a D i, x = V.ref a ∧ y = V.str k ∧ TabK X.K a D ∧ D.lookup k = some (PyData.int i) ∧ (D.all fun p => match p.2 with | .int _ => true | _ => false) = true ∧ Q (.int i) H) := by
  intro value slice pins s σ H x y v u Q I rx ry h hs
  obtain ⟨k, a, D, i, rfl, rfl, T, e, hp, q⟩ := h
  cases (show v = Value.ref a from rx)
  obtain ⟨t, rfl⟩ := (show ∃ t, u = Value.str k t from ry)
  have e1 : ∀ D : List (Str × PyData), (D.all fun p => match p.2 with | .int _ => true | _ => false) = true → ((D.map fun p => (p.1, KTD.Dat.flat p.2)).all fun p => KTD.plain p.2) = true := fun D hD => by
    rw [List.all_map]
    refine List.all_eq_true.mpr fun p hp' => ?_
    have := List.all_eq_true.mp hD p hp'
    cases hq : p.2 <;> simp [hq] at this <;> simp [Function.comp, hq, KTD.plain]
  have e2 : ∀ D : List (Str × PyData), KTD.datumAt k (D.map fun p => (p.1, KTD.Dat.flat p.2)) = (D.lookup k).map KTD.Dat.flat := fun D => by
    induction D with
    | nil => rfl
    | cons p D ih =>
      obtain ⟨x, d⟩ := p
      rw [List.map_cons, KTD.datumAt, List.lookup_cons, ih]
      by_cases hk : k = x
      · subst hk; simp
      · have : (k == x) = false := beq_eq_false_iff_ne.mpr hk
        simp [hk, this]
  have hT := tab_here I T
  have hat : KTD.datumAt k (D.map fun p => (p.1, KTD.Dat.flat p.2)) = some (KTD.Dat.flat (.int i)) := by rw [e2 D, e]; rfl
  have hmem : KTD.inKeys k (D.map fun p => (p.1, KTD.Dat.flat p.2)) = true := by rw [← KTD.isSome_datumAt, hat]; rfl
  refine subscriptTail_builtin_flat hT.typeIs slot_dict_getitem.lookup ?_ hs
  unfold getItem
  try with_reducible refine wpAny_holding ?_
  refine wpAny_bind (wpAny_sequenceKey hT.typeIs (by decide) ?_)
  refine wpAny_bind (wpAny_callSpecial?_slot (name := Str.ofString "__getitem__") hT.typeIs slot_dict_getitem
    (wpAny_call_entry slot_dict_getitem hT.typeIs entry_dict_getitem ?_ (args_dict_getitem _ _)))
  show wpAny _ _ (dictGet a (.str k t) >>= _) _ _ s
  refine wpAny_bind (KTD.dictGet_text hT (fun d v ha hv => wpAny_pure ⟨v, rfl, wpAny_pure ⟨KTD.notRef_of_plain (KTD.plain_at (e1 D hp) ha) hv, ?_⟩⟩) fun hn => absurd hn (KTD.at_of_mem hmem))
  rw [hat] at ha
  cases ha
  obtain ⟨t', rfl⟩ : ∃ t, v = Value.int i t := by
    exact PyProof.V.Flat.int_inv (show PyProof.V.Flat v (PyData.int i) from hv)
  exact ⟨.int i, H, I.tok _, ⟨_, rfl⟩, q⟩
end
end L2

set_option Elab.async false
set_option linter.all false
set_option maxRecDepth 100000
namespace L2
open PySem PySem.Spec PyProof.Rows
structure FunG (K : PySem.W.Frag) (x qual : Str) (st : Stmt) (dV : Value) (f : Addr) (fd : FuncData) : Prop where
  ex : ∃ (oc : Value) (od : Option Addr) (kV doc pm : Value) (an : Option Addr) (cdv ct : Value) (osl : Array (Option Value)),
    fd = PySem.W.fnOf x qual (defArgs st) (defBody st) (defScope st) dV kV doc pm an cdv ct ∧ K.lookup f = some ⟨oc, od, .func fd, osl⟩ ∧ PySem.W.codeIn K cdv qual = true
  kp : PySem.W.keepIn K (.ref f) = true
section
variable {P : Program} {w : World} {K : PySem.W.Frag} {mg : Str → Option Value} {base : Heap}
theorem FunG.ok {x qual : Str} {st : Stmt} {dV : Value} {f : Addr} {fd : FuncData} {N ps : List Str} {k : Nat} {sp : Sp} (F : FunG K x qual st dV f fd) (S : FnScope N ps (defScope st)) (len : ∀ vs H Q E, sp vs H Q E → vs.length = ps.length)
    (hbody : ∀ (cdv : Value) (A : Around) (outer : List Env) (s : Shared) (H : Hp) (vs : List V) (Q : VK) (E : XK), Room k (A.deeper (envOfC qual (defScope st) s.heap.objs.size f cdv)) → sp vs H Q E →
      ∃ t, PSs (cxOf CX0 P w K mg base N qual (defScope st) f cdv A outer s H E).nox (defBody st) t ∧ t { nx := fun _ H' => Q .non H', rt := Q } (start N vs) H) : FnOk P w K mg base CX0 (k + 1) f fd ps sp := by
  obtain ⟨oc, od, kV, doc, pm, an, cdv, ct, osl, rfl, lk, hcd⟩ := F.ex
  refine fn_of lk hcd S len fun A outer s H vs Q E hr hsp => ?_
  obtain ⟨t, h, q⟩ := hbody cdv A outer s H vs Q E hr hsp
  exact ⟨t, h.nox, q⟩
theorem FunG.binds {x qual : Str} {st : Stmt} {dV : Value} {f : Addr} {fd : FuncData} {ps : List Str} (F : FunG K x qual st dV f fd)
    (h : ∀ (kV doc pm : Value) (an : Option Addr) (cdv ct : Value) (us : List Value), us.length = ps.length → bindArgs (PySem.W.fnOf x qual (defArgs st) (defBody st) (defScope st) dV kV doc pm an cdv ct) ⟨us, []⟩ = pure (ps.zip us)) : Binds K fd ps [] := by
  obtain ⟨oc, od, kV, doc, pm, an, cdv, ct, osl, rfl, lk, hcd⟩ := F.ex
  exact .all (h kV doc pm an cdv ct)
theorem funG_mk {x qual : Str} {st : Stmt} {f : Addr} {oc : Value} {od an : Option Addr} {osl : Array (Option Value)} {dV kV doc pm cdv ct : Value} (l : K.lookup f = some ⟨oc, od, .func (PySem.W.fnOf x qual (defArgs st) (defBody st) (defScope st) dV kV doc pm an cdv ct), osl⟩)
    (c : PySem.W.codeIn K cdv qual = true) (k : PySem.W.keepIn K (.ref f) = true) : FunG K x qual st dV f (PySem.W.fnOf x qual (defArgs st) (defBody st) (defScope st) dV kV doc pm an cdv ct) := ⟨⟨oc, od, kV, doc, pm, an, cdv, ct, osl, rfl, l, c⟩, k⟩
end
end L2

set_option Elab.async false
set_option linter.all false
set_option maxRecDepth 100000
namespace L2
open PySem PySem.Spec PyProof.Rows
section
variable {X : Cx} {K : PySem.W.Frag}
end
end L2
namespace L2
theorem tTrueT {σ : St} {H : Hp} {A B : Hp → Prop} (h : A H) : tTrue σ H (fun b H3 => if b = true then A H3 else B H3) := (iteT h : if true = true then A H else B H)
end L2
namespace L2
open PySem PySem.Spec PyProof.Rows
section
variable {X : Cx} {CX : CXT} {k : Nat} {f C : Addr} {fd : FuncData} {ps ks : List Str} {sp : Sp} {E : XK} {x m : Str} {p pos apos kpos : Pos} {e o : Expr} {es : List Expr} {kws : List Keyword} {te ta : TE} {t tk : TA}
  {g : List Value → List Value → List Value} {gV : List V → List V → List V}
end
end L2
namespace L2
theorem ifJ {b : Bool} {A B : Prop} (hA : b = true → B → A) (g : B) : if b = true then A else B := by
  cases b
  · exact iteF g
  · exact iteT (hA rfl g)
end L2

set_option Elab.async false
set_option linter.all false
set_option maxRecDepth 100000
namespace L2
open PySem PySem.Spec PyProof.Rows
section
variable {prog : Program} {w : World} {K : Type} [DecidableEq K] {knd : HeapKind prog w K} {A : Around} {E : Value → Shared → Prop} {s : Shared} {d a : Addr} {k : K} {xs : List (K × Addr × Value)}
end
end L2
namespace L2
open PySem PySem.Spec PyProof.Rows
theorem KT.drop {H : Hp} {kvs : List (List Key × V)} {xs : List (List Key × Addr × Value)} (r : KT H kvs xs) (k : List Key) : KT H (dropK kvs k) (xs.filter fun x => decide (x.1 ≠ k)) := by
  unfold dropK
  induction r with
  | nil => exact .nil
  | @cons p q ps qs hq t ih =>
    rw [List.filter_cons, List.filter_cons]
    have e : p.1 = q.1 := hq.1
    by_cases c : q.1 = k
    · rw [if_neg (by simpa using e.trans c), if_neg (by simpa using c)]; exact ih
    · rw [if_pos (by simpa using fun z => c (e.symm.trans z)), if_pos (by simpa using c)]; exact .cons hq ih
section
variable {X : Cx} {pins : List (Addr × Obj)} {σ : St} {H : Hp} {s : Shared} {a b : Addr} {kvs : List (List Key × V)} {k : List Key} {u : Value} {A : Around} {E : Value → Shared → Prop}
end
section
variable {X : Cx} {o i e : Expr} {td ty : TE} {tpos pos apos cpos : Pos}
theorem op_addL : OpR X (binaryOp .Add) (fun x y H Q => ∃ a b xs ys, x = .ref a ∧ y = .ref b ∧ SqL X.K H a xs ∧ SqL X.K H b ys ∧ xs.length + ys.length ≤ sizeLine ∧ ∀ l, H l = none → Q (.ref l) (upd H l (.lst (xs ++ ys)))) := by
  intro pins s σ H x y u v Q I rx ry h
  obtain ⟨a, b, xs, ys, rfl, rfl, ha, hb, hz, q⟩ := h
  cases (show u = Value.ref a from rx)
  cases (show v = Value.ref b from ry)
  obtain ⟨ia, ra, ⟨⟨cls, dd, data, sl⟩, n, ho, hc, _, hd⟩, _⟩ := I.list ha
  obtain ⟨ib, rb, ⟨⟨cls2, dd2, data2, sl2⟩, n2, ho2, hc2, _, hd2⟩, _⟩ := I.list hb
  simp only at hc hd hc2 hd2
  subst hc hd hc2 hd2
  have e : ia.toArray ++ ib.toArray = (ia ++ ib).toArray := by simp
  have e1 := ra.length
  have e2 := rb.length
  refine concat_meets ⟨_, ho, rfl⟩ ⟨_, ho2, rfl⟩ noFill_list_add seq_list_add PySem.F.slot_list_add PySem.F.entry_list_add (PySem.F.args_list_add_2 _ _) (list_addW a b ia.toArray ib.toArray n n2 dd dd2 sl sl2 (by simp; omega)) ⟨ho, ho2, ?_⟩
  rw [e]
  refine ⟨.ref s.heap.objs.size, _, I.laid (a := s.heap.objs.size) (o := .lst (xs ++ ys)) (t' := s.toks) (fun _ _ q => Heap.get?_push_of_some _ q) (Nat.le_refl _) ⟨by simpa using hz, ia ++ ib, 0, ra.append rb, Heap.get?_push_size _ rfl⟩, rfl, q _ (I.hok.fresh (Nat.le_refl _))⟩
theorem reads_ints {h : Heap} : ∀ {ns : List Int} {vs : List Value}, Vals (ns.map V.int) vs → ReadsAll h vs (ns.map PyData.int) []
  | [], _, r => by cases r; exact .nil
  | n :: ns, _, r => by
    cases r with
    | cons r1 r2 =>
      obtain ⟨t, rfl⟩ := r1
      exact .cons (as := []) (.int _ t) (reads_ints r2)
theorem reads_tup {pins : List (Addr × Obj)} {s : Shared} {σ : St} {H : Hp} {a : Addr} {ns : List Int} (I : Inv X pins σ H s) (h : H a = some (.tup (ns.map V.int))) : Reads s.heap (.ref a) (.tuple (ns.map PyData.int)) [] := by
  obtain ⟨_, its, r, o, h1, h2, n, h3⟩ := (show ObjOk X.prog X.w H s.heap a (.tup (ns.map V.int)) from I.hok a _ h)
  exact reads_tuple_at h1 h2 h3 (by simpa using reads_ints r)
theorem shaped_tup (ns : List Int) : SeqAt.shaped (.tuple (ns.map PyData.int)) = true := by
  simp [SeqAt.shaped, PyData.canLay0, PyData.depth, PySem.W.ke_canLayAll0, PySem.W.ke_depthAll]
theorem same_tup (ns ms : List Int) : PySem.Spec.same (.tuple (ns.map PyData.int)) (.tuple (ms.map PyData.int)) = decide (ns = ms) := by
  simp only [PySem.Spec.same]; exact PySem.W.ke_sameAll ns ms
def rTup (neg : Bool) : R2 := fun x y H Q => ∃ (a b : Addr) (ns ms : List Int), x = .ref a ∧ y = .ref b ∧ H a = some (.tup (ns.map V.int)) ∧ H b = some (.tup (ms.map V.int)) ∧ Q (.bl (if neg then !decide (ns = ms) else decide (ns = ms))) H
theorem tup_has (ns : List Int) : (Shape.tuples .int).has (.tuple (ns.map PyData.int)) = true := by
  simp only [Shape.has]
  induction ns with
  | nil => rfl
  | cons n ns ih => simp [Shape.hasAll, Shape.has] at ih ⊢; try exact ih
theorem op_eqT (hu : X.A.units + 64 < cLine) : OpR X (compareOp .Eq) (rTup false) := by
  intro pins s σ H x y u v Q I rx ry h
  obtain ⟨a, b, ns, ms, rfl, rfl, ha, hb, q⟩ := h
  cases (show u = Value.ref a from rx)
  cases (show v = Value.ref b from ry)
  exact eq_dataH_same (reads_tup I ha) (reads_tup I hb) (shaped_tup _) (shaped_tup _) hu (SeqAt.noMix_of_shape (.tuples .int) rfl _ _ (tup_has ns) (tup_has ms)) (by rw [same_tup]; exact fin_bl I q (by simp))
end
end L2
namespace L2
open PySem PySem.Spec PyProof.Rows
theorem for_enum {K : PySem.W.Frag} {a : Addr} {xs : List V} {g : TG} {tb : TS} {D : Ends} {σ : St} {H : Hp} (Pv : Nat → St → Hp → Prop) (h0 : Pv 0 σ H) (hl : ∀ i σ H, i ≤ xs.length → Pv i σ H → SqL K H a xs)
    (hs : ∀ i x σ H p, xs[i]? = some x → Pv i σ H → H p = none → g (.ref p) σ (upd H p (.tup [.int i, x])) fun σ2 H2 => tb { D with nx := Pv (i + 1), ct := Pv (i + 1), bk := D.nx } σ2 H2) (hd : ∀ σ H, Pv xs.length σ H → D.nx σ H) :
    ∃ W : Nat → Nat → St → Hp → Prop, (∃ m, W 0 m σ H) ∧ ∀ i m σ H, W i m σ H →
      ((Ite K a).stop i H ∧ D.nx σ H) ∨ ((Ite K a).go i H ∧ ∃ N : St → Hp → Prop, (∀ σ' H', N σ' H' → ∃ m', m' < m ∧ W (i + 1) m' σ' H') ∧ ∀ x H', (Ite K a).yld i H x H' → g x σ H' fun σ2 H2 => tb { D with nx := N, ct := N, bk := D.nx } σ2 H2) := by
  refine ⟨fun i m σ H => m = xs.length - i ∧ i ≤ xs.length ∧ Pv i σ H, ⟨xs.length, by simp, Nat.zero_le _, h0⟩, ?_⟩
  rintro i m σ H ⟨rfl, hi, p⟩
  have hq := hl i σ H hi p
  by_cases hlt : i < xs.length
  · refine .inr ⟨⟨xs, xs[i], hq, List.getElem?_eq_getElem hlt⟩, Pv (i + 1), fun σ' H' p' => ⟨xs.length - (i + 1), by omega, rfl, hlt, p'⟩, fun x H' y => ?_⟩
    obtain ⟨b, z, rfl, hb, rfl, hz⟩ := y
    exact hs i z σ H b (hz xs hq) p hb
  · have e : i = xs.length := by omega
    subst e
    exact .inl ⟨⟨xs, hq, Nat.le_refl _⟩, hd σ H p⟩
end L2

set_option Elab.async false
set_option linter.all false
set_option maxRecDepth 100000
namespace L2
open PySem PySem.Spec PyProof.Rows
section
variable {prog : Program} {w : World} {A : Around} {E : Value → Shared → Prop} {s : Shared}
end
section
variable {X : Cx} {pins : List (Addr × Obj)} {σ : St} {H : Hp} {s : Shared} {a : Addr} {y v : V} {u r : Value} {o : Option V} {A : Around} {E : Value → Shared → Prop}
end
end L2

set_option Elab.async false
set_option linter.all false
set_option maxRecDepth 100000
namespace L2
open PySem PySem.Spec PyProof.Rows
section
variable {X : Cx}
end
end L2

set_option Elab.async false
set_option linter.all false
set_option maxRecDepth 100000
namespace L2
open PySem PySem.Spec PyProof.Rows
section
variable {X : Cx}
end
theorem filt1 {α : Type} (f : α → Int) : ∀ (L : List α) (y : α), (L.map f).Nodup → y ∈ L → (L.filter fun x => f x == f y).length = 1
  | [], y, _, h => nomatch h
  | x :: L, y, n, h => by
    rw [List.map_cons, List.nodup_cons] at n
    rw [List.filter_cons]
    rcases List.mem_cons.mp h with rfl | h
    · rw [if_pos (by simp), List.length_cons, List.filter_eq_nil_iff.mpr (fun a ha e => n.1 (List.mem_map.mpr ⟨a, ha, by simpa using e⟩))]
      rfl
    · rw [if_neg (fun e => n.1 (List.mem_map.mpr ⟨y, h, (show f y = f x by rw [(show f x = f y by simpa using e)])⟩)), filt1 f L y n.2 h]
section
variable {prog : Program} {w : World} {A : Around} {E : Value → Shared → Prop} {s : Shared} {K : Type} [DecidableEq K] {knd : PySem.KeyKind prog w K}
theorem wp_mergeT {nm : String} {d o : Addr} {xs : List (List K × Addr × Value)} {Q : Unit → Shared → Prop} (hne : d ≠ o) (hs : (o == sysModules) = false) (dd : s.heap.DictOfH (tupleKind knd) d []) (od : s.heap.DictOfH (tupleKind knd) o xs)
    (nd : (xs.map fun x => (tupleKind knd).hash x.1).Nodup) (hz : xs.length ≤ sizeLine) (h : ∀ h', h'.DictOfH (tupleKind knd) d xs → Heap.SameBut d s.heap h' → Q () { s with heap := h' }) :
    wpAny (model prog w) A (Builtin.Dict.mergeDict nm d o) Q E s := by
  obtain ⟨o1, es1, ep1, g1, x1, d1, l1, _, _⟩ := id dd
  obtain ⟨o2, es2, ep2, g2, x2, d2, l2, i2, n2⟩ := id od
  unfold Builtin.Dict.mergeDict
  rw [if_neg (by simpa using hne)]
  refine wpAny_bind ?_
  unfold Builtin.Dict.showsAll
  rw [if_neg (by rw [hs]; exact Bool.false_ne_true)]
  refine wpAny_pure (wpAny_bind (wpAny_dictEntries g2 d2 ?_))
  dsimp only
  have z1 : es1 = #[] := by apply Array.ext'; rw [l1]; rfl
  subst z1
  cases xs with
  | nil =>
    have z2 : es2 = #[] := by apply Array.ext'; rw [l2]; rfl
    subst z2
    rw [if_neg (by simp)]
    refine wpAny_bind (wpAny_dictEpoch g2 d2 ?_)
    refine wpAny_bind (wpAny_dictEntries g2 d2 ?_)
    refine wpAny_bind (wpAny_of_eq (a := PUnit.unit) (by simp [Std.Legacy.Range.forIn_eq_forIn_range']) ?_)
    exact wpAny_pure (h _ dd (Heap.SameBut.refl _ _))
  | cons x xs =>
    have hfew : (decide (es2.size ≤ 8) && es2.all fun e => (keyPart e.key).isSome) = false := by
      rw [Bool.and_eq_false_iff]; right
      rw [← Array.all_toList, l2]
      rfl
    rw [hfew, if_pos (show (!false) = true from rfl)]
    refine wpAny_bind (wpAny_dictEntries g1 d1 ?_)
    rw [if_pos (show (#[] : Array DictEntry).isEmpty = true from rfl)]
    refine wpAny_bind ?_
    unfold Builtin.Dict.entriesForEmpty
    refine wpAny_bind (wpAny_dictEntries g2 d2 ?_)
    refine wpAny_bind ?_
    rw [← Array.forIn_toList]
    refine wpAny_forIn_list _ (fun rest b s' => s' = s ∧ ∀ e ∈ rest, e ∈ es2.toList) _ ?_ ?_ _ _ ⟨rfl, fun e he => he⟩
    · rintro e rest b s' ⟨rfl, hr⟩
      have he := hr e (List.mem_cons_self ..)
      rw [l2] at he
      obtain ⟨y, hy, rfl⟩ := List.mem_map.mp he
      obtain ⟨o3, its, n3, q1, q2, q3, q4⟩ := (show IsTupleKey knd s'.heap y.1 y.2.1 from i2 y hy)
      refine wpAny_bind ?_
      show wpAny _ _ (Builtin.Dict.quietEq (.ref y.2.1)) _ _ _
      unfold Builtin.Dict.quietEq
      refine wpAny_bind (wpAny_specialOf (T := "tuple") ⟨o3, q1, q2⟩ F.slot_tuple_eq.lookup (wpAny_pure ?_))
      rw [if_pos (by decide +kernel)]
      have hone : (es2.filter fun x => x.hash == (entryOfKey (tupleKind knd) y).hash).size = 1 := by
        rw [← Array.length_toList, Array.toList_filter, l2, List.filter_map, List.length_map]
        exact filt1 (fun x : List K × Addr × Value => (tupleKind knd).hash x.1) _ y nd hy
      rw [if_neg (by rw [hone]; decide)]
      exact wpAny_pure ⟨rfl, fun e he => hr e (List.mem_cons_of_mem _ he)⟩
    · rintro b s' ⟨rfl, _⟩
      refine wpAny_pure ?_
      have hes : es2.isEmpty = false := by
        cases hh : es2.isEmpty with
        | false => rfl
        | true => 
          rw [Array.isEmpty_iff] at hh
          rw [hh] at l2; cases l2
      rw [hes, if_pos (show (!false) = true from rfl)]
      refine wpAny_bind (wpAny_updateDictKeysTo g1 d1 ?_ ?_)
      · refine wpAny_pure (h _ ⟨_, es2, ep1 + 1, Heap.get?_update_self _ g1 (Obj.isFreed_of_dict (Obj.data_mapDictKeys d1 _)), x1.mapDictKeys _, Obj.data_mapDictKeys d1 _, l2, fun y hy => ?_, n2⟩ (Heap.SameBut.update _ _ _))
        obtain ⟨o3, its, n3, q1, q2, q3, q4⟩ := (show IsTupleKey knd s'.heap y.1 y.2.1 from i2 y hy)
        have ne : y.2.1 ≠ d := fun e => by rw [e, g1] at q1; cases q1; rw [x1.1] at q2; exact absurd q2 (by decide +kernel)
        exact ⟨o3, its, n3, ((Heap.SameBut.update s'.heap d _).2 _ ne).trans q1, q2, q3, q4⟩
      · show es2.size ≤ _
        rw [← Array.length_toList, l2, List.length_map]
        omega
theorem wp_dictT {o : Addr} {xs : List (List K × Addr × Value)} {Q : Value → Shared → Prop} (hs : (o == sysModules) = false) (od : s.heap.DictOfH (tupleKind knd) o xs)
    (nd : (xs.map fun x => (tupleKind knd).hash x.1).Nodup) (hz : xs.length ≤ sizeLine) (h : ∀ h', h'.DictOfH (tupleKind knd) s.heap.objs.size xs → Heap.SameBut s.heap.objs.size (s.heap.push { cls := .type "dict", data := .dict #[] }) h' → Q (.ref s.heap.objs.size) { s with heap := h' }) :
    wpAny (model prog w) A (call (.type "dict") [.ref o]) Q E s := by
  refine callType_codes F.kt_called_dict (F.kt_typeCall_dict_1 _) F.entry_dict_init (kt_code_dict_new (Q₁ := fun obj s₁ => obj = .ref s.heap.objs.size ∧ s₁ = { s with heap := s.heap.push { cls := .type "dict", data := .dict #[] } }) _ ⟨rfl, rfl⟩) ?_
  rintro obj s₁ ⟨rfl, rfl⟩
  have hne : s.heap.objs.size ≠ o := by
    obtain ⟨o2, es2, ep2, g2, _⟩ := od
    exact Nat.ne_of_gt (Heap.lt_size g2)
  have keep : ∀ b ob, s.heap.get? b = some ob → (s.heap.push { cls := .type "dict", data := .dict #[] }).get? b = some ob := fun b ob e => Heap.get?_push_of_some _ e
  have dd : (s.heap.push { cls := .type "dict", data := .dict #[] }).DictOfH (tupleKind knd) s.heap.objs.size [] := ⟨_, #[], 0, Heap.get?_push_size _ rfl, ⟨rfl, rfl, rfl⟩, rfl, rfl, fun _ h => (nomatch h), List.nodup_nil⟩
  have od' : (s.heap.push { cls := .type "dict", data := .dict #[] }).DictOfH (tupleKind knd) o xs := by
    obtain ⟨o2, es2, ep2, g2, x2, d2, l2, i2, n2⟩ := od
    refine ⟨o2, es2, ep2, keep _ _ g2, x2, d2, l2, fun y hy => ?_, n2⟩
    obtain ⟨o3, its, n3, q1, q⟩ := (show IsTupleKey knd s.heap y.1 y.2.1 from i2 y hy)
    exact ⟨o3, its, n3, keep _ _ q1, q⟩
  have td : Shared.TypeIs { s with heap := s.heap.push { cls := .type "dict", data := .dict #[] } } (.ref s.heap.objs.size) "dict" := ⟨_, Heap.get?_push_size _ rfl, rfl⟩
  have to : Shared.TypeIs { s with heap := s.heap.push { cls := .type "dict", data := .dict #[] } } (.ref o) "dict" := by
    obtain ⟨o2, es2, ep2, g2, x2, _⟩ := od'
    exact ⟨o2, g2, x2.1⟩
  refine ⟨td, F.args_dict_init_2 _ _, ?_⟩
  unfold Builtin.«dict.__init__»
  refine wpAny_bind ?_
  unfold Builtin.Dict.selfAndRest
  refine wpAny_bind (wpAny_notOrdered_dict td ?_)
  show wpAny _ _ (Builtin.Dict.addrOf (.ref s.heap.objs.size) >>= _) _ _ _
  refine wpAny_bind (wpAny_of_eq (a := s.heap.objs.size) rfl (wpAny_pure ?_))
  show wpAny _ _ (Builtin.Dict.updateFrom "dict.__init__" s.heap.objs.size (.ref o) [] .none) _ _ _
  unfold Builtin.Dict.updateFrom
  refine wpAny_bind (wpAny_typeOf to ?_)
  rw [if_neg (by decide +kernel)]
  refine wpAny_bind ?_
  unfold Builtin.Dict.merge
  refine wpAny_bind ?_
  unfold Builtin.Dict.readDirectly
  refine wpAny_bind (wpAny_isInstance to isSubtype_dict_dict ?_)
  rw [if_neg (by decide)]
  refine wpAny_bind (wpAny_specialOf to F.slot_dict_iter.lookup (wpAny_pure ?_))
  rw [if_pos (by decide +kernel)]
  refine wpAny_bind (wpAny_of_eq (a := o) rfl ?_)
  refine wp_mergeT (knd := knd) hne hs dd od' nd hz fun h' dd' sb => ?_
  refine wpAny_bind (wpAny_of_eq (a := ()) rfl ?_)
  exact wpAny_pure ⟨rfl, h h' dd' sb⟩
end

theorem nodup_map_inj {α β : Type} (f : α → β) : ∀ {l : List α}, l.Nodup → (∀ a ∈ l, ∀ b ∈ l, f a = f b → a = b) → (l.map f).Nodup
  | [], _, _ => List.nodup_nil
  | x :: l, n, h => by
    rw [List.nodup_cons] at n
    rw [List.map_cons, List.nodup_cons]
    refine ⟨fun m => ?_, nodup_map_inj f n.2 (fun a ha b hb => h a (List.mem_cons_of_mem _ ha) b (List.mem_cons_of_mem _ hb))⟩
    obtain ⟨y, hy, e⟩ := List.mem_map.mp m
    exact n.1 (h y (List.mem_cons_of_mem _ hy) x (List.mem_cons_self ..) e ▸ hy)
abbrev hashT (P : Program) (w : World) (k : List Key) : Int := (tupleKind (mixKind P w)).hash k
section
variable {X : Cx}
theorem call_dictK : CallR X (.type "dict") (fun xs H Q => ∃ p kvs, xs = [.ref p] ∧ Rd H p (.dK kvs) ∧ ∀ l, H l = none → Q (.ref l) (upd H l (.dK kvs))) := by
  intro pins s σ H xs us Q I r h
  obtain ⟨p, kvs, rfl, hp, q⟩ := h
  obtain ⟨u, rfl, ru⟩ := vals1 r
  cases (show u = Value.ref p from ru)
  exact d_copyOf I hp fun l s' hl I' => ⟨.ref l, _, I', rfl, q l hl⟩
theorem call_dictT : CallR X (.type "dict") (fun xs H Q => ∃ p kvs, xs = [.ref p] ∧ Rd H p (.dT kvs) ∧ (∀ k1 ∈ kvs.map (·.1), ∀ k2 ∈ kvs.map (·.1), hashT X.prog X.w k1 = hashT X.prog X.w k2 → k1 = k2) ∧ ∀ l, H l = none → Q (.ref l) (upd H l (.dT kvs))) := by
  intro pins s σ H xs us Q I r h
  obtain ⟨p, kvs, rfl, hp, hi, q⟩ := h
  obtain ⟨u, rfl, ru⟩ := vals1 r
  cases (show u = Value.ref p from ru)
  obtain ⟨z, hd, xs, rel, dd⟩ := dt_rd I.hok hp
  have ek : xs.map (·.1) = kvs.map (·.1) := by
    clear dd z hi hp q
    induction rel with
    | nil => rfl
    | cons a b ih => rw [List.map_cons, List.map_cons, ih, a.1]
  have el : xs.length = kvs.length := by have := congrArg List.length ek; rwa [List.length_map, List.length_map] at this
  have nd : (xs.map fun x => (tupleKind (mixKind X.prog X.w)).hash x.1).Nodup := by
    obtain ⟨_, _, _, _, _, _, _, _, n2⟩ := id dd
    have e : (xs.map fun x => (tupleKind (mixKind X.prog X.w)).hash x.1) = (xs.map (·.1)).map (hashT X.prog X.w) := by rw [List.map_map]; rfl
    rw [e]
    rw [ek] at n2 ⊢
    exact nodup_map_inj _ n2 hi
  refine wp_dictT (knd := mixKind X.prog X.w) hd dd nd (by omega) fun h' dd' sb => ?_
  obtain ⟨o, es, ep, g1, g2, g3, g4, g5, g6⟩ := dd'
  refine ⟨.ref s.heap.objs.size, _, I.laid (a := s.heap.objs.size) (o := .dT kvs) (t' := s.toks) (fun b q hq => ?_) (Nat.le_refl _) ?_, rfl, q _ (I.hok.fresh (Nat.le_refl _))⟩
  · exact (sb.2 b (Nat.ne_of_lt (Heap.lt_size hq))).trans (Heap.get?_push_of_some _ hq)
  · refine ⟨z, beq_eq_false_iff_ne.mpr (Ne.symm (Nat.ne_of_lt I.big)), xs, ?_, o, es, ep, g1, g2, g3, g4, g6⟩
    refine rel.keeps fun b ys hb => ?_
    rw [upd_ne (fun e => by rw [e, I.hok.fresh (Nat.le_refl _)] at hb; cases hb)]
    exact hb
end
end L2

set_option Elab.async false
set_option linter.all false
set_option maxRecDepth 100000
namespace L2
open PySem PySem.Spec PyProof.Rows
section
variable {X : Cx}
theorem reads_lst {pins : List (Addr × Obj)} {s : Shared} {σ : St} {H : Hp} {a : Addr} {ns : List Int} (I : Inv X pins σ H s) (h : SqL X.K H a (ns.map V.int)) : Reads s.heap (.ref a) (.list (ns.map PyData.int)) [a] := by
  obtain ⟨its, r, ⟨o, n, e, c, d, dd⟩, hz⟩ := I.list h
  exact reads_list_at e c dd (by simpa using reads_ints r)
theorem shaped_lst (ns : List Int) : SeqAt.shaped (.list (ns.map PyData.int)) = true := by
  simp [SeqAt.shaped, PyData.canLay0, PyData.depth, PySem.W.ke_canLayAll0, PySem.W.ke_depthAll]
theorem same_lst (ns ms : List Int) : PySem.Spec.same (.list (ns.map PyData.int)) (.list (ms.map PyData.int)) = decide (ns = ms) := by
  simp only [PySem.Spec.same]; exact PySem.W.ke_sameAll ns ms
theorem lst_has (ns : List Int) : (Shape.list .int).has (.list (ns.map PyData.int)) = true := by
  simp only [Shape.has]
  induction ns with
  | nil => rfl
  | cons n ns ih => simp [Shape.hasAll, Shape.has] at ih ⊢; try exact ih
def rLst (K : PySem.W.Frag) (neg : Bool) : R2 := fun x y H Q => ∃ (a b : Addr) (ns ms : List Int), x = .ref a ∧ y = .ref b ∧ SqL K H a (ns.map V.int) ∧ SqL K H b (ms.map V.int) ∧ Q (.bl (if neg then !decide (ns = ms) else decide (ns = ms))) H
theorem op_eqL (hu : X.A.units + 64 < cLine) : OpR X (compareOp .Eq) (rLst X.K false) := by
  intro pins s σ H x y u v Q I rx ry h
  obtain ⟨a, b, ns, ms, rfl, rfl, ha, hb, q⟩ := h
  cases (show u = Value.ref a from rx)
  cases (show v = Value.ref b from ry)
  exact eq_dataH_same (reads_lst I ha) (reads_lst I hb) (shaped_lst _) (shaped_lst _) hu (SeqAt.noMix_of_shape (.list .int) rfl _ _ (lst_has ns) (lst_has ms)) (by rw [same_lst]; exact fin_bl I q (by simp))
def tAsg2 (te : TE) (g1 g2 : TG) : TS := fun D σ H => te σ H fun x H1 => g1 x σ H1 fun σ2 H2 => g2 x σ2 H2 D.nx
theorem ps_asg2 {t1 t2 e : Expr} {te : TE} {g1 g2 : TG} {pos : Pos} (he : PE X e te) (h1 : PG X t1 g1) (h2 : PG X t2 g2) (hs : swapsWithSole [t1, t2] e pos.line X.env = pure false := by rfl) (hw : swappedStores [t1, t2] e X.env = pure none := by rfl)
    (ha : (assignEach [t1, t2] X.env).map (·.2) = [assign t1 X.env, assign t2 X.env] := by rfl) : PS X (.Assign [t1, t2] e pos) (tAsg2 te g1 g2) := by
  intro pins s σ H D I h
  refine wpAny_Assign_stores (thn (he pins s σ H _ I h) fun v s1 ⟨x, H1, I1, r1, q1⟩ => ?_) hs hw
  rw [ha]
  unfold assignAll
  refine wpAny_bind (wpAny_holding (thn (h1 pins s1 σ H1 x v _ I1 r1 q1) fun _ s2 ⟨σ2, H2, I2, q2⟩ => ?_))
  unfold assignAll
  exact thn (h2 pins s2 σ2 H2 x v _ I2 r1 q2) fun _ s3 q => q
end
end L2

set_option Elab.async false
set_option linter.all false
set_option maxRecDepth 100000
namespace L2
open PySem PySem.Spec PyProof.Rows
mutual
def DV (K : PySem.W.Frag) (H : Hp) : PyData → V → Prop
  | .none, v => v = .non
  | .bool b, v => v = .bl b
  | .int i, v => v = .int i
  | .str x, v => v = .str x
  | .list ds, v => ∃ (a : Addr) (xs : List V), v = .ref a ∧ SqL K H a xs ∧ DVs K H ds xs
  | .tuple ds, v => ∃ (a : Addr) (xs : List V), v = .ref a ∧ SqT K H a xs ∧ DVs K H ds xs
  | .dict _, _ => False
def DVs (K : PySem.W.Frag) (H : Hp) : List PyData → List V → Prop
  | [], xs => xs = []
  | d :: ds, xs => ∃ v r, xs = v :: r ∧ DV K H d v ∧ DVs K H ds r
end
section
variable {X : Cx} {pins : List (Addr × Obj)} {s : Shared} {σ : St} {H : Hp}
mutual
theorem DV.reads (I : Inv X pins σ H s) : ∀ (d : PyData) (v : V) (u : Value), DV X.K H d v → RelV v u → ∃ as, Reads s.heap u d as
  | .none, v, u, h, r => by
    unfold DV at h; subst h; cases (show u = Value.none from r); exact ⟨[], .none⟩
  | .bool b, v, u, h, r => by
    unfold DV at h; subst h; cases (show u = Value.bool b from r); exact ⟨[], .bool b⟩
  | .int i, v, u, h, r => by
    unfold DV at h; subst h; obtain ⟨t, e⟩ := (show ∃ t, u = Value.int i t from r); subst e; exact ⟨[], .int i t⟩
  | .str x, v, u, h, r => by
    unfold DV at h; subst h; obtain ⟨t, e⟩ := (show ∃ t, u = Value.str x t from r); subst e; exact ⟨[], .str x t⟩
  | .list ds, v, u, h, r => by
    unfold DV at h
    obtain ⟨a, xs, rfl, hs, hd⟩ := h
    cases (show u = Value.ref a from r)
    obtain ⟨its, r2, ⟨o, n, e, c, d, dd⟩, hz⟩ := I.list hs
    obtain ⟨as, ra⟩ := DVs.reads I ds xs its hd r2
    exact ⟨a :: as, .list e c dd (by simpa using ra)⟩
  | .tuple ds, v, u, h, r => by
    unfold DV at h
    obtain ⟨a, xs, rfl, hs, hd⟩ := h
    cases (show u = Value.ref a from r)
    obtain ⟨its, r2, ⟨o, e, c, n, dd⟩, hz⟩ := I.tuple hs
    obtain ⟨as, ra⟩ := DVs.reads I ds xs its hd r2
    exact ⟨as, .tuple e c dd (by simpa using ra)⟩
  | .dict _, v, u, h, r => by unfold DV at h; exact h.elim
theorem DVs.reads (I : Inv X pins σ H s) : ∀ (ds : List PyData) (xs : List V) (us : List Value), DVs X.K H ds xs → Vals xs us → ∃ as, ReadsAll s.heap us ds as
  | [], xs, us, h, r => by
    unfold DVs at h; subst h; cases r; exact ⟨[], .nil⟩
  | d :: ds, xs, us, h, r => by
    unfold DVs at h
    obtain ⟨v, r', rfl, h1, h2⟩ := h
    cases r with
    | cons ru rs =>
      obtain ⟨as, ra⟩ := DV.reads I d v _ h1 ru
      obtain ⟨bs, rb⟩ := DVs.reads I ds r' _ h2 rs
      exact ⟨as ++ bs, .cons ra rb⟩
end
def rDat (K : PySem.W.Frag) (neg : Bool) : R2 := fun x y H Q => ∃ (d e : PyData), DV K H d x ∧ DV K H e y ∧ SeqAt.shaped d = true ∧ SeqAt.shaped e = true ∧ Q (.bl (if neg then !PyData.eqv d e else PyData.eqv d e)) H
theorem op_eqD {X : Cx} (hu : X.A.units + 64 < cLine) : OpR X (compareOp .Eq) (rDat X.K false) := by
  intro pins s σ H x y u v Q I rx ry h
  obtain ⟨d, e, hd, he, sd, se, q⟩ := h
  obtain ⟨as, ra⟩ := DV.reads I d x u hd rx
  obtain ⟨bs, rb⟩ := DV.reads I e y v he ry
  exact eq_dataH ra rb sd se hu (fin_bl I q (by simp))
theorem op_neD {X : Cx} (hu : X.A.units + 64 < cLine) : OpR X (compareOp .NotEq) (rDat X.K true) := by
  intro pins s σ H x y u v Q I rx ry h
  obtain ⟨d, e, hd, he, sd, se, q⟩ := h
  obtain ⟨as, ra⟩ := DV.reads I d x u hd rx
  obtain ⟨bs, rb⟩ := DV.reads I e y v he ry
  exact ne_dataH ra rb sd se hu (fin_bl I q (by simp))
end
theorem canLayAll_map {α : Type} (f : α → PyData) : ∀ (l : List α), (∀ x ∈ l, (f x).canLay0 = true) → PyData.canLayAll0 (l.map f) = true
  | [], _ => rfl
  | x :: l, h => by
    rw [List.map_cons, PyData.canLayAll0, h x List.mem_cons_self, canLayAll_map f l fun y hy => h y (List.mem_cons_of_mem _ hy)]; rfl
theorem depthAll_map {α : Type} (f : α → PyData) (n : Nat) : ∀ (l : List α), (∀ x ∈ l, (f x).depth ≤ n) → PyData.depthAll (l.map f) ≤ n
  | [], _ => Nat.zero_le _
  | x :: l, h => by
    rw [List.map_cons, PyData.depthAll]
    exact Nat.max_le.mpr ⟨h x List.mem_cons_self, depthAll_map f n l fun y hy => h y (List.mem_cons_of_mem _ hy)⟩
theorem DVs.map {α : Type} {K : PySem.W.Frag} {H : Hp} (f : α → PyData) (g : α → V) : ∀ (l : List α), (∀ x ∈ l, DV K H (f x) (g x)) → DVs K H (l.map f) (l.map g)
  | [], _ => by show DVs K H [] []; unfold DVs; rfl
  | x :: l, h => by
    show DVs K H (f x :: l.map f) (g x :: l.map g)
    unfold DVs
    exact ⟨_, _, rfl, h x List.mem_cons_self, DVs.map f g l fun y hy => h y (List.mem_cons_of_mem _ hy)⟩
theorem shaped_of {d : PyData} (h1 : d.canLay0 = true) (h2 : d.depth ≤ 64) : SeqAt.shaped d = true := by unfold SeqAt.shaped; rw [h1, decide_eq_true h2]; rfl
section
variable {X : Cx}
end
end L2

set_option Elab.async false
set_option linter.all false
set_option maxRecDepth 100000
namespace L2
open PySem PySem.Spec PyProof.Rows
def CXr (P : Program) (w : World) : CXT := fun outer H s E e s' => ∃ (a : Addr) (C a0 : Value) (H' : Hp) (B : Heap), e = .ref a ∧ Heap.FlyingW B outer a C a0 s'.heap ∧ s'.os = s.os ∧ AllBare s'.gens ∧ Un (frs outer) [] H H' s.heap s'.heap ∧
  (∀ b o, s.heap.get? b = some o → H b = none → b ∉ frs outer → B.get? b = some o) ∧ (∀ b o, s.heap.get? b = some o → b ∉ frs outer → ∃ o', B.get? b = some o') ∧ HOk P w H' B ∧ E C (some a) H'
section
variable {P : Program} {w : World} {K : PySem.W.Frag} {mg : Str → Option Value} {base : Heap} {N : List Str} {qual : Str} {scope : Scope} {f : Addr} {cd : Value} {A : Around} {outer : List Env} {s₀ : Shared} {H₀ : Hp} {E : XK}
end
end L2
namespace L2
open PySem PySem.Spec PyProof.Rows
section
variable {X : Cx} {E : XK} {C : Addr} {x : Str} {np cpos pos : Pos} {e₀ : Expr} {t : TE}
end
section
variable {P : Program} {w : World} {K : PySem.W.Frag} {mg : Str → Option Value} {base : Heap}
end
end L2
namespace L2
open PySem PySem.Spec PyProof.Rows
abbrev TJ := Str → St → Hp → VK → Prop
section
variable {X : Cx} {e v1 v2 : Expr} {es : List Expr} {te : TE} {tr : TJ} {pos : Pos}
end
end L2

set_option Elab.async false
set_option linter.all false
set_option maxRecDepth 100000
namespace L2
open PySem PySem.Spec PyProof.Rows PySem.Calls
def ExcAt (x D : Addr) (h : Heap) : Prop := ∃ o vs, h.get? x = some o ∧ o.cls = .ref D ∧ o.data = .fields vs
theorem ExcAt.ty {M : Model} {x D : Addr} {h : Heap} (p : ExcAt x D h) : PySem.W.Looks M h (typeOf (.ref x)) (.ref D) := by
  obtain ⟨o, vs, h1, h2, _⟩ := p
  exact h2 ▸ (PySem.W.Looks.ld h1).andThen .now
structure ExcCls (K : PySem.W.Frag) (D : Addr) : Prop where
  ga : PySem.W.findIn K (.ref D) "__getattribute__" = some (some (.builtin "BaseException.__getattribute__"))
  gh : PySem.W.findIn K (.ref D) "__getattr__" = some none
  be : PySem.W.mroIn K D (.type "BaseException") = some true
  hd : PySem.W.hasDictIn K D = true
  at_ : PySem.W.findIn K (.ref D) "__class__" = some (some (.builtin "object.__class__"))
  gt : PySem.W.specialIn K (.builtin "object.__class__") "__get__" = some (some (.builtin "getset_descriptor.__get__"))
  tk : PySem.W.takesIn K (.builtin "object.__class__") = some true
  ob : PySem.W.mroIn K D (.type "object") = some true
section
variable {K : PySem.W.Frag} {x D : Addr}
open PySem.W Builtin Builtin.ObjectAttr in
open PySem.W Builtin Builtin.ObjectAttr Builtin.Getset_descriptor in
open PySem.W Builtin Builtin.ObjectAttr in
open PySem.W Builtin Builtin.ObjectAttr in
open PySem.W Builtin Builtin.ObjectAttr in
end
end L2

set_option Elab.async false
set_option linter.all false
set_option maxRecDepth 100000
namespace L2
open PySem PySem.Spec PyProof.Rows
section
variable {P : Program} {w : World} {K : PySem.W.Frag} {mg : Str → Option Value} {base : Heap} {CX : CXT} {k : Nat} {f : Addr} {fd : FuncData} {ps : List Str} {sp sp' : Sp}
theorem FnOk.or (F : FnOk P w K mg base CX k f fd ps sp) (G : FnOk P w K mg base CX k f fd ps sp') : FnOk P w K mg base CX k f fd ps (fun vs H Q E => sp vs H Q E ∨ sp' vs H Q E) :=
  ⟨fun vs H Q E h => h.elim (F.len vs H Q E) (G.len vs H Q E), fun A outer s H args us vs Q E hr he hb hv hs => hs.elim (F.run A outer s H args us vs Q E hr he hb hv) (G.run A outer s H args us vs Q E hr he hb hv)⟩
end
structure Flt (P : Program) (w : World) (outer : List Env) (H : Hp) (s : Shared) (H' : Hp) (B h : Heap) : Prop where
  stays : B.StaysIn h
  frames : h.FunFrames B outer
  slot : ∀ b o, s.heap.get? b = some o → H b = none → b ∈ frs outer → ∃ sl, h.get? b = some { o with slots := sl }
  free : ∀ b o, s.heap.get? b = some o → H b = none → H' b = none
  tups : ∀ b xs, H b = some (.tup xs) → H' b = some (.tup xs)
  frzs : ∀ b o u, H b = some (.frz o u) → H' b = some (.frz o u)
  tbls : ∀ b ps, H b = some (.tbl ps) → ∃ more, H' b = some (.tbl (ps ++ more))
  kb : ∀ b o, s.heap.get? b = some o → H b = none → b ∉ frs outer → B.get? b = some o
  tb : ∀ b o, s.heap.get? b = some o → b ∉ frs outer → ∃ o', B.get? b = some o'
  hok : HOk P w H' B
section
variable {P : Program} {w : World} {outer : List Env} {H H' : Hp} {s : Shared} {B h h' : Heap}
theorem Flt.un (f : Flt P w outer H s H' B h) : Un (frs outer) [] H H' s.heap h where
  keep := fun b o q n hb _ => f.stays b o (f.kb b o q n hb)
  slot := fun b o q n hb _ => f.slot b o q n hb
  free := fun b o q n _ => f.free b o q n
  there := fun b o q _ => by
    by_cases hb : b ∈ frs outer
    · obtain ⟨_, o2, ho2, _⟩ := f.frames.mem hb
      exact ⟨o2, ho2⟩
    · obtain ⟨o2, e2⟩ := f.tb b o q hb
      exact ⟨o2, f.stays b o2 e2⟩
  tups := f.tups
  frzs := f.frzs
  tbls := f.tbls
theorem Flt.ok (f : Flt P w outer H s H' B h) : HOk P w H' h := f.hok.kept f.stays
theorem Flt.next (f : Flt P w outer H s H' B h) (st : B.StaysIn h') (fr : h'.FunFrames B outer) (u : h.UpToSlots h') : Flt P w outer H s H' B h' :=
  ⟨st, fr, fun b o q n hb => by
    obtain ⟨sl, e1⟩ := f.slot b o q n hb
    obtain ⟨_, o2, ho2, hnf⟩ := f.frames.mem hb
    rw [e1] at ho2
    cases ho2
    obtain ⟨sl2, e2⟩ := u b _ e1 hnf
    exact ⟨sl2, e2⟩, f.free, f.tups, f.frzs, f.tbls, f.kb, f.tb, f.hok⟩
theorem ObjOk.there {H : Hp} {a : Addr} {o : HO} (x : ObjOk P w H h a o) : ∃ ob, h.get? a = some ob := by
  cases o with
  | lst xs => obtain ⟨_, _, _, _, e⟩ := x; exact ⟨_, e⟩
  | tup xs => obtain ⟨_, _, _, o, e, _⟩ := x; exact ⟨o, e⟩
  | dK kvs => obtain ⟨_, _, _, _, o, _, _, e, _⟩ := x; exact ⟨o, e⟩
  | dT kvs => obtain ⟨_, _, _, _, o, _, _, e, _⟩ := x; exact ⟨o, e⟩
  | set S n => obtain ⟨o, _, _, _, e, _⟩ := x; exact ⟨o, e⟩
  | ins C dx fs => obtain ⟨_, _, _, e, _⟩ := x; exact ⟨_, e⟩
  | own y => exact x
  | xd fs => obtain ⟨_, ⟨o, _, _, e, _⟩, _⟩ := x; exact ⟨o, e⟩
  | rng lo hi => obtain ⟨_, _, _, e⟩ := x; exact ⟨_, e⟩
  | frz ob u => obtain ⟨e, _⟩ := x; exact ⟨_, e⟩
  | tbl ps => exact ⟨_, show h.get? a = some _ from x⟩
  | met f y => exact ⟨_, show h.get? a = some _ from x⟩
  | ext φ => obtain ⟨_, e, _⟩ := x; exact e
end
section
variable {X : Cx} {pins : List (Addr × Obj)} {σ : St} {H : Hp} {s : Shared}
theorem Inv.tracked {a : Addr} {u : HO} (I : Inv X pins σ H s) (hn : H a = none) (new : X.s₀.heap.get? a = none) (hL : a ≠ X.env.locals) (hc : ∀ x c, X.env.cells.lookup x = some c → c ≠ a) (hp : ∀ p ∈ X.pn ++ pins, p.1 ≠ a)
    (ok : ObjOk X.prog X.w (upd H a u) s.heap a u) : Inv X pins σ (upd H a u) s := by
  have ne : ∀ b o, H b = some o → b ≠ a := fun b o e z => by rw [z, hn] at e; cases e
  have nw : ∀ b o, X.s₀.heap.get? b = some o → b ≠ a := fun b o e z => by rw [z, new] at e; cases e
  refine ⟨I.ok, I.os, I.bare, ⟨I.base.keep, I.base.slot, fun b o q n hx => ?_, I.base.there, fun b xs q => ?_, fun b o v q => ?_, fun b ps q => ?_⟩, I.loc, I.cell, ?_, fun x c e => ?_, fun p h => ?_, fun b o e => ?_, I.len⟩
  · rw [upd_ne (nw b o q)]; exact I.base.free b o q n hx
  · have e := I.base.tups b xs q; rw [upd_ne (ne b _ e)]; exact e
  · have e := I.base.frzs b o v q; rw [upd_ne (ne b _ e)]; exact e
  · obtain ⟨m, e⟩ := I.base.tbls b ps q; exact ⟨m, by rw [upd_ne (ne b _ e)]; exact e⟩
  · rw [upd_ne (Ne.symm hL)]; exact I.free
  · rw [upd_ne (hc x c e)]; exact I.freeC x c e
  · obtain ⟨e1, e2, e3⟩ := I.pin p h
    exact ⟨e1, by rw [upd_ne (hp p h)]; exact e2, e3⟩
  · by_cases hb : b = a
    · subst hb; rw [upd_same] at e; cases e; exact ok
    · rw [upd_ne hb] at e
      exact (I.hok b o e).stay (fun _ _ _ q => q) (fun c q => by rw [upd_ne (ne c _ q)]; exact q) fun c xs q => by rw [upd_ne (ne c _ q)]; exact q
end
structure RoomQ (k : Nat) (A : Around) : Prop where
  dp : A.depth + 3 * k + 5 < recursionLimit
  un : A.units + 16 * k + 200 < cLine
theorem Room.q {k : Nat} {A : Around} (r : Room k A) : RoomQ k A := ⟨r.dp, r.un⟩
theorem RoomQ.mono {j k : Nat} {A : Around} (r : RoomQ k A) (h : j ≤ k) : RoomQ j A := ⟨by have := r.dp; omega, by have := r.un; omega⟩
theorem RoomQ.deeper {k : Nat} {A : Around} (r : RoomQ (k + 1) A) (env : Env) : RoomQ k (A.deeper env) :=
  ⟨by have := r.dp; show A.depth + 1 + 3 * k + 5 < _; omega, by have := r.un; show A.units + 3 + 16 * k + 200 < _; omega⟩
structure FnOkQ (P : Program) (w : World) (K : PySem.W.Frag) (mg : Str → Option Value) (base : Heap) (k : Nat) (f : Addr) (fd : FuncData) (ps : List Str) (sp : Sp) : Prop where
  len : ∀ vs H Q E, sp vs H Q E → vs.length = ps.length
  run : ∀ (A : Around) (outer : List Env) (s : Shared) (H : Hp) (args : Args) (us : List Value) (vs : List V) (Q : VK) (E : XK), RoomQ k A → Env0 P w K mg base A outer s H → BindsTo s fd args (ps.zip us) → Vals vs us → sp vs H Q E →
    codeAny (model P w) A (.call (.ref f) args) (CR CX0 outer P w H s Q E) s
section
variable {X : Cx} {k : Nat} {f : Addr} {fd : FuncData} {ps : List Str} {sp : Sp} {x : Str} {p pos : Pos} {e : Expr} {es : List Expr} {t : TA}
end
end L2

set_option Elab.async false
set_option linter.all false
set_option maxRecDepth 100000
namespace L2
open PySem PySem.Spec PyProof.Rows
structure Deed (P : Program) (w : World) (K : PySem.W.Frag) (mg : Str → Option Value) (base : Heap) (k : Nat) (s : Shared) (H : Hp) (outer : List Env) (g : Addr) (sp : Hp → VK → XK → Prop) : Prop where
  fn : PySem.W.FnAt g s.heap
  un : H g = none
  nf : g ∉ frs outer
  run : ∀ (A' : Around) (outer' : List Env) (s' : Shared) (H' : Hp) (Q : VK) (E : XK), Room k A' → Env0 P w K mg base A' outer' s' H' →
    (∀ b o, s.heap.get? b = some o → H b = none → b ∉ frs outer → s'.heap.get? b = some o ∧ H' b = none) → (∀ b o u, H b = some (.frz o u) → H' b = some (.frz o u)) → sp H' Q E → codeAny (model P w) A' (.call (.ref g) ⟨[], []⟩) (CR (CXr P w) outer' P w H' s' Q E) s'
end L2

set_option Elab.async false
set_option linter.all false
set_option maxRecDepth 100000
namespace L2
open PySem PySem.Spec PyProof.Rows
structure LamAt (h : Heap) (H : Hp) (fs : List Addr) (N : List Str) (σ : St) (qual : Str) (params : Arguments) (body : Expr) (scope : Scope) (cl : List (Str × Addr)) (g c' : Addr) : Prop where
  fn : ∃ pm ctv, h.get? g = some (PySem.W.kla_obj "<lambda>" qual params body scope cl pm c' ctv)
  gn : H g = none ∧ g ∉ fs
  code : ∃ o vs t, H c' = some (.frz o (.own 0)) ∧ o.data = .fields vs ∧ vs[1]? = some (.str qual t)
  cells : ∀ x c, cl.lookup x = some c → (∃ v, h.IsCell c v) ∧ H c = none ∧ c ∉ fs
  vals : ∀ (i : Nat) (x : Str) (v : V), N[i]? = some x → σ[i]? = some (some v) → ∃ u c, RelV v u ∧ cl.lookup x = some c ∧ h.IsCell c (some u)
end L2

set_option Elab.async false
set_option linter.all false
set_option maxRecDepth 100000
namespace L2
open PySem PySem.Spec PyProof.Rows
structure RefOk (P : Program) (w : World) (K : PySem.W.Frag) (mg : Str → Option Value) (base : Heap) (k kd : Nat) (f : Addr) (rs : (Hp → VK → XK → Prop) → Hp → VK → Prop) : Prop where
  run : ∀ (A : Around) (outer : List Env) (s : Shared) (H : Hp) (g : Addr) (spD : Hp → VK → XK → Prop) (Q : VK), Room k A → Env0 P w K mg base A outer s H → Deed P w K mg base kd s H outer g spD → rs spD H Q →
    codeAny (model P w) A (.call (.ref f) ⟨[.ref g], []⟩) (CR CX0 outer P w H s Q E0) s
section
variable {X : Cx} {pins : List (Addr × Obj)} {σ : St} {H : Hp} {s : Shared} {c Pt : Addr} {ps : Array Value} {params : Arguments} {body : Expr} {scope : Scope} {lpos : Pos} {clos : List (Str × Addr)} {Q : Value → Shared → Prop} {E : Value → Shared → Prop}
end
section
variable {X : Cx} {k kd : Nat} {f c Pt : Addr} {rs : (Hp → VK → XK → Prop) → Hp → VK → Prop} {x : Str} {p pos lpos : Pos} {params : Arguments} {body : Expr} {scope : Scope} {N' : List Str} {tb : XK → TE}
end
end L2

set_option Elab.async false
set_option linter.all false
set_option maxRecDepth 100000
namespace L2
open PySem PySem.Spec PyProof.Rows
section
variable {P : Program} {w : World} {K : PySem.W.Frag} {mg : Str → Option Value} {base : Heap}
end
end L2

set_option Elab.async false
set_option linter.all false
set_option maxRecDepth 100000
namespace L2
open PySem PySem.Spec PyProof.Rows
section
variable {K : PySem.W.Frag} {C R : Addr} {Ds : List (Addr × Bool)}
end
def Small (i : Int) : Prop := i.natAbs.log2 < 1920
section
variable {E : XK} {C : Addr} {D : Ends} {σ : St} {H : Hp} {x y : Str} {i j : Nat} {m n : Int}
end
end L2

set_option Elab.async false
set_option linter.all false
set_option maxRecDepth 100000
namespace L2
open PySem PySem.Spec PyProof.Rows
def Asc (n : Nat) (y : Str) : Prop := y.length ≤ n ∧ ∀ c ∈ y.cps.toList, c < 128
theorem Asc.mono {n m : Nat} {y : Str} (h : Asc n y) (hm : n ≤ m) : Asc m y := ⟨Nat.le_trans h.1 hm, h.2⟩
theorem slice_mem {x : Str} {l u : Option Int} {c : Nat} (h : c ∈ (Txt.slice x l u).cps.toList) : c ∈ x.cps.toList := by
  unfold Txt.slice at h
  split at h
  · exact h
  · have h2 : c ∈ (Builtin.Str.strSliceIndices l u 1 x.length).filterMap (x.cps[·]?) := by simpa using h
    obtain ⟨i, _, e⟩ := List.mem_filterMap.mp h2
    exact Array.mem_toList_iff.mpr (Array.mem_of_getElem? e)
theorem Asc.slice {n : Nat} {y : Str} (h : Asc n y) (l u : Option Int) : Asc n (Txt.slice y l u) := ⟨Nat.le_trans (Txt.slice_le y l u) h.1, fun c hc => h.2 c (slice_mem hc)⟩
section
variable {X : Cx}
end
end L2

set_option Elab.async false
set_option linter.all false
set_option maxRecDepth 100000
namespace L2
open PySem PySem.Spec PyProof.Rows
def tCut (t : TS) : TS := fun D σ H => ∃ Pn : St → Hp → Prop, t { D with nx := Pn } σ H ∧ ∀ σ' H', Pn σ' H' → D.nx σ' H'
theorem ps_cut {X : Cx} {st : Stmt} {t : TS} (h : PS X st t) : PS X st (tCut t) := by
  intro pins s σ H D I ⟨Pn, ht, hn⟩
  refine thn (h pins s σ H { D with nx := Pn } I ht) fun f s1 q => ?_
  cases f with
  | next => obtain ⟨σ', H', I', q⟩ := q; exact ⟨σ', H', I', hn _ _ q⟩
  | ret v => exact q
  | brk => exact q
  | cont => exact q
section
variable {E : XK} {C : Addr} {D : Ends} {σ : St} {H : Hp} {x x1 y : Str} {i j : Nat} {m n : Int}
end
end L2

set_option Elab.async false
set_option linter.all false
set_option maxRecDepth 100000
namespace L2
open PySem PySem.Spec PyProof.Rows
structure Tb (L : Kn) (Pt : Addr) (qual : Str) : Prop where
  ex : ∃ ps : Array Value, (Pt, HO.tbl ps) ∈ L ∧ TriplesOk ps.toList ∧ ∀ pos, codeAmong pos ps.toList = none ∨ ∃ (c' : Addr) (oc : Obj) (vs : Array Value) (t : Tok), codeAmong pos ps.toList = some (.ref c') ∧ (c', HO.frz oc (.own 0)) ∈ L ∧ oc.data = .fields vs ∧ vs[1]? = some (.str qual t)
theorem Tb.mono {L L' : Kn} {Pt : Addr} {qual : Str} (T : Tb L Pt qual) (h : ∀ z ∈ L, z ∈ L') : Tb L' Pt qual := by
  obtain ⟨ps, m, tr, hp⟩ := T.ex
  exact ⟨ps, h _ m, tr, fun pos => (hp pos).imp id fun ⟨c', oc, vs, t, a, b, c, d⟩ => ⟨c', oc, vs, t, a, h _ b, c, d⟩⟩
theorem Tb.new {L : Kn} {Pt : Addr} {qual : Str} (h : (Pt, HO.tbl #[]) ∈ L) : Tb L Pt qual := ⟨#[], h, trivial, fun _ => .inl rfl⟩
section
variable {X : Cx} {e : Expr} {te : TE} {pos : Pos}
end
section
variable {E : XK} {C : Addr} {D : Ends} {σ : St} {H : Hp} {x x1 x2 : Str} {i j : Nat} {m n : Int} {a : Addr}
end
end L2

set_option Elab.async false
set_option linter.all false
set_option maxRecDepth 100000
namespace L2
open PySem PySem.Spec PyProof.Rows
section
variable {X : Cx} {K : PySem.W.Frag}
def rInD (K : PySem.W.Frag) (neg : Bool) : R2 := fun x y H Q => ∃ (d : PyData) (ds : List PyData), DV K H d x ∧ DV K H (.list ds) y ∧ SeqAt.shaped d = true ∧ SeqAt.shaped (.list ds) = true ∧ Q (.bl (if neg then !ds.any (fun y => PyData.eqv y d) else ds.any (fun y => PyData.eqv y d))) H
theorem shaped_two {d : PyData} (h : SeqAt.shaped d = true) : d.canLay0 = true ∧ d.depth ≤ 64 := by
  unfold SeqAt.shaped at h
  rw [Bool.and_eq_true] at h
  exact ⟨h.1, of_decide_eq_true h.2⟩
theorem op_inD (hu : X.A.units + 128 < cLine) : OpR X (compareOp .In) (rInD X.K false) := by
  intro pins s σ H x y u v Q I rx ry h
  obtain ⟨d, ds, hd, he, sd, se, q⟩ := h
  obtain ⟨as, ra⟩ := DV.reads I d x u hd rx
  obtain ⟨bs, rb⟩ := DV.reads I (.list ds) y v he ry
  have s1 := shaped_two sd
  have s2 := shaped_two se
  have hm : min (PyData.depthAll ds) d.depth ≤ 64 := Nat.le_trans (Nat.min_le_right _ _) s1.2
  exact SeqAt.in_list_reads rb ra (by have := s2.1; rw [PyData.canLay0] at this; exact this) s1.1 (by omega) (fin_bl I q (by simp))
theorem op_notInD (hu : X.A.units + 128 < cLine) : OpR X (compareOp .NotIn) (rInD X.K true) := by
  intro pins s σ H x y u v Q I rx ry h
  obtain ⟨d, ds, hd, he, sd, se, q⟩ := h
  obtain ⟨as, ra⟩ := DV.reads I d x u hd rx
  obtain ⟨bs, rb⟩ := DV.reads I (.list ds) y v he ry
  have s1 := shaped_two sd
  have s2 := shaped_two se
  have hm : min (PyData.depthAll ds) d.depth ≤ 64 := Nat.le_trans (Nat.min_le_right _ _) s1.2
  exact SeqAt.notIn_list_reads rb ra (by have := s2.1; rw [PyData.canLay0] at this; exact this) s1.1 (by omega) (fin_bl I q (by simp))
end
theorem Room.units2 {k : Nat} {A : Around} (r : Room k A) : A.units + 128 < cLine := by have := r.un; omega
end L2


set_option Elab.async false
set_option linter.all false
set_option maxRecDepth 100000
set_option maxHeartbeats 4000000
namespace P
open PySem L2

def top (i : Nat) : Stmt := PySem.Challenge.pw_lazyrails_k27_whole_round_is_walked.main.body.getD i (.Pass ⟨0, 0, 0, 0⟩)
abbrev s_law : Stmt := top 54
abbrev s_draws : Stmt := top 38
abbrev s_fate : Stmt := top 32
abbrev s_twin : Stmt := top 30
abbrev s_held : Stmt := top 27
abbrev s_next_step : Stmt := top 26
abbrev s_passage : Stmt := top 23
abbrev s_check_end : Stmt := top 20
abbrev s_ends_of : Stmt := top 18
abbrev s_is_point : Stmt := top 19
abbrev s_check_side : Stmt := top 21
abbrev s_point_passage : Stmt := top 24
abbrev s_run : Stmt := top 28
abbrev s_alike : Stmt := top 34
abbrev s_fate_on_round : Stmt := top 33
abbrev s_set : Stmt := top 51
abbrev s_built : Stmt := top 46
abbrev s_kind : Stmt := top 44
abbrev s_kinds : Stmt := top 43
abbrev s_many : Stmt := top 45
abbrev s_linked : Stmt := top 48
abbrev s_ends : Stmt := top 47
abbrev s_thrown : Stmt := top 49
abbrev s_size : Stmt := top 50
abbrev s_links : Stmt := top 52
abbrev s_stand : Stmt := top 53
abbrev s_is : Stmt := top 40
abbrev s_whole : Stmt := top 39
abbrev s_check_note : Stmt := top 22
abbrev s_Yard_init : Stmt := inClass (top 36) 0
abbrev s_Yard_make_twin : Stmt := inClass (top 36) 11
abbrev s_Yard_engine : Stmt := inClass (top 36) 19
abbrev s_Yard_kind : Stmt := inClass (top 36) 14
abbrev s_Yard_check_piece : Stmt := inClass (top 36) 23
abbrev s_Yard_mate : Stmt := inClass (top 36) 18
abbrev s_Yard_check_there : Stmt := inClass (top 36) 25
abbrev s_Yard_side : Stmt := inClass (top 36) 17
abbrev s_Yard_check_rod : Stmt := inClass (top 36) 24
abbrev s_Yard_rod : Stmt := inClass (top 36) 16
abbrev s_Yard_carry : Stmt := inClass (top 36) 9
abbrev s_Yard_put : Stmt := inClass (top 36) 7
abbrev s_Yard_end_trail : Stmt := inClass (top 36) 22
abbrev s_Yard_lay : Stmt := inClass (top 36) 1
abbrev s_Yard_new_rod : Stmt := inClass (top 36) 2
abbrev s_Yard_link : Stmt := inClass (top 36) 4
abbrev s_Yard_throw : Stmt := inClass (top 36) 6
abbrev s_Yard_rods : Stmt := inClass (top 36) 13
structure Adr where
  f_law : Addr
  d_law : FuncData
  v_law : Value
  f_draws : Addr
  d_draws : FuncData
  v_draws : Value
  f_fate : Addr
  d_fate : FuncData
  v_fate : Value
  f_twin : Addr
  d_twin : FuncData
  v_twin : Value
  f_held : Addr
  d_held : FuncData
  v_held : Value
  f_next_step : Addr
  d_next_step : FuncData
  v_next_step : Value
  f_passage : Addr
  d_passage : FuncData
  v_passage : Value
  f_check_end : Addr
  d_check_end : FuncData
  v_check_end : Value
  f_ends_of : Addr
  d_ends_of : FuncData
  v_ends_of : Value
  f_is_point : Addr
  d_is_point : FuncData
  v_is_point : Value
  f_check_side : Addr
  d_check_side : FuncData
  v_check_side : Value
  f_point_passage : Addr
  d_point_passage : FuncData
  v_point_passage : Value
  f_run : Addr
  d_run : FuncData
  v_run : Value
  f_alike : Addr
  d_alike : FuncData
  v_alike : Value
  f_fate_on_round : Addr
  d_fate_on_round : FuncData
  v_fate_on_round : Value
  f_set : Addr
  d_set : FuncData
  v_set : Value
  f_built : Addr
  d_built : FuncData
  v_built : Value
  f_kind : Addr
  d_kind : FuncData
  v_kind : Value
  f_kinds : Addr
  d_kinds : FuncData
  v_kinds : Value
  f_many : Addr
  d_many : FuncData
  v_many : Value
  f_linked : Addr
  d_linked : FuncData
  v_linked : Value
  f_ends : Addr
  d_ends : FuncData
  v_ends : Value
  f_thrown : Addr
  d_thrown : FuncData
  v_thrown : Value
  f_size : Addr
  d_size : FuncData
  v_size : Value
  f_links : Addr
  d_links : FuncData
  v_links : Value
  f_stand : Addr
  d_stand : FuncData
  v_stand : Value
  f_is : Addr
  d_is : FuncData
  v_is : Value
  f_whole : Addr
  d_whole : FuncData
  v_whole : Value
  f_check_note : Addr
  d_check_note : FuncData
  v_check_note : Value
  f_Yard_init : Addr
  d_Yard_init : FuncData
  v_Yard_init : Value
  f_Yard_make_twin : Addr
  d_Yard_make_twin : FuncData
  v_Yard_make_twin : Value
  f_Yard_engine : Addr
  d_Yard_engine : FuncData
  v_Yard_engine : Value
  f_Yard_kind : Addr
  d_Yard_kind : FuncData
  v_Yard_kind : Value
  f_Yard_check_piece : Addr
  d_Yard_check_piece : FuncData
  v_Yard_check_piece : Value
  f_Yard_mate : Addr
  d_Yard_mate : FuncData
  v_Yard_mate : Value
  f_Yard_check_there : Addr
  d_Yard_check_there : FuncData
  v_Yard_check_there : Value
  f_Yard_side : Addr
  d_Yard_side : FuncData
  v_Yard_side : Value
  f_Yard_check_rod : Addr
  d_Yard_check_rod : FuncData
  v_Yard_check_rod : Value
  f_Yard_rod : Addr
  d_Yard_rod : FuncData
  v_Yard_rod : Value
  f_Yard_carry : Addr
  d_Yard_carry : FuncData
  v_Yard_carry : Value
  f_Yard_put : Addr
  d_Yard_put : FuncData
  v_Yard_put : Value
  f_Yard_end_trail : Addr
  d_Yard_end_trail : FuncData
  v_Yard_end_trail : Value
  f_Yard_lay : Addr
  d_Yard_lay : FuncData
  v_Yard_lay : Value
  f_Yard_new_rod : Addr
  d_Yard_new_rod : FuncData
  v_Yard_new_rod : Value
  f_Yard_link : Addr
  d_Yard_link : FuncData
  v_Yard_link : Value
  f_Yard_throw : Addr
  d_Yard_throw : FuncData
  v_Yard_throw : Value
  f_Yard_rods : Addr
  d_Yard_rods : FuncData
  v_Yard_rods : Value
  c_Yard : Addr
  u_ENDS : Value
  u_LAST_NOTE : Value
  u_POINTS : Value
  u_STEM : Value
structure Txt (K : PySem.W.Frag) (mg : Str → Option Value) (t : Adr) : Prop where
  F_law : FunG K "law" "law" s_law t.v_law t.f_law t.d_law
  F_draws : FunG K "_law_draws" "_law_draws" s_draws t.v_draws t.f_draws t.d_draws
  F_fate : FunG K "fate" "fate" s_fate t.v_fate t.f_fate t.d_fate
  F_twin : FunG K "twin" "twin" s_twin t.v_twin t.f_twin t.d_twin
  F_held : FunG K "held" "held" s_held t.v_held t.f_held t.d_held
  F_next_step : FunG K "next_step" "next_step" s_next_step t.v_next_step t.f_next_step t.d_next_step
  F_passage : FunG K "passage" "passage" s_passage t.v_passage t.f_passage t.d_passage
  F_check_end : FunG K "check_end" "check_end" s_check_end t.v_check_end t.f_check_end t.d_check_end
  F_ends_of : FunG K "ends_of" "ends_of" s_ends_of t.v_ends_of t.f_ends_of t.d_ends_of
  F_is_point : FunG K "is_point" "is_point" s_is_point t.v_is_point t.f_is_point t.d_is_point
  F_check_side : FunG K "check_side" "check_side" s_check_side t.v_check_side t.f_check_side t.d_check_side
  F_point_passage : FunG K "point_passage" "point_passage" s_point_passage t.v_point_passage t.f_point_passage t.d_point_passage
  F_run : FunG K "run" "run" s_run t.v_run t.f_run t.d_run
  F_alike : FunG K "alike" "alike" s_alike t.v_alike t.f_alike t.d_alike
  F_fate_on_round : FunG K "fate_on_round" "fate_on_round" s_fate_on_round t.v_fate_on_round t.f_fate_on_round t.d_fate_on_round
  F_set : FunG K "_law_set" "_law_set" s_set t.v_set t.f_set t.d_set
  F_built : FunG K "_law_built" "_law_built" s_built t.v_built t.f_built t.d_built
  F_kind : FunG K "_law_kind" "_law_kind" s_kind t.v_kind t.f_kind t.d_kind
  F_kinds : FunG K "_law_kinds" "_law_kinds" s_kinds t.v_kinds t.f_kinds t.d_kinds
  F_many : FunG K "_law_many" "_law_many" s_many t.v_many t.f_many t.d_many
  F_linked : FunG K "_law_linked" "_law_linked" s_linked t.v_linked t.f_linked t.d_linked
  F_ends : FunG K "_law_ends" "_law_ends" s_ends t.v_ends t.f_ends t.d_ends
  F_thrown : FunG K "_law_thrown" "_law_thrown" s_thrown t.v_thrown t.f_thrown t.d_thrown
  F_size : FunG K "_law_size" "_law_size" s_size t.v_size t.f_size t.d_size
  F_links : FunG K "_law_links" "_law_links" s_links t.v_links t.f_links t.d_links
  F_stand : FunG K "_law_stand" "_law_stand" s_stand t.v_stand t.f_stand t.d_stand
  F_is : FunG K "_law_is" "_law_is" s_is t.v_is t.f_is t.d_is
  F_whole : FunG K "_law_whole" "_law_whole" s_whole t.v_whole t.f_whole t.d_whole
  F_check_note : FunG K "check_note" "check_note" s_check_note t.v_check_note t.f_check_note t.d_check_note
  F_Yard_init : FunG K "__init__" "Yard.__init__" s_Yard_init t.v_Yard_init t.f_Yard_init t.d_Yard_init
  F_Yard_make_twin : FunG K "make_twin" "Yard.make_twin" s_Yard_make_twin t.v_Yard_make_twin t.f_Yard_make_twin t.d_Yard_make_twin
  F_Yard_engine : FunG K "engine" "Yard.engine" s_Yard_engine t.v_Yard_engine t.f_Yard_engine t.d_Yard_engine
  F_Yard_kind : FunG K "kind" "Yard.kind" s_Yard_kind t.v_Yard_kind t.f_Yard_kind t.d_Yard_kind
  F_Yard_check_piece : FunG K "check_piece" "Yard.check_piece" s_Yard_check_piece t.v_Yard_check_piece t.f_Yard_check_piece t.d_Yard_check_piece
  F_Yard_mate : FunG K "mate" "Yard.mate" s_Yard_mate t.v_Yard_mate t.f_Yard_mate t.d_Yard_mate
  F_Yard_check_there : FunG K "check_there" "Yard.check_there" s_Yard_check_there t.v_Yard_check_there t.f_Yard_check_there t.d_Yard_check_there
  F_Yard_side : FunG K "side" "Yard.side" s_Yard_side t.v_Yard_side t.f_Yard_side t.d_Yard_side
  F_Yard_check_rod : FunG K "check_rod" "Yard.check_rod" s_Yard_check_rod t.v_Yard_check_rod t.f_Yard_check_rod t.d_Yard_check_rod
  F_Yard_rod : FunG K "rod" "Yard.rod" s_Yard_rod t.v_Yard_rod t.f_Yard_rod t.d_Yard_rod
  F_Yard_carry : FunG K "carry" "Yard.carry" s_Yard_carry t.v_Yard_carry t.f_Yard_carry t.d_Yard_carry
  F_Yard_put : FunG K "put" "Yard.put" s_Yard_put t.v_Yard_put t.f_Yard_put t.d_Yard_put
  F_Yard_end_trail : FunG K "end_trail" "Yard.end_trail" s_Yard_end_trail t.v_Yard_end_trail t.f_Yard_end_trail t.d_Yard_end_trail
  F_Yard_lay : FunG K "lay" "Yard.lay" s_Yard_lay t.v_Yard_lay t.f_Yard_lay t.d_Yard_lay
  F_Yard_new_rod : FunG K "new_rod" "Yard.new_rod" s_Yard_new_rod t.v_Yard_new_rod t.f_Yard_new_rod t.d_Yard_new_rod
  F_Yard_link : FunG K "link" "Yard.link" s_Yard_link t.v_Yard_link t.f_Yard_link t.d_Yard_link
  F_Yard_throw : FunG K "throw" "Yard.throw" s_Yard_throw t.v_Yard_throw t.f_Yard_throw t.d_Yard_throw
  F_Yard_rods : FunG K "rods" "Yard.rods" s_Yard_rods t.v_Yard_rods t.f_Yard_rods t.d_Yard_rods
  m_law : mg "law" = some (.ref t.f_law)
  e_law : t.v_law = .none
  m_draws : mg "_law_draws" = some (.ref t.f_draws)
  e_draws : t.v_draws = .none
  m_fate : mg "fate" = some (.ref t.f_fate)
  e_fate : t.v_fate = .none
  m_twin : mg "twin" = some (.ref t.f_twin)
  e_twin : t.v_twin = .none
  m_held : mg "held" = some (.ref t.f_held)
  e_held : t.v_held = .none
  m_next_step : mg "next_step" = some (.ref t.f_next_step)
  e_next_step : t.v_next_step = .none
  m_passage : mg "passage" = some (.ref t.f_passage)
  e_passage : t.v_passage = .none
  m_check_end : mg "check_end" = some (.ref t.f_check_end)
  e_check_end : t.v_check_end = .none
  m_ends_of : mg "ends_of" = some (.ref t.f_ends_of)
  e_ends_of : t.v_ends_of = .none
  m_is_point : mg "is_point" = some (.ref t.f_is_point)
  e_is_point : t.v_is_point = .none
  m_check_side : mg "check_side" = some (.ref t.f_check_side)
  e_check_side : t.v_check_side = .none
  m_point_passage : mg "point_passage" = some (.ref t.f_point_passage)
  e_point_passage : t.v_point_passage = .none
  m_run : mg "run" = some (.ref t.f_run)
  e_run : t.v_run = .none
  m_alike : mg "alike" = some (.ref t.f_alike)
  e_alike : t.v_alike = .none
  m_fate_on_round : mg "fate_on_round" = some (.ref t.f_fate_on_round)
  e_fate_on_round : t.v_fate_on_round = .none
  m_set : mg "_law_set" = some (.ref t.f_set)
  e_set : t.v_set = .none
  m_built : mg "_law_built" = some (.ref t.f_built)
  e_built : t.v_built = .none
  m_kind : mg "_law_kind" = some (.ref t.f_kind)
  e_kind : t.v_kind = .none
  m_kinds : mg "_law_kinds" = some (.ref t.f_kinds)
  e_kinds : t.v_kinds = .none
  m_many : mg "_law_many" = some (.ref t.f_many)
  e_many : t.v_many = .none
  m_linked : mg "_law_linked" = some (.ref t.f_linked)
  e_linked : t.v_linked = .none
  m_ends : mg "_law_ends" = some (.ref t.f_ends)
  e_ends : t.v_ends = .none
  m_thrown : mg "_law_thrown" = some (.ref t.f_thrown)
  e_thrown : t.v_thrown = .none
  m_size : mg "_law_size" = some (.ref t.f_size)
  e_size : t.v_size = .none
  m_links : mg "_law_links" = some (.ref t.f_links)
  e_links : t.v_links = .none
  m_stand : mg "_law_stand" = some (.ref t.f_stand)
  e_stand : t.v_stand = .none
  m_is : mg "_law_is" = some (.ref t.f_is)
  e_is : t.v_is = .none
  m_whole : mg "_law_whole" = some (.ref t.f_whole)
  e_whole : t.v_whole = .none
  m_check_note : mg "check_note" = some (.ref t.f_check_note)
  e_check_note : t.v_check_note = .none
  e_Yard_init : t.v_Yard_init = .none
  M_Yard_make_twin : Meth K t.c_Yard "make_twin" t.f_Yard_make_twin
  e_Yard_make_twin : t.v_Yard_make_twin = .none
  M_Yard_engine : Meth K t.c_Yard "engine" t.f_Yard_engine
  e_Yard_engine : t.v_Yard_engine = .none
  M_Yard_kind : Meth K t.c_Yard "kind" t.f_Yard_kind
  e_Yard_kind : t.v_Yard_kind = .none
  M_Yard_check_piece : Meth K t.c_Yard "check_piece" t.f_Yard_check_piece
  e_Yard_check_piece : t.v_Yard_check_piece = .none
  M_Yard_mate : Meth K t.c_Yard "mate" t.f_Yard_mate
  e_Yard_mate : t.v_Yard_mate = .none
  M_Yard_check_there : Meth K t.c_Yard "check_there" t.f_Yard_check_there
  e_Yard_check_there : t.v_Yard_check_there = .none
  M_Yard_side : Meth K t.c_Yard "side" t.f_Yard_side
  e_Yard_side : t.v_Yard_side = .none
  M_Yard_check_rod : Meth K t.c_Yard "check_rod" t.f_Yard_check_rod
  e_Yard_check_rod : t.v_Yard_check_rod = .none
  M_Yard_rod : Meth K t.c_Yard "rod" t.f_Yard_rod
  e_Yard_rod : t.v_Yard_rod = .none
  M_Yard_carry : Meth K t.c_Yard "carry" t.f_Yard_carry
  e_Yard_carry : t.v_Yard_carry = .none
  M_Yard_put : Meth K t.c_Yard "put" t.f_Yard_put
  e_Yard_put : t.v_Yard_put = .none
  M_Yard_end_trail : Meth K t.c_Yard "end_trail" t.f_Yard_end_trail
  e_Yard_end_trail : t.v_Yard_end_trail = .none
  M_Yard_lay : Meth K t.c_Yard "lay" t.f_Yard_lay
  D_Yard_lay : ∃ (T : Addr) (od : Option Addr) (n : Nat) (sl : Array (Option Value)) (tk0 : Tok), t.v_Yard_lay = .ref T ∧ K.lookup T = some ⟨.type "tuple", od, .seq #[.int 0 tk0, .none] n, sl⟩
  M_Yard_new_rod : Meth K t.c_Yard "new_rod" t.f_Yard_new_rod
  D_Yard_new_rod : ∃ (T : Addr) (od : Option Addr) (n : Nat) (sl : Array (Option Value)) (tk0 : Tok), t.v_Yard_new_rod = .ref T ∧ K.lookup T = some ⟨.type "tuple", od, .seq #[.int 1 tk0] n, sl⟩
  M_Yard_link : Meth K t.c_Yard "link" t.f_Yard_link
  e_Yard_link : t.v_Yard_link = .none
  M_Yard_throw : Meth K t.c_Yard "throw" t.f_Yard_throw
  e_Yard_throw : t.v_Yard_throw = .none
  M_Yard_rods : Meth K t.c_Yard "rods" t.f_Yard_rods
  e_Yard_rods : t.v_Yard_rods = .none
  cl_Yard : Cls K t.c_Yard
  m_Yard : mg "Yard" = some (.ref t.c_Yard)
  mk_Yard : Mk K t.c_Yard t.f_Yard_init
  n_Yard_next_piece : NoAttr K t.c_Yard "next_piece"
  n_Yard_kinds : NoAttr K t.c_Yard "kinds"
  n_Yard_notes : NoAttr K t.c_Yard "notes"
  n_Yard_rods_under : NoAttr K t.c_Yard "rods_under"
  n_Yard_sides : NoAttr K t.c_Yard "sides"
  n_Yard_mates : NoAttr K t.c_Yard "mates"
  n_Yard_engine_end : NoAttr K t.c_Yard "engine_end"
  n_Yard_rung : NoAttr K t.c_Yard "rung"
  n_Yard_trail : NoAttr K t.c_Yard "trail"
  z_abs : mg "abs" = none
  z_bool : mg "bool" = none
  z_dict : mg "dict" = none
  z_enumerate : mg "enumerate" = none
  z_int : mg "int" = none
  z_isinstance : mg "isinstance" = none
  z_len : mg "len" = none
  z_list : mg "list" = none
  z_max : mg "max" = none
  z_range : mg "range" = none
  g_ENDS : mg "ENDS" = some t.u_ENDS
  x_ENDS : ∃ a, t.u_ENDS = .ref a ∧ TabK K a [("line", .int 2), ("bell", .int 2), ("stop", .int 1), ("still", .int 3), ("lazy", .int 3), ("turning", .int 3)]
  g_LAST_NOTE : mg "LAST_NOTE" = some t.u_LAST_NOTE
  r_LAST_NOTE : RelV (.int 9999) t.u_LAST_NOTE
  g_POINTS : mg "POINTS" = some t.u_POINTS
  x_POINTS : ∃ (a : Addr) (o : Obj) (its : Array Value) (n : Nat), t.u_POINTS = .ref a ∧ K.lookup a = some o ∧ o.cls = .type "tuple" ∧ o.data = .seq its n ∧ its.size ≤ sizeLine ∧ Vals [.str "still", .str "lazy", .str "turning"] its.toList
  g_STEM : mg "STEM" = some t.u_STEM
  r_STEM : RelV (.int 0) t.u_STEM
section
variable {K : PySem.W.Frag} {mg : Str → Option Value} {t : Adr}
theorem b_draws (T : Txt K mg t) : Binds K t.d_draws ["_law_script", "_law_many_here"] [] := (T.e_draws ▸ T.F_draws).binds fun _ _ _ _ _ _ us hl => match us, hl with | [_, _], _ => rfl
theorem b_fate (T : Txt K mg t) : Binds K t.d_fate ["yard", "most"] [] := (T.e_fate ▸ T.F_fate).binds fun _ _ _ _ _ _ us hl => match us, hl with | [_, _], _ => rfl
theorem b_twin (T : Txt K mg t) : Binds K t.d_twin ["yard"] [] := (T.e_twin ▸ T.F_twin).binds fun _ _ _ _ _ _ us hl => match us, hl with | [_], _ => rfl
theorem b_held (T : Txt K mg t) : Binds K t.d_held ["yard"] [] := (T.e_held ▸ T.F_held).binds fun _ _ _ _ _ _ us hl => match us, hl with | [_], _ => rfl
theorem b_next_step (T : Txt K mg t) : Binds K t.d_next_step ["yard"] [] := (T.e_next_step ▸ T.F_next_step).binds fun _ _ _ _ _ _ us hl => match us, hl with | [_], _ => rfl
theorem b_passage (T : Txt K mg t) : Binds K t.d_passage ["kind", "end", "side"] [] := (T.e_passage ▸ T.F_passage).binds fun _ _ _ _ _ _ us hl => match us, hl with | [_, _, _], _ => rfl
theorem b_check_end (T : Txt K mg t) : Binds K t.d_check_end ["kind", "end"] [] := (T.e_check_end ▸ T.F_check_end).binds fun _ _ _ _ _ _ us hl => match us, hl with | [_, _], _ => rfl
theorem b_ends_of (T : Txt K mg t) : Binds K t.d_ends_of ["kind"] [] := (T.e_ends_of ▸ T.F_ends_of).binds fun _ _ _ _ _ _ us hl => match us, hl with | [_], _ => rfl
theorem b_is_point (T : Txt K mg t) : Binds K t.d_is_point ["kind"] [] := (T.e_is_point ▸ T.F_is_point).binds fun _ _ _ _ _ _ us hl => match us, hl with | [_], _ => rfl
theorem b_check_side (T : Txt K mg t) : Binds K t.d_check_side ["side"] [] := (T.e_check_side ▸ T.F_check_side).binds fun _ _ _ _ _ _ us hl => match us, hl with | [_], _ => rfl
theorem b_point_passage (T : Txt K mg t) : Binds K t.d_point_passage ["kind", "end", "side"] [] := (T.e_point_passage ▸ T.F_point_passage).binds fun _ _ _ _ _ _ us hl => match us, hl with | [_, _, _], _ => rfl
theorem b_run (T : Txt K mg t) : Binds K t.d_run ["yard", "most"] [] := (T.e_run ▸ T.F_run).binds fun _ _ _ _ _ _ us hl => match us, hl with | [_, _], _ => rfl
theorem b_alike (T : Txt K mg t) : Binds K t.d_alike ["one", "other"] [] := (T.e_alike ▸ T.F_alike).binds fun _ _ _ _ _ _ us hl => match us, hl with | [_, _], _ => rfl
theorem b_fate_on_round (T : Txt K mg t) : Binds K t.d_fate_on_round ["yard", "ahead", "limit"] [] := (T.e_fate_on_round ▸ T.F_fate_on_round).binds fun _ _ _ _ _ _ us hl => match us, hl with | [_, _, _], _ => rfl
theorem b_set (T : Txt K mg t) : Binds K t.d_set ["_law_d", "_law_at"] [] := (T.e_set ▸ T.F_set).binds fun _ _ _ _ _ _ us hl => match us, hl with | [_, _], _ => rfl
theorem b_built (T : Txt K mg t) : Binds K t.d_built ["_law_d", "_law_at", "_law_many_here"] [] := (T.e_built ▸ T.F_built).binds fun _ _ _ _ _ _ us hl => match us, hl with | [_, _, _], _ => rfl
theorem b_kind (T : Txt K mg t) : Binds K t.d_kind ["_law_draw"] [] := (T.e_kind ▸ T.F_kind).binds fun _ _ _ _ _ _ us hl => match us, hl with | [_], _ => rfl
theorem b_kinds (T : Txt K mg t) : Binds K t.d_kinds [] [] := (T.e_kinds ▸ T.F_kinds).binds fun _ _ _ _ _ _ us hl => match us, hl with | [], _ => rfl
theorem b_many (T : Txt K mg t) : Binds K t.d_many ["_law_kind_here"] [] := (T.e_many ▸ T.F_many).binds fun _ _ _ _ _ _ us hl => match us, hl with | [_], _ => rfl
theorem b_linked (T : Txt K mg t) : Binds K t.d_linked ["_law_yard", "_law_kinds_here", "_law_d", "_law_at", "_law_many_here"] [] := (T.e_linked ▸ T.F_linked).binds fun _ _ _ _ _ _ us hl => match us, hl with | [_, _, _, _, _], _ => rfl
theorem b_ends (T : Txt K mg t) : Binds K t.d_ends ["_law_kinds_here"] [] := (T.e_ends ▸ T.F_ends).binds fun _ _ _ _ _ _ us hl => match us, hl with | [_], _ => rfl
theorem b_thrown (T : Txt K mg t) : Binds K t.d_thrown ["_law_yard", "_law_sides", "_law_d", "_law_at"] [] := (T.e_thrown ▸ T.F_thrown).binds fun _ _ _ _ _ _ us hl => match us, hl with | [_, _, _, _], _ => rfl
theorem b_size (T : Txt K mg t) : Binds K t.d_size ["_law_draw"] [] := (T.e_size ▸ T.F_size).binds fun _ _ _ _ _ _ us hl => match us, hl with | [_], _ => rfl
theorem b_links (T : Txt K mg t) : Binds K t.d_links ["_law_draw"] [] := (T.e_links ▸ T.F_links).binds fun _ _ _ _ _ _ us hl => match us, hl with | [_], _ => rfl
theorem b_stand (T : Txt K mg t) : Binds K t.d_stand ["_law_yard"] [] := (T.e_stand ▸ T.F_stand).binds fun _ _ _ _ _ _ us hl => match us, hl with | [_], _ => rfl
theorem b_is (T : Txt K mg t) : Binds K t.d_is ["_law_found", "_law_due"] [] := (T.e_is ▸ T.F_is).binds fun _ _ _ _ _ _ us hl => match us, hl with | [_, _], _ => rfl
theorem b_whole (T : Txt K mg t) : Binds K t.d_whole ["_law_found"] [] := (T.e_whole ▸ T.F_whole).binds fun _ _ _ _ _ _ us hl => match us, hl with | [_], _ => rfl
theorem b_check_note (T : Txt K mg t) : Binds K t.d_check_note ["note"] [] := (T.e_check_note ▸ T.F_check_note).binds fun _ _ _ _ _ _ us hl => match us, hl with | [_], _ => rfl
theorem b_Yard_init (T : Txt K mg t) : Binds K t.d_Yard_init ["self"] [] := (T.e_Yard_init ▸ T.F_Yard_init).binds fun _ _ _ _ _ _ us hl => match us, hl with | [_], _ => rfl
theorem b_Yard_make_twin (T : Txt K mg t) : Binds K t.d_Yard_make_twin ["self"] [] := (T.e_Yard_make_twin ▸ T.F_Yard_make_twin).binds fun _ _ _ _ _ _ us hl => match us, hl with | [_], _ => rfl
theorem b_Yard_engine (T : Txt K mg t) : Binds K t.d_Yard_engine ["self"] [] := (T.e_Yard_engine ▸ T.F_Yard_engine).binds fun _ _ _ _ _ _ us hl => match us, hl with | [_], _ => rfl
theorem b_Yard_kind (T : Txt K mg t) : Binds K t.d_Yard_kind ["self", "piece"] [] := (T.e_Yard_kind ▸ T.F_Yard_kind).binds fun _ _ _ _ _ _ us hl => match us, hl with | [_, _], _ => rfl
theorem b_Yard_check_piece (T : Txt K mg t) : Binds K t.d_Yard_check_piece ["self", "piece"] [] := (T.e_Yard_check_piece ▸ T.F_Yard_check_piece).binds fun _ _ _ _ _ _ us hl => match us, hl with | [_, _], _ => rfl
theorem b_Yard_mate (T : Txt K mg t) : Binds K t.d_Yard_mate ["self", "end"] [] := (T.e_Yard_mate ▸ T.F_Yard_mate).binds fun _ _ _ _ _ _ us hl => match us, hl with | [_, _], _ => rfl
theorem b_Yard_check_there (T : Txt K mg t) : Binds K t.d_Yard_check_there ["self", "end"] [] := (T.e_Yard_check_there ▸ T.F_Yard_check_there).binds fun _ _ _ _ _ _ us hl => match us, hl with | [_, _], _ => rfl
theorem b_Yard_side (T : Txt K mg t) : Binds K t.d_Yard_side ["self", "rod"] [] := (T.e_Yard_side ▸ T.F_Yard_side).binds fun _ _ _ _ _ _ us hl => match us, hl with | [_, _], _ => rfl
theorem b_Yard_check_rod (T : Txt K mg t) : Binds K t.d_Yard_check_rod ["self", "rod"] [] := (T.e_Yard_check_rod ▸ T.F_Yard_check_rod).binds fun _ _ _ _ _ _ us hl => match us, hl with | [_, _], _ => rfl
theorem b_Yard_rod (T : Txt K mg t) : Binds K t.d_Yard_rod ["self", "piece"] [] := (T.e_Yard_rod ▸ T.F_Yard_rod).binds fun _ _ _ _ _ _ us hl => match us, hl with | [_, _], _ => rfl
theorem b_Yard_carry (T : Txt K mg t) : Binds K t.d_Yard_carry ["self", "end", "side"] [] := (T.e_Yard_carry ▸ T.F_Yard_carry).binds fun _ _ _ _ _ _ us hl => match us, hl with | [_, _, _], _ => rfl
theorem b_Yard_put (T : Txt K mg t) : Binds K t.d_Yard_put ["self", "end"] [] := (T.e_Yard_put ▸ T.F_Yard_put).binds fun _ _ _ _ _ _ us hl => match us, hl with | [_, _], _ => rfl
theorem b_Yard_end_trail (T : Txt K mg t) : Binds K t.d_Yard_end_trail ["self"] [] := (T.e_Yard_end_trail ▸ T.F_Yard_end_trail).binds fun _ _ _ _ _ _ us hl => match us, hl with | [_], _ => rfl
theorem b_Yard_link (T : Txt K mg t) : Binds K t.d_Yard_link ["self", "one", "other"] [] := (T.e_Yard_link ▸ T.F_Yard_link).binds fun _ _ _ _ _ _ us hl => match us, hl with | [_, _, _], _ => rfl
theorem b_Yard_throw (T : Txt K mg t) : Binds K t.d_Yard_throw ["self", "rod", "side"] [] := (T.e_Yard_throw ▸ T.F_Yard_throw).binds fun _ _ _ _ _ _ us hl => match us, hl with | [_, _, _], _ => rfl
theorem b_Yard_rods (T : Txt K mg t) : Binds K t.d_Yard_rods ["self"] [] := (T.e_Yard_rods ▸ T.F_Yard_rods).binds fun _ _ _ _ _ _ us hl => match us, hl with | [_], _ => rfl
theorem bD_Yard_lay_4 (T : Txt K mg t) : ∃ ds : List Value, Vals [] ds ∧ Binds K t.d_Yard_lay ["self", "kind", "note", "rod"] ds := by
  obtain ⟨Td, od, n, sl, tk0, e1, e2⟩ := T.D_Yard_lay
  obtain ⟨oc, od2, kV, doc, pm, an, cdv, ct, osl, e3, lk, hcd⟩ := T.F_Yard_lay.ex
  refine ⟨[], .nil, fun s us X hl => ?_⟩
  have hl2 : us.length = 4 := by simpa using hl
  rw [e3, e1]
  match us, hl2 with
  | [_, _, _, _], _ => exact PySem.W.binds_K X rfl e2 rfl rfl rfl
theorem bD_Yard_lay_3 (T : Txt K mg t) : ∃ ds : List Value, Vals [.non] ds ∧ Binds K t.d_Yard_lay ["self", "kind", "note", "rod"] ds := by
  obtain ⟨Td, od, n, sl, tk0, e1, e2⟩ := T.D_Yard_lay
  obtain ⟨oc, od2, kV, doc, pm, an, cdv, ct, osl, e3, lk, hcd⟩ := T.F_Yard_lay.ex
  refine ⟨[.none], .cons rfl (.nil), fun s us X hl => ?_⟩
  have hl2 : us.length = 3 := by simpa using hl
  rw [e3, e1]
  match us, hl2 with
  | [_, _, _], _ => exact PySem.W.binds_K X rfl e2 rfl rfl rfl
theorem bD_Yard_lay_2 (T : Txt K mg t) : ∃ ds : List Value, Vals [.int 0, .non] ds ∧ Binds K t.d_Yard_lay ["self", "kind", "note", "rod"] ds := by
  obtain ⟨Td, od, n, sl, tk0, e1, e2⟩ := T.D_Yard_lay
  obtain ⟨oc, od2, kV, doc, pm, an, cdv, ct, osl, e3, lk, hcd⟩ := T.F_Yard_lay.ex
  refine ⟨[.int 0 tk0, .none], .cons ⟨_, rfl⟩ (.cons rfl (.nil)), fun s us X hl => ?_⟩
  have hl2 : us.length = 2 := by simpa using hl
  rw [e3, e1]
  match us, hl2 with
  | [_, _], _ => exact PySem.W.binds_K X rfl e2 rfl rfl rfl
theorem bD_Yard_new_rod_1 (T : Txt K mg t) : ∃ ds : List Value, Vals [.int 1] ds ∧ Binds K t.d_Yard_new_rod ["self", "side"] ds := by
  obtain ⟨Td, od, n, sl, tk0, e1, e2⟩ := T.D_Yard_new_rod
  obtain ⟨oc, od2, kV, doc, pm, an, cdv, ct, osl, e3, lk, hcd⟩ := T.F_Yard_new_rod.ex
  refine ⟨[.int 1 tk0], .cons ⟨_, rfl⟩ (.nil), fun s us X hl => ?_⟩
  have hl2 : us.length = 1 := by simpa using hl
  rw [e3, e1]
  match us, hl2 with
  | [_], _ => exact PySem.W.binds_K X rfl e2 rfl rfl rfl
end
def Dr (ds : List Int) : Prop := ∀ d ∈ ds, 0 ≤ d ∧ d < 10 ^ 18
def sp_draws (K : PySem.W.Frag) : Sp := fun vs H Q _ => ∃ (a : Addr) (ns : List Int) (n : Int) (L : Kn), vs = [.ref a, .int n] ∧ SqL K H a (ns.map V.int) ∧ ns.length ≤ 63 ∧ 0 ≤ n ∧ n ≤ 1000 ∧ Has H L ∧
  ∀ H' p ds, Has H' ((p, .lst (ds.map V.int)) :: L) → ds.length = n.toNat → Dr ds → Q (.ref p) H'
section
variable {P : Program} {w : World} {K : PySem.W.Frag} {mg : Str → Option Value} {base : Heap} {t : Adr}
theorem scD : FnScope ["_law_script", "_law_many_here", "_law_row", "_law_base", "_law_cell", "_law_left", "_law_turn"] ["_law_script", "_law_many_here"] (defScope s_draws) := ⟨rfl, rfl, rfl, by decide +kernel, rfl, by decide +kernel, by decide +kernel⟩
theorem Dr.snoc {ds : List Int} {d : Int} (h : Dr ds) (h0 : 0 ≤ d) (h1 : d < 10 ^ 18) : Dr (ds ++ [d]) := fun x hx => by
  rcases List.mem_append.mp hx with hx | hx
  · exact h x hx
  · have : x = d := by simpa using hx
    subst this; exact ⟨h0, h1⟩
theorem map_snoc (ds : List Int) (d : Int) : ds.map V.int ++ [V.int d] = (ds ++ [d]).map V.int := by simp
theorem ok_draws (T : Txt K mg t) : FnOk P w K mg base CX0 1 t.f_draws t.d_draws ["_law_script", "_law_many_here"] (sp_draws K) := by
  refine T.F_draws.ok scD (fun vs H Q E h => ?_) (fun cdv A outer s H vs Q E hr h => ?_)
  · obtain ⟨_, _, _, _, rfl, _⟩ := h
    rfl
  · obtain ⟨a, ns, n, L, rfl, hS, hns, hn0, hn1, hL, k⟩ := h
    refine ⟨_, (pss_cons (ps_set (i := 2) scD.nd rfl (Or.inl rfl) (pe_lst pa_nil))
      (pss_cons (ps_set (i := 3) scD.nd rfl (Or.inl rfl) pe_int)
      (pss_cons (ps_for PassesOwn.never rfl (pi_list (pe_slice sl_list (pv 0) po_none (po_some pe_int))) (pg_name (i := 4) scD.nd rfl (Or.inl rfl))
        (pss_cons (ps_set (i := 5) scD.nd rfl (Or.inl rfl) (pe_callB call_abs (by rfl) T.z_abs (by rfl) (pa_cons (pv 4) pa_nil)))
          (pss_cons (ps_set (i := 3) scD.nd rfl (Or.inl rfl) (pe_op op_mod (pe_op op_add (pe_op op_add (pe_op op_mul (pv 3) pe_int) (pv 5)) (pe_op op_mul pe_int (pe_callTy call_int1 (by rfl) T.z_int (by rfl) (pa_cons (pe_cmpR op_lt (pv 4) pe_int (nomark _)) pa_nil)))) pe_int))
          (pss_one (ps_if (pt_cmpR op_lt (pv 5) (pe_op op_pow pe_int pe_int) (nomark _))
            (pss_one (ps_expr (pe_bm PySem.F.plainAttrs_list PySem.F.slot_list_append PySem.F.type_list_append mt_append (pv 2) (pa_cons (pv 5) pa_nil))))
            (pss_one (ps_for PassesOwn.never rfl (pi_range1 (by rfl) T.z_range (pa_cons pe_int pa_nil)) (pg_name (i := 6) scD.nd rfl (Or.inl rfl))
                (pss_one (ps_if (pt_cmpR op_gt (pv 5) pe_int (nomark _))
                    (pss_cons (ps_expr (pe_bm PySem.F.plainAttrs_list PySem.F.slot_list_append PySem.F.type_list_append mt_append (pv 2) (pa_cons (pe_op op_mod (pv 5) pe_int) pa_nil)))
                      (pss_one (ps_set (i := 5) scD.nd rfl (Or.inl rfl) (pe_op op_fdiv (pv 5) pe_int))))
                    pss_nil)))))))))
      (pss_cons (ps_while PassesOwn.never (pt_cmpR op_lt (pe_callB call_len_seq (by rfl) T.z_len (by rfl) (pa_cons (pv 2) pa_nil)) (pv 1) (nomark _))
        (pss_cons (ps_set (i := 3) scD.nd rfl (Or.inl rfl) (pe_op op_mod (pe_op op_add (pe_op op_mul (pv 3) pe_int) pe_int) pe_int))
          (pss_one (ps_expr (pe_bm PySem.F.plainAttrs_list PySem.F.slot_list_append PySem.F.type_list_append mt_append (pv 2) (pa_cons (pe_op op_mod (pe_op op_fdiv (pe_op op_mul (pv 3) (pv 3)) pe_int) pe_int) pa_nil))))))
      (pss_one (ps_ret (pe_slice sl_list (pv 2) po_none (po_some (pv 1))))))))), ?_⟩
    refine ⟨by decide, fun r hr0 => ?_⟩
    have h1 := hL.alloc hr0 (.lst [])
    have hS1 : SqL K (upd H r (.lst [])) a (ns.map V.int) := hS.alloc hr0
    generalize upd H r (.lst []) = H1 at *
    refine ⟨_, rfl, _, rfl, a, _, rfl, hS1, fun sl hsl => ?_⟩
    have h2 := h1.alloc hsl (.lst (cutV (ns.map V.int) none (some 63)))
    generalize upd H1 sl (.lst (cutV (ns.map V.int) none (some 63))) = H2 at *
    refine ⟨sl, rfl, ⟨_, SqL.of (h2.get 0 rfl)⟩, ?_⟩
    refine for_list (K := K) (a := sl) (xs := cutV (ns.map V.int) none (some 63)) (fun i σ H' => ∃ (row : List Int) (b : Int) (c l t : Option V), σ = [some (.ref a), some (.int n), some (.ref r), some (.int b), c, l, t] ∧
      Has H' ((r, .lst (row.map V.int)) :: (sl, .lst (cutV (ns.map V.int) none (some 63))) :: L) ∧ row.length ≤ 60 * i ∧ Dr row ∧ 0 ≤ b ∧ b < 2147483647)
      ⟨[], 7, none, none, none, rfl, h2.swap2, Nat.zero_le _, (fun _ h => nomatch h), by decide, by decide⟩ (fun i σ H' _ ⟨row, b, c, l, t, _, h, _⟩ => SqL.of (h.get 1 rfl)) ?_ ?_
    · rintro i y σ H' hi ⟨row, b, c, l, t, rfl, h3, hlen, hd, b0, b1⟩
      have hi63 : i < 63 := by
        have h5 := (List.getElem?_eq_some_iff.mp hi).1
        rw [cut_take _ _ (by decide), List.length_take, List.length_map] at h5
        omega
      obtain ⟨z, rfl⟩ : ∃ z, y = V.int z := by
        rw [cut_take _ _ (by decide), List.getElem?_take_of_lt (by omega), List.getElem?_map] at hi
        cases e : ns[i]? with
        | none => rw [e] at hi; cases hi
        | some z => rw [e] at hi; exact ⟨z, (Option.some.inj hi).symm⟩
      refine ⟨_, rfl, _, rfl, ?_⟩
      have hab : 0 ≤ (if z < 0 then -z else z) := by split <;> omega
      generalize (if z < 0 then -z else z) = left at *
      refine ⟨_, rfl, _, _, rfl, rfl, .inl ⟨by omega, by omega⟩, _, rfl, _, _, rfl, rfl, _, rfl, _, _, rfl, rfl, .inr ⟨_, rfl, _, _, rfl, rfl, .inl ⟨by decide, by decide⟩, _, _, rfl, rfl, _, _, rfl, rfl, (show (0 : Int) < 2147483647 by decide), ?_⟩⟩
      have hb0 := Int.emod_nonneg (b * 48271 + left + 2 * (if decide (z < 0) = true then 1 else 0)) (show (2147483647 : Int) ≠ 0 by decide)
      have hb1 := Int.emod_lt_of_pos (b * 48271 + left + 2 * (if decide (z < 0) = true then 1 else 0)) (show (0 : Int) < 2147483647 by decide)
      refine ⟨_, rfl, _, _, rfl, rfl, ⟨by decide, by decide, by decide⟩, _, _, rfl, rfl, _, rfl, ?_⟩
      refine ite2 (fun hc => ?_) (fun hc => ?_)
      · have hc' : left < 10 ^ 18 := of_decide_eq_true hc
        refine ⟨_, rfl, .inl ⟨rfl, _, SqL.of (h3.get 0 rfl)⟩, _, rfl, r, _, _, rfl, rfl, h3.get 0 rfl, ?_, ?_⟩
        · rw [List.length_map]
          exact sizeOk (by omega)
        · refine ⟨row ++ [left], _, _, _, _, rfl, ?_, ?_, hd.snoc hab hc', hb0, hb1⟩
          · rw [← map_snoc]
            exact h3.puti 0 rfl _
          · rw [List.length_append, List.length_singleton]; omega
      · -- for turn in range(60)
        refine ⟨_, rfl, by decide, by decide, for_range (n := 60) (fun j σ H2 => ∃ (row2 : List Int) (l2 : Int) (t2 : Option V) (b2 : Int), 0 ≤ b2 ∧ b2 < 2147483647 ∧ σ = [some (.ref a), some (.int n), some (.ref r), some (.int b2), some (.int z), some (.int l2), t2] ∧
          Has H2 ((r, .lst (row2.map V.int)) :: (sl, .lst (cutV (ns.map V.int) none (some 63))) :: L) ∧ row2.length ≤ row.length + j ∧ Dr row2 ∧ 0 ≤ l2) ⟨row, _, _, _, hb0, hb1, rfl, h3, Nat.le_add_right _ _, hd, hab⟩ ?_ ?_⟩
        · rintro j σ H2 hj ⟨row2, l2, t2, b2, hb20, hb21, rfl, h4, hlen2, hd2, hl2⟩
          refine ⟨_, rfl, _, _, rfl, rfl, _, rfl, ?_⟩
          refine ite2 (fun hc2 => ?_) (fun hc2 => ?_)
          · refine ⟨_, rfl, .inl ⟨rfl, _, SqL.of (h4.get 0 rfl)⟩, _, rfl, _, _, rfl, rfl, (show (0 : Int) < 10007 by decide), r, _, _, rfl, rfl, h4.get 0 rfl, ?_, ?_⟩
            · rw [List.length_map]
              exact sizeOk (by omega)
            · refine ⟨_, rfl, _, _, rfl, rfl, ⟨by decide, by decide⟩, ?_⟩
              refine ⟨row2 ++ [l2 % 10007], _, _, _, hb20, hb21, rfl, ?_, ?_, hd2.snoc (Int.emod_nonneg _ (by decide)) (Int.lt_trans (Int.emod_lt_of_pos _ (by decide)) (by decide)), Int.ediv_nonneg hl2 (by decide)⟩
              · rw [← map_snoc]
                exact h4.puti 0 rfl _
              · rw [List.length_append, List.length_singleton]; omega
          · exact ⟨row2, l2, _, b2, hb20, hb21, rfl, h4, by omega, hd2, hl2⟩
        · rintro σ H2 ⟨row2, l2, t2, b2, hb20, hb21, rfl, h4, hlen2, hd2, hl2⟩
          exact ⟨row2, b2, _, _, _, rfl, h4, by omega, hd2, hb20, hb21⟩
    · rintro σ H' ⟨row, b, c, l, t, rfl, h3, hlen, hd, b0, b1⟩
      have hlx : (cutV (ns.map V.int) none (some 63)).length ≤ 63 := by
        rw [cut_take _ _ (by decide), List.length_take]; omega
      refine while_by (fun σ H' => ∃ (row : List Int) (b : Int) (c l t : Option V), σ = [some (.ref a), some (.int n), some (.ref r), some (.int b), c, l, t] ∧ Has H' ((r, .lst (row.map V.int)) :: L) ∧ row.length ≤ 4000 ∧ Dr row ∧ 0 ≤ b ∧ b < 2147483647)
        (fun σ H' => match H' r with | some (.lst xs) => n.toNat - xs.length | _ => 0) ⟨row, b, c, l, t, rfl, h3.swap2.tail, by omega, hd, b0, b1⟩ ?_ ?_
      · rintro σ H' ⟨row, b, c, l, t, rfl, h4, hlen, hd, b0, b1⟩
        refine ⟨_, rfl, r, _, rfl, .inl (SqL.of (h4.get 0 rfl)), _, rfl, _, _, rfl, rfl, _, rfl, ?_⟩
        rw [List.length_map]
        refine ite2 (fun hc => ?_) (fun hc => ?_)
        · have hc' : (row.length : Int) < n := of_decide_eq_true hc
          refine ⟨_, rfl, _, _, rfl, rfl, .inl ⟨by omega, by omega⟩, _, _, rfl, rfl, _, _, rfl, rfl, (show (0 : Int) < 2147483647 by decide), ?_⟩
          have hb0 := Int.emod_nonneg (b * 69621 + 12289) (show (2147483647 : Int) ≠ 0 by decide)
          have hb1 := Int.emod_lt_of_pos (b * 69621 + 12289) (show (0 : Int) < 2147483647 by decide)
          refine ⟨_, rfl, .inl ⟨rfl, _, SqL.of (h4.get 0 rfl)⟩, _, rfl, _, rfl, _, _, rfl, rfl, .inl ⟨?_, ?_⟩, _, _, rfl, rfl, ⟨by decide, by decide⟩, _, _, rfl, rfl, (show (0 : Int) < 10007 by decide), r, _, _, rfl, rfl, h4.get 0 rfl, ?_, ?_⟩
          · show -(2 ^ 64) < (b * 69621 + 12289) % 2147483647
            omega
          · show (b * 69621 + 12289) % 2147483647 < 2 ^ 64
            omega
          · rw [List.length_map]
            exact sizeOk (by omega)
          · have hq0 := Int.emod_nonneg ((b * 69621 + 12289) % 2147483647 * ((b * 69621 + 12289) % 2147483647) / 4099) (show (10007 : Int) ≠ 0 by decide)
            have hq1 := Int.emod_lt_of_pos ((b * 69621 + 12289) % 2147483647 * ((b * 69621 + 12289) % 2147483647) / 4099) (show (0 : Int) < 10007 by decide)
            refine ⟨⟨row ++ [(b * 69621 + 12289) % 2147483647 * ((b * 69621 + 12289) % 2147483647) / 4099 % 10007], _, _, _, _, rfl, ?_, ?_, hd.snoc hq0 (Int.lt_trans hq1 (by decide)), hb0, hb1⟩, ?_⟩
            · rw [← map_snoc]
              exact h4.puti 0 rfl _
            · rw [List.length_append, List.length_singleton]; omega
            · have e1 : H' r = some (.lst (row.map V.int)) := h4.get 0 rfl
              simp only [e1, upd_same, List.length_append, List.length_map, List.length_singleton]
              omega
        · have hc' : ¬ (row.length : Int) < n := fun z => hc (decide_eq_true z)
          refine ⟨_, rfl, _, rfl, _, rfl, r, _, rfl, SqL.of (h4.get 0 rfl), fun p hp => ?_⟩
          refine k _ p (row.take n.toNat) ?_ (by rw [List.length_take]; omega) (fun d hd' => hd d (List.mem_of_mem_take hd'))
          have h5 := (h4.tail).alloc hp (.lst (cutV (row.map V.int) none (some n)))
          rw [cut_take _ _ hn0, ← List.map_take] at h5 ⊢
          exact h5
      · rintro σ H' Q1 Q2 hQ ⟨v, e, p, ys, e2, h, w', e3, i, j, e4, e5, c, e6, q⟩
        exact ⟨v, e, p, ys, e2, h, w', e3, i, j, e4, e5, c, e6, hQ _ _ q⟩
end

def sp_whole : Sp := fun vs H Q _ => ∃ i : Int, vs = [.int i] ∧ Q (.bl true) H
def sp_is : Sp := fun vs H Q _ => ∃ i j : Int, vs = [.int i, .int j] ∧ Q (.bl (decide (i = j))) H
theorem kit_ii (K : PySem.W.Frag) : PySem.W.kitOne K (.type "int") (.type "int") = some true := by kernel_rfl
theorem kit_ib (K : PySem.W.Frag) : PySem.W.kitOne K (.type "int") (.type "bool") = some false := by kernel_rfl
section
variable {P : Program} {w : World} {K : PySem.W.Frag} {mg : Str → Option Value} {base : Heap} {t : Adr}
theorem scWh : FnScope ["_law_found"] ["_law_found"] (defScope s_whole) := ⟨rfl, rfl, rfl, by decide +kernel, rfl, by decide +kernel, by decide +kernel⟩
theorem ok_whole (T : Txt K mg t) : FnOk P w K mg base CX0 1 t.f_whole t.d_whole ["_law_found"] sp_whole := by
  refine T.F_whole.ok scWh (fun vs H Q E h => ?_) (fun cdv A outer s H vs Q E hr h => ?_)
  · obtain ⟨_, rfl, _⟩ := h
    rfl
  · obtain ⟨i, rfl, k⟩ := h
    refine ⟨_, (pss_one (ps_ret (pe_and (pe_callB call_isi (by rfl) T.z_isinstance (by rfl) (pa_cons (pv 0) (pa_cons (pe_bltn (v := .ty "int") (by rfl) T.z_int (by rfl) rfl) pa_nil))) (pe_one (pe_not (pe_callB call_isi (by rfl) T.z_isinstance (by rfl) (pa_cons (pv 0) (pa_cons (pe_bltn (v := .ty "bool") (by rfl) T.z_bool (by rfl) rfl) pa_nil)))))))), ?_⟩
    refine ⟨_, rfl, _, _, _, _, rfl, .int i, kit_ii K, _, rfl, iteT ?_⟩
    exact ⟨_, rfl, _, _, _, _, rfl, .int i, kit_ib K, _, rfl, k⟩
theorem scIs : FnScope ["_law_found", "_law_due"] ["_law_found", "_law_due"] (defScope s_is) := ⟨rfl, rfl, rfl, by decide +kernel, rfl, by decide +kernel, by decide +kernel⟩
theorem ok_is (T : Txt K mg t) : FnOk P w K mg base CX0 2 t.f_is t.d_is ["_law_found", "_law_due"] sp_is := by
  refine T.F_is.ok scIs (fun vs H Q E h => ?_) (fun cdv A outer s H vs Q E hr h => ?_)
  · obtain ⟨_, _, rfl, _⟩ := h
    rfl
  · obtain ⟨i, j, rfl, k⟩ := h
    refine ⟨_, (pss_one (ps_ret (pe_and (pe_call (ok_whole T) (hr.mono (by decide)) (by rfl) T.m_whole T.F_whole.kp (b_whole T) .nil pass0 (pa_cons (pv 0) pa_nil)) (pe_one (pe_cmpR op_eq (pv 0) (pv 1) (nomark _)))))), ?_⟩
    refine ⟨_, rfl, i, rfl, _, rfl, iteT ?_⟩
    refine ⟨_, rfl, _, rfl, rfl, ?_⟩
    have e : decide (V.int i = V.int j) = decide (i = j) := by by_cases h : i = j <;> simp [h]
    rw [e]
    exact k
end

inductive Kd where | line | bell | still | lazy | turning | stop
  deriving DecidableEq
def Kd.str : Kd → Str
  | .line => "line" | .bell => "bell" | .still => "still" | .lazy => "lazy" | .turning => "turning" | .stop => "stop"
def Kd.many : Kd → Int
  | .line => 2 | .bell => 2 | .still => 3 | .lazy => 3 | .turning => 3 | .stop => 1
def Kd.point : Kd → Bool
  | .still => true | .lazy => true | .turning => true | _ => false
def endsD : List (Str × PyData) := [("line", .int 2), ("bell", .int 2), ("stop", .int 1), ("still", .int 3), ("lazy", .int 3), ("turning", .int 3)]
theorem Kd.inEnds (k : Kd) : (endsD.any fun p => decide (k.str = p.1)) = true := by cases k <;> decide +kernel
theorem Kd.atEnds (k : Kd) : endsD.lookup k.str = some (.int k.many) := by cases k <;> rfl
theorem endsD_int : (endsD.all fun p => match p.2 with | .int _ => true | _ => false) = true := by decide +kernel
theorem Kd.inPoints (k : Kd) : inV (.str k.str) [.str "still", .str "lazy", .str "turning"] = k.point := by cases k <;> decide +kernel
theorem Kd.isStop (k : Kd) : decide (V.str k.str = V.str "stop") = decide (k = .stop) := by cases k <;> decide +kernel
theorem Kd.isTurning (k : Kd) : decide (V.str k.str = V.str "turning") = decide (k = .turning) := by cases k <;> decide +kernel
theorem Kd.isLazy (k : Kd) : decide (V.str k.str = V.str "lazy") = decide (k = .lazy) := by cases k <;> decide +kernel
theorem Kd.isBell (k : Kd) : decide (V.str k.str = V.str "bell") = decide (k = .bell) := by cases k <;> decide +kernel
theorem Kd.isLine (k : Kd) : decide (V.str k.str = V.str "line") = decide (k = .line) := by cases k <;> decide +kernel
def Kd.out (k : Kd) (e s : Int) : V := if k = .stop then .non else if k.point then (if e = 0 then .int s else .int 0) else .int (1 - e)
def Kd.side (k : Kd) (e s : Int) : Int := if k.point then (if e = 0 then (if k = .turning then 3 - s else s) else (if k = .lazy then e else s)) else s
def sp_ends_of : Sp := fun vs H Q _ => ∃ k : Kd, vs = [.str k.str] ∧ Q (.int k.many) H
def sp_is_point : Sp := fun vs H Q _ => ∃ k : Kd, vs = [.str k.str] ∧ Q (.bl k.point) H
def sp_check_end : Sp := fun vs H Q _ => ∃ (k : Kd) (e : Int), vs = [.str k.str, .int e] ∧ 0 ≤ e ∧ e < k.many ∧ Q .non H
def sp_check_side : Sp := fun vs H Q _ => ∃ s : Int, vs = [.int s] ∧ (s = 1 ∨ s = 2) ∧ Q .non H
def sp_passage : Sp := fun vs H Q _ => ∃ (k : Kd) (e s : Int) (v : V), vs = [.str k.str, .int e, v] ∧ 0 ≤ e ∧ e < k.many ∧ (k.point = true → v = .int s ∧ (s = 1 ∨ s = 2)) ∧ ∀ p, H p = none → Q (.ref p) (upd H p (.tup [k.out e s, if k.point then .int (k.side e s) else v]))
def sp_point_passage : Sp := fun vs H Q _ => ∃ (k : Kd) (e s : Int), vs = [.str k.str, .int e, .int s] ∧ k.point = true ∧ ∀ p, H p = none → Q (.ref p) (upd H p (.tup [k.out e s, .int (k.side e s)]))
section
variable {P : Program} {w : World} {K : PySem.W.Frag} {mg : Str → Option Value} {base : Heap} {t : Adr}
theorem decInt (i j : Int) : decide (V.int i = V.int j) = decide (i = j) := by by_cases h : i = j <;> simp [h]
theorem scEo : FnScope ["kind"] ["kind"] (defScope s_ends_of) := ⟨rfl, rfl, rfl, by decide +kernel, rfl, by decide +kernel, by decide +kernel⟩
theorem ok_ends_of (T : Txt K mg t) : FnOk P w K mg base CX0 1 t.f_ends_of t.d_ends_of ["kind"] sp_ends_of := by
  refine T.F_ends_of.ok scEo (fun vs H Q E h => ?_) (fun cdv A outer s H vs Q E hr h => ?_)
  · obtain ⟨_, rfl, _⟩ := h
    rfl
  · obtain ⟨k, rfl, q⟩ := h
    obtain ⟨aE, eE, hE⟩ := T.x_ENDS
    have T_r_ENDS : RelV (.ref aE) t.u_ENDS := by rw [eE]; rfl
    refine ⟨_, (pss_cons (ps_if (pt_cmpR op_notInK (pv 0) (pe_glob (by rfl) T.g_ENDS T_r_ENDS) (by rfl))
        (pss_one ps_never)
        pss_nil)
      (pss_one (ps_ret (pe_ix ix_K (pe_glob (by rfl) T.g_ENDS T_r_ENDS) (pv 0) (fun _ _ => rfl))))), ?_⟩
    refine ⟨_, rfl, _, aE, endsD, rfl, rfl, hE, _, rfl, ?_⟩
    rw [k.inEnds]
    exact ⟨_, rfl, _, aE, endsD, _, rfl, rfl, hE, k.atEnds, endsD_int, q⟩
theorem scIp : FnScope ["kind"] ["kind"] (defScope s_is_point) := ⟨rfl, rfl, rfl, by decide +kernel, rfl, by decide +kernel, by decide +kernel⟩
theorem ok_is_point (T : Txt K mg t) : FnOk P w K mg base CX0 1 t.f_is_point t.d_is_point ["kind"] sp_is_point := by
  refine T.F_is_point.ok scIp (fun vs H Q E h => ?_) (fun cdv A outer s H vs Q E hr h => ?_)
  · obtain ⟨_, rfl, _⟩ := h
    rfl
  · obtain ⟨k, rfl, q⟩ := h
    obtain ⟨aE, eE, hE⟩ := T.x_ENDS
    have T_r_ENDS : RelV (.ref aE) t.u_ENDS := by rw [eE]; rfl
    obtain ⟨aP, oP, its, n, eP, h1, h2, h3, h4, h5⟩ := T.x_POINTS
    have T_r_POINTS : RelV (.ref aP) t.u_POINTS := by rw [eP]; rfl
    refine ⟨_, (pss_cons (ps_if (pt_cmpR op_notInK (pv 0) (pe_glob (by rfl) T.g_ENDS T_r_ENDS) (by rfl))
        (pss_one ps_never)
        pss_nil)
      (pss_one (ps_ret (pe_cmpR op_in_seq (pv 0) (pe_glob (by rfl) T.g_POINTS T_r_POINTS) (by rfl))))), ?_⟩
    refine ⟨_, rfl, _, aE, endsD, rfl, rfl, hE, _, rfl, ?_⟩
    rw [k.inEnds]
    refine ⟨_, rfl, aP, _, rfl, .inr (.inr ⟨oP, its, n, h1, h2, h3, h4, h5⟩), rfl, by decide, ?_⟩
    rw [if_neg Bool.false_ne_true, k.inPoints]
    exact q
theorem scCe : FnScope ["kind", "end", "many"] ["kind", "end"] (defScope s_check_end) := ⟨rfl, rfl, rfl, by decide +kernel, rfl, by decide +kernel, by decide +kernel⟩
theorem ok_check_end (T : Txt K mg t) : FnOk P w K mg base CX0 2 t.f_check_end t.d_check_end ["kind", "end"] sp_check_end := by
  refine T.F_check_end.ok scCe (fun vs H Q E h => ?_) (fun cdv A outer s H vs Q E hr h => ?_)
  · obtain ⟨_, _, rfl, _⟩ := h
    rfl
  · obtain ⟨k, e, rfl, e0, e1, q⟩ := h
    refine ⟨_, (pss_cons (ps_set (i := 2) scCe.nd rfl (Or.inl rfl) (pe_call (ok_ends_of T) (hr.mono (by decide)) (by rfl) T.m_ends_of T.F_ends_of.kp (b_ends_of T) .nil pass0 (pa_cons (pv 0) pa_nil)))
      (pss_one (ps_if (PW.pt (pw_or (pt_cmpR op_lt (pv 1) pe_int (nomark _)) (pw_or1 (pt_cmpR op_ge (pv 1) (pv 2) (nomark _)))))
        (pss_one ps_never)
        pss_nil))), ?_⟩
    refine ⟨_, rfl, k, rfl, ?_⟩
    refine ⟨_, rfl, _, _, rfl, rfl, _, rfl, ?_⟩
    refine ifF (decide_eq_false (by omega)) ?_
    refine ⟨_, rfl, _, rfl, _, _, rfl, rfl, _, rfl, ?_⟩
    exact ifF (decide_eq_false (by omega)) q
theorem scCs : FnScope ["side"] ["side"] (defScope s_check_side) := ⟨rfl, rfl, rfl, by decide +kernel, rfl, by decide +kernel, by decide +kernel⟩
theorem ok_check_side (T : Txt K mg t) : FnOk P w K mg base CX0 1 t.f_check_side t.d_check_side ["side"] sp_check_side := by
  refine T.F_check_side.ok scCs (fun vs H Q E h => ?_) (fun cdv A outer s H vs Q E hr h => ?_)
  · obtain ⟨_, rfl, _⟩ := h
    rfl
  · obtain ⟨z, rfl, hz, q⟩ := h
    refine ⟨_, (pss_one (ps_if (PW.pt (pw_and (pt_cmpR op_ne (pv 0) pe_int (nomark _)) (pw_and1 (pt_cmpR op_ne (pv 0) pe_int (nomark _)))))
        (pss_one ps_never)
        pss_nil)), ?_⟩
    refine ⟨_, rfl, rfl, _, rfl, ?_⟩
    rw [decInt]
    refine ifdn (fun hc => ?_) (fun hc => iteF q)
    refine ⟨_, rfl, rfl, _, rfl, ?_⟩
    rw [decInt]
    exact ifF (by simp; omega) q
theorem scPp : FnScope ["kind", "end", "side"] ["kind", "end", "side"] (defScope s_point_passage) := ⟨rfl, rfl, rfl, by decide +kernel, rfl, by decide +kernel, by decide +kernel⟩
theorem ok_point_passage (T : Txt K mg t) : FnOk P w K mg base CX0 1 t.f_point_passage t.d_point_passage ["kind", "end", "side"] sp_point_passage := by
  refine T.F_point_passage.ok scPp (fun vs H Q E h => ?_) (fun cdv A outer s H vs Q E hr h => ?_)
  · obtain ⟨_, _, _, rfl, _⟩ := h
    rfl
  · obtain ⟨k, e, z, rfl, hk, q⟩ := h
    have ns : ¬ k = .stop := fun h => by rw [h] at hk; cases hk
    refine ⟨_, (pss_cons (ps_if (pt_cmpR op_eq (pv 1) (pe_glob (by rfl) T.g_STEM T.r_STEM) (nomark _))
        (pss_one (ps_ret (pe_tup (pa_cons (pv 2) (pa_cons (pe_ifExp (pt_cmpR op_eq (pv 0) pe_str (nomark _)) (pe_op op_sub pe_int (pv 2)) (pv 2)) pa_nil)))))
        pss_nil)
      (pss_one (ps_ret (pe_tup (pa_cons (pe_glob (by rfl) T.g_STEM T.r_STEM) (pa_cons (pe_ifExp (pt_cmpR op_eq (pv 0) pe_str (nomark _)) (pv 1) (pv 2)) pa_nil)))))), ?_⟩
    refine ⟨_, rfl, rfl, _, rfl, ?_⟩
    rw [decInt]
    refine ite2 (fun hc => ?_) (fun hc => ?_)
    · have he : e = 0 := of_decide_eq_true hc
      refine ⟨_, rfl, _, rfl, rfl, _, rfl, ?_⟩
      rw [k.isTurning]
      have o1 : k.out e z = .int z := by unfold Kd.out; rw [if_neg ns, if_pos hk, if_pos he]
      have o2 : k.side e z = if k = .turning then 3 - z else z := by unfold Kd.side; rw [if_pos hk, if_pos he]
      rw [o1, o2] at q
      refine ite2 (fun hc => ?_) (fun hc => ?_)
      · rw [if_pos (of_decide_eq_true hc)] at q
        exact ⟨_, rfl, _, _, rfl, rfl, (show 2 ≤ sizeLine by decide), fun p hp => q p hp⟩
      · rw [if_neg (fun h => hc (decide_eq_true h))] at q
        exact ⟨_, rfl, (show 2 ≤ sizeLine by decide), fun p hp => q p hp⟩
    · have he : ¬ e = 0 := fun h => hc (decide_eq_true h)
      refine ⟨_, rfl, rfl, _, rfl, ?_⟩
      rw [k.isLazy]
      have o1 : k.out e z = .int 0 := by unfold Kd.out; rw [if_neg ns, if_pos hk, if_neg he]
      have o2 : k.side e z = if k = .lazy then e else z := by unfold Kd.side; rw [if_pos hk, if_neg he]
      rw [o1, o2] at q
      refine ite2 (fun hc => ?_) (fun hc => ?_)
      · rw [if_pos (of_decide_eq_true hc)] at q
        exact ⟨_, rfl, (show 2 ≤ sizeLine by decide), fun p hp => q p hp⟩
      · rw [if_neg (fun h => hc (decide_eq_true h))] at q
        exact ⟨_, rfl, (show 2 ≤ sizeLine by decide), fun p hp => q p hp⟩
theorem scPa : FnScope ["kind", "end", "side"] ["kind", "end", "side"] (defScope s_passage) := ⟨rfl, rfl, rfl, by decide +kernel, rfl, by decide +kernel, by decide +kernel⟩
theorem ok_passage (T : Txt K mg t) : FnOk P w K mg base CX0 3 t.f_passage t.d_passage ["kind", "end", "side"] sp_passage := by
  refine T.F_passage.ok scPa (fun vs H Q E h => ?_) (fun cdv A outer s H vs Q E hr h => ?_)
  · obtain ⟨_, _, _, _, rfl, _⟩ := h
    rfl
  · obtain ⟨k, e, z, v, rfl, e0, e1, hs, q⟩ := h
    refine ⟨_, (pss_cons (ps_expr (pe_call (ok_check_end T) (hr.mono (by decide)) (by rfl) T.m_check_end T.F_check_end.kp (b_check_end T) .nil pass0 (pa_cons (pv 0) (pa_cons (pv 1) pa_nil))))
      (pss_cons (ps_if (pt_val (pe_call (ok_is_point T) (hr.mono (by decide)) (by rfl) T.m_is_point T.F_is_point.kp (b_is_point T) .nil pass0 (pa_cons (pv 0) pa_nil)))
        (pss_cons (ps_expr (pe_call (ok_check_side T) (hr.mono (by decide)) (by rfl) T.m_check_side T.F_check_side.kp (b_check_side T) .nil pass0 (pa_cons (pv 2) pa_nil)))
          (pss_one (ps_ret (pe_call (ok_point_passage T) (hr.mono (by decide)) (by rfl) T.m_point_passage T.F_point_passage.kp (b_point_passage T) .nil pass0 (pa_cons (pv 0) (pa_cons (pv 1) (pa_cons (pv 2) pa_nil)))))))
        pss_nil)
      (pss_cons (ps_if (pt_cmpR op_eq (pv 0) pe_str (nomark _))
        (pss_one (ps_ret (pe_tup (pa_cons pe_non (pa_cons (pv 2) pa_nil)))))
        pss_nil)
      (pss_one (ps_ret (pe_tup (pa_cons (pe_op op_sub pe_int (pv 1)) (pa_cons (pv 2) pa_nil)))))))), ?_⟩
    refine ⟨_, rfl, _, rfl, k, e, rfl, e0, e1, ?_⟩
    refine ⟨_, rfl, k, rfl, _, rfl, ?_⟩
    refine ite2 (fun hc => ?_) (fun hc => ?_)
    · obtain ⟨rfl, hz⟩ := hs hc
      rw [if_pos hc] at q
      exact ⟨_, rfl, z, rfl, hz, _, rfl, _, rfl, _, rfl, k, e, z, rfl, hc, q⟩
    · rw [if_neg hc] at q
      refine ⟨_, rfl, rfl, _, rfl, ?_⟩
      rw [k.isStop]
      refine ite2 (fun hc2 => ?_) (fun hc2 => ?_)
      · have hk : k = .stop := of_decide_eq_true hc2
        subst hk
        exact ⟨_, rfl, (show 2 ≤ sizeLine by decide), fun p hp => q p hp⟩
      · have hk : ¬ k = .stop := fun h => hc2 (decide_eq_true h)
        have o1 : k.out e z = .int (1 - e) := by unfold Kd.out; rw [if_neg hk, if_neg hc]
        rw [o1] at q
        exact ⟨_, rfl, _, _, rfl, rfl, _, rfl, (show 2 ≤ sizeLine by decide), fun p hp => q p hp⟩
end

def sp_many : Sp := fun vs H Q _ => ∃ k : Kd, vs = [.str k.str] ∧ Q (.int k.many) H
section
variable {P : Program} {w : World} {K : PySem.W.Frag} {mg : Str → Option Value} {base : Heap} {t : Adr}
theorem scMa : FnScope ["_law_kind_here"] ["_law_kind_here"] (defScope s_many) := ⟨rfl, rfl, rfl, by decide +kernel, rfl, by decide +kernel, by decide +kernel⟩
theorem ok_many (T : Txt K mg t) : FnOk P w K mg base CX0 1 t.f_many t.d_many ["_law_kind_here"] sp_many := by
  refine T.F_many.ok scMa (fun vs H Q E h => ?_) (fun cdv A outer s H vs Q E hr h => ?_)
  · obtain ⟨_, rfl, _⟩ := h
    rfl
  · obtain ⟨k, rfl, q⟩ := h
    refine ⟨_, (pss_cons (ps_if (pt_cmpR op_eq (pv 0) pe_str (nomark _))
        (pss_one (ps_ret pe_int))
        pss_nil)
      (pss_cons (ps_if (PW.pt (pw_or (pt_cmpR op_eq (pv 0) pe_str (nomark _)) (pw_or1 (pt_cmpR op_eq (pv 0) pe_str (nomark _)))))
        (pss_one (ps_ret pe_int))
        pss_nil)
      (pss_one (ps_ret pe_int)))), ?_⟩
    refine ⟨_, rfl, rfl, _, rfl, ?_⟩
    rw [k.isStop]
    refine ifd (fun h => ?_) (fun h1 => ?_)
    · subst h; exact q
    refine ⟨_, rfl, rfl, _, rfl, ?_⟩
    rw [k.isLine]
    refine ifd (fun h => ?_) (fun h2 => ?_)
    · subst h; exact iteT q
    refine ⟨_, rfl, rfl, _, rfl, ?_⟩
    rw [k.isBell]
    refine ifd (fun h => ?_) (fun h3 => ?_)
    · subst h; exact q
    have e : k.many = 3 := by cases k <;> first | rfl | contradiction
    rw [e] at q
    exact q
end

theorem Kd.out_int {k : Kd} (h : ¬ k = .stop) (e s : Int) : ∃ i, k.out e s = .int i := by
  unfold Kd.out; rw [if_neg h]
  split
  · split
    · exact ⟨_, rfl⟩
    · exact ⟨_, rfl⟩
  · exact ⟨_, rfl⟩
theorem Kd.many_point {k : Kd} (h : k.point = true) : k.many = 3 := by cases k <;> first | rfl | cases h
theorem Kd.side12 {k : Kd} {e s : Int} (e0 : 0 ≤ e) (e1 : e < k.many) (h : s = 1 ∨ s = 2) : k.side e s = 1 ∨ k.side e s = 2 := by
  unfold Kd.side
  split
  · rename_i hp
    have := Kd.many_point hp
    split
    · split <;> omega
    · split <;> omega
  · exact h

structure YA where
  p : Addr
  dx : Addr
  tr : Addr
  k : Addr
  n : Addr
  r : Addr
  s : Addr
  m : Addr
  g : Addr
structure YR where
  next : Int
  kinds : List (Key × V)
  notes : List (Key × V)
  rods : List (Key × V)
  sides : List V
  mates : List (List Key × V)
  eng : V
  rung : List V
  trail : List V
def fl (A : YA) (next : Int) (eng : V) : List (Str × V) :=
  [("next_piece", .int next), ("kinds", .ref A.k), ("notes", .ref A.n), ("rods_under", .ref A.r), ("sides", .ref A.s), ("mates", .ref A.m), ("engine_end", eng), ("rung", .ref A.g), ("trail", .ref A.tr)]
def yL (C : Addr) (A : YA) (y : YR) : Kn :=
  [(A.tr, .lst y.trail), (A.p, .ins C A.dx (fl A y.next y.eng)), (A.dx, .own A.p), (A.k, .dK y.kinds), (A.n, .dK y.notes), (A.r, .dK y.rods), (A.s, .lst y.sides), (A.m, .dT y.mates), (A.g, .lst y.rung)]
def y0 : YR := ⟨0, [], [], [], [], [], .non, [], []⟩
section
variable (A : YA) (next : Int) (eng : V)
theorem fl_next : (fl A next eng).lookup ("next_piece" : Str) = some (.int next) := by kernel_rfl
theorem fl_kinds : (fl A next eng).lookup ("kinds" : Str) = some (.ref A.k) := by kernel_rfl
theorem fl_notes : (fl A next eng).lookup ("notes" : Str) = some (.ref A.n) := by kernel_rfl
theorem fl_rods : (fl A next eng).lookup ("rods_under" : Str) = some (.ref A.r) := by kernel_rfl
theorem fl_sides : (fl A next eng).lookup ("sides" : Str) = some (.ref A.s) := by kernel_rfl
theorem fl_mates : (fl A next eng).lookup ("mates" : Str) = some (.ref A.m) := by kernel_rfl
theorem fl_eng : (fl A next eng).lookup ("engine_end" : Str) = some eng := by kernel_rfl
theorem fl_rung : (fl A next eng).lookup ("rung" : Str) = some (.ref A.g) := by kernel_rfl
theorem fl_trail : (fl A next eng).lookup ("trail" : Str) = some (.ref A.tr) := by kernel_rfl
theorem fl_put_trail (q : Addr) : putF "trail" (.ref q) (fl A next eng) = fl { A with tr := q } next eng := by kernel_rfl
theorem fl_put_next (n' : Int) : putF "next_piece" (.int n') (fl A next eng) = fl A n' eng := by kernel_rfl
theorem fl_put_eng (e' : V) : putF "engine_end" e' (fl A next eng) = fl A next e' := by kernel_rfl
end
theorem fl_m (A : YA) (next : Int) (eng : V) : (fl A next eng).lookup ("lay" : Str) = none ∧ (fl A next eng).lookup ("new_rod" : Str) = none ∧ (fl A next eng).lookup ("throw" : Str) = none ∧ (fl A next eng).lookup ("rods" : Str) = none ∧ (fl A next eng).lookup ("rod" : Str) = none ∧
    (fl A next eng).lookup ("side" : Str) = none ∧ (fl A next eng).lookup ("end_trail" : Str) = none ∧ (fl A next eng).lookup ("check_piece" : Str) = none ∧ (fl A next eng).lookup ("check_rod" : Str) = none :=
  ⟨by kernel_rfl, by kernel_rfl, by kernel_rfl, by kernel_rfl, by kernel_rfl, by kernel_rfl, by kernel_rfl, by kernel_rfl, by kernel_rfl⟩
def sp_init (C : Addr) : Sp := fun vs H Q _ => ∃ (p dx : Addr) (L : Kn), vs = [.ref p] ∧ Has H ((p, .ins C dx []) :: (dx, .own p) :: L) ∧ ∀ H' A, A.p = p → Has H' (yL C A y0 ++ L) → Q .non H'
def sp_end_trail (C : Addr) : Sp := fun vs H Q _ => ∃ (A : YA) (y : YR) (L : Kn), vs = [.ref A.p] ∧ Has H (yL C A y ++ L) ∧ ∀ H' q, Has H' (yL C { A with tr := q } { y with trail := [] } ++ L) → Q .non H'
theorem init_perm {H : Hp} {C p dx a1 a2 a3 a4 a5 a7 a8 : Addr} {fs : List (Str × V)} {L : Kn} (h : Has H ((a8, .lst []) :: (a7, .lst []) :: (a5, .dT []) :: (a4, .lst []) :: (a3, .dK []) :: (a2, .dK []) :: (a1, .dK []) :: (p, .ins C dx fs) :: (dx, .own p) :: L)) :
    Has H ([(a8, .lst []), (p, .ins C dx fs), (dx, .own p), (a1, .dK []), (a2, .dK []), (a3, .dK []), (a4, .lst []), (a5, .dT []), (a7, .lst [])] ++ L) := by
  refine h.perm ?_
  refine .cons _ ?_
  show List.Perm ([(a7, HO.lst []), (a5, .dT []), (a4, .lst []), (a3, .dK []), (a2, .dK []), (a1, .dK []), (p, .ins C dx fs), (dx, .own p)] ++ L) ([(p, .ins C dx fs), (dx, .own p), (a1, .dK []), (a2, .dK []), (a3, .dK []), (a4, .lst []), (a5, .dT []), (a7, .lst [])] ++ L)
  refine List.Perm.append_right L ?_
  have e : [(a7, HO.lst []), (a5, .dT []), (a4, .lst []), (a3, .dK []), (a2, .dK []), (a1, .dK []), (p, .ins C dx fs), (dx, .own p)] = [(a7, HO.lst []), (a5, .dT []), (a4, .lst []), (a3, .dK []), (a2, .dK []), (a1, .dK [])] ++ [(p, .ins C dx fs), (dx, .own p)] := rfl
  rw [e]
  refine List.perm_append_comm.trans ?_
  refine .cons _ (.cons _ ?_)
  exact List.reverse_perm [(a1, HO.dK []), (a2, .dK []), (a3, .dK []), (a4, .lst []), (a5, .dT []), (a7, .lst [])]
section
variable {P : Program} {w : World} {K : PySem.W.Frag} {mg : Str → Option Value} {base : Heap} {t : Adr}
theorem scYi : FnScope ["self"] ["self"] (defScope s_Yard_init) := ⟨rfl, rfl, rfl, by decide +kernel, rfl, by decide +kernel, by decide +kernel⟩
theorem ok_Yard_init (T : Txt K mg t) : FnOk P w K mg base CX0 1 t.f_Yard_init t.d_Yard_init ["self"] (sp_init t.c_Yard) := by
  refine T.F_Yard_init.ok scYi (fun vs H Q E h => ?_) (fun cdv A outer s H vs Q E hr h => ?_)
  · obtain ⟨_, _, _, rfl, _⟩ := h
    rfl
  · obtain ⟨p, dx, L, rfl, hH, q⟩ := h
    refine ⟨_, (pss_cons (ps_fld (pv 0) pe_int rfl)
      (pss_cons (ps_fld (pv 0) pe_dnewK rfl)
      (pss_cons (ps_fld (pv 0) pe_dnewK rfl)
      (pss_cons (ps_fld (pv 0) pe_dnewK rfl)
      (pss_cons (ps_fld (pv 0) (pe_lst pa_nil) rfl)
      (pss_cons (ps_fld (pv 0) pe_dnewT rfl)
      (pss_cons (ps_fld (pv 0) pe_non rfl)
      (pss_cons (ps_fld (pv 0) (pe_lst pa_nil) rfl)
      (pss_one (ps_fld (pv 0) (pe_lst pa_nil) rfl)))))))))), ?_⟩
    refine ⟨_, rfl, p, _, dx, _, rfl, hH.get 0 rfl, T.cl_Yard, T.n_Yard_next_piece, (show 0 < 1000 by decide), ?_⟩
    have h1 := hH.puti 0 rfl (.ins t.c_Yard dx (putF ("next_piece" : Str) (V.int 0) ([] : List (Str × V))))
    rw [show putF ("next_piece" : Str) (V.int 0) ([] : List (Str × V)) = ([(("next_piece" : Str), V.int 0)] : List (Str × V)) from by kernel_rfl] at h1 ⊢
    generalize upd H p _ = H1 at h1 ⊢
    intro a1 n1
    refine ⟨_, rfl, p, _, dx, _, rfl, (h1.alloc n1 (.dK [])).get 1 rfl, T.cl_Yard, T.n_Yard_kinds, (show 1 < 1000 by decide), ?_⟩
    have h2 := (h1.alloc n1 (.dK [])).puti 1 rfl (.ins t.c_Yard dx (putF ("kinds" : Str) (V.ref a1) ([(("next_piece" : Str), V.int 0)] : List (Str × V))))
    rw [show putF ("kinds" : Str) (V.ref a1) ([(("next_piece" : Str), V.int 0)] : List (Str × V)) = ([(("next_piece" : Str), V.int 0), (("kinds" : Str), V.ref a1)] : List (Str × V)) from by kernel_rfl] at h2 ⊢
    generalize upd (upd H1 a1 _) p _ = H2 at h2 ⊢
    intro a2 n2
    refine ⟨_, rfl, p, _, dx, _, rfl, (h2.alloc n2 (.dK [])).get 2 rfl, T.cl_Yard, T.n_Yard_notes, (show 2 < 1000 by decide), ?_⟩
    have h3 := (h2.alloc n2 (.dK [])).puti 2 rfl (.ins t.c_Yard dx (putF ("notes" : Str) (V.ref a2) ([(("next_piece" : Str), V.int 0), (("kinds" : Str), V.ref a1)] : List (Str × V))))
    rw [show putF ("notes" : Str) (V.ref a2) ([(("next_piece" : Str), V.int 0), (("kinds" : Str), V.ref a1)] : List (Str × V)) = ([(("next_piece" : Str), V.int 0), (("kinds" : Str), V.ref a1), (("notes" : Str), V.ref a2)] : List (Str × V)) from by kernel_rfl] at h3 ⊢
    generalize upd (upd H2 a2 _) p _ = H3 at h3 ⊢
    intro a3 n3
    refine ⟨_, rfl, p, _, dx, _, rfl, (h3.alloc n3 (.dK [])).get 3 rfl, T.cl_Yard, T.n_Yard_rods_under, (show 3 < 1000 by decide), ?_⟩
    have h4 := (h3.alloc n3 (.dK [])).puti 3 rfl (.ins t.c_Yard dx (putF ("rods_under" : Str) (V.ref a3) ([(("next_piece" : Str), V.int 0), (("kinds" : Str), V.ref a1), (("notes" : Str), V.ref a2)] : List (Str × V))))
    rw [show putF ("rods_under" : Str) (V.ref a3) ([(("next_piece" : Str), V.int 0), (("kinds" : Str), V.ref a1), (("notes" : Str), V.ref a2)] : List (Str × V)) = ([(("next_piece" : Str), V.int 0), (("kinds" : Str), V.ref a1), (("notes" : Str), V.ref a2), (("rods_under" : Str), V.ref a3)] : List (Str × V)) from by kernel_rfl] at h4 ⊢
    generalize upd (upd H3 a3 _) p _ = H4 at h4 ⊢
    refine ⟨by decide, fun a4 n4 => ?_⟩
    refine ⟨_, rfl, p, _, dx, _, rfl, (h4.alloc n4 (.lst [])).get 4 rfl, T.cl_Yard, T.n_Yard_sides, (show 4 < 1000 by decide), ?_⟩
    have h5 := (h4.alloc n4 (.lst [])).puti 4 rfl (.ins t.c_Yard dx (putF ("sides" : Str) (V.ref a4) ([(("next_piece" : Str), V.int 0), (("kinds" : Str), V.ref a1), (("notes" : Str), V.ref a2), (("rods_under" : Str), V.ref a3)] : List (Str × V))))
    rw [show putF ("sides" : Str) (V.ref a4) ([(("next_piece" : Str), V.int 0), (("kinds" : Str), V.ref a1), (("notes" : Str), V.ref a2), (("rods_under" : Str), V.ref a3)] : List (Str × V)) = ([(("next_piece" : Str), V.int 0), (("kinds" : Str), V.ref a1), (("notes" : Str), V.ref a2), (("rods_under" : Str), V.ref a3), (("sides" : Str), V.ref a4)] : List (Str × V)) from by kernel_rfl] at h5 ⊢
    generalize upd (upd H4 a4 _) p _ = H5 at h5 ⊢
    intro a5 n5
    refine ⟨_, rfl, p, _, dx, _, rfl, (h5.alloc n5 (.dT [])).get 5 rfl, T.cl_Yard, T.n_Yard_mates, (show 5 < 1000 by decide), ?_⟩
    have h6 := (h5.alloc n5 (.dT [])).puti 5 rfl (.ins t.c_Yard dx (putF ("mates" : Str) (V.ref a5) ([(("next_piece" : Str), V.int 0), (("kinds" : Str), V.ref a1), (("notes" : Str), V.ref a2), (("rods_under" : Str), V.ref a3), (("sides" : Str), V.ref a4)] : List (Str × V))))
    rw [show putF ("mates" : Str) (V.ref a5) ([(("next_piece" : Str), V.int 0), (("kinds" : Str), V.ref a1), (("notes" : Str), V.ref a2), (("rods_under" : Str), V.ref a3), (("sides" : Str), V.ref a4)] : List (Str × V)) = ([(("next_piece" : Str), V.int 0), (("kinds" : Str), V.ref a1), (("notes" : Str), V.ref a2), (("rods_under" : Str), V.ref a3), (("sides" : Str), V.ref a4), (("mates" : Str), V.ref a5)] : List (Str × V)) from by kernel_rfl] at h6 ⊢
    generalize upd (upd H5 a5 _) p _ = H6 at h6 ⊢
    refine ⟨_, rfl, p, _, dx, _, rfl, h6.get 5 rfl, T.cl_Yard, T.n_Yard_engine_end, (show 6 < 1000 by decide), ?_⟩
    have h7 := h6.puti 5 rfl (.ins t.c_Yard dx (putF ("engine_end" : Str) (V.non) ([(("next_piece" : Str), V.int 0), (("kinds" : Str), V.ref a1), (("notes" : Str), V.ref a2), (("rods_under" : Str), V.ref a3), (("sides" : Str), V.ref a4), (("mates" : Str), V.ref a5)] : List (Str × V))))
    rw [show putF ("engine_end" : Str) (V.non) ([(("next_piece" : Str), V.int 0), (("kinds" : Str), V.ref a1), (("notes" : Str), V.ref a2), (("rods_under" : Str), V.ref a3), (("sides" : Str), V.ref a4), (("mates" : Str), V.ref a5)] : List (Str × V)) = ([(("next_piece" : Str), V.int 0), (("kinds" : Str), V.ref a1), (("notes" : Str), V.ref a2), (("rods_under" : Str), V.ref a3), (("sides" : Str), V.ref a4), (("mates" : Str), V.ref a5), (("engine_end" : Str), V.non)] : List (Str × V)) from by kernel_rfl] at h7 ⊢
    generalize upd H6 p _ = H7 at h7 ⊢
    refine ⟨by decide, fun a7 n7 => ?_⟩
    refine ⟨_, rfl, p, _, dx, _, rfl, (h7.alloc n7 (.lst [])).get 6 rfl, T.cl_Yard, T.n_Yard_rung, (show 7 < 1000 by decide), ?_⟩
    have h8 := (h7.alloc n7 (.lst [])).puti 6 rfl (.ins t.c_Yard dx (putF ("rung" : Str) (V.ref a7) ([(("next_piece" : Str), V.int 0), (("kinds" : Str), V.ref a1), (("notes" : Str), V.ref a2), (("rods_under" : Str), V.ref a3), (("sides" : Str), V.ref a4), (("mates" : Str), V.ref a5), (("engine_end" : Str), V.non)] : List (Str × V))))
    rw [show putF ("rung" : Str) (V.ref a7) ([(("next_piece" : Str), V.int 0), (("kinds" : Str), V.ref a1), (("notes" : Str), V.ref a2), (("rods_under" : Str), V.ref a3), (("sides" : Str), V.ref a4), (("mates" : Str), V.ref a5), (("engine_end" : Str), V.non)] : List (Str × V)) = ([(("next_piece" : Str), V.int 0), (("kinds" : Str), V.ref a1), (("notes" : Str), V.ref a2), (("rods_under" : Str), V.ref a3), (("sides" : Str), V.ref a4), (("mates" : Str), V.ref a5), (("engine_end" : Str), V.non), (("rung" : Str), V.ref a7)] : List (Str × V)) from by kernel_rfl] at h8 ⊢
    generalize upd (upd H7 a7 _) p _ = H8 at h8 ⊢
    refine ⟨by decide, fun a8 n8 => ?_⟩
    refine ⟨_, rfl, p, _, dx, _, rfl, (h8.alloc n8 (.lst [])).get 7 rfl, T.cl_Yard, T.n_Yard_trail, (show 8 < 1000 by decide), ?_⟩
    refine q _ ⟨p, dx, a8, a1, a2, a3, a4, a5, a7⟩ rfl ?_
    have h9 := (h8.alloc n8 (.lst [])).puti 7 rfl (.ins t.c_Yard dx (putF ("trail" : Str) (V.ref a8) ([(("next_piece" : Str), V.int 0), (("kinds" : Str), V.ref a1), (("notes" : Str), V.ref a2), (("rods_under" : Str), V.ref a3), (("sides" : Str), V.ref a4), (("mates" : Str), V.ref a5), (("engine_end" : Str), V.non), (("rung" : Str), V.ref a7)] : List (Str × V))))
    rw [show putF ("trail" : Str) (V.ref a8) ([(("next_piece" : Str), V.int 0), (("kinds" : Str), V.ref a1), (("notes" : Str), V.ref a2), (("rods_under" : Str), V.ref a3), (("sides" : Str), V.ref a4), (("mates" : Str), V.ref a5), (("engine_end" : Str), V.non), (("rung" : Str), V.ref a7)] : List (Str × V)) = ([(("next_piece" : Str), V.int 0), (("kinds" : Str), V.ref a1), (("notes" : Str), V.ref a2), (("rods_under" : Str), V.ref a3), (("sides" : Str), V.ref a4), (("mates" : Str), V.ref a5), (("engine_end" : Str), V.non), (("rung" : Str), V.ref a7), (("trail" : Str), V.ref a8)] : List (Str × V)) from by kernel_rfl] at h9 ⊢
    exact init_perm h9
end

def layY (y : YR) (k : Kd) (note : Int) (rod : V) : YR :=
  { y with next := y.next + 1, kinds := putK y.kinds (Sum.inl y.next) (.str k.str),
           notes := if k = .bell then putK y.notes (Sum.inl y.next) (.int note) else y.notes,
           rods := if k.point then putK y.rods (Sum.inl y.next) (if rod = .non then .int y.sides.length else rod) else y.rods,
           sides := if k.point ∧ rod = .non then y.sides ++ [.int 1] else y.sides, trail := [] }
structure Small (y : YR) : Prop where
  k : y.kinds.length ≤ 10000
  n : y.notes.length ≤ 10000
  r : y.rods.length ≤ 10000
  s : y.sides.length ≤ 10000
  m : y.mates.length ≤ 30000
  g : y.rung.length ≤ 300000
  t : y.trail.length ≤ 300000
def sp_check_piece (C : Addr) : Sp := fun vs H Q _ => ∃ (A : YA) (y : YR) (L : Kn) (n : Int) (v : V), vs = [.ref A.p, .int n] ∧ Has H (yL C A y ++ L) ∧ valV y.kinds (Sum.inl n) = some v ∧ Q .non H
def sp_check_rod (C : Addr) : Sp := fun vs H Q _ => ∃ (A : YA) (y : YR) (L : Kn) (r : Int), vs = [.ref A.p, .int r] ∧ Has H (yL C A y ++ L) ∧ 0 ≤ r ∧ r < y.sides.length ∧ Q .non H
def sp_check_note : Sp := fun vs H Q _ => ∃ n : Int, vs = [.int n] ∧ 0 ≤ n ∧ n ≤ 9999 ∧ Q .non H
def sp_new_rod (C : Addr) : Sp := fun vs H Q _ => ∃ (A : YA) (y : YR) (L : Kn) (s : Int), vs = [.ref A.p, .int s] ∧ Has H (yL C A y ++ L) ∧ (s = 1 ∨ s = 2) ∧ y.sides.length ≤ 10000 ∧
  ∀ H' q, Has H' (yL C { A with tr := q } { y with sides := y.sides ++ [.int s], trail := [] } ++ L) → Q (.int y.sides.length) H'
def sp_throw (C : Addr) : Sp := fun vs H Q _ => ∃ (A : YA) (y : YR) (L : Kn) (r s : Int), vs = [.ref A.p, .int r, .int s] ∧ Has H (yL C A y ++ L) ∧ 0 ≤ r ∧ r < y.sides.length ∧ (s = 1 ∨ s = 2) ∧
  ∀ H' q, Has H' (yL C { A with tr := q } { y with sides := y.sides.set r.toNat (.int s), trail := [] } ++ L) → Q .non H'
def sp_rods (C : Addr) : Sp := fun vs H Q _ => ∃ (A : YA) (y : YR) (L : Kn), vs = [.ref A.p] ∧ Has H (yL C A y ++ L) ∧ Small y ∧ ∀ H' l, Has H' ((l, .lst (intsV y.sides.length)) :: (yL C A y ++ L)) → Q (.ref l) H'
def sp_side (C : Addr) : Sp := fun vs H Q _ => ∃ (A : YA) (y : YR) (L : Kn) (r : Int) (v : V), vs = [.ref A.p, .int r] ∧ Has H (yL C A y ++ L) ∧ 0 ≤ r ∧ y.sides[r.toNat]? = some v ∧ Q v H
def sp_rod (C : Addr) : Sp := fun vs H Q _ => ∃ (A : YA) (y : YR) (L : Kn) (n : Int) (u v : V), vs = [.ref A.p, .int n] ∧ Has H (yL C A y ++ L) ∧ valV y.kinds (Sum.inl n) = some u ∧ valV y.rods (Sum.inl n) = some v ∧ Q v H
def sp_lay (C : Addr) : Sp := fun vs H Q _ => ∃ (A : YA) (y : YR) (L : Kn) (k : Kd) (note : Int) (rod : V), vs = [.ref A.p, .str k.str, .int note, rod] ∧ Has H (yL C A y ++ L) ∧ Small y ∧ (k = .bell → 0 ≤ note ∧ note ≤ 9999) ∧
  (k.point = true → rod ≠ .non → ∃ r : Int, rod = .int r ∧ 0 ≤ r ∧ r < y.sides.length) ∧ ∀ H' q, Has H' (yL C { A with tr := q } (layY y k note rod) ++ L) → Q (.int y.next) H'
section
variable {P : Program} {w : World} {K : PySem.W.Frag} {mg : Str → Option Value} {base : Heap} {t : Adr}
theorem scEt : FnScope ["self"] ["self"] (defScope s_Yard_end_trail) := ⟨rfl, rfl, rfl, by decide +kernel, rfl, by decide +kernel, by decide +kernel⟩
theorem ok_Yard_end_trail (T : Txt K mg t) : FnOk P w K mg base CX0 1 t.f_Yard_end_trail t.d_Yard_end_trail ["self"] (sp_end_trail t.c_Yard) := by
  refine T.F_Yard_end_trail.ok scEt (fun vs H Q E h => ?_) (fun cdv A outer s H vs Q E hr h => ?_)
  · obtain ⟨_, _, _, rfl, _⟩ := h
    rfl
  · obtain ⟨A, y, L, rfl, hH, q⟩ := h
    refine ⟨_, (pss_one (ps_fld (pv 0) (pe_lst pa_nil) rfl)), ?_⟩
    refine ⟨by decide, fun a ha => ?_⟩
    have h1 := hH.alloc ha (.lst [])
    refine ⟨_, rfl, A.p, _, A.dx, _, rfl, h1.get 2 rfl, T.cl_Yard, T.n_Yard_trail, (show 9 < 1000 by decide), ?_⟩
    refine q _ a ?_
    rw [fl_put_trail]
    have h2 := (h1.puti 2 rfl (.ins t.c_Yard A.dx (fl { A with tr := a } y.next y.eng)))
    exact (h2.swap2).tail
theorem scCr : FnScope ["self", "rod"] ["self", "rod"] (defScope s_Yard_check_rod) := ⟨rfl, rfl, rfl, by decide +kernel, rfl, by decide +kernel, by decide +kernel⟩
theorem ok_Yard_check_rod (T : Txt K mg t) : FnOk P w K mg base CX0 1 t.f_Yard_check_rod t.d_Yard_check_rod ["self", "rod"] (sp_check_rod t.c_Yard) := by
  refine T.F_Yard_check_rod.ok scCr (fun vs H Q E h => ?_) (fun cdv A outer s H vs Q E hr h => ?_)
  · obtain ⟨_, _, _, _, rfl, _⟩ := h
    rfl
  · obtain ⟨A, y, L, r, rfl, hH, r0, r1, q⟩ := h
    refine ⟨_, (pss_one (ps_if (PW.pt (pw_or (pt_cmpR op_lt (pv 1) pe_int (nomark _)) (pw_or1 (pt_cmpR op_ge (pv 1) (pe_callB call_len_seq (by rfl) T.z_len (by rfl) (pa_cons (pe_fld (pv 0) rfl) pa_nil)) (nomark _)))))
        (pss_one ps_never)
        pss_nil)), ?_⟩
    refine ⟨_, rfl, _, _, rfl, rfl, _, rfl, ifF (decide_eq_false (by omega)) ?_⟩
    refine ⟨_, rfl, _, rfl, A.p, _, A.dx, _, _, rfl, hH.get 1 rfl, T.cl_Yard, T.n_Yard_sides, fl_sides _ _ _, A.s, _, rfl, .inl (SqL.of (hH.get 6 rfl)), _, _, rfl, rfl, _, rfl, ?_⟩
    exact ifF (decide_eq_false (by omega)) q
theorem scCn : FnScope ["note"] ["note"] (defScope s_check_note) := ⟨rfl, rfl, rfl, by decide +kernel, rfl, by decide +kernel, by decide +kernel⟩
theorem ok_check_note (T : Txt K mg t) : FnOk P w K mg base CX0 1 t.f_check_note t.d_check_note ["note"] sp_check_note := by
  refine T.F_check_note.ok scCn (fun vs H Q E h => ?_) (fun cdv A outer s H vs Q E hr h => ?_)
  · obtain ⟨_, rfl, _⟩ := h
    rfl
  · obtain ⟨n, rfl, n0, n1, q⟩ := h
    refine ⟨_, (pss_one (ps_if (PW.pt (pw_or (pt_cmpR op_lt (pv 0) pe_int (nomark _)) (pw_or1 (pt_cmpR op_gt (pv 0) (pe_glob (by rfl) T.g_LAST_NOTE T.r_LAST_NOTE) (nomark _)))))
        (pss_one ps_never)
        pss_nil)), ?_⟩
    refine ⟨_, rfl, _, _, rfl, rfl, _, rfl, ifF (decide_eq_false (by omega)) ?_⟩
    refine ⟨_, rfl, _, _, rfl, rfl, _, rfl, ifF (decide_eq_false (by omega)) q⟩
theorem scCp : FnScope ["self", "piece"] ["self", "piece"] (defScope s_Yard_check_piece) := ⟨rfl, rfl, rfl, by decide +kernel, rfl, by decide +kernel, by decide +kernel⟩
theorem ok_Yard_check_piece (T : Txt K mg t) : FnOk P w K mg base CX0 1 t.f_Yard_check_piece t.d_Yard_check_piece ["self", "piece"] (sp_check_piece t.c_Yard) := by
  refine T.F_Yard_check_piece.ok scCp (fun vs H Q E h => ?_) (fun cdv A outer s H vs Q E hr h => ?_)
  · obtain ⟨_, _, _, _, _, rfl, _⟩ := h
    rfl
  · obtain ⟨A, y, L, n, v, rfl, hH, hv, q⟩ := h
    have hu := hu_of hr
    refine ⟨_, (pss_one (ps_if (pt_cmp (pc_dnotin hu (pv 1) (pe_fld (pv 0) rfl)))
        (pss_one ps_never)
        pss_nil)), ?_⟩
    refine ⟨_, rfl, _, rfl, A.p, _, A.dx, _, _, rfl, hH.get 1 rfl, T.cl_Yard, T.n_Yard_kinds, fl_kinds _ _ _, A.k, _, rfl, DGet.k (k := Sum.inl n) (hH.get 3 rfl), _, rfl, ?_⟩
    exact ifF (by rw [hv]; rfl) q
theorem scNr : FnScope ["self", "side"] ["self", "side"] (defScope s_Yard_new_rod) := ⟨rfl, rfl, rfl, by decide +kernel, rfl, by decide +kernel, by decide +kernel⟩
theorem ok_Yard_new_rod (T : Txt K mg t) : FnOk P w K mg base CX0 2 t.f_Yard_new_rod t.d_Yard_new_rod ["self", "side"] (sp_new_rod t.c_Yard) := by
  refine T.F_Yard_new_rod.ok scNr (fun vs H Q E h => ?_) (fun cdv A outer s H vs Q E hr h => ?_)
  · obtain ⟨_, _, _, _, rfl, _⟩ := h
    rfl
  · obtain ⟨A, y, L, z, rfl, hH, hz, sm, q⟩ := h
    refine ⟨_, (pss_cons (ps_expr (pe_call (ok_check_side T) (hr.mono (by decide)) (by rfl) T.m_check_side T.F_check_side.kp (b_check_side T) .nil pass0 (pa_cons (pv 1) pa_nil)))
      (pss_cons (ps_expr (pe_bm PySem.F.plainAttrs_list PySem.F.slot_list_append PySem.F.type_list_append mt_append (pe_fld (pv 0) rfl) (pa_cons (pv 1) pa_nil)))
      (pss_cons (ps_expr (pe_meth0 (pv 0) T.cl_Yard T.M_Yard_end_trail (ok_Yard_end_trail T) (hr.mono (by decide)) (b_Yard_end_trail T) .nil pass0))
      (pss_one (ps_ret (pe_op op_sub (pe_callB call_len_seq (by rfl) T.z_len (by rfl) (pa_cons (pe_fld (pv 0) rfl) pa_nil)) pe_int)))))), ?_⟩
    refine ⟨_, rfl, z, rfl, hz, ?_⟩
    refine ⟨_, rfl, A.p, _, A.dx, _, _, rfl, hH.get 1 rfl, T.cl_Yard, T.n_Yard_sides, fl_sides _ _ _, .inl ⟨rfl, _, SqL.of (hH.get 6 rfl)⟩, _, rfl, A.s, _, _, rfl, rfl, hH.get 6 rfl, sizeOk (by omega), ?_⟩
    have h1 : Has _ (yL t.c_Yard A { y with sides := y.sides ++ [.int z] } ++ L) := hH.puti 6 rfl (.lst (y.sides ++ [.int z]))
    refine ⟨_, rfl, A.p, A.dx, _, rfl, h1.get 1 rfl, (fl_m _ _ _).2.2.2.2.2.2.1, A, _, L, rfl, h1, fun H' a h2 => ?_⟩
    refine ⟨_, rfl, A.p, _, A.dx, _, _, rfl, h2.get 1 rfl, T.cl_Yard, T.n_Yard_sides, fl_sides _ _ _, A.s, _, rfl, .inl (SqL.of (h2.get 6 rfl)), _, _, rfl, rfl, ?_⟩
    have e : ((y.sides ++ [V.int z]).length : Int) - 1 = y.sides.length := by rw [List.length_append, List.length_singleton]; omega
    show Q (.int (((y.sides ++ [V.int z]).length : Int) - 1)) H'
    rw [e]
    exact q H' a h2
theorem scTh : FnScope ["self", "rod", "side"] ["self", "rod", "side"] (defScope s_Yard_throw) := ⟨rfl, rfl, rfl, by decide +kernel, rfl, by decide +kernel, by decide +kernel⟩
theorem ok_Yard_throw (T : Txt K mg t) : FnOk P w K mg base CX0 2 t.f_Yard_throw t.d_Yard_throw ["self", "rod", "side"] (sp_throw t.c_Yard) := by
  refine T.F_Yard_throw.ok scTh (fun vs H Q E h => ?_) (fun cdv A outer s H vs Q E hr h => ?_)
  · obtain ⟨_, _, _, _, _, rfl, _⟩ := h
    rfl
  · obtain ⟨A, y, L, r, z, rfl, hH, r0, r1, hz, q⟩ := h
    refine ⟨_, (pss_cons (ps_expr (pe_meth (pv 0) T.cl_Yard T.M_Yard_check_rod (ok_Yard_check_rod T) (hr.mono (by decide)) (b_Yard_check_rod T) .nil pass0 (pa_cons (pv 1) pa_nil)))
      (pss_cons (ps_expr (pe_call (ok_check_side T) (hr.mono (by decide)) (by rfl) T.m_check_side T.F_check_side.kp (b_check_side T) .nil pass0 (pa_cons (pv 2) pa_nil)))
      (pss_cons (ps_asg (pv 2) (pg_sub (pe_fld (pv 0) rfl) (pv 1) set_list))
      (pss_one (ps_expr (pe_meth0 (pv 0) T.cl_Yard T.M_Yard_end_trail (ok_Yard_end_trail T) (hr.mono (by decide)) (b_Yard_end_trail T) .nil pass0)))))), ?_⟩
    refine ⟨_, rfl, A.p, A.dx, _, rfl, hH.get 1 rfl, (fl_m _ _ _).2.2.2.2.2.2.2.2, _, rfl, A, y, L, r, rfl, hH, r0, r1, ?_⟩
    refine ⟨_, rfl, z, rfl, hz, ?_⟩
    have hj : ixN y.sides.length r = some r.toNat := by unfold ixN; rw [if_pos r0, if_pos r1]
    refine ⟨_, rfl, _, rfl, A.p, _, A.dx, _, _, rfl, hH.get 1 rfl, T.cl_Yard, T.n_Yard_sides, fl_sides _ _ _, _, rfl, A.s, _, r, r.toNat, rfl, rfl, hH.get 6 rfl, hj, ?_⟩
    have h1 : Has _ (yL t.c_Yard A { y with sides := y.sides.set r.toNat (.int z) } ++ L) := hH.puti 6 rfl (.lst (y.sides.set r.toNat (.int z)))
    exact ⟨_, rfl, A.p, A.dx, _, rfl, h1.get 1 rfl, (fl_m _ _ _).2.2.2.2.2.2.1, A, _, L, rfl, h1, fun H' a h2 => q H' a h2⟩
theorem scRs : FnScope ["self"] ["self"] (defScope s_Yard_rods) := ⟨rfl, rfl, rfl, by decide +kernel, rfl, by decide +kernel, by decide +kernel⟩
theorem ok_Yard_rods (T : Txt K mg t) : FnOk P w K mg base CX0 1 t.f_Yard_rods t.d_Yard_rods ["self"] (sp_rods t.c_Yard) := by
  refine T.F_Yard_rods.ok scRs (fun vs H Q E h => ?_) (fun cdv A outer s H vs Q E hr h => ?_)
  · obtain ⟨_, _, _, rfl, _⟩ := h
    rfl
  · obtain ⟨A, y, L, rfl, hH, sm, q⟩ := h
    refine ⟨_, (pss_one (ps_ret (pe_callTy (call_list_rng rfl) (by rfl) T.z_list (by rfl) (pa_cons (pe_callTy call_range1 (by rfl) T.z_range (by rfl) (pa_cons (pe_callB call_len_seq (by rfl) T.z_len (by rfl) (pa_cons (pe_fld (pv 0) rfl) pa_nil)) pa_nil)) pa_nil)))), ?_⟩
    have := sm.s
    refine ⟨_, rfl, A.p, _, A.dx, _, _, rfl, hH.get 1 rfl, T.cl_Yard, T.n_Yard_sides, fl_sides _ _ _, A.s, _, rfl, .inl (SqL.of (hH.get 6 rfl)), _, rfl, fun a ha => ?_⟩
    have h1 := hH.alloc ha (.rng 0 y.sides.length)
    refine ⟨a, _, rfl, h1.get 0 rfl, by omega, by omega, fun l hl => ?_⟩
    have h2 := h1.alloc hl (.lst (intsV ((y.sides.length : Int)).toNat))
    refine q _ l ?_
    exact h2.swap2.tail
theorem scSi : FnScope ["self", "rod"] ["self", "rod"] (defScope s_Yard_side) := ⟨rfl, rfl, rfl, by decide +kernel, rfl, by decide +kernel, by decide +kernel⟩
theorem ok_Yard_side (T : Txt K mg t) : FnOk P w K mg base CX0 2 t.f_Yard_side t.d_Yard_side ["self", "rod"] (sp_side t.c_Yard) := by
  refine T.F_Yard_side.ok scSi (fun vs H Q E h => ?_) (fun cdv A outer s H vs Q E hr h => ?_)
  · obtain ⟨_, _, _, _, _, rfl, _⟩ := h
    rfl
  · obtain ⟨A, y, L, r, v, rfl, hH, r0, hv, q⟩ := h
    have r1 : r < y.sides.length := by have := (List.getElem?_eq_some_iff.mp hv).1; omega
    have er : (r.toNat : Int) = r := by omega
    refine ⟨_, (pss_cons (ps_expr (pe_meth (pv 0) T.cl_Yard T.M_Yard_check_rod (ok_Yard_check_rod T) (hr.mono (by decide)) (b_Yard_check_rod T) .nil pass0 (pa_cons (pv 1) pa_nil)))
      (pss_one (ps_ret (pe_ix ix_list (pe_fld (pv 0) rfl) (pv 1) (fun _ _ => rfl))))), ?_⟩
    refine ⟨_, rfl, A.p, A.dx, _, rfl, hH.get 1 rfl, (fl_m _ _ _).2.2.2.2.2.2.2.2, _, rfl, A, y, L, r, rfl, hH, r0, r1, ?_⟩
    exact ⟨_, rfl, A.p, _, A.dx, _, _, rfl, hH.get 1 rfl, T.cl_Yard, T.n_Yard_sides, fl_sides _ _ _, _, rfl, A.s, _, r, v, rfl, rfl, SqL.of (hH.get 6 rfl), (by rw [← er]; exact atI_nat hv), q⟩
theorem scRo : FnScope ["self", "piece"] ["self", "piece"] (defScope s_Yard_rod) := ⟨rfl, rfl, rfl, by decide +kernel, rfl, by decide +kernel, by decide +kernel⟩
theorem ok_Yard_rod (T : Txt K mg t) : FnOk P w K mg base CX0 2 t.f_Yard_rod t.d_Yard_rod ["self", "piece"] (sp_rod t.c_Yard) := by
  refine T.F_Yard_rod.ok scRo (fun vs H Q E h => ?_) (fun cdv A outer s H vs Q E hr h => ?_)
  · obtain ⟨_, _, _, _, _, _, rfl, _⟩ := h
    rfl
  · obtain ⟨A, y, L, n, u, v, rfl, hH, hk, hv, q⟩ := h
    have hu := hu_of hr
    refine ⟨_, (pss_cons (ps_expr (pe_meth (pv 0) T.cl_Yard T.M_Yard_check_piece (ok_Yard_check_piece T) (hr.mono (by decide)) (b_Yard_check_piece T) .nil pass0 (pa_cons (pv 1) pa_nil)))
      (pss_cons (ps_if (pt_cmp (pc_dnotin hu (pv 1) (pe_fld (pv 0) rfl)))
        (pss_one ps_never)
        pss_nil)
      (pss_one (ps_ret (pe_dget hu (pe_fld (pv 0) rfl) (pv 1) (fun _ _ => rfl)))))), ?_⟩
    refine ⟨_, rfl, A.p, A.dx, _, rfl, hH.get 1 rfl, (fl_m _ _ _).2.2.2.2.2.2.2.1, _, rfl, A, y, L, n, u, rfl, hH, hk, ?_⟩
    refine ⟨_, rfl, _, rfl, A.p, _, A.dx, _, _, rfl, hH.get 1 rfl, T.cl_Yard, T.n_Yard_rods_under, fl_rods _ _ _, A.r, _, rfl, DGet.k (k := Sum.inl n) (hH.get 5 rfl), _, rfl, ifF (by rw [hv]; rfl) ?_⟩
    refine ⟨_, rfl, A.p, _, A.dx, _, _, rfl, hH.get 1 rfl, T.cl_Yard, T.n_Yard_rods_under, fl_rods _ _ _, _, rfl, A.r, _, rfl, ?_, q⟩
    rw [← hv]
    exact DGet.k (k := Sum.inl n) (hH.get 5 rfl)
theorem scLy : FnScope ["self", "kind", "note", "rod", "point", "piece"] ["self", "kind", "note", "rod"] (defScope s_Yard_lay) := ⟨rfl, rfl, rfl, by decide +kernel, rfl, by decide +kernel, by decide +kernel⟩
theorem ok_Yard_lay (T : Txt K mg t) : FnOk P w K mg base CX0 3 t.f_Yard_lay t.d_Yard_lay ["self", "kind", "note", "rod"] (sp_lay t.c_Yard) := by
  obtain ⟨ds_nr, hd_Yard_new_rod_1, hb_Yard_new_rod_1⟩ := bD_Yard_new_rod_1 T
  refine T.F_Yard_lay.ok scLy (fun vs H Q E h => ?_) (fun cdv A outer s H vs Q E hr h => ?_)
  · obtain ⟨_, _, _, _, _, _, rfl, _⟩ := h
    rfl
  · obtain ⟨A, y, L, k, note, rod, rfl, hH, sm, hnote, hrod, q⟩ := h
    have hu := hu_of hr
    refine ⟨_, (pss_cons (ps_set (i := 4) scLy.nd rfl (Or.inl rfl) (pe_call (ok_is_point T) (hr.mono (by decide)) (by rfl) T.m_is_point T.F_is_point.kp (b_is_point T) .nil pass0 (pa_cons (pv 1) pa_nil)))
      (pss_cons (ps_if (pt_cmpR op_eq (pv 1) pe_str (nomark _))
        (pss_one (ps_expr (pe_call (ok_check_note T) (hr.mono (by decide)) (by rfl) T.m_check_note T.F_check_note.kp (b_check_note T) .nil pass0 (pa_cons (pv 2) pa_nil))))
        pss_nil)
      (pss_cons (ps_if (PW.pt (pw_and (pt_val (pv 4)) (pw_and1 (pt_cmpR op_notN (pv 3) pe_non (nomark _)))))
        (pss_one (ps_expr (pe_meth (pv 0) T.cl_Yard T.M_Yard_check_rod (ok_Yard_check_rod T) (hr.mono (by decide)) (b_Yard_check_rod T) .nil pass0 (pa_cons (pv 3) pa_nil))))
        pss_nil)
      (pss_cons (ps_set (i := 5) scLy.nd rfl (Or.inl rfl) (pe_fld (pv 0) rfl))
      (pss_cons (ps_fldaug (pv 0) pe_int in_add)
      (pss_cons (ps_dput hu (pe_fld (pv 0) rfl) (pv 5) (pv 1) rfl)
      (pss_cons (ps_if (pt_cmpR op_eq (pv 1) pe_str (nomark _))
        (pss_one (ps_dput hu (pe_fld (pv 0) rfl) (pv 5) (pv 2) rfl))
        pss_nil)
      (pss_cons (ps_if (pt_val (pv 4))
        (pss_one (ps_dput hu (pe_fld (pv 0) rfl) (pv 5) (pe_ifExp (pt_cmpR op_isN (pv 3) pe_non (nomark _)) (pe_meth0 (pv 0) T.cl_Yard T.M_Yard_new_rod (ok_Yard_new_rod T) (hr.mono (by decide)) hb_Yard_new_rod_1 hd_Yard_new_rod_1 pass0) (pv 3)) rfl))
        pss_nil)
      (pss_cons (ps_expr (pe_meth0 (pv 0) T.cl_Yard T.M_Yard_end_trail (ok_Yard_end_trail T) (hr.mono (by decide)) (b_Yard_end_trail T) .nil pass0))
      (pss_one (ps_ret (pv 5)))))))))))), ?_⟩
    refine ⟨_, rfl, k, rfl, ?_⟩
    refine ⟨_, rfl, rfl, _, rfl, ifJ (fun hc g => ?_) ?_⟩
    · rw [k.isBell] at hc
      have hb := hnote (of_decide_eq_true hc)
      exact ⟨_, rfl, note, rfl, hb.1, hb.2, g⟩
    refine ⟨_, rfl, _, rfl, ?_⟩
    refine (fun (g : _) => if2 (fun hp => ⟨_, rfl, rfl, _, rfl, ifJ (fun hc g' => ?a) g⟩) (fun hp => iteF g)) ?b
    case a =>
      have hn : rod ≠ .non := by simpa using hc
      obtain ⟨r, rfl, r0, r1⟩ := hrod hp hn
      exact ⟨_, rfl, A.p, A.dx, _, rfl, hH.get 1 rfl, (fl_m _ _ _).2.2.2.2.2.2.2.2, _, rfl, A, y, L, r, rfl, hH, r0, r1, g'⟩
    refine ⟨_, rfl, A.p, _, A.dx, _, _, rfl, hH.get 1 rfl, T.cl_Yard, T.n_Yard_next_piece, fl_next _ _ _, ?_⟩
    refine ⟨_, rfl, A.p, _, A.dx, _, _, rfl, hH.get 1 rfl, T.cl_Yard, T.n_Yard_next_piece, fl_next _ _ _, _, _, rfl, rfl, _, _, hH.get 1 rfl, (show 9 < 1000 by decide), ?_⟩
    rw [fl_put_next]
    have h1 : Has _ (yL t.c_Yard A { y with next := y.next + 1 } ++ L) := hH.puti 1 rfl (.ins t.c_Yard A.dx (fl A (y.next + 1) y.eng))
    generalize upd H A.p _ = H1 at h1 ⊢
    refine ⟨_, rfl, _, rfl, A.p, _, A.dx, _, _, rfl, h1.get 1 rfl, T.cl_Yard, T.n_Yard_kinds, fl_kinds _ _ _, _, rfl, A.k, _, rfl, DPut.k (k := Sum.inl y.next) (h1.get 3 rfl) (sizeOk (show y.kinds.length ≤ 1000000 by have := sm.k; omega)), ?_⟩
    have h2 : Has _ (yL t.c_Yard A { y with next := y.next + 1, kinds := putK y.kinds (Sum.inl y.next) (.str k.str) } ++ L) := h1.puti 3 rfl (.dK (putK y.kinds (Sum.inl y.next) (.str k.str)))
    generalize upd H1 A.k _ = H2 at h2 ⊢
    refine ⟨_, rfl, rfl, _, rfl, ?_⟩
    rw [k.isBell]
    have fin : ∀ (H3 : Hp) (A3 : YA) (y3 : YR), A3.p = A.p → (∀ q, { A3 with tr := q } = { A with tr := q }) → { y3 with trail := [] } = layY y k note rod → Has H3 (yL t.c_Yard A3 y3 ++ L) →
        tSeq (tDrop (tMeth t.c_Yard "end_trail" (sp_end_trail t.c_Yard) [] E0 (tVar 0) tNil)) (tRet (tVar 5)) { nx := fun _ H' => Q .non H', rt := Q } [some (.ref A.p), some (.str k.str), some (.int note), some rod, some (.bl k.point), some (.int y.next)] H3 := fun H3 A3 y3 e1 e2 e3 h3 => by
      have g1 := h3.get 1 rfl
      rw [e1] at g1
      refine ⟨_, rfl, A.p, A3.dx, _, rfl, g1, (fl_m _ _ _).2.2.2.2.2.2.1, A3, y3, L, (by rw [e1]; rfl), h3, fun H4 a h4 => ⟨_, rfl, ?_⟩⟩
      rw [e2, e3] at h4
      exact q H4 a h4
    refine ifd (fun hb => ?_) (fun hb => ?_)
    · subst hb
      refine ⟨_, rfl, _, rfl, A.p, _, A.dx, _, _, rfl, h2.get 1 rfl, T.cl_Yard, T.n_Yard_notes, fl_notes _ _ _, _, rfl, A.n, _, rfl, DPut.k (k := Sum.inl y.next) (h2.get 4 rfl) (sizeOk (show y.notes.length ≤ 1000000 by have := sm.n; omega)), ?_⟩
      have h3 : Has _ (yL t.c_Yard A { y with next := y.next + 1, kinds := putK y.kinds (Sum.inl y.next) (.str Kd.bell.str), notes := putK y.notes (Sum.inl y.next) (.int note) } ++ L) := h2.puti 4 rfl (.dK (putK y.notes (Sum.inl y.next) (.int note)))
      refine ⟨_, rfl, _, rfl, iteF ?_⟩
      exact fin _ A _ rfl (fun _ => rfl) rfl h3
    · refine ⟨_, rfl, _, rfl, if2 (fun hp => ?_) (fun hp => ?_)⟩
      · refine ⟨_, rfl, rfl, _, rfl, ifd (fun hn => ?_) (fun hn => ?_)⟩
        · subst hn
          refine ⟨_, rfl, A.p, A.dx, _, rfl, h2.get 1 rfl, (fl_m _ _ _).2.1, A, _, L, 1, rfl, h2, .inl rfl, sm.s, fun H3 a h3 => ?_⟩
          refine ⟨_, rfl, A.p, _, A.dx, _, _, rfl, h3.get 1 rfl, T.cl_Yard, T.n_Yard_rods_under, fl_rods _ _ _, _, rfl, A.r, _, rfl, DPut.k (k := Sum.inl y.next) (h3.get 5 rfl) (sizeOk (show y.rods.length ≤ 1000000 by have := sm.r; omega)), ?_⟩
          have h4 : Has _ (yL t.c_Yard { A with tr := a } { y with next := y.next + 1, kinds := putK y.kinds (Sum.inl y.next) (.str k.str), rods := putK y.rods (Sum.inl y.next) (.int y.sides.length), sides := y.sides ++ [.int 1], trail := [] } ++ L) := h3.puti 5 rfl (.dK (putK y.rods (Sum.inl y.next) (.int y.sides.length)))
          exact fin _ { A with tr := a } _ rfl (fun _ => rfl) (by unfold layY; rw [if_neg hb, if_pos hp, if_pos rfl, if_pos ⟨hp, rfl⟩]) h4
        · refine ⟨_, rfl, _, rfl, A.p, _, A.dx, _, _, rfl, h2.get 1 rfl, T.cl_Yard, T.n_Yard_rods_under, fl_rods _ _ _, _, rfl, A.r, _, rfl, DPut.k (k := Sum.inl y.next) (h2.get 5 rfl) (sizeOk (show y.rods.length ≤ 1000000 by have := sm.r; omega)), ?_⟩
          have h3 : Has _ (yL t.c_Yard A { y with next := y.next + 1, kinds := putK y.kinds (Sum.inl y.next) (.str k.str), rods := putK y.rods (Sum.inl y.next) rod } ++ L) := h2.puti 5 rfl (.dK (putK y.rods (Sum.inl y.next) rod))
          exact fin _ A _ rfl (fun _ => rfl) (by unfold layY; rw [if_neg hb, if_pos hp, if_neg hn, if_neg (fun z => hn z.2)]) h3
      · exact fin _ A _ rfl (fun _ => rfl) (by unfold layY; rw [if_neg hb, if_neg (by rw [hp]; exact Bool.false_ne_true), if_neg (fun z => by rw [hp] at z; exact Bool.false_ne_true z.1)]) h2
end

end P


set_option Elab.async false
set_option linter.all false
set_option maxRecDepth 100000
set_option maxHeartbeats 4000000
namespace P
open PySem L2

abbrev kE (n e : Int) : List Key := [Sum.inl n, Sum.inl e]
theorem fl_m2 (A : YA) (next : Int) (eng : V) : (fl A next eng).lookup ("check_there" : Str) = none ∧ (fl A next eng).lookup ("mate" : Str) = none ∧ (fl A next eng).lookup ("link" : Str) = none ∧ (fl A next eng).lookup ("unlink" : Str) = none :=
  ⟨by kernel_rfl, by kernel_rfl, by kernel_rfl, by kernel_rfl⟩
def There (y : YR) (n e : Int) : Prop := ∃ k : Kd, valV y.kinds (Sum.inl n) = some (.str k.str) ∧ 0 ≤ e ∧ e < k.many
def sp_check_there (C : Addr) : Sp := fun vs H Q _ => ∃ (A : YA) (y : YR) (L : Kn) (b : Addr) (n e : Int) (j : Nat), vs = [.ref A.p, .ref b] ∧ Has H (yL C A y ++ L) ∧ L[j]? = some (b, .tup [.int n, .int e]) ∧ There y n e ∧ Q .non H
def sp_mate (C : Addr) : Sp := fun vs H Q _ => ∃ (A : YA) (y : YR) (L : Kn) (b : Addr) (n e : Int) (j : Nat), vs = [.ref A.p, .ref b] ∧ Has H (yL C A y ++ L) ∧ L[j]? = some (b, .tup [.int n, .int e]) ∧ There y n e ∧ Q ((valV y.mates (kE n e)).getD .non) H
def sp_link (C : Addr) : Sp := fun vs H Q _ => ∃ (A : YA) (y : YR) (L : Kn) (b1 b2 : Addr) (n1 e1 n2 e2 : Int) (j1 j2 : Nat), vs = [.ref A.p, .ref b1, .ref b2] ∧ Has H (yL C A y ++ L) ∧ L[j1]? = some (b1, .tup [.int n1, .int e1]) ∧ L[j2]? = some (b2, .tup [.int n2, .int e2]) ∧
  There y n1 e1 ∧ There y n2 e2 ∧ ¬ kE n1 e1 = kE n2 e2 ∧ valV y.mates (kE n1 e1) = none ∧ valV y.mates (kE n2 e2) = none ∧ y.mates.length ≤ 30000 ∧
  ∀ H' q, Has H' (yL C { A with tr := q } { y with mates := putK (putK y.mates (kE n1 e1) (.ref b2)) (kE n2 e2) (.ref b1), trail := [] } ++ L) → Q .non H'
section
variable {P : Program} {w : World} {K : PySem.W.Frag} {mg : Str → Option Value} {base : Heap} {t : Adr}
theorem scCt : FnScope ["self", "end", "piece", "place"] ["self", "end"] (defScope s_Yard_check_there) := ⟨rfl, rfl, rfl, by decide +kernel, rfl, by decide +kernel, by decide +kernel⟩
theorem ok_Yard_check_there (T : Txt K mg t) : FnOk P w K mg base CX0 3 t.f_Yard_check_there t.d_Yard_check_there ["self", "end"] (sp_check_there t.c_Yard) := by
  refine T.F_Yard_check_there.ok scCt (fun vs H Q E h => ?_) (fun cdv A outer s H vs Q E hr h => ?_)
  · obtain ⟨_, _, _, _, _, _, _, rfl, _⟩ := h
    rfl
  · obtain ⟨A, y, L, b, n, e, j, rfl, hH, hj, ⟨k, hk, e0, e1⟩, q⟩ := h
    have hu := hu_of hr
    refine ⟨_, (pss_cons (ps_asg (pv 1) (pg_tup rfl (pgs_cons (pg_name (i := 2) scCt.nd rfl (Or.inl rfl)) (pgs_cons (pg_name (i := 3) scCt.nd rfl (Or.inl rfl)) pgs_nil))))
      (pss_cons (ps_expr (pe_meth (pv 0) T.cl_Yard T.M_Yard_check_piece (ok_Yard_check_piece T) (hr.mono (by decide)) (b_Yard_check_piece T) .nil pass0 (pa_cons (pv 2) pa_nil)))
      (pss_one (ps_expr (pe_call (ok_check_end T) (hr.mono (by decide)) (by rfl) T.m_check_end T.F_check_end.kp (b_check_end T) .nil pass0 (pa_cons (pe_dget hu (pe_fld (pv 0) rfl) (pv 2) (fun _ _ => rfl)) (pa_cons (pv 3) pa_nil))))))), ?_⟩
    have gb := hH.get (j + 9) (by simpa [yL] using hj)
    refine ⟨_, rfl, b, _, rfl, SqT.of gb, rfl, _, _, rfl, _, _, rfl, rfl, ?_⟩
    refine ⟨_, rfl, A.p, A.dx, _, rfl, hH.get 1 rfl, (fl_m _ _ _).2.2.2.2.2.2.2.1, _, rfl, A, y, L, n, _, rfl, hH, hk, ?_⟩
    refine ⟨_, rfl, A.p, _, A.dx, _, _, rfl, hH.get 1 rfl, T.cl_Yard, T.n_Yard_kinds, fl_kinds _ _ _, _, rfl, A.k, _, rfl, ?_, _, rfl, k, e, rfl, e0, e1, q⟩
    rw [← hk]
    exact DGet.k (k := Sum.inl n) (hH.get 3 rfl)
theorem scMt : FnScope ["self", "end"] ["self", "end"] (defScope s_Yard_mate) := ⟨rfl, rfl, rfl, by decide +kernel, rfl, by decide +kernel, by decide +kernel⟩
theorem ok_Yard_mate (T : Txt K mg t) : FnOk P w K mg base CX0 4 t.f_Yard_mate t.d_Yard_mate ["self", "end"] (sp_mate t.c_Yard) := by
  refine T.F_Yard_mate.ok scMt (fun vs H Q E h => ?_) (fun cdv A outer s H vs Q E hr h => ?_)
  · obtain ⟨_, _, _, _, _, _, _, rfl, _⟩ := h
    rfl
  · obtain ⟨A, y, L, b, n, e, j, rfl, hH, hj, th, q⟩ := h
    have hu := hu_of hr
    refine ⟨_, (pss_cons (ps_expr (pe_meth (pv 0) T.cl_Yard T.M_Yard_check_there (ok_Yard_check_there T) (hr.mono (by decide)) (b_Yard_check_there T) .nil pass0 (pa_cons (pv 1) pa_nil)))
      (pss_one (ps_ret (pe_dget1 hu (pe_fld (pv 0) rfl) (pv 1) ⟨rfl, rfl, rfl, rfl⟩)))), ?_⟩
    have gb := hH.get (j + 9) (by simpa [yL] using hj)
    refine ⟨_, rfl, A.p, A.dx, _, rfl, hH.get 1 rfl, (fl_m2 _ _ _).1, _, rfl, A, y, L, b, n, e, j, rfl, hH, hj, th, ?_⟩
    exact ⟨_, rfl, A.p, _, A.dx, _, _, rfl, hH.get 1 rfl, T.cl_Yard, T.n_Yard_mates, fl_mates _ _ _, A.m, rfl, .inr ⟨_, .inl (hH.get 7 rfl)⟩, _, rfl, _, DGet.t (k := kE n e) (hH.get 7 rfl) gb, q⟩
theorem scLk : FnScope ["self", "one", "other", "end"] ["self", "one", "other"] (defScope s_Yard_link) := ⟨rfl, rfl, rfl, by decide +kernel, rfl, by decide +kernel, by decide +kernel⟩
theorem ok_Yard_link (T : Txt K mg t) : FnOk P w K mg base CX0 4 t.f_Yard_link t.d_Yard_link ["self", "one", "other"] (sp_link t.c_Yard) := by
  refine T.F_Yard_link.ok scLk (fun vs H Q E h => ?_) (fun cdv A outer s H vs Q E hr h => ?_)
  · obtain ⟨_, _, _, _, _, _, _, _, _, _, _, rfl, _⟩ := h
    rfl
  · obtain ⟨A, y, L, b1, b2, n1, e1, n2, e2, j1, j2, rfl, hH, hj1, hj2, t1, t2, ne, v1, v2, hl, q⟩ := h
    have hu := hu_of hr
    refine ⟨_, (pss_cons (ps_expr (pe_meth (pv 0) T.cl_Yard T.M_Yard_check_there (ok_Yard_check_there T) (hr.mono (by decide)) (b_Yard_check_there T) .nil pass0 (pa_cons (pv 1) pa_nil)))
      (pss_cons (ps_expr (pe_meth (pv 0) T.cl_Yard T.M_Yard_check_there (ok_Yard_check_there T) (hr.mono (by decide)) (b_Yard_check_there T) .nil pass0 (pa_cons (pv 2) pa_nil)))
      (pss_cons (ps_if (pt_cmpR (op_eqT hr.units) (pv 1) (pv 2) (nomark _))
        (pss_one ps_never)
        pss_nil)
      (pss_cons (ps_for PassesOwn.never rfl (pi_tup (pe_tup (pa_cons (pv 1) (pa_cons (pv 2) pa_nil)))) (pg_name (i := 3) scLk.nd rfl (Or.inl rfl))
        (pss_one (ps_if (pt_cmp (pc_din hu (pv 3) (pe_fld (pv 0) rfl)))
            (pss_one ps_never)
            pss_nil)))
      (pss_cons (ps_dput hu (pe_fld (pv 0) rfl) (pv 1) (pv 2) rfl)
      (pss_cons (ps_dput hu (pe_fld (pv 0) rfl) (pv 2) (pv 1) rfl)
      (pss_one (ps_expr (pe_meth0 (pv 0) T.cl_Yard T.M_Yard_end_trail (ok_Yard_end_trail T) (hr.mono (by decide)) (b_Yard_end_trail T) .nil pass0))))))))), ?_⟩
    have g1 := hH.get (j1 + 9) (by simpa [yL] using hj1)
    have g2 := hH.get (j2 + 9) (by simpa [yL] using hj2)
    refine ⟨_, rfl, A.p, A.dx, _, rfl, hH.get 1 rfl, (fl_m2 _ _ _).1, _, rfl, A, y, L, b1, n1, e1, j1, rfl, hH, hj1, t1, ?_⟩
    refine ⟨_, rfl, A.p, A.dx, _, rfl, hH.get 1 rfl, (fl_m2 _ _ _).1, _, rfl, A, y, L, b2, n2, e2, j2, rfl, hH, hj2, t2, ?_⟩
    have ne' : ¬ [n1, e1] = [n2, e2] := fun z => ne (by cases z; rfl)
    refine ⟨_, rfl, _, rfl, b1, b2, [n1, e1], [n2, e2], rfl, rfl, g1, g2, _, rfl, ifF (decide_eq_false ne') ?_⟩
    refine ⟨_, rfl, _, rfl, (show 2 ≤ sizeLine by decide), fun p hp => ?_⟩
    have h1 := (hH.alloc hp (.tup [.ref b1, .ref b2]))
    generalize upd H p _ = H1 at h1 ⊢
    refine ⟨p, rfl, ⟨_, SqT.of (h1.get 0 rfl)⟩, for_tup (xs := [.ref b1, .ref b2]) (fun i σ H' => H' = H1 ∧ ∃ o, σ = [some (.ref A.p), some (.ref b1), some (.ref b2), o]) ⟨rfl, _, rfl⟩ (fun i σ H' _ ⟨e, _⟩ => by rw [e]; exact SqT.of (h1.get 0 rfl)) ?_ ?_⟩
    · rintro i x σ H' hx ⟨rfl, o, rfl⟩
      have k1 := h1.get (j1 + 10) (by simpa [yL] using hj1)
      have k2 := h1.get (j2 + 10) (by simpa [yL] using hj2)
      match i, hx with
      | 0, hx =>
        cases hx
        refine ⟨_, rfl, _, rfl, A.p, _, A.dx, _, _, rfl, h1.get 2 rfl, T.cl_Yard, T.n_Yard_mates, fl_mates _ _ _, A.m, _, rfl, DGet.t (k := kE n1 e1) (h1.get 8 rfl) k1, _, rfl, ifF (by rw [v1]; rfl) ⟨rfl, _, rfl⟩⟩
      | 1, hx =>
        cases hx
        refine ⟨_, rfl, _, rfl, A.p, _, A.dx, _, _, rfl, h1.get 2 rfl, T.cl_Yard, T.n_Yard_mates, fl_mates _ _ _, A.m, _, rfl, DGet.t (k := kE n2 e2) (h1.get 8 rfl) k2, _, rfl, ifF (by rw [v2]; rfl) ⟨rfl, _, rfl⟩⟩
    · rintro σ H' ⟨rfl, o, rfl⟩
      have h2 := h1.tail
      have k1 := h2.get (j1 + 9) (by simpa [yL] using hj1)
      refine ⟨_, rfl, _, rfl, A.p, _, A.dx, _, _, rfl, h2.get 1 rfl, T.cl_Yard, T.n_Yard_mates, fl_mates _ _ _, _, rfl, A.m, _, rfl, DPut.t (k := kE n1 e1) (h2.get 7 rfl) k1 (sizeOk (by omega)), ?_⟩
      have h3 : Has _ (yL t.c_Yard A { y with mates := putK y.mates (kE n1 e1) (.ref b2) } ++ L) := h2.puti 7 rfl (.dT (putK y.mates (kE n1 e1) (.ref b2)))
      generalize upd H' A.m _ = H3 at h3 ⊢
      have k2 := h3.get (j2 + 9) (by simpa [yL] using hj2)
      refine ⟨_, rfl, _, rfl, A.p, _, A.dx, _, _, rfl, h3.get 1 rfl, T.cl_Yard, T.n_Yard_mates, fl_mates _ _ _, _, rfl, A.m, _, rfl, DPut.t (k := kE n2 e2) (h3.get 7 rfl) k2 (sizeOk (Nat.le_trans (length_putK _ _ _) (by omega))), ?_⟩
      have h4 : Has _ (yL t.c_Yard A { y with mates := putK (putK y.mates (kE n1 e1) (.ref b2)) (kE n2 e2) (.ref b1) } ++ L) := h3.puti 7 rfl (.dT (putK (putK y.mates (kE n1 e1) (.ref b2)) (kE n2 e2) (.ref b1)))
      exact ⟨_, rfl, A.p, A.dx, _, rfl, h4.get 1 rfl, (fl_m _ _ _).2.2.2.2.2.2.1, A, _, L, rfl, h4, fun H' a h2 => q H' a h2⟩
end

theorem fl_m4 (A : YA) (next : Int) (eng : V) : (fl A next eng).lookup ("put" : Str) = none ∧ (fl A next eng).lookup ("off" : Str) = none ∧ (fl A next eng).lookup ("carry" : Str) = none ∧ (fl A next eng).lookup ("pieces" : Str) = none ∧ (fl A next eng).lookup ("kind" : Str) = none ∧
    (fl A next eng).lookup ("note" : Str) = none ∧ (fl A next eng).lookup ("engine" : Str) = none ∧ (fl A next eng).lookup ("bells" : Str) = none ∧ (fl A next eng).lookup ("steps" : Str) = none :=
  ⟨by kernel_rfl, by kernel_rfl, by kernel_rfl, by kernel_rfl, by kernel_rfl, by kernel_rfl, by kernel_rfl, by kernel_rfl, by kernel_rfl⟩
def sp_put (C : Addr) : Sp := fun vs H Q _ => ∃ (A : YA) (y : YR) (L : Kn) (b : Addr) (n e : Int) (j : Nat), vs = [.ref A.p, .ref b] ∧ Has H (yL C A y ++ L) ∧ L[j]? = some (b, .tup [.int n, .int e]) ∧ There y n e ∧
  ∀ H' q, Has H' (yL C { A with tr := q } { y with eng := .ref b, trail := [] } ++ L) → Q .non H'
def sp_engine (C : Addr) : Sp := fun vs H Q _ => ∃ (A : YA) (y : YR) (L : Kn), vs = [.ref A.p] ∧ Has H (yL C A y ++ L) ∧ Q y.eng H
def sp_ykind (C : Addr) : Sp := fun vs H Q _ => ∃ (A : YA) (y : YR) (L : Kn) (n : Int) (v : V), vs = [.ref A.p, .int n] ∧ Has H (yL C A y ++ L) ∧ valV y.kinds (Sum.inl n) = some v ∧ Q v H
section
variable {P : Program} {w : World} {K : PySem.W.Frag} {mg : Str → Option Value} {base : Heap} {t : Adr}
theorem scPu : FnScope ["self", "end"] ["self", "end"] (defScope s_Yard_put) := ⟨rfl, rfl, rfl, by decide +kernel, rfl, by decide +kernel, by decide +kernel⟩
theorem ok_Yard_put (T : Txt K mg t) : FnOk P w K mg base CX0 4 t.f_Yard_put t.d_Yard_put ["self", "end"] (sp_put t.c_Yard) := by
  refine T.F_Yard_put.ok scPu (fun vs H Q E h => ?_) (fun cdv A outer s H vs Q E hr h => ?_)
  · obtain ⟨_, _, _, _, _, _, _, rfl, _⟩ := h
    rfl
  · obtain ⟨A, y, L, b, n, e, j, rfl, hH, hj, th, q⟩ := h
    refine ⟨_, (pss_cons (ps_expr (pe_meth (pv 0) T.cl_Yard T.M_Yard_check_there (ok_Yard_check_there T) (hr.mono (by decide)) (b_Yard_check_there T) .nil pass0 (pa_cons (pv 1) pa_nil)))
      (pss_cons (ps_fld (pv 0) (pv 1) rfl)
      (pss_one (ps_expr (pe_meth0 (pv 0) T.cl_Yard T.M_Yard_end_trail (ok_Yard_end_trail T) (hr.mono (by decide)) (b_Yard_end_trail T) .nil pass0))))), ?_⟩
    refine ⟨_, rfl, A.p, A.dx, _, rfl, hH.get 1 rfl, (fl_m2 _ _ _).1, _, rfl, A, y, L, b, n, e, j, rfl, hH, hj, th, ?_⟩
    refine ⟨_, rfl, _, rfl, A.p, _, A.dx, _, rfl, hH.get 1 rfl, T.cl_Yard, T.n_Yard_engine_end, (show 9 < 1000 by decide), ?_⟩
    rw [fl_put_eng]
    have h1 : Has _ (yL t.c_Yard A { y with eng := .ref b } ++ L) := hH.puti 1 rfl (.ins t.c_Yard A.dx (fl A y.next (.ref b)))
    exact ⟨_, rfl, A.p, A.dx, _, rfl, h1.get 1 rfl, (fl_m _ _ _).2.2.2.2.2.2.1, A, _, L, rfl, h1, fun H' a h2 => q H' a h2⟩
theorem scEg : FnScope ["self"] ["self"] (defScope s_Yard_engine) := ⟨rfl, rfl, rfl, by decide +kernel, rfl, by decide +kernel, by decide +kernel⟩
theorem ok_Yard_engine (T : Txt K mg t) : FnOk P w K mg base CX0 1 t.f_Yard_engine t.d_Yard_engine ["self"] (sp_engine t.c_Yard) := by
  refine T.F_Yard_engine.ok scEg (fun vs H Q E h => ?_) (fun cdv A outer s H vs Q E hr h => ?_)
  · obtain ⟨_, _, _, rfl, _⟩ := h
    rfl
  · obtain ⟨A, y, L, rfl, hH, q⟩ := h
    refine ⟨_, (pss_one (ps_ret (pe_fld (pv 0) rfl))), ?_⟩
    exact ⟨_, rfl, A.p, _, A.dx, _, _, rfl, hH.get 1 rfl, T.cl_Yard, T.n_Yard_engine_end, fl_eng _ _ _, q⟩
theorem scYk : FnScope ["self", "piece"] ["self", "piece"] (defScope s_Yard_kind) := ⟨rfl, rfl, rfl, by decide +kernel, rfl, by decide +kernel, by decide +kernel⟩
theorem ok_Yard_kind (T : Txt K mg t) : FnOk P w K mg base CX0 2 t.f_Yard_kind t.d_Yard_kind ["self", "piece"] (sp_ykind t.c_Yard) := by
  refine T.F_Yard_kind.ok scYk (fun vs H Q E h => ?_) (fun cdv A outer s H vs Q E hr h => ?_)
  · obtain ⟨_, _, _, _, _, rfl, _⟩ := h
    rfl
  · obtain ⟨A, y, L, n, v, rfl, hH, hv, q⟩ := h
    have hu := hu_of hr
    refine ⟨_, (pss_cons (ps_expr (pe_meth (pv 0) T.cl_Yard T.M_Yard_check_piece (ok_Yard_check_piece T) (hr.mono (by decide)) (b_Yard_check_piece T) .nil pass0 (pa_cons (pv 1) pa_nil)))
      (pss_one (ps_ret (pe_dget hu (pe_fld (pv 0) rfl) (pv 1) (fun _ _ => rfl))))), ?_⟩
    refine ⟨_, rfl, A.p, A.dx, _, rfl, hH.get 1 rfl, (fl_m _ _ _).2.2.2.2.2.2.2.1, _, rfl, A, y, L, n, v, rfl, hH, hv, ?_⟩
    refine ⟨_, rfl, A.p, _, A.dx, _, _, rfl, hH.get 1 rfl, T.cl_Yard, T.n_Yard_kinds, fl_kinds _ _ _, _, rfl, A.k, _, rfl, ?_, q⟩
    rw [← hv]
    exact DGet.k (k := Sum.inl n) (hH.get 3 rfl)
end

abbrev En := Addr × Int × Int
structure Wd where
  kf : Int → Option Kd
  nf : Int → Int
  rf : Int → Int
  mf : Int → Int → Option En
structure Sd where
  ss : List Int
  at_ : Option En
  rg : List Int
def Wd.sv (w : Wd) (s : Sd) (n : Int) : Int := s.ss.getD (w.rf n).toNat 0
def Wd.ok (w : Wd) (z : En) : Prop := ∃ k, w.kf z.2.1 = some k ∧ 0 ≤ z.2.2 ∧ z.2.2 < k.many
def stepS (w : Wd) (s : Sd) (z : En) (k : Kd) (z' : En) : Sd :=
  ⟨if k.point then s.ss.set (w.rf z.2.1).toNat (k.side z.2.2 (w.sv s z.2.1)) else s.ss, some z', if k = .bell then s.rg ++ [w.nf z.2.1] else s.rg⟩
def Wd.nx (w : Wd) (s : Sd) : Option Sd :=
  match s.at_ with
  | none => none
  | some z => match w.kf z.2.1 with
    | none => none
    | some k => match k.out z.2.2 (w.sv s z.2.1) with
      | .int o => (w.mf z.2.1 o).map (stepS w s z k)
      | _ => none
def Wd.why (w : Wd) (s : Sd) : V :=
  match s.at_ with
  | none => .str "none"
  | some z => match w.kf z.2.1 with
    | none => .non
    | some k => match k.out z.2.2 (w.sv s z.2.1) with
      | .int o => (match w.mf z.2.1 o with | none => .str "loose" | some _ => .non)
      | _ => .str "stop"
def Wd.go (w : Wd) : Nat → Sd → Sd
  | 0, s => s
  | n + 1, s => match w.nx s with | none => s | some s' => w.go n s'
def Wd.hist (w : Wd) : Nat → Sd → List Sd
  | 0, _ => []
  | n + 1, s => match w.nx s with | none => [] | some s' => s :: w.hist n s'
def Wd.tv (w : Wd) (s : Sd) (z : En) : V := match w.kf z.2.1 with | some k => if k.point then .int (w.sv s z.2.1) else .non | none => .non
def Wd.tr (w : Wd) (s : Sd) : HO := match s.at_ with | some z => .tup [.ref z.1, w.tv s z] | none => .tup []
def trK (w : Wd) (ts : List (Addr × Sd)) : Kn := ts.map fun x => (x.1, w.tr x.2)
def trV (ts : List (Addr × Sd)) : List V := ts.map fun x => V.ref x.1
def enV : Option En → V
  | none => .non
  | some z => .ref z.1
structure Rep (w : Wd) (s : Sd) (y : YR) : Prop where
  kd : ∀ n k, w.kf n = some k → valV y.kinds (Sum.inl n) = some (.str k.str)
  no : ∀ n k, w.kf n = some k → valV y.notes (Sum.inl n) = if k = .bell then some (.int (w.nf n)) else none
  ro : ∀ n k, w.kf n = some k → valV y.rods (Sum.inl n) = if k.point = true then some (.int (w.rf n)) else none
  rr : ∀ n k, w.kf n = some k → k.point = true → 0 ≤ w.rf n ∧ w.rf n < s.ss.length
  sd : y.sides = s.ss.map V.int
  s12 : ∀ x ∈ s.ss, x = 1 ∨ x = 2
  mt : ∀ n e, valV y.mates (kE n e) = (w.mf n e).map fun z => V.ref z.1
  mo : ∀ n e z, w.mf n e = some z → w.ok z
  en : y.eng = enV s.at_
  eo : ∀ z, s.at_ = some z → w.ok z
  rg : y.rung = s.rg.map V.int
structure Pool (w : Wd) (s : Sd) (L : Kn) : Prop where
  m : ∀ n e z, w.mf n e = some z → ∃ j : Nat, L[j]? = some (z.1, HO.tup [.int z.2.1, .int z.2.2])
  e : ∀ z, s.at_ = some z → ∃ j : Nat, L[j]? = some (z.1, HO.tup [.int z.2.1, .int z.2.2])
theorem Rep.s1 {w : Wd} {s : Sd} {y : YR} (R : Rep w s y) {n : Int} {k : Kd} (hk : w.kf n = some k) (hp : k.point = true) : w.sv s n = 1 ∨ w.sv s n = 2 := by
  obtain ⟨h0, h1⟩ := R.rr n k hk hp
  refine R.s12 _ ?_
  unfold Wd.sv
  rw [List.getD_eq_getElem?_getD, List.getElem?_eq_getElem (by omega)]
  exact List.getElem_mem _
theorem Rep.sideAt {w : Wd} {s : Sd} {y : YR} (R : Rep w s y) {n : Int} {k : Kd} (hk : w.kf n = some k) (hp : k.point = true) : y.sides[(w.rf n).toNat]? = some (.int (w.sv s n)) := by
  obtain ⟨h0, h1⟩ := R.rr n k hk hp
  rw [R.sd, List.getElem?_map, List.getElem?_eq_getElem (by omega)]
  unfold Wd.sv
  rw [List.getD_eq_getElem?_getD, List.getElem?_eq_getElem (by omega)]
  rfl
theorem Kd.out_in {k : Kd} {e s o : Int} (e0 : 0 ≤ e) (e1 : e < k.many) (hs : k.point = true → s = 1 ∨ s = 2) (h : k.out e s = .int o) : 0 ≤ o ∧ o < k.many := by
  unfold Kd.out at h
  by_cases c : k = .stop
  · rw [if_pos c] at h; cases h
  rw [if_neg c] at h
  by_cases p : k.point = true
  · rw [if_pos p] at h
    have m := Kd.many_point p
    rcases hs p with r | r <;> split at h <;> (injection h with h; omega)
  · rw [if_neg p] at h
    have m : k.many = 2 := by cases k <;> first | rfl | (exfalso; exact c rfl) | (exfalso; exact p rfl)
    injection h with h
    omega
theorem stepS_at (w : Wd) (s : Sd) (z : En) (k : Kd) (z' : En) : (stepS w s z k z').at_ = some z' := rfl
theorem nx_some {w : Wd} {s s' : Sd} (h : w.nx s = some s') : ∃ (z : En) (k : Kd) (o : Int) (z' : En), s.at_ = some z ∧ w.kf z.2.1 = some k ∧ k.out z.2.2 (w.sv s z.2.1) = .int o ∧ w.mf z.2.1 o = some z' ∧ s' = stepS w s z k z' := by
  unfold Wd.nx at h
  split at h
  · cases h
  · rename_i z hz
    split at h
    · cases h
    · rename_i k hk
      split at h
      · rename_i o ho
        obtain ⟨z', hm, e⟩ := Option.map_eq_some_iff.mp h
        exact ⟨z, k, o, z', hz, hk, ho, hm, e.symm⟩
      · cases h
theorem nx_of {w : Wd} {s : Sd} {z : En} {k : Kd} {o : Int} {z' : En} (hz : s.at_ = some z) (hk : w.kf z.2.1 = some k) (ho : k.out z.2.2 (w.sv s z.2.1) = .int o) (hm : w.mf z.2.1 o = some z') : w.nx s = some (stepS w s z k z') := by
  unfold Wd.nx
  simp only [hz, hk, ho, hm, Option.map_some]
theorem stepS_keep {w : Wd} {s : Sd} {y y' : YR} {z : En} {k : Kd} {z' : En} {o : Int} (R : Rep w s y) (hz : s.at_ = some z) (hk : w.kf z.2.1 = some k) (hm : w.mf z.2.1 o = some z')
    (e1 : y'.kinds = y.kinds) (e2 : y'.notes = y.notes) (e3 : y'.rods = y.rods) (e4 : y'.mates = y.mates) (e5 : y'.sides = (stepS w s z k z').ss.map V.int) (e6 : y'.eng = .ref z'.1) (e7 : y'.rung = (stepS w s z k z').rg.map V.int) :
    Rep w (stepS w s z k z') y' := by
  have hl : (stepS w s z k z').ss.length = s.ss.length := by
    unfold stepS; dsimp only; split
    · exact List.length_set
    · rfl
  refine ⟨fun n k h => by rw [e1]; exact R.kd n k h, fun n k h => by rw [e2]; exact R.no n k h, fun n k h => by rw [e3]; exact R.ro n k h, fun n k h1 h2 => by rw [hl]; exact R.rr n k h1 h2, e5, fun x hx => ?_, fun n e => by rw [e4]; exact R.mt n e, R.mo, e6, fun u hu => ?_, e7⟩
  · unfold stepS at hx
    dsimp only at hx
    split at hx
    · rename_i hp
      rcases List.mem_or_eq_of_mem_set hx with hx | hx
      · exact R.s12 x hx
      · obtain ⟨k', h1, h2, h3⟩ := R.eo z hz
        rw [hk] at h1
        cases h1
        rw [hx]
        exact Kd.side12 h2 h3 (R.s1 hk hp)
    · exact R.s12 x hx
  · rw [stepS_at] at hu
    cases hu
    exact R.mo _ _ _ hm
theorem Pool.step {w : Wd} {s s' : Sd} {L : Kn} (p : Pool w s L) (h : w.nx s = some s') : Pool w s' L := by
  obtain ⟨z, k, o, z', _, _, _, hm, rfl⟩ := nx_some h
  refine ⟨p.m, fun u hu => ?_⟩
  rw [stepS_at] at hu
  cases hu
  exact p.m _ _ _ hm
inductive Nxt (w : Wd) (s : Sd) : List V → Prop
  | held (h : w.nx s = none) (x : Str) (e : w.why s = .str x) : Nxt w s [.str x, .non, .non]
  | goes (z : En) (k : Kd) (o : Int) (z' : En) (hz : s.at_ = some z) (hk : w.kf z.2.1 = some k) (ho : k.out z.2.2 (w.sv s z.2.1) = .int o) (hm : w.mf z.2.1 o = some z') :
      Nxt w s [.non, .ref z'.1, if k.point then .int (k.side z.2.2 (w.sv s z.2.1)) else .non]

end P


set_option Elab.async false
set_option linter.all false
set_option maxRecDepth 100000
set_option maxHeartbeats 4000000
namespace P
open PySem L2

def sp_carry (C : Addr) : Sp := fun vs H Q _ => ∃ (A : YA) (y : YR) (L : Kn) (w : Wd) (s : Sd) (z : En) (k : Kd) (z' : En), vs = [.ref A.p, .ref z'.1, if k.point then .int (k.side z.2.2 (w.sv s z.2.1)) else .non] ∧ Has H (yL C A y ++ L) ∧ Rep w s y ∧ s.at_ = some z ∧ w.kf z.2.1 = some k ∧
  (∃ j : Nat, L[j]? = some (z.1, HO.tup [.int z.2.1, .int z.2.2])) ∧ y.trail.length ≤ 900000 ∧ y.rung.length ≤ 900000 ∧
  ∀ H' a, Has H' (yL C A { y with sides := (stepS w s z k z').ss.map V.int, eng := .ref z'.1, rung := (stepS w s z k z').rg.map V.int, trail := y.trail ++ [.ref a] } ++ ((a, w.tr s) :: L)) → Q .non H'
def sp_next (C : Addr) : Sp := fun vs H Q _ => ∃ (A : YA) (y : YR) (L : Kn) (w : Wd) (s : Sd), vs = [.ref A.p] ∧ Has H (yL C A y ++ L) ∧ Rep w s y ∧ Pool w s L ∧
  ∀ H' p xs, Nxt w s xs → Has H' ((p, .tup xs) :: (yL C A y ++ L)) → Q (.ref p) H'
def sp_held (C : Addr) : Sp := fun vs H Q _ => ∃ (A : YA) (y : YR) (L : Kn) (w : Wd) (s : Sd), vs = [.ref A.p] ∧ Has H (yL C A y ++ L) ∧ Rep w s y ∧ Pool w s L ∧ ∀ H', Has H' (yL C A y ++ L) → Q (w.why s) H'
def sp_run (C : Addr) : Sp := fun vs H Q _ => ∃ (A : YA) (y : YR) (L : Kn) (w : Wd) (s : Sd) (ts : List (Addr × Sd)) (m : Int), vs = [.ref A.p, .int m] ∧ Has H (yL C A y ++ (trK w ts ++ L)) ∧ Rep w s y ∧ Pool w s L ∧ y.trail = trV ts ∧ ts.length + m ≤ 900000 ∧ y.rung.length + m ≤ 900000 ∧ ts.length ≤ 900000 ∧ y.rung.length ≤ 900000 ∧
  ∀ H' y' ts', Has H' (yL C A y' ++ (trK w (ts ++ ts') ++ L)) → Rep w (w.go m.toNat s) y' → y'.trail = trV (ts ++ ts') → ts'.map (·.2) = w.hist m.toNat s → y'.next = y.next → y'.kinds = y.kinds → y'.notes = y.notes → y'.rods = y.rods → y'.mates = y.mates → Pool w (w.go m.toNat s) L → Q (.int ts'.length) H'
theorem why_none {w : Wd} {s : Sd} (h : s.at_ = none) : w.nx s = none ∧ w.why s = .str "none" := by
  unfold Wd.nx Wd.why; simp only [h]; exact ⟨trivial, trivial⟩
theorem why_stop {w : Wd} {s : Sd} {z : En} {k : Kd} (hz : s.at_ = some z) (hk : w.kf z.2.1 = some k) (ho : k.out z.2.2 (w.sv s z.2.1) = .non) : w.nx s = none ∧ w.why s = .str "stop" := by
  unfold Wd.nx Wd.why; simp only [hz, hk, ho]; exact ⟨trivial, trivial⟩
theorem why_loose {w : Wd} {s : Sd} {z : En} {k : Kd} {o : Int} (hz : s.at_ = some z) (hk : w.kf z.2.1 = some k) (ho : k.out z.2.2 (w.sv s z.2.1) = .int o) (hm : w.mf z.2.1 o = none) : w.nx s = none ∧ w.why s = .str "loose" := by
  unfold Wd.nx Wd.why; simp only [hz, hk, ho, hm, Option.map_none]; exact ⟨trivial, trivial⟩
theorem why_goes {w : Wd} {s : Sd} {z : En} {k : Kd} {o : Int} {z' : En} (hz : s.at_ = some z) (hk : w.kf z.2.1 = some k) (ho : k.out z.2.2 (w.sv s z.2.1) = .int o) (hm : w.mf z.2.1 o = some z') : w.why s = .non := by
  unfold Wd.why; simp only [hz, hk, ho, hm]
theorem Nxt.why {w : Wd} {s : Sd} {xs : List V} (h : Nxt w s xs) : xs.length = 3 ∧ xs[0]? = some (w.why s) := by
  cases h with
  | held h x e => rw [e]; exact ⟨rfl, rfl⟩
  | goes z k o z' hz hk ho hm => rw [why_goes hz hk ho hm]; exact ⟨rfl, rfl⟩
theorem go_succ (w : Wd) {s s' : Sd} (h : w.nx s = some s') (n : Nat) : w.go (n + 1) s = w.go n s' := by show (match w.nx s with | none => s | some s' => w.go n s') = _; rw [h]
theorem hist_succ (w : Wd) {s s' : Sd} (h : w.nx s = some s') (n : Nat) : w.hist (n + 1) s = s :: w.hist n s' := by show (match w.nx s with | none => [] | some s' => s :: w.hist n s') = _; rw [h]
theorem go_held (w : Wd) {s : Sd} (h : w.nx s = none) : ∀ n, w.go n s = s
  | 0 => rfl
  | n + 1 => by show (match w.nx s with | none => s | some s' => w.go n s') = _; rw [h]
theorem hist_held (w : Wd) {s : Sd} (h : w.nx s = none) : ∀ n, w.hist n s = []
  | 0 => rfl
  | n + 1 => by show (match w.nx s with | none => [] | some s' => s :: w.hist n s') = _; rw [h]
theorem trK_snoc (w : Wd) (ts : List (Addr × Sd)) (a : Addr) (s : Sd) (L : Kn) : trK w (ts ++ [(a, s)]) ++ L = trK w ts ++ ((a, w.tr s) :: L) := by
  unfold trK; rw [List.map_append, List.append_assoc]; rfl
theorem stepS_rg_le {w : Wd} {s : Sd} {z : En} {k : Kd} {z' : En} : (stepS w s z k z').rg.length ≤ s.rg.length + 1 := by
  unfold stepS; dsimp only; split
  · simp
  · omega
theorem go_len (w : Wd) : ∀ (n : Nat) (s : Sd), (w.go n s).ss.length = s.ss.length
  | 0, s => rfl
  | n + 1, s => by
    cases h : w.nx s with
    | none => rw [go_held w h]
    | some s' =>
      rw [go_succ w h, go_len w n s']
      obtain ⟨z, k, o, z', _, _, _, _, rfl⟩ := nx_some h
      unfold stepS; dsimp only; split
      · exact List.length_set
      · rfl
theorem Pool.app {w : Wd} {s : Sd} {L : Kn} (p : Pool w s L) (M : Kn) : Pool w s (M ++ L) := by
  have sh : ∀ {x : Addr × HO}, (∃ j : Nat, L[j]? = some x) → ∃ j : Nat, (M ++ L)[j]? = some x := fun {x} ⟨j, h⟩ => ⟨M.length + j, by rw [List.getElem?_append_right (by omega), show M.length + j - M.length = j by omega]; exact h⟩
  exact ⟨fun n e z h => sh (p.m n e z h), fun z h => sh (p.e z h)⟩
def runInv (C : Addr) (A : YA) (y : YR) (L : Kn) (W : Wd) (s : Sd) (ts : List (Addr × Sd)) (m : Int) (r : Nat) (σ : St) (H : Hp) : Prop :=
  ∃ (i : Nat) (y1 : YR) (ts1 : List (Addr × Sd)) (s1 : Sd) (o1 o2 o3 : Option V), r = m.toNat - i ∧ i ≤ m.toNat ∧ σ = [some (.ref A.p), some (.int m), some (.int i), o1, o2, o3] ∧ Has H (yL C A y1 ++ (trK W (ts ++ ts1) ++ L)) ∧ Rep W s1 y1 ∧ Pool W s1 L ∧ y1.trail = trV (ts ++ ts1) ∧ ts1.length = i ∧
    W.go m.toNat s = W.go (m.toNat - i) s1 ∧ W.hist m.toNat s = ts1.map (·.2) ++ W.hist (m.toNat - i) s1 ∧ y1.rung.length ≤ y.rung.length + i ∧ y1.next = y.next ∧ y1.kinds = y.kinds ∧ y1.notes = y.notes ∧ y1.rods = y.rods ∧ y1.mates = y.mates
section
variable {P : Program} {w : World} {K : PySem.W.Frag} {mg : Str → Option Value} {base : Heap} {t : Adr}
theorem scCy : FnScope ["self", "end", "side", "piece", "rod"] ["self", "end", "side"] (defScope s_Yard_carry) := ⟨rfl, rfl, rfl, by decide +kernel, rfl, by decide +kernel, by decide +kernel⟩
theorem ok_Yard_carry (T : Txt K mg t) : FnOk P w K mg base CX0 1 t.f_Yard_carry t.d_Yard_carry ["self", "end", "side"] (sp_carry t.c_Yard) := by
  refine T.F_Yard_carry.ok scCy (fun vs H Q E h => ?_) (fun cdv A outer s H vs Q E hr h => ?_)
  · obtain ⟨_, _, _, _, _, _, _, _, rfl, _⟩ := h
    rfl
  · obtain ⟨A, y, L, W, s1, z, k, z', rfl, hH, R, hz, hk, ⟨j, hj⟩, tl, rl, q⟩ := h
    have hu := hu_of hr
    refine ⟨_, (pss_cons (ps_set (i := 3) scCy.nd rfl (Or.inl rfl) (pe_ix ix_tup (pe_fld (pv 0) rfl) pe_int (fun _ _ => rfl)))
      (pss_cons (ps_set (i := 4) scCy.nd rfl (Or.inl rfl) (pe_dget1 hu (pe_fld (pv 0) rfl) (pv 3) ⟨rfl, rfl, rfl, rfl⟩))
      (pss_cons (ps_expr (pe_bm PySem.F.plainAttrs_list PySem.F.slot_list_append PySem.F.type_list_append mt_append (pe_fld (pv 0) rfl) (pa_cons (pe_tup (pa_cons (pe_fld (pv 0) rfl) (pa_cons (pe_ifExp (pt_cmpR op_isN (pv 4) pe_non (nomark _)) pe_non (pe_ix ix_list (pe_fld (pv 0) rfl) (pv 4) (fun _ _ => rfl))) pa_nil))) pa_nil)))
      (pss_cons (ps_if (pt_cmpR op_notN (pv 4) pe_non (nomark _))
        (pss_one (ps_asg (pv 2) (pg_sub (pe_fld (pv 0) rfl) (pv 4) set_list)))
        pss_nil)
      (pss_cons (ps_if (pt_cmp (pc_din hu (pv 3) (pe_fld (pv 0) rfl)))
        (pss_one (ps_expr (pe_bm PySem.F.plainAttrs_list PySem.F.slot_list_append PySem.F.type_list_append mt_append (pe_fld (pv 0) rfl) (pa_cons (pe_dget hu (pe_fld (pv 0) rfl) (pv 3) (fun _ _ => rfl)) pa_nil))))
        pss_nil)
      (pss_one (ps_fld (pv 0) (pv 1) rfl))))))), ?_⟩
    have gz := hH.get (j + 9) (by simpa [yL] using hj)
    have en : y.eng = .ref z.1 := by rw [R.en, hz]; rfl
    refine ⟨_, rfl, A.p, _, A.dx, _, _, rfl, hH.get 1 rfl, T.cl_Yard, T.n_Yard_engine_end, fl_eng _ _ _, z.1, _, _, _, en, rfl, SqT.of gz, rfl, ?_⟩
    refine ⟨_, rfl, A.p, _, A.dx, _, _, rfl, hH.get 1 rfl, T.cl_Yard, T.n_Yard_rods_under, fl_rods _ _ _, A.r, rfl, .inl ⟨_, .inl (hH.get 5 rfl)⟩, _, rfl, _, DGet.k (k := Sum.inl z.2.1) (hH.get 5 rfl), ?_⟩
    refine ⟨_, rfl, A.p, _, A.dx, _, _, rfl, hH.get 1 rfl, T.cl_Yard, T.n_Yard_trail, fl_trail _ _ _, .inl ⟨rfl, _, SqL.of (hH.get 0 rfl)⟩, ?_⟩
    refine ⟨_, rfl, A.p, _, A.dx, _, _, rfl, hH.get 1 rfl, T.cl_Yard, T.n_Yard_engine_end, fl_eng _ _ _, _, rfl, rfl, _, rfl, ?_⟩
    rw [R.ro _ _ hk, en]
    have etr : W.tr s1 = .tup [.ref z.1, if k.point then .int (W.sv s1 z.2.1) else .non] := by unfold Wd.tr; rw [hz]; show HO.tup [.ref z.1, W.tv s1 z] = _; unfold Wd.tv; rw [hk]
    by_cases hp : k.point = true
    · rw [if_pos hp] at etr ⊢
      try rw [if_pos hp]
      obtain ⟨r0, r1⟩ := R.rr _ _ hk hp
      have sa := R.sideAt hk hp
      refine ifF rfl ?_
      refine ⟨_, rfl, A.p, _, A.dx, _, _, rfl, hH.get 1 rfl, T.cl_Yard, T.n_Yard_sides, fl_sides _ _ _, _, rfl, A.s, _, W.rf z.2.1, _, rfl, rfl, SqL.of (hH.get 6 rfl), (by rw [show W.rf z.2.1 = (((W.rf z.2.1).toNat : Nat) : Int) by omega]; exact atI_nat sa), ?_⟩
      refine ⟨(show 2 ≤ sizeLine by decide), fun a ha => ?_⟩
      have h1 := hH.alloc ha (.tup [.ref z.1, .int (W.sv s1 z.2.1)])
      refine ⟨A.tr, _, _, rfl, rfl, h1.get 1 rfl, sizeOk (by omega), ?_⟩
      have h2 := Has.comm (X := [_]) (Y := yL t.c_Yard A { y with trail := y.trail ++ [.ref a] }) (R := L) (h1.puti 1 rfl (.lst (y.trail ++ [.ref a])))
      generalize upd (upd H a _) A.tr _ = H2 at h2 ⊢
      replace h2 : Has H2 (yL t.c_Yard A { y with trail := y.trail ++ [.ref a] } ++ ((a, W.tr s1) :: L)) := by rw [etr]; exact h2
      clear h1 ha
      refine ⟨_, rfl, rfl, _, rfl, ifT rfl ?_⟩
      have sl : y.sides.length = s1.ss.length := by rw [R.sd, List.length_map]
      have hjx : ixN y.sides.length (W.rf z.2.1) = some (W.rf z.2.1).toNat := by unfold ixN; rw [if_pos r0, if_pos (by omega)]
      refine ⟨_, rfl, _, rfl, A.p, _, A.dx, _, _, rfl, h2.get 1 rfl, T.cl_Yard, T.n_Yard_sides, fl_sides _ _ _, _, rfl, A.s, _, _, _, rfl, rfl, h2.get 6 rfl, hjx, ?_⟩
      have h3 := h2.puti 6 rfl (.lst (y.sides.set (W.rf z.2.1).toNat (.int (k.side z.2.2 (W.sv s1 z.2.1)))))
      have es : (stepS W s1 z k z').ss.map V.int = y.sides.set (W.rf z.2.1).toNat (.int (k.side z.2.2 (W.sv s1 z.2.1))) := by unfold stepS; dsimp only; rw [if_pos hp, List.map_set, R.sd]
      have hT : Has _ (yL t.c_Yard A { y with sides := y.sides.set (W.rf z.2.1).toNat (.int (k.side z.2.2 (W.sv s1 z.2.1))), trail := y.trail ++ [.ref a] } ++ ((a, W.tr s1) :: L)) := h3
      refine ⟨_, rfl, _, rfl, A.p, _, A.dx, _, _, rfl, hT.get 1 rfl, T.cl_Yard, T.n_Yard_notes, fl_notes _ _ _, A.n, _, rfl, DGet.k (k := Sum.inl z.2.1) (hT.get 4 rfl), _, rfl, if2 (fun hb => ?_) (fun hb => ?_)⟩
      · have kb : k = .bell := by
          rw [R.no _ _ hk] at hb
          by_cases c : k = .bell
          · exact c
          · rw [if_neg c] at hb; cases hb
        have nv : valV y.notes (Sum.inl z.2.1) = some (.int (W.nf z.2.1)) := by rw [R.no _ _ hk, if_pos kb]
        refine ⟨_, rfl, A.p, _, A.dx, _, _, rfl, hT.get 1 rfl, T.cl_Yard, T.n_Yard_rung, fl_rung _ _ _, .inl ⟨rfl, _, SqL.of (hT.get 8 rfl)⟩, _, rfl, A.p, _, A.dx, _, _, rfl, hT.get 1 rfl, T.cl_Yard, T.n_Yard_notes, fl_notes _ _ _, _, rfl, A.n, _, rfl, (by rw [← nv]; exact DGet.k (k := Sum.inl z.2.1) (hT.get 4 rfl)), A.g, _, _, rfl, rfl, hT.get 8 rfl, sizeOk (show y.rung.length ≤ 1000000 by omega), ?_⟩
        have h4 : Has _ (yL t.c_Yard A { y with sides := y.sides.set (W.rf z.2.1).toNat (.int (k.side z.2.2 (W.sv s1 z.2.1))), rung := y.rung ++ [.int (W.nf z.2.1)], trail := y.trail ++ [.ref a] } ++ ((a, W.tr s1) :: L)) := hT.puti 8 rfl (.lst (y.rung ++ [.int (W.nf z.2.1)]))
        refine ⟨_, rfl, _, rfl, A.p, _, A.dx, _, rfl, h4.get 1 rfl, T.cl_Yard, T.n_Yard_engine_end, (show 9 < 1000 by decide), ?_⟩
        rw [fl_put_eng]
        have h5 := h4.puti 1 rfl (.ins t.c_Yard A.dx (fl A y.next (.ref z'.1)))
        have er : (stepS W s1 z k z').rg.map V.int = y.rung ++ [.int (W.nf z.2.1)] := by unfold stepS; dsimp only; rw [if_pos kb, List.map_append, R.rg]; rfl
        refine q _ a ?_
        rw [er, es]
        exact h5
      · have kb : ¬ k = .bell := fun c => by rw [R.no _ _ hk, if_pos c] at hb; cases hb
        refine ⟨_, rfl, _, rfl, A.p, _, A.dx, _, rfl, hT.get 1 rfl, T.cl_Yard, T.n_Yard_engine_end, (show 9 < 1000 by decide), ?_⟩
        rw [fl_put_eng]
        have h5 := hT.puti 1 rfl (.ins t.c_Yard A.dx (fl A y.next (.ref z'.1)))
        have er : (stepS W s1 z k z').rg.map V.int = y.rung := by unfold stepS; dsimp only; rw [if_neg kb, R.rg]
        refine q _ a ?_
        rw [er, es]
        exact h5
    · rw [if_neg hp] at etr ⊢
      try rw [if_neg hp]
      refine ifT rfl ?_
      refine ⟨(show 2 ≤ sizeLine by decide), fun a ha => ?_⟩
      have h1 := hH.alloc ha (.tup [.ref z.1, .non])
      refine ⟨A.tr, _, _, rfl, rfl, h1.get 1 rfl, sizeOk (by omega), ?_⟩
      have h2 := Has.comm (X := [_]) (Y := yL t.c_Yard A { y with trail := y.trail ++ [.ref a] }) (R := L) (h1.puti 1 rfl (.lst (y.trail ++ [.ref a])))
      generalize upd (upd H a _) A.tr _ = H2 at h2 ⊢
      replace h2 : Has H2 (yL t.c_Yard A { y with trail := y.trail ++ [.ref a] } ++ ((a, W.tr s1) :: L)) := by rw [etr]; exact h2
      clear h1 ha
      refine ⟨_, rfl, rfl, _, rfl, ifF rfl ?_⟩
      have h3 := h2
      have es : (stepS W s1 z k z').ss.map V.int = y.sides := by unfold stepS; dsimp only; rw [if_neg hp, R.sd]
      have hT : Has _ (yL t.c_Yard A { y with sides := y.sides, trail := y.trail ++ [.ref a] } ++ ((a, W.tr s1) :: L)) := h3
      refine ⟨_, rfl, _, rfl, A.p, _, A.dx, _, _, rfl, hT.get 1 rfl, T.cl_Yard, T.n_Yard_notes, fl_notes _ _ _, A.n, _, rfl, DGet.k (k := Sum.inl z.2.1) (hT.get 4 rfl), _, rfl, if2 (fun hb => ?_) (fun hb => ?_)⟩
      · have kb : k = .bell := by
          rw [R.no _ _ hk] at hb
          by_cases c : k = .bell
          · exact c
          · rw [if_neg c] at hb; cases hb
        have nv : valV y.notes (Sum.inl z.2.1) = some (.int (W.nf z.2.1)) := by rw [R.no _ _ hk, if_pos kb]
        refine ⟨_, rfl, A.p, _, A.dx, _, _, rfl, hT.get 1 rfl, T.cl_Yard, T.n_Yard_rung, fl_rung _ _ _, .inl ⟨rfl, _, SqL.of (hT.get 8 rfl)⟩, _, rfl, A.p, _, A.dx, _, _, rfl, hT.get 1 rfl, T.cl_Yard, T.n_Yard_notes, fl_notes _ _ _, _, rfl, A.n, _, rfl, (by rw [← nv]; exact DGet.k (k := Sum.inl z.2.1) (hT.get 4 rfl)), A.g, _, _, rfl, rfl, hT.get 8 rfl, sizeOk (show y.rung.length ≤ 1000000 by omega), ?_⟩
        have h4 : Has _ (yL t.c_Yard A { y with sides := y.sides, rung := y.rung ++ [.int (W.nf z.2.1)], trail := y.trail ++ [.ref a] } ++ ((a, W.tr s1) :: L)) := hT.puti 8 rfl (.lst (y.rung ++ [.int (W.nf z.2.1)]))
        refine ⟨_, rfl, _, rfl, A.p, _, A.dx, _, rfl, h4.get 1 rfl, T.cl_Yard, T.n_Yard_engine_end, (show 9 < 1000 by decide), ?_⟩
        rw [fl_put_eng]
        have h5 := h4.puti 1 rfl (.ins t.c_Yard A.dx (fl A y.next (.ref z'.1)))
        have er : (stepS W s1 z k z').rg.map V.int = y.rung ++ [.int (W.nf z.2.1)] := by unfold stepS; dsimp only; rw [if_pos kb, List.map_append, R.rg]; rfl
        refine q _ a ?_
        rw [er, es]
        exact h5
      · have kb : ¬ k = .bell := fun c => by rw [R.no _ _ hk, if_pos c] at hb; cases hb
        refine ⟨_, rfl, _, rfl, A.p, _, A.dx, _, rfl, hT.get 1 rfl, T.cl_Yard, T.n_Yard_engine_end, (show 9 < 1000 by decide), ?_⟩
        rw [fl_put_eng]
        have h5 := hT.puti 1 rfl (.ins t.c_Yard A.dx (fl A y.next (.ref z'.1)))
        have er : (stepS W s1 z k z').rg.map V.int = y.rung := by unfold stepS; dsimp only; rw [if_neg kb, R.rg]
        refine q _ a ?_
        rw [er, es]
        exact h5
theorem scNs : FnScope ["yard", "stand", "piece", "end", "kind", "side", "out", "behind", "mate"] ["yard"] (defScope s_next_step) := ⟨rfl, rfl, rfl, by decide +kernel, rfl, by decide +kernel, by decide +kernel⟩
theorem ok_next_step (T : Txt K mg t) : FnOk P w K mg base CX0 5 t.f_next_step t.d_next_step ["yard"] (sp_next t.c_Yard) := by
  refine T.F_next_step.ok scNs (fun vs H Q E h => ?_) (fun cdv A outer s H vs Q E hr h => ?_)
  · obtain ⟨_, _, _, _, _, rfl, _⟩ := h
    rfl
  · obtain ⟨A, y, L, W, s1, rfl, hH, R, PL, q⟩ := h
    have three : 3 ≤ sizeLine := by decide
    refine ⟨_, (pss_cons (ps_set (i := 1) scNs.nd rfl (Or.inl rfl) (pe_meth0 (pv 0) T.cl_Yard T.M_Yard_engine (ok_Yard_engine T) (hr.mono (by decide)) (b_Yard_engine T) .nil pass0))
      (pss_cons (ps_if (pt_cmpR op_isN (pv 1) pe_non (nomark _))
        (pss_one (ps_ret (pe_tup (pa_cons pe_str (pa_cons pe_non (pa_cons pe_non pa_nil))))))
        pss_nil)
      (pss_cons (ps_asg (pv 1) (pg_tup rfl (pgs_cons (pg_name (i := 2) scNs.nd rfl (Or.inl rfl)) (pgs_cons (pg_name (i := 3) scNs.nd rfl (Or.inl rfl)) pgs_nil))))
      (pss_cons (ps_set (i := 4) scNs.nd rfl (Or.inl rfl) (pe_meth (pv 0) T.cl_Yard T.M_Yard_kind (ok_Yard_kind T) (hr.mono (by decide)) (b_Yard_kind T) .nil pass0 (pa_cons (pv 2) pa_nil)))
      (pss_cons (ps_set (i := 5) scNs.nd rfl (Or.inl rfl) (pe_ifExp (pt_val (pe_call (ok_is_point T) (hr.mono (by decide)) (by rfl) T.m_is_point T.F_is_point.kp (b_is_point T) .nil pass0 (pa_cons (pv 4) pa_nil))) (pe_meth (pv 0) T.cl_Yard T.M_Yard_side (ok_Yard_side T) (hr.mono (by decide)) (b_Yard_side T) .nil pass0 (pa_cons (pe_meth (pv 0) T.cl_Yard T.M_Yard_rod (ok_Yard_rod T) (hr.mono (by decide)) (b_Yard_rod T) .nil pass0 (pa_cons (pv 2) pa_nil)) pa_nil)) pe_non))
      (pss_cons (ps_asg (pe_call (ok_passage T) (hr.mono (by decide)) (by rfl) T.m_passage T.F_passage.kp (b_passage T) .nil pass0 (pa_cons (pv 4) (pa_cons (pv 3) (pa_cons (pv 5) pa_nil)))) (pg_tup rfl (pgs_cons (pg_name (i := 6) scNs.nd rfl (Or.inl rfl)) (pgs_cons (pg_name (i := 7) scNs.nd rfl (Or.inl rfl)) pgs_nil))))
      (pss_cons (ps_if (pt_cmpR op_isN (pv 6) pe_non (nomark _))
        (pss_one (ps_ret (pe_tup (pa_cons pe_str (pa_cons pe_non (pa_cons pe_non pa_nil))))))
        pss_nil)
      (pss_cons (ps_set (i := 8) scNs.nd rfl (Or.inl rfl) (pe_meth (pv 0) T.cl_Yard T.M_Yard_mate (ok_Yard_mate T) (hr.mono (by decide)) (b_Yard_mate T) .nil pass0 (pa_cons (pe_tup (pa_cons (pv 2) (pa_cons (pv 6) pa_nil))) pa_nil)))
      (pss_cons (ps_if (pt_cmpR op_isN (pv 8) pe_non (nomark _))
        (pss_one (ps_ret (pe_tup (pa_cons pe_str (pa_cons pe_non (pa_cons pe_non pa_nil))))))
        pss_nil)
      (pss_one (ps_ret (pe_tup (pa_cons pe_non (pa_cons (pv 8) (pa_cons (pv 7) pa_nil))))))))))))))), ?_⟩
    refine ⟨_, rfl, A.p, A.dx, _, rfl, hH.get 1 rfl, (fl_m4 _ _ _).2.2.2.2.2.2.1, A, y, L, rfl, hH, ?_⟩
    refine ⟨_, rfl, rfl, _, rfl, ?_⟩
    rw [R.en]
    cases hz : s1.at_ with
    | none =>
      obtain ⟨n1, n2⟩ := why_none (w := W) hz
      exact iteT ⟨three, fun p hp => q _ p _ (.held n1 _ n2) (hH.alloc hp _)⟩
    | some z =>
      obtain ⟨j, hj⟩ := PL.e z hz
      obtain ⟨k, hk, e0, e1⟩ := R.eo z hz
      have gz := hH.get (j + 9) (by simpa [yL] using hj)
      have vk : valV y.kinds (Sum.inl z.2.1) = some (.str k.str) := R.kd _ _ hk
      refine iteF ?_
      refine ⟨_, rfl, z.1, _, rfl, SqT.of gz, rfl, _, _, rfl, _, _, rfl, rfl, ?_⟩
      refine ⟨_, rfl, A.p, A.dx, _, rfl, hH.get 1 rfl, (fl_m4 _ _ _).2.2.2.2.1, _, rfl, A, y, L, z.2.1, _, rfl, hH, vk, ?_⟩
      refine ⟨_, rfl, k, rfl, _, rfl, ?_⟩
      have thr : ∀ o : Int, k.out z.2.2 (W.sv s1 z.2.1) = .int o → There y z.2.1 o := fun o ho => by
        have := Kd.out_in e0 e1 (fun hp => R.s1 hk hp) ho
        exact ⟨k, vk, this.1, this.2⟩
      refine if2 (fun hp => ?_) (fun hp => ?_)
      · obtain ⟨r0, r1⟩ := R.rr _ _ hk hp
        have vr : valV y.rods (Sum.inl z.2.1) = some (.int (W.rf z.2.1)) := by rw [R.ro _ _ hk, if_pos hp]
        refine ⟨_, rfl, A.p, A.dx, _, rfl, hH.get 1 rfl, (fl_m _ _ _).2.2.2.2.2.1, _, rfl, A.p, A.dx, _, rfl, hH.get 1 rfl, (fl_m _ _ _).2.2.2.2.1, _, rfl, A, y, L, z.2.1, _, _, rfl, hH, vk, vr, A, y, L, W.rf z.2.1, _, rfl, hH, r0, R.sideAt hk hp, ?_⟩
        refine ⟨_, rfl, _, rfl, _, rfl, k, z.2.2, W.sv s1 z.2.1, V.int (W.sv s1 z.2.1), rfl, e0, e1, (fun h => ⟨rfl, R.s1 hk hp⟩), fun p hp1 => ?_⟩
        have h1 := hH.alloc hp1 (.tup [k.out z.2.2 (W.sv s1 z.2.1), if k.point then .int (k.side z.2.2 (W.sv s1 z.2.1)) else V.int (W.sv s1 z.2.1)])
        refine ⟨p, _, rfl, SqT.of (h1.get 0 rfl), rfl, _, _, rfl, _, _, rfl, rfl, ?_⟩
        replace h1 := h1.tail
        generalize upd H p _ = H1 at h1 ⊢
        refine ⟨_, rfl, rfl, _, rfl, ?_⟩
        by_cases c : k.out z.2.2 (W.sv s1 z.2.1) = .non
        · obtain ⟨n1, n2⟩ := why_stop hz hk c
          exact ifT (decide_eq_true c) ⟨three, fun p hp => q _ p _ (.held n1 _ n2) (h1.alloc hp _)⟩
        · refine ifF (decide_eq_false c) ?_
          obtain ⟨o, ho⟩ := Kd.out_int (k := k) (fun e => c (by unfold Kd.out; rw [if_pos e])) z.2.2 (W.sv s1 z.2.1)
          rw [ho]
          refine ⟨_, rfl, A.p, A.dx, _, rfl, h1.get 1 rfl, (fl_m2 _ _ _).2.1, _, rfl, _, rfl, (show 2 ≤ sizeLine by decide), fun b hb => ?_⟩
          have h2 := Has.comm (X := [(b, .tup [.int z.2.1, .int o])]) (Y := yL t.c_Yard A y) (R := L) (h1.alloc hb (.tup [.int z.2.1, .int o]))
          generalize upd H1 b _ = H2 at h2 ⊢
          refine ⟨A, y, _, b, z.2.1, o, 0, rfl, h2, rfl, thr o ho, ?_⟩
          have h3 := (Has.comm (X := yL t.c_Yard A y) (Y := [(b, .tup [.int z.2.1, .int o])]) (R := L) h2).tail
          refine ⟨_, rfl, rfl, _, rfl, ?_⟩
          rw [R.mt]
          cases hm : W.mf z.2.1 o with
          | none =>
            obtain ⟨n1, n2⟩ := why_loose hz hk ho hm
            exact iteT ⟨three, fun p hp => q _ p _ (.held n1 _ n2) (h3.alloc hp _)⟩
          | some z' =>
            exact iteF ⟨_, rfl, _, rfl, three, fun p hp => q _ p _ (.goes z k o z' hz hk ho hm) (by rw [if_pos (by assumption : k.point = true)]; have := h3.alloc hp (.tup [.non, .ref z'.1, .int (k.side z.2.2 (W.sv s1 z.2.1))]); simpa [*] using this)⟩
      · refine ⟨_, rfl, _, rfl, _, rfl, k, z.2.2, W.sv s1 z.2.1, V.non, rfl, e0, e1, (fun h => absurd h (by rw [hp]; decide)), fun p hp1 => ?_⟩
        have h1 := hH.alloc hp1 (.tup [k.out z.2.2 (W.sv s1 z.2.1), if k.point then .int (k.side z.2.2 (W.sv s1 z.2.1)) else V.non])
        refine ⟨p, _, rfl, SqT.of (h1.get 0 rfl), rfl, _, _, rfl, _, _, rfl, rfl, ?_⟩
        replace h1 := h1.tail
        generalize upd H p _ = H1 at h1 ⊢
        refine ⟨_, rfl, rfl, _, rfl, ?_⟩
        by_cases c : k.out z.2.2 (W.sv s1 z.2.1) = .non
        · obtain ⟨n1, n2⟩ := why_stop hz hk c
          exact ifT (decide_eq_true c) ⟨three, fun p hp => q _ p _ (.held n1 _ n2) (h1.alloc hp _)⟩
        · refine ifF (decide_eq_false c) ?_
          obtain ⟨o, ho⟩ := Kd.out_int (k := k) (fun e => c (by unfold Kd.out; rw [if_pos e])) z.2.2 (W.sv s1 z.2.1)
          rw [ho]
          refine ⟨_, rfl, A.p, A.dx, _, rfl, h1.get 1 rfl, (fl_m2 _ _ _).2.1, _, rfl, _, rfl, (show 2 ≤ sizeLine by decide), fun b hb => ?_⟩
          have h2 := Has.comm (X := [(b, .tup [.int z.2.1, .int o])]) (Y := yL t.c_Yard A y) (R := L) (h1.alloc hb (.tup [.int z.2.1, .int o]))
          generalize upd H1 b _ = H2 at h2 ⊢
          refine ⟨A, y, _, b, z.2.1, o, 0, rfl, h2, rfl, thr o ho, ?_⟩
          have h3 := (Has.comm (X := yL t.c_Yard A y) (Y := [(b, .tup [.int z.2.1, .int o])]) (R := L) h2).tail
          refine ⟨_, rfl, rfl, _, rfl, ?_⟩
          rw [R.mt]
          cases hm : W.mf z.2.1 o with
          | none =>
            obtain ⟨n1, n2⟩ := why_loose hz hk ho hm
            exact iteT ⟨three, fun p hp => q _ p _ (.held n1 _ n2) (h3.alloc hp _)⟩
          | some z' =>
            exact iteF ⟨_, rfl, _, rfl, three, fun p hp => q _ p _ (.goes z k o z' hz hk ho hm) (by exact h3.alloc hp _)⟩
theorem scHe : FnScope ["yard"] ["yard"] (defScope s_held) := ⟨rfl, rfl, rfl, by decide +kernel, rfl, by decide +kernel, by decide +kernel⟩
theorem ok_held (T : Txt K mg t) : FnOk P w K mg base CX0 6 t.f_held t.d_held ["yard"] (sp_held t.c_Yard) := by
  refine T.F_held.ok scHe (fun vs H Q E h => ?_) (fun cdv A outer s H vs Q E hr h => ?_)
  · obtain ⟨_, _, _, _, _, rfl, _⟩ := h
    rfl
  · obtain ⟨A, y, L, W, s1, rfl, hH, R, PL, q⟩ := h
    refine ⟨_, (pss_one (ps_ret (pe_ix ix_tup (pe_call (ok_next_step T) (hr.mono (by decide)) (by rfl) T.m_next_step T.F_next_step.kp (b_next_step T) .nil pass0 (pa_cons (pv 0) pa_nil)) pe_int (fun _ _ => rfl)))), ?_⟩
    refine ⟨_, rfl, A, y, L, W, s1, rfl, hH, R, PL, fun H1 p xs nx h1 => ?_⟩
    exact ⟨p, _, _, _, rfl, rfl, SqT.of (h1.get 0 rfl), atI_nat (j := 0) nx.why.2, q _ h1.tail⟩
theorem scRn : FnScope ["yard", "most", "done", "why", "end", "side"] ["yard", "most"] (defScope s_run) := ⟨rfl, rfl, rfl, by decide +kernel, rfl, by decide +kernel, by decide +kernel⟩
theorem ok_run (T : Txt K mg t) : FnOk P w K mg base CX0 6 t.f_run t.d_run ["yard", "most"] (sp_run t.c_Yard) := by
  refine T.F_run.ok scRn (fun vs H Q E h => ?_) (fun cdv A outer s H vs Q E hr h => ?_)
  · obtain ⟨_, _, _, _, _, _, _, rfl, _⟩ := h
    rfl
  · obtain ⟨A, y, L, W, s0, ts, m, rfl, hH, R, PL, tl, b1, b2, b3, b4, q⟩ := h
    refine ⟨_, (pss_cons (ps_set (i := 2) scRn.nd rfl (Or.inl rfl) pe_int)
      (pss_cons (ps_while PassesOwn.never (pt_cmpR op_lt (pv 2) (pv 1) (nomark _))
        (pss_cons (ps_asg (pe_call (ok_next_step T) (hr.mono (by decide)) (by rfl) T.m_next_step T.F_next_step.kp (b_next_step T) .nil pass0 (pa_cons (pv 0) pa_nil)) (pg_tup rfl (pgs_cons (pg_name (i := 3) scRn.nd rfl (Or.inl rfl)) (pgs_cons (pg_name (i := 4) scRn.nd rfl (Or.inl rfl)) (pgs_cons (pg_name (i := 5) scRn.nd rfl (Or.inl rfl)) pgs_nil)))))
          (pss_cons (ps_if (pt_cmpR op_notN (pv 3) pe_non (nomark _))
            (pss_one ps_break)
            pss_nil)
          (pss_cons (ps_expr (pe_meth (pv 0) T.cl_Yard T.M_Yard_carry (ok_Yard_carry T) (hr.mono (by decide)) (b_Yard_carry T) .nil pass0 (pa_cons (pv 4) (pa_cons (pv 5) pa_nil))))
          (pss_one (ps_aug (i := 2) scRn.nd rfl (Or.inl rfl) pe_int ip_add))))))
      (pss_one (ps_ret (pv 2))))), ?_⟩
    refine ⟨runInv t.c_Yard A y L W s0 ts m, ⟨_, 0, y, [], s0, _, _, _, rfl, Nat.zero_le _, rfl, by rw [List.append_nil]; exact hH, R, PL, by rw [List.append_nil]; exact tl, rfl, rfl, rfl, Nat.le_refl _, rfl, rfl, rfl, rfl, rfl⟩, ?_⟩
    rintro r σ H1 ⟨i, y1, ts1, s1, o1, o2, o3, rfl, im, rfl, h1, R1, P1, tl1, li, eg, eh, rg, f1, f2, f3, f4, f5⟩
    refine ⟨_, rfl, _, rfl, _, _, rfl, rfl, _, rfl, if2 (fun hc => ?_) (fun hc => ?_)⟩
    · have hlt : (i : Int) < m := of_decide_eq_true hc
      refine ⟨fun σ' H' => ∃ r', r' < m.toNat - i ∧ runInv t.c_Yard A y L W s0 ts m r' σ' H', fun _ _ h => h, ?_⟩
      refine ⟨_, rfl, A, y1, _, W, s1, rfl, h1, R1, P1.app _, fun H2 p xs nx h2 => ?_⟩
      cases nx with
      | held hn x e =>
        refine ⟨p, _, rfl, SqT.of (h2.get 0 rfl), rfl, _, _, rfl, _, _, rfl, _, _, rfl, rfl, ?_⟩
        refine ⟨_, rfl, rfl, _, rfl, ifT rfl ?_⟩
        rw [go_held W hn] at eg
        rw [hist_held W hn, List.append_nil] at eh
        refine ⟨_, rfl, ?_⟩
        have := q H2 y1 ts1 h2.tail (by rw [eg]; exact R1) tl1 eh.symm f1 f2 f3 f4 f5 (by rw [eg]; exact P1)
        rw [li] at this
        exact this
      | goes z k o z' hz hk ho hm =>
        have hn := nx_of hz hk ho hm
        refine ⟨p, _, rfl, SqT.of (h2.get 0 rfl), rfl, _, _, rfl, _, _, rfl, _, _, rfl, rfl, ?_⟩
        refine ⟨_, rfl, rfl, _, rfl, ifF rfl ?_⟩
        replace h2 := h2.tail
        have tll : y1.trail.length = ts.length + i := by rw [tl1]; unfold trV; rw [List.length_map, List.length_append, li]
        refine ⟨_, rfl, A.p, A.dx, _, rfl, h2.get 1 rfl, (fl_m4 _ _ _).2.2.1, _, rfl, _, rfl, A, y1, _, W, s1, z, k, z', rfl, h2, R1, hz, hk, (P1.app _).e z hz, by omega, by omega, fun H3 a h3 => ?_⟩
        refine ⟨_, rfl, _, _, rfl, rfl, ?_⟩
        have em : m.toNat - i = (m.toNat - (i + 1)) + 1 := by omega
        rw [em, go_succ W hn] at eg
        rw [em, hist_succ W hn] at eh
        refine ⟨m.toNat - (i + 1), by omega, i + 1, { y1 with sides := (stepS W s1 z k z').ss.map V.int, eng := .ref z'.1, rung := (stepS W s1 z k z').rg.map V.int, trail := y1.trail ++ [.ref a] }, ts1 ++ [(a, s1)], stepS W s1 z k z', _, _, _, rfl, by omega, rfl, ?_, stepS_keep R1 hz hk hm rfl rfl rfl rfl rfl rfl rfl, P1.step hn, ?_, by simp [li], eg, by rw [eh]; simp, ?_, f1, f2, f3, f4, f5⟩
        · rw [← List.append_assoc ts ts1, trK_snoc]
          exact h3.perm (List.Perm.append_left _ List.perm_middle.symm)
        · show y1.trail ++ [.ref a] = _
          rw [tl1]; unfold trV; simp
        · show ((stepS W s1 z k z').rg.map V.int).length ≤ _
          have := stepS_rg_le (w := W) (s := s1) (z := z) (k := k) (z' := z')
          have e := congrArg List.length R1.rg
          rw [List.length_map] at e ⊢
          omega
    · have hge : ¬ (i : Int) < m := of_decide_eq_false hc
      have e0 : m.toNat - i = 0 := by omega
      rw [e0] at eg eh
      refine ⟨_, rfl, ?_⟩
      have := q H1 y1 ts1 h1 (by rw [eg]; exact R1) tl1 (by rw [eh]; exact (List.append_nil _).symm) f1 f2 f3 f4 f5 (by rw [eg]; exact P1)
      rw [li] at this
      exact this
end

theorem Rep.eng {w : Wd} {s : Sd} {y : YR} (R : Rep w s y) (u : Option En) (hu : ∀ z, u = some z → w.ok z) (tr : List V) : Rep w { s with at_ := u } { y with eng := enV u, trail := tr } :=
  ⟨R.kd, R.no, R.ro, R.rr, R.sd, R.s12, R.mt, R.mo, rfl, hu, R.rg⟩
theorem why_cases (w : Wd) (s : Sd) (h : ∀ z, s.at_ = some z → w.ok z) : w.why s = .non ∨ ∃ x, w.why s = .str x := by
  cases hz : s.at_ with
  | none => exact .inr ⟨_, (why_none hz).2⟩
  | some z =>
    obtain ⟨k, hk, _⟩ := h z hz
    by_cases c : k.out z.2.2 (w.sv s z.2.1) = .non
    · exact .inr ⟨_, (why_stop hz hk c).2⟩
    · obtain ⟨o, ho⟩ := Kd.out_int (k := k) (fun e => c (by unfold Kd.out; rw [if_pos e])) z.2.2 (w.sv s z.2.1)
      cases hm : w.mf z.2.1 o with
      | none => exact .inr ⟨_, (why_loose hz hk ho hm).2⟩
      | some z' => exact .inl (why_goes hz hk ho hm)
end P


set_option Elab.async false
set_option linter.all false
set_option maxRecDepth 100000
set_option maxHeartbeats 4000000
namespace P
open PySem L2

def kvOf (ks : List Kd) : List (Key × V) := ks.zipIdx.map fun p => ((Sum.inl (p.2 : Int) : Key), V.str p.1.str)
theorem kvOf_snoc (ks : List Kd) (k : Kd) : kvOf (ks ++ [k]) = kvOf ks ++ [((Sum.inl (ks.length : Int) : Key), V.str k.str)] := by
  unfold kvOf
  rw [List.zipIdx_append, List.map_append]
  simp
theorem kvOf_length (ks : List Kd) : (kvOf ks).length = ks.length := by unfold kvOf; simp
theorem valV_kv (f : Kd → V) : ∀ (ks : List Kd) (n m : Nat), valV ((ks.zipIdx n).map fun p => ((Sum.inl (p.2 : Int) : Key), f p.1)) (Sum.inl (m : Int)) = if n ≤ m then (ks[m - n]?).map f else none
  | [], n, m => by simp [valV_nil]
  | k :: ks, n, m => by
    rw [List.zipIdx_cons, List.map_cons]
    by_cases e : n = m
    · subst e
      rw [valV_pos rfl]; simp
    · rw [valV_neg (fun z => e (by injection z with z; exact Int.ofNat.inj z)), valV_kv f ks (n + 1) m]
      by_cases c : n ≤ m
      · rw [if_pos c, if_pos (by omega)]
        obtain ⟨d, rfl⟩ : ∃ d, m = n + 1 + d := ⟨m - (n + 1), by omega⟩
        rw [show n + 1 + d - (n + 1) = d by omega, show n + 1 + d - n = d + 1 by omega]
        rfl
      · rw [if_neg c, if_neg (by omega)]
theorem valV_kvOf (ks : List Kd) (m : Nat) : valV (kvOf ks) (Sum.inl (m : Int)) = (ks[m]?).map fun k => V.str k.str := by
  have := valV_kv (fun k => V.str k.str) ks 0 m
  rw [if_pos (Nat.zero_le _)] at this
  exact this
structure Blt (y : YR) (ks : List Kd) (ns rs ss : List Int) : Prop where
  nx : y.next = ks.length
  kd : y.kinds = kvOf ks
  nl : ns.length = ks.length
  rl : rs.length = ks.length
  no : ∀ (i : Nat), valV y.notes (Sum.inl (i : Int)) = if ks[i]? = some .bell then some (.int (ns.getD i 0)) else none
  ro : ∀ (i : Nat), valV y.rods (Sum.inl (i : Int)) = if (ks[i]?.map Kd.point) = some true then some (.int (rs.getD i 0)) else none
  rr : ∀ (i : Nat), (ks[i]?.map Kd.point) = some true → 0 ≤ rs.getD i 0 ∧ rs.getD i 0 < ss.length
  nlen : y.notes.length ≤ ks.length
  rlen : y.rods.length ≤ ks.length
  sd : y.sides = ss.map V.int
  s12 : ∀ s ∈ ss, s = 1 ∨ s = 2
  sl : ss.length ≤ ks.length
  mt : y.mates = []
  en : y.eng = .non
  rg : y.rung = []
  tl : y.trail = []
  nr : ∀ x ∈ ns, 0 ≤ x ∧ x ≤ 9999
  rn : ∀ (i : Nat), (ks[i]?.map Kd.point) = some false → rs.getD i 0 < 0
theorem Blt.nil : Blt y0 [] [] [] [] := ⟨rfl, rfl, rfl, rfl, (fun i => rfl), (fun i => rfl), (fun i h => by simp at h), Nat.le_refl _, Nat.le_refl _, rfl, (fun _ h => nomatch h), Nat.le_refl _, rfl, rfl, rfl, rfl, (fun _ h => nomatch h), (fun i h => by simp at h)⟩
theorem Blt.small {y : YR} {ks : List Kd} {ns rs ss : List Int} (h : Blt y ks ns rs ss) (hk : ks.length ≤ 1000) : Small y :=
  ⟨by rw [h.kd, kvOf_length]; omega, by have := h.nlen; omega, by have := h.rlen; omega, by have := h.sl; rw [h.sd, List.length_map]; omega, by rw [h.mt]; decide, by rw [h.rg]; decide, by rw [h.tl]; decide⟩
theorem getD_snoc {xs : List Int} {x : Int} {i : Nat} (h : i < xs.length) : (xs ++ [x]).getD i 0 = xs.getD i 0 := by simp [List.getD, List.getElem?_append_left h]
theorem getD_last {xs : List Int} {x : Int} : (xs ++ [x]).getD xs.length 0 = x := by simp [List.getD]
theorem Blt.lay {y : YR} {ks : List Kd} {ns rs ss : List Int} (h : Blt y ks ns rs ss) (k : Kd) (z note bar : Int) (rod : V) (ss' : List Int) (hz : 0 ≤ z ∧ z ≤ 9999) (hb : k = .bell → note = z)
    (hp : k.point = true → (rod = .non ∧ bar = ss.length ∧ ss' = ss ++ [1]) ∨ (rod = .int bar ∧ 0 ≤ bar ∧ bar < ss.length ∧ ss' = ss)) (hn : k.point = false → ss' = ss ∧ bar < 0) :
    Blt (layY y k note rod) (ks ++ [k]) (ns ++ [z]) (rs ++ [bar]) ss' := by
  have hnl := h.nl
  have hrl := h.rl
  have up : ss.length ≤ ss'.length ∧ ss'.length ≤ ss.length + 1 := by
    cases e : k.point with
    | false => rw [(hn e).1]; omega
    | true => rcases hp e with ⟨_, _, r⟩ | ⟨_, _, _, r⟩ <;> rw [r] <;> simp
  have fresh : valV y.kinds (Sum.inl (ks.length : Int)) = none := by rw [h.kd, valV_kvOf, List.getElem?_eq_none (Nat.le_refl _)]; rfl
  have ne : ∀ {i : Nat}, ¬ i = ks.length → ¬ (Sum.inl (i : Int) : Key) = Sum.inl (ks.length : Int) := fun {i} c e => c (by injection e with e; exact Int.ofNat.inj e)
  have out : ∀ {i : Nat}, ¬ i = ks.length → ¬ i < ks.length → (ks ++ [k])[i]? = none ∧ ks[i]? = none := fun {i} c1 c2 => ⟨List.getElem?_eq_none (by simp; omega), List.getElem?_eq_none (by omega)⟩
  refine ⟨?_, ?_, by simp [hnl], by simp [hrl], fun i => ?_, fun i => ?_, fun i hi => ?_, ?_, ?_, ?_, ?_, ?_, h.mt, h.en, h.rg, rfl, ?_, fun i hi => ?_⟩
  · show y.next + 1 = _
    rw [h.nx]; simp
  · show putK y.kinds (Sum.inl y.next) (.str k.str) = _
    rw [h.nx, putK_new _ fresh, h.kd, kvOf_snoc]
  · show valV (if k = .bell then putK y.notes (Sum.inl y.next) (.int note) else y.notes) _ = _
    rw [h.nx]
    by_cases c : i = ks.length
    · subst c
      rw [List.getElem?_concat_length]
      by_cases kb : k = .bell
      · rw [if_pos kb, valV_put, if_pos rfl, if_pos (by rw [kb]), ← hnl, getD_last, hb kb]
      · rw [if_neg kb, h.no, List.getElem?_eq_none (Nat.le_refl _), if_neg (by intro z; cases z), if_neg (by intro z; exact kb (Option.some.inj z))]
    · have e : valV (if k = .bell then putK y.notes (Sum.inl (ks.length : Int)) (.int note) else y.notes) (Sum.inl (i : Int)) = valV y.notes (Sum.inl (i : Int)) := by
        by_cases kb : k = .bell
        · rw [if_pos kb, valV_put, if_neg (ne c)]
        · rw [if_neg kb]
      rw [e, h.no]
      by_cases c2 : i < ks.length
      · rw [List.getElem?_append_left c2, getD_snoc (by omega)]
      · rw [(out c c2).1, (out c c2).2, if_neg (by intro z; cases z), if_neg (by intro z; cases z)]
  · show valV (if k.point = true then putK y.rods (Sum.inl y.next) (if rod = .non then .int y.sides.length else rod) else y.rods) _ = _
    rw [h.nx]
    by_cases c : i = ks.length
    · subst c
      rw [List.getElem?_concat_length, ← hrl, getD_last, hrl]
      cases kp : k.point with
      | true =>
        rw [if_pos rfl, valV_put, if_pos rfl, if_pos (show Option.map Kd.point (some k) = some true by simp [kp])]
        rcases hp kp with ⟨r1, r2, _⟩ | ⟨r1, _, _, _⟩
        · rw [if_pos r1, h.sd, List.length_map, r2]
        · rw [r1, if_neg (by intro z; cases z)]
      | false =>
        rw [if_neg Bool.false_ne_true, h.ro, List.getElem?_eq_none (Nat.le_refl _), if_neg (by intro z; cases z), if_neg (by simp [kp])]
    · have e : valV (if k.point = true then putK y.rods (Sum.inl (ks.length : Int)) (if rod = .non then .int y.sides.length else rod) else y.rods) (Sum.inl (i : Int)) = valV y.rods (Sum.inl (i : Int)) := by
        by_cases kb : k.point = true
        · rw [if_pos kb, valV_put, if_neg (ne c)]
        · rw [if_neg kb]
      rw [e, h.ro]
      by_cases c2 : i < ks.length
      · rw [List.getElem?_append_left c2, getD_snoc (by omega)]
      · rw [(out c c2).1, (out c c2).2, if_neg (by intro z; cases z), if_neg (by intro z; cases z)]
  · by_cases c : i = ks.length
    · subst c
      rw [List.getElem?_concat_length] at hi
      rw [← hrl, getD_last]
      rcases hp (by simpa using hi) with ⟨_, r2, r3⟩ | ⟨_, r2, r3, r4⟩
      · refine ⟨by omega, ?_⟩
        rw [r3, r2, List.length_append, List.length_singleton]
        omega
      · rw [r4]; exact ⟨r2, r3⟩
    · by_cases c2 : i < ks.length
      · rw [List.getElem?_append_left c2] at hi
        rw [getD_snoc (by omega)]
        have := h.rr i hi
        exact ⟨this.1, by omega⟩
      · rw [(out c c2).1] at hi; cases hi
  · show (if k = .bell then putK y.notes (Sum.inl y.next) (.int note) else y.notes).length ≤ _
    have := h.nlen
    have := length_putK y.notes (Sum.inl y.next) (.int note)
    rw [List.length_append, List.length_singleton]
    split <;> omega
  · show (if k.point = true then putK y.rods (Sum.inl y.next) (if rod = .non then .int y.sides.length else rod) else y.rods).length ≤ _
    have := h.rlen
    have := length_putK y.rods (Sum.inl y.next) (if rod = .non then .int y.sides.length else rod)
    rw [List.length_append, List.length_singleton]
    split <;> omega
  · show (if k.point = true ∧ rod = .non then y.sides ++ [.int 1] else y.sides) = _
    cases kp : k.point with
    | true =>
      rcases hp kp with ⟨r1, _, r3⟩ | ⟨r1, _, _, r4⟩
      · rw [if_pos ⟨rfl, r1⟩, h.sd, r3, List.map_append]; rfl
      · rw [if_neg (by rw [r1]; intro z; cases z.2), h.sd, r4]
    | false => rw [if_neg (fun z => Bool.false_ne_true z.1), h.sd, (hn kp).1]
  · intro s hs
    cases kp : k.point with
    | true =>
      rcases hp kp with ⟨r1, _, r3⟩ | ⟨r1, _, _, r4⟩
      · rw [r3, List.mem_append] at hs
        rcases hs with hs | hs
        · exact h.s12 s hs
        · exact .inl (by simpa using hs)
      · rw [r4] at hs; exact h.s12 s hs
    | false => rw [(hn kp).1] at hs; exact h.s12 s hs
  · have := h.sl
    rw [List.length_append, List.length_singleton]
    omega
  · intro x hx
    rw [List.mem_append] at hx
    rcases hx with hx | hx
    · exact h.nr x hx
    · rw [List.mem_singleton.mp hx]; exact hz
  · by_cases c : i = ks.length
    · subst c
      rw [List.getElem?_concat_length] at hi
      rw [← hrl, getD_last]
      exact (hn (by simpa using hi)).2
    · by_cases c2 : i < ks.length
      · rw [List.getElem?_append_left c2] at hi
        rw [getD_snoc (by omega)]
        exact h.rn i hi
      · rw [(out c c2).1] at hi; cases hi

def sp_kinds : Sp := fun vs H Q _ => vs = [] ∧ ∀ p, H p = none → Q (.ref p) (upd H p (.lst [.str "line", .str "bell", .str "still", .str "lazy", .str "turning", .str "stop"]))
def sp_kind : Sp := fun vs H Q _ => ∃ (x : Int) (L : Kn), vs = [.int x] ∧ Has H L ∧ ∀ (k : Kd) H', Has H' L → Q (.str k.str) H'
def sp_size : Sp := fun vs H Q _ => ∃ x : Int, vs = [.int x] ∧ ∀ n : Int, 1 ≤ n → n ≤ 24 → Q (.int n) H
def ksV (ks : List Kd) : List V := ks.map fun k => V.str k.str
def sp_built (C : Addr) : Sp := fun vs H Q _ => ∃ (d : Addr) (ds : List Int) (a n : Int) (L : Kn) (j : Nat), vs = [.ref d, .int a, .int n] ∧ Has H L ∧ L[j]? = some (d, .lst (ds.map V.int)) ∧ 0 ≤ a ∧ 0 ≤ n ∧ n ≤ 24 ∧ a + 3 * n ≤ ds.length ∧
  ∀ H' A y (ks : List Kd) (ns rs ss : List Int) (tp sd rr nn kk : Addr), Blt y ks ns rs ss → (ks.length : Int) = n →
    Has H' ((tp, .tup [.ref A.p, .ref kk, .ref nn, .ref rr, .ref sd]) :: (yL C A y ++ ([(sd, .lst (ss.map V.int)), (rr, .lst (rs.map V.int)), (nn, .lst (ns.map V.int)), (kk, .lst (ksV ks))] ++ L))) → Q (.ref tp) H'
theorem Kd.of11 (x : Int) : ∃ k : Kd, atI ([V.str "line", .str "bell", .str "still", .str "lazy", .str "turning", .str "stop"] ++ [V.str "lazy", .str "turning", .str "bell", .str "still", .str "line"]) (x % 11) = some (.str k.str) := by
  have l0 := Int.emod_nonneg x (show (11 : Int) ≠ 0 by decide)
  have l1 := Int.emod_lt_of_pos x (show (0 : Int) < 11 by decide)
  generalize x % 11 = m at *
  have : m = 0 ∨ m = 1 ∨ m = 2 ∨ m = 3 ∨ m = 4 ∨ m = 5 ∨ m = 6 ∨ m = 7 ∨ m = 8 ∨ m = 9 ∨ m = 10 := by omega
  rcases this with rfl | rfl | rfl | rfl | rfl | rfl | rfl | rfl | rfl | rfl | rfl
  · exact ⟨.line, rfl⟩
  · exact ⟨.bell, rfl⟩
  · exact ⟨.still, rfl⟩
  · exact ⟨.lazy, rfl⟩
  · exact ⟨.turning, rfl⟩
  · exact ⟨.stop, rfl⟩
  · exact ⟨.lazy, rfl⟩
  · exact ⟨.turning, rfl⟩
  · exact ⟨.bell, rfl⟩
  · exact ⟨.still, rfl⟩
  · exact ⟨.line, rfl⟩
theorem atD {ds : List Int} {i : Int} (h0 : 0 ≤ i) (h1 : i < ds.length) : atI (ds.map V.int) i = some (.int (ds.getD i.toNat 0)) := by
  obtain ⟨m, rfl⟩ : ∃ m : Nat, i = m := ⟨i.toNat, by omega⟩
  have hl : m < ds.length := by omega
  rw [Int.toNat_natCast]
  refine atI_nat ?_
  rw [List.getElem?_map, List.getElem?_eq_getElem hl]
  simp [List.getD, List.getElem?_eq_getElem hl]
section
variable {P : Program} {w : World} {K : PySem.W.Frag} {mg : Str → Option Value} {base : Heap} {t : Adr}
theorem scKs : FnScope [] [] (defScope s_kinds) := ⟨rfl, rfl, rfl, by decide +kernel, rfl, by decide +kernel, by decide +kernel⟩
theorem ok_kinds (T : Txt K mg t) : FnOk P w K mg base CX0 1 t.f_kinds t.d_kinds [] sp_kinds := by
  refine T.F_kinds.ok scKs (fun vs H Q E h => ?_) (fun cdv A outer s H vs Q E hr h => ?_)
  · obtain ⟨rfl, _⟩ := h
    rfl
  · obtain ⟨rfl, q⟩ := h
    refine ⟨_, (pss_one (ps_ret (pe_lst (pa_cons pe_str (pa_cons pe_str (pa_cons pe_str (pa_cons pe_str (pa_cons pe_str (pa_cons pe_str pa_nil))))))))), ?_⟩
    exact ⟨(show 6 ≤ sizeLine by decide), fun p hp => q p hp⟩
theorem scKn : FnScope ["_law_draw"] ["_law_draw"] (defScope s_kind) := ⟨rfl, rfl, rfl, by decide +kernel, rfl, by decide +kernel, by decide +kernel⟩
theorem ok_kind (T : Txt K mg t) : FnOk P w K mg base CX0 2 t.f_kind t.d_kind ["_law_draw"] sp_kind := by
  refine T.F_kind.ok scKn (fun vs H Q E h => ?_) (fun cdv A outer s H vs Q E hr h => ?_)
  · obtain ⟨_, _, rfl, _⟩ := h
    rfl
  · obtain ⟨x, L, rfl, hH, q⟩ := h
    refine ⟨_, (pss_one (ps_ret (pe_ix ix_list (pe_op op_addL (pe_call0 (ok_kinds T) (hr.mono (by decide)) (by rfl) T.m_kinds T.F_kinds.kp (b_kinds T) .nil pass0) (pe_lst (pa_cons pe_str (pa_cons pe_str (pa_cons pe_str (pa_cons pe_str (pa_cons pe_str pa_nil))))))) (pe_op op_mod (pv 0) pe_int) (fun _ _ => rfl)))), ?_⟩
    refine ⟨rfl, fun p1 hp1 => ?_⟩
    have h1 := hH.alloc hp1 (.lst [.str "line", .str "bell", .str "still", .str "lazy", .str "turning", .str "stop"])
    refine ⟨(show 5 ≤ sizeLine by decide), fun p2 hp2 => ?_⟩
    have h2 := h1.alloc hp2 (.lst [.str "lazy", .str "turning", .str "bell", .str "still", .str "line"])
    refine ⟨p1, p2, _, _, rfl, rfl, SqL.of (h2.get 1 rfl), SqL.of (h2.get 0 rfl), (show 11 ≤ sizeLine by decide), fun p3 hp3 => ?_⟩
    have h3 := h2.alloc hp3 (.lst ([V.str "line", .str "bell", .str "still", .str "lazy", .str "turning", .str "stop"] ++ [V.str "lazy", .str "turning", .str "bell", .str "still", .str "line"]))
    obtain ⟨k, hk⟩ := Kd.of11 x
    refine ⟨_, rfl, _, _, rfl, rfl, (show (0 : Int) < 11 by decide), p3, _, _, _, rfl, rfl, SqL.of (h3.get 0 rfl), hk, ?_⟩
    exact q k _ h3.tail.tail.tail
theorem scSz : FnScope ["_law_draw"] ["_law_draw"] (defScope s_size) := ⟨rfl, rfl, rfl, by decide +kernel, rfl, by decide +kernel, by decide +kernel⟩
theorem ok_size (T : Txt K mg t) : FnOk P w K mg base CX0 1 t.f_size t.d_size ["_law_draw"] sp_size := by
  refine T.F_size.ok scSz (fun vs H Q E h => ?_) (fun cdv A outer s H vs Q E hr h => ?_)
  · obtain ⟨_, rfl, _⟩ := h
    rfl
  · obtain ⟨x, rfl, q⟩ := h
    refine ⟨_, (pss_cons (ps_if (pt_cmpR op_eq (pe_op op_mod (pe_op op_fdiv (pv 0) pe_int) pe_int) pe_int (nomark _))
        (pss_one (ps_ret pe_int))
        pss_nil)
      (pss_one (ps_ret (pe_op op_add pe_int (pe_op op_mod (pv 0) pe_int))))), ?_⟩
    refine ⟨_, rfl, _, _, rfl, rfl, ⟨by decide, by decide⟩, _, _, rfl, rfl, (show (0 : Int) < 6 by decide), rfl, _, rfl, if2 (fun _ => ?_) (fun _ => ?_)⟩
    · exact q 24 (by decide) (by decide)
    · refine ⟨_, rfl, _, _, rfl, rfl, (show (0 : Int) < 9 by decide), _, _, rfl, rfl, ?_⟩
      have l0 := Int.emod_nonneg x (show (9 : Int) ≠ 0 by decide)
      have l1 := Int.emod_lt_of_pos x (show (0 : Int) < 9 by decide)
      exact q _ (by omega) (by omega)
theorem scBu : FnScope ["_law_d", "_law_at", "_law_many_here", "_law_yard", "_law_kinds_here", "_law_notes", "_law_rods", "_law_sides", "_law_piece", "_law_kind_here", "_law_note", "_law_way", "_law_bar"] ["_law_d", "_law_at", "_law_many_here"] (defScope s_built) := ⟨rfl, rfl, rfl, by decide +kernel, rfl, by decide +kernel, by decide +kernel⟩
theorem ok_built (T : Txt K mg t) : FnOk P w K mg base CX0 5 t.f_built t.d_built ["_law_d", "_law_at", "_law_many_here"] (sp_built t.c_Yard) := by
  obtain ⟨_, hd_Yard_lay_2, hb_Yard_lay_2⟩ := bD_Yard_lay_2 T
  obtain ⟨_, hd_Yard_lay_3, hb_Yard_lay_3⟩ := bD_Yard_lay_3 T
  obtain ⟨_, hd_Yard_lay_4, hb_Yard_lay_4⟩ := bD_Yard_lay_4 T
  refine T.F_built.ok scBu (fun vs H Q E h => ?_) (fun cdv A outer s H vs Q E hr h => ?_)
  · obtain ⟨_, _, _, _, _, _, rfl, _⟩ := h
    rfl
  · obtain ⟨d, ds, a, n, L, j, rfl, hH, hj, a0, n0, n24, hds, q⟩ := h
    refine ⟨_, (pss_cons (ps_set (i := 3) scBu.nd rfl (Or.inl rfl) (pe_make0 T.mk_Yard (ok_Yard_init T) (hr.mono (by decide)) (by rfl) T.m_Yard (b_Yard_init T) .nil pass0))
      (pss_cons (ps_set (i := 4) scBu.nd rfl (Or.inl rfl) (pe_lst pa_nil))
      (pss_cons (ps_set (i := 5) scBu.nd rfl (Or.inl rfl) (pe_lst pa_nil))
      (pss_cons (ps_set (i := 6) scBu.nd rfl (Or.inl rfl) (pe_lst pa_nil))
      (pss_cons (ps_set (i := 7) scBu.nd rfl (Or.inl rfl) (pe_lst pa_nil))
      (pss_cons (ps_for PassesOwn.never rfl (pi_range1 (by rfl) T.z_range (pa_cons (pv 2) pa_nil)) (pg_name (i := 8) scBu.nd rfl (Or.inl rfl))
        (pss_cons (ps_set (i := 9) scBu.nd rfl (Or.inl rfl) (pe_call (ok_kind T) (hr.mono (by decide)) (by rfl) T.m_kind T.F_kind.kp (b_kind T) .nil pass0 (pa_cons (pe_ix ix_list (pv 0) (pe_op op_add (pv 1) (pe_op op_mul pe_int (pv 8))) (fun _ _ => rfl)) pa_nil)))
          (pss_cons (ps_set (i := 10) scBu.nd rfl (Or.inl rfl) (pe_op op_mod (pe_ix ix_list (pv 0) (pe_op op_add (pe_op op_add (pv 1) (pe_op op_mul pe_int (pv 8))) pe_int) (fun _ _ => rfl)) pe_int))
          (pss_cons (ps_set (i := 11) scBu.nd rfl (Or.inl rfl) (pe_ix ix_list (pv 0) (pe_op op_add (pe_op op_add (pv 1) (pe_op op_mul pe_int (pv 8))) pe_int) (fun _ _ => rfl)))
          (pss_cons (ps_set (i := 12) scBu.nd rfl (Or.inl rfl) (pe_op op_sub pe_int pe_int))
          (pss_cons (ps_if (pt_cmpR op_eq (pv 9) pe_str (nomark _))
            (pss_one (ps_expr (pe_meth (pv 3) T.cl_Yard T.M_Yard_lay (ok_Yard_lay T) (hr.mono (by decide)) hb_Yard_lay_3 hd_Yard_lay_3 pass0 (pa_cons (pv 9) (pa_cons (pv 10) pa_nil)))))
            (pss_one (ps_if (pt_cmpR op_lt (pe_call (ok_many T) (hr.mono (by decide)) (by rfl) T.m_many T.F_many.kp (b_many T) .nil pass0 (pa_cons (pv 9) pa_nil)) pe_int (nomark _))
                (pss_one (ps_expr (pe_meth (pv 3) T.cl_Yard T.M_Yard_lay (ok_Yard_lay T) (hr.mono (by decide)) hb_Yard_lay_2 hd_Yard_lay_2 pass0 (pa_cons (pv 9) pa_nil))))
                (pss_one (ps_if (PW.pt (pw_and (pt_cmpR op_eq (pe_op op_mod (pv 11) pe_int) pe_int (nomark _)) (pw_and1 (pt_cmpR op_gt (pe_callB call_len_seq (by rfl) T.z_len (by rfl) (pa_cons (pv 7) pa_nil)) pe_int (nomark _)))))
                    (pss_cons (ps_set (i := 12) scBu.nd rfl (Or.inl rfl) (pe_op op_mod (pe_op op_fdiv (pv 11) pe_int) (pe_callB call_len_seq (by rfl) T.z_len (by rfl) (pa_cons (pv 7) pa_nil))))
                      (pss_one (ps_expr (pe_meth (pv 3) T.cl_Yard T.M_Yard_lay (ok_Yard_lay T) (hr.mono (by decide)) hb_Yard_lay_4 hd_Yard_lay_4 pass0 (pa_cons (pv 9) (pa_cons pe_int (pa_cons (pv 12) pa_nil)))))))
                    (pss_cons (ps_set (i := 12) scBu.nd rfl (Or.inl rfl) (pe_callB call_len_seq (by rfl) T.z_len (by rfl) (pa_cons (pv 7) pa_nil)))
                      (pss_cons (ps_expr (pe_bm PySem.F.plainAttrs_list PySem.F.slot_list_append PySem.F.type_list_append mt_append (pv 7) (pa_cons pe_int pa_nil)))
                      (pss_one (ps_expr (pe_meth (pv 3) T.cl_Yard T.M_Yard_lay (ok_Yard_lay T) (hr.mono (by decide)) hb_Yard_lay_2 hd_Yard_lay_2 pass0 (pa_cons (pv 9) pa_nil)))))))))))
          (pss_cons (ps_expr (pe_bm PySem.F.plainAttrs_list PySem.F.slot_list_append PySem.F.type_list_append mt_append (pv 4) (pa_cons (pv 9) pa_nil)))
          (pss_cons (ps_expr (pe_bm PySem.F.plainAttrs_list PySem.F.slot_list_append PySem.F.type_list_append mt_append (pv 5) (pa_cons (pv 10) pa_nil)))
          (pss_one (ps_expr (pe_bm PySem.F.plainAttrs_list PySem.F.slot_list_append PySem.F.type_list_append mt_append (pv 6) (pa_cons (pv 12) pa_nil))))))))))))
      (pss_one (ps_ret (pe_tup (pa_cons (pv 3) (pa_cons (pv 4) (pa_cons (pv 5) (pa_cons (pv 6) (pa_cons (pv 7) pa_nil)))))))))))))), ?_⟩
    intro p1 dx1 hp1 hdx1 ne1
    refine ⟨p1, dx1, _, rfl, (hH.alloc hdx1 (.own p1)).alloc (by rw [upd_ne (Ne.symm ne1)]; exact hp1) (.ins t.c_Yard dx1 []), fun H2 A1 e1 h2 => ⟨rfl, ?_⟩⟩
    subst e1
    refine ⟨by decide, fun kk hkk => ?_⟩
    have h3 := h2.alloc hkk (.lst [])
    generalize upd H2 kk _ = H3 at h3 ⊢
    refine ⟨by decide, fun nn hnn => ?_⟩
    have h4 := h3.alloc hnn (.lst [])
    generalize upd H3 nn _ = H4 at h4 ⊢
    refine ⟨by decide, fun rr hrr => ?_⟩
    have h5 := h4.alloc hrr (.lst [])
    generalize upd H4 rr _ = H5 at h5 ⊢
    refine ⟨by decide, fun sd hsd => ?_⟩
    have h6 := Has.comm (X := [(sd, .lst []), (rr, .lst []), (nn, .lst []), (kk, .lst [])]) (Y := yL t.c_Yard A1 y0) (R := L) (h5.alloc hsd (.lst []))
    generalize upd H5 sd _ = H6 at h6 ⊢
    refine ⟨_, rfl, n, rfl, by omega, by omega, for_range (fun i σ H' => ∃ (A1 : YA) (y : YR) (ks : List Kd) (ns rs ss : List Int) (o1 o2 o3 o4 o5 : Option V), Blt y ks ns rs ss ∧ ks.length = i ∧ σ = [some (.ref d), some (.int a), some (.int n), some (.ref A1.p), some (.ref kk), some (.ref nn), some (.ref rr), some (.ref sd), o1, o2, o3, o4, o5] ∧
      Has H' (yL t.c_Yard A1 y ++ ([(sd, .lst (ss.map V.int)), (rr, .lst (rs.map V.int)), (nn, .lst (ns.map V.int)), (kk, .lst (ksV ks))] ++ L))) ⟨_, _, _, _, _, _, _, _, _, _, _, Blt.nil, rfl, rfl, h6⟩ ?_ ?_⟩
    · clear h2 h3 h4 h5 h6
      rintro i σ H6 hi ⟨A1, y, ks, ns, rs, ss, o1, o2, o3, o4, o5, B, lk, rfl, h6⟩
      have i24 : i < 24 := by omega
      have hnl := B.nl
      have hrl := B.rl
      have hsl := B.sl
      have hd1 : SqL K H6 d (ds.map V.int) := SqL.of (h6.get (j + 13) (by simpa [yL] using hj))
      refine ⟨_, rfl, _, rfl, _, rfl, _, _, rfl, rfl, (.inl ⟨by decide, by decide⟩), _, _, rfl, rfl, d, _, _, _, rfl, rfl, hd1, atD (by omega) (by omega), _, _, rfl, h6, fun k H7 h7 => ?_⟩
      have hd2 : SqL K H7 d (ds.map V.int) := SqL.of (h7.get (j + 13) (by simpa [yL] using hj))
      clear h6
      refine ⟨_, rfl, _, rfl, _, rfl, _, _, rfl, rfl, (.inl ⟨by decide, by decide⟩), _, _, rfl, rfl, _, _, rfl, rfl, d, _, _, _, rfl, rfl, hd2, atD (by omega) (by omega), _, _, rfl, rfl, (show (0 : Int) < 10000 by decide), ?_⟩
      refine ⟨_, rfl, _, rfl, _, rfl, _, _, rfl, rfl, (.inl ⟨by decide, by decide⟩), _, _, rfl, rfl, _, _, rfl, rfl, d, _, _, _, rfl, rfl, hd2, atD (by omega) (by omega), ?_⟩
      refine ⟨_, _, rfl, rfl, ?_⟩
      dsimp only
      have z0 := Int.emod_nonneg (ds.getD (a + 3 * (0 + (i : Int)) + 1).toNat 0) (show (10000 : Int) ≠ 0 by decide)
      have z1 := Int.emod_lt_of_pos (ds.getD (a + 3 * (0 + (i : Int)) + 1).toNat 0) (show (0 : Int) < 10000 by decide)
      generalize ds.getD (a + 3 * (0 + (i : Int)) + 1).toNat 0 % 10000 = z at z0 z1 ⊢
      generalize ds.getD (a + 3 * (0 + (i : Int)) + 2).toNat 0 = way
      have hz : 0 ≤ z ∧ z ≤ 9999 := ⟨z0, by omega⟩
      refine ⟨_, rfl, rfl, _, rfl, ?_⟩
      rw [k.isBell]
      refine ifd (fun kb => ?_) (fun kb => ?_)
      · refine ⟨_, rfl, A1.p, A1.dx, _, rfl, h7.get 1 rfl, (fl_m _ _ _).1, _, rfl, _, rfl, A1, y, _, k, z, .non, rfl, h7, B.small (by omega), fun _ => hz, fun _ h => absurd rfl h, fun H9 q9 h9 => ?_⟩
        have kp : k.point = false := by rw [kb]; rfl
        refine ⟨_, rfl, .inl ⟨rfl, _, SqL.of (h9.get 12 rfl)⟩, _, rfl, kk, _, _, rfl, rfl, h9.get 12 rfl, sizeOk (by unfold ksV; rw [List.length_map]; omega), ?_⟩
        have h10 := h9.puti 12 rfl (.lst (ksV ks ++ [.str k.str]))
        refine ⟨_, rfl, .inl ⟨rfl, _, SqL.of (h10.get 11 rfl)⟩, _, rfl, nn, _, _, rfl, rfl, h10.get 11 rfl, sizeOk (by rw [List.length_map]; omega), ?_⟩
        have h11 := h10.puti 11 rfl (.lst (ns.map V.int ++ [.int z]))
        refine ⟨_, rfl, .inl ⟨rfl, _, SqL.of (h11.get 10 rfl)⟩, _, rfl, rr, _, _, rfl, rfl, h11.get 10 rfl, sizeOk (by rw [List.length_map]; omega), ?_⟩
        have h12 := h11.puti 10 rfl (.lst (rs.map V.int ++ [.int (0 - 1)]))
        refine ⟨{ A1 with tr := q9 }, _, ks ++ [k], ns ++ [z], rs ++ [(0 - 1)], ss, _, _, _, _, _, (B.lay k z z (0 - 1) .non ss hz (fun _ => rfl) (fun h => absurd (kp.symm.trans h) (by decide)) (fun _ => ⟨rfl, by decide⟩)), by simp [lk], rfl, ?_⟩
        have e1 : ksV (ks ++ [k]) = ksV ks ++ [.str k.str] := by unfold ksV; rw [List.map_append]; rfl
        rw [e1, List.map_append (l₁ := ns), List.map_append (l₁ := rs)]
        exact h12
      · refine ⟨_, rfl, k, rfl, _, _, rfl, rfl, _, rfl, if2 (fun km => ?_) (fun km => ?_)⟩
        · refine ⟨_, rfl, A1.p, A1.dx, _, rfl, h7.get 1 rfl, (fl_m _ _ _).1, _, rfl, A1, y, _, k, 0, .non, rfl, h7, B.small (by omega), fun h => absurd h kb, fun _ h => absurd rfl h, fun H9 q9 h9 => ?_⟩
          have kp : k.point = false := by cases k <;> first | rfl | (exfalso; revert km; decide)
          refine ⟨_, rfl, .inl ⟨rfl, _, SqL.of (h9.get 12 rfl)⟩, _, rfl, kk, _, _, rfl, rfl, h9.get 12 rfl, sizeOk (by unfold ksV; rw [List.length_map]; omega), ?_⟩
          have h10 := h9.puti 12 rfl (.lst (ksV ks ++ [.str k.str]))
          refine ⟨_, rfl, .inl ⟨rfl, _, SqL.of (h10.get 11 rfl)⟩, _, rfl, nn, _, _, rfl, rfl, h10.get 11 rfl, sizeOk (by rw [List.length_map]; omega), ?_⟩
          have h11 := h10.puti 11 rfl (.lst (ns.map V.int ++ [.int z]))
          refine ⟨_, rfl, .inl ⟨rfl, _, SqL.of (h11.get 10 rfl)⟩, _, rfl, rr, _, _, rfl, rfl, h11.get 10 rfl, sizeOk (by rw [List.length_map]; omega), ?_⟩
          have h12 := h11.puti 10 rfl (.lst (rs.map V.int ++ [.int (0 - 1)]))
          refine ⟨{ A1 with tr := q9 }, _, ks ++ [k], ns ++ [z], rs ++ [(0 - 1)], ss, _, _, _, _, _, (B.lay k z 0 (0 - 1) .non ss hz (fun h => absurd h kb) (fun h => absurd (kp.symm.trans h) (by decide)) (fun _ => ⟨rfl, by decide⟩)), by simp [lk], rfl, ?_⟩
          have e1 : ksV (ks ++ [k]) = ksV ks ++ [.str k.str] := by unfold ksV; rw [List.map_append]; rfl
          rw [e1, List.map_append (l₁ := ns), List.map_append (l₁ := rs)]
          exact h12
        · have kp : k.point = true := by cases k <;> first | rfl | (exfalso; revert km; decide) | exact absurd rfl kb
          have hsd : SqL K H7 sd (ss.map V.int) := SqL.of (h7.get 9 rfl)
          have h8 : Has (upd H7 sd (.lst (ss.map V.int ++ [.int 1]))) (yL t.c_Yard A1 y ++ ([(sd, .lst ((ss ++ [1]).map V.int)), (rr, .lst (rs.map V.int)), (nn, .lst (ns.map V.int)), (kk, .lst (ksV ks))] ++ L)) := by
            rw [List.map_append]
            exact h7.puti 9 rfl (.lst (ss.map V.int ++ [.int 1]))
          refine ⟨_, rfl, _, _, rfl, rfl, (show (0 : Int) < 3 by decide), rfl, _, rfl, if2 (fun _ => ⟨_, rfl, sd, _, rfl, .inl hsd, _, _, rfl, rfl, _, rfl, if2 (fun hs => ?_) (fun hs => ?_)⟩) (fun _ => iteF ?_)⟩
          · have s0 : 0 < ss.length := by
              have := of_decide_eq_true hs
              rw [List.length_map] at this
              omega
            refine ⟨_, rfl, _, _, rfl, rfl, ⟨by decide, by decide⟩, _, rfl, sd, _, rfl, .inl hsd, _, _, rfl, rfl, (show (0 : Int) < ((ss.map V.int).length : Int) by rw [List.length_map]; omega), ?_⟩
            rw [List.length_map]
            dsimp only
            have b0 := Int.emod_nonneg (way / 3) (show ((ss.length : Nat) : Int) ≠ 0 by omega)
            have b1 := Int.emod_lt_of_pos (way / 3) (show (0 : Int) < ((ss.length : Nat) : Int) by omega)
            generalize way / 3 % (ss.length : Int) = bar at b0 b1 ⊢
            refine ⟨_, rfl, A1.p, A1.dx, _, rfl, h7.get 1 rfl, (fl_m _ _ _).1, _, rfl, _, rfl, A1, y, _, k, 0, .int bar, rfl, h7, B.small (by omega), fun h => absurd h kb, fun _ _ => ⟨bar, rfl, b0, by rw [B.sd, List.length_map]; exact b1⟩, fun H9 q9 h9 => ?_⟩
            refine ⟨_, rfl, .inl ⟨rfl, _, SqL.of (h9.get 12 rfl)⟩, _, rfl, kk, _, _, rfl, rfl, h9.get 12 rfl, sizeOk (by unfold ksV; rw [List.length_map]; omega), ?_⟩
            have h10 := h9.puti 12 rfl (.lst (ksV ks ++ [.str k.str]))
            refine ⟨_, rfl, .inl ⟨rfl, _, SqL.of (h10.get 11 rfl)⟩, _, rfl, nn, _, _, rfl, rfl, h10.get 11 rfl, sizeOk (by rw [List.length_map]; omega), ?_⟩
            have h11 := h10.puti 11 rfl (.lst (ns.map V.int ++ [.int z]))
            refine ⟨_, rfl, .inl ⟨rfl, _, SqL.of (h11.get 10 rfl)⟩, _, rfl, rr, _, _, rfl, rfl, h11.get 10 rfl, sizeOk (by rw [List.length_map]; omega), ?_⟩
            have h12 := h11.puti 10 rfl (.lst (rs.map V.int ++ [.int bar]))
            refine ⟨{ A1 with tr := q9 }, _, ks ++ [k], ns ++ [z], rs ++ [bar], ss, _, _, _, _, _, (B.lay k z 0 bar (.int bar) ss hz (fun h => absurd h kb) (fun _ => .inr ⟨rfl, b0, b1, rfl⟩) (fun h => absurd (kp.symm.trans h) (by decide))), by simp [lk], rfl, ?_⟩
            have e1 : ksV (ks ++ [k]) = ksV ks ++ [.str k.str] := by unfold ksV; rw [List.map_append]; rfl
            rw [e1, List.map_append (l₁ := ns), List.map_append (l₁ := rs)]
            exact h12
          all_goals
            refine ⟨_, rfl, sd, _, rfl, .inl hsd, ?_⟩
            refine ⟨_, rfl, .inl ⟨rfl, _, hsd⟩, sd, _, _, rfl, rfl, h7.get 9 rfl, sizeOk (by rw [List.length_map]; omega), ?_⟩
            refine ⟨_, rfl, A1.p, A1.dx, _, rfl, h8.get 1 rfl, (fl_m _ _ _).1, _, rfl, A1, y, _, k, 0, .non, rfl, h8, B.small (by omega), fun h => absurd h kb, fun _ h => absurd rfl h, fun H9 q9 h9 => ?_⟩
            refine ⟨_, rfl, .inl ⟨rfl, _, SqL.of (h9.get 12 rfl)⟩, _, rfl, kk, _, _, rfl, rfl, h9.get 12 rfl, sizeOk (by unfold ksV; rw [List.length_map]; omega), ?_⟩
            have h10 := h9.puti 12 rfl (.lst (ksV ks ++ [.str k.str]))
            refine ⟨_, rfl, .inl ⟨rfl, _, SqL.of (h10.get 11 rfl)⟩, _, rfl, nn, _, _, rfl, rfl, h10.get 11 rfl, sizeOk (by rw [List.length_map]; omega), ?_⟩
            have h11 := h10.puti 11 rfl (.lst (ns.map V.int ++ [.int z]))
            refine ⟨_, rfl, .inl ⟨rfl, _, SqL.of (h11.get 10 rfl)⟩, _, rfl, rr, _, _, rfl, rfl, h11.get 10 rfl, sizeOk (by rw [List.length_map]; omega), ?_⟩
            have h12 := h11.puti 10 rfl (.lst (rs.map V.int ++ [.int (((ss.map V.int).length : Int))]))
            refine ⟨{ A1 with tr := q9 }, _, ks ++ [k], ns ++ [z], rs ++ [(((ss.map V.int).length : Int))], (ss ++ [1]), _, _, _, _, _, (B.lay k z 0 (((ss.map V.int).length : Int)) .non (ss ++ [1]) hz (fun h => absurd h kb) (fun _ => .inl ⟨rfl, by rw [List.length_map], rfl⟩) (fun h => absurd (kp.symm.trans h) (by decide))), by simp [lk], rfl, ?_⟩
            have e1 : ksV (ks ++ [k]) = ksV ks ++ [.str k.str] := by unfold ksV; rw [List.map_append]; rfl
            rw [e1, List.map_append (l₁ := ns), List.map_append (l₁ := rs)]
            exact h12
    · rintro σ H6 ⟨A1, y, ks, ns, rs, ss, o1, o2, o3, o4, o5, B, lk, rfl, h6⟩
      refine ⟨_, rfl, _, rfl, _, rfl, _, rfl, _, rfl, (show 5 ≤ sizeLine by decide), fun tp htp => ?_⟩
      exact q _ A1 y ks ns rs ss tp sd rr nn kk B (by omega) (h6.alloc htp _)
end

def endsL (ks : List Kd) : List (Int × Int) := ks.zipIdx.flatMap fun p => (List.range p.1.many.toNat).map fun e : Nat => ((p.2 : Int), (e : Int))
theorem endsL_snoc (ks : List Kd) (k : Kd) : endsL (ks ++ [k]) = endsL ks ++ (List.range k.many.toNat).map fun e : Nat => ((ks.length : Int), (e : Int)) := by
  unfold endsL
  rw [List.zipIdx_append, List.flatMap_append]
  simp
def esK (es : List (Addr × Int × Int)) : Kn := es.map fun x => (x.1, HO.tup [.int x.2.1, .int x.2.2])
def esV (es : List (Addr × Int × Int)) : List V := es.map fun x => V.ref x.1
theorem endsL_le (ks : List Kd) : (endsL ks).length ≤ 3 * ks.length := by
  unfold endsL
  have : ∀ (l : List (Kd × Nat)), (l.flatMap fun p => (List.range p.1.many.toNat).map fun e : Nat => ((p.2 : Int), (e : Int))).length ≤ 3 * l.length := by
    intro l
    induction l with
    | nil => simp
    | cons p l ih =>
      rw [List.flatMap_cons, List.length_append, List.length_map, List.length_range, List.length_cons]
      have : p.1.many.toNat ≤ 3 := by cases p.1 <;> decide
      omega
  have h := this ks.zipIdx
  rw [List.length_zipIdx] at h
  exact h
theorem endsL_there {ks : List Kd} {n e : Int} (h : (n, e) ∈ endsL ks) : ∃ (i : Nat) (k : Kd), n = i ∧ ks[i]? = some k ∧ 0 ≤ e ∧ e < k.many := by
  unfold endsL at h
  obtain ⟨p, hp, hq⟩ := List.mem_flatMap.mp h
  obtain ⟨x, hx, he⟩ := List.mem_map.mp hq
  rw [List.mem_range] at hx
  cases he
  refine ⟨p.2, p.1, rfl, ?_, by omega, by omega⟩
  have := List.mem_zipIdx_iff_getElem?.mp hp
  simpa using this
def sp_ends : Sp := fun vs H Q _ => ∃ (kk : Addr) (ks : List Kd) (L : Kn) (j : Nat), vs = [.ref kk] ∧ Has H L ∧ L[j]? = some (kk, .lst (ksV ks)) ∧ ks.length ≤ 1000 ∧
  ∀ H' (el : Addr) (es : List (Addr × Int × Int)), es.map (·.2) = endsL ks → Has H' ((el, .lst (esV es)) :: (esK es ++ L)) → Q (.ref el) H'
section
variable {P : Program} {w : World} {K : PySem.W.Frag} {mg : Str → Option Value} {base : Heap} {t : Adr}
theorem scEn : FnScope ["_law_kinds_here", "_law_ends_here", "_law_piece", "_law_kind_here", "_law_place"] ["_law_kinds_here"] (defScope s_ends) := ⟨rfl, rfl, rfl, by decide +kernel, rfl, by decide +kernel, by decide +kernel⟩
theorem ok_ends (T : Txt K mg t) : FnOk P w K mg base CX0 2 t.f_ends t.d_ends ["_law_kinds_here"] sp_ends := by
  refine T.F_ends.ok scEn (fun vs H Q E h => ?_) (fun cdv A outer s H vs Q E hr h => ?_)
  · obtain ⟨_, _, _, _, rfl, _⟩ := h
    rfl
  · obtain ⟨kk, ks, L, j, rfl, hH, hj, hk, q⟩ := h
    refine ⟨_, (pss_cons (ps_set (i := 1) scEn.nd rfl (Or.inl rfl) (pe_lst pa_nil))
      (pss_cons (ps_for PassesOwn.never rfl (pi_enum (by rfl) T.z_enumerate (pa_cons (pv 0) pa_nil)) (pg_tup rfl (pgs_cons (pg_name (i := 2) scEn.nd rfl (Or.inl rfl)) (pgs_cons (pg_name (i := 3) scEn.nd rfl (Or.inl rfl)) pgs_nil)))
        (pss_one (ps_for PassesOwn.never rfl (pi_range1 (by rfl) T.z_range (pa_cons (pe_call (ok_many T) (hr.mono (by decide)) (by rfl) T.m_many T.F_many.kp (b_many T) .nil pass0 (pa_cons (pv 3) pa_nil)) pa_nil)) (pg_name (i := 4) scEn.nd rfl (Or.inl rfl))
            (pss_one (ps_expr (pe_bm PySem.F.plainAttrs_list PySem.F.slot_list_append PySem.F.type_list_append mt_append (pv 1) (pa_cons (pe_tup (pa_cons (pv 2) (pa_cons (pv 4) pa_nil))) pa_nil)))))))
      (pss_one (ps_ret (pv 1))))), ?_⟩
    refine ⟨by decide, fun el hel => ?_⟩
    have h1 := hH.alloc hel (.lst [])
    generalize upd H el _ = H1 at h1 ⊢
    have gk : ∀ {H : Hp} {x : HO} {M : Kn}, Has H ((el, x) :: (M ++ L)) → SqL K H kk (ksV ks) := fun {H x M} h => SqL.of (h.get (M.length + j + 1) (by
      rw [List.getElem?_cons_succ, List.getElem?_append_right (by omega), show M.length + j - M.length = j by omega]; exact hj))
    refine ⟨_, rfl, kk, rfl, ⟨_, gk (M := []) h1⟩, for_enum (xs := ksV ks) (fun i σ H' => ∃ (es : List (Addr × Int × Int)) (o1 o2 o3 : Option V), es.map (·.2) = endsL (ks.take i) ∧ σ = [some (.ref kk), some (.ref el), o1, o2, o3] ∧ Has H' ((el, .lst (esV es)) :: (esK es ++ L)))
      ⟨[], _, _, _, rfl, rfl, h1⟩ (fun i σ H' _ ⟨es, _, _, _, _, _, h⟩ => gk h) ?_ ?_⟩
    · rintro i x σ H2 p hx ⟨es, o1, o2, o3, hes, rfl, h2⟩ hp
      have hi : i < ks.length := by
        have := (List.getElem?_eq_some_iff.mp hx).1
        unfold ksV at this
        rw [List.length_map] at this; exact this
      have ex : x = .str (ks[i]).str := by
        unfold ksV at hx
        rw [List.getElem?_map, List.getElem?_eq_getElem hi] at hx
        exact (Option.some.inj hx).symm
      subst ex
      have h3 := h2.alloc hp (.tup [.int i, .str (ks[i]).str])
      refine ⟨p, _, rfl, SqT.of (h3.get 0 rfl), rfl, _, _, rfl, _, _, rfl, rfl, ?_⟩
      have h4 := h3.tail
      generalize upd H2 p _ = H3 at h4 ⊢
      clear h2 h3 hp
      have hm : 1 ≤ (ks[i]).many ∧ (ks[i]).many ≤ 3 := by cases ks[i] <;> decide
      have hti : (ks.take i).length = i := by rw [List.length_take]; omega
      have hen : (endsL (ks.take i)).length ≤ 3000 := Nat.le_trans (endsL_le _) (by omega)
      refine ⟨_, rfl, ks[i], rfl, _, rfl, by omega, by omega, for_range (fun e σ H' => ∃ (es : List (Addr × Int × Int)) (o3 : Option V), es.map (·.2) = endsL (ks.take i) ++ (List.range e).map (fun e : Nat => ((i : Int), (e : Int))) ∧ σ = [some (.ref kk), some (.ref el), some (.int i), some (.str (ks[i]).str), o3] ∧ Has H' ((el, .lst (esV es)) :: (esK es ++ L)))
        ⟨es, _, by rw [hes]; simp, rfl, h4⟩ ?_ ?_⟩
      · clear h4 hes es o3
        rintro e σ H4 he ⟨es, o3, hes, rfl, h4⟩
        have hle : es.length ≤ 3003 := by
          have := congrArg List.length hes
          rw [List.length_map, List.length_append, List.length_map, List.length_range] at this
          omega
        refine ⟨_, rfl, .inl ⟨rfl, _, SqL.of (h4.get 0 rfl)⟩, _, rfl, _, rfl, (show 2 ≤ sizeLine by decide), fun b hb => ?_⟩
        have h5 := h4.alloc hb (.tup [.int i, .int (0 + e)])
        refine ⟨el, _, _, rfl, rfl, h5.get 1 rfl, sizeOk (by unfold esV; rw [List.length_map]; omega), ?_⟩
        have h6 := (h5.puti 1 rfl (.lst (esV es ++ [.ref b]))).swap2.perm (List.Perm.cons _ (List.perm_append_comm_assoc [_] (esK es) L))
        refine ⟨es ++ [(b, (i : Int), 0 + (e : Int))], _, ?_, rfl, ?_⟩
        · rw [List.map_append, hes, List.range_succ, List.map_append, List.append_assoc]
          simp
        · have e1 : esV (es ++ [(b, (i : Int), 0 + (e : Int))]) = esV es ++ [.ref b] := by unfold esV; rw [List.map_append]; rfl
          have e2 : esK (es ++ [(b, (i : Int), 0 + (e : Int))]) ++ L = esK es ++ ([(b, .tup [.int i, .int (0 + e)])] ++ L) := by unfold esK; rw [List.map_append, List.append_assoc]; rfl
          rw [e1, e2]
          exact h6
      · rintro σ H4 ⟨es, o3, hes, rfl, h4⟩
        refine ⟨es, _, _, _, ?_, rfl, h4⟩
        rw [hes, List.take_succ, List.getElem?_eq_getElem hi]
        show _ = endsL (ks.take i ++ [ks[i]])
        rw [endsL_snoc, hti]
    · rintro σ H2 ⟨es, o1, o2, o3, hes, rfl, h2⟩
      refine ⟨_, rfl, ?_⟩
      refine q _ el es ?_ h2
      rw [hes]
      unfold ksV
      rw [List.length_map, List.take_length]
end

theorem esK_get {es : List (Addr × Int × Int)} {i : Nat} {x : Addr × Int × Int} (L : Kn) (h : es[i]? = some x) : (esK es ++ L)[i]? = some (x.1, .tup [.int x.2.1, .int x.2.2]) := by
  have hi := (List.getElem?_eq_some_iff.mp h).1
  rw [List.getElem?_append_left (by unfold esK; rw [List.length_map]; exact hi)]
  unfold esK
  rw [List.getElem?_map, h]
  rfl
theorem esV_get {es : List (Addr × Int × Int)} {i : Nat} {x : Addr × Int × Int} (h : es[i]? = some x) : (esV es)[i]? = some (.ref x.1) := by
  unfold esV
  rw [List.getElem?_map, h]
  rfl

end P


set_option Elab.async false
set_option linter.all false
set_option maxRecDepth 100000
set_option maxHeartbeats 4000000
namespace P
open PySem L2

theorem eraseIdx_mapL {α β : Type} (f : α → β) : ∀ (l : List α) (k : Nat), (l.map f).eraseIdx k = (l.eraseIdx k).map f
  | [], _ => rfl
  | _ :: _, 0 => rfl
  | a :: l, k + 1 => by
    show f a :: (l.map f).eraseIdx k = f a :: (l.eraseIdx k).map f
    rw [eraseIdx_mapL f l k]
theorem eraseIdx_permL {α : Type} : ∀ (l : List α) (k : Nat) (h : k < l.length), (l[k] :: l.eraseIdx k).Perm l
  | [], k, h => absurd h (Nat.not_lt_zero k)
  | a :: l, 0, h => List.Perm.refl _
  | a :: l, k + 1, h => (List.Perm.swap _ _ _).trans (List.Perm.cons a (eraseIdx_permL l k (by simpa using h)))
theorem endsL_nodup (ks : List Kd) : (endsL ks).Nodup := by
  have H : ∀ i, i ≤ ks.length → (endsL (ks.take i)).Nodup := by
    intro i
    induction i with
    | zero => intro _; exact List.Pairwise.nil
    | succ i ih =>
      intro hi
      have hlt : i < ks.length := by omega
      rw [List.take_succ, List.getElem?_eq_getElem hlt]
      show (endsL (ks.take i ++ [ks[i]])).Nodup
      rw [endsL_snoc]
      refine List.nodup_append.mpr ⟨ih (by omega), ?_, ?_⟩
      · refine List.Pairwise.map _ (fun a b hab hc => hab ?_) List.nodup_range
        have := congrArg Prod.snd hc
        exact Int.ofNat.inj this
      · intro a ha b hb e
        subst e
        obtain ⟨x, _, hx⟩ := List.mem_map.mp hb
        obtain ⟨j, k, e1, e2, _⟩ := endsL_there (n := a.1) (e := a.2) ha
        have : a.1 = ((ks.take i).length : Int) := by rw [← hx]
        have hj := (List.getElem?_eq_some_iff.mp e2).1
        rw [List.length_take] at this hj
        omega
  have := H ks.length (Nat.le_refl _)
  rwa [List.take_length] at this
def mfOf (es : List En) (m : List (List Key × V)) (n e : Int) : Option En := match valV m (kE n e) with | some (.ref b) => es.find? fun x => decide (x.1 = b) | _ => none
def MIn (es : List En) (m : List (List Key × V)) : Prop := ∀ k v, valV m k = some v → ∃ z ∈ es, v = .ref z.1
theorem mfOf_val {es : List En} {m : List (List Key × V)} (h : MIn es m) (n e : Int) : valV m (kE n e) = (mfOf es m n e).map fun z => V.ref z.1 := by
  unfold mfOf
  cases hv : valV m (kE n e) with
  | none => rfl
  | some v =>
    obtain ⟨z, hz, rfl⟩ := h _ _ hv
    dsimp only
    cases hf : es.find? fun x => decide (x.1 = z.1) with
    | none => exact absurd (List.find?_eq_none.mp hf z hz) (by simp)
    | some x => have := List.find?_some hf; rw [Option.map_some, of_decide_eq_true this]
theorem mfOf_mem {es : List En} {m : List (List Key × V)} {n e : Int} {z : En} (h : mfOf es m n e = some z) : z ∈ es := by
  unfold mfOf at h
  split at h
  · exact List.mem_of_find?_eq_some h
  · cases h
theorem MIn.nil (es : List En) : MIn es [] := fun k v h => by cases h
theorem MIn.put {es : List En} {m : List (List Key × V)} (h : MIn es m) {x : En} (hx : x ∈ es) (k : List Key) : MIn es (putK m k (.ref x.1)) := fun j v hv => by
  rw [valV_put] at hv
  split at hv
  · exact ⟨x, hx, (Option.some.inj hv).symm⟩
  · exact h j v hv
theorem MIn.mono {es es' : List En} {m : List (List Key × V)} (h : MIn es m) (s : ∀ x ∈ es, x ∈ es') : MIn es' m := fun k v hv => let ⟨z, hz, e⟩ := h k v hv; ⟨z, s z hz, e⟩
def wOf (ks : List Kd) (ns rs : List Int) (es : List En) (m : List (List Key × V)) : Wd := ⟨fun n => if 0 ≤ n then ks[n.toNat]? else none, fun n => ns.getD n.toNat 0, fun n => rs.getD n.toNat 0, mfOf es m⟩
theorem wOf_k {ks : List Kd} {ns rs : List Int} {es : List En} {m : List (List Key × V)} {n : Int} {k : Kd} (h : (wOf ks ns rs es m).kf n = some k) : ∃ i : Nat, n = i ∧ ks[i]? = some k := by
  unfold wOf at h
  dsimp only at h
  split at h
  · exact ⟨n.toNat, by omega, h⟩
  · cases h
theorem wOf_kn {ks : List Kd} {ns rs : List Int} {es : List En} {m : List (List Key × V)} (i : Nat) : (wOf ks ns rs es m).kf i = ks[i]? := by
  unfold wOf; dsimp only; rw [if_pos (by omega), Int.toNat_natCast]
theorem wOf_ok {ks : List Kd} {ns rs : List Int} {es : List En} {m : List (List Key × V)} {z : En} (h : z.2 ∈ endsL ks) : (wOf ks ns rs es m).ok z := by
  obtain ⟨i, k, e1, e2, e3, e4⟩ := endsL_there (n := z.2.1) (e := z.2.2) h
  exact ⟨k, by rw [e1, wOf_kn]; exact e2, e3, e4⟩
theorem Rep.of {y y' : YR} {ks : List Kd} {ns rs ss ss' : List Int} {es : List En} {m : List (List Key × V)} {u : Option En} (B : Blt y ks ns rs ss) (hm : MIn es m) (he : ∀ x ∈ es, x.2 ∈ endsL ks) (hl : ss'.length = ss.length) (h12 : ∀ x ∈ ss', x = 1 ∨ x = 2) (hu : ∀ z, u = some z → z.2 ∈ endsL ks)
    (e1 : y'.kinds = y.kinds) (e2 : y'.notes = y.notes) (e3 : y'.rods = y.rods) (e4 : y'.mates = m) (e5 : y'.sides = ss'.map V.int) (e6 : y'.eng = enV u) (e7 : y'.rung = []) :
    Rep (wOf ks ns rs es m) ⟨ss', u, []⟩ y' := by
  refine ⟨fun n k h => ?_, fun n k h => ?_, fun n k h => ?_, fun n k h hp => ?_, e5, h12, fun n e => by rw [e4]; exact mfOf_val hm n e, fun n e z h => wOf_ok (he z (mfOf_mem h)), e6, fun z hz => wOf_ok (hu z hz), e7⟩
  all_goals obtain ⟨i, rfl, hk⟩ := wOf_k h
  · rw [e1, B.kd, valV_kvOf, hk]; rfl
  · rw [e2, B.no, hk]
    by_cases c : k = .bell
    · rw [if_pos (by rw [c]), if_pos c]; unfold wOf; dsimp only; rw [Int.toNat_natCast]
    · rw [if_neg (fun z => c (Option.some.inj z)), if_neg c]
  · rw [e3, B.ro, hk]
    by_cases c : k.point = true
    · rw [if_pos (by simp [c]), if_pos c]; unfold wOf; dsimp only; rw [Int.toNat_natCast]
    · rw [if_neg (by simp [c]), if_neg c]
  · have := B.rr i (by rw [hk]; simp [hp])
    show 0 ≤ rs.getD (i : Int).toNat 0 ∧ rs.getD (i : Int).toNat 0 < (ss'.length : Int)
    rw [Int.toNat_natCast, hl]
    exact this
theorem en_pool {es : List En} {M R : Kn} {z : En} (h : z ∈ es) : ∃ j : Nat, (M ++ (esK es ++ R))[j]? = some (z.1, HO.tup [.int z.2.1, .int z.2.2]) := by
  obtain ⟨i, hi⟩ := List.mem_iff_getElem?.mp h
  exact ⟨M.length + i, by rw [List.getElem?_append_right (by omega), show M.length + i - M.length = i by omega]; exact esK_get R hi⟩
theorem endsL_th {y : YR} {ks : List Kd} {ns rs ss : List Int} (B : Blt y ks ns rs ss) {y' : YR} (e : y'.kinds = y.kinds) {p : Int × Int} (h : p ∈ endsL ks) : There y' p.1 p.2 := by
  obtain ⟨i, k, e1, e2, e3, e4⟩ := endsL_there (n := p.1) (e := p.2) h
  exact ⟨k, by rw [e, e1, B.kd, valV_kvOf, e2]; rfl, e3, e4⟩
theorem seqIx {n : Nat} {x : Int} (h : 0 < n) : ∃ k : Nat, k < n ∧ x % (n : Int) = k ∧ seqIndex? (x % (n : Int)) n = some k ∧ -(2 ^ 63) ≤ x % (n : Int) ∧ (n ≤ 1000000 → x % (n : Int) < 2 ^ 63) := by
  have b0 := Int.emod_nonneg x (show ((n : Nat) : Int) ≠ 0 by omega)
  have b1 := Int.emod_lt_of_pos x (show (0 : Int) < ((n : Nat) : Int) by omega)
  refine ⟨(x % (n : Int)).toNat, by omega, by omega, ?_, by omega, fun hn => by omega⟩
  generalize x % (n : Int) = i at b0 b1
  unfold seqIndex?
  dsimp only
  rw [if_neg (show ¬ i < 0 by omega), if_pos (show (decide (0 ≤ i) && decide (i < (n : Int))) = true by rw [decide_eq_true b0, decide_eq_true b1]; rfl)]
theorem putK_keys {κ : Type} [DecidableEq κ] {kvs : List (κ × V)} {k : κ} {v : V} {x : κ} (h : x ∈ (putK kvs k v).map (·.1)) : x ∈ kvs.map (·.1) ∨ x = k := by
  unfold putK at h
  split at h
  · left
    rw [List.map_map] at h
    obtain ⟨p, hp, e⟩ := List.mem_map.mp h
    refine List.mem_map.mpr ⟨p, hp, ?_⟩
    rw [← e]
    show p.1 = (if p.1 = k then (p.1, v) else p).1
    split <;> rfl
  · rw [List.map_append, List.mem_append] at h
    rcases h with h | h
    · exact .inl h
    · right; simpa using h
theorem ek_put {ks : List Kd} {m : List (List Key × V)} (h : ∀ k ∈ m.map (·.1), ∃ p ∈ endsL ks, k = kE p.1 p.2) {k0 : List Key} (h0 : ∃ p ∈ endsL ks, k0 = kE p.1 p.2) (v : V) : ∀ k ∈ (putK m k0 v).map (·.1), ∃ p ∈ endsL ks, k = kE p.1 p.2 := fun k hk => by
  rcases putK_keys hk with hk | rfl
  · exact h k hk
  · exact h0
theorem ek_end {ks : List Kd} (hk : ks.length ≤ 50) {p : Int × Int} (h : p ∈ endsL ks) : ∃ n e : Nat, n < 50 ∧ e < 3 ∧ kE p.1 p.2 = kE n e := by
  obtain ⟨i, k, e1, e2, e3, e4⟩ := endsL_there (n := p.1) (e := p.2) h
  have il := (List.getElem?_eq_some_iff.mp e2).1
  have km : k.many ≤ 3 := by cases k <;> decide
  refine ⟨i, p.2.toNat, by omega, by omega, ?_⟩
  rw [e1, show ((p.2.toNat : Nat) : Int) = p.2 by omega]
def sp_linked (C : Addr) : Sp := fun vs H Q _ => ∃ (A : YA) (y : YR) (L : Kn) (kk d : Addr) (ks : List Kd) (ns rs ss ds : List Int) (a n : Int) (jk jd : Nat), vs = [.ref A.p, .ref kk, .ref d, .int a, .int n] ∧ Has H (yL C A y ++ L) ∧ Blt y ks ns rs ss ∧ L[jk]? = some (kk, .lst (ksV ks)) ∧ L[jd]? = some (d, .lst (ds.map V.int)) ∧ ks.length ≤ 1000 ∧ 0 ≤ a ∧ 0 ≤ n ∧ n ≤ 10000 ∧ a + 2 * n ≤ ds.length ∧
  ∀ (H' : Hp) (q mh : Addr) (m : List (List Key × V)) (es : List En), MIn es m → es.map (·.2) = endsL ks → m.length ≤ 2 * n.toNat → (∀ k ∈ m.map (·.1), ∃ p ∈ endsL ks, k = kE p.1 p.2) → Has H' (yL C { A with tr := q } { y with mates := m, trail := [] } ++ ((mh, .dT m) :: (esK es ++ L))) → Q (.ref mh) H'
def sp_thrown (C : Addr) : Sp := fun vs H Q _ => ∃ (A : YA) (y : YR) (L : Kn) (sd d : Addr) (ss ds : List Int) (a : Int) (jd : Nat), vs = [.ref A.p, .ref sd, .ref d, .int a] ∧ Has H (yL C A y ++ ((sd, .lst (ss.map V.int)) :: L)) ∧ y.sides = ss.map V.int ∧ y.trail = [] ∧ L[jd]? = some (d, .lst (ds.map V.int)) ∧ 0 ≤ a ∧ a + ss.length ≤ ds.length ∧ ss.length ≤ 10000 ∧
  ∀ (H' : Hp) (q : Addr) (ss' : List Int), ss'.length = ss.length → (∀ x ∈ ss', x = 1 ∨ x = 2) → Has H' (yL C { A with tr := q } { y with sides := ss'.map V.int, trail := [] } ++ ((sd, .lst (ss'.map V.int)) :: L)) → Q .non H'
def sp_links : Sp := fun vs H Q _ => ∃ x : Int, vs = [.int x] ∧ ∀ n : Int, 0 ≤ n → n ≤ 40 → Q (.int n) H
section
variable {P : Program} {w : World} {K : PySem.W.Frag} {mg : Str → Option Value} {base : Heap} {t : Adr}
theorem scLs : FnScope ["_law_draw"] ["_law_draw"] (defScope s_links) := ⟨rfl, rfl, rfl, by decide +kernel, rfl, by decide +kernel, by decide +kernel⟩
theorem ok_links (T : Txt K mg t) : FnOk P w K mg base CX0 1 t.f_links t.d_links ["_law_draw"] sp_links := by
  refine T.F_links.ok scLs (fun vs H Q E h => ?_) (fun cdv A outer s H vs Q E hr h => ?_)
  · obtain ⟨_, rfl, _⟩ := h
    rfl
  · obtain ⟨x, rfl, q⟩ := h
    refine ⟨_, (pss_cons (ps_if (pt_cmpR op_gt (pe_op op_mod (pv 0) pe_int) pe_int (nomark _))
        (pss_one (ps_ret pe_int))
        pss_nil)
      (pss_one (ps_ret (pe_op op_mod (pe_op op_fdiv (pv 0) pe_int) pe_int)))), ?_⟩
    refine ⟨_, rfl, _, _, rfl, rfl, (show (0 : Int) < 3 by decide), _, _, rfl, rfl, _, rfl, if2 (fun _ => ?_) (fun _ => ?_)⟩
    · exact q 40 (by decide) (by decide)
    · refine ⟨_, rfl, _, _, rfl, rfl, ⟨by decide, by decide⟩, _, _, rfl, rfl, (show (0 : Int) < 40 by decide), ?_⟩
      have l0 := Int.emod_nonneg (x / 3) (show (40 : Int) ≠ 0 by decide)
      have l1 := Int.emod_lt_of_pos (x / 3) (show (0 : Int) < 40 by decide)
      exact q _ (by omega) (by omega)
theorem scLd : FnScope ["_law_yard", "_law_kinds_here", "_law_d", "_law_at", "_law_many_here", "_law_free", "_law_mates", "_law_turn", "_law_one", "_law_other"] ["_law_yard", "_law_kinds_here", "_law_d", "_law_at", "_law_many_here"] (defScope s_linked) := ⟨rfl, rfl, rfl, by decide +kernel, rfl, by decide +kernel, by decide +kernel⟩
theorem ok_linked (T : Txt K mg t) : FnOk P w K mg base CX0 5 t.f_linked t.d_linked ["_law_yard", "_law_kinds_here", "_law_d", "_law_at", "_law_many_here"] (sp_linked t.c_Yard) := by
  refine T.F_linked.ok scLd (fun vs H Q E h => ?_) (fun cdv A outer s H vs Q E hr h => ?_)
  · obtain ⟨_, _, _, _, _, _, _, _, _, _, _, _, _, _, rfl, _⟩ := h
    rfl
  · obtain ⟨A, y, L, kk, d, ks, ns, rs, ss, ds, a, n, jk, jd, rfl, hH, B, hjk, hjd, kl, a0, n0, n1, hds, q⟩ := h
    have hu := hu_of hr
    refine ⟨_, (pss_cons (ps_set (i := 5) scLd.nd rfl (Or.inl rfl) (pe_call (ok_ends T) (hr.mono (by decide)) (by rfl) T.m_ends T.F_ends.kp (b_ends T) .nil pass0 (pa_cons (pv 1) pa_nil)))
      (pss_cons (ps_set (i := 6) scLd.nd rfl (Or.inl rfl) pe_dnewT)
      (pss_cons (ps_for PassesOwn.never rfl (pi_range1 (by rfl) T.z_range (pa_cons (pv 4) pa_nil)) (pg_name (i := 7) scLd.nd rfl (Or.inl rfl))
        (pss_one (ps_if (pt_cmpR op_gt (pe_callB call_len_seq (by rfl) T.z_len (by rfl) (pa_cons (pv 5) pa_nil)) pe_int (nomark _))
            (pss_cons (ps_set (i := 8) scLd.nd rfl (Or.inl rfl) (pe_bm PySem.F.plainAttrs_list PySem.F.slot_list_pop PySem.F.type_list_pop mt_popAt (pv 5) (pa_cons (pe_op op_mod (pe_ix ix_list (pv 2) (pe_op op_add (pv 3) (pe_op op_mul pe_int (pv 7))) (fun _ _ => rfl)) (pe_callB call_len_seq (by rfl) T.z_len (by rfl) (pa_cons (pv 5) pa_nil))) pa_nil)))
              (pss_cons (ps_set (i := 9) scLd.nd rfl (Or.inl rfl) (pe_bm PySem.F.plainAttrs_list PySem.F.slot_list_pop PySem.F.type_list_pop mt_popAt (pv 5) (pa_cons (pe_op op_mod (pe_ix ix_list (pv 2) (pe_op op_add (pe_op op_add (pv 3) (pe_op op_mul pe_int (pv 7))) pe_int) (fun _ _ => rfl)) (pe_callB call_len_seq (by rfl) T.z_len (by rfl) (pa_cons (pv 5) pa_nil))) pa_nil)))
              (pss_cons (ps_expr (pe_meth (pv 0) T.cl_Yard T.M_Yard_link (ok_Yard_link T) (hr.mono (by decide)) (b_Yard_link T) .nil pass0 (pa_cons (pv 8) (pa_cons (pv 9) pa_nil))))
              (pss_cons (ps_dput hu (pv 6) (pv 8) (pv 9) rfl)
              (pss_one (ps_dput hu (pv 6) (pv 9) (pv 8) rfl))))))
            pss_nil)))
      (pss_one (ps_ret (pv 6)))))), ?_⟩
    refine ⟨_, rfl, kk, ks, _, jk + 9, rfl, hH, (by simpa [yL] using hjk), kl, fun H1 fl_ es hes h1 => ?_⟩
    intro mh hmh
    have h2 : Has (upd H1 mh (.dT [])) (yL t.c_Yard A y ++ ((fl_, .lst (esV es)) :: (mh, .dT []) :: (esK es ++ L))) :=
      Has.comm (X := (fl_, .lst (esV es)) :: (mh, .dT []) :: esK es) (Y := yL t.c_Yard A y) (R := L) (h1.alloc hmh (.dT [])).swap2
    generalize upd H1 mh _ = H2 at h2 ⊢
    clear h1 hmh hH
    have emem : ∀ x ∈ es, x.2 ∈ endsL ks := fun x hx => by rw [← hes]; exact List.mem_map.mpr ⟨x, hx, rfl⟩
    have enod : (es.map (·.2)).Nodup := by rw [hes]; exact endsL_nodup ks
    have elen : es.length ≤ 3000 := by have := congrArg List.length hes; rw [List.length_map] at this; have := endsL_le ks; omega
    refine ⟨_, rfl, _, rfl, by omega, by omega, for_range (fun i σ H' => ∃ (q1 : Addr) (m : List (List Key × V)) (fs : List En) (o1 o2 o3 : Option V), MIn es m ∧ (∀ x ∈ fs, x ∈ es) ∧ (fs.map (·.2)).Nodup ∧ (∀ x ∈ fs, valV m (kE x.2.1 x.2.2) = none) ∧ m.length ≤ 2 * i ∧ fs.length ≤ 3000 ∧ (∀ k ∈ m.map (·.1), ∃ p ∈ endsL ks, k = kE p.1 p.2) ∧
      σ = [some (.ref A.p), some (.ref kk), some (.ref d), some (.int a), some (.int n), some (.ref fl_), some (.ref mh), o1, o2, o3] ∧ Has H' (yL t.c_Yard { A with tr := q1 } { y with mates := m, trail := [] } ++ ((fl_, .lst (esV fs)) :: (mh, .dT m) :: (esK es ++ L))))
      ⟨A.tr, [], es, _, _, _, MIn.nil es, fun _ h => h, enod, fun _ _ => rfl, Nat.zero_le _, elen, (fun k hk => (nomatch hk)), rfl, ?_⟩ ?_ ?_⟩
    · have e : ({ y with mates := [], trail := [] } : YR) = y := by rw [← B.mt, ← B.tl]
      rw [e]; exact h2
    · clear h2
      rintro i σ H2 hi ⟨q1, m, fs, o1, o2, o3, M, fin, fnd, fno, ml, flen, ekm, rfl, h2⟩
      have gd : ∀ {H : Hp} {A1 : YA} {y1 : YR} {f1 m1 : HO}, Has H (yL t.c_Yard A1 y1 ++ ((fl_, f1) :: (mh, m1) :: (esK es ++ L))) → SqL K H d (ds.map V.int) := fun {H A1 y1 f1 m1} h => SqL.of (h.get (es.length + jd + 11) (by
        show (esK es ++ L)[es.length + jd]? = _
        have e : (esK es).length = es.length := by unfold esK; rw [List.length_map]
        rw [List.getElem?_append_right (by omega), show es.length + jd - (esK es).length = jd by omega]
        exact hjd))
      have gs : ∀ {H : Hp} {A1 : YA} {y1 : YR} {f1 m1 : HO}, Has H (yL t.c_Yard A1 y1 ++ ((fl_, f1) :: (mh, m1) :: (esK es ++ L))) → ∀ x ∈ es, H x.1 = some (.tup [.int x.2.1, .int x.2.2]) := fun {H A1 y1 f1 m1} h x hx => by
        obtain ⟨j, hj⟩ := List.mem_iff_getElem?.mp hx
        exact h.get (j + 11) (esK_get L hj)
      have evl : ∀ l : List En, (esV l).length = l.length := fun l => by unfold esV; rw [List.length_map]
      have evx : ∀ (l : List En) (k : Nat), (esV l).eraseIdx k = esV (l.eraseIdx k) := fun l k => by unfold esV; rw [eraseIdx_mapL]
      refine ⟨_, rfl, fl_, _, rfl, .inl (SqL.of (h2.get 9 rfl)), _, _, rfl, rfl, _, rfl, if2 (fun hc => ?_) (fun hc => ?_)⟩
      · have f2 : 1 < fs.length := by
          have := of_decide_eq_true hc
          rw [evl] at this
          omega
        obtain ⟨k1, k1l, k1e, k1s, k1a, k1b⟩ := seqIx (n := fs.length) (x := ds.getD (a + 2 * (0 + (i : Int))).toNat 0) (by omega)
        refine ⟨_, rfl, .inl ⟨rfl, _, SqL.of (h2.get 9 rfl)⟩, ?_⟩
        refine ⟨_, rfl, _, rfl, _, rfl, _, _, rfl, rfl, (.inl ⟨by decide, by decide⟩), _, _, rfl, rfl, d, _, _, _, rfl, rfl, gd h2, atD (by omega) (by omega), _, rfl, fl_, _, rfl, .inl (SqL.of (h2.get 9 rfl)), _, _, rfl, rfl, (show (0 : Int) < ((esV fs).length : Int) by rw [evl]; omega), ?_⟩
        rw [evl]
        refine ⟨fl_, _, _, k1, .ref (fs[k1]).1, rfl, rfl, h2.get 9 rfl, k1a, k1b (by omega), (by rw [evl]; exact k1s), esV_get (List.getElem?_eq_getElem k1l), ?_⟩
        rw [evx]
        have h3 := h2.puti 9 rfl (.lst (esV (fs.eraseIdx k1)))
        generalize upd H2 fl_ _ = H3 at h3 ⊢
        have pm1 := eraseIdx_permL fs k1 k1l
        have l1 : (fs.eraseIdx k1).length = fs.length - 1 := List.length_eraseIdx_of_lt k1l
        generalize hx : fs[k1] = x at *
        have nd1 : (x.2 :: (fs.eraseIdx k1).map (·.2)).Nodup := (pm1.map (fun x : En => x.2)).nodup_iff.mpr fnd
        have xin : x ∈ fs := by rw [← hx]; exact List.getElem_mem _
        have sub1 : ∀ z ∈ fs.eraseIdx k1, z ∈ fs := fun z hz => List.mem_of_mem_eraseIdx hz
        generalize fs.eraseIdx k1 = fs1 at *
        obtain ⟨k2, k2l, k2e, k2s, k2a, k2b⟩ := seqIx (n := fs1.length) (x := ds.getD (a + 2 * (0 + (i : Int)) + 1).toNat 0) (by omega)
        refine ⟨_, rfl, .inl ⟨rfl, _, SqL.of (h3.get 9 rfl)⟩, ?_⟩
        refine ⟨_, rfl, _, rfl, _, rfl, _, _, rfl, rfl, (.inl ⟨by decide, by decide⟩), _, _, rfl, rfl, _, _, rfl, rfl, d, _, _, _, rfl, rfl, gd h3, atD (by omega) (by omega), _, rfl, fl_, _, rfl, .inl (SqL.of (h3.get 9 rfl)), _, _, rfl, rfl, (show (0 : Int) < ((esV fs1).length : Int) by rw [evl]; omega), ?_⟩
        rw [evl]
        refine ⟨fl_, _, _, k2, .ref (fs1[k2]).1, rfl, rfl, h3.get 9 rfl, k2a, k2b (by omega), (by rw [evl]; exact k2s), esV_get (List.getElem?_eq_getElem k2l), ?_⟩
        rw [evx]
        have h4 := h3.puti 9 rfl (.lst (esV (fs1.eraseIdx k2)))
        generalize upd H3 fl_ _ = H4 at h4 ⊢
        have pm2 := eraseIdx_permL fs1 k2 k2l
        have l2 : (fs1.eraseIdx k2).length = fs1.length - 1 := List.length_eraseIdx_of_lt k2l
        generalize hz : fs1[k2] = z at *
        rw [List.nodup_cons] at nd1
        have nd2 : (z.2 :: (fs1.eraseIdx k2).map (·.2)).Nodup := (pm2.map (fun x : En => x.2)).nodup_iff.mpr nd1.2
        have zin : z ∈ fs1 := by rw [← hz]; exact List.getElem_mem _
        have sub2 : ∀ z ∈ fs1.eraseIdx k2, z ∈ fs1 := fun z hz => List.mem_of_mem_eraseIdx hz
        generalize fs1.eraseIdx k2 = fs2 at *
        rw [List.nodup_cons] at nd2
        have kne : ∀ {u v : En}, ¬ u.2 = v.2 → ¬ kE u.2.1 u.2.2 = kE v.2.1 v.2.2 := fun {u v} c e => c (by
          injection e with e1 e2
          injection e2 with e2 _
          injection e1 with e1
          injection e2 with e2
          exact Prod.ext e1 e2)
        have xe := fin x xin
        have ze := fin z (sub1 z zin)
        have xz : ¬ x.2 = z.2 := fun e => nd1.1 (by rw [e]; exact List.mem_map.mpr ⟨z, zin, rfl⟩)
        obtain ⟨ix, hix⟩ := List.mem_iff_getElem?.mp xe
        obtain ⟨iz, hiz⟩ := List.mem_iff_getElem?.mp ze
        refine ⟨_, rfl, A.p, A.dx, _, rfl, h4.get 1 rfl, (fl_m2 _ _ _).2.2.1, _, rfl, _, rfl, { A with tr := q1 }, _, _, x.1, z.1, x.2.1, x.2.2, z.2.1, z.2.2, ix + 2, iz + 2, rfl, h4, esK_get _ hix, esK_get _ hiz, endsL_th B rfl (emem x xe), endsL_th B rfl (emem z ze), kne xz, fno x xin, fno z (sub1 z zin), (show m.length ≤ 30000 by omega), fun H5 q5 h5 => ?_⟩
        refine ⟨_, rfl, _, rfl, _, rfl, mh, _, rfl, DPut.t (k := kE x.2.1 x.2.2) (h5.get 10 rfl) (gs h5 x xe) (sizeOk (by omega)), ?_⟩
        have h6 := h5.puti 10 rfl (.dT (putK m (kE x.2.1 x.2.2) (.ref z.1)))
        refine ⟨_, rfl, _, rfl, _, rfl, mh, _, rfl, DPut.t (k := kE z.2.1 z.2.2) (h6.get 10 rfl) (gs h6 z ze) (sizeOk (Nat.le_trans (length_putK _ _ _) (by omega))), ?_⟩
        have h7 := h6.puti 10 rfl (.dT (putK (putK m (kE x.2.1 x.2.2) (.ref z.1)) (kE z.2.1 z.2.2) (.ref x.1)))
        refine ⟨q5, _, fs2, _, _, _, (M.put ze _).put xe _, fun u hu => fin u (sub1 u (sub2 u hu)), nd2.2, fun u hu => ?_, ?_, by omega, (ek_put (ek_put ekm ⟨_, emem x xe, rfl⟩ _) ⟨_, emem z ze, rfl⟩ _), rfl, h7⟩
        · rw [valV_put, if_neg (kne (fun e => nd2.1 (by rw [← e]; exact List.mem_map.mpr ⟨u, hu, rfl⟩))), valV_put, if_neg (kne (fun e => nd1.1 (by rw [← e]; exact List.mem_map.mpr ⟨u, sub2 u hu, rfl⟩)))]
          exact fno u (sub1 u (sub2 u hu))
        · have b1 := length_putK m (kE x.2.1 x.2.2) (.ref z.1)
          have b2 := length_putK (putK m (kE x.2.1 x.2.2) (.ref z.1)) (kE z.2.1 z.2.2) (.ref x.1)
          omega
      · exact ⟨q1, m, fs, _, _, _, M, fin, fnd, fno, by omega, flen, ekm, rfl, h2⟩
    · rintro σ H2 ⟨q1, m, fs, o1, o2, o3, M, fin, fnd, fno, ml, flen, ekm, rfl, h2⟩
      refine ⟨_, rfl, q _ q1 mh m es M hes ml ekm ?_⟩
      exact (Has.comm (X := yL t.c_Yard { A with tr := q1 } { y with mates := m, trail := [] }) (Y := [(fl_, .lst (esV fs))]) (R := (mh, .dT m) :: (esK es ++ L)) h2).tail
theorem scTw : FnScope ["_law_yard", "_law_sides", "_law_d", "_law_at", "_law_rod"] ["_law_yard", "_law_sides", "_law_d", "_law_at"] (defScope s_thrown) := ⟨rfl, rfl, rfl, by decide +kernel, rfl, by decide +kernel, by decide +kernel⟩
theorem ok_thrown (T : Txt K mg t) : FnOk P w K mg base CX0 5 t.f_thrown t.d_thrown ["_law_yard", "_law_sides", "_law_d", "_law_at"] (sp_thrown t.c_Yard) := by
  refine T.F_thrown.ok scTw (fun vs H Q E h => ?_) (fun cdv A outer s H vs Q E hr h => ?_)
  · obtain ⟨_, _, _, _, _, _, _, _, _, rfl, _⟩ := h
    rfl
  · obtain ⟨A, y, L, sd, d, ss, ds, a, jd, rfl, hH, hsd, htr, hjd, a0, hds, sl, q⟩ := h
    refine ⟨_, (pss_one (ps_for PassesOwn.never rfl (pi_range1 (by rfl) T.z_range (pa_cons (pe_callB call_len_seq (by rfl) T.z_len (by rfl) (pa_cons (pv 1) pa_nil)) pa_nil)) (pg_name (i := 4) scTw.nd rfl (Or.inl rfl))
        (pss_cons (ps_asg (pe_op op_add pe_int (pe_op op_mod (pe_ix ix_list (pv 2) (pe_op op_add (pv 3) (pv 4)) (fun _ _ => rfl)) pe_int)) (pg_sub (pv 1) (pv 4) set_list))
          (pss_one (ps_expr (pe_meth (pv 0) T.cl_Yard T.M_Yard_throw (ok_Yard_throw T) (hr.mono (by decide)) (b_Yard_throw T) .nil pass0 (pa_cons (pv 4) (pa_cons (pe_ix ix_list (pv 1) (pv 4) (fun _ _ => rfl)) pa_nil)))))))), ?_⟩
    have gd : ∀ {H : Hp} {A1 : YA} {y1 : YR} {x1 : HO}, Has H (yL t.c_Yard A1 y1 ++ ((sd, x1) :: L)) → SqL K H d (ds.map V.int) := fun {H A1 y1 x1} h => SqL.of (h.get (jd + 10) (by simpa [yL] using hjd))
    refine ⟨_, rfl, sd, _, rfl, .inl (SqL.of (hH.get 9 rfl)), _, rfl, by omega, by rw [List.length_map]; omega, for_range (fun i σ H' => ∃ (q1 : Addr) (s1 : List Int) (o1 : Option V), s1.length = ss.length ∧ (∀ j, j < i → ∀ x, s1[j]? = some x → x = 1 ∨ x = 2) ∧ σ = [some (.ref A.p), some (.ref sd), some (.ref d), some (.int a), o1] ∧
      Has H' (yL t.c_Yard { A with tr := q1 } { y with sides := s1.map V.int, trail := [] } ++ ((sd, .lst (s1.map V.int)) :: L))) ⟨A.tr, ss, _, rfl, fun j hj => absurd hj (Nat.not_lt_zero _), rfl, ?_⟩ ?_ ?_⟩
    · have e : ({ y with sides := ss.map V.int, trail := [] } : YR) = y := by rw [← hsd, ← htr]
      rw [e]; exact hH
    · rintro i σ H1 hi ⟨q1, s1, o1, l1, hs, rfl, h1⟩
      have hi' : i < s1.length := by rw [l1]; rw [List.length_map] at hi; omega
      refine ⟨_, rfl, _, rfl, _, rfl, _, _, rfl, rfl, d, _, _, _, rfl, rfl, gd h1, atD (by omega) (by rw [List.length_map] at hi; omega), _, _, rfl, rfl, (show (0 : Int) < 2 by decide), _, _, rfl, rfl, ?_⟩
      dsimp only
      have b0 := Int.emod_nonneg (ds.getD (a + (0 + (i : Int))).toNat 0) (show (2 : Int) ≠ 0 by decide)
      have b1 := Int.emod_lt_of_pos (ds.getD (a + (0 + (i : Int))).toNat 0) (show (0 : Int) < 2 by decide)
      generalize ds.getD (a + (0 + (i : Int))).toNat 0 % 2 = b at b0 b1 ⊢
      have hz : 1 + b = 1 ∨ 1 + b = 2 := by omega
      have ejx : ixN (s1.map V.int).length (0 + (i : Int)) = some i := by unfold ixN; rw [List.length_map, if_pos (by omega), if_pos (by omega)]; congr 1; omega
      refine ⟨_, rfl, _, rfl, sd, _, _, _, rfl, rfl, h1.get 9 rfl, ejx, ?_⟩
      have h2 := h1.puti 9 rfl (.lst ((s1.map V.int).set i (.int (1 + b))))
      have ga : atI ((s1.map V.int).set i (.int (1 + b))) (0 + (i : Int)) = some (.int (1 + b)) := by
        rw [show 0 + (i : Int) = ((i : Nat) : Int) by omega]
        exact atI_nat (by rw [List.getElem?_set_self (by rw [List.length_map]; exact hi')])
      refine ⟨_, rfl, A.p, A.dx, _, rfl, h2.get 1 rfl, (fl_m _ _ _).2.2.1, _, rfl, _, rfl, _, rfl, sd, _, _, _, rfl, rfl, SqL.of (h2.get 9 rfl), ga, { A with tr := q1 }, _, _, 0 + (i : Int), 1 + b, rfl, h2, by omega, (show 0 + (i : Int) < ((s1.map V.int).length : Int) by rw [List.length_map]; omega), hz, fun H3 q3 h3 => ?_⟩
      refine ⟨q3, s1.set i (1 + b), _, by rw [List.length_set]; exact l1, fun j hj x hx => ?_, rfl, ?_⟩
      · by_cases c : j = i
        · subst c
          rw [List.getElem?_set_self hi'] at hx
          cases hx
          exact hz
        · rw [List.getElem?_set_ne (fun e => c e.symm)] at hx
          exact hs j (by omega) x hx
      · rw [List.map_set]
        rw [show (0 + (i : Int)).toNat = i by omega] at h3
        exact h3
    · rintro σ H1 ⟨q1, s1, o1, l1, hs, rfl, h1⟩
      refine q _ q1 s1 l1 (fun x hx => ?_) h1
      obtain ⟨j, hj⟩ := List.mem_iff_getElem?.mp hx
      exact hs j (by have := (List.getElem?_eq_some_iff.mp hj).1; rw [List.length_map]; omega) x hj
end

end P


set_option Elab.async false
set_option linter.all false
set_option maxRecDepth 100000
set_option maxHeartbeats 4000000
namespace P
open PySem L2

structure Lw (W : Wd) (ks : List Kd) (ns rs : List Int) (m : List (List Key × V)) : Prop where
  kf : ∀ n k, W.kf n = some k → ∃ i : Nat, n = i ∧ ks[i]? = some k
  nf : ∀ i : Nat, W.nf i = ns.getD i 0
  rf : ∀ i : Nat, W.rf i = rs.getD i 0
  nl : ns.length = ks.length
  rl : rs.length = ks.length
  rn : ∀ (i : Nat) k, ks[i]? = some k → (k.point = true ↔ 0 ≤ rs.getD i 0)
  mt : ∀ n e, valV m (kE n e) = (W.mf n e).map fun z => V.ref z.1
structure Okw (W : Wd) (s : Sd) : Prop where
  rr : ∀ n k, W.kf n = some k → k.point = true → 0 ≤ W.rf n ∧ W.rf n < s.ss.length
  s12 : ∀ x ∈ s.ss, x = 1 ∨ x = 2
  mo : ∀ n e z, W.mf n e = some z → W.ok z
  eo : ∀ z, s.at_ = some z → W.ok z
theorem Okw.s1 {w : Wd} {s : Sd} (R : Okw w s) {n : Int} {k : Kd} (hk : w.kf n = some k) (hp : k.point = true) : w.sv s n = 1 ∨ w.sv s n = 2 := by
  obtain ⟨h0, h1⟩ := R.rr n k hk hp
  refine R.s12 _ ?_
  unfold Wd.sv
  rw [List.getD_eq_getElem?_getD, List.getElem?_eq_getElem (by omega)]
  exact List.getElem_mem _
theorem Okw.step {w : Wd} {s : Sd} {z : En} {k : Kd} {z' : En} {o : Int} (R : Okw w s) (hz : s.at_ = some z) (hk : w.kf z.2.1 = some k) (hm : w.mf z.2.1 o = some z') : Okw w (stepS w s z k z') := by
  have hl : (stepS w s z k z').ss.length = s.ss.length := by
    unfold stepS; dsimp only; split
    · exact List.length_set
    · rfl
  refine ⟨fun n k h1 h2 => by rw [hl]; exact R.rr n k h1 h2, fun x hx => ?_, R.mo, fun u hu => ?_⟩
  · unfold stepS at hx
    dsimp only at hx
    split at hx
    · rename_i hp
      rcases List.mem_or_eq_of_mem_set hx with hx | hx
      · exact R.s12 x hx
      · obtain ⟨k', h1, h2, h3⟩ := R.eo z hz
        rw [hk] at h1
        cases h1
        rw [hx]
        exact Kd.side12 h2 h3 (R.s1 hk hp)
    · exact R.s12 x hx
  · rw [stepS_at] at hu
    cases hu
    exact R.mo _ _ _ hm

theorem Blt.lw {y : YR} {ks : List Kd} {ns rs ss : List Int} (B : Blt y ks ns rs ss) {es : List En} {m : List (List Key × V)} (M : MIn es m) : Lw (wOf ks ns rs es m) ks ns rs m := by
  refine ⟨fun n k h => wOf_k h, fun i => by unfold wOf; dsimp only; rw [Int.toNat_natCast], fun i => by unfold wOf; dsimp only; rw [Int.toNat_natCast], B.nl, B.rl, fun i k hk => ⟨fun hp => ?_, fun h0 => ?_⟩, fun n e => mfOf_val M n e⟩
  · exact (B.rr i (by rw [hk]; simp [hp])).1
  · cases hp : k.point with
    | true => rfl
    | false => have := B.rn i (by rw [hk]; simp [hp]); omega
theorem esK_app (a b : List En) (L : Kn) : esK (a ++ b) ++ L = esK a ++ (esK b ++ L) := by unfold esK; rw [List.map_append, List.append_assoc]
theorem endsL_pos {ks : List Kd} (h : 0 < ks.length) : 0 < (endsL ks).length := by
  obtain ⟨k, ks', rfl⟩ : ∃ k ks', ks = k :: ks' := by cases ks with | nil => simp at h | cons a b => exact ⟨a, b, rfl⟩
  unfold endsL
  rw [List.zipIdx_cons, List.flatMap_cons, List.length_append, List.length_map, List.length_range]
  have : 1 ≤ k.many.toNat := by cases k <;> decide
  show 0 < k.many.toNat + _
  omega
theorem Has.dropL {H : Hp} : ∀ (X : Kn) {L : Kn}, Has H (X ++ L) → Has H L
  | [], _, h => h
  | _ :: X, _, h => Has.dropL X (Has.tail h)

structure SetOk (y : YR) (ks : List Kd) (ns rs ss : List Int) (es : List En) (m : List (List Key × V)) (z : En) : Prop where
  R : Rep (wOf ks ns rs es m) ⟨ss, some z, []⟩ y
  lw : Lw (wOf ks ns rs es m) ks ns rs m
  zi : z ∈ es
  ei : ∀ x ∈ es, x.2 ∈ endsL ks
  mi : MIn es m
  nx : y.next = ks.length
  kd : y.kinds = kvOf ks
  mt : y.mates = m
  tl : y.trail = []
  rg : y.rung = []
  k1 : 1 ≤ ks.length
  k24 : ks.length ≤ 24
  sl : ss.length ≤ 24
  ml : m.length ≤ 80
  nr : ∀ x ∈ ns, 0 ≤ x ∧ x ≤ 9999
  nlen : y.notes.length ≤ 24
  rlen : y.rods.length ≤ 24
  fr : ∀ i : Nat, ks.length ≤ i → valV y.notes (Sum.inl (i : Int)) = none ∧ valV y.rods (Sum.inl (i : Int)) = none
  mks : ∀ k ∈ m.map (·.1), ∃ p ∈ endsL ks, k = kE p.1 p.2
def sp_set (C : Addr) : Sp := fun vs H Q _ => ∃ (d : Addr) (ds : List Int) (a : Int) (L : Kn) (j : Nat), vs = [.ref d, .int a] ∧ Has H L ∧ L[j]? = some (d, .lst (ds.map V.int)) ∧ 0 ≤ a ∧ a + 184 ≤ ds.length ∧
  ∀ (H' : Hp) (tp : Addr) (A : YA) (y : YR) (ks : List Kd) (ns rs ss : List Int) (es : List En) (m : List (List Key × V)) (z : En) (sd mh rr nn kk : Addr), SetOk y ks ns rs ss es m z →
    Has H' ((tp, .tup [.ref A.p, .ref kk, .ref nn, .ref rr, .ref sd, .ref mh, .ref z.1]) :: (yL C A y ++ ((sd, .lst (ss.map V.int)) :: (mh, .dT m) :: (rr, .lst (rs.map V.int)) :: (nn, .lst (ns.map V.int)) :: (kk, .lst (ksV ks)) :: (esK es ++ L)))) → Q (.ref tp) H'
section
variable {P : Program} {w : World} {K : PySem.W.Frag} {mg : Str → Option Value} {base : Heap} {t : Adr}
theorem scSe : FnScope ["_law_d", "_law_at", "_law_yard", "_law_kinds_here", "_law_notes", "_law_rods", "_law_sides", "_law_mates", "_law_start"] ["_law_d", "_law_at"] (defScope s_set) := ⟨rfl, rfl, rfl, by decide +kernel, rfl, by decide +kernel, by decide +kernel⟩
theorem ok_set (T : Txt K mg t) : FnOk P w K mg base CX0 6 t.f_set t.d_set ["_law_d", "_law_at"] (sp_set t.c_Yard) := by
  refine T.F_set.ok scSe (fun vs H Q E h => ?_) (fun cdv A outer s H vs Q E hr h => ?_)
  · obtain ⟨_, _, _, _, _, rfl, _⟩ := h
    rfl
  · obtain ⟨d, ds, a, L, j, rfl, hH, hj, a0, hds, q⟩ := h
    refine ⟨_, (pss_cons (ps_asg (pe_call (ok_built T) (hr.mono (by decide)) (by rfl) T.m_built T.F_built.kp (b_built T) .nil pass0 (pa_cons (pv 0) (pa_cons (pe_op op_add (pv 1) pe_int) (pa_cons (pe_call (ok_size T) (hr.mono (by decide)) (by rfl) T.m_size T.F_size.kp (b_size T) .nil pass0 (pa_cons (pe_ix ix_list (pv 0) (pv 1) (fun _ _ => rfl)) pa_nil)) pa_nil)))) (pg_tup rfl (pgs_cons (pg_name (i := 2) scSe.nd rfl (Or.inl rfl)) (pgs_cons (pg_name (i := 3) scSe.nd rfl (Or.inl rfl)) (pgs_cons (pg_name (i := 4) scSe.nd rfl (Or.inl rfl)) (pgs_cons (pg_name (i := 5) scSe.nd rfl (Or.inl rfl)) (pgs_cons (pg_name (i := 6) scSe.nd rfl (Or.inl rfl)) pgs_nil)))))))
      (pss_cons (ps_set (i := 7) scSe.nd rfl (Or.inl rfl) (pe_call (ok_linked T) (hr.mono (by decide)) (by rfl) T.m_linked T.F_linked.kp (b_linked T) .nil pass0 (pa_cons (pv 2) (pa_cons (pv 3) (pa_cons (pv 0) (pa_cons (pe_op op_add (pv 1) pe_int) (pa_cons (pe_call (ok_links T) (hr.mono (by decide)) (by rfl) T.m_links T.F_links.kp (b_links T) .nil pass0 (pa_cons (pe_ix ix_list (pv 0) (pe_op op_add (pv 1) pe_int) (fun _ _ => rfl)) pa_nil)) pa_nil)))))))
      (pss_cons (ps_expr (pe_call (ok_thrown T) (hr.mono (by decide)) (by rfl) T.m_thrown T.F_thrown.kp (b_thrown T) .nil pass0 (pa_cons (pv 2) (pa_cons (pv 6) (pa_cons (pv 0) (pa_cons (pe_op op_add (pv 1) pe_int) pa_nil))))))
      (pss_cons (ps_set (i := 8) scSe.nd rfl (Or.inl rfl) (pe_ix ix_list (pe_call (ok_ends T) (hr.mono (by decide)) (by rfl) T.m_ends T.F_ends.kp (b_ends T) .nil pass0 (pa_cons (pv 3) pa_nil)) (pe_op op_mod (pe_ix ix_list (pv 0) (pe_op op_add (pv 1) pe_int) (fun _ _ => rfl)) (pe_callB call_len_seq (by rfl) T.z_len (by rfl) (pa_cons (pe_call (ok_ends T) (hr.mono (by decide)) (by rfl) T.m_ends T.F_ends.kp (b_ends T) .nil pass0 (pa_cons (pv 3) pa_nil)) pa_nil))) (fun _ _ => rfl)))
      (pss_cons (ps_expr (pe_meth (pv 2) T.cl_Yard T.M_Yard_put (ok_Yard_put T) (hr.mono (by decide)) (b_Yard_put T) .nil pass0 (pa_cons (pv 8) pa_nil)))
      (pss_one (ps_ret (pe_tup (pa_cons (pv 2) (pa_cons (pv 3) (pa_cons (pv 4) (pa_cons (pv 5) (pa_cons (pv 6) (pa_cons (pv 7) (pa_cons (pv 8) pa_nil))))))))))))))), ?_⟩
    have gd : SqL K H d (ds.map V.int) := SqL.of (hH.get j hj)
    refine ⟨_, rfl, _, rfl, _, _, rfl, rfl, _, rfl, _, rfl, d, _, _, _, rfl, rfl, gd, atD (by omega) (by omega), _, rfl, fun n n1 n24 => ?_⟩
    refine ⟨d, ds, a + 3, n, L, j, rfl, hH, hj, by omega, by omega, by omega, by omega, fun H2 A1 y ks ns rs ss tp sd rr nn kk B lk h2 => ?_⟩
    refine ⟨tp, _, rfl, SqT.of (h2.get 0 rfl), rfl, _, _, rfl, _, _, rfl, _, _, rfl, _, _, rfl, _, _, rfl, rfl, ?_⟩
    have h3 := h2.tail
    clear h2 hH gd
    have gd : ∀ {H : Hp} {M : Kn}, Has H (M ++ L) → SqL K H d (ds.map V.int) := fun {H M} h => SqL.of (h.get (M.length + j) (by rw [List.getElem?_append_right (by omega), show M.length + j - M.length = j by omega]; exact hj))
    refine ⟨_, rfl, _, rfl, _, rfl, _, rfl, _, _, rfl, rfl, _, rfl, _, rfl, _, _, rfl, rfl, d, _, _, _, rfl, rfl, gd (M := _ ++ _) (by rw [List.append_assoc]; exact h3), atD (by omega) (by omega), _, rfl, fun n2 m0 m40 => ?_⟩
    refine ⟨A1, y, _, kk, d, ks, ns, rs, ss, ds, a + 78, n2, 3, j + 4, rfl, h3, B, rfl, (by simpa using hj), by omega, by omega, by omega, by omega, by omega, fun H4 q4 mh m es M hes ml ekm h4 => ?_⟩
    clear h3
    have h5 := h4.perm (List.Perm.append_left _ ((List.Perm.cons (mh, HO.dT m) (List.perm_append_comm_assoc (esK es) [(sd, HO.lst (ss.map V.int)), (rr, .lst (rs.map V.int)), (nn, .lst (ns.map V.int)), (kk, .lst (ksV ks))] L)).trans (List.Perm.swap _ _ _)))
    clear h4
    have jL : ∀ (X : Kn) (es : List En), (X ++ (esK es ++ L))[X.length + es.length + j]? = some (d, .lst (ds.map V.int)) := fun X es => by
      have e : (esK es).length = es.length := by unfold esK; rw [List.length_map]
      rw [List.getElem?_append_right (by omega), List.getElem?_append_right (by omega), show X.length + es.length + j - X.length - (esK es).length = j by omega]
      exact hj
    have emem : ∀ x ∈ es, x.2 ∈ endsL ks := fun x hx => by rw [← hes]; exact List.mem_map.mpr ⟨x, hx, rfl⟩
    have ssl := B.sl
    refine ⟨_, rfl, _, rfl, _, rfl, _, rfl, _, _, rfl, rfl, { A1 with tr := q4 }, _, _, sd, d, ss, ds, a + 160, _, rfl, h5, B.sd, rfl, jL [(mh, HO.dT m), (rr, .lst (rs.map V.int)), (nn, .lst (ns.map V.int)), (kk, .lst (ksV ks))] es, by omega, by omega, by omega, fun H6 q6 ss' hl h12 h6 => ?_⟩
    clear h5
    refine ⟨_, rfl, kk, ks, _, 13, rfl, h6, rfl, by omega, fun H7 el es2 hes2 h7 => ?_⟩
    have g7 : SqL K H7 d (ds.map V.int) := SqL.of (h7.get (es2.length + (5 + es.length + j) + 10) (by
      have e : (esK es2).length = es2.length := by unfold esK; rw [List.length_map]
      show (esK es2 ++ (yL t.c_Yard _ _ ++ _))[es2.length + (5 + es.length + j) + 9]? = _
      rw [List.getElem?_append_right (by omega), show es2.length + (5 + es.length + j) + 9 - (esK es2).length = (5 + es.length + j) + 9 by omega]
      exact jL [(sd, HO.lst (ss'.map V.int)), (mh, HO.dT m), (rr, .lst (rs.map V.int)), (nn, .lst (ns.map V.int)), (kk, .lst (ksV ks))] es))
    refine ⟨_, rfl, _, rfl, _, _, rfl, rfl, d, _, _, _, rfl, rfl, g7, atD (by omega) (by omega), ?_⟩
    refine ⟨_, rfl, kk, ks, _, es2.length + 14, rfl, h7, (by
      have e : (esK es2).length = es2.length := by unfold esK; rw [List.length_map]
      show (esK es2 ++ (yL t.c_Yard _ _ ++ _))[es2.length + 13]? = _
      rw [List.getElem?_append_right (by omega), show es2.length + 13 - (esK es2).length = 13 by omega]
      rfl), by omega, fun H8 el3 es3 hes3 h8 => ?_⟩
    have e2 : es2.length = (endsL ks).length := by have := congrArg List.length hes2; rw [List.length_map] at this; exact this
    have e3 : (esV es3).length = es2.length := by have := congrArg List.length hes3; rw [List.length_map] at this; unfold esV; rw [List.length_map]; omega
    have ep := endsL_pos (ks := ks) (by omega)
    refine ⟨el3, _, rfl, .inl (SqL.of (h8.get 0 rfl)), _, _, rfl, rfl, (show (0 : Int) < ((esV es3).length : Int) by omega), ?_⟩
    rw [e3]
    replace h8 := Has.dropL (esK es3) h8.tail
    obtain ⟨i, il, ie, _⟩ := seqIx (n := es2.length) (x := ds.getD (a + 2).toNat 0) (by omega)
    refine ⟨el, _, _, _, rfl, rfl, SqL.of (h8.get 0 rfl), (by rw [ie]; exact atI_nat (esV_get (List.getElem?_eq_getElem il))), ?_⟩
    have zi : es2[i] ∈ es2 := List.getElem_mem il
    generalize es2[i] = z at zi ⊢
    have h9 := (h8.tail).perm ((List.perm_append_comm_assoc (esK es2) (yL t.c_Yard _ _) _).trans (List.Perm.append_left _ (List.perm_append_comm_assoc (esK es2) [(sd, HO.lst (ss'.map V.int)), (mh, HO.dT m), (rr, .lst (rs.map V.int)), (nn, .lst (ns.map V.int)), (kk, .lst (ksV ks))] (esK es ++ L))))
    rw [← esK_app] at h9
    clear h8 h7 h6 g7
    have zin : z.2 ∈ endsL ks := by rw [← hes2]; exact List.mem_map.mpr ⟨z, zi, rfl⟩
    have zi' : z ∈ es2 ++ es := List.mem_append_left _ zi
    obtain ⟨jz, hjz⟩ := en_pool (M := [(sd, HO.lst (ss'.map V.int)), (mh, HO.dT m), (rr, .lst (rs.map V.int)), (nn, .lst (ns.map V.int)), (kk, .lst (ksV ks))]) (R := L) zi'
    refine ⟨_, rfl, A1.p, A1.dx, _, rfl, h9.get 1 rfl, (fl_m4 _ _ _).1, _, rfl, { A1 with tr := q6 }, _, _, z.1, z.2.1, z.2.2, jz, rfl, h9, hjz, endsL_th B rfl zin, fun H10 q10 h10 => ?_⟩
    refine ⟨_, rfl, _, rfl, _, rfl, _, rfl, _, rfl, _, rfl, _, rfl, (show 7 ≤ sizeLine by decide), fun tp htp => ?_⟩
    have emem' : ∀ x ∈ es2 ++ es, x.2 ∈ endsL ks := fun x hx => by
      rcases List.mem_append.mp hx with h | h
      · rw [← hes2]; exact List.mem_map.mpr ⟨x, h, rfl⟩
      · exact emem x h
    have M' : MIn (es2 ++ es) m := M.mono (fun x hx => List.mem_append_right _ hx)
    refine q _ tp { A1 with tr := q10 } _ ks ns rs ss' (es2 ++ es) m z sd mh rr nn kk ?_ (h10.alloc htp _)
    have nl := B.nlen
    have rl := B.rlen
    refine ⟨Rep.of B M' emem' hl h12 (fun u hu => by cases hu; exact zin) rfl rfl rfl rfl rfl rfl B.rg, B.lw M', zi', emem', M', B.nx, B.kd, rfl, rfl, B.rg, by omega, by omega, by omega, by omega, B.nr, by show y.notes.length ≤ 24; omega, by show y.rods.length ≤ 24; omega, fun i hi => ⟨by show valV y.notes _ = none; rw [B.no, List.getElem?_eq_none hi, if_neg (fun e => nomatch e)], by show valV y.rods _ = none; rw [B.ro, List.getElem?_eq_none hi, if_neg (fun e => nomatch e)]⟩, ekm⟩
end

end P


set_option Elab.async false
set_option linter.all false
set_option maxRecDepth 100000
set_option maxHeartbeats 4000000
namespace P
open PySem L2

theorem set_perm {α : Type} : ∀ (L : List α) (i : Nat) (x : α), i < L.length → (x :: L.eraseIdx i).Perm (L.set i x)
  | [], i, x, h => absurd h (Nat.not_lt_zero i)
  | a :: L, 0, x, h => List.Perm.refl _
  | a :: L, i + 1, x, h => (List.Perm.swap _ _ _).trans (List.Perm.cons a (set_perm L i x (by simpa using h)))
theorem Has.repl {H : Hp} {x : Addr × HO} {L : Kn} (h : Has H (x :: L)) (i : Nat) (hi : i < L.length) : Has H (L.set i x) :=
  (Has.sub h (List.Sublist.cons₂ x (List.eraseIdx_sublist L i))).perm (set_perm L i x hi)
def hE (n e : Nat) : Int := reduceHash (Builtin.Tuple.tupleHashOf [hashInt n, hashInt e])
def hEs (N : Nat) : List Int := (List.range (3 * N)).map fun i => hE (i / 3) (i % 3)
theorem hE50 : (hEs 50).Nodup := by decide +kernel
def EK (kvs : List (List Key × V)) : Prop := ∀ k ∈ kvs.map (·.1), ∃ n e : Nat, n < 50 ∧ e < 3 ∧ k = kE n e
theorem hEs_get (N n e : Nat) (hn : n < N) (he : e < 3) : (hEs N)[3 * n + e]? = some (hE n e) := by
  unfold hEs
  rw [List.getElem?_map, List.getElem?_range (by omega), Option.map_some, show (3 * n + e) / 3 = n by omega, show (3 * n + e) % 3 = e by omega]
theorem nodup_ix {l : List Int} (h : l.Nodup) {i j : Nat} {x : Int} (hi : l[i]? = some x) (hj : l[j]? = some x) : i = j := by
  obtain ⟨li, ei⟩ := List.getElem?_eq_some_iff.mp hi
  obtain ⟨lj, ej⟩ := List.getElem?_eq_some_iff.mp hj
  rcases Nat.lt_trichotomy i j with c | c | c
  · exact absurd (ei.trans ej.symm) (List.pairwise_iff_getElem.mp h i j li lj c)
  · exact c
  · exact absurd (ej.trans ei.symm) (List.pairwise_iff_getElem.mp h j i lj li c)
theorem EK.inj {P : Program} {w : World} {kvs : List (List Key × V)} (h : EK kvs) : ∀ k1 ∈ kvs.map (·.1), ∀ k2 ∈ kvs.map (·.1), hashT P w k1 = hashT P w k2 → k1 = k2 := fun k1 h1 k2 h2 e => by
  obtain ⟨n1, e1, a1, b1, rfl⟩ := h k1 h1
  obtain ⟨n2, e2, a2, b2, rfl⟩ := h k2 h2
  have e' : hE n1 e1 = hE n2 e2 := e
  have g1 := hEs_get 50 n1 e1 a1 b1
  have g2 := hEs_get 50 n2 e2 a2 b2
  rw [← e'] at g2
  have ix := nodup_ix hE50 g1 g2
  have : n1 = n2 ∧ e1 = e2 := by omega
  rw [this.1, this.2]
theorem fl_put_kinds (A : YA) (next : Int) (eng : V) (q : Addr) : putF "kinds" (.ref q) (fl A next eng) = fl { A with k := q } next eng := by kernel_rfl
theorem fl_put_notes (A : YA) (next : Int) (eng : V) (q : Addr) : putF "notes" (.ref q) (fl A next eng) = fl { A with n := q } next eng := by kernel_rfl
theorem fl_put_rods_under (A : YA) (next : Int) (eng : V) (q : Addr) : putF "rods_under" (.ref q) (fl A next eng) = fl { A with r := q } next eng := by kernel_rfl
theorem fl_put_sides (A : YA) (next : Int) (eng : V) (q : Addr) : putF "sides" (.ref q) (fl A next eng) = fl { A with s := q } next eng := by kernel_rfl
theorem fl_put_mates (A : YA) (next : Int) (eng : V) (q : Addr) : putF "mates" (.ref q) (fl A next eng) = fl { A with m := q } next eng := by kernel_rfl
theorem fl_put_rung (A : YA) (next : Int) (eng : V) (q : Addr) : putF "rung" (.ref q) (fl A next eng) = fl { A with g := q } next eng := by kernel_rfl
theorem fl_m7 (A : YA) (next : Int) (eng : V) : (fl A next eng).lookup ("make_twin" : Str) = none := by kernel_rfl
def sp_make_twin (C : Addr) : Sp := fun vs H Q _ => ∃ (A : YA) (y : YR) (L : Kn), vs = [.ref A.p] ∧ Has H (yL C A y ++ L) ∧ EK y.mates ∧ ∀ H' B, Has H' (yL C B { y with trail := [] } ++ (yL C A y ++ L)) → Q (.ref B.p) H'
section
variable {P : Program} {w : World} {K : PySem.W.Frag} {mg : Str → Option Value} {base : Heap} {t : Adr}
theorem scMk7 : FnScope ["self", "other"] ["self"] (defScope s_Yard_make_twin) := ⟨rfl, rfl, rfl, by decide +kernel, rfl, by decide +kernel, by decide +kernel⟩
theorem ok_Yard_make_twin (T : Txt K mg t) : FnOk P w K mg base CX0 3 t.f_Yard_make_twin t.d_Yard_make_twin ["self"] (sp_make_twin t.c_Yard) := by
  refine T.F_Yard_make_twin.ok scMk7 (fun vs H Q E h => ?_) (fun cdv A outer s H vs Q E hr h => ?_)
  · obtain ⟨_, _, _, rfl, _⟩ := h
    rfl
  · obtain ⟨A, y, L, rfl, hH, ek, q⟩ := h
    refine ⟨_, (pss_cons (ps_set (i := 1) scMk7.nd rfl (Or.inl rfl) (pe_make0 T.mk_Yard (ok_Yard_init T) (hr.mono (by decide)) (by rfl) T.m_Yard (b_Yard_init T) .nil pass0))
      (pss_cons (ps_fld (pv 1) (pe_fld (pv 0) rfl) rfl)
      (pss_cons (ps_fld (pv 1) (pe_callTy call_dictK (by rfl) T.z_dict (by rfl) (pa_cons (pe_fld (pv 0) rfl) pa_nil)) rfl)
      (pss_cons (ps_fld (pv 1) (pe_callTy call_dictK (by rfl) T.z_dict (by rfl) (pa_cons (pe_fld (pv 0) rfl) pa_nil)) rfl)
      (pss_cons (ps_fld (pv 1) (pe_callTy call_dictK (by rfl) T.z_dict (by rfl) (pa_cons (pe_fld (pv 0) rfl) pa_nil)) rfl)
      (pss_cons (ps_fld (pv 1) (pe_callTy call_list_of (by rfl) T.z_list (by rfl) (pa_cons (pe_fld (pv 0) rfl) pa_nil)) rfl)
      (pss_cons (ps_fld (pv 1) (pe_callTy call_dictT (by rfl) T.z_dict (by rfl) (pa_cons (pe_fld (pv 0) rfl) pa_nil)) rfl)
      (pss_cons (ps_fld (pv 1) (pe_fld (pv 0) rfl) rfl)
      (pss_cons (ps_fld (pv 1) (pe_callTy call_list_of (by rfl) T.z_list (by rfl) (pa_cons (pe_fld (pv 0) rfl) pa_nil)) rfl)
      (pss_one (ps_ret (pv 1)))))))))))), ?_⟩
    intro p1 dx1 hp1 hdx1 ne1
    refine ⟨p1, dx1, _, rfl, (hH.alloc hdx1 (.own p1)).alloc (by rw [upd_ne (Ne.symm ne1)]; exact hp1) (.ins t.c_Yard dx1 []), fun H2 B e1 h => ⟨rfl, ?_⟩⟩
    subst e1
    clear hp1 hdx1 ne1 hH
    refine ⟨_, rfl, A.p, _, A.dx, _, _, rfl, h.get 10 rfl, T.cl_Yard, T.n_Yard_next_piece, fl_next _ _ _, ?_⟩
    refine ⟨_, rfl, B.p, _, B.dx, _, rfl, h.get 1 rfl, T.cl_Yard, T.n_Yard_next_piece, (show 9 < 1000 by decide), ?_⟩
    rw [show (y0.next) = 0 from rfl, fl_put_next]
    replace h : Has _ (yL t.c_Yard B { y0 with next := y.next } ++ (yL t.c_Yard A y ++ L)) := h.puti 1 rfl (.ins t.c_Yard B.dx (fl B y.next y0.eng))
    refine ⟨_, rfl, A.p, _, A.dx, _, _, rfl, h.get 10 rfl, T.cl_Yard, T.n_Yard_kinds, fl_kinds _ _ _, A.k, _, rfl, .inl (h.get 12 rfl), fun l_k hl_k => ?_⟩
    refine ⟨_, rfl, B.p, _, B.dx, _, rfl, (h.alloc hl_k _).get 2 rfl, T.cl_Yard, T.n_Yard_kinds, (show 9 < 1000 by decide), ?_⟩
    rw [fl_put_kinds]
    replace h : Has _ (yL t.c_Yard { B with k := l_k } { y0 with next := y.next, kinds := y.kinds } ++ (yL t.c_Yard A y ++ L)) := Has.repl ((h.alloc hl_k (.dK y.kinds)).puti 2 rfl (.ins t.c_Yard B.dx (fl { B with k := l_k } y.next .non))) 3 (by simp [yL])
    clear hl_k
    refine ⟨_, rfl, A.p, _, A.dx, _, _, rfl, h.get 10 rfl, T.cl_Yard, T.n_Yard_notes, fl_notes _ _ _, A.n, _, rfl, .inl (h.get 13 rfl), fun l_n hl_n => ?_⟩
    refine ⟨_, rfl, B.p, _, B.dx, _, rfl, (h.alloc hl_n _).get 2 rfl, T.cl_Yard, T.n_Yard_notes, (show 9 < 1000 by decide), ?_⟩
    rw [fl_put_notes]
    replace h : Has _ (yL t.c_Yard { B with k := l_k, n := l_n } { y0 with next := y.next, kinds := y.kinds, notes := y.notes } ++ (yL t.c_Yard A y ++ L)) := Has.repl ((h.alloc hl_n (.dK y.notes)).puti 2 rfl (.ins t.c_Yard B.dx (fl { B with k := l_k, n := l_n } y.next .non))) 4 (by simp [yL])
    clear hl_n
    refine ⟨_, rfl, A.p, _, A.dx, _, _, rfl, h.get 10 rfl, T.cl_Yard, T.n_Yard_rods_under, fl_rods _ _ _, A.r, _, rfl, .inl (h.get 14 rfl), fun l_r hl_r => ?_⟩
    refine ⟨_, rfl, B.p, _, B.dx, _, rfl, (h.alloc hl_r _).get 2 rfl, T.cl_Yard, T.n_Yard_rods_under, (show 9 < 1000 by decide), ?_⟩
    rw [fl_put_rods_under]
    replace h : Has _ (yL t.c_Yard { B with k := l_k, n := l_n, r := l_r } { y0 with next := y.next, kinds := y.kinds, notes := y.notes, rods := y.rods } ++ (yL t.c_Yard A y ++ L)) := Has.repl ((h.alloc hl_r (.dK y.rods)).puti 2 rfl (.ins t.c_Yard B.dx (fl { B with k := l_k, n := l_n, r := l_r } y.next .non))) 5 (by simp [yL])
    clear hl_r
    refine ⟨_, rfl, A.p, _, A.dx, _, _, rfl, h.get 10 rfl, T.cl_Yard, T.n_Yard_sides, fl_sides _ _ _, A.s, _, rfl, .inl (SqL.of (h.get 15 rfl)), fun l_s hl_s => ?_⟩
    refine ⟨_, rfl, B.p, _, B.dx, _, rfl, (h.alloc hl_s _).get 2 rfl, T.cl_Yard, T.n_Yard_sides, (show 9 < 1000 by decide), ?_⟩
    rw [fl_put_sides]
    replace h : Has _ (yL t.c_Yard { B with k := l_k, n := l_n, r := l_r, s := l_s } { y0 with next := y.next, kinds := y.kinds, notes := y.notes, rods := y.rods, sides := y.sides } ++ (yL t.c_Yard A y ++ L)) := Has.repl ((h.alloc hl_s (.lst y.sides)).puti 2 rfl (.ins t.c_Yard B.dx (fl { B with k := l_k, n := l_n, r := l_r, s := l_s } y.next .non))) 6 (by simp [yL])
    clear hl_s
    refine ⟨_, rfl, A.p, _, A.dx, _, _, rfl, h.get 10 rfl, T.cl_Yard, T.n_Yard_mates, fl_mates _ _ _, A.m, _, rfl, .inl (h.get 16 rfl), ek.inj, fun l_m hl_m => ?_⟩
    refine ⟨_, rfl, B.p, _, B.dx, _, rfl, (h.alloc hl_m _).get 2 rfl, T.cl_Yard, T.n_Yard_mates, (show 9 < 1000 by decide), ?_⟩
    rw [fl_put_mates]
    replace h : Has _ (yL t.c_Yard { B with k := l_k, n := l_n, r := l_r, s := l_s, m := l_m } { y0 with next := y.next, kinds := y.kinds, notes := y.notes, rods := y.rods, sides := y.sides, mates := y.mates } ++ (yL t.c_Yard A y ++ L)) := Has.repl ((h.alloc hl_m (.dT y.mates)).puti 2 rfl (.ins t.c_Yard B.dx (fl { B with k := l_k, n := l_n, r := l_r, s := l_s, m := l_m } y.next .non))) 7 (by simp [yL])
    clear hl_m
    refine ⟨_, rfl, A.p, _, A.dx, _, _, rfl, h.get 10 rfl, T.cl_Yard, T.n_Yard_engine_end, fl_eng _ _ _, ?_⟩
    refine ⟨_, rfl, B.p, _, B.dx, _, rfl, h.get 1 rfl, T.cl_Yard, T.n_Yard_engine_end, (show 9 < 1000 by decide), ?_⟩
    rw [fl_put_eng]
    replace h : Has _ (yL t.c_Yard { B with k := l_k, n := l_n, r := l_r, s := l_s, m := l_m } { y0 with next := y.next, kinds := y.kinds, notes := y.notes, rods := y.rods, sides := y.sides, mates := y.mates, eng := y.eng } ++ (yL t.c_Yard A y ++ L)) := h.puti 1 rfl (.ins t.c_Yard B.dx (fl { B with k := l_k, n := l_n, r := l_r, s := l_s, m := l_m } y.next y.eng))
    refine ⟨_, rfl, A.p, _, A.dx, _, _, rfl, h.get 10 rfl, T.cl_Yard, T.n_Yard_rung, fl_rung _ _ _, A.g, _, rfl, .inl (SqL.of (h.get 17 rfl)), fun l_g hl_g => ?_⟩
    refine ⟨_, rfl, B.p, _, B.dx, _, rfl, (h.alloc hl_g _).get 2 rfl, T.cl_Yard, T.n_Yard_rung, (show 9 < 1000 by decide), ?_⟩
    rw [fl_put_rung]
    replace h : Has _ (yL t.c_Yard { B with k := l_k, n := l_n, r := l_r, s := l_s, m := l_m, g := l_g } { y0 with next := y.next, kinds := y.kinds, notes := y.notes, rods := y.rods, sides := y.sides, mates := y.mates, eng := y.eng, rung := y.rung } ++ (yL t.c_Yard A y ++ L)) := Has.repl ((h.alloc hl_g (.lst y.rung)).puti 2 rfl (.ins t.c_Yard B.dx (fl { B with k := l_k, n := l_n, r := l_r, s := l_s, m := l_m, g := l_g } y.next y.eng))) 8 (by simp [yL])
    clear hl_g
    refine ⟨_, rfl, q _ { B with k := l_k, n := l_n, r := l_r, s := l_s, m := l_m, g := l_g } h⟩
theorem scTn : FnScope ["yard"] ["yard"] (defScope s_twin) := ⟨rfl, rfl, rfl, by decide +kernel, rfl, by decide +kernel, by decide +kernel⟩
theorem ok_twin (T : Txt K mg t) : FnOk P w K mg base CX0 4 t.f_twin t.d_twin ["yard"] (sp_make_twin t.c_Yard) := by
  refine T.F_twin.ok scTn (fun vs H Q E h => ?_) (fun cdv A outer s H vs Q E hr h => ?_)
  · obtain ⟨_, _, _, rfl, _⟩ := h
    rfl
  · obtain ⟨A, y, L, rfl, hH, ek, q⟩ := h
    refine ⟨_, (pss_one (ps_ret (pe_meth0 (pv 0) T.cl_Yard T.M_Yard_make_twin (ok_Yard_make_twin T) (hr.mono (by decide)) (b_Yard_make_twin T) .nil pass0))), ?_⟩
    exact ⟨_, rfl, A.p, A.dx, _, rfl, hH.get 1 rfl, fl_m7 _ _ _, A, y, L, rfl, hH, ek, q⟩
end

end P


set_option Elab.async false
set_option linter.all false
set_option maxRecDepth 100000
set_option maxHeartbeats 4000000
namespace P
open PySem L2

structure Lk (s1 s2 : Sd) : Prop where
  s : s1.ss = s2.ss
  a : s1.at_.map (·.2) = s2.at_.map (·.2)
theorem opt_cases {α β : Type} {f : α → β} {x y : Option α} (h : x.map f = y.map f) : (x = none ∧ y = none) ∨ ∃ u v, x = some u ∧ y = some v ∧ f u = f v := by
  cases x with
  | none => cases y with
    | none => exact .inl ⟨rfl, rfl⟩
    | some v => cases h
  | some u => cases y with
    | none => cases h
    | some v => exact .inr ⟨u, v, rfl, rfl, Option.some.inj h⟩
theorem nx_none_at {w : Wd} {s : Sd} (h : s.at_ = none) : w.nx s = none := by unfold Wd.nx; simp only [h]
theorem lk_nx {w : Wd} {s1 s2 : Sd} (S : Lk s1 s2) : (w.nx s1 = none ∧ w.nx s2 = none) ∨ ∃ t1 t2, w.nx s1 = some t1 ∧ w.nx s2 = some t2 ∧ Lk t1 t2 := by
  rcases opt_cases S.a with ⟨h1, h2⟩ | ⟨z1, z2, h1, h2, e⟩
  · exact .inl ⟨nx_none_at h1, nx_none_at h2⟩
  · have sv : w.sv s1 z1.2.1 = w.sv s2 z2.2.1 := by unfold Wd.sv; rw [S.s, e]
    cases hk : w.kf z2.2.1 with
    | none =>
      left
      refine ⟨?_, ?_⟩
      · unfold Wd.nx; simp only [h1]; rw [e, hk]
      · unfold Wd.nx; simp only [h2]; rw [hk]
    | some k =>
      have hk1 : w.kf z1.2.1 = some k := by rw [e, hk]
      cases ho : k.out z2.2.2 (w.sv s2 z2.2.1) with
      | int o =>
        have ho1 : k.out z1.2.2 (w.sv s1 z1.2.1) = .int o := by rw [sv, e]; exact ho
        cases hm : w.mf z2.2.1 o with
        | none =>
          have hm1 : w.mf z1.2.1 o = none := by rw [e]; exact hm
          left
          refine ⟨?_, ?_⟩
          · unfold Wd.nx; simp only [h1, hk1, ho1, hm1, Option.map_none]
          · unfold Wd.nx; simp only [h2, hk, ho, hm, Option.map_none]
        | some u =>
          have hm1 : w.mf z1.2.1 o = some u := by rw [e]; exact hm
          right
          refine ⟨_, _, nx_of h1 hk1 ho1 hm1, nx_of h2 hk ho hm, ?_, ?_⟩
          · unfold stepS; dsimp only; rw [S.s, sv, e]
          · rw [stepS_at, stepS_at]
      | _ =>
        left
        have ho1 := ho
        rw [← sv, ← e] at ho1
        refine ⟨?_, ?_⟩
        · unfold Wd.nx; simp only [h1, hk1, ho1]
        · unfold Wd.nx; simp only [h2, hk, ho]
theorem go_sum (w : Wd) : ∀ (a b : Nat) (s : Sd), w.go (a + b) s = w.go b (w.go a s) ∧ (w.hist (a + b) s).length = (w.hist a s).length + (w.hist b (w.go a s)).length
  | 0, b, s => by rw [Nat.zero_add]; exact ⟨rfl, (Nat.zero_add _).symm⟩
  | a + 1, b, s => by
    rw [show a + 1 + b = (a + b) + 1 by omega]
    cases h : w.nx s with
    | none => rw [go_held w h, go_held w h, go_held w h, hist_held w h, hist_held w h, hist_held w h]; exact ⟨rfl, rfl⟩
    | some s' =>
      rw [go_succ w h, go_succ w h, hist_succ w h, hist_succ w h]
      have := go_sum w a b s'
      exact ⟨this.1, by rw [List.length_cons, List.length_cons, this.2]; omega⟩
theorem hist_len_le (w : Wd) : ∀ (n : Nat) (s : Sd), (w.hist n s).length ≤ n
  | 0, s => Nat.le_refl _
  | n + 1, s => by
    cases h : w.nx s with
    | none => rw [hist_held w h]; exact Nat.zero_le _
    | some s' => rw [hist_succ w h, List.length_cons]; have := hist_len_le w n s'; omega
theorem go_rg_le (w : Wd) : ∀ (n : Nat) (s : Sd), (w.go n s).rg.length ≤ s.rg.length + n
  | 0, s => Nat.le_refl _
  | n + 1, s => by
    cases h : w.nx s with
    | none => rw [go_held w h]; omega
    | some s' =>
      rw [go_succ w h]
      have h1 := go_rg_le w n s'
      obtain ⟨z, k, o, z', _, _, _, _, rfl⟩ := nx_some h
      have h2 := stepS_rg_le (w := w) (s := s) (z := z) (k := k) (z' := z')
      omega
def EndsAt (w : Wd) (s : Sd) (D : Nat) : Prop := (w.hist D s).length = D ∧ w.nx (w.go D s) = none
theorem EndsAt.len {w : Wd} {s : Sd} {D : Nat} (h : EndsAt w s D) (n : Nat) : (w.hist n s).length = min n D := by
  by_cases c : n ≤ D
  · have := (go_sum w n (D - n) s).2
    rw [show n + (D - n) = D by omega, h.1] at this
    have h1 := hist_len_le w n s
    have h2 := hist_len_le w (D - n) (w.go n s)
    omega
  · have := (go_sum w D (n - D) s).2
    rw [show D + (n - D) = n by omega, h.1, hist_held w h.2] at this
    rw [this]
    show D + 0 = min n D
    omega
theorem EndsAt.go {w : Wd} {s : Sd} {D : Nat} (h : EndsAt w s D) {n : Nat} (hn : D ≤ n) : w.go n s = w.go D s := by
  have := (go_sum w D (n - D) s).1
  rw [show D + (n - D) = n by omega, go_held w h.2] at this
  exact this
theorem go_on_at {w : Wd} : ∀ (n : Nat) (s : Sd), s.at_ ≠ none → (w.go n s).at_ ≠ none
  | 0, s, h => h
  | n + 1, s, h => by
    cases hx : w.nx s with
    | none => rw [go_held w hx]; exact h
    | some s' =>
      rw [go_succ w hx]
      refine go_on_at n s' ?_
      obtain ⟨z, k, o, z', _, _, _, _, rfl⟩ := nx_some hx
      rw [stepS_at]; exact fun e => nomatch e
theorem Pool.go' {w : Wd} {L : Kn} : ∀ (n : Nat) {s : Sd}, Pool w s L → Pool w (w.go n s) L
  | 0, _, p => p
  | n + 1, s, p => by
    cases h : w.nx s with
    | none => rw [go_held w h]; exact p
    | some s' => rw [go_succ w h]; exact Pool.go' n (p.step h)
def sp_alike (C : Addr) : Sp := fun vs H Q _ => ∃ (A1 A2 : YA) (y1 y2 : YR) (M1 L : Kn) (z1 z2 : En) (ss1 ss2 : List Int), vs = [.ref A1.p, .ref A2.p] ∧ Has H (yL C A1 y1 ++ (M1 ++ (yL C A2 y2 ++ L))) ∧ y1.eng = .ref z1.1 ∧ y2.eng = .ref z2.1 ∧ (z1.1, HO.tup [.int z1.2.1, .int z1.2.2]) ∈ L ∧ (z2.1, HO.tup [.int z2.2.1, .int z2.2.2]) ∈ L ∧
  y1.sides = ss1.map V.int ∧ y2.sides = ss2.map V.int ∧ Q (.bl (decide (z1.2 = z2.2) && decide (ss1 = ss2))) H
section
variable {P : Program} {w : World} {K : PySem.W.Frag} {mg : Str → Option Value} {base : Heap} {t : Adr}
theorem scAk : FnScope ["one", "other"] ["one", "other"] (defScope s_alike) := ⟨rfl, rfl, rfl, by decide +kernel, rfl, by decide +kernel, by decide +kernel⟩
theorem ok_alike (T : Txt K mg t) : FnOk P w K mg base CX0 2 t.f_alike t.d_alike ["one", "other"] (sp_alike t.c_Yard) := by
  refine T.F_alike.ok scAk (fun vs H Q E h => ?_) (fun cdv A outer s H vs Q E hr h => ?_)
  · obtain ⟨_, _, _, _, _, _, _, _, _, _, rfl, _⟩ := h
    rfl
  · obtain ⟨A1, A2, y1, y2, M1, L, z1, z2, ss1, ss2, rfl, hH, e1, e2, m1, m2, s1, s2, q⟩ := h
    refine ⟨_, (pss_one (ps_ret (pe_and (pe_cmpR (op_eqT hr.units) (pe_meth0 (pv 0) T.cl_Yard T.M_Yard_engine (ok_Yard_engine T) (hr.mono (by decide)) (b_Yard_engine T) .nil pass0) (pe_meth0 (pv 1) T.cl_Yard T.M_Yard_engine (ok_Yard_engine T) (hr.mono (by decide)) (b_Yard_engine T) .nil pass0) (nomark _)) (pe_one (pe_cmpR (op_eqL hr.units) (pe_fld (pv 0) rfl) (pe_fld (pv 1) rfl) (nomark _)))))), ?_⟩
    have inL : ∀ {x : Addr × HO}, x ∈ L → H x.1 = some x.2 := fun {x} hx => hH.at_ x (List.mem_append_right _ (List.mem_append_right _ (List.mem_append_right _ hx)))
    have h2 : Has H (yL t.c_Yard A2 y2 ++ ((yL t.c_Yard A1 y1 ++ M1) ++ L)) := by
      refine Has.comm (X := yL t.c_Yard A1 y1 ++ M1) (Y := yL t.c_Yard A2 y2) (R := L) ?_
      rw [List.append_assoc]; exact hH
    refine ⟨_, rfl, A1.p, A1.dx, _, rfl, hH.get 1 rfl, (fl_m4 _ _ _).2.2.2.2.2.2.1, A1, y1, _, rfl, hH, ?_⟩
    refine ⟨_, rfl, A2.p, A2.dx, _, rfl, h2.get 1 rfl, (fl_m4 _ _ _).2.2.2.2.2.2.1, A2, y2, _, rfl, h2, ?_⟩
    refine ⟨z1.1, z2.1, [z1.2.1, z1.2.2], [z2.2.1, z2.2.2], e1, e2, inL m1, inL m2, _, rfl, ?_⟩
    have ez : (if false = true then !decide ([z1.2.1, z1.2.2] = [z2.2.1, z2.2.2]) else decide ([z1.2.1, z1.2.2] = [z2.2.1, z2.2.2])) = decide (z1.2 = z2.2) := by
      rw [if_neg Bool.false_ne_true]
      by_cases c : z1.2 = z2.2
      · rw [c]; simp
      · rw [decide_eq_false c, decide_eq_false (fun h => c (by injection h with a b; injection b with b _; exact Prod.ext a b))]
    rw [ez]
    refine if2 (fun c => ?_) (fun c => ?_)
    · rw [c] at q
      refine ⟨_, rfl, A1.p, _, A1.dx, _, _, rfl, hH.get 1 rfl, T.cl_Yard, T.n_Yard_sides, fl_sides _ _ _, ?_⟩
      refine ⟨_, rfl, A2.p, _, A2.dx, _, _, rfl, h2.get 1 rfl, T.cl_Yard, T.n_Yard_sides, fl_sides _ _ _, ?_⟩
      refine ⟨A1.s, A2.s, ss1, ss2, rfl, rfl, ?_, ?_, ?_⟩
      · rw [← s1]; exact SqL.of (hH.get 6 rfl)
      · rw [← s2]; exact SqL.of (h2.get 6 rfl)
      · rw [if_neg Bool.false_ne_true]; simpa using q
    · rw [c] at q
      exact q
end

theorem Rep.twin {W : Wd} {s : Sd} {y : YR} (R : Rep W s y) : Rep W s { y with trail := [] } := ⟨R.kd, R.no, R.ro, R.rr, R.sd, R.s12, R.mt, R.mo, R.en, R.eo, R.rg⟩
theorem why_on {W : Wd} {s s' : Sd} (h : W.nx s = some s') : W.why s = .non := by
  obtain ⟨z, k, o, z', hz, hk, ho, hm, _⟩ := nx_some h
  exact why_goes hz hk ho hm
structure Cyc (w : Wd) (s : Sd) (mu lam : Nat) : Prop where
  l0 : 0 < lam
  on : ∀ n, (w.hist n s).length = n
  lk : ∀ i j, i < j → (Lk (w.go i s) (w.go j s) ↔ mu ≤ i ∧ lam ∣ (j - i))
theorem Cyc.one {w : Wd} {s : Sd} {mu lam : Nat} (C : Cyc w s mu lam) (i k : Nat) : (w.hist k (w.go i s)).length = k := by
  have := (go_sum w i k s).2
  rw [C.on, C.on] at this
  omega
theorem Cyc.nx {w : Wd} {s : Sd} {mu lam : Nat} (C : Cyc w s mu lam) (i : Nat) : ∃ s', w.nx (w.go i s) = some s' := by
  cases h : w.nx (w.go i s) with
  | none => have := C.one i 1; rw [hist_held w h] at this; cases this
  | some s' => exact ⟨s', rfl⟩
theorem Cyc.eq {w : Wd} {s : Sd} {mu lam : Nat} (C : Cyc w s mu lam) {i j : Nat} (h : i < j) {z1 z2 : En} (h1 : (w.go i s).at_ = some z1) (h2 : (w.go j s).at_ = some z2) :
    (decide (z1.2 = z2.2) && decide ((w.go i s).ss = (w.go j s).ss)) = decide (mu ≤ i ∧ lam ∣ (j - i)) := by
  have e : (z1.2 = z2.2 ∧ (w.go i s).ss = (w.go j s).ss) ↔ Lk (w.go i s) (w.go j s) := by
    constructor
    · rintro ⟨a, b⟩; exact ⟨b, by rw [h1, h2]; exact congrArg some a⟩
    · rintro ⟨b, a⟩; rw [h1, h2] at a; exact ⟨Option.some.inj a, b⟩
  rw [← Bool.decide_and]
  exact decide_eq_decide.mpr (e.trans (C.lk i j h))
def roundV (mu lam n : Nat) : List V := if mu + lam ≤ n then [.str "round", .int mu, .int lam] else [.str "open", .int n]
def sp_on_round (C : Addr) : Sp := fun vs H Q _ => ∃ (A A2 : YA) (y y2 : YR) (M L : Kn) (ts2 : List (Addr × Sd)) (W : Wd) (s : Sd) (i lim mu lam : Nat), vs = [.ref A.p, .ref A2.p, .int lim] ∧ Has H (yL C A2 y2 ++ (trK W ts2 ++ (M ++ (yL C A y ++ L)))) ∧ Rep W s y ∧ Rep W (W.go i s) y2 ∧ y2.trail = trV ts2 ∧ ts2.length ≤ 200000 ∧ Pool W s L ∧ EK y.mates ∧ Cyc W s mu lam ∧ lam ∣ i ∧ mu ≤ i ∧ 1 ≤ i ∧ i ≤ 200000 ∧ mu ≤ 10000 ∧ lam ≤ 10000 ∧ s.rg.length ≤ 100000 ∧ s.at_ ≠ none ∧
  ∀ H' p, Has H' ((p, .tup (roundV mu lam lim)) :: (yL C A y ++ L)) → Q (.ref p) H'
def orInv (C : Addr) (A A2 F : YA) (y : YR) (M L : Kn) (W : Wd) (s : Sd) (i lim mu : Nat) (r : Nat) (σ : St) (H : Hp) : Prop :=
  ∃ (b : Nat) (yf y2 : YR) (tf t2 : List (Addr × Sd)) (o1 : Option V), r = mu - b ∧ b ≤ mu ∧ σ = [some (.ref A.p), some (.ref A2.p), some (.int lim), some (.ref F.p), some (.int b), o1] ∧
    Has H (yL C F yf ++ (trK W tf ++ (yL C A2 y2 ++ (trK W t2 ++ (M ++ (yL C A y ++ L)))))) ∧ Rep W (W.go b s) yf ∧ Rep W (W.go (i + b) s) y2 ∧ yf.trail = trV tf ∧ y2.trail = trV t2 ∧ tf.length ≤ b ∧ t2.length ≤ 200000 + b
def orInv2 (C : Addr) (A A2 F : YA) (y : YR) (M L : Kn) (W : Wd) (s : Sd) (i lim mu lam : Nat) (r : Nat) (σ : St) (H : Hp) : Prop :=
  ∃ (l : Nat) (yf y2 : YR) (tf t2 : List (Addr × Sd)), r = lam - l ∧ 1 ≤ l ∧ l ≤ lam ∧ σ = [some (.ref A.p), some (.ref A2.p), some (.int lim), some (.ref F.p), some (.int mu), some (.int l)] ∧
    Has H (yL C F yf ++ (trK W tf ++ (yL C A2 y2 ++ (trK W t2 ++ (M ++ (yL C A y ++ L)))))) ∧ Rep W (W.go mu s) yf ∧ Rep W (W.go (i + mu + l) s) y2 ∧ y2.trail = trV t2 ∧ t2.length ≤ 210000 + l
section
variable {P : Program} {w : World} {K : PySem.W.Frag} {mg : Str → Option Value} {base : Heap} {t : Adr}
theorem scOr : FnScope ["yard", "ahead", "limit", "first", "begin", "length"] ["yard", "ahead", "limit"] (defScope s_fate_on_round) := ⟨rfl, rfl, rfl, by decide +kernel, rfl, by decide +kernel, by decide +kernel⟩
theorem ok_fate_on_round (T : Txt K mg t) : FnOk P w K mg base CX0 7 t.f_fate_on_round t.d_fate_on_round ["yard", "ahead", "limit"] (sp_on_round t.c_Yard) := by
  refine T.F_fate_on_round.ok scOr (fun vs H Q E h => ?_) (fun cdv A outer s H vs Q E hr h => ?_)
  · obtain ⟨_, _, _, _, _, _, _, _, _, _, _, _, _, rfl, _⟩ := h
    rfl
  · obtain ⟨A, A2, y, y2, M, L, ts2, W, s0, i, lim, mu, lam, rfl, hH, R, R2, t2e, t2l, PL, ek, Cy, di, mi, i1, ib, mb, lb, rb, at0, q⟩ := h
    refine ⟨_, (pss_cons (ps_set (i := 3) scOr.nd rfl (Or.inl rfl) (pe_call (ok_twin T) (hr.mono (by decide)) (by rfl) T.m_twin T.F_twin.kp (b_twin T) .nil pass0 (pa_cons (pv 0) pa_nil)))
      (pss_cons (ps_set (i := 4) scOr.nd rfl (Or.inl rfl) pe_int)
      (pss_cons (ps_while PassesOwn.never (pt_not (pt_val (pe_call (ok_alike T) (hr.mono (by decide)) (by rfl) T.m_alike T.F_alike.kp (b_alike T) .nil pass0 (pa_cons (pv 3) (pa_cons (pv 1) pa_nil)))))
        (pss_cons (ps_aug (i := 4) scOr.nd rfl (Or.inl rfl) (pe_call (ok_run T) (hr.mono (by decide)) (by rfl) T.m_run T.F_run.kp (b_run T) .nil pass0 (pa_cons (pv 3) (pa_cons pe_int pa_nil))) ip_add)
          (pss_one (ps_expr (pe_call (ok_run T) (hr.mono (by decide)) (by rfl) T.m_run T.F_run.kp (b_run T) .nil pass0 (pa_cons (pv 1) (pa_cons pe_int pa_nil)))))))
      (pss_cons (ps_set (i := 5) scOr.nd rfl (Or.inl rfl) (pe_call (ok_run T) (hr.mono (by decide)) (by rfl) T.m_run T.F_run.kp (b_run T) .nil pass0 (pa_cons (pv 1) (pa_cons pe_int pa_nil))))
      (pss_cons (ps_while PassesOwn.never (pt_not (pt_val (pe_call (ok_alike T) (hr.mono (by decide)) (by rfl) T.m_alike T.F_alike.kp (b_alike T) .nil pass0 (pa_cons (pv 3) (pa_cons (pv 1) pa_nil)))))
        (pss_one (ps_aug (i := 5) scOr.nd rfl (Or.inl rfl) (pe_call (ok_run T) (hr.mono (by decide)) (by rfl) T.m_run T.F_run.kp (b_run T) .nil pass0 (pa_cons (pv 1) (pa_cons pe_int pa_nil))) ip_add)))
      (pss_cons (ps_if (pt_cmpR op_gt (pe_op op_add (pv 4) (pv 5)) (pv 2) (nomark _))
        (pss_one (ps_ret (pe_tup (pa_cons pe_str (pa_cons (pv 2) pa_nil)))))
        pss_nil)
      (pss_one (ps_ret (pe_tup (pa_cons pe_str (pa_cons (pv 4) (pa_cons (pv 5) pa_nil)))))))))))), ?_⟩
    have h1 : Has H (yL t.c_Yard A y ++ ((yL t.c_Yard A2 y2 ++ (trK W ts2 ++ M)) ++ L)) := by
      refine Has.comm (X := yL t.c_Yard A2 y2 ++ (trK W ts2 ++ M)) (Y := yL t.c_Yard A y) (R := L) ?_
      rw [List.append_assoc, List.append_assoc]; exact hH
    refine ⟨_, rfl, A, y, _, rfl, h1, ek, fun H1 F h2 => ?_⟩
    have h3 : Has H1 (yL t.c_Yard F { y with trail := [] } ++ (trK W [] ++ (yL t.c_Yard A2 y2 ++ (trK W ts2 ++ (M ++ (yL t.c_Yard A y ++ L)))))) := by
      refine Has.perm h2 (List.Perm.append_left _ ?_)
      refine (List.perm_append_comm_assoc _ _ _).trans ?_
      rw [List.append_assoc, List.append_assoc]
      exact .refl _
    clear h2 h1 hH
    dsimp only [tSeq, tAsg, tC, gName, List.set]
    refine ⟨orInv t.c_Yard A A2 F y M L W s0 i lim mu, ⟨_, 0, _, _, [], ts2, _, rfl, Nat.zero_le _, rfl, h3, R.twin, R2, rfl, t2e, Nat.zero_le _, t2l⟩, ?_⟩
    clear h3 R2 t2e t2l
    rintro r σ H2 ⟨b, yf, y2, tf, t2, o1, rfl, bm, rfl, h2, Rf, R2, tfe, t2e, tfl, t2l⟩
    have a1 := go_on_at (w := W) (b) s0 at0
    have a2 := go_on_at (w := W) ((i + b)) s0 at0
    obtain ⟨z1, hz1⟩ := Option.ne_none_iff_exists'.mp a1
    obtain ⟨z2, hz2⟩ := Option.ne_none_iff_exists'.mp a2
    obtain ⟨j1, g1⟩ := (PL.go' (b)).e z1 hz1
    obtain ⟨j2, g2⟩ := (PL.go' ((i + b))).e z2 hz2
    have ce := Cy.eq (show b < (i + b) by omega) hz1 hz2
    have ce' : (decide (z1.2 = z2.2) && decide ((W.go b s0).ss = (W.go (i + b) s0).ss)) = decide (mu ≤ b) := by
      rw [ce, show i + b - b = i by omega]
      exact decide_eq_decide.mpr ⟨fun h => h.1, fun h => ⟨h, di⟩⟩
    refine ⟨_, rfl, _, rfl, F, A2, yf, y2, _, _, z1, z2, (W.go b s0).ss, (W.go (i + b) s0).ss, rfl, h2, (by rw [Rf.en, hz1]; rfl), (by rw [R2.en, hz2]; rfl), List.mem_append_right _ (List.mem_append_right _ (List.mem_append_right _ (List.mem_of_getElem? g1))), List.mem_append_right _ (List.mem_append_right _ (List.mem_append_right _ (List.mem_of_getElem? g2))), Rf.sd, R2.sd, _, rfl, ?_⟩
    rw [ce']
    clear ce ce' z1 z2 hz1 hz2 g1 g2 a1 a2
    have rf := go_rg_le W b s0
    have r2 := go_rg_le W (i + b) s0
    have rfl' : yf.rung.length ≤ 400000 := by rw [Rf.rg, List.length_map]; omega
    have r2l : y2.rung.length ≤ 400000 := by rw [R2.rg, List.length_map]; omega
    refine ifdn (fun hc => ?_) (fun hc => ?_)
    · refine ⟨fun σ' H' => ∃ r', r' < mu - b ∧ orInv t.c_Yard A A2 F y M L W s0 i lim mu r' σ' H', fun _ _ h => h, ?_⟩
      refine ⟨_, rfl, _, rfl, F, yf, _, W, W.go b s0, tf, 1, rfl, h2, Rf, (((PL.go' _).app _).app _).app _ |>.app _, tfe, by omega, by omega, by omega, by omega, fun H3 yf2 tf2 h3 R3 t3 m3 _ _ _ _ _ _ => ?_⟩
      have l3 : tf2.length = 1 := by have := congrArg List.length m3; rw [List.length_map] at this; rw [this]; exact Cy.one b 1
      have R3' : Rep W (W.go (b + 1) s0) yf2 := by rw [(go_sum W b 1 s0).1]; exact R3
      refine ⟨_, _, rfl, rfl, ?_⟩
      have h4 : Has H3 (yL t.c_Yard A2 y2 ++ (trK W t2 ++ ((yL t.c_Yard F yf2 ++ trK W (tf ++ tf2)) ++ (M ++ (yL t.c_Yard A y ++ L))))) := by
        have := Has.comm (X := yL t.c_Yard F yf2 ++ trK W (tf ++ tf2)) (Y := yL t.c_Yard A2 y2 ++ trK W t2) (R := M ++ (yL t.c_Yard A y ++ L)) (by rw [List.append_assoc, List.append_assoc]; exact h3)
        rw [List.append_assoc] at this
        exact this
      clear h3 h2
      dsimp only [List.set]
      refine ⟨_, rfl, A2, y2, _, W, W.go (i + b) s0, t2, 1, rfl, h4, R2, (((PL.go' _).app _).app _).app _, t2e, by omega, by omega, by omega, by omega, fun H5 y22 t22 h5 R5 t5 m5 _ _ _ _ _ _ => ?_⟩
      have l5 : t22.length = 1 := by have := congrArg List.length m5; rw [List.length_map] at this; rw [this]; exact Cy.one (i + b) 1
      have R5' : Rep W (W.go (i + (b + 1)) s0) y22 := by rw [show i + (b + 1) = i + b + 1 by omega, (go_sum W (i + b) 1 s0).1]; exact R5
      have h6 : Has H5 (yL t.c_Yard F yf2 ++ (trK W (tf ++ tf2) ++ (yL t.c_Yard A2 y22 ++ (trK W (t2 ++ t22) ++ (M ++ (yL t.c_Yard A y ++ L)))))) := by
        have := Has.comm (X := yL t.c_Yard A2 y22 ++ trK W (t2 ++ t22)) (Y := yL t.c_Yard F yf2 ++ trK W (tf ++ tf2)) (R := M ++ (yL t.c_Yard A y ++ L)) (by rw [List.append_assoc]; exact h5)
        rw [List.append_assoc, List.append_assoc] at this
        exact this
      refine ⟨mu - (b + 1), by omega, b + 1, yf2, y22, tf ++ tf2, t2 ++ t22, o1, rfl, by omega, ?_, h6, R3', R5', t3, t5, by rw [List.length_append]; omega, by rw [List.length_append]; omega⟩
      rw [l3]
      rfl
    · have eb : b = mu := by omega
      subst eb
      have h4 : Has H2 (yL t.c_Yard A2 y2 ++ (trK W t2 ++ ((yL t.c_Yard F yf ++ trK W tf) ++ (M ++ (yL t.c_Yard A y ++ L))))) := by
        have := Has.comm (X := yL t.c_Yard F yf ++ trK W tf) (Y := yL t.c_Yard A2 y2 ++ trK W t2) (R := M ++ (yL t.c_Yard A y ++ L)) (by rw [List.append_assoc, List.append_assoc]; exact h2)
        rw [List.append_assoc] at this
        exact this
      clear h2
      refine ⟨_, rfl, A2, y2, _, W, W.go (i + b) s0, t2, 1, rfl, h4, R2, (((PL.go' _).app _).app _).app _, t2e, by omega, by omega, by omega, by omega, fun H5 y22 t22 h5 R5 t5 m5 _ _ _ _ _ _ => ?_⟩
      have l5 : t22.length = 1 := by have := congrArg List.length m5; rw [List.length_map] at this; rw [this]; exact Cy.one (i + b) 1
      have R5' : Rep W (W.go (i + b + 1) s0) y22 := by rw [(go_sum W (i + b) 1 s0).1]; exact R5
      have h6 : Has H5 (yL t.c_Yard F yf ++ (trK W tf ++ (yL t.c_Yard A2 y22 ++ (trK W (t2 ++ t22) ++ (M ++ (yL t.c_Yard A y ++ L)))))) := by
        have := Has.comm (X := yL t.c_Yard A2 y22 ++ trK W (t2 ++ t22)) (Y := yL t.c_Yard F yf ++ trK W tf) (R := M ++ (yL t.c_Yard A y ++ L)) (by rw [List.append_assoc]; exact h5)
        rw [List.append_assoc, List.append_assoc] at this
        exact this
      rw [l5]
      clear h4 h5 R2 t2e r2 r2l
      have lam0 := Cy.l0
      dsimp only [List.set]
      refine ⟨orInv2 t.c_Yard A A2 F y M L W s0 i lim b lam, ⟨_, 1, yf, y22, tf, t2 ++ t22, rfl, Nat.le_refl _, by omega, rfl, h6, Rf, R5', t5, by rw [List.length_append]; omega⟩, ?_⟩
      clear h6 R5 R5' t5 m5 l5 t2l
      rintro r σ H6 ⟨l, yf, y2, tf, t2, rfl, l1, ll, rfl, h2, Rf, R2, t2e, t2l⟩
      have a1 := go_on_at (w := W) (b) s0 at0
      have a2 := go_on_at (w := W) ((i + b + l)) s0 at0
      obtain ⟨z1, hz1⟩ := Option.ne_none_iff_exists'.mp a1
      obtain ⟨z2, hz2⟩ := Option.ne_none_iff_exists'.mp a2
      obtain ⟨j1, g1⟩ := (PL.go' (b)).e z1 hz1
      obtain ⟨j2, g2⟩ := (PL.go' ((i + b + l))).e z2 hz2
      have ce := Cy.eq (show b < (i + b + l) by omega) hz1 hz2
      have ce' : (decide (z1.2 = z2.2) && decide ((W.go b s0).ss = (W.go (i + b + l) s0).ss)) = decide (l = lam) := by
        rw [ce, show i + b + l - b = i + l by omega]
        refine decide_eq_decide.mpr ⟨fun h => ?_, fun h => ⟨Nat.le_refl _, by rw [h]; exact Nat.dvd_add di (Nat.dvd_refl _)⟩⟩
        have := (Nat.dvd_add_right di).mp h.2
        have := Nat.le_of_dvd (by omega) this
        omega
      refine ⟨_, rfl, _, rfl, F, A2, yf, y2, _, _, z1, z2, (W.go b s0).ss, (W.go (i + b + l) s0).ss, rfl, h2, (by rw [Rf.en, hz1]; rfl), (by rw [R2.en, hz2]; rfl), List.mem_append_right _ (List.mem_append_right _ (List.mem_append_right _ (List.mem_of_getElem? g1))), List.mem_append_right _ (List.mem_append_right _ (List.mem_append_right _ (List.mem_of_getElem? g2))), Rf.sd, R2.sd, _, rfl, ?_⟩
      rw [ce']
      clear ce ce' z1 z2 hz1 hz2 g1 g2 a1 a2
      have r2 := go_rg_le W (i + b + l) s0
      have r2l : y2.rung.length ≤ 400000 := by rw [R2.rg, List.length_map]; omega
      refine ifdn (fun hc => ?_) (fun hc => ?_)
      · refine ⟨fun σ' H' => ∃ r', r' < lam - l ∧ orInv2 t.c_Yard A A2 F y M L W s0 i lim b lam r' σ' H', fun _ _ h => h, ?_⟩
        have h4 : Has H6 (yL t.c_Yard A2 y2 ++ (trK W t2 ++ ((yL t.c_Yard F yf ++ trK W tf) ++ (M ++ (yL t.c_Yard A y ++ L))))) := by
          have := Has.comm (X := yL t.c_Yard F yf ++ trK W tf) (Y := yL t.c_Yard A2 y2 ++ trK W t2) (R := M ++ (yL t.c_Yard A y ++ L)) (by rw [List.append_assoc, List.append_assoc]; exact h2)
          rw [List.append_assoc] at this
          exact this
        clear h2
        refine ⟨_, rfl, _, rfl, A2, y2, _, W, W.go (i + b + l) s0, t2, 1, rfl, h4, R2, (((PL.go' _).app _).app _).app _, t2e, by omega, by omega, by omega, by omega, fun H5 y22 t22 h5 R5 t5 m5 _ _ _ _ _ _ => ?_⟩
        have l5 : t22.length = 1 := by have := congrArg List.length m5; rw [List.length_map] at this; rw [this]; exact Cy.one (i + b + l) 1
        have R5' : Rep W (W.go (i + b + (l + 1)) s0) y22 := by rw [show i + b + (l + 1) = i + b + l + 1 by omega, (go_sum W (i + b + l) 1 s0).1]; exact R5
        have h6 : Has H5 (yL t.c_Yard F yf ++ (trK W tf ++ (yL t.c_Yard A2 y22 ++ (trK W (t2 ++ t22) ++ (M ++ (yL t.c_Yard A y ++ L)))))) := by
          have := Has.comm (X := yL t.c_Yard A2 y22 ++ trK W (t2 ++ t22)) (Y := yL t.c_Yard F yf ++ trK W tf) (R := M ++ (yL t.c_Yard A y ++ L)) (by rw [List.append_assoc]; exact h5)
          rw [List.append_assoc, List.append_assoc] at this
          exact this
        refine ⟨_, _, rfl, rfl, ?_⟩
        refine ⟨lam - (l + 1), by omega, l + 1, yf, y22, tf, t2 ++ t22, rfl, by omega, by omega, ?_, h6, Rf, R5', t5, by rw [List.length_append]; omega⟩
        rw [l5]
        rfl
      · subst hc
        have hA : ∀ {H : Hp} {X : Kn}, Has H (X ++ (yL t.c_Yard A y ++ L)) → ∀ {p : Addr}, H p = none → ∀ o, Has (upd H p o) ((p, o) :: (yL t.c_Yard A y ++ L)) := fun {H X} h {p} hp o => Has.sub (h.alloc hp o) (List.Sublist.cons₂ _ (List.sublist_append_right _ _))
        have h9 : Has H6 ((yL t.c_Yard F yf ++ (trK W tf ++ (yL t.c_Yard A2 y2 ++ (trK W t2 ++ M)))) ++ (yL t.c_Yard A y ++ L)) := by
          rw [List.append_assoc, List.append_assoc, List.append_assoc, List.append_assoc]; exact h2
        refine ⟨_, rfl, _, rfl, _, _, rfl, rfl, _, rfl, _, _, rfl, rfl, _, rfl, if2 (fun hc => ?_) (fun hc => ?_)⟩
        · have hlt : (lim : Int) < (b : Int) + (l : Int) := of_decide_eq_true hc
          refine ⟨_, rfl, (show 2 ≤ sizeLine by decide), fun p hp => ?_⟩
          refine q _ p ?_
          have e : roundV b l lim = [.str "open", .int (lim : Int)] := by unfold roundV; rw [if_neg (by omega)]
          rw [e]
          exact hA h9 hp _
        · have hlt : ¬ (lim : Int) < (b : Int) + (l : Int) := of_decide_eq_false hc
          refine ⟨_, rfl, _, rfl, (show 3 ≤ sizeLine by decide), fun p hp => ?_⟩
          refine q _ p ?_
          have e : roundV b l lim = [.str "round", .int (b : Int), .int (l : Int)] := by unfold roundV; rw [if_pos (by omega)]
          rw [e]
          exact hA h9 hp _
end

theorem mult_soon {mu lam : Nat} (h : 0 < lam) : ∃ k, 1 ≤ k ∧ k ≤ mu + lam ∧ mu ≤ k ∧ lam ∣ k := by
  by_cases c : mu = 0
  · exact ⟨lam, h, by omega, by omega, Nat.dvd_refl _⟩
  · have e := Nat.div_add_mod (mu + lam - 1) lam
    have l := Nat.mod_lt (mu + lam - 1) h
    exact ⟨lam * ((mu + lam - 1) / lam), by omega, by omega, by omega, Nat.dvd_mul_right _ _⟩

end P


set_option Elab.async false
set_option linter.all false
set_option maxRecDepth 100000
set_option maxHeartbeats 4000000
namespace P
open PySem L2

theorem hist_le (w : Wd) : ∀ (n : Nat) (s : Sd), (w.hist n s).length ≤ n
  | 0, s => Nat.le_refl _
  | n + 1, s => by
    cases h : w.nx s with
    | none => rw [hist_held w h]; exact Nat.zero_le _
    | some s' => rw [hist_succ w h, List.length_cons]; have := hist_le w n s'; omega

theorem least {P : Nat → Prop} : ∀ {n : Nat}, P n → ∃ m, m ≤ n ∧ P m ∧ ∀ k, k < m → ¬ P k := by
  intro n
  induction n using Nat.strongRecOn with
  | ind n ih =>
    intro h
    by_cases c : ∃ k, k < n ∧ P k
    · obtain ⟨k, hk, pk⟩ := c
      obtain ⟨m, a, b, d⟩ := ih k hk pk
      exact ⟨m, by omega, b, d⟩
    · exact ⟨n, Nat.le_refl _, h, fun k hk pk => c ⟨k, hk, pk⟩⟩
theorem cyc_of {E : Nat → Nat → Prop} (rf : ∀ i, E i i) (sy : ∀ {i j}, E i j → E j i) (tr : ∀ {i j k}, E i j → E j k → E i k) (st : ∀ {i j}, E i j → E (i + 1) (j + 1)) {i : Nat} (hi : 1 ≤ i) (h : E i (2 * i)) :
    ∃ mu lam, 0 < lam ∧ mu ≤ i ∧ lam ∣ i ∧ lam ≤ i ∧ ∀ j k, j < k → (E j k ↔ mu ≤ j ∧ lam ∣ (k - j)) := by
  have sh : ∀ (n : Nat) {a b : Nat}, E a b → E (a + n) (b + n) := fun n => by
    induction n with
    | zero => intro a b e; exact e
    | succ n ih => intro a b e; exact st (ih e)
  have up : ∀ {a p : Nat}, E a (a + p) → ∀ (q n : Nat), E (a + n) (a + n + p * q) := fun {a p} e q => by
    induction q with
    | zero => intro n; rw [Nat.mul_zero]; exact rf _
    | succ q ih =>
      intro n
      have e1 := sh n e
      have e2 := ih (n + p)
      rw [show a + (n + p) = a + n + p by omega] at e2
      rw [show a + p + n = a + n + p by omega] at e1
      have := tr e1 e2
      rw [Nat.mul_succ, show a + n + (p * q + p) = a + n + p + p * q by omega]
      exact this
  obtain ⟨mu, mui, ⟨p0, p00, e0⟩, mm⟩ := least (P := fun m => ∃ p, 0 < p ∧ E m (m + p)) (n := i) ⟨i, by omega, by rw [show i + i = 2 * i by omega]; exact h⟩
  obtain ⟨lam, lp, ⟨l0, le⟩, lm⟩ := least (P := fun p => 0 < p ∧ E mu (mu + p)) (n := p0) ⟨p00, e0⟩
  have main : ∀ j k, j < k → (E j k ↔ mu ≤ j ∧ lam ∣ (k - j)) := fun j k hjk => by
    constructor
    · intro e
      have mj : mu ≤ j := Nat.le_of_not_lt fun c => mm j c ⟨k - j, by omega, by rw [show j + (k - j) = k by omega]; exact e⟩
      refine ⟨mj, ?_⟩
      obtain ⟨t, ht⟩ : ∃ t, j = mu + t := ⟨j - mu, by omega⟩
      obtain ⟨p, hp⟩ : ∃ p, k = j + p := ⟨k - j, by omega⟩
      have em := Nat.div_add_mod p lam
      have ml := Nat.mod_lt p l0
      rw [show k - j = p by omega]
      by_cases r0 : p % lam = 0
      · exact Nat.dvd_of_mod_eq_zero r0
      · exfalso
        have e1 := up le (p / lam) (t + p % lam)
        have e2 : E j (j + p % lam) := by
          have e3 : E (j + p % lam) k := by
            rw [show mu + (t + p % lam) = j + p % lam by omega, show j + p % lam + lam * (p / lam) = k by omega] at e1
            exact e1
          exact tr e (sy e3)
        have e4 := sh (lam * t - t) e2
        have lt : t ≤ lam * t := Nat.le_mul_of_pos_left t l0
        rw [show j + (lam * t - t) = mu + lam * t by omega, show j + p % lam + (lam * t - t) = mu + p % lam + lam * t by omega] at e4
        have e5 := up le t 0
        have e6 := up le t (p % lam)
        rw [Nat.add_zero] at e5
        exact lm (p % lam) ml ⟨by omega, tr (tr e5 e4) (sy e6)⟩
    · rintro ⟨mj, q, hq⟩
      have := up le q (j - mu)
      rw [show mu + (j - mu) = j by omega, show j + lam * q = k by omega] at this
      exact this
  have di := ((main i (2 * i) (by omega)).mp h).2
  rw [show 2 * i - i = i by omega] at di
  exact ⟨mu, lam, l0, mui, di, Nat.le_of_dvd (by omega) di, main⟩
theorem Lk.rf (s : Sd) : Lk s s := ⟨rfl, rfl⟩
theorem Lk.sy {s t : Sd} (h : Lk s t) : Lk t s := ⟨h.s.symm, h.a.symm⟩
theorem Lk.tr {s t u : Sd} (h : Lk s t) (h2 : Lk t u) : Lk s u := ⟨h.s.trans h2.s, h.a.trans h2.a⟩
theorem Lk.st {w : Wd} {s : Sd} {i j : Nat} (h : Lk (w.go i s) (w.go j s)) : Lk (w.go (i + 1) s) (w.go (j + 1) s) := by
  rw [(go_sum w i 1 s).1, (go_sum w j 1 s).1]
  rcases lk_nx (w := w) h with ⟨h1, h2⟩ | ⟨t1, t2, h1, h2, T⟩
  · rw [go_held w h1, go_held w h2]; exact h
  · rw [go_succ w h1, go_succ w h2]; exact T
theorem Lk.sh {w : Wd} {s : Sd} {i j : Nat} (h : Lk (w.go i s) (w.go j s)) : ∀ n, Lk (w.go (i + n) s) (w.go (j + n) s)
  | 0 => h
  | n + 1 => Lk.st (Lk.sh h n)
theorem on_le {w : Wd} {s : Sd} {n : Nat} (h : (w.hist n s).length = n) {k : Nat} (hk : k ≤ n) : (w.hist k s).length = k := by
  have := (go_sum w k (n - k) s).2
  rw [show k + (n - k) = n by omega, h] at this
  have a := hist_le w k s
  have b := hist_le w (n - k) (w.go k s)
  omega
theorem on_nx {w : Wd} {s : Sd} {n k : Nat} (h : (w.hist n s).length = n) (hk : k < n) : ∃ s', w.nx (w.go k s) = some s' := by
  have h1 := on_le h (show k + 1 ≤ n by omega)
  have := (go_sum w k 1 s).2
  rw [h1, on_le h (show k ≤ n by omega)] at this
  cases c : w.nx (w.go k s) with
  | none => rw [hist_held w c] at this; simp at this
  | some s' => exact ⟨s', rfl⟩
theorem on_of {w : Wd} {s : Sd} : ∀ {n : Nat}, (∀ k, k < n → ∃ s', w.nx (w.go k s) = some s') → (w.hist n s).length = n
  | 0, _ => rfl
  | n + 1, h => by
    have a := (go_sum w n 1 s).2
    obtain ⟨s', hs⟩ := h n (by omega)
    rw [a, on_of (fun k hk => h k (by omega)), hist_succ w hs]
    rfl
theorem Cyc.of {w : Wd} {s : Sd} {i : Nat} (hi : 1 ≤ i) (on : (w.hist (2 * i) s).length = 2 * i) (h : Lk (w.go i s) (w.go (2 * i) s)) : ∃ mu lam, Cyc w s mu lam ∧ mu ≤ i ∧ lam ∣ i ∧ lam ≤ i := by
  obtain ⟨mu, lam, l0, mi, di, li, main⟩ := cyc_of (E := fun a b => Lk (w.go a s) (w.go b s)) (fun a => Lk.rf _) (fun h => h.sy) (fun h h2 => h.tr h2) (fun h => h.st) hi h
  have nx : ∀ n, ∃ s', w.nx (w.go n s) = some s' := fun n => by
    induction n using Nat.strongRecOn with
    | ind n ih =>
      by_cases c : n < 2 * i
      · exact on_nx on c
      · obtain ⟨s', hs⟩ := ih (n - i) (by omega)
        have e := h.sh (n - 2 * i)
        rw [show i + (n - 2 * i) = n - i by omega, show 2 * i + (n - 2 * i) = n by omega] at e
        rcases lk_nx (w := w) e with ⟨h1, _⟩ | ⟨t1, t2, _, h2, _⟩
        · rw [h1] at hs; cases hs
        · exact ⟨t2, h2⟩
  exact ⟨mu, lam, ⟨l0, fun n => on_of fun k _ => nx k, main⟩, mi, di, li⟩
def FR (w : Wd) (s : Sd) (lim : Nat) (xs : List V) : Prop :=
  (∃ n, n ≤ lim ∧ (w.hist n s).length = n ∧ w.nx (w.go n s) = none ∧ xs = [.str "held", w.why (w.go n s), .int n]) ∨
  (∃ mu lam, Cyc w s mu lam ∧ mu + lam ≤ lim ∧ xs = [.str "round", .int mu, .int lam]) ∨
  ((w.hist (lim + 1) s).length = lim + 1 ∧ (∀ i j, i < j → j ≤ lim → ¬ Lk (w.go i s) (w.go j s)) ∧ xs = [.str "open", .int lim])
theorem FR.round {w : Wd} {s : Sd} {mu lam lim : Nat} (C : Cyc w s mu lam) : FR w s lim (roundV mu lam lim) := by
  unfold roundV
  by_cases c : mu + lam ≤ lim
  · rw [if_pos c]; exact .inr (.inl ⟨mu, lam, C, c, rfl⟩)
  · rw [if_neg c]
    refine .inr (.inr ⟨C.on _, fun i j hij hj e => ?_, rfl⟩)
    obtain ⟨a, q, b⟩ := (C.lk i j hij).mp e
    have : 1 ≤ q := Nat.one_le_iff_ne_zero.mpr (fun z => by rw [z, Nat.mul_zero] at b; omega)
    have : lam * 1 ≤ lam * q := Nat.mul_le_mul_left lam this
    omega
theorem unlike_held {w : Wd} {s : Sd} {n : Nat} (on : (w.hist n s).length = n) (hn : w.nx (w.go n s) = none) : ∀ i j, i < j → j ≤ n → ¬ Lk (w.go i s) (w.go j s) := fun i j hij hj e => by
  have e2 := e.sh (n - j)
  rw [show j + (n - j) = n by omega] at e2
  obtain ⟨s', hs⟩ := on_nx on (show i + (n - j) < n by omega)
  rcases lk_nx (w := w) e2 with ⟨h1, _⟩ | ⟨_, _, _, h2, _⟩
  · rw [h1] at hs; cases hs
  · rw [h2] at hn; cases hn
theorem unlike_far {w : Wd} {s : Sd} {lim : Nat} (nk : ∀ k, 1 ≤ k → k ≤ lim → ¬ Lk (w.go k s) (w.go (2 * k) s)) : ∀ i j, i < j → j ≤ lim → ¬ Lk (w.go i s) (w.go j s) := fun i j hij hj e => by
  obtain ⟨p, hp⟩ : ∃ p, j = i + p := ⟨j - i, by omega⟩
  subst hp
  have p0 : 0 < p := by omega
  obtain ⟨k, k1, k2, k3, q, hq⟩ : ∃ k, 1 ≤ k ∧ k ≤ i + p ∧ i ≤ k ∧ p ∣ k := mult_soon p0
  have up : ∀ q n, Lk (w.go (i + n) s) (w.go (i + n + p * q) s) := fun q => by
    induction q with
    | zero => intro n; exact Lk.rf _
    | succ q ih =>
      intro n
      have a := e.sh n
      have b := ih (n + p)
      rw [show i + (n + p) = i + n + p by omega] at b
      rw [show i + p + n = i + n + p by omega] at a
      rw [Nat.mul_succ, show i + n + (p * q + p) = i + n + p + p * q by omega]
      exact a.tr b
  have := up q (k - i)
  rw [show i + (k - i) = k by omega, ← hq, show k + k = 2 * k by omega] at this
  exact nk k k1 (by omega) this

def sp_fate (C : Addr) : Sp := fun vs H Q _ => ∃ (A : YA) (y : YR) (L : Kn) (W : Wd) (s : Sd) (m : Int), vs = [.ref A.p, .int m] ∧ Has H (yL C A y ++ L) ∧ Rep W s y ∧ Pool W s L ∧ EK y.mates ∧ m ≤ 1000 ∧ s.rg.length ≤ 100000 ∧ s.at_ ≠ none ∧
  ∀ H' p xs, FR W s m.toNat xs → Has H' ((p, .tup xs) :: (yL C A y ++ L)) → Q (.ref p) H'
def fateInv (C : Addr) (A Bs Bf : YA) (y : YR) (L : Kn) (W : Wd) (s : Sd) (m : Int) (r : Nat) (σ : St) (H : Hp) : Prop :=
  ∃ (i : Nat) (ys yf : YR) (ts tf : List (Addr × Sd)) (o1 o2 : Option V), r = m.toNat - i ∧ i ≤ m.toNat ∧ σ = [some (.ref A.p), some (.int m), some (.int m.toNat), some (.ref Bs.p), some (.ref Bf.p), some (.int i), some (.int ((2 * i : Nat) : Int)), o1, o2] ∧
    Has H (yL C Bs ys ++ (trK W ts ++ (yL C Bf yf ++ (trK W tf ++ (yL C A y ++ L))))) ∧ Rep W (W.go i s) ys ∧ Rep W (W.go (2 * i) s) yf ∧ ys.trail = trV ts ∧ yf.trail = trV tf ∧ ts.length = i ∧ tf.length = 2 * i ∧ (W.hist (2 * i) s).length = 2 * i ∧ ∀ k, 1 ≤ k → k ≤ i → ¬ Lk (W.go k s) (W.go (2 * k) s)
section
variable {P : Program} {w : World} {K : PySem.W.Frag} {mg : Str → Option Value} {base : Heap} {t : Adr}
theorem why_none_iff {w : Wd} {s : Sd} (h : ∀ z, s.at_ = some z → w.ok z) : w.why s = .non ↔ ∃ s', w.nx s = some s' := by
  constructor
  · intro e
    cases hz : s.at_ with
    | none => rw [(why_none (w := w) hz).2] at e; cases e
    | some z =>
      obtain ⟨k, hk, _⟩ := h z hz
      by_cases c : k.out z.2.2 (w.sv s z.2.1) = .non
      · rw [(why_stop hz hk c).2] at e; cases e
      · obtain ⟨o, ho⟩ := Kd.out_int (k := k) (fun e => c (by unfold Kd.out; rw [if_pos e])) z.2.2 (w.sv s z.2.1)
        cases hm : w.mf z.2.1 o with
        | none => rw [(why_loose hz hk ho hm).2] at e; cases e
        | some z' => exact ⟨_, nx_of hz hk ho hm⟩
  · rintro ⟨s', hs⟩
    exact why_on hs
theorem scFt : FnScope ["yard", "most", "limit", "slow", "fast", "slow_steps", "fast_steps", "done", "why"] ["yard", "most"] (defScope s_fate) := ⟨rfl, rfl, rfl, by decide +kernel, rfl, by decide +kernel, by decide +kernel⟩
theorem ok_fate (T : Txt K mg t) : FnOk P w K mg base CX0 8 t.f_fate t.d_fate ["yard", "most"] (sp_fate t.c_Yard) := by
  refine T.F_fate.ok scFt (fun vs H Q E h => ?_) (fun cdv A outer s H vs Q E hr h => ?_)
  · obtain ⟨_, _, _, _, _, _, rfl, _⟩ := h
    rfl
  · obtain ⟨A, y, L, W, s0, m, rfl, hH, R, PL, ek, mb, rb, at0, q⟩ := h
    refine ⟨_, (pss_cons (ps_set (i := 2) scFt.nd rfl (Or.inl rfl) (pe_callB (call_max2 rfl) (by rfl) T.z_max (by rfl) (pa_cons (pv 1) (pa_cons pe_int pa_nil))))
      (pss_cons (ps_set (i := 3) scFt.nd rfl (Or.inl rfl) (pe_call (ok_twin T) (hr.mono (by decide)) (by rfl) T.m_twin T.F_twin.kp (b_twin T) .nil pass0 (pa_cons (pv 0) pa_nil)))
      (pss_cons (ps_set (i := 4) scFt.nd rfl (Or.inl rfl) (pe_call (ok_twin T) (hr.mono (by decide)) (by rfl) T.m_twin T.F_twin.kp (b_twin T) .nil pass0 (pa_cons (pv 0) pa_nil)))
      (pss_cons (ps_asg2 pe_int (pg_name (i := 5) scFt.nd rfl (Or.inl rfl)) (pg_name (i := 6) scFt.nd rfl (Or.inl rfl)))
      (pss_cons (ps_while PassesOwn.never (pt_cmpR op_lt (pv 5) (pv 2) (nomark _))
        (pss_cons (ps_set (i := 7) scFt.nd rfl (Or.inl rfl) (pe_call (ok_run T) (hr.mono (by decide)) (by rfl) T.m_run T.F_run.kp (b_run T) .nil pass0 (pa_cons (pv 4) (pa_cons pe_int pa_nil))))
          (pss_cons (ps_aug (i := 6) scFt.nd rfl (Or.inl rfl) (pv 7) ip_add)
          (pss_cons (ps_if (pt_cmpR op_lt (pv 7) pe_int (nomark _))
            (pss_one ps_break)
            pss_nil)
          (pss_cons (ps_aug (i := 5) scFt.nd rfl (Or.inl rfl) (pe_call (ok_run T) (hr.mono (by decide)) (by rfl) T.m_run T.F_run.kp (b_run T) .nil pass0 (pa_cons (pv 3) (pa_cons pe_int pa_nil))) ip_add)
          (pss_one (ps_if (pt_val (pe_call (ok_alike T) (hr.mono (by decide)) (by rfl) T.m_alike T.F_alike.kp (b_alike T) .nil pass0 (pa_cons (pv 3) (pa_cons (pv 4) pa_nil))))
            (pss_one (ps_ret (pe_call (ok_fate_on_round T) (hr.mono (by decide)) (by rfl) T.m_fate_on_round T.F_fate_on_round.kp (b_fate_on_round T) .nil pass0 (pa_cons (pv 0) (pa_cons (pv 3) (pa_cons (pv 2) pa_nil))))))
            pss_nil)))))))
      (pss_cons (ps_set (i := 8) scFt.nd rfl (Or.inl rfl) (pe_call (ok_held T) (hr.mono (by decide)) (by rfl) T.m_held T.F_held.kp (b_held T) .nil pass0 (pa_cons (pv 4) pa_nil)))
      (pss_cons (ps_if (PW.pt (pw_and (pt_cmpR op_notN (pv 8) pe_non (nomark _)) (pw_and1 (pt_cmpR op_le (pv 6) (pv 2) (nomark _)))))
        (pss_one (ps_ret (pe_tup (pa_cons pe_str (pa_cons (pv 8) (pa_cons (pv 6) pa_nil))))))
        pss_nil)
      (pss_one (ps_ret (pe_tup (pa_cons pe_str (pa_cons (pv 2) pa_nil)))))))))))), ?_⟩
    refine ⟨_, rfl, _, _, rfl, ?_⟩
    rw [show (if (0 : Int) > m then 0 else m) = (m.toNat : Int) by split <;> omega]
    refine ⟨_, rfl, A, y, L, rfl, hH, ek, fun H1 Bs h1 => ?_⟩
    replace h1 := Has.comm (X := yL t.c_Yard Bs { y with trail := [] }) (Y := yL t.c_Yard A y) (R := L) h1
    refine ⟨_, rfl, A, y, _, rfl, h1, ek, fun H2 Bf h2 => ?_⟩
    have h3 : Has H2 (yL t.c_Yard Bs { y with trail := [] } ++ (trK W [] ++ (yL t.c_Yard Bf { y with trail := [] } ++ (trK W [] ++ (yL t.c_Yard A y ++ L))))) := by
      show Has H2 (yL t.c_Yard Bs { y with trail := [] } ++ (yL t.c_Yard Bf { y with trail := [] } ++ (yL t.c_Yard A y ++ L)))
      refine Has.perm h2 ?_
      rw [← List.append_assoc (yL t.c_Yard Bf { y with trail := [] }), ← List.append_assoc (yL t.c_Yard Bf { y with trail := [] })]
      exact List.perm_append_comm_assoc _ _ _
    clear h2 h1 hH
    dsimp only [gName, List.set]
    refine ⟨fateInv t.c_Yard A Bs Bf y L W s0 m, ⟨_, 0, _, _, [], [], _, _, rfl, Nat.zero_le _, rfl, h3, R.twin, R.twin, rfl, rfl, rfl, rfl, rfl, fun k h1 h2 => by omega⟩, ?_⟩
    clear h3
    rintro r σ H1 ⟨i, ys, yf, ts, tf, o1, o2, rfl, im, rfl, h1, Rs, Rf, t1, t2, l1, l2, on, nk⟩
    have h2 : Has H1 (yL t.c_Yard Bf yf ++ (trK W tf ++ ((yL t.c_Yard Bs ys ++ trK W ts) ++ (yL t.c_Yard A y ++ L)))) := by
      have := Has.comm (X := yL t.c_Yard Bs ys ++ trK W ts) (Y := yL t.c_Yard Bf yf ++ trK W tf) (R := yL t.c_Yard A y ++ L) (by rw [List.append_assoc, List.append_assoc]; exact h1)
      rw [List.append_assoc] at this
      exact this
    refine ⟨_, rfl, _, rfl, _, _, rfl, rfl, _, rfl, if2 (fun hc => ?_) (fun hc => ?_)⟩
    · have hlt : (i : Int) < ((m.toNat : Nat) : Int) := of_decide_eq_true hc
      refine ⟨fun σ' H' => ∃ r', r' < m.toNat - i ∧ fateInv t.c_Yard A Bs Bf y L W s0 m r' σ' H', fun _ _ h => h, ?_⟩
      have rf := go_rg_le W (2 * i) s0
      have rf' : yf.rung.length ≤ 300000 := by rw [Rf.rg, List.length_map]; omega
      refine ⟨_, rfl, Bf, yf, _, W, W.go (2 * i) s0, tf, 2, rfl, h2, Rf, ((PL.go' _).app _).app _, t2, by omega, by omega, by omega, by omega, fun H3 yf2 tf2 h3 R3 t3 m3 _ _ _ _ _ P3 => ?_⟩
      have e2 : tf2.length = (W.hist 2 (W.go (2 * i) s0)).length := by have := congrArg List.length m3; rw [List.length_map] at this; exact this
      have e2le := hist_le W 2 (W.go (2 * i) s0)
      have s2 := go_sum W (2 * i) 2 s0
      have R3' : Rep W (W.go (2 * i + 2) s0) yf2 := by rw [s2.1]; exact R3
      dsimp only [List.set]
      refine ⟨_, rfl, _, rfl, _, _, rfl, rfl, ?_⟩
      dsimp only [List.set]
      refine ⟨_, rfl, _, _, rfl, rfl, _, rfl, ?_⟩
      by_cases d2 : tf2.length = 2
      · refine ifF (decide_eq_false (by omega)) ?_
        have on2 : (W.hist (2 * i + 2) s0).length = 2 * i + 2 := by rw [s2.2, on, ← e2, d2]
        have h4 : Has H3 (yL t.c_Yard Bs ys ++ (trK W ts ++ ((yL t.c_Yard Bf yf2 ++ trK W (tf ++ tf2)) ++ (yL t.c_Yard A y ++ L)))) := by
          have := Has.comm (X := yL t.c_Yard Bf yf2 ++ trK W (tf ++ tf2)) (Y := yL t.c_Yard Bs ys ++ trK W ts) (R := yL t.c_Yard A y ++ L) (by rw [List.append_assoc]; exact h3)
          rw [List.append_assoc] at this
          exact this
        clear h3 h2 h1
        have rs := go_rg_le W i s0
        have rs' : ys.rung.length ≤ 300000 := by rw [Rs.rg, List.length_map]; omega
        refine ⟨_, rfl, _, rfl, Bs, ys, _, W, W.go i s0, ts, 1, rfl, h4, Rs, ((PL.go' _).app _).app _, t1, by omega, by omega, by omega, by omega, fun H5 ys2 ts2 h5 R5 t5 m5 _ _ _ _ _ P5 => ?_⟩
        have e1 : ts2.length = 1 := by
          have := congrArg List.length m5
          rw [List.length_map] at this
          rw [this]
          obtain ⟨s', hs⟩ := on_nx on2 (show i < 2 * i + 2 by omega)
          show (W.hist 1 (W.go i s0)).length = 1
          rw [hist_succ W hs]; rfl
        replace R5 : Rep W (W.go (i + 1) s0) ys2 := by rw [(go_sum W i 1 s0).1]; exact R5
        refine ⟨_, _, rfl, rfl, ?_⟩
        rw [List.append_assoc] at h5
        have a1 := go_on_at (w := W) (i + 1) s0 at0
        have a2 := go_on_at (w := W) (2 * i + 2) s0 at0
        obtain ⟨z1, hz1⟩ := Option.ne_none_iff_exists'.mp a1
        obtain ⟨z2, hz2⟩ := Option.ne_none_iff_exists'.mp a2
        obtain ⟨j1, g1⟩ := (PL.go' (i + 1)).e z1 hz1
        obtain ⟨j2, g2⟩ := (PL.go' (2 * i + 2)).e z2 hz2
        refine ⟨_, rfl, _, rfl, Bs, Bf, ys2, yf2, _, _, z1, z2, (W.go (i + 1) s0).ss, (W.go (2 * i + 2) s0).ss, rfl, h5, (by rw [R5.en, hz1]; rfl), (by rw [R3'.en, hz2]; rfl), List.mem_append_right _ (List.mem_append_right _ (List.mem_of_getElem? g1)), List.mem_append_right _ (List.mem_append_right _ (List.mem_of_getElem? g2)), R5.sd, R3'.sd, _, rfl, ?_⟩
        have lkd : (decide (z1.2 = z2.2) && decide ((W.go (i + 1) s0).ss = (W.go (2 * i + 2) s0).ss)) = true ↔ Lk (W.go (i + 1) s0) (W.go (2 * (i + 1)) s0) := by
          rw [show 2 * (i + 1) = 2 * i + 2 by omega, Bool.and_eq_true, decide_eq_true_eq, decide_eq_true_eq]
          constructor
          · rintro ⟨a, b⟩; exact ⟨b, by rw [hz1, hz2]; exact congrArg some a⟩
          · rintro ⟨b, a⟩; rw [hz1, hz2] at a; exact ⟨Option.some.inj a, b⟩
        refine if2 (fun hf => ?_) (fun hf => ?_)
        · have lk := lkd.mp hf
          obtain ⟨mu, lam, Cy, mi, di, li⟩ := Cyc.of (show 1 ≤ i + 1 by omega) (by rw [show 2 * (i + 1) = 2 * i + 2 by omega]; exact on2) lk
          refine ⟨_, rfl, _, rfl, _, rfl, A, Bs, y, ys2, yL t.c_Yard Bf yf2 ++ trK W (tf ++ tf2), L, ts ++ ts2, W, s0, i + 1, m.toNat, mu, lam, rfl, (by rw [List.append_assoc (yL t.c_Yard Bf yf2)]; exact h5), R, R5, t5, by rw [List.length_append]; omega, PL, ek, Cy, di, mi, by omega, by omega, by omega, by omega, rb, at0, fun H' p h => q H' p _ (FR.round Cy) h⟩
        · refine ⟨m.toNat - (i + 1), by omega, i + 1, ys2, yf2, ts ++ ts2, tf ++ tf2, some (.int tf2.length), o2, rfl, by omega, ?_, h5, R5, by rw [show 2 * (i + 1) = 2 * i + 2 by omega]; exact R3', t5, t3, by rw [List.length_append]; omega, by rw [List.length_append]; omega, by rw [show 2 * (i + 1) = 2 * i + 2 by omega]; exact on2, fun k k1 k2 => ?_⟩
          · dsimp only [List.set]
            rw [show (i : Int) + (ts2.length : Int) = ((i + 1 : Nat) : Int) by omega, show (((2 * i : Nat) : Int) + (tf2.length : Int)) = ((2 * (i + 1) : Nat) : Int) by omega]
          · by_cases c : k = i + 1
            · rw [c]; exact fun lk => by rw [lkd.mpr lk] at hf; cases hf
            · exact nk k k1 (by omega)
      · refine ifT (decide_eq_true (by omega)) ?_
        obtain ⟨dn, edn⟩ : ∃ dn, tf2.length = dn := ⟨_, rfl⟩
        have dn1 : dn ≤ 1 := by omega
        have on_n : (W.hist (2 * i + dn) s0).length = 2 * i + dn := by
          rw [(go_sum W (2 * i) dn s0).2, on]
          have := on_of (w := W) (s := W.go (2 * i) s0) (n := dn) (fun k hk => ?_)
          · rw [this]
          · have k0 : k = 0 := by omega
            subst k0
            show ∃ s', W.nx (W.go (2 * i) s0) = some s'
            cases c : W.nx (W.go (2 * i) s0) with
            | some s' => exact ⟨s', rfl⟩
            | none =>
              rw [hist_held W c] at e2
              have e2 : tf2.length = 0 := e2
              omega
        have nx_n : W.nx (W.go (2 * i + dn) s0) = none := by
          rw [(go_sum W (2 * i) dn s0).1]
          cases c : W.nx (W.go (2 * i) s0) with
          | none => rw [go_held W c]; exact c
          | some s' =>
            rw [hist_succ W c] at e2
            cases c2 : W.nx s' with
            | none =>
              rw [hist_held W c2] at e2
              have e2 : tf2.length = 1 := e2
              have : dn = 1 := by omega
              rw [this, go_succ W c]; exact c2
            | some s'' =>
              rw [hist_succ W c2] at e2
              have e2 : tf2.length = 2 := e2
              omega
        have go_n : W.go (2 * i + 2) s0 = W.go (2 * i + dn) s0 := by
          rw [show 2 * i + 2 = (2 * i + dn) + (2 - dn) by omega, (go_sum W (2 * i + dn) (2 - dn) s0).1, go_held W nx_n]
        rw [go_n] at R3'
        have frB : (W.nx (W.go (2 * i + dn) s0) = none ∧ m.toNat < 2 * i + dn) ∨ (∃ s', W.nx (W.go (2 * i + dn) s0) = some s') → FR W s0 m.toNat [.str "open", .int ((m.toNat : Nat) : Int)] := fun h => by
          rcases h with ⟨_, c⟩ | ⟨s', hs⟩
          · exact .inr (.inr ⟨on_le on_n (by omega), fun a b hab hb => unlike_held on_n nx_n a b hab (by omega), rfl⟩)
          · rw [nx_n] at hs; cases hs
        rw [show (((2 * i : Nat) : Int) + (tf2.length : Int)) = ((2 * i + dn : Nat) : Int) by omega]
        have hh : Has _ (yL t.c_Yard Bf yf2 ++ ((trK W (tf ++ tf2) ++ (yL t.c_Yard Bs ys ++ trK W ts)) ++ (yL t.c_Yard A y ++ L))) := (by rw [List.append_assoc (trK W (tf ++ tf2))]; exact h3)
        refine ⟨_, rfl, Bf, yf2, _, W, W.go (2 * i + dn) s0, rfl, hh, R3', ((PL.go' _).app _).app _, fun H9 h9 => ?_⟩
        have fin : ∀ (H' : Hp) (p : Addr) (xs : List V), FR W s0 m.toNat xs → Has H' ((p, HO.tup xs) :: (yL t.c_Yard Bf yf2 ++ ((trK W (tf ++ tf2) ++ (yL t.c_Yard Bs ys ++ trK W ts)) ++ (yL t.c_Yard A y ++ L)))) → Q (.ref p) H' := fun H' p xs f h => q H' p xs f (Has.sub h (List.Sublist.cons₂ _ (List.Sublist.trans (List.sublist_append_right _ _) (List.sublist_append_right _ _))))
        refine ⟨_, rfl, rfl, _, rfl, ?_⟩
        cases hw : W.nx (W.go (2 * i + dn) s0) with
        | some s' =>
          rw [why_on hw]
          refine ifF rfl (iteF ?_)
          refine ⟨_, rfl, (show 2 ≤ sizeLine by decide), fun p hp => fin _ p _ (frB (.inr ⟨s', hw⟩)) (h9.alloc hp _)⟩
        | none =>
          obtain ⟨x, hx⟩ : ∃ x, W.why (W.go (2 * i + dn) s0) = .str x := by
            rcases why_cases W (W.go (2 * i + dn) s0) (fun z hz => (R3').eo z hz) with e | ⟨x, e⟩
            · exfalso
              rcases (why_none_iff (w := W) (s := W.go (2 * i + dn) s0) (fun z hz => (R3').eo z hz)).mp e with ⟨s', hs⟩
              rw [hw] at hs; cases hs
            · exact ⟨x, e⟩
          rw [hx]
          refine ifT rfl ?_
          refine ⟨_, rfl, _, rfl, _, _, rfl, rfl, _, rfl, ifd (fun c => ?_) (fun c => ?_)⟩
          · refine ⟨_, rfl, _, rfl, (show 3 ≤ sizeLine by decide), fun p hp => fin _ p _ (.inl ⟨2 * i + dn, by omega, on_n, hw, by rw [hx]⟩) (h9.alloc hp _)⟩
          · refine ⟨_, rfl, (show 2 ≤ sizeLine by decide), fun p hp => fin _ p _ (frB (.inl ⟨hw, by omega⟩)) (h9.alloc hp _)⟩
    · have hge : ¬ (i : Int) < ((m.toNat : Nat) : Int) := of_decide_eq_false hc
      have ei : i = m.toNat := by omega
      have on_n := on
      have frB : (W.nx (W.go (2 * i) s0) = none ∧ m.toNat < 2 * i) ∨ (∃ s', W.nx (W.go (2 * i) s0) = some s') → FR W s0 m.toNat [.str "open", .int ((m.toNat : Nat) : Int)] := fun h => by
        refine .inr (.inr ⟨?_, unlike_far (fun k k1 k2 => nk k k1 (by omega)), rfl⟩)
        rcases h with ⟨_, c⟩ | ⟨s', hs⟩
        · exact on_le on (by omega)
        · refine on_of fun k hk => ?_
          by_cases c : k < 2 * i
          · exact on_nx on c
          · have : k = 2 * i := by omega
            rw [this]; exact ⟨s', hs⟩
      have hh : Has _ (yL t.c_Yard Bf yf ++ ((trK W tf ++ (yL t.c_Yard Bs ys ++ trK W ts)) ++ (yL t.c_Yard A y ++ L))) := (by rw [List.append_assoc (trK W tf)]; exact h2)
      refine ⟨_, rfl, Bf, yf, _, W, W.go (2 * i) s0, rfl, hh, Rf, ((PL.go' _).app _).app _, fun H9 h9 => ?_⟩
      have fin : ∀ (H' : Hp) (p : Addr) (xs : List V), FR W s0 m.toNat xs → Has H' ((p, HO.tup xs) :: (yL t.c_Yard Bf yf ++ ((trK W tf ++ (yL t.c_Yard Bs ys ++ trK W ts)) ++ (yL t.c_Yard A y ++ L)))) → Q (.ref p) H' := fun H' p xs f h => q H' p xs f (Has.sub h (List.Sublist.cons₂ _ (List.Sublist.trans (List.sublist_append_right _ _) (List.sublist_append_right _ _))))
      refine ⟨_, rfl, rfl, _, rfl, ?_⟩
      cases hw : W.nx (W.go (2 * i) s0) with
      | some s' =>
        rw [why_on hw]
        refine ifF rfl (iteF ?_)
        refine ⟨_, rfl, (show 2 ≤ sizeLine by decide), fun p hp => fin _ p _ (frB (.inr ⟨s', hw⟩)) (h9.alloc hp _)⟩
      | none =>
        obtain ⟨x, hx⟩ : ∃ x, W.why (W.go (2 * i) s0) = .str x := by
          rcases why_cases W (W.go (2 * i) s0) (fun z hz => (Rf).eo z hz) with e | ⟨x, e⟩
          · exfalso
            rcases (why_none_iff (w := W) (s := W.go (2 * i) s0) (fun z hz => (Rf).eo z hz)).mp e with ⟨s', hs⟩
            rw [hw] at hs; cases hs
          · exact ⟨x, e⟩
        rw [hx]
        refine ifT rfl ?_
        refine ⟨_, rfl, _, rfl, _, _, rfl, rfl, _, rfl, ifd (fun c => ?_) (fun c => ?_)⟩
        · refine ⟨_, rfl, _, rfl, (show 3 ≤ sizeLine by decide), fun p hp => fin _ p _ (.inl ⟨2 * i, by omega, on_n, hw, by rw [hx]⟩) (h9.alloc hp _)⟩
        · refine ⟨_, rfl, (show 2 ≤ sizeLine by decide), fun p hp => fin _ p _ (frB (.inl ⟨hw, by omega⟩)) (h9.alloc hp _)⟩
end

end P


set_option Elab.async false
set_option linter.all false
set_option maxRecDepth 100000
set_option maxHeartbeats 4000000
namespace P
open PySem L2

def NT (z : Addr × HO) : Prop := ∀ ps, z.2 ≠ .tbl ps
theorem hcast {H : Hp} {L L' : Kn} (h : Has H L) (e : L = L') : Has H L' := e ▸ h
theorem sz {n : Nat} (h : n ≤ 1000000) : n ≤ sizeLine := Nat.le_of_lt (sizeOk h)
theorem has_mid {H : Hp} {Z X Y R : Kn} (h : Has H (Z ++ (X ++ (Y ++ R)))) : Has H (Z ++ (Y ++ (X ++ R))) := h.perm (List.Perm.append_left Z (by rw [← List.append_assoc, ← List.append_assoc]; exact List.perm_append_comm.append_right R))
def Stb (K : PySem.W.Frag) (M : Kn) (d : PyData) (v : V) : Prop := ∀ H : Hp, (∀ z ∈ M, NT z → H z.1 = some z.2) → DV K H d v
def Stbs (K : PySem.W.Frag) (M : Kn) (ds : List PyData) (vs : List V) : Prop := ∀ H : Hp, (∀ z ∈ M, NT z → H z.1 = some z.2) → DVs K H ds vs
theorem DVs.app {K : PySem.W.Frag} {H : Hp} : ∀ {ds : List PyData} {vs : List V} {d : PyData} {v : V}, DVs K H ds vs → DV K H d v → DVs K H (ds ++ [d]) (vs ++ [v])
  | [], vs, d, v, h, h2 => by
    have e : vs = [] := by unfold DVs at h; exact h
    subst e
    show DVs K H [d] [v]
    unfold DVs
    exact ⟨v, [], rfl, h2, by unfold DVs; rfl⟩
  | d0 :: ds, vs, d, v, h, h2 => by
    unfold DVs at h
    obtain ⟨v0, r, rfl, h3, h4⟩ := h
    show DVs K H (d0 :: (ds ++ [d])) (v0 :: (r ++ [v]))
    unfold DVs
    exact ⟨v0, _, rfl, h3, DVs.app h4 h2⟩
theorem Stbs.snoc {K : PySem.W.Frag} {M : Kn} {ds : List PyData} {vs : List V} {d : PyData} {v : V} (h : Stbs K M ds vs) (h2 : Stb K M d v) : Stbs K M (ds ++ [d]) (vs ++ [v]) := fun H hM => DVs.app (h H hM) (h2 H hM)
theorem Stbs.nil {K : PySem.W.Frag} {M : Kn} : Stbs K M [] [] := fun H _ => by unfold DVs; rfl
theorem Stb.mono {K : PySem.W.Frag} {M M' : Kn} {d : PyData} {v : V} (h : Stb K M d v) (s : ∀ z ∈ M, NT z → z ∈ M') : Stb K M' d v := fun H hM => h H fun z hz nt => hM z (s z hz nt) nt
theorem Stbs.mono {K : PySem.W.Frag} {M M' : Kn} {ds : List PyData} {vs : List V} (h : Stbs K M ds vs) (s : ∀ z ∈ M, NT z → z ∈ M') : Stbs K M' ds vs := fun H hM => h H fun z hz nt => hM z (s z hz nt) nt
theorem Stb.int {K : PySem.W.Frag} {M : Kn} (i : Int) : Stb K M (.int i) (.int i) := fun H _ => by unfold DV; rfl
theorem Stb.str {K : PySem.W.Frag} {M : Kn} (x : Str) : Stb K M (.str x) (.str x) := fun H _ => by unfold DV; rfl
theorem Stb.lst {K : PySem.W.Frag} {M : Kn} {l : Addr} {vs : List V} {ds : List PyData} (m : (l, HO.lst vs) ∈ M) (h : Stbs K M ds vs) : Stb K M (.list ds) (.ref l) := fun H hM => by
  unfold DV
  exact ⟨l, vs, rfl, SqL.of (hM _ m (fun _ e => nomatch e)), h H hM⟩
theorem Stbs.ints {K : PySem.W.Frag} {M : Kn} (ns : List Int) : Stbs K M (ns.map PyData.int) (ns.map V.int) := fun H _ => DVs.map _ _ _ fun x _ => by unfold DV; rfl
def endD : Option En → PyData
  | none => .none
  | some z => .tuple [.int z.2.1, .int z.2.2]
theorem Stb.en {K : PySem.W.Frag} {M : Kn} {u : Option En} (h : ∀ z, u = some z → (z.1, HO.tup [.int z.2.1, .int z.2.2]) ∈ M) : Stb K M (endD u) (enV u) := fun H hM => by
  cases u with
  | none => show DV K H .none .non; unfold DV; rfl
  | some z =>
    show DV K H (.tuple [.int z.2.1, .int z.2.2]) (.ref z.1)
    unfold DV
    refine ⟨z.1, _, rfl, SqT.of (hM _ (h z rfl) (fun _ e => nomatch e)), ?_⟩
    exact DVs.map PyData.int V.int [z.2.1, z.2.2] fun x _ => by unfold DV; rfl

def standD (s : Sd) : PyData := .list [endD s.at_, .list (s.ss.map .int)]
theorem endD_lay (u : Option En) : (endD u).canLay0 = true ∧ (endD u).depth ≤ 2 := by cases u <;> simp [endD, PyData.canLay0, PyData.canLayAll0, PyData.depth, PyData.depthAll]
theorem canLayAll_of : ∀ (l : List PyData), (∀ x ∈ l, x.canLay0 = true) → PyData.canLayAll0 l = true
  | [], _ => rfl
  | x :: l, h => by rw [PyData.canLayAll0, h x List.mem_cons_self, canLayAll_of l fun y hy => h y (List.mem_cons_of_mem _ hy)]; rfl
theorem depthAll_of (n : Nat) : ∀ (l : List PyData), (∀ x ∈ l, x.depth ≤ n) → PyData.depthAll l ≤ n
  | [], _ => Nat.zero_le _
  | x :: l, h => by
    rw [PyData.depthAll]
    exact Nat.max_le.mpr ⟨h x List.mem_cons_self, depthAll_of n l fun y hy => h y (List.mem_cons_of_mem _ hy)⟩
theorem intsLay (ns : List Int) : (PyData.list (ns.map .int)).canLay0 = true ∧ (PyData.list (ns.map .int)).depth ≤ 2 := by
  constructor
  · rw [PyData.canLay0]; exact canLayAll_map _ _ fun x _ => by simp [PyData.canLay0]
  · rw [PyData.depth]
    have := depthAll_map PyData.int 1 ns (fun x _ => by simp [PyData.depth])
    omega
theorem stand_lay (s : Sd) : (standD s).canLay0 = true ∧ (standD s).depth ≤ 3 := by
  have a := endD_lay s.at_
  have b := intsLay s.ss
  have h : ∀ x ∈ [endD s.at_, PyData.list (s.ss.map .int)], x.canLay0 = true ∧ x.depth ≤ 2 := fun x hx => by
    simp only [List.mem_cons, List.not_mem_nil, or_false] at hx
    rcases hx with rfl | rfl
    · exact a
    · exact b
  constructor
  · unfold standD; rw [PyData.canLay0]; exact canLayAll_of _ fun x hx => (h x hx).1
  · unfold standD; rw [PyData.depth]
    have := depthAll_of 2 _ fun x hx => (h x hx).2
    omega
theorem stands_sh (l : List Sd) : SeqAt.shaped (.list (l.map standD)) = true := by
  refine shaped_of ?_ ?_
  · rw [PyData.canLay0]; exact canLayAll_map _ _ fun x _ => (stand_lay x).1
  · rw [PyData.depth]
    have := depthAll_map standD 3 l (fun x _ => (stand_lay x).2)
    omega
theorem stand_sh (s : Sd) : SeqAt.shaped (standD s) = true := shaped_of (stand_lay s).1 (by have := (stand_lay s).2; omega)
theorem eqv_ints : ∀ (xs ys : List Int), PyData.eqvAll (xs.map .int) (ys.map .int) = decide (xs = ys)
  | [], [] => rfl
  | [], _ :: _ => rfl
  | _ :: _, [] => rfl
  | x :: xs, y :: ys => by
    rw [List.map_cons, List.map_cons, PyData.eqvAll, eqv_ints xs ys]
    by_cases c : x = y
    · subst c; simp [PyData.eqv]
    · simp [PyData.eqv, c]
theorem eqv_end (a b : Option En) : PyData.eqv (endD a) (endD b) = decide (a.map (·.2) = b.map (·.2)) := by
  cases a with
  | none => cases b with
    | none => rfl
    | some z => rfl
  | some u => cases b with
    | none => rfl
    | some z =>
      unfold endD
      have := eqv_ints [u.2.1, u.2.2] [z.2.1, z.2.2]
      rw [PyData.eqv]
      refine Eq.trans this ?_
      refine decide_eq_decide.mpr ⟨fun h => ?_, fun h => ?_⟩
      · injection h with h1 h2
        injection h2 with h2 _
        exact congrArg some (Prod.ext h1 h2)
      · have e : u.2 = z.2 := Option.some.inj h
        rw [e]
theorem eqv_stand {s t : Sd} : PyData.eqv (standD s) (standD t) = true ↔ Lk s t := by
  unfold standD
  rw [PyData.eqv, PyData.eqvAll, PyData.eqvAll, PyData.eqvAll, eqv_end, PyData.eqv, eqv_ints]
  simp only [Bool.and_eq_true, decide_eq_true_eq, and_true]
  exact ⟨fun ⟨a, b⟩ => ⟨b, a⟩, fun h => ⟨h.a, h.s⟩⟩
theorem any_none {l : List Sd} {s : Sd} (h : ∀ x ∈ l, ¬ Lk x s) : (l.map standD).any (fun y => PyData.eqv y (standD s)) = false := by
  rw [List.any_eq_false]
  intro d hd
  obtain ⟨x, hx, rfl⟩ := List.mem_map.mp hd
  exact fun e => h x hx (eqv_stand.mp e)
def sp_stand (K : PySem.W.Frag) (C : Addr) : Sp := fun vs H Q _ => ∃ (A : YA) (y : YR) (L M : Kn) (w : Wd) (s : Sd), vs = [.ref A.p] ∧ Has H (yL C A y ++ L) ∧ Rep w s y ∧ Pool w s M ∧ Small y ∧
  ∀ H' l N, Stb K (N ++ M) (standD s) (.ref l) → Has H' (yL C A y ++ (N ++ L)) → Q (.ref l) H'
theorem intsV_eq (n : Nat) : intsV n = ((List.range n).map fun i : Nat => (i : Int)).map V.int := by
  unfold intsV; rw [List.map_map]; rfl
section
variable {P : Program} {w : World} {K : PySem.W.Frag} {mg : Str → Option Value} {base : Heap} {t : Adr}
theorem scSn : FnScope ["_law_yard"] ["_law_yard"] (defScope s_stand) := ⟨rfl, rfl, rfl, by decide +kernel, rfl, by decide +kernel, by decide +kernel⟩
theorem ok_stand (T : Txt K mg t) : FnOk P w K mg base CX0 4 t.f_stand t.d_stand ["_law_yard"] (sp_stand K t.c_Yard) := by
  refine T.F_stand.ok scSn (fun vs H Q E h => ?_) (fun cdv A outer s H vs Q E hr h => ?_)
  · obtain ⟨_, _, _, _, _, _, rfl, _⟩ := h
    rfl
  · obtain ⟨A, y, L, M, W, sd, rfl, hH, R, PL, sm, q⟩ := h
    refine ⟨_, (pss_one (ps_ret (pe_lst (pa_cons (pe_meth0 (pv 0) T.cl_Yard T.M_Yard_engine (ok_Yard_engine T) (hr.mono (by decide)) (b_Yard_engine T) .nil pass0) (pa_cons (pe_lc (esc := defScope s_stand) (k := 1) ["_law_bar", "_law_yard"] rfl (pi_list (pe_meth0 (pv 0) T.cl_Yard T.M_Yard_rods (ok_Yard_rods T) (hr.mono (by decide)) (b_Yard_rods T) .nil pass0)) (fun _ _ _ _ _ => by exact (pg_name (i := 0) (show List.Nodup (["_law_bar", "_law_yard"] : List Str) from by decide +kernel) rfl (Or.inl rfl))) (fun _ _ _ _ _ => by exact pts_nil) (fun _ _ _ _ _ => by exact (pe_meth (pv 1) T.cl_Yard T.M_Yard_side (ok_Yard_side T) (hr.mono (by decide)) (b_Yard_side T) .nil pass0 (pa_cons (pv 0) pa_nil))) rfl (by decide +kernel) (by decide +kernel) rfl (by decide +kernel) (by rfl) (fun _ _ h _ => h) (by decide +kernel)) pa_nil))))), ?_⟩
    rw [show L2.start ["_law_yard"] [V.ref A.p] = ([some (V.ref A.p)] : St) from rfl]
    have sl : sd.ss.length ≤ 10000 := by have := sm.s; rw [R.sd, List.length_map] at this; exact this
    refine ⟨_, rfl, A.p, A.dx, _, rfl, hH.get 1 rfl, (fl_m4 _ _ _).2.2.2.2.2.2.1, A, y, _, rfl, hH, ?_⟩
    refine ⟨_, rfl, A.p, A.dx, _, rfl, hH.get 1 rfl, (fl_m _ _ _).2.2.2.1, A, y, _, rfl, hH, sm, fun H1 rl h1 => ?_⟩
    have eI : intsV y.sides.length = ((List.range sd.ss.length).map fun i : Nat => (i : Int)).map V.int := by rw [R.sd, List.length_map]; exact intsV_eq _
    rw [eI] at h1
    have h2 := Has.comm (X := [_]) (Y := yL t.c_Yard A y) (R := L) h1
    obtain ⟨ids, eids⟩ : ∃ ids : List Int, ((List.range sd.ss.length).map fun i : Nat => (i : Int)) = ids := ⟨_, rfl⟩
    have idl : ids.length = sd.ss.length := by rw [← eids]; simp
    have idg : ∀ n (h : n < sd.ss.length), ids[n]? = some (n : Int) := fun n h => by rw [← eids]; simp [h]
    rw [eids] at h2
    clear h1 hH
    refine ⟨rl, rfl, ⟨_, SqL.of (h2.get 9 rfl)⟩, fun Dl hDl => ?_⟩
    refine ⟨fun n m zs H' => m = sd.ss.length - n ∧ n ≤ sd.ss.length ∧ zs = (sd.ss.take n).map V.int ∧ Has H' ((Dl, .lst zs) :: (yL t.c_Yard A y ++ ((rl, HO.lst (ids.map V.int)) :: L))), ⟨_, rfl, Nat.zero_le _, rfl, h2.alloc hDl _⟩, ?_⟩
    clear h2 hDl
    rintro n0 m zs H2 ⟨rfl, hn, rfl, h2⟩
    refine ⟨h2.get 0 rfl, ?_⟩
    have g0 := SqL.of (K := K) (h2.get 10 rfl)
    by_cases hlt : n0 < sd.ss.length
    · refine .inr ⟨⟨_, .int (n0 : Int), g0, by rw [List.getElem?_map, idg n0 hlt]; rfl⟩, ?_⟩
      rintro x H3 ⟨rfl, hx⟩
      have e1 := hx _ g0
      rw [List.getElem?_map, idg n0 hlt] at e1
      cases e1
      refine ⟨rfl, tTrueT ?_⟩
      have h3 := Has.comm (X := [_]) (Y := yL t.c_Yard A y) (R := (rl, HO.lst (ids.map V.int)) :: L) h2
      refine ⟨_, rfl, A.p, A.dx, _, rfl, h3.get 1 rfl, (fl_m _ _ _).2.2.2.2.2.1, _, rfl, A, y, _, (n0 : Int), .int sd.ss[n0], rfl, h3, by omega, (by rw [R.sd, Int.toNat_natCast, List.getElem?_map, List.getElem?_eq_getElem hlt]; rfl), ?_⟩
      refine ⟨sizeOk (by rw [List.length_map, List.length_take]; omega), h2.get 0 rfl, sd.ss.length - (n0 + 1), by omega, rfl, hlt, ?_, h2.puti 0 rfl _⟩
      rw [List.take_succ, List.getElem?_eq_getElem hlt, List.map_append]; rfl
    · have en : n0 = sd.ss.length := by omega
      subst en
      refine .inl ⟨⟨_, g0, by rw [List.length_map]; omega⟩, ?_⟩
      rw [List.take_length] at h2
      refine ⟨(show 2 ≤ sizeLine by decide), fun l hl => ?_⟩
      have h3 := h2.alloc hl (.lst [y.eng, .ref Dl])
      have h4 := Has.comm (X := [_, _]) (Y := yL t.c_Yard A y) (R := (rl, HO.lst (ids.map V.int)) :: L) h3
      refine q _ l [(l, HO.lst [y.eng, .ref Dl]), (Dl, HO.lst (sd.ss.map V.int)), (rl, HO.lst (ids.map V.int))] ?_ h4
      refine Stb.lst (vs := [y.eng, .ref Dl]) (by simp) ?_
      rw [R.en]
      have a1 := Stbs.nil.snoc (K := K) (Stb.en (M := [(l, HO.lst [y.eng, .ref Dl]), (Dl, HO.lst (sd.ss.map V.int)), (rl, HO.lst (ids.map V.int))] ++ M) (u := sd.at_) (fun z hz => by
        obtain ⟨j, hj⟩ := PL.e z hz
        exact List.mem_append_right _ (List.mem_of_getElem? hj)))
      rw [R.en] at a1
      exact a1.snoc (Stb.lst (l := Dl) (vs := sd.ss.map V.int) (by simp) (Stbs.ints sd.ss))
end

end P


set_option Elab.async false
set_option linter.all false
set_option maxRecDepth 100000
set_option maxHeartbeats 4000000
namespace P
open PySem L2

def sp_law (K : PySem.W.Frag) : Sp := fun vs H Q _ => ∃ (a : Addr) (ns : List Int), vs = [.ref a] ∧ SqL K H a (ns.map V.int) ∧ ns.length ≤ 63 ∧ ∀ H', Q (.bl true) H'
theorem law_binds {K : PySem.W.Frag} {mg : Str → Option Value} {t : Adr} (T : Txt K mg t) (s : Shared) (u : Value) : BindsTo s t.d_law ⟨[u], []⟩ [("_law_script", u)] := by
  obtain ⟨oc, od, kV, doc, pm, an, cdv, ct, osl, e, lk, hcd⟩ := T.F_law.ex
  rw [e, T.e_law]
  exact .of_eq rfl
theorem law_start {K : PySem.W.Frag} {H : Hp} {a : Addr} {ns : List Int} (hl : ns.length ≤ 63) (hS : SqL K H a (ns.map V.int)) {E : XK} : sp_law K [.ref a] H (fun v _ => v = .bl true) E := ⟨a, ns, rfl, hS, hl, fun _ => rfl⟩

theorem cut_last (xs : List V) (v : V) : cutV (xs ++ [v]) none (some (-1)) = xs := by
  have hl : (xs ++ [v]).length = xs.length + 1 := by simp
  unfold cutV
  rw [hl]
  have e1 : HT.sIx (xs.length + 1) 0 none = 0 := rfl
  have e2 : HT.sIx (xs.length + 1) (xs.length + 1) (some (-1)) = xs.length := by
    unfold HT.sIx
    simp
    omega
  rw [e1, e2, List.drop_zero, Nat.sub_zero]
  simp
def stL (W : Wd) (s : Sd) (n : Nat) : List Sd := (List.range n).map fun k => W.go k s
theorem stL_succ (W : Wd) (s : Sd) (n : Nat) : stL W s (n + 1) = stL W s n ++ [W.go n s] := by unfold stL; rw [List.range_succ, List.map_append]; rfl
theorem stL_len (W : Wd) (s : Sd) (n : Nat) : (stL W s n).length = n := by unfold stL; simp
theorem stL_take {W : Wd} {s : Sd} {k n : Nat} (h : k ≤ n) : (stL W s n).take k = stL W s k := by
  unfold stL
  rw [← List.map_take, List.take_range, Nat.min_eq_left h]
theorem DVs.take {K : PySem.W.Frag} {H : Hp} : ∀ {ds : List PyData} {vs : List V} (n : Nat), DVs K H ds vs → DVs K H (ds.take n) (vs.take n)
  | _, _, 0, _ => by rw [List.take_zero, List.take_zero]; unfold DVs; rfl
  | [], vs, n + 1, h => by
    have e : vs = [] := by unfold DVs at h; exact h
    subst e
    rw [List.take_nil, List.take_nil]; unfold DVs; rfl
  | d :: ds, vs, n + 1, h => by
    unfold DVs at h
    obtain ⟨v, r, rfl, h1, h2⟩ := h
    rw [List.take_succ_cons, List.take_succ_cons]
    unfold DVs
    exact ⟨v, _, rfl, h1, DVs.take n h2⟩
theorem DVs.len {K : PySem.W.Frag} {H : Hp} : ∀ {ds : List PyData} {vs : List V}, DVs K H ds vs → vs.length = ds.length
  | [], vs, h => by unfold DVs at h; rw [h]; rfl
  | d :: ds, vs, h => by
    unfold DVs at h
    obtain ⟨v, r, rfl, _, h2⟩ := h
    rw [List.length_cons, List.length_cons, DVs.len h2]
theorem DVs.get {K : PySem.W.Frag} {H : Hp} : ∀ {ds : List PyData} {vs : List V} {n : Nat} {d : PyData}, DVs K H ds vs → ds[n]? = some d → ∃ v, vs[n]? = some v ∧ DV K H d v
  | [], vs, n, d, h, e => by cases e
  | d0 :: ds, vs, 0, d, h, e => by
    unfold DVs at h
    obtain ⟨v, r, rfl, h1, _⟩ := h
    cases e
    exact ⟨v, rfl, h1⟩
  | d0 :: ds, vs, n + 1, d, h, e => by
    unfold DVs at h
    obtain ⟨v, r, rfl, _, h2⟩ := h
    obtain ⟨u, hu, du⟩ := DVs.get (n := n) h2 (by simpa using e)
    exact ⟨u, by simpa using hu, du⟩
section
variable {P : Program} {w : World} {K : PySem.W.Frag} {mg : Str → Option Value} {base : Heap} {t : Adr}
theorem scLa : FnScope ["_law_script", "_law_d", "_law_yard", "_law_most", "_law_found", "_law_steps", "_law_stands", "_law_turn"] ["_law_script"] (defScope s_law) := ⟨rfl, rfl, rfl, by decide +kernel, rfl, by decide +kernel, by decide +kernel⟩
theorem ok_law (T : Txt K mg t) : FnOk P w K mg base CX0 14 t.f_law t.d_law ["_law_script"] (sp_law K) := by
  refine T.F_law.ok scLa (fun vs H Q E h => ?_) (fun cdv A outer s H vs Q E hr h => ?_)
  · obtain ⟨_, _, rfl, _⟩ := h
    rfl
  · obtain ⟨a, ns0, rfl, hS, hns, q⟩ := h
    refine ⟨_, (pss_cons (ps_set (i := 1) scLa.nd rfl (Or.inl rfl) (pe_call (ok_draws T) (hr.mono (by decide)) (by rfl) T.m_draws T.F_draws.kp (b_draws T) .nil pass0 (pa_cons (pv 0) (pa_cons pe_int pa_nil))))
      (pss_cons (ps_set (i := 2) scLa.nd rfl (Or.inl rfl) (pe_ix ix_tup (pe_call (ok_set T) (hr.mono (by decide)) (by rfl) T.m_set T.F_set.kp (b_set T) .nil pass0 (pa_cons (pv 1) (pa_cons pe_int pa_nil))) pe_int (fun _ _ => rfl)))
      (pss_cons (ps_set (i := 3) scLa.nd rfl (Or.inl rfl) (pe_op op_mod (pe_ix ix_list (pv 1) pe_int (fun _ _ => rfl)) pe_int))
      (pss_cons (ps_set (i := 4) scLa.nd rfl (Or.inl rfl) (pe_call (ok_fate T) (hr.mono (by decide)) (by rfl) T.m_fate T.F_fate.kp (b_fate T) .nil pass0 (pa_cons (pv 2) (pa_cons (pv 3) pa_nil))))
      (pss_cons (ps_set (i := 5) scLa.nd rfl (Or.inl rfl) (pv 3))
      (pss_cons (ps_cut (ps_if (pt_cmpR op_eq (pe_ix ix_tup (pv 4) pe_int (fun _ _ => rfl)) pe_str (nomark _))
        (pss_one (ps_set (i := 5) scLa.nd rfl (Or.inl rfl) (pe_ix ix_tup (pv 4) pe_int (fun _ _ => rfl))))
        pss_nil))
      (pss_cons (ps_cut (ps_if (pt_cmpR op_eq (pe_ix ix_tup (pv 4) pe_int (fun _ _ => rfl)) pe_str (nomark _))
        (pss_one (ps_set (i := 5) scLa.nd rfl (Or.inl rfl) (pe_op op_add (pe_ix ix_tup (pv 4) pe_int (fun _ _ => rfl)) (pe_ix ix_tup (pv 4) pe_int (fun _ _ => rfl)))))
        pss_nil))
      (pss_cons (ps_set (i := 6) scLa.nd rfl (Or.inl rfl) (pe_lst (pa_cons (pe_call (ok_stand T) (hr.mono (by decide)) (by rfl) T.m_stand T.F_stand.kp (b_stand T) .nil pass0 (pa_cons (pv 2) pa_nil)) pa_nil)))
      (pss_cons (ps_cut (ps_if (pt_cmpR op_gt (pv 5) (pv 3) (nomark _))
        (pss_one (ps_ret pe_bl))
        pss_nil))
      (pss_cons (ps_for PassesOwn.never rfl (pi_range1 (by rfl) T.z_range (pa_cons (pv 5) pa_nil)) (pg_name (i := 7) scLa.nd rfl (Or.inl rfl))
        (pss_cons (ps_cut (ps_if (PW.pt (pw_or (pt_cmpR op_notN (pe_call (ok_held T) (hr.mono (by decide)) (by rfl) T.m_held T.F_held.kp (b_held T) .nil pass0 (pa_cons (pv 2) pa_nil)) pe_non (nomark _)) (pw_or1 (pt_cmpR (op_inD hr.units2) (pe_call (ok_stand T) (hr.mono (by decide)) (by rfl) T.m_stand T.F_stand.kp (b_stand T) .nil pass0 (pa_cons (pv 2) pa_nil)) (pe_slice sl_list (pv 6) po_none (po_some (pv 7))) (by rfl)))))
            (pss_one (ps_ret pe_bl))
            pss_nil))
          (pss_cons (ps_cut (ps_if (pt_not (pt_val (pe_call (ok_is T) (hr.mono (by decide)) (by rfl) T.m_is T.F_is.kp (b_is T) .nil pass0 (pa_cons (pe_call (ok_run T) (hr.mono (by decide)) (by rfl) T.m_run T.F_run.kp (b_run T) .nil pass0 (pa_cons (pv 2) (pa_cons pe_int pa_nil))) (pa_cons pe_int pa_nil)))))
            (pss_one (ps_ret pe_bl))
            pss_nil))
          (pss_one (ps_expr (pe_bm PySem.F.plainAttrs_list PySem.F.slot_list_append PySem.F.type_list_append mt_append (pv 6) (pa_cons (pe_call (ok_stand T) (hr.mono (by decide)) (by rfl) T.m_stand T.F_stand.kp (b_stand T) .nil pass0 (pa_cons (pv 2) pa_nil)) pa_nil)))))))
      (pss_cons (ps_cut (ps_if (pt_cmpR op_eq (pe_ix ix_tup (pv 4) pe_int (fun _ _ => rfl)) pe_str (nomark _))
        (pss_one (ps_ret (pe_and (pe_cmpR op_notN (pe_call (ok_held T) (hr.mono (by decide)) (by rfl) T.m_held T.F_held.kp (b_held T) .nil pass0 (pa_cons (pv 2) pa_nil)) pe_non (nomark _)) (pe_and (pe_cmpR op_eq (pe_call (ok_held T) (hr.mono (by decide)) (by rfl) T.m_held T.F_held.kp (b_held T) .nil pass0 (pa_cons (pv 2) pa_nil)) (pe_ix ix_tup (pv 4) pe_int (fun _ _ => rfl)) (nomark _)) (pe_one (pe_cmpR (op_notInD hr.units2) (pe_ix ix_list (pv 6) (pe_un un_neg pe_int) (fun _ _ => rfl)) (pe_slice sl_list (pv 6) po_none (po_some (pe_un un_neg pe_int))) (by rfl)))))))
        pss_nil))
      (pss_cons (ps_cut (ps_if (pt_cmpR op_eq (pe_ix ix_tup (pv 4) pe_int (fun _ _ => rfl)) pe_str (nomark _))
        (pss_one (ps_ret (pe_and (pe_cmpR op_isN (pe_call (ok_held T) (hr.mono (by decide)) (by rfl) T.m_held T.F_held.kp (b_held T) .nil pass0 (pa_cons (pv 2) pa_nil)) pe_non (nomark _)) (pe_one (pe_cmpR (op_notInD hr.units2) (pe_ix ix_list (pv 6) (pe_un un_neg pe_int) (fun _ _ => rfl)) (pe_slice sl_list (pv 6) po_none (po_some (pe_un un_neg pe_int))) (by rfl))))))
        pss_nil))
      (pss_cons (ps_cut (ps_if (PW.pt (pw_or (pt_cmpR op_ne (pe_ix ix_tup (pv 4) pe_int (fun _ _ => rfl)) pe_str (nomark _)) (pw_or (pt_cmpR (op_neD hr.units) (pe_ix ix_list (pv 6) (pe_un un_neg pe_int) (fun _ _ => rfl)) (pe_ix ix_list (pv 6) (pe_ix ix_tup (pv 4) pe_int (fun _ _ => rfl)) (fun _ _ => rfl)) (nomark _)) (pw_or1 (pt_cmpR op_lt (pe_ix ix_tup (pv 4) pe_int (fun _ _ => rfl)) pe_int (nomark _))))))
        (pss_one (ps_ret pe_bl))
        pss_nil))
      (pss_one (ps_ret (pe_and (pe_call (ok_is T) (hr.mono (by decide)) (by rfl) T.m_is T.F_is.kp (b_is T) .nil pass0 (pa_cons (pe_call (ok_run T) (hr.mono (by decide)) (by rfl) T.m_run T.F_run.kp (b_run T) .nil pass0 (pa_cons (pv 2) (pa_cons (pe_ix ix_tup (pv 4) pe_int (fun _ _ => rfl)) pa_nil))) (pa_cons (pe_ix ix_tup (pv 4) pe_int (fun _ _ => rfl)) pa_nil))) (pe_one (pe_cmpR (op_eqD hr.units) (pe_call (ok_stand T) (hr.mono (by decide)) (by rfl) T.m_stand T.F_stand.kp (b_stand T) .nil pass0 (pa_cons (pv 2) pa_nil)) (pe_ix ix_list (pv 6) (pe_ix ix_tup (pv 4) pe_int (fun _ _ => rfl)) (fun _ _ => rfl)) (nomark _))))))))))))))))))), ?_⟩
    rw [show L2.start ["_law_script", "_law_d", "_law_yard", "_law_most", "_law_found", "_law_steps", "_law_stands", "_law_turn"] [V.ref a] = ([some (V.ref a), none, none, none, none, none, none, none] : St) from rfl]
    refine ⟨_, rfl, a, ns0, 200, [], rfl, hS, hns, by decide, by decide, Has.nil, fun H1 d ds h1 hds hdr => ?_⟩
    clear hS hns hdr
    have hds : ds.length = 200 := hds
    dsimp only [List.set]
    refine ⟨_, rfl, d, ds, 3, _, 0, rfl, h1, rfl, by decide, by omega, fun H2 tp A y ks ns rs ss es m z sd mh rr nn kk S h2 => ?_⟩
    refine ⟨tp, _, _, _, rfl, rfl, SqT.of (h2.get 0 rfl), rfl, ?_⟩
    replace h2 := h2.tail
    clear h1
    dsimp only [List.set]
    obtain ⟨L, eL⟩ : ∃ L : Kn, (sd, HO.lst (ss.map V.int)) :: (mh, HO.dT m) :: (rr, HO.lst (rs.map V.int)) :: (nn, HO.lst (ns.map V.int)) :: (kk, HO.lst (ksV ks)) :: (esK es ++ [(d, HO.lst (ds.map V.int))]) = L := ⟨_, rfl⟩
    have md : (d, HO.lst (ds.map V.int)) ∈ L := by rw [← eL]; simp
    have mes : ∀ x ∈ es, (x.1, HO.tup [.int x.2.1, .int x.2.2]) ∈ L := fun x hx => by
      have : (x.1, HO.tup [.int x.2.1, .int x.2.2]) ∈ esK es := List.mem_map.mpr ⟨x, hx, rfl⟩
      rw [← eL]; simp [this]
    rw [eL] at h2
    clear eL
    obtain ⟨W, eW⟩ : ∃ W, wOf ks ns rs es m = W := ⟨_, rfl⟩
    have R := S.R
    rw [eW] at R
    have PL : Pool W ⟨ss, some z, []⟩ L := ⟨fun n e u h => List.mem_iff_getElem?.mp (mes u (by rw [← eW] at h; exact mfOf_mem h)), fun u hu => by cases hu; exact List.mem_iff_getElem?.mp (mes z S.zi)⟩
    obtain ⟨s0, es0⟩ : ∃ s0 : Sd, (⟨ss, some z, []⟩ : Sd) = s0 := ⟨_, rfl⟩
    have at0 : s0.at_ ≠ none := by rw [← es0]; exact fun h => nomatch h
    have rg0 : s0.rg = [] := by rw [← es0]
    have ssl0 : s0.ss.length ≤ 24 := by rw [← es0]; exact S.sl
    rw [es0] at R PL
    have ek : EK y.mates := by
      rw [S.mt]
      intro k hk
      obtain ⟨p, hp, rfl⟩ := S.mks k hk
      obtain ⟨n, e, hn, he, ee⟩ := ek_end (ks := ks) (by have := S.k24; omega) hp
      exact ⟨n, e, hn, he, ee⟩
    have tl0 : y.trail = [] := S.tl
    have gl : y.kinds.length ≤ 24 ∧ y.notes.length ≤ 24 ∧ y.rods.length ≤ 24 ∧ y.mates.length ≤ 80 := ⟨by rw [S.kd, kvOf_length]; exact S.k24, S.nlen, S.rlen, by rw [S.mt]; exact S.ml⟩
    clear S es0 eW
    obtain ⟨lim, elim⟩ : ∃ lim : Nat, ds.getD (0 : Int).toNat 0 % 100 = lim := by
      have := Int.emod_nonneg (ds.getD (0 : Int).toNat 0) (show (100 : Int) ≠ 0 by decide)
      exact ⟨(ds.getD (0 : Int).toNat 0 % 100).toNat, by omega⟩
    have l100 : lim < 100 := by have := Int.emod_lt_of_pos (ds.getD (0 : Int).toNat 0) (show (0 : Int) < 100 by decide); omega
    refine ⟨_, rfl, d, _, _, _, rfl, rfl, SqL.of (h2.at_ _ (List.mem_append_right _ md)), atD (by omega) (by omega), _, _, rfl, rfl, (show (0 : Int) < 100 by decide), ?_⟩
    dsimp only [List.set]
    rw [elim]
    refine ⟨_, rfl, _, rfl, A, y, L, W, s0, lim, rfl, h2, R, PL, ek, by omega, by rw [rg0]; exact Nat.zero_le _, at0, fun H3 fp xs fr h3 => ?_⟩
    rw [Int.toNat_natCast] at fr
    dsimp only [List.set]
    have h4 := Has.comm (X := [_]) (Y := yL t.c_Yard A y) (R := L) h3
    clear h2 h3 ek
    refine ⟨_, rfl, ?_⟩
    dsimp only [List.set]
    have two : 2 ≤ sizeLine := by decide
    obtain ⟨L0, eL0⟩ : ∃ L0 : Kn, [(fp, HO.tup xs)] ++ L = L0 := ⟨_, rfl⟩
    have mfp : (fp, HO.tup xs) ∈ L0 := by rw [← eL0]; exact List.mem_cons_self
    have upL : ∀ z ∈ L, z ∈ L0 := fun z hz => by rw [← eL0]; exact List.mem_cons_of_mem _ hz
    have PL0 : Pool W s0 L0 := by rw [← eL0]; exact PL.app _
    rw [eL0] at h4
    clear eL0 PL
    have gf : ∀ {H' : Hp} {X : Kn}, Has H' (X ++ L0) → SqT K H' fp xs := fun h => SqT.of (h.at_ _ (List.mem_append_right _ mfp))
    refine ⟨fun σ' H' => Has H' (yL t.c_Yard A y ++ L0) ∧ ((∃ n : Nat, σ' = [some (.ref a), some (.ref d), some (.ref A.p), some (.int lim), some (.ref fp), some (.int n), none, none] ∧ n ≤ lim ∧ (W.hist n s0).length = n ∧ W.nx (W.go n s0) = none ∧ xs = [.str "held", W.why (W.go n s0), .int n]) ∨
      (σ' = [some (.ref a), some (.ref d), some (.ref A.p), some (.int lim), some (.ref fp), some (.int lim), none, none] ∧ ((∃ mu lam, Cyc W s0 mu lam ∧ mu + lam ≤ lim ∧ xs = [.str "round", .int mu, .int lam]) ∨ ((W.hist (lim + 1) s0).length = lim + 1 ∧ (∀ i j, i < j → j ≤ lim → ¬ Lk (W.go i s0) (W.go j s0)) ∧ xs = [.str "open", .int lim])))), ?_, ?_⟩
    · rcases fr with ⟨n, n1, n2, n3, rfl⟩ | ⟨mu, lam, C, c, rfl⟩ | ⟨o1, o2, rfl⟩
      · refine ⟨_, rfl, fp, _, _, _, rfl, rfl, gf h4, rfl, rfl, _, rfl, ifT (by rfl) ?_⟩
        refine ⟨_, rfl, fp, _, _, _, rfl, rfl, gf h4, rfl, ?_⟩
        exact ⟨h4, .inl ⟨n, rfl, n1, n2, n3, rfl⟩⟩
      · exact ⟨_, rfl, fp, _, _, _, rfl, rfl, gf h4, rfl, rfl, _, rfl, ifF (by rfl) ⟨h4, .inr ⟨rfl, .inl ⟨mu, lam, C, c, rfl⟩⟩⟩⟩
      · exact ⟨_, rfl, fp, _, _, _, rfl, rfl, gf h4, rfl, rfl, _, rfl, ifF (by rfl) ⟨h4, .inr ⟨rfl, .inr ⟨o1, o2, rfl⟩⟩⟩⟩
    clear h4 fr
    rintro σ1 H4 ⟨h4, cs⟩
    refine ⟨fun σ' H' => Has H' (yL t.c_Yard A y ++ L0) ∧ ∃ n : Nat, σ' = [some (.ref a), some (.ref d), some (.ref A.p), some (.int lim), some (.ref fp), some (.int n), none, none] ∧ n ≤ lim ∧ (W.hist n s0).length = n ∧ (∀ i j, i < j → j < n → ¬ Lk (W.go i s0) (W.go j s0)) ∧
      ((W.nx (W.go n s0) = none ∧ xs = [.str "held", W.why (W.go n s0), .int n]) ∨ (∃ mu lam, n = mu + lam ∧ Cyc W s0 mu lam ∧ xs = [.str "round", .int mu, .int lam]) ∨ (n = lim ∧ (∃ s', W.nx (W.go n s0) = some s') ∧ (∀ i j, i < j → j ≤ n → ¬ Lk (W.go i s0) (W.go j s0)) ∧ xs = [.str "open", .int lim])), ?_, ?_⟩
    · rcases cs with ⟨n, rfl, n1, n2, n3, rfl⟩ | ⟨rfl, cs⟩
      · exact ⟨_, rfl, fp, _, _, _, rfl, rfl, gf h4, rfl, rfl, _, rfl, ifF (by rfl) ⟨h4, n, rfl, n1, n2, fun i j hij hj => unlike_held n2 n3 i j hij (by omega), .inl ⟨n3, rfl⟩⟩⟩
      · rcases cs with ⟨mu, lam, C, c, rfl⟩ | ⟨o1, o2, rfl⟩
        · refine ⟨_, rfl, fp, _, _, _, rfl, rfl, gf h4, rfl, rfl, _, rfl, ifT (by rfl) ?_⟩
          refine ⟨_, rfl, fp, _, _, _, rfl, rfl, gf h4, rfl, _, rfl, fp, _, _, _, rfl, rfl, gf h4, rfl, _, _, rfl, rfl, ?_⟩
          refine ⟨h4, mu + lam, rfl, c, C.on _, fun i j hij hj e => ?_, .inr (.inl ⟨mu, lam, rfl, C, rfl⟩)⟩
          obtain ⟨x, q', y'⟩ := (C.lk i j hij).mp e
          have : 1 ≤ q' := Nat.one_le_iff_ne_zero.mpr (fun z => by rw [z, Nat.mul_zero] at y'; omega)
          have : lam * 1 ≤ lam * q' := Nat.mul_le_mul_left lam this
          omega
        · exact ⟨_, rfl, fp, _, _, _, rfl, rfl, gf h4, rfl, rfl, _, rfl, ifF (by rfl) ⟨h4, lim, rfl, Nat.le_refl _, on_le o1 (by omega), fun i j hij hj => o2 i j hij (by omega), .inr (.inr ⟨rfl, on_nx o1 (by omega), o2, rfl⟩)⟩⟩
    clear h4 cs
    rintro σ1 H4 ⟨h4, n, rfl, nl, on, un, cs⟩
    have smG : ∀ {y1 : YR} {ts : List (Addr × Sd)} {i : Nat}, i ≤ 400 → Rep W (W.go i s0) y1 → y1.trail = trV ts → ts.length = i → y1.kinds = y.kinds → y1.notes = y.notes → y1.rods = y.rods → y1.mates = y.mates → Small y1 := fun {y1 ts i} hi R1 t1 l1 f2 f3 f4 f5 => by
      have r1 := go_rg_le W i s0
      rw [rg0] at r1
      exact ⟨by rw [f2]; omega, by rw [f3]; omega, by rw [f4]; omega, by rw [R1.sd, List.length_map, go_len]; omega, by rw [f5]; omega, by rw [R1.rg, List.length_map]; simp at r1; omega, by rw [t1]; unfold trV; rw [List.length_map]; omega⟩
    refine ⟨_, rfl, A, y, L0, L0, W, s0, rfl, h4, R, PL0, smG (ts := []) (Nat.zero_le _) R tl0 rfl rfl rfl rfl rfl, fun H5 l5 N5 S5 h5 => ?_⟩
    refine ⟨(show 1 ≤ sizeLine by decide), fun sl hsl => ?_⟩
    have h6 := Has.comm (X := [_]) (Y := yL t.c_Yard A y) (h5.alloc hsl (.lst [.ref l5]))
    dsimp only [List.set]
    refine ⟨_, ?_, fun _ _ h => h⟩
    refine ⟨_, rfl, _, rfl, _, _, rfl, rfl, _, rfl, ifF (decide_eq_false (by omega)) ?_⟩
    refine ⟨_, rfl, n, rfl, by omega, by omega, for_range (fun i σ H' => ∃ (y1 : YR) (ts : List (Addr × Sd)) (M : Kn) (vs : List V) (o1 : Option V), σ = [some (.ref a), some (.ref d), some (.ref A.p), some (.int lim), some (.ref fp), some (.int n), some (.ref sl), o1] ∧ Rep W (W.go i s0) y1 ∧ y1.trail = trV ts ∧ ts.length = i ∧ y1.kinds = y.kinds ∧ y1.notes = y.notes ∧ y1.rods = y.rods ∧ y1.mates = y.mates ∧
      Stbs K M ((stL W s0 (i + 1)).map standD) vs ∧ (∀ z ∈ L0, z ∈ M) ∧ Has H' (yL t.c_Yard A y1 ++ ((sl, HO.lst vs) :: (trK W ts ++ M)))) ⟨y, [], N5 ++ L0, [.ref l5], _, rfl, R, tl0, rfl, rfl, rfl, rfl, rfl, Stbs.nil.snoc S5, fun z hz => List.mem_append_right _ hz, h6⟩ ?_ ?_⟩
    · clear h6 h5 hsl S5 h4
      rintro i σ H6 hi ⟨y1, ts, M, vs, o1, rfl, R1, t1, l1, f2, f3, f4, f5, SV, mM, h6⟩
      have hin : i < n := by omega
      dsimp only [List.set]
      rw [Int.zero_add]
      have sm1 := smG (by omega) R1 t1 l1 f2 f3 f4 f5
      have P1 : Pool W (W.go i s0) M := ⟨fun n e u h => by obtain ⟨j, hj⟩ := (PL0.go' i).m n e u h; exact List.mem_iff_getElem?.mp (mM _ (List.mem_of_getElem? hj)), fun u hu => by obtain ⟨j, hj⟩ := (PL0.go' i).e u hu; exact List.mem_iff_getElem?.mp (mM _ (List.mem_of_getElem? hj))⟩
      have P1' : Pool W (W.go i s0) ((sl, HO.lst vs) :: (trK W ts ++ M)) := (P1.app (trK W ts)).app [_]
      obtain ⟨s', hs'⟩ := on_nx on hin
      have lv : vs.length = i + 1 := by
        have := DVs.len (SV H6 (fun z hz _ => h6.at_ z (by simp [hz])))
        rw [List.length_map, stL_len] at this; exact this
      refine ⟨_, ?_, fun _ _ h => h⟩
      refine ⟨_, rfl, A, y1, _, W, W.go i s0, rfl, h6, R1, P1', fun H7 h7 => ?_⟩
      rw [why_on hs']
      refine ⟨rfl, _, rfl, iteF ?_⟩
      clear h6
      refine ⟨_, rfl, A, y1, _, M, W, W.go i s0, rfl, h7, R1, P1, sm1, fun H8 l8 N8 S8 h8 => ?_⟩
      clear h7
      have h9 := hcast (has_mid (Z := yL t.c_Yard A y1) (X := N8) (Y := [(sl, HO.lst vs)]) (R := trK W ts ++ M) h8) (L' := yL t.c_Yard A y1 ++ ((sl, HO.lst vs) :: (N8 ++ (trK W ts ++ M)))) (by simp)
      refine ⟨_, rfl, _, rfl, _, rfl, sl, _, rfl, SqL.of (h9.get 9 rfl), fun p hp => ?_⟩
      rw [cut_take _ _ (by omega), Int.toNat_natCast]
      have h10 := h9.alloc hp (.lst (vs.take i))
      have inM : ∀ z ∈ M, upd H8 p (HO.lst (vs.take i)) z.1 = some z.2 := fun z hz => h10.at_ z (by simp [hz])
      have dvt : DV K (upd H8 p (HO.lst (vs.take i))) (.list ((stL W s0 i).map standD)) (.ref p) := by
        unfold DV
        refine ⟨p, _, rfl, SqL.of (h10.get 0 rfl), ?_⟩
        have := DVs.take i (SV _ (fun z hz _ => inM z hz))
        rw [← List.map_take, stL_take (by omega)] at this
        exact this
      refine ⟨standD (W.go i s0), (stL W s0 i).map standD, S8 _ (fun z hz _ => h10.at_ z ?_), dvt, stand_sh _, stands_sh _, ?_⟩
      · rcases List.mem_append.mp hz with hz | hz <;> simp [hz]
      rw [any_none (fun x hx => by
        unfold stL at hx
        obtain ⟨k, hk, rfl⟩ := List.mem_map.mp hx
        exact un k i (List.mem_range.mp hk) hin)]
      refine ⟨_, rfl, iteF ?_⟩
      have h11 := hcast (has_mid (Z := yL t.c_Yard A y1) (X := (sl, HO.lst vs) :: N8) (Y := trK W ts) (R := M) (hcast h10.tail (by simp))) (L' := yL t.c_Yard A y1 ++ (trK W ts ++ ((sl, HO.lst vs) :: (N8 ++ M)))) (by simp)
      generalize upd H8 p _ = H11 at h11 ⊢
      clear h10 h9 h8 dvt inM hp
      refine ⟨_, ?_, fun _ _ h => h⟩
      have r1 := go_rg_le W i s0
      rw [rg0] at r1
      have rl1 : y1.rung.length ≤ i := by rw [R1.rg, List.length_map]; simpa using r1
      refine ⟨_, rfl, A, y1, _, W, W.go i s0, ts, 1, rfl, h11, R1, (P1.app N8).app [_], t1, by omega, by omega, by omega, by omega, fun H12 y2 ts2 h12 R2 t2 m2 g1 g2 g3 g4 g5 P2 => ?_⟩
      have e1 : ts2.length = 1 := by
        have := congrArg List.length m2
        rw [List.length_map] at this
        rw [this]
        show (W.hist 1 (W.go i s0)).length = 1
        rw [hist_succ W hs']; rfl
      replace R2 : Rep W (W.go (i + 1) s0) y2 := by rw [(go_sum W i 1 s0).1]; exact R2
      refine ⟨_, _, rfl, ?_⟩
      rw [e1, decide_eq_true (show (((1 : Nat) : Int) = 1) from rfl)]
      refine ⟨_, rfl, iteF ?_⟩
      have l2 : (ts ++ ts2).length = i + 1 := by rw [List.length_append]; omega
      have h13 := hcast (has_mid (Z := yL t.c_Yard A y2) (X := trK W (ts ++ ts2)) (Y := [(sl, HO.lst vs)]) (R := N8 ++ M) (hcast h12 (by simp))) (L' := yL t.c_Yard A y2 ++ ((sl, HO.lst vs) :: (trK W (ts ++ ts2) ++ (N8 ++ M)))) (by simp)
      clear h12 h11
      have P2' : Pool W (W.go (i + 1) s0) M := ⟨fun n e u h => by obtain ⟨j, hj⟩ := (PL0.go' (i + 1)).m n e u h; exact List.mem_iff_getElem?.mp (mM _ (List.mem_of_getElem? hj)), fun u hu => by obtain ⟨j, hj⟩ := (PL0.go' (i + 1)).e u hu; exact List.mem_iff_getElem?.mp (mM _ (List.mem_of_getElem? hj))⟩
      have sm2 := smG (by omega) R2 t2 l2 (g2.trans f2) (g3.trans f3) (g4.trans f4) (g5.trans f5)
      refine ⟨_, rfl, .inl ⟨rfl, _, SqL.of (h13.get 9 rfl)⟩, _, rfl, A, y2, _, M, W, W.go (i + 1) s0, rfl, h13, R2, P2', sm2, fun H14 l14 N14 S14 h14 => ?_⟩
      have h15 := hcast (has_mid (Z := yL t.c_Yard A y2) (X := N14) (Y := (sl, HO.lst vs) :: trK W (ts ++ ts2)) (R := N8 ++ M) (hcast h14 (by simp))) (L' := yL t.c_Yard A y2 ++ ((sl, HO.lst vs) :: (trK W (ts ++ ts2) ++ (N14 ++ (N8 ++ M))))) (by simp)
      refine ⟨sl, _, _, rfl, rfl, h15.get 9 rfl, sizeOk (by omega), ?_⟩
      have h16 : Has _ (yL t.c_Yard A y2 ++ ((sl, HO.lst (vs ++ [.ref l14])) :: (trK W (ts ++ ts2) ++ (N14 ++ (N8 ++ M))))) := h15.puti 9 rfl (.lst (vs ++ [.ref l14]))
      refine ⟨y2, ts ++ ts2, N14 ++ (N8 ++ M), vs ++ [.ref l14], _, rfl, R2, t2, l2, g2.trans f2, g3.trans f3, g4.trans f4, g5.trans f5, ?_, fun z hz => by simp [mM z hz], h16⟩
      rw [stL_succ, List.map_append]
      refine (SV.mono (fun z hz _ => by simp [hz])).snoc (S14.mono (fun z hz _ => ?_))
      rcases List.mem_append.mp hz with hz | hz <;> simp [hz]
    · clear h6 h5 hsl S5 h4
      rintro σ H6 ⟨y1, ts, M, vs, o1, rfl, R1, t1, l1, f2, f3, f4, f5, SV, mM, h6⟩
      rw [Int.toNat_natCast] at R1 l1 SV
      have P1 : Pool W (W.go n s0) M := ⟨fun n' e u h => by obtain ⟨j, hj⟩ := (PL0.go' n).m n' e u h; exact List.mem_iff_getElem?.mp (mM _ (List.mem_of_getElem? hj)), fun u hu => by obtain ⟨j, hj⟩ := (PL0.go' n).e u hu; exact List.mem_iff_getElem?.mp (mM _ (List.mem_of_getElem? hj))⟩
      have P1' : Pool W (W.go n s0) ((sl, HO.lst vs) :: (trK W ts ++ M)) := (P1.app (trK W ts)).app [_]
      have gf6 : ∀ {H' : Hp} {X : Kn}, Has H' (X ++ M) → SqT K H' fp xs := fun h => SqT.of (h.at_ _ (List.mem_append_right _ (mM _ mfp)))
      have gf7 : ∀ {H' : Hp} {y' : YR}, Has H' (yL t.c_Yard A y' ++ ((sl, HO.lst vs) :: (trK W ts ++ M))) → SqT K H' fp xs := fun h => SqT.of (h.at_ _ (List.mem_append_right _ (List.mem_cons_of_mem _ (List.mem_append_right _ (mM _ mfp)))))
      have lv : vs.length = n + 1 := by
        have := DVs.len (SV H6 (fun z hz _ => h6.at_ z (by simp [hz])))
        rw [List.length_map, stL_len] at this; exact this
      obtain ⟨v0, v1, ev⟩ : ∃ v0 v1, vs = v0 ++ [v1] := by
        rcases List.eq_nil_or_concat vs with h | ⟨v0, v1, h⟩
        · rw [h] at lv; cases lv
        · exact ⟨v0, v1, by rw [h, List.concat_eq_append]⟩
      have l0 : v0.length = n := by rw [ev, List.length_append, List.length_singleton] at lv; omega
      have dv1 : ∀ {H' : Hp}, (∀ z ∈ M, H' z.1 = some z.2) → DV K H' (standD (W.go n s0)) v1 ∧ DVs K H' ((stL W s0 n).map standD) v0 := fun {H'} hM => by
        have d := SV H' (fun z hz _ => hM z hz)
        have g : ((stL W s0 (n + 1)).map standD)[n]? = some (standD (W.go n s0)) := by
          rw [stL_succ, List.map_append, List.getElem?_append_right (by rw [List.length_map, stL_len]; exact Nat.le_refl _), List.length_map, stL_len, Nat.sub_self]; rfl
        obtain ⟨v, hv, dv⟩ := DVs.get d g
        rw [ev, List.getElem?_append_right (by omega), l0, Nat.sub_self] at hv
        have ev1 : v1 = v := Option.some.inj hv
        have d2 := DVs.take n d
        rw [← List.map_take, stL_take (by omega), ev, List.take_append_of_le_length (by omega), List.take_of_length_le (by omega)] at d2
        exact ⟨by rw [ev1]; exact dv, d2⟩
      have dvk : ∀ {H' : Hp} {k : Nat}, k ≤ n → (∀ z ∈ M, H' z.1 = some z.2) → ∃ v, vs[k]? = some v ∧ DV K H' (standD (W.go k s0)) v := fun {H' k} hk hM => by
        refine DVs.get (SV H' (fun z hz _ => hM z hz)) ?_
        unfold stL
        rw [List.getElem?_map, List.getElem?_map, List.getElem?_range (by omega)]; rfl
      have unl : (∀ i j, i < j → j ≤ n → ¬ Lk (W.go i s0) (W.go j s0)) → ((stL W s0 n).map standD).any (fun y => PyData.eqv y (standD (W.go n s0))) = false := fun h => any_none (fun x hx => by
        unfold stL at hx
        obtain ⟨k, hk, rfl⟩ := List.mem_map.mp hx
        exact h k n (List.mem_range.mp hk) (Nat.le_refl _))
      have atM : ∀ {H' : Hp} {X : Kn} {y' : YR}, Has H' (X ++ (yL t.c_Yard A y' ++ ((sl, HO.lst vs) :: (trK W ts ++ M)))) → ∀ z ∈ M, H' z.1 = some z.2 := fun h z hz => h.at_ z (by simp [hz])
      have last : ∀ {H' : Hp} {Q' : VK} {y' : YR}, (∀ i j, i < j → j ≤ n → ¬ Lk (W.go i s0) (W.go j s0)) → Has H' (yL t.c_Yard A y' ++ ((sl, HO.lst vs) :: (trK W ts ++ M))) → (∀ p, H' p = none → Q' (.bl true) (upd H' p (.lst v0))) → ∃ v, some v1 = some v ∧ ∀ p, H' p = none → rInD K true v (.ref p) (upd H' p (.lst v0)) Q' := fun {H' Q' y'} hu h hq => by
        refine ⟨v1, rfl, fun p hp => ?_⟩
        have h2 := h.alloc hp (.lst v0)
        obtain ⟨d1, d2⟩ := dv1 (atM (X := [_]) h2)
        refine ⟨standD (W.go n s0), (stL W s0 n).map standD, d1, ?_, stand_sh _, stands_sh _, ?_⟩
        · unfold DV
          exact ⟨p, v0, rfl, SqL.of (h2.get 0 rfl), d2⟩
        · rw [unl hu]; exact hq p hp
      rcases cs with ⟨hn, rfl⟩ | ⟨mu, lam, rfl, C, rfl⟩ | ⟨rfl, ⟨s', hs'⟩, hu, rfl⟩
      · -- held
        obtain ⟨x, hx⟩ : ∃ x, W.why (W.go n s0) = .str x := by
          rcases why_cases W (W.go n s0) (fun z hz => R1.eo z hz) with e | ⟨x, e⟩
          · exfalso
            obtain ⟨s', hs⟩ := (why_none_iff (w := W) (s := W.go n s0) (fun z hz => R1.eo z hz)).mp e
            rw [hn] at hs; cases hs
          · exact ⟨x, e⟩
        rw [hx] at gf7
        refine ⟨_, ?_, fun _ _ h => h⟩
        refine ⟨_, rfl, fp, _, _, _, rfl, rfl, gf7 h6, rfl, rfl, _, rfl, ifT (by rfl) ?_⟩
        refine ⟨_, rfl, A, y1, _, W, W.go n s0, rfl, h6, R1, P1', fun H7 h7 => ?_⟩
        rw [hx]
        refine ⟨rfl, _, rfl, iteT ?_⟩
        refine ⟨_, rfl, A, y1, _, W, W.go n s0, rfl, h7, R1, P1', fun H8 h8 => ?_⟩
        rw [hx]
        refine ⟨_, rfl, fp, _, _, _, rfl, rfl, gf7 h8, rfl, rfl, _, rfl, ifT (decide_eq_true rfl) ?_⟩
        refine ⟨_, rfl, 1, rfl, sl, _, _, _, rfl, rfl, SqL.of (h8.get 9 rfl), (by rw [ev]; exact atI_last _ _), ?_⟩
        refine ⟨_, rfl, 1, rfl, _, rfl, sl, _, rfl, SqL.of (h8.get 9 rfl), fun p hp => ?_⟩
        rw [show cutV vs none (some (-1)) = v0 by rw [ev]; exact cut_last _ _]
        obtain ⟨v, e, hl⟩ := last (Q' := Q) (unlike_held on hn) h8 (fun p hp => q _)
        cases e
        exact hl p hp
      · -- round
        have lk1 : Lk (W.go mu s0) (W.go (mu + lam) s0) := (C.lk mu (mu + lam) (by have := C.l0; omega)).mpr ⟨Nat.le_refl _, by rw [show mu + lam - mu = lam by omega]; exact Nat.dvd_refl _⟩
        have l0' := C.l0
        refine ⟨_, ?_, fun _ _ h => h⟩
        refine ⟨_, rfl, fp, _, _, _, rfl, rfl, gf7 h6, rfl, rfl, _, rfl, ifF (by rfl) ?_⟩
        refine ⟨_, ?_, fun _ _ h => h⟩
        refine ⟨_, rfl, fp, _, _, _, rfl, rfl, gf7 h6, rfl, rfl, _, rfl, ifF (by rfl) ?_⟩
        refine ⟨_, ?_, fun _ _ h => h⟩
        refine ⟨_, rfl, fp, _, _, _, rfl, rfl, gf7 h6, rfl, rfl, _, rfl, ifF (by rfl) ?_⟩
        obtain ⟨vk, gvk, dvk'⟩ := dvk (H' := H6) (k := mu) (by omega) (atM (X := []) h6)
        refine ⟨_, rfl, 1, rfl, sl, _, _, _, rfl, rfl, SqL.of (h6.get 9 rfl), (by rw [ev]; exact atI_last _ _), ?_⟩
        refine ⟨_, rfl, _, rfl, fp, _, _, _, rfl, rfl, gf7 h6, rfl, sl, _, _, _, rfl, rfl, SqL.of (h6.get 9 rfl), atI_nat gvk, ?_⟩
        refine ⟨standD (W.go (mu + lam) s0), standD (W.go mu s0), (dv1 (atM (X := []) h6)).1, dvk', stand_sh _, stand_sh _, ?_⟩
        rw [eqv_stand.mpr lk1.sy]
        refine ⟨_, rfl, iteF ?_⟩
        refine ⟨_, rfl, fp, _, _, _, rfl, rfl, gf7 h6, rfl, _, _, rfl, rfl, _, rfl, ifF (decide_eq_false (by omega)) ?_⟩
        have h7 := hcast (has_mid (Z := yL t.c_Yard A y1) (X := [(sl, HO.lst vs)]) (Y := trK W ts) (R := M) (hcast h6 (by simp))) (L' := yL t.c_Yard A y1 ++ (trK W ts ++ ((sl, HO.lst vs) :: M))) (by simp)
        have r1 := go_rg_le W (mu + lam) s0
        rw [rg0] at r1
        have rl1 : y1.rung.length ≤ mu + lam := by rw [R1.rg, List.length_map]; simpa using r1
        refine ⟨_, rfl, _, rfl, fp, _, _, _, rfl, rfl, gf7 h6, rfl, A, y1, _, W, W.go (mu + lam) s0, ts, lam, rfl, h7, R1, P1.app [_], t1, by omega, by omega, by omega, by omega, fun H8 y2 ts2 h8 R2 t2 m2 g1 g2 g3 g4 g5 P2 => ?_⟩
        rw [Int.toNat_natCast] at R2 m2
        have e1 : ts2.length = lam := by
          have := congrArg List.length m2
          rw [List.length_map] at this
          rw [this]; exact C.one (mu + lam) lam
        replace R2 : Rep W (W.go (mu + lam + lam) s0) y2 := by rw [(go_sum W (mu + lam) lam s0).1]; exact R2
        have h9 := hcast (has_mid (Z := yL t.c_Yard A y2) (X := trK W (ts ++ ts2)) (Y := [(sl, HO.lst vs)]) (R := M) (hcast h8 (by simp))) (L' := yL t.c_Yard A y2 ++ ((sl, HO.lst vs) :: (trK W (ts ++ ts2) ++ M))) (by simp)
        have gf9 : SqT K H8 fp [.str "round", .int mu, .int lam] := SqT.of (h9.at_ _ (List.mem_append_right _ (List.mem_cons_of_mem _ (List.mem_append_right _ (mM _ mfp)))))
        refine ⟨_, rfl, fp, _, _, _, rfl, rfl, gf9, rfl, _, _, rfl, ?_⟩
        rw [decide_eq_true (show (ts2.length : Int) = (lam : Int) by omega)]
        refine ⟨_, rfl, iteT ?_⟩
        have sm2 := smG (ts := ts ++ ts2) (i := mu + lam + lam) (by omega) R2 t2 (by rw [List.length_append]; omega) (g2.trans f2) (g3.trans f3) (g4.trans f4) (g5.trans f5)
        have P3 : Pool W (W.go (mu + lam + lam) s0) M := ⟨fun n' e u h => by obtain ⟨j, hj⟩ := (PL0.go' (mu + lam + lam)).m n' e u h; exact List.mem_iff_getElem?.mp (mM _ (List.mem_of_getElem? hj)), fun u hu => by obtain ⟨j, hj⟩ := (PL0.go' (mu + lam + lam)).e u hu; exact List.mem_iff_getElem?.mp (mM _ (List.mem_of_getElem? hj))⟩
        refine ⟨_, rfl, A, y2, _, M, W, W.go (mu + lam + lam) s0, rfl, h9, R2, P3, sm2, fun H10 l10 N10 S10 h10 => ?_⟩
        have hM10 : ∀ z ∈ M, H10 z.1 = some z.2 := fun z hz => h10.at_ z (by simp [hz])
        obtain ⟨vk2, gvk2, dvk2⟩ := dvk (H' := H10) (k := mu) (by omega) hM10
        have h11 := hcast (has_mid (Z := yL t.c_Yard A y2) (X := N10) (Y := [(sl, HO.lst vs)]) (R := trK W (ts ++ ts2) ++ M) (hcast h10 (by simp))) (L' := yL t.c_Yard A y2 ++ ((sl, HO.lst vs) :: (N10 ++ (trK W (ts ++ ts2) ++ M)))) (by simp)
        have gf11 : SqT K H10 fp [.str "round", .int mu, .int lam] := SqT.of (hM10 _ (mM _ mfp))
        refine ⟨_, rfl, _, rfl, fp, _, _, _, rfl, rfl, gf11, rfl, sl, _, _, _, rfl, rfl, SqL.of (h11.get 9 rfl), atI_nat gvk2, ?_⟩
        refine ⟨standD (W.go (mu + lam + lam) s0), standD (W.go mu s0), S10 H10 (fun z hz _ => h10.at_ z (by rcases List.mem_append.mp hz with hz | hz <;> simp [hz])), dvk2, stand_sh _, stand_sh _, ?_⟩
        have lk2 : Lk (W.go mu s0) (W.go (mu + lam + lam) s0) := (C.lk mu (mu + lam + lam) (by omega)).mpr ⟨Nat.le_refl _, ⟨2, by omega⟩⟩
        rw [eqv_stand.mpr lk2.sy]
        exact q _
      · -- open
        refine ⟨_, ?_, fun _ _ h => h⟩
        refine ⟨_, rfl, fp, _, _, _, rfl, rfl, gf7 h6, rfl, rfl, _, rfl, ifF (by rfl) ?_⟩
        refine ⟨_, ?_, fun _ _ h => h⟩
        refine ⟨_, rfl, fp, _, _, _, rfl, rfl, gf7 h6, rfl, rfl, _, rfl, ifT (by rfl) ?_⟩
        refine ⟨_, rfl, A, y1, _, W, W.go n s0, rfl, h6, R1, P1', fun H7 h7 => ?_⟩
        rw [why_on hs']
        refine ⟨rfl, _, rfl, iteT ?_⟩
        refine ⟨_, rfl, 1, rfl, sl, _, _, _, rfl, rfl, SqL.of (h7.get 9 rfl), (by rw [ev]; exact atI_last _ _), ?_⟩
        refine ⟨_, rfl, 1, rfl, _, rfl, sl, _, rfl, SqL.of (h7.get 9 rfl), fun p hp => ?_⟩
        rw [show cutV vs none (some (-1)) = v0 by rw [ev]; exact cut_last _ _]
        obtain ⟨v, e, hl⟩ := last (Q' := Q) hu h7 (fun p hp => q _)
        cases e
        exact hl p hp
end

end P


set_option Elab.async false
set_option linter.all false
set_option maxRecDepth 100000
set_option maxHeartbeats 4000000
namespace P
open PySem L2

theorem txt_mk {K : PySem.W.Frag} {h : Heap} {mg : Str → Option Value} (KX : K.In h) (G : h.Ns mainGlobals mg)
    {z0 : Addr} {z1 z2 : Option Addr} {z3 : Array (Option Value)} {z4 z5 z6 z7 z8 z9 za : Value}
    {zb : Addr} {zc zd : Option Addr} {ze : Array (Option Value)} {zf zg zh zi zj zk zl : Value}
    {zm : Addr} {zn zo : Option Addr} {zp : Array (Option Value)} {zq zr zs zt zu zv zw : Value}
    {zx : Addr} {zy zz : Option Addr} {z10 : Array (Option Value)} {z11 z12 z13 z14 z15 z16 z17 : Value}
    {z18 : Addr} {z19 z1a : Option Addr} {z1b : Array (Option Value)} {z1c z1d z1e z1f z1g z1h z1i : Value}
    {z1j : Addr} {z1k z1l : Option Addr} {z1m : Array (Option Value)} {z1n z1o z1p z1q z1r z1s z1t : Value}
    {z1u : Addr} {z1v z1w : Option Addr} {z1x : Array (Option Value)} {z1y z1z z20 z21 z22 z23 z24 : Value}
    {z25 : Addr} {z26 z27 : Option Addr} {z28 : Array (Option Value)} {z29 z2a z2b z2c z2d z2e z2f : Value}
    {z2g : Addr} {z2h z2i : Option Addr} {z2j : Array (Option Value)} {z2k z2l z2m z2n z2o z2p z2q : Value}
    {z2r : Addr} {z2s z2t : Option Addr} {z2u : Array (Option Value)} {z2v z2w z2x z2y z2z z30 z31 : Value}
    {z32 : Addr} {z33 z34 : Option Addr} {z35 : Array (Option Value)} {z36 z37 z38 z39 z3a z3b z3c : Value}
    {z3d : Addr} {z3e z3f : Option Addr} {z3g : Array (Option Value)} {z3h z3i z3j z3k z3l z3m z3n : Value}
    {z3o : Addr} {z3p z3q : Option Addr} {z3r : Array (Option Value)} {z3s z3t z3u z3v z3w z3x z3y : Value}
    {z3z : Addr} {z40 z41 : Option Addr} {z42 : Array (Option Value)} {z43 z44 z45 z46 z47 z48 z49 : Value}
    {z4a : Addr} {z4b z4c : Option Addr} {z4d : Array (Option Value)} {z4e z4f z4g z4h z4i z4j z4k : Value}
    {z4l : Addr} {z4m z4n : Option Addr} {z4o : Array (Option Value)} {z4p z4q z4r z4s z4t z4u z4v : Value}
    {z4w : Addr} {z4x z4y : Option Addr} {z4z : Array (Option Value)} {z50 z51 z52 z53 z54 z55 z56 : Value}
    {z57 : Addr} {z58 z59 : Option Addr} {z5a : Array (Option Value)} {z5b z5c z5d z5e z5f z5g z5h : Value}
    {z5i : Addr} {z5j z5k : Option Addr} {z5l : Array (Option Value)} {z5m z5n z5o z5p z5q z5r z5s : Value}
    {z5t : Addr} {z5u z5v : Option Addr} {z5w : Array (Option Value)} {z5x z5y z5z z60 z61 z62 z63 : Value}
    {z64 : Addr} {z65 z66 : Option Addr} {z67 : Array (Option Value)} {z68 z69 z6a z6b z6c z6d z6e : Value}
    {z6f : Addr} {z6g z6h : Option Addr} {z6i : Array (Option Value)} {z6j z6k z6l z6m z6n z6o z6p : Value}
    {z6q : Addr} {z6r z6s : Option Addr} {z6t : Array (Option Value)} {z6u z6v z6w z6x z6y z6z z70 : Value}
    {z71 : Addr} {z72 z73 : Option Addr} {z74 : Array (Option Value)} {z75 z76 z77 z78 z79 z7a z7b : Value}
    {z7c : Addr} {z7d z7e : Option Addr} {z7f : Array (Option Value)} {z7g z7h z7i z7j z7k z7l z7m : Value}
    {z7n : Addr} {z7o z7p : Option Addr} {z7q : Array (Option Value)} {z7r z7s z7t z7u z7v z7w z7x : Value}
    {z7y : Addr} {z7z z80 : Option Addr} {z81 : Array (Option Value)} {z82 z83 z84 z85 z86 z87 z88 : Value}
    {z89 : Addr} {z8a z8b : Option Addr} {z8c : Array (Option Value)} {z8d z8e z8f z8g z8h z8i z8j : Value}
    {z8k : Addr} {z8l z8m : Option Addr} {z8n : Array (Option Value)} {z8o z8p z8q z8r z8s z8t z8u : Value}
    {z8v : Addr} {z8w z8x : Option Addr} {z8y : Array (Option Value)} {z8z z90 z91 z92 z93 z94 z95 : Value}
    {z96 : Addr} {z97 z98 : Option Addr} {z99 : Array (Option Value)} {z9a z9b z9c z9d z9e z9f z9g : Value}
    {z9h : Addr} {z9i z9j : Option Addr} {z9k : Array (Option Value)} {z9l z9m z9n z9o z9p z9q z9r : Value}
    {z9s : Addr} {z9t z9u : Option Addr} {z9v : Array (Option Value)} {z9w z9x z9y z9z za0 za1 za2 : Value}
    {za3 : Addr} {za4 za5 : Option Addr} {za6 : Array (Option Value)} {za7 za8 za9 zaa zab zac zad : Value}
    {zae : Addr} {zaf zag : Option Addr} {zah : Array (Option Value)} {zai zaj zak zal zam zan zao : Value}
    {zap : Addr} {zaq zar : Option Addr} {zas : Array (Option Value)} {zat zau zav zaw zax zay zaz : Value}
    {zb0 : Addr} {zb1 zb2 : Option Addr} {zb3 : Array (Option Value)} {zb4 zb5 zb6 zb7 zb8 zb9 zba : Value}
    {zbb : Addr} {zbc zbd : Option Addr} {zbe : Array (Option Value)} {zbf zbg zbh zbi zbj zbk zbl : Value}
    {zbm : Addr} {zbn zbo : Option Addr} {zbp : Array (Option Value)} {zbq zbr zbs zbt zbu zbv zbw : Value}
    {zbx : Addr} {zby zbz : Option Addr} {zc0 : Array (Option Value)} {zc1 zc2 zc3 zc4 zc5 zc6 zc7 : Value}
    {zc8 : Addr} {zc9 zca : Option Addr} {zcb : Array (Option Value)} {zcc zcd zce zcf zcg zch zci : Value}
    {zcj : Addr} {zck zcl : Option Addr} {zcm : Array (Option Value)} {zcn zco zcp zcq zcr zcs zct : Value}
    {zcu : Addr} {zcv zcw : Option Addr} {zcx : Array (Option Value)} {zcy zcz zd0 zd1 zd2 zd3 zd4 : Value}
    {zd5 : Addr} {zd6 zd7 : Option Addr} {zd8 : Array (Option Value)} {zd9 zda zdb zdc zdd zde zdf : Value}
    {zdg : Addr} {zdh zdi : Option Addr} {zdj : Array (Option Value)} {zdk zdl zdm zdn zdo zdp zdq : Value}
    {zdr : Addr} {zds zdt : Option Addr} {zdu : Array (Option Value)} {zdv zdw zdx zdy zdz ze0 ze1 : Value}
    {ze2 : Addr} {ze3 ze4 : Option Addr} {ze5 : Array (Option Value)} {ze6 ze7 ze8 ze9 zea zeb zec : Value}
    {zed : Addr}
    {zee : Value}
    {zef : Value}
    {zeg : Value}
    {zeh : Value}
    {zei : Addr} {zej : Option Addr} {zek : Nat} {zel : Array (Option Value)} {zem : Tok}
    {zen : Addr} {zeo : Option Addr} {zep : Nat} {zeq : Array (Option Value)} {zer : Tok}
    {zes : Addr} {zet : Option Addr} {zeu : Array Value} {zev : Nat} {zew : Array (Option Value)}
    (zex : PySem.W.nsIn K mainGlobals "Yard" = some (some (.ref zed)))
    (zey : PySem.W.nsIn K mainGlobals "law" = some (some (.ref z0)))
    (zez : K.lookup z0 = some ⟨z4, z1, .func (PySem.W.fnOf "law" "law" (defArgs s_law) (defBody s_law) (defScope s_law) z5 z6 z7 z8 z2 z9 za), z3⟩)
    (zf0 : PySem.W.codeIn K z9 "law" = true)
    (zf1 : PySem.W.keepIn K (.ref z0) = true)
    (zf2 : z5 = .none)
    (zf3 : PySem.W.nsIn K mainGlobals "_law_draws" = some (some (.ref zb)))
    (zf4 : K.lookup zb = some ⟨zf, zc, .func (PySem.W.fnOf "_law_draws" "_law_draws" (defArgs s_draws) (defBody s_draws) (defScope s_draws) zg zh zi zj zd zk zl), ze⟩)
    (zf5 : PySem.W.codeIn K zk "_law_draws" = true)
    (zf6 : PySem.W.keepIn K (.ref zb) = true)
    (zf7 : zg = .none)
    (zf8 : PySem.W.nsIn K mainGlobals "fate" = some (some (.ref zm)))
    (zf9 : K.lookup zm = some ⟨zq, zn, .func (PySem.W.fnOf "fate" "fate" (defArgs s_fate) (defBody s_fate) (defScope s_fate) zr zs zt zu zo zv zw), zp⟩)
    (zfa : PySem.W.codeIn K zv "fate" = true)
    (zfb : PySem.W.keepIn K (.ref zm) = true)
    (zfc : zr = .none)
    (zfd : PySem.W.nsIn K mainGlobals "twin" = some (some (.ref zx)))
    (zfe : K.lookup zx = some ⟨z11, zy, .func (PySem.W.fnOf "twin" "twin" (defArgs s_twin) (defBody s_twin) (defScope s_twin) z12 z13 z14 z15 zz z16 z17), z10⟩)
    (zff : PySem.W.codeIn K z16 "twin" = true)
    (zfg : PySem.W.keepIn K (.ref zx) = true)
    (zfh : z12 = .none)
    (zfi : PySem.W.nsIn K mainGlobals "held" = some (some (.ref z18)))
    (zfj : K.lookup z18 = some ⟨z1c, z19, .func (PySem.W.fnOf "held" "held" (defArgs s_held) (defBody s_held) (defScope s_held) z1d z1e z1f z1g z1a z1h z1i), z1b⟩)
    (zfk : PySem.W.codeIn K z1h "held" = true)
    (zfl : PySem.W.keepIn K (.ref z18) = true)
    (zfm : z1d = .none)
    (zfn : PySem.W.nsIn K mainGlobals "next_step" = some (some (.ref z1j)))
    (zfo : K.lookup z1j = some ⟨z1n, z1k, .func (PySem.W.fnOf "next_step" "next_step" (defArgs s_next_step) (defBody s_next_step) (defScope s_next_step) z1o z1p z1q z1r z1l z1s z1t), z1m⟩)
    (zfp : PySem.W.codeIn K z1s "next_step" = true)
    (zfq : PySem.W.keepIn K (.ref z1j) = true)
    (zfr : z1o = .none)
    (zfs : PySem.W.nsIn K mainGlobals "passage" = some (some (.ref z1u)))
    (zft : K.lookup z1u = some ⟨z1y, z1v, .func (PySem.W.fnOf "passage" "passage" (defArgs s_passage) (defBody s_passage) (defScope s_passage) z1z z20 z21 z22 z1w z23 z24), z1x⟩)
    (zfu : PySem.W.codeIn K z23 "passage" = true)
    (zfv : PySem.W.keepIn K (.ref z1u) = true)
    (zfw : z1z = .none)
    (zfx : PySem.W.nsIn K mainGlobals "check_end" = some (some (.ref z25)))
    (zfy : K.lookup z25 = some ⟨z29, z26, .func (PySem.W.fnOf "check_end" "check_end" (defArgs s_check_end) (defBody s_check_end) (defScope s_check_end) z2a z2b z2c z2d z27 z2e z2f), z28⟩)
    (zfz : PySem.W.codeIn K z2e "check_end" = true)
    (zg0 : PySem.W.keepIn K (.ref z25) = true)
    (zg1 : z2a = .none)
    (zg2 : PySem.W.nsIn K mainGlobals "ends_of" = some (some (.ref z2g)))
    (zg3 : K.lookup z2g = some ⟨z2k, z2h, .func (PySem.W.fnOf "ends_of" "ends_of" (defArgs s_ends_of) (defBody s_ends_of) (defScope s_ends_of) z2l z2m z2n z2o z2i z2p z2q), z2j⟩)
    (zg4 : PySem.W.codeIn K z2p "ends_of" = true)
    (zg5 : PySem.W.keepIn K (.ref z2g) = true)
    (zg6 : z2l = .none)
    (zg7 : PySem.W.nsIn K mainGlobals "is_point" = some (some (.ref z2r)))
    (zg8 : K.lookup z2r = some ⟨z2v, z2s, .func (PySem.W.fnOf "is_point" "is_point" (defArgs s_is_point) (defBody s_is_point) (defScope s_is_point) z2w z2x z2y z2z z2t z30 z31), z2u⟩)
    (zg9 : PySem.W.codeIn K z30 "is_point" = true)
    (zga : PySem.W.keepIn K (.ref z2r) = true)
    (zgb : z2w = .none)
    (zgc : PySem.W.nsIn K mainGlobals "check_side" = some (some (.ref z32)))
    (zgd : K.lookup z32 = some ⟨z36, z33, .func (PySem.W.fnOf "check_side" "check_side" (defArgs s_check_side) (defBody s_check_side) (defScope s_check_side) z37 z38 z39 z3a z34 z3b z3c), z35⟩)
    (zge : PySem.W.codeIn K z3b "check_side" = true)
    (zgf : PySem.W.keepIn K (.ref z32) = true)
    (zgg : z37 = .none)
    (zgh : PySem.W.nsIn K mainGlobals "point_passage" = some (some (.ref z3d)))
    (zgi : K.lookup z3d = some ⟨z3h, z3e, .func (PySem.W.fnOf "point_passage" "point_passage" (defArgs s_point_passage) (defBody s_point_passage) (defScope s_point_passage) z3i z3j z3k z3l z3f z3m z3n), z3g⟩)
    (zgj : PySem.W.codeIn K z3m "point_passage" = true)
    (zgk : PySem.W.keepIn K (.ref z3d) = true)
    (zgl : z3i = .none)
    (zgm : PySem.W.nsIn K mainGlobals "run" = some (some (.ref z3o)))
    (zgn : K.lookup z3o = some ⟨z3s, z3p, .func (PySem.W.fnOf "run" "run" (defArgs s_run) (defBody s_run) (defScope s_run) z3t z3u z3v z3w z3q z3x z3y), z3r⟩)
    (zgo : PySem.W.codeIn K z3x "run" = true)
    (zgp : PySem.W.keepIn K (.ref z3o) = true)
    (zgq : z3t = .none)
    (zgr : PySem.W.nsIn K mainGlobals "alike" = some (some (.ref z3z)))
    (zgs : K.lookup z3z = some ⟨z43, z40, .func (PySem.W.fnOf "alike" "alike" (defArgs s_alike) (defBody s_alike) (defScope s_alike) z44 z45 z46 z47 z41 z48 z49), z42⟩)
    (zgt : PySem.W.codeIn K z48 "alike" = true)
    (zgu : PySem.W.keepIn K (.ref z3z) = true)
    (zgv : z44 = .none)
    (zgw : PySem.W.nsIn K mainGlobals "fate_on_round" = some (some (.ref z4a)))
    (zgx : K.lookup z4a = some ⟨z4e, z4b, .func (PySem.W.fnOf "fate_on_round" "fate_on_round" (defArgs s_fate_on_round) (defBody s_fate_on_round) (defScope s_fate_on_round) z4f z4g z4h z4i z4c z4j z4k), z4d⟩)
    (zgy : PySem.W.codeIn K z4j "fate_on_round" = true)
    (zgz : PySem.W.keepIn K (.ref z4a) = true)
    (zh0 : z4f = .none)
    (zh1 : PySem.W.nsIn K mainGlobals "_law_set" = some (some (.ref z4l)))
    (zh2 : K.lookup z4l = some ⟨z4p, z4m, .func (PySem.W.fnOf "_law_set" "_law_set" (defArgs s_set) (defBody s_set) (defScope s_set) z4q z4r z4s z4t z4n z4u z4v), z4o⟩)
    (zh3 : PySem.W.codeIn K z4u "_law_set" = true)
    (zh4 : PySem.W.keepIn K (.ref z4l) = true)
    (zh5 : z4q = .none)
    (zh6 : PySem.W.nsIn K mainGlobals "_law_built" = some (some (.ref z4w)))
    (zh7 : K.lookup z4w = some ⟨z50, z4x, .func (PySem.W.fnOf "_law_built" "_law_built" (defArgs s_built) (defBody s_built) (defScope s_built) z51 z52 z53 z54 z4y z55 z56), z4z⟩)
    (zh8 : PySem.W.codeIn K z55 "_law_built" = true)
    (zh9 : PySem.W.keepIn K (.ref z4w) = true)
    (zha : z51 = .none)
    (zhb : PySem.W.nsIn K mainGlobals "_law_kind" = some (some (.ref z57)))
    (zhc : K.lookup z57 = some ⟨z5b, z58, .func (PySem.W.fnOf "_law_kind" "_law_kind" (defArgs s_kind) (defBody s_kind) (defScope s_kind) z5c z5d z5e z5f z59 z5g z5h), z5a⟩)
    (zhd : PySem.W.codeIn K z5g "_law_kind" = true)
    (zhe : PySem.W.keepIn K (.ref z57) = true)
    (zhf : z5c = .none)
    (zhg : PySem.W.nsIn K mainGlobals "_law_kinds" = some (some (.ref z5i)))
    (zhh : K.lookup z5i = some ⟨z5m, z5j, .func (PySem.W.fnOf "_law_kinds" "_law_kinds" (defArgs s_kinds) (defBody s_kinds) (defScope s_kinds) z5n z5o z5p z5q z5k z5r z5s), z5l⟩)
    (zhi : PySem.W.codeIn K z5r "_law_kinds" = true)
    (zhj : PySem.W.keepIn K (.ref z5i) = true)
    (zhk : z5n = .none)
    (zhl : PySem.W.nsIn K mainGlobals "_law_many" = some (some (.ref z5t)))
    (zhm : K.lookup z5t = some ⟨z5x, z5u, .func (PySem.W.fnOf "_law_many" "_law_many" (defArgs s_many) (defBody s_many) (defScope s_many) z5y z5z z60 z61 z5v z62 z63), z5w⟩)
    (zhn : PySem.W.codeIn K z62 "_law_many" = true)
    (zho : PySem.W.keepIn K (.ref z5t) = true)
    (zhp : z5y = .none)
    (zhq : PySem.W.nsIn K mainGlobals "_law_linked" = some (some (.ref z64)))
    (zhr : K.lookup z64 = some ⟨z68, z65, .func (PySem.W.fnOf "_law_linked" "_law_linked" (defArgs s_linked) (defBody s_linked) (defScope s_linked) z69 z6a z6b z6c z66 z6d z6e), z67⟩)
    (zhs : PySem.W.codeIn K z6d "_law_linked" = true)
    (zht : PySem.W.keepIn K (.ref z64) = true)
    (zhu : z69 = .none)
    (zhv : PySem.W.nsIn K mainGlobals "_law_ends" = some (some (.ref z6f)))
    (zhw : K.lookup z6f = some ⟨z6j, z6g, .func (PySem.W.fnOf "_law_ends" "_law_ends" (defArgs s_ends) (defBody s_ends) (defScope s_ends) z6k z6l z6m z6n z6h z6o z6p), z6i⟩)
    (zhx : PySem.W.codeIn K z6o "_law_ends" = true)
    (zhy : PySem.W.keepIn K (.ref z6f) = true)
    (zhz : z6k = .none)
    (zi0 : PySem.W.nsIn K mainGlobals "_law_thrown" = some (some (.ref z6q)))
    (zi1 : K.lookup z6q = some ⟨z6u, z6r, .func (PySem.W.fnOf "_law_thrown" "_law_thrown" (defArgs s_thrown) (defBody s_thrown) (defScope s_thrown) z6v z6w z6x z6y z6s z6z z70), z6t⟩)
    (zi2 : PySem.W.codeIn K z6z "_law_thrown" = true)
    (zi3 : PySem.W.keepIn K (.ref z6q) = true)
    (zi4 : z6v = .none)
    (zi5 : PySem.W.nsIn K mainGlobals "_law_size" = some (some (.ref z71)))
    (zi6 : K.lookup z71 = some ⟨z75, z72, .func (PySem.W.fnOf "_law_size" "_law_size" (defArgs s_size) (defBody s_size) (defScope s_size) z76 z77 z78 z79 z73 z7a z7b), z74⟩)
    (zi7 : PySem.W.codeIn K z7a "_law_size" = true)
    (zi8 : PySem.W.keepIn K (.ref z71) = true)
    (zi9 : z76 = .none)
    (zia : PySem.W.nsIn K mainGlobals "_law_links" = some (some (.ref z7c)))
    (zib : K.lookup z7c = some ⟨z7g, z7d, .func (PySem.W.fnOf "_law_links" "_law_links" (defArgs s_links) (defBody s_links) (defScope s_links) z7h z7i z7j z7k z7e z7l z7m), z7f⟩)
    (zic : PySem.W.codeIn K z7l "_law_links" = true)
    (zid : PySem.W.keepIn K (.ref z7c) = true)
    (zie : z7h = .none)
    (zif : PySem.W.nsIn K mainGlobals "_law_stand" = some (some (.ref z7n)))
    (zig : K.lookup z7n = some ⟨z7r, z7o, .func (PySem.W.fnOf "_law_stand" "_law_stand" (defArgs s_stand) (defBody s_stand) (defScope s_stand) z7s z7t z7u z7v z7p z7w z7x), z7q⟩)
    (zih : PySem.W.codeIn K z7w "_law_stand" = true)
    (zii : PySem.W.keepIn K (.ref z7n) = true)
    (zij : z7s = .none)
    (zik : PySem.W.nsIn K mainGlobals "_law_is" = some (some (.ref z7y)))
    (zil : K.lookup z7y = some ⟨z82, z7z, .func (PySem.W.fnOf "_law_is" "_law_is" (defArgs s_is) (defBody s_is) (defScope s_is) z83 z84 z85 z86 z80 z87 z88), z81⟩)
    (zim : PySem.W.codeIn K z87 "_law_is" = true)
    (zin : PySem.W.keepIn K (.ref z7y) = true)
    (zio : z83 = .none)
    (zip : PySem.W.nsIn K mainGlobals "_law_whole" = some (some (.ref z89)))
    (ziq : K.lookup z89 = some ⟨z8d, z8a, .func (PySem.W.fnOf "_law_whole" "_law_whole" (defArgs s_whole) (defBody s_whole) (defScope s_whole) z8e z8f z8g z8h z8b z8i z8j), z8c⟩)
    (zir : PySem.W.codeIn K z8i "_law_whole" = true)
    (zis : PySem.W.keepIn K (.ref z89) = true)
    (zit : z8e = .none)
    (ziu : PySem.W.nsIn K mainGlobals "check_note" = some (some (.ref z8k)))
    (ziv : K.lookup z8k = some ⟨z8o, z8l, .func (PySem.W.fnOf "check_note" "check_note" (defArgs s_check_note) (defBody s_check_note) (defScope s_check_note) z8p z8q z8r z8s z8m z8t z8u), z8n⟩)
    (ziw : PySem.W.codeIn K z8t "check_note" = true)
    (zix : PySem.W.keepIn K (.ref z8k) = true)
    (ziy : z8p = .none)
    (ziz : PySem.W.findIn K (.ref zed) "__init__" = some (some (.ref z8v)))
    (zj0 : PySem.W.isFn K (.ref z8v) = true)
    (zj1 : K.lookup z8v = some ⟨z8z, z8w, .func (PySem.W.fnOf "__init__" "Yard.__init__" (defArgs s_Yard_init) (defBody s_Yard_init) (defScope s_Yard_init) z90 z91 z92 z93 z8x z94 z95), z8y⟩)
    (zj2 : PySem.W.codeIn K z94 "Yard.__init__" = true)
    (zj3 : PySem.W.keepIn K (.ref z8v) = true)
    (zj4 : z90 = .none)
    (zj5 : PySem.W.findIn K (.ref zed) "make_twin" = some (some (.ref z96)))
    (zj6 : PySem.W.isFn K (.ref z96) = true)
    (zj7 : K.lookup z96 = some ⟨z9a, z97, .func (PySem.W.fnOf "make_twin" "Yard.make_twin" (defArgs s_Yard_make_twin) (defBody s_Yard_make_twin) (defScope s_Yard_make_twin) z9b z9c z9d z9e z98 z9f z9g), z99⟩)
    (zj8 : PySem.W.codeIn K z9f "Yard.make_twin" = true)
    (zj9 : PySem.W.keepIn K (.ref z96) = true)
    (zja : z9b = .none)
    (zjb : PySem.W.findIn K (.ref zed) "engine" = some (some (.ref z9h)))
    (zjc : PySem.W.isFn K (.ref z9h) = true)
    (zjd : K.lookup z9h = some ⟨z9l, z9i, .func (PySem.W.fnOf "engine" "Yard.engine" (defArgs s_Yard_engine) (defBody s_Yard_engine) (defScope s_Yard_engine) z9m z9n z9o z9p z9j z9q z9r), z9k⟩)
    (zje : PySem.W.codeIn K z9q "Yard.engine" = true)
    (zjf : PySem.W.keepIn K (.ref z9h) = true)
    (zjg : z9m = .none)
    (zjh : PySem.W.findIn K (.ref zed) "kind" = some (some (.ref z9s)))
    (zji : PySem.W.isFn K (.ref z9s) = true)
    (zjj : K.lookup z9s = some ⟨z9w, z9t, .func (PySem.W.fnOf "kind" "Yard.kind" (defArgs s_Yard_kind) (defBody s_Yard_kind) (defScope s_Yard_kind) z9x z9y z9z za0 z9u za1 za2), z9v⟩)
    (zjk : PySem.W.codeIn K za1 "Yard.kind" = true)
    (zjl : PySem.W.keepIn K (.ref z9s) = true)
    (zjm : z9x = .none)
    (zjn : PySem.W.findIn K (.ref zed) "check_piece" = some (some (.ref za3)))
    (zjo : PySem.W.isFn K (.ref za3) = true)
    (zjp : K.lookup za3 = some ⟨za7, za4, .func (PySem.W.fnOf "check_piece" "Yard.check_piece" (defArgs s_Yard_check_piece) (defBody s_Yard_check_piece) (defScope s_Yard_check_piece) za8 za9 zaa zab za5 zac zad), za6⟩)
    (zjq : PySem.W.codeIn K zac "Yard.check_piece" = true)
    (zjr : PySem.W.keepIn K (.ref za3) = true)
    (zjs : za8 = .none)
    (zjt : PySem.W.findIn K (.ref zed) "mate" = some (some (.ref zae)))
    (zju : PySem.W.isFn K (.ref zae) = true)
    (zjv : K.lookup zae = some ⟨zai, zaf, .func (PySem.W.fnOf "mate" "Yard.mate" (defArgs s_Yard_mate) (defBody s_Yard_mate) (defScope s_Yard_mate) zaj zak zal zam zag zan zao), zah⟩)
    (zjw : PySem.W.codeIn K zan "Yard.mate" = true)
    (zjx : PySem.W.keepIn K (.ref zae) = true)
    (zjy : zaj = .none)
    (zjz : PySem.W.findIn K (.ref zed) "check_there" = some (some (.ref zap)))
    (zk0 : PySem.W.isFn K (.ref zap) = true)
    (zk1 : K.lookup zap = some ⟨zat, zaq, .func (PySem.W.fnOf "check_there" "Yard.check_there" (defArgs s_Yard_check_there) (defBody s_Yard_check_there) (defScope s_Yard_check_there) zau zav zaw zax zar zay zaz), zas⟩)
    (zk2 : PySem.W.codeIn K zay "Yard.check_there" = true)
    (zk3 : PySem.W.keepIn K (.ref zap) = true)
    (zk4 : zau = .none)
    (zk5 : PySem.W.findIn K (.ref zed) "side" = some (some (.ref zb0)))
    (zk6 : PySem.W.isFn K (.ref zb0) = true)
    (zk7 : K.lookup zb0 = some ⟨zb4, zb1, .func (PySem.W.fnOf "side" "Yard.side" (defArgs s_Yard_side) (defBody s_Yard_side) (defScope s_Yard_side) zb5 zb6 zb7 zb8 zb2 zb9 zba), zb3⟩)
    (zk8 : PySem.W.codeIn K zb9 "Yard.side" = true)
    (zk9 : PySem.W.keepIn K (.ref zb0) = true)
    (zka : zb5 = .none)
    (zkb : PySem.W.findIn K (.ref zed) "check_rod" = some (some (.ref zbb)))
    (zkc : PySem.W.isFn K (.ref zbb) = true)
    (zkd : K.lookup zbb = some ⟨zbf, zbc, .func (PySem.W.fnOf "check_rod" "Yard.check_rod" (defArgs s_Yard_check_rod) (defBody s_Yard_check_rod) (defScope s_Yard_check_rod) zbg zbh zbi zbj zbd zbk zbl), zbe⟩)
    (zke : PySem.W.codeIn K zbk "Yard.check_rod" = true)
    (zkf : PySem.W.keepIn K (.ref zbb) = true)
    (zkg : zbg = .none)
    (zkh : PySem.W.findIn K (.ref zed) "rod" = some (some (.ref zbm)))
    (zki : PySem.W.isFn K (.ref zbm) = true)
    (zkj : K.lookup zbm = some ⟨zbq, zbn, .func (PySem.W.fnOf "rod" "Yard.rod" (defArgs s_Yard_rod) (defBody s_Yard_rod) (defScope s_Yard_rod) zbr zbs zbt zbu zbo zbv zbw), zbp⟩)
    (zkk : PySem.W.codeIn K zbv "Yard.rod" = true)
    (zkl : PySem.W.keepIn K (.ref zbm) = true)
    (zkm : zbr = .none)
    (zkn : PySem.W.findIn K (.ref zed) "carry" = some (some (.ref zbx)))
    (zko : PySem.W.isFn K (.ref zbx) = true)
    (zkp : K.lookup zbx = some ⟨zc1, zby, .func (PySem.W.fnOf "carry" "Yard.carry" (defArgs s_Yard_carry) (defBody s_Yard_carry) (defScope s_Yard_carry) zc2 zc3 zc4 zc5 zbz zc6 zc7), zc0⟩)
    (zkq : PySem.W.codeIn K zc6 "Yard.carry" = true)
    (zkr : PySem.W.keepIn K (.ref zbx) = true)
    (zks : zc2 = .none)
    (zkt : PySem.W.findIn K (.ref zed) "put" = some (some (.ref zc8)))
    (zku : PySem.W.isFn K (.ref zc8) = true)
    (zkv : K.lookup zc8 = some ⟨zcc, zc9, .func (PySem.W.fnOf "put" "Yard.put" (defArgs s_Yard_put) (defBody s_Yard_put) (defScope s_Yard_put) zcd zce zcf zcg zca zch zci), zcb⟩)
    (zkw : PySem.W.codeIn K zch "Yard.put" = true)
    (zkx : PySem.W.keepIn K (.ref zc8) = true)
    (zky : zcd = .none)
    (zkz : PySem.W.findIn K (.ref zed) "end_trail" = some (some (.ref zcj)))
    (zl0 : PySem.W.isFn K (.ref zcj) = true)
    (zl1 : K.lookup zcj = some ⟨zcn, zck, .func (PySem.W.fnOf "end_trail" "Yard.end_trail" (defArgs s_Yard_end_trail) (defBody s_Yard_end_trail) (defScope s_Yard_end_trail) zco zcp zcq zcr zcl zcs zct), zcm⟩)
    (zl2 : PySem.W.codeIn K zcs "Yard.end_trail" = true)
    (zl3 : PySem.W.keepIn K (.ref zcj) = true)
    (zl4 : zco = .none)
    (zl5 : PySem.W.findIn K (.ref zed) "lay" = some (some (.ref zcu)))
    (zl6 : PySem.W.isFn K (.ref zcu) = true)
    (zl7 : K.lookup zcu = some ⟨zcy, zcv, .func (PySem.W.fnOf "lay" "Yard.lay" (defArgs s_Yard_lay) (defBody s_Yard_lay) (defScope s_Yard_lay) zcz zd0 zd1 zd2 zcw zd3 zd4), zcx⟩)
    (zl8 : PySem.W.codeIn K zd3 "Yard.lay" = true)
    (zl9 : PySem.W.keepIn K (.ref zcu) = true)
    (zla : zcz = .ref zei)
    (zlb : K.lookup zei = some ⟨.type "tuple", zej, .seq #[.int 0 zem, .none] zek, zel⟩)
    (zlc : PySem.W.findIn K (.ref zed) "new_rod" = some (some (.ref zd5)))
    (zld : PySem.W.isFn K (.ref zd5) = true)
    (zle : K.lookup zd5 = some ⟨zd9, zd6, .func (PySem.W.fnOf "new_rod" "Yard.new_rod" (defArgs s_Yard_new_rod) (defBody s_Yard_new_rod) (defScope s_Yard_new_rod) zda zdb zdc zdd zd7 zde zdf), zd8⟩)
    (zlf : PySem.W.codeIn K zde "Yard.new_rod" = true)
    (zlg : PySem.W.keepIn K (.ref zd5) = true)
    (zlh : zda = .ref zen)
    (zli : K.lookup zen = some ⟨.type "tuple", zeo, .seq #[.int 1 zer] zep, zeq⟩)
    (zlj : PySem.W.findIn K (.ref zed) "link" = some (some (.ref zdg)))
    (zlk : PySem.W.isFn K (.ref zdg) = true)
    (zll : K.lookup zdg = some ⟨zdk, zdh, .func (PySem.W.fnOf "link" "Yard.link" (defArgs s_Yard_link) (defBody s_Yard_link) (defScope s_Yard_link) zdl zdm zdn zdo zdi zdp zdq), zdj⟩)
    (zlm : PySem.W.codeIn K zdp "Yard.link" = true)
    (zln : PySem.W.keepIn K (.ref zdg) = true)
    (zlo : zdl = .none)
    (zlp : PySem.W.findIn K (.ref zed) "throw" = some (some (.ref zdr)))
    (zlq : PySem.W.isFn K (.ref zdr) = true)
    (zlr : K.lookup zdr = some ⟨zdv, zds, .func (PySem.W.fnOf "throw" "Yard.throw" (defArgs s_Yard_throw) (defBody s_Yard_throw) (defScope s_Yard_throw) zdw zdx zdy zdz zdt ze0 ze1), zdu⟩)
    (zls : PySem.W.codeIn K ze0 "Yard.throw" = true)
    (zlt : PySem.W.keepIn K (.ref zdr) = true)
    (zlu : zdw = .none)
    (zlv : PySem.W.findIn K (.ref zed) "rods" = some (some (.ref ze2)))
    (zlw : PySem.W.isFn K (.ref ze2) = true)
    (zlx : K.lookup ze2 = some ⟨ze6, ze3, .func (PySem.W.fnOf "rods" "Yard.rods" (defArgs s_Yard_rods) (defBody s_Yard_rods) (defScope s_Yard_rods) ze7 ze8 ze9 zea ze4 zeb zec), ze5⟩)
    (zly : PySem.W.codeIn K zeb "Yard.rods" = true)
    (zlz : PySem.W.keepIn K (.ref ze2) = true)
    (zm0 : ze7 = .none)
    (zm1 : PySem.W.plainGet K zed Str.empty = true)
    (zm2 : PySem.W.hasDictIn K zed = true)
    (zm3 : PySem.W.plainOver K zed = true)
    (zm4 : PySem.W.findIn K (.ref zed) "__setattr__" = some (some (.builtin "object.__setattr__")))
    (zm5 : PySem.W.makesIn K zed = true)
    (zm6 : PySem.W.keepIn K (.ref zed) = true)
    (zm7 : PySem.W.findIn K (.ref zed) "next_piece" = some none)
    (zm8 : PySem.W.findIn K (.ref zed) "kinds" = some none)
    (zm9 : PySem.W.findIn K (.ref zed) "notes" = some none)
    (zma : PySem.W.findIn K (.ref zed) "rods_under" = some none)
    (zmb : PySem.W.findIn K (.ref zed) "sides" = some none)
    (zmc : PySem.W.findIn K (.ref zed) "mates" = some none)
    (zmd : PySem.W.findIn K (.ref zed) "engine_end" = some none)
    (zme : PySem.W.findIn K (.ref zed) "rung" = some none)
    (zmf : PySem.W.findIn K (.ref zed) "trail" = some none)
    (zmg : PySem.W.nsIn K mainGlobals "abs" = some none)
    (zmh : PySem.W.nsIn K mainGlobals "bool" = some none)
    (zmi : PySem.W.nsIn K mainGlobals "dict" = some none)
    (zmj : PySem.W.nsIn K mainGlobals "enumerate" = some none)
    (zmk : PySem.W.nsIn K mainGlobals "int" = some none)
    (zml : PySem.W.nsIn K mainGlobals "isinstance" = some none)
    (zmm : PySem.W.nsIn K mainGlobals "len" = some none)
    (zmn : PySem.W.nsIn K mainGlobals "list" = some none)
    (zmo : PySem.W.nsIn K mainGlobals "max" = some none)
    (zmp : PySem.W.nsIn K mainGlobals "range" = some none)
    (zmq : PySem.W.nsIn K mainGlobals "ENDS" = some (some zee))
    (zmr : ∃ a, zee = .ref a ∧ TabK K a [("line", .int 2), ("bell", .int 2), ("stop", .int 1), ("still", .int 3), ("lazy", .int 3), ("turning", .int 3)])
    (zms : PySem.W.nsIn K mainGlobals "LAST_NOTE" = some (some zef))
    (zmt : RelV (.int 9999) zef)
    (zmu : PySem.W.nsIn K mainGlobals "POINTS" = some (some zeg))
    (zmv : zeg = .ref zes)
    (zmw : K.lookup zes = some ⟨.type "tuple", zet, .seq zeu zev, zew⟩)
    (zmx : zeu.size ≤ sizeLine)
    (zmy : Vals [.str "still", .str "lazy", .str "turning"] zeu.toList)
    (zmz : PySem.W.nsIn K mainGlobals "STEM" = some (some zeh))
    (zn0 : RelV (.int 0) zeh) :
    Txt K mg ⟨z0, PySem.W.fnOf "law" "law" (defArgs s_law) (defBody s_law) (defScope s_law) z5 z6 z7 z8 z2 z9 za, z5, zb, PySem.W.fnOf "_law_draws" "_law_draws" (defArgs s_draws) (defBody s_draws) (defScope s_draws) zg zh zi zj zd zk zl, zg, zm, PySem.W.fnOf "fate" "fate" (defArgs s_fate) (defBody s_fate) (defScope s_fate) zr zs zt zu zo zv zw, zr, zx, PySem.W.fnOf "twin" "twin" (defArgs s_twin) (defBody s_twin) (defScope s_twin) z12 z13 z14 z15 zz z16 z17, z12, z18, PySem.W.fnOf "held" "held" (defArgs s_held) (defBody s_held) (defScope s_held) z1d z1e z1f z1g z1a z1h z1i, z1d, z1j, PySem.W.fnOf "next_step" "next_step" (defArgs s_next_step) (defBody s_next_step) (defScope s_next_step) z1o z1p z1q z1r z1l z1s z1t, z1o, z1u, PySem.W.fnOf "passage" "passage" (defArgs s_passage) (defBody s_passage) (defScope s_passage) z1z z20 z21 z22 z1w z23 z24, z1z, z25, PySem.W.fnOf "check_end" "check_end" (defArgs s_check_end) (defBody s_check_end) (defScope s_check_end) z2a z2b z2c z2d z27 z2e z2f, z2a, z2g, PySem.W.fnOf "ends_of" "ends_of" (defArgs s_ends_of) (defBody s_ends_of) (defScope s_ends_of) z2l z2m z2n z2o z2i z2p z2q, z2l, z2r, PySem.W.fnOf "is_point" "is_point" (defArgs s_is_point) (defBody s_is_point) (defScope s_is_point) z2w z2x z2y z2z z2t z30 z31, z2w, z32, PySem.W.fnOf "check_side" "check_side" (defArgs s_check_side) (defBody s_check_side) (defScope s_check_side) z37 z38 z39 z3a z34 z3b z3c, z37, z3d, PySem.W.fnOf "point_passage" "point_passage" (defArgs s_point_passage) (defBody s_point_passage) (defScope s_point_passage) z3i z3j z3k z3l z3f z3m z3n, z3i, z3o, PySem.W.fnOf "run" "run" (defArgs s_run) (defBody s_run) (defScope s_run) z3t z3u z3v z3w z3q z3x z3y, z3t, z3z, PySem.W.fnOf "alike" "alike" (defArgs s_alike) (defBody s_alike) (defScope s_alike) z44 z45 z46 z47 z41 z48 z49, z44, z4a, PySem.W.fnOf "fate_on_round" "fate_on_round" (defArgs s_fate_on_round) (defBody s_fate_on_round) (defScope s_fate_on_round) z4f z4g z4h z4i z4c z4j z4k, z4f, z4l, PySem.W.fnOf "_law_set" "_law_set" (defArgs s_set) (defBody s_set) (defScope s_set) z4q z4r z4s z4t z4n z4u z4v, z4q, z4w, PySem.W.fnOf "_law_built" "_law_built" (defArgs s_built) (defBody s_built) (defScope s_built) z51 z52 z53 z54 z4y z55 z56, z51, z57, PySem.W.fnOf "_law_kind" "_law_kind" (defArgs s_kind) (defBody s_kind) (defScope s_kind) z5c z5d z5e z5f z59 z5g z5h, z5c, z5i, PySem.W.fnOf "_law_kinds" "_law_kinds" (defArgs s_kinds) (defBody s_kinds) (defScope s_kinds) z5n z5o z5p z5q z5k z5r z5s, z5n, z5t, PySem.W.fnOf "_law_many" "_law_many" (defArgs s_many) (defBody s_many) (defScope s_many) z5y z5z z60 z61 z5v z62 z63, z5y, z64, PySem.W.fnOf "_law_linked" "_law_linked" (defArgs s_linked) (defBody s_linked) (defScope s_linked) z69 z6a z6b z6c z66 z6d z6e, z69, z6f, PySem.W.fnOf "_law_ends" "_law_ends" (defArgs s_ends) (defBody s_ends) (defScope s_ends) z6k z6l z6m z6n z6h z6o z6p, z6k, z6q, PySem.W.fnOf "_law_thrown" "_law_thrown" (defArgs s_thrown) (defBody s_thrown) (defScope s_thrown) z6v z6w z6x z6y z6s z6z z70, z6v, z71, PySem.W.fnOf "_law_size" "_law_size" (defArgs s_size) (defBody s_size) (defScope s_size) z76 z77 z78 z79 z73 z7a z7b, z76, z7c, PySem.W.fnOf "_law_links" "_law_links" (defArgs s_links) (defBody s_links) (defScope s_links) z7h z7i z7j z7k z7e z7l z7m, z7h, z7n, PySem.W.fnOf "_law_stand" "_law_stand" (defArgs s_stand) (defBody s_stand) (defScope s_stand) z7s z7t z7u z7v z7p z7w z7x, z7s, z7y, PySem.W.fnOf "_law_is" "_law_is" (defArgs s_is) (defBody s_is) (defScope s_is) z83 z84 z85 z86 z80 z87 z88, z83, z89, PySem.W.fnOf "_law_whole" "_law_whole" (defArgs s_whole) (defBody s_whole) (defScope s_whole) z8e z8f z8g z8h z8b z8i z8j, z8e, z8k, PySem.W.fnOf "check_note" "check_note" (defArgs s_check_note) (defBody s_check_note) (defScope s_check_note) z8p z8q z8r z8s z8m z8t z8u, z8p, z8v, PySem.W.fnOf "__init__" "Yard.__init__" (defArgs s_Yard_init) (defBody s_Yard_init) (defScope s_Yard_init) z90 z91 z92 z93 z8x z94 z95, z90, z96, PySem.W.fnOf "make_twin" "Yard.make_twin" (defArgs s_Yard_make_twin) (defBody s_Yard_make_twin) (defScope s_Yard_make_twin) z9b z9c z9d z9e z98 z9f z9g, z9b, z9h, PySem.W.fnOf "engine" "Yard.engine" (defArgs s_Yard_engine) (defBody s_Yard_engine) (defScope s_Yard_engine) z9m z9n z9o z9p z9j z9q z9r, z9m, z9s, PySem.W.fnOf "kind" "Yard.kind" (defArgs s_Yard_kind) (defBody s_Yard_kind) (defScope s_Yard_kind) z9x z9y z9z za0 z9u za1 za2, z9x, za3, PySem.W.fnOf "check_piece" "Yard.check_piece" (defArgs s_Yard_check_piece) (defBody s_Yard_check_piece) (defScope s_Yard_check_piece) za8 za9 zaa zab za5 zac zad, za8, zae, PySem.W.fnOf "mate" "Yard.mate" (defArgs s_Yard_mate) (defBody s_Yard_mate) (defScope s_Yard_mate) zaj zak zal zam zag zan zao, zaj, zap, PySem.W.fnOf "check_there" "Yard.check_there" (defArgs s_Yard_check_there) (defBody s_Yard_check_there) (defScope s_Yard_check_there) zau zav zaw zax zar zay zaz, zau, zb0, PySem.W.fnOf "side" "Yard.side" (defArgs s_Yard_side) (defBody s_Yard_side) (defScope s_Yard_side) zb5 zb6 zb7 zb8 zb2 zb9 zba, zb5, zbb, PySem.W.fnOf "check_rod" "Yard.check_rod" (defArgs s_Yard_check_rod) (defBody s_Yard_check_rod) (defScope s_Yard_check_rod) zbg zbh zbi zbj zbd zbk zbl, zbg, zbm, PySem.W.fnOf "rod" "Yard.rod" (defArgs s_Yard_rod) (defBody s_Yard_rod) (defScope s_Yard_rod) zbr zbs zbt zbu zbo zbv zbw, zbr, zbx, PySem.W.fnOf "carry" "Yard.carry" (defArgs s_Yard_carry) (defBody s_Yard_carry) (defScope s_Yard_carry) zc2 zc3 zc4 zc5 zbz zc6 zc7, zc2, zc8, PySem.W.fnOf "put" "Yard.put" (defArgs s_Yard_put) (defBody s_Yard_put) (defScope s_Yard_put) zcd zce zcf zcg zca zch zci, zcd, zcj, PySem.W.fnOf "end_trail" "Yard.end_trail" (defArgs s_Yard_end_trail) (defBody s_Yard_end_trail) (defScope s_Yard_end_trail) zco zcp zcq zcr zcl zcs zct, zco, zcu, PySem.W.fnOf "lay" "Yard.lay" (defArgs s_Yard_lay) (defBody s_Yard_lay) (defScope s_Yard_lay) zcz zd0 zd1 zd2 zcw zd3 zd4, zcz, zd5, PySem.W.fnOf "new_rod" "Yard.new_rod" (defArgs s_Yard_new_rod) (defBody s_Yard_new_rod) (defScope s_Yard_new_rod) zda zdb zdc zdd zd7 zde zdf, zda, zdg, PySem.W.fnOf "link" "Yard.link" (defArgs s_Yard_link) (defBody s_Yard_link) (defScope s_Yard_link) zdl zdm zdn zdo zdi zdp zdq, zdl, zdr, PySem.W.fnOf "throw" "Yard.throw" (defArgs s_Yard_throw) (defBody s_Yard_throw) (defScope s_Yard_throw) zdw zdx zdy zdz zdt ze0 ze1, zdw, ze2, PySem.W.fnOf "rods" "Yard.rods" (defArgs s_Yard_rods) (defBody s_Yard_rods) (defScope s_Yard_rods) ze7 ze8 ze9 zea ze4 zeb zec, ze7, zed, zee, zef, zeg, zeh⟩ where
  F_law := funG_mk zez zf0 zf1
  F_draws := funG_mk zf4 zf5 zf6
  F_fate := funG_mk zf9 zfa zfb
  F_twin := funG_mk zfe zff zfg
  F_held := funG_mk zfj zfk zfl
  F_next_step := funG_mk zfo zfp zfq
  F_passage := funG_mk zft zfu zfv
  F_check_end := funG_mk zfy zfz zg0
  F_ends_of := funG_mk zg3 zg4 zg5
  F_is_point := funG_mk zg8 zg9 zga
  F_check_side := funG_mk zgd zge zgf
  F_point_passage := funG_mk zgi zgj zgk
  F_run := funG_mk zgn zgo zgp
  F_alike := funG_mk zgs zgt zgu
  F_fate_on_round := funG_mk zgx zgy zgz
  F_set := funG_mk zh2 zh3 zh4
  F_built := funG_mk zh7 zh8 zh9
  F_kind := funG_mk zhc zhd zhe
  F_kinds := funG_mk zhh zhi zhj
  F_many := funG_mk zhm zhn zho
  F_linked := funG_mk zhr zhs zht
  F_ends := funG_mk zhw zhx zhy
  F_thrown := funG_mk zi1 zi2 zi3
  F_size := funG_mk zi6 zi7 zi8
  F_links := funG_mk zib zic zid
  F_stand := funG_mk zig zih zii
  F_is := funG_mk zil zim zin
  F_whole := funG_mk ziq zir zis
  F_check_note := funG_mk ziv ziw zix
  F_Yard_init := funG_mk zj1 zj2 zj3
  F_Yard_make_twin := funG_mk zj7 zj8 zj9
  F_Yard_engine := funG_mk zjd zje zjf
  F_Yard_kind := funG_mk zjj zjk zjl
  F_Yard_check_piece := funG_mk zjp zjq zjr
  F_Yard_mate := funG_mk zjv zjw zjx
  F_Yard_check_there := funG_mk zk1 zk2 zk3
  F_Yard_side := funG_mk zk7 zk8 zk9
  F_Yard_check_rod := funG_mk zkd zke zkf
  F_Yard_rod := funG_mk zkj zkk zkl
  F_Yard_carry := funG_mk zkp zkq zkr
  F_Yard_put := funG_mk zkv zkw zkx
  F_Yard_end_trail := funG_mk zl1 zl2 zl3
  F_Yard_lay := funG_mk zl7 zl8 zl9
  F_Yard_new_rod := funG_mk zle zlf zlg
  F_Yard_link := funG_mk zll zlm zln
  F_Yard_throw := funG_mk zlr zls zlt
  F_Yard_rods := funG_mk zlx zly zlz
  m_law := PySem.W.mg_of KX G zey
  e_law := zf2
  m_draws := PySem.W.mg_of KX G zf3
  e_draws := zf7
  m_fate := PySem.W.mg_of KX G zf8
  e_fate := zfc
  m_twin := PySem.W.mg_of KX G zfd
  e_twin := zfh
  m_held := PySem.W.mg_of KX G zfi
  e_held := zfm
  m_next_step := PySem.W.mg_of KX G zfn
  e_next_step := zfr
  m_passage := PySem.W.mg_of KX G zfs
  e_passage := zfw
  m_check_end := PySem.W.mg_of KX G zfx
  e_check_end := zg1
  m_ends_of := PySem.W.mg_of KX G zg2
  e_ends_of := zg6
  m_is_point := PySem.W.mg_of KX G zg7
  e_is_point := zgb
  m_check_side := PySem.W.mg_of KX G zgc
  e_check_side := zgg
  m_point_passage := PySem.W.mg_of KX G zgh
  e_point_passage := zgl
  m_run := PySem.W.mg_of KX G zgm
  e_run := zgq
  m_alike := PySem.W.mg_of KX G zgr
  e_alike := zgv
  m_fate_on_round := PySem.W.mg_of KX G zgw
  e_fate_on_round := zh0
  m_set := PySem.W.mg_of KX G zh1
  e_set := zh5
  m_built := PySem.W.mg_of KX G zh6
  e_built := zha
  m_kind := PySem.W.mg_of KX G zhb
  e_kind := zhf
  m_kinds := PySem.W.mg_of KX G zhg
  e_kinds := zhk
  m_many := PySem.W.mg_of KX G zhl
  e_many := zhp
  m_linked := PySem.W.mg_of KX G zhq
  e_linked := zhu
  m_ends := PySem.W.mg_of KX G zhv
  e_ends := zhz
  m_thrown := PySem.W.mg_of KX G zi0
  e_thrown := zi4
  m_size := PySem.W.mg_of KX G zi5
  e_size := zi9
  m_links := PySem.W.mg_of KX G zia
  e_links := zie
  m_stand := PySem.W.mg_of KX G zif
  e_stand := zij
  m_is := PySem.W.mg_of KX G zik
  e_is := zio
  m_whole := PySem.W.mg_of KX G zip
  e_whole := zit
  m_check_note := PySem.W.mg_of KX G ziu
  e_check_note := ziy
  e_Yard_init := zj4
  M_Yard_make_twin := ⟨zj5, zj6, zj9⟩
  e_Yard_make_twin := zja
  M_Yard_engine := ⟨zjb, zjc, zjf⟩
  e_Yard_engine := zjg
  M_Yard_kind := ⟨zjh, zji, zjl⟩
  e_Yard_kind := zjm
  M_Yard_check_piece := ⟨zjn, zjo, zjr⟩
  e_Yard_check_piece := zjs
  M_Yard_mate := ⟨zjt, zju, zjx⟩
  e_Yard_mate := zjy
  M_Yard_check_there := ⟨zjz, zk0, zk3⟩
  e_Yard_check_there := zk4
  M_Yard_side := ⟨zk5, zk6, zk9⟩
  e_Yard_side := zka
  M_Yard_check_rod := ⟨zkb, zkc, zkf⟩
  e_Yard_check_rod := zkg
  M_Yard_rod := ⟨zkh, zki, zkl⟩
  e_Yard_rod := zkm
  M_Yard_carry := ⟨zkn, zko, zkr⟩
  e_Yard_carry := zks
  M_Yard_put := ⟨zkt, zku, zkx⟩
  e_Yard_put := zky
  M_Yard_end_trail := ⟨zkz, zl0, zl3⟩
  e_Yard_end_trail := zl4
  M_Yard_lay := ⟨zl5, zl6, zl9⟩
  D_Yard_lay := ⟨zei, zej, zek, zel, zem, zla, zlb⟩
  M_Yard_new_rod := ⟨zlc, zld, zlg⟩
  D_Yard_new_rod := ⟨zen, zeo, zep, zeq, zer, zlh, zli⟩
  M_Yard_link := ⟨zlj, zlk, zln⟩
  e_Yard_link := zlo
  M_Yard_throw := ⟨zlp, zlq, zlt⟩
  e_Yard_throw := zlu
  M_Yard_rods := ⟨zlv, zlw, zlz⟩
  e_Yard_rods := zm0
  cl_Yard := ⟨zm1, zm2, zm3, zm4⟩
  m_Yard := PySem.W.mg_of KX G zex
  mk_Yard := ⟨zm5, ziz, zj0, zm6⟩
  n_Yard_next_piece := zm7
  n_Yard_kinds := zm8
  n_Yard_notes := zm9
  n_Yard_rods_under := zma
  n_Yard_sides := zmb
  n_Yard_mates := zmc
  n_Yard_engine_end := zmd
  n_Yard_rung := zme
  n_Yard_trail := zmf
  z_abs := PySem.W.mg_none_of KX G zmg
  z_bool := PySem.W.mg_none_of KX G zmh
  z_dict := PySem.W.mg_none_of KX G zmi
  z_enumerate := PySem.W.mg_none_of KX G zmj
  z_int := PySem.W.mg_none_of KX G zmk
  z_isinstance := PySem.W.mg_none_of KX G zml
  z_len := PySem.W.mg_none_of KX G zmm
  z_list := PySem.W.mg_none_of KX G zmn
  z_max := PySem.W.mg_none_of KX G zmo
  z_range := PySem.W.mg_none_of KX G zmp
  g_ENDS := PySem.W.mg_of KX G zmq
  x_ENDS := zmr
  g_LAST_NOTE := PySem.W.mg_of KX G zms
  r_LAST_NOTE := zmt
  g_POINTS := PySem.W.mg_of KX G zmu
  x_POINTS := ⟨zes, _, zeu, zev, zmv, zmw, rfl, rfl, zmx, zmy⟩
  g_STEM := PySem.W.mg_of KX G zmz
  r_STEM := zn0
end P
def PySem.W.Fast.tw18432219343046198076 : Unit := ()
def PySem.W.Fast.tw1780187581414365314 : Unit := ()
def PySem.W.Fast.tw3418760151572658746 : Unit := ()
def PySem.W.Fast.tw6824468040592939387 : Unit := ()
def PySem.W.Fast.tw409374975982748621 : Unit := ()
def PySem.W.Fast.tw4834921226768287173 : Unit := ()
def PySem.W.Fast.tw14120737192871984935 : Unit := ()
def PySem.W.Fast.tw15901346614567743338 : Unit := ()
def PySem.W.Fast.tw13840992136621123329 : Unit := ()
def PySem.W.Fast.tw17170595115883952910 : Unit := ()
def PySem.W.Fast.tw17537584070941917166 : Unit := ()
def PySem.W.Fast.tw7933932460299259008 : Unit := ()
def PySem.W.Fast.tw3661853193828324883 : Unit := ()
def PySem.W.Fast.tw14620474234951293904 : Unit := ()
def PySem.W.Fast.tw12161761340536670790 : Unit := ()
def PySem.W.Fast.tw12626670380438424427 : Unit := ()
def PySem.W.Fast.tw16643219676331254238 : Unit := ()
def PySem.W.Fast.tw8014626869790003876 : Unit := ()
def PySem.W.Fast.tw9550093685831558365 : Unit := ()
def PySem.W.Fast.tw834718261572291975 : Unit := ()
def PySem.W.Fast.tw14269299047471466267 : Unit := ()
def PySem.W.Fast.tw4533464504082225088 : Unit := ()
def PySem.W.Fast.tw2632098307691482839 : Unit := ()
def PySem.W.Fast.tw17944306401528680178 : Unit := ()
def PySem.W.Fast.tw8210209330027917357 : Unit := ()
def PySem.W.Fast.tw2112232063456537024 : Unit := ()
def PySem.W.Fast.tw13918479678907847592 : Unit := ()
def PySem.W.Fast.tw11526634234503266653 : Unit := ()
def PySem.W.Fast.tw15395597003324638637 : Unit := ()
def PySem.W.Fast.tw17378503236338132577 : Unit := ()
def PySem.W.Fast.tw4363354474772375558 : Unit := ()
def PySem.W.Fast.tw1716932215930522803 : Unit := ()
def PySem.W.Fast.tw15070290105461090844 : Unit := ()
def PySem.W.Fast.tw12833107666344551741 : Unit := ()
def PySem.W.Fast.tw16755890843251620907 : Unit := ()
def PySem.W.Fast.tw13363471208652520777 : Unit := ()
def PySem.W.Fast.tw17740156003818645542 : Unit := ()
def PySem.W.Fast.tw8747665774631860247 : Unit := ()
def PySem.W.Fast.tw13749191420044905105 : Unit := ()
def PySem.W.Fast.tw171425803121863983 : Unit := ()
def PySem.W.Fast.tw15453905364589840646 : Unit := ()
def PySem.W.Fast.tw10846690680575000399 : Unit := ()
def PySem.W.Fast.tw15900287799853627460 : Unit := ()
def PySem.W.Fast.tw5978631009077587423 : Unit := ()
def PySem.W.Fast.tw3990850302716426667 : Unit := ()
def PySem.W.Fast.tw18359177173131584712 : Unit := ()
def PySem.W.Fast.tw15493585326910306609 : Unit := ()
def PySem.W.Fast.tw5548059889360111029 : Unit := ()
def PySem.W.Fast.tw5941286335184927515 : Unit := ()
def PySem.W.Fast.tw12537311890194739549 : Unit := ()
def PySem.W.Fast.tw6343668552144375982 : Unit := ()
def PySem.W.Fast.tw3963490134909171045 : Unit := ()
def PySem.W.Fast.tw11080758839785428412 : Unit := ()
def PySem.W.Fast.tw6974511068857902242 : Unit := ()
def PySem.W.Fast.tw6829602078264649146 : Unit := ()
def PySem.W.Fast.tw13020974820423298238 : Unit := ()
def PySem.W.Fast.tw4492243294183311954 : Unit := ()
def PySem.W.Fast.tw568412895838587287 : Unit := ()
def PySem.W.Fast.tw241067398516198095 : Unit := ()
def PySem.W.Fast.tw6806087638170826497 : Unit := ()
def PySem.W.Fast.tw2966496107422977342 : Unit := ()
def PySem.W.Fast.tw18432733934097612749 : Unit := ()
def PySem.W.Fast.tw11782640801150305833 : Unit := ()
def PySem.W.Fast.tw8946950160741425971 : Unit := ()
def PySem.W.Fast.tw11952336347056246124 : Unit := ()
def PySem.W.Fast.tw6117648755387635202 : Unit := ()
def PySem.W.Fast.tw12652187862848434702 : Unit := ()
def PySem.W.Fast.tw707878996313778370 : Unit := ()
def PySem.W.Fast.tw6700663731307984603 : Unit := ()
def PySem.W.Fast.tw5953691023710527729 : Unit := ()
def PySem.W.Fast.tw3239499518319648336 : Unit := ()
def PySem.W.Fast.tw13505607509568616814 : Unit := ()
def PySem.W.Fast.tw8903591614452847659 : Unit := ()
def PySem.W.Fast.tw6371568583886218554 : Unit := ()
def PySem.W.Fast.tw10773952135724984985 : Unit := ()
def PySem.W.Fast.tw10687313591429556069 : Unit := ()
def PySem.W.Fast.tw16681888236809511434 : Unit := ()
def PySem.W.Fast.tw12145389460175178632 : Unit := ()
def PySem.W.Fast.tw4947938329794262721 : Unit := ()
def PySem.W.Fast.tw12487850045934413205 : Unit := ()
def PySem.W.Fast.tw3207631036971157397 : Unit := ()
def PySem.W.Fast.tw7986434701027050477 : Unit := ()
def PySem.W.Fast.tw16559071484559146281 : Unit := ()
def PySem.W.Fast.tw16448226050254954969 : Unit := ()
def PySem.W.Fast.tw7703828608167916484 : Unit := ()
def PySem.W.Fast.tw17108660849554111684 : Unit := ()
def PySem.W.Fast.tw11432232695110161355 : Unit := ()
def PySem.W.Fast.tw12408229845392727265 : Unit := ()
def PySem.W.Fast.tw17319917843551625671 : Unit := ()
def PySem.W.Fast.tw5016299066883600027 : Unit := ()
def PySem.W.Fast.tw12905856258561853410 : Unit := ()
def PySem.W.Fast.tw9382809131865843865 : Unit := ()
def PySem.W.Fast.tw15500084617116773249 : Unit := ()
def PySem.W.Fast.tw875446625265467447 : Unit := ()
def PySem.W.Fast.tw4627243800421197078 : Unit := ()
def PySem.W.Fast.tw6404051702760695040 : Unit := ()
def PySem.W.Fast.tw356826949159978421 : Unit := ()
def PySem.W.Fast.tw1322252106116453390 : Unit := ()
def PySem.W.Fast.tw15978208420839938367 : Unit := ()
def PySem.W.Fast.tw13796455719323233015 : Unit := ()
def PySem.W.Fast.tw16431546770185568535 : Unit := ()
def PySem.W.Fast.tw9313621666784623930 : Unit := ()
def PySem.W.Fast.tw4794008749437350337 : Unit := ()
def PySem.W.Fast.tw15481832743530187169 : Unit := ()
def PySem.W.Fast.tw17962938001417077747 : Unit := ()
def PySem.W.Fast.tw6159402218507391163 : Unit := ()
def PySem.W.Fast.tw2076285346914506531 : Unit := ()
def PySem.W.Fast.tw11836484895280094540 : Unit := ()
def PySem.W.Fast.tw4496571963063673106 : Unit := ()
def PySem.W.Fast.tw15402601022241053666 : Unit := ()
def PySem.W.Fast.tw18387752391098328966 : Unit := ()
def PySem.W.Fast.tw17837869634720215198 : Unit := ()
def PySem.W.Fast.tw16851903229049275548 : Unit := ()
def PySem.W.Fast.tw15005771252705454598 : Unit := ()
def PySem.W.Fast.tw9122730418397032398 : Unit := ()
def PySem.W.Fast.tw7773517449145589031 : Unit := ()
def PySem.W.Fast.tw17663945576054645812 : Unit := ()
def PySem.W.Fast.tw15514254916670647947 : Unit := ()
def PySem.W.Fast.tw1086189239267980970 : Unit := ()
def PySem.W.Fast.tw6226461177915854392 : Unit := ()
def PySem.W.Fast.tw18145804825802126134 : Unit := ()
def PySem.W.Fast.tw2029915555665033076 : Unit := ()
def PySem.W.Fast.tw15956151010371562516 : Unit := ()
def PySem.W.Fast.tw14025427906100330432 : Unit := ()
def PySem.W.Fast.tw10222136744945642663 : Unit := ()
def PySem.W.Fast.tw3529243180992002855 : Unit := ()
def PySem.W.Fast.tw12861694643380110465 : Unit := ()
def PySem.W.Fast.tw14871326109589676640 : Unit := ()
def PySem.W.Fast.tw12962270193036095912 : Unit := ()
def PySem.W.Fast.tw3717786710241738390 : Unit := ()
def PySem.W.Fast.tw240790524288700402 : Unit := ()
def PySem.W.Fast.tw16955240228496895985 : Unit := ()
def PySem.W.Fast.tw5414024958244433186 : Unit := ()
def PySem.W.Fast.tw14671010118284260658 : Unit := ()
def PySem.W.Fast.tw15711997449042774160 : Unit := ()
def PySem.W.Fast.tw16274761592712494327 : Unit := ()
def PySem.W.Fast.tw6878939333310521737 : Unit := ()
def PySem.W.Fast.tw9470107036497936525 : Unit := ()
def PySem.W.Fast.tw7251067857021310818 : Unit := ()
def PySem.W.Fast.tw6228083856319353751 : Unit := ()
def PySem.W.Fast.tw7586904865667647245 : Unit := ()
def PySem.W.Fast.tw2807932793250618364 : Unit := ()
def PySem.W.Fast.tw10138240524953231014 : Unit := ()
def PySem.W.Fast.tw15221198680143576866 : Unit := ()
def PySem.W.Fast.tw5676469114808914225 : Unit := ()
def PySem.W.Fast.tw8002268666387991815 : Unit := ()
def PySem.W.Fast.tw7025752838526779477 : Unit := ()
def PySem.W.Fast.tw16811211713201681210 : Unit := ()
def PySem.W.Fast.tw8237213532844447850 : Unit := ()
def PySem.W.Fast.tw13932958443929803450 : Unit := ()
def PySem.W.Fast.tw3745353649422332205 : Unit := ()
def PySem.W.Fast.tw6097102154924773590 : Unit := ()
def PySem.W.Fast.tw15773981260624960336 : Unit := ()
def PySem.W.Fast.tw11203174815757476464 : Unit := ()
def PySem.W.Fast.tw6203014907764450967 : Unit := ()
def PySem.W.Fast.tw8413057510144066269 : Unit := ()
def PySem.W.Fast.tw2079576234611508560 : Unit := ()
def PySem.W.Fast.tw15905893394956137367 : Unit := ()
def PySem.W.Fast.tw5046608413932304081 : Unit := ()
def PySem.W.Fast.tw11053111622535166833 : Unit := ()
def PySem.W.Fast.tw13869492372308973061 : Unit := ()
def PySem.W.Fast.tw3691033475657704088 : Unit := ()

open PySem PySem.W PyProof.Rows
set_option maxRecDepth 100000 in
set_option maxHeartbeats 0 in
theorem PySem.Challenge.cw_lazyrails_k27_whole_round_is_walked_holds : PySem.Challenge.rw_lazyrails_k27_whole_round_is_walked.Holds := by
  w_on; o_law; k_head; (case hw => w_witness2)
  k_fill
  refine L2.walk_ofK (l := PySem.Challenge.rw_lazyrails_k27_whole_round_is_walked) (n := 63) (k := 14) (x := "_law_script") (CX := L2.CX0) (sp := P.sp_law) rfl (by decide) rfl ⟨rfl, by decide, by decide, rfl⟩ (fun w h Y => PySem.W.kIn_of Y) ?F ?S ?C
  case F =>
    intro w mg fa h KX G hmg
    have T : ∃ t, P.Txt (L2.KOf KX) mg t := by
      dsimp only [L2.KOf]
      refine' ⟨_, P.txt_mk KX G ?zex ?zey ?zez ?zf0 ?zf1 ?zf2 ?zf3 ?zf4 ?zf5 ?zf6 ?zf7 ?zf8 ?zf9 ?zfa ?zfb ?zfc ?zfd ?zfe ?zff ?zfg ?zfh ?zfi ?zfj ?zfk ?zfl ?zfm ?zfn ?zfo ?zfp ?zfq ?zfr ?zfs ?zft ?zfu ?zfv ?zfw ?zfx ?zfy ?zfz ?zg0 ?zg1 ?zg2 ?zg3 ?zg4 ?zg5 ?zg6 ?zg7 ?zg8 ?zg9 ?zga ?zgb ?zgc ?zgd ?zge ?zgf ?zgg ?zgh ?zgi ?zgj ?zgk ?zgl ?zgm ?zgn ?zgo ?zgp ?zgq ?zgr ?zgs ?zgt ?zgu ?zgv ?zgw ?zgx ?zgy ?zgz ?zh0 ?zh1 ?zh2 ?zh3 ?zh4 ?zh5 ?zh6 ?zh7 ?zh8 ?zh9 ?zha ?zhb ?zhc ?zhd ?zhe ?zhf ?zhg ?zhh ?zhi ?zhj ?zhk ?zhl ?zhm ?zhn ?zho ?zhp ?zhq ?zhr ?zhs ?zht ?zhu ?zhv ?zhw ?zhx ?zhy ?zhz ?zi0 ?zi1 ?zi2 ?zi3 ?zi4 ?zi5 ?zi6 ?zi7 ?zi8 ?zi9 ?zia ?zib ?zic ?zid ?zie ?zif ?zig ?zih ?zii ?zij ?zik ?zil ?zim ?zin ?zio ?zip ?ziq ?zir ?zis ?zit ?ziu ?ziv ?ziw ?zix ?ziy ?ziz ?zj0 ?zj1 ?zj2 ?zj3 ?zj4 ?zj5 ?zj6 ?zj7 ?zj8 ?zj9 ?zja ?zjb ?zjc ?zjd ?zje ?zjf ?zjg ?zjh ?zji ?zjj ?zjk ?zjl ?zjm ?zjn ?zjo ?zjp ?zjq ?zjr ?zjs ?zjt ?zju ?zjv ?zjw ?zjx ?zjy ?zjz ?zk0 ?zk1 ?zk2 ?zk3 ?zk4 ?zk5 ?zk6 ?zk7 ?zk8 ?zk9 ?zka ?zkb ?zkc ?zkd ?zke ?zkf ?zkg ?zkh ?zki ?zkj ?zkk ?zkl ?zkm ?zkn ?zko ?zkp ?zkq ?zkr ?zks ?zkt ?zku ?zkv ?zkw ?zkx ?zky ?zkz ?zl0 ?zl1 ?zl2 ?zl3 ?zl4 ?zl5 ?zl6 ?zl7 ?zl8 ?zl9 ?zla ?zlb ?zlc ?zld ?zle ?zlf ?zlg ?zlh ?zli ?zlj ?zlk ?zll ?zlm ?zln ?zlo ?zlp ?zlq ?zlr ?zls ?zlt ?zlu ?zlv ?zlw ?zlx ?zly ?zlz ?zm0 ?zm1 ?zm2 ?zm3 ?zm4 ?zm5 ?zm6 ?zm7 ?zm8 ?zm9 ?zma ?zmb ?zmc ?zmd ?zme ?zmf ?zmg ?zmh ?zmi ?zmj ?zmk ?zml ?zmm ?zmn ?zmo ?zmp ?zmq ?zmr ?zms ?zmt ?zmu ?zmv ?zmw ?zmx ?zmy ?zmz ?zn0⟩
      (case zex => k_is)
      (case zey => k_is)
      (case zez => k_is)
      (case zf0 => k_is)
      (case zf1 => k_is)
      (case zf2 => exact rfl)
      (case zf3 => k_is)
      (case zf4 => k_is)
      (case zf5 => k_is)
      (case zf6 => k_is)
      (case zf7 => exact rfl)
      (case zf8 => k_is)
      (case zf9 => k_is)
      (case zfa => k_is)
      (case zfb => k_is)
      (case zfc => exact rfl)
      (case zfd => k_is)
      (case zfe => k_is)
      (case zff => k_is)
      (case zfg => k_is)
      (case zfh => exact rfl)
      (case zfi => k_is)
      (case zfj => k_is)
      (case zfk => k_is)
      (case zfl => k_is)
      (case zfm => exact rfl)
      (case zfn => k_is)
      (case zfo => k_is)
      (case zfp => k_is)
      (case zfq => k_is)
      (case zfr => exact rfl)
      (case zfs => k_is)
      (case zft => k_is)
      (case zfu => k_is)
      (case zfv => k_is)
      (case zfw => exact rfl)
      (case zfx => k_is)
      (case zfy => k_is)
      (case zfz => k_is)
      (case zg0 => k_is)
      (case zg1 => exact rfl)
      (case zg2 => k_is)
      (case zg3 => k_is)
      (case zg4 => k_is)
      (case zg5 => k_is)
      (case zg6 => exact rfl)
      (case zg7 => k_is)
      (case zg8 => k_is)
      (case zg9 => k_is)
      (case zga => k_is)
      (case zgb => exact rfl)
      (case zgc => k_is)
      (case zgd => k_is)
      (case zge => k_is)
      (case zgf => k_is)
      (case zgg => exact rfl)
      (case zgh => k_is)
      (case zgi => k_is)
      (case zgj => k_is)
      (case zgk => k_is)
      (case zgl => exact rfl)
      (case zgm => k_is)
      (case zgn => k_is)
      (case zgo => k_is)
      (case zgp => k_is)
      (case zgq => exact rfl)
      (case zgr => k_is)
      (case zgs => k_is)
      (case zgt => k_is)
      (case zgu => k_is)
      (case zgv => exact rfl)
      (case zgw => k_is)
      (case zgx => k_is)
      (case zgy => k_is)
      (case zgz => k_is)
      (case zh0 => exact rfl)
      (case zh1 => k_is)
      (case zh2 => k_is)
      (case zh3 => k_is)
      (case zh4 => k_is)
      (case zh5 => exact rfl)
      (case zh6 => k_is)
      (case zh7 => k_is)
      (case zh8 => k_is)
      (case zh9 => k_is)
      (case zha => exact rfl)
      (case zhb => k_is)
      (case zhc => k_is)
      (case zhd => k_is)
      (case zhe => k_is)
      (case zhf => exact rfl)
      (case zhg => k_is)
      (case zhh => k_is)
      (case zhi => k_is)
      (case zhj => k_is)
      (case zhk => exact rfl)
      (case zhl => k_is)
      (case zhm => k_is)
      (case zhn => k_is)
      (case zho => k_is)
      (case zhp => exact rfl)
      (case zhq => k_is)
      (case zhr => k_is)
      (case zhs => k_is)
      (case zht => k_is)
      (case zhu => exact rfl)
      (case zhv => k_is)
      (case zhw => k_is)
      (case zhx => k_is)
      (case zhy => k_is)
      (case zhz => exact rfl)
      (case zi0 => k_is)
      (case zi1 => k_is)
      (case zi2 => k_is)
      (case zi3 => k_is)
      (case zi4 => exact rfl)
      (case zi5 => k_is)
      (case zi6 => k_is)
      (case zi7 => k_is)
      (case zi8 => k_is)
      (case zi9 => exact rfl)
      (case zia => k_is)
      (case zib => k_is)
      (case zic => k_is)
      (case zid => k_is)
      (case zie => exact rfl)
      (case zif => k_is)
      (case zig => k_is)
      (case zih => k_is)
      (case zii => k_is)
      (case zij => exact rfl)
      (case zik => k_is)
      (case zil => k_is)
      (case zim => k_is)
      (case zin => k_is)
      (case zio => exact rfl)
      (case zip => k_is)
      (case ziq => k_is)
      (case zir => k_is)
      (case zis => k_is)
      (case zit => exact rfl)
      (case ziu => k_is)
      (case ziv => k_is)
      (case ziw => k_is)
      (case zix => k_is)
      (case ziy => exact rfl)
      (case ziz => k_is)
      (case zj0 => k_is)
      (case zj1 => k_is)
      (case zj2 => k_is)
      (case zj3 => k_is)
      (case zj4 => exact rfl)
      (case zj5 => k_is)
      (case zj6 => k_is)
      (case zj7 => k_is)
      (case zj8 => k_is)
      (case zj9 => k_is)
      (case zja => exact rfl)
      (case zjb => k_is)
      (case zjc => k_is)
      (case zjd => k_is)
      (case zje => k_is)
      (case zjf => k_is)
      (case zjg => exact rfl)
      (case zjh => k_is)
      (case zji => k_is)
      (case zjj => k_is)
      (case zjk => k_is)
      (case zjl => k_is)
      (case zjm => exact rfl)
      (case zjn => k_is)
      (case zjo => k_is)
      (case zjp => k_is)
      (case zjq => k_is)
      (case zjr => k_is)
      (case zjs => exact rfl)
      (case zjt => k_is)
      (case zju => k_is)
      (case zjv => k_is)
      (case zjw => k_is)
      (case zjx => k_is)
      (case zjy => exact rfl)
      (case zjz => k_is)
      (case zk0 => k_is)
      (case zk1 => k_is)
      (case zk2 => k_is)
      (case zk3 => k_is)
      (case zk4 => exact rfl)
      (case zk5 => k_is)
      (case zk6 => k_is)
      (case zk7 => k_is)
      (case zk8 => k_is)
      (case zk9 => k_is)
      (case zka => exact rfl)
      (case zkb => k_is)
      (case zkc => k_is)
      (case zkd => k_is)
      (case zke => k_is)
      (case zkf => k_is)
      (case zkg => exact rfl)
      (case zkh => k_is)
      (case zki => k_is)
      (case zkj => k_is)
      (case zkk => k_is)
      (case zkl => k_is)
      (case zkm => exact rfl)
      (case zkn => k_is)
      (case zko => k_is)
      (case zkp => k_is)
      (case zkq => k_is)
      (case zkr => k_is)
      (case zks => exact rfl)
      (case zkt => k_is)
      (case zku => k_is)
      (case zkv => k_is)
      (case zkw => k_is)
      (case zkx => k_is)
      (case zky => exact rfl)
      (case zkz => k_is)
      (case zl0 => k_is)
      (case zl1 => k_is)
      (case zl2 => k_is)
      (case zl3 => k_is)
      (case zl4 => exact rfl)
      (case zl5 => k_is)
      (case zl6 => k_is)
      (case zl7 => k_is)
      (case zl8 => k_is)
      (case zl9 => k_is)
      (case zla => exact rfl)
      (case zlb => k_is)
      (case zlc => k_is)
      (case zld => k_is)
      (case zle => k_is)
      (case zlf => k_is)
      (case zlg => k_is)
      (case zlh => exact rfl)
      (case zli => k_is)
      (case zlj => k_is)
      (case zlk => k_is)
      (case zll => k_is)
      (case zlm => k_is)
      (case zln => k_is)
      (case zlo => exact rfl)
      (case zlp => k_is)
      (case zlq => k_is)
      (case zlr => k_is)
      (case zls => k_is)
      (case zlt => k_is)
      (case zlu => exact rfl)
      (case zlv => k_is)
      (case zlw => k_is)
      (case zlx => k_is)
      (case zly => k_is)
      (case zlz => k_is)
      (case zm0 => exact rfl)
      (case zm1 => k_is)
      (case zm2 => k_is)
      (case zm3 => k_is)
      (case zm4 => k_is)
      (case zm5 => k_is)
      (case zm6 => k_is)
      (case zm7 => k_is)
      (case zm8 => k_is)
      (case zm9 => k_is)
      (case zma => k_is)
      (case zmb => k_is)
      (case zmc => k_is)
      (case zmd => k_is)
      (case zme => k_is)
      (case zmf => k_is)
      (case zmg => k_is)
      (case zmh => k_is)
      (case zmi => k_is)
      (case zmj => k_is)
      (case zmk => k_is)
      (case zml => k_is)
      (case zmm => k_is)
      (case zmn => k_is)
      (case zmo => k_is)
      (case zmp => k_is)
      (case zmq => k_is)
      (case zmr => exact ⟨_, rfl, by kernel_rfl⟩)
      (case zms => k_is)
      (case zmt => exact ⟨_, rfl⟩)
      (case zmu => k_is)
      (case zmv => exact rfl)
      (case zmw => k_is)
      (case zmx => exact (show 3 ≤ PySem.sizeLine by decide))
      (case zmy => exact .cons ⟨_, rfl⟩ (.cons ⟨_, rfl⟩ (.cons ⟨_, rfl⟩ (.nil))))
      (case zmz => k_is)
      (case zn0 => exact ⟨_, rfl⟩)
    obtain ⟨t, T⟩ := T
    have e0 := hmg.symm.trans T.m_law
    cases e0
    exact ⟨_, fun s u => P.law_binds T s u, fun base kb nb => P.ok_law T⟩
  case S => exact fun K H a ns hl hO hS => P.law_start hl hS
  case C => exact fun H s e s' z => z
