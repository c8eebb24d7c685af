import PyProof.Rows.All
import Wide.All
import OpenK.AllK
import Wide.FinOn
import Lean
import PyProof.EqAt
import PyProof.EqKinds
import PyProof.TupleCall
import PyProof.ZipIter
import PyProof.EnumMake
import PyProof.ListRange
import KE.KDictList
import KE.LcSums
import KE.KTabLook
import PyProof.P3In
import PySem.Challenge.RW_lazyrails_k08_pieces_lifted
set_option Elab.async false
set_option linter.all false
set_option maxRecDepth 100000
namespace L2
open PySem PySem.Spec PyProof.Rows

abbrev Key := Sum Int Str
def keyIs : Key → Value → Bool
  | .inl k, v => Value.isInt k v
  | .inr x, v => Value.isStrOf x v
def keyH (w : World) : Key → Int
  | .inl k => hashInt k
  | .inr x => hashStr w x
theorem keyIs_shape : ∀ {k : Key} {v : Value}, keyIs k v = true → (∃ i t, k = Sum.inl i ∧ v = Value.int i t) ∨ (∃ x t, k = Sum.inr x ∧ v = Value.str x t)
  | .inl i, v, h => by
    obtain ⟨t, e⟩ := Value.isInt_shape (k := i) (v := v) h
    exact .inl ⟨i, t, rfl, e⟩
  | .inr x, v, h => by
    obtain ⟨t, e⟩ := Value.isStrOf_shape (x := x) (v := v) h
    exact .inr ⟨x, t, rfl, e⟩
theorem keyIs_int (i : Int) (t : Tok) : keyIs (.inl i) (.int i t) = true := by simp [keyIs, Value.isInt]
theorem keyIs_str (x : Str) (t : Tok) : keyIs (.inr x) (.str x t) = true := by simp [keyIs, Value.isStrOf]
theorem key_ll (a b : Int) : decide ((Sum.inl a : Key) = Sum.inl b) = (a == b) := by
  by_cases e : a = b
  · subst e; simp
  · have h : ¬ (Sum.inl a : Key) = Sum.inl b := fun q => e (Sum.inl.inj q)
    rw [decide_eq_false h]
    exact (beq_eq_false_iff_ne.mpr e).symm
theorem key_rr (a b : Str) : decide ((Sum.inr a : Key) = Sum.inr b) = decide (a = b) := by
  by_cases e : a = b
  · subst e; simp
  · have h : ¬ (Sum.inr a : Key) = Sum.inr b := fun q => e (Sum.inr.inj q)
    rw [decide_eq_false h, decide_eq_false e]
theorem key_lr (a : Int) (b : Str) : decide ((Sum.inl a : Key) = Sum.inr b) = false := decide_eq_false (fun q => nomatch q)
theorem key_rl (a : Str) (b : Int) : decide ((Sum.inr a : Key) = Sum.inl b) = false := decide_eq_false (fun q => nomatch q)

def mixKind (prog : Program) (w : World) : PySem.KeyKind prog w Key where
  is := keyIs
  hash := keyH w
  inj := fun v a b ha hb => by
    rcases keyIs_shape ha with ⟨i, t, rfl, rfl⟩ | ⟨x, t, rfl, rfl⟩
    · rcases keyIs_shape hb with ⟨j, u, rfl, e⟩ | ⟨y, u, rfl, e⟩
      · injection e with e1 _; rw [e1]
      · exact nomatch e
    · rcases keyIs_shape hb with ⟨j, u, rfl, e⟩ | ⟨y, u, rfl, e⟩
      · exact nomatch e
      · injection e with e1 _; rw [e1]
  byValue := fun k v h => by
    rcases keyIs_shape h with ⟨i, t, rfl, rfl⟩ | ⟨x, t, rfl, rfl⟩ <;> rfl
  pyHash := fun hv h => by
    rcases keyIs_shape hv with ⟨i, t, rfl, rfl⟩ | ⟨x, t, rfl, rfl⟩
    · exact wpAny_pyHash_int h
    · exact wpAny_pyHash_str h
  eqBool := fun hu hv h => by
    rcases keyIs_shape hu with ⟨i, t, rfl, rfl⟩ | ⟨x, t, rfl, rfl⟩
    · rcases keyIs_shape hv with ⟨j, u, rfl, rfl⟩ | ⟨y, u, rfl, rfl⟩
      · rw [key_ll] at h; exact wpAny_eqBool_int h
      · rw [key_lr] at h; exact SeqAt.EqAt.int_str i t y u _ _ _ _ h
    · rcases keyIs_shape hv with ⟨j, u, rfl, rfl⟩ | ⟨y, u, rfl, rfl⟩
      · rw [key_rl] at h; exact SeqAt.EqAt.str_int x t j u _ _ _ _ h
      · rw [key_rr] at h; exact wpAny_eqBool_str h
  «strs» := fun k x t v h => by
    rcases keyIs_shape h with ⟨i, u, rfl, e⟩ | ⟨y, u, rfl, e⟩
    · exact nomatch e
    · injection e with e1 _
      subst e1
      cases v <;> rfl

theorem mixKind_int (prog : Program) (w : World) (i : Int) (t : Tok) : (mixKind prog w).is (.inl i) (.int i t) = true := keyIs_int i t
theorem mixKind_str (prog : Program) (w : World) (x : Str) (t : Tok) : (mixKind prog w).is (.inr x) (.str x t) = true := keyIs_str x t
end L2

namespace L2
open PySem PySem.Spec PyProof.Rows

inductive V where
  | non | bl (b : Bool) | int (i : Int) | str (x : Str) | byt (b : Array UInt8) | flt (b : UInt64) | ref (a : Addr) | ty (n : String)
  deriving DecidableEq

def RelV : V → Value → Prop
  | .non, u => u = Value.none
  | .bl b, u => u = Value.bool b
  | .int i, u => ∃ t, u = Value.int i t
  | .str x, u => ∃ t, u = Value.str x t
  | .byt b, u => ∃ t, u = Value.bytes b t
  | .flt b, u => ∃ t, u = Value.float b t
  | .ref a, u => u = Value.ref a
  | .ty n, u => u = Value.type n

abbrev Vals : List V → List Value → Prop := Paired RelV
theorem Vals.length {xs : List V} {us : List Value} (r : Vals xs us) : xs.length = us.length := Paired.length r
theorem Vals.get : ∀ {xs : List V} {us : List Value} {i : Nat} {x : V}, Vals xs us → xs[i]? = some x → ∃ u, us[i]? = some u ∧ RelV x u
  | _, _, _, _, .nil, e => by simp at e
  | _, _, 0, _, .cons r _, e => by simp at e; subst e; exact ⟨_, rfl, r⟩
  | _, _, i + 1, x, .cons _ t, e => by
    obtain ⟨u, h1, h2⟩ := Vals.get (i := i) (x := x) t (by simpa using e)
    exact ⟨u, by simpa using h1, h2⟩
theorem Vals.set {x : V} {u : Value} (r : RelV x u) : ∀ {xs : List V} {us : List Value} (i : Nat), Vals xs us → Vals (xs.set i x) (us.set i u)
  | _, _, _, .nil => .nil
  | _, _, 0, .cons _ t => .cons r t
  | _, _, i + 1, .cons q t => .cons q (Vals.set r i t)
theorem Vals.append : ∀ {xs ys : List V} {us ws : List Value}, Vals xs us → Vals ys ws → Vals (xs ++ ys) (us ++ ws)
  | _, _, _, _, .nil, s => s
  | _, _, _, _, .cons r t, s => .cons r (Vals.append t s)
theorem Vals.take : ∀ {xs : List V} {us : List Value} (n : Nat), Vals xs us → Vals (xs.take n) (us.take n)
  | _, _, 0, _ => .nil
  | _, _, _ + 1, .nil => .nil
  | _, _, n + 1, .cons r t => .cons r (Vals.take n t)
theorem Vals.drop : ∀ {xs : List V} {us : List Value} (n : Nat), Vals xs us → Vals (xs.drop n) (us.drop n)
  | _, _, 0, r => r
  | _, _, _ + 1, .nil => .nil
  | _, _, n + 1, .cons _ t => Vals.drop n t
theorem Vals.none_of : ∀ {xs : List V} {us : List Value} {i : Nat}, Vals xs us → xs[i]? = none → us[i]? = none := fun {xs us i} r e => by
  have h1 := r.length
  have h2 : xs.length ≤ i := List.getElem?_eq_none_iff.mp e
  exact List.getElem?_eq_none_iff.mpr (by omega)

def RelO : Option V → Option Value → Prop
  | some v, some u => RelV v u
  | none, none => True
  | _, _ => False
def KV {κ : Type} : List (κ × V) → List (κ × Value) → Prop := Paired fun (p : κ × V) (q : κ × Value) => p.1 = q.1 ∧ RelV p.2 q.2

def kV : Key → V
  | .inl i => .int i
  | .inr x => .str x

inductive HO where
    | lst (xs : List V)
    | tup (xs : List V)
    | dK (kvs : List (Key × V)) | dT (kvs : List (List Key × V))
    | set (S : Int → Bool) (n : Nat)
    | ins (C dx : Addr) (fs : List (Str × V))
    | own (x : Addr)
    | xd (fs : List (Str × V))
    | met (f x : Addr)
    | rng (lo hi : Int)
    | frz (o : Obj) (u : HO)
    | tbl (ps : Array Value)
    | ext (φ : Heap → Prop)

abbrev Hp := Addr → Option HO
def upd (H : Hp) (a : Addr) (o : HO) : Hp := fun b => if b = a then some o else H b
theorem upd_same {H : Hp} {a : Addr} {o : HO} : upd H a o a = some o := by unfold upd; rw [if_pos rfl]
theorem upd_ne {H : Hp} {a b : Addr} {o : HO} (h : b ≠ a) : upd H a o b = H b := by unfold upd; rw [if_neg h]
theorem ne_of {H : Hp} {a b : Addr} {o u : HO} (h : H a = some o) (h' : H b = some u) (d : o ≠ u) : a ≠ b := by
  intro e; subst e; rw [h] at h'; exact d (Option.some.inj h')
theorem ne_of_none {H : Hp} {a b : Addr} {o : HO} (h : H a = some o) (h' : H b = none) : a ≠ b := by
  intro e; subst e; rw [h] at h'; cases h'

section
variable (P : Program) (w : World)
def ObjOk (H : Hp) (h : Heap) (a : Addr) : HO → Prop
  | .lst xs => xs.length ≤ sizeLine ∧ ∃ (its : List Value) (n : Nat), Vals xs its ∧ h.get? a = some { cls := .type "list", data := .seq its.toArray n }
  | .tup xs => xs.length ≤ sizeLine ∧ ∃ its : List Value, Vals xs its ∧ IsTup h a its.toArray
  | .dK kvs => kvs.length ≤ sizeLine ∧ (a == sysModules) = false ∧ ∃ vs, KV kvs vs ∧ h.DictOf (mixKind P w) a vs
  | .dT kvs => kvs.length ≤ sizeLine ∧ (a == sysModules) = false ∧ ∃ xs : List (List Key × Addr × Value),
      Paired (fun (p : List Key × V) (q : List Key × Addr × Value) => p.1 = q.1 ∧ H q.2.1 = some (.tup (p.1.map kV)) ∧ RelV p.2 q.2.2) kvs xs ∧
      ∃ o es ep, h.get? a = some o ∧ o.ExactDict ∧ o.data = .dict es ep ∧ es.toList = xs.map (entryOfKey (tupleKind (mixKind P w))) ∧ (xs.map (·.1)).Nodup
  | .set S n => h.SetOf (intKind P w) a S n
  | .ins C dx fs => H dx = some (.own a) ∧ fs.length ≤ 1000 ∧ dx ≠ a ∧ h.get? a = some (PySem.W.instObj C dx) ∧
      ∃ mA, h.Ns1 dx mA ∧ (∀ f, RelO (fs.lookup f) (mA f)) ∧ PySem.Within mA (fs.map (·.1))
  | .own _ => ∃ o, h.get? a = some o
  | .xd fs => ∃ mA, h.Ns1 a mA ∧ ∀ f, RelO (fs.lookup f) (mA f)
  | .rng lo hi => ∃ t u v, h.get? a = some { cls := .type "range", data := .fields #[.int lo t, .int hi u, .int 1 v] }
  | .frz o u => h.get? a = some o ∧ ObjOk H h a u
  | .tbl ps => h.get? a = some { cls := .none, data := .fields ps }
  | .met f x => h.get? a = some (PySem.W.methodObj (.ref f) (.ref x))
  | .ext φ => φ h ∧ (∃ o, h.get? a = some o) ∧ ∀ h1 h2 : Heap, φ h1 → (∀ o, h1.get? a = some o → h2.get? a = some o) → φ h2
def HOk (H : Hp) (h : Heap) : Prop := ∀ a o, H a = some o → ObjOk P w H h a o
end

section
variable {P : Program} {w : World} {H H' : Hp} {h h' : Heap} {a : Addr} {o : HO}
theorem ObjOk.lt (x : ObjOk P w H h a o) : a < h.objs.size := by
  cases o with
  | lst xs => obtain ⟨_, _, _, _, e⟩ := x; exact Heap.lt_size e
  | tup xs => obtain ⟨_, _, _, p⟩ := x; exact p.lt
  | dK kvs => obtain ⟨_, _, _, _, o, _, _, e, _⟩ := x; exact Heap.lt_size e
  | dT kvs => obtain ⟨_, _, _, _, o, _, _, e, _⟩ := x; exact Heap.lt_size e
  | set S n => obtain ⟨o, _, _, _, e, _⟩ := x; exact Heap.lt_size e
  | ins C dx fs => obtain ⟨_, _, _, e, _⟩ := x; exact Heap.lt_size e
  | own y => obtain ⟨_, e⟩ := x; exact Heap.lt_size e
  | xd fs => obtain ⟨_, ⟨_, _, _, e, _⟩, _⟩ := x; exact Heap.lt_size e
  | rng lo hi => obtain ⟨_, _, _, e⟩ := x; exact Heap.lt_size e
  | frz ob u => obtain ⟨e, _⟩ := x; exact Heap.lt_size e
  | tbl ps => exact Heap.lt_size (show h.get? a = some _ from x)
  | met f y => exact Heap.lt_size (show h.get? a = some _ from x)
  | ext φ => obtain ⟨_, ⟨_, e⟩, _⟩ := x; exact Heap.lt_size e
theorem Paired.mapP {α β : Type} {F G : α → β → Prop} : ∀ {l₁ : List α} {l₂ : List β}, Paired F l₁ l₂ → (∀ a b, F a b → G a b) → Paired G l₁ l₂
  | _, _, .nil, _ => .nil
  | _, _, .cons r t, f => .cons (f _ _ r) (Paired.mapP t f)
theorem ObjOk.stay (x : ObjOk P w H h a o) (k : ∀ b u, (b = a ∨ H b = some (.own a)) → h.get? b = some u → h'.get? b = some u)
    (ho : ∀ b, H b = some (.own a) → H' b = some (.own a)) (ht : ∀ b xs, H b = some (.tup xs) → H' b = some (.tup xs)) : ObjOk P w H' h' a o := by
  induction o with
  | lst xs => obtain ⟨z, its, n, r, e⟩ := x; exact ⟨z, its, n, r, k _ _ (.inl rfl) e⟩
  | tup xs => obtain ⟨z, its, r, ob, e, c⟩ := x; exact ⟨z, its, r, ob, k _ _ (.inl rfl) e, c⟩
  | dK kvs => obtain ⟨z, y, vs, r, ob, es, ep, e, c⟩ := x; exact ⟨z, y, vs, r, ob, es, ep, k _ _ (.inl rfl) e, c⟩
  | dT kvs =>
    obtain ⟨z, y, xs, r, ob, es, ep, e, c⟩ := x
    exact ⟨z, y, xs, Paired.mapP r fun p q z => ⟨z.1, ht _ _ z.2.1, z.2.2⟩, ob, es, ep, k _ _ (.inl rfl) e, c⟩
  | set S n => obtain ⟨ob, es, ep, t, e, c⟩ := x; exact ⟨ob, es, ep, t, k _ _ (.inl rfl) e, c⟩
  | ins C dx fs =>
    obtain ⟨d, z, ne, e, mA, ⟨od, es, ep, e2, c⟩, r⟩ := x
    exact ⟨ho _ d, z, ne, k _ _ (.inl rfl) e, mA, ⟨od, es, ep, k _ _ (.inr d) e2, c⟩, r⟩
  | own y => obtain ⟨ob, e⟩ := x; exact ⟨ob, k _ _ (.inl rfl) e⟩
  | xd fs => obtain ⟨mA, ⟨od, es, ep, e, c⟩, r⟩ := x; exact ⟨mA, ⟨od, es, ep, k _ _ (.inl rfl) e, c⟩, r⟩
  | rng lo hi => obtain ⟨t, u, v, e⟩ := x; exact ⟨t, u, v, k _ _ (.inl rfl) e⟩
  | frz ob u ih => obtain ⟨e, q⟩ := x; exact ⟨k _ _ (.inl rfl) e, ih q⟩
  | tbl ps =>
    have e : h.get? a = some { cls := .none, data := .fields ps } := x
    show h'.get? a = some { cls := .none, data := .fields ps }
    exact k a _ (.inl rfl) e
  | met f y =>
    have e : h.get? a = some (PySem.W.methodObj (.ref f) (.ref y)) := x
    show h'.get? a = some (PySem.W.methodObj (.ref f) (.ref y))
    exact k a _ (.inl rfl) e
  | ext φ => obtain ⟨p, ⟨o, e⟩, st⟩ := x; exact ⟨st _ _ p fun o q => k _ _ (.inl rfl) q, ⟨o, k _ _ (.inl rfl) e⟩, st⟩
theorem HOk.lt (x : HOk P w H h) (e : H a = some o) : a < h.objs.size := (x a o e).lt
theorem HOk.fresh (x : HOk P w H h) (e : h.objs.size ≤ a) : H a = none := by
  cases q : H a with
  | none => rfl
  | some u => exact absurd (Nat.lt_of_lt_of_le (x.lt q) e) (Nat.lt_irrefl _)
theorem HOk.kept (x : HOk P w H h) (k : ∀ b u, h.get? b = some u → h'.get? b = some u) : HOk P w H h' := fun a o e =>
  (x a o e).stay (fun b u _ q => k b u q) (fun _ q => q) fun _ _ q => q
theorem HOk.laid (x : HOk P w H h) (k : ∀ b u, h.get? b = some u → h'.get? b = some u) (hp : h.objs.size ≤ a) (new : ObjOk P w (upd H a o) h' a o) : HOk P w (upd H a o) h' := fun b u e => by
  have hn := x.fresh hp
  by_cases hb : b = a
  · subst hb; rw [upd_same] at e; cases e; exact new
  · rw [upd_ne hb] at e
    exact (x b u e).stay (fun c v _ q => k c v q) (fun c q => by rw [upd_ne (ne_of_none q hn)]; exact q) fun c xs q => by rw [upd_ne (ne_of_none q hn)]; exact q
end

def Rd (H : Hp) (a : Addr) (u : HO) : Prop := H a = some u ∨ ∃ o, H a = some (.frz o u)
theorem Rd.of {H : Hp} {a : Addr} {u : HO} (h : H a = some u) : Rd H a u := .inl h
theorem Rd.ok {P : Program} {w : World} {H : Hp} {h : Heap} {a : Addr} {u : HO} (r : Rd H a u) (x : HOk P w H h) : ObjOk P w H h a u := by
  rcases r with r | ⟨o, r⟩
  · exact x a u r
  · obtain ⟨_, q⟩ := x a _ r
    exact q
def Mut : Option HO → Prop
  | some (.lst _) => True
  | some (.dK _) => True
  | some (.dT _) => True
  | some (.set _ _) => True
  | some (.ins _ _ _) => True
  | some (.ext _) => True
  | _ => False
section
variable {P : Program} {w : World} {H : Hp} {h h' : Heap} {x e : Addr} {o' : HO}
theorem HOk.write (ok : HOk P w H h) (mu : Mut (H x)) (he : e = x ∨ H e = some (.own x)) (k : ∀ b u, b ≠ e → h.get? b = some u → h'.get? b = some u) (heo : ∃ u, h'.get? e = some u)
    (new : ObjOk P w (upd H x o') h' x o') : HOk P w (upd H x o') h' := fun b u q => by
  have nown : ∀ c y, H c = some (.own y) → c ≠ x := fun c y r z => by subst z; rw [r] at mu; exact mu
  have ntup : ∀ c xs, H c = some (.tup xs) → c ≠ x := fun c xs r z => by subst z; rw [r] at mu; exact mu
  by_cases hb : b = x
  · subst hb; rw [upd_same] at q; cases q; exact new
  · rw [upd_ne hb] at q
    by_cases hbe : b = e
    · have q' : H b = some (.own x) := by
        rcases he with z | z
        · exact absurd (hbe.trans z) hb
        · rw [hbe]; exact z
      rw [q] at q'; cases q'
      obtain ⟨v, hv⟩ := heo
      exact ⟨v, by rw [hbe]; exact hv⟩
    · refine (ok b u q).stay (fun c v hc r => k c v ?_ r) (fun c r => by rw [upd_ne (nown c b r)]; exact r) fun c xs r => by rw [upd_ne (ntup c xs r)]; exact r
      rcases hc with rfl | hc
      · exact hbe
      · rintro rfl
        rcases he with z | z
        · exact nown c b hc z
        · rw [hc] at z; cases z; exact hb rfl
end

structure Un (fs ex : List Addr) (H H' : Hp) (h h' : Heap) : Prop where
  keep : ∀ b o, h.get? b = some o → H b = none → b ∉ fs → b ∉ ex → h'.get? b = some o
  slot : ∀ b o, h.get? b = some o → H b = none → b ∈ fs → b ∉ ex → ∃ sl, h'.get? b = some { o with slots := sl }
  free : ∀ b o, h.get? b = some o → H b = none → b ∉ ex → H' b = none
  there : ∀ b o, h.get? b = some o → b ∉ ex → ∃ o', h'.get? b = some o'
  tups : ∀ b xs, H b = some (.tup xs) → H' b = some (.tup xs)
  frzs : ∀ b o u, H b = some (.frz o u) → H' b = some (.frz o u)
  tbls : ∀ b ps, H b = some (.tbl ps) → ∃ more, H' b = some (.tbl (ps ++ more))
section
variable {fs fs' ex ex' : List Addr} {H H1 H2 : Hp} {h h1 h2 h' : Heap} {a x e : Addr} {o : HO}
theorem Un.any (u : Un fs ex H H1 h h1) {b : Addr} {ob : Obj} (q : h.get? b = some ob) (n : H b = none) (hx : b ∉ ex) : ∃ sl, h1.get? b = some { ob with slots := sl } := by
  by_cases hb : b ∈ fs
  · exact u.slot b ob q n hb hx
  · exact ⟨ob.slots, u.keep b ob q n hb hx⟩
theorem Un.trans (a : Un fs ex H H1 h h1) (b : Un fs ex H1 H2 h1 h2) : Un fs ex H H2 h h2 where
  keep := fun c ob q n hc hx => b.keep c ob (a.keep c ob q n hc hx) (a.free c ob q n hx) hc hx
  slot := fun c ob q n hc hx => by
    obtain ⟨sl, e1⟩ := a.slot c ob q n hc hx
    obtain ⟨sl', e2⟩ := b.slot c _ e1 (a.free c ob q n hx) hc hx
    exact ⟨sl', e2⟩
  free := fun c ob q n hx => by
    obtain ⟨o', e1⟩ := a.there c ob q hx
    exact b.free c o' e1 (a.free c ob q n hx) hx
  there := fun c ob q hx => by
    obtain ⟨o', e1⟩ := a.there c ob q hx
    exact b.there c o' e1 hx
  tups := fun c xs q => b.tups c xs (a.tups c xs q)
  frzs := fun c ob xs q => b.frzs c ob xs (a.frzs c ob xs q)
  tbls := fun c ps q => by
    obtain ⟨m1, e1⟩ := a.tbls c ps q
    obtain ⟨m2, e2⟩ := b.tbls c _ e1
    exact ⟨m1 ++ m2, by rw [e2, Array.append_assoc]⟩
theorem Un.kept (k : ∀ b u, h.get? b = some u → h'.get? b = some u) : Un fs ex H H h h' :=
  ⟨fun b ob q _ _ _ => k b ob q, fun b ob q _ _ _ => ⟨ob.slots, k b ob q⟩, fun _ _ _ n _ => n, fun b ob q _ => ⟨ob, k b ob q⟩, fun _ _ q => q, fun _ _ _ q => q, fun _ ps q => ⟨#[], by rw [q]; simp⟩⟩
theorem Un.refl : Un fs ex H H h h := Un.kept fun _ _ q => q
theorem Un.laid (k : ∀ b u, h.get? b = some u → h'.get? b = some u) (hp : h.objs.size ≤ a) (hn : H a = none) : Un fs ex H (upd H a o) h h' where
  keep := fun b u q _ _ _ => k b u q
  slot := fun b u q _ _ _ => ⟨u.slots, k b u q⟩
  free := fun b u q n _ => by rw [upd_ne (Nat.ne_of_lt (Nat.lt_of_lt_of_le (Heap.lt_size q) hp))]; exact n
  there := fun b u q _ => ⟨u, k b u q⟩
  tups := fun b xs q => by rw [upd_ne (ne_of_none q hn)]; exact q
  frzs := fun b u xs q => by rw [upd_ne (ne_of_none q hn)]; exact q
  tbls := fun b ps q => ⟨#[], by rw [upd_ne (ne_of_none q hn), q]; simp⟩
theorem Un.write (mu : Mut (H x)) (he : e = x ∨ H e = some (.own x)) (k : ∀ b u, b ≠ e → h.get? b = some u → h'.get? b = some u) (heo : ∃ u, h'.get? e = some u) : Un fs ex H (upd H x o) h h' := by
  have hx : ∀ b, H b = none → b ≠ x := fun b n z => by subst z; rw [n] at mu; exact mu
  have hb : ∀ b, H b = none → b ≠ e := fun b n z => by
    subst z
    rcases he with r | r
    · exact hx b n r
    · rw [n] at r; cases r
  have hm : ∀ b u, H b = some u → ¬ Mut (some u) → b ≠ x := fun b u q nm z => by subst z; rw [q] at mu; exact nm mu
  refine ⟨fun b u q n _ _ => k b u (hb b n) q, fun b u q n _ _ => ⟨u.slots, k b u (hb b n) q⟩, fun b u q n _ => by rw [upd_ne (hx b n)]; exact n, fun b u q _ => ?_,
    fun b xs q => by rw [upd_ne (hm b _ q fun z => z)]; exact q, fun b u xs q => by rw [upd_ne (hm b _ q fun z => z)]; exact q, fun b ps q => ⟨#[], by rw [upd_ne (hm b _ q fun z => z), q]; simp⟩⟩
  by_cases hbe : b = e
  · subst hbe; exact heo
  · exact ⟨u, k b u hbe q⟩
theorem Un.mono (u : Un fs ex H H1 h h1) (hs : ∀ b ∈ fs, b ∈ fs') (hx : ∀ b ∈ ex, b ∈ ex') : Un fs' ex' H H1 h h1 :=
  ⟨fun b ob q n hb he => u.keep b ob q n (fun z => hb (hs b z)) fun z => he (hx b z), fun _ _ q n _ he => u.any q n fun z => he (hx _ z), fun b ob q n he => u.free b ob q n fun z => he (hx b z), fun b ob q he => u.there b ob q fun z => he (hx b z), u.tups, u.frzs, u.tbls⟩
end

def trk (h : Heap) (H : Hp) : List Addr := (List.range h.objs.size).filter fun a => (H a).isSome
def hidT (h : Heap) (H : Hp) : Heap := PySem.W.hideAll h (trk h H)
theorem hidT_size (h : Heap) (H : Hp) : (hidT h H).objs.size = h.objs.size := PySem.W.hideAll_size _ _
theorem hidT_get {h : Heap} {H : Hp} {b : Addr} {o : Obj} (e : h.get? b = some o) (n : H b = none) : (hidT h H).get? b = some o :=
  PySem.W.hideAll_get _ e fun hm => by
    have q : (H b).isSome = true := (List.mem_filter.mp hm).2
    rw [n] at q; simp at q
theorem of_hidT {h : Heap} {H : Hp} {b : Addr} {o : Obj} (e : (hidT h H).get? b = some o) : h.get? b = some o ∧ H b = none := by
  have e' : h.get? b = some o := PySem.W.of_hideAll (trk h H) e
  refine ⟨e', ?_⟩
  cases q : H b with
  | none => rfl
  | some x =>
    have hm : b ∈ trk h H := List.mem_filter.mpr ⟨List.mem_range.mpr (Heap.lt_size e'), by simp [q]⟩
    have z : (hidT h H).get? b = none := PySem.W.hideAll_none (trk h H) hm
    rw [z] at e; cases e

def allNews (g h : Heap) (L : Addr) : List (Addr × Obj) := (List.range h.objs.size).filterMap fun a => if a = L ∨ (g.get? a).isSome = true then none else (h.get? a).map fun o => (a, o)
def rest (g h : Heap) (L d : Addr) : List (Addr × Obj) := (allNews g h L).filter fun p => decide (p.1 ≠ d)
end L2

namespace L2
open PySem PySem.Spec PyProof.Rows

structure Mod (K : PySem.W.Frag) (mg : Str → Option Value) (base : Heap) : Prop where
  kin : K.In base
  glob : base.Ns mainGlobals mg
  blt : ∃ mb, base.Ns builtinsNs mb ∧ ∀ x : Str, x ≠ "__name__" → mb x = bootBuiltins x
  nolimit : base.NoLimit

structure Cx where
  prog : Program
  w : World
  K : PySem.W.Frag
  mg : Str → Option Value
  base : Heap
  A : Around
  N : List Str
  s₀ : Shared
  H₀ : Hp
  env : Env
  outer : List Env
  stack : List Env
  ex : List Addr
  fn : Str → Bool
  calm : Bool
  pn : List (Addr × Obj)
  xe : Value → Shared → Prop
def frs (l : List Env) : List Addr := l.filterMap (·.frame)
abbrev Cx.fs (X : Cx) : List Addr := frs X.outer

def Vis (sc : Scope) (x : Str) : Prop := sc.names.lookup x = some .local ∨ sc.names.lookup x = some .cell ∨ sc.names.lookup x = some .free
def Loc (sc : Scope) (x : Str) : Prop := sc.names.lookup x = some .local ∨ sc.names.lookup x = some .cell
def Look (env : Env) (h : Heap) (m : Str → Option Value) (x : Str) (u : Value) : Prop :=
  (env.kindOf x = some .local ∧ m x = some u) ∨ ((env.kindOf x = some .cell ∨ env.kindOf x = some .free) ∧ ∃ c, env.cells.lookup x = some c ∧ h.IsCell c (some u))

structure Cx.Ok (X : Cx) : Prop where
  mod : Mod X.K X.mg X.base
  kind : X.env.scope.kind = .function
  glob : X.env.globals = mainGlobals
  blt : X.env.builtins = builtinsNs
  above : X.s₀.heap.objs.size ≤ X.env.locals
  inj : ∀ x y c, X.env.cells.lookup x = some c → X.env.cells.lookup y = some c → x = y
  has : ∀ x, (X.env.kindOf x = some .cell ∨ X.env.kindOf x = some .free) → ∃ c, X.env.cells.lookup x = some c
  cab : ∀ x c, X.fn x = true → X.env.cells.lookup x = some c → X.s₀.heap.objs.size ≤ c
  hd : X.calm = true → X.A.handled = none
  frames : X.A.frames = some X.stack
  stk : X.stack = X.outer ∨ (X.stack = X.env :: X.outer ∧ X.env.frame = some X.env.locals)
  exf : ∀ b ∈ X.ex, b ≠ X.env.locals ∧ ∀ x c, X.env.cells.lookup x = some c → c ≠ b
  bs : ∀ b o, X.base.get? b = some o → X.s₀.heap.get? b = some o ∧ X.H₀ b = none
  bsz : X.base.objs.size ≤ X.s₀.heap.objs.size
  noex : ∀ b o, X.base.get? b = some o → b ∉ X.ex
  exfs : ∀ b ∈ X.ex, b ∉ X.fs
  funs : X.s₀.heap.FunFrames X.base X.outer
  frf : ∀ b ∈ X.fs, X.H₀ b = none

structure Inv (X : Cx) (pins : List (Addr × Obj)) (σ : List (Option V)) (H : Hp) (s : Shared) : Prop where
  ok : X.Ok
  os : s.os = X.s₀.os
  bare : AllBare s.gens
  base : Un X.fs X.ex X.H₀ H X.s₀.heap s.heap
  loc : ∃ m, s.heap.Ns X.env.locals m ∧ ∀ (i : Nat) (x : Str) (v : V), X.N[i]? = some x → σ[i]? = some (some v) → Vis X.env.scope x → ∃ u, RelV v u ∧ Look X.env s.heap m x u
  cell : ∀ x c, X.env.cells.lookup x = some c → ∃ v, s.heap.IsCell c v
  free : H X.env.locals = none
  freeC : ∀ x c, X.env.cells.lookup x = some c → H c = none
  pin : ∀ p ∈ X.pn ++ pins, s.heap.get? p.1 = some p.2 ∧ H p.1 = none ∧ p.1 ≠ X.env.locals ∧ p.1 ∉ X.fs ∧ ∀ v, p.2.data ≠ .cell v
  hok : HOk X.prog X.w H s.heap
  len : σ.length = X.N.length

section
variable {X : Cx} {pins : List (Addr × Obj)} {σ : List (Option V)} {H H' : Hp} {s : Shared} {h' : Heap}

theorem Cx.Ok.nofr (ok : X.Ok) {b : Addr} {o : Obj} (e : X.base.get? b = some o) : b ∉ X.fs := fun hb => by
  have := (ok.funs.mem hb).1
  rw [e] at this; cases this
theorem Inv.bs (I : Inv X pins σ H s) : ∀ b o, X.base.get? b = some o → s.heap.get? b = some o ∧ H b = none := fun b o e =>
  ⟨I.base.keep b o (I.ok.bs b o e).1 (I.ok.bs b o e).2 (I.ok.nofr e) (I.ok.noex b o e), I.base.free b o (I.ok.bs b o e).1 (I.ok.bs b o e).2 (I.ok.noex b o e)⟩
theorem Inv.bk (I : Inv X pins σ H s) : ∀ b o, X.base.get? b = some o → s.heap.get? b = some o := fun b o e => (I.bs b o e).1
theorem Inv.mod (I : Inv X pins σ H s) : Mod X.K X.mg X.base := I.ok.mod
theorem Inv.kIn (I : Inv X pins σ H s) : X.K.In s.heap := I.ok.mod.kin.keeps I.bk
theorem Inv.nolimit (I : Inv X pins σ H s) : s.heap.NoLimit := I.ok.mod.nolimit.keeps I.bk
theorem Inv.fr (I : Inv X pins σ H s) : ∃ m, Fr X.base X.env.locals s.heap m :=
  let ⟨m, hn, _⟩ := I.loc
  ⟨m, hn, I.bk, Nat.le_trans I.ok.bsz I.ok.above⟩
theorem Inv.lt (I : Inv X pins σ H s) : X.env.locals < s.heap.objs.size := let ⟨_, hn, _⟩ := I.loc; hn.lt
theorem Inv.sz (I : Inv X pins σ H s) : X.s₀.heap.objs.size ≤ s.heap.objs.size := Nat.le_trans I.ok.above (Nat.le_of_lt I.lt)
theorem Inv.nofs (I : Inv X pins σ H s) {a : Addr} (h : s.heap.objs.size ≤ a) : a ∉ X.fs := fun hb => by
  obtain ⟨_, o, ho, _⟩ := I.ok.funs.mem hb
  exact absurd (Nat.lt_of_lt_of_le (Heap.lt_size ho) (Nat.le_trans I.sz h)) (Nat.lt_irrefl _)
theorem Inv.cne (I : Inv X pins σ H s) : ∀ x c, X.env.cells.lookup x = some c → c ≠ X.env.locals := fun x c e z => by
  obtain ⟨v, o, ho, hd⟩ := I.cell x c e
  obtain ⟨m, ⟨o', es, ep, ho', hd', _⟩, _⟩ := I.loc
  rw [z, ho'] at ho; cases ho; rw [hd'] at hd; cases hd
theorem Inv.funs (I : Inv X pins σ H s) : s.heap.FunFrames X.base X.outer := by
  have all : ∀ (l : List Env), (∀ b ∈ frs l, b ∈ X.fs) → X.s₀.heap.FunFrames X.base l → s.heap.FunFrames X.base l := by
    intro l
    induction l with
    | nil => intro _ _; trivial
    | cons env r ih =>
      intro hs hl
      obtain ⟨hk, ⟨L, o, hf, hn, ho, hd⟩, hr⟩ := hl
      have hL : L ∈ X.fs := hs L (by unfold frs; rw [List.filterMap_cons, hf]; exact List.mem_cons_self)
      obtain ⟨sl, e⟩ := I.base.slot L o ho (I.ok.frf L hL) hL fun z => I.ok.exfs L z hL
      exact ⟨hk, ⟨L, _, hf, hn, e, hd⟩, ih (fun b hb => hs b (by unfold frs; rw [List.filterMap_cons, hf]; exact List.mem_cons_of_mem _ hb)) hr⟩
  exact all X.outer (fun _ hb => hb) I.ok.funs

theorem Inv.stack (I : Inv X pins σ H s) : s.heap.FunFrames X.base X.stack := by
  rcases I.ok.stk with e | ⟨e, hf⟩
  · rw [e]; exact I.funs
  · rw [e]
    obtain ⟨m, hn, _⟩ := I.loc
    refine .cons (by rw [I.ok.kind]; decide) hf hn ?_ I.funs
    exact Heap.get?_none_of_le (Nat.le_trans I.ok.bsz I.ok.above)
theorem Inv.stkSub (I : Inv X pins σ H s) : ∀ b ∈ frs X.stack, b ∈ X.env.locals :: X.fs := fun b hb => by
  rcases I.ok.stk with e | ⟨e, hf⟩
  · rw [e] at hb; exact List.mem_cons_of_mem _ hb
  · rw [e] at hb
    unfold frs at hb
    rw [List.filterMap_cons, hf] at hb
    exact hb
theorem Inv.stkFree (I : Inv X pins σ H s) : ∀ b ∈ frs X.stack, H b = none := fun b hb => by
  rcases List.mem_cons.mp (I.stkSub b hb) with e | hb
  · rw [e]; exact I.free
  · obtain ⟨_, o, ho, _⟩ := I.ok.funs.mem hb
    exact I.base.free b o ho (I.ok.frf b hb) fun z => I.ok.exfs b z hb

theorem Inv.step {g' : Array GenState} {t' : Nat} {d' : Drawn} {ch : List Addr} (I : Inv X pins σ H s)
    (hch : ∀ b ∈ ch, (b ∈ X.ex ∨ X.s₀.heap.objs.size ≤ b) ∧ b ≠ X.env.locals ∧ (∀ x c, X.env.cells.lookup x = some c → c ≠ b) ∧ ∀ p ∈ X.pn ++ pins, p.1 ≠ b)
    (keep : ∀ b o, b ≠ X.env.locals → b ∉ X.fs → b ∉ ch → s.heap.get? b = some o → H b = none → h'.get? b = some o)
    (slot : ∀ b o, b ≠ X.env.locals → b ∈ X.fs → b ∉ ch → s.heap.get? b = some o → H b = none → ∃ sl, h'.get? b = some { o with slots := sl }) (free : ∀ b o, b ∉ ch → s.heap.get? b = some o → H b = none → H' b = none)
    (there : ∀ b o, b ∉ ch → s.heap.get? b = some o → ∃ o', h'.get? b = some o')
    (tups : ∀ b xs, H b = some (.tup xs) → H' b = some (.tup xs)) (frzs : ∀ b o u, H b = some (.frz o u) → H' b = some (.frz o u)) (tbls : ∀ b ps, H b = some (.tbl ps) → ∃ more, H' b = some (.tbl (ps ++ more)))
    (ns : ∀ m, s.heap.Ns X.env.locals m → h'.Ns X.env.locals m) (hok : HOk X.prog X.w H' h') (hg : AllBare g') :
    Inv X pins σ H' { s with heap := h', gens := g', drawn := d', toks := t' } := by
  have neL : ∀ b o, X.s₀.heap.get? b = some o → b ≠ X.env.locals := fun b o e => Nat.ne_of_lt (Nat.lt_of_lt_of_le (Heap.lt_size e) I.ok.above)
  have neC : ∀ b o, X.s₀.heap.get? b = some o → b ∉ X.ex → b ∉ ch := fun b o e hx hb => by
    rcases (hch b hb).1 with z | z
    · exact hx z
    · exact absurd (Nat.lt_of_lt_of_le (Heap.lt_size e) z) (Nat.lt_irrefl _)
  have cellK : ∀ x c, X.env.cells.lookup x = some c → ∀ v, s.heap.IsCell c v → h'.IsCell c v := fun x c e v ⟨o, ho, hd⟩ => by
    have nch : c ∉ ch := fun z => (hch c z).2.2.1 x c e rfl
    by_cases hc : c ∈ X.fs
    · obtain ⟨sl, q⟩ := slot c o (I.cne x c e) hc nch ho (I.freeC x c e)
      exact ⟨_, q, hd⟩
    · exact ⟨o, keep c o (I.cne x c e) hc nch ho (I.freeC x c e), hd⟩
  refine ⟨I.ok, I.os, hg, ⟨fun b o e n hb hx => ?_, fun b o e n hb hx => ?_, fun b o e n hx => ?_, fun b o e hx => ?_, fun b xs e => tups b xs (I.base.tups b xs e), fun b o xs e => frzs b o xs (I.base.frzs b o xs e), fun b ps e => ?_⟩, ?_, fun x c e => ?_, ?_, fun x c e => ?_, fun p hp => ?_, hok, I.len⟩
  · exact keep b o (neL b o e) hb (neC b o e hx) (I.base.keep b o e n hb hx) (I.base.free b o e n hx)
  · obtain ⟨sl, e1⟩ := I.base.slot b o e n hb hx
    obtain ⟨sl', e2⟩ := slot b _ (neL b o e) hb (neC b o e hx) e1 (I.base.free b o e n hx)
    exact ⟨sl', e2⟩
  · obtain ⟨o', e1⟩ := I.base.there b o e hx
    exact free b o' (neC b o e hx) e1 (I.base.free b o e n hx)
  · obtain ⟨o', e1⟩ := I.base.there b o e hx
    exact there b o' (neC b o e hx) e1
  · obtain ⟨m1, e1⟩ := I.base.tbls b ps e
    obtain ⟨m2, e2⟩ := tbls b _ e1
    exact ⟨m1 ++ m2, by rw [e2, Array.append_assoc]⟩
  · obtain ⟨m, hn, hl⟩ := I.loc
    refine ⟨m, ns m hn, fun i x v e1 e2 e3 => ?_⟩
    obtain ⟨u, r, l⟩ := hl i x v e1 e2 e3
    refine ⟨u, r, ?_⟩
    rcases l with l | ⟨k, c, e, z⟩
    · exact .inl l
    · exact .inr ⟨k, c, e, cellK x c e _ z⟩
  · obtain ⟨v, z⟩ := I.cell x c e
    exact ⟨v, cellK x c e v z⟩
  · obtain ⟨m, ⟨o, _, _, ho, _⟩, _⟩ := I.loc
    exact free _ o (fun z => (hch _ z).2.1 rfl) ho I.free
  · obtain ⟨v, o, ho, hd⟩ := I.cell x c e
    exact free c o (fun z => (hch c z).2.2.1 x c e rfl) ho (I.freeC x c e)
  · obtain ⟨e, n, ne, nf, d⟩ := I.pin p hp
    have nch : p.1 ∉ ch := fun z => (hch p.1 z).2.2.2 p hp rfl
    exact ⟨keep p.1 p.2 ne nf nch e n, free p.1 p.2 nch e n, ne, nf, d⟩
theorem Inv.un {t' : Nat} (I : Inv X pins σ H s) (u : Un X.fs [] H H' s.heap h') (hok : HOk X.prog X.w H' h') : Inv X pins σ H' { s with heap := h', toks := t' } := by
  obtain ⟨m, ⟨o, es, ep, ho, r⟩, _⟩ := id I.loc
  obtain ⟨sl, hL⟩ := u.any ho I.free (by simp)
  exact I.step (g' := s.gens) (d' := s.drawn) (ch := []) (fun _ z => nomatch z) (fun b o _ hb _ e n => u.keep b o e n hb (by simp)) (fun b o _ hb _ e n => u.slot b o e n hb (by simp)) (fun b o _ e n => u.free b o e n (by simp)) (fun b o _ e => u.there b o e (by simp)) u.tups u.frzs u.tbls (fun m' hm => by
    obtain ⟨o', es', ep', ho', r'⟩ := hm
    rw [ho] at ho'; cases ho'
    exact ⟨_, es', ep', hL, r'⟩) hok I.bare
theorem Inv.call {g' : Array GenState} {t' : Nat} {d' : Drawn} {ch : List Addr} (I : Inv X pins σ H s) (u : Un (frs X.stack) ch H H' s.heap h') (hok : HOk X.prog X.w H' h') (hg : AllBare g')
    (hch : ∀ b ∈ ch, (b ∈ X.ex ∨ X.s₀.heap.objs.size ≤ b) ∧ b ≠ X.env.locals ∧ (∀ x c, X.env.cells.lookup x = some c → c ≠ b) ∧ ∀ p ∈ X.pn ++ pins, p.1 ≠ b) :
    Inv X pins σ H' { s with heap := h', gens := g', drawn := d', toks := t' } := by
  obtain ⟨m, ⟨o, es, ep, ho, r⟩, _⟩ := id I.loc
  obtain ⟨sl, hL⟩ := u.any ho I.free fun z => (hch _ z).2.1 rfl
  exact I.step (ch := ch) hch (fun b o hL hb hc e n => u.keep b o e n (fun z => (List.mem_cons.mp (I.stkSub b z)).elim hL hb) hc) (fun b o _ _ hc e n => u.any e n hc) (fun b o hc e n => u.free b o e n hc) (fun b o hc e => u.there b o e hc) u.tups u.frzs u.tbls (fun m' hm => by
    obtain ⟨o', es', ep', ho', r'⟩ := hm
    rw [ho] at ho'; cases ho'
    exact ⟨_, es', ep', hL, r'⟩) hok hg
theorem Inv.turned {t' : Nat} {it : Addr} (I : Inv X pins σ H s) (k : ∀ b o, b ≠ it → s.heap.get? b = some o → h'.get? b = some o) (hn : H it = none) (hL : it ≠ X.env.locals)
    (h1 : it ∈ X.ex ∨ X.s₀.heap.objs.size ≤ it) (h2 : ∀ x c, X.env.cells.lookup x = some c → c ≠ it) (h3 : ∀ p ∈ X.pn ++ pins, p.1 ≠ it) : Inv X pins σ H { s with heap := h', toks := t' } := by
  have nit : ∀ b u, H b = some u → b ≠ it := fun b u e z => by rw [z, hn] at e; cases e
  refine I.step (g' := s.gens) (d' := s.drawn) (ch := [it]) (fun b hb => ?_) (fun b o _ _ hc e _ => k b o (fun z => hc (by simp [z])) e) (fun b o _ _ hc e _ => ⟨o.slots, k b o (fun z => hc (by simp [z])) e⟩) (fun _ _ _ _ n => n)
    (fun b o hc e => ⟨o, k b o (fun z => hc (by simp [z])) e⟩) (fun _ _ e => e) (fun _ _ _ e => e) (fun b ps e => ⟨#[], by rw [e]; simp⟩) (fun m hm => ?_) (fun b u e => ?_) I.bare
  · have e : b = it := by simpa using hb
    subst e
    exact ⟨h1, hL, h2, h3⟩
  · obtain ⟨o, es, ep, ho, r⟩ := hm
    exact ⟨o, es, ep, k _ o (Ne.symm hL) ho, r⟩
  · refine (I.hok b u e).stay (fun c v hc q => k c v ?_ q) (fun _ q => q) fun _ _ q => q
    rcases hc with z | z
    · rw [z]; exact nit b u e
    · exact nit c _ z
theorem Inv.tok (I : Inv X pins σ H s) (t : Nat) : Inv X pins σ H { s with toks := t } := I.un (h' := s.heap) (t' := t) Un.refl I.hok
theorem Inv.kept {t' : Nat} (I : Inv X pins σ H s) (k : ∀ b u, s.heap.get? b = some u → h'.get? b = some u) : Inv X pins σ H { s with heap := h', toks := t' } := I.un (Un.kept k) (I.hok.kept k)
theorem Inv.laid {a : Addr} {o : HO} {t' : Nat} (I : Inv X pins σ H s) (k : ∀ b u, s.heap.get? b = some u → h'.get? b = some u) (hp : s.heap.objs.size ≤ a) (new : ObjOk X.prog X.w (upd H a o) h' a o) :
    Inv X pins σ (upd H a o) { s with heap := h', toks := t' } := I.un (Un.laid k hp (I.hok.fresh hp)) (I.hok.laid k hp new)
theorem Inv.write {x e : Addr} {o : HO} {t' : Nat} (I : Inv X pins σ H s) (mu : Mut (H x)) (he : e = x ∨ H e = some (.own x)) (k : ∀ b u, b ≠ e → s.heap.get? b = some u → h'.get? b = some u) (heo : ∃ u, h'.get? e = some u)
    (new : ObjOk X.prog X.w (upd H x o) h' x o) : Inv X pins σ (upd H x o) { s with heap := h', toks := t' } := I.un (Un.write mu he k heo) (I.hok.write mu he k heo new)
theorem Inv.weak {σ' : List (Option V)} (I : Inv X pins σ H s) (hl : σ'.length = σ.length) (w : ∀ (i : Nat) v, σ'[i]? = some (some v) → σ[i]? = some (some v)) : Inv X pins σ' H s :=
  ⟨I.ok, I.os, I.bare, I.base, let ⟨m, hn, hl'⟩ := I.loc; ⟨m, hn, fun i x v e1 e2 e3 => hl' i x v e1 (w i v e2) e3⟩, I.cell, I.free, I.freeC, I.pin, I.hok, hl.trans I.len⟩
theorem Inv.pins_of {pins' : List (Addr × Obj)} (I : Inv X pins σ H s) (h : ∀ p ∈ pins', s.heap.get? p.1 = some p.2 ∧ H p.1 = none ∧ p.1 ≠ X.env.locals ∧ p.1 ∉ X.fs ∧ ∀ v, p.2.data ≠ .cell v) : Inv X pins' σ H s :=
  ⟨I.ok, I.os, I.bare, I.base, I.loc, I.cell, I.free, I.freeC, fun p hp => (List.mem_append.mp hp).elim (fun z => I.pin p (List.mem_append_left _ z)) (h p), I.hok, I.len⟩

theorem nodup_ix {N : List Str} (hN : N.Nodup) {i j : Nat} {x : Str} (a : N[i]? = some x) (b : N[j]? = some x) : i = j := by
  obtain ⟨h1, e1⟩ := List.getElem?_eq_some_iff.mp a
  obtain ⟨h2, e2⟩ := List.getElem?_eq_some_iff.mp b
  exact (List.getElem_inj hN).mp (e1.trans e2.symm)

theorem store_ok2 {M : Model} {A : Around} {E : Value → Shared → Prop} {i : Nat} {x : Str} {v : V} {u : Value} {Q : Unit → Shared → Prop} (I : Inv X pins σ H s) (hN : X.N.Nodup) (hi : X.N[i]? = some x) (hx : Loc X.env.scope x) (r : RelV v u)
    (h : ∀ s', Inv X pins (σ.set i (some v)) H s' → (∃ a, Heap.SameBut a s.heap s'.heap ∧ (a = X.env.locals ∨ X.env.cells.lookup x = some a)) → Q () s') (hf : X.fn x = true ∨ X.env.scope.names.lookup x = some .local := by first | exact .inl rfl | exact .inr rfl | assumption) : wpAny M A (storeName X.env x u) Q E s := by
  obtain ⟨m, hn, hl⟩ := id I.loc
  have hcls : (X.env.scope.kind == .class || (X.env.scope.kind == .module && X.env.locals != X.env.globals)) = false := by rw [I.ok.kind]; rfl
  have hiσ : i < σ.length := by rw [I.len]; exact (List.getElem?_eq_some_iff.mp hi).1
  have cne := I.cne
  have tracked : ∀ {a : Addr} {h' : Heap}, (∃ o, s.heap.get? a = some o ∧ H a = none) → Heap.SameBut a s.heap h' → HOk X.prog X.w H h' := fun {a h'} ha hs b ob e => by
    obtain ⟨_, _, hfree⟩ := ha
    refine (I.hok b ob e).stay (fun c w' hc q => (hs.2 c ?_).trans q) (fun _ q => q) fun _ _ q => q
    rintro rfl
    rcases hc with rfl | hc
    · rw [hfree] at e; cases e
    · rw [hfree] at hc; cases hc
  rcases hx with hk | hk
  · refine wpAny_storeName_local hk hn (fun h' hn' hs => ?_) hcls
    obtain ⟨oL, _, _, hoL, _⟩ := id hn
    refine h _ ⟨I.ok, I.os, I.bare, ⟨fun b o e n hb hx => ?_, fun b o e n hb hx => ?_, I.base.free, fun b o e hx => ?_, I.base.tups, I.base.frzs, I.base.tbls⟩, ⟨_, hn', fun j y v' e1 e2 e3 => ?_⟩, fun y c e => ?_, I.free, I.freeC, fun p hp => ?_, tracked ⟨oL, hoL, I.free⟩ hs, by simpa using I.len⟩ ⟨_, hs, .inl rfl⟩
    · exact (hs.2 b (Nat.ne_of_lt (Nat.lt_of_lt_of_le (Heap.lt_size e) I.ok.above))).trans (I.base.keep b o e n hb hx)
    · obtain ⟨sl, e1⟩ := I.base.slot b o e n hb hx
      exact ⟨sl, (hs.2 b (Nat.ne_of_lt (Nat.lt_of_lt_of_le (Heap.lt_size e) I.ok.above))).trans e1⟩
    · obtain ⟨o', e1⟩ := I.base.there b o e hx
      exact ⟨o', (hs.2 b (Nat.ne_of_lt (Nat.lt_of_lt_of_le (Heap.lt_size e) I.ok.above))).trans e1⟩
    · by_cases hj : j = i
      · subst hj
        rw [hi] at e1; cases e1
        rw [List.getElem?_set_self hiσ] at e2
        cases e2
        exact ⟨u, r, .inl ⟨hk, by simp⟩⟩
      · rw [List.getElem?_set_ne (Ne.symm hj)] at e2
        obtain ⟨u', r', q⟩ := hl j y v' e1 e2 e3
        refine ⟨u', r', ?_⟩
        rcases q with ⟨k, e⟩ | ⟨k, c, e, z⟩
        · refine .inl ⟨k, ?_⟩
          have : y ≠ x := fun e => hj (nodup_ix hN e1 (e ▸ hi))
          simp [this, e]
        · exact .inr ⟨k, c, e, z.sameBut hs (cne y c e)⟩
    · obtain ⟨w', z⟩ := I.cell y c e
      exact ⟨w', z.sameBut hs (cne y c e)⟩
    · obtain ⟨e, n, ne, nf, d⟩ := I.pin p hp
      exact ⟨(hs.2 p.1 ne).trans e, n, ne, nf, d⟩
  · have hfn : X.fn x = true := by
      rcases hf with z | z
      · exact z
      · rw [z] at hk; cases hk
    obtain ⟨c, hc⟩ := I.ok.has x (.inl hk)
    obtain ⟨w', z⟩ := I.cell x c hc
    refine wpAny_storeName_cell I.ok.kind hk hc z (fun h' hc' hs => ?_)
    obtain ⟨oc, hoc, hocd⟩ := id z
    refine h { s with heap := h' } ⟨I.ok, I.os, I.bare, ⟨fun b o e n hb hx => ?_, fun b o e n hb hx => ?_, I.base.free, fun b o e hx => ?_, I.base.tups, I.base.frzs, I.base.tbls⟩, ⟨m, hn.sameBut hs (Ne.symm (cne x c hc)), fun j y v' e1 e2 e3 => ?_⟩, fun y c' e => ?_, I.free, I.freeC, fun p hp => ?_, tracked ⟨oc, hoc, I.freeC x c hc⟩ hs, by simpa using I.len⟩ ⟨c, hs, .inr hc⟩
    · exact (hs.2 b (Nat.ne_of_lt (Nat.lt_of_lt_of_le (Heap.lt_size e) (I.ok.cab x c hfn hc)))).trans (I.base.keep b o e n hb hx)
    · obtain ⟨sl, e1⟩ := I.base.slot b o e n hb hx
      exact ⟨sl, (hs.2 b (Nat.ne_of_lt (Nat.lt_of_lt_of_le (Heap.lt_size e) (I.ok.cab x c hfn hc)))).trans e1⟩
    · obtain ⟨o', e1⟩ := I.base.there b o e hx
      exact ⟨o', (hs.2 b (Nat.ne_of_lt (Nat.lt_of_lt_of_le (Heap.lt_size e) (I.ok.cab x c hfn hc)))).trans e1⟩
    · by_cases hj : j = i
      · subst hj
        rw [hi] at e1; cases e1
        rw [List.getElem?_set_self hiσ] at e2
        cases e2
        exact ⟨u, r, .inr ⟨.inl hk, c, hc, hc'⟩⟩
      · rw [List.getElem?_set_ne (Ne.symm hj)] at e2
        obtain ⟨u', r', q⟩ := hl j y v' e1 e2 e3
        refine ⟨u', r', ?_⟩
        rcases q with q | ⟨k, c', e, z'⟩
        · exact .inl q
        · refine .inr ⟨k, c', e, z'.sameBut hs ?_⟩
          rintro rfl
          exact hj (nodup_ix hN e1 (I.ok.inj _ _ _ e hc ▸ hi))
    · by_cases hcc : c' = c
      · subst hcc; exact ⟨_, hc'⟩
      · obtain ⟨w2, z2⟩ := I.cell y c' e
        exact ⟨w2, z2.sameBut hs hcc⟩
    · obtain ⟨e, n, ne, nf, d⟩ := I.pin p hp
      refine ⟨(hs.2 p.1 ?_).trans e, n, ne, nf, d⟩
      intro q
      rw [q, hoc] at e
      have q' : oc = p.2 := Option.some.inj e
      exact d w' (by rw [← q']; exact hocd)
theorem store_ok {M : Model} {A : Around} {E : Value → Shared → Prop} {i : Nat} {x : Str} {v : V} {u : Value} {Q : Unit → Shared → Prop} (I : Inv X pins σ H s) (hN : X.N.Nodup) (hi : X.N[i]? = some x) (hx : Loc X.env.scope x) (r : RelV v u)
    (h : ∀ s', Inv X pins (σ.set i (some v)) H s' → Q () s') (hf : X.fn x = true ∨ X.env.scope.names.lookup x = some .local := by first | exact .inl rfl | exact .inr rfl | assumption) : wpAny M A (storeName X.env x u) Q E s :=
  store_ok2 I hN hi hx r (fun s' I' _ => h s' I') hf
theorem Inv.call' {s' : Shared} {ch : List Addr} (I : Inv X pins σ H s) (ho : s'.os = s.os) (u : Un (frs X.stack) ch H H' s.heap s'.heap) (hok : HOk X.prog X.w H' s'.heap) (hg : AllBare s'.gens)
    (hch : ∀ b ∈ ch, (b ∈ X.ex ∨ X.s₀.heap.objs.size ≤ b) ∧ b ≠ X.env.locals ∧ (∀ x c, X.env.cells.lookup x = some c → c ≠ b) ∧ ∀ p ∈ X.pn ++ pins, p.1 ≠ b) : Inv X pins σ H' s' := by
  obtain ⟨h', g', d', t', o'⟩ := s'
  have e : o' = s.os := ho
  subst e
  exact I.call (g' := g') (t' := t') (d' := d') u hok hg hch
end

abbrev XK := Value → Option Addr → Hp → Prop
abbrev St := List (Option V)
abbrev VK := V → Hp → Prop
abbrev TE := St → Hp → VK → Prop
abbrev TT := St → Hp → (Bool → Hp → Prop) → Prop
abbrev TA := St → Hp → (List V → Hp → Prop) → Prop
structure Ends where
  nx : St → Hp → Prop
  rt : VK
  bk : St → Hp → Prop := fun _ _ => False
  ct : St → Hp → Prop := fun _ _ => False
abbrev TS := Ends → St → Hp → Prop

def EP (X : Cx) (pins : List (Addr × Obj)) (σ : St) (Q : VK) (u : Value) (s' : Shared) : Prop := ∃ v H', Inv X pins σ H' s' ∧ RelV v u ∧ Q v H'
def TP (X : Cx) (pins : List (Addr × Obj)) (σ : St) (Q : Bool → Hp → Prop) (b : Bool) (s' : Shared) : Prop := ∃ H', Inv X pins σ H' s' ∧ Q b H'
def AP (X : Cx) (pins : List (Addr × Obj)) (σ : St) (Q : List V → Hp → Prop) (us : List Value) (s' : Shared) : Prop := ∃ vs H', Inv X pins σ H' s' ∧ Vals vs us ∧ Q vs H'
def SP (X : Cx) (pins : List (Addr × Obj)) (D : Ends) (f : Flow) (s' : Shared) : Prop :=
  match f with
  | .next => ∃ σ' H', Inv X pins σ' H' s' ∧ D.nx σ' H'
  | .brk => ∃ σ' H', Inv X pins σ' H' s' ∧ D.bk σ' H'
  | .cont => ∃ σ' H', Inv X pins σ' H' s' ∧ D.ct σ' H'
  | .ret u => ∃ v σ' H', Inv X pins σ' H' s' ∧ RelV v u ∧ D.rt v H'

def PE (X : Cx) (e : Expr) (t : TE) : Prop :=
  ∀ (pins : List (Addr × Obj)) (s : Shared) (σ : St) (H : Hp) (Q : VK), Inv X pins σ H s → t σ H Q → wpAny (model X.prog X.w) X.A (eval e X.env) (EP X pins σ Q) X.xe s
def PT (X : Cx) (e : Expr) (t : TT) : Prop :=
  ∀ (pins : List (Addr × Obj)) (s : Shared) (σ : St) (H : Hp) (Q : Bool → Hp → Prop), Inv X pins σ H s → t σ H Q → wpAny (model X.prog X.w) X.A (isTrue e X.env (eval e X.env)) (TP X pins σ Q) X.xe s
def PW (X : Cx) (e : Expr) (t : TT) : Prop :=
  ∀ (whole : Sem Value) (pins : List (Addr × Obj)) (s : Shared) (σ : St) (H : Hp) (Q : Bool → Hp → Prop), Inv X pins σ H s → t σ H Q → wpAny (model X.prog X.w) X.A (isTrue e X.env whole) (TP X pins σ Q) X.xe s
theorem PW.pt {X : Cx} {e : Expr} {t : TT} (h : PW X e t) : PT X e t := h _
def PA (X : Cx) (es : List Expr) (t : TA) : Prop :=
  ∀ (pos : Pos) (pins : List (Addr × Obj)) (s : Shared) (σ : St) (H : Hp) (Q : List V → Hp → Prop), Inv X pins σ H s → t σ H Q → wpAny (model X.prog X.w) X.A (spliced (backTo pos (starEach es X.env))) (AP X pins σ Q) X.xe s
def PS (X : Cx) (st : Stmt) (t : TS) : Prop :=
  ∀ (pins : List (Addr × Obj)) (s : Shared) (σ : St) (H : Hp) (D : Ends), Inv X pins σ H s → t D σ H → wpAny (model X.prog X.w) X.A (exec st X.env) (SP X pins D) X.xe s
def PSs (X : Cx) (st : List Stmt) (t : TS) : Prop :=
  ∀ (pins : List (Addr × Obj)) (s : Shared) (σ : St) (H : Hp) (D : Ends), Inv X pins σ H s → t D σ H → wpAny (model X.prog X.w) X.A (execs st X.env) (SP X pins D) X.xe s
theorem thn {α : Type} {t : Sem α} {Q Q' : α → Shared → Prop} {M : Model} {A : Around} {E : Value → Shared → Prop} {s : Shared} (h : wpAny M A t Q E s) (hQ : ∀ a s, Q a s → Q' a s) : wpAny M A t Q' E s := wpAny_mono h hQ fun _ _ x => x
end L2

namespace L2
open PySem PySem.Spec PyProof.Rows
section
variable {X : Cx}

def tVar (i : Nat) : TE := fun σ H Q => ∃ v, σ[i]? = some (some v) ∧ Q v H
def tC (v : V) : TE := fun _ H Q => Q v H
theorem pe_var {i : Nat} {x : Str} {pos : Pos} (hN : X.N[i]? = some x) (hv : Vis X.env.scope x) (hd : (x == ("__debug__" : Str)) = false := by decide) (hcd : (x == ("__classdict__" : Str)) = false := by decide) : PE X (.Name x pos) (tVar i) := by
  intro pins s σ H Q I h
  obtain ⟨v, e, h⟩ := h
  obtain ⟨m, hn, hl⟩ := I.loc
  obtain ⟨u, r, l⟩ := hl i x v hN e hv
  have fin : EP X pins σ Q u s := ⟨v, H, I, r, h⟩
  rcases l with ⟨hk, hm⟩ | ⟨hk, c, hc, hcell⟩
  · exact wpAny_Name (wpAny_loadName_local I.ok.kind hk hn hm fin) hd
  · rcases hk with hk | hk
    · exact wpAny_Name (wpAny_loadName_cell I.ok.kind hk hc hcell fin) hd
    · exact wpAny_Name (wpAny_loadName_free I.ok.kind hk hc hcell fin hcd) hd
theorem pe_int {i j pos} : PE X (.Constant (.int i) j pos) (tC (.int i)) := fun _ _ _ H _ I h => wpAny_Constant_int ⟨.int i, H, I.tok _, ⟨_, rfl⟩, h⟩
theorem pe_bl {b j pos} : PE X (.Constant (.bool b) j pos) (tC (.bl b)) := fun _ _ _ H _ I h => Constant_bool ⟨.bl b, H, I, rfl, h⟩
theorem pe_non {j pos} : PE X (.Constant .none j pos) (tC .non) := fun _ _ _ H _ I h => Constant_none ⟨.non, H, I, rfl, h⟩
theorem pe_str {x j pos} : PE X (.Constant (.str x) j pos) (tC (.str x)) := fun _ _ _ H _ I h => Calls.Constant_str ⟨.str x, H, I.tok _, ⟨_, rfl⟩, h⟩

def Gl (X : Cx) (x : Str) : Prop := X.env.kindOf x = some .globalImplicit
theorem ld_glob {E : Value → Shared → Prop} {pins : List (Addr × Obj)} {s : Shared} {σ : St} {H : Hp} {x : Str} {u : Value} {pos : Pos} {Q : Value → Shared → Prop} (I : Inv X pins σ H s) (hg : Gl X x) (hm : X.mg x = some u) (h : Q u s)
    (hd : (x == ("__debug__" : Str)) = false := by decide) : wpAny (model X.prog X.w) X.A (eval (.Name x pos) X.env) Q E s :=
  Calls.Name_function_global I.ok.kind hg (Calls.loadGlobal_global (by rw [I.ok.glob]; exact I.mod.glob.keeps I.bk) hm h) hd
theorem ld_blt {E : Value → Shared → Prop} {pins : List (Addr × Obj)} {s : Shared} {σ : St} {H : Hp} {x : Str} {u : Value} {pos : Pos} {Q : Value → Shared → Prop} (I : Inv X pins σ H s) (hg : Gl X x) (hm : X.mg x = none) (hv : bootBuiltins x = some u) (h : Q u s)
    (hn : x ≠ "__name__" := by decide) (hd : (x == ("__debug__" : Str)) = false := by decide) : wpAny (model X.prog X.w) X.A (eval (.Name x pos) X.env) Q E s := by
  obtain ⟨mb, h1, h2⟩ := I.mod.blt
  exact Calls.Name_function_global I.ok.kind hg (Calls.loadGlobal_builtin (by rw [I.ok.glob]; exact I.mod.glob.keeps I.bk) hm (by rw [I.ok.blt]; exact h1.keeps I.bk) ((h2 x hn).trans hv) h) hd
theorem pe_glob {x : Str} {v : V} {u : Value} {pos : Pos} (hg : Gl X x) (hm : X.mg x = some u) (r : RelV v u) (hd : (x == ("__debug__" : Str)) = false := by decide) : PE X (.Name x pos) (tC v) :=
  fun _ _ _ H _ I h => ld_glob I hg hm ⟨v, H, I, r, h⟩ hd
theorem pe_bltn {x : Str} {v : V} {u : Value} {pos : Pos} (hg : Gl X x) (hm : X.mg x = none) (hv : bootBuiltins x = some u) (r : RelV v u) (hn : x ≠ "__name__" := by decide) (hd : (x == ("__debug__" : Str)) = false := by decide) : PE X (.Name x pos) (tC v) :=
  fun _ _ _ H _ I h => ld_blt I hg hm hv ⟨v, H, I, r, h⟩ hn hd

variable {a b : Expr} {ta tb : TE} {pos : Pos}
def PC (X : Cx) (op : CmpOp) (a b : Expr) (t : TE) : Prop :=
  ∀ (pins : List (Addr × Obj)) (s : Shared) (σ : St) (H : Hp) (Q : VK), Inv X pins σ H s → t σ H Q →
    wpAny (model X.prog X.w) X.A (eval a X.env) (fun v s₁ => wpAny (model X.prog X.w) X.A (eval b X.env) (fun u s₂ => wpAny (model X.prog X.w) X.A (compareOp op v u) (EP X pins σ Q) X.xe s₂) X.xe s₁) X.xe s
theorem nobehind (b : Expr) {op : CmpOp} (h : op ≠ .In) (h2 : op ≠ .NotIn) : behindInMarks op b = false := by
  have e1 : (op == CmpOp.In) = false := by cases op <;> first | rfl | exact absurd rfl h
  have e2 : (op == CmpOp.NotIn) = false := by cases op <;> first | rfl | exact absurd rfl h2
  cases b <;> simp [behindInMarks, e1, e2]
def tB (t : TE) : TT := fun σ H Q => t σ H fun x H1 => ∃ c, x = .bl c ∧ Q c H1
theorem pt_cmp {op : CmpOp} {t : TE} (h : PC X op a b t) (h1 : behindInMarks op b = false := by first | exact nobehind _ (by decide) (by decide) | rfl) : PT X (.Compare a [op] [b] pos) (tB t) := by
  intro pins s σ H Q I hw
  refine wpAny_isTrue_Compare1 (thn (h pins s σ H _ I hw) fun v s1 h1 => thn h1 fun u s2 h2 => thn h2 fun c s3 ⟨x, H1, I1, r1, q1⟩ => ?_) h1
  obtain ⟨d, rfl, q⟩ := q1
  cases r1
  exact wpAny_truthy_bool ⟨H1, I1, q⟩
theorem pt_val {e : Expr} {t : TE} (h : PE X e t) (he : ∀ whole, isTrue e X.env whole = (do let v ← whole; standAt e.pos; holding [v] (truthy v)) := by intro _; rfl) : PT X e (tB t) := by
  intro pins s σ H Q I hw
  refine isTrue_plain (thn (h pins s σ H _ I hw) fun v s1 ⟨x, H1, I1, r1, q1⟩ => ?_) (he _)
  obtain ⟨d, rfl, q⟩ := q1
  cases r1
  exact wpAny_truthy_bool ⟨H1, I1, q⟩

variable {tA tB' : TT} {rest : List Expr}
def tAnd (t u : TT) : TT := fun σ H Q => t σ H fun c H1 => if c = true then u σ H1 Q else Q false H1
def tOr (t u : TT) : TT := fun σ H Q => t σ H fun c H1 => if c = true then Q true H1 else u σ H1 Q
def tNot (t : TT) : TT := fun σ H Q => t σ H fun c H1 => Q (!c) H1
theorem pw_and1 (ha : PT X a tA) : PW X (.BoolOp .And [a] pos) tA := by
  intro wh pins s σ H Q I h
  refine isTrue_and (thn (ha pins s σ H Q I h) fun c s1 e => ?_)
  cases c with
  | true => exact isTrue_and_nil e
  | false => exact e
theorem pw_or1 (ha : PT X a tA) : PW X (.BoolOp .Or [a] pos) tA := by
  intro wh pins s σ H Q I h
  refine isTrue_or (thn (ha pins s σ H Q I h) fun c s1 e => ?_)
  cases c with
  | false => exact isTrue_or_nil e
  | true => exact e
theorem pw_and (ha : PT X a tA) (hb : PW X (.BoolOp .And (b :: rest) pos) tB') : PW X (.BoolOp .And (a :: b :: rest) pos) (tAnd tA tB') := by
  intro wh pins s σ H Q I h
  refine isTrue_and (thn (ha pins s σ H _ I h) fun c s1 ⟨H1, I1, q1⟩ => ?_)
  cases c with
  | true => exact hb wh pins s1 σ H1 Q I1 q1
  | false => exact ⟨H1, I1, q1⟩
theorem pw_or (ha : PT X a tA) (hb : PW X (.BoolOp .Or (b :: rest) pos) tB') : PW X (.BoolOp .Or (a :: b :: rest) pos) (tOr tA tB') := by
  intro wh pins s σ H Q I h
  refine isTrue_or (thn (ha pins s σ H _ I h) fun c s1 ⟨H1, I1, q1⟩ => ?_)
  cases c with
  | true => exact ⟨H1, I1, q1⟩
  | false => exact hb wh pins s1 σ H1 Q I1 q1
theorem pt_not (ha : PT X a tA) : PT X (.UnaryOp .Not a pos) (tNot tA) := by
  intro pins s σ H Q I h
  exact isTrue_not (ha pins s σ H (fun c H1 => Q (!c) H1) I h)
def tAndV (ta tb : TE) : TE := fun σ H Q => ta σ H fun x H1 => ∃ c, x = .bl c ∧ if c = true then tb σ H1 Q else Q (.bl false) H1
def tNotV (ta : TE) : TE := fun σ H Q => ta σ H fun x H1 => ∃ c, x = .bl c ∧ Q (.bl (!c)) H1
theorem pe_one {op} {t : TE} (h : PE X a t) : PE X (.BoolOp op [a] pos) t := fun pins s σ H Q I hw => BoolOp_one (h pins s σ H Q I hw)
theorem pe_and (ha : PE X a ta) (hb : PE X (.BoolOp .And (b :: rest) pos) tb) : PE X (.BoolOp .And (a :: b :: rest) pos) (tAndV ta tb) := by
  intro pins s σ H Q I h
  refine BoolOp_and (thn (ha pins s σ H _ I h) fun v s1 ⟨x, H1, I1, r1, q1⟩ => ?_)
  obtain ⟨c, rfl, q1⟩ := q1
  cases r1
  refine wpAny_truthy_bool ?_
  cases c with
  | true => exact hb pins s1 σ H1 Q I1 q1
  | false => exact ⟨.bl false, H1, I1, rfl, q1⟩
theorem pe_not (ha : PE X a ta) : PE X (.UnaryOp .Not a pos) (tNotV ta) := by
  intro pins s σ H Q I h
  refine UnaryOp_ (thn (ha pins s σ H _ I h) fun v s1 ⟨x, H1, I1, r1, q1⟩ => ?_)
  obtain ⟨c, rfl, q1⟩ := q1
  cases r1
  exact not_of (wpAny_truthy_bool ⟨.bl (!c), H1, I1, rfl, q1⟩)
def tIf (t : TT) (ta tb : TE) : TE := fun σ H Q => t σ H fun c H1 => if c = true then ta σ H1 Q else tb σ H1 Q
theorem pe_ifExp {c : Expr} (hc : PT X c tA) (ha : PE X a ta) (hb : PE X b tb) : PE X (.IfExp c a b pos) (tIf tA ta tb) := by
  intro pins s σ H Q I h
  refine wpAny_IfExp (thn (hc pins s σ H _ I h) fun d s1 ⟨H1, I1, q1⟩ => ?_)
  cases d with
  | true => exact ha pins s1 σ H1 Q I1 q1
  | false => exact hb pins s1 σ H1 Q I1 q1
end
end L2

namespace L2
open PySem PySem.Spec PyProof.Rows

def SqL (K : PySem.W.Frag) (H : Hp) (a : Addr) (xs : List V) : Prop :=
  Rd H a (.lst xs) ∨
    ∃ (o : Obj) (its : Array Value) (n : Nat), K.lookup a = some o ∧ o.cls = .type "list" ∧ o.dict = none ∧ o.data = .seq its n ∧ its.size ≤ sizeLine ∧ Vals xs its.toList
def SqT (K : PySem.W.Frag) (H : Hp) (a : Addr) (xs : List V) : Prop :=
  Rd H a (.tup xs) ∨
    ∃ (o : Obj) (its : Array Value) (n : Nat), K.lookup a = some o ∧ o.cls = .type "tuple" ∧ o.data = .seq its n ∧ its.size ≤ sizeLine ∧ Vals xs its.toList
def absV : Value → Option V
  | .none => some .non
  | .bool b => some (.bl b)
  | .int i _ => some (.int i)
  | .str x _ => some (.str x)
  | .bytes b _ => some (.byt b)
  | .float b _ => some (.flt b)
  | .ref a => some (.ref a)
  | .type n => some (.ty n)
  | _ => none
theorem RelV.abs {x : V} {u : Value} (r : RelV x u) : absV u = some x := by
  cases x with
  | non => cases r; rfl
  | bl _ => cases r; rfl
  | int _ => obtain ⟨t, rfl⟩ := r; rfl
  | str _ => obtain ⟨t, rfl⟩ := r; rfl
  | byt _ => obtain ⟨t, rfl⟩ := r; rfl
  | flt _ => obtain ⟨t, rfl⟩ := r; rfl
  | ref _ => cases r; rfl
  | ty _ => cases r; rfl
theorem RelV.inj {x y : V} {u : Value} (r : RelV x u) (q : RelV y u) : x = y := Option.some.inj (r.abs.symm.trans q.abs)
theorem Vals.inj : ∀ {xs ys : List V} {us : List Value}, Vals xs us → Vals ys us → xs = ys
  | _, _, _, .nil, .nil => rfl
  | _, _, _, .cons r t, .cons r' t' => by rw [r.inj r', Vals.inj t t']
section
variable {X : Cx} {pins : List (Addr × Obj)} {σ : St} {H : Hp} {s : Shared} {a : Addr} {xs ys : List V}
theorem SqL.of {K : PySem.W.Frag} (h : H a = some (.lst xs)) : SqL K H a xs := .inl (.inl h)
theorem SqT.of {K : PySem.W.Frag} (h : H a = some (.tup xs)) : SqT K H a xs := .inl (.inl h)
theorem Inv.list (I : Inv X pins σ H s) (h : SqL X.K H a xs) : ∃ its : List Value, Vals xs its ∧ PlainL s.heap a its.toArray ∧ xs.length ≤ sizeLine := by
  rcases h with h | ⟨o, its, n, hk, hc, hd, hs, hz, r⟩
  · obtain ⟨z, its, n, r, e⟩ := h.ok I.hok
    exact ⟨its, r, ⟨_, n, e, rfl, rfl, rfl⟩, z⟩
  · refine ⟨its.toList, r, ⟨o, n, I.kIn a o hk, hc, hd, by simpa using hs⟩, ?_⟩
    have e := r.length
    simp only [Array.length_toList] at e
    omega
theorem Inv.tuple (I : Inv X pins σ H s) (h : SqT X.K H a xs) : ∃ its : List Value, Vals xs its ∧ IsTup s.heap a its.toArray ∧ xs.length ≤ sizeLine := by
  rcases h with h | ⟨o, its, n, hk, hc, hs, hz, r⟩
  · obtain ⟨z, its, r, p⟩ := h.ok I.hok
    exact ⟨its, r, p, z⟩
  · refine ⟨its.toList, r, ⟨o, I.kIn a o hk, hc, n, by simpa using hs⟩, ?_⟩
    have e := r.length
    simp only [Array.length_toList] at e
    omega
theorem Inv.list_inj (I : Inv X pins σ H s) (h : SqL X.K H a xs) (h' : SqL X.K H a ys) : xs = ys := by
  obtain ⟨its, r, ⟨o, n, e, _, _, d⟩, _⟩ := I.list h
  obtain ⟨its', r', ⟨o', n', e', _, _, d'⟩, _⟩ := I.list h'
  rw [e] at e'; cases e'
  rw [d] at d'
  injection d' with d1 _
  have : its = its' := by simpa using congrArg Array.toList d1
  subst this
  exact r.inj r'
theorem Inv.tuple_inj (I : Inv X pins σ H s) (h : SqT X.K H a xs) (h' : SqT X.K H a ys) : xs = ys := by
  obtain ⟨its, r, ⟨o, e, _, n, d⟩, _⟩ := I.tuple h
  obtain ⟨its', r', ⟨o', e', _, n', d'⟩, _⟩ := I.tuple h'
  rw [e] at e'; cases e'
  rw [d] at d'
  injection d' with d1 _
  have : its = its' := by simpa using congrArg Array.toList d1
  subst this
  exact r.inj r'
end

abbrev Cx.wish (X : Cx) (E : Value → Shared → Prop) : Cx := { X with xe := E }
abbrev Cx.nox (X : Cx) : Cx := X.wish fun _ _ => False
theorem Cx.Ok.wish {X : Cx} (ok : X.Ok) (E : Value → Shared → Prop) : (X.wish E).Ok :=
  ⟨ok.mod, ok.kind, ok.glob, ok.blt, ok.above, ok.inj, ok.has, ok.cab, ok.hd, ok.frames, ok.stk, ok.exf, ok.bs, ok.bsz, ok.noex, ok.exfs, ok.funs, ok.frf⟩
theorem Cx.Ok.unwish {X : Cx} {E : Value → Shared → Prop} (ok : (X.wish E).Ok) : X.Ok :=
  ⟨ok.mod, ok.kind, ok.glob, ok.blt, ok.above, ok.inj, ok.has, ok.cab, ok.hd, ok.frames, ok.stk, ok.exf, ok.bs, ok.bsz, ok.noex, ok.exfs, ok.funs, ok.frf⟩
section
variable {X : Cx} {pins : List (Addr × Obj)} {σ : St} {H : Hp} {s : Shared} {E : Value → Shared → Prop}
theorem Inv.wish (I : Inv X pins σ H s) (E : Value → Shared → Prop) : Inv (X.wish E) pins σ H s := ⟨I.ok.wish E, I.os, I.bare, I.base, I.loc, I.cell, I.free, I.freeC, I.pin, I.hok, I.len⟩
theorem Inv.unwish (I : Inv (X.wish E) pins σ H s) : Inv X pins σ H s := ⟨I.ok.unwish, I.os, I.bare, I.base, I.loc, I.cell, I.free, I.freeC, I.pin, I.hok, I.len⟩
theorem SP.unwish {D : Ends} {f : Flow} {s' : Shared} (h : SP (X.wish E) pins D f s') : SP X pins D f s' := by
  cases f with
  | next => obtain ⟨σ', H', I, q⟩ := h; exact ⟨σ', H', I.unwish, q⟩
  | brk => obtain ⟨σ', H', I, q⟩ := h; exact ⟨σ', H', I.unwish, q⟩
  | cont => obtain ⟨σ', H', I, q⟩ := h; exact ⟨σ', H', I.unwish, q⟩
  | ret u => obtain ⟨v, σ', H', I, r, q⟩ := h; exact ⟨v, σ', H', I.unwish, r, q⟩
theorem PE.nox {e : Expr} {t : TE} (h : PE X.nox e t) : PE X e t := fun pins s σ H Q I hw =>
  wpAny_mono (h pins s σ H Q (I.wish _) hw) (fun _ _ ⟨v, H', I', r, q⟩ => ⟨v, H', I'.unwish, r, q⟩) fun _ _ z => False.elim z
theorem PT.nox {e : Expr} {t : TT} (h : PT X.nox e t) : PT X e t := fun pins s σ H Q I hw =>
  wpAny_mono (h pins s σ H Q (I.wish _) hw) (fun _ _ ⟨H', I', q⟩ => ⟨H', I'.unwish, q⟩) fun _ _ z => False.elim z
theorem PSs.nox {st : List Stmt} {t : TS} (h : PSs X.nox st t) : PSs X st t := fun pins s σ H D I hw =>
  wpAny_mono (h pins s σ H D (I.wish _) hw) (fun _ _ q => q.unwish) fun _ _ z => False.elim z
end

section
variable {X : Cx} {st : Stmt} {rest : List Stmt} {t u : TS} {e : Expr} {te : TE} {pos : Pos}
def tNext : TS := fun D σ H => D.nx σ H
def tSeq (t u : TS) : TS := fun D σ H => t { D with nx := u D } σ H
theorem pss_nil : PSs X [] tNext := fun _ _ σ H _ I h => wpAny_execs_nil ⟨σ, H, I, h⟩
theorem pss_cons (h1 : PS X st t) (h2 : PSs X rest u) : PSs X (st :: rest) (tSeq t u) := by
  intro pins s σ H D I h
  refine wpAny_execs_cons (thn (h1 pins s σ H { D with nx := u D } I h) fun f s1 q => ?_)
  cases f with
  | next =>
    obtain ⟨σ', H', I', q⟩ := q
    exact h2 pins s1 σ' H' D I' q
  | ret v => exact q
  | brk => exact q
  | cont => exact q
theorem pss_one (h1 : PS X st t) : PSs X [st] t := by
  intro pins s σ H D I h
  refine wpAny_execs_cons (thn (h1 pins s σ H D I h) fun f s1 q => ?_)
  cases f with
  | next => exact wpAny_execs_nil q
  | ret v => exact q
  | brk => exact q
  | cont => exact q
theorem Inv.quiet {pins : List (Addr × Obj)} {σ : St} {H : Hp} {s : Shared} (I : Inv X pins σ H s) : interactive X.env = false := by simp [interactive, I.ok.kind]
def tDrop (te : TE) : TS := fun D σ H => te σ H fun _ H1 => D.nx σ H1
theorem ps_expr (he : PE X e te) (hs : swapsWith e none pos.line X.env = pure false := by rfl) : PS X (.Expr e pos) (tDrop te) := by
  intro pins s σ H D I h
  exact wpAny_Expr_any (thn (he pins s σ H _ I h) fun v s1 ⟨x, H1, I1, r1, q1⟩ => ⟨σ, H1, I1, q1⟩) I.quiet hs
def tRet (te : TE) : TS := fun D σ H => te σ H D.rt
theorem ps_ret (he : PE X e te) : PS X (.Return (some e) pos) (tRet te) := by
  intro pins s σ H D I h
  exact wpAny_Return_some (thn (he pins s σ H _ I h) fun v s1 ⟨x, H1, I1, r1, q1⟩ => ⟨x, σ, H1, I1, r1, q1⟩)
def tIfS (c : TT) (t u : TS) : TS := fun D σ H => c σ H fun b H1 => if b = true then t D σ H1 else u D σ H1
theorem ps_if {c : Expr} {a b : List Stmt} {tc : TT} (hc : PT X c tc) (ha : PSs X a t) (hb : PSs X b u) : PS X (.If c a b pos) (tIfS tc t u) := by
  intro pins s σ H D I h
  refine wpAny_If (thn (hc pins s σ H _ I h) fun d s1 ⟨H1, I1, q1⟩ => ?_)
  cases d with
  | true => exact ha pins s1 σ H1 D I1 q1
  | false => exact hb pins s1 σ H1 D I1 q1
def tNever : TS := fun _ _ _ => False
theorem ps_never : PS X st tNever := fun _ _ _ _ _ _ h => h.elim
end

abbrev TG := V → St → Hp → (St → Hp → Prop) → Prop
abbrev TGs := List V → St → Hp → (St → Hp → Prop) → Prop
def PG (X : Cx) (target : Expr) (t : TG) : Prop :=
  ∀ (pins : List (Addr × Obj)) (s : Shared) (σ : St) (H : Hp) (v : V) (u : Value) (Q : St → Hp → Prop), Inv X pins σ H s → RelV v u → t v σ H Q →
    wpAny (model X.prog X.w) X.A (assign target X.env u) (fun _ s' => ∃ σ' H', Inv X pins σ' H' s' ∧ Q σ' H') X.xe s
def PGs (X : Cx) (ts : List Expr) (t : TGs) : Prop :=
  ∀ (pins : List (Addr × Obj)) (s : Shared) (σ : St) (H : Hp) (vs : List V) (us : List Value) (Q : St → Hp → Prop), Inv X pins σ H s → Vals vs us → t vs σ H Q →
    wpAny (model X.prog X.w) X.A (assignInOrder ((assignEach ts X.env).map (·.2)) us) (fun _ s' => ∃ σ' H', Inv X pins σ' H' s' ∧ Q σ' H') X.xe s
section
variable {X : Cx} {pos : Pos}
def gName (i : Nat) : TG := fun v σ H Q => Q (σ.set i (some v)) H
theorem pg_name {i : Nat} {x : Str} (hN : X.N.Nodup) (hi : X.N[i]? = some x) (hx : Loc X.env.scope x) (hf : X.fn x = true ∨ X.env.scope.names.lookup x = some .local := by first | exact .inl rfl | exact .inr rfl | assumption) : PG X (.Name x pos) (gName i) := by
  intro pins s σ H v u Q I r h
  exact wpAny_assign_Name (store_ok I hN hi hx r (fun s' I' => ⟨_, H, I', h⟩) hf)
def gNil : TGs := fun vs σ H Q => vs = [] ∧ Q σ H
def gCons (t : TG) (u : TGs) : TGs := fun vs σ H Q => ∃ v r, vs = v :: r ∧ t v σ H fun σ' H' => u r σ' H' Q
theorem pgs_nil : PGs X [] gNil := by
  intro pins s σ H vs us Q I r h
  obtain ⟨e, h⟩ := h
  subst e
  cases r
  exact assignInOrder_nil ⟨σ, H, I, h⟩
theorem pgs_cons {e : Expr} {es : List Expr} {t : TG} {u : TGs} (h1 : PG X e t) (h2 : PGs X es u)
    (hs : (assignEach (e :: es) X.env).map (·.2) = assign e X.env :: (assignEach es X.env).map (·.2) := by rfl) : PGs X (e :: es) (gCons t u) := by
  intro pins s σ H vs us Q I r h
  obtain ⟨v, vr, e1, h⟩ := h
  subst e1
  cases r with
  | cons r rr =>
    rw [hs]
    refine assignInOrder_cons (thn (h1 pins s σ H _ _ _ I r h) fun _ s1 ⟨σ1, H1, I1, q1⟩ => ?_)
    exact h2 pins s1 σ1 H1 _ _ Q I1 rr q1
def gTup (K : PySem.W.Frag) (n : Nat) (t : TGs) : TG := fun v σ H Q => ∃ a xs, v = .ref a ∧ SqT K H a xs ∧ xs.length = n ∧ t xs σ H Q
theorem pg_tup {es : List Expr} {k : Nat} {t : TGs} {n : Nat} (hc : X.calm = true) (h : PGs X es t)
    (hn : (assignEach es X.env).length = n := by rfl) (hst : (assignEach es X.env).findIdx? (·.1) = none := by rfl) : PG X (.Tuple es k pos) (gTup X.K n t) := by
  intro pins s σ H v u Q I r hw
  obtain ⟨a, xs, e1, hq, hl, hw⟩ := hw
  subst e1
  cases r
  obtain ⟨its, rv, ht, hz⟩ := I.tuple hq
  refine assign_Tuple_tuple (I.ok.hd hc) ht (by simp [hn, ← hl, rv.length]) hst fun h' hx => ?_
  have I1 : Inv X pins σ H { s with heap := h' } := I.kept (t' := s.toks) fun b o e => hx b o (Nat.ne_of_lt (Heap.lt_size e)) e
  exact h pins _ σ H xs _ Q I1 (by simpa using rv) hw
def tAsg (te : TE) (g : TG) : TS := fun D σ H => te σ H fun x H1 => g x σ H1 D.nx
theorem ps_asg {tg e : Expr} {te : TE} {g : TG} (he : PE X e te) (hg : PG X tg g) (hs : swapsWithSole [tg] e pos.line X.env = pure false := by rfl) (hw : swappedStores [tg] e X.env = pure none := by rfl)
    (h1 : (assignEach [tg] X.env).map (·.2) = [assign tg X.env] := by rfl) : PS X (.Assign [tg] e pos) (tAsg te g) := by
  intro pins s σ H D I h
  refine wpAny_Assign_stores (thn (he pins s σ H _ I h) fun v s1 ⟨x, H1, I1, r1, q1⟩ => ?_) hs hw
  rw [h1]
  exact thn (hg pins s1 σ H1 x v _ I1 r1 q1) fun _ s2 q => q
theorem ps_set {i : Nat} {x : Str} {e : Expr} {te : TE} {pos' : Pos} (hN : X.N.Nodup) (hi : X.N[i]? = some x) (hx : Loc X.env.scope x) (he : PE X e te) (hs : swapsWith e (some (.Name x pos')) pos.line X.env = pure false := by rfl) (hf : X.fn x = true ∨ X.env.scope.names.lookup x = some .local := by first | exact .inl rfl | exact .inr rfl | assumption) :
    PS X (.Assign [.Name x pos'] e pos) (tAsg te (gName i)) := by
  intro pins s σ H D I h
  refine wpAny_Assign_Name (thn (he pins s σ H _ I h) fun v s1 ⟨y, H1, I1, r1, q1⟩ => ?_) hs
  exact store_ok I1 hN hi hx r1 (fun s2 I2 => ⟨_, H1, I2, q1⟩) hf
end

section
variable {X : Cx} {pos : Pos}
def tWhile (c : TT) (tb : TS) : TS := fun D σ H => ∃ W : Nat → St → Hp → Prop, (∃ m, W m σ H) ∧ ∀ m σ H, W m σ H →
  c σ H fun b H1 => if b = true then ∃ N : St → Hp → Prop, (∀ σ' H', N σ' H' → ∃ m', m' < m ∧ W m' σ' H') ∧ tb { D with nx := N, ct := N, bk := D.nx } σ H1 else D.nx σ H1
theorem ps_while {c : Expr} {body : List Stmt} {tc : TT} {tb : TS} (hp : PassesOwn (model X.prog X.w) X.A X.env X.xe) (hc : PT X c tc) (hb : PSs X body tb) : PS X (.While c body [] pos) (tWhile tc tb) := by
  intro pins s σ H D I h
  obtain ⟨W, ⟨m0, w0⟩, turn⟩ := h
  refine wpAny_While (codeAny_whileLoop (fun n s' => ∃ σ' H', Inv X pins σ' H' s' ∧ W n σ' H') ?_ m0 ⟨σ, H, I, w0⟩)
  rintro n s1 ⟨σ1, H1, I1, w1⟩
  refine wpAny_passesOwn hp (thn (hc pins s1 σ1 H1 _ I1 (turn n σ1 H1 w1)) fun b s2 ⟨H2, I2, q2⟩ => ?_)
  cases b with
  | true =>
    obtain ⟨N, hN, q2⟩ := q2
    rw [if_pos rfl]
    refine wpAny_passesOwn hp (thn (hb pins s2 σ1 H2 _ I2 q2) fun f s3 q3 => ?_)
    cases f with
    | next =>
      obtain ⟨σ3, H3, I3, n3⟩ := q3
      obtain ⟨m', hm, w3⟩ := hN σ3 H3 n3
      exact ⟨m', hm, σ3, H3, I3, w3⟩
    | cont =>
      obtain ⟨σ3, H3, I3, n3⟩ := q3
      obtain ⟨m', hm, w3⟩ := hN σ3 H3 n3
      exact ⟨m', hm, σ3, H3, I3, w3⟩
    | brk => exact q3
    | ret v => exact q3
  | false =>
    rw [if_neg Bool.false_ne_true]
    exact wpAny_execs_nil ⟨σ1, H2, I2, q2⟩
end

structure It where
  go : Nat → Hp → Prop
  yld : Nat → Hp → V → Hp → Prop
  stop : Nat → Hp → Prop
def FpOk (X : Cx) (pins : List (Addr × Obj)) (H : Hp) (b : Addr) : Prop :=
  H b = none ∧ b ≠ X.env.locals ∧ b ∉ X.fs ∧ (b ∈ X.ex ∨ X.s₀.heap.objs.size ≤ b) ∧ (∀ x c, X.env.cells.lookup x = some c → c ≠ b) ∧ ∀ p ∈ X.pn ++ pins, p.1 ≠ b
theorem Inv.fpOk {X : Cx} {pins : List (Addr × Obj)} {σ : St} {H H' : Hp} {s : Shared} {b : Addr} (I : Inv X pins σ H s) (hb : s.heap.objs.size ≤ b) (hn : H' b = none) : FpOk X pins H' b := by
  refine ⟨hn, Nat.ne_of_gt (Nat.lt_of_lt_of_le I.lt hb), I.nofs hb, .inr (Nat.le_trans I.sz hb), fun x c e z => ?_, fun p hp z => ?_⟩
  · obtain ⟨v, q⟩ := I.cell x c e
    exact absurd (Nat.lt_of_lt_of_le q.lt (by rw [z]; exact hb)) (Nat.lt_irrefl _)
  · exact absurd (Nat.lt_of_lt_of_le (Heap.lt_size (I.pin p hp).1) (by rw [z]; exact hb)) (Nat.lt_irrefl _)
structure Turn (P : Program) (w : World) (K : PySem.W.Frag) (tg : Expr) (J : It) (fp : List Addr) (it : Addr) (tn : Nat → Heap → Prop) : Prop where
  mem : it ∈ fp
  obj : ∀ i h, tn i h → ∀ b ∈ fp, ∃ o, h.get? b = some o ∧ ∀ v, o.data ≠ .cell v
  keep : ∀ i h h', tn i h → (∀ b ∈ fp, ∀ o, h.get? b = some o → h'.get? b = some o) → tn i h'
  item : ∀ (X : Cx), X.prog = P → X.w = w → X.K = K → X.calm = true → ∀ (i : Nat) (pins : List (Addr × Obj)) (s : Shared) (σ : St) (H : Hp) (E : Value → Shared → Prop), Inv X pins σ H s → (∀ b ∈ fp, FpOk X pins H b) → tn i s.heap → J.go i H →
    wpAny (model P w) X.A (pyNext (.ref it)) (fun r s1 => ∃ u, r = some u ∧
      wpAny (model P w) X.A (letOwnedTupleGo tg (.ref it) u) (fun _ s2 => ∃ x H', Inv X pins σ H' s2 ∧ RelV x u ∧ J.yld i H x H' ∧ tn (i + 1) s2.heap ∧ ∀ b ∈ fp, H' b = none) E s1) E s
  done : ∀ (X : Cx), X.prog = P → X.w = w → X.K = K → X.calm = true → ∀ (i : Nat) (pins : List (Addr × Obj)) (s : Shared) (σ : St) (H : Hp) (E : Value → Shared → Prop), Inv X pins σ H s → (∀ b ∈ fp, FpOk X pins H b) → tn i s.heap → J.stop i H →
    wpAny (model P w) X.A (pyNext (.ref it)) (fun r s1 => r = none ∧ Inv X pins σ H s1) E s
  self : ∀ (A : Around) (i : Nat) (s : Shared) (Q : Value → Shared → Prop) (E : Value → Shared → Prop), tn i s.heap → Q (.ref it) s → wpAny (model P w) A (pyIter (.ref it)) Q E s
abbrev TI := St → Hp → (It → Hp → Prop) → Prop
def PIE (X : Cx) (pins : List (Addr × Obj)) (σ : St) (tg : Expr) (R : It → Hp → Prop) (itv : Value) (s2 : Shared) : Prop :=
  ∃ (it : Addr) (fp : List Addr) (tn : Nat → Heap → Prop) (J : It) (H' : Hp), itv = .ref it ∧ Inv X pins σ H' s2 ∧ Turn X.prog X.w X.K tg J fp it tn ∧ tn 0 s2.heap ∧ (∀ b ∈ fp, FpOk X pins H' b) ∧ R J H'
def PI (X : Cx) (tg iter : Expr) (wi : TI) : Prop :=
  ∀ (pins : List (Addr × Obj)) (s : Shared) (σ : St) (H : Hp) (R : It → Hp → Prop), Inv X pins σ H s → wi σ H R →
    wpAny (model X.prog X.w) X.A (eval iter X.env) (fun v s1 => wpAny (model X.prog X.w) X.A (pyIter v) (PIE X pins σ tg R) X.xe s1) X.xe s

theorem go_of {M : Model} {A : Around} {E : Value → Shared → Prop} {s : Shared} {tg : Expr} {it : Addr} {u : Value} {o : Obj} {n : String} {vs : Array Value} {Q : Unit → Shared → Prop} (ho : s.heap.get? it = some o) (hc : o.cls = .type n) (hd : o.data = .fields vs)
    (hn : ["enumerate", "zip", "dict_itemiterator", "dict_reverseitemiterator", "odict_iterator", "itertools.zip_longest", "itertools.pairwise"].contains n = false) (hQ : Q () s) : wpAny M A (letOwnedTupleGo tg (.ref it) u) Q E s := by
  unfold letOwnedTupleGo
  cases tg <;> first
    | exact wpAny_pure hQ
    | (cases u <;> first
        | exact wpAny_pure hQ
        | (refine wpAny_bind (wpAny_load ho ?_)
           rw [hc, hd]
           show wpAny M A (if (["enumerate", "zip", "dict_itemiterator", "dict_reverseitemiterator", "odict_iterator", "itertools.zip_longest", "itertools.pairwise"].contains n && vs[0]? == some (rawInt _)) = true then _ else _) Q E s
           rw [if_neg (by intro h; rw [hn, Bool.false_and] at h; cases h)]
           exact wpAny_pure hQ))

def Itl (K : PySem.W.Frag) (a : Addr) : It :=
  ⟨fun i H => ∃ xs x, SqL K H a xs ∧ xs[i]? = some x, fun i H x H' => H' = H ∧ ∀ xs, SqL K H a xs → xs[i]? = some x, fun i H => ∃ xs, SqL K H a xs ∧ xs.length ≤ i⟩
def Itt (K : PySem.W.Frag) (a : Addr) : It :=
  ⟨fun i H => ∃ xs x, SqT K H a xs ∧ xs[i]? = some x, fun i H x H' => H' = H ∧ ∀ xs, SqT K H a xs → xs[i]? = some x, fun i H => ∃ xs, SqT K H a xs ∧ xs.length ≤ i⟩
def Itr (lo : Int) (n : Nat) : It := ⟨fun i _ => i < n, fun i H x H' => H' = H ∧ x = .int (lo + i), fun i _ => n ≤ i⟩
theorem turn_list {P : Program} {w : World} {K : PySem.W.Frag} {tg : Expr} (a it : Addr) : Turn P w K tg (Itl K a) [it] it (fun i h => h.IsListIter it a i) where
  mem := by simp
  obj := fun i h st b hb => by
    have e : b = it := by simpa using hb
    subst e
    obtain ⟨o, e, c, d⟩ := st
    exact ⟨o, e, fun v z => by rw [d] at z; cases z⟩
  keep := fun i h h' st k => st.at fun o e => k it (by simp) o e
  item := by
    intro X hP hw hK hc i pins s σ H E I hf st hg
    subst hP hw hK
    obtain ⟨xs, x, hq, hx⟩ := hg
    obtain ⟨its, rv, p, hz⟩ := I.list hq
    obtain ⟨u, hu, ru⟩ := rv.get hx
    obtain ⟨f0, f1, f2, f3, f4, f5⟩ := hf it (by simp)
    refine wpAny_pyNext_list_item st p.isList (x := u) (by simpa using hu) fun h' st' sb => ?_
    have I1 : Inv X pins σ H { s with heap := h' } := I.turned (t' := s.toks) (fun b o hb e => (sb.2 b hb).trans e) f0 f1 f3 f4 f5
    obtain ⟨o, e, c, d⟩ := id st'
    exact ⟨u, rfl, go_of (s := { s with heap := h' }) e c d (by decide) ⟨x, H, I1, ru, ⟨rfl, fun ys hy => by rw [I.list_inj hy hq]; exact hx⟩, st', fun b hb => (hf b hb).1⟩⟩
  done := by
    intro X hP hw hK hc i pins s σ H E I hf st hg
    subst hP hw hK
    obtain ⟨xs, hq, hx⟩ := hg
    obtain ⟨its, rv, p, hz⟩ := I.list hq
    obtain ⟨f0, f1, f2, f3, f4, f5⟩ := hf it (by simp)
    have hl := rv.length
    exact wpAny_pyNext_list_end (I.ok.hd hc) st p.isList (by simp; omega) fun h' eb => ⟨rfl, I.turned (t' := s.toks) (fun b o hb e => eb b o hb e) f0 f1 f3 f4 f5⟩
  self := fun _ _ _ _ _ st h => wpAny_pyIter_listiter st h
theorem turn_tuple {P : Program} {w : World} {K : PySem.W.Frag} {tg : Expr} (a it : Addr) : Turn P w K tg (Itt K a) [it] it (fun i h => h.IsTupleIter it a i) where
  mem := by simp
  obj := fun i h st b hb => by
    have e : b = it := by simpa using hb
    subst e
    obtain ⟨o, e, c, d⟩ := st
    exact ⟨o, e, fun v z => by rw [d] at z; cases z⟩
  keep := fun i h h' st k => st.at fun o e => k it (by simp) o e
  item := by
    intro X hP hw hK hc i pins s σ H E I hf st hg
    subst hP hw hK
    obtain ⟨xs, x, hq, hx⟩ := hg
    obtain ⟨its, rv, p, hz⟩ := I.tuple hq
    obtain ⟨u, hu, ru⟩ := rv.get hx
    obtain ⟨f0, f1, f2, f3, f4, f5⟩ := hf it (by simp)
    refine wpAny_pyNext_tuple_item st (show s.heap.IsTuple a its.toArray from p) (x := u) (by simpa using hu) fun h' st' sb => ?_
    have I1 : Inv X pins σ H { s with heap := h' } := I.turned (t' := s.toks) (fun b o hb e => (sb.2 b hb).trans e) f0 f1 f3 f4 f5
    obtain ⟨o, e, c, d⟩ := id st'
    exact ⟨u, rfl, go_of (s := { s with heap := h' }) e c d (by decide) ⟨x, H, I1, ru, ⟨rfl, fun ys hy => by rw [I.tuple_inj hy hq]; exact hx⟩, st', fun b hb => (hf b hb).1⟩⟩
  done := by
    intro X hP hw hK hc i pins s σ H E I hf st hg
    subst hP hw hK
    obtain ⟨xs, hq, hx⟩ := hg
    obtain ⟨its, rv, p, hz⟩ := I.tuple hq
    obtain ⟨f0, f1, f2, f3, f4, f5⟩ := hf it (by simp)
    have hl := rv.length
    exact wpAny_pyNext_tuple_end (I.ok.hd hc) st (show s.heap.IsTuple a its.toArray from p) (by simp; omega) fun h' eb => ⟨rfl, I.turned (t' := s.toks) (fun b o hb e => eb b o hb e) f0 f1 f3 f4 f5⟩
  self := fun _ _ _ _ _ st h => wpAny_pyIter_tupleiter st h
theorem turn_range {P : Program} {w : World} {K : PySem.W.Frag} {tg : Expr} (it : Addr) (lo : Int) (n : Nat) : Turn P w K tg (Itr lo n) [it] it (fun i h => IsRangeIter h it (lo + (i : Nat) * 1) ((n : Int) - (i : Nat)) 1) where
  mem := by simp
  obj := fun i h st b hb => by
    have e : b = it := by simpa using hb
    subst e
    exact ⟨_, st, fun v z => by
      have z' : Data.fields _ = Data.cell v := z
      cases z'⟩
  keep := fun i h h' st k => k it (by simp) _ st
  item := by
    intro X hP hw hK hc i pins s σ H E I hf st hg
    subst hP hw hK
    obtain ⟨f0, f1, f2, f3, f4, f5⟩ := hf it (by simp)
    have W := Walks.range (prog := X.prog) (w := X.w) (I.ok.hd hc) it lo 1 n
    refine W.item i s _ _ hg st fun v h' tk hv st' kk => ?_
    obtain ⟨t, rfl⟩ := hv
    have I1 : Inv X pins σ H { s with heap := h', toks := tk } := I.turned (fun b o hb e => kk b o (by simpa using hb) e) f0 f1 f3 f4 f5
    refine ⟨_, rfl, go_of (s := { s with heap := h', toks := tk }) (n := "range_iterator") st' rfl rfl (by decide) ⟨.int (lo + i), H, I1, ⟨t, ?_⟩, ⟨rfl, rfl⟩, st', fun b hb => (hf b hb).1⟩⟩
    rw [Int.mul_one]
  done := by
    intro X hP hw hK hc i pins s σ H E I hf st hg
    subst hP hw hK
    obtain ⟨f0, f1, f2, f3, f4, f5⟩ := hf it (by simp)
    exact wpAny_pyNext_range_end (I.ok.hd hc) st (by have : n ≤ i := hg; omega) fun h' eb => ⟨rfl, I.turned (t' := s.toks) (fun b o hb e => eb b o hb e) f0 f1 f3 f4 f5⟩
  self := fun _ _ _ _ _ st h => wpAny_pyIter_rangeiter st h
end L2

namespace L2
open PySem PySem.Spec PyProof.Rows
section
variable {X : Cx} {tg : Expr}
def iList (K : PySem.W.Frag) (tl : TE) : TI := fun σ H R => tl σ H fun x H1 => ∃ a, x = .ref a ∧ (∃ xs, SqL K H1 a xs) ∧ R (Itl K a) H1
def iTup (K : PySem.W.Frag) (tl : TE) : TI := fun σ H R => tl σ H fun x H1 => ∃ a, x = .ref a ∧ (∃ xs, SqT K H1 a xs) ∧ R (Itt K a) H1
theorem pi_list {l : Expr} {tl : TE} (hl : PE X l tl) : PI X tg l (iList X.K tl) := by
  intro pins s σ H R I h
  refine thn (hl pins s σ H _ I h) fun v s1 ⟨x, H1, I1, r1, q1⟩ => ?_
  obtain ⟨a, e, ⟨xs, hq⟩, q⟩ := q1
  subst e
  cases r1
  obtain ⟨its, rv, p, hz⟩ := I1.list hq
  refine wpAny_pyIter_list p.isList ?_
  refine ⟨s1.heap.objs.size, [s1.heap.objs.size], _, _, H1, rfl, I1.kept (t' := s1.toks) fun b o e => Heap.get?_push_of_some _ e, turn_list a _, ⟨_, Heap.get?_push_size _ rfl, rfl, rfl⟩, fun b hb => ?_, q⟩
  have e : b = s1.heap.objs.size := by simpa using hb
  subst e
  exact I1.fpOk (Nat.le_refl _) (I1.hok.fresh (Nat.le_refl _))
theorem pi_tup {l : Expr} {tl : TE} (hl : PE X l tl) : PI X tg l (iTup X.K tl) := by
  intro pins s σ H R I h
  refine thn (hl pins s σ H _ I h) fun v s1 ⟨x, H1, I1, r1, q1⟩ => ?_
  obtain ⟨a, e, ⟨xs, hq⟩, q⟩ := q1
  subst e
  cases r1
  obtain ⟨its, rv, p, hz⟩ := I1.tuple hq
  refine wpAny_pyIter_tuple (show s1.heap.IsTuple a its.toArray from p) ?_
  refine ⟨s1.heap.objs.size, [s1.heap.objs.size], _, _, H1, rfl, I1.kept (t' := s1.toks) fun b o e => Heap.get?_push_of_some _ e, turn_tuple a _, ⟨_, Heap.get?_push_size _ rfl, rfl, rfl⟩, fun b hb => ?_, q⟩
  have e : b = s1.heap.objs.size := by simpa using hb
  subst e
  exact I1.fpOk (Nat.le_refl _) (I1.hok.fresh (Nat.le_refl _))
theorem range_it {pins : List (Addr × Obj)} {σ : St} {H : Hp} {s : Shared} {R : It → Hp → Prop} {E : Value → Shared → Prop} {lo hi : Int} {t u v : Tok} {tk : Nat} (I : Inv X pins σ H s) (h1 : -(2 ^ 62) ≤ lo) (h2 : lo < 2 ^ 62) (h3 : -(2 ^ 62) ≤ hi) (h4 : hi < 2 ^ 62)
    (q : R (Itr lo (hi - lo).toNat) H) : wpAny (model X.prog X.w) X.A (pyIter (.ref s.heap.objs.size)) (PIE X pins σ tg R) E { s with heap := s.heap.push { cls := .type "range", data := .fields #[.int lo t, .int hi u, .int 1 v] }, toks := tk } := by
  refine wpAny_pyIter_range (IsRange.new ..) (small_one h1 h2 h3 h4) ?_
  have I1 : Inv X pins σ H { s with heap := s.heap.push { cls := .type "range", data := .fields #[.int lo t, .int hi u, .int 1 v] }, toks := tk } := I.kept fun b o e => Heap.get?_push_of_some _ e
  refine ⟨(s.heap.push { cls := .type "range", data := .fields #[.int lo t, .int hi u, .int 1 v] }).objs.size, [(s.heap.push { cls := .type "range", data := .fields #[.int lo t, .int hi u, .int 1 v] }).objs.size], _, _, H, rfl,
    I1.kept (t' := tk) fun b o e => Heap.get?_push_of_some _ e, turn_range _ lo (hi - lo).toNat, ?_, fun b hb => ?_, q⟩
  · have e1 : lo + ((0 : Nat) : Int) * 1 = lo := by simp
    have e2 : (((hi - lo).toNat : Nat) : Int) - ((0 : Nat) : Int) = Builtin.Range.rangeSize lo hi 1 := by rw [rangeSize_one]; split <;> omega
    show IsRangeIter _ _ (lo + ((0 : Nat) : Int) * 1) ((((hi - lo).toNat : Nat) : Int) - ((0 : Nat) : Int)) 1
    rw [e1, e2]
    exact Heap.get?_push_size _ rfl
  · have e : b = (s.heap.push { cls := .type "range", data := .fields #[.int lo t, .int hi u, .int 1 v] }).objs.size := by simpa using hb
    subst e
    exact I1.fpOk (Nat.le_refl _) (I1.hok.fresh (Nat.le_refl _))
def iRng1 (ta : TA) : TI := fun σ H R => ta σ H fun vs H1 => ∃ j : Int, vs = [.int j] ∧ -(2 ^ 62) ≤ j ∧ j < 2 ^ 62 ∧ R (Itr 0 j.toNat) H1
theorem pi_range1 {a : Expr} {ta : TA} {p pos : Pos} (hg : Gl X "range") (hm : X.mg "range" = none) (ha : PA X [a] ta) (hs : starEach [a] X.env = [(false, eval a X.env)] := by rfl) : PI X tg (.Call (.Name "range" p) [a] [] pos) (iRng1 ta) := by
  intro pins s σ H R I h
  refine Call_ (ld_blt I hg hm boot_range (PyProof.Rows.callWith_type1 (thn (ha pos pins s σ H _ I h) fun us s1 ⟨vs, H1, I1, r1, q1⟩ => ?_) hs rfl))
  obtain ⟨j, e, q1, q2, q⟩ := q1
  subst e
  cases r1 with
  | cons r rr =>
    cases rr
    obtain ⟨t, rfl⟩ := r
    exact call_range_1 (range_it I1 (by omega) (by omega) q1 q2 (by simpa using q))
def tFor (wi : TI) (g : TG) (tb : TS) : TS := fun D σ H => wi σ H fun J H1 => ∃ W : Nat → Nat → St → Hp → Prop, (∃ m, W 0 m σ H1) ∧ ∀ i m σ H, W i m σ H →
  (J.stop i H ∧ D.nx σ H) ∨ (J.go i H ∧ ∃ N : St → Hp → Prop, (∀ σ' H', N σ' H' → ∃ m', m' < m ∧ W (i + 1) m' σ' H') ∧ ∀ x H', J.yld i H x H' → g x σ H' fun σ2 H2 => tb { D with nx := N, ct := N, bk := D.nx } σ2 H2)
def pinsAt (fp : List Addr) (h : Heap) : List (Addr × Obj) := fp.filterMap fun b => (h.get? b).map fun o => (b, o)
theorem mem_pinsAt {fp : List Addr} {h : Heap} {b : Addr} {o : Obj} (hb : b ∈ fp) (e : h.get? b = some o) : (b, o) ∈ pinsAt fp h := List.mem_filterMap.mpr ⟨b, hb, by rw [e]; rfl⟩
theorem of_pinsAt {fp : List Addr} {h : Heap} {p : Addr × Obj} (hp : p ∈ pinsAt fp h) : p.1 ∈ fp ∧ h.get? p.1 = some p.2 := by
  obtain ⟨b, hb, e⟩ := List.mem_filterMap.mp hp
  cases q : h.get? b with
  | none => rw [q] at e; cases e
  | some o =>
    rw [q] at e
    have e' : (b, o) = p := Option.some.inj e
    subst e'
    exact ⟨hb, q⟩
theorem Inv.pinned {pins : List (Addr × Obj)} {σ : St} {H : Hp} {s : Shared} {fp : List Addr} (I : Inv X pins σ H s) (hf : ∀ b ∈ fp, FpOk X pins H b) (ho : ∀ b ∈ fp, ∃ o, s.heap.get? b = some o ∧ ∀ v, o.data ≠ .cell v) : Inv X (pins ++ pinsAt fp s.heap) σ H s :=
  I.pins_of fun p hp => (List.mem_append.mp hp).elim (fun z => I.pin p (List.mem_append_right _ z)) fun z => by
    obtain ⟨hb, e⟩ := of_pinsAt z
    obtain ⟨f0, f1, f2, _⟩ := hf p.1 hb
    obtain ⟨o, e', d⟩ := ho p.1 hb
    rw [e] at e'; cases e'
    exact ⟨e, f0, f1, f2, d⟩
theorem Inv.unpinned {pins pl : List (Addr × Obj)} {σ : St} {H : Hp} {s : Shared} (I : Inv X (pins ++ pl) σ H s) : Inv X pins σ H s := I.pins_of fun p hp => I.pin p (List.mem_append_right _ (List.mem_append_left _ hp))
theorem ps_for {iter : Expr} {body : List Stmt} {wi : TI} {g : TG} {tb : TS} {pos : Pos} (hp : PassesOwn (model X.prog X.w) X.A X.env X.xe) (hc : X.calm = true) (hi : PI X tg iter wi) (hg : PG X tg g) (hb : PSs X body tb)
    (hs : ∀ x, foldedSetIterable iter X.env x = pure x := by intro _; rfl) : PS X (.For tg iter body [] pos) (tFor wi g tb) := by
  intro pins s σ H D I h
  refine wpAny_For (thn (hi pins s σ H _ I h) fun v s1 h1 => thn h1 fun itv s2 h2 => ?_) hs
  obtain ⟨it, fp, tn, J, H2, e, I2, T, st2, f2, W, ⟨m0, w0⟩, turn⟩ := h2
  subst e
  have stat : ∀ {H' : Hp}, (∀ b ∈ fp, H' b = none) → ∀ b ∈ fp, FpOk X pins H' b := fun hn b hb => ⟨hn b hb, (f2 b hb).2⟩
  refine codeAny_forLoop_any (fun n s' => ∃ i σ' H', Inv X pins σ' H' s' ∧ tn i s'.heap ∧ (∀ b ∈ fp, H' b = none) ∧ W i n σ' H') ?_ m0 ⟨0, σ, H2, I2, st2, fun b hb => (f2 b hb).1, w0⟩
  rintro n s3 ⟨i, σ3, H3, I3, st3, fr3, w3⟩
  rcases turn i n σ3 H3 w3 with ⟨stop, qn⟩ | ⟨go, N, hN, step⟩
  · refine wpAny_passesOwn hp (thn (T.done X rfl rfl rfl hc i pins s3 σ3 H3 X.xe I3 (stat fr3) st3 stop) fun r s4 ⟨hr, I4⟩ => ?_)
    subst hr
    exact wpAny_execs_nil ⟨σ3, H3, I4, qn⟩
  · refine wpAny_passesOwn hp (thn (T.item X rfl rfl rfl hc i pins s3 σ3 H3 X.xe I3 (stat fr3) st3 go) fun r s4 ⟨u, hr, h4⟩ => ?_)
    subst hr
    refine wpAny_passesOwn hp (thn h4 fun _ s5 ⟨x, H5, I5, r5, y5, st5, fr5⟩ => ?_)
    have I5' := I5.pinned (stat fr5) (T.obj _ _ st5)
    refine wpAny_passesOwn hp (thn (hg _ s5 σ3 H5 x u _ I5' r5 (step x H5 y5)) fun _ s6 ⟨σ6, H6, I6, q6⟩ => ?_)
    refine wpAny_passesOwn hp (thn (hb _ s6 σ6 H6 _ I6 q6) fun f s7 q7 => ?_)
    have again : ∀ {σ7 : St} {H7 : Hp}, Inv X (pins ++ pinsAt fp s5.heap) σ7 H7 s7 → N σ7 H7 → ∃ m, m < n ∧ ∃ i σ' H', Inv X pins σ' H' s7 ∧ tn i s7.heap ∧ (∀ b ∈ fp, H' b = none) ∧ W i m σ' H' := fun {σ7 H7} I7 n7 => by
      obtain ⟨m', hm, w7⟩ := hN σ7 H7 n7
      refine ⟨m', hm, i + 1, σ7, H7, I7.unpinned, T.keep _ _ _ st5 fun b hb o e => (I7.pin (b, o) (List.mem_append_right _ (List.mem_append_right _ (mem_pinsAt hb e)))).1, fun b hb => ?_, w7⟩
      obtain ⟨o, e, d⟩ := T.obj _ _ st5 b hb
      exact (I7.pin (b, o) (List.mem_append_right _ (List.mem_append_right _ (mem_pinsAt hb e)))).2.1
    cases f with
    | next => obtain ⟨σ7, H7, I7, n7⟩ := q7; exact again I7 n7
    | cont => obtain ⟨σ7, H7, I7, n7⟩ := q7; exact again I7 n7
    | brk => obtain ⟨σ7, H7, I7, q7⟩ := q7; exact ⟨σ7, H7, I7.unpinned, q7⟩
    | ret v => obtain ⟨x7, σ7, H7, I7, r7, q7⟩ := q7; exact ⟨x7, σ7, H7, I7.unpinned, r7, q7⟩
end

theorem for_list {K : PySem.W.Frag} {a : Addr} {xs : List V} {g : TG} {tb : TS} {D : Ends} {σ : St} {H : Hp} (Pv : Nat → St → Hp → Prop) (h0 : Pv 0 σ H) (hl : ∀ i σ H, i ≤ xs.length → Pv i σ H → SqL K H a xs)
    (hs : ∀ i x σ H, xs[i]? = some x → Pv i σ H → g x σ H fun σ2 H2 => tb { D with nx := Pv (i + 1), ct := Pv (i + 1), bk := D.nx } σ2 H2) (hd : ∀ σ H, Pv xs.length σ H → D.nx σ H) :
    ∃ W : Nat → Nat → St → Hp → Prop, (∃ m, W 0 m σ H) ∧ ∀ i m σ H, W i m σ H →
      ((Itl K a).stop i H ∧ D.nx σ H) ∨ ((Itl K a).go i H ∧ ∃ N : St → Hp → Prop, (∀ σ' H', N σ' H' → ∃ m', m' < m ∧ W (i + 1) m' σ' H') ∧ ∀ x H', (Itl K a).yld i H x H' → g x σ H' fun σ2 H2 => tb { D with nx := N, ct := N, bk := D.nx } σ2 H2) := by
  refine ⟨fun i m σ H => m = xs.length - i ∧ i ≤ xs.length ∧ Pv i σ H, ⟨xs.length, by simp, Nat.zero_le _, h0⟩, ?_⟩
  rintro i m σ H ⟨rfl, hi, p⟩
  have q := hl i σ H hi p
  by_cases hlt : i < xs.length
  · refine .inr ⟨⟨xs, xs[i], q, by simp [hlt]⟩, Pv (i + 1), fun σ' H' p' => ⟨xs.length - (i + 1), by omega, rfl, hlt, p'⟩, fun x H' y => ?_⟩
    obtain ⟨e, y⟩ := y
    subst e
    exact hs i x σ _ (y xs q) p
  · have e : i = xs.length := by omega
    subst e
    exact .inl ⟨⟨xs, q, Nat.le_refl _⟩, hd σ H p⟩
theorem for_tup {K : PySem.W.Frag} {a : Addr} {xs : List V} {g : TG} {tb : TS} {D : Ends} {σ : St} {H : Hp} (Pv : Nat → St → Hp → Prop) (h0 : Pv 0 σ H) (hl : ∀ i σ H, i ≤ xs.length → Pv i σ H → SqT K H a xs)
    (hs : ∀ i x σ H, xs[i]? = some x → Pv i σ H → g x σ H fun σ2 H2 => tb { D with nx := Pv (i + 1), ct := Pv (i + 1), bk := D.nx } σ2 H2) (hd : ∀ σ H, Pv xs.length σ H → D.nx σ H) :
    ∃ W : Nat → Nat → St → Hp → Prop, (∃ m, W 0 m σ H) ∧ ∀ i m σ H, W i m σ H →
      ((Itt K a).stop i H ∧ D.nx σ H) ∨ ((Itt K a).go i H ∧ ∃ N : St → Hp → Prop, (∀ σ' H', N σ' H' → ∃ m', m' < m ∧ W (i + 1) m' σ' H') ∧ ∀ x H', (Itt K a).yld i H x H' → g x σ H' fun σ2 H2 => tb { D with nx := N, ct := N, bk := D.nx } σ2 H2) := by
  refine ⟨fun i m σ H => m = xs.length - i ∧ i ≤ xs.length ∧ Pv i σ H, ⟨xs.length, by simp, Nat.zero_le _, h0⟩, ?_⟩
  rintro i m σ H ⟨rfl, hi, p⟩
  have q := hl i σ H hi p
  by_cases hlt : i < xs.length
  · refine .inr ⟨⟨xs, xs[i], q, by simp [hlt]⟩, Pv (i + 1), fun σ' H' p' => ⟨xs.length - (i + 1), by omega, rfl, hlt, p'⟩, fun x H' y => ?_⟩
    obtain ⟨e, y⟩ := y
    subst e
    exact hs i x σ _ (y xs q) p
  · have e : i = xs.length := by omega
    subst e
    exact .inl ⟨⟨xs, q, Nat.le_refl _⟩, hd σ H p⟩
theorem for_range {lo : Int} {n : Nat} {g : TG} {tb : TS} {D : Ends} {σ : St} {H : Hp} (Pv : Nat → St → Hp → Prop) (h0 : Pv 0 σ H)
    (hs : ∀ i σ H, i < n → Pv i σ H → g (.int (lo + i)) σ H fun σ2 H2 => tb { D with nx := Pv (i + 1), ct := Pv (i + 1), bk := D.nx } σ2 H2) (hd : ∀ σ H, Pv n σ H → D.nx σ H) :
    ∃ W : Nat → Nat → St → Hp → Prop, (∃ m, W 0 m σ H) ∧ ∀ i m σ H, W i m σ H →
      ((Itr lo n).stop i H ∧ D.nx σ H) ∨ ((Itr lo n).go i H ∧ ∃ N : St → Hp → Prop, (∀ σ' H', N σ' H' → ∃ m', m' < m ∧ W (i + 1) m' σ' H') ∧ ∀ x H', (Itr lo n).yld i H x H' → g x σ H' fun σ2 H2 => tb { D with nx := N, ct := N, bk := D.nx } σ2 H2) := by
  refine ⟨fun i m σ H => m = n - i ∧ i ≤ n ∧ Pv i σ H, ⟨n, by simp, Nat.zero_le _, h0⟩, ?_⟩
  rintro i m σ H ⟨rfl, hi, p⟩
  by_cases hlt : i < n
  · refine .inr ⟨hlt, Pv (i + 1), fun σ' H' p' => ⟨n - (i + 1), by omega, rfl, hlt, p'⟩, fun x H' y => ?_⟩
    obtain ⟨e, y⟩ := y
    subst e y
    exact hs i σ _ hlt p
  · have e : i = n := by omega
    subst e
    exact .inl ⟨Nat.le_refl _, hd σ H p⟩
theorem while_by {c : TT} {tb : TS} {D : Ends} {σ : St} {H : Hp} (Pv : St → Hp → Prop) (μ : St → Hp → Nat) (h0 : Pv σ H)
    (hs : ∀ σ H, Pv σ H → c σ H fun b H1 => if b = true then tb { D with nx := fun σ' H' => Pv σ' H' ∧ μ σ' H' < μ σ H, ct := fun σ' H' => Pv σ' H' ∧ μ σ' H' < μ σ H, bk := D.nx } σ H1 else D.nx σ H1)
    (mono : ∀ σ H Q Q', (∀ b H1, Q b H1 → Q' b H1) → c σ H Q → c σ H Q') : tWhile c tb D σ H := by
  refine ⟨fun m σ H => m = μ σ H ∧ Pv σ H, ⟨_, rfl, h0⟩, ?_⟩
  rintro m σ H ⟨rfl, p⟩
  refine mono σ H _ _ (fun b H1 q => ?_) (hs σ H p)
  cases b with
  | true => exact ⟨_, fun σ' H' ⟨p', l⟩ => ⟨_, l, rfl, p'⟩, q⟩
  | false => exact q
end L2

namespace L2
open PySem PySem.Spec PyProof.Rows

abbrev R2 := V → V → Hp → VK → Prop
def OpR (X : Cx) (f : Value → Value → Sem Value) (r : R2) : Prop :=
  ∀ (pins : List (Addr × Obj)) (s : Shared) (σ : St) (H : Hp) (x y : V) (v u : Value) (Q : VK), Inv X pins σ H s → RelV x v → RelV y u → r x y H Q →
    wpAny (model X.prog X.w) X.A (f v u) (EP X pins σ Q) X.xe s
def CallR (X : Cx) (f : Value) (r : List V → Hp → VK → Prop) : Prop :=
  ∀ (pins : List (Addr × Obj)) (s : Shared) (σ : St) (H : Hp) (xs : List V) (us : List Value) (Q : VK), Inv X pins σ H s → Vals xs us → r xs H Q →
    wpAny (model X.prog X.w) X.A (call f us) (EP X pins σ Q) X.xe s
def tOp (r : R2) (ta tb : TE) : TE := fun σ H Q => ta σ H fun x H1 => tb σ H1 fun y H2 => r x y H2 Q
def rI (C : Int → Int → Prop) (g : Int → Int → V) : R2 := fun x y H Q => ∃ i j, x = .int i ∧ y = .int j ∧ C i j ∧ Q (g i j) H
def rI0 (g : Int → Int → V) : R2 := fun x y H Q => ∃ i j, x = .int i ∧ y = .int j ∧ Q (g i j) H
section
variable {X : Cx} {a b c : Expr} {ta tb tc : TE} {pos : Pos}

theorem binT (ha : PE X a ta) (hb : PE X b tb) {pins : List (Addr × Obj)} {s : Shared} {σ : St} {H : Hp} {R : V → V → Hp → Prop} (I : Inv X pins σ H s)
    (h : ta σ H fun x H1 => tb σ H1 fun y H2 => R x y H2) {Q : Value → Shared → Prop} {f : Value → Value → Sem Value}
    (hf : ∀ v u s2 x y H2, Inv X pins σ H2 s2 → RelV x v → RelV y u → R x y H2 → wpAny (model X.prog X.w) X.A (f v u) Q X.xe s2) :
    wpAny (model X.prog X.w) X.A (eval a X.env) (fun v s₁ => wpAny (model X.prog X.w) X.A (eval b X.env) (fun u s₂ => wpAny (model X.prog X.w) X.A (f v u) Q X.xe s₂) X.xe s₁) X.xe s := by
  refine thn (ha pins s σ H _ I h) fun v s1 ⟨x, H1, I1, r1, q1⟩ => ?_
  refine thn (hb pins s1 σ H1 _ I1 q1) fun u s2 ⟨y, H2, I2, r2, q2⟩ => ?_
  exact hf v u s2 x y H2 I2 r1 r2 q2

theorem pe_op {op : Operator} {r : R2} (ho : OpR X (binaryOp op) r) (ha : PE X a ta) (hb : PE X b tb) : PE X (.BinOp a op b pos) (tOp r ta tb) := by
  intro pins s σ H Q I h
  exact wpAny_BinOp (binT ha hb I h fun v u s2 x y H2 I2 rx ry q => ho pins s2 σ H2 x y v u Q I2 rx ry q)
theorem opI {f : Value → Value → Sem Value} {C : Int → Int → Prop} {g : Int → Int → Int}
    (rule : ∀ (i j : Int) (t u : Tok) (s : Shared) (Q : Value → Shared → Prop) (E : Value → Shared → Prop), C i j → Q (.int (g i j) s.toks) { s with toks := s.toks + 1 } → wpAny (model X.prog X.w) X.A (f (.int i t) (.int j u)) Q E s) :
    OpR X f (rI C fun i j => .int (g i j)) := by
  intro pins s σ H x y v u Q I rx ry h
  obtain ⟨i, j, rfl, rfl, hc, q⟩ := h
  obtain ⟨t, rfl⟩ := rx
  obtain ⟨t', rfl⟩ := ry
  exact rule i j t t' s _ _ hc ⟨.int (g i j), H, I.tok _, ⟨_, rfl⟩, q⟩
theorem opI0 {f : Value → Value → Sem Value} {g : Int → Int → Int}
    (rule : ∀ (i j : Int) (t u : Tok) (s : Shared) (Q : Value → Shared → Prop) (E : Value → Shared → Prop), Q (.int (g i j) s.toks) { s with toks := s.toks + 1 } → wpAny (model X.prog X.w) X.A (f (.int i t) (.int j u)) Q E s) :
    OpR X f (rI0 fun i j => .int (g i j)) := by
  intro pins s σ H x y v u Q I rx ry h
  obtain ⟨i, j, rfl, rfl, q⟩ := h
  obtain ⟨t, rfl⟩ := rx
  obtain ⟨t', rfl⟩ := ry
  exact rule i j t t' s _ _ ⟨.int (g i j), H, I.tok _, ⟨_, rfl⟩, q⟩
theorem opB0 {f : Value → Value → Sem Value} {g : Int → Int → Bool}
    (rule : ∀ (i j : Int) (t u : Tok) (s : Shared) (Q : Value → Shared → Prop) (E : Value → Shared → Prop), Q (.bool (g i j)) s → wpAny (model X.prog X.w) X.A (f (.int i t) (.int j u)) Q E s) :
    OpR X f (rI0 fun i j => .bl (g i j)) := by
  intro pins s σ H x y v u Q I rx ry h
  obtain ⟨i, j, rfl, rfl, q⟩ := h
  obtain ⟨t, rfl⟩ := rx
  obtain ⟨t', rfl⟩ := ry
  exact rule i j t t' s _ _ ⟨.bl (g i j), H, I, rfl, q⟩

def CDiv (i j : Int) : Prop := 0 < j ∧ j < 1073741824
def CPow (i j : Int) : Prop := 0 ≤ j ∧ j ≤ 1000000 ∧ i.natAbs < 2 ^ 64
def CMul (i j : Int) : Prop := (-(2 ^ 64) < i ∧ i < 2 ^ 64) ∨ (-(2 ^ 64) < j ∧ j < 2 ^ 64)
theorem CMul.ok {i j : Int} (h : CMul i j) : IntMulOk i j := by
  rcases h with ⟨h1, h2⟩ | ⟨h1, h2⟩
  · exact .of_left (intBits_le_64 h1 h2)
  · exact .of_right (intBits_le_64 h1 h2)
theorem op_add : OpR X (binaryOp .Add) (rI0 fun i j => .int (i + j)) := opI0 fun _ _ _ _ _ _ _ q => add_int q
theorem op_sub : OpR X (binaryOp .Sub) (rI0 fun i j => .int (i - j)) := opI0 fun _ _ _ _ _ _ _ q => sub_int q
theorem op_mul : OpR X (binaryOp .Mult) (rI CMul fun i j => .int (i * j)) := opI fun _ _ _ _ _ _ _ hc q => mul_int q hc.ok
theorem op_fdiv : OpR X (binaryOp .FloorDiv) (rI CDiv fun i j => .int (i / j)) := opI fun i j _ _ _ _ _ hc q => by
  have h1 : (0 : Int) < j := hc.1
  have h2 : j < 1073741824 := hc.2
  exact floordiv_int (by omega) (by rw [Int.fdiv_eq_ediv_of_nonneg i (by omega)]; exact q) (.inl (PyProof.noPylong_small (by omega)))
theorem op_mod : OpR X (binaryOp .Mod) (rI (fun _ j => 0 < j) fun i j => .int (i % j)) := opI fun i j _ _ _ _ _ hc q => by
  have h1 : (0 : Int) < j := hc
  exact mod_int' (by omega) (by rw [Int.fmod_eq_emod_of_nonneg i (by omega)]; exact q)
theorem op_pow : OpR X (binaryOp .Pow) (rI CPow fun i j => .int (i ^ j.toNat)) := opI fun _ _ _ _ _ _ _ hc q => pow_int_small hc.1 hc.2.1 hc.2.2 q
end

def scal : V → V → Bool
  | .non, .non => true | .non, .int _ => true | .int _, .non => true | .non, .bl _ => true | .bl _, .non => true | .non, .str _ => true | .str _, .non => true
  | .int _, .int _ => true | .bl _, .bl _ => true | .str _, .str _ => true | .byt _, .byt _ => true
  | .int _, .str _ => true | .str _, .int _ => true | .bl _, .str _ => true | .str _, .bl _ => true
  | _, _ => false
def rEq : R2 := fun x y H Q => scal x y = true ∧ Q (.bl (decide (x = y))) H
def rNe : R2 := fun x y H Q => scal x y = true ∧ Q (.bl (!decide (x = y))) H

theorem dec_int {i j : Int} : decide (V.int i = V.int j) = (i == j) := by
  rw [Bool.eq_iff_iff]
  simp
theorem dec_bl {i j : Bool} : decide (V.bl i = V.bl j) = (i == j) := by
  rw [Bool.eq_iff_iff]
  simp
theorem dec_str {i j : Str} : decide (V.str i = V.str j) = (i == j) := by
  rw [Bool.eq_iff_iff]
  simp
theorem dec_byt {i j : Array UInt8} : decide (V.byt i = V.byt j) = (i.toList == j.toList) := by
  rw [Bool.eq_iff_iff]
  cases i
  cases j
  simp

section
variable {X : Cx} {a b c : Expr} {ta tb tc : TE} {pos : Pos}
theorem fin_bl {pins : List (Addr × Obj)} {σ : St} {H : Hp} {s : Shared} {Q : VK} {k k' : Bool} (I : Inv X pins σ H s) (q : Q (.bl k) H) (e : k = k') : EP X pins σ Q (.bool k') s := by
  subst e
  exact ⟨.bl k, H, I, rfl, q⟩
theorem op_eq : OpR X (compareOp .Eq) rEq := by
  intro pins s σ H x y v u Q I rx ry h
  obtain ⟨hs, q⟩ := h
  cases x with
  | non =>
    cases rx
    cases y with
    | non => cases ry; exact PySem.EqNone.eq_none_none (fin_bl I q (by simp))
    | bl j => cases ry; exact PySem.EqNone.eq_none_bool (fin_bl I q (by simp))
    | int j => obtain ⟨t', rfl⟩ := ry; exact PySem.EqNone.eq_none_int (fin_bl I q (by simp))
    | str j => obtain ⟨t', rfl⟩ := ry; exact PySem.EqNone.eq_none_str (fin_bl I q (by simp))
    | _ => exact absurd (show false = true from hs) Bool.false_ne_true
  | bl i =>
    cases rx
    cases y with
    | non => cases ry; exact PySem.EqNone.eq_bool_none (fin_bl I q (by simp))
    | bl j => cases ry; exact eq_bool (fin_bl I q dec_bl)
    | str j => obtain ⟨t', rfl⟩ := ry; exact PySem.EqMixed.eq_bool_str (fin_bl I q (by simp))
    | _ => exact absurd (show false = true from hs) Bool.false_ne_true
  | int i =>
    obtain ⟨t, rfl⟩ := rx
    cases y with
    | non => cases ry; exact PySem.EqNone.eq_int_none (fin_bl I q (by simp))
    | int j => obtain ⟨t', rfl⟩ := ry; exact eq_int (fin_bl I q dec_int)
    | str j => obtain ⟨t', rfl⟩ := ry; exact PySem.EqMixed.eq_int_str (fin_bl I q (by simp))
    | _ => exact absurd (show false = true from hs) Bool.false_ne_true
  | str i =>
    obtain ⟨t, rfl⟩ := rx
    cases y with
    | non => cases ry; exact PySem.EqNone.eq_str_none (fin_bl I q (by simp))
    | bl j => cases ry; exact PySem.EqMixed.eq_str_bool (fin_bl I q (by simp))
    | int j => obtain ⟨t', rfl⟩ := ry; exact PySem.EqMixed.eq_str_int (fin_bl I q (by simp))
    | str j => obtain ⟨t', rfl⟩ := ry; exact eq_str (fin_bl I q dec_str)
    | _ => exact absurd (show false = true from hs) Bool.false_ne_true
  | byt i =>
    obtain ⟨t, rfl⟩ := rx
    cases y with
    | byt j => obtain ⟨t', rfl⟩ := ry; exact PySem.W.eq_bytes (fin_bl I q dec_byt)
    | _ => exact absurd (show false = true from hs) Bool.false_ne_true
  | _ => cases y <;> exact absurd (show false = true from hs) Bool.false_ne_true
theorem op_ne : OpR X (compareOp .NotEq) rNe := by
  intro pins s σ H x y v u Q I rx ry h
  obtain ⟨hs, q⟩ := h
  cases x with
  | non =>
    cases rx
    cases y with
    | non => cases ry; exact PySem.EqNone.ne_none_none (fin_bl I q (by simp))
    | bl j => cases ry; exact PySem.EqNone.ne_none_bool (fin_bl I q (by simp))
    | int j => obtain ⟨t', rfl⟩ := ry; exact PySem.EqNone.ne_none_int (fin_bl I q (by simp))
    | str j => obtain ⟨t', rfl⟩ := ry; exact PySem.EqNone.ne_none_str (fin_bl I q (by simp))
    | _ => exact absurd (show false = true from hs) Bool.false_ne_true
  | bl i =>
    cases rx
    cases y with
    | non => cases ry; exact PySem.EqNone.ne_bool_none (fin_bl I q (by simp))
    | bl j => cases ry; exact ne_bool (fin_bl I q (congrArg not dec_bl))
    | str j => obtain ⟨t', rfl⟩ := ry; exact PySem.EqMixed.ne_bool_str (fin_bl I q (by simp))
    | _ => exact absurd (show false = true from hs) Bool.false_ne_true
  | int i =>
    obtain ⟨t, rfl⟩ := rx
    cases y with
    | non => cases ry; exact PySem.EqNone.ne_int_none (fin_bl I q (by simp))
    | int j => obtain ⟨t', rfl⟩ := ry; exact ne_int (fin_bl I q (congrArg not dec_int))
    | str j => obtain ⟨t', rfl⟩ := ry; exact PySem.EqMixed.ne_int_str (fin_bl I q (by simp))
    | _ => exact absurd (show false = true from hs) Bool.false_ne_true
  | str i =>
    obtain ⟨t, rfl⟩ := rx
    cases y with
    | non => cases ry; exact PySem.EqNone.ne_str_none (fin_bl I q (by simp))
    | bl j => cases ry; exact PySem.EqMixed.ne_str_bool (fin_bl I q (by simp))
    | int j => obtain ⟨t', rfl⟩ := ry; exact PySem.EqMixed.ne_str_int (fin_bl I q (by simp))
    | str j => obtain ⟨t', rfl⟩ := ry; exact ne_str (fin_bl I q (congrArg not dec_str))
    | _ => exact absurd (show false = true from hs) Bool.false_ne_true
  | byt i =>
    obtain ⟨t, rfl⟩ := rx
    cases y with
    | byt j => obtain ⟨t', rfl⟩ := ry; exact PySem.W.ne_bytes (fin_bl I q (congrArg not dec_byt))
    | _ => exact absurd (show false = true from hs) Bool.false_ne_true
  | _ => cases y <;> exact absurd (show false = true from hs) Bool.false_ne_true

theorem op_lt : OpR X (compareOp .Lt) (rI0 fun i j => .bl (decide (i < j))) := opB0 fun _ _ _ _ _ _ _ q => lt_int q
theorem op_gt : OpR X (compareOp .Gt) (rI0 fun i j => .bl (decide (j < i))) := opB0 fun _ _ _ _ _ _ _ q => gt_int q
theorem op_ge : OpR X (compareOp .GtE) (rI0 fun i j => .bl (decide (j ≤ i))) := opB0 fun _ _ _ _ _ _ _ q => ge_int q
theorem op_isN : OpR X (compareOp .Is) (fun x y H Q => y = .non ∧ Q (.bl (decide (x = .non))) H) := by
  intro pins s σ H x y v u Q I rx ry h
  obtain ⟨rfl, q⟩ := h
  cases ry
  refine is_none_gen (fin_bl I q ?_)
  cases x <;> first
    | (cases rx; rfl)
    | (obtain ⟨t, rfl⟩ := rx; rfl)
theorem op_notN : OpR X (compareOp .IsNot) (fun x y H Q => y = .non ∧ Q (.bl (!decide (x = .non))) H) := by
  intro pins s σ H x y v u Q I rx ry h
  obtain ⟨rfl, q⟩ := h
  cases ry
  refine isnot_none_gen (fin_bl I q ?_)
  cases x <;> first
    | (cases rx; rfl)
    | (obtain ⟨t, rfl⟩ := rx; rfl)

theorem OpR.or {f : Value → Value → Sem Value} {r r' : R2} (h : OpR X f r) (h' : OpR X f r') : OpR X f (fun x y H Q => r x y H Q ∨ r' x y H Q) := by
  intro pins s σ H x y v u Q I rx ry q
  rcases q with q | q
  · exact h pins s σ H x y v u Q I rx ry q
  · exact h' pins s σ H x y v u Q I rx ry q

theorem nomark (b : Expr) {op : CmpOp} (h : op ≠ .In := by decide) (h2 : op ≠ .NotIn := by decide) : behindInMarks op b = false := by
  have e1 : (op == CmpOp.In) = false := by cases op <;> first | rfl | exact absurd rfl h
  have e2 : (op == CmpOp.NotIn) = false := by cases op <;> first | rfl | exact absurd rfl h2
  cases b <;> simp [behindInMarks, e1, e2]
theorem pe_cmpR {op : CmpOp} {r : R2} (ho : OpR X (compareOp op) r) (ha : PE X a ta) (hb : PE X b tb) (hm : behindInMarks op b = false) : PE X (.Compare a [op] [b] pos) (tOp r ta tb) := by
  intro pins s σ H Q I h
  exact wpAny_Compare1 (binT ha hb I h fun v u s2 x y H2 I2 rx ry q => ho pins s2 σ H2 x y v u Q I2 rx ry q) hm
def tTest (t : TE) : TT := fun σ H Q => t σ H fun x H' => ∃ k, x = .bl k ∧ Q k H'
theorem pt_cmpR {op : CmpOp} {r : R2} (ho : OpR X (compareOp op) r) (ha : PE X a ta) (hb : PE X b tb) (hm : behindInMarks op b = false) : PT X (.Compare a [op] [b] pos) (tTest (tOp r ta tb)) := by
  intro pins s σ H Q I h
  refine wpAny_isTrue_Compare1 (thn (ha pins s σ H _ I h) fun v s1 ⟨x, H1, I1, r1, q1⟩ => thn (hb pins s1 σ H1 _ I1 q1) fun u s2 ⟨y, H2, I2, r2, q2⟩ =>
    thn (ho pins s2 σ H2 x y v u _ I2 r1 r2 q2) fun c s3 ⟨z, H3, I3, r3, k, e, q3⟩ => ?_) hm
  subst e
  cases r3
  exact wpAny_truthy_bool ⟨H3, I3, q3⟩
theorem line63 : (sizeLine : Nat) < 2 ^ 63 := by rw [sizeLine_eq]; decide
theorem vals1 {x : V} {us : List Value} (r : Vals [x] us) : ∃ u, us = [u] ∧ RelV x u := by
  cases r with
  | cons r1 r2 => cases r2; exact ⟨_, rfl, r1⟩
theorem vals2 {x y : V} {us : List Value} (r : Vals [x, y] us) : ∃ u w', us = [u, w'] ∧ RelV x u ∧ RelV y w' := by
  cases r with
  | cons r1 r2 =>
    cases r2 with
    | cons r3 r4 => cases r4; exact ⟨_, _, rfl, r1, r3⟩
theorem call_abs : CallR X (.builtin "abs") (fun xs H Q => ∃ i, xs = [.int i] ∧ Q (.int (if i < 0 then -i else i)) H) := by
  intro pins s σ H xs us Q I r h
  obtain ⟨i, rfl, q⟩ := h
  obtain ⟨u, rfl, t, rfl⟩ := vals1 r
  exact call_abs_int fun u tk => ⟨.int (if i < 0 then -i else i), H, I.tok _, ⟨_, rfl⟩, q⟩
theorem call_int1 : CallR X (.type "int") (fun xs H Q => (∃ i, xs = [.int i] ∧ Q (.int i) H) ∨ ∃ k, xs = [.bl k] ∧ Q (.int (if k then 1 else 0)) H) := by
  intro pins s σ H xs us Q I r h
  rcases h with ⟨i, rfl, q⟩ | ⟨k, rfl, q⟩
  · obtain ⟨u, rfl, t, rfl⟩ := vals1 r
    exact call_int_int ⟨.int i, H, I, ⟨_, rfl⟩, q⟩
  · obtain ⟨u, rfl, r1⟩ := vals1 r
    cases r1
    exact call_int_bool ⟨.int (if k then 1 else 0), H, I.tok _, ⟨_, rfl⟩, q⟩
end
end L2

namespace L2
open PySem PySem.Spec PyProof.Rows

structure ObjM (h : Heap) (x dx C : Addr) (mA : Str → Option Value) : Prop where
  obj : h.get? x = some (PySem.W.instObj C dx)
  ns : h.Ns1 dx mA
  ne : dx ≠ x

theorem lookIn_ns {h : Heap} {dx : Addr} {mA : Str → Option Value} (n : h.Ns1 dx mA) : ∃ od, h.get? dx = some od ∧ ∀ name, PySem.W.lookIn name od = some (mA name) := by
  obtain ⟨o, es, ep, ho, hd, hk, _, hm⟩ := n
  refine ⟨o, ho, fun name => ?_⟩
  have e := hm name
  unfold nsFind findBy at e
  rw [← Array.find?_toList] at e
  unfold PySem.W.lookIn
  rw [hd]
  dsimp only
  split
  · rename_i y q
    rw [q] at e
    exact congrArg some e
  · rename_i q
    rw [q] at e
    have a : es.toList.any (·.refKey) = false := by
      rw [List.any_eq_false]
      intro y hy
      obtain ⟨z, t, hkey⟩ := hk y (Array.mem_toList_iff.mp hy)
      simp [DictEntry.refKey, hkey]
    have a' : ¬ es.toList.any (·.refKey) = true := by rw [a]; exact Bool.false_ne_true
    rw [if_neg a']
    exact congrArg some e

theorem ObjM.look {h : Heap} {x dx C : Addr} {mA : Str → Option Value} (I : ObjM h x dx C mA) : ∃ od, PySem.W.InstAt h x (PySem.W.instObj C dx) C (some od) ∧ ∀ name, PySem.W.lookIn name od = some (mA name) :=
  let ⟨od, ho, hl⟩ := lookIn_ns I.ns
  ⟨od, ⟨I.obj, rfl, rfl, ho⟩, hl⟩

section
variable {prog : Program} {w : World} {A : Around} {E : Value → Shared → Prop} {s : Shared} {K : PySem.W.Frag} {x dx C f : Addr} {mA : Str → Option Value} {name : Str} {v : Value}

theorem get_map {expr : Bool} {Q : Value → Shared → Prop} (X : K.In s.heap) (I : ObjM s.heap x dx C mA) (hg : PySem.W.plainGet K C name = true) (hh : PySem.W.hasDictIn K C = true)
    (ha : PySem.W.findIn K (.ref C) name = some none) (hv : mA name = some v) (hv' : PySem.W.handedIn v = true) (h : Q v { s with toks := s.toks + 1 }) :
    wpAny (model prog w) A (getAttr (.ref x) name expr) Q E s := by
  obtain ⟨od, J, hl⟩ := I.look
  exact PySem.W.get_value X J (PySem.W.plainGet_of hg).1 (PySem.W.findObj_own hh ha rfl (by rw [hl, hv])) hv' h

theorem get_meth {pl : Sem Bool} {Q : Value × List Value → Shared → Prop} (X : K.In s.heap) (I : ObjM s.heap x dx C mA) (hg : PySem.W.plainGet K C name = true)
    (hf : PySem.W.findIn K (.ref C) name = some (some (.ref f))) (ht : PySem.W.isFn K (.ref f) = true) (hv : mA name = none) (h : Q (.ref f, [.ref x]) s) :
    wpAny (model prog w) A (getMethod (.ref x) name pl) Q E s := by
  obtain ⟨od, J, hl⟩ := I.look
  exact PySem.W.method_fn X J (PySem.W.plainGet_of hg).1 (PySem.W.plainGet_of hg).2 hf (beq_iff_eq.mp ht) (by show (PySem.W.lookIn name od).map (·.isSome) = some false; rw [hl, hv]; rfl) h

theorem set_map {ns : List Str} {Q : Unit → Shared → Prop} (X : K.In s.heap) (I : ObjM s.heap x dx C mA)
    (hs : PySem.W.findIn K (.ref C) "__setattr__" = some (some (.builtin "object.__setattr__"))) (hp : PySem.W.plainOver K C = true) (ht : PySem.W.takerIn K C name = some none) (hh : PySem.W.hasDictIn K C = true)
    (hw : PySem.Within mA ns) (hsz : ns.length ≤ sizeLine)
    (h : ∀ h', ObjM h' x dx C (fun y => if y = name then some v else mA y) → Heap.SameBut dx s.heap h' → Q () { s with heap := h', toks := s.toks + 2 }) :
    wpAny (model prog w) A (setAttr (.ref x) name v) Q E s := by
  obtain ⟨od, J, hl⟩ := I.look
  refine PySem.W.set_plain X J hs (PySem.W.osa_open (s := { s with toks := s.toks + 1 }) (r := none) X J hp ht fun b => ?_)
  obtain ⟨cd, hc, hd'⟩ := PySem.W.any_some hh
  have hx : s.heap.get? x = some ⟨.ref C, some dx, .plain, #[]⟩ := I.obj
  refine wpAny_bind (wpAny_pure (wpAny_bind (wpAny_bind (wpAny_loadPart hx (wpAny_bind (PySem.W.Looks.here (s := { s with toks := s.toks + 1 }) (PySem.W.looks_clsIn X hc) ?_))))))
  rw [hd']
  refine wpAny_pure (a := some dx) (wpAny_bind (wpAny_pure (wpAny_bind ?_)))
  refine wpAny_nsSet1 (s := { s with toks := s.toks + 1 }) I.ns fun h' hn2 hs2 => ?_
  obtain ⟨oD, esD, epD, hoD, hdD, hcD⟩ := hn2.count (PySem.Within.cons name v hw)
  refine wpAny_bind (wpAny_lookBehind hoD (by rw [hdD]; exact pastItsLine_dict (Nat.le_trans hcD (by rw [List.length_cons]; omega))) ?_)
  exact wpAny_pure (h _ ⟨(hs2.2 _ (Ne.symm I.ne)).trans I.obj, hn2, I.ne⟩ hs2)

theorem make_map {R : Result → Shared → Prop} {vs : List Value} {kw : List (Str × Value)} (X : K.In s.heap) (hm : PySem.W.makesIn K C = true)
    (hi : PySem.W.findIn K (.ref C) "__init__" = some (some (.ref f))) (hf : PySem.W.typeIn K (.ref f) = some (.type "function"))
    (h : codeAny (model prog w) (A.under (.builtin "type.__call__" ⟨.ref C :: vs, kw⟩)) (.call (.ref f) ⟨.ref (s.heap.objs.size + 1) :: vs, kw⟩) (PySem.W.InitBack (s.heap.objs.size + 1) R)
      { s with heap := (s.heap.push PySem.W.emptyDict).push (PySem.W.instObj C s.heap.objs.size) }) :
    codeAny (model prog w) A (.call (.ref C) ⟨vs, kw⟩) R s := by
  obtain ⟨hh, g, d, t, os⟩ := s
  exact PySem.W.make_core (PySem.W.makes_of X hm) (PySem.W.looks_findIn X hi) (fun self => PySem.W.bind_fn X self hf) (.inl rfl) h
end

def putF (f : Str) (v : V) : List (Str × V) → List (Str × V)
  | [] => [(f, v)]
  | (g, x) :: r => if g = f then (g, v) :: r else (g, x) :: putF f v r
theorem lookup_putF (f g : Str) (v : V) : ∀ fs : List (Str × V), (putF f v fs).lookup g = if g = f then some v else fs.lookup g
  | [] => by
    show List.lookup g [(f, v)] = _
    by_cases h : g = f
    · have hb : (g == f) = true := beq_iff_eq.mpr h
      simp only [List.lookup, hb, if_pos h]
    · have hb : (g == f) = false := beq_eq_false_iff_ne.mpr h
      simp only [List.lookup, hb, if_neg h]
  | (k, x) :: r => by
    have ih := lookup_putF f g v r
    rw [show putF f v ((k, x) :: r) = (if k = f then (k, v) :: r else (k, x) :: putF f v r) from rfl]
    by_cases hk : k = f
    · rw [if_pos hk]
      by_cases h : g = k
      · have hb : (g == k) = true := beq_iff_eq.mpr h
        simp only [List.lookup, hb, if_pos (h.trans hk)]
      · have hb : (g == k) = false := beq_eq_false_iff_ne.mpr h
        simp only [List.lookup, hb, if_neg (fun e : g = f => h (e.trans hk.symm))]
    · rw [if_neg hk]
      by_cases h : g = k
      · have hb : (g == k) = true := beq_iff_eq.mpr h
        simp only [List.lookup, hb, if_neg (fun e : g = f => hk (h.symm.trans e))]
      · have hb : (g == k) = false := beq_eq_false_iff_ne.mpr h
        simp only [List.lookup, hb]
        exact ih
theorem keys_putF (f : Str) (v : V) : ∀ fs : List (Str × V), f ∈ (putF f v fs).map (·.1) ∧ ∀ g, g ∈ fs.map (·.1) → g ∈ (putF f v fs).map (·.1)
  | [] => ⟨by simp [putF], fun g h => by simp at h⟩
  | (k, x) :: r => by
    obtain ⟨i1, i2⟩ := keys_putF f v r
    rw [show putF f v ((k, x) :: r) = (if k = f then (k, v) :: r else (k, x) :: putF f v r) from rfl]
    by_cases hk : k = f
    · rw [if_pos hk]
      subst hk
      exact ⟨by simp, fun g h => by simpa using h⟩
    · rw [if_neg hk]
      refine ⟨?_, fun g h => ?_⟩
      · rw [List.map_cons]
        exact List.mem_cons_of_mem _ i1
      · rw [List.map_cons] at h ⊢
        rcases List.mem_cons.mp h with e | e
        · exact List.mem_cons.mpr (.inl e)
        · exact List.mem_cons_of_mem _ (i2 g e)
theorem length_putF (f : Str) (v : V) : ∀ fs : List (Str × V), (putF f v fs).length ≤ fs.length + 1
  | [] => by simp [putF]
  | (k, x) :: r => by
    have ih := length_putF f v r
    rw [show putF f v ((k, x) :: r) = (if k = f then (k, v) :: r else (k, x) :: putF f v r) from rfl]
    by_cases hk : k = f
    · rw [if_pos hk, List.length_cons, List.length_cons]; omega
    · rw [if_neg hk, List.length_cons, List.length_cons]; omega

theorem RelO.some_of {v : V} {o : Option Value} (r : RelO (some v) o) : ∃ u, o = some u ∧ RelV v u := by
  cases o with
  | none => exact (show False from r).elim
  | some u => exact ⟨u, rfl, r⟩
theorem RelO.none_of {o : Option Value} (r : RelO none o) : o = none := by
  cases o with
  | none => rfl
  | some u => exact (show False from r).elim
theorem handed_of {v : V} {u : Value} (r : RelV v u) : PySem.W.handedIn u = true := by
  cases v with
  | non => cases (show u = Value.none from r); rfl
  | bl b => cases (show u = Value.bool b from r); rfl
  | int i => obtain ⟨t, e⟩ := (show ∃ t, u = Value.int i t from r); cases e; rfl
  | str x => obtain ⟨t, e⟩ := (show ∃ t, u = Value.str x t from r); cases e; rfl
  | byt b => obtain ⟨t, e⟩ := (show ∃ t, u = Value.bytes b t from r); cases e; rfl
  | flt b => obtain ⟨t, e⟩ := (show ∃ t, u = Value.float b t from r); cases e; rfl
  | ref a => cases (show u = Value.ref a from r); rfl
  | ty n => cases (show u = Value.type n from r); rfl

section
variable {P : Program} {w : World} {H H' : Hp} {h h' : Heap} {a C dx : Addr} {fs fs' : List (Str × V)}
theorem ins_get (hok : HOk P w H h) (e : H a = some (.ins C dx fs)) : ∃ mA, ObjM h a dx C mA ∧ (∀ f, RelO (fs.lookup f) (mA f)) ∧ PySem.Within mA (fs.map (·.1)) ∧ fs.length ≤ 1000 ∧ H dx = some (.own a) := by
  obtain ⟨d, z, ne, ob, mA, n, r, q⟩ := (show ObjOk P w H h a (.ins C dx fs) from hok a _ e)
  exact ⟨mA, ⟨ob, n, ne⟩, r, q, z, d⟩
end

structure Cls (K : PySem.W.Frag) (C : Addr) : Prop where
  pg : PySem.W.plainGet K C Str.empty = true
  hd : PySem.W.hasDictIn K C = true
  po : PySem.W.plainOver K C = true
  sa : PySem.W.findIn K (.ref C) "__setattr__" = some (some (.builtin "object.__setattr__"))
theorem Cls.get {K : PySem.W.Frag} {C : Addr} (c : Cls K C) (f : Str) : PySem.W.plainGet K C f = true := c.pg
def NoAttr (K : PySem.W.Frag) (C : Addr) (f : Str) : Prop := PySem.W.findIn K (.ref C) f = some none
theorem NoAttr.taker {K : PySem.W.Frag} {C : Addr} {f : Str} (n : NoAttr K C f) : PySem.W.takerIn K C f = some none := by
  unfold PySem.W.takerIn
  rw [show PySem.W.findIn K (.ref C) f = some none from n]
  rfl
structure Con (K : PySem.W.Frag) (C : Addr) (f : Str) (v : V) (u : Value) : Prop where
  at_ : PySem.W.findIn K (.ref C) f = some (some u)
  rel : RelV v u
  get : PySem.W.specialIn K u "__get__" = some none
  cp : PySem.W.copiedNames.contains f = false
structure Meth (K : PySem.W.Frag) (C : Addr) (m : Str) (f : Addr) : Prop where
  at_ : PySem.W.findIn K (.ref C) m = some (some (.ref f))
  fn : PySem.W.isFn K (.ref f) = true
  kp : PySem.W.keepIn K (.ref f) = true

section
variable {X : Cx} {pins : List (Addr × Obj)} {σ : St} {H : Hp} {s : Shared} {a C dx : Addr} {fs : List (Str × V)} {f : Str} {v : V} {A : Around} {E : Value → Shared → Prop}

theorem getattr_ok {b : Bool} {Q : Value → Shared → Prop} (I : Inv X pins σ H s) (e : H a = some (.ins C dx fs)) (c : Cls X.K C) (n : NoAttr X.K C f) (l : fs.lookup f = some v)
    (h : ∀ u s', Inv X pins σ H s' → RelV v u → Q u s') : wpAny (model X.prog X.w) A (getAttr (.ref a) f b) Q E s := by
  obtain ⟨mA, O, r, _, _, _⟩ := ins_get I.hok e
  obtain ⟨u, hu, ru⟩ := RelO.some_of (v := v) (o := mA f) (by rw [← l]; exact r f)
  exact get_map I.kIn O (c.get f) c.hd n hu (handed_of ru) (h u _ (I.tok _) ru)

theorem getmeth_ok {m : Str} {g : Addr} {pl : Sem Bool} {Q : Value × List Value → Shared → Prop} (I : Inv X pins σ H s) (e : H a = some (.ins C dx fs)) (c : Cls X.K C) (k : Meth X.K C m g) (l : fs.lookup m = none)
    (h : Q (.ref g, [.ref a]) s) : wpAny (model X.prog X.w) A (getMethod (.ref a) m pl) Q E s := by
  obtain ⟨mA, O, r, _, _, _⟩ := ins_get I.hok e
  have hn : mA m = none := RelO.none_of (by rw [← l]; exact r m)
  exact get_meth I.kIn O (c.get m) k.at_ k.fn hn h

theorem setattr_ok {y : V} {u : Value} {Q : Unit → Shared → Prop} (I : Inv X pins σ H s) (e : H a = some (.ins C dx fs)) (c : Cls X.K C) (n : NoAttr X.K C f) (hl : fs.length < 1000) (ry : RelV y u)
    (h : ∀ s', Inv X pins σ (upd H a (.ins C dx (putF f y fs))) s' → Q () s') : wpAny (model X.prog X.w) A (setAttr (.ref a) f u) Q E s := by
  obtain ⟨mA, O, r, wi, _, ho⟩ := ins_get I.hok e
  have hz : (fs.map (·.1)).length ≤ sizeLine := by rw [List.length_map, sizeLine_eq]; omega
  refine set_map I.kIn O c.sa c.po n.taker c.hd wi hz fun h' O' sb => h _ ?_
  have hd : ∃ o, h'.get? dx = some o := let ⟨o, _, _, e', _⟩ := O'.ns; ⟨o, e'⟩
  refine I.write (x := a) (e := dx) (by rw [e]; exact True.intro) (.inr ho) (fun b q hb z => (sb.2 b hb).trans z) hd ?_
  refine ⟨by rw [upd_ne O.ne]; exact ho, ?_, O.ne, O'.obj, _, O'.ns, fun g => ?_, fun g hg => ?_⟩
  · have := length_putF f y fs; omega
  · show RelO ((putF f y fs).lookup g) (if g = f then some u else mA g)
    rw [lookup_putF]
    by_cases q : g = f
    · rw [if_pos q, if_pos q]; exact ry
    · rw [if_neg q, if_neg q]; exact r g
  · by_cases q : g = f
    · rw [q]; exact (keys_putF f y fs).1
    · refine (keys_putF f y fs).2 g (wi g fun z => hg ?_)
      show (if g = f then some u else mA g) = none
      rw [if_neg q]; exact z

theorem Inv.made (I : Inv X pins σ H s) : Inv X pins σ (upd (upd H s.heap.objs.size (.own (s.heap.objs.size + 1))) (s.heap.objs.size + 1) (.ins C s.heap.objs.size []))
    { s with heap := (s.heap.push PySem.W.emptyDict).push (PySem.W.instObj C s.heap.objs.size) } := by
  have e1 : (s.heap.push PySem.W.emptyDict).get? s.heap.objs.size = some PySem.W.emptyDict := Heap.get?_push_size s.heap rfl
  have e2 : ((s.heap.push PySem.W.emptyDict).push (PySem.W.instObj C s.heap.objs.size)).get? (s.heap.objs.size + 1) = some (PySem.W.instObj C s.heap.objs.size) := by
    have := Heap.get?_push_size (s.heap.push PySem.W.emptyDict) (o := PySem.W.instObj C s.heap.objs.size) rfl
    rwa [Heap.size_push] at this
  have e3 : (s.heap.push PySem.W.emptyDict).Ns s.heap.objs.size (fun _ => none) := ⟨PySem.W.emptyDict, #[], _, e1, rfl, (fun e he => absurd he (by simp)), fun _ => rfl⟩
  have I1 := I.laid (a := s.heap.objs.size) (o := .own (s.heap.objs.size + 1)) (h' := s.heap.push PySem.W.emptyDict) (t' := s.toks) (fun b u q => Heap.get?_push_of_some _ q) (Nat.le_refl _) ⟨_, e1⟩
  refine I1.laid (a := s.heap.objs.size + 1) (o := .ins C s.heap.objs.size []) (t' := s.toks) (fun b u q => Heap.get?_push_of_some _ q) (Nat.le_of_eq (Heap.size_push _ _)) ?_
  have ne : s.heap.objs.size ≠ s.heap.objs.size + 1 := Nat.ne_of_lt (Nat.lt_succ_self _)
  refine ⟨by rw [upd_ne ne, upd_same], Nat.zero_le _, ne, e2, fun _ => none, (Heap.Ns1.of_empty e3).at fun o q => Heap.get?_push_of_some _ q, fun _ => True.intro, fun y hy => absurd rfl hy⟩

theorem attr_of {prog : Program} {w : World} {env : Env} {e : Expr} {f : Str} {pos : Pos} {s : Shared} {Q : Value → Shared → Prop} (hb : attributeBase e f env (eval e env) = eval e env)
    (h : wpAny (model prog w) A (eval e env) (fun o s₁ => wpAny (model prog w) A (getAttr o f true) Q E s₁) E s) : wpAny (model prog w) A (eval (.Attribute e f pos) env) Q E s :=
  Attribute_any_ h (by rw [arm_eval_Attribute, hb])
end

def tFld (K : PySem.W.Frag) (ta : TE) (f : Str) : TE := fun σ H Q => ta σ H fun x H1 => ∃ a C dx fs v, x = .ref a ∧ H1 a = some (.ins C dx fs) ∧ Cls K C ∧ NoAttr K C f ∧ fs.lookup f = some v ∧ Q v H1
def sFld (K : PySem.W.Frag) (ta tv : TE) (f : Str) : TS := fun D σ H => tv σ H fun y H1 => ta σ H1 fun x H2 => ∃ a C dx fs, x = .ref a ∧ H2 a = some (.ins C dx fs) ∧ Cls K C ∧ NoAttr K C f ∧ fs.length < 1000 ∧
  D.nx σ (upd H2 a (.ins C dx (putF f y fs)))
def InOp (X : Cx) (op : Operator) (rd : V → V → Hp → VK → Prop) : Prop :=
  ∀ (pins : List (Addr × Obj)) (s : Shared) (σ : St) (H : Hp) (x y : V) (u v : Value) (Q : VK), Inv X pins σ H s → RelV x u → RelV y v → rd x y H Q → wpAny (model X.prog X.w) X.A (inplaceOp op u v) (EP X pins σ Q) X.xe s
def sFldAug (K : PySem.W.Frag) (ta tv : TE) (rd : V → V → Hp → VK → Prop) (f : Str) : TS := fun D σ H => ta σ H fun x H1 => ∃ a C dx fs v, x = .ref a ∧ H1 a = some (.ins C dx fs) ∧ Cls K C ∧ NoAttr K C f ∧ fs.lookup f = some v ∧
  tv σ H1 fun y H2 => rd v y H2 fun z H3 => ∃ dx' fs', H3 a = some (.ins C dx' fs') ∧ fs'.length < 1000 ∧ D.nx σ (upd H3 a (.ins C dx' (putF f z fs')))

section
variable {X : Cx} {o e value : Expr} {f : Str} {pos pos' tpos : Pos} {ta tv : TE}
theorem pe_fld (he : PE X e ta) (hb : attributeBase e f X.env (eval e X.env) = eval e X.env) : PE X (.Attribute e f pos) (tFld X.K ta f) := by
  intro pins s σ H Q I h
  refine attr_of hb (thn (he pins s σ H _ I h) fun u s1 ⟨x, H1, I1, rx, a, C, dx, fs, v, ex, ea, c, n, l, q⟩ => ?_)
  subst ex
  obtain rfl : u = Value.ref a := rx
  exact getattr_ok I1 ea c n l fun u' s2 I2 ru => ⟨v, H1, I2, ru, q⟩
theorem ps_fld (ha : PE X o ta) (hv : PE X value tv) (hs : swapsWith value (some (.Attribute o f pos')) pos.line X.env = pure false) : PS X (.Assign [.Attribute o f pos'] value pos) (sFld X.K ta tv f) := by
  intro pins s σ H D I h
  refine plainObj_wpAny_Assign_Attribute (thn (hv pins s σ H _ I h) fun u s1 ⟨y, H1, I1, ry, q⟩ => thn (ha pins s1 σ H1 _ I1 q) fun ov s2 ⟨x, H2, I2, rx, a, C, dx, fs, ex, ea, c, n, l, q2⟩ => ?_) hs
  subst ex
  obtain rfl : ov = Value.ref a := rx
  exact setattr_ok I2 ea c n l ry fun s3 I3 => ⟨σ, _, I3, q2⟩
theorem ps_fldaug {op : Operator} {rd : V → V → Hp → VK → Prop} (ha : PE X o ta) (hv : PE X value tv) (hop : InOp X op rd) : PS X (.AugAssign (.Attribute o f tpos) op value pos) (sFldAug X.K ta tv rd f) := by
  intro pins s σ H D I h
  refine wpAny_AugAssign_AttributeAny (thn (ha pins s σ H _ I h) fun ov s1 ⟨x, H1, I1, rx, a, C, dx, fs, v, ex, ea, c, n, l, q⟩ => ?_)
  subst ex
  obtain rfl : ov = Value.ref a := rx
  refine getattr_ok I1 ea c n l fun u s2 I2 ru => thn (hv pins s2 σ H1 _ I2 q) fun w3 s3 ⟨y, H2, I3, ry, q3⟩ => thn (hop pins s3 σ H2 v y u w3 _ I3 ru ry q3) fun w4 s4 ⟨z, H3, I4, rz, dx', fs', ea', l', q4⟩ => ?_
  exact setattr_ok I4 ea' c n l' rz fun s5 I5 => ⟨σ, _, I5, q4⟩
def rAdd : V → V → Hp → VK → Prop := fun x y H Q => ∃ i j, x = .int i ∧ y = .int j ∧ Q (.int (i + j)) H
theorem in_add : InOp X .Add rAdd := by
  rintro pins s σ H x y u v Q I rx ry ⟨i, j, rfl, rfl, q⟩
  obtain ⟨t, rfl⟩ := (show ∃ t, u = Value.int i t from rx)
  obtain ⟨t', rfl⟩ := (show ∃ t', v = Value.int j t' from ry)
  exact PyProof.Rows.iadd_int ⟨.int (i + j), H, I.tok _, ⟨_, rfl⟩, q⟩
end

section
variable {X : Cx} {pins : List (Addr × Obj)} {σ : St} {H : Hp} {s : Shared} {A : Around} {E : Value → Shared → Prop} {Q : Value → Shared → Prop} {c : Value} {b : Bool}
inductive TyOf (K : PySem.W.Frag) (H : Hp) : V → Value → Prop where
  | non : TyOf K H .non (.type "NoneType")
  | bl (x : Bool) : TyOf K H (.bl x) (.type "bool")
  | int (i : Int) : TyOf K H (.int i) (.type "int")
  | str (x : Str) : TyOf K H (.str x) (.type "str")
  | flt (x : UInt64) : TyOf K H (.flt x) (.type "float")
  | lst {a : Addr} {xs : List V} (e : H a = some (.lst xs)) : TyOf K H (.ref a) (.type "list")
  | frz {a : Addr} {o : Obj} {xs : List V} (e : H a = some (.frz o (.lst xs))) : TyOf K H (.ref a) (.type "list")
  | tup {a : Addr} {xs : List V} (e : H a = some (.tup xs)) : TyOf K H (.ref a) (.type "tuple")
  | dK {a : Addr} {kvs : List (Key × V)} (e : H a = some (.dK kvs)) : TyOf K H (.ref a) (.type "dict")
  | dT {a : Addr} {kvs : List (List Key × V)} (e : H a = some (.dT kvs)) : TyOf K H (.ref a) (.type "dict")
  | ins {a C dx : Addr} {fs : List (Str × V)} (e : H a = some (.ins C dx fs)) (cl : Cls K C) (ha : PySem.W.findIn K (.ref C) "__class__" = some (some (.builtin "object.__class__")))
      (hn : PySem.W.specialIn K (.builtin "object.__class__") "__get__" = some (some (.builtin "getset_descriptor.__get__"))) (htk : PySem.W.takesIn K (.builtin "object.__class__") = some true)
      (hm : PySem.W.mroIn K C (.type "object") = some true) : TyOf K H (.ref a) (.ref C)
theorem isinst_ok {x : V} {u t : Value} (I : Inv X pins σ H s) (rx : RelV x u) (ty : TyOf X.K H x t) (e : PySem.W.kitOne X.K t c = some b) (h : ∀ tk, Q (.bool b) { s with toks := tk }) :
    wpAny (model X.prog X.w) A (call (.builtin "isinstance") [u, c]) Q E s := by
  cases ty with
  | non => cases (show u = Value.none from rx); exact PySem.W.kia_one PySem.W.kitx_none I.kIn True.intro e (fun z => nomatch z) h
  | bl y => cases (show u = Value.bool y from rx); exact PySem.W.kia_one PySem.W.kitx_bool I.kIn True.intro e (fun z => nomatch z) h
  | int i => obtain ⟨t, q⟩ := (show ∃ t, u = Value.int i t from rx); cases q; exact PySem.W.kia_one PySem.W.kitx_int I.kIn True.intro e (fun z => nomatch z) h
  | str y => obtain ⟨t, q⟩ := (show ∃ t, u = Value.str y t from rx); cases q; exact PySem.W.kia_one PySem.W.kitx_str I.kIn True.intro e (fun z => nomatch z) h
  | flt y => obtain ⟨t, q⟩ := (show ∃ t, u = Value.float y t from rx); cases q; exact PySem.W.kia_one PySem.W.kitx_float I.kIn True.intro e (fun z => nomatch z) h
  | @lst a xs ea =>
    cases (show u = Value.ref a from rx)
    obtain ⟨_, _, n, _, h1⟩ := (show ObjOk X.prog X.w H s.heap a (.lst xs) from I.hok a _ ea)
    exact PySem.W.kia_one PySem.W.kitx_list I.kIn ⟨_, h1, rfl⟩ e (fun z => nomatch z) h
  | @frz a ob xs ea =>
    cases (show u = Value.ref a from rx)
    obtain ⟨_, _, _, n, _, h1⟩ := (show ObjOk X.prog X.w H s.heap a (.frz ob (.lst xs)) from I.hok a _ ea)
    exact PySem.W.kia_one PySem.W.kitx_list I.kIn ⟨_, h1, rfl⟩ e (fun z => nomatch z) h
  | @tup a xs ea =>
    cases (show u = Value.ref a from rx)
    obtain ⟨_, _, _, p⟩ := (show ObjOk X.prog X.w H s.heap a (.tup xs) from I.hok a _ ea)
    obtain ⟨o, h1, h2, _⟩ := p
    exact PySem.W.kia_one PySem.W.kitx_tuple I.kIn ⟨o, h1, h2⟩ e (fun z => nomatch z) h
  | @dK a kvs ea =>
    cases (show u = Value.ref a from rx)
    obtain ⟨_, _, vs, _, p⟩ := (show ObjOk X.prog X.w H s.heap a (.dK kvs) from I.hok a _ ea)
    obtain ⟨o, es, ep, h1, h2, _⟩ := p
    exact PySem.W.kia_one PySem.W.kitx_dict I.kIn ⟨o, h1, h2.1⟩ e (fun z => nomatch z) h
  | @dT a kvs ea =>
    cases (show u = Value.ref a from rx)
    obtain ⟨_, _, xs, _, o, es, ep, h1, h2, _⟩ := (show ObjOk X.prog X.w H s.heap a (.dT kvs) from I.hok a _ ea)
    exact PySem.W.kia_one PySem.W.kitx_dict I.kIn ⟨o, h1, h2.1⟩ e (fun z => nomatch z) h
  | @ins a C dx fs ea cl ha hn htk hm =>
    cases (show u = Value.ref a from rx)
    obtain ⟨mA, O, _⟩ := ins_get I.hok ea
    obtain ⟨od, J, _⟩ := O.look
    exact PySem.W.kia_one (PySem.W.kitx_own (cl.get _) cl.hd ha hn htk hm) I.kIn J e (fun z => nomatch z) h
end
end L2

namespace L2
open PySem PySem.Spec PyProof.Rows

structure Room (k : Nat) (A : Around) : Prop where
  hd : A.handled = none
  dp : A.depth + 3 * k + 5 < recursionLimit
  un : A.units + 16 * k + 200 < cLine
  gd : A.guards = some []
theorem Room.mono {j k : Nat} {A : Around} (r : Room k A) (h : j ≤ k) : Room j A := ⟨r.hd, by have := r.dp; omega, by have := r.un; omega, r.gd⟩
theorem Room.deeper {k : Nat} {A : Around} (r : Room (k + 1) A) (env : Env) : Room k (A.deeper env) :=
  ⟨r.hd, by have := r.dp; show A.depth + 1 + 3 * k + 5 < _; omega, by have := r.un; show A.units + 3 + 16 * k + 200 < _; omega, r.gd⟩
theorem Room.in1 {k : Nat} {A : Around} (r : Room (k + 1) A) : Room k A.in1 :=
  ⟨r.hd, by have := r.dp; show A.depth + 3 * k + 5 < _; omega, by have := r.un; show A.units + 1 + 16 * k + 200 < _; omega, r.gd⟩
theorem make_depth {A : Around} {C : Addr} {us : List Value} {kw : List (Str × Value)} : (A.under (.builtin "type.__call__" ⟨.ref C :: us, kw⟩)).depth = A.depth + 1 := by
  first | rfl | simp [Around.under, Code.weight, Code.isCreation, Code.isGuard, Code.isCaller, Code.frames, Code.isFrame, guardIds]
theorem make_units {A : Around} {C : Addr} {us : List Value} {kw : List (Str × Value)} : (A.under (.builtin "type.__call__" ⟨.ref C :: us, kw⟩)).units = A.units + 1 := by
  first | rfl | simp [Around.under, Code.cUnits, Code.frames, Code.isFrame]
theorem make_guards {A : Around} {C : Addr} {us : List Value} {kw : List (Str × Value)} : (A.under (.builtin "type.__call__" ⟨.ref C :: us, kw⟩)).guards = A.guards := by
  cases h : A.guards with
  | none => simp [Around.under, Code.guards, Code.isGuard, guardIds, pushGuards, h]
  | some l => simp [Around.under, Code.guards, Code.isGuard, guardIds, pushGuards, h]
theorem Room.make {k : Nat} {A : Around} (r : Room (k + 1) A) (C : Addr) (us : List Value) (kw : List (Str × Value)) : Room k (A.under (.builtin "type.__call__" ⟨.ref C :: us, kw⟩)) :=
  ⟨r.hd, by have := r.dp; rw [make_depth]; omega, by have := r.un; rw [make_units]; omega, by rw [make_guards]; exact r.gd⟩
theorem Room.depth {k : Nat} {A : Around} (r : Room k A) : A.depth < recursionLimit := by have := r.dp; omega
theorem Room.units {k : Nat} {A : Around} (r : Room k A) : A.units + 64 < cLine := by have := r.un; omega
def tNil : TA := fun _ H Q => Q [] H
def tCons (ta : TE) (tr : TA) : TA := fun σ H Q => ta σ H fun x H1 => tr σ H1 fun xs H2 => Q (x :: xs) H2
section
variable {X : Cx} {e : Expr} {es : List Expr} {te : TE} {t : TA} {pos : Pos}
theorem pa_nil : PA X [] tNil := fun _ _ _ _ H Q I h => Calls.spliced_nil ⟨[], H, I, .nil, h⟩
theorem pa_cons (ha : PE X e te) (hr : PA X es t) (hs : starEach (e :: es) X.env = (false, eval e X.env) :: starEach es X.env := by rfl) : PA X (e :: es) (tCons te t) := by
  intro pos pins s σ H Q I h
  rw [hs]
  show wpAny _ _ (spliced ((false, eval e X.env) :: backTo pos (starEach es X.env))) _ _ s
  refine Calls.spliced_cons (thn (ha pins s σ H _ I h) fun u s1 ⟨x, H1, I1, r1, q1⟩ => ?_)
  exact thn (hr pos pins s1 σ H1 _ I1 q1) fun us s2 ⟨xs, H2, I2, r2, q2⟩ => ⟨x :: xs, H2, I2, .cons r1 r2, q2⟩

def tTup (t : TA) : TE := fun σ H Q => t σ H fun xs H1 => xs.length ≤ sizeLine ∧ ∀ p, H1 p = none → Q (.ref p) (upd H1 p (.tup xs))
def tLst (t : TA) : TE := fun σ H Q => t σ H fun xs H1 => xs.length ≤ sizeLine ∧ ∀ p, H1 p = none → Q (.ref p) (upd H1 p (.lst xs))
theorem pe_tup {x1} (h : PA X es t) : PE X (.Tuple es x1 pos) (tTup t) := by
  intro pins s σ H Q I hq
  refine wpAny_Tuple_spliced (thn (h pos pins s σ H _ I hq) fun us s1 ⟨xs, H1, I1, r, z, q⟩ => ⟨by rw [← r.length]; exact z, ?_⟩)
  have hf : H1 s1.heap.objs.size = none := I1.hok.fresh (Nat.le_refl _)
  refine ⟨.ref s1.heap.objs.size, upd H1 s1.heap.objs.size (.tup xs), I1.laid (t' := s1.toks) (fun b u e => Heap.get?_push_of_some _ e) (Nat.le_refl _) ?_, rfl, q _ hf⟩
  exact ⟨z, us, r, ⟨_, Heap.get?_push_size _ rfl, rfl, _, rfl⟩⟩
theorem pe_lst (h : PA X es t) : PE X (.List es pos) (tLst t) := by
  intro pins s σ H Q I hq
  refine wpAny_List_spliced (thn (h pos pins s σ H _ I hq) fun us s1 ⟨xs, H1, I1, r, z, q⟩ => ⟨by rw [← r.length]; exact z, ?_⟩)
  have hf : H1 s1.heap.objs.size = none := I1.hok.fresh (Nat.le_refl _)
  refine ⟨.ref s1.heap.objs.size, upd H1 s1.heap.objs.size (.lst xs), I1.laid (t' := s1.toks) (fun b u e => Heap.get?_push_of_some _ e) (Nat.le_refl _) ?_, rfl, q _ hf⟩
  exact ⟨z, us, 0, r, Heap.get?_push_size _ rfl⟩
end

abbrev Sp := List V → Hp → VK → XK → Prop
abbrev CXT := List Env → Hp → Shared → XK → Value → Shared → Prop

structure Env0 (P : Program) (w : World) (K : PySem.W.Frag) (mg : Str → Option Value) (base : Heap) (A : Around) (outer : List Env) (s : Shared) (H : Hp) : Prop where
  frames : A.frames = some outer
  mod : Mod K mg base
  bs : ∀ b o, base.get? b = some o → s.heap.get? b = some o ∧ H b = none
  bsz : base.objs.size ≤ s.heap.objs.size
  funs : s.heap.FunFrames base outer
  frf : ∀ b ∈ frs outer, H b = none
  hok : HOk P w H s.heap
  bare : AllBare s.gens
def CE (outer : List Env) (P : Program) (w : World) (H : Hp) (s : Shared) (Q : VK) (u : Value) (s' : Shared) : Prop :=
  ∃ v H', s'.os = s.os ∧ AllBare s'.gens ∧ Un (frs outer) [] H H' s.heap s'.heap ∧ HOk P w H' s'.heap ∧ RelV v u ∧ Q v H'
def CR (CX : CXT) (outer : List Env) (P : Program) (w : World) (H : Hp) (s : Shared) (Q : VK) (E : XK) (r : Result) (s' : Shared) : Prop :=
  match r with
  | .ok (.ret u) => CE outer P w H s Q u s'
  | .ok _ => False
  | .error e => CX outer H s E e s'
structure FnOk (P : Program) (w : World) (K : PySem.W.Frag) (mg : Str → Option Value) (base : Heap) (CX : CXT) (k : Nat) (f : Addr) (fd : FuncData) (ps : List Str) (sp : Sp) : Prop where
  len : ∀ vs H Q E, sp vs H Q E → vs.length = ps.length
  run : ∀ (A : Around) (outer : List Env) (s : Shared) (H : Hp) (args : Args) (us : List Value) (vs : List V) (Q : VK) (E : XK), Room k A → Env0 P w K mg base A outer s H → BindsTo s fd args (ps.zip us) → Vals vs us → sp vs H Q E →
    codeAny (model P w) A (.call (.ref f) args) (CR CX outer P w H s Q E) s
theorem FnOk.mono {P : Program} {w : World} {K : PySem.W.Frag} {mg : Str → Option Value} {base : Heap} {CX : CXT} {j k : Nat} {f : Addr} {fd : FuncData} {ps : List Str} {sp : Sp} (F : FnOk P w K mg base CX j f fd ps sp) (h : j ≤ k) :
    FnOk P w K mg base CX k f fd ps sp := ⟨F.len, fun A outer s H args us vs Q E hr => F.run A outer s H args us vs Q E (hr.mono h)⟩
theorem FnOk.imp {P : Program} {w : World} {K : PySem.W.Frag} {mg : Str → Option Value} {base : Heap} {CX : CXT} {k : Nat} {f : Addr} {fd : FuncData} {ps : List Str} {sp sp' : Sp} (F : FnOk P w K mg base CX k f fd ps sp)
    (h : ∀ vs H Q E, sp' vs H Q E → sp vs H Q E) : FnOk P w K mg base CX k f fd ps sp' :=
  ⟨fun vs H Q E q => F.len vs H Q E (h _ _ _ _ q), fun A outer s H args us vs Q E hr he hb hv hs => F.run A outer s H args us vs Q E hr he hb hv (h _ _ _ _ hs)⟩

theorem Env0.make {P : Program} {w : World} {K : PySem.W.Frag} {mg : Str → Option Value} {base : Heap} {A : Around} {outer : List Env} {s : Shared} {H : Hp} (e : Env0 P w K mg base A outer s H) (C : Addr) (us : List Value) (kw : List (Str × Value)) :
    Env0 P w K mg base (A.under (.builtin "type.__call__" ⟨.ref C :: us, kw⟩)) outer s H := ⟨by first | exact e.frames | (simpa [Around.under, Code.envs, Code.isFrame, pushEnvs] using e.frames), e.mod, e.bs, e.bsz, e.funs, e.frf, e.hok, e.bare⟩
theorem Env0.in1 {P : Program} {w : World} {K : PySem.W.Frag} {mg : Str → Option Value} {base : Heap} {A : Around} {outer : List Env} {s : Shared} {H : Hp} (e : Env0 P w K mg base A outer s H) :
    Env0 P w K mg base A.in1 outer s H := ⟨e.frames, e.mod, e.bs, e.bsz, e.funs, e.frf, e.hok, e.bare⟩

section
variable {X : Cx} {pins : List (Addr × Obj)} {σ : St} {H : Hp} {s s' : Shared}
theorem Inv.env0 (I : Inv X pins σ H s) : Env0 X.prog X.w X.K X.mg X.base X.A X.stack s H :=
  ⟨I.ok.frames, I.ok.mod, I.bs, Nat.le_trans I.ok.bsz I.sz, I.stack, I.stkFree, I.hok, I.bare⟩
theorem Inv.after {Q : VK} {u : Value} (I : Inv X pins σ H s) (h : CE X.stack X.prog X.w H s Q u s') : EP X pins σ Q u s' := by
  obtain ⟨v, H', os, bare, un, hok, r, q⟩ := h
  obtain ⟨hh, g, d, t, os'⟩ := s'
  obtain rfl : os' = s.os := os
  exact ⟨v, H', I.call (h' := hh) (g' := g) (d' := d) (t' := t) (ch := []) un hok bare (fun b z => absurd z (by simp)), r, q⟩
end

def tCall (sp : Sp) (dvs : List V) (E : XK) (t : TA) : TE := fun σ H Q => t σ H fun vs H1 => sp (vs ++ dvs) H1 Q E
def tMeth (C : Addr) (m : Str) (sp : Sp) (dvs : List V) (E : XK) (ta : TE) (t : TA) : TE := fun σ H Q => ta σ H fun x H1 => ∃ a dx fs, x = .ref a ∧ H1 a = some (.ins C dx fs) ∧ fs.lookup m = none ∧
  t σ H1 fun vs H2 => sp (x :: (vs ++ dvs)) H2 Q E
def tMake (C : Addr) (sp : Sp) (dvs : List V) (E : XK) (t : TA) : TE := fun σ H Q => t σ H fun vs H1 => ∀ x dx, H1 x = none → H1 dx = none → dx ≠ x →
  sp (.ref x :: (vs ++ dvs)) (upd (upd H1 dx (.own x)) x (.ins C dx [])) (fun v H2 => v = .non ∧ Q (.ref x) H2) E

def Binds (K : PySem.W.Frag) (fd : FuncData) (ps : List Str) (ds : List Value) : Prop :=
  ∀ (s : Shared) (us : List Value), K.In s.heap → (us ++ ds).length = ps.length → BindsTo s fd ⟨us, []⟩ (ps.zip (us ++ ds))
theorem Binds.all {K : PySem.W.Frag} {fd : FuncData} {ps : List Str} (h : ∀ us : List Value, us.length = ps.length → bindArgs fd ⟨us, []⟩ = pure (ps.zip us)) : Binds K fd ps [] := fun s us _ hl => by
  rw [List.append_nil] at hl ⊢
  exact .of_eq (h us hl)

def Passes (CX : CXT) (X : Cx) (E : XK) : Prop := ∀ (pins : List (Addr × Obj)) (σ : St) (H : Hp) (s : Shared) (e : Value) (s' : Shared), Inv X pins σ H s → CX X.stack H s E e s' → X.xe e s'

section
variable {X : Cx} {CX : CXT} {k : Nat} {f C : Addr} {fd : FuncData} {ps : List Str} {sp : Sp} {dvs : List V} {ds : List Value} {E : XK} {x m : Str} {p pos apos : Pos} {e o : Expr} {es : List Expr} {ta : TE} {t : TA}

theorem run_fn {pins : List (Addr × Obj)} {σ : St} {H : Hp} {s : Shared} {Q : VK} {us : List Value} {vs : List V} (F : FnOk X.prog X.w X.K X.mg X.base CX k f fd ps sp) (hr : Room k X.A) (hb : Binds X.K fd ps ds) (hd : Vals dvs ds) (hx : Passes CX X E)
    (I : Inv X pins σ H s) (r : Vals vs us) (h : sp (vs ++ dvs) H Q E) : wpAny (model X.prog X.w) X.A (call (.ref f) us) (EP X pins σ Q) X.xe s := by
  have r2 : Vals (vs ++ dvs) (us ++ ds) := r.append hd
  have hl : (us ++ ds).length = ps.length := by rw [← r2.length]; exact F.len _ _ _ _ h
  refine wpAny_call (codeAny_mono (F.run X.A X.stack s H ⟨us, []⟩ (us ++ ds) (vs ++ dvs) Q E hr I.env0 (hb s us I.kIn hl) r2 h) fun r s' hq => ?_)
  cases r with
  | error e => exact hx pins σ H s e s' I hq
  | ok fl =>
    cases fl with
    | ret u => exact I.after hq
    | next => exact False.elim hq
    | brk => exact False.elim hq
    | cont => exact False.elim hq

theorem pe_call (F : FnOk X.prog X.w X.K X.mg X.base CX k f fd ps sp) (hr : Room k X.A) (hg : Gl X x) (hm : X.mg x = some (.ref f)) (hk : PySem.W.keepIn X.K (.ref f) = true) (hb : Binds X.K fd ps ds) (hd : Vals dvs ds) (hx : Passes CX X E)
    (ha : PA X (e :: es) t) (hdb : (x == ("__debug__" : Str)) = false := by decide) (he : starEach (e :: es) X.env = (false, eval e X.env) :: starEach es X.env := by rfl) (hpl : (backTo pos (starEach es X.env)).any (·.1) = false := by rfl) :
    PE X (.Call (.Name x p) (e :: es) [] pos) (tCall sp dvs E t) := by
  intro pins s σ H Q I h
  refine wpAny_Call_Name_kw (ld_glob I hg hm ?_ hdb)
  refine PySem.W.callWith_K (h₀ := X.base) I.ok.mod.kin hk (thn (ha pos pins s σ H _ I h) fun us s1 ⟨vs, H1, I1, r, q⟩ => ⟨I1.kIn, ?_⟩) he hpl
  exact run_fn F hr hb hd hx I1 r q
theorem pe_call0 (F : FnOk X.prog X.w X.K X.mg X.base CX k f fd ps sp) (hr : Room k X.A) (hg : Gl X x) (hm : X.mg x = some (.ref f)) (hk : PySem.W.keepIn X.K (.ref f) = true) (hb : Binds X.K fd ps ds) (hd : Vals dvs ds) (hx : Passes CX X E)
    (hdb : (x == ("__debug__" : Str)) = false := by decide) : PE X (.Call (.Name x p) [] [] pos) (tCall sp dvs E tNil) := by
  intro pins s σ H Q I h
  refine wpAny_Call_Name_kw (ld_glob I hg hm ?_ hdb)
  exact PySem.W.callWith_K0 I.kIn hk (run_fn (us := []) F hr hb hd hx I .nil h)

theorem pe_meth {pl : Sem Bool} (he : PE X o ta) (c : Cls X.K C) (hm : Meth X.K C m f) (F : FnOk X.prog X.w X.K X.mg X.base CX k f fd ps sp) (hr : Room k X.A) (hb : Binds X.K fd ps ds) (hd : Vals dvs ds) (hx : Passes CX X E) (ha : PA X (e :: es) t)
    (hst : starEach (e :: es) X.env = (false, eval e X.env) :: starEach es X.env := by rfl) (hpl : (backTo pos (starEach es X.env)).any (·.1) = false := by rfl)
    (ht : eval (.Call (.Attribute o m apos) (e :: es) [] pos) X.env = (do
      let ov ← eval o X.env
      standAt apos.atName
      let (f, first) ← holding [ov] (getMethod ov m pl)
      callWith pos f first (backTo pos (starEach (e :: es) X.env)) (backToKw pos (keywordEach [] X.env))) := by rfl) :
    PE X (.Call (.Attribute o m apos) (e :: es) [] pos) (tMeth C m sp dvs E ta t) := by
  intro pins s σ H Q I h
  refine PySem.W.methodCall_KW (pl := pl) (thn (he pins s σ H _ I h) fun u s1 ⟨x, H1, I1, rx, a, dx, fs, ex, ea, l, q⟩ => ?_) ht
  subst ex
  obtain rfl : u = Value.ref a := rx
  refine getmeth_ok I1 ea c hm l ?_
  refine PySem.W.callWith_K (first := [.ref a]) (h₀ := X.base) I.ok.mod.kin hm.kp (thn (ha pos pins s1 σ H1 _ I1 q) fun us s2 ⟨vs, H2, I2, r, q2⟩ => ⟨I2.kIn, ?_⟩) hst hpl
  exact run_fn (us := .ref a :: us) (vs := .ref a :: vs) F hr hb hd hx I2 (.cons rfl r) q2
theorem pe_meth0 {pl : Sem Bool} (he : PE X o ta) (c : Cls X.K C) (hm : Meth X.K C m f) (F : FnOk X.prog X.w X.K X.mg X.base CX k f fd ps sp) (hr : Room k X.A) (hb : Binds X.K fd ps ds) (hd : Vals dvs ds) (hx : Passes CX X E)
    (ht : eval (.Call (.Attribute o m apos) [] [] pos) X.env = (do
      let ov ← eval o X.env
      standAt apos.atName
      let (f, first) ← holding [ov] (getMethod ov m pl)
      callWith pos f first (backTo pos (starEach [] X.env)) (backToKw pos (keywordEach [] X.env))) := by rfl) :
    PE X (.Call (.Attribute o m apos) [] [] pos) (tMeth C m sp dvs E ta tNil) := by
  intro pins s σ H Q I h
  refine PySem.W.methodCall_KW (pl := pl) (thn (he pins s σ H _ I h) fun u s1 ⟨x, H1, I1, rx, a, dx, fs, ex, ea, l, q⟩ => ?_) ht
  subst ex
  obtain rfl : u = Value.ref a := rx
  refine getmeth_ok I1 ea c hm l ?_
  exact PySem.W.callWith_K0 (first := [.ref a]) I1.kIn hm.kp (run_fn (us := [.ref a]) (vs := [.ref a]) F hr hb hd hx I1 (.cons rfl .nil) q)

structure Mk (K : PySem.W.Frag) (C f : Addr) : Prop where
  makes : PySem.W.makesIn K C = true
  init : PySem.W.findIn K (.ref C) "__init__" = some (some (.ref f))
  fn : PySem.W.isFn K (.ref f) = true
  kp : PySem.W.keepIn K (.ref C) = true

theorem run_make {pins : List (Addr × Obj)} {σ : St} {H : Hp} {s : Shared} {Q : VK} {us : List Value} {vs : List V} (M : Mk X.K C f) (F : FnOk X.prog X.w X.K X.mg X.base CX k f fd ps sp) (hr : Room (k + 1) X.A) (hb : Binds X.K fd ps ds) (hd : Vals dvs ds)
    (hx : Passes CX X E) (I : Inv X pins σ H s) (r : Vals vs us)
    (h : ∀ x dx, H x = none → H dx = none → dx ≠ x → sp (.ref x :: (vs ++ dvs)) (upd (upd H dx (.own x)) x (.ins C dx [])) (fun v H2 => v = .non ∧ Q (.ref x) H2) E) :
    wpAny (model X.prog X.w) X.A (call (.ref C) us) (EP X pins σ Q) X.xe s := by
  have hq := h (s.heap.objs.size + 1) s.heap.objs.size (I.hok.fresh (Nat.le_succ _)) (I.hok.fresh (Nat.le_refl _)) (Nat.ne_of_lt (Nat.lt_succ_self _))
  have I2 := Inv.made (C := C) I
  have r2 : Vals (V.ref (s.heap.objs.size + 1) :: (vs ++ dvs)) (Value.ref (s.heap.objs.size + 1) :: (us ++ ds)) := .cons rfl (r.append hd)
  have hl : (Value.ref (s.heap.objs.size + 1) :: us ++ ds).length = ps.length := by
    have e := r2.length
    rw [F.len _ _ _ _ hq] at e
    exact e.symm
  refine wpAny_call (make_map (f := f) I.kIn M.makes M.init (beq_iff_eq.mp M.fn) (codeAny_mono (F.run _ X.stack _ _ ⟨Value.ref (s.heap.objs.size + 1) :: us, []⟩ (Value.ref (s.heap.objs.size + 1) :: (us ++ ds)) _ _ E (hr.make C us [])
    (I2.env0.make C us []) (hb _ (Value.ref (s.heap.objs.size + 1) :: us) I2.kIn hl) r2 hq) fun r s' hq' => ?_))
  cases r with
  | error e => exact hx pins σ _ _ e s' I2 hq'
  | ok fl =>
    cases fl with
    | ret u =>
      obtain ⟨v, H', I3, rv, ev, q3⟩ := I2.after hq'
      subst ev
      exact ⟨rv, ⟨V.ref (s.heap.objs.size + 1), H', I3, rfl, q3⟩⟩
    | next => exact False.elim hq'
    | brk => exact False.elim hq'
    | cont => exact False.elim hq'
theorem pe_make0 (M : Mk X.K C f) (F : FnOk X.prog X.w X.K X.mg X.base CX k f fd ps sp) (hr : Room (k + 1) X.A) (hg : Gl X x) (hm : X.mg x = some (.ref C)) (hb : Binds X.K fd ps ds) (hd : Vals dvs ds) (hx : Passes CX X E)
    (hdb : (x == ("__debug__" : Str)) = false := by decide) : PE X (.Call (.Name x p) [] [] pos) (tMake C sp dvs E tNil) := by
  intro pins s σ H Q I h
  refine wpAny_Call_Name_kw (ld_glob I hg hm ?_ hdb)
  exact PySem.W.callWith_K0 I.kIn M.kp (run_make (us := []) M F hr hb hd hx I .nil h)
end

section
variable {X : Cx} {CX : CXT} {k : Nat} {f C : Addr} {fd : FuncData} {ps ks : List Str} {sp : Sp} {E : XK} {x m : Str} {p pos apos kpos : Pos} {e o : Expr} {es : List Expr} {kws : List Keyword} {te ta : TE} {t tk : TA} {nm : Option Str}
structure KBinds (K : PySem.W.Frag) (fd : FuncData) (ps ks : List Str) (g : List Value → List Value → List Value) (gV : List V → List V → List V) : Prop where
  to : ∀ (s : Shared) (us ws : List Value), K.In s.heap → (g us ws).length = ps.length → BindsTo s fd ⟨us, ks.zip ws⟩ (ps.zip (g us ws))
  rel : ∀ {vs : List V} {us : List Value} {zs : List V} {ws : List Value}, Vals vs us → Vals zs ws → Vals (gV vs zs) (g us ws)
variable {g : List Value → List Value → List Value} {gV : List V → List V → List V}
end

structure FnScope (N P : List Str) (sc : Scope) : Prop where
  kind : sc.kind = .function
  co : sc.isCoroutine = false
  gen : sc.isGenerator = false
  nd : N.Nodup
  pre : N.take P.length = P
  par : ∀ x ∈ P, sc.names.lookup x = some .local ∨ sc.names.lookup x = some .cell
  nofree : ∀ y ∈ sc.names, y.2 ≠ .free

theorem bindL_out {kindOf : Str → Option NameKind} {x : Str} : ∀ {binds : List (Str × Value)} {m : Str → Option Value}, (∀ v, (x, v) ∉ binds) → bindL kindOf binds m x = m x
  | [], _, _ => rfl
  | (n, v) :: r, m, h => by
    unfold bindL
    rw [bindL_out fun w hw => h w (List.mem_cons_of_mem _ hw)]
    split
    · have : x ≠ n := by rintro rfl; exact h v List.mem_cons_self
      simp [this]
    · rfl
theorem bindC_out {kindOf : Str → Option NameKind} {x : Str} : ∀ {binds : List (Str × Value)} {m : Str → Option Value}, (∀ v, (x, v) ∉ binds) → bindC kindOf binds m x = m x
  | [], _, _ => rfl
  | (n, v) :: r, m, h => by
    unfold bindC
    rw [bindC_out fun w hw => h w (List.mem_cons_of_mem _ hw)]
    split
    · rfl
    · have : x ≠ n := by rintro rfl; exact h v List.mem_cons_self
      simp [this]
theorem bindL_get {kindOf : Str → Option NameKind} {x : Str} {v : Value} : ∀ {P : List Str} {vs : List Value} {i : Nat} {m : Str → Option Value}, P.Nodup → P[i]? = some x → vs[i]? = some v → kindOf x = some .local →
    bindL kindOf (P.zip vs) m x = some v
  | [], _, _, _, _, h, _, _ => by simp at h
  | _ :: _, [], _, _, _, _, h, _ => by simp at h
  | p :: P, w :: vs, 0, m, nd, h1, h2, hk => by
    simp at h1 h2; subst h1; subst h2
    show bindL kindOf ((p, w) :: P.zip vs) m p = _
    unfold bindL
    rw [bindL_out fun v hv => (List.nodup_cons.mp nd).1 (List.of_mem_zip hv).1, if_pos hk]
    simp
  | p :: P, w :: vs, i + 1, m, nd, h1, h2, hk => by
    show bindL kindOf ((p, w) :: P.zip vs) m x = _
    unfold bindL
    exact bindL_get (i := i) (List.nodup_cons.mp nd).2 (by simpa using h1) (by simpa using h2) hk
theorem bindC_get {kindOf : Str → Option NameKind} {x : Str} {v : Value} : ∀ {P : List Str} {vs : List Value} {i : Nat} {m : Str → Option Value}, P.Nodup → P[i]? = some x → vs[i]? = some v → kindOf x ≠ some .local →
    bindC kindOf (P.zip vs) m x = some v
  | [], _, _, _, _, h, _, _ => by simp at h
  | _ :: _, [], _, _, _, _, h, _ => by simp at h
  | p :: P, w :: vs, 0, m, nd, h1, h2, hk => by
    simp at h1 h2; subst h1; subst h2
    show bindC kindOf ((p, w) :: P.zip vs) m p = _
    unfold bindC
    rw [bindC_out fun v hv => (List.nodup_cons.mp nd).1 (List.of_mem_zip hv).1, if_neg hk]
    simp
  | p :: P, w :: vs, i + 1, m, nd, h1, h2, hk => by
    show bindC kindOf ((p, w) :: P.zip vs) m x = _
    unfold bindC
    exact bindC_get (i := i) (List.nodup_cons.mp nd).2 (by simpa using h1) (by simpa using h2) hk

def start (N : List Str) (vs : List V) : St := vs.map some ++ List.replicate (N.length - vs.length) none

def cxOf (CX : CXT) (P : Program) (w : World) (K : PySem.W.Frag) (mg : Str → Option Value) (base : Heap) (N : List Str) (qual : Str) (scope : Scope) (f : Addr) (cd : Value) (A : Around) (outer : List Env) (s : Shared) (H : Hp) (E : XK) : Cx where
  prog := P
  w := w
  K := K
  mg := mg
  base := base
  A := A.deeper (envOfC qual scope s.heap.objs.size f cd)
  N := N
  s₀ := s
  H₀ := H
  env := envOfC qual scope s.heap.objs.size f cd
  outer := outer
  stack := envOfC qual scope s.heap.objs.size f cd :: outer
  ex := []
  calm := true
  fn := fun _ => true
  pn := []
  xe := fun e s' => wpAny (model P w) (A.deeper (envOfC qual scope s.heap.objs.size f cd)) (leaving (envOfC qual scope s.heap.objs.size f cd) e) (fun _ s'' => CX outer H s E e s'') (fun e' s'' => CX outer H s E e' s'') s'

theorem cell_has {sc : Scope} {n : Nat} {x : Str} (h : sc.names.lookup x = some .cell) : ∃ c, (cellsFrom n sc.names []).lookup x = some c := by
  have q := PySem.W.cellsFrom_some sc.names n [] (.inl h)
  exact Option.isSome_iff_exists.mp q

theorem inv_start {CX : CXT} {P : Program} {w : World} {K : PySem.W.Frag} {mg : Str → Option Value} {base : Heap} {N ps : List Str} {qual : Str} {scope : Scope} {f : Addr} {cd : Value} {A : Around} {outer : List Env} {s s1 : Shared} {H : Hp} {E : XK} {us : List Value} {vs : List V}
    (S : FnScope N ps scope) (hd : A.handled = none) (e0 : Env0 P w K mg base A outer s H) (hl : vs.length = ps.length) (r : Vals vs us)
    (x : InCallC s s.heap.objs.size (bindL (envOfC qual scope s.heap.objs.size f cd).kindOf (ps.zip us) fun _ => none) (cellsFrom (s.heap.objs.size + 1) scope.names []) (bindC (envOfC qual scope s.heap.objs.size f cd).kindOf (ps.zip us) fun _ => none) s1) :
    Inv (cxOf CX P w K mg base N qual scope f cd A outer s H E) [] (start N vs) H s1 := by
  have hpl : ps.length ≤ N.length := by have := congrArg List.length S.pre; rw [List.length_take] at this; omega
  obtain ⟨h1, tk, rfl, hk⟩ := x.done
  have noA : ∀ b : Addr, b ∉ (cxOf CX P w K mg base N qual scope f cd A outer s H E).ex := fun b z => absurd (show b ∈ ([] : List Addr) from z) (by simp)
  refine ⟨⟨e0.mod, S.kind, rfl, rfl, Nat.le_refl _, fun y z c h1 h2 => ?_, fun y hy => ?_, fun y c _ h => ?_, fun _ => hd, Around.frames_deeper e0.frames, .inr ⟨rfl, rfl⟩, fun b z => absurd z (noA b), e0.bs, e0.bsz, fun b _ _ => noA b, fun b z => absurd z (noA b), e0.funs, e0.frf⟩,
    rfl, e0.bare, Un.kept hk, ⟨_, x.toInCall.ns, fun i y v h1 h2 h3 => ?_⟩, fun y c h => ⟨_, x.cell y c h⟩, e0.hok.fresh (Nat.le_refl _), fun y c h => ?_, fun p hp => absurd (show p ∈ ([] : List (Addr × Obj)) from hp) (by simp), e0.hok.kept hk, ?_⟩
  · exact name_of_addr x.apart (PySem.mem_of_lookup h1) (PySem.mem_of_lookup h2)
  · have hy : scope.names.lookup y = some .cell ∨ scope.names.lookup y = some .free := hy
    rcases hy with hy | hy
    · exact cell_has hy
    · exact absurd rfl (S.nofree _ (PySem.mem_of_lookup hy))
  · exact Nat.le_of_lt (x.above y c (PySem.mem_of_lookup h))
  · have hi : i < vs.length := by
      unfold start at h2
      by_cases hi : i < vs.length
      · exact hi
      · rw [List.getElem?_append_right (by simpa using hi)] at h2
        rw [List.getElem?_replicate] at h2
        split at h2 <;> cases h2
    have ha : vs[i]? = some v := by
      unfold start at h2
      rw [List.getElem?_append_left (by simpa using hi), List.getElem?_map] at h2
      cases e : vs[i]? with
      | none => rw [e] at h2; cases h2
      | some a => rw [e] at h2; cases h2; rfl
    obtain ⟨u, hu, rv⟩ := r.get ha
    have hp : ps[i]? = some y := by
      rw [← S.pre, List.getElem?_take_of_lt (by omega)]; exact h1
    have ndP : ps.Nodup := by rw [← S.pre]; exact S.nd.sublist (List.take_sublist _ _)
    refine ⟨u, rv, ?_⟩
    rcases S.par y (List.mem_of_getElem? hp) with k | k
    · exact .inl ⟨k, bindL_get ndP hp hu k⟩
    · obtain ⟨c, e⟩ := cell_has (n := s.heap.objs.size + 1) k
      refine .inr ⟨.inl k, c, e, ?_⟩
      have q := x.cell y c e
      rw [bindC_get ndP hp hu (by show scope.names.lookup y ≠ _; rw [k]; decide)] at q
      exact q
  · exact e0.hok.fresh (Nat.le_of_lt (x.above y c (PySem.mem_of_lookup h)))
  · unfold start
    show _ = N.length
    rw [List.length_append, List.length_map, List.length_replicate]
    omega

theorem fn_of {CX : CXT} {P : Program} {w : World} {K : PySem.W.Frag} {mg : Str → Option Value} {base : Heap} {k : Nat} {f : Addr} {name qual : Str} {params : Arguments} {body : List Stmt} {scope : Scope} {dV kV doc pm cdv ct oc : Value} {an od : Option Addr}
    {osl : Array (Option Value)} {N ps : List Str} {sp : Sp} (lk : K.lookup f = some ⟨oc, od, .func (PySem.W.fnOf name qual params body scope dV kV doc pm an cdv ct), osl⟩) (hcd : PySem.W.codeIn K cdv qual = true) (S : FnScope N ps scope)
    (len : ∀ vs H Q E, sp vs H Q E → vs.length = ps.length)
    (hbody : ∀ (A : Around) (outer : List Env) (s : Shared) (H : Hp) (vs : List V) (Q : VK) (E : XK), Room k (A.deeper (envOfC qual scope s.heap.objs.size f cdv)) → sp vs H Q E →
      ∃ t, PSs (cxOf CX P w K mg base N qual scope f cdv A outer s H E) body t ∧ t { nx := fun _ H' => Q .non H', rt := Q } (start N vs) H) :
    FnOk P w K mg base CX (k + 1) f (PySem.W.fnOf name qual params body scope dV kV doc pm an cdv ct) ps sp := by
  refine ⟨len, fun A outer s H args us vs Q E hr e0 hb r hsp => ?_⟩
  have hl := len _ _ _ _ hsp
  have KX : K.In s.heap := e0.mod.kin.keeps fun b o e => (e0.bs b o e).1
  have lim : s.heap.NoLimit := e0.mod.nolimit.keeps fun b o e => (e0.bs b o e).1
  have hkind : ∀ y ∈ ps.zip us, scope.names.lookup y.1 = some .local ∨ (scope.names.lookup y.1 = some .cell ∧ ((cellsFrom (s.heap.objs.size + 1) scope.names []).lookup y.1).isSome = true) := fun ⟨n, v⟩ hy => by
    rcases S.par n (List.of_mem_zip hy).1 with q | q
    · exact .inl q
    · exact .inr ⟨q, PySem.W.cellsFrom_some _ _ _ (.inl q)⟩
  refine codeAny_call_function hr.depth (KX _ _ lk) rfl S.co S.gen rfl (PySem.W.codeRec_of KX hcd) (hb _ _ _ _ ?_)
  refine wpAny_newFunctionEnv_cells S.kind hkind fun env he s1 x => ?_
  subst he
  refine ⟨lim.keeps x.toInCall.keep, codeAny_func ?_⟩
  obtain ⟨t, ht, hq⟩ := hbody A outer s H vs Q E (hr.deeper _) hsp
  have I : Inv (cxOf CX P w K mg base N qual scope f cdv A outer s H E) [] (start N vs) H s1 := inv_start S hr.hd e0 hl r x
  refine wpAny_mono (ht [] s1 (start N vs) H _ I hq) (fun fl s' hs => ?_) fun e s' hs => hs
  have fin : ∀ {σ' : St} {H' : Hp} {v : V} {u : Value}, Inv (cxOf CX P w K mg base N qual scope f cdv A outer s H E) [] σ' H' s' → RelV v u → Q v H' → CE outer P w H s Q u s' :=
    fun {σ' H' v u} J rv q => ⟨v, H', J.os, J.bare, J.base, J.hok, rv, q⟩
  cases fl with
  | ret u =>
    obtain ⟨v, σ', H', J, rv, q⟩ := hs
    exact fin J rv q
  | next =>
    obtain ⟨σ', H', J, q⟩ := hs
    exact fin (v := V.non) (u := Value.none) J rfl q
  | brk =>
    obtain ⟨_, _, _, q⟩ := hs
    exact False.elim q
  | cont =>
    obtain ⟨_, _, _, q⟩ := hs
    exact False.elim q
end L2

namespace L2
open PySem PySem.Spec PyProof.Rows
section
variable {X : Cx} {x : Str} {p pos : Pos} {e : Expr} {es : List Expr} {t : TA} {id T : String} {r : List V → Hp → VK → Prop}

def tCB (r : List V → Hp → VK → Prop) (t : TA) : TE := fun σ H Q => t σ H fun vs H1 => r vs H1 Q
theorem pe_callB (hc : CallR X (.builtin id) r) (hg : Gl X x) (hm : X.mg x = none) (hv : bootBuiltins x = some (.builtin id)) (ha : PA X (e :: es) t) (hn : x ≠ "__name__" := by decide) (hdb : (x == ("__debug__" : Str)) = false := by decide)
    (he : starEach (e :: es) X.env = (false, eval e X.env) :: starEach es X.env := by rfl) (hpl : (backTo pos (starEach es X.env)).any (·.1) = false := by rfl) : PE X (.Call (.Name x p) (e :: es) [] pos) (tCB r t) := by
  intro pins s σ H Q I h
  refine wpAny_Call_Name_kw (ld_blt I hg hm hv ?_ hn hdb)
  exact PyProof.Rows.callWith_builtin1 (thn (ha pos pins s σ H _ I h) fun us s1 ⟨vs, H1, I1, r1, q1⟩ => hc pins s1 σ H1 vs us Q I1 r1 q1) he hpl
theorem pe_callTy (hc : CallR X (.type T) r) (hg : Gl X x) (hm : X.mg x = none) (hv : bootBuiltins x = some (.type T)) (ha : PA X (e :: es) t) (hn : x ≠ "__name__" := by decide) (hdb : (x == ("__debug__" : Str)) = false := by decide)
    (he : starEach (e :: es) X.env = (false, eval e X.env) :: starEach es X.env := by rfl) (hpl : (backTo pos (starEach es X.env)).any (·.1) = false := by rfl) : PE X (.Call (.Name x p) (e :: es) [] pos) (tCB r t) := by
  intro pins s σ H Q I h
  refine wpAny_Call_Name_kw (ld_blt I hg hm hv ?_ hn hdb)
  exact PyProof.Rows.callWith_type1 (thn (ha pos pins s σ H _ I h) fun us s1 ⟨vs, H1, I1, r1, q1⟩ => hc pins s1 σ H1 vs us Q I1 r1 q1) he hpl
end
end L2

namespace L2
open PySem PySem.Spec PyProof.Rows

section
variable {κ : Type} [DecidableEq κ]
def valV (kvs : List (κ × V)) (k : κ) : Option V := (kvs.find? fun kv => decide (kv.1 = k)).map (·.2)
def putK (kvs : List (κ × V)) (k : κ) (v : V) : List (κ × V) :=
  if (kvs.any fun kv => decide (kv.1 = k)) = true then kvs.map (fun kv => if kv.1 = k then (kv.1, v) else kv) else kvs ++ [(k, v)]
def dropK (kvs : List (κ × V)) (k : κ) : List (κ × V) := kvs.filter fun kv => decide (kv.1 ≠ k)

theorem valV_nil {k : κ} : valV ([] : List (κ × V)) k = none := rfl
theorem valV_pos {p : κ × V} {r : List (κ × V)} {k : κ} (e : p.1 = k) : valV (p :: r) k = some p.2 := by simp [valV, List.find?_cons, e]
theorem valV_neg {p : κ × V} {r : List (κ × V)} {k : κ} (e : ¬ p.1 = k) : valV (p :: r) k = valV r k := by simp [valV, List.find?_cons, e]
theorem valV_any (k : κ) : ∀ kvs : List (κ × V), (kvs.any fun kv => decide (kv.1 = k)) = (valV kvs k).isSome
  | [] => rfl
  | p :: r => by
    rw [List.any_cons]
    by_cases e : p.1 = k
    · simp only [valV_pos e, decide_eq_true e, Bool.true_or, Option.isSome_some]
    · rw [valV_neg e, decide_eq_false e, Bool.false_or]; exact valV_any k r
theorem valV_map (k j : κ) (y : V) : ∀ kvs : List (κ × V), valV (kvs.map fun kv => if kv.1 = k then (kv.1, y) else kv) j = (valV kvs j).map fun x => if j = k then y else x
  | [] => rfl
  | p :: r => by
    have ih := valV_map k j y r
    rw [List.map_cons]
    by_cases h : p.1 = k
    · rw [if_pos h]
      by_cases e : p.1 = j
      · rw [valV_pos (p := (p.1, y)) e, valV_pos e, Option.map_some, if_pos (e.symm.trans h)]
      · rw [valV_neg (p := (p.1, y)) e, valV_neg e, ih]
    · rw [if_neg h]
      by_cases e : p.1 = j
      · rw [valV_pos (p := p) e, valV_pos e, Option.map_some, if_neg (fun z => h (e.trans z))]
      · rw [valV_neg (p := p) e, valV_neg e, ih]
theorem valV_snoc (k j : κ) (y : V) : ∀ kvs : List (κ × V), valV kvs k = none → valV (kvs ++ [(k, y)]) j = if j = k then some y else valV kvs j
  | [], _ => by
    by_cases e : k = j
    · rw [if_pos e.symm]; exact valV_pos (p := (k, y)) e
    · rw [if_neg (fun z => e z.symm)]; exact valV_neg (p := (k, y)) e
  | p :: r, hn => by
    rw [List.cons_append]
    have hk : ¬ p.1 = k := fun z => by rw [valV_pos z] at hn; cases hn
    rw [valV_neg hk] at hn
    have ih := valV_snoc k j y r hn
    by_cases e : p.1 = j
    · rw [valV_pos e, valV_pos e, if_neg (fun z => hk (e.trans z))]
    · rw [valV_neg e, valV_neg e, ih]
theorem valV_put (kvs : List (κ × V)) (k j : κ) (y : V) : valV (putK kvs k y) j = if j = k then some y else valV kvs j := by
  unfold putK
  by_cases a : (kvs.any fun kv => decide (kv.1 = k)) = true
  · rw [if_pos a, valV_map]
    rw [valV_any] at a
    by_cases e : j = k
    · obtain ⟨x, hx⟩ := Option.isSome_iff_exists.mp a
      rw [if_pos e, e, hx, Option.map_some, if_pos rfl]
    · rw [if_neg e]
      cases valV kvs j with
      | none => rfl
      | some x => rw [Option.map_some, if_neg e]
  · rw [if_neg a]
    refine valV_snoc k j y kvs ?_
    rw [valV_any] at a
    cases q : valV kvs k with
    | none => rfl
    | some x => rw [q] at a; exact (a rfl).elim
theorem length_putK (kvs : List (κ × V)) (k : κ) (v : V) : (putK kvs k v).length ≤ kvs.length + 1 := by
  unfold putK
  split
  · rw [List.length_map]; omega
  · rw [List.length_append, List.length_cons, List.length_nil]; omega
theorem putK_new {kvs : List (κ × V)} {k : κ} (v : V) (h : valV kvs k = none) : putK kvs k v = kvs ++ [(k, v)] := by
  unfold putK
  rw [valV_any, h]
  exact if_neg (by decide)

theorem RelO.isSome_eq {o : Option V} {u : Option Value} (r : RelO o u) : o.isSome = u.isSome := by
  cases o with
  | none => cases u with
    | none => rfl
    | some _ => exact (show False from r).elim
  | some _ => cases u with
    | none => exact (show False from r).elim
    | some _ => rfl
theorem RelO.getD {o : Option V} {u : Option Value} {d : V} {d' : Value} (r : RelO o u) (rd : RelV d d') : RelV (o.getD d) (u.getD d') := by
  cases o with
  | none => cases u with
    | none => exact rd
    | some _ => exact (show False from r).elim
  | some _ => cases u with
    | none => exact (show False from r).elim
    | some _ => exact r

theorem KV.val {kvs : List (κ × V)} {vs : List (κ × Value)} (r : KV kvs vs) (k : κ) : RelO (valV kvs k) (valueAt vs k) := by
  unfold KV at r
  induction r with
  | nil => exact True.intro
  | @cons p q ps qs h t ih =>
    obtain ⟨h1, h2⟩ := h
    by_cases e : p.1 = k
    · have e' : q.1 = k := h1.symm.trans e
      have b : valueAt (q :: qs) k = some q.2 := by simp [valueAt, List.find?_cons, e']
      rw [valV_pos e, b]; exact h2
    · have e' : ¬ q.1 = k := fun z => e (h1.trans z)
      have b : valueAt (q :: qs) k = valueAt qs k := by simp [valueAt, List.find?_cons, e']
      rw [valV_neg e, b]; exact ih
theorem KV.any {kvs : List (κ × V)} {vs : List (κ × Value)} (r : KV kvs vs) (k : κ) : (kvs.any fun kv => decide (kv.1 = k)) = vs.any fun kv => decide (kv.1 = k) := by
  unfold KV at r
  induction r with
  | nil => rfl
  | cons h t ih => rw [List.any_cons, List.any_cons, ih, h.1]
theorem KV.repl {kvs : List (κ × V)} {vs : List (κ × Value)} (r : KV kvs vs) (k : κ) {y : V} {u : Value} (ry : RelV y u) :
    KV (kvs.map fun kv => if kv.1 = k then (kv.1, y) else kv) (vs.map fun kv => if kv.1 = k then (kv.1, u) else kv) := by
  unfold KV at r ⊢
  induction r with
  | nil => exact .nil
  | @cons p q ps qs h t ih =>
    rw [List.map_cons, List.map_cons]
    refine .cons ?_ ih
    obtain ⟨h1, h2⟩ := h
    by_cases e : p.1 = k
    · rw [if_pos e, if_pos (h1.symm.trans e)]; exact ⟨h1, ry⟩
    · rw [if_neg e, if_neg (fun z => e (h1.trans z))]; exact ⟨h1, h2⟩
theorem KV.put {kvs : List (κ × V)} {vs : List (κ × Value)} (r : KV kvs vs) (k : κ) {y : V} {u : Value} (ry : RelV y u) : KV (putK kvs k y) (stored vs k u) := by
  unfold putK stored
  rw [r.any k]
  by_cases e : (vs.any fun kv => decide (kv.1 = k)) = true
  · rw [if_pos e, if_pos e]; exact r.repl k ry
  · rw [if_neg e, if_neg e]; exact Paired.snoc r ⟨rfl, ry⟩
theorem KV.drop {kvs : List (κ × V)} {vs : List (κ × Value)} (r : KV kvs vs) (k : κ) : KV (dropK kvs k) (without vs k) := by
  unfold KV at r ⊢
  unfold dropK without
  induction r with
  | nil => exact .nil
  | @cons p q ps qs h t ih =>
    obtain ⟨h1, h2⟩ := h
    rw [List.filter_cons, List.filter_cons]
    by_cases e : p.1 = k
    · have a : ¬ decide (p.1 ≠ k) = true := by simp [e]
      have b : ¬ decide (q.1 ≠ k) = true := by simp [h1.symm.trans e]
      rw [if_neg a, if_neg b]; exact ih
    · have e' : ¬ q.1 = k := fun z => e (h1.trans z)
      have a : decide (p.1 ≠ k) = true := by simp [e]
      have b : decide (q.1 ≠ k) = true := by simp [e']
      rw [if_pos a, if_pos b]; exact .cons ⟨h1, h2⟩ ih
theorem KV.keys {kvs : List (κ × V)} {vs : List (κ × Value)} (r : KV kvs vs) : kvs.map (·.1) = vs.map (·.1) := by
  unfold KV at r
  induction r with
  | nil => rfl
  | cons h t ih => rw [List.map_cons, List.map_cons, ih, h.1]
theorem KV.length {kvs : List (κ × V)} {vs : List (κ × Value)} (r : KV kvs vs) : kvs.length = vs.length := Paired.length r
theorem dropK_le (kvs : List (κ × V)) (k : κ) : (dropK kvs k).length ≤ kvs.length := List.length_filter_le _ _
end


theorem kV_is {P : Program} {w : World} {k : Key} {u : Value} (r : RelV (kV k) u) : (mixKind P w).is k u = true := by
  cases k with
  | inl i => obtain ⟨t, e⟩ := (show ∃ t, u = Value.int i t from r); subst e; exact mixKind_int P w i t
  | inr x => obtain ⟨t, e⟩ := (show ∃ t, u = Value.str x t from r); subst e; exact mixKind_str P w x t
theorem items_are {P : Program} {w : World} : ∀ {ks : List Key} {us : List Value}, Vals (ks.map kV) us → ItemsAre (mixKind P w) ks us
  | [], _, r => by rw [List.map_nil] at r; cases r; exact .nil
  | k :: ks, _, r => by
    rw [List.map_cons] at r
    cases r with
    | cons h t => exact .cons (kV_is h) (items_are t)

abbrev KT (H : Hp) : List (List Key × V) → List (List Key × Addr × Value) → Prop := Paired fun p q => p.1 = q.1 ∧ H q.2.1 = some (.tup (p.1.map kV)) ∧ RelV p.2 q.2.2
theorem KT.val {H : Hp} {kvs : List (List Key × V)} {xs : List (List Key × Addr × Value)} (r : KT H kvs xs) (k : List Key) : RelO (valV kvs k) ((atKey xs k).map (·.2)) := by
  induction r with
  | nil => exact True.intro
  | @cons p q ps qs h t ih =>
    obtain ⟨h1, _, h2⟩ := h
    by_cases e : p.1 = k
    · have e' : q.1 = k := h1.symm.trans e
      have b : atKey (q :: qs) k = some q.2 := by simp [atKey, List.find?_cons, e']
      rw [valV_pos e, b]; exact h2
    · have e' : ¬ q.1 = k := fun z => e (h1.trans z)
      have b : atKey (q :: qs) k = atKey qs k := by simp [atKey, List.find?_cons, e']
      rw [valV_neg e, b]; exact ih
theorem KT.repl {H : Hp} {kvs : List (List Key × V)} {xs : List (List Key × Addr × Value)} (r : KT H kvs xs) (k : List Key) {y : V} {u : Value} (ry : RelV y u) :
    KT H (kvs.map fun kv => if kv.1 = k then (kv.1, y) else kv) (xs.map (putAt k u)) := by
  induction r with
  | nil => exact .nil
  | @cons p q ps qs h t ih =>
    rw [List.map_cons, List.map_cons]
    refine .cons ?_ ih
    obtain ⟨h1, h2, h3⟩ := h
    unfold putAt
    by_cases e : p.1 = k
    · rw [if_pos e, if_pos (h1.symm.trans e)]; exact ⟨h1, h2, ry⟩
    · rw [if_neg e, if_neg (fun z => e (h1.trans z))]; exact ⟨h1, h2, h3⟩
theorem KT.put {H : Hp} {kvs : List (List Key × V)} {xs : List (List Key × Addr × Value)} (r : KT H kvs xs) (k : List Key) {b : Addr} {y : V} {u : Value} (hb : H b = some (.tup (k.map kV))) (ry : RelV y u) :
    KT H (putK kvs k y) (storedH xs k b u) := by
  have e : (kvs.any fun kv => decide (kv.1 = k)) = (atKey xs k).isSome := by
    rw [valV_any, (r.val k).isSome_eq, Option.isSome_map]
  unfold putK storedH
  rw [e]
  by_cases q : (atKey xs k).isSome = true
  · rw [if_pos q, if_pos q]; exact r.repl k ry
  · rw [if_neg q, if_neg q]; exact Paired.snoc r ⟨rfl, hb, ry⟩
theorem KT.keeps {H H' : Hp} {kvs : List (List Key × V)} {xs : List (List Key × Addr × Value)} (r : KT H kvs xs) (ht : ∀ b ys, H b = some (.tup ys) → H' b = some (.tup ys)) : KT H' kvs xs :=
  Paired.mapP r fun _ _ z => ⟨z.1, ht _ _ z.2.1, z.2.2⟩

section
variable {P : Program} {w : World} {H : Hp} {h : Heap} {a : Addr}
theorem rd_of {u : HO} (ok : HOk P w H h) (e : Rd H a u) : ObjOk P w H h a u := e.ok ok
theorem dk_rd {kvs : List (Key × V)} (ok : HOk P w H h) (e : Rd H a (.dK kvs)) : kvs.length ≤ sizeLine ∧ (a == sysModules) = false ∧ ∃ vs, KV kvs vs ∧ h.DictOf (mixKind P w) a vs :=
  show ObjOk P w H h a (.dK kvs) from rd_of ok e
theorem dk_of {kvs : List (Key × V)} (ok : HOk P w H h) (e : H a = some (.dK kvs)) : kvs.length ≤ sizeLine ∧ (a == sysModules) = false ∧ ∃ vs, KV kvs vs ∧ h.DictOf (mixKind P w) a vs := dk_rd ok (.inl e)
theorem key_of {ks : List Key} (ok : HOk P w H h) (e : H a = some (.tup (ks.map kV))) : (tupleKind (mixKind P w)).is h ks a := by
  obtain ⟨_, its, r, o, h1, h2, n, h3⟩ := (show ObjOk P w H h a (.tup (ks.map kV)) from ok a _ e)
  exact ⟨o, its.toArray, n, h1, h2, h3, by simpa using items_are r⟩
theorem dt_rd {kvs : List (List Key × V)} (ok : HOk P w H h) (e : Rd H a (.dT kvs)) : kvs.length ≤ sizeLine ∧ (a == sysModules) = false ∧
    ∃ xs, KT H kvs xs ∧ h.DictOfH (tupleKind (mixKind P w)) a xs := by
  obtain ⟨z, y, xs, r, o, es, ep, h1, h2, h3, h4, h5⟩ := (show ObjOk P w H h a (.dT kvs) from rd_of ok e)
  refine ⟨z, y, xs, r, o, es, ep, h1, h2, h3, h4, fun x hx => ?_, h5⟩
  have all : ∀ {l : List (List Key × V)} {m : List (List Key × Addr × Value)}, KT H l m → ∀ x ∈ m, (tupleKind (mixKind P w)).is h x.1 x.2.1 := by
    intro l m q
    induction q with
    | nil => intro x hx; exact nomatch hx
    | @cons p q ps qs hq t ih =>
      intro x hx
      rcases List.mem_cons.mp hx with e | hx
      · subst e
        exact key_of ok (by rw [← hq.1]; exact hq.2.1)
      · exact ih x hx
  exact all r x hx
theorem dt_of {kvs : List (List Key × V)} (ok : HOk P w H h) (e : H a = some (.dT kvs)) : kvs.length ≤ sizeLine ∧ (a == sysModules) = false ∧
    ∃ xs, KT H kvs xs ∧ h.DictOfH (tupleKind (mixKind P w)) a xs := dt_rd ok (.inl e)
end

def DGet (H : Hp) (a : Addr) (y : V) (r : Option V) : Prop :=
  (∃ kvs k, Rd H a (.dK kvs) ∧ y = kV k ∧ r = valV kvs k) ∨ ∃ kvs k b, Rd H a (.dT kvs) ∧ y = .ref b ∧ H b = some (.tup (k.map kV)) ∧ r = valV kvs k
def DPut (H : Hp) (a : Addr) (y v : V) (H' : Hp) : Prop :=
  (∃ kvs k, H a = some (.dK kvs) ∧ y = kV k ∧ kvs.length < sizeLine ∧ H' = upd H a (.dK (putK kvs k v))) ∨
  ∃ kvs k b, H a = some (.dT kvs) ∧ y = .ref b ∧ H b = some (.tup (k.map kV)) ∧ kvs.length < sizeLine ∧ H' = upd H a (.dT (putK kvs k v))
theorem DGet.k {H : Hp} {a : Addr} {kvs : List (Key × V)} {k : Key} (e : H a = some (.dK kvs)) : DGet H a (kV k) (valV kvs k) := .inl ⟨kvs, k, .inl e, rfl, rfl⟩
theorem DGet.t {H : Hp} {a b : Addr} {kvs : List (List Key × V)} {k : List Key} (e : H a = some (.dT kvs)) (eb : H b = some (.tup (k.map kV))) : DGet H a (.ref b) (valV kvs k) := .inr ⟨kvs, k, b, .inl e, rfl, eb, rfl⟩
theorem DPut.k {H : Hp} {a : Addr} {kvs : List (Key × V)} {k : Key} {v : V} (e : H a = some (.dK kvs)) (hl : kvs.length < sizeLine) : DPut H a (kV k) v (upd H a (.dK (putK kvs k v))) := .inl ⟨kvs, k, e, rfl, hl, rfl⟩
theorem DPut.t {H : Hp} {a b : Addr} {kvs : List (List Key × V)} {k : List Key} {v : V} (e : H a = some (.dT kvs)) (eb : H b = some (.tup (k.map kV))) (hl : kvs.length < sizeLine) :
    DPut H a (.ref b) v (upd H a (.dT (putK kvs k v))) := .inr ⟨kvs, k, b, e, rfl, eb, hl, rfl⟩


section
variable {X : Cx} {pins : List (Addr × Obj)} {σ : St} {H : Hp} {s : Shared} {a : Addr} {y v : V} {u r : Value} {o : Option V} {A : Around} {E : Value → Shared → Prop}

theorem Inv.big (I : Inv X pins σ H s) : sysModules < s.heap.objs.size := by
  have h : mainGlobals < s.heap.objs.size := (I.mod.glob.keeps I.bk).lt
  exact Nat.lt_trans (by decide) h

theorem d_getItem {Q : Value → Shared → Prop} (hu : A.units + 1 < cLine) (I : Inv X pins σ H s) (g : DGet H a y (some v)) (ry : RelV y u) (h : ∀ w' s', Inv X pins σ H s' → RelV v w' → Q w' s') :
    wpAny (model X.prog X.w) A (getItem (.ref a) u) Q E s := by
  rcases g with ⟨kvs, k, e, ey, l⟩ | ⟨kvs, k, b, e, ey, eb, l⟩
  · subst ey
    obtain ⟨z, hd, vs, rel, dd⟩ := dk_rd I.hok e
    obtain ⟨w', hw, rw'⟩ := RelO.some_of (v := v) (o := valueAt vs k) (by rw [l]; exact rel.val k)
    exact wpAny_getItem_of (kV_is ry) dd.mapOf hw (h w' _ (I.tok _) rw')
  · subst ey
    cases (show u = Value.ref b from ry)
    obtain ⟨z, hd, xs, rel, dd⟩ := dt_rd I.hok e
    obtain ⟨w', hw, rw'⟩ := RelO.some_of (v := v) (o := (atKey xs k).map (·.2)) (by rw [l]; exact rel.val k)
    obtain ⟨p, hp, hp2⟩ := Option.map_eq_some_iff.mp hw
    refine wpAny_getItem_heap (tupleKind_room_in1 hu) (key_of I.hok eb) dd hp ?_
    rw [hp2]
    exact h w' _ (I.tok _) rw'
theorem d_in {Q : Value → Shared → Prop} (hu : A.units + 1 < cLine) (I : Inv X pins σ H s) (g : DGet H a y o) (ry : RelV y u) (h : ∀ s', Inv X pins σ H s' → Q (.bool o.isSome) s') :
    wpAny (model X.prog X.w) A (compareOp .In u (.ref a)) Q E s := by
  rcases g with ⟨kvs, k, e, ey, l⟩ | ⟨kvs, k, b, e, ey, eb, l⟩
  · subst ey
    obtain ⟨z, hd, vs, rel, dd⟩ := dk_rd I.hok e
    refine wpAny_in_of (kV_is ry) hd dd.mapOf ?_
    rw [← (rel.val k).isSome_eq, ← l]
    exact h _ (I.tok _)
  · subst ey
    cases (show u = Value.ref b from ry)
    obtain ⟨z, hd, xs, rel, dd⟩ := dt_rd I.hok e
    refine wpAny_in_heap (tupleKind_room_in1 hu) (key_of I.hok eb) hd dd ?_
    have q := (rel.val k).isSome_eq
    rw [Option.isSome_map] at q
    rw [← q, ← l]
    exact h _ (I.tok _)
theorem d_notIn {Q : Value → Shared → Prop} (hu : A.units + 1 < cLine) (I : Inv X pins σ H s) (g : DGet H a y o) (ry : RelV y u) (h : ∀ s', Inv X pins σ H s' → Q (.bool (!o.isSome)) s') :
    wpAny (model X.prog X.w) A (compareOp .NotIn u (.ref a)) Q E s := by
  rcases g with ⟨kvs, k, e, ey, l⟩ | ⟨kvs, k, b, e, ey, eb, l⟩
  · subst ey
    obtain ⟨z, hd, vs, rel, dd⟩ := dk_rd I.hok e
    refine wpAny_notIn_of (kV_is ry) hd dd.mapOf ?_
    rw [← (rel.val k).isSome_eq, ← l]
    exact h _ (I.tok _)
  · subst ey
    cases (show u = Value.ref b from ry)
    obtain ⟨z, hd, xs, rel, dd⟩ := dt_rd I.hok e
    refine wpAny_notIn_heap (tupleKind_room_in1 hu) (key_of I.hok eb) hd dd ?_
    have q := (rel.val k).isSome_eq
    rw [Option.isSome_map] at q
    rw [← q, ← l]
    exact h _ (I.tok _)
theorem d_write {h' : Heap} {t' : Nat} {ob : HO} (I : Inv X pins σ H s) (mu : Mut (H a)) (hs : Heap.SameBut a s.heap h') (he : ∃ q, h'.get? a = some q) (new : ObjOk X.prog X.w (upd H a ob) h' a ob) :
    Inv X pins σ (upd H a ob) { s with heap := h', toks := t' } :=
  I.write (x := a) (e := a) mu (.inl rfl) (fun b q hb z => (hs.2 b hb).trans z) he new
theorem dk_new {P : Program} {w : World} {H' : Hp} {h' : Heap} {kvs : List (Key × V)} {vs : List (Key × Value)} (z : kvs.length ≤ sizeLine) (hd : (a == sysModules) = false) (rel : KV kvs vs) (dd : h'.DictOf (mixKind P w) a vs) :
    ObjOk P w H' h' a (.dK kvs) := ⟨z, hd, vs, rel, dd⟩
theorem d_setItem {H' : Hp} {Q : Unit → Shared → Prop} (hu : A.units + 1 < cLine) (I : Inv X pins σ H s) (g : DPut H a y v H') (ry : RelV y u) (rv : RelV v r) (h : ∀ s', Inv X pins σ H' s' → Q () s') :
    wpAny (model X.prog X.w) A (setItem (.ref a) u r) Q E s := by
  rcases g with ⟨kvs, k, e, ey, l, eH⟩ | ⟨kvs, k, b, e, ey, eb, l, eH⟩
  · subst ey eH
    obtain ⟨z, hd, vs, rel, dd⟩ := dk_of I.hok e
    have hz : vs.length ≤ sizeLine := by rw [← rel.length]; exact z
    have hl : (putK kvs k v).length ≤ sizeLine := by have := length_putK kvs k v; omega
    refine wpAny_setItem_pairs (hsz := hz) (kV_is ry) dd fun h' dd' hs => h _ ?_
    have he : ∃ q, h'.get? a = some q := let ⟨q, _, _, hq, _⟩ := dd'; ⟨q, hq⟩
    exact d_write I (by rw [e]; exact True.intro) hs he (dk_new hl hd (rel.put k rv) dd')
  · subst ey eH
    cases (show u = Value.ref b from ry)
    obtain ⟨z, hd, xs, rel, dd⟩ := dt_of I.hok e
    have hz : xs.length ≤ sizeLine := by rw [← Paired.length rel]; exact z
    have hl : (putK kvs k v).length ≤ sizeLine := by have := length_putK kvs k v; omega
    refine wpAny_setItem_heap (hsz := hz) (tupleKind_room_in1 hu) (key_of I.hok eb) dd fun h' dd' hs => h _ ?_
    obtain ⟨q, es, ep, hq, h2, h3, h4, _, h5⟩ := dd'
    refine d_write I (by rw [e]; exact True.intro) hs ⟨q, hq⟩ ⟨hl, hd, _, (rel.put k eb rv).keeps fun c ys ec => ?_, q, es, ep, hq, h2, h3, h4, h5⟩
    rw [upd_ne (ne_of ec e (fun z => nomatch z))]
    exact ec
end

section
variable {X : Cx} {pins : List (Addr × Obj)} {σ : St} {H : Hp} {s : Shared} {a : Addr} {kvs : List (Key × V)} {k : Key} {u : Value} {A : Around} {E : Value → Shared → Prop}
theorem d_delItem {Q : Unit → Shared → Prop} (I : Inv X pins σ H s) (e : H a = some (.dK kvs)) (ry : RelV (kV k) u) (l : (valV kvs k).isSome = true) (h : ∀ s', Inv X pins σ (upd H a (.dK (dropK kvs k))) s' → Q () s') :
    wpAny (model X.prog X.w) A (delItem (.ref a) u) Q E s := by
  obtain ⟨z, hd, vs, rel, dd⟩ := dk_of I.hok e
  refine wpAny_delItem_slot dd.typeIs (by decide) PySem.F.slot_dict_delitem
    (call_meetsIn PySem.F.slot_dict_delitem dd.typeIs PySem.F.entry_dict_delitem (PySem.F.args_dict_delitem_2 _ _) (meets_dict_delitem_pairs (mixKind X.prog X.w) a (kV_is ry)) ⟨vs, dd, by rw [← rel.length]; exact z, by rw [← (rel.val k).isSome_eq]; exact l, fun h' dd' hs => h _ ?_⟩)
  have he : ∃ q, h'.get? a = some q := let ⟨q, _, _, hq, _⟩ := dd'; ⟨q, hq⟩
  exact d_write I (by rw [e]; exact True.intro) hs he (dk_new (Nat.le_trans (dropK_le kvs k) z) hd (rel.drop k) dd')
theorem d_pop {v : V} {more : List Value} {Q : Value → Shared → Prop} (I : Inv X pins σ H s) (e : H a = some (.dK kvs)) (ry : RelV (kV k) u) (l : valV kvs k = some v) (hm : more = [] ∨ ∃ x, more = [x])
    (h : ∀ w' s', Inv X pins σ (upd H a (.dK (dropK kvs k))) s' → RelV v w' → Q w' s') : wpAny (model X.prog X.w) A (call (.builtin "dict.pop") (.ref a :: u :: more)) Q E s := by
  obtain ⟨z, hd, vs, rel, dd⟩ := dk_of I.hok e
  obtain ⟨w', hw, rw'⟩ := RelO.some_of (v := v) (o := valueAt vs k) (by rw [← l]; exact rel.val k)
  have hp : (keyPart u).isSome = true := by
    cases k with
    | inl i => obtain ⟨t, q⟩ := (show ∃ t, u = Value.int i t from ry); subst q; rfl
    | inr x => obtain ⟨t, q⟩ := (show ∃ t, u = Value.str x t from ry); subst q; rfl
  have ha : argsOk "dict.pop" ⟨.ref a :: u :: more, []⟩ := by
    rcases hm with q | ⟨x, q⟩
    · subst q; exact PySem.F.args_dict_pop_2 _ _
    · subst q; exact PySem.F.args_dict_pop_3 _ _ _
  refine call_meetsIn PySem.F.slot_dict_pop dd.typeIs PySem.F.entry_dict_pop ha (meets_dict_pop_there (mixKind X.prog X.w) a (kV_is ry) more hm hp)
    ⟨vs, w', dd, by rw [← rel.length]; exact z, hw, fun h' dd' hs => h w' _ ?_ rw'⟩
  have he : ∃ q, h'.get? a = some q := let ⟨q, _, _, hq, _⟩ := dd'; ⟨q, hq⟩
  exact d_write I (by rw [e]; exact True.intro) hs he (dk_new (Nat.le_trans (dropK_le kvs k) z) hd (rel.drop k) dd')
theorem d_popD {r : Value} {Q : Value → Shared → Prop} (I : Inv X pins σ H s) (e : H a = some (.dK kvs)) (ry : RelV (kV k) u) (l : valV kvs k = none) (h : ∀ s', Inv X pins σ H s' → Q r s') :
    wpAny (model X.prog X.w) A (call (.builtin "dict.pop") [.ref a, u, r]) Q E s := by
  obtain ⟨z, hd, vs, rel, dd⟩ := dk_of I.hok e
  have hn : valueAt vs k = none := RelO.none_of (by rw [← l]; exact rel.val k)
  have hp : (keyPart u).isSome = true := by
    cases k with
    | inl i => obtain ⟨t, q⟩ := (show ∃ t, u = Value.int i t from ry); subst q; rfl
    | inr x => obtain ⟨t, q⟩ := (show ∃ t, u = Value.str x t from ry); subst q; rfl
  exact call_meetsIn PySem.F.slot_dict_pop dd.typeIs PySem.F.entry_dict_pop (PySem.F.args_dict_pop_3 _ _ _) (meets_dict_pop_default (mixKind X.prog X.w) a (kV_is ry) hd hp r) ⟨vs, dd, hn, h _ (I.tok _)⟩
end


def NoSl (i : Expr) : Prop := ∀ ov iv, subscripted i false ov iv = operate [ov, iv] (getItem ov iv)
theorem subD_of {prog : Program} {w : World} {A : Around} {E : Value → Shared → Prop} {s : Shared} {env : Env} {value slice : Expr} {pos : Pos} {T id : String} {Q : Value → Shared → Prop}
    (hl : typeLookup (.type T) "__getitem__" = pure (some (.builtin id))) (hs : NoSl slice)
    (h : wpAny (model prog w) A (eval value env) (fun o s₁ => wpAny (model prog w) A (eval slice env) (fun i s₂ => s₂.TypeIs o T ∧ wpAny (model prog w) A (getItem o i) Q E s₂) E s₁) E s) :
    wpAny (model prog w) A (eval (.Subscript value slice pos) env) Q E s := by
  refine Subscript_ (wpAny_mono h (fun o s₁ h₁ => wpAny_mono h₁ (fun i s₂ h₂ => ?_) fun _ _ x => x) fun _ _ x => x)
  obtain ⟨hT, h₂⟩ := h₂
  unfold subscriptTail
  refine wpAny_bind ?_
  rw [getitemInPython_of_ne hT.not_modules]
  refine wpAny_bind (wpAny_specialOf hT hl ?_)
  have fin : wpAny (model prog w) A (subscripted slice false o i) (fun r s₃ => wpAny (model prog w) A (letTemporaryGo value o r >>= fun _ => pure r) Q E s₃) E s₂ := by
    rw [hs o i]
    exact wpAny_operating (wpAny_mono h₂ (fun r s₃ h₃ => wpAny_bind (wpAny_letTemporaryGo (wpAny_pure h₃))) fun _ _ x => x)
  first
    | exact wpAny_pure (wpAny_bind fin)
    | exact wpAny_bind (wpAny_pure (wpAny_bind fin))
    | exact wpAny_bind fin

theorem dict_typeIs {X : Cx} {pins : List (Addr × Obj)} {σ : St} {H : Hp} {s : Shared} {a : Addr} {y : V} {o : Option V} (I : Inv X pins σ H s) (g : DGet H a y o) : s.TypeIs (.ref a) "dict" := by
  rcases g with ⟨kvs, k, e, _, _⟩ | ⟨kvs, k, b, e, _, _, _⟩
  · obtain ⟨_, _, vs, _, dd⟩ := dk_rd I.hok e
    exact dd.typeIs
  · obtain ⟨_, _, xs, _, dd⟩ := dt_rd I.hok e
    exact dd.typeIs
def tDGet (td ty : TE) : TE := fun σ H Q => td σ H fun x H1 => ty σ H1 fun y H2 => ∃ a v, x = .ref a ∧ DGet H2 a y (some v) ∧ Q v H2
def tDIn (ty td : TE) : TE := fun σ H Q => ty σ H fun y H1 => td σ H1 fun x H2 => ∃ a o, x = .ref a ∧ DGet H2 a y o ∧ Q (.bl o.isSome) H2
def tDNotIn (ty td : TE) : TE := fun σ H Q => ty σ H fun y H1 => td σ H1 fun x H2 => ∃ a o, x = .ref a ∧ DGet H2 a y o ∧ Q (.bl (!o.isSome)) H2
def sDPut (td ty tv : TE) : TS := fun D σ H => tv σ H fun v H1 => td σ H1 fun x H2 => ty σ H2 fun y H3 => ∃ a H4, x = .ref a ∧ DPut H3 a y v H4 ∧ D.nx σ H4
def sDDel (td ty : TE) : TS := fun D σ H => td σ H fun x H1 => ty σ H1 fun y H2 => ∃ a kvs k, x = .ref a ∧ H2 a = some (.dK kvs) ∧ y = kV k ∧ (valV kvs k).isSome = true ∧ D.nx σ (upd H2 a (.dK (dropK kvs k)))

section
variable {X : Cx} {o i e value : Expr} {pos pos' tpos : Pos} {td ty tv : TE}
theorem pe_dget (hu : X.A.units + 1 < cLine) (ho : PE X o td) (hi : PE X i ty) (hs : NoSl i) : PE X (.Subscript o i pos) (tDGet td ty) := by
  intro pins s σ H Q I h
  refine subD_of PySem.F.slot_dict_getitem.lookup hs (thn (ho pins s σ H _ I h) fun u s1 ⟨x, H1, I1, rx, q1⟩ => thn (hi pins s1 σ H1 _ I1 q1) fun iv s2 ⟨y, H2, I2, ry, a, v, ex, g, q2⟩ => ?_)
  subst ex
  obtain rfl : u = Value.ref a := rx
  exact ⟨dict_typeIs I2 g, d_getItem hu I2 g ry fun w' s3 I3 rw' => ⟨v, H2, I3, rw', q2⟩⟩
theorem pc_din (hu : X.A.units + 1 < cLine) (hi : PE X i ty) (ho : PE X o td) : PC X .In i o (tDIn ty td) := by
  intro pins s σ H Q I h
  refine thn (hi pins s σ H _ I h) fun iv s1 ⟨y, H1, I1, ry, q1⟩ => thn (ho pins s1 σ H1 _ I1 q1) fun u s2 ⟨x, H2, I2, rx, a, ov, ex, g, q2⟩ => ?_
  subst ex
  obtain rfl : u = Value.ref a := rx
  exact d_in hu I2 g ry fun s3 I3 => ⟨.bl ov.isSome, H2, I3, rfl, q2⟩
theorem pc_dnotin (hu : X.A.units + 1 < cLine) (hi : PE X i ty) (ho : PE X o td) : PC X .NotIn i o (tDNotIn ty td) := by
  intro pins s σ H Q I h
  refine thn (hi pins s σ H _ I h) fun iv s1 ⟨y, H1, I1, ry, q1⟩ => thn (ho pins s1 σ H1 _ I1 q1) fun u s2 ⟨x, H2, I2, rx, a, ov, ex, g, q2⟩ => ?_
  subst ex
  obtain rfl : u = Value.ref a := rx
  exact d_notIn hu I2 g ry fun s3 I3 => ⟨.bl (!ov.isSome), H2, I3, rfl, q2⟩
theorem ps_dput (hu : X.A.units + 1 < cLine) (ho : PE X o td) (hi : PE X i ty) (hv : PE X value tv) (hs : swapsWith value (some (.Subscript o i pos')) pos.line X.env = pure false) :
    PS X (.Assign [.Subscript o i pos'] value pos) (sDPut td ty tv) := by
  intro pins s σ H D I h
  refine wpAny_Assign_Subscript (thn (hv pins s σ H _ I h) fun r s1 ⟨v, H1, I1, rv, q1⟩ => thn (ho pins s1 σ H1 _ I1 q1) fun u s2 ⟨x, H2, I2, rx, q2⟩ => thn (hi pins s2 σ H2 _ I2 q2) fun iv s3 ⟨y, H3, I3, ry, a, H4, ex, g, q3⟩ => ?_) hs
  subst ex
  obtain rfl : u = Value.ref a := rx
  exact d_setItem hu I3 g ry rv fun s4 I4 => ⟨σ, H4, I4, q3⟩
theorem ps_ddel (ho : PE X o td) (hi : PE X i ty) : PS X (.Delete [.Subscript o i tpos] pos) (sDDel td ty) := by
  intro pins s σ H D I h
  refine wpAny_Delete (wpAny_deleteEach_cons (wpAny_delete_Subscript (thn (ho pins s σ H _ I h) fun u s1 ⟨x, H1, I1, rx, q1⟩ => thn (hi pins s1 σ H1 _ I1 q1) fun iv s2 ⟨y, H2, I2, ry, a, kvs, k, ex, e, ey, l, q2⟩ => ?_)))
  subst ex ey
  obtain rfl : u = Value.ref a := rx
  exact d_delItem I2 e ry l fun s3 I3 => wpAny_deleteEach_nil ⟨σ, _, I3, q2⟩
end


theorem dk_empty {P : Program} {w : World} {H : Hp} (h : Heap) (hb : sysModules < h.objs.size) : ObjOk P w H (h.push { cls := .type "dict", data := .dict #[] }) h.objs.size (.dK []) :=
  ⟨Nat.zero_le _, beq_eq_false_iff_ne.mpr (Ne.symm (Nat.ne_of_lt hb)), [], .nil, Heap.DictOf.new h⟩
theorem dt_empty {P : Program} {w : World} {H : Hp} (h : Heap) (hb : sysModules < h.objs.size) : ObjOk P w H (h.push { cls := .type "dict", data := .dict #[] }) h.objs.size (.dT []) :=
  ⟨Nat.zero_le _, beq_eq_false_iff_ne.mpr (Ne.symm (Nat.ne_of_lt hb)), [], .nil, _, #[], 0, Heap.get?_push_size _ rfl, ⟨rfl, rfl, rfl⟩, rfl, rfl, List.nodup_nil⟩
def tDNewK : TE := fun _ H Q => ∀ p, H p = none → Q (.ref p) (upd H p (.dK []))
def tDNewT : TE := fun _ H Q => ∀ p, H p = none → Q (.ref p) (upd H p (.dT []))
section
variable {X : Cx} {pos : Pos}
theorem pe_dnewK : PE X (.Dict [] [] pos) tDNewK := fun pins s σ H Q I h =>
  wpAny_Dict_empty ⟨.ref s.heap.objs.size, _, I.laid (a := s.heap.objs.size) (o := .dK []) (t' := s.toks) (fun _ _ q => Heap.get?_push_of_some _ q) (Nat.le_refl _) (dk_empty s.heap I.big), rfl, h _ (I.hok.fresh (Nat.le_refl _))⟩
theorem pe_dnewT : PE X (.Dict [] [] pos) tDNewT := fun pins s σ H Q I h =>
  wpAny_Dict_empty ⟨.ref s.heap.objs.size, _, I.laid (a := s.heap.objs.size) (o := .dT []) (t' := s.toks) (fun _ _ q => Heap.get?_push_of_some _ q) (Nat.le_refl _) (dt_empty s.heap I.big), rfl, h _ (I.hok.fresh (Nat.le_refl _))⟩
end

structure M1 (X : Cx) (o : Expr) (m : Str) (apos : Pos) (e : Expr) (cpos : Pos) : Prop where
  base : attributeBase o m X.env (eval o X.env) = eval o X.env
  few : ((backTo cpos (starEach [e] X.env)).all (fun x => !x.1) && (backToKw cpos (keywordEach [] X.env)).all (fun x => x.1.isSome)
    && decide (([e] : List Expr).length + ([] : List Keyword).length + (if ([] : List Keyword).isEmpty then 0 else 1) < 30)) = true
  line : (apos.endLine == cpos.line) = true
  trees : backTo cpos (starEach [e] X.env) = [(false, eval e X.env)]
structure M2 (X : Cx) (o : Expr) (m : Str) (apos : Pos) (e f : Expr) (cpos : Pos) : Prop where
  base : attributeBase o m X.env (eval o X.env) = eval o X.env
  few : ((backTo cpos (starEach [e, f] X.env)).all (fun x => !x.1) && (backToKw cpos (keywordEach [] X.env)).all (fun x => x.1.isSome)
    && decide (([e, f] : List Expr).length + ([] : List Keyword).length + (if ([] : List Keyword).isEmpty then 0 else 1) < 30)) = true
  line : (apos.endLine == cpos.line) = true
  trees : backTo cpos (starEach [e, f] X.env) = [(false, eval e X.env), (false, eval f X.env)]

def IsD (H : Hp) (a : Addr) : Prop := (∃ kvs, Rd H a (.dK kvs)) ∨ ∃ kvs, Rd H a (.dT kvs)
theorem isD_at {X : Cx} {pins : List (Addr × Obj)} {σ : St} {H : Hp} {s : Shared} {a : Addr} (I : Inv X pins σ H s) (d : IsD H a) :
    s.TypeIs (.ref a) "dict" ∧ (∀ b, Value.ref a = .ref b → ∃ ob, s.heap.get? b = some ob ∧ ob.dict = none) ∧ (a == sysModules) = false := by
  rcases d with ⟨kvs, e⟩ | ⟨kvs, e⟩
  · obtain ⟨_, hd, vs, _, dd⟩ := dk_rd I.hok e
    refine ⟨dd.typeIs, fun b q => ?_, hd⟩
    cases q
    obtain ⟨ob, _, _, h1, h2, _⟩ := dd
    exact ⟨ob, h1, h2.2.1⟩
  · obtain ⟨_, hd, xs, _, dd⟩ := dt_rd I.hok e
    refine ⟨dd.typeIs, fun b q => ?_, hd⟩
    cases q
    obtain ⟨ob, _, _, h1, h2, _⟩ := dd
    exact ⟨ob, h1, h2.2.1⟩

section
variable {X : Cx} {pins : List (Addr × Obj)} {σ : St} {H : Hp} {s : Shared} {a : Addr} {y d : V} {u r : Value} {o : Option V} {A : Around} {E : Value → Shared → Prop}
theorem d_get1 {Q : Value → Shared → Prop} (hu : A.units + 1 < cLine) (I : Inv X pins σ H s) (g : DGet H a y o) (ry : RelV y u) (h : ∀ w' s', Inv X pins σ H s' → RelV (o.getD .non) w' → Q w' s') :
    wpAny (model X.prog X.w) A (call (.builtin "dict.get") [.ref a, u]) Q E s := by
  rcases g with ⟨kvs, k, e, ey, l⟩ | ⟨kvs, k, b, e, ey, eb, l⟩
  · subst ey
    obtain ⟨z, hd, vs, rel, dd⟩ := dk_rd I.hok e
    refine call_meetsIn PySem.F.slot_dict_get dd.typeIs PySem.F.entry_dict_get (PySem.F.args_dict_get_2 _ _) (meets_dict_get (mixKind X.prog X.w) a (kV_is ry) hd) ⟨_, dd.mapOf, h _ _ (I.tok _) ?_⟩
    rw [l]
    exact (rel.val k).getD rfl
  · subst ey
    cases (show u = Value.ref b from ry)
    obtain ⟨z, hd, xs, rel, dd⟩ := dt_rd I.hok e
    refine call_meetsIn PySem.F.slot_dict_get dd.typeIs PySem.F.entry_dict_get (PySem.F.args_dict_get_2 _ _) (meetsH_dict_get (tupleKind (mixKind X.prog X.w)) a b hd) ⟨tupleKind_room_in1 hu, k, xs, key_of I.hok eb, dd, h _ _ (I.tok _) ?_⟩
    rw [l]
    exact (rel.val k).getD rfl
end

def tDGet1 (td ty : TE) : TE := fun σ H Q => td σ H fun x H1 => ∃ a, x = .ref a ∧ IsD H1 a ∧ ty σ H1 fun y H2 => ∃ o, DGet H2 a y o ∧ Q (o.getD .non) H2
def tDPop2 (td ty tx : TE) : TE := fun σ H Q => td σ H fun x H1 => ∃ a, x = .ref a ∧ IsD H1 a ∧ ty σ H1 fun y H2 => tx σ H2 fun z H3 => ∃ kvs k, H3 a = some (.dK kvs) ∧ y = kV k ∧
  (∀ v, valV kvs k = some v → Q v (upd H3 a (.dK (dropK kvs k)))) ∧ (valV kvs k = none → Q z H3)
section
variable {X : Cx} {o e f : Expr} {apos cpos : Pos} {td ty tx : TE}
theorem pe_dget1 (hu : X.A.units + 1 < cLine) (ho : PE X o td) (he : PE X e ty) (m : M1 X o "get" apos e cpos) : PE X (.Call (.Attribute o "get" apos) [e] [] cpos) (tDGet1 td ty) := by
  intro pins s σ H Q I h
  refine wpAny_Call_method m.base m.few m.line PySem.F.plainAttrs_dict PySem.F.slot_dict_get PySem.F.type_dict_get (thn (ho pins s σ H _ I h) fun u s1 ⟨x, H1, I1, rx, a, ex, d, q1⟩ => ?_)
  subst ex
  obtain rfl : u = Value.ref a := rx
  obtain ⟨t1, t2, _⟩ := isD_at I1 d
  refine ⟨t1, t2, ?_⟩
  rw [m.trees]
  refine Calls.callWith_builtin rfl (Calls.evalArgs_plain (Calls.spliced_cons (thn (he pins s1 σ H1 _ I1 q1) fun iv s2 ⟨y, H2, I2, ry, ov, g, q2⟩ => Calls.spliced_nil ?_)))
  exact d_get1 hu I2 g ry fun w' s3 I3 rw' => ⟨_, H2, I3, rw', q2⟩
theorem pe_dpop2 (ho : PE X o td) (he : PE X e ty) (hf : PE X f tx) (m : M2 X o "pop" apos e f cpos) : PE X (.Call (.Attribute o "pop" apos) [e, f] [] cpos) (tDPop2 td ty tx) := by
  intro pins s σ H Q I h
  refine wpAny_Call_method m.base m.few m.line PySem.F.plainAttrs_dict PySem.F.slot_dict_pop PySem.F.type_dict_pop (thn (ho pins s σ H _ I h) fun u s1 ⟨x, H1, I1, rx, a, ex, d, q1⟩ => ?_)
  subst ex
  obtain rfl : u = Value.ref a := rx
  obtain ⟨t1, t2, _⟩ := isD_at I1 d
  refine ⟨t1, t2, ?_⟩
  rw [m.trees]
  refine Calls.callWith_builtin rfl (Calls.evalArgs_plain (Calls.spliced_cons (thn (he pins s1 σ H1 _ I1 q1) fun iv s2 ⟨y, H2, I2, ry, q2⟩ =>
    Calls.spliced_cons (thn (hf pins s2 σ H2 _ I2 q2) fun fv s3 ⟨z, H3, I3, rz, kvs, k, ea, ey, q3, q4⟩ => Calls.spliced_nil ?_))))
  subst ey
  cases l : valV kvs k with
  | some v => exact d_pop I3 ea ry l (.inr ⟨fv, rfl⟩) fun w' s4 I4 rw' => ⟨v, _, I4, rw', q3 v l⟩
  | none => exact d_popD I3 ea ry l fun s4 I4 => ⟨z, H3, I4, rz, q4 l⟩
end

section
variable {X : Cx} {pins : List (Addr × Obj)} {σ : St} {H : Hp} {s : Shared} {a : Addr} {kvs : List (Key × V)} {A : Around} {E : Value → Shared → Prop}
end


section
variable {X : Cx} {pins : List (Addr × Obj)} {σ : St} {H : Hp} {s : Shared} {a : Addr} {y : V} {u : Value} {A : Around} {E : Value → Shared → Prop}
end
end L2

namespace HT
open PySem PyProof.Rows

section
open PySem.SeqAt
open PySem.AutoSeq1 (wpAny_loadPart')
open PySem.MeetsSeq PySem.MeetsSeq2 PySem.MeetsSeq3

end

section
variable {prog : Program} {w : World} {A : Around} {E : Value → Shared → Prop} {s : Shared}

def sIx (n d : Nat) : Option Int → Nat
  | none => d
  | some v => if v < 0 then (v + (n : Int)).toNat else min v.toNat n
end
end HT

namespace L2
open PySem PySem.Spec PyProof.Rows

abbrev TO := St → Hp → (Option Int → Hp → Prop) → Prop
def PO (X : Cx) (e : Option Expr) (t : TO) : Prop :=
  ∀ (pins : List (Addr × Obj)) (s : Shared) (σ : St) (H : Hp) (Q : Option Int → Hp → Prop), Inv X pins σ H s → t σ H Q →
    wpAny (model X.prog X.w) X.A (evalPart e X.env) (fun u s' => ∃ o H', Inv X pins σ H' s' ∧ IsPart u o ∧ Q o H') X.xe s
def tNoPart : TO := fun _ H Q => Q none H
def tPart (t : TE) : TO := fun σ H Q => t σ H fun x H1 => ∃ i, x = .int i ∧ Q (some i) H1

section
variable {X : Cx} {e : Expr} {te : TE} {lo hi : Option Expr} {tl th : TO} {pos p2 : Pos}

theorem po_none : PO X none tNoPart := by
  intro pins s σ H Q I h
  rw [evalPart_none]
  exact wpAny_pure ⟨none, H, I, .none, h⟩
theorem po_some (h : PE X e te) : PO X (some e) (tPart te) := by
  intro pins s σ H Q I hw
  rw [evalPart_some]
  refine thn (h pins s σ H _ I hw) fun u s1 ⟨x, H1, I1, r1, q1⟩ => ?_
  obtain ⟨i, rfl, q⟩ := q1
  obtain ⟨t, rfl⟩ := r1
  exact ⟨some i, H1, I1, .int i t, q⟩

def SlR (X : Cx) (r : V → Option Int → Option Int → Hp → VK → Prop) : Prop :=
  ∀ (pins : List (Addr × Obj)) (s : Shared) (σ : St) (H : Hp) (x : V) (v vl vu : Value) (lo hi : Option Int) (sl : Addr) (Q : VK), Inv X pins σ H s → RelV x v → s.heap.IsSliceOf sl vl vu .none → IsPart vl lo → IsPart vu hi → r x lo hi H Q →
    ∃ T id, typeLookup (.type T) "__getitem__" = pure (some (.builtin id)) ∧ s.TypeIs v T ∧ wpAny (model X.prog X.w) X.A (getItem v (.ref sl)) (EP X pins σ Q) X.xe s
theorem SlR.or {r r' : V → Option Int → Option Int → Hp → VK → Prop} (h : SlR X r) (h' : SlR X r') : SlR X (fun x lo hi H Q => r x lo hi H Q ∨ r' x lo hi H Q) := by
  intro pins s σ H x v vl vu lo hi sl Q I rx hs pl pu q
  rcases q with q | q
  · exact h pins s σ H x v vl vu lo hi sl Q I rx hs pl pu q
  · exact h' pins s σ H x v vl vu lo hi sl Q I rx hs pl pu q
def tSl (r : V → Option Int → Option Int → Hp → VK → Prop) (te : TE) (tl th : TO) : TE := fun σ H Q => te σ H fun x H1 => tl σ H1 fun l H2 => th σ H2 fun u H3 => r x l u H3 Q
theorem pe_slice {r : V → Option Int → Option Int → Hp → VK → Prop} (hr : SlR X r) (he : PE X e te) (hl : PO X lo tl) (hu : PO X hi th) : PE X (.Subscript e (.Slice lo hi none p2) pos) (tSl r te tl th) := by
  intro pins s σ H Q I h
  refine Subscript_ (thn (he pins s σ H _ I h) fun v s1 ⟨x, H1, I1, r1, q1⟩ => ?_)
  refine wpAny_Slice (thn (hl pins s1 σ H1 _ I1 q1) fun vl s2 ⟨l, H2, I2, pl, q2⟩ => thn (hu pins s2 σ H2 _ I2 q2) fun vu s3 ⟨u, H3, I3, pu, q3⟩ => ?_)
  rw [evalPart_none]
  refine wpAny_pure ?_
  have I4 : Inv X pins σ H3 { s3 with heap := s3.heap.push { cls := .type "slice", data := .fields #[vl, vu, .none] } } := I3.kept (t' := s3.toks) fun b ob q => Heap.get?_push_of_some _ q
  obtain ⟨T, id, hT, ht, hg⟩ := hr pins { s3 with heap := s3.heap.push { cls := .type "slice", data := .fields #[vl, vu, .none] } } σ H3 x v vl vu l u s3.heap.objs.size Q I4 r1 (Heap.IsSliceOf.new ..) pl pu q3
  show wpAny (model X.prog X.w) X.A (subscriptTail e (.Slice lo hi none p2) v (.ref s3.heap.objs.size)) (EP X pins σ Q) X.xe { s3 with heap := s3.heap.push { cls := .type "slice", data := .fields #[vl, vu, .none] } }
  exact tail_any (ops := [.ref s3.heap.objs.size, v]) ht hT hg (by with_unfolding_all rfl)

def cutV (xs : List V) (lo hi : Option Int) : List V := (xs.drop (HT.sIx xs.length 0 lo)).take (HT.sIx xs.length xs.length hi - HT.sIx xs.length 0 lo)
theorem cutV_length (xs : List V) (lo hi : Option Int) : (cutV xs lo hi).length ≤ xs.length := by
  unfold cutV
  rw [List.length_take, List.length_drop]
  omega
end
end L2

namespace L2
open PySem PySem.Spec PyProof.Rows

def ixN (n : Nat) (i : Int) : Option Nat := if 0 ≤ i then (if i < n then some i.toNat else none) else if -(n : Int) ≤ i then some (i + n).toNat else none
def atI {α : Type} (xs : List α) (i : Int) : Option α := (ixN xs.length i).bind fun j => xs[j]?
theorem ixN_seq {n : Nat} {i : Int} {j : Nat} (h : ixN n i = some j) : seqIndex? i n = some j ∧ j < n ∧ -(n : Int) ≤ i ∧ i < n := by
  unfold ixN at h
  by_cases h0 : 0 ≤ i
  · rw [if_pos h0] at h
    by_cases h1 : i < n
    · rw [if_pos h1] at h
      have e : i.toNat = j := Option.some.inj h
      exact ⟨by rw [seqIndex_of h0 h1, e], by omega, by omega, h1⟩
    · rw [if_neg h1] at h; cases h
  · rw [if_neg h0] at h
    by_cases h1 : -(n : Int) ≤ i
    · rw [if_pos h1] at h
      have e : (i + n).toNat = j := Option.some.inj h
      exact ⟨by rw [seqIndex_neg (by omega) h1, e], by omega, h1, by omega⟩
    · rw [if_neg h1] at h; cases h
theorem atI_get {α : Type} {xs : List α} {i : Int} {v : α} (h : atI xs i = some v) : ∃ j, seqIndex? i xs.length = some j ∧ xs[j]? = some v ∧ j < xs.length ∧ -(xs.length : Int) ≤ i ∧ i < xs.length := by
  unfold atI at h
  cases e : ixN xs.length i with
  | none => rw [e] at h; cases h
  | some j =>
    rw [e] at h
    obtain ⟨h1, h2, h3, h4⟩ := ixN_seq e
    exact ⟨j, h1, h, h2, h3, h4⟩
theorem atI_nat {α : Type} {xs : List α} {j : Nat} {v : α} (h : xs[j]? = some v) : atI xs (j : Int) = some v := by
  have hj : j < xs.length := (List.getElem?_eq_some_iff.mp h).1
  have e : ixN xs.length (j : Int) = some j := by
    unfold ixN
    rw [if_pos (by omega), if_pos (by omega)]; simp
  unfold atI; rw [e]; exact h
def PlainIx (b : Expr) : Prop := ∀ o i, subscripted b false o i = operate [o, i] (getItem o i)
def IxR (X : Cx) (r : R2) : Prop :=
  ∀ (value slice : Expr) (pins : List (Addr × Obj)) (s : Shared) (σ : St) (H : Hp) (x y : V) (v u : Value) (Q : VK), Inv X pins σ H s → RelV x v → RelV y u → r x y H Q →
    subscripted slice false v u = operate [v, u] (getItem v u) → wpAny (model X.prog X.w) X.A (subscriptTail value slice v u) (EP X pins σ Q) X.xe s
def MtR (X : Cx) (id : String) (r : V → List V → Hp → VK → Prop) : Prop :=
  ∀ (pins : List (Addr × Obj)) (s : Shared) (σ : St) (H : Hp) (x : V) (xs : List V) (v : Value) (us : List Value) (Q : VK), Inv X pins σ H s → RelV x v → Vals xs us → r x xs H Q →
    wpAny (model X.prog X.w) X.A (call (.builtin id) (v :: us)) (EP X pins σ Q) X.xe s
section
variable {X : Cx} {a b : Expr} {ta tb : TE} {pos : Pos}
theorem IxR.or {r r' : R2} (h : IxR X r) (h' : IxR X r') : IxR X (fun x y H Q => r x y H Q ∨ r' x y H Q) := by
  intro value slice pins s σ H x y v u Q I rx ry q hs
  rcases q with q | q
  · exact h value slice pins s σ H x y v u Q I rx ry q hs
  · exact h' value slice pins s σ H x y v u Q I rx ry q hs
theorem MtR.or {id : String} {r r' : V → List V → Hp → VK → Prop} (h : MtR X id r) (h' : MtR X id r') : MtR X id (fun x xs H Q => r x xs H Q ∨ r' x xs H Q) := by
  intro pins s σ H x xs v us Q I rx rs q
  rcases q with q | q
  · exact h pins s σ H x xs v us Q I rx rs q
  · exact h' pins s σ H x xs v us Q I rx rs q
theorem pe_ix {r : R2} (hr : IxR X r) (ha : PE X a ta) (hb : PE X b tb) (hs : PlainIx b) : PE X (.Subscript a b pos) (tOp r ta tb) := by
  intro pins s σ H Q I h
  exact Subscript_ (binT ha hb I h fun v u s2 x y H2 I2 rx ry q => hr a b pins s2 σ H2 x y v u Q I2 rx ry q (hs _ _))

def rIxL (K : PySem.W.Frag) : R2 := fun x y H Q => ∃ p xs i v, x = .ref p ∧ y = .int i ∧ SqL K H p xs ∧ atI xs i = some v ∧ Q v H
def rIxT (K : PySem.W.Frag) : R2 := fun x y H Q => ∃ p xs i v, x = .ref p ∧ y = .int i ∧ SqT K H p xs ∧ atI xs i = some v ∧ Q v H
theorem ix_list : IxR X (rIxL X.K) := by
  intro value slice pins s σ H x y v u Q I rx ry h hs
  obtain ⟨p, xs, i, z, rfl, rfl, hq, he, q⟩ := h
  cases rx
  obtain ⟨t, rfl⟩ := ry
  obtain ⟨its, r, pl, hz⟩ := I.list hq
  obtain ⟨j, h1, h2, h3, h4, h5⟩ := atI_get he
  obtain ⟨w, ew, rw'⟩ := r.get h2
  have hl := r.length
  have hn := line63
  have fin : EP X pins σ Q w s := ⟨z, H, I, rw', q⟩
  by_cases h0 : 0 ≤ i
  · have hj : i.toNat = j := by
      rw [seqIndex_of h0 h5] at h1
      exact Option.some.inj h1
    exact item_listR pl.isList h0 (by omega) (by rw [hj]; simpa using ew) fin hs
  · have hj : (i + (its.toArray.size : Int)).toNat = j := by
      rw [seqIndex_neg (by omega) h4] at h1
      rw [List.size_toArray, ← hl]
      exact Option.some.inj h1
    exact subscriptTail_builtinR (x := w) pl.isList.typeIs slot_list_getitem.lookup
      (wpAny_getItem_list_neg (Q := fun r s' => r = w ∧ EP X pins σ Q r s') pl.isList (by omega) (by rw [List.size_toArray] <;> omega) (by omega) (by rw [hj]; simpa using ew) ⟨rfl, fin⟩) hs
theorem ix_tup : IxR X (rIxT X.K) := by
  intro value slice pins s σ H x y v u Q I rx ry h hs
  obtain ⟨p, xs, i, z, rfl, rfl, hq, he, q⟩ := h
  cases rx
  obtain ⟨t, rfl⟩ := ry
  obtain ⟨its, r, pl, hz⟩ := I.tuple hq
  obtain ⟨j, h1, h2, h3, h4, h5⟩ := atI_get he
  obtain ⟨w, ew, rw'⟩ := r.get h2
  have hl := r.length
  have hn := line63
  have fin : EP X pins σ Q w s := ⟨z, H, I, rw', q⟩
  exact subscriptTail_builtinR (x := w) pl.typeIs slot_tuple_getitem.lookup
    (getItem_tuple (j := j) (Q := fun r s' => r = w ∧ EP X pins σ Q r s') pl (by omega) (by omega) (by rw [List.size_toArray, ← hl]; exact h1) (by simpa using ew) ⟨rfl, fin⟩) hs
theorem Inv.lst {pins : List (Addr × Obj)} {σ : St} {H : Hp} {s : Shared} {p : Addr} {xs : List V} (I : Inv X pins σ H s) (h : H p = some (.lst xs)) :
    ∃ (its : List Value) (n : Nat), Vals xs its ∧ s.heap.get? p = some { cls := .type "list", data := .seq its.toArray n } ∧ xs.length ≤ sizeLine := by
  obtain ⟨z, its, n, r, e⟩ := I.hok p _ h
  exact ⟨its, n, r, e, z⟩
theorem slice_bounds (lo hi : Option Int) (n : Nat) : (sliceBounds lo hi none n).1 = ((HT.sIx n 0 lo : Nat) : Int) ∧ (sliceBounds lo hi none n).2.1 = ((HT.sIx n n hi : Nat) : Int) ∧ (sliceBounds lo hi none n).2.2 = 1 := by
  refine ⟨?_, ?_, rfl⟩
  · cases lo with
    | none => simp [sliceBounds, HT.sIx]
    | some i =>
      simp only [sliceBounds, HT.sIx, Option.getD_none, show (1 : Int) > 0 by decide, if_true]
      by_cases h : i < 0
      · simp only [h, if_true] <;> omega
      · simp only [h, if_false] <;> omega
  · cases hi with
    | none => simp [sliceBounds, HT.sIx]
    | some i =>
      simp only [sliceBounds, HT.sIx, Option.getD_none, show (1 : Int) > 0 by decide, if_true]
      by_cases h : i < 0
      · simp only [h, if_true] <;> omega
      · simp only [h, if_false] <;> omega
theorem slicePick_cut (its : List Value) (lo hi : Option Int) : slicePick its.toArray lo hi none = ((its.drop (HT.sIx its.length 0 lo)).take (HT.sIx its.length its.length hi - HT.sIx its.length 0 lo)).toArray := by
  obtain ⟨h1, h2, h3⟩ := slice_bounds lo hi its.toArray.size
  unfold slicePick
  rw [h1, h2, h3]
  simp only [sliceRange_one, pick_run, List.size_toArray] <;> rfl
def rSlL (K : PySem.W.Frag) : V → Option Int → Option Int → Hp → VK → Prop := fun x lo hi H Q => ∃ a xs, x = .ref a ∧ SqL K H a xs ∧ ∀ p, H p = none → Q (.ref p) (upd H p (.lst (cutV xs lo hi)))
theorem sl_list : SlR X (rSlL X.K) := by
  intro pins s σ H x v vl vu lo hi sl Q I rx hs pl pu h
  obtain ⟨a, xs, rfl, hx, q⟩ := h
  cases rx
  obtain ⟨its, r, ht, hz⟩ := I.list hx
  have hlen := r.length
  refine ⟨"list", _, slot_list_getitem.lookup, ht.isList.typeIs, ?_⟩
  refine wpAny_getItem_list_slice ht.isList hs pl pu .none (by simp) ?_ (by rw [List.size_toArray] <;> omega)
  rw [slicePick_cut, ← hlen]
  refine ⟨.ref s.heap.objs.size, _, I.laid (t' := s.toks) (o := .lst (cutV xs lo hi)) (fun b ob q => Heap.get?_push_of_some _ q) (Nat.le_refl _) ?_, rfl, q _ (I.hok.fresh (Nat.le_refl _))⟩
  exact ⟨Nat.le_trans (cutV_length xs lo hi) hz, _, 0, (r.drop (HT.sIx xs.length 0 lo)).take (HT.sIx xs.length xs.length hi - HT.sIx xs.length 0 lo), Heap.get?_push_size _ rfl⟩

def flatV : V → Bool
  | .non => true
  | .bl _ => true
  | .int _ => true
  | .str _ => true
  | _ => false
def eqV : V → V → Bool
  | .non, .non => true
  | .bl a, .bl b => a == b
  | .bl a, .int b => (if a then 1 else 0) == b
  | .int a, .bl b => a == (if b then 1 else 0)
  | .int a, .int b => a == b
  | .str a, .str b => a == b
  | _, _ => false
theorem eqAt_V {A : Around} {s : Shared} {y x : V} {u v : Value} (ry : RelV y u) (rx : RelV x v) (fy : flatV y = true) (fx : flatV x = true) : SeqAt.EqAt A s u v (eqV y x) := by
  cases y with
  | non =>
    cases ry
    cases x with
    | non => cases rx; exact SeqAt.EqAt.same _
    | bl b => cases rx; exact SeqAt.EqAt.none_bool b
    | int b => obtain ⟨t, rfl⟩ := rx; exact SeqAt.EqAt.none_int b t
    | str b => obtain ⟨t, rfl⟩ := rx; exact SeqAt.EqAt.none_str b t
    | _ => exact absurd (show false = true from fx) Bool.false_ne_true
  | bl a =>
    cases ry
    cases x with
    | non => cases rx; exact SeqAt.EqAt.bool_none a
    | bl b => cases rx; exact SeqAt.EqAt.bool_bool a b
    | int b => obtain ⟨t, rfl⟩ := rx; exact SeqAt.EqAt.bool_int a b t
    | str b => obtain ⟨t, rfl⟩ := rx; exact SeqAt.EqAt.bool_str a b t
    | _ => exact absurd (show false = true from fx) Bool.false_ne_true
  | int a =>
    obtain ⟨t', rfl⟩ := ry
    cases x with
    | non => cases rx; exact SeqAt.EqAt.int_none a t'
    | bl b => cases rx; exact SeqAt.EqAt.int_bool a t' b
    | int b => obtain ⟨t, rfl⟩ := rx; exact SeqAt.EqAt.int_int a t' b t
    | str b => obtain ⟨t, rfl⟩ := rx; exact SeqAt.EqAt.int_str a t' b t
    | _ => exact absurd (show false = true from fx) Bool.false_ne_true
  | str a =>
    obtain ⟨t', rfl⟩ := ry
    cases x with
    | non => cases rx; exact SeqAt.EqAt.str_none a t'
    | bl b => cases rx; exact SeqAt.EqAt.str_bool a t' b
    | int b => obtain ⟨t, rfl⟩ := rx; exact SeqAt.EqAt.str_int a t' b t
    | str b => obtain ⟨t, rfl⟩ := rx; exact SeqAt.EqAt.str_str a t' b t
    | _ => exact absurd (show false = true from fx) Bool.false_ne_true
  | _ => exact absurd (show false = true from fy) Bool.false_ne_true
def eqU (x : V) (u : Value) : Bool := match u with
  | .none => eqV .non x
  | .bool b => eqV (.bl b) x
  | .int i _ => eqV (.int i) x
  | .str z _ => eqV (.str z) x
  | _ => false
theorem eqU_of {x y : V} {u : Value} (r : RelV y u) (f : flatV y = true) : eqU x u = eqV y x := by
  cases y with
  | non => cases r; rfl
  | bl b => cases r; rfl
  | int i => obtain ⟨t, rfl⟩ := r; rfl
  | str z => obtain ⟨t, rfl⟩ := r; rfl
  | _ => exact absurd (show false = true from f) Bool.false_ne_true
theorem any_eqU {x : V} : ∀ {xs : List V} {us : List Value}, Vals xs us → xs.all flatV = true → us.any (eqU x) = xs.any fun y => eqV y x
  | _, _, .nil, _ => rfl
  | y :: xs, u :: us, .cons r t, f => by
    rw [List.all_cons, Bool.and_eq_true] at f
    rw [List.any_cons, List.any_cons, eqU_of r f.1, any_eqU t f.2]
theorem mem_eqAt {A : Around} {s : Shared} {x : V} {v : Value} (rx : RelV x v) (fx : flatV x = true) : ∀ {xs : List V} {us : List Value}, Vals xs us → xs.all flatV = true → ∀ u ∈ us, SeqAt.EqAt A s u v (eqU x u)
  | _, _, .nil, _ => fun u hu => by cases hu
  | y :: xs, u :: us, .cons r t, f => fun u' hu => by
    rw [List.all_cons, Bool.and_eq_true] at f
    rcases List.mem_cons.mp hu with rfl | hu
    · rw [eqU_of r f.1]; exact eqAt_V r rx f.1 fx
    · exact mem_eqAt rx fx t f.2 u' hu
def inV (x : V) (xs : List V) : Bool := xs.any fun y => eqV y x
def rIn (K : PySem.W.Frag) (neg : Bool) : R2 := fun x y H Q => ∃ p xs, y = .ref p ∧ (SqL K H p xs ∨ SqT K H p xs) ∧ flatV x = true ∧ xs.all flatV = true ∧ Q (.bl (if neg then !inV x xs else inV x xs)) H
theorem op_in_seq : OpR X (compareOp .In) (rIn X.K false) := by
  intro pins s σ H x y v u Q I rx ry h
  obtain ⟨p, xs, rfl, hq, fx, fs, q⟩ := h
  cases ry
  rcases hq with hq | hq
  · obtain ⟨its, r, pl, hz⟩ := I.list hq
    refine SeqAt.in_listAt (eqU x) pl.isList (fun w hw => mem_eqAt rx fx r fs w (by simpa using hw)) ⟨.bl _, H, I, rfl, ?_⟩
    rw [show its.toArray.any (eqU x) = its.any (eqU x) by simp, any_eqU r fs]
    exact q
  · obtain ⟨its, r, pl, hz⟩ := I.tuple hq
    refine SeqAt.in_tupleAt (eqU x) pl (fun w hw => mem_eqAt rx fx r fs w (by simpa using hw)) ⟨.bl _, H, I, rfl, ?_⟩
    rw [show its.toArray.any (eqU x) = its.any (eqU x) by simp, any_eqU r fs]
    exact q
theorem op_notIn_seq : OpR X (compareOp .NotIn) (rIn X.K true) := by
  intro pins s σ H x y v u Q I rx ry h
  obtain ⟨p, xs, rfl, hq, fx, fs, q⟩ := h
  cases ry
  rcases hq with hq | hq
  · obtain ⟨its, r, pl, hz⟩ := I.list hq
    refine SeqAt.notIn_listAt (eqU x) pl.isList (fun w hw => mem_eqAt rx fx r fs w (by simpa using hw)) ⟨.bl _, H, I, rfl, ?_⟩
    rw [show its.toArray.any (eqU x) = its.any (eqU x) by simp, any_eqU r fs]
    exact q
  · obtain ⟨its, r, pl, hz⟩ := I.tuple hq
    refine SeqAt.notIn_tupleAt (eqU x) pl (fun w hw => mem_eqAt rx fx r fs w (by simpa using hw)) ⟨.bl _, H, I, rfl, ?_⟩
    rw [show its.toArray.any (eqU x) = its.any (eqU x) by simp, any_eqU r fs]
    exact q
theorem call_len_seq : CallR X (.builtin "len") (fun xs H Q => ∃ p ys, xs = [.ref p] ∧ (SqL X.K H p ys ∨ SqT X.K H p ys) ∧ Q (.int ys.length) H) := by
  intro pins s σ H xs us Q I r h
  obtain ⟨p, ys, rfl, hq, q⟩ := h
  obtain ⟨u, rfl, rx⟩ := vals1 r
  cases rx
  have hn := line63
  rcases hq with hq | hq
  · obtain ⟨its, r', pl, hz⟩ := I.list hq
    have hlen := r'.length
    exact Calls.call_len_list pl.isList (by simp only [List.size_toArray] <;> omega) ⟨.int ys.length, H, I.tok _, ⟨s.toks + 1, by rw [List.size_toArray, hlen]⟩, q⟩
  · obtain ⟨its, r', pl, hz⟩ := I.tuple hq
    have hlen := r'.length
    exact len_tuple pl (by simp only [List.size_toArray] <;> omega) ⟨.int ys.length, H, I.tok _, ⟨s.toks + 1, by rw [List.size_toArray, hlen]⟩, q⟩
theorem CallR.or {f : Value} {r r' : List V → Hp → VK → Prop} (h : CallR X f r) (h' : CallR X f r') : CallR X f (fun xs H Q => r xs H Q ∨ r' xs H Q) := by
  intro pins s σ H xs us Q I rs q
  rcases q with q | q
  · exact h pins s σ H xs us Q I rs q
  · exact h' pins s σ H xs us Q I rs q
theorem call_list_of : CallR X (.type "list") (fun xs H Q => ∃ p ys, xs = [.ref p] ∧ (SqL X.K H p ys ∨ SqT X.K H p ys) ∧ ∀ l, H l = none → Q (.ref l) (upd H l (.lst ys))) := by
  intro pins s σ H xs us Q I r h
  obtain ⟨p, ys, rfl, hq, q⟩ := h
  obtain ⟨u, rfl, rx⟩ := vals1 r
  cases rx
  have fin : ∀ (its : List Value), Vals ys its → ys.length ≤ sizeLine → ∀ (h' : Heap) (c' : Nat), (∀ b o', s.heap.get? b = some o' → h'.get? b = some o') →
      h'.get? s.heap.objs.size = some { cls := .type "list", dict := none, data := .seq its.toArray c', slots := #[] } → EP X pins σ Q (.ref s.heap.objs.size) { s with heap := h' } := fun its r' hz h' c' kp e =>
    ⟨.ref s.heap.objs.size, _, I.laid (t' := s.toks) kp (Nat.le_refl _) (show ObjOk X.prog X.w _ h' _ (.lst ys) from ⟨hz, its, c', r', e⟩), rfl, q _ (I.hok.fresh (Nat.le_refl _))⟩
  rcases hq with hq | hq
  · obtain ⟨its, r', pl, hz⟩ := I.list hq
    have hlen := r'.length
    obtain ⟨o, ho, hc, n, hd⟩ := pl.isList
    exact call_list_seq p (.inl rfl) ho hc hd (fun h' c' kp e => fin its r' hz h' c' kp e) (by simp only [List.size_toArray] <;> omega)
  · obtain ⟨its, r', pl, hz⟩ := I.tuple hq
    have hlen := r'.length
    obtain ⟨o, ho, hc, n, hd⟩ := pl
    exact call_list_seq p (.inr rfl) ho hc hd (fun h' c' kp e => fin its r' hz h' c' kp e) (by simp only [List.size_toArray] <;> omega)
def tyV (K : PySem.W.Frag) (T : String) (x : V) (H : Hp) : Prop := match x with
  | .str _ => T = "str"
  | .int _ => T = "int"
  | .ref p => (T = "list" ∧ ∃ xs, SqL K H p xs) ∨ (T = "tuple" ∧ ∃ o, K.lookup p = some o ∧ o.cls = .type "tuple" ∧ o.dict = none) ∨
      (T = "dict" ∧ ((∃ kvs, H p = some (.dK kvs)) ∨ ∃ kvs, H p = some (.dT kvs))) ∨ (T = "set" ∧ ∃ S n, H p = some (.set S n))
  | _ => False
theorem tyV_is {pins : List (Addr × Obj)} {σ : St} {H : Hp} {s : Shared} {T : String} {x : V} {v : Value} (I : Inv X pins σ H s) (r : RelV x v) (ty : tyV X.K T x H) :
    s.TypeIs v T ∧ ∀ a, v = .ref a → ∃ ob, s.heap.get? a = some ob ∧ ob.dict = none := by
  cases x with
  | str z =>
    obtain ⟨t, rfl⟩ := r
    cases (show T = "str" from ty)
    exact ⟨typeIs_str s z t, fun _ e => nomatch e⟩
  | int i =>
    obtain ⟨t, rfl⟩ := r
    cases (show T = "int" from ty)
    exact ⟨typeIs_int s i t, fun _ e => nomatch e⟩
  | ref p =>
    cases r
    rcases ty with ⟨rfl, xs, hq⟩ | ⟨rfl, o, hk, hc, hd⟩ | ⟨rfl, hk⟩ | ⟨rfl, S, n, hk⟩
    · obtain ⟨its, _, pl, _⟩ := I.list hq
      refine ⟨pl.isList.typeIs, fun a e => ?_⟩
      cases e
      obtain ⟨o, n, e, c, hd, _⟩ := pl
      exact ⟨o, e, hd⟩
    · refine ⟨⟨o, I.kIn p o hk, hc⟩, fun a e => ?_⟩
      cases e
      exact ⟨o, I.kIn _ o hk, hd⟩
    · have z : ∃ o, s.heap.get? p = some o ∧ o.ExactDict := by
        rcases hk with ⟨kvs, hk⟩ | ⟨kvs, hk⟩
        · obtain ⟨_, _, _, _, o, _, _, e, ex, _⟩ := I.hok p _ hk
          exact ⟨o, e, ex⟩
        · obtain ⟨_, _, _, _, o, _, _, e, ex, _⟩ := I.hok p _ hk
          exact ⟨o, e, ex⟩
      obtain ⟨o, e, ex⟩ := z
      refine ⟨⟨o, e, ex.1⟩, fun a e2 => ?_⟩
      cases e2
      exact ⟨o, e, ex.2.1⟩
    · obtain ⟨o, _, _, _, e, ex, _⟩ := I.hok p _ hk
      refine ⟨⟨o, e, ex.1⟩, fun a e2 => ?_⟩
      cases e2
      exact ⟨o, e, ex.2.1⟩
  | _ => exact False.elim ty
def tBM (K : PySem.W.Frag) (T : String) (r : V → List V → Hp → VK → Prop) (to : TE) (t : TA) : TE := fun σ H Q => to σ H fun x H1 => tyV K T x H1 ∧ t σ H1 fun xs H2 => r x xs H2 Q
variable {o e : Expr} {es : List Expr} {to : TE} {t : TA} {name : Str} {apos cpos : Pos} {T id : String} {r : V → List V → Hp → VK → Prop}
theorem pe_bm (pa : PlainAttrs T) (slot : Slot T name id) (hty : typeOf (.builtin id) = pure (.type "method_descriptor")) (hm : MtR X id r) (ho : PE X o to) (ha : PA X (e :: es) t)
    (hbase : attributeBase o name X.env (eval o X.env) = eval o X.env := by rfl)
    (hfew : ((backTo cpos (starEach (e :: es) X.env)).all (fun x => !x.1) && (backToKw cpos (keywordEach [] X.env)).all (fun x => x.1.isSome)
      && decide ((e :: es).length + ([] : List Keyword).length + (if ([] : List Keyword).isEmpty then 0 else 1) < 30)) = true := by rfl)
    (hline : (apos.endLine == cpos.line) = true := by rfl) (hs : starEach (e :: es) X.env = (false, eval e X.env) :: starEach es X.env := by rfl) (hplain : (backTo cpos (starEach es X.env)).any (·.1) = false := by rfl) :
    PE X (.Call (.Attribute o name apos) (e :: es) [] cpos) (tBM X.K T r to t) := by
  intro pins s σ H Q I h
  refine wpAny_Call_method_late hbase hfew hline rfl (thn (ho pins s σ H _ I h) fun v s1 ⟨x, H1, I1, r1, ty, q1⟩ => ?_)
  obtain ⟨h1, h2⟩ := tyV_is I1 r1 ty
  refine ⟨T, id, pa, slot, hty, h1, h2, ?_⟩
  have hA := ha cpos pins s1 σ H1 _ I1 q1
  rw [hs] at hA ⊢
  refine Calls.callWith_builtin (by show (false || (backTo cpos (starEach es X.env)).any (·.1)) = false; rw [hplain] <;> rfl) (Calls.evalArgs_plain ?_)
  exact thn hA fun us s2 ⟨vs, H2, I2, r2, q2⟩ => hm pins s2 σ H2 x vs v us Q I2 r1 r2 q2
/- xs.append(e), list.index on a module's tuple .. are MtR facts of 06m -/
end
end L2

namespace L2
open PySem PySem.Spec PyProof.Rows

def MtM (X : Cx) (id : String) (r : V → List V → Hp → VK → Prop) : Prop :=
  ∀ (pins : List (Addr × Obj)) (s : Shared) (σ : St) (H : Hp) (x : V) (xs : List V) (v : Value) (us : List Value) (Q : VK), Inv X pins σ H s → RelV x v → Vals xs us → r x xs H Q →
    wpAny (model X.prog X.w) X.A (call (.builtin id) (v :: us)) (EP X pins σ Q) X.xe s

theorem Vals.one : ∀ {x : V} {us : List Value}, Vals [x] us → ∃ u, us = [u] ∧ RelV x u
  | _, _, .cons r .nil => ⟨_, rfl, r⟩
theorem Vals.two : ∀ {x y : V} {us : List Value}, Vals [x, y] us → ∃ u v, us = [u, v] ∧ RelV x u ∧ RelV y v
  | _, _, _, .cons r (.cons q .nil) => ⟨_, _, rfl, r, q⟩
theorem Vals.zero : ∀ {us : List Value}, Vals [] us → us = []
  | _, .nil => rfl
theorem Vals.eraseIdx : ∀ {xs : List V} {us : List Value} (i : Nat), Vals xs us → Vals (xs.eraseIdx i) (us.eraseIdx i)
  | _, _, _, .nil => .nil
  | _, _, 0, .cons _ t => t
  | _, _, i + 1, .cons r t => .cons r (Vals.eraseIdx i t)
theorem Vals.reverse {xs : List V} {us : List Value} (h : Vals xs us) : Vals xs.reverse us.reverse := by
  induction h with
  | nil => exact .nil
  | cons r t ih => rw [List.reverse_cons, List.reverse_cons]; exact Vals.append ih (.cons r .nil)
theorem len_erase {α : Type} : ∀ (l : List α) (i : Nat), (l.eraseIdx i).length ≤ l.length
  | [], _ => Nat.le_refl _
  | _ :: _, 0 => Nat.le_succ _
  | _ :: r, i + 1 => Nat.succ_le_succ (len_erase r i)
section
variable {X : Cx} {pins : List (Addr × Obj)} {σ : St} {H : Hp} {s : Shared} {l b : Addr} {xs ys zs : List V}

theorem Inv.lset {its its' : List Value} {n : Nat} {f : Array Value → Array Value} {t' : Nat} (I : Inv X pins σ H s) (hH : H l = some (.lst xs))
    (e : s.heap.get? l = some { cls := .type "list", data := .seq its.toArray n }) (hf : f its.toArray = its'.toArray) (hv : Vals ys its') (hz : ys.length ≤ sizeLine) :
    Inv X pins σ (upd H l (.lst ys)) { s with heap := s.heap.update l (Obj.mapSeq f), toks := t' } := by
  have q := PySem.IsL.update e f
  rw [hf] at q
  refine I.write (x := l) (e := l) (by rw [hH]; exact trivial) (.inl rfl) (fun b' u hb hu => (Heap.get?_update_other s.heap (Obj.mapSeq f) (Ne.symm hb)).trans hu) ⟨_, q⟩ ?_
  exact ⟨hz, its', _, hv, q⟩
theorem Inv.fresh (I : Inv X pins σ H s) : H s.heap.objs.size = none := I.hok.fresh (Nat.le_refl _)
theorem Inv.lstM (I : Inv X pins σ H s) (hH : H l = some (.lst xs)) : xs.length ≤ sizeLine ∧ ∃ (its : List Value) (n : Nat), Vals xs its ∧ xs.length = its.length ∧ s.heap.get? l = some { cls := .type "list", data := .seq its.toArray n } := by
  obtain ⟨z, its, n, r, e⟩ := I.hok l _ hH
  exact ⟨z, its, n, r, r.length, e⟩

end

section
variable {X : Cx}

def rAppend : V → List V → Hp → VK → Prop := fun x vs H Q => ∃ l xs y, x = .ref l ∧ vs = [y] ∧ H l = some (.lst xs) ∧ xs.length < sizeLine ∧ Q .non (upd H l (.lst (xs ++ [y])))
theorem mt_append : MtM X "list.append" rAppend := by
  intro pins s σ H x vs v us Q I rx rv h
  obtain ⟨l, xs, y, rfl, rfl, hH, hz, q⟩ := h
  cases rx
  obtain ⟨u, rfl, ru⟩ := rv.one
  obtain ⟨z, its, n, r, hl, e⟩ := I.lstM hH
  refine call_meets F.slot_list_append ⟨_, e, rfl⟩ F.entry_list_append (F.args_list_append_2 _ _) (PySem.list_append l its.toArray n u (by rw [List.size_toArray]; omega)) ⟨e, ?_⟩
  refine ⟨.non, _, I.lset (its' := its ++ [u]) hH e (by simp) (r.append (.cons ru .nil)) ?_, rfl, q⟩
  rw [List.length_append, List.length_singleton]
  omega

def rPopAt : V → List V → Hp → VK → Prop := fun x vs H Q => ∃ l xs i k y, x = .ref l ∧ vs = [.int i] ∧ H l = some (.lst xs) ∧ -(2 ^ 63) ≤ i ∧ i < 2 ^ 63 ∧ seqIndex? i xs.length = some k ∧ xs[k]? = some y ∧ Q y (upd H l (.lst (xs.eraseIdx k)))
theorem mt_popAt : MtM X "list.pop" rPopAt := by
  intro pins s σ H x vs v us Q I rx rv h
  obtain ⟨l, xs, i, k, y, rfl, rfl, hH, h1, h2, hk, hy, q⟩ := h
  cases rx
  obtain ⟨u, rfl, ru⟩ := rv.one
  obtain ⟨t, rfl⟩ := ru
  obtain ⟨z, its, n, r, hl, e⟩ := I.lstM hH
  obtain ⟨w, hw, rw'⟩ := r.get hy
  refine call_meets F.slot_list_pop ⟨_, e, rfl⟩ F.entry_list_pop (F.args_list_pop_2 _ _)
    (MeetsSeq.list_pop_at l its.toArray n i t k w (fitsIndex_both h1 h2) (by rw [List.size_toArray, ← hl]; exact hk) (by rw [← Array.getElem?_toList]; exact hw) (by rw [List.size_toArray]; omega)) ⟨e, ?_⟩
  refine ⟨y, _, I.lset (its' := its.eraseIdx k) hH e ?_ (r.eraseIdx k) ?_, rw', q⟩
  · show its.toArray.eraseIdxIfInBounds k = (its.eraseIdx k).toArray
    rw [List.eraseIdxIfInBounds_toArray]
  · have := len_erase xs k
    omega

end

section
variable {prog : Program} {w : World} {A : Around} {E : Value → Shared → Prop} {s : Shared}
end

section
variable {X : Cx}
end
end L2

namespace Att
open PySem PySem.W PySem.Calls PyProof.Rows

theorem ints_of_wellAll {P : Params} {h : Heap} : ∀ (ns : List Int) (vs : List Value), WellAll P h vs (ns.map WData.int) → IntsAre vs ns := by
  intro ns
  induction ns with
  | nil =>
    intro vs w
    rw [List.map_nil] at w
    cases w
    exact .nil
  | cons n ns ih =>
    intro vs w
    rw [List.map_cons] at w
    cases w with
    | cons a b =>
      cases a
      exact .cons _ _ (ih _ b)

theorem script_of {l : OpenLaw} {n : Nat} (hn : l.most = some n) {P : Params} {h : Heap} {args : List WData} {vals : List Value}
    (hpre : l.row.toRowW.claim.pre args = true) (hwl : WellAll P h vals args) :
    ∃ a vs ns, vals = [Value.ref a] ∧ args = [WData.list (ns.map WData.int)] ∧ h.get? a = some { cls := .type "list", data := .seq vs.toArray } ∧ IntsAre vs ns ∧ ns.length ≤ n := by
  have hsh : WShape.hasAll [] args [.list .int] = true := (pre_splitW hpre).1
  have hc : l.pre.holds [] { args := args } = true := (pre_splitW hpre).2
  obtain ⟨d, r, rfl, h1, h2⟩ := hasAllW_cons hsh
  obtain rfl := hasAllW_nil h2
  obtain ⟨xs, rfl, h3⟩ := hasW_list h1
  obtain ⟨ns, rfl⟩ := items_int h3
  have hlen : ns.length ≤ n := by
    unfold OpenLaw.pre at hc
    have h4 : (WTm.not (.lt (.lit (.int (n : Int))) (.len (.arg 0)))).holds [] { args := [.list (ns.map .int)] } = true := by
      have h4 := (holds_andW hc).1
      rw [hn] at h4
      exact h4
    have h5 := condW_of h4 (w_not (w_lt w_lit (w_len_list (w_arg rfl))))
    rw [List.length_map] at h5
    refine Nat.le_of_not_lt fun q => ?_
    have q' : (n : Int) < ((ns.length : Nat) : Int) := by omega
    first
      | (rw [decide_eq_true q'] at h5; exact absurd h5 (by decide))
      | (simp at h5; omega)
  cases hwl with
  | cons w1 w2 =>
    cases w2
    cases w1 with
    | list ho hall => exact ⟨_, _, ns, rfl, rfl, ho, ints_of_wellAll ns _ hall, hlen⟩

theorem post_true (l : OpenLaw) (args : List WData) : l.row.toRowW.claim.post args (.bool true) args = true :=
  postW_of (r := l.row.toRowW) (X := (true == true))
    (show WShape.has [] (.bool true) .bool = true by first | rfl | decide | simp [WShape.has, WShape.arms, WShape.armsAll])
    (show (WTm.eq .res (.lit (.bool true))).value [] { args := args, res := some (.bool true), after := args } = some (.bool (true == true)) from w_eq_bool (w_res rfl) w_lit) rfl

theorem attach_call {l : OpenLaw} {n : Nat} {q : Program} {loose : List Str} {XP : (Str → Option Value) → Heap → Prop} {YP : World → Heap → Prop} {d : DefRec}
    (hn : l.most = some n) (hdf : d.params.defaults = [])
    (call : ∀ (w : World) (s₀ s₁ : Shared) (mg mb : Str → Option Value) (fa : Addr) (o : Obj) (pm cd doc : Value) (a : Addr) (vs : List Value) (ns : List Int),
      Ground q loose [] XP w s₀ mg mb s₁.heap → YP w s₁.heap →
      s₁.heap.get? fa = some o → o.data = .func (docDef d.name d.params d.body d.scope pm cd doc) → s₁.heap.CodeRec cd d.name → mg d.name = some (.ref fa) →
      s₁.heap.get? a = some { cls := .type "list", data := .seq vs.toArray } → IntsAre vs ns → ns.length ≤ n → s₁.gens = #[] →
      codeAny (model l.prog w) callerA (.call (.ref fa) ⟨[.ref a], []⟩) (fun r s' => r = .ok (.ret (.bool true)) ∧ OldK s₁.heap s'.heap ∧ s'.os = s₁.os ∧ AllBare s'.gens) s₁) :
    WalkO q loose XP YP l.row.toRowW d [] (fun f vs => PySem.call f vs) := by
  intro w s₀ s₁ mg mb G Y fa o pm cd doc dV kV ho hd hcd hD hmg hg args vals as hpre hlay hrd hwl hlo
  obtain rfl : dV = .none := Dflts.none hD hdf
  obtain rfl : kV = .none := Dflts.noKw hD
  obtain ⟨a, vs, ns, rfl, rfl, hobj, hints, hlen⟩ := script_of hn hpre hwl
  refine enter_call (codeAny_mono (call w s₀ s₁ mg mb fa o pm cd doc a vs ns G Y ho (fd_plain hd) hcd hmg hobj hints hlen hg) fun r s' hq => ?_)
  obtain ⟨rfl, h2, h3, h4⟩ := hq
  exact ⟨.inl ⟨.bool true, .bool true, [], rfl, fun _ => rfl, .bool true, post_true l _, fun _ => ⟨List.Pairwise.nil, fun _ hm => (nomatch hm)⟩⟩, h2, h3, h4⟩

section
variable {prog : Program} {w : World} {A : Around} {E : Value → Shared → Prop} {s : Shared} {K : Frag}

def ledger (h : Heap) (L d : Addr) : List (Addr × Obj) := (List.range h.objs.size).filterMap fun a => if a = L ∨ a = d then none else (h.get? a).map fun o => (a, o)
end
end Att

namespace L2
open PySem PySem.Spec PyProof.Rows

theorem vals_ints : ∀ {vs : List Value} {ns : List Int}, IntsAre vs ns → Vals (ns.map V.int) vs
  | _, _, .nil => .nil
  | _, _, .cons n t h => .cons ⟨t, rfl⟩ (vals_ints h)

end L2

namespace L2
open PySem PySem.Spec PyProof.Rows

end L2


namespace L2
open PySem PySem.Spec PyProof.Rows

def inClass (s : Stmt) (j : Nat) : Stmt := match s with
  | .ClassDef _ _ _ body _ _ _ _ _ _ _ => body.getD j (.Pass ⟨0, 0, 0, 0⟩)
  | _ => .Pass ⟨0, 0, 0, 0⟩
def defArgs (s : Stmt) : Arguments := match s with
  | .FunctionDef _ a _ _ _ _ _ _ _ _ => a
  | _ => { posonlyargs := [], args := [], vararg := none, kwonlyargs := [], kw_defaults := [], kwarg := none, defaults := [] }
def defBody (s : Stmt) : List Stmt := match s with
  | .FunctionDef _ _ b _ _ _ _ _ _ _ => b
  | _ => []
def defScope (s : Stmt) : Scope := match s with
  | .FunctionDef _ _ _ _ _ _ sc _ _ _ => sc
  | _ => { kind := .function, names := [], isGenerator := false, isCoroutine := false }

abbrev CX0 : CXT := fun _ _ _ _ _ _ => False
abbrev E0 : XK := fun _ _ _ => False
theorem pass0 {X : Cx} : Passes CX0 X E0 := fun _ _ _ _ _ _ _ h => h.elim

structure Fun (K : PySem.W.Frag) (x qual : Str) (st : Stmt) (f : Addr) (fd : FuncData) : Prop where
  ex : ∃ (oc : Value) (od : Option Addr) (kV doc pm : Value) (an : Option Addr) (cdv ct : Value) (osl : Array (Option Value)),
    fd = PySem.W.fnOf x qual (defArgs st) (defBody st) (defScope st) .none kV doc pm an cdv ct ∧ K.lookup f = some ⟨oc, od, .func fd, osl⟩ ∧ PySem.W.codeIn K cdv qual = true
  kp : PySem.W.keepIn K (.ref f) = true
section
variable {P : Program} {w : World} {K : PySem.W.Frag} {mg : Str → Option Value} {base : Heap}
theorem Fun.ok {x qual : Str} {st : Stmt} {f : Addr} {fd : FuncData} {N ps : List Str} {k : Nat} {sp : Sp} (F : Fun K x qual st f fd) (S : FnScope N ps (defScope st)) (len : ∀ vs H Q E, sp vs H Q E → vs.length = ps.length)
    (hbody : ∀ (cdv : Value) (A : Around) (outer : List Env) (s : Shared) (H : Hp) (vs : List V) (Q : VK) (E : XK), Room k (A.deeper (envOfC qual (defScope st) s.heap.objs.size f cdv)) → sp vs H Q E →
      ∃ t, PSs (cxOf CX0 P w K mg base N qual (defScope st) f cdv A outer s H E).nox (defBody st) t ∧ t { nx := fun _ H' => Q .non H', rt := Q } (start N vs) H) : FnOk P w K mg base CX0 (k + 1) f fd ps sp := by
  obtain ⟨oc, od, kV, doc, pm, an, cdv, ct, osl, rfl, lk, hcd⟩ := F.ex
  refine fn_of lk hcd S len fun A outer s H vs Q E hr hsp => ?_
  obtain ⟨t, h, q⟩ := hbody cdv A outer s H vs Q E hr hsp
  exact ⟨t, h.nox, q⟩
theorem Fun.binds {x qual : Str} {st : Stmt} {f : Addr} {fd : FuncData} {ps : List Str} (F : Fun K x qual st f fd)
    (h : ∀ (kV doc pm : Value) (an : Option Addr) (cdv ct : Value) (us : List Value), us.length = ps.length → bindArgs (PySem.W.fnOf x qual (defArgs st) (defBody st) (defScope st) .none kV doc pm an cdv ct) ⟨us, []⟩ = pure (ps.zip us)) : Binds K fd ps [] := by
  obtain ⟨oc, od, kV, doc, pm, an, cdv, ct, osl, rfl, lk, hcd⟩ := F.ex
  exact .all (h kV doc pm an cdv ct)
end
theorem hu_of {A : Around} {k : Nat} (hr : Room k A) : A.units + 1 < cLine := Nat.lt_of_le_of_lt (Nat.add_le_add_left (by decide : 1 ≤ 64) _) hr.units
section
variable {X : Cx}
theorem pv (i : Nat) {x : Str} {pos : Pos} (hN : X.N[i]? = some x := by rfl) (hv : Vis X.env.scope x := by first | exact Or.inl rfl | exact Or.inr (Or.inl rfl) | exact Or.inr (Or.inr rfl)) (hd : (x == ("__debug__" : Str)) = false := by decide)
    (hcd : (x == ("__classdict__" : Str)) = false := by decide) : PE X (.Name x pos) (tVar i) := pe_var hN hv hd hcd
end

theorem iteF {A B : Prop} (h : B) : if false = true then A else B := by
  rw [if_neg Bool.false_ne_true]
  exact h
theorem iteT {A B : Prop} (h : A) : if true = true then A else B := by
  rw [if_pos rfl]
  exact h
theorem ite2 {c A B : Prop} [Decidable c] (h1 : c → A) (h2 : ¬ c → B) : if c then A else B := by
  by_cases h : c
  · rw [if_pos h]
    exact h1 h
  · rw [if_neg h]
    exact h2 h
def Same (H H' : Hp) : Prop := ∀ b o, H b = some o → H' b = some o
theorem Same.refl (H : Hp) : Same H H := fun _ _ h => h
theorem Same.trans {H H1 H2 : Hp} (a : Same H H1) (b : Same H1 H2) : Same H H2 := fun c o h => b c o (a c o h)
theorem Same.free {H H' : Hp} (e : Same H H') {l : Addr} (h : H' l = Option.none) : H l = Option.none := by
  cases q : H l with
  | none => rfl
  | some o =>
    rw [e l o q] at h
    cases h
theorem Same.seq {K : PySem.W.Frag} {H H' : Hp} {a : Addr} {xs : List V} (e : Same H H') (h : SqL K H a xs) : SqL K H' a xs := by
  rcases h with (h | ⟨o, h⟩) | h
  · exact .inl (.inl (e _ _ h))
  · exact .inl (.inr ⟨o, e _ _ h⟩)
  · exact .inr h

section
variable {κ : Type} [DecidableEq κ]
theorem dropK_pos {p : κ × V} {r : List (κ × V)} {k : κ} (e : p.1 = k) : dropK (p :: r) k = dropK r k := by
  unfold dropK
  rw [List.filter_cons, if_neg (by simp [e])]
theorem dropK_neg {p : κ × V} {r : List (κ × V)} {k : κ} (e : ¬ p.1 = k) : dropK (p :: r) k = p :: dropK r k := by
  unfold dropK
  rw [List.filter_cons, if_pos (by simp [e])]
end
end L2

set_option Elab.async false
set_option linter.all false
set_option maxRecDepth 100000
namespace L2
open PySem PySem.Spec PyProof.Rows

abbrev Kn := List (Addr × HO)
structure Has (H : Hp) (L : Kn) : Prop where
  nd : (L.map (·.1)).Nodup
  at_ : ∀ x ∈ L, H x.1 = some x.2
namespace Has
variable {H H' : Hp} {L L' X Y R : Kn} {a p : Addr} {o o' : HO} {x y : Addr × HO}
theorem nil : Has H [] := ⟨List.nodup_nil, fun _ h => nomatch h⟩
theorem get (h : Has H L) (i : Nat) (e : L[i]? = some (a, o)) : H a = some o := h.at_ (a, o) (List.mem_of_getElem? e)
theorem alloc (h : Has H L) (hp : H p = none) (o : HO) : Has (upd H p o) ((p, o) :: L) := by
  have ne : ∀ x ∈ L, x.1 ≠ p := fun x hx e => by
    have := h.at_ x hx
    rw [e, hp] at this; cases this
  refine ⟨?_, fun x hx => ?_⟩
  · rw [List.map_cons, List.nodup_cons]
    refine ⟨fun m => ?_, h.nd⟩
    obtain ⟨x, hx, e⟩ := List.mem_map.mp m
    exact ne x hx e
  · rcases List.mem_cons.mp hx with rfl | hx
    · exact upd_same
    · rw [upd_ne (ne x hx)]; exact h.at_ x hx
theorem same (h : Has H L) (s : Same H H') : Has H' L := ⟨h.nd, fun x hx => s _ _ (h.at_ x hx)⟩
theorem sub (h : Has H L) (s : L'.Sublist L) : Has H L' := ⟨h.nd.sublist (s.map _), fun x hx => h.at_ x (s.subset hx)⟩
theorem perm (h : Has H L) (s : L.Perm L') : Has H L' := ⟨(s.map _).nodup_iff.mp h.nd, fun x hx => h.at_ x (s.mem_iff.mpr hx)⟩
theorem tail (h : Has H (x :: L)) : Has H L := h.sub (List.sublist_cons_self _ _)
theorem right (h : Has H (X ++ R)) : Has H R := h.sub (List.sublist_append_right _ _)
theorem left (h : Has H (X ++ R)) : Has H X := h.sub (List.sublist_append_left _ _)
theorem swap2 (h : Has H (x :: y :: L)) : Has H (y :: x :: L) := h.perm (List.Perm.swap _ _ _)
theorem comm (h : Has H (X ++ (Y ++ R))) : Has H (Y ++ (X ++ R)) := h.perm (by rw [← List.append_assoc, ← List.append_assoc]; exact List.perm_append_comm.append_right R)
theorem inn (h : Has H (x :: (Y ++ R))) : Has H (Y ++ (x :: R)) := h.perm List.perm_middle.symm
theorem out (h : Has H (Y ++ (x :: R))) : Has H (x :: (Y ++ R)) := h.perm List.perm_middle
theorem ne2 (h : Has H ((a, o) :: R)) {b : Addr} (m : b ∈ R.map (·.1)) : b ≠ a := fun e => by
  have := List.nodup_cons.mp (show ((a :: R.map (·.1)).Nodup) from h.nd)
  exact this.1 (e ▸ m)
theorem put (h : Has H ((a, o) :: R)) (o' : HO) : Has (upd H a o') ((a, o') :: R) := by
  refine ⟨h.nd, fun x hx => ?_⟩
  rcases List.mem_cons.mp hx with rfl | hx
  · exact upd_same
  · rw [upd_ne (h.ne2 (List.mem_map_of_mem hx))]; exact h.at_ x (List.mem_cons_of_mem _ hx)
theorem map_set_fst : ∀ (L : Kn) (i : Nat), L[i]? = some (a, o) → (L.set i (a, o')).map (·.1) = L.map (·.1)
  | [], i, e => by simp at e
  | x :: L, 0, e => by simp at e; subst e; rfl
  | x :: L, i + 1, e => by
    simp only [List.set_cons_succ, List.map_cons]
    rw [map_set_fst L i (by simpa using e)]
theorem puti (h : Has H L) (i : Nat) (e : L[i]? = some (a, o)) (o' : HO) : Has (upd H a o') (L.set i (a, o')) := by
  have hi : i < L.length := (List.getElem?_eq_some_iff.mp e).1
  refine ⟨by rw [map_set_fst (o' := o') L i e]; exact h.nd, fun x hx => ?_⟩
  obtain ⟨j, hj⟩ := List.getElem?_of_mem hx
  by_cases hij : j = i
  · subst hij
    rw [List.getElem?_set_self hi] at hj
    cases hj
    exact upd_same
  · rw [List.getElem?_set_ne (Ne.symm hij)] at hj
    have hx' : x ∈ L := List.mem_of_getElem? hj
    have : x.1 ≠ a := fun z => by
      have e1 : (L.map (·.1))[i]? = some a := by rw [List.getElem?_map, e]; rfl
      have e2 : (L.map (·.1))[j]? = some a := by rw [List.getElem?_map, hj, ← z]; rfl
      obtain ⟨l1, q1⟩ := List.getElem?_eq_some_iff.mp e1
      obtain ⟨l2, q2⟩ := List.getElem?_eq_some_iff.mp e2
      exact hij ((List.getElem_inj h.nd).mp (q2.trans q1.symm))
    rw [upd_ne this]
    exact h.at_ x hx'
theorem ne (h : Has H L) (i j : Nat) {b : Addr} {u : HO} (e : L[i]? = some (a, o)) (e' : L[j]? = some (b, u)) (hij : i ≠ j) : a ≠ b := fun z => by
  have e1 : (L.map (·.1))[i]? = some a := by rw [List.getElem?_map, e]; rfl
  have e2 : (L.map (·.1))[j]? = some a := by rw [List.getElem?_map, e', ← z]; rfl
  obtain ⟨l1, q1⟩ := List.getElem?_eq_some_iff.mp e1
  obtain ⟨l2, q2⟩ := List.getElem?_eq_some_iff.mp e2
  exact hij ((List.getElem_inj h.nd).mp (q1.trans q2.symm))
end Has

section
variable {X : Cx}
theorem call_isi : CallR X (.builtin "isinstance") (fun xs H Q => ∃ x T t b, xs = [x, .ty T] ∧ TyOf X.K H x t ∧ PySem.W.kitOne X.K t (.type T) = some b ∧ Q (.bl b) H) := by
  intro pins s σ H xs us Q I r h
  obtain ⟨x, T, t, b, rfl, ty, e, q⟩ := h
  obtain ⟨u1, u2, rfl, r1, r2⟩ := vals2 r
  cases (show u2 = Value.type T from r2)
  exact isinst_ok I r1 ty e fun tk => ⟨.bl b, H, I.tok _, rfl, q⟩
end
end L2
namespace L2
open PySem PySem.Spec PyProof.Rows
theorem SqL.alloc {K : PySem.W.Frag} {H : Hp} {a p : Addr} {xs : List V} {o : HO} (h : SqL K H a xs) (hp : H p = none) : SqL K (upd H p o) a xs :=
  Same.seq (fun b u e => by rw [upd_ne (ne_of_none e hp)]; exact e) h
theorem cut_take (xs : List V) (n : Int) (h0 : 0 ≤ n) : cutV xs none (some n) = xs.take n.toNat := by
  show ((xs.drop 0).take ((if n < 0 then (n + (xs.length : Int)).toNat else min n.toNat xs.length) - 0)) = _
  rw [if_neg (by omega), List.drop_zero, Nat.sub_zero]
  by_cases hl : n.toNat ≤ xs.length
  · rw [Nat.min_eq_left hl]
  · rw [Nat.min_eq_right (by omega), List.take_of_length_le (Nat.le_refl _), List.take_of_length_le (by omega)]
end L2
namespace L2
open PySem PySem.Spec PyProof.Rows
theorem sizeOk {n : Nat} (h : n ≤ 1000000) : n < sizeLine := Nat.lt_of_le_of_lt h (by decide)
theorem sizeOk' {n : Nat} (h : n ≤ 1000000) : n ≤ sizeLine := Nat.le_of_lt (sizeOk h)
end L2
namespace L2
theorem ifF {b : Bool} {A B : Prop} (e : b = false) (h : B) : if b = true then A else B := by subst e; exact iteF h
theorem ifT {b : Bool} {A B : Prop} (e : b = true) (h : A) : if b = true then A else B := by subst e; exact iteT h
theorem if2 {b : Bool} {A B : Prop} (h1 : b = true → A) (h2 : b = false → B) : if b = true then A else B := by
  cases b
  · exact iteF (h2 rfl)
  · exact iteT (h1 rfl)
theorem ifd {c : Prop} [Decidable c] {A B : Prop} (h1 : c → A) (h2 : ¬ c → B) : if decide c = true then A else B := by
  by_cases h : c
  · exact ifT (decide_eq_true h) (h1 h)
  · exact ifF (decide_eq_false h) (h2 h)
theorem ifdn {c : Prop} [Decidable c] {A B : Prop} (h1 : ¬ c → A) (h2 : c → B) : if (!decide c) = true then A else B := by
  by_cases h : c
  · exact ifF (by simp [h]) (h2 h)
  · exact ifT (by simp [h]) (h1 h)
end L2

set_option Elab.async false
set_option linter.all false
set_option maxRecDepth 100000
namespace L2
open PySem PySem.Spec PyProof.Rows

def clOf (cells : List (Str × Addr)) : List (Str × NameKind) → List (Str × Addr) → List (Str × Addr)
  | [], acc => acc
  | (n, k) :: r, acc => if k == .free then clOf cells r ((n, (cells.lookup n).getD 0) :: acc) else clOf cells r acc
theorem closure_eq (scope : Scope) (env : Env) (h : ∀ y ∈ scope.names, y.2 = .free → ∃ c, env.cells.lookup y.1 = some c) : closureFor scope env = pure (clOf env.cells scope.names []) := by
  unfold closureFor
  have all : ∀ (l : List (Str × NameKind)) (acc : List (Str × Addr)), (∀ y ∈ l, y.2 = .free → ∃ c, env.cells.lookup y.1 = some c) →
      (forIn l acc fun x r => match x with
        | (name, kind) => if (kind == .free) = true then do let a ← cellOf env name; pure (ForInStep.yield ((name, a) :: r)) else pure (ForInStep.yield r)) = (pure (clOf env.cells l acc) : Sem _) := by
    intro l
    induction l with
    | nil => intro acc _; rfl
    | cons y l ih =>
      obtain ⟨n, k⟩ := y
      intro acc hl
      rw [List.forIn_cons]
      by_cases hk : (k == NameKind.free) = true
      · obtain ⟨c, hc⟩ := hl (n, k) List.mem_cons_self (by simpa using hk)
        have e : cellOf env n = pure c := by unfold cellOf; rw [hc]
        simp only [hk, if_true, e, pure_bind, clOf, hc, Option.getD_some]
        exact ih _ fun y hy => hl y (List.mem_cons_of_mem _ hy)
      · simp only [hk, if_false, pure_bind, clOf]
        exact ih _ fun y hy => hl y (List.mem_cons_of_mem _ hy)
  have := all scope.names [] h
  simp only [this, pure_bind]
theorem clOf_sub {cells : List (Str × Addr)} {x : Str} {c : Addr} : ∀ (l : List (Str × NameKind)) (acc : List (Str × Addr)), (∀ y ∈ l, y.2 = .free → ∃ c, cells.lookup y.1 = some c) →
    (∀ y d, acc.lookup y = some d → cells.lookup y = some d) → (clOf cells l acc).lookup x = some c → cells.lookup x = some c
  | [], acc, _, ha, h => ha x c h
  | (n, k) :: r, acc, hl, ha, h => by
    unfold clOf at h
    split at h
    · rename_i hk
      obtain ⟨d, hd⟩ := hl (n, k) List.mem_cons_self (by simpa using hk)
      refine clOf_sub r _ (fun y hy => hl y (List.mem_cons_of_mem _ hy)) (fun y e he => ?_) h
      rw [List.lookup_cons] at he
      split at he
      · rename_i hyn
        have : y = n := by simpa using hyn
        subst this
        cases he
        rw [hd]; rfl
      · exact ha y e he
    · exact clOf_sub r _ (fun y hy => hl y (List.mem_cons_of_mem _ hy)) ha h
theorem clOf_acc {cells : List (Str × Addr)} {x : Str} : ∀ (l : List (Str × NameKind)) (acc : List (Str × Addr)), (∃ c, acc.lookup x = some c) → ∃ c, (clOf cells l acc).lookup x = some c
  | [], acc, h => h
  | (n, k) :: r, acc, h => by
    unfold clOf
    split
    · refine clOf_acc r _ ?_
      rw [List.lookup_cons]
      split
      · exact ⟨_, rfl⟩
      · exact h
    · exact clOf_acc r _ h
theorem clOf_has {cells : List (Str × Addr)} {x : Str} : ∀ (l : List (Str × NameKind)) (acc : List (Str × Addr)), (x, NameKind.free) ∈ l → ∃ c, (clOf cells l acc).lookup x = some c
  | [], _, h => nomatch h
  | (n, k) :: r, acc, h => by
    unfold clOf
    rcases List.mem_cons.mp h with e | h
    · cases e
      rw [if_pos (by rfl)]
      exact clOf_acc r _ ⟨(cells.lookup x).getD 0, by rw [List.lookup_cons]; simp⟩
    · split
      · exact clOf_has r _ h
      · exact clOf_has r _ h
theorem relabel_cf {env : Env} {x : Str} : ∀ (l : List (Str × NameKind)), (∀ y ∈ l, y.2 ≠ .cell) →
    ((l.map fun (n, k) => if (k == NameKind.free && env.scope.kind == .function && env.kindOf n == some .cell) then (n, NameKind.cell) else (n, k)).lookup x = some .cell ∨
     (l.map fun (n, k) => if (k == NameKind.free && env.scope.kind == .function && env.kindOf n == some .cell) then (n, NameKind.cell) else (n, k)).lookup x = some .free) → (x, NameKind.free) ∈ l
  | [], _, h => by simp at h
  | (n, k) :: r, hl, h => by
    have ih := relabel_cf (env := env) (x := x) r fun y hy => hl y (List.mem_cons_of_mem _ hy)
    by_cases hc : (k == NameKind.free && env.scope.kind == .function && env.kindOf n == some .cell) = true
    · have hkf : k = .free := by
        rw [Bool.and_eq_true, Bool.and_eq_true] at hc
        simpa using hc.1.1
      subst hkf
      simp only [List.map_cons, hc, if_true, List.lookup_cons] at h
      cases hx : x == n with
      | true =>
        have : x = n := by simpa using hx
        subst this
        exact List.mem_cons_self
      | false =>
        simp only [hx] at h
        exact List.mem_cons_of_mem _ (ih h)
    · simp only [List.map_cons, if_neg hc, List.lookup_cons] at h
      cases hx : x == n with
      | true =>
        have : x = n := by simpa using hx
        subst this
        simp only [hx] at h
        rcases h with h | h
        · cases h
          exact absurd rfl (hl (x, .cell) List.mem_cons_self)
        · cases h
          exact List.mem_cons_self
      | false =>
        simp only [hx] at h
        exact List.mem_cons_of_mem _ (ih h)

def PTs (X : Cx) (ifs : List Expr) (t : TT) : Prop :=
  ∀ (pins : List (Addr × Obj)) (s : Shared) (σ : St) (H : Hp) (Q : Bool → Hp → Prop), Inv X pins σ H s → t σ H Q →
    wpAny (model X.prog X.w) X.A (forIn ifs true fun c r => if r = true then do let ok ← isTrue c X.env (eval c X.env); pure (ForInStep.yield ok) else pure (ForInStep.yield r)) (TP X pins σ Q) X.xe s
def tTrue : TT := fun _ H Q => Q true H
theorem pts_nil {X : Cx} : PTs X [] tTrue := fun _ _ _ H _ I h => wpAny_tests_nil ⟨H, I, h⟩
theorem pts_one {X : Cx} {c : Expr} {t : TT} (h : PT X c t) : PTs X [c] t := fun pins s σ H Q I q => wpAny_tests_one (h pins s σ H Q I q)

theorem compLoop_go {prog : Program} {w : World} {A : Around} {R : Result → Shared → Prop} {s : Shared} {elt target iter : Expr} {ifs : List Expr} {scope : Scope} {pos : Pos} {it acc : Value} {env : Env} (I : Nat → Shared → Prop)
    (turn : ∀ n s, I n s → wpAny (model prog w) A (pyNext it) (fun r s₁ => match r with
      | none => R (.ok .next) s₁
      | some v => wpAny (model prog w) A (letOwnedTupleGo target it v) (fun _ s₀ => wpAny (model prog w) A (assign target env v) (fun _ s₂ =>
          wpAny (model prog w) A (forIn ifs true fun c r => if r = true then do let ok ← isTrue c env (eval c env); pure (ForInStep.yield ok) else pure (ForInStep.yield r)) (fun ok s₃ =>
            if ok = true then wpAny (model prog w) A (eval elt env) (fun x s₄ =>
              wpAny (model prog w) A (call (.builtin "list.append") [acc, x]) (fun _ s₅ => ∃ m, m < n ∧ I m s₅) (fun _ _ => False) s₄) (fun _ _ => False) s₃
            else ∃ m, m < n ∧ I m s₃) (fun _ _ => False) s₂) (fun _ _ => False) s₀) (fun _ _ => False) s₁) (fun _ _ => False) s)
    (n : Nat) (h : I n s) :
    codeAny (model prog w) A (.compLoop (.ListComp elt [⟨target, iter, ifs, 0⟩] scope pos) 0 it acc env) R s := by
  have no : ∀ {α : Type} {t : Sem α} {Q : α → Shared → Prop} {s : Shared} {E : Value → Shared → Prop}, wpAny (model prog w) A t Q (fun _ _ => False) s → wpAny (model prog w) A t Q E s := fun h => wpAny_mono h (fun _ _ q => q) fun _ _ z => False.elim z
  refine codeAny_loop rfl I (fun n s hI => ?_) n h
  show wpAny _ A ((compTurn (.ListComp elt [⟨target, iter, ifs, 0⟩] scope pos) 0 it acc env).onRaise (fun x => do noteFrame x env; theTreesLotGoes x)) _ _ s
  refine wpAny_noted ?_
  rw [compTurn_list]
  refine wpAny_bind (wpAny_standAt (wpAny_bind (wpAny_mono (no (turn n s hI)) (fun r s₁ h₁ => ?_) fun _ _ h' => h')))
  cases r with
  | none => exact wpAny_pure h₁
  | some v =>
    refine wpAny_bind (wpAny_mono (no h₁) (fun _ s₀ h₀ => ?_) fun _ _ h' => h')
    refine wpAny_bind (wpAny_mono (no h₀) (fun _ s₂ h₂ => wpAny_bind (wpAny_mono (no h₂) (fun ok s₃ h₃ => ?_) fun _ _ h' => h')) fun _ _ h' => h')
    cases ok with
    | false => exact wpAny_pure ⟨rfl, h₃⟩
    | true =>
      exact wpAny_bind (wpAny_bind (wpAny_mono (no h₃) (fun x s₄ h₄ => wpAny_bind (wpAny_mono (no h₄) (fun _ s₅ h₅ => wpAny_pure (wpAny_pure ⟨rfl, h₅⟩)) fun _ _ h' => h')) fun _ _ h' => h'))
end L2

set_option Elab.async false
set_option linter.all false
set_option maxRecDepth 100000
namespace L2
open PySem PySem.Spec PyProof.Rows

abbrev blk (X : Cx) (scope : Scope) (N' : List Str) (C : Addr) (s₀ : Shared) (H₀ : Hp) (fp : List Addr) (pins : List (Addr × Obj)) : Cx :=
  { X with N := N', s₀ := s₀, H₀ := H₀, env := compEnvC scope (clOf X.env.cells scope.names []) C X.env, outer := X.stack, stack := X.stack, ex := fp, fn := fun _ => false, pn := X.pn ++ pins, xe := fun _ _ => False }

def tLC (wi : TI) (k : Nat) (g : TG) (tc : TT) (te : TE) : TE := fun σ H Q => wi σ H fun J H1 => ∀ D, H1 D = none → ∃ W : Nat → Nat → List V → Hp → Prop, (∃ m, W 0 m [] (upd H1 D (.lst []))) ∧ ∀ i m ys H, W i m ys H → H D = some (.lst ys) ∧
  ((J.stop i H ∧ Q (.ref D) H) ∨ (J.go i H ∧ ∀ x H', J.yld i H x H' → g x (List.replicate k none ++ σ) H' fun σ2 H2 => σ2.drop k = σ ∧ tc σ2 H2 fun b H3 =>
    if b = true then te σ2 H3 fun y H4 => ys.length < sizeLine ∧ H4 D = some (.lst ys) ∧ ∃ m', m' < m ∧ W (i + 1) m' (ys ++ [y]) (upd H4 D (.lst (ys ++ [y]))) else ∃ m', m' < m ∧ W (i + 1) m' ys H3))

section
variable {X : Cx}
theorem pe_lc {elt tg iter : Expr} {ifs : List Expr} {scope : Scope} {pos : Pos} {wi : TI} {k : Nat} {g : TG} {tc : TT} {te : TE} (N' : List Str) (hc : X.calm = true) (hi : PI X tg iter wi)
    (hg : ∀ C s₀ H₀ fp pins, PG (blk X scope N' C s₀ H₀ fp pins) tg g) (ht : ∀ C s₀ H₀ fp pins, PTs (blk X scope N' C s₀ H₀ fp pins) ifs tc) (he : ∀ C s₀ H₀ fp pins, PE (blk X scope N' C s₀ H₀ fp pins) elt te)
    (hk : scope.kind = .function) (hcell : ∀ y ∈ scope.names, y.2 ≠ .cell) (hnames : ∀ y ∈ scope.names, y.2 = .local → scope.names.lookup y.1 = some .local)
    {esc : Scope} (hsc : X.env.scope = esc) (hfr' : ∀ y ∈ scope.names, y.2 = .free → esc.names.lookup y.1 = some .cell ∨ esc.names.lookup y.1 = some .free)
    (hlen : N'.length = k + X.N.length)
    (hN : ∀ (i : Nat) (x : Str), N'[i + k]? = some x → (x, NameKind.free) ∈ scope.names → X.N[i]? = some x)
    (hN2 : ∀ x ∈ N'.drop k, scope.names.lookup x ≠ some .local)
    (hs : ∀ x, foldedSetIterable iter X.env x = pure x := by intro _; rfl) :
    PE X (.ListComp elt [⟨tg, iter, ifs, 0⟩] scope pos) (tLC wi k g tc te) := by
  intro pins s σ H Q I h
  have hfr : ∀ y ∈ scope.names, y.2 = .free → X.env.kindOf y.1 = some .cell ∨ X.env.kindOf y.1 = some .free := fun y hy hf => by
    show X.env.scope.names.lookup y.1 = _ ∨ X.env.scope.names.lookup y.1 = _
    rw [hsc]; exact hfr' y hy hf
  have hcells : ∀ y ∈ scope.names, y.2 = .free → ∃ c, X.env.cells.lookup y.1 = some c := fun y hy hf => I.ok.has y.1 (hfr y hy hf)
  have hclos := closure_eq scope X.env hcells
  rw [eval_ListComp]
  refine wpAny_comprehension_free (use := none) rfl hs hclos hk hnames (thn (hi pins s σ H _ I h) fun v s1 h1 => thn h1 fun itv s2 h2 => ?_)
  obtain ⟨it, fp, tn, J, H2, e, I2, T, st2, f2, R⟩ := h2
  subst e
  refine wpAny_newObj_type ?_
  have hD : H2 s2.heap.objs.size = none := I2.hok.fresh (Nat.le_refl _)
  obtain ⟨W, ⟨m0, w0⟩, turn⟩ := R _ hD
  generalize eD : s2.heap.objs.size = D at *
  have I3 : Inv X pins σ (upd H2 D (.lst [])) { s2 with heap := s2.heap.push { cls := .type "list", dict := none, data := .seq ([] : List Value).toArray } } :=
    I2.laid (a := D) (o := .lst []) (t' := s2.toks) (fun b u e => Heap.get?_push_of_some _ e) (Nat.le_of_eq eD) ⟨Nat.zero_le _, [], 0, .nil, by rw [← eD]; exact Heap.get?_push_size _ rfl⟩
  generalize e3 : ({ s2 with heap := s2.heap.push { cls := .type "list", dict := none, data := .seq ([] : List Value).toArray } } : Shared) = s3 at *
  have st3 : tn 0 s3.heap := T.keep _ _ _ st2 fun b _ o e => by rw [← e3]; exact Heap.get?_push_of_some _ e
  have lt2 : ∀ b ∈ fp, b < s2.heap.objs.size := fun b hb => by
    obtain ⟨o, e, _⟩ := T.obj _ _ st2 b hb
    exact Heap.lt_size e
  have neD : ∀ b ∈ fp, b ≠ D := fun b hb => by
    have := lt2 b hb
    rw [eD] at this
    exact Nat.ne_of_lt this
  have f3 : ∀ b ∈ fp, FpOk X pins (upd H2 D (.lst [])) b := fun b hb => ⟨by rw [upd_ne (neD b hb)]; exact (f2 b hb).1, (f2 b hb).2⟩
  generalize upd H2 D (.lst []) = H3 at *
  refine wpAny_newFunctionEnv hcell (by intro y hy; simp at hy) (fun h₁ hns₁ hsb₁ => ?_) hk
  try dsimp only at hns₁ hsb₁ ⊢
  have lt3 : ∀ b ∈ fp, b < s3.heap.objs.size := fun b hb => by
    obtain ⟨o, e, _⟩ := T.obj _ _ st3 b hb
    exact Heap.lt_size e
  generalize eC : s3.heap.objs.size = C at *
  have kp : ∀ b o, s3.heap.get? b = some o → h₁.get? b = some o := fun b o e => (hsb₁.2 b (by rw [← eC]; exact Nat.ne_of_lt (Heap.lt_size e))).trans (Heap.get?_push_of_some _ e)
  have subC : ∀ x c, (clOf X.env.cells scope.names []).lookup x = some c → X.env.cells.lookup x = some c := fun x c e => clOf_sub scope.names [] hcells (fun y d z => by simp at z) e
  have hCnone : H3 C = none := I3.hok.fresh (Nat.le_of_eq eC)
  have ok' : (blk X scope N' C s3 H3 fp pins).Ok := {
    mod := I3.ok.mod
    kind := hk
    glob := I3.ok.glob
    blt := I3.ok.blt
    above := Nat.le_of_eq eC
    inj := fun x y c a b => I3.ok.inj x y c (subC x c a) (subC y c b)
    has := fun x hx => clOf_has scope.names [] (relabel_cf scope.names hcell hx)
    cab := fun x c a _ => absurd a Bool.false_ne_true
    hd := I3.ok.hd
    frames := I3.ok.frames
    stk := .inl rfl
    exf := fun b hb => ⟨by have := lt3 b hb; exact Nat.ne_of_lt this, fun x c e => (f3 b hb).2.2.2.2.1 x c (subC x c e)⟩
    bs := I3.bs
    bsz := Nat.le_trans I3.ok.bsz I3.sz
    noex := fun b o e hb => by
      rcases (f3 b hb).2.2.2.1 with z | z
      · exact I3.ok.noex b o e z
      · exact absurd (Nat.lt_of_lt_of_le (Heap.lt_size e) (Nat.le_trans I3.ok.bsz z)) (Nat.lt_irrefl _)
    exfs := fun b hb z => by
      rcases List.mem_cons.mp (I3.stkSub b z) with e | e
      · exact (f3 b hb).2.1 e
      · exact (f3 b hb).2.2.1 e
    funs := I3.stack
    frf := I3.stkFree }
  have s4os : ({ s3 with heap := h₁, toks := s3.toks + ([] : List (Str × Value)).length } : Shared).os = s3.os := rfl
  generalize e4 : ({ s3 with heap := h₁, toks := s3.toks + ([] : List (Str × Value)).length } : Shared) = s4 at *
  have h4 : s4.heap = h₁ := by rw [← e4]
  have J4 : Inv (blk X scope N' C s3 H3 fp pins) [] (List.replicate k none ++ σ) H3 s4 := by
    refine ⟨ok', s4os, by rw [← e4]; exact I3.bare, ?_, ⟨_, by rw [h4]; exact hns₁, fun i x v e1 e2 e5 => ?_⟩, fun x c e => ?_, hCnone, fun x c e => I3.freeC x c (subC x c e), fun p hp => ?_, ?_, ?_⟩
    · rw [h4]; exact Un.kept kp
    · have hik : ¬ i < k := fun hlt => by
        rw [List.getElem?_append_left (by rw [List.length_replicate]; exact hlt), List.getElem?_replicate] at e2
        split at e2 <;> cases e2
      obtain ⟨j, rfl⟩ : ∃ j, i = j + k := ⟨i - k, by omega⟩
      have e2' : σ[j]? = some (some v) := by
        rw [List.getElem?_append_right (by rw [List.length_replicate]; omega), List.length_replicate] at e2
        have : j + k - k = j := by omega
        rw [this] at e2; exact e2
      have nl : (relabel scope X.env).names.lookup x ≠ some .local := fun z => by
        have q : ∀ (l : List (Str × NameKind)), (l.map fun (n, k) => if (k == NameKind.free && X.env.scope.kind == .function && X.env.kindOf n == some .cell) then (n, NameKind.cell) else (n, k)).lookup x = some .local → l.lookup x = some .local := by
          intro l
          induction l with
          | nil => intro z; simp at z
          | cons y l ih =>
            obtain ⟨n, kk⟩ := y
            intro z
            by_cases hcc : (kk == NameKind.free && X.env.scope.kind == .function && X.env.kindOf n == some .cell) = true
            · simp only [List.map_cons, if_pos hcc, List.lookup_cons] at z ⊢
              cases hx : x == n with
              | true => simp only [hx] at z; cases z
              | false => simp only [hx] at z ⊢; exact ih z
            · simp only [List.map_cons, if_neg hcc, List.lookup_cons] at z ⊢
              cases hx : x == n with
              | true => simp only [hx] at z ⊢; exact z
              | false => simp only [hx] at z ⊢; exact ih z
        exact hN2 x (List.mem_of_getElem? (i := j) (by rw [List.getElem?_drop, Nat.add_comm]; exact e1)) (q _ z)
      have hcf : (relabel scope X.env).names.lookup x = some .cell ∨ (relabel scope X.env).names.lookup x = some .free := by
        rcases e5 with z | z | z
        · exact absurd z nl
        · exact .inl z
        · exact .inr z
      have hmem : (x, NameKind.free) ∈ scope.names := relabel_cf scope.names hcell hcf
      have hx := hN j x e1 hmem
      obtain ⟨mo, _, hl⟩ := I3.loc
      have hkx := hfr (x, .free) hmem rfl
      obtain ⟨u, ru, lk⟩ := hl j x v hx e2' (by
        rcases hkx with z | z
        · exact .inr (.inl z)
        · exact .inr (.inr z))
      refine ⟨u, ru, .inr ⟨hcf, ?_⟩⟩
      rcases lk with ⟨z, _⟩ | ⟨_, c, hc1, hc2⟩
      · rcases hkx with q | q
        · rw [q] at z; cases z
        · rw [q] at z; cases z
      · obtain ⟨c', hc'⟩ := clOf_has (cells := X.env.cells) scope.names [] hmem
        have := subC x c' hc'
        rw [hc1] at this; cases this
        obtain ⟨oc, h5, h6⟩ := hc2
        exact ⟨c, hc', oc, by rw [h4]; exact kp _ _ h5, h6⟩
    · obtain ⟨v, oc, h5, h6⟩ := I3.cell x c (subC x c e)
      exact ⟨v, oc, by rw [h4]; exact kp _ _ h5, h6⟩
    · have hp' : p ∈ X.pn ++ pins := by simpa using hp
      obtain ⟨a1, a2, a3, a4, a5⟩ := I3.pin p hp'
      refine ⟨by rw [h4]; exact kp _ _ a1, a2, ?_, fun z => ?_, a5⟩
      · have := Heap.lt_size a1
        rw [eC] at this
        exact Nat.ne_of_lt this
      · rcases List.mem_cons.mp (I3.stkSub p.1 z) with q | q
        · exact a3 q
        · exact a4 q
    · rw [h4]; exact I3.hok.kept kp
    · rw [List.length_append, List.length_replicate, I3.len]; exact hlen.symm
  have stat : ∀ {H' : Hp}, (∀ b ∈ fp, H' b = none) → ∀ b ∈ fp, FpOk (blk X scope N' C s3 H3 fp pins) [] H' b := fun hn b hb =>
    ⟨hn b hb, (ok'.exf b hb).1, ok'.exfs b hb, .inl hb, fun x c e => (ok'.exf b hb).2 x c e, fun p hp => (f3 b hb).2.2.2.2.2 p (by simpa using hp)⟩
  have fr4 : ∀ b ∈ fp, H3 b = none := fun b hb => (f3 b hb).1
  have st4 : tn 0 s4.heap := T.keep _ _ _ st3 fun b _ o e => by rw [h4]; exact kp _ _ e
  have loop : codeAny (model X.prog X.w) X.A (.compLoop (.ListComp elt [⟨tg, iter, ifs, 0⟩] scope pos) 0 (.ref it) (.ref D) (compEnvC scope (clOf X.env.cells scope.names []) C X.env))
      (compPost (model X.prog X.w) X.A X.xe none (EP X pins σ Q) (.ref D) C) s4 := by
    refine compLoop_go (fun n s' => ∃ i ys H', Inv (blk X scope N' C s3 H3 fp pins) [] (List.replicate k none ++ σ) H' s' ∧ tn i s'.heap ∧ (∀ b ∈ fp, H' b = none) ∧ W i n ys H') ?_ m0 ⟨0, [], H3, J4, st4, fr4, w0⟩
    rintro n s5 ⟨i, ys, H5, I5, st5, fr5, w5⟩
    obtain ⟨hDl, stp⟩ := turn i n ys H5 w5
    rcases stp with ⟨stop, qn⟩ | ⟨go, step⟩
    · refine thn (T.done (blk X scope N' C s3 H3 fp pins) rfl rfl rfl hc i [] s5 _ H5 (fun _ _ => False) I5 (stat fr5) st5 stop) fun r s6 ⟨hr, I6⟩ => ?_
      subst hr
      obtain ⟨m6, ns6, _⟩ := id I6.loc
      refine ⟨m6, ns6, fun h' hsb => ⟨.ref D, H5, ?_, rfl, qn⟩⟩
      have hC5 : H5 C = none := I6.free
      have un6 : Un (frs X.stack) fp H3 H5 s3.heap s6.heap := I6.base
      have neC : ∀ b o, s3.heap.get? b = some o → b ≠ C := fun b o e => by
        have := Heap.lt_size e
        rw [eC] at this
        exact Nat.ne_of_lt this
      refine I3.call' (s' := { s6 with heap := h' }) (ch := fp) I6.os ⟨fun b o e a1 a2 a3 => ?_, fun b o e a1 a2 a3 => ?_, un6.free, fun b o e a3 => ?_, un6.tups, un6.frzs, un6.tbls⟩ ?_ I6.bare (fun b hb => ?_)
      · exact (hsb.2 b (neC b o e)).trans (un6.keep b o e a1 a2 a3)
      · obtain ⟨sl, z⟩ := un6.slot b o e a1 a2 a3
        exact ⟨sl, (hsb.2 b (neC b o e)).trans z⟩
      · obtain ⟨o', z⟩ := un6.there b o e a3
        exact ⟨o', (hsb.2 b (neC b o e)).trans z⟩
      · intro b u e
        refine (I6.hok b u e).stay (fun c w' hcc q => (hsb.2 c ?_).trans q) (fun _ q => q) fun _ _ q => q
        rintro rfl
        rcases hcc with z | z
        · rw [z, e] at hC5; cases hC5
        · rw [z] at hC5; cases hC5
      · exact ⟨(f3 b hb).2.2.2.1, (f3 b hb).2.1, (f3 b hb).2.2.2.2.1, (f3 b hb).2.2.2.2.2⟩
    · refine thn (T.item (blk X scope N' C s3 H3 fp pins) rfl rfl rfl hc i [] s5 _ H5 (fun _ _ => False) I5 (stat fr5) st5 go) fun r s6 ⟨u, hr, h6⟩ => ?_
      subst hr
      refine thn h6 fun _ s7 ⟨x, H7, I7, r7, y7, st7, fr7⟩ => ?_
      have I7' := I7.pinned (stat fr7) (T.obj _ _ st7)
      refine thn (hg C s3 H3 fp pins _ s7 _ H7 x u _ I7' r7 (step x H7 y7)) fun _ s8 ⟨σ8, H8, I8, d8, q8⟩ => ?_
      refine thn (ht C s3 H3 fp pins _ s8 σ8 H8 _ I8 q8) fun b s9 ⟨H9, I9, q9⟩ => ?_
      have kz : ∀ (j : Nat) v, (List.replicate k none ++ σ)[j]? = some (some v) → σ8[j]? = some (some v) := fun j v e => by
        have hik : ¬ j < k := fun hlt => by
          rw [List.getElem?_append_left (by rw [List.length_replicate]; exact hlt), List.getElem?_replicate] at e
          split at e <;> cases e
        rw [List.getElem?_append_right (by rw [List.length_replicate]; omega), List.length_replicate, ← d8, List.getElem?_drop] at e
        have : k + (j - k) = j := by omega
        rw [this] at e; exact e
      have again : ∀ {Hz : Hp} {sz : Shared} {zs : List V} {m' : Nat}, Inv (blk X scope N' C s3 H3 fp pins) ([] ++ pinsAt fp s7.heap) σ8 Hz sz → m' < n → W (i + 1) m' zs Hz →
          ∃ m, m < n ∧ ∃ i ys H', Inv (blk X scope N' C s3 H3 fp pins) [] (List.replicate k none ++ σ) H' sz ∧ tn i sz.heap ∧ (∀ b ∈ fp, H' b = none) ∧ W i m ys H' := fun {Hz sz zs m'} Iz hm wz => by
        refine ⟨m', hm, i + 1, zs, Hz, (Iz.unpinned).weak ?_ kz, T.keep _ _ _ st7 fun b hb o e => (Iz.pin (b, o) (List.mem_append_right _ (List.mem_append_right _ (mem_pinsAt hb e)))).1, fun b hb => ?_, wz⟩
        · rw [Iz.len]; exact I5.len
        · obtain ⟨o, e, d⟩ := T.obj _ _ st7 b hb
          exact (Iz.pin (b, o) (List.mem_append_right _ (List.mem_append_right _ (mem_pinsAt hb e)))).2.1
      cases b with
      | false =>
        obtain ⟨m', hm, w9⟩ := (show ∃ m', m' < n ∧ W (i + 1) m' ys H9 by simpa using q9)
        rw [if_neg Bool.false_ne_true]
        exact again I9 hm w9
      | true =>
        rw [if_pos rfl] at q9 ⊢
        refine thn (he C s3 H3 fp pins _ s9 σ8 H9 _ I9 q9) fun u9 s10 ⟨y, H10, I10, r10, hz, hD10, m', hm, w10⟩ => ?_
        refine thn (mt_append (X := blk X scope N' C s3 H3 fp pins) _ s10 σ8 H10 (.ref D) [y] (.ref D) [u9] (fun _ H' => H' = upd H10 D (.lst (ys ++ [y]))) I10 rfl (.cons r10 .nil) ⟨D, ys, y, rfl, rfl, hD10, hz, rfl⟩) fun _ s11 ⟨_, H11, I11, _, e11⟩ => ?_
        subst e11
        exact again I11 hm w10
  exact codeAny_compStart_list loop (T.self _ 0 _ _ _ st4 loop)
end
end L2

set_option Elab.async false
set_option linter.all false
set_option maxRecDepth 100000
namespace L2
open PySem PySem.Spec PyProof.Rows

section
variable {X : Cx} {pins : List (Addr × Obj)} {σ : St} {H : Hp} {s : Shared} {h' : Heap}
theorem Inv.turnedL {t' : Nat} {fp : List Addr} (I : Inv X pins σ H s) (k : ∀ b o, b ∉ fp → s.heap.get? b = some o → h'.get? b = some o) (hf : ∀ b ∈ fp, FpOk X pins H b) : Inv X pins σ H { s with heap := h', toks := t' } := by
  have nit : ∀ b u, H b = some u → b ∉ fp := fun b u e z => by rw [(hf b z).1] at e; cases e
  refine I.step (g' := s.gens) (d' := s.drawn) (ch := fp) (fun b hb => ⟨(hf b hb).2.2.2.1, (hf b hb).2.1, (hf b hb).2.2.2.2.1, (hf b hb).2.2.2.2.2⟩) (fun b o _ _ hc e _ => k b o hc e) (fun b o _ _ hc e _ => ⟨o.slots, k b o hc e⟩) (fun _ _ _ _ n => n)
    (fun b o hc e => ⟨o, k b o hc e⟩) (fun _ _ e => e) (fun _ _ _ e => e) (fun b ps e => ⟨#[], by rw [e]; simp⟩) (fun m hm => ?_) (fun b u e => ?_) I.bare
  · obtain ⟨o, es, ep, ho, r⟩ := hm
    exact ⟨o, es, ep, k _ o (fun z => (hf _ z).2.1 rfl) ho, r⟩
  · refine (I.hok b u e).stay (fun c v hc q => k c v ?_ q) (fun _ q => q) fun _ _ q => q
    rcases hc with z | z
    · rw [z]; exact nit b u e
    · exact nit c _ z
theorem Inv.track {p : Addr} {o : HO} (I : Inv X pins σ H s) (hp : X.s₀.heap.objs.size ≤ p) (hL : p ≠ X.env.locals) (hc : ∀ x c, X.env.cells.lookup x = some c → c ≠ p) (hpin : ∀ q ∈ X.pn ++ pins, q.1 ≠ p) (hn : H p = none)
    (new : ObjOk X.prog X.w (upd H p o) s.heap p o) : Inv X pins σ (upd H p o) s := by
  refine ⟨I.ok, I.os, I.bare, ⟨I.base.keep, I.base.slot, fun b ob e n hx => ?_, I.base.there, fun b xs e => ?_, fun b ob u e => ?_, fun b ps e => ?_⟩, I.loc, I.cell, by rw [upd_ne (Ne.symm hL)]; exact I.free, fun x c e => by rw [upd_ne (hc x c e)]; exact I.freeC x c e, fun q hq => ?_, fun b u e => ?_, I.len⟩
  · rw [upd_ne (Nat.ne_of_lt (Nat.lt_of_lt_of_le (Heap.lt_size e) hp))]; exact I.base.free b ob e n hx
  · have := I.base.tups b xs e
    rw [upd_ne (ne_of_none this hn)]; exact this
  · have := I.base.frzs b ob u e
    rw [upd_ne (ne_of_none this hn)]; exact this
  · obtain ⟨more, e2⟩ := I.base.tbls b ps e
    exact ⟨more, by rw [upd_ne (ne_of_none e2 hn)]; exact e2⟩
  · obtain ⟨a1, a2, a3, a4, a5⟩ := I.pin q hq
    exact ⟨a1, by rw [upd_ne (hpin q hq)]; exact a2, a3, a4, a5⟩
  · by_cases hb : b = p
    · subst hb; rw [upd_same] at e; cases e; exact new
    · rw [upd_ne hb] at e
      exact (I.hok b u e).stay (fun _ _ _ q => q) (fun c q => by rw [upd_ne (ne_of_none q hn)]; exact q) fun c xs q => by rw [upd_ne (ne_of_none q hn)]; exact q
end

def Itz (K : PySem.W.Frag) (a b : Addr) : It :=
  ⟨fun i H => ∃ xs x ys y, SqL K H a xs ∧ xs[i]? = some x ∧ SqL K H b ys ∧ ys[i]? = some y,
   fun i H v H' => ∃ p x y, v = .ref p ∧ H p = none ∧ H' = upd H p (.tup [x, y]) ∧ (∀ xs, SqL K H a xs → xs[i]? = some x) ∧ ∀ ys, SqL K H b ys → ys[i]? = some y,
   fun i H => ∃ xs ys, SqL K H a xs ∧ SqL K H b ys ∧ (xs.length ≤ i ∨ ys.length ≤ i)⟩
theorem turn_zip {P : Program} {w : World} {K : PySem.W.Frag} {es : List Expr} {x1} {pos : Pos} (a b z TI TO i1 i2 : Addr) : Turn P w K (.Tuple es x1 pos) (Itz K a b) [z, TI, TO, i1, i2] z
    (fun i h => IsZip h z TI TO .none ∧ IsPair h TI (.ref i1) (.ref i2) ∧ (∃ u v, IsPair h TO u v) ∧ h.IsListIter i1 a i ∧ h.IsListIter i2 b i ∧ TI ≠ TO ∧ i1 ≠ i2) where
  mem := by simp
  obj := fun i h ⟨hz, hTI, ⟨u, v, hTO⟩, h1, h2, _⟩ c hc => by
    simp only [List.mem_cons, List.not_mem_nil, or_false] at hc
    rcases hc with rfl | rfl | rfl | rfl | rfl
    · exact ⟨_, hz, fun v q => by cases (show Data.fields _ = Data.cell v from q)⟩
    · exact ⟨_, hTI, fun v q => by cases (show Data.seq _ _ = Data.cell v from q)⟩
    · exact ⟨_, hTO, fun v q => by cases (show Data.seq _ _ = Data.cell v from q)⟩
    · obtain ⟨o, e, _, d⟩ := h1
      exact ⟨o, e, fun v q => by rw [d] at q; cases q⟩
    · obtain ⟨o, e, _, d⟩ := h2
      exact ⟨o, e, fun v q => by rw [d] at q; cases q⟩
  keep := fun i h h' ⟨hz, hTI, ⟨u, v, hTO⟩, h1, h2, n1, n2⟩ k => ⟨k z (by simp) _ hz, k TI (by simp) _ hTI, ⟨u, v, k TO (by simp) _ hTO⟩, h1.at fun o e => k i1 (by simp) o e, h2.at fun o e => k i2 (by simp) o e, n1, n2⟩
  item := by
    intro X hP hw hK hc i pins s σ H E I hf ⟨hz, hTI, ⟨u, v, hTO⟩, h1, h2, n1, n2⟩ hg
    subst hP hw hK
    obtain ⟨xs, x, ys, y, hqa, hx, hqb, hy⟩ := hg
    obtain ⟨its, rv, p, hsz⟩ := I.list hqa
    obtain ⟨jts, rw', p', hsz'⟩ := I.list hqb
    obtain ⟨ux, hux, rux⟩ := rv.get hx
    obtain ⟨uy, huy, ruy⟩ := rw'.get hy
    have D : ZipApart z TI TO i1 i2 a b := by
      obtain ⟨oa, ea, ca, _, _⟩ := p.isList
      obtain ⟨ob, eb, cb, _, _⟩ := p'.isList
      obtain ⟨o1, e1, c1, _⟩ := h1
      obtain ⟨o2, e2, c2, _⟩ := h2
      have dz : ∀ {c : Addr} {o : Obj} {T : String}, s.heap.get? c = some o → o.cls = .type T → T ≠ "zip" → c ≠ z := fun e q n r => by
        rw [r, hz] at e; cases e; cases q; exact n rfl
      have dT : ∀ {c d : Addr} {o q : Obj} {T U : String}, s.heap.get? c = some o → o.cls = .type T → s.heap.get? d = some q → q.cls = .type U → T ≠ U → c ≠ d := fun e1 c1 e2 c2 n r => by
        subst r; rw [e1] at e2; cases e2; rw [c1] at c2; cases c2; exact n rfl
      exact ⟨dz hTI rfl (by decide), dz hTO rfl (by decide), dz e1 c1 (by decide), dz e2 c2 (by decide), n1, dT hTI rfl e1 c1 (by decide), dT hTI rfl e2 c2 (by decide), dT hTO rfl e1 c1 (by decide), dT hTO rfl e2 c2 (by decide), n2,
        dz ea ca (by decide), dT ea ca hTO rfl (by decide), dT ea ca e1 c1 (by decide), dT ea ca e2 c2 (by decide), dz eb cb (by decide), dT eb cb hTO rfl (by decide), dT eb cb e1 c1 (by decide), dT eb cb e2 c2 (by decide)⟩
    refine wpAny_pyNext_zip_item D hz hTI hTO h1 h2 p.isList p'.isList (x := ux) (y := uy) (by simpa using hux) (by simpa using huy) fun h' a1 a2 a3 a4 a5 a6 hk => ?_
    refine ⟨_, rfl, ?_⟩
    refine wpAny_letOwnedTupleGo_zip (s := { s with heap := h' }) a1 fun h2' hz' hs' => ?_
    have lt : ∀ b ∈ [z, TI, TO, i1, i2], b < s.heap.objs.size := fun c hcm => by
      simp only [List.mem_cons, List.not_mem_nil, or_false] at hcm
      rcases hcm with rfl | rfl | rfl | rfl | rfl
      · exact Heap.lt_size hz
      · exact Heap.lt_size hTI
      · exact Heap.lt_size hTO
      · obtain ⟨o, e, _⟩ := h1; exact Heap.lt_size e
      · obtain ⟨o, e, _⟩ := h2; exact Heap.lt_size e
    have hTI2 : IsPair h2' TI (.ref i1) (.ref i2) := hs'.extBut _ _ D.TIz (hk _ _ D.TIz D.TITO D.TIi1 D.TIi2 hTI)
    have hTO2 : IsPair h2' TO ux uy := hs'.extBut _ _ D.TOz a2
    have h12 : h2'.IsListIter i1 a (i + 1) := a3.extBut hs'.extBut D.i1z
    have h22 : h2'.IsListIter i2 b (i + 1) := a4.extBut hs'.extBut D.i2z
    have pz : s.heap.objs.size ≠ z := Nat.ne_of_gt (Heap.lt_size hz)
    have hp2 : IsPair h2' s.heap.objs.size ux uy := hs'.extBut _ _ pz a5
    have kk : ∀ c o, c ∉ [z, TI, TO, i1, i2] → s.heap.get? c = some o → h2'.get? c = some o := fun c o hcm e => by
      simp only [List.mem_cons, List.not_mem_nil, or_false, not_or] at hcm
      exact hs'.extBut _ _ hcm.1 (hk c o hcm.1 hcm.2.2.1 hcm.2.2.2.1 hcm.2.2.2.2 e)
    have I1 : Inv X pins σ H { s with heap := h2', toks := s.toks } := I.turnedL kk hf
    have fP : FpOk X pins H s.heap.objs.size := I.fpOk (Nat.le_refl _) (I.hok.fresh (Nat.le_refl _))
    have I2 : Inv X pins σ (upd H s.heap.objs.size (.tup [x, y])) { s with heap := h2', toks := s.toks } := by
      refine I1.track I.sz (fP.2.1) fP.2.2.2.2.1 fP.2.2.2.2.2 fP.1 ?_
      exact ⟨(show 2 ≤ sizeLine by decide), [ux, uy], .cons rux (.cons ruy .nil), ⟨_, hp2, rfl, _, rfl⟩⟩
    refine ⟨.ref s.heap.objs.size, _, I2, rfl, ⟨_, x, y, rfl, fP.1, rfl, fun zs hzs => by rw [I.list_inj hzs hqa]; exact hx, fun zs hzs => by rw [I.list_inj hzs hqb]; exact hy⟩, ⟨hz', hTI2, ⟨_, _, hTO2⟩, h12, h22, n1, n2⟩, fun c hcm => ?_⟩
    rw [upd_ne (Nat.ne_of_lt (lt c hcm))]
    exact (hf c hcm).1
  done := by
    intro X hP hw hK hc i pins s σ H E I hf ⟨hz, hTI, ⟨u, v, hTO⟩, h1, h2, n1, n2⟩ hg
    subst hP hw hK
    obtain ⟨xs, ys, hqa, hqb, hend⟩ := hg
    obtain ⟨its, rv, p, hsz⟩ := I.list hqa
    obtain ⟨jts, rw', p', hsz'⟩ := I.list hqb
    have D : ZipApart z TI TO i1 i2 a b := by
      obtain ⟨oa, ea, ca, _, _⟩ := p.isList
      obtain ⟨ob, eb, cb, _, _⟩ := p'.isList
      obtain ⟨o1, e1, c1, _⟩ := h1
      obtain ⟨o2, e2, c2, _⟩ := h2
      have dz : ∀ {c : Addr} {o : Obj} {T : String}, s.heap.get? c = some o → o.cls = .type T → T ≠ "zip" → c ≠ z := fun e q n r => by
        rw [r, hz] at e; cases e; cases q; exact n rfl
      have dT : ∀ {c d : Addr} {o q : Obj} {T U : String}, s.heap.get? c = some o → o.cls = .type T → s.heap.get? d = some q → q.cls = .type U → T ≠ U → c ≠ d := fun e1 c1 e2 c2 n r => by
        subst r; rw [e1] at e2; cases e2; rw [c1] at c2; cases c2; exact n rfl
      exact ⟨dz hTI rfl (by decide), dz hTO rfl (by decide), dz e1 c1 (by decide), dz e2 c2 (by decide), n1, dT hTI rfl e1 c1 (by decide), dT hTI rfl e2 c2 (by decide), dT hTO rfl e1 c1 (by decide), dT hTO rfl e2 c2 (by decide), n2,
        dz ea ca (by decide), dT ea ca hTO rfl (by decide), dT ea ca e1 c1 (by decide), dT ea ca e2 c2 (by decide), dz eb cb (by decide), dT eb cb hTO rfl (by decide), dT eb cb e1 c1 (by decide), dT eb cb e2 c2 (by decide)⟩
    have e1 := rv.length
    have e2 := rw'.length
    refine wpAny_pyNext_zip_end (I.ok.hd hc) D hz hTI hTO h1 h2 p.isList p'.isList (k1 := i) (k2 := i) (by
      rcases hend with h | h
      · left; simp; omega
      · right; simp; omega) fun h' hk => ⟨rfl, ?_⟩
    exact I.turnedL (t' := s.toks) (fun c o hcm e => by
      simp only [List.mem_cons, List.not_mem_nil, or_false, not_or] at hcm
      exact hk c o hcm.1 hcm.2.2.1 hcm.2.2.2.1 hcm.2.2.2.2 e) hf
  self := fun _ _ _ _ _ st h => wpAny_pyIter_zip st.1 h
section
variable {X : Cx}
def iZip (K : PySem.W.Frag) (ta : TA) : TI := fun σ H R => ta σ H fun vs H1 => ∃ a b, vs = [.ref a, .ref b] ∧ (∃ xs, SqL K H1 a xs) ∧ (∃ ys, SqL K H1 b ys) ∧ R (Itz K a b) H1
theorem pi_zip {es : List Expr} {x1} {tpos : Pos} {e1 e2 : Expr} {ta : TA} {p pos : Pos} (hg : Gl X "zip") (hm : X.mg "zip" = none) (ha : PA X [e1, e2] ta) (hs : starEach [e1, e2] X.env = [(false, eval e1 X.env), (false, eval e2 X.env)] := by rfl) (hs2 : starEach [e2] X.env = [(false, eval e2 X.env)] := by rfl) :
    PI X (.Tuple es x1 tpos) (.Call (.Name "zip" p) [e1, e2] [] pos) (iZip X.K ta) := by
  intro pins s σ H R I h
  refine Call_ (ld_blt I hg hm (by rfl) (PyProof.Rows.callWith_type1 (thn (ha pos pins s σ H _ I h) fun us s1 ⟨vs, H1, I1, r1, q1⟩ => ?_) (by rw [hs, hs2]) (by rw [hs2]; rfl)))
  obtain ⟨a, b, rfl, ⟨xs, hqa⟩, ⟨ys, hqb⟩, q⟩ := q1
  obtain ⟨u1, u2, rfl, ru1, ru2⟩ := vals2 r1
  cases (show u1 = Value.ref a from ru1)
  cases (show u2 = Value.ref b from ru2)
  obtain ⟨its, rv, pa, hsz⟩ := I1.list hqa
  obtain ⟨jts, rw', pb, hsz'⟩ := I1.list hqb
  refine call_zip_2 pa.isList pb.isList fun h' hz hTI hTO h1 h2 hsize hk => ?_
  refine wpAny_pyIter_zip (s := { s1 with heap := h' }) hz ?_
  refine ⟨_, _, _, _, H1, rfl, I1.kept (t' := s1.toks) hk, turn_zip a b (s1.heap.objs.size + 4) (s1.heap.objs.size + 2) (s1.heap.objs.size + 3) s1.heap.objs.size (s1.heap.objs.size + 1), ⟨hz, hTI, ⟨_, _, hTO⟩, h1, h2, (fun z => by have : s1.heap.objs.size + 2 = s1.heap.objs.size + 3 := z; omega), (fun z => by have : s1.heap.objs.size = s1.heap.objs.size + 1 := z; omega)⟩, fun c hc => ?_, q⟩
  have hge : s1.heap.objs.size ≤ c := by
    simp only [List.mem_cons, List.not_mem_nil, or_false] at hc
    rcases hc with h | h | h | h | h <;> (rw [h]; omega)
  exact I1.fpOk hge (I1.hok.fresh hge)
end

def Ite (K : PySem.W.Frag) (a : Addr) : It :=
  ⟨fun i H => ∃ xs x, SqL K H a xs ∧ xs[i]? = some x,
   fun i H v H' => ∃ p x, v = .ref p ∧ H p = none ∧ H' = upd H p (.tup [.int i, x]) ∧ ∀ xs, SqL K H a xs → xs[i]? = some x,
   fun i H => ∃ xs, SqL K H a xs ∧ xs.length ≤ i⟩
theorem turn_enum {P : Program} {w : World} {K : PySem.W.Frag} {es : List Expr} {x1} {pos : Pos} (a e it : Addr) : Turn P w K (.Tuple es x1 pos) (Ite K a) [e, it] e
    (fun i h => (∃ old, IsEnum h e it i old) ∧ h.IsListIter it a i) where
  mem := by simp
  obj := fun i h ⟨⟨old, he⟩, h1⟩ c hc => by
    simp only [List.mem_cons, List.not_mem_nil, or_false] at hc
    rcases hc with rfl | rfl
    · exact ⟨_, he, fun v q => by cases (show Data.fields _ = Data.cell v from q)⟩
    · obtain ⟨o, e, _, d⟩ := h1
      exact ⟨o, e, fun v q => by rw [d] at q; cases q⟩
  keep := fun i h h' ⟨⟨old, he⟩, h1⟩ k => ⟨⟨old, k e (by simp) _ he⟩, h1.at fun o q => k it (by simp) o q⟩
  item := by
    intro X hP hw hK hc i pins s σ H E I hf ⟨⟨old, he⟩, h1⟩ hg
    subst hP hw hK
    obtain ⟨xs, x, hqa, hx⟩ := hg
    obtain ⟨its, rv, p, hsz⟩ := I.list hqa
    obtain ⟨ux, hux, rux⟩ := rv.get hx
    have hne : e ≠ it := fun z => by
      obtain ⟨o1, e1, c1, _⟩ := h1
      rw [← z, he] at e1; cases e1
      exact absurd (show Value.type "enumerate" = Value.type "list_iterator" from c1) (by decide)
    refine wpAny_pyNext_enum_item he h1 p.isList (x := ux) (by simpa using hux) hne fun h' a1 a3 a5 a6 hk => ?_
    refine ⟨_, rfl, ?_⟩
    refine wpAny_letOwnedTupleGo_enum (s := { s with heap := h', toks := s.toks + 1 }) a1 fun h2' hz' hs' => ?_
    have lt : ∀ b ∈ [e, it], b < s.heap.objs.size := fun c hcm => by
      simp only [List.mem_cons, List.not_mem_nil, or_false] at hcm
      rcases hcm with rfl | rfl
      · exact Heap.lt_size he
      · obtain ⟨o, q, _⟩ := h1; exact Heap.lt_size q
    have h12 : h2'.IsListIter it a (i + 1) := a3.extBut hs'.extBut (Ne.symm hne)
    have pz : s.heap.objs.size ≠ e := Nat.ne_of_gt (Heap.lt_size he)
    have hp2 : h2'.get? s.heap.objs.size = some { cls := .type "tuple", data := .seq #[.int i s.toks, ux] } := hs'.extBut _ _ pz a5
    have kk : ∀ c o, c ∉ [e, it] → s.heap.get? c = some o → h2'.get? c = some o := fun c o hcm q => by
      simp only [List.mem_cons, List.not_mem_nil, or_false, not_or] at hcm
      exact hs'.extBut _ _ hcm.1 (hk c o hcm.1 hcm.2 q)
    have I1 : Inv X pins σ H { s with heap := h2', toks := s.toks + 1 } := I.turnedL kk hf
    have fP : FpOk X pins H s.heap.objs.size := I.fpOk (Nat.le_refl _) (I.hok.fresh (Nat.le_refl _))
    have I2 : Inv X pins σ (upd H s.heap.objs.size (.tup [.int i, x])) { s with heap := h2', toks := s.toks + 1 } := by
      refine I1.track I.sz (fP.2.1) fP.2.2.2.2.1 fP.2.2.2.2.2 fP.1 ?_
      exact ⟨(show 2 ≤ sizeLine by decide), [.int i s.toks, ux], .cons ⟨_, rfl⟩ (.cons rux .nil), ⟨_, hp2, rfl, _, rfl⟩⟩
    refine ⟨.ref s.heap.objs.size, _, I2, rfl, ⟨_, x, rfl, fP.1, rfl, fun zs hzs => by rw [I.list_inj hzs hqa]; exact hx⟩, ⟨⟨_, hz'⟩, h12⟩, fun c hcm => ?_⟩
    rw [upd_ne (Nat.ne_of_lt (lt c hcm))]
    exact (hf c hcm).1
  done := by
    intro X hP hw hK hc i pins s σ H E I hf ⟨⟨old, he⟩, h1⟩ hg
    subst hP hw hK
    obtain ⟨xs, hqa, hend⟩ := hg
    obtain ⟨its, rv, p, hsz⟩ := I.list hqa
    have e1 := rv.length
    refine wpAny_pyNext_enum_end (I.ok.hd hc) he h1 p.isList (i := i) (by simp; omega) fun h' hk => ⟨rfl, ?_⟩
    exact I.turnedL (t' := s.toks) (fun c o hcm q => by
      simp only [List.mem_cons, List.not_mem_nil, or_false, not_or] at hcm
      exact hk c o hcm.2 q) hf
  self := fun _ _ _ _ _ ⟨⟨_, st⟩, _⟩ h => wpAny_pyIter_enum st h
section
variable {X : Cx}
def iEnum (K : PySem.W.Frag) (ta : TA) : TI := fun σ H R => ta σ H fun vs H1 => ∃ a, vs = [.ref a] ∧ (∃ xs, SqL K H1 a xs) ∧ R (Ite K a) H1
theorem pi_enum {es : List Expr} {x1} {tpos : Pos} {e1 : Expr} {ta : TA} {p pos : Pos} (hg : Gl X "enumerate") (hm : X.mg "enumerate" = none) (ha : PA X [e1] ta) (hs : starEach [e1] X.env = [(false, eval e1 X.env)] := by rfl) :
    PI X (.Tuple es x1 tpos) (.Call (.Name "enumerate" p) [e1] [] pos) (iEnum X.K ta) := by
  intro pins s σ H R I h
  refine Call_ (ld_blt I hg hm (by rfl) (PyProof.Rows.callWith_type1 (thn (ha pos pins s σ H _ I h) fun us s1 ⟨vs, H1, I1, r1, q1⟩ => ?_) hs rfl))
  obtain ⟨a, rfl, ⟨xs, hqa⟩, q⟩ := q1
  obtain ⟨u1, rfl, ru1⟩ := vals1 r1
  cases (show u1 = Value.ref a from ru1)
  obtain ⟨its, rv, pa, hsz⟩ := I1.list hqa
  refine call_enumerate_list pa.isList fun h' hz h1 hsize hk => ?_
  refine wpAny_pyIter_enum (s := { s1 with heap := h' }) hz ?_
  refine ⟨_, _, _, _, H1, rfl, I1.kept (t' := s1.toks) hk, turn_enum a (s1.heap.objs.size + 1) s1.heap.objs.size, ⟨⟨_, hz⟩, h1⟩, fun c hc => ?_, q⟩
  have hge : s1.heap.objs.size ≤ c := by
    simp only [List.mem_cons, List.not_mem_nil, or_false] at hc
    rcases hc with h | h <;> (rw [h]; omega)
  exact I1.fpOk hge (I1.hok.fresh hge)
end
end L2

set_option Elab.async false
set_option linter.all false
set_option maxRecDepth 100000
namespace L2
open PySem PySem.Spec PyProof.Rows

theorem vals_of_items {P : Nat → Value → Prop} {acc : List Value} {xs : List V} (hl : acc.length = xs.length) (h : ∀ (j : Nat) (v : Value), acc[j]? = some v → P j v) (hP : ∀ (j : Nat) v x, P j v → xs[j]? = some x → RelV x v) : Vals xs acc := by
  induction xs generalizing acc P with
  | nil =>
    cases acc with
    | nil => exact .nil
    | cons _ _ => simp at hl
  | cons x xs ih =>
    cases acc with
    | nil => simp at hl
    | cons u acc =>
      refine .cons (hP 0 u x (h 0 u rfl) rfl) (ih (P := fun j => P (j + 1)) (by simpa using hl) (fun j v e => h (j + 1) v (by simpa using e)) fun j v y p e => hP (j + 1) v y p (by simpa using e))

section
variable {X : Cx}
theorem bools_of : ∀ {bs : List Bool} {us : List Value}, Vals (bs.map V.bl) us → LSm.BoolsAre us bs
  | [], _, .nil => .nil
  | b :: bs, _, .cons r t => by
    obtain rfl := (show _ = Value.bool b from r)
    exact .cons b (bools_of t)
theorem call_all (hc : X.calm = true) : CallR X (.builtin "all") (fun xs H Q => ∃ (a : Addr) (bs : List Bool), xs = [V.ref a] ∧ SqL X.K H a (bs.map V.bl) ∧ Q (.bl (bs.all id)) H) := by
  intro pins s σ H xs us Q I r h
  obtain ⟨a, bs, rfl, hq, q⟩ := h
  obtain ⟨u, rfl, ru⟩ := vals1 r
  cases (show u = Value.ref a from ru)
  obtain ⟨its, rv, p, hz⟩ := I.list hq
  obtain ⟨m, F⟩ := I.fr
  have hlt : a < s.heap.objs.size := by obtain ⟨_, e, _⟩ := p.isList; exact Heap.lt_size e
  have hb := bools_of rv
  refine call_all_walk (wpAny_pyIter_list p.isList ?_)
  refine ⟨s.heap.objs.size, [s.heap.objs.size, a], [s.heap.objs.size], its.toArray.size, _, _, fun i => (bs[i]?).getD true, rfl, Walks.list (A := X.A.in1) (I.ok.hd hc) _ a (Nat.ne_of_lt hlt) its.toArray,
    ⟨⟨_, Heap.get?_push_size _ rfl, rfl, rfl⟩, p.isList.push _⟩, fun i v s' Q' E' hP hQ => ?_, fun h' tk hk => ?_⟩
  · obtain ⟨b, e, rfl⟩ := hb.get i v (by simpa using hP)
    simp only [e, Option.getD_some] at hQ
    exact wpAny_truthy_bool hQ
  · have e : ((List.range its.toArray.size).all fun i => (bs[i]?).getD true) = bs.all id := by
      rw [List.size_toArray, hb.length]; exact LSm.range_all bs
    rw [e]
    exact ⟨.bl (bs.all id), H, I.kept (LSm.kept_iter hk), rfl, q⟩
theorem call_range1 : CallR X (.type "range") (fun xs H Q => ∃ j : Int, xs = [.int j] ∧ ∀ p, H p = none → Q (.ref p) (upd H p (.rng 0 j))) := by
  intro pins s σ H xs us Q I r h
  obtain ⟨j, rfl, q⟩ := h
  obtain ⟨u, rfl, t, rfl⟩ := vals1 r
  refine call_range_1 ⟨.ref s.heap.objs.size, _, I.laid (fun b o e => Heap.get?_push_of_some _ e) (Nat.le_refl _) ?_, rfl, q _ (I.hok.fresh (Nat.le_refl _))⟩
  exact ⟨_, _, _, Heap.get?_push_size _ rfl⟩
def intsV (n : Nat) : List V := (List.range n).map fun i => V.int (i : Nat)
theorem intsV_length (n : Nat) : (intsV n).length = n := by simp [intsV]
theorem intsV_get {n i : Nat} (h : i < n) : (intsV n)[i]? = some (.int i) := by simp [intsV, h]
theorem call_list_rng (hc : X.calm = true) : CallR X (.type "list") (fun xs H Q => ∃ p j, xs = [.ref p] ∧ H p = some (.rng 0 j) ∧ 0 ≤ j ∧ j ≤ 2 ^ 24 ∧ ∀ l, H l = none → Q (.ref l) (upd H l (.lst (intsV j.toNat)))) := by
  intro pins s σ H xs us Q I r h
  obtain ⟨p, j, rfl, hp, h0, h1, q⟩ := h
  obtain ⟨u, rfl, ru⟩ := vals1 r
  cases (show u = Value.ref p from ru)
  obtain ⟨t, u, v, e⟩ := (show ObjOk X.prog X.w H s.heap p (.rng 0 j) from I.hok p _ hp)
  have sz : (j.toNat : Nat) ≤ sizeLine := by rw [sizeLine_eq]; omega
  refine call_list_range (n := j.toNat) (I.ok.hd hc) e (small_one (by omega) (by omega) (by omega) (by omega)) (by rw [rangeSize_one]; split <;> omega) (by omega) fun h' tk acc c hk hS hi => ?_
  refine ⟨.ref s.heap.objs.size, _, I.laid hk (Nat.le_refl _) ?_, rfl, q _ (I.hok.fresh (Nat.le_refl _))⟩
  refine ⟨by rw [intsV_length]; exact sz, acc.toList, c, vals_of_items (P := fun i v => ∃ t, v = .int ((0 : Int) + i * 1) t) (by rw [intsV_length, Array.length_toList]; exact hi.1) (fun i v e => hi.2 i v (by simpa using e)) (fun i v x ⟨t, e⟩ ex => ?_), by simpa using hS⟩
  subst e
  have hlt : i < j.toNat := by
    have := (List.getElem?_eq_some_iff.mp ex).1
    rw [intsV_length] at this; exact this
  rw [intsV_get hlt] at ex
  cases ex
  exact ⟨t, by congr 1; omega⟩
theorem call_list_dK (hc : X.calm = true) : CallR X (.type "list") (fun xs H Q => ∃ p kvs, xs = [.ref p] ∧ Rd H p (.dK kvs) ∧ ∀ l, H l = none → Q (.ref l) (upd H l (.lst (kvs.map fun kv => kV kv.1)))) := by
  intro pins s σ H xs us Q I r h
  obtain ⟨p, kvs, rfl, hp, q⟩ := h
  obtain ⟨u, rfl, ru⟩ := vals1 r
  cases (show u = Value.ref p from ru)
  obtain ⟨z, hd, vs, rel, o, es, ep, g1, g2, g3, g4, g5, g6⟩ := dk_rd I.hok hp
  refine PySem.W.kdl_call (PySem.W.kdl_dict (knd := mixKind X.prog X.w) (kvs := vs) (ep := ep) hd) (I.ok.hd hc) ⟨o, es, g1, g2, g3, g4, g5, g6⟩ (by rw [← rel.length]; exact z) fun h' tk acc c hk hS hi => ?_
  refine ⟨.ref s.heap.objs.size, _, I.laid hk (Nat.le_refl _) ?_, rfl, q _ (I.hok.fresh (Nat.le_refl _))⟩
  refine ⟨by rw [List.length_map]; exact z, acc.toList, c, vals_of_items (P := fun i v => ∃ k x, vs[i]? = some (k, x) ∧ (mixKind X.prog X.w).is k v = true) (by rw [List.length_map, Array.length_toList, hi.1, rel.length]) (fun i v e => hi.2 i v (by simpa using e)) (fun i v x ⟨k, y, e1, e2⟩ ex => ?_), by simpa using hS⟩
  have hk1 : (kvs.map (·.1))[i]? = some k := by
    have := rel.keys
    rw [this, List.getElem?_map, e1]; rfl
  rw [List.getElem?_map] at ex hk1
  cases hkv : kvs[i]? with
  | none => rw [hkv] at ex; cases ex
  | some kv =>
    rw [hkv] at ex hk1
    cases ex
    have : kv.1 = k := by simpa using hk1
    subst this
    rcases keyIs_shape (k := kv.1) (v := v) e2 with ⟨i, t, e3, e4⟩ | ⟨x, t, e3, e4⟩
    · show RelV (kV kv.1) v
      rw [e3, e4]; exact ⟨t, rfl⟩
    · show RelV (kV kv.1) v
      rw [e3, e4]; exact ⟨t, rfl⟩
end
end L2

set_option Elab.async false
set_option linter.all false
set_option maxRecDepth 100000
namespace L2
open PySem PySem.Spec PyProof.Rows

theorem inKeys_map (k : Str) : ∀ D : List (Str × PyData), KTD.inKeys k (D.map fun p => (p.1, KTD.Dat.flat p.2)) = (D.any fun p => decide (k = p.1))
  | [] => rfl
  | p :: D => by rw [List.map_cons, List.any_cons, KTD.inKeys, inKeys_map k D]
section
variable {X : Cx}
abbrev TabK (K : PySem.W.Frag) (a : Addr) (D : List (Str × PyData)) : Prop := KTD.tabLook KTD.flatLooks (fun b => K.lookup b) a D = true
theorem tab_here {pins : List (Addr × Obj)} {σ : St} {H : Hp} {s : Shared} {a : Addr} {D : List (Str × PyData)} (I : Inv X pins σ H s) (T : TabK X.K a D) : KTD.Here s.heap s.heap a (D.map fun p => (p.1, KTD.Dat.flat p.2)) :=
  ⟨(KTD.tab_of_look (fun _ _ x => KTD.flat_of_looks x) (fun b o e => I.kIn b o e) T).text, fun _ _ e => e⟩
theorem op_notInK : OpR X (compareOp .NotIn) (fun x y H Q => ∃ k a D, x = V.str k ∧ y = V.ref a ∧ TabK X.K a D ∧ Q (.bl (!(D.any fun p => decide (k = p.1)))) H) := by
  intro pins s σ H x y v u Q I rx ry h
  obtain ⟨k, a, D, rfl, rfl, T, q⟩ := h
  obtain ⟨t, rfl⟩ := (show ∃ t, v = Value.str k t from rx)
  cases (show u = Value.ref a from ry)
  refine KTD.notin_text (tab_here I T) ⟨.bl (!KTD.inKeys k (D.map fun (p : Str × PyData) => (p.1, KTD.Dat.flat p.2))), H, I.tok _, rfl, ?_⟩
  rw [inKeys_map]; exact q
theorem ix_K : IxR X (fun x y H Q => ∃ k a D i, x = V.ref a ∧ y = V.str k ∧ TabK X.K a D ∧ D.lookup k = some (PyData.int i) ∧ (D.all fun p => match p.2 with | .int _ => true | _ => false) = true ∧ Q (.int i) H) := by
  intro value slice pins s σ H x y v u Q I rx ry h hs
  obtain ⟨k, a, D, i, rfl, rfl, T, e, hp, q⟩ := h
  cases (show v = Value.ref a from rx)
  obtain ⟨t, rfl⟩ := (show ∃ t, u = Value.str k t from ry)
  have e1 : ∀ D : List (Str × PyData), (D.all fun p => match p.2 with | .int _ => true | _ => false) = true → ((D.map fun p => (p.1, KTD.Dat.flat p.2)).all fun p => KTD.plain p.2) = true := fun D hD => by
    rw [List.all_map]
    refine List.all_eq_true.mpr fun p hp' => ?_
    have := List.all_eq_true.mp hD p hp'
    cases hq : p.2 <;> simp [hq] at this <;> simp [Function.comp, hq, KTD.plain]
  have e2 : ∀ D : List (Str × PyData), KTD.datumAt k (D.map fun p => (p.1, KTD.Dat.flat p.2)) = (D.lookup k).map KTD.Dat.flat := fun D => by
    induction D with
    | nil => rfl
    | cons p D ih =>
      obtain ⟨x, d⟩ := p
      rw [List.map_cons, KTD.datumAt, List.lookup_cons, ih]
      by_cases hk : k = x
      · subst hk; simp
      · have : (k == x) = false := beq_eq_false_iff_ne.mpr hk
        simp [hk, this]
  have hT := tab_here I T
  have hat : KTD.datumAt k (D.map fun p => (p.1, KTD.Dat.flat p.2)) = some (KTD.Dat.flat (.int i)) := by rw [e2 D, e]; rfl
  have hmem : KTD.inKeys k (D.map fun p => (p.1, KTD.Dat.flat p.2)) = true := by rw [← KTD.isSome_datumAt, hat]; rfl
  refine subscriptTail_builtin_flat hT.typeIs slot_dict_getitem.lookup ?_ hs
  unfold getItem
  try with_reducible refine wpAny_holding ?_
  refine wpAny_bind (wpAny_sequenceKey hT.typeIs (by decide) ?_)
  refine wpAny_bind (wpAny_callSpecial?_slot (name := Str.ofString "__getitem__") hT.typeIs slot_dict_getitem
    (wpAny_call_entry slot_dict_getitem hT.typeIs entry_dict_getitem ?_ (args_dict_getitem _ _)))
  show wpAny _ _ (dictGet a (.str k t) >>= _) _ _ s
  refine wpAny_bind (KTD.dictGet_text hT (fun d v ha hv => wpAny_pure ⟨v, rfl, wpAny_pure ⟨KTD.notRef_of_plain (KTD.plain_at (e1 D hp) ha) hv, ?_⟩⟩) fun hn => absurd hn (KTD.at_of_mem hmem))
  rw [hat] at ha
  cases ha
  obtain ⟨t', rfl⟩ : ∃ t, v = Value.int i t := by
    exact PyProof.V.Flat.int_inv (show PyProof.V.Flat v (PyData.int i) from hv)
  exact ⟨.int i, H, I.tok _, ⟨_, rfl⟩, q⟩
end
end L2

set_option Elab.async false
set_option linter.all false
set_option maxRecDepth 100000
namespace L2
open PySem PySem.Spec PyProof.Rows
structure FunG (K : PySem.W.Frag) (x qual : Str) (st : Stmt) (dV : Value) (f : Addr) (fd : FuncData) : Prop where
  ex : ∃ (oc : Value) (od : Option Addr) (kV doc pm : Value) (an : Option Addr) (cdv ct : Value) (osl : Array (Option Value)),
    fd = PySem.W.fnOf x qual (defArgs st) (defBody st) (defScope st) dV kV doc pm an cdv ct ∧ K.lookup f = some ⟨oc, od, .func fd, osl⟩ ∧ PySem.W.codeIn K cdv qual = true
  kp : PySem.W.keepIn K (.ref f) = true
section
variable {P : Program} {w : World} {K : PySem.W.Frag} {mg : Str → Option Value} {base : Heap}
theorem FunG.ok {x qual : Str} {st : Stmt} {dV : Value} {f : Addr} {fd : FuncData} {N ps : List Str} {k : Nat} {sp : Sp} (F : FunG K x qual st dV f fd) (S : FnScope N ps (defScope st)) (len : ∀ vs H Q E, sp vs H Q E → vs.length = ps.length)
    (hbody : ∀ (cdv : Value) (A : Around) (outer : List Env) (s : Shared) (H : Hp) (vs : List V) (Q : VK) (E : XK), Room k (A.deeper (envOfC qual (defScope st) s.heap.objs.size f cdv)) → sp vs H Q E →
      ∃ t, PSs (cxOf CX0 P w K mg base N qual (defScope st) f cdv A outer s H E).nox (defBody st) t ∧ t { nx := fun _ H' => Q .non H', rt := Q } (start N vs) H) : FnOk P w K mg base CX0 (k + 1) f fd ps sp := by
  obtain ⟨oc, od, kV, doc, pm, an, cdv, ct, osl, rfl, lk, hcd⟩ := F.ex
  refine fn_of lk hcd S len fun A outer s H vs Q E hr hsp => ?_
  obtain ⟨t, h, q⟩ := hbody cdv A outer s H vs Q E hr hsp
  exact ⟨t, h.nox, q⟩
theorem FunG.binds {x qual : Str} {st : Stmt} {dV : Value} {f : Addr} {fd : FuncData} {ps : List Str} (F : FunG K x qual st dV f fd)
    (h : ∀ (kV doc pm : Value) (an : Option Addr) (cdv ct : Value) (us : List Value), us.length = ps.length → bindArgs (PySem.W.fnOf x qual (defArgs st) (defBody st) (defScope st) dV kV doc pm an cdv ct) ⟨us, []⟩ = pure (ps.zip us)) : Binds K fd ps [] := by
  obtain ⟨oc, od, kV, doc, pm, an, cdv, ct, osl, rfl, lk, hcd⟩ := F.ex
  exact .all (h kV doc pm an cdv ct)
theorem funG_mk {x qual : Str} {st : Stmt} {f : Addr} {oc : Value} {od an : Option Addr} {osl : Array (Option Value)} {dV kV doc pm cdv ct : Value} (l : K.lookup f = some ⟨oc, od, .func (PySem.W.fnOf x qual (defArgs st) (defBody st) (defScope st) dV kV doc pm an cdv ct), osl⟩)
    (c : PySem.W.codeIn K cdv qual = true) (k : PySem.W.keepIn K (.ref f) = true) : FunG K x qual st dV f (PySem.W.fnOf x qual (defArgs st) (defBody st) (defScope st) dV kV doc pm an cdv ct) := ⟨⟨oc, od, kV, doc, pm, an, cdv, ct, osl, rfl, l, c⟩, k⟩
end
end L2

set_option Elab.async false
set_option linter.all false
set_option maxRecDepth 100000
namespace L2
open PySem PySem.Spec PyProof.Rows
section
variable {X : Cx} {K : PySem.W.Frag}
theorem pg_tupK (hK : X.K = K) {es : List Expr} {k : Nat} {t : TGs} {n : Nat} {pos : Pos} (hc : X.calm = true) (h : PGs X es t)
    (hn : (assignEach es X.env).length = n := by rfl) (hst : (assignEach es X.env).findIdx? (·.1) = none := by rfl) : PG X (.Tuple es k pos) (gTup K n t) := by
  subst hK; exact pg_tup hc h hn hst
end
end L2
namespace L2
theorem tTrueT {σ : St} {H : Hp} {A B : Hp → Prop} (h : A H) : tTrue σ H (fun b H3 => if b = true then A H3 else B H3) := (iteT h : if true = true then A H else B H)
end L2
namespace L2
open PySem PySem.Spec PyProof.Rows
section
variable {X : Cx} {CX : CXT} {k : Nat} {f C : Addr} {fd : FuncData} {ps ks : List Str} {sp : Sp} {E : XK} {x m : Str} {p pos apos kpos : Pos} {e o : Expr} {es : List Expr} {kws : List Keyword} {te ta : TE} {t tk : TA}
  {g : List Value → List Value → List Value} {gV : List V → List V → List V}
end
end L2
namespace L2
theorem ifJ {b : Bool} {A B : Prop} (hA : b = true → B → A) (g : B) : if b = true then A else B := by
  cases b
  · exact iteF g
  · exact iteT (hA rfl g)
end L2

set_option Elab.async false
set_option linter.all false
set_option maxRecDepth 100000
namespace L2
open PySem PySem.Spec PyProof.Rows
section
variable {prog : Program} {w : World} {K : Type} [DecidableEq K] {knd : HeapKind prog w K} {A : Around} {E : Value → Shared → Prop} {s : Shared} {d a : Addr} {k : K} {xs : List (K × Addr × Value)}
theorem filter_not_mem {α : Type} : ∀ {xs : List (K × α)} {k : K}, k ∉ xs.map (·.1) → xs.filter (fun x => decide (x.1 ≠ k)) = xs
  | [], _, _ => rfl
  | x :: xs, k, h => by
    rw [List.map_cons, List.mem_cons, not_or] at h
    rw [List.filter_cons, if_pos (by simpa using fun e => h.1 e.symm), filter_not_mem h.2]
theorem erase_filter {α : Type} : ∀ {xs : List (K × α)} {j : Nat} {k : K} {p : α}, (xs.map (·.1)).Nodup → xs[j]? = some (k, p) → xs.eraseIdx j = xs.filter (fun x => decide (x.1 ≠ k))
  | [], _, _, _, _, h => by simp at h
  | x :: xs, 0, k, p, hn, h => by
    rw [List.map_cons, List.nodup_cons] at hn
    simp only [List.getElem?_cons_zero, Option.some.injEq] at h
    subst h
    rw [List.eraseIdx_cons_zero, List.filter_cons, if_neg (by simp), filter_not_mem hn.1]
  | x :: xs, j + 1, k, p, hn, h => by
    rw [List.map_cons, List.nodup_cons] at hn
    simp only [List.getElem?_cons_succ] at h
    have hmem : k ∈ xs.map (·.1) := List.mem_map.mpr ⟨(k, p), List.mem_of_getElem? h, rfl⟩
    have hne : ¬ x.1 = k := fun e => hn.1 (e ▸ hmem)
    rw [List.eraseIdx_cons_succ, erase_filter hn.2 h, List.filter_cons, if_pos (by simpa using hne)]
theorem eraseIdx_map {α β : Type} (f : α → β) : ∀ (xs : List α) (j : Nat), (xs.map f).eraseIdx j = (xs.eraseIdx j).map f
  | [], _ => rfl
  | _ :: _, 0 => rfl
  | x :: xs, j + 1 => by rw [List.map_cons, List.eraseIdx_cons_succ, List.eraseIdx_cons_succ, List.map_cons, eraseIdx_map f xs j]
theorem takeOut_heap {Q : Option DictEntry → Shared → Prop} {p : Addr × Value} (hu : knd.room A) (hkey : knd.is s.heap k a) (hm : s.heap.DictOfH knd d xs) (hp : atKey xs k = some p)
    (hQ : ∀ h', h'.DictOfH knd d (xs.filter fun x => decide (x.1 ≠ k)) → Heap.SameBut d s.heap h' → Q (some ⟨knd.hash k, .ref p.1, p.2⟩) { s with heap := h', toks := s.toks + knd.draws k })
    (hsz : xs.length ≤ sizeLine) : wpAny (model prog w) A (Builtin.Dict.takeOut d (.ref a)) Q E s := by
  obtain ⟨o, es, ep, ho, hc, hd, he, his, hn⟩ := hm
  have hes : es.size ≤ sizeLine := by have e := size_of_entries he; omega
  unfold Builtin.Dict.takeOut
  try with_reducible refine wpAny_holding ?_
  refine wpAny_bind (knd.pyHash hu hkey (wpAny_bind (wpAny_dictFind_heap (s := { s with toks := s.toks + knd.draws k }) hu hkey ho hd he his hn ?_ ?_)))
  · intro hno
    rw [atKey_none_of_get hno] at hp
    cases hp
  · intro j q hj
    rw [atKey_of_get hn hj] at hp
    cases hp
    refine wpAny_bind (wpAny_dictEntries (s := { s with toks := s.toks + knd.draws k }) ho hd ?_)
    rw [entry_at he j, hj]
    show wpAny _ _ (updateDictKeys d (·.eraseIdxIfInBounds j) (keyPart (.ref a)) >>= _) _ _ _
    refine wpAny_bind (wpAny_updateDictKeys (hz := hes) (s := { s with toks := s.toks + knd.draws k }) ho hd (wpAny_pure (hQ _ ⟨_, _, ep + 1, Heap.get?_update_self _ ho (Obj.isFreed_of_dict (Obj.data_mapDictKeys hd _)),
      hc.mapDictKeys _, Obj.data_mapDictKeys hd _, ?_, ?_, ?_⟩ (Heap.SameBut.update ..))))
    · rw [← erase_filter hn hj, ← eraseIdx_map, ← he]
      obtain ⟨l⟩ := es
      simp
    · intro x hx
      exact knd.keeps (his x (List.mem_filter.mp hx).1) ho hd (Heap.SameBut.update ..)
    · exact hn.sublist ((List.filter_sublist).map _)
theorem meetsH_dict_delitem :
    MeetsIn prog w (Builtin.«dict.__delitem__» ⟨[.ref d, .ref a], []⟩) (fun A R s => knd.room A.in1 ∧ ∃ k xs p, knd.is s.heap k a ∧ s.heap.DictOfH knd d xs ∧ xs.length ≤ sizeLine ∧ atKey xs k = some p ∧
      ∀ h', h'.DictOfH knd d (xs.filter fun x => decide (x.1 ≠ k)) → Heap.SameBut d s.heap h' → R (.ok (.ret .none)) { s with heap := h', toks := s.toks + knd.draws k }) :=
  .of_wp fun A R s ⟨hu, k, xs, p, hkey, hm, hsz, hp, h⟩ => by
    unfold Builtin.«dict.__delitem__»
    refine wpAny_bind ?_
    unfold Builtin.Dict.dictSlotArgs
    refine wpAny_bind (wpAny_notOrdered_dict hm.typeIs ?_)
    show wpAny _ _ (pure (Value.ref d, Value.ref a)) _ _ s
    refine wpAny_pure ?_
    show wpAny _ _ (Builtin.Dict.takeOut d (.ref a) >>= _) _ _ s
    refine wpAny_bind (takeOut_heap (hsz := hsz) hu hkey hm hp fun h' hm' hs' => ?_)
    exact wpAny_bind (wpAny_letGo (wpAny_pure ⟨.none, rfl, h h' hm' hs'⟩))
end
end L2
namespace L2
open PySem PySem.Spec PyProof.Rows
theorem KT.drop {H : Hp} {kvs : List (List Key × V)} {xs : List (List Key × Addr × Value)} (r : KT H kvs xs) (k : List Key) : KT H (dropK kvs k) (xs.filter fun x => decide (x.1 ≠ k)) := by
  unfold dropK
  induction r with
  | nil => exact .nil
  | @cons p q ps qs hq t ih =>
    rw [List.filter_cons, List.filter_cons]
    have e : p.1 = q.1 := hq.1
    by_cases c : q.1 = k
    · rw [if_neg (by simpa using e.trans c), if_neg (by simpa using c)]; exact ih
    · rw [if_pos (by simpa using fun z => c (e.symm.trans z)), if_pos (by simpa using c)]; exact .cons hq ih
section
variable {X : Cx} {pins : List (Addr × Obj)} {σ : St} {H : Hp} {s : Shared} {a b : Addr} {kvs : List (List Key × V)} {k : List Key} {u : Value} {A : Around} {E : Value → Shared → Prop}
theorem d_delItemT {v : V} {Q : Unit → Shared → Prop} (hu : A.units + 1 < cLine) (I : Inv X pins σ H s) (e : H a = some (.dT kvs)) (eb : H b = some (.tup (k.map kV))) (l : valV kvs k = some v)
    (h : ∀ s', Inv X pins σ (upd H a (.dT (dropK kvs k))) s' → Q () s') : wpAny (model X.prog X.w) A (delItem (.ref a) (.ref b)) Q E s := by
  obtain ⟨z, hd, xs, rel, dd⟩ := dt_of I.hok e
  obtain ⟨w', hw, rw'⟩ := RelO.some_of (v := v) (o := (atKey xs k).map (·.2)) (by rw [← l]; exact rel.val k)
  obtain ⟨p, hp, hp2⟩ := Option.map_eq_some_iff.mp hw
  have hz : xs.length ≤ sizeLine := by rw [← Paired.length rel]; exact z
  refine wpAny_delItem_slot dd.typeIs (by decide) PySem.F.slot_dict_delitem
    (call_meetsIn PySem.F.slot_dict_delitem dd.typeIs PySem.F.entry_dict_delitem (PySem.F.args_dict_delitem_2 _ _) meetsH_dict_delitem ⟨tupleKind_room_in1 hu, k, xs, p, key_of I.hok eb, dd, hz, hp, fun h' dd' hs => h _ ?_⟩)
  obtain ⟨q, es, ep, hq, h2, h3, h4, _, h5⟩ := dd'
  refine d_write I (by rw [e]; exact True.intro) hs ⟨q, hq⟩ ⟨Nat.le_trans (dropK_le kvs k) z, hd, _, (rel.drop k).keeps fun c ys ec => ?_, q, es, ep, hq, h2, h3, h4, h5⟩
  rw [upd_ne (ne_of ec e (fun z => nomatch z))]
  exact ec
end
section
variable {X : Cx} {o i e : Expr} {td ty : TE} {tpos pos apos cpos : Pos}
def sDDelT (td ty : TE) : TS := fun D σ H => td σ H fun x H1 => ty σ H1 fun y H2 => ∃ a b kvs k v, x = .ref a ∧ y = .ref b ∧ H2 a = some (.dT kvs) ∧ H2 b = some (.tup (k.map kV)) ∧ valV kvs k = some v ∧ D.nx σ (upd H2 a (.dT (dropK kvs k)))
theorem ps_ddelT (hu : X.A.units + 1 < cLine) (ho : PE X o td) (hi : PE X i ty) : PS X (.Delete [.Subscript o i tpos] pos) (sDDelT td ty) := by
  intro pins s σ H D I h
  refine wpAny_Delete (wpAny_deleteEach_cons (wpAny_delete_Subscript (thn (ho pins s σ H _ I h) fun u s1 ⟨x, H1, I1, rx, q1⟩ => thn (hi pins s1 σ H1 _ I1 q1) fun iv s2 ⟨y, H2, I2, ry, a, b, kvs, k, v, ex, ey, e, eb, l, q2⟩ => ?_)))
  subst ex ey
  obtain rfl : u = Value.ref a := rx
  obtain rfl : iv = Value.ref b := ry
  exact d_delItemT hu I2 e eb l fun s3 I3 => wpAny_deleteEach_nil ⟨σ, _, I3, q2⟩
theorem op_addL : OpR X (binaryOp .Add) (fun x y H Q => ∃ a b xs ys, x = .ref a ∧ y = .ref b ∧ SqL X.K H a xs ∧ SqL X.K H b ys ∧ xs.length + ys.length ≤ sizeLine ∧ ∀ l, H l = none → Q (.ref l) (upd H l (.lst (xs ++ ys)))) := by
  intro pins s σ H x y u v Q I rx ry h
  obtain ⟨a, b, xs, ys, rfl, rfl, ha, hb, hz, q⟩ := h
  cases (show u = Value.ref a from rx)
  cases (show v = Value.ref b from ry)
  obtain ⟨ia, ra, ⟨⟨cls, dd, data, sl⟩, n, ho, hc, _, hd⟩, _⟩ := I.list ha
  obtain ⟨ib, rb, ⟨⟨cls2, dd2, data2, sl2⟩, n2, ho2, hc2, _, hd2⟩, _⟩ := I.list hb
  simp only at hc hd hc2 hd2
  subst hc hd hc2 hd2
  have e : ia.toArray ++ ib.toArray = (ia ++ ib).toArray := by simp
  have e1 := ra.length
  have e2 := rb.length
  refine concat_meets ⟨_, ho, rfl⟩ ⟨_, ho2, rfl⟩ noFill_list_add seq_list_add PySem.F.slot_list_add PySem.F.entry_list_add (PySem.F.args_list_add_2 _ _) (list_addW a b ia.toArray ib.toArray n n2 dd dd2 sl sl2 (by simp; omega)) ⟨ho, ho2, ?_⟩
  rw [e]
  refine ⟨.ref s.heap.objs.size, _, I.laid (a := s.heap.objs.size) (o := .lst (xs ++ ys)) (t' := s.toks) (fun _ _ q => Heap.get?_push_of_some _ q) (Nat.le_refl _) ⟨by simpa using hz, ia ++ ib, 0, ra.append rb, Heap.get?_push_size _ rfl⟩, rfl, q _ (I.hok.fresh (Nat.le_refl _))⟩
theorem reads_ints {h : Heap} : ∀ {ns : List Int} {vs : List Value}, Vals (ns.map V.int) vs → ReadsAll h vs (ns.map PyData.int) []
  | [], _, r => by cases r; exact .nil
  | n :: ns, _, r => by
    cases r with
    | cons r1 r2 =>
      obtain ⟨t, rfl⟩ := r1
      exact .cons (as := []) (.int _ t) (reads_ints r2)
theorem reads_tup {pins : List (Addr × Obj)} {s : Shared} {σ : St} {H : Hp} {a : Addr} {ns : List Int} (I : Inv X pins σ H s) (h : H a = some (.tup (ns.map V.int))) : Reads s.heap (.ref a) (.tuple (ns.map PyData.int)) [] := by
  obtain ⟨_, its, r, o, h1, h2, n, h3⟩ := (show ObjOk X.prog X.w H s.heap a (.tup (ns.map V.int)) from I.hok a _ h)
  exact reads_tuple_at h1 h2 h3 (by simpa using reads_ints r)
theorem shaped_tup (ns : List Int) : SeqAt.shaped (.tuple (ns.map PyData.int)) = true := by
  simp [SeqAt.shaped, PyData.canLay0, PyData.depth, PySem.W.ke_canLayAll0, PySem.W.ke_depthAll]
theorem same_tup (ns ms : List Int) : PySem.Spec.same (.tuple (ns.map PyData.int)) (.tuple (ms.map PyData.int)) = decide (ns = ms) := by
  simp only [PySem.Spec.same]; exact PySem.W.ke_sameAll ns ms
def rTup (neg : Bool) : R2 := fun x y H Q => ∃ (a b : Addr) (ns ms : List Int), x = .ref a ∧ y = .ref b ∧ H a = some (.tup (ns.map V.int)) ∧ H b = some (.tup (ms.map V.int)) ∧ Q (.bl (if neg then !decide (ns = ms) else decide (ns = ms))) H
theorem tup_has (ns : List Int) : (Shape.tuples .int).has (.tuple (ns.map PyData.int)) = true := by
  simp only [Shape.has]
  induction ns with
  | nil => rfl
  | cons n ns ih => simp [Shape.hasAll, Shape.has] at ih ⊢; try exact ih
theorem op_eqT (hu : X.A.units + 64 < cLine) : OpR X (compareOp .Eq) (rTup false) := by
  intro pins s σ H x y u v Q I rx ry h
  obtain ⟨a, b, ns, ms, rfl, rfl, ha, hb, q⟩ := h
  cases (show u = Value.ref a from rx)
  cases (show v = Value.ref b from ry)
  exact eq_dataH_same (reads_tup I ha) (reads_tup I hb) (shaped_tup _) (shaped_tup _) hu (SeqAt.noMix_of_shape (.tuples .int) rfl _ _ (tup_has ns) (tup_has ms)) (by rw [same_tup]; exact fin_bl I q (by simp))
end
end L2
namespace L2
open PySem PySem.Spec PyProof.Rows
theorem for_enum {K : PySem.W.Frag} {a : Addr} {xs : List V} {g : TG} {tb : TS} {D : Ends} {σ : St} {H : Hp} (Pv : Nat → St → Hp → Prop) (h0 : Pv 0 σ H) (hl : ∀ i σ H, i ≤ xs.length → Pv i σ H → SqL K H a xs)
    (hs : ∀ i x σ H p, xs[i]? = some x → Pv i σ H → H p = none → g (.ref p) σ (upd H p (.tup [.int i, x])) fun σ2 H2 => tb { D with nx := Pv (i + 1), ct := Pv (i + 1), bk := D.nx } σ2 H2) (hd : ∀ σ H, Pv xs.length σ H → D.nx σ H) :
    ∃ W : Nat → Nat → St → Hp → Prop, (∃ m, W 0 m σ H) ∧ ∀ i m σ H, W i m σ H →
      ((Ite K a).stop i H ∧ D.nx σ H) ∨ ((Ite K a).go i H ∧ ∃ N : St → Hp → Prop, (∀ σ' H', N σ' H' → ∃ m', m' < m ∧ W (i + 1) m' σ' H') ∧ ∀ x H', (Ite K a).yld i H x H' → g x σ H' fun σ2 H2 => tb { D with nx := N, ct := N, bk := D.nx } σ2 H2) := by
  refine ⟨fun i m σ H => m = xs.length - i ∧ i ≤ xs.length ∧ Pv i σ H, ⟨xs.length, by simp, Nat.zero_le _, h0⟩, ?_⟩
  rintro i m σ H ⟨rfl, hi, p⟩
  have hq := hl i σ H hi p
  by_cases hlt : i < xs.length
  · refine .inr ⟨⟨xs, xs[i], hq, List.getElem?_eq_getElem hlt⟩, Pv (i + 1), fun σ' H' p' => ⟨xs.length - (i + 1), by omega, rfl, hlt, p'⟩, fun x H' y => ?_⟩
    obtain ⟨b, z, rfl, hb, rfl, hz⟩ := y
    exact hs i z σ H b (hz xs hq) p hb
  · have e : i = xs.length := by omega
    subst e
    exact .inl ⟨⟨xs, hq, Nat.le_refl _⟩, hd σ H p⟩
end L2

set_option Elab.async false
set_option linter.all false
set_option maxRecDepth 100000
namespace L2
open PySem PySem.Spec PyProof.Rows
section
variable {prog : Program} {w : World} {A : Around} {E : Value → Shared → Prop} {s : Shared}
end
section
variable {X : Cx} {pins : List (Addr × Obj)} {σ : St} {H : Hp} {s : Shared} {a : Addr} {y v : V} {u r : Value} {o : Option V} {A : Around} {E : Value → Shared → Prop}
end
end L2

set_option Elab.async false
set_option linter.all false
set_option maxRecDepth 100000
namespace L2
open PySem PySem.Spec PyProof.Rows
section
variable {X : Cx}
theorem ps_setC {ix : Nat} {nm : Str} {pos' spos : Pos} {elt tg iter : Expr} {ifs : List Expr} {scope : Scope} {pos : Pos} {wi : TI} {k : Nat} {g : TG} {tc : TT} {te : TE} (hNd : X.N.Nodup) (hix : X.N[ix]? = some nm) (hLx : Loc X.env.scope nm) (N' : List Str) (hc : X.calm = true) (hi : PI X tg iter wi)
    (hg : ∀ C s₀ H₀ fp pins, PG (blk X scope N' C s₀ H₀ fp pins) tg g) (ht : ∀ C s₀ H₀ fp pins, PTs (blk X scope N' C s₀ H₀ fp pins) ifs tc) (he : ∀ C s₀ H₀ fp pins, PE (blk X scope N' C s₀ H₀ fp pins) elt te)
    (hk : scope.kind = .function) (hcell : ∀ y ∈ scope.names, y.2 ≠ .cell) (hnames : ∀ y ∈ scope.names, y.2 = .local → scope.names.lookup y.1 = some .local)
    {esc : Scope} (hsc : X.env.scope = esc) (hfr' : ∀ y ∈ scope.names, y.2 = .free → esc.names.lookup y.1 = some .cell ∨ esc.names.lookup y.1 = some .free)
    (hlen : N'.length = k + X.N.length)
    (hN : ∀ (i : Nat) (x : Str), N'[i + k]? = some x → (x, NameKind.free) ∈ scope.names → X.N[i]? = some x)
    (hN2 : ∀ x ∈ N'.drop k, scope.names.lookup x ≠ some .local)
    (hs : ∀ x, foldedSetIterable iter X.env x = pure x := by intro _; rfl)
    (hsw : swapsWith (.ListComp elt [⟨tg, iter, ifs, 0⟩] scope pos) (some (.Name nm pos')) spos.line X.env = pure true := by rfl)
    (hf : X.fn nm = true ∨ X.env.scope.names.lookup nm = some .local := by first | exact .inl rfl | exact .inr rfl | assumption) :
    PS X (.Assign [.Name nm pos'] (.ListComp elt [⟨tg, iter, ifs, 0⟩] scope pos) spos) (tAsg (tLC wi k g tc te) (gName ix)) := by
  intro pins s σ H Dn I h
  have hfr : ∀ y ∈ scope.names, y.2 = .free → X.env.kindOf y.1 = some .cell ∨ X.env.kindOf y.1 = some .free := fun y hy hf => by
    show X.env.scope.names.lookup y.1 = _ ∨ X.env.scope.names.lookup y.1 = _
    rw [hsc]; exact hfr' y hy hf
  have hcells : ∀ y ∈ scope.names, y.2 = .free → ∃ c, X.env.cells.lookup y.1 = some c := fun y hy hf => I.ok.has y.1 (hfr y hy hf)
  have hclos := closure_eq scope X.env hcells
  rw [exec_Assign_Name_used _ _ _ _ hsw]
  refine wpAny_bind (wpAny_standAt (wpAny_bind ?_))
  show wpAny _ X.A (do let _ ← comprehension (.ListComp elt [⟨tg, iter, ifs, 0⟩] scope pos) scope X.env _ (newList []) false (eval iter X.env) (some (assign (.Name nm pos') X.env))) _ _ s
  refine wpAny_bind (wpAny_mono (wpAny_comprehension_free (Q := fun _ s' => SP X pins Dn .next s') (use := some (assign (.Name nm pos') X.env)) rfl hs hclos hk hnames ?_) (fun _ s' hq => wpAny_pure (wpAny_pure hq)) fun _ _ e => e)
  refine (thn (hi pins s σ H _ I h) fun v s1 h1 => thn h1 fun itv s2 h2 => ?_)
  obtain ⟨it, fp, tn, J, H2, e, I2, T, st2, f2, R⟩ := h2
  subst e
  refine wpAny_newObj_type ?_
  have hD : H2 s2.heap.objs.size = none := I2.hok.fresh (Nat.le_refl _)
  obtain ⟨W, ⟨m0, w0⟩, turn⟩ := R _ hD
  generalize eD : s2.heap.objs.size = D at *
  have I3 : Inv X pins σ (upd H2 D (.lst [])) { s2 with heap := s2.heap.push { cls := .type "list", dict := none, data := .seq ([] : List Value).toArray } } :=
    I2.laid (a := D) (o := .lst []) (t' := s2.toks) (fun b u e => Heap.get?_push_of_some _ e) (Nat.le_of_eq eD) ⟨Nat.zero_le _, [], 0, .nil, by rw [← eD]; exact Heap.get?_push_size _ rfl⟩
  generalize e3 : ({ s2 with heap := s2.heap.push { cls := .type "list", dict := none, data := .seq ([] : List Value).toArray } } : Shared) = s3 at *
  have st3 : tn 0 s3.heap := T.keep _ _ _ st2 fun b _ o e => by rw [← e3]; exact Heap.get?_push_of_some _ e
  have lt2 : ∀ b ∈ fp, b < s2.heap.objs.size := fun b hb => by
    obtain ⟨o, e, _⟩ := T.obj _ _ st2 b hb
    exact Heap.lt_size e
  have neD : ∀ b ∈ fp, b ≠ D := fun b hb => by
    have := lt2 b hb
    rw [eD] at this
    exact Nat.ne_of_lt this
  have f3 : ∀ b ∈ fp, FpOk X pins (upd H2 D (.lst [])) b := fun b hb => ⟨by rw [upd_ne (neD b hb)]; exact (f2 b hb).1, (f2 b hb).2⟩
  generalize upd H2 D (.lst []) = H3 at *
  refine wpAny_newFunctionEnv hcell (by intro y hy; simp at hy) (fun h₁ hns₁ hsb₁ => ?_) hk
  try dsimp only at hns₁ hsb₁ ⊢
  have lt3 : ∀ b ∈ fp, b < s3.heap.objs.size := fun b hb => by
    obtain ⟨o, e, _⟩ := T.obj _ _ st3 b hb
    exact Heap.lt_size e
  generalize eC : s3.heap.objs.size = C at *
  have kp : ∀ b o, s3.heap.get? b = some o → h₁.get? b = some o := fun b o e => (hsb₁.2 b (by rw [← eC]; exact Nat.ne_of_lt (Heap.lt_size e))).trans (Heap.get?_push_of_some _ e)
  have subC : ∀ x c, (clOf X.env.cells scope.names []).lookup x = some c → X.env.cells.lookup x = some c := fun x c e => clOf_sub scope.names [] hcells (fun y d z => by simp at z) e
  have hCnone : H3 C = none := I3.hok.fresh (Nat.le_of_eq eC)
  have ok' : (blk X scope N' C s3 H3 fp pins).Ok := {
    mod := I3.ok.mod
    kind := hk
    glob := I3.ok.glob
    blt := I3.ok.blt
    above := Nat.le_of_eq eC
    inj := fun x y c a b => I3.ok.inj x y c (subC x c a) (subC y c b)
    has := fun x hx => clOf_has scope.names [] (relabel_cf scope.names hcell hx)
    cab := fun x c a _ => absurd a Bool.false_ne_true
    hd := I3.ok.hd
    frames := I3.ok.frames
    stk := .inl rfl
    exf := fun b hb => ⟨by have := lt3 b hb; exact Nat.ne_of_lt this, fun x c e => (f3 b hb).2.2.2.2.1 x c (subC x c e)⟩
    bs := I3.bs
    bsz := Nat.le_trans I3.ok.bsz I3.sz
    noex := fun b o e hb => by
      rcases (f3 b hb).2.2.2.1 with z | z
      · exact I3.ok.noex b o e z
      · exact absurd (Nat.lt_of_lt_of_le (Heap.lt_size e) (Nat.le_trans I3.ok.bsz z)) (Nat.lt_irrefl _)
    exfs := fun b hb z => by
      rcases List.mem_cons.mp (I3.stkSub b z) with e | e
      · exact (f3 b hb).2.1 e
      · exact (f3 b hb).2.2.1 e
    funs := I3.stack
    frf := I3.stkFree }
  have s4os : ({ s3 with heap := h₁, toks := s3.toks + ([] : List (Str × Value)).length } : Shared).os = s3.os := rfl
  generalize e4 : ({ s3 with heap := h₁, toks := s3.toks + ([] : List (Str × Value)).length } : Shared) = s4 at *
  have h4 : s4.heap = h₁ := by rw [← e4]
  have J4 : Inv (blk X scope N' C s3 H3 fp pins) [] (List.replicate k none ++ σ) H3 s4 := by
    refine ⟨ok', s4os, by rw [← e4]; exact I3.bare, ?_, ⟨_, by rw [h4]; exact hns₁, fun i x v e1 e2 e5 => ?_⟩, fun x c e => ?_, hCnone, fun x c e => I3.freeC x c (subC x c e), fun p hp => ?_, ?_, ?_⟩
    · rw [h4]; exact Un.kept kp
    · have hik : ¬ i < k := fun hlt => by
        rw [List.getElem?_append_left (by rw [List.length_replicate]; exact hlt), List.getElem?_replicate] at e2
        split at e2 <;> cases e2
      obtain ⟨j, rfl⟩ : ∃ j, i = j + k := ⟨i - k, by omega⟩
      have e2' : σ[j]? = some (some v) := by
        rw [List.getElem?_append_right (by rw [List.length_replicate]; omega), List.length_replicate] at e2
        have : j + k - k = j := by omega
        rw [this] at e2; exact e2
      have nl : (relabel scope X.env).names.lookup x ≠ some .local := fun z => by
        have q : ∀ (l : List (Str × NameKind)), (l.map fun (n, k) => if (k == NameKind.free && X.env.scope.kind == .function && X.env.kindOf n == some .cell) then (n, NameKind.cell) else (n, k)).lookup x = some .local → l.lookup x = some .local := by
          intro l
          induction l with
          | nil => intro z; simp at z
          | cons y l ih =>
            obtain ⟨n, kk⟩ := y
            intro z
            by_cases hcc : (kk == NameKind.free && X.env.scope.kind == .function && X.env.kindOf n == some .cell) = true
            · simp only [List.map_cons, if_pos hcc, List.lookup_cons] at z ⊢
              cases hx : x == n with
              | true => simp only [hx] at z; cases z
              | false => simp only [hx] at z ⊢; exact ih z
            · simp only [List.map_cons, if_neg hcc, List.lookup_cons] at z ⊢
              cases hx : x == n with
              | true => simp only [hx] at z ⊢; exact z
              | false => simp only [hx] at z ⊢; exact ih z
        exact hN2 x (List.mem_of_getElem? (i := j) (by rw [List.getElem?_drop, Nat.add_comm]; exact e1)) (q _ z)
      have hcf : (relabel scope X.env).names.lookup x = some .cell ∨ (relabel scope X.env).names.lookup x = some .free := by
        rcases e5 with z | z | z
        · exact absurd z nl
        · exact .inl z
        · exact .inr z
      have hmem : (x, NameKind.free) ∈ scope.names := relabel_cf scope.names hcell hcf
      have hx := hN j x e1 hmem
      obtain ⟨mo, _, hl⟩ := I3.loc
      have hkx := hfr (x, .free) hmem rfl
      obtain ⟨u, ru, lk⟩ := hl j x v hx e2' (by
        rcases hkx with z | z
        · exact .inr (.inl z)
        · exact .inr (.inr z))
      refine ⟨u, ru, .inr ⟨hcf, ?_⟩⟩
      rcases lk with ⟨z, _⟩ | ⟨_, c, hc1, hc2⟩
      · rcases hkx with q | q
        · rw [q] at z; cases z
        · rw [q] at z; cases z
      · obtain ⟨c', hc'⟩ := clOf_has (cells := X.env.cells) scope.names [] hmem
        have := subC x c' hc'
        rw [hc1] at this; cases this
        obtain ⟨oc, h5, h6⟩ := hc2
        exact ⟨c, hc', oc, by rw [h4]; exact kp _ _ h5, h6⟩
    · obtain ⟨v, oc, h5, h6⟩ := I3.cell x c (subC x c e)
      exact ⟨v, oc, by rw [h4]; exact kp _ _ h5, h6⟩
    · have hp' : p ∈ X.pn ++ pins := by simpa using hp
      obtain ⟨a1, a2, a3, a4, a5⟩ := I3.pin p hp'
      refine ⟨by rw [h4]; exact kp _ _ a1, a2, ?_, fun z => ?_, a5⟩
      · have := Heap.lt_size a1
        rw [eC] at this
        exact Nat.ne_of_lt this
      · rcases List.mem_cons.mp (I3.stkSub p.1 z) with q | q
        · exact a3 q
        · exact a4 q
    · rw [h4]; exact I3.hok.kept kp
    · rw [List.length_append, List.length_replicate, I3.len]; exact hlen.symm
  have stat : ∀ {H' : Hp}, (∀ b ∈ fp, H' b = none) → ∀ b ∈ fp, FpOk (blk X scope N' C s3 H3 fp pins) [] H' b := fun hn b hb =>
    ⟨hn b hb, (ok'.exf b hb).1, ok'.exfs b hb, .inl hb, fun x c e => (ok'.exf b hb).2 x c e, fun p hp => (f3 b hb).2.2.2.2.2 p (by simpa using hp)⟩
  have fr4 : ∀ b ∈ fp, H3 b = none := fun b hb => (f3 b hb).1
  have st4 : tn 0 s4.heap := T.keep _ _ _ st3 fun b _ o e => by rw [h4]; exact kp _ _ e
  have loop : codeAny (model X.prog X.w) X.A (.compLoop (.ListComp elt [⟨tg, iter, ifs, 0⟩] scope pos) 0 (.ref it) (.ref D) (compEnvC scope (clOf X.env.cells scope.names []) C X.env))
      (compPost (model X.prog X.w) X.A X.xe (some (assign (.Name nm pos') X.env)) (fun _ s' => SP X pins Dn .next s') (.ref D) C) s4 := by
    refine compLoop_go (fun n s' => ∃ i ys H', Inv (blk X scope N' C s3 H3 fp pins) [] (List.replicate k none ++ σ) H' s' ∧ tn i s'.heap ∧ (∀ b ∈ fp, H' b = none) ∧ W i n ys H') ?_ m0 ⟨0, [], H3, J4, st4, fr4, w0⟩
    rintro n s5 ⟨i, ys, H5, I5, st5, fr5, w5⟩
    obtain ⟨hDl, stp⟩ := turn i n ys H5 w5
    rcases stp with ⟨stop, qn⟩ | ⟨go, step⟩
    · refine thn (T.done (blk X scope N' C s3 H3 fp pins) rfl rfl rfl hc i [] s5 _ H5 (fun _ _ => False) I5 (stat fr5) st5 stop) fun r s6 ⟨hr, I6⟩ => ?_
      subst hr
      obtain ⟨m6, ns6, _⟩ := id I6.loc
      have hC5 : H5 C = none := I6.free
      have un6 : Un (frs X.stack) fp H3 H5 s3.heap s6.heap := I6.base
      have IX : Inv X pins σ H5 s6 := by
        refine I3.call' (s' := s6) (ch := fp) I6.os un6 I6.hok I6.bare (fun b hb => ?_)
        exact ⟨(f3 b hb).2.2.2.1, (f3 b hb).2.1, (f3 b hb).2.2.2.2.1, (f3 b hb).2.2.2.2.2⟩
      have fpC : FpOk X pins H5 C := I3.fpOk (Nat.le_of_eq eC) hC5
      obtain ⟨oC, esC, epC, gC, dC, rC⟩ := ns6
      have IXp := IX.pinned (fp := [C]) (fun b hb => by rw [List.mem_singleton.mp hb]; exact fpC) (fun b hb => by rw [List.mem_singleton.mp hb]; exact ⟨oC, gC, fun v z => by rw [dC] at z; cases z⟩)
      have sto := pg_name (pos := pos') hNd hix hLx hf _ s6 σ H5 (.ref D) (.ref D) (fun σ' H' => σ' = σ.set ix (some (.ref D)) ∧ H' = H5) IXp rfl ⟨rfl, rfl⟩
      show wpAny _ _ (assign (.Name nm pos') X.env (.ref D)) _ _ s6
      refine thn sto fun _ s7 ⟨σ7, H7, I7, e7, e7'⟩ => ?_
      subst e7 e7'
      have gC7 : s7.heap.get? C = some oC := (I7.pin (C, oC) (List.mem_append_right _ (List.mem_append_right _ (mem_pinsAt (List.mem_singleton.mpr rfl) gC)))).1
      refine ⟨_, ⟨oC, esC, epC, gC7, dC, rC⟩, fun h' hsb => ⟨σ.set ix (some (.ref D)), _, ?_, qn⟩⟩
      refine (I7.unpinned).call' (s' := { s7 with heap := h' }) (ch := [C]) rfl ⟨fun b o e a1 a2 a3 => ?_, fun b o e a1 a2 a3 => ?_, fun _ _ _ n _ => n, fun b o e a3 => ?_, fun _ _ q => q, fun _ _ _ q => q, fun _ ps q => ⟨#[], by rw [q]; simp⟩⟩ ?_ I7.bare (fun b hb => ?_)
      · exact (hsb.2 b (fun z => a3 (List.mem_singleton.mpr z))).trans e
      · exact ⟨o.slots, (hsb.2 b (fun z => a3 (List.mem_singleton.mpr z))).trans e⟩
      · exact ⟨o, (hsb.2 b (fun z => a3 (List.mem_singleton.mpr z))).trans e⟩
      · intro b u e
        refine (I7.hok b u e).stay (fun c w' hcc q => (hsb.2 c ?_).trans q) (fun _ q => q) fun _ _ q => q
        rintro rfl
        rcases hcc with z | z
        · rw [z, e] at hC5; cases hC5
        · rw [z] at hC5; cases hC5
      · rw [List.mem_singleton.mp hb]
        exact ⟨fpC.2.2.2.1, fpC.2.1, fpC.2.2.2.2.1, fpC.2.2.2.2.2⟩
    · refine thn (T.item (blk X scope N' C s3 H3 fp pins) rfl rfl rfl hc i [] s5 _ H5 (fun _ _ => False) I5 (stat fr5) st5 go) fun r s6 ⟨u, hr, h6⟩ => ?_
      subst hr
      refine thn h6 fun _ s7 ⟨x, H7, I7, r7, y7, st7, fr7⟩ => ?_
      have I7' := I7.pinned (stat fr7) (T.obj _ _ st7)
      refine thn (hg C s3 H3 fp pins _ s7 _ H7 x u _ I7' r7 (step x H7 y7)) fun _ s8 ⟨σ8, H8, I8, d8, q8⟩ => ?_
      refine thn (ht C s3 H3 fp pins _ s8 σ8 H8 _ I8 q8) fun b s9 ⟨H9, I9, q9⟩ => ?_
      have kz : ∀ (j : Nat) v, (List.replicate k none ++ σ)[j]? = some (some v) → σ8[j]? = some (some v) := fun j v e => by
        have hik : ¬ j < k := fun hlt => by
          rw [List.getElem?_append_left (by rw [List.length_replicate]; exact hlt), List.getElem?_replicate] at e
          split at e <;> cases e
        rw [List.getElem?_append_right (by rw [List.length_replicate]; omega), List.length_replicate, ← d8, List.getElem?_drop] at e
        have : k + (j - k) = j := by omega
        rw [this] at e; exact e
      have again : ∀ {Hz : Hp} {sz : Shared} {zs : List V} {m' : Nat}, Inv (blk X scope N' C s3 H3 fp pins) ([] ++ pinsAt fp s7.heap) σ8 Hz sz → m' < n → W (i + 1) m' zs Hz →
          ∃ m, m < n ∧ ∃ i ys H', Inv (blk X scope N' C s3 H3 fp pins) [] (List.replicate k none ++ σ) H' sz ∧ tn i sz.heap ∧ (∀ b ∈ fp, H' b = none) ∧ W i m ys H' := fun {Hz sz zs m'} Iz hm wz => by
        refine ⟨m', hm, i + 1, zs, Hz, (Iz.unpinned).weak ?_ kz, T.keep _ _ _ st7 fun b hb o e => (Iz.pin (b, o) (List.mem_append_right _ (List.mem_append_right _ (mem_pinsAt hb e)))).1, fun b hb => ?_, wz⟩
        · rw [Iz.len]; exact I5.len
        · obtain ⟨o, e, d⟩ := T.obj _ _ st7 b hb
          exact (Iz.pin (b, o) (List.mem_append_right _ (List.mem_append_right _ (mem_pinsAt hb e)))).2.1
      cases b with
      | false =>
        obtain ⟨m', hm, w9⟩ := (show ∃ m', m' < n ∧ W (i + 1) m' ys H9 by simpa using q9)
        rw [if_neg Bool.false_ne_true]
        exact again I9 hm w9
      | true =>
        rw [if_pos rfl] at q9 ⊢
        refine thn (he C s3 H3 fp pins _ s9 σ8 H9 _ I9 q9) fun u9 s10 ⟨y, H10, I10, r10, hz, hD10, m', hm, w10⟩ => ?_
        refine thn (mt_append (X := blk X scope N' C s3 H3 fp pins) _ s10 σ8 H10 (.ref D) [y] (.ref D) [u9] (fun _ H' => H' = upd H10 D (.lst (ys ++ [y]))) I10 rfl (.cons r10 .nil) ⟨D, ys, y, rfl, rfl, hD10, hz, rfl⟩) fun _ s11 ⟨_, H11, I11, _, e11⟩ => ?_
        subst e11
        exact again I11 hm w10
  exact codeAny_compStart_list loop (T.self _ 0 _ _ _ st4 loop)
end
end L2

set_option Elab.async false
set_option linter.all false
set_option maxRecDepth 100000
namespace L2
open PySem PySem.Spec PyProof.Rows
section
variable {X : Cx}
end
section
variable {prog : Program} {w : World} {A : Around} {E : Value → Shared → Prop} {s : Shared} {K : Type} [DecidableEq K] {knd : PySem.KeyKind prog w K}
end

section
variable {X : Cx}
end
end L2

set_option Elab.async false
set_option linter.all false
set_option maxRecDepth 100000
namespace L2
open PySem PySem.Spec PyProof.Rows
section
variable {X : Cx}
end
end L2

set_option Elab.async false
set_option linter.all false
set_option maxRecDepth 100000
namespace L2
open PySem PySem.Spec PyProof.Rows
section
variable {prog : Program} {w : World} {A : Around} {E : Value → Shared → Prop} {s : Shared}
end
end L2
namespace L2
open PySem PySem.Spec PyProof.Rows
section
variable {X : Cx}
end
end L2

set_option Elab.async false
set_option linter.all false
set_option maxRecDepth 100000
namespace L2
open PySem PySem.Spec PyProof.Rows
section
variable {X : Cx} {pins : List (Addr × Obj)} {σ : St} {H : Hp} {s : Shared}
end
end L2

set_option Elab.async false
set_option linter.all false
set_option maxRecDepth 100000
namespace L2
open PySem PySem.Spec PyProof.Rows
section
variable {X : Cx}
end
end L2

set_option Elab.async false
set_option linter.all false
set_option maxRecDepth 100000
namespace L2
open PySem PySem.Spec PyProof.Rows
mutual
def DV (K : PySem.W.Frag) (H : Hp) : PyData → V → Prop
  | .none, v => v = .non
  | .bool b, v => v = .bl b
  | .int i, v => v = .int i
  | .str x, v => v = .str x
  | .list ds, v => ∃ (a : Addr) (xs : List V), v = .ref a ∧ SqL K H a xs ∧ DVs K H ds xs
  | .tuple ds, v => ∃ (a : Addr) (xs : List V), v = .ref a ∧ SqT K H a xs ∧ DVs K H ds xs
  | .dict _, _ => False
def DVs (K : PySem.W.Frag) (H : Hp) : List PyData → List V → Prop
  | [], xs => xs = []
  | d :: ds, xs => ∃ v r, xs = v :: r ∧ DV K H d v ∧ DVs K H ds r
end
section
variable {X : Cx} {pins : List (Addr × Obj)} {s : Shared} {σ : St} {H : Hp}
mutual
theorem DV.reads (I : Inv X pins σ H s) : ∀ (d : PyData) (v : V) (u : Value), DV X.K H d v → RelV v u → ∃ as, Reads s.heap u d as
  | .none, v, u, h, r => by
    unfold DV at h; subst h; cases (show u = Value.none from r); exact ⟨[], .none⟩
  | .bool b, v, u, h, r => by
    unfold DV at h; subst h; cases (show u = Value.bool b from r); exact ⟨[], .bool b⟩
  | .int i, v, u, h, r => by
    unfold DV at h; subst h; obtain ⟨t, e⟩ := (show ∃ t, u = Value.int i t from r); subst e; exact ⟨[], .int i t⟩
  | .str x, v, u, h, r => by
    unfold DV at h; subst h; obtain ⟨t, e⟩ := (show ∃ t, u = Value.str x t from r); subst e; exact ⟨[], .str x t⟩
  | .list ds, v, u, h, r => by
    unfold DV at h
    obtain ⟨a, xs, rfl, hs, hd⟩ := h
    cases (show u = Value.ref a from r)
    obtain ⟨its, r2, ⟨o, n, e, c, d, dd⟩, hz⟩ := I.list hs
    obtain ⟨as, ra⟩ := DVs.reads I ds xs its hd r2
    exact ⟨a :: as, .list e c dd (by simpa using ra)⟩
  | .tuple ds, v, u, h, r => by
    unfold DV at h
    obtain ⟨a, xs, rfl, hs, hd⟩ := h
    cases (show u = Value.ref a from r)
    obtain ⟨its, r2, ⟨o, e, c, n, dd⟩, hz⟩ := I.tuple hs
    obtain ⟨as, ra⟩ := DVs.reads I ds xs its hd r2
    exact ⟨as, .tuple e c dd (by simpa using ra)⟩
  | .dict _, v, u, h, r => by unfold DV at h; exact h.elim
theorem DVs.reads (I : Inv X pins σ H s) : ∀ (ds : List PyData) (xs : List V) (us : List Value), DVs X.K H ds xs → Vals xs us → ∃ as, ReadsAll s.heap us ds as
  | [], xs, us, h, r => by
    unfold DVs at h; subst h; cases r; exact ⟨[], .nil⟩
  | d :: ds, xs, us, h, r => by
    unfold DVs at h
    obtain ⟨v, r', rfl, h1, h2⟩ := h
    cases r with
    | cons ru rs =>
      obtain ⟨as, ra⟩ := DV.reads I d v _ h1 ru
      obtain ⟨bs, rb⟩ := DVs.reads I ds r' _ h2 rs
      exact ⟨as ++ bs, .cons ra rb⟩
end
def rDat (K : PySem.W.Frag) (neg : Bool) : R2 := fun x y H Q => ∃ (d e : PyData), DV K H d x ∧ DV K H e y ∧ SeqAt.shaped d = true ∧ SeqAt.shaped e = true ∧ Q (.bl (if neg then !PyData.eqv d e else PyData.eqv d e)) H
theorem op_eqD {X : Cx} (hu : X.A.units + 64 < cLine) : OpR X (compareOp .Eq) (rDat X.K false) := by
  intro pins s σ H x y u v Q I rx ry h
  obtain ⟨d, e, hd, he, sd, se, q⟩ := h
  obtain ⟨as, ra⟩ := DV.reads I d x u hd rx
  obtain ⟨bs, rb⟩ := DV.reads I e y v he ry
  exact eq_dataH ra rb sd se hu (fin_bl I q (by simp))
theorem op_neD {X : Cx} (hu : X.A.units + 64 < cLine) : OpR X (compareOp .NotEq) (rDat X.K true) := by
  intro pins s σ H x y u v Q I rx ry h
  obtain ⟨d, e, hd, he, sd, se, q⟩ := h
  obtain ⟨as, ra⟩ := DV.reads I d x u hd rx
  obtain ⟨bs, rb⟩ := DV.reads I e y v he ry
  exact ne_dataH ra rb sd se hu (fin_bl I q (by simp))
end
theorem canLayAll_map {α : Type} (f : α → PyData) : ∀ (l : List α), (∀ x ∈ l, (f x).canLay0 = true) → PyData.canLayAll0 (l.map f) = true
  | [], _ => rfl
  | x :: l, h => by
    rw [List.map_cons, PyData.canLayAll0, h x List.mem_cons_self, canLayAll_map f l fun y hy => h y (List.mem_cons_of_mem _ hy)]; rfl
theorem depthAll_map {α : Type} (f : α → PyData) (n : Nat) : ∀ (l : List α), (∀ x ∈ l, (f x).depth ≤ n) → PyData.depthAll (l.map f) ≤ n
  | [], _ => Nat.zero_le _
  | x :: l, h => by
    rw [List.map_cons, PyData.depthAll]
    exact Nat.max_le.mpr ⟨h x List.mem_cons_self, depthAll_map f n l fun y hy => h y (List.mem_cons_of_mem _ hy)⟩
theorem DVs.map {α : Type} {K : PySem.W.Frag} {H : Hp} (f : α → PyData) (g : α → V) : ∀ (l : List α), (∀ x ∈ l, DV K H (f x) (g x)) → DVs K H (l.map f) (l.map g)
  | [], _ => by show DVs K H [] []; unfold DVs; rfl
  | x :: l, h => by
    show DVs K H (f x :: l.map f) (g x :: l.map g)
    unfold DVs
    exact ⟨_, _, rfl, h x List.mem_cons_self, DVs.map f g l fun y hy => h y (List.mem_cons_of_mem _ hy)⟩
theorem shaped_of {d : PyData} (h1 : d.canLay0 = true) (h2 : d.depth ≤ 64) : SeqAt.shaped d = true := by unfold SeqAt.shaped; rw [h1, decide_eq_true h2]; rfl
section
variable {X : Cx}
end
end L2

set_option Elab.async false
set_option linter.all false
set_option maxRecDepth 100000
namespace L2
open PySem PySem.Spec PyProof.Rows
def Asc (n : Nat) (y : Str) : Prop := y.length ≤ n ∧ ∀ c ∈ y.cps.toList, c < 128
theorem Asc.mono {n m : Nat} {y : Str} (h : Asc n y) (hm : n ≤ m) : Asc m y := ⟨Nat.le_trans h.1 hm, h.2⟩
theorem slice_mem {x : Str} {l u : Option Int} {c : Nat} (h : c ∈ (Txt.slice x l u).cps.toList) : c ∈ x.cps.toList := by
  unfold Txt.slice at h
  split at h
  · exact h
  · have h2 : c ∈ (Builtin.Str.strSliceIndices l u 1 x.length).filterMap (x.cps[·]?) := by simpa using h
    obtain ⟨i, _, e⟩ := List.mem_filterMap.mp h2
    exact Array.mem_toList_iff.mpr (Array.mem_of_getElem? e)
theorem Asc.slice {n : Nat} {y : Str} (h : Asc n y) (l u : Option Int) : Asc n (Txt.slice y l u) := ⟨Nat.le_trans (Txt.slice_le y l u) h.1, fun c hc => h.2 c (slice_mem hc)⟩
section
variable {X : Cx}
end
end L2

set_option Elab.async false
set_option linter.all false
set_option maxRecDepth 100000
namespace L2
open PySem PySem.Spec PyProof.Rows
def CXr (P : Program) (w : World) : CXT := fun outer H s E e s' => ∃ (a : Addr) (C a0 : Value) (H' : Hp) (B : Heap), e = .ref a ∧ Heap.FlyingW B outer a C a0 s'.heap ∧ s'.os = s.os ∧ AllBare s'.gens ∧ Un (frs outer) [] H H' s.heap s'.heap ∧
  (∀ b o, s.heap.get? b = some o → H b = none → b ∉ frs outer → B.get? b = some o) ∧ (∀ b o, s.heap.get? b = some o → b ∉ frs outer → ∃ o', B.get? b = some o') ∧ HOk P w H' B ∧ E C (some a) H'
theorem funFrames_hide {h base : Heap} : ∀ {l : List Env} {m : List Addr}, h.FunFrames base l → (∀ b ∈ frs l, b ∈ m) → h.FunFrames (PySem.W.hideAll h m) l
  | [], _, _, _ => trivial
  | env :: r, m, ⟨hk, ⟨L, o, hf, hn, ho, hd⟩, hr⟩, hs => ⟨hk, ⟨L, o, hf, PySem.W.hideAll_none m (hs L (by unfold frs; rw [List.filterMap_cons, hf]; exact List.mem_cons_self)), ho, hd⟩, funFrames_hide hr fun b hb => hs b (by unfold frs; rw [List.filterMap_cons, hf]; exact List.mem_cons_of_mem _ hb)⟩
theorem hok_hide {P : Program} {w : World} {H : Hp} {h : Heap} {m : List Addr} (ok : HOk P w H h) (hm : ∀ b ∈ m, H b = none) : HOk P w H (PySem.W.hideAll h m) := fun a o e =>
  (ok a o e).stay (fun b u hb q => PySem.W.hideAll_get m q fun z => by
    have n := hm b z
    rcases hb with hb | hb
    · rw [hb, e] at n; cases n
    · rw [hb] at n; cases n) (fun _ q => q) fun _ _ q => q
section
variable {P : Program} {w : World} {K : PySem.W.Frag} {mg : Str → Option Value} {base : Heap} {N : List Str} {qual : Str} {scope : Scope} {f : Addr} {cd : Value} {A : Around} {outer : List Env} {s₀ : Shared} {H₀ : Hp} {E : XK}
theorem raise_leaves {pins : List (Addr × Obj)} {σ : St} {H : Hp} {s : Shared} {h1 : Heap} {e : Addr} {C : Value} {args : List Value}
    (I : Inv (cxOf (CXr P w) P w K mg base N qual scope f cd A outer s₀ H₀ E) pins σ H s) (hm : Heap.MadeExcOf s.heap h1 e C args) (hE : E C (some e) H) :
    (cxOf (CXr P w) P w K mg base N qual scope f cd A outer s₀ H₀ E).xe (.ref e) { s with heap := h1 } := by
  have nox : ∀ b : Addr, b ∉ ([] : List Addr) := fun b z => nomatch z
  have hst : ∀ b ∈ frs (envOfC qual scope s₀.heap.objs.size f cd :: outer), H b = none := fun b hb => I.stkFree b hb
  have nfr : ∀ b o, s₀.heap.get? b = some o → b ∉ frs outer → b ∉ frs (envOfC qual scope s₀.heap.objs.size f cd :: outer) := fun b o eb hb z => by
    rcases List.mem_cons.mp (show b ∈ s₀.heap.objs.size :: frs outer from z) with z | z
    · exact absurd (Heap.lt_size eb) (by rw [z]; exact Nat.lt_irrefl _)
    · exact hb z
  refine wpAny_leaves_madeW (base := PySem.W.hideAll s.heap (frs (envOfC qual scope s₀.heap.objs.size f cd :: outer))) (h := s.heap) I.ok.frames rfl (fun b o q => PySem.W.of_hideAll _ q) (funFrames_hide I.stack fun _ hb => hb) hm fun h' t fl _ _ ups => ?_
  refine ⟨e, C, .ref t, H, _, rfl, fl, I.os, I.bare, ⟨fun b o q n hb _ => ?_, fun b o q n hb hx => ?_, fun b o q n hx => I.base.free b o q n (nox b), fun b o q hx => ?_, I.base.tups, I.base.frzs, I.base.tbls⟩, fun b o q n hb => ?_, fun b o q hb => ?_, hok_hide I.hok hst, hE⟩
  · exact fl.1 b o (PySem.W.hideAll_get _ (I.base.keep b o q n hb (nox b)) (nfr b o q hb))
  · obtain ⟨sl, e1⟩ := I.base.slot b o q n hb (nox b)
    obtain ⟨_, o2, ho2, hnf⟩ := I.stack.mem (show b ∈ frs (envOfC qual scope s₀.heap.objs.size f cd :: outer) from List.mem_cons_of_mem _ hb)
    rw [e1] at ho2
    cases ho2
    obtain ⟨sl2, e2⟩ := ups b _ (hm.keeps b _ e1) hnf
    exact ⟨sl2, e2⟩
  · obtain ⟨o', e1⟩ := I.base.there b o q (nox b)
    by_cases hb : b ∈ frs (envOfC qual scope s₀.heap.objs.size f cd :: outer)
    · obtain ⟨_, o2, ho2, hnf⟩ := I.stack.mem hb
      obtain ⟨sl2, e2⟩ := ups b _ (hm.keeps b _ ho2) hnf
      exact ⟨_, e2⟩
    · exact ⟨o', fl.1 b o' (PySem.W.hideAll_get _ e1 hb)⟩
  · exact PySem.W.hideAll_get _ (I.base.keep b o q n hb (nox b)) (nfr b o q hb)
  · obtain ⟨o', e1⟩ := I.base.there b o q (nox b)
    exact ⟨o', PySem.W.hideAll_get _ e1 (nfr b o q hb)⟩
theorem passR : Passes (CXr P w) (cxOf (CXr P w) P w K mg base N qual scope f cd A outer s₀ H₀ E) E := by
  intro pins σ H s e s' I h
  obtain ⟨a, C, a0, H', B, rfl, fl, os, bare, un, kb, tb, hok, hE⟩ := h
  have nox : ∀ b : Addr, b ∉ ([] : List Addr) := fun b z => nomatch z
  have nfr : ∀ b o, s₀.heap.get? b = some o → b ∉ frs outer → b ∉ frs (envOfC qual scope s₀.heap.objs.size f cd :: outer) := fun b o eb hb z => by
    rcases List.mem_cons.mp (show b ∈ s₀.heap.objs.size :: frs outer from z) with z | z
    · exact absurd (Heap.lt_size eb) (by rw [z]; exact Nat.lt_irrefl _)
    · exact hb z
  refine wpAny_leaves_onW I.ok.frames rfl fl fun h' fl' ups => ?_
  refine ⟨a, C, a0, H', B, rfl, fl', os.trans I.os, bare, ⟨fun b o q n hb _ => ?_, fun b o q n hb hx => ?_, fun b o q n hx => ?_, fun b o q hx => ?_, fun b xs q => un.tups b xs (I.base.tups b xs q), fun b o u q => un.frzs b o u (I.base.frzs b o u q), fun b ps q => ?_⟩, fun b o q n hb => ?_, fun b o q hb => ?_, hok, hE⟩
  · exact fl'.1 b o (kb b o (I.base.keep b o q n hb (nox b)) (I.base.free b o q n (nox b)) (nfr b o q hb))
  · obtain ⟨sl, e1⟩ := I.base.slot b o q n hb (nox b)
    obtain ⟨sl2, e2⟩ := un.slot b _ e1 (I.base.free b o q n (nox b)) (List.mem_cons_of_mem _ hb) (nox b)
    obtain ⟨_, o2, ho2, hnf⟩ := fl.2.2.1.mem (show b ∈ frs (envOfC qual scope s₀.heap.objs.size f cd :: outer) from List.mem_cons_of_mem _ hb)
    rw [e2] at ho2
    cases ho2
    obtain ⟨sl3, e3⟩ := ups b _ e2 hnf
    exact ⟨sl3, e3⟩
  · obtain ⟨sl, e1⟩ := I.base.any q n (nox b)
    exact un.free b _ e1 (I.base.free b o q n (nox b)) (nox b)
  · obtain ⟨o1, e1⟩ := I.base.there b o q (nox b)
    by_cases hb : b ∈ frs (envOfC qual scope s₀.heap.objs.size f cd :: outer)
    · obtain ⟨_, o2, ho2, hnf⟩ := fl.2.2.1.mem hb
      obtain ⟨sl2, e2⟩ := ups b _ ho2 hnf
      exact ⟨_, e2⟩
    · obtain ⟨o2, e2⟩ := tb b o1 e1 hb
      exact ⟨o2, fl'.1 b o2 e2⟩
  · obtain ⟨more, e1⟩ := I.base.tbls b ps q
    obtain ⟨more2, e2⟩ := un.tbls b _ e1
    exact ⟨more ++ more2, by rw [← Array.append_assoc]; exact e2⟩
  · exact kb b o (I.base.keep b o q n hb (nox b)) (I.base.free b o q n (nox b)) (nfr b o q hb)
  · obtain ⟨o1, e1⟩ := I.base.there b o q (nox b)
    exact tb b o1 e1 (nfr b o q hb)
end
end L2
namespace L2
open PySem PySem.Spec PyProof.Rows
theorem excObj {K : PySem.W.Frag} {hp : Heap} {C : Addr} {tail : List Value} {mk : String} (inn : K.In hp) (isx : PySem.W.excIn K C tail mk = true) :
    ∃ up ns nm qn bs hd sn sub ab col dd x0 x1 x2 x3 x5 names, hp.get? C = some (excClassObj nm qn C ns bs up hd sn sub ab col dd x0 x1 x2 x3 x5 mk) ∧ hp.Ns ns names ∧ names "__init__" = none ∧ OwnTail hp tail up := by
  unfold PySem.W.excIn at isx
  split at isx
  case h_2 => exact absurd isx Bool.false_ne_true
  rename_i dd cls slots found
  split at isx
  case h_2 => exact absurd isx Bool.false_ne_true
  rename_i C2 up x0 x1 x2 x3 nw x5 mroIs slotsIs
  rw [Bool.and_eq_true, Bool.and_eq_true, Bool.and_eq_true, Bool.and_eq_true, Bool.and_eq_true] at isx
  have p1 : C2 = C := eq_of_beq isx.1.1.1.1.1
  have p2 : nw = mk := eq_of_beq isx.1.1.1.1.2
  have p3 : cls.hasDel = false := by simpa using isx.1.1.1.2
  have p6 : PySem.W.nsIn K cls.ns "__init__" = some none := eq_of_beq isx.2
  have ob := inn _ _ found
  have sl : slots = #[x0, x1, x2, x3, some (.builtin nw), x5] := by rw [← slotsIs]
  cases cls
  simp only at mroIs p3
  rw [mroIs, p3, sl, p1, p2] at ob
  exact ⟨up, _, _, _, _, _, _, _, _, _, _, x0, x1, x2, x3, x5, _, ob, .of_isNs (PySem.W.isNs_of_in inn isx.1.2), PySem.W.nsMap_none_of_in inn isx.1.2 p6, PySem.W.tail_of_in inn isx.1.1.2⟩
def Raises (X : Cx) (E : XK) : Prop := ∀ (pins : List (Addr × Obj)) (σ : St) (H : Hp) (s : Shared) (h1 : Heap) (e : Addr) (C : Value) (args : List Value), Inv X pins σ H s → Heap.MadeExcOf s.heap h1 e C args → E C (some e) H → X.xe (.ref e) { s with heap := h1 }
theorem raisesR {P : Program} {w : World} {K : PySem.W.Frag} {mg : Str → Option Value} {base : Heap} {N : List Str} {qual : Str} {scope : Scope} {f : Addr} {cd : Value} {A : Around} {outer : List Env} {s₀ : Shared} {H₀ : Hp} {E : XK} :
    Raises (cxOf (CXr P w) P w K mg base N qual scope f cd A outer s₀ H₀ E) E := fun _ _ _ _ _ _ _ _ I hm hE => raise_leaves I hm hE
def sRaise (E : XK) (C : Addr) (t : TE) : TS := fun D σ H => t σ H fun _ H1 => ∀ e, E (.ref C) (some e) H1
abbrev veTail : List Value := [.type "ValueError", .type "Exception", .type "BaseException", .type "object"]
section
variable {X : Cx} {E : XK} {C : Addr} {x : Str} {np cpos pos : Pos} {e₀ : Expr} {t : TE}
theorem ps_raise (hx : Raises X E) (hc : X.calm = true) (hg : Gl X x) (hm : X.mg x = some (.ref C)) (isx : PySem.W.excIn X.K C veTail "ValueError.__new__" = true) (ha : PE X e₀ t) (hdb : (x == ("__debug__" : Str)) = false := by decide)
    (he : starEach [e₀] X.env = [(false, eval e₀ X.env)] := by rfl) : PS X (.Raise (some (.Call (.Name x np) [e₀] [] cpos)) none pos) (sRaise E C t) := by
  intro pins s σ H D I h
  obtain ⟨up, ns, nm, qn, bs, hd, sn, sub, ab, col, dd, x0, x1, x2, x3, x5, names, hC, hN, hni, T⟩ := excObj I.mod.kin isx
  refine wpAny_Raise_call_subT (C := C) (nm := nm) (q := qn) (N := ns) (bs := bs) (bm := up) (hdct := hd) (sn := sn) (sub := sub) (ab := ab) (col := col) (dd := dd) (k0 := x0) (k1 := x1) (k2 := x2) (k3 := x3) (k5 := x5) (mN := names)
    PySem.F.excBase_ValueError (T.hasType PySem.F.excBase_ValueError.hasBase) (I.ok.hd hc) (by rw [he]; rfl) hni (ld_glob I hg hm ⟨rfl, ?_⟩ hdb)
  rw [he]
  refine Calls.evalArgs_plain (Calls.spliced_cons (thn (ha pins s σ H _ I h) fun u s1 ⟨v, H1, I1, r, q⟩ => Calls.spliced_nil ?_))
  exact ⟨rfl, (show 1 ≤ sizeLine by decide), I1.bk _ _ hC, hN.keeps I1.bk, T.keeps I1.bk, fun h' e hm => hx pins σ H1 s1 h' e _ _ I1 hm (q e)⟩
end
section
variable {P : Program} {w : World} {K : PySem.W.Frag} {mg : Str → Option Value} {base : Heap}
theorem Fun.okR {x qual : Str} {st : Stmt} {f : Addr} {fd : FuncData} {N ps : List Str} {k : Nat} {sp : Sp} (F : Fun K x qual st f fd) (S : FnScope N ps (defScope st)) (len : ∀ vs H Q E, sp vs H Q E → vs.length = ps.length)
    (hbody : ∀ (cdv : Value) (A : Around) (outer : List Env) (s : Shared) (H : Hp) (vs : List V) (Q : VK) (E : XK), Room k (A.deeper (envOfC qual (defScope st) s.heap.objs.size f cdv)) → sp vs H Q E →
      ∃ t, PSs (cxOf (CXr P w) P w K mg base N qual (defScope st) f cdv A outer s H E) (defBody st) t ∧ t { nx := fun _ H' => Q .non H', rt := Q } (start N vs) H) : FnOk P w K mg base (CXr P w) (k + 1) f fd ps sp := by
  obtain ⟨oc, od, kV, doc, pm, an, cdv, ct, osl, rfl, lk, hcd⟩ := F.ex
  exact fn_of lk hcd S len fun A outer s H vs Q E hr hsp => hbody cdv A outer s H vs Q E hr hsp
end
end L2
namespace L2
open PySem PySem.Spec PyProof.Rows
abbrev TJ := Str → St → Hp → VK → Prop
section
variable {X : Cx} {e v1 v2 : Expr} {es : List Expr} {te : TE} {tr : TJ} {pos : Pos}
def PJ (X : Cx) (es : List Expr) (t : TJ) : Prop := ∀ (pins : List (Addr × Obj)) (s : Shared) (σ : St) (H : Hp) (acc : Str) (Q : VK), Inv X pins σ H s → t acc σ H Q →
  Joins (model X.prog X.w) X.A X.xe (evalEach es X.env) acc (fun out s1 => out.length ≤ sizeLine ∧ EP X pins σ Q (.str out s1.toks) { s1 with toks := s1.toks + 1 }) s
def tJ0 : TJ := fun acc σ H Q => acc.length ≤ sizeLine ∧ Q (.str acc) H
def tJ1 (te : TE) (tr : TJ) : TJ := fun acc σ H Q => te σ H fun v H1 => ∃ y, v = .str y ∧ (acc ++ y).length ≤ sizeLine ∧ tr (acc ++ y) σ H1 Q
theorem pj_nil : PJ X [] tJ0 := fun pins s σ H acc Q I h => ⟨h.1, .str acc, H, I.tok _, ⟨_, rfl⟩, h.2⟩
theorem pj_cons (h1 : PE X e te) (h2 : PJ X es tr) : PJ X (e :: es) (tJ1 te tr) := fun pins s σ H acc Q I h => by
  refine thn (h1 pins s σ H _ I h) fun u s1 ⟨v, H1, I1, r, y, ey, hz, q⟩ => ?_
  subst ey
  obtain ⟨t, rfl⟩ := r
  exact ⟨y, t, rfl, hz, h2 pins s1 σ H1 _ Q I1 q⟩
theorem pe_joined (h : PJ X (v1 :: v2 :: es) tr) : PE X (.JoinedStr (v1 :: v2 :: es) pos) (fun σ H Q => tr Str.empty σ H Q) := fun pins s σ H Q I hh => wpAny_JoinedStr (h pins s σ H _ Q I hh)
def tFmt (te : TE) : TE := fun σ H Q => te σ H fun v H1 => (∃ y, v = .str y ∧ y.length ≤ sizeLine ∧ Q (.str y) H1) ∨ ∃ i : Int, v = .int i ∧ i.natAbs.log2 < 1920 ∧ Q (.str (toString i)) H1
theorem pe_fmt (h : PE X e te) : PE X (.FormattedValue e (-1) none pos) (tFmt te) := fun pins s σ H Q I hh => by
  refine wpAny_FormattedValue_plain (thn (h pins s σ H _ I hh) fun u s1 ⟨v, H1, I1, r, q⟩ => ?_)
  rcases q with ⟨y, rfl, hz, q⟩ | ⟨i, rfl, hz, q⟩
  · obtain ⟨t, rfl⟩ := r
    exact wpAny_formatField_str ⟨.str y, H1, I1, ⟨_, rfl⟩, q⟩ ⟨.str y, H1, I1.tok _, ⟨_, rfl⟩, q⟩ hz
  · obtain ⟨t, rfl⟩ := r
    exact wpAny_formatField_int hz ⟨.str (toString i), H1, (I1.tok _).tok _, ⟨_, rfl⟩, q⟩
def tFmtR (te : TE) : TE := fun σ H Q => te σ H fun v H1 => ∃ y, v = .str y ∧ (reprText y).length ≤ sizeLine ∧ Q (.str (reprText y)) H1
theorem pe_fmtR (h : PE X e te) : PE X (.FormattedValue e 114 none pos) (tFmtR te) := fun pins s σ H Q I hh => by
  refine wpAny_FormattedValue_repr (thn (h pins s σ H _ I hh) fun u s1 ⟨v, H1, I1, r, y, ey, hz, q⟩ => ?_)
  subst ey
  obtain ⟨t, rfl⟩ := r
  refine wpAny_pyReprObj_gives (T := "str") rfl PySem.F.slot_str_repr PySem.F.entry_str_repr (PySem.F.args_str_repr_1 _) (gives_str_repr y t) ?_ rfl hz
  exact wpAny_formatField_str ⟨.str (reprText y), H1, I1.tok _, ⟨_, rfl⟩, q⟩ ⟨.str (reprText y), H1, (I1.tok _).tok _, ⟨_, rfl⟩, q⟩ hz
end
end L2

set_option Elab.async false
set_option linter.all false
set_option maxRecDepth 100000
namespace L2
open PySem PySem.Spec PyProof.Rows PySem.Calls
def ExcAt (x D : Addr) (h : Heap) : Prop := ∃ o vs, h.get? x = some o ∧ o.cls = .ref D ∧ o.data = .fields vs
theorem ExcAt.ty {M : Model} {x D : Addr} {h : Heap} (p : ExcAt x D h) : PySem.W.Looks M h (typeOf (.ref x)) (.ref D) := by
  obtain ⟨o, vs, h1, h2, _⟩ := p
  exact h2 ▸ (PySem.W.Looks.ld h1).andThen .now
structure ExcCls (K : PySem.W.Frag) (D : Addr) : Prop where
  ga : PySem.W.findIn K (.ref D) "__getattribute__" = some (some (.builtin "BaseException.__getattribute__"))
  gh : PySem.W.findIn K (.ref D) "__getattr__" = some none
  be : PySem.W.mroIn K D (.type "BaseException") = some true
  hd : PySem.W.hasDictIn K D = true
  at_ : PySem.W.findIn K (.ref D) "__class__" = some (some (.builtin "object.__class__"))
  gt : PySem.W.specialIn K (.builtin "object.__class__") "__get__" = some (some (.builtin "getset_descriptor.__get__"))
  tk : PySem.W.takesIn K (.builtin "object.__class__") = some true
  ob : PySem.W.mroIn K D (.type "object") = some true
section
variable {K : PySem.W.Frag} {x D : Addr}
open PySem.W Builtin Builtin.ObjectAttr in
theorem exc_find {M : Model} {h : Heap} (c : ExcCls K D) (X : K.In h) : Looks M h (find (.ref x) (.ref D) "__class__") (Found.bind (.builtin "getset_descriptor.__get__") (.builtin "object.__class__")) := by
  have l1 := looks_findIn (M := M) X c.at_
  have l2 : Looks M h (getOf (some (.builtin "object.__class__"))) (some (.builtin "getset_descriptor.__get__")) := looks_specialIn X c.gt
  have l3 := looks_takesIn (M := M) X c.tk
  have l4 : Looks M h (dataDescriptor? (some (.builtin "object.__class__")) (some (.builtin "getset_descriptor.__get__"))) (some (.builtin "getset_descriptor.__get__", .builtin "object.__class__")) := l3.andThen .now
  exact l1.andThen (l2.andThen (l4.andThen (Looks.tag .now)))
open PySem.W Builtin Builtin.ObjectAttr Builtin.Getset_descriptor in
theorem exc_class {prog : Program} {w : World} {A : Around} {R : Result → Shared → Prop} {s : Shared} {tp : Value} (c : ExcCls K D) (X : K.In s.heap) (p : ExcAt x D s.heap) (h : R (.ok (.ret (.ref D))) s) :
    codeAny (model prog w) A (.call (.builtin "getset_descriptor.__get__") ⟨[.builtin "object.__class__", .ref x, tp], []⟩) R s := by
  obtain ⟨hp, ge, dw, tt, oo⟩ := s
  have l0 := p.ty (M := model prog w)
  have l1 := looks_mroIn (M := model prog w) X c.ob
  refine codeAny_call_builtin KF.slot_gs.plain KF.entry_gs ?_
  refine KF.slot_gs.check _ _ _ _ _ _ _ _ KF.type_class (KF.args_gs _ _ _) ?_
  unfold Builtin.«getset_descriptor.__get__»; unfold descrGet
  rw [dga_obj]; refine wpAny_bind (wpAny_pure ?_)
  unfold descrGetter descrCheckInstance; unfold descrNameAndClass isInstance
  simp only [KF.owner_class]; repeat lk
  refine ⟨Code.quiet_builtin _ (by decide +kernel), ?_⟩
  refine codeAny_builtin KF.entry_class ?_
  unfold Builtin.«object.__class__»; unfold shownTypeOf
  repeat lk
  exact h
open PySem.W Builtin Builtin.ObjectAttr in
theorem exc_entry {prog : Program} {w : World} {A : Around} {E : Value → Shared → Prop} {s : Shared} {tk : Tok} {Q : Fin → Shared → Prop} (c : ExcCls K D) (X : K.In s.heap) (p : ExcAt x D s.heap) (h : Q (.done (.ret (.ref D))) s) :
    wpAny (model prog w) A (Builtin.«object.__getattribute__» ⟨[.ref x, .str "__class__" tk], []⟩) Q E s := by
  obtain ⟨hp, ge, dw, tt, oo⟩ := s
  have l0 := p.ty (M := model prog w)
  have l2 := exc_find (x := x) (M := model prog w) c X
  unfold Builtin.«object.__getattribute__»
  repeat (any_goals (first | assumption | lk | wp_step))
  show wpAny _ _ (run _ none) _ _ _
  refine wpAny_run (exc_class c X p ?_)
  exact wpAny_pure (wpAny_pure h)
open PySem.W Builtin Builtin.ObjectAttr in
theorem exc_ga {prog : Program} {w : World} {A : Around} {R : Result → Shared → Prop} {s : Shared} {tk : Tok} (c : ExcCls K D) (X : K.In s.heap) (p : ExcAt x D s.heap) (h : R (.ok (.ret (.ref D))) s) :
    codeAny (model prog w) A (.call (.builtin "BaseException.__getattribute__") ⟨[.ref x, .str "__class__" tk], []⟩) R s := by
  obtain ⟨hp, ge, dw, tt, oo⟩ := s
  have l0 := p.ty (M := model prog w)
  have l1 := looks_mroIn (M := model prog w) X c.be
  refine codeAny_call_builtin PySem.F.excAttr_ValueError.ga.plain PySem.F.entry_bexc_ga ?_
  have hk : builtinKind "BaseException.__getattribute__" = some .slot := by decide +kernel
  have hs : splitId "BaseException.__getattribute__" = some ("BaseException", "__getattribute__") := by decide +kernel
  have ha := PySem.F.args_bexc_ga (.ref x) (.str "__class__" tk)
  simp only [checkBuiltinCall, hk, hs]
  refine wpAny_bind ?_
  unfold isInstance
  refine wpAny_bind (l0.at (l1.at ?_))
  rw [if_neg (by decide)]
  unfold argsOk at ha
  have fin := exc_entry (prog := prog) (w := w) (A := A.in1) (E := fun e s' => R (.error e) s') (s := ⟨hp, ge, dw, tt, oo⟩) (tk := tk) (Q := fun fin s' => match fin with | .done f => R (.ok f) s' | .again c' => c'.quiet = true ∧ codeAny (model prog w) A c' R s') c X p h
  generalize Manifest.signature? "BaseException.__getattribute__" = sg at ha ⊢
  cases sg with
  | none => exact wpAny_pure fin
  | some sig =>
    dsimp only at ha ⊢
    rw [ha]
    exact wpAny_pure fin
open PySem.W Builtin Builtin.ObjectAttr in
theorem exc_attr {prog : Program} {w : World} {A : Around} {E : Value → Shared → Prop} {s : Shared} {Q : Option Value → Shared → Prop} (c : ExcCls K D) (X : K.In s.heap) (p : ExcAt x D s.heap) (h : Q (some (.ref D)) { s with toks := s.toks + 1 }) :
    wpAny (model prog w) A (getAttr? (.ref x) "__class__") Q E s := by
  obtain ⟨hp, ge, dw, tt, oo⟩ := s
  have l0 := p.ty (M := model prog w)
  have l1 := looks_findIn (M := model prog w) X c.ga
  have l3 := looks_findIn (M := model prog w) X c.gh
  have f3 := PySem.F.excAttr_ValueError.ga.bind (.ref x)
  have hx2 : (Value.builtin "BaseException.__getattribute__" == Value.builtin "object.__getattribute__") = false := by decide +kernel
  have hx1 : (onTheHeap (Value.ref D) && Value.builtin "BaseException.__getattribute__" == Value.builtin "object.__getattribute__") = false := by rw [hx2]; rfl
  unfold getAttr? getAttrBy?; unfold getAttrBy
  refine wpAny_bind (wpAny_mkText (wpAny_bind (wpAny_attempt (wpAny_holding ?_))))
  refine wpAny_bind (l0.at (wpAny_bind (l1.at ?_)))
  simp only [hx1]
  show wpAny _ _ (getAttrByItsOwn _ _ _ _ _ _) _ _ _
  unfold getAttrByItsOwn hookBefore
  refine wpAny_bind ?_
  show wpAny _ _ (typeLookup (.ref D) "__getattr__") _ _ _
  refine l3.at ?_
  unfold callGetattribute boundAndCalled
  refine wpAny_bind (wpAny_attempt (wpAny_holding ?_))
  show wpAny _ _ (bindSpecial _ _ >>= _) _ _ _
  rw [f3]
  refine wpAny_bind (wpAny_pure ?_)
  refine wpAny_call (exc_ga (s := ⟨hp, ge, dw, tt + 1, oo⟩) c X p ?_)
  exact handed_on rfl (wpAny_pure h)
theorem kitx_exc (c : ExcCls K D) : PySem.W.KitX K (.ref x) (.ref D) (ExcAt x D) where
  ty := fun _ _ _ p => p.ty
  it := fun _ _ X _ => by
    obtain ⟨cd, hc, _⟩ := PySem.W.any_some c.hd
    unfold PySem.W.clsIn at hc
    split at hc
    · rename_i c' d' cd' sl' ho
      intro A' Q' E' s' k q
      unfold isType loadHead
      exact wpAny_bind (wpAny_loadPart (k _ _ (X _ _ ho)) (wpAny_pure q))
    · cases hc
  ne := fun h tp dd its n sl X htp => by
    obtain ⟨cd, hc, _⟩ := PySem.W.any_some c.hd
    refine Bool.eq_false_iff.mpr fun q => ?_
    have e : D = tp := Value.ref.inj (beq_iff_eq.mp q)
    subst e
    unfold PySem.W.clsIn at hc
    split at hc
    · rename_i c' d' cd' sl' ho
      have z := (X _ _ ho).symm.trans htp
      cases z
    · cases hc
  ca := fun X p k => exc_attr c X p k
end
end L2

set_option Elab.async false
set_option linter.all false
set_option maxRecDepth 100000
namespace L2
open PySem PySem.Spec PyProof.Rows
section
variable {P : Program} {w : World} {K : PySem.W.Frag} {mg : Str → Option Value} {base : Heap} {CX : CXT} {k : Nat} {f : Addr} {fd : FuncData} {ps : List Str} {sp sp' : Sp}
theorem FnOk.lift (F : FnOk P w K mg base CX0 k f fd ps sp) : FnOk P w K mg base CX k f fd ps sp :=
  ⟨F.len, fun A outer s H args us vs Q E hr he hb hv hs => codeAny_mono (F.run A outer s H args us vs Q E hr he hb hv hs) fun r s' h => by
    cases r with
    | error e => exact False.elim h
    | ok fl => cases fl <;> exact h⟩
theorem FnOk.or (F : FnOk P w K mg base CX k f fd ps sp) (G : FnOk P w K mg base CX k f fd ps sp') : FnOk P w K mg base CX k f fd ps (fun vs H Q E => sp vs H Q E ∨ sp' vs H Q E) :=
  ⟨fun vs H Q E h => h.elim (F.len vs H Q E) (G.len vs H Q E), fun A outer s H args us vs Q E hr he hb hv hs => hs.elim (F.run A outer s H args us vs Q E hr he hb hv) (G.run A outer s H args us vs Q E hr he hb hv)⟩
end
structure Flt (P : Program) (w : World) (outer : List Env) (H : Hp) (s : Shared) (H' : Hp) (B h : Heap) : Prop where
  stays : B.StaysIn h
  frames : h.FunFrames B outer
  slot : ∀ b o, s.heap.get? b = some o → H b = none → b ∈ frs outer → ∃ sl, h.get? b = some { o with slots := sl }
  free : ∀ b o, s.heap.get? b = some o → H b = none → H' b = none
  tups : ∀ b xs, H b = some (.tup xs) → H' b = some (.tup xs)
  frzs : ∀ b o u, H b = some (.frz o u) → H' b = some (.frz o u)
  tbls : ∀ b ps, H b = some (.tbl ps) → ∃ more, H' b = some (.tbl (ps ++ more))
  kb : ∀ b o, s.heap.get? b = some o → H b = none → b ∉ frs outer → B.get? b = some o
  tb : ∀ b o, s.heap.get? b = some o → b ∉ frs outer → ∃ o', B.get? b = some o'
  hok : HOk P w H' B
section
variable {P : Program} {w : World} {outer : List Env} {H H' : Hp} {s : Shared} {B h h' : Heap}
theorem Flt.un (f : Flt P w outer H s H' B h) : Un (frs outer) [] H H' s.heap h where
  keep := fun b o q n hb _ => f.stays b o (f.kb b o q n hb)
  slot := fun b o q n hb _ => f.slot b o q n hb
  free := fun b o q n _ => f.free b o q n
  there := fun b o q _ => by
    by_cases hb : b ∈ frs outer
    · obtain ⟨_, o2, ho2, _⟩ := f.frames.mem hb
      exact ⟨o2, ho2⟩
    · obtain ⟨o2, e2⟩ := f.tb b o q hb
      exact ⟨o2, f.stays b o2 e2⟩
  tups := f.tups
  frzs := f.frzs
  tbls := f.tbls
theorem Flt.ok (f : Flt P w outer H s H' B h) : HOk P w H' h := f.hok.kept f.stays
theorem Flt.next (f : Flt P w outer H s H' B h) (st : B.StaysIn h') (fr : h'.FunFrames B outer) (u : h.UpToSlots h') : Flt P w outer H s H' B h' :=
  ⟨st, fr, fun b o q n hb => by
    obtain ⟨sl, e1⟩ := f.slot b o q n hb
    obtain ⟨_, o2, ho2, hnf⟩ := f.frames.mem hb
    rw [e1] at ho2
    cases ho2
    obtain ⟨sl2, e2⟩ := u b _ e1 hnf
    exact ⟨sl2, e2⟩, f.free, f.tups, f.frzs, f.tbls, f.kb, f.tb, f.hok⟩
theorem ObjOk.there {H : Hp} {a : Addr} {o : HO} (x : ObjOk P w H h a o) : ∃ ob, h.get? a = some ob := by
  cases o with
  | lst xs => obtain ⟨_, _, _, _, e⟩ := x; exact ⟨_, e⟩
  | tup xs => obtain ⟨_, _, _, o, e, _⟩ := x; exact ⟨o, e⟩
  | dK kvs => obtain ⟨_, _, _, _, o, _, _, e, _⟩ := x; exact ⟨o, e⟩
  | dT kvs => obtain ⟨_, _, _, _, o, _, _, e, _⟩ := x; exact ⟨o, e⟩
  | set S n => obtain ⟨o, _, _, _, e, _⟩ := x; exact ⟨o, e⟩
  | ins C dx fs => obtain ⟨_, _, _, e, _⟩ := x; exact ⟨_, e⟩
  | own y => exact x
  | xd fs => obtain ⟨_, ⟨o, _, _, e, _⟩, _⟩ := x; exact ⟨o, e⟩
  | rng lo hi => obtain ⟨_, _, _, e⟩ := x; exact ⟨_, e⟩
  | frz ob u => obtain ⟨e, _⟩ := x; exact ⟨_, e⟩
  | tbl ps => exact ⟨_, show h.get? a = some _ from x⟩
  | met f y => exact ⟨_, show h.get? a = some _ from x⟩
  | ext φ => obtain ⟨_, e, _⟩ := x; exact e
end
section
variable {X : Cx} {pins : List (Addr × Obj)} {σ : St} {H : Hp} {s : Shared}
theorem Inv.tracked {a : Addr} {u : HO} (I : Inv X pins σ H s) (hn : H a = none) (new : X.s₀.heap.get? a = none) (hL : a ≠ X.env.locals) (hc : ∀ x c, X.env.cells.lookup x = some c → c ≠ a) (hp : ∀ p ∈ X.pn ++ pins, p.1 ≠ a)
    (ok : ObjOk X.prog X.w (upd H a u) s.heap a u) : Inv X pins σ (upd H a u) s := by
  have ne : ∀ b o, H b = some o → b ≠ a := fun b o e z => by rw [z, hn] at e; cases e
  have nw : ∀ b o, X.s₀.heap.get? b = some o → b ≠ a := fun b o e z => by rw [z, new] at e; cases e
  refine ⟨I.ok, I.os, I.bare, ⟨I.base.keep, I.base.slot, fun b o q n hx => ?_, I.base.there, fun b xs q => ?_, fun b o v q => ?_, fun b ps q => ?_⟩, I.loc, I.cell, ?_, fun x c e => ?_, fun p h => ?_, fun b o e => ?_, I.len⟩
  · rw [upd_ne (nw b o q)]; exact I.base.free b o q n hx
  · have e := I.base.tups b xs q; rw [upd_ne (ne b _ e)]; exact e
  · have e := I.base.frzs b o v q; rw [upd_ne (ne b _ e)]; exact e
  · obtain ⟨m, e⟩ := I.base.tbls b ps q; exact ⟨m, by rw [upd_ne (ne b _ e)]; exact e⟩
  · rw [upd_ne (Ne.symm hL)]; exact I.free
  · rw [upd_ne (hc x c e)]; exact I.freeC x c e
  · obtain ⟨e1, e2, e3⟩ := I.pin p h
    exact ⟨e1, by rw [upd_ne (hp p h)]; exact e2, e3⟩
  · by_cases hb : b = a
    · subst hb; rw [upd_same] at e; cases e; exact ok
    · rw [upd_ne hb] at e
      exact (I.hok b o e).stay (fun _ _ _ q => q) (fun c q => by rw [upd_ne (ne c _ q)]; exact q) fun c xs q => by rw [upd_ne (ne c _ q)]; exact q
theorem Inv.gone {i : Nat} {x : Str} {h' : Heap} {v : Option Value} {m : Str → Option Value} {t : Nat} (I : Inv X pins σ H s) (hN : X.N.Nodup) (hi : X.N[i]? = some x)
    (hm : ∀ (i : Nat) (x : Str) (v : V), X.N[i]? = some x → σ[i]? = some (some v) → Vis X.env.scope x → ∃ u, RelV v u ∧ Look X.env s.heap m x u)
    (hn' : h'.Ns X.env.locals (fun y => if y = x then v else m y)) (hs : Heap.SameBut X.env.locals s.heap h') : Inv X pins (σ.set i none) H { s with heap := h', toks := t } := by
  obtain ⟨m0, ⟨oL, es, ep, hoL, r0⟩, _⟩ := id I.loc
  have cne := I.cne
  refine ⟨I.ok, I.os, I.bare, ⟨fun b o e n hb hx => ?_, fun b o e n hb hx => ?_, I.base.free, fun b o e hx => ?_, I.base.tups, I.base.frzs, I.base.tbls⟩, ⟨_, hn', fun j y v' e1 e2 e3 => ?_⟩, fun y c e => ?_, I.free, I.freeC, fun p hp => ?_, fun b ob e => ?_, by simpa using I.len⟩
  · exact (hs.2 b (Nat.ne_of_lt (Nat.lt_of_lt_of_le (Heap.lt_size e) I.ok.above))).trans (I.base.keep b o e n hb hx)
  · obtain ⟨sl, e1⟩ := I.base.slot b o e n hb hx
    exact ⟨sl, (hs.2 b (Nat.ne_of_lt (Nat.lt_of_lt_of_le (Heap.lt_size e) I.ok.above))).trans e1⟩
  · obtain ⟨o', e1⟩ := I.base.there b o e hx
    exact ⟨o', (hs.2 b (Nat.ne_of_lt (Nat.lt_of_lt_of_le (Heap.lt_size e) I.ok.above))).trans e1⟩
  · by_cases hj : j = i
    · subst hj
      rw [List.getElem?_set] at e2
      split at e2
      · split at e2 <;> cases e2
      · exact absurd rfl ‹¬ j = j›
    · rw [List.getElem?_set_ne (Ne.symm hj)] at e2
      obtain ⟨u', r', q⟩ := hm j y v' e1 e2 e3
      refine ⟨u', r', ?_⟩
      rcases q with ⟨k, e⟩ | ⟨k, c, e, z⟩
      · refine .inl ⟨k, ?_⟩
        have : y ≠ x := fun e => hj (nodup_ix hN e1 (e ▸ hi))
        simp [this, e]
      · exact .inr ⟨k, c, e, z.sameBut hs (cne y c e)⟩
  · obtain ⟨w', z⟩ := I.cell y c e
    exact ⟨w', z.sameBut hs (cne y c e)⟩
  · obtain ⟨e, n, ne, nf, d⟩ := I.pin p hp
    exact ⟨(hs.2 p.1 ne).trans e, n, ne, nf, d⟩
  · refine (I.hok b ob e).stay (fun c w' hc q => (hs.2 c ?_).trans q) (fun _ q => q) fun _ _ q => q
    rintro rfl
    rcases hc with rfl | hc
    · rw [I.free] at e; cases e
    · rw [I.free] at hc; cases hc
end
abbrev Cx.marked (X : Cx) (e : Addr) : Cx := { X with A := X.A.mark (some (.ref e)), calm := false, xe := fun _ _ => False }
theorem Inv.mark {X : Cx} {pins : List (Addr × Obj)} {σ : St} {H : Hp} {s : Shared} (I : Inv X pins σ H s) (e : Addr) : Inv (X.marked e) pins σ H s :=
  ⟨⟨I.ok.mod, I.ok.kind, I.ok.glob, I.ok.blt, I.ok.above, I.ok.inj, I.ok.has, I.ok.cab, fun z => Bool.noConfusion z, I.ok.frames, I.ok.stk, I.ok.exf, I.ok.bs, I.ok.bsz, I.ok.noex, I.ok.exfs, I.ok.funs, I.ok.frf⟩, I.os, I.bare, I.base, I.loc, I.cell, I.free, I.freeC, I.pin, I.hok, I.len⟩
theorem Inv.unmark {X : Cx} {pins : List (Addr × Obj)} {σ : St} {H : Hp} {s s0 : Shared} {pins0 : List (Addr × Obj)} {σ0 : St} {H0 : Hp} {e : Addr} (I : Inv (X.marked e) pins σ H s) (I0 : Inv X pins0 σ0 H0 s0) : Inv X pins σ H s :=
  ⟨I0.ok, I.os, I.bare, I.base, I.loc, I.cell, I.free, I.freeC, I.pin, I.hok, I.len⟩
structure RoomQ (k : Nat) (A : Around) : Prop where
  dp : A.depth + 3 * k + 5 < recursionLimit
  un : A.units + 16 * k + 200 < cLine
theorem Room.q {k : Nat} {A : Around} (r : Room k A) : RoomQ k A := ⟨r.dp, r.un⟩
theorem Room.qm {k : Nat} {A : Around} (r : Room k A) (e : Value) : RoomQ k (A.mark (some e)) := ⟨r.dp, r.un⟩
theorem RoomQ.mono {j k : Nat} {A : Around} (r : RoomQ k A) (h : j ≤ k) : RoomQ j A := ⟨by have := r.dp; omega, by have := r.un; omega⟩
theorem RoomQ.deeper {k : Nat} {A : Around} (r : RoomQ (k + 1) A) (env : Env) : RoomQ k (A.deeper env) :=
  ⟨by have := r.dp; show A.depth + 1 + 3 * k + 5 < _; omega, by have := r.un; show A.units + 3 + 16 * k + 200 < _; omega⟩
structure FnOkQ (P : Program) (w : World) (K : PySem.W.Frag) (mg : Str → Option Value) (base : Heap) (k : Nat) (f : Addr) (fd : FuncData) (ps : List Str) (sp : Sp) : Prop where
  len : ∀ vs H Q E, sp vs H Q E → vs.length = ps.length
  run : ∀ (A : Around) (outer : List Env) (s : Shared) (H : Hp) (args : Args) (us : List Value) (vs : List V) (Q : VK) (E : XK), RoomQ k A → Env0 P w K mg base A outer s H → BindsTo s fd args (ps.zip us) → Vals vs us → sp vs H Q E →
    codeAny (model P w) A (.call (.ref f) args) (CR CX0 outer P w H s Q E) s
def cxOfQ (P : Program) (w : World) (K : PySem.W.Frag) (mg : Str → Option Value) (base : Heap) (N : List Str) (qual : Str) (scope : Scope) (f : Addr) (cd : Value) (A : Around) (outer : List Env) (s : Shared) (H : Hp) (E : XK) : Cx :=
  { cxOf CX0 P w K mg base N qual scope f cd A outer s H E with calm := false, xe := fun _ _ => False }
theorem fn_ofQ {P : Program} {w : World} {K : PySem.W.Frag} {mg : Str → Option Value} {base : Heap} {k : Nat} {f : Addr} {name qual : Str} {params : Arguments} {body : List Stmt} {scope : Scope} {dV kV doc pm cdv ct oc : Value} {an od : Option Addr}
    {osl : Array (Option Value)} {N ps : List Str} {sp : Sp} (lk : K.lookup f = some ⟨oc, od, .func (PySem.W.fnOf name qual params body scope dV kV doc pm an cdv ct), osl⟩) (hcd : PySem.W.codeIn K cdv qual = true) (S : FnScope N ps scope)
    (len : ∀ vs H Q E, sp vs H Q E → vs.length = ps.length)
    (hbody : ∀ (A : Around) (outer : List Env) (s : Shared) (H : Hp) (vs : List V) (Q : VK) (E : XK), RoomQ k (A.deeper (envOfC qual scope s.heap.objs.size f cdv)) → sp vs H Q E →
      ∃ t, PSs (cxOfQ P w K mg base N qual scope f cdv A outer s H E) body t ∧ t { nx := fun _ H' => Q .non H', rt := Q } (start N vs) H) :
    FnOkQ P w K mg base (k + 1) f (PySem.W.fnOf name qual params body scope dV kV doc pm an cdv ct) ps sp := by
  refine ⟨len, fun A outer s H args us vs Q E hr e0 hb r hsp => ?_⟩
  have hl := len _ _ _ _ hsp
  have KX : K.In s.heap := e0.mod.kin.keeps fun b o e => (e0.bs b o e).1
  have lim : s.heap.NoLimit := e0.mod.nolimit.keeps fun b o e => (e0.bs b o e).1
  have hkind : ∀ y ∈ ps.zip us, scope.names.lookup y.1 = some .local ∨ (scope.names.lookup y.1 = some .cell ∧ ((cellsFrom (s.heap.objs.size + 1) scope.names []).lookup y.1).isSome = true) := fun ⟨n, v⟩ hy => by
    rcases S.par n (List.of_mem_zip hy).1 with q | q
    · exact .inl q
    · exact .inr ⟨q, PySem.W.cellsFrom_some _ _ _ (.inl q)⟩
  have hdp : A.depth < recursionLimit := by have := hr.dp; omega
  refine codeAny_call_function hdp (KX _ _ lk) rfl S.co S.gen rfl (PySem.W.codeRec_of KX hcd) (hb _ _ _ _ ?_)
  refine wpAny_newFunctionEnv_cells S.kind hkind fun env he s1 x => ?_
  subst he
  refine ⟨lim.keeps x.toInCall.keep, codeAny_func ?_⟩
  obtain ⟨t, ht, hq⟩ := hbody A outer s H vs Q E (hr.deeper _) hsp
  have e1 : Env0 P w K mg base { A with handled := none } outer s H := ⟨e0.frames, e0.mod, e0.bs, e0.bsz, e0.funs, e0.frf, e0.hok, e0.bare⟩
  have I0 : Inv (cxOf CX0 P w K mg base N qual scope f cdv { A with handled := none } outer s H E) [] (start N vs) H s1 := inv_start S rfl e1 hl r x
  have I : Inv (cxOfQ P w K mg base N qual scope f cdv A outer s H E) [] (start N vs) H s1 :=
    ⟨⟨I0.ok.mod, I0.ok.kind, I0.ok.glob, I0.ok.blt, I0.ok.above, I0.ok.inj, I0.ok.has, I0.ok.cab, fun z => Bool.noConfusion z, Around.frames_deeper e0.frames, I0.ok.stk, I0.ok.exf, I0.ok.bs, I0.ok.bsz, I0.ok.noex, I0.ok.exfs, I0.ok.funs, I0.ok.frf⟩, I0.os, I0.bare, I0.base, I0.loc, I0.cell, I0.free, I0.freeC, I0.pin, I0.hok, I0.len⟩
  refine wpAny_mono (ht [] s1 (start N vs) H _ I hq) (fun fl s' hs => ?_) fun e s' hs => False.elim hs
  have fin : ∀ {σ' : St} {H' : Hp} {v : V} {u : Value}, Inv (cxOfQ P w K mg base N qual scope f cdv A outer s H E) [] σ' H' s' → RelV v u → Q v H' → CE outer P w H s Q u s' :=
    fun {σ' H' v u} J rv q => ⟨v, H', J.os, J.bare, J.base, J.hok, rv, q⟩
  cases fl with
  | ret u =>
    obtain ⟨v, σ', H', J, rv, q⟩ := hs
    exact fin J rv q
  | next =>
    obtain ⟨σ', H', J, q⟩ := hs
    exact fin (v := V.non) (u := Value.none) J rfl q
  | brk =>
    obtain ⟨_, _, _, q⟩ := hs
    exact False.elim q
  | cont =>
    obtain ⟨_, _, _, q⟩ := hs
    exact False.elim q
section
variable {X : Cx} {k : Nat} {f : Addr} {fd : FuncData} {ps : List Str} {sp : Sp} {x : Str} {p pos : Pos} {e : Expr} {es : List Expr} {t : TA}
theorem pe_callQ (F : FnOkQ X.prog X.w X.K X.mg X.base k f fd ps sp) (hr : RoomQ k X.A) (hg : Gl X x) (hm : X.mg x = some (.ref f)) (hk : PySem.W.keepIn X.K (.ref f) = true) (hb : Binds X.K fd ps [])
    (ha : PA X (e :: es) t) (hdb : (x == ("__debug__" : Str)) = false := by decide) (he : starEach (e :: es) X.env = (false, eval e X.env) :: starEach es X.env := by rfl) (hpl : (backTo pos (starEach es X.env)).any (·.1) = false := by rfl) :
    PE X (.Call (.Name x p) (e :: es) [] pos) (fun σ H Q => t σ H fun vs H1 => sp vs H1 Q E0) := by
  intro pins s σ H Q I h
  refine wpAny_Call_Name_kw (ld_glob I hg hm ?_ hdb)
  refine PySem.W.callWith_K (h₀ := X.base) I.ok.mod.kin hk (thn (ha pos pins s σ H _ I h) fun us s1 ⟨vs, H1, I1, r, q⟩ => ⟨I1.kIn, ?_⟩) he hpl
  have hl : us.length = ps.length := by rw [← r.length]; exact F.len _ _ _ _ q
  have hb1 := hb s1 us I1.kIn (by rw [List.append_nil]; exact hl)
  rw [List.append_nil] at hb1
  refine wpAny_call (codeAny_mono (F.run X.A X.stack s1 H1 ⟨us, []⟩ us vs Q E0 hr I1.env0 hb1 r q) fun r s' hq => ?_)
  cases r with
  | error e => exact False.elim hq
  | ok fl =>
    cases fl with
    | ret u => exact I1.after hq
    | next => exact False.elim hq
    | brk => exact False.elim hq
    | cont => exact False.elim hq
def clsV : V → Value
  | .ref a => .ref a
  | .ty n => .type n
  | _ => .none
theorem call_isiE : CallR X (.builtin "isinstance") (fun xs H Q => ∃ (a D : Addr) (c : V) (b : Bool), xs = [V.ref a, c] ∧ (∃ z, c = .ref z ∨ ∃ n, c = .ty n) ∧ H a = some (.ext (ExcAt a D)) ∧ ExcCls X.K D ∧ PySem.W.kitOne X.K (.ref D) (clsV c) = some b ∧ Q (.bl b) H) := by
  intro pins s σ H xs us Q I r h
  obtain ⟨a, D, c, b, rfl, hc, ha, ec, ek, q⟩ := h
  obtain ⟨u1, u2, rfl, r1, r2⟩ := vals2 r
  cases (show u1 = Value.ref a from r1)
  have e2 : u2 = clsV c := by
    rcases hc with ⟨z, rfl | ⟨n, rfl⟩⟩
    · exact r2
    · exact r2
  subst e2
  obtain ⟨hx, _, _⟩ := (show ObjOk X.prog X.w H s.heap a (.ext (ExcAt a D)) from I.hok a _ ha)
  exact PySem.W.kia_one (kitx_exc ec) I.kIn hx ek (fun z => nomatch z) fun tk => ⟨.bl b, H, I.tok _, rfl, q⟩
end
end L2

set_option Elab.async false
set_option linter.all false
set_option maxRecDepth 100000
namespace L2
open PySem PySem.Spec PyProof.Rows
structure Deed (P : Program) (w : World) (K : PySem.W.Frag) (mg : Str → Option Value) (base : Heap) (k : Nat) (s : Shared) (H : Hp) (outer : List Env) (g : Addr) (sp : Hp → VK → XK → Prop) : Prop where
  fn : PySem.W.FnAt g s.heap
  un : H g = none
  nf : g ∉ frs outer
  run : ∀ (A' : Around) (outer' : List Env) (s' : Shared) (H' : Hp) (Q : VK) (E : XK), Room k A' → Env0 P w K mg base A' outer' s' H' →
    (∀ b o, s.heap.get? b = some o → H b = none → b ∉ frs outer → s'.heap.get? b = some o ∧ H' b = none) → (∀ b o u, H b = some (.frz o u) → H' b = some (.frz o u)) → sp H' Q E → codeAny (model P w) A' (.call (.ref g) ⟨[], []⟩) (CR (CXr P w) outer' P w H' s' Q E) s'
def sTry (K : PySem.W.Frag) (g R : Addr) (i j : Nat) (sp : Hp → VK → XK → Prop) (tb : TS) : TS := fun D σ H => σ[i]? = some (some (.ref g)) ∧ ∃ E : XK, sp H (fun _ H1 => D.nx σ H1) E ∧
  ∀ C a H1, E C (some a) H1 → H1 a = none → ∃ Ca, C = .ref Ca ∧ PySem.W.exmOne K (.ref Ca) (.ref R) = some true ∧
    tb { nx := fun σ' H2 => D.nx (σ'.set j none) H2, rt := fun _ _ => False } (σ.set j (some (.ref a))) (upd H1 a (.ext (ExcAt a Ca)))
theorem ps_try {X : Cx} {k i j : Nat} {g R : Addr} {sp : Hp → VK → XK → Prop} {x c en : Str} {np cp ep cp2 hp tp : Pos} {b₀ : Stmt} {suite : List Stmt} {tb : TS}
    (hd : Deed X.prog X.w X.K X.mg X.base k X.s₀ X.H₀ X.outer g sp) (hr : Room k X.A) (hex : X.ex = []) (hstk : X.stack = X.env :: X.outer) (hfr : X.env.frame = some X.env.locals)
    (hx : PE X.nox (.Name x np) (tVar i)) (hcg : Gl X c) (hcm : X.mg c = some (.ref R)) (hN : X.N.Nodup) (hj : X.N[j]? = some en) (hlj : X.env.scope.names.lookup en = some .local) (hs : ∀ e, PSs (X.marked e) (b₀ :: suite) tb)
    (hdb : (c == ("__debug__" : Str)) = false := by decide) (hsw : swapsWith (.Call (.Name x np) [] [] cp) none ep.line X.env = pure false := by rfl) :
    PS X (.Try [.Expr (.Call (.Name x np) [] [] cp) ep] [.ExceptHandler (some (.Name c cp2)) (some en) (b₀ :: suite) hp] [] [] tp) (sTry X.K g R i j sp tb) := by
  intro pins s σ H D I ⟨hg, E, hsp, hE⟩
  refine wpAny_Try_except (wpAny_execs_cons (wpAny_Expr_any (wpAny_Call_Name_kw ?_) I.quiet hsw))
  refine wpAny_mono (hx pins s σ H (fun v H1 => v = .ref g ∧ H1 = H) (I.wish _) ⟨.ref g, hg, rfl, rfl⟩) (fun u s1 ⟨v, H1, I1, r1, ev, eH⟩ => ?_) fun _ _ z => False.elim z
  subst ev; subst eH
  obtain rfl : u = Value.ref g := r1
  have I1 : Inv X pins σ H1 s1 := I1.unwish
  have keep : ∀ b o, X.s₀.heap.get? b = some o → X.H₀ b = none → b ∉ frs X.outer → s1.heap.get? b = some o ∧ H1 b = none := fun b o q n hb =>
    ⟨I1.base.keep b o q n hb (by rw [hex]; exact fun z => nomatch z), I1.base.free b o q n (by rw [hex]; exact fun z => nomatch z)⟩
  have hfa : PySem.W.FnAt g s1.heap := by
    obtain ⟨oc, od, fd, sl, e⟩ := hd.fn
    exact ⟨oc, od, fd, sl, (keep g _ e hd.un hd.nf).1⟩
  refine PySem.W.callWith_F0 hfa (wpAny_call (codeAny_mono (hd.run X.A X.stack s1 H1 _ E hr I1.env0 keep I1.base.frzs hsp) fun r s' hq => ?_))
  cases r with
  | ok fl =>
    cases fl with
    | ret u =>
      obtain ⟨v, H2, I2, rv, q⟩ := I1.after hq
      exact wpAny_execs_nil (wpAny_execs_nil ⟨σ, H2, I2, q⟩)
    | next => exact False.elim hq
    | brk => exact False.elim hq
    | cont => exact False.elim hq
  | error e =>
    obtain ⟨a, C, a0, H', B, rfl, fl, os, bare, un, kb, tb', hok, hEq⟩ := hq
    have nox : ∀ b : Addr, b ∉ ([] : List Addr) := fun b z => nomatch z
    have f0 : Flt X.prog X.w X.stack H1 s1 H' B s'.heap := ⟨fl.1, fl.2.2.1, fun b o q n hb => un.slot b o q n hb (nox b), fun b o q n => un.free b o q n (nox b), un.tups, un.frzs, un.tbls, kb, tb', hok⟩
    have hAf : X.A.frames = some (X.env :: X.outer) := by rw [← hstk]; exact I.ok.frames
    rw [hstk] at fl
    refine wpAny_looks_onW hAf hfr fl fun h2 held u2 => ?_
    have f2 := f0.next held.1 (by rw [hstk]; exact held.2.2.1) u2
    refine wpAny_landsW held fun h3 fl3 u3 => ?_
    have f3 := f2.next fl3.1 (by rw [hstk]; exact fl3.2.2.1) u3
    have hna : H' a = none := by
      cases q : H' a with
      | none => rfl
      | some o =>
        obtain ⟨ob, e⟩ := ObjOk.there (hok a o q)
        rw [fl3.2.1] at e; cases e
    obtain ⟨Ca, rfl, hex2, hq⟩ := hE C a H' hEq hna
    have I3 : Inv X pins σ H' { s' with heap := h3 } := I1.call' (s' := { s' with heap := h3 }) (ch := []) os f3.un f3.ok bare fun b z => absurd z (nox b)
    have xAt : ∀ {h : Heap}, Heap.FlyingW B (X.env :: X.outer) a (.ref Ca) a0 h → ExcAt a Ca h := fun {h} z => by
      obtain ⟨oe, vs, e1, e2, e3, _⟩ := z.first
      exact ⟨oe, vs, e1, e2, e3⟩
    refine wpAny_handleBy_cons (codeAny_handlers_test ?_) (by intro q; cases q)
    refine ld_glob (X := X.marked a) (I3.mark a) hcg hcm ?_ hdb
    refine (PySem.W.exm_one (I3.kIn) (xAt fl3).ty hex2).here ?_
    refine codeAny_handlers_suite_as ?_
    refine wpAny_setFlight_noneW fl3.1 fl3.2.2.1 fl3.2.2.2 fun h4 k1 k2 k3 k4 => ?_
    have fl4 : Heap.FlyingW B (X.env :: X.outer) a (.ref Ca) a0 h4 := ⟨k1, fl3.2.1, k2, k3⟩
    have f4 := f3.next k1 (by rw [hstk]; exact k2) fun b o hb hn => ⟨o.slots, k4 b o hb hn⟩
    have I4 : Inv X pins σ H' { s' with heap := h4 } := I1.call' (s' := { s' with heap := h4 }) (ch := []) os f4.un f4.ok bare fun b z => absurd z (nox b)
    obtain ⟨ox, vx, ex1, ex2, ex3⟩ := xAt fl4
    have nfrm : a ∉ frs X.stack := fun z => by
      obtain ⟨_, o, ho, hnf⟩ := f4.frames.mem z
      rw [ex1] at ho; cases ho
      exact hnf vx ex3
    have old : ∀ b o, s1.heap.get? b = some o → b ≠ a := fun b o q z => by
      subst z
      obtain ⟨o', e'⟩ := tb' b o q nfrm
      rw [fl3.2.1] at e'; cases e'
    have I5 : Inv X pins σ (upd H' a (.ext (ExcAt a Ca))) { s' with heap := h4 } := by
      refine I4.tracked hna ?_ ?_ ?_ ?_ ⟨xAt fl4, ⟨ox, ex1⟩, fun ha hb ⟨o, vs, y1, y2, y3⟩ kp => ⟨o, vs, kp o y1, y2, y3⟩⟩
      · cases q : X.s₀.heap.get? a with
        | none => rfl
        | some o =>
          obtain ⟨o', e'⟩ := I1.base.there a o q (by rw [hex]; exact nox a)
          exact absurd rfl (old a o' e')
      · obtain ⟨m, ⟨oL, _, _, hoL, _⟩, _⟩ := I1.loc
        exact Ne.symm (old _ _ hoL)
      · intro y cc ec
        obtain ⟨v, o, ho, _⟩ := I1.cell y cc ec
        exact old _ _ ho
      · intro p hp
        exact old _ _ (I1.pin p hp).1
    refine store_ok (X := X.marked a) (i := j) (v := .ref a) (I5.mark a) hN hj (.inl hlj) rfl (fun s5 I6 => ?_) (.inr hlj)
    refine wpAny_mono (hs a pins s5 (σ.set j (some (.ref a))) _ _ I6 hq) (fun f s6 z => ?_) fun _ _ z => False.elim z
    cases f with
    | next =>
      obtain ⟨σ', H2, I7, q⟩ := z
      have I7 : Inv X pins σ' H2 s6 := I7.unmark I
      obtain ⟨m, hn, hm⟩ := id I7.loc
      refine wpAny_nameGoes_keeps hlj hn (by rw [I.ok.kind]; rfl) fun h' v hn' hs' => ?_
      exact ⟨σ'.set j none, H2, I7.gone hN hj hm hn' hs', q⟩
    | ret u => obtain ⟨_, _, _, _, _, q⟩ := z; exact False.elim q
    | brk => obtain ⟨_, _, _, q⟩ := z; exact False.elim q
    | cont => obtain ⟨_, _, _, q⟩ := z; exact False.elim q
end L2

set_option Elab.async false
set_option linter.all false
set_option maxRecDepth 100000
namespace L2
open PySem PySem.Spec PyProof.Rows
theorem passG {X : Cx} {E : XK} (hstk : X.stack = X.env :: X.outer) (hfr : X.env.frame = some X.env.locals) (hex : X.ex = []) {pins : List (Addr × Obj)} {σ : St} {H : Hp} {s : Shared} {e : Value} {s' : Shared} (I : Inv X pins σ H s)
    (h : CXr X.prog X.w X.stack H s E e s') {E1 : Value → Shared → Prop} : wpAny (model X.prog X.w) X.A (leaving X.env e) (fun _ s'' => CXr X.prog X.w X.outer X.H₀ X.s₀ E e s'') E1 s' := by
  obtain ⟨a, C, a0, H', B, rfl, fl, os, bare, un, kb, tb, hok, hE⟩ := h
  have nox : ∀ b : Addr, b ∉ ([] : List Addr) := fun b z => nomatch z
  have nxx : ∀ b : Addr, b ∉ X.ex := fun b => by rw [hex]; exact nox b
  have f0 : Flt X.prog X.w X.stack H s H' B s'.heap := ⟨fl.1, fl.2.2.1, fun b o q n hb => un.slot b o q n hb (nox b), fun b o q n => un.free b o q n (nox b), un.tups, un.frzs, un.tbls, kb, tb, hok⟩
  have hAf : X.A.frames = some (X.env :: X.outer) := by rw [← hstk]; exact I.ok.frames
  have sfr : frs X.stack = X.env.locals :: frs X.outer := by rw [hstk]; unfold frs; rw [List.filterMap_cons, hfr]
  have nfr : ∀ b o, X.s₀.heap.get? b = some o → b ∉ frs X.outer → b ∉ frs X.stack := fun b o eb hb z => by
    rw [sfr] at z
    rcases List.mem_cons.mp z with z | z
    · exact absurd (Nat.lt_of_lt_of_le (Heap.lt_size eb) I.ok.above) (by rw [z]; exact Nat.lt_irrefl _)
    · exact hb z
  rw [hstk] at fl
  refine wpAny_leaves_onW hAf hfr fl fun h' fl' ups => ?_
  refine ⟨a, C, a0, H', B, rfl, fl', os.trans I.os, bare, ⟨fun b o q n hb _ => ?_, fun b o q n hb hx => ?_, fun b o q n hx => ?_, fun b o q hx => ?_, fun b xs q => un.tups b xs (I.base.tups b xs q), fun b o u q => un.frzs b o u (I.base.frzs b o u q), fun b ps q => ?_⟩, fun b o q n hb => ?_, fun b o q hb => ?_, hok, hE⟩
  · exact fl'.1 b o (kb b o (I.base.keep b o q n hb (nxx b)) (I.base.free b o q n (nxx b)) (nfr b o q hb))
  · obtain ⟨sl, e1⟩ := I.base.slot b o q n hb (nxx b)
    obtain ⟨sl2, e2⟩ := un.slot b _ e1 (I.base.free b o q n (nxx b)) (by rw [sfr]; exact List.mem_cons_of_mem _ hb) (nox b)
    obtain ⟨_, o2, ho2, hnf⟩ := f0.frames.mem (show b ∈ frs X.stack by rw [sfr]; exact List.mem_cons_of_mem _ hb)
    rw [e2] at ho2
    cases ho2
    obtain ⟨sl3, e3⟩ := ups b _ e2 hnf
    exact ⟨sl3, e3⟩
  · obtain ⟨sl, e1⟩ := I.base.any q n (nxx b)
    exact un.free b _ e1 (I.base.free b o q n (nxx b)) (nox b)
  · obtain ⟨o1, e1⟩ := I.base.there b o q (nxx b)
    by_cases hb : b ∈ frs X.stack
    · obtain ⟨_, o2, ho2, hnf⟩ := f0.frames.mem hb
      obtain ⟨sl2, e2⟩ := ups b _ ho2 hnf
      exact ⟨_, e2⟩
    · obtain ⟨o2, e2⟩ := tb b o1 e1 hb
      exact ⟨o2, fl'.1 b o2 e2⟩
  · obtain ⟨more, e1⟩ := I.base.tbls b ps q
    obtain ⟨more2, e2⟩ := un.tbls b _ e1
    exact ⟨more ++ more2, by rw [← Array.append_assoc]; exact e2⟩
  · exact kb b o (I.base.keep b o q n hb (nxx b)) (I.base.free b o q n (nxx b)) (nfr b o q hb)
  · obtain ⟨o1, e1⟩ := I.base.there b o q (nxx b)
    exact tb b o1 e1 (nfr b o q hb)
def cxLam (P : Program) (w : World) (K : PySem.W.Frag) (mg : Str → Option Value) (base : Heap) (N : List Str) (qual : Str) (scope : Scope) (g : Addr) (cd : Value) (cl : List (Str × Addr)) (A : Around) (outer : List Env) (s : Shared) (H : Hp) (E : XK) : Cx where
  prog := P
  w := w
  K := K
  mg := mg
  base := base
  A := A.deeper (PySem.W.envX qual scope s.heap.objs.size g cd cl)
  N := N
  s₀ := s
  H₀ := H
  env := PySem.W.envX qual scope s.heap.objs.size g cd cl
  outer := outer
  stack := PySem.W.envX qual scope s.heap.objs.size g cd cl :: outer
  ex := []
  calm := true
  fn := fun _ => false
  pn := []
  xe := fun e s' => wpAny (model P w) (A.deeper (PySem.W.envX qual scope s.heap.objs.size g cd cl)) (leaving (PySem.W.envX qual scope s.heap.objs.size g cd cl) e) (fun _ s'' => CXr P w outer H s E e s'') (fun e' s'' => CXr P w outer H s E e' s'') s'
theorem passL {P : Program} {w : World} {K : PySem.W.Frag} {mg : Str → Option Value} {base : Heap} {N : List Str} {qual : Str} {scope : Scope} {g : Addr} {cd : Value} {cl : List (Str × Addr)} {A : Around} {outer : List Env} {s : Shared} {H : Hp} {E : XK} :
    Passes (CXr P w) (cxLam P w K mg base N qual scope g cd cl A outer s H E) E := fun pins σ H1 s1 e s' I h => passG (X := cxLam P w K mg base N qual scope g cd cl A outer s H E) rfl rfl rfl I h
structure LamAt (h : Heap) (H : Hp) (fs : List Addr) (N : List Str) (σ : St) (qual : Str) (params : Arguments) (body : Expr) (scope : Scope) (cl : List (Str × Addr)) (g c' : Addr) : Prop where
  fn : ∃ pm ctv, h.get? g = some (PySem.W.kla_obj "<lambda>" qual params body scope cl pm c' ctv)
  gn : H g = none ∧ g ∉ fs
  code : ∃ o vs t, H c' = some (.frz o (.own 0)) ∧ o.data = .fields vs ∧ vs[1]? = some (.str qual t)
  cells : ∀ x c, cl.lookup x = some c → (∃ v, h.IsCell c v) ∧ H c = none ∧ c ∉ fs
  vals : ∀ (i : Nat) (x : Str) (v : V), N[i]? = some x → σ[i]? = some (some v) → ∃ u c, RelV v u ∧ cl.lookup x = some c ∧ h.IsCell c (some u)
theorem deed_lam {P : Program} {w : World} {K : PySem.W.Frag} {mg : Str → Option Value} {base : Heap} {k : Nat} {s : Shared} {H : Hp} {outer : List Env} {g c' : Addr} {N : List Str} {σ : St} {qual : Str} {params : Arguments} {body : Expr} {scope : Scope} {cl : List (Str × Addr)} {tb : XK → TE}
    (L : LamAt s.heap H (frs outer) N σ qual params body scope cl g c') (hl : σ.length = N.length) (hk : scope.kind = .function) (hco : scope.isCoroutine = false) (hgen : scope.isGenerator = false) (hcell : ∀ x ∈ scope.names, x.2 ≠ .cell)
    (hfree : ∀ x : Str, scope.names.lookup x = some .free → ∃ c, cl.lookup x = some c) (hN : ∀ x ∈ N, scope.names.lookup x = some .free) (hinj : ∀ x y c, cl.lookup x = some c → cl.lookup y = some c → x = y)
    (hbind : ∀ (pm cd ctv : Value), bindArgs (PySem.W.kla_fn "<lambda>" qual params body scope cl pm cd ctv) ⟨[], []⟩ = pure [])
    (hbody : ∀ (A : Around) (outer : List Env) (s : Shared) (H : Hp) (E : XK), Room k (A.deeper (PySem.W.envX qual scope s.heap.objs.size g (.ref c') cl)) → PE (cxLam P w K mg base N qual scope g (.ref c') cl A outer s H E) body (tb E)) :
    Deed P w K mg base (k + 1) s H outer g (fun H1 Q E => tb E σ H1 Q) := by
  obtain ⟨pm, ctv, hg⟩ := L.fn
  refine ⟨⟨_, _, _, _, hg⟩, L.gn.1, L.gn.2, fun A' outer' s' H' Q E hr e0 keep kfrz hq => ?_⟩
  have hg' := (keep g _ hg L.gn.1 L.gn.2).1
  have lim : s'.heap.NoLimit := e0.mod.nolimit.keeps fun b o e => (e0.bs b o e).1
  obtain ⟨oc, vs, t, h1, h2, h3⟩ := L.code
  have hcode : s'.heap.CodeRec (.ref c') qual := by
    obtain ⟨e1, _⟩ := e0.hok c' _ (kfrz c' oc _ h1)
    exact ⟨c', oc, vs, t, rfl, e1, h2, h3⟩
  refine PySem.W.kla_callFunE hr.depth hg' rfl hco hgen rfl hcode ?_
  rw [hbind]
  refine wpAny_pure (wpAny_newFunctionEnv hcell (fun _ z => nomatch z) (fun h₁ hns hsb => ?_) hk)
  have hk₁ : ∀ b o, s'.heap.get? b = some o → h₁.get? b = some o := fun b o e => (hsb.2 b (Nat.ne_of_lt (Heap.lt_size e))).trans (Heap.get?_push_of_some _ e)
  refine ⟨lim.keeps hk₁, ?_⟩
  show codeAny _ _ (.expr body (PySem.W.envX qual scope s'.heap.objs.size g (.ref c') cl)) _ _
  have hcl : ∀ x c, cl.lookup x = some c → (∃ v, s'.heap.IsCell c v) ∧ H' c = none := fun x c e => by
    obtain ⟨⟨v, o, ho, hv⟩, n, nf⟩ := L.cells x c e
    obtain ⟨k1, k2⟩ := keep c o ho n nf
    exact ⟨⟨v, o, k1, hv⟩, k2⟩
  have I : Inv (cxLam P w K mg base N qual scope g (.ref c') cl A' outer' s' H' E) [] σ H' { s' with heap := h₁, toks := s'.toks + 0 } := by
    refine ⟨⟨e0.mod, hk, rfl, rfl, Nat.le_refl _, hinj, fun y hy => ?_, fun y c z => Bool.noConfusion z, fun _ => hr.hd, Around.frames_deeper e0.frames, .inr ⟨rfl, rfl⟩, (fun b z => nomatch z), e0.bs, e0.bsz, (fun b _ _ z => nomatch z), (fun b z => nomatch z), e0.funs, e0.frf⟩,
      rfl, e0.bare, Un.kept hk₁, ⟨_, hns, fun i y v h1 h2 h3 => ?_⟩, fun y c h => ?_, e0.hok.fresh (Nat.le_refl _), fun y c h => (hcl y c h).2, (fun p hp => nomatch hp), e0.hok.kept hk₁, hl⟩
    · have hy : scope.names.lookup y = some .cell ∨ scope.names.lookup y = some .free := hy
      rcases hy with hy | hy
      · exact absurd rfl (hcell _ (PySem.mem_of_lookup hy))
      · exact hfree y hy
    · obtain ⟨u, c, r, e, o, ho, hv⟩ := L.vals i y v h1 h2
      refine ⟨u, r, .inr ⟨.inr (hN y (List.mem_of_getElem? h1)), c, e, ?_⟩⟩
      obtain ⟨_, n, nf⟩ := L.cells y c e
      exact ⟨o, hk₁ _ _ (keep c o ho n nf).1, hv⟩
    · obtain ⟨⟨v, z⟩, _⟩ := hcl y c h
      exact ⟨v, z.keeps hk₁⟩
  refine PySem.W.kla_codeExpr (wpAny_mono (hbody A' outer' s' H' E (hr.deeper _) [] _ σ H' Q I hq) (fun u s2 ⟨v, H2, J, r, q⟩ => ?_) fun e s2 z => z)
  exact ⟨v, H2, J.os, J.bare, J.base, J.hok, r, q⟩
end L2

set_option Elab.async false
set_option linter.all false
set_option maxRecDepth 100000
namespace L2
open PySem PySem.Spec PyProof.Rows
def BM (base : Heap) (mg : Str → Option Value) : Prop := ∃ bm ob, mg "__builtins__" = some (.ref bm) ∧ bm ≠ builtinsNs ∧ base.get? bm = some ob ∧ ob.cls = .type "module" ∧ ob.dict = some builtinsNs ∧ ob.data = .plain
structure RefOk (P : Program) (w : World) (K : PySem.W.Frag) (mg : Str → Option Value) (base : Heap) (k kd : Nat) (f : Addr) (rs : (Hp → VK → XK → Prop) → Hp → VK → Prop) : Prop where
  run : ∀ (A : Around) (outer : List Env) (s : Shared) (H : Hp) (g : Addr) (spD : Hp → VK → XK → Prop) (Q : VK), Room k A → Env0 P w K mg base A outer s H → Deed P w K mg base kd s H outer g spD → rs spD H Q →
    codeAny (model P w) A (.call (.ref f) ⟨[.ref g], []⟩) (CR CX0 outer P w H s Q E0) s
def tRef (Pt : Addr) (qual : Str) (lpos : Pos) (js : List Nat) (rs : (Hp → VK → XK → Prop) → Hp → VK → Prop) (tb : XK → TE) : TE := fun σ H Q => ∃ ps : Array Value, H Pt = some (.tbl ps) ∧ TriplesOk ps.toList ∧
  ((codeAmong lpos ps.toList = none ∧ ∀ (c' : Addr) (oc : Obj) (vs : Array Value) (t : Tok), H c' = none → oc.data = .fields vs → vs[1]? = some (.str qual t) →
      rs (fun H1 Q1 E1 => tb E1 (js.map fun j => (σ[j]?).join) H1 Q1) (upd (upd H Pt (.tbl (ps ++ #[rawInt lpos.line, rawInt lpos.col, .ref c']))) c' (.frz oc (.own 0))) Q) ∨
   ∃ (c' : Addr) (oc : Obj) (vs : Array Value) (t : Tok), codeAmong lpos ps.toList = some (.ref c') ∧ H c' = some (.frz oc (.own 0)) ∧ oc.data = .fields vs ∧ vs[1]? = some (.str qual t) ∧ rs (fun H1 Q1 E1 => tb E1 (js.map fun j => (σ[j]?).join) H1 Q1) H Q)
section
variable {X : Cx} {pins : List (Addr × Obj)} {σ : St} {H : Hp} {s : Shared} {c Pt : Addr} {ps : Array Value} {params : Arguments} {body : Expr} {scope : Scope} {lpos : Pos} {clos : List (Str × Addr)} {Q : Value → Shared → Prop} {E : Value → Shared → Prop}
theorem lam_bm (I : Inv X pins σ H s) (hbm : BM X.base X.mg) (hP : H Pt = some (.tbl ps)) : s.heap.BuiltinsAt X.mg Pt := by
  obtain ⟨bm, ob, b1, b2, b3, b4, b5, b6⟩ := hbm
  obtain ⟨e1, e2⟩ := I.bs _ _ b3
  refine ⟨bm, ob, b1, b2, fun q => ?_, fun q => ?_, e1, b4, b5, b6⟩
  · obtain ⟨o, es, ep, e, hd, _⟩ := I.mod.glob
    rw [q, e] at b3; cases b3; rw [hd] at b6; cases b6
  · rw [q, hP] at e2; cases e2
theorem lam_gP (I : Inv X pins σ H s) (hP : H Pt = some (.tbl ps)) : mainGlobals ≠ Pt := fun q => by
  obtain ⟨o, es, ep, e, _⟩ := I.mod.glob
  have := (I.bs _ _ e).2
  rw [q, hP] at this; cases this
theorem make_lam (I : Inv X pins σ H s) (hcode : X.env.code = .ref c) (hC : PySem.W.CodeHd X.base c Pt) (hbm : BM X.base X.mg) (hP : H Pt = some (.tbl ps)) (ht : TriplesOk ps.toList) (hcl : closureFor scope X.env = pure clos) (hdef : defaultsOf params X.env = ([], []))
    (hn : codeAmong lpos ps.toList = none)
    (h : ∀ (c' g : Addr) (s1 : Shared) (oc : Obj) (vs : Array Value) (t : Tok) (pm ctv : Value), Inv X pins σ (upd (upd H Pt (.tbl (ps ++ #[rawInt lpos.line, rawInt lpos.col, .ref c']))) c' (.frz oc (.own 0))) s1 → H c' = none → s.heap.objs.size ≤ c' → oc.data = .fields vs → vs[1]? = some (.str (X.env.qual ++ "<lambda>") t) →
      s1.heap.get? g = some (PySem.W.kla_obj "<lambda>" (X.env.qual ++ "<lambda>") params body scope clos pm c' ctv) → s.heap.objs.size ≤ g → g ≠ c' → (∀ b o, b ≠ Pt → s.heap.get? b = some o → s1.heap.get? b = some o) → Q (.ref g) s1) :
    wpAny (model X.prog X.w) X.A (eval (.Lambda params body scope lpos) X.env) Q E s := by
  have hPg : s.heap.get? Pt = some (PySem.W.tabObj ps) := I.hok Pt _ hP
  refine PySem.W.kla_eval hdef (PySem.W.kla_makeFunction (mg := X.mg) hcl I.ok.glob (I.mod.glob.keeps I.bk) hcode (hC.keeps I.bk) hPg ht hn (lam_gP I hP) (lam_bm I hbm hP) fun c' ctv h' tk hx hge hlt hrec htb => ?_)
  obtain ⟨c2, oc, vs, t, e2, hoc, hd, hv⟩ := hrec
  cases e2
  have hcn : H c' = none := I.hok.fresh hge
  have hcP : c' ≠ Pt := fun z => by rw [z, hP] at hcn; cases hcn
  have hne : ∀ b u, H b = some u → b ≠ c' := fun b u e z => by rw [z, hcn] at e; cases e
  have hPs : Pt < s.heap.objs.size := Heap.lt_size hPg
  have hsz : s.heap.objs.size ≤ h'.objs.size := Nat.le_of_lt (Nat.lt_of_le_of_lt hge hlt)
  refine h c' h'.objs.size _ oc vs t _ ctv (I.un (t' := tk) ⟨fun b o e n _ _ => ?_, fun b o e n _ _ => ⟨o.slots, ?_⟩, fun b o e n _ => ?_, fun b o e _ => ?_, fun b xs e => ?_, fun b o u e => ?_, fun b qs e => ?_⟩ fun b u e => ?_) hcn hge hd hv (Heap.get?_push_size _ rfl) hsz (Nat.ne_of_gt hlt)
    fun b o hb e => Heap.get?_push_of_some _ (hx b o hb e)
  · exact Heap.get?_push_of_some _ (hx b o (fun z => by rw [z, hP] at n; cases n) e)
  · exact Heap.get?_push_of_some _ (hx b o (fun z => by rw [z, hP] at n; cases n) e)
  · rw [upd_ne (Nat.ne_of_lt (Nat.lt_of_lt_of_le (Heap.lt_size e) hge)), upd_ne (fun z => by rw [z, hP] at n; cases n)]; exact n
  · by_cases hb : b = Pt
    · subst hb; exact ⟨_, Heap.get?_push_of_some _ htb⟩
    · exact ⟨o, Heap.get?_push_of_some _ (hx b o hb e)⟩
  · rw [upd_ne (hne b _ e), upd_ne (fun z => by rw [z, hP] at e; cases e)]; exact e
  · rw [upd_ne (hne b _ e), upd_ne (fun z => by rw [z, hP] at e; cases e)]; exact e
  · by_cases hb : b = Pt
    · subst hb
      rw [hP] at e; cases e
      exact ⟨_, by rw [upd_ne (Ne.symm hcP), upd_same]⟩
    · exact ⟨#[], by rw [upd_ne (hne b _ e), upd_ne hb, e]; simp⟩
  · by_cases hb : b = c'
    · subst hb
      rw [upd_same] at e; cases e
      exact ⟨Heap.get?_push_of_some _ hoc, oc, Heap.get?_push_of_some _ hoc⟩
    · rw [upd_ne hb] at e
      by_cases hb2 : b = Pt
      · subst hb2
        rw [upd_same] at e; cases e
        exact Heap.get?_push_of_some _ htb
      · rw [upd_ne hb2] at e
        refine (I.hok b u e).stay (fun d v hd2 q => Heap.get?_push_of_some _ (hx d v ?_ q)) (fun d q => ?_) fun d xs q => ?_
        · rcases hd2 with z | z
          · rw [z]; exact hb2
          · intro y; rw [y, hP] at z; cases z
        · rw [upd_ne (hne d _ q), upd_ne (fun z => by rw [z, hP] at q; cases q)]; exact q
        · rw [upd_ne (hne d _ q), upd_ne (fun z => by rw [z, hP] at q; cases q)]; exact q
theorem make_lamHit {c' : Addr} (I : Inv X pins σ H s) (hcode : X.env.code = .ref c) (hC : PySem.W.CodeHd X.base c Pt) (hbm : BM X.base X.mg) (hP : H Pt = some (.tbl ps)) (ht : TriplesOk ps.toList) (hcl : closureFor scope X.env = pure clos) (hdef : defaultsOf params X.env = ([], []))
    (hn : codeAmong lpos ps.toList = some (.ref c'))
    (h : ∀ (g : Addr) (s1 : Shared) (pm ctv : Value), Inv X pins σ H s1 → s1.heap.get? g = some (PySem.W.kla_obj "<lambda>" (X.env.qual ++ "<lambda>") params body scope clos pm c' ctv) → s.heap.objs.size ≤ g → (∀ b o, s.heap.get? b = some o → s1.heap.get? b = some o) → Q (.ref g) s1) :
    wpAny (model X.prog X.w) X.A (eval (.Lambda params body scope lpos) X.env) Q E s := by
  have hPg : s.heap.get? Pt = some (PySem.W.tabObj ps) := I.hok Pt _ hP
  refine PySem.W.kla_eval hdef (PySem.W.kla_makeFunctionHit (mg := X.mg) hcl I.ok.glob (I.mod.glob.keeps I.bk) hcode (hC.keeps I.bk) hPg ht hn (lam_bm I hbm hP) fun ctv h' tk hk hsz => ?_)
  have kp : ∀ b o, s.heap.get? b = some o → (h'.push { cls := .type "function", data := .func (PySem.W.kla_fn "<lambda>" (X.env.qual ++ "<lambda>") params body scope clos ((X.mg "__name__").getD .none) (.ref c') ctv) }).get? b = some o := fun b o e => Heap.get?_push_of_some _ (hk b o e)
  exact h h'.objs.size _ _ ctv (I.kept (t' := tk) kp) (Heap.get?_push_size _ rfl) hsz kp
end
section
variable {X : Cx} {k kd : Nat} {f c Pt : Addr} {rs : (Hp → VK → XK → Prop) → Hp → VK → Prop} {x : Str} {p pos lpos : Pos} {params : Arguments} {body : Expr} {scope : Scope} {N' : List Str} {tb : XK → TE}
theorem pe_refuse (js : List Nat) (F : RefOk X.prog X.w X.K X.mg X.base k (kd + 1) f rs) (hr : Room k X.A) (hg : Gl X x) (hm : X.mg x = some (.ref f)) (hk : PySem.W.keepIn X.K (.ref f) = true)
    (hcode : X.env.code = .ref c) (hC : PySem.W.CodeHd X.base c Pt) (hbm : BM X.base X.mg) (hfn : ∀ y, X.fn y = true) (hstk : X.stack = X.env :: X.outer) (hfrm : X.env.frame = some X.env.locals)
    (hkd : scope.kind = .function) (hco : scope.isCoroutine = false) (hgen : scope.isGenerator = false) (hcell : ∀ y ∈ scope.names, y.2 ≠ .cell) {esc : Scope} (hsc : X.env.scope = esc) (hcells' : ∀ y ∈ scope.names, y.2 = .free → esc.names.lookup y.1 = some .cell)
    (hNF : ∀ y ∈ N', scope.names.lookup y = some .free) (hNJ : js.map (fun j => X.N[j]?) = N'.map some)
    (hbind : ∀ (qual : Str) (cl : List (Str × Addr)) (pm cd ctv : Value), bindArgs (PySem.W.kla_fn "<lambda>" qual params body scope cl pm cd ctv) ⟨[], []⟩ = pure [])
    (hbody : ∀ (g c' : Addr) (cl : List (Str × Addr)) (A : Around) (outer : List Env) (s : Shared) (H : Hp) (E : XK), Room kd (A.deeper (PySem.W.envX (X.env.qual ++ "<lambda>") scope s.heap.objs.size g (.ref c') cl)) →
      PE (cxLam X.prog X.w X.K X.mg X.base N' (X.env.qual ++ "<lambda>") scope g (.ref c') cl A outer s H E) body (tb E))
    (hdef : defaultsOf params X.env = ([], []) := by rfl) (hdb : (x == ("__debug__" : Str)) = false := by decide) (he : starEach [.Lambda params body scope lpos] X.env = [(false, eval (.Lambda params body scope lpos) X.env)] := by rfl) :
    PE X (.Call (.Name x p) [.Lambda params body scope lpos] [] pos) (tRef Pt (X.env.qual ++ "<lambda>") lpos js rs tb) := by
  intro pins s σ H Q I ⟨ps, hP, ht, hq⟩
  have hcells : ∀ y ∈ scope.names, y.2 = .free → X.env.kindOf y.1 = some .cell := fun y hy e => by
    show X.env.scope.names.lookup y.1 = _
    rw [hsc]; exact hcells' y hy e
  have hfr : ∀ y ∈ scope.names, y.2 = .free → ∃ d, X.env.cells.lookup y.1 = some d := fun y hy e => I.ok.has _ (.inl (hcells y hy e))
  have hcl := closure_eq scope X.env hfr
  have csub : ∀ y d, (clOf X.env.cells scope.names []).lookup y = some d → X.env.cells.lookup y = some d := fun y d e => clOf_sub scope.names [] hfr (fun _ _ z => nomatch z) e
  have hlen : js.length = N'.length := by have := congrArg List.length hNJ; simpa using this
  have hPg : s.heap.get? Pt = some (PySem.W.tabObj ps) := I.hok Pt _ hP
  have go : ∀ (g c' : Addr) (s1 : Shared) (H1 : Hp) (oc : Obj) (vs : Array Value) (t : Tok) (pm ctv : Value), Inv X pins σ H1 s1 → H1 c' = some (.frz oc (.own 0)) → oc.data = .fields vs → vs[1]? = some (.str (X.env.qual ++ "<lambda>") t) →
      s1.heap.get? g = some (PySem.W.kla_obj "<lambda>" (X.env.qual ++ "<lambda>") params body scope (clOf X.env.cells scope.names []) pm c' ctv) → H1 g = none → s.heap.objs.size ≤ g →
      rs (fun H1 Q1 E1 => tb E1 (js.map fun j => (σ[j]?).join) H1 Q1) H1 Q → wpAny (model X.prog X.w) X.A (call (.ref f) [.ref g]) (EP X pins σ Q) X.xe s1 := by
    intro g c' s1 H1 oc vs t pm ctv I1 h1 h2 h3 hgo hgn hge hrs
    have nst : ∀ b, b ∈ frs X.stack → b < s.heap.objs.size := fun b hb => by
      obtain ⟨_, o, ho, _⟩ := I.stack.mem hb
      exact Heap.lt_size ho
    have hcc : ∀ y d, X.env.cells.lookup y = some d → d ∉ frs X.stack := fun y d e z => by
      have z2 := I.stkSub d z
      rcases List.mem_cons.mp z2 with z2 | z2
      · exact I.cne y d e z2
      · obtain ⟨_, o, ho, _⟩ := I.ok.funs.mem z2
        exact absurd (Nat.lt_of_lt_of_le (Heap.lt_size ho) (I.ok.cab y d (hfn y) e)) (Nat.lt_irrefl _)
    have L : LamAt s1.heap H1 (frs X.stack) N' (js.map fun j => (σ[j]?).join) (X.env.qual ++ "<lambda>") params body scope (clOf X.env.cells scope.names []) g c' := by
      refine ⟨⟨pm, ctv, hgo⟩, ⟨hgn, fun z => absurd (Nat.lt_of_lt_of_le (nst g z) hge) (Nat.lt_irrefl _)⟩, ⟨oc, vs, t, h1, h2, h3⟩, fun y d e => ?_, fun i y v e1 e2 => ?_⟩
      · exact ⟨I1.cell y d (csub y d e), I1.freeC y d (csub y d e), hcc y d (csub y d e)⟩
      · have hyF := hNF y (List.mem_of_getElem? e1)
        obtain ⟨d, hd⟩ := clOf_has (cells := X.env.cells) scope.names [] (PySem.mem_of_lookup hyF)
        have hi : (js.map (fun j => X.N[j]?))[i]? = some (some y) := by rw [hNJ, List.getElem?_map, e1]; rfl
        rw [List.getElem?_map] at hi e2
        cases hj : js[i]? with
        | none => rw [hj] at hi; cases hi
        | some j =>
          rw [hj] at hi e2
          have hXN : X.N[j]? = some y := by simpa using hi
          have hσ : σ[j]? = some (some v) := by
            have e3 : (σ[j]?).join = some v := by simpa using e2
            cases q : σ[j]? with
            | none => rw [q] at e3; cases e3
            | some o => rw [q] at e3; cases o with
              | none => cases e3
              | some v' => cases e3; rfl
          obtain ⟨m, hn, hm⟩ := I1.loc
          have hkc := hcells _ (PySem.mem_of_lookup hyF) rfl
          obtain ⟨u, r, lk⟩ := hm j y v hXN hσ (.inr (.inl hkc))
          rcases lk with ⟨kk, _⟩ | ⟨_, d2, hd2, hcell2⟩
          · rw [show X.env.kindOf y = some .cell from hkc] at kk; cases kk
          · have e4 := csub y d hd
            rw [e4] at hd2; cases hd2
            exact ⟨u, d, r, hd, hcell2⟩
    have D := deed_lam (P := X.prog) (w := X.w) (K := X.K) (mg := X.mg) (base := X.base) (k := kd) (tb := tb) L (by rw [List.length_map, hlen]) hkd hco hgen hcell (fun y hy => clOf_has scope.names [] (PySem.mem_of_lookup hy)) hNF (fun y z d e1 e2 => I.ok.inj y z d (csub y d e1) (csub z d e2))
      (fun pm cd ctv => hbind _ _ pm cd ctv) (fun A outer s H E hr => hbody g c' _ A outer s H E hr)
    refine wpAny_call (codeAny_mono (F.run X.A X.stack s1 H1 g _ Q hr I1.env0 D hrs) fun r s' hq => ?_)
    cases r with
    | error e => exact False.elim hq
    | ok fl =>
      cases fl with
      | ret u => exact I1.after hq
      | next => exact False.elim hq
      | brk => exact False.elim hq
      | cont => exact False.elim hq
  refine wpAny_Call_Name_kw (ld_glob I hg hm ?_ hdb)
  refine PySem.W.callWith_K (h₀ := X.base) I.ok.mod.kin hk ?_ he rfl
  rw [he]
  show wpAny _ _ (spliced ((false, eval (.Lambda params body scope lpos) X.env) :: backTo pos [])) _ _ s
  refine Calls.spliced_cons ?_
  rcases hq with ⟨hn, hq⟩ | ⟨c', oc, vs, t, hn, h1, h2, h3, hq⟩
  · refine make_lam I hcode hC hbm hP ht hcl hdef hn fun c' g s1 oc vs t pm ctv I1 hcn hcs h2 h3 hgo hge hgc kp => Calls.spliced_nil ⟨I1.kIn, ?_⟩
    have hgP : g ≠ Pt := Ne.symm (Nat.ne_of_lt (Nat.lt_of_lt_of_le (Heap.lt_size hPg) hge))
    exact go g c' s1 _ oc vs t pm ctv I1 upd_same h2 h3 hgo (by rw [upd_ne hgc, upd_ne hgP]; exact I.hok.fresh hge) hge (hq c' oc vs t hcn h2 h3)
  · refine make_lamHit I hcode hC hbm hP ht hcl hdef hn fun g s1 pm ctv I1 hgo hge kp => Calls.spliced_nil ⟨I1.kIn, ?_⟩
    exact go g c' s1 _ oc vs t pm ctv I1 h1 h2 h3 hgo (I.hok.fresh hge) hge hq
end
end L2

set_option Elab.async false
set_option linter.all false
set_option maxRecDepth 100000
namespace L2
open PySem PySem.Spec PyProof.Rows
section
variable {P : Program} {w : World} {K : PySem.W.Frag} {mg : Str → Option Value} {base : Heap}
theorem FunG.okC {x qual : Str} {st : Stmt} {dV : Value} {f : Addr} {fd : FuncData} {N ps : List Str} {k : Nat} {sp : Sp} (F : FunG K x qual st dV f fd) (S : FnScope N ps (defScope st)) (len : ∀ vs H Q E, sp vs H Q E → vs.length = ps.length)
    (hbody : ∀ (cdv : Value) (A : Around) (outer : List Env) (s : Shared) (H : Hp) (vs : List V) (Q : VK) (E : XK), fd.code = cdv → Room k (A.deeper (envOfC qual (defScope st) s.heap.objs.size f cdv)) → sp vs H Q E →
      ∃ t, PSs (cxOf CX0 P w K mg base N qual (defScope st) f cdv A outer s H E).nox (defBody st) t ∧ t { nx := fun _ H' => Q .non H', rt := Q } (start N vs) H) : FnOk P w K mg base CX0 (k + 1) f fd ps sp := by
  obtain ⟨oc, od, kV, doc, pm, an, cdv, ct, osl, rfl, lk, hcd⟩ := F.ex
  refine fn_of lk hcd S len fun A outer s H vs Q E hr hsp => ?_
  obtain ⟨t, h, q⟩ := hbody cdv A outer s H vs Q E rfl hr hsp
  exact ⟨t, h.nox, q⟩
theorem FunG.okR {x qual : Str} {st : Stmt} {dV : Value} {f : Addr} {fd : FuncData} {N ps : List Str} {k : Nat} {sp : Sp} (F : FunG K x qual st dV f fd) (S : FnScope N ps (defScope st)) (len : ∀ vs H Q E, sp vs H Q E → vs.length = ps.length)
    (hbody : ∀ (cdv : Value) (A : Around) (outer : List Env) (s : Shared) (H : Hp) (vs : List V) (Q : VK) (E : XK), Room k (A.deeper (envOfC qual (defScope st) s.heap.objs.size f cdv)) → sp vs H Q E →
      ∃ t, PSs (cxOf (CXr P w) P w K mg base N qual (defScope st) f cdv A outer s H E) (defBody st) t ∧ t { nx := fun _ H' => Q .non H', rt := Q } (start N vs) H) : FnOk P w K mg base (CXr P w) (k + 1) f fd ps sp := by
  obtain ⟨oc, od, kV, doc, pm, an, cdv, ct, osl, rfl, lk, hcd⟩ := F.ex
  exact fn_of lk hcd S len fun A outer s H vs Q E hr hsp => hbody cdv A outer s H vs Q E hr hsp
theorem FunG.okQ {x qual : Str} {st : Stmt} {dV : Value} {f : Addr} {fd : FuncData} {N ps : List Str} {k : Nat} {sp : Sp} (F : FunG K x qual st dV f fd) (S : FnScope N ps (defScope st)) (len : ∀ vs H Q E, sp vs H Q E → vs.length = ps.length)
    (hbody : ∀ (cdv : Value) (A : Around) (outer : List Env) (s : Shared) (H : Hp) (vs : List V) (Q : VK) (E : XK), RoomQ k (A.deeper (envOfC qual (defScope st) s.heap.objs.size f cdv)) → sp vs H Q E →
      ∃ t, PSs (cxOfQ P w K mg base N qual (defScope st) f cdv A outer s H E) (defBody st) t ∧ t { nx := fun _ H' => Q .non H', rt := Q } (start N vs) H) : FnOkQ P w K mg base (k + 1) f fd ps sp := by
  obtain ⟨oc, od, kV, doc, pm, an, cdv, ct, osl, rfl, lk, hcd⟩ := F.ex
  exact fn_ofQ lk hcd S len fun A outer s H vs Q E hr hsp => hbody cdv A outer s H vs Q E hr hsp
theorem FunG.refOk {x qual y : Str} {st : Stmt} {f : Addr} {fd : FuncData} {N : List Str} {k kd : Nat} {rs : (Hp → VK → XK → Prop) → Hp → VK → Prop} (F : FunG K x qual st .none f fd) (S : FnScope N [y] (defScope st)) (hb : Binds K fd [y] [])
    (hbody : ∀ (cdv : Value) (A : Around) (outer : List Env) (s : Shared) (H : Hp) (g : Addr) (spD : Hp → VK → XK → Prop) (Q : VK), Room k (A.deeper (envOfC qual (defScope st) s.heap.objs.size f cdv)) → Deed P w K mg base kd s H outer g spD → rs spD H Q →
      ∃ t, PSs (cxOf CX0 P w K mg base N qual (defScope st) f cdv A outer s H E0).nox (defBody st) t ∧ t { nx := fun _ H' => Q .non H', rt := Q } (start N [.ref g]) H) : RefOk P w K mg base (k + 1) kd f rs := by
  obtain ⟨oc, od, kV, doc, pm, an, cdv, ct, osl, rfl, lk, hcd⟩ := F.ex
  refine ⟨fun A outer s H g spD Q hr e0 D hrs => ?_⟩
  have r : Vals [V.ref g] [Value.ref g] := .cons rfl .nil
  have KX : K.In s.heap := e0.mod.kin.keeps fun b o e => (e0.bs b o e).1
  have lim : s.heap.NoLimit := e0.mod.nolimit.keeps fun b o e => (e0.bs b o e).1
  have hkind : ∀ z ∈ [y].zip [Value.ref g], (defScope st).names.lookup z.1 = some .local ∨ ((defScope st).names.lookup z.1 = some .cell ∧ ((cellsFrom (s.heap.objs.size + 1) (defScope st).names []).lookup z.1).isSome = true) := fun ⟨n, v⟩ hy => by
    rcases S.par n (List.of_mem_zip hy).1 with q | q
    · exact .inl q
    · exact .inr ⟨q, PySem.W.cellsFrom_some _ _ _ (.inl q)⟩
  have hbt : BindsTo s (PySem.W.fnOf x qual (defArgs st) (defBody st) (defScope st) .none kV doc pm an cdv ct) ⟨[.ref g], []⟩ ([y].zip [Value.ref g]) := hb s [.ref g] KX rfl
  refine codeAny_call_function hr.depth (KX _ _ lk) rfl S.co S.gen rfl (PySem.W.codeRec_of KX hcd) (hbt _ _ _ _ ?_)
  refine wpAny_newFunctionEnv_cells S.kind hkind fun env he s1 z => ?_
  subst he
  refine ⟨lim.keeps z.toInCall.keep, codeAny_func ?_⟩
  obtain ⟨t, ht, hq⟩ := hbody cdv A outer s H g spD Q (hr.deeper _) D hrs
  have I : Inv (cxOf CX0 P w K mg base N qual (defScope st) f cdv A outer s H E0) [] (start N [.ref g]) H s1 := inv_start S hr.hd e0 rfl r z
  refine wpAny_mono (ht.nox [] s1 (start N [.ref g]) H _ I hq) (fun fl s' hs => ?_) fun e s' hs => hs
  have fin : ∀ {σ' : St} {H' : Hp} {v : V} {u : Value}, Inv (cxOf CX0 P w K mg base N qual (defScope st) f cdv A outer s H E0) [] σ' H' s' → RelV v u → Q v H' → CE outer P w H s Q u s' :=
    fun {σ' H' v u} J rv q => ⟨v, H', J.os, J.bare, J.base, J.hok, rv, q⟩
  cases fl with
  | ret u =>
    obtain ⟨v, σ', H', J, rv, q⟩ := hs
    exact fin J rv q
  | next =>
    obtain ⟨σ', H', J, q⟩ := hs
    exact fin (v := V.non) (u := Value.none) J rfl q
  | brk =>
    obtain ⟨_, _, _, q⟩ := hs
    exact False.elim q
  | cont =>
    obtain ⟨_, _, _, q⟩ := hs
    exact False.elim q
end
end L2

set_option Elab.async false
set_option linter.all false
set_option maxRecDepth 100000
namespace L2
open PySem PySem.Spec PyProof.Rows
def excAll (K : PySem.W.Frag) (C R : Addr) (Ds : List (Addr × Bool)) : Bool :=
  ((PySem.W.findIn K (.ref C) "__getattribute__" == some (some (.builtin "BaseException.__getattribute__"))) && (PySem.W.findIn K (.ref C) "__getattr__" == some none) && (PySem.W.mroIn K C (.type "BaseException") == some true) && PySem.W.hasDictIn K C && (PySem.W.findIn K (.ref C) "__class__" == some (some (.builtin "object.__class__"))) && (PySem.W.specialIn K (.builtin "object.__class__") "__get__" == some (some (.builtin "getset_descriptor.__get__"))) &&
    (PySem.W.takesIn K (.builtin "object.__class__") == some true) && (PySem.W.mroIn K C (.type "object") == some true)) &&
  ((PySem.W.exmOne K (.ref C) (.ref R) == some true) && (Ds.all fun p => PySem.W.kitOne K (.ref C) (.ref p.1) == some p.2) && (PySem.W.kitOne K (.ref C) (.type "ValueError") == some true)) && PySem.W.excIn K C veTail "ValueError.__new__"
section
variable {K : PySem.W.Frag} {C R : Addr} {Ds : List (Addr × Bool)}
theorem excAll_in (h : excAll K C R Ds = true) : PySem.W.excIn K C veTail "ValueError.__new__" = true := by
  unfold excAll at h
  exact (Bool.and_eq_true_iff.mp h).2
theorem excAll_cls (h : excAll K C R Ds = true) : ExcCls K C := by
  unfold excAll at h
  simp only [Bool.and_eq_true, beq_iff_eq] at h
  obtain ⟨⟨⟨⟨⟨⟨⟨⟨⟨a0, b0⟩, c0⟩, a2⟩, a3⟩, a4⟩, a5⟩, a6⟩, _⟩, _⟩ := h
  exact ⟨a0, b0, c0, a2, a3, a4, a5, a6⟩
theorem excAll_exm (h : excAll K C R Ds = true) : PySem.W.exmOne K (.ref C) (.ref R) = some true := by
  unfold excAll at h
  simp only [Bool.and_eq_true, beq_iff_eq] at h
  exact h.1.2.1.1
theorem excAll_ve (h : excAll K C R Ds = true) : PySem.W.kitOne K (.ref C) (.type "ValueError") = some true := by
  unfold excAll at h
  simp only [Bool.and_eq_true, beq_iff_eq] at h
  exact h.1.2.2
theorem excAll_kit (h : excAll K C R Ds = true) (i : Nat) {D : Addr} {b : Bool} (e : Ds[i]? = some (D, b)) : PySem.W.kitOne K (.ref C) (.ref D) = some b := by
  unfold excAll at h
  simp only [Bool.and_eq_true, beq_iff_eq] at h
  have := List.all_eq_true.mp h.1.2.1.2 (D, b) (List.mem_of_getElem? e)
  simpa using this
end
def Small (i : Int) : Prop := i.natAbs.log2 < 1920
theorem small_of {i : Int} (h : i.natAbs < 2 ^ 1000) : Small i := by
  unfold Small
  by_cases h0 : i.natAbs = 0
  · rw [h0]; decide
  · have := (Nat.log2_lt h0).mpr (show i.natAbs < 2 ^ 1000 from h)
    omega
theorem smallLen {i : Int} (h : Small i) : (PySem.Str.ofString (toString i)).length ≤ 1921 := int_text_len_1921 h
theorem catLen (a b : Str) : (a ++ b).length = a.length + b.length := PySem.Str.length_append a b
theorem cat1 {a b : Str} {n m : Nat} (h1 : a.length ≤ n) (h2 : b.length ≤ m) : (a ++ b).length ≤ n + m := by rw [catLen]; omega
theorem emptyLen : (Str.empty).length ≤ 0 := by decide
section
variable {E : XK} {C : Addr} {D : Ends} {σ : St} {H : Hp} {x y : Str} {i j : Nat} {m n : Int}
theorem rz1 (hv : σ[i]? = some (some (.int n))) (hn : Small n) (q : ∀ e, E (.ref C) (some e) H) (hx : x.length ≤ 1000 := by decide +kernel) :
    sRaise E C (fun σ H Q => tJ1 (tC (.str x)) (tJ1 (tFmt (tVar i)) tJ0) Str.empty σ H Q) D σ H := by
  have l1 := cat1 emptyLen hx
  have l2 := cat1 l1 (smallLen hn)
  exact ⟨x, rfl, sizeOk' (by omega), .int n, hv, .inr ⟨n, rfl, hn, _, rfl, sizeOk' (by omega), sizeOk' (by omega), q⟩⟩
end
end L2

set_option Elab.async false
set_option linter.all false
set_option maxRecDepth 100000
namespace L2
open PySem PySem.Spec PyProof.Rows
def tCut (t : TS) : TS := fun D σ H => ∃ Pn : St → Hp → Prop, t { D with nx := Pn } σ H ∧ ∀ σ' H', Pn σ' H' → D.nx σ' H'
theorem ps_cut {X : Cx} {st : Stmt} {t : TS} (h : PS X st t) : PS X st (tCut t) := by
  intro pins s σ H D I ⟨Pn, ht, hn⟩
  refine thn (h pins s σ H { D with nx := Pn } I ht) fun f s1 q => ?_
  cases f with
  | next => obtain ⟨σ', H', I', q⟩ := q; exact ⟨σ', H', I', hn _ _ q⟩
  | ret v => exact q
  | brk => exact q
  | cont => exact q
section
variable {E : XK} {C : Addr} {D : Ends} {σ : St} {H : Hp} {x x1 y : Str} {i j : Nat} {m n : Int}
theorem rzR (hv : σ[i]? = some (some (.str y))) (hy : (reprText y).length ≤ 1000) (q : ∀ e, E (.ref C) (some e) H) (hx : x.length ≤ 1000 := by decide +kernel) :
    sRaise E C (fun σ H Q => tJ1 (tC (.str x)) (tJ1 (tFmtR (tVar i)) tJ0) Str.empty σ H Q) D σ H := by
  have l1 := cat1 emptyLen hx
  have l2 := cat1 l1 hy
  exact ⟨x, rfl, sizeOk' (by omega), .str y, hv, y, rfl, sizeOk' (by omega), _, rfl, sizeOk' (by omega), sizeOk' (by omega), q⟩
theorem rz2 (hv : σ[i]? = some (some (.str y))) (hy : y.length ≤ 1000) (hw : σ[j]? = some (some (.int n))) (hn : Small n) (q : ∀ e, E (.ref C) (some e) H) (hx : x.length ≤ 1000 := by decide +kernel) (hx1 : x1.length ≤ 1000 := by decide +kernel) :
    sRaise E C (fun σ H Q => tJ1 (tC (.str x)) (tJ1 (tFmt (tVar i)) (tJ1 (tC (.str x1)) (tJ1 (tFmt (tVar j)) tJ0))) Str.empty σ H Q) D σ H := by
  have l1 := cat1 emptyLen hx
  have l2 := cat1 l1 hy
  have l3 := cat1 l2 hx1
  have l4 := cat1 l3 (smallLen hn)
  exact ⟨x, rfl, sizeOk' (by omega), .str y, hv, .inl ⟨y, rfl, sizeOk' (by omega), _, rfl, sizeOk' (by omega), _, rfl, sizeOk' (by omega), .int n, hw, .inr ⟨n, rfl, hn, _, rfl, sizeOk' (by omega), sizeOk' (by omega), q⟩⟩⟩
end
theorem law_callTs {P : Program} {w : World} {K : PySem.W.Frag} {mg mb : Str → Option Value} {k : Nat} {fa a : Addr} {Ts : List Addr} {fd : FuncData} {x : Str} {sp : Sp} {s₁ : Shared} {vs : List Value} {ns : List Int}
    (KX : K.In s₁.heap) (hns : s₁.heap.Ns mainGlobals mg) (hb : s₁.heap.Ns builtinsNs mb) (hbb : ∀ x : Str, x ≠ "__name__" → mb x = bootBuiltins x) (hlim : s₁.heap.NoLimit) (hg : s₁.gens = #[])
    (ha : s₁.heap.get? a = some { cls := .type "list", data := .seq vs.toArray }) (hi : IntsAre vs ns) (hl : ns.length ≤ sizeLine) (hr : Room k callerA)
    (hPt : ∀ p ∈ Ts, s₁.heap.get? p = some (PySem.W.tabObj #[]) ∧ K.lookup p = none ∧ ∃ c, PySem.W.CodeHd s₁.heap c p) (hbm : BM s₁.heap mg)
    (F : ∀ base : Heap, K.In base → base.Ns mainGlobals mg → BM base mg → FnOk P w K mg base CX0 k fa fd [x] sp) (hbind : ∀ (s : Shared) (u : Value), BindsTo s fd ⟨[u], []⟩ [(x, u)])
    (hsp : ∀ H : Hp, (∀ p ∈ Ts, H p = some (.tbl #[])) → SqL K H a (ns.map V.int) → sp [.ref a] H (fun v _ => v = .bl true) fun _ _ _ => False) :
    codeAny (model P w) callerA (.call (.ref fa) ⟨[.ref a], []⟩) (fun r s' => r = .ok (.ret (.bool true)) ∧ OldK s₁.heap s'.heap ∧ s'.os = s₁.os ∧ AllBare s'.gens) s₁ := by
  have rv := vals_ints hi
  have lenV := hi.length
  have haP : a ∉ Ts := fun z => by
    have := (hPt a z).1
    rw [ha] at this; cases this
  have core : ∀ H : Hp, (∀ p ∈ Ts, H p = some (.tbl #[])) → (∀ b, b ∉ Ts → H b = none ∨ ∃ o xs, H b = some (.frz o (.lst xs))) → SqL K H a (ns.map V.int) → HOk P w H s₁.heap → (∀ b, H b ≠ none → b = a ∨ b ∈ Ts) → (H a ≠ none → K.lookup a = none) →
      codeAny (model P w) callerA (.call (.ref fa) ⟨[.ref a], []⟩) (fun r s' => r = .ok (.ret (.bool true)) ∧ OldK s₁.heap s'.heap ∧ s'.os = s₁.os ∧ AllBare s'.gens) s₁ := by
    intro H hT hO hS hok hA hK
    have base_of : ∀ {b : Addr} {o : Obj}, s₁.heap.get? b = some o → H b = none → (hidT s₁.heap H).get? b = some o := fun e n => hidT_get e n
    have noA : ∀ {b : Addr} {o : Obj}, s₁.heap.get? b = some o → (∀ vs n, o.data ≠ .seq vs n) → (∀ vs, o.data ≠ .fields vs) → H b = none := fun {b o} e d1 d2 => by
      cases q : H b with
      | none => rfl
      | some u =>
        rcases hA b (by rw [q]; simp) with e' | e'
        · subst e'; rw [ha] at e; cases e; exact absurd rfl (d1 _ _)
        · rw [(hPt b e').1] at e; cases e; exact absurd rfl (d2 _)
    have nsK : ∀ {b : Addr} {m : Str → Option Value}, s₁.heap.Ns b m → (hidT s₁.heap H).Ns b m := fun {b m} ⟨o, es, ep, e, d, r⟩ => ⟨o, es, ep, base_of e (noA e (fun _ _ z => by rw [d] at z; cases z) fun _ z => by rw [d] at z; cases z), d, r⟩
    have hKb : K.In (hidT s₁.heap H) := fun b o e => base_of (KX b o e) (by
      cases q : H b with
      | none => rfl
      | some u =>
        rcases hA b (by rw [q]; simp) with e' | e'
        · subst e'; rw [hK (by rw [q]; simp)] at e; cases e
        · rw [(hPt b e').2.1] at e; cases e)
    have hM : Mod K mg (hidT s₁.heap H) := ⟨hKb, nsK hns, ⟨mb, nsK hb, hbb⟩, let ⟨mc, h1, h2⟩ := hlim; ⟨mc, nsK h1, h2⟩⟩
    have hB : BM (hidT s₁.heap H) mg := by
      obtain ⟨bm, ob, b1, b2, b3, b4, b5, b6⟩ := hbm
      exact ⟨bm, ob, b1, b2, base_of b3 (noA b3 (fun _ _ z => by rw [b6] at z; cases z) fun _ z => by rw [b6] at z; cases z), b4, b5, b6⟩
    have e0 : Env0 P w K mg (hidT s₁.heap H) callerA [] s₁ H := ⟨rfl, hM, fun b o e => of_hidT e, Nat.le_of_eq (hidT_size _ _), trivial, fun b hb => absurd (show b ∈ ([] : List Addr) from hb) (by simp), hok, .of_eq hg⟩
    refine codeAny_mono ((F _ hKb (nsK hns) hB).run callerA [] s₁ H ⟨[.ref a], []⟩ [.ref a] [.ref a] _ _ hr e0 (hbind s₁ (.ref a)) (.cons rfl .nil) (hsp H hT hS)) fun r s' h => ?_
    cases r with
    | error e => exact False.elim h
    | ok fl =>
      cases fl with
      | next => exact False.elim h
      | brk => exact False.elim h
      | cont => exact False.elim h
      | ret u =>
        obtain ⟨v, H', os, bare, un, hok', r', q⟩ := h
        have q' : v = .bl true := q
        subst q'
        obtain rfl : u = Value.bool true := r'
        refine ⟨rfl, ⟨fun b o e => ?_, fun b o e => un.there b o e (by simp)⟩, os, bare⟩
        by_cases hbP : b ∈ Ts
        · obtain ⟨e1, _, c, hC⟩ := hPt b hbP
          rw [e1] at e; cases e
          obtain ⟨more, e2⟩ := un.tbls b _ (hT b hbP)
          have e3 : s'.heap.get? b = some { cls := .none, data := .fields (#[] ++ more) } := hok' b _ e2
          exact .inr (.inl ⟨(hC.tab e1).isCodeTable, rfl, #[], more, rfl, e3⟩)
        · refine .inl ?_
          cases q : H b with
          | none => exact un.keep b o e q (by intro z; exact absurd (show b ∈ ([] : List Addr) from z) (by simp)) (by simp)
          | some u =>
            rcases hO b hbP with z | ⟨ob, xs, z⟩
            · rw [q] at z; cases z
            · have z2 := un.frzs b ob _ z
              obtain ⟨e1, _⟩ := hok b _ z
              obtain ⟨e2, _⟩ := hok' b _ z2
              rw [e] at e1; cases e1
              exact e2
  cases hk : K.lookup a with
  | some o =>
    have e := KX a o hk
    rw [ha] at e
    cases e
    refine core (fun b => if b ∈ Ts then some (.tbl #[]) else none) (fun p hp => if_pos hp) (fun b hb => .inl (if_neg hb)) (.inr ⟨_, vs.toArray, _, hk, rfl, rfl, rfl, by rw [List.size_toArray, lenV]; exact hl, by simpa using rv⟩) (fun b u z => ?_) (fun b z => ?_) fun z => absurd (if_neg haP) z
    · by_cases hb : b ∈ Ts
      · have z' := (if_pos hb).symm.trans z
        cases z'
        exact (hPt b hb).1
      · have z' := (if_neg hb).symm.trans z
        cases z'
    · by_cases hb : b ∈ Ts
      · exact .inr hb
      · exact absurd (if_neg hb) z
  | none =>
    refine core (fun b => if b ∈ Ts then some (.tbl #[]) else if b = a then some (.frz { cls := .type "list", data := .seq vs.toArray } (.lst (ns.map V.int))) else none) (fun p hp => if_pos hp) (fun b hb => ?_) (.inl (.inr ⟨{ cls := .type "list", data := .seq vs.toArray }, (if_neg haP).trans (if_pos rfl)⟩)) (fun b u z => ?_) (fun b z => ?_) fun _ => hk
    · by_cases hb2 : b = a
      · exact .inr ⟨_, _, (if_neg hb).trans (if_pos hb2)⟩
      · exact .inl ((if_neg hb).trans (if_neg hb2))
    · by_cases hb : b ∈ Ts
      · have z' := (if_pos hb).symm.trans z
        cases z'
        exact (hPt b hb).1
      · have z1 := (if_neg hb).symm.trans z
        by_cases hb2 : b = a
        · have z' := (if_pos hb2).symm.trans z1
          cases z'
          subst hb2
          exact ⟨ha, by rw [List.length_map]; exact hl, vs, _, rv, ha⟩
        · have z' := (if_neg hb2).symm.trans z1
          cases z'
    · by_cases hb : b ∈ Ts
      · exact .inr hb
      · by_cases hb2 : b = a
        · exact .inl hb2
        · exact absurd ((if_neg hb).trans (if_neg hb2)) z
theorem walk_ofTs {l : PySem.W.OpenLaw} {n k : Nat} {q : Program} {loose : List Str} {XP : (Str → Option Value) → Heap → Prop} {YP : World → Heap → Prop} {d : DefRec} {K : Params → PySem.W.Frag} {sp : PySem.W.Frag → List Addr → Sp} {x : Str} {Ts0 : List Addr}
    (hn : l.most = some n) (hn2 : n ≤ sizeLine) (hdf : d.params.defaults = []) (hr : Room k callerA)
    (hY : ∀ (w : World) (h : Heap), YP w h → (K w.params).In h ∧ ∀ p ∈ Ts0, h.get? p = some (PySem.W.tabObj #[]))
    (F : ∀ (w : World) (mg : Str → Option Value) (fa : Addr) (h : Heap), (K w.params).In h → h.Ns mainGlobals mg → mg d.name = some (.ref fa) →
      ∃ (fd : FuncData) (Ts : List Addr), (∀ p ∈ Ts, p ∈ Ts0 ∧ (K w.params).lookup p = none ∧ ∃ c, PySem.W.codeHdIn (K w.params) c p = true) ∧ (∀ (s : Shared) (u : Value), BindsTo s fd ⟨[u], []⟩ [(x, u)]) ∧
        (∀ base : Heap, (K w.params).In base → base.Ns mainGlobals mg → BM base mg → FnOk l.prog w (K w.params) mg base CX0 k fa fd [x] (sp (K w.params) Ts)) ∧
        ∀ (H : Hp) (a : Addr) (ns : List Int), ns.length ≤ n → (∀ p ∈ Ts, H p = some (.tbl #[])) → SqL (K w.params) H a (ns.map V.int) → sp (K w.params) Ts [.ref a] H (fun v _ => v = .bl true) fun _ _ _ => False) :
    PySem.W.WalkO q loose XP YP l.row.toRowW d [] (fun f vs => PySem.call f vs) := by
  refine Att.attach_call hn hdf fun w s₀ s₁ mg mb fa o pm cd doc a vs ns G Y ho hd hcd hmg hobj hints hlen hg => ?_
  obtain ⟨KX, hPt⟩ := hY w _ Y
  obtain ⟨fd, Ts, hTs, hb, hF, hsp⟩ := F w mg fa _ KX G.T.g hmg
  obtain ⟨bm, ob, b1, b2, b3, b4, b5, b6⟩ := G.T.bmain
  refine law_callTs (Ts := Ts) KX G.T.g G.T.b G.T.builtins G.T.nolimit hg hobj hints (Nat.le_trans hlen hn2) hr (fun p hp => ?_) ⟨bm, ob, b1, b2, b3, b4, b5, b6⟩ hF hb fun H hT hS => hsp H a ns hlen hT hS
  obtain ⟨h1, h2, c, hc⟩ := hTs p hp
  exact ⟨hPt p h1, h2, c, PySem.W.codeHd_of_K KX hc⟩
end L2

set_option Elab.async false
set_option linter.all false
set_option maxRecDepth 100000
namespace L2
open PySem PySem.Spec PyProof.Rows
theorem among_snoc {pos p2 : Pos} {c : Value} : ∀ (l : List Value), TriplesOk l → codeAmong pos (l ++ [rawInt p2.line, rawInt p2.col, c]) = (match codeAmong pos l with | some x => some x | none => if ((p2.line : Int) == (pos.line : Int) && (p2.col : Int) == (pos.col : Int)) = true then some c else none)
  | [], _ => by
    show codeAmong pos [rawInt p2.line, rawInt p2.col, c] = _
    unfold codeAmong rawInt
    rfl
  | .int a t :: .int b u :: x :: r, h => by
    have ih := among_snoc (pos := pos) (p2 := p2) (c := c) r h
    show codeAmong pos (.int a t :: .int b u :: x :: (r ++ [rawInt p2.line, rawInt p2.col, c])) = _
    unfold codeAmong
    by_cases hc : (a == (pos.line : Int) && b == (pos.col : Int)) = true
    · rw [if_pos hc, if_pos hc]
    · rw [if_neg hc, if_neg hc]
      exact ih
theorem triples_snoc {p2 : Pos} {c : Value} : ∀ (l : List Value), TriplesOk l → TriplesOk (l ++ [rawInt p2.line, rawInt p2.col, c])
  | [], _ => trivial
  | .int a t :: .int b u :: x :: r, h => triples_snoc (p2 := p2) (c := c) r h
structure Tb (L : Kn) (Pt : Addr) (qual : Str) : Prop where
  ex : ∃ ps : Array Value, (Pt, HO.tbl ps) ∈ L ∧ TriplesOk ps.toList ∧ ∀ pos, codeAmong pos ps.toList = none ∨ ∃ (c' : Addr) (oc : Obj) (vs : Array Value) (t : Tok), codeAmong pos ps.toList = some (.ref c') ∧ (c', HO.frz oc (.own 0)) ∈ L ∧ oc.data = .fields vs ∧ vs[1]? = some (.str qual t)
theorem Tb.mono {L L' : Kn} {Pt : Addr} {qual : Str} (T : Tb L Pt qual) (h : ∀ z ∈ L, z ∈ L') : Tb L' Pt qual := by
  obtain ⟨ps, m, tr, hp⟩ := T.ex
  exact ⟨ps, h _ m, tr, fun pos => (hp pos).imp id fun ⟨c', oc, vs, t, a, b, c, d⟩ => ⟨c', oc, vs, t, a, h _ b, c, d⟩⟩
theorem Tb.new {L : Kn} {Pt : Addr} {qual : Str} (h : (Pt, HO.tbl #[]) ∈ L) : Tb L Pt qual := ⟨#[], h, trivial, fun _ => .inl rfl⟩
theorem ref_tb {Z L : Kn} {H : Hp} {Pt : Addr} {qual : Str} {lpos : Pos} {js : List Nat} {rs : (Hp → VK → XK → Prop) → Hp → VK → Prop} {tb : XK → TE} {σ : St} {Q : VK} (h : Has H (Z ++ L)) (T : Tb L Pt qual)
    (k : ∀ H' L', Has H' (Z ++ L') → Tb L' Pt qual → (∀ z ∈ L, z.1 ≠ Pt → z ∈ L') → rs (fun H1 Q1 E1 => tb E1 (js.map fun j => (σ[j]?).join) H1 Q1) H' Q) : tRef Pt qual lpos js rs tb σ H Q := by
  obtain ⟨ps, m, tr, hps⟩ := T.ex
  refine ⟨ps, h.at_ _ (List.mem_append_right _ m), tr, ?_⟩
  rcases hps lpos with hn | ⟨c', oc, vs, t, h1, h2, h3, h4⟩
  · refine .inl ⟨hn, fun c' oc vs t hc' ho hv => ?_⟩
    obtain ⟨X, Y, rfl⟩ := List.append_of_mem m
    have hPne : c' ≠ Pt := fun z => by
      rw [z, h.at_ (Pt, _) (List.mem_append_right _ m)] at hc'
      cases hc'
    have h5 : Has H ((Pt, HO.tbl ps) :: (Z ++ (X ++ Y))) := by
      have : Has H ((Z ++ X) ++ (Pt, HO.tbl ps) :: Y) := by rw [List.append_assoc]; exact h
      have := this.out
      rw [List.append_assoc] at this
      exact this
    have h6 := (h5.put (.tbl (ps ++ #[rawInt lpos.line, rawInt lpos.col, .ref c']))).alloc (by rw [upd_ne hPne]; exact hc') (.frz oc (.own 0))
    have h7 := Has.comm (X := [(c', HO.frz oc (.own 0)), (Pt, HO.tbl (ps ++ #[rawInt lpos.line, rawInt lpos.col, .ref c']))]) (Y := Z) h6
    have etl : (ps ++ #[rawInt lpos.line, rawInt lpos.col, Value.ref c']).toList = ps.toList ++ [rawInt lpos.line, rawInt lpos.col, .ref c'] := by simp
    have keep : ∀ z ∈ X ++ (Pt, HO.tbl ps) :: Y, z.1 ≠ Pt → z ∈ (c', HO.frz oc (.own 0)) :: (Pt, HO.tbl (ps ++ #[rawInt lpos.line, rawInt lpos.col, .ref c'])) :: (X ++ Y) := fun z hz ne => by
      rcases List.mem_append.mp hz with hz | hz
      · simp [hz]
      · rcases List.mem_cons.mp hz with rfl | hz
        · exact absurd rfl ne
        · simp [hz]
    refine k _ _ h7 ⟨_, List.mem_cons_of_mem _ List.mem_cons_self, by rw [etl]; exact triples_snoc _ tr, fun pos => ?_⟩ keep
    rw [etl, among_snoc _ tr]
    rcases hps pos with hn2 | ⟨c2, oc2, vs2, t2, g1, g2, g3, g4⟩
    · rw [hn2]
      dsimp only
      by_cases hc : ((lpos.line : Int) == (pos.line : Int) && (lpos.col : Int) == (pos.col : Int)) = true
      · rw [if_pos hc]
        exact .inr ⟨c', oc, vs, t, rfl, List.mem_cons_self, ho, hv⟩
      · rw [if_neg hc]
        exact .inl rfl
    · rw [g1]
      refine .inr ⟨c2, oc2, vs2, t2, rfl, keep _ g2 fun e => ?_, g3, g4⟩
      have q1 := h.at_ _ (List.mem_append_right _ g2)
      have q2 := h.at_ _ (List.mem_append_right _ m)
      dsimp only at q1 q2
      rw [show c2 = Pt from e, q2] at q1
      cases q1
  · exact .inr ⟨c', oc, vs, t, h1, h.at_ _ (List.mem_append_right _ h2), h3, h4, k H L h T fun z hz _ => hz⟩
def tFmtT (te : TE) : TE := fun σ H Q => te σ H fun v H1 => ∃ (a : Addr) (m n : Int), v = .ref a ∧ H1 a = some (.tup [.int m, .int n]) ∧ Small m ∧ Small n ∧ ∀ y : Str, y.length ≤ 5000 → Q (.str y) H1
theorem tupTextLen (m n : Int) (hm : Small m) (hn : Small n) : (PyData.tuple [.int m, .int n]).shown.length ≤ 5000 := by
  have e : (PyData.tuple [.int m, .int n]).shown = ("(" : Str) ++ ((Str.ofString (toString m)) ++ (", " : Str) ++ (Str.ofString (toString n))) ++ (")" : Str) := by
    simp only [PyData.shown, PyData.shownAll, tupleText]
    rfl
  rw [e, catLen, catLen, catLen, catLen]
  have a1 := smallLen hm
  have a2 := smallLen hn
  have b1 : ("(" : Str).length = 1 := rfl
  have b2 : (", " : Str).length = 2 := rfl
  have b3 : (")" : Str).length = 1 := rfl
  omega
section
variable {X : Cx} {e : Expr} {te : TE} {pos : Pos}
theorem pe_fmtT (hg : X.A.guards = some []) (hu : X.A.units + 64 < cLine) (h : PE X e te) : PE X (.FormattedValue e (-1) none pos) (tFmtT te) := fun pins s σ H Q I hh => by
  refine wpAny_FormattedValue_plain (thn (h pins s σ H _ I hh) fun u s1 ⟨v, H1, I1, r, a, m, n, ev, ha, hm, hn, q⟩ => ?_)
  subst ev
  cases (show u = Value.ref a from r)
  have rd := reads_tup (ns := [m, n]) I1 ha
  have hl := tupTextLen m n hm hn
  refine formatField_of_reads (d := .tuple [.int m, .int n]) rd ?_ (fun z => by simp [PyData.hasDict, PyData.hasDictAll] at z) hg ?_ (fun _ _ e => e) (fun h' u tk hk => ?_) (Nat.le_trans hl (sizeOk' (by decide)))
  · simp only [PyData.showable, PyData.showableAll, Bool.and_true]
    exact Bool.and_eq_true_iff.mpr ⟨decide_eq_true hm, decide_eq_true hn⟩
  · simp only [PyData.depth, PyData.depthAll]
    omega
  · exact ⟨.str _, H1, I1.kept (t' := tk) hk, ⟨u, rfl⟩, q _ hl⟩
end
section
variable {E : XK} {C : Addr} {D : Ends} {σ : St} {H : Hp} {x x1 x2 : Str} {i j : Nat} {m n : Int} {a : Addr}
theorem rzT (hv : σ[i]? = some (some (.ref a))) (ha : H a = some (.tup [.int m, .int n])) (hm : Small m) (hn : Small n) (q : ∀ e, E (.ref C) (some e) H) (hx : x.length ≤ 1000 := by decide +kernel) :
    sRaise E C (fun σ H Q => tJ1 (tFmtT (tVar i)) (tJ1 (tC (.str x)) tJ0) Str.empty σ H Q) D σ H := by
  refine ⟨.ref a, hv, a, m, n, rfl, ha, hm, hn, fun y hy => ?_⟩
  have l1 := cat1 emptyLen hy
  have l2 := cat1 l1 hx
  exact ⟨y, rfl, sizeOk' (by omega), x, rfl, sizeOk' (by omega), sizeOk' (by omega), q⟩
theorem rz11c (hv : σ[i]? = some (some (.int m))) (hm : Small m) (hw : σ[j]? = some (some (.int n))) (hn : Small n) (q : ∀ e, E (.ref C) (some e) H) (hx : x.length ≤ 1000 := by decide +kernel) (hx1 : x1.length ≤ 1000 := by decide +kernel) (hx2 : x2.length ≤ 1000 := by decide +kernel) :
    sRaise E C (fun σ H Q => tJ1 (tC (.str x)) (tJ1 (tFmt (tVar i)) (tJ1 (tC (.str x1)) (tJ1 (tFmt (tVar j)) (tJ1 (tC (.str x2)) tJ0)))) Str.empty σ H Q) D σ H := by
  have l1 := cat1 emptyLen hx
  have l2 := cat1 l1 (smallLen hm)
  have l3 := cat1 l2 hx1
  have l4 := cat1 l3 (smallLen hn)
  have l5 := cat1 l4 hx2
  exact ⟨x, rfl, sizeOk' (by omega), .int m, hv, .inr ⟨m, rfl, hm, _, rfl, sizeOk' (by omega), _, rfl, sizeOk' (by omega), .int n, hw, .inr ⟨n, rfl, hn, _, rfl, sizeOk' (by omega), _, rfl, sizeOk' (by omega), sizeOk' (by omega), q⟩⟩⟩
end
end L2

set_option Elab.async false
set_option linter.all false
set_option maxRecDepth 100000
namespace L2
open PySem PySem.Spec PyProof.Rows
section
variable {X : Cx} {K : PySem.W.Frag}
theorem op_eqDK (hK : X.K = K) (hu : X.A.units + 64 < cLine) : OpR X (compareOp .Eq) (rDat K false) := by subst hK; exact op_eqD hu
end
end L2


set_option Elab.async false
set_option linter.all false
set_option maxRecDepth 100000
set_option maxHeartbeats 4000000
namespace P
open PySem L2

def top (i : Nat) : Stmt := PySem.Challenge.pw_lazyrails_k08_pieces_lifted.main.body.getD i (.Pass ⟨0, 0, 0, 0⟩)
abbrev s_law : Stmt := top 56
abbrev s_draws : Stmt := top 37
abbrev s_built : Stmt := top 47
abbrev s_kind : Stmt := top 43
abbrev s_kinds : Stmt := top 42
abbrev s_many : Stmt := top 44
abbrev s_linked : Stmt := top 49
abbrev s_ends : Stmt := top 48
abbrev s_size : Stmt := top 52
abbrev s_lift_due : Stmt := top 53
abbrev s_look : Stmt := top 51
abbrev s_is : Stmt := top 39
abbrev s_whole : Stmt := top 38
abbrev s_refused : Stmt := top 46
abbrev s_names : Stmt := top 45
abbrev s_gone : Stmt := top 55
abbrev s_freed : Stmt := top 54
abbrev s_is_row : Stmt := top 41
abbrev s_check_end : Stmt := top 31
abbrev s_ends_of : Stmt := top 29
abbrev s_is_point : Stmt := top 30
abbrev s_check_note : Stmt := top 33
abbrev s_check_side : Stmt := top 32
abbrev s_Yard_init : Stmt := inClass (top 35) 0
abbrev s_Yard_put : Stmt := inClass (top 35) 7
abbrev s_Yard_check_there : Stmt := inClass (top 35) 25
abbrev s_Yard_check_piece : Stmt := inClass (top 35) 23
abbrev s_Yard_end_trail : Stmt := inClass (top 35) 22
abbrev s_Yard_lay : Stmt := inClass (top 35) 1
abbrev s_Yard_check_rod : Stmt := inClass (top 35) 24
abbrev s_Yard_new_rod : Stmt := inClass (top 35) 2
abbrev s_Yard_rod : Stmt := inClass (top 35) 16
abbrev s_Yard_lift : Stmt := inClass (top 35) 3
abbrev s_Yard_pieces : Stmt := inClass (top 35) 12
abbrev s_Yard_rods : Stmt := inClass (top 35) 13
abbrev s_Yard_link : Stmt := inClass (top 35) 4
abbrev s_Yard_mate : Stmt := inClass (top 35) 18
abbrev s_Yard_engine : Stmt := inClass (top 35) 19
abbrev s_Yard_bells : Stmt := inClass (top 35) 20
abbrev s_Yard_kind : Stmt := inClass (top 35) 14
abbrev s_Yard_side : Stmt := inClass (top 35) 17
abbrev s_Yard_note : Stmt := inClass (top 35) 15
abbrev s_Yard_unlink : Stmt := inClass (top 35) 5
abbrev s_Yard_off : Stmt := inClass (top 35) 8
structure Adr where
  f_law : Addr
  d_law : FuncData
  v_law : Value
  f_draws : Addr
  d_draws : FuncData
  v_draws : Value
  f_built : Addr
  d_built : FuncData
  v_built : Value
  f_kind : Addr
  d_kind : FuncData
  v_kind : Value
  f_kinds : Addr
  d_kinds : FuncData
  v_kinds : Value
  f_many : Addr
  d_many : FuncData
  v_many : Value
  f_linked : Addr
  d_linked : FuncData
  v_linked : Value
  f_ends : Addr
  d_ends : FuncData
  v_ends : Value
  f_size : Addr
  d_size : FuncData
  v_size : Value
  f_lift_due : Addr
  d_lift_due : FuncData
  v_lift_due : Value
  f_look : Addr
  d_look : FuncData
  v_look : Value
  f_is : Addr
  d_is : FuncData
  v_is : Value
  f_whole : Addr
  d_whole : FuncData
  v_whole : Value
  f_refused : Addr
  d_refused : FuncData
  v_refused : Value
  f_names : Addr
  d_names : FuncData
  v_names : Value
  f_gone : Addr
  d_gone : FuncData
  v_gone : Value
  f_freed : Addr
  d_freed : FuncData
  v_freed : Value
  f_is_row : Addr
  d_is_row : FuncData
  v_is_row : Value
  f_check_end : Addr
  d_check_end : FuncData
  v_check_end : Value
  f_ends_of : Addr
  d_ends_of : FuncData
  v_ends_of : Value
  f_is_point : Addr
  d_is_point : FuncData
  v_is_point : Value
  f_check_note : Addr
  d_check_note : FuncData
  v_check_note : Value
  f_check_side : Addr
  d_check_side : FuncData
  v_check_side : Value
  f_Yard_init : Addr
  d_Yard_init : FuncData
  v_Yard_init : Value
  f_Yard_put : Addr
  d_Yard_put : FuncData
  v_Yard_put : Value
  f_Yard_check_there : Addr
  d_Yard_check_there : FuncData
  v_Yard_check_there : Value
  f_Yard_check_piece : Addr
  d_Yard_check_piece : FuncData
  v_Yard_check_piece : Value
  f_Yard_end_trail : Addr
  d_Yard_end_trail : FuncData
  v_Yard_end_trail : Value
  f_Yard_lay : Addr
  d_Yard_lay : FuncData
  v_Yard_lay : Value
  f_Yard_check_rod : Addr
  d_Yard_check_rod : FuncData
  v_Yard_check_rod : Value
  f_Yard_new_rod : Addr
  d_Yard_new_rod : FuncData
  v_Yard_new_rod : Value
  f_Yard_rod : Addr
  d_Yard_rod : FuncData
  v_Yard_rod : Value
  f_Yard_lift : Addr
  d_Yard_lift : FuncData
  v_Yard_lift : Value
  f_Yard_pieces : Addr
  d_Yard_pieces : FuncData
  v_Yard_pieces : Value
  f_Yard_rods : Addr
  d_Yard_rods : FuncData
  v_Yard_rods : Value
  f_Yard_link : Addr
  d_Yard_link : FuncData
  v_Yard_link : Value
  f_Yard_mate : Addr
  d_Yard_mate : FuncData
  v_Yard_mate : Value
  f_Yard_engine : Addr
  d_Yard_engine : FuncData
  v_Yard_engine : Value
  f_Yard_bells : Addr
  d_Yard_bells : FuncData
  v_Yard_bells : Value
  f_Yard_kind : Addr
  d_Yard_kind : FuncData
  v_Yard_kind : Value
  f_Yard_side : Addr
  d_Yard_side : FuncData
  v_Yard_side : Value
  f_Yard_note : Addr
  d_Yard_note : FuncData
  v_Yard_note : Value
  f_Yard_unlink : Addr
  d_Yard_unlink : FuncData
  v_Yard_unlink : Value
  f_Yard_off : Addr
  d_Yard_off : FuncData
  v_Yard_off : Value
  c_Yard : Addr
  c_RailError : Addr
  c_NoKind : Addr
  c_NoEnd : Addr
  c_NoSide : Addr
  c_NoNote : Addr
  c_NoPiece : Addr
  c_NoRod : Addr
  c_NoPoint : Addr
  c_NoBell : Addr
  c_SameEnd : Addr
  c_Linked : Addr
  c_NotLinked : Addr
  c_Occupied : Addr
  c_NoStand : Addr
  c_NoMany : Addr
  c_NoStretch : Addr
  c_NoRow : Addr
  c_NoMark : Addr
  c_NoCounter : Addr
  c_NoWidth : Addr
  c_NoValue : Addr
  c_FallsOut : Addr
  c_NoText : Addr
  p_gone : Addr
  p_law : Addr
  u_ENDS : Value
  u_LAST_NOTE : Value
  u_POINTS : Value
def dsOf (t : Adr) (i : Nat) : List (Addr × Bool) := [(t.c_NoKind, i == 0), (t.c_NoEnd, i == 1), (t.c_NoSide, i == 2), (t.c_NoNote, i == 3), (t.c_NoPiece, i == 4), (t.c_NoRod, i == 5), (t.c_NoPoint, i == 6), (t.c_NoBell, i == 7), (t.c_SameEnd, i == 8), (t.c_Linked, i == 9), (t.c_NotLinked, i == 10), (t.c_Occupied, i == 11), (t.c_NoStand, i == 12), (t.c_NoMany, i == 13), (t.c_NoStretch, i == 14), (t.c_NoRow, i == 15), (t.c_NoMark, i == 16), (t.c_NoCounter, i == 17), (t.c_NoWidth, i == 18), (t.c_NoValue, i == 19), (t.c_FallsOut, i == 20), (t.c_NoText, i == 21)]
def flagsOf (i : Nat) : List (Str × Bool) := [("NoKind", i == 0), ("NoEnd", i == 1), ("NoSide", i == 2), ("NoNote", i == 3), ("NoPiece", i == 4), ("NoRod", i == 5), ("NoPoint", i == 6), ("NoBell", i == 7), ("SameEnd", i == 8), ("Linked", i == 9), ("NotLinked", i == 10), ("Occupied", i == 11), ("NoStand", i == 12), ("NoMany", i == 13), ("NoStretch", i == 14), ("NoRow", i == 15), ("NoMark", i == 16), ("NoCounter", i == 17), ("NoWidth", i == 18), ("NoValue", i == 19), ("FallsOut", i == 20), ("NoText", i == 21), ("plain", false)]
def nameAt (i : Nat) : Str := ((["NoKind", "NoEnd", "NoSide", "NoNote", "NoPiece", "NoRod", "NoPoint", "NoBell", "SameEnd", "Linked", "NotLinked", "Occupied", "NoStand", "NoMany", "NoStretch", "NoRow", "NoMark", "NoCounter", "NoWidth", "NoValue", "FallsOut", "NoText"] : List Str)[i]?).getD ""
structure Txt (K : PySem.W.Frag) (mg : Str → Option Value) (t : Adr) : Prop where
  F_law : FunG K "law" "law" s_law t.v_law t.f_law t.d_law
  F_draws : FunG K "_law_draws" "_law_draws" s_draws t.v_draws t.f_draws t.d_draws
  F_built : FunG K "_law_built" "_law_built" s_built t.v_built t.f_built t.d_built
  F_kind : FunG K "_law_kind" "_law_kind" s_kind t.v_kind t.f_kind t.d_kind
  F_kinds : FunG K "_law_kinds" "_law_kinds" s_kinds t.v_kinds t.f_kinds t.d_kinds
  F_many : FunG K "_law_many" "_law_many" s_many t.v_many t.f_many t.d_many
  F_linked : FunG K "_law_linked" "_law_linked" s_linked t.v_linked t.f_linked t.d_linked
  F_ends : FunG K "_law_ends" "_law_ends" s_ends t.v_ends t.f_ends t.d_ends
  F_size : FunG K "_law_size" "_law_size" s_size t.v_size t.f_size t.d_size
  F_lift_due : FunG K "_law_lift_due" "_law_lift_due" s_lift_due t.v_lift_due t.f_lift_due t.d_lift_due
  F_look : FunG K "_law_look" "_law_look" s_look t.v_look t.f_look t.d_look
  F_is : FunG K "_law_is" "_law_is" s_is t.v_is t.f_is t.d_is
  F_whole : FunG K "_law_whole" "_law_whole" s_whole t.v_whole t.f_whole t.d_whole
  F_refused : FunG K "_law_refused" "_law_refused" s_refused t.v_refused t.f_refused t.d_refused
  F_names : FunG K "_law_names" "_law_names" s_names t.v_names t.f_names t.d_names
  F_gone : FunG K "_law_gone" "_law_gone" s_gone t.v_gone t.f_gone t.d_gone
  F_freed : FunG K "_law_freed" "_law_freed" s_freed t.v_freed t.f_freed t.d_freed
  F_is_row : FunG K "_law_is_row" "_law_is_row" s_is_row t.v_is_row t.f_is_row t.d_is_row
  F_check_end : FunG K "check_end" "check_end" s_check_end t.v_check_end t.f_check_end t.d_check_end
  F_ends_of : FunG K "ends_of" "ends_of" s_ends_of t.v_ends_of t.f_ends_of t.d_ends_of
  F_is_point : FunG K "is_point" "is_point" s_is_point t.v_is_point t.f_is_point t.d_is_point
  F_check_note : FunG K "check_note" "check_note" s_check_note t.v_check_note t.f_check_note t.d_check_note
  F_check_side : FunG K "check_side" "check_side" s_check_side t.v_check_side t.f_check_side t.d_check_side
  F_Yard_init : FunG K "__init__" "Yard.__init__" s_Yard_init t.v_Yard_init t.f_Yard_init t.d_Yard_init
  F_Yard_put : FunG K "put" "Yard.put" s_Yard_put t.v_Yard_put t.f_Yard_put t.d_Yard_put
  F_Yard_check_there : FunG K "check_there" "Yard.check_there" s_Yard_check_there t.v_Yard_check_there t.f_Yard_check_there t.d_Yard_check_there
  F_Yard_check_piece : FunG K "check_piece" "Yard.check_piece" s_Yard_check_piece t.v_Yard_check_piece t.f_Yard_check_piece t.d_Yard_check_piece
  F_Yard_end_trail : FunG K "end_trail" "Yard.end_trail" s_Yard_end_trail t.v_Yard_end_trail t.f_Yard_end_trail t.d_Yard_end_trail
  F_Yard_lay : FunG K "lay" "Yard.lay" s_Yard_lay t.v_Yard_lay t.f_Yard_lay t.d_Yard_lay
  F_Yard_check_rod : FunG K "check_rod" "Yard.check_rod" s_Yard_check_rod t.v_Yard_check_rod t.f_Yard_check_rod t.d_Yard_check_rod
  F_Yard_new_rod : FunG K "new_rod" "Yard.new_rod" s_Yard_new_rod t.v_Yard_new_rod t.f_Yard_new_rod t.d_Yard_new_rod
  F_Yard_rod : FunG K "rod" "Yard.rod" s_Yard_rod t.v_Yard_rod t.f_Yard_rod t.d_Yard_rod
  F_Yard_lift : FunG K "lift" "Yard.lift" s_Yard_lift t.v_Yard_lift t.f_Yard_lift t.d_Yard_lift
  F_Yard_pieces : FunG K "pieces" "Yard.pieces" s_Yard_pieces t.v_Yard_pieces t.f_Yard_pieces t.d_Yard_pieces
  F_Yard_rods : FunG K "rods" "Yard.rods" s_Yard_rods t.v_Yard_rods t.f_Yard_rods t.d_Yard_rods
  F_Yard_link : FunG K "link" "Yard.link" s_Yard_link t.v_Yard_link t.f_Yard_link t.d_Yard_link
  F_Yard_mate : FunG K "mate" "Yard.mate" s_Yard_mate t.v_Yard_mate t.f_Yard_mate t.d_Yard_mate
  F_Yard_engine : FunG K "engine" "Yard.engine" s_Yard_engine t.v_Yard_engine t.f_Yard_engine t.d_Yard_engine
  F_Yard_bells : FunG K "bells" "Yard.bells" s_Yard_bells t.v_Yard_bells t.f_Yard_bells t.d_Yard_bells
  F_Yard_kind : FunG K "kind" "Yard.kind" s_Yard_kind t.v_Yard_kind t.f_Yard_kind t.d_Yard_kind
  F_Yard_side : FunG K "side" "Yard.side" s_Yard_side t.v_Yard_side t.f_Yard_side t.d_Yard_side
  F_Yard_note : FunG K "note" "Yard.note" s_Yard_note t.v_Yard_note t.f_Yard_note t.d_Yard_note
  F_Yard_unlink : FunG K "unlink" "Yard.unlink" s_Yard_unlink t.v_Yard_unlink t.f_Yard_unlink t.d_Yard_unlink
  F_Yard_off : FunG K "off" "Yard.off" s_Yard_off t.v_Yard_off t.f_Yard_off t.d_Yard_off
  m_law : mg "law" = some (.ref t.f_law)
  e_law : t.v_law = .none
  m_draws : mg "_law_draws" = some (.ref t.f_draws)
  e_draws : t.v_draws = .none
  m_built : mg "_law_built" = some (.ref t.f_built)
  e_built : t.v_built = .none
  m_kind : mg "_law_kind" = some (.ref t.f_kind)
  e_kind : t.v_kind = .none
  m_kinds : mg "_law_kinds" = some (.ref t.f_kinds)
  e_kinds : t.v_kinds = .none
  m_many : mg "_law_many" = some (.ref t.f_many)
  e_many : t.v_many = .none
  m_linked : mg "_law_linked" = some (.ref t.f_linked)
  e_linked : t.v_linked = .none
  m_ends : mg "_law_ends" = some (.ref t.f_ends)
  e_ends : t.v_ends = .none
  m_size : mg "_law_size" = some (.ref t.f_size)
  e_size : t.v_size = .none
  m_lift_due : mg "_law_lift_due" = some (.ref t.f_lift_due)
  e_lift_due : t.v_lift_due = .none
  m_look : mg "_law_look" = some (.ref t.f_look)
  e_look : t.v_look = .none
  m_is : mg "_law_is" = some (.ref t.f_is)
  e_is : t.v_is = .none
  m_whole : mg "_law_whole" = some (.ref t.f_whole)
  e_whole : t.v_whole = .none
  m_refused : mg "_law_refused" = some (.ref t.f_refused)
  e_refused : t.v_refused = .none
  m_names : mg "_law_names" = some (.ref t.f_names)
  e_names : t.v_names = .none
  m_gone : mg "_law_gone" = some (.ref t.f_gone)
  e_gone : t.v_gone = .none
  m_freed : mg "_law_freed" = some (.ref t.f_freed)
  e_freed : t.v_freed = .none
  m_is_row : mg "_law_is_row" = some (.ref t.f_is_row)
  e_is_row : t.v_is_row = .none
  m_check_end : mg "check_end" = some (.ref t.f_check_end)
  e_check_end : t.v_check_end = .none
  m_ends_of : mg "ends_of" = some (.ref t.f_ends_of)
  e_ends_of : t.v_ends_of = .none
  m_is_point : mg "is_point" = some (.ref t.f_is_point)
  e_is_point : t.v_is_point = .none
  m_check_note : mg "check_note" = some (.ref t.f_check_note)
  e_check_note : t.v_check_note = .none
  m_check_side : mg "check_side" = some (.ref t.f_check_side)
  e_check_side : t.v_check_side = .none
  e_Yard_init : t.v_Yard_init = .none
  M_Yard_put : Meth K t.c_Yard "put" t.f_Yard_put
  e_Yard_put : t.v_Yard_put = .none
  M_Yard_check_there : Meth K t.c_Yard "check_there" t.f_Yard_check_there
  e_Yard_check_there : t.v_Yard_check_there = .none
  M_Yard_check_piece : Meth K t.c_Yard "check_piece" t.f_Yard_check_piece
  e_Yard_check_piece : t.v_Yard_check_piece = .none
  M_Yard_end_trail : Meth K t.c_Yard "end_trail" t.f_Yard_end_trail
  e_Yard_end_trail : t.v_Yard_end_trail = .none
  M_Yard_lay : Meth K t.c_Yard "lay" t.f_Yard_lay
  D_Yard_lay : ∃ (T : Addr) (od : Option Addr) (n : Nat) (sl : Array (Option Value)) (tk0 : Tok), t.v_Yard_lay = .ref T ∧ K.lookup T = some ⟨.type "tuple", od, .seq #[.int 0 tk0, .none] n, sl⟩
  M_Yard_check_rod : Meth K t.c_Yard "check_rod" t.f_Yard_check_rod
  e_Yard_check_rod : t.v_Yard_check_rod = .none
  M_Yard_new_rod : Meth K t.c_Yard "new_rod" t.f_Yard_new_rod
  D_Yard_new_rod : ∃ (T : Addr) (od : Option Addr) (n : Nat) (sl : Array (Option Value)) (tk0 : Tok), t.v_Yard_new_rod = .ref T ∧ K.lookup T = some ⟨.type "tuple", od, .seq #[.int 1 tk0] n, sl⟩
  M_Yard_rod : Meth K t.c_Yard "rod" t.f_Yard_rod
  e_Yard_rod : t.v_Yard_rod = .none
  M_Yard_lift : Meth K t.c_Yard "lift" t.f_Yard_lift
  e_Yard_lift : t.v_Yard_lift = .none
  M_Yard_pieces : Meth K t.c_Yard "pieces" t.f_Yard_pieces
  e_Yard_pieces : t.v_Yard_pieces = .none
  M_Yard_rods : Meth K t.c_Yard "rods" t.f_Yard_rods
  e_Yard_rods : t.v_Yard_rods = .none
  M_Yard_link : Meth K t.c_Yard "link" t.f_Yard_link
  e_Yard_link : t.v_Yard_link = .none
  M_Yard_mate : Meth K t.c_Yard "mate" t.f_Yard_mate
  e_Yard_mate : t.v_Yard_mate = .none
  M_Yard_engine : Meth K t.c_Yard "engine" t.f_Yard_engine
  e_Yard_engine : t.v_Yard_engine = .none
  M_Yard_bells : Meth K t.c_Yard "bells" t.f_Yard_bells
  e_Yard_bells : t.v_Yard_bells = .none
  M_Yard_kind : Meth K t.c_Yard "kind" t.f_Yard_kind
  e_Yard_kind : t.v_Yard_kind = .none
  M_Yard_side : Meth K t.c_Yard "side" t.f_Yard_side
  e_Yard_side : t.v_Yard_side = .none
  M_Yard_note : Meth K t.c_Yard "note" t.f_Yard_note
  e_Yard_note : t.v_Yard_note = .none
  M_Yard_unlink : Meth K t.c_Yard "unlink" t.f_Yard_unlink
  e_Yard_unlink : t.v_Yard_unlink = .none
  M_Yard_off : Meth K t.c_Yard "off" t.f_Yard_off
  e_Yard_off : t.v_Yard_off = .none
  cl_Yard : Cls K t.c_Yard
  m_Yard : mg "Yard" = some (.ref t.c_Yard)
  mk_Yard : Mk K t.c_Yard t.f_Yard_init
  n_Yard_next_piece : NoAttr K t.c_Yard "next_piece"
  n_Yard_kinds : NoAttr K t.c_Yard "kinds"
  n_Yard_notes : NoAttr K t.c_Yard "notes"
  n_Yard_rods_under : NoAttr K t.c_Yard "rods_under"
  n_Yard_sides : NoAttr K t.c_Yard "sides"
  n_Yard_mates : NoAttr K t.c_Yard "mates"
  n_Yard_engine_end : NoAttr K t.c_Yard "engine_end"
  n_Yard_rung : NoAttr K t.c_Yard "rung"
  n_Yard_trail : NoAttr K t.c_Yard "trail"
  m_RailError : mg "RailError" = some (.ref t.c_RailError)
  m_NoKind : mg "NoKind" = some (.ref t.c_NoKind)
  m_NoEnd : mg "NoEnd" = some (.ref t.c_NoEnd)
  m_NoSide : mg "NoSide" = some (.ref t.c_NoSide)
  m_NoNote : mg "NoNote" = some (.ref t.c_NoNote)
  m_NoPiece : mg "NoPiece" = some (.ref t.c_NoPiece)
  m_NoRod : mg "NoRod" = some (.ref t.c_NoRod)
  m_NoPoint : mg "NoPoint" = some (.ref t.c_NoPoint)
  m_NoBell : mg "NoBell" = some (.ref t.c_NoBell)
  m_SameEnd : mg "SameEnd" = some (.ref t.c_SameEnd)
  m_Linked : mg "Linked" = some (.ref t.c_Linked)
  m_NotLinked : mg "NotLinked" = some (.ref t.c_NotLinked)
  m_Occupied : mg "Occupied" = some (.ref t.c_Occupied)
  m_NoStand : mg "NoStand" = some (.ref t.c_NoStand)
  m_NoMany : mg "NoMany" = some (.ref t.c_NoMany)
  m_NoStretch : mg "NoStretch" = some (.ref t.c_NoStretch)
  m_NoRow : mg "NoRow" = some (.ref t.c_NoRow)
  m_NoMark : mg "NoMark" = some (.ref t.c_NoMark)
  m_NoCounter : mg "NoCounter" = some (.ref t.c_NoCounter)
  m_NoWidth : mg "NoWidth" = some (.ref t.c_NoWidth)
  m_NoValue : mg "NoValue" = some (.ref t.c_NoValue)
  m_FallsOut : mg "FallsOut" = some (.ref t.c_FallsOut)
  m_NoText : mg "NoText" = some (.ref t.c_NoText)
  x_NoKind : excAll K t.c_NoKind t.c_RailError (dsOf t 0) = true
  x_NoEnd : excAll K t.c_NoEnd t.c_RailError (dsOf t 1) = true
  x_NoSide : excAll K t.c_NoSide t.c_RailError (dsOf t 2) = true
  x_NoNote : excAll K t.c_NoNote t.c_RailError (dsOf t 3) = true
  x_NoPiece : excAll K t.c_NoPiece t.c_RailError (dsOf t 4) = true
  x_NoRod : excAll K t.c_NoRod t.c_RailError (dsOf t 5) = true
  x_SameEnd : excAll K t.c_SameEnd t.c_RailError (dsOf t 8) = true
  x_Linked : excAll K t.c_Linked t.c_RailError (dsOf t 9) = true
  x_NotLinked : excAll K t.c_NotLinked t.c_RailError (dsOf t 10) = true
  x_NoBell : excAll K t.c_NoBell t.c_RailError (dsOf t 7) = true
  x_NoPoint : excAll K t.c_NoPoint t.c_RailError (dsOf t 6) = true
  x_Occupied : excAll K t.c_Occupied t.c_RailError (dsOf t 11) = true
  tb_gone : ∃ c, t.d_gone.code = .ref c ∧ PySem.W.codeHdIn K c t.p_gone = true
  tn_gone : K.lookup t.p_gone = none
  tb_law : ∃ c, t.d_law.code = .ref c ∧ PySem.W.codeHdIn K c t.p_law = true
  tn_law : K.lookup t.p_law = none
  dj_gone_law : t.p_gone ≠ t.p_law
  z_ValueError : mg "ValueError" = none
  z_abs : mg "abs" = none
  z_all : mg "all" = none
  z_bool : mg "bool" = none
  z_enumerate : mg "enumerate" = none
  z_int : mg "int" = none
  z_isinstance : mg "isinstance" = none
  z_len : mg "len" = none
  z_list : mg "list" = none
  z_range : mg "range" = none
  z_zip : mg "zip" = none
  g_ENDS : mg "ENDS" = some t.u_ENDS
  x_ENDS : ∃ a, t.u_ENDS = .ref a ∧ TabK K a [("line", .int 2), ("bell", .int 2), ("stop", .int 1), ("still", .int 3), ("lazy", .int 3), ("turning", .int 3)]
  g_LAST_NOTE : mg "LAST_NOTE" = some t.u_LAST_NOTE
  r_LAST_NOTE : RelV (.int 9999) t.u_LAST_NOTE
  g_POINTS : mg "POINTS" = some t.u_POINTS
  x_POINTS : ∃ (a : Addr) (o : Obj) (its : Array Value) (n : Nat), t.u_POINTS = .ref a ∧ K.lookup a = some o ∧ o.cls = .type "tuple" ∧ o.data = .seq its n ∧ its.size ≤ sizeLine ∧ Vals [.str "still", .str "lazy", .str "turning"] its.toList
section
variable {K : PySem.W.Frag} {mg : Str → Option Value} {t : Adr}
theorem b_draws (T : Txt K mg t) : Binds K t.d_draws ["_law_script", "_law_many_here"] [] := (T.e_draws ▸ T.F_draws).binds fun _ _ _ _ _ _ us hl => match us, hl with | [_, _], _ => rfl
theorem b_built (T : Txt K mg t) : Binds K t.d_built ["_law_d", "_law_at", "_law_many_here"] [] := (T.e_built ▸ T.F_built).binds fun _ _ _ _ _ _ us hl => match us, hl with | [_, _, _], _ => rfl
theorem b_kind (T : Txt K mg t) : Binds K t.d_kind ["_law_draw"] [] := (T.e_kind ▸ T.F_kind).binds fun _ _ _ _ _ _ us hl => match us, hl with | [_], _ => rfl
theorem b_kinds (T : Txt K mg t) : Binds K t.d_kinds [] [] := (T.e_kinds ▸ T.F_kinds).binds fun _ _ _ _ _ _ us hl => match us, hl with | [], _ => rfl
theorem b_many (T : Txt K mg t) : Binds K t.d_many ["_law_kind_here"] [] := (T.e_many ▸ T.F_many).binds fun _ _ _ _ _ _ us hl => match us, hl with | [_], _ => rfl
theorem b_linked (T : Txt K mg t) : Binds K t.d_linked ["_law_yard", "_law_kinds_here", "_law_d", "_law_at", "_law_many_here"] [] := (T.e_linked ▸ T.F_linked).binds fun _ _ _ _ _ _ us hl => match us, hl with | [_, _, _, _, _], _ => rfl
theorem b_ends (T : Txt K mg t) : Binds K t.d_ends ["_law_kinds_here"] [] := (T.e_ends ▸ T.F_ends).binds fun _ _ _ _ _ _ us hl => match us, hl with | [_], _ => rfl
theorem b_size (T : Txt K mg t) : Binds K t.d_size ["_law_draw"] [] := (T.e_size ▸ T.F_size).binds fun _ _ _ _ _ _ us hl => match us, hl with | [_], _ => rfl
theorem b_lift_due (T : Txt K mg t) : Binds K t.d_lift_due ["_law_yard", "_law_piece", "_law_kinds_here", "_law_there", "_law_at"] [] := (T.e_lift_due ▸ T.F_lift_due).binds fun _ _ _ _ _ _ us hl => match us, hl with | [_, _, _, _, _], _ => rfl
theorem b_look (T : Txt K mg t) : Binds K t.d_look ["_law_yard"] [] := (T.e_look ▸ T.F_look).binds fun _ _ _ _ _ _ us hl => match us, hl with | [_], _ => rfl
theorem b_is (T : Txt K mg t) : Binds K t.d_is ["_law_found", "_law_due"] [] := (T.e_is ▸ T.F_is).binds fun _ _ _ _ _ _ us hl => match us, hl with | [_, _], _ => rfl
theorem b_whole (T : Txt K mg t) : Binds K t.d_whole ["_law_found"] [] := (T.e_whole ▸ T.F_whole).binds fun _ _ _ _ _ _ us hl => match us, hl with | [_], _ => rfl
theorem b_refused (T : Txt K mg t) : Binds K t.d_refused ["_law_deed"] [] := (T.e_refused ▸ T.F_refused).binds fun _ _ _ _ _ _ us hl => match us, hl with | [_], _ => rfl
theorem b_names (T : Txt K mg t) : Binds K t.d_names ["_law_e"] [] := (T.e_names ▸ T.F_names).binds fun _ _ _ _ _ _ us hl => match us, hl with | [_], _ => rfl
theorem b_gone (T : Txt K mg t) : Binds K t.d_gone ["_law_yard", "_law_piece", "_law_place"] [] := (T.e_gone ▸ T.F_gone).binds fun _ _ _ _ _ _ us hl => match us, hl with | [_, _, _], _ => rfl
theorem b_freed (T : Txt K mg t) : Binds K t.d_freed ["_law_yard", "_law_piece", "_law_kinds_here"] [] := (T.e_freed ▸ T.F_freed).binds fun _ _ _ _ _ _ us hl => match us, hl with | [_, _, _], _ => rfl
theorem b_is_row (T : Txt K mg t) : Binds K t.d_is_row ["_law_found", "_law_due"] [] := (T.e_is_row ▸ T.F_is_row).binds fun _ _ _ _ _ _ us hl => match us, hl with | [_, _], _ => rfl
theorem b_check_end (T : Txt K mg t) : Binds K t.d_check_end ["kind", "end"] [] := (T.e_check_end ▸ T.F_check_end).binds fun _ _ _ _ _ _ us hl => match us, hl with | [_, _], _ => rfl
theorem b_ends_of (T : Txt K mg t) : Binds K t.d_ends_of ["kind"] [] := (T.e_ends_of ▸ T.F_ends_of).binds fun _ _ _ _ _ _ us hl => match us, hl with | [_], _ => rfl
theorem b_is_point (T : Txt K mg t) : Binds K t.d_is_point ["kind"] [] := (T.e_is_point ▸ T.F_is_point).binds fun _ _ _ _ _ _ us hl => match us, hl with | [_], _ => rfl
theorem b_check_note (T : Txt K mg t) : Binds K t.d_check_note ["note"] [] := (T.e_check_note ▸ T.F_check_note).binds fun _ _ _ _ _ _ us hl => match us, hl with | [_], _ => rfl
theorem b_check_side (T : Txt K mg t) : Binds K t.d_check_side ["side"] [] := (T.e_check_side ▸ T.F_check_side).binds fun _ _ _ _ _ _ us hl => match us, hl with | [_], _ => rfl
theorem b_Yard_init (T : Txt K mg t) : Binds K t.d_Yard_init ["self"] [] := (T.e_Yard_init ▸ T.F_Yard_init).binds fun _ _ _ _ _ _ us hl => match us, hl with | [_], _ => rfl
theorem b_Yard_put (T : Txt K mg t) : Binds K t.d_Yard_put ["self", "end"] [] := (T.e_Yard_put ▸ T.F_Yard_put).binds fun _ _ _ _ _ _ us hl => match us, hl with | [_, _], _ => rfl
theorem b_Yard_check_there (T : Txt K mg t) : Binds K t.d_Yard_check_there ["self", "end"] [] := (T.e_Yard_check_there ▸ T.F_Yard_check_there).binds fun _ _ _ _ _ _ us hl => match us, hl with | [_, _], _ => rfl
theorem b_Yard_check_piece (T : Txt K mg t) : Binds K t.d_Yard_check_piece ["self", "piece"] [] := (T.e_Yard_check_piece ▸ T.F_Yard_check_piece).binds fun _ _ _ _ _ _ us hl => match us, hl with | [_, _], _ => rfl
theorem b_Yard_end_trail (T : Txt K mg t) : Binds K t.d_Yard_end_trail ["self"] [] := (T.e_Yard_end_trail ▸ T.F_Yard_end_trail).binds fun _ _ _ _ _ _ us hl => match us, hl with | [_], _ => rfl
theorem b_Yard_check_rod (T : Txt K mg t) : Binds K t.d_Yard_check_rod ["self", "rod"] [] := (T.e_Yard_check_rod ▸ T.F_Yard_check_rod).binds fun _ _ _ _ _ _ us hl => match us, hl with | [_, _], _ => rfl
theorem b_Yard_rod (T : Txt K mg t) : Binds K t.d_Yard_rod ["self", "piece"] [] := (T.e_Yard_rod ▸ T.F_Yard_rod).binds fun _ _ _ _ _ _ us hl => match us, hl with | [_, _], _ => rfl
theorem b_Yard_lift (T : Txt K mg t) : Binds K t.d_Yard_lift ["self", "piece"] [] := (T.e_Yard_lift ▸ T.F_Yard_lift).binds fun _ _ _ _ _ _ us hl => match us, hl with | [_, _], _ => rfl
theorem b_Yard_pieces (T : Txt K mg t) : Binds K t.d_Yard_pieces ["self"] [] := (T.e_Yard_pieces ▸ T.F_Yard_pieces).binds fun _ _ _ _ _ _ us hl => match us, hl with | [_], _ => rfl
theorem b_Yard_rods (T : Txt K mg t) : Binds K t.d_Yard_rods ["self"] [] := (T.e_Yard_rods ▸ T.F_Yard_rods).binds fun _ _ _ _ _ _ us hl => match us, hl with | [_], _ => rfl
theorem b_Yard_link (T : Txt K mg t) : Binds K t.d_Yard_link ["self", "one", "other"] [] := (T.e_Yard_link ▸ T.F_Yard_link).binds fun _ _ _ _ _ _ us hl => match us, hl with | [_, _, _], _ => rfl
theorem b_Yard_mate (T : Txt K mg t) : Binds K t.d_Yard_mate ["self", "end"] [] := (T.e_Yard_mate ▸ T.F_Yard_mate).binds fun _ _ _ _ _ _ us hl => match us, hl with | [_, _], _ => rfl
theorem b_Yard_engine (T : Txt K mg t) : Binds K t.d_Yard_engine ["self"] [] := (T.e_Yard_engine ▸ T.F_Yard_engine).binds fun _ _ _ _ _ _ us hl => match us, hl with | [_], _ => rfl
theorem b_Yard_bells (T : Txt K mg t) : Binds K t.d_Yard_bells ["self"] [] := (T.e_Yard_bells ▸ T.F_Yard_bells).binds fun _ _ _ _ _ _ us hl => match us, hl with | [_], _ => rfl
theorem b_Yard_kind (T : Txt K mg t) : Binds K t.d_Yard_kind ["self", "piece"] [] := (T.e_Yard_kind ▸ T.F_Yard_kind).binds fun _ _ _ _ _ _ us hl => match us, hl with | [_, _], _ => rfl
theorem b_Yard_side (T : Txt K mg t) : Binds K t.d_Yard_side ["self", "rod"] [] := (T.e_Yard_side ▸ T.F_Yard_side).binds fun _ _ _ _ _ _ us hl => match us, hl with | [_, _], _ => rfl
theorem b_Yard_note (T : Txt K mg t) : Binds K t.d_Yard_note ["self", "piece"] [] := (T.e_Yard_note ▸ T.F_Yard_note).binds fun _ _ _ _ _ _ us hl => match us, hl with | [_, _], _ => rfl
theorem b_Yard_unlink (T : Txt K mg t) : Binds K t.d_Yard_unlink ["self", "end"] [] := (T.e_Yard_unlink ▸ T.F_Yard_unlink).binds fun _ _ _ _ _ _ us hl => match us, hl with | [_, _], _ => rfl
theorem b_Yard_off (T : Txt K mg t) : Binds K t.d_Yard_off ["self"] [] := (T.e_Yard_off ▸ T.F_Yard_off).binds fun _ _ _ _ _ _ us hl => match us, hl with | [_], _ => rfl
theorem bD_Yard_lay_4 (T : Txt K mg t) : ∃ ds : List Value, Vals [] ds ∧ Binds K t.d_Yard_lay ["self", "kind", "note", "rod"] ds := by
  obtain ⟨Td, od, n, sl, tk0, e1, e2⟩ := T.D_Yard_lay
  obtain ⟨oc, od2, kV, doc, pm, an, cdv, ct, osl, e3, lk, hcd⟩ := T.F_Yard_lay.ex
  refine ⟨[], .nil, fun s us X hl => ?_⟩
  have hl2 : us.length = 4 := by simpa using hl
  rw [e3, e1]
  match us, hl2 with
  | [_, _, _, _], _ => exact PySem.W.binds_K X rfl e2 rfl rfl rfl
theorem bD_Yard_lay_3 (T : Txt K mg t) : ∃ ds : List Value, Vals [.non] ds ∧ Binds K t.d_Yard_lay ["self", "kind", "note", "rod"] ds := by
  obtain ⟨Td, od, n, sl, tk0, e1, e2⟩ := T.D_Yard_lay
  obtain ⟨oc, od2, kV, doc, pm, an, cdv, ct, osl, e3, lk, hcd⟩ := T.F_Yard_lay.ex
  refine ⟨[.none], .cons rfl (.nil), fun s us X hl => ?_⟩
  have hl2 : us.length = 3 := by simpa using hl
  rw [e3, e1]
  match us, hl2 with
  | [_, _, _], _ => exact PySem.W.binds_K X rfl e2 rfl rfl rfl
theorem bD_Yard_lay_2 (T : Txt K mg t) : ∃ ds : List Value, Vals [.int 0, .non] ds ∧ Binds K t.d_Yard_lay ["self", "kind", "note", "rod"] ds := by
  obtain ⟨Td, od, n, sl, tk0, e1, e2⟩ := T.D_Yard_lay
  obtain ⟨oc, od2, kV, doc, pm, an, cdv, ct, osl, e3, lk, hcd⟩ := T.F_Yard_lay.ex
  refine ⟨[.int 0 tk0, .none], .cons ⟨_, rfl⟩ (.cons rfl (.nil)), fun s us X hl => ?_⟩
  have hl2 : us.length = 2 := by simpa using hl
  rw [e3, e1]
  match us, hl2 with
  | [_, _], _ => exact PySem.W.binds_K X rfl e2 rfl rfl rfl
theorem bD_Yard_new_rod_1 (T : Txt K mg t) : ∃ ds : List Value, Vals [.int 1] ds ∧ Binds K t.d_Yard_new_rod ["self", "side"] ds := by
  obtain ⟨Td, od, n, sl, tk0, e1, e2⟩ := T.D_Yard_new_rod
  obtain ⟨oc, od2, kV, doc, pm, an, cdv, ct, osl, e3, lk, hcd⟩ := T.F_Yard_new_rod.ex
  refine ⟨[.int 1 tk0], .cons ⟨_, rfl⟩ (.nil), fun s us X hl => ?_⟩
  have hl2 : us.length = 1 := by simpa using hl
  rw [e3, e1]
  match us, hl2 with
  | [_], _ => exact PySem.W.binds_K X rfl e2 rfl rfl rfl
end
def Dr (ds : List Int) : Prop := ∀ d ∈ ds, 0 ≤ d ∧ d < 10 ^ 18
def sp_draws (K : PySem.W.Frag) : Sp := fun vs H Q _ => ∃ (a : Addr) (ns : List Int) (n : Int) (L : Kn), vs = [.ref a, .int n] ∧ SqL K H a (ns.map V.int) ∧ ns.length ≤ 63 ∧ 0 ≤ n ∧ n ≤ 1000 ∧ Has H L ∧
  ∀ H' p ds, Has H' ((p, .lst (ds.map V.int)) :: L) → ds.length = n.toNat → Dr ds → Q (.ref p) H'
section
variable {P : Program} {w : World} {K : PySem.W.Frag} {mg : Str → Option Value} {base : Heap} {t : Adr}
theorem scD : FnScope ["_law_script", "_law_many_here", "_law_row", "_law_base", "_law_cell", "_law_left", "_law_turn"] ["_law_script", "_law_many_here"] (defScope s_draws) := ⟨rfl, rfl, rfl, by decide +kernel, rfl, by decide +kernel, by decide +kernel⟩
theorem Dr.snoc {ds : List Int} {d : Int} (h : Dr ds) (h0 : 0 ≤ d) (h1 : d < 10 ^ 18) : Dr (ds ++ [d]) := fun x hx => by
  rcases List.mem_append.mp hx with hx | hx
  · exact h x hx
  · have : x = d := by simpa using hx
    subst this; exact ⟨h0, h1⟩
theorem map_snoc (ds : List Int) (d : Int) : ds.map V.int ++ [V.int d] = (ds ++ [d]).map V.int := by simp
theorem ok_draws (T : Txt K mg t) : FnOk P w K mg base CX0 1 t.f_draws t.d_draws ["_law_script", "_law_many_here"] (sp_draws K) := by
  refine T.F_draws.ok scD (fun vs H Q E h => ?_) (fun cdv A outer s H vs Q E hr h => ?_)
  · obtain ⟨_, _, _, _, rfl, _⟩ := h
    rfl
  · obtain ⟨a, ns, n, L, rfl, hS, hns, hn0, hn1, hL, k⟩ := h
    refine ⟨_, (pss_cons (ps_set (i := 2) scD.nd rfl (Or.inl rfl) (pe_lst pa_nil))
      (pss_cons (ps_set (i := 3) scD.nd rfl (Or.inl rfl) pe_int)
      (pss_cons (ps_for PassesOwn.never rfl (pi_list (pe_slice sl_list (pv 0) po_none (po_some pe_int))) (pg_name (i := 4) scD.nd rfl (Or.inl rfl))
        (pss_cons (ps_set (i := 5) scD.nd rfl (Or.inl rfl) (pe_callB call_abs (by rfl) T.z_abs (by rfl) (pa_cons (pv 4) pa_nil)))
          (pss_cons (ps_set (i := 3) scD.nd rfl (Or.inl rfl) (pe_op op_mod (pe_op op_add (pe_op op_add (pe_op op_mul (pv 3) pe_int) (pv 5)) (pe_op op_mul pe_int (pe_callTy call_int1 (by rfl) T.z_int (by rfl) (pa_cons (pe_cmpR op_lt (pv 4) pe_int (nomark _)) pa_nil)))) pe_int))
          (pss_one (ps_if (pt_cmpR op_lt (pv 5) (pe_op op_pow pe_int pe_int) (nomark _))
            (pss_one (ps_expr (pe_bm PySem.F.plainAttrs_list PySem.F.slot_list_append PySem.F.type_list_append mt_append (pv 2) (pa_cons (pv 5) pa_nil))))
            (pss_one (ps_for PassesOwn.never rfl (pi_range1 (by rfl) T.z_range (pa_cons pe_int pa_nil)) (pg_name (i := 6) scD.nd rfl (Or.inl rfl))
                (pss_one (ps_if (pt_cmpR op_gt (pv 5) pe_int (nomark _))
                    (pss_cons (ps_expr (pe_bm PySem.F.plainAttrs_list PySem.F.slot_list_append PySem.F.type_list_append mt_append (pv 2) (pa_cons (pe_op op_mod (pv 5) pe_int) pa_nil)))
                      (pss_one (ps_set (i := 5) scD.nd rfl (Or.inl rfl) (pe_op op_fdiv (pv 5) pe_int))))
                    pss_nil)))))))))
      (pss_cons (ps_while PassesOwn.never (pt_cmpR op_lt (pe_callB call_len_seq (by rfl) T.z_len (by rfl) (pa_cons (pv 2) pa_nil)) (pv 1) (nomark _))
        (pss_cons (ps_set (i := 3) scD.nd rfl (Or.inl rfl) (pe_op op_mod (pe_op op_add (pe_op op_mul (pv 3) pe_int) pe_int) pe_int))
          (pss_one (ps_expr (pe_bm PySem.F.plainAttrs_list PySem.F.slot_list_append PySem.F.type_list_append mt_append (pv 2) (pa_cons (pe_op op_mod (pe_op op_fdiv (pe_op op_mul (pv 3) (pv 3)) pe_int) pe_int) pa_nil))))))
      (pss_one (ps_ret (pe_slice sl_list (pv 2) po_none (po_some (pv 1))))))))), ?_⟩
    refine ⟨by decide, fun r hr0 => ?_⟩
    have h1 := hL.alloc hr0 (.lst [])
    have hS1 : SqL K (upd H r (.lst [])) a (ns.map V.int) := hS.alloc hr0
    generalize upd H r (.lst []) = H1 at *
    refine ⟨_, rfl, _, rfl, a, _, rfl, hS1, fun sl hsl => ?_⟩
    have h2 := h1.alloc hsl (.lst (cutV (ns.map V.int) none (some 63)))
    generalize upd H1 sl (.lst (cutV (ns.map V.int) none (some 63))) = H2 at *
    refine ⟨sl, rfl, ⟨_, SqL.of (h2.get 0 rfl)⟩, ?_⟩
    refine for_list (K := K) (a := sl) (xs := cutV (ns.map V.int) none (some 63)) (fun i σ H' => ∃ (row : List Int) (b : Int) (c l t : Option V), σ = [some (.ref a), some (.int n), some (.ref r), some (.int b), c, l, t] ∧
      Has H' ((r, .lst (row.map V.int)) :: (sl, .lst (cutV (ns.map V.int) none (some 63))) :: L) ∧ row.length ≤ 60 * i ∧ Dr row ∧ 0 ≤ b ∧ b < 2147483647)
      ⟨[], 7, none, none, none, rfl, h2.swap2, Nat.zero_le _, (fun _ h => nomatch h), by decide, by decide⟩ (fun i σ H' _ ⟨row, b, c, l, t, _, h, _⟩ => SqL.of (h.get 1 rfl)) ?_ ?_
    · rintro i y σ H' hi ⟨row, b, c, l, t, rfl, h3, hlen, hd, b0, b1⟩
      have hi63 : i < 63 := by
        have h5 := (List.getElem?_eq_some_iff.mp hi).1
        rw [cut_take _ _ (by decide), List.length_take, List.length_map] at h5
        omega
      obtain ⟨z, rfl⟩ : ∃ z, y = V.int z := by
        rw [cut_take _ _ (by decide), List.getElem?_take_of_lt (by omega), List.getElem?_map] at hi
        cases e : ns[i]? with
        | none => rw [e] at hi; cases hi
        | some z => rw [e] at hi; exact ⟨z, (Option.some.inj hi).symm⟩
      refine ⟨_, rfl, _, rfl, ?_⟩
      have hab : 0 ≤ (if z < 0 then -z else z) := by split <;> omega
      generalize (if z < 0 then -z else z) = left at *
      refine ⟨_, rfl, _, _, rfl, rfl, .inl ⟨by omega, by omega⟩, _, rfl, _, _, rfl, rfl, _, rfl, _, _, rfl, rfl, .inr ⟨_, rfl, _, _, rfl, rfl, .inl ⟨by decide, by decide⟩, _, _, rfl, rfl, _, _, rfl, rfl, (show (0 : Int) < 2147483647 by decide), ?_⟩⟩
      have hb0 := Int.emod_nonneg (b * 48271 + left + 2 * (if decide (z < 0) = true then 1 else 0)) (show (2147483647 : Int) ≠ 0 by decide)
      have hb1 := Int.emod_lt_of_pos (b * 48271 + left + 2 * (if decide (z < 0) = true then 1 else 0)) (show (0 : Int) < 2147483647 by decide)
      refine ⟨_, rfl, _, _, rfl, rfl, ⟨by decide, by decide, by decide⟩, _, _, rfl, rfl, _, rfl, ?_⟩
      refine ite2 (fun hc => ?_) (fun hc => ?_)
      · have hc' : left < 10 ^ 18 := of_decide_eq_true hc
        refine ⟨_, rfl, .inl ⟨rfl, _, SqL.of (h3.get 0 rfl)⟩, _, rfl, r, _, _, rfl, rfl, h3.get 0 rfl, ?_, ?_⟩
        · rw [List.length_map]
          exact sizeOk (by omega)
        · refine ⟨row ++ [left], _, _, _, _, rfl, ?_, ?_, hd.snoc hab hc', hb0, hb1⟩
          · rw [← map_snoc]
            exact h3.puti 0 rfl _
          · rw [List.length_append, List.length_singleton]; omega
      · -- for turn in range(60)
        refine ⟨_, rfl, by decide, by decide, for_range (n := 60) (fun j σ H2 => ∃ (row2 : List Int) (l2 : Int) (t2 : Option V) (b2 : Int), 0 ≤ b2 ∧ b2 < 2147483647 ∧ σ = [some (.ref a), some (.int n), some (.ref r), some (.int b2), some (.int z), some (.int l2), t2] ∧
          Has H2 ((r, .lst (row2.map V.int)) :: (sl, .lst (cutV (ns.map V.int) none (some 63))) :: L) ∧ row2.length ≤ row.length + j ∧ Dr row2 ∧ 0 ≤ l2) ⟨row, _, _, _, hb0, hb1, rfl, h3, Nat.le_add_right _ _, hd, hab⟩ ?_ ?_⟩
        · rintro j σ H2 hj ⟨row2, l2, t2, b2, hb20, hb21, rfl, h4, hlen2, hd2, hl2⟩
          refine ⟨_, rfl, _, _, rfl, rfl, _, rfl, ?_⟩
          refine ite2 (fun hc2 => ?_) (fun hc2 => ?_)
          · refine ⟨_, rfl, .inl ⟨rfl, _, SqL.of (h4.get 0 rfl)⟩, _, rfl, _, _, rfl, rfl, (show (0 : Int) < 10007 by decide), r, _, _, rfl, rfl, h4.get 0 rfl, ?_, ?_⟩
            · rw [List.length_map]
              exact sizeOk (by omega)
            · refine ⟨_, rfl, _, _, rfl, rfl, ⟨by decide, by decide⟩, ?_⟩
              refine ⟨row2 ++ [l2 % 10007], _, _, _, hb20, hb21, rfl, ?_, ?_, hd2.snoc (Int.emod_nonneg _ (by decide)) (Int.lt_trans (Int.emod_lt_of_pos _ (by decide)) (by decide)), Int.ediv_nonneg hl2 (by decide)⟩
              · rw [← map_snoc]
                exact h4.puti 0 rfl _
              · rw [List.length_append, List.length_singleton]; omega
          · exact ⟨row2, l2, _, b2, hb20, hb21, rfl, h4, by omega, hd2, hl2⟩
        · rintro σ H2 ⟨row2, l2, t2, b2, hb20, hb21, rfl, h4, hlen2, hd2, hl2⟩
          exact ⟨row2, b2, _, _, _, rfl, h4, by omega, hd2, hb20, hb21⟩
    · rintro σ H' ⟨row, b, c, l, t, rfl, h3, hlen, hd, b0, b1⟩
      have hlx : (cutV (ns.map V.int) none (some 63)).length ≤ 63 := by
        rw [cut_take _ _ (by decide), List.length_take]; omega
      refine while_by (fun σ H' => ∃ (row : List Int) (b : Int) (c l t : Option V), σ = [some (.ref a), some (.int n), some (.ref r), some (.int b), c, l, t] ∧ Has H' ((r, .lst (row.map V.int)) :: L) ∧ row.length ≤ 4000 ∧ Dr row ∧ 0 ≤ b ∧ b < 2147483647)
        (fun σ H' => match H' r with | some (.lst xs) => n.toNat - xs.length | _ => 0) ⟨row, b, c, l, t, rfl, h3.swap2.tail, by omega, hd, b0, b1⟩ ?_ ?_
      · rintro σ H' ⟨row, b, c, l, t, rfl, h4, hlen, hd, b0, b1⟩
        refine ⟨_, rfl, r, _, rfl, .inl (SqL.of (h4.get 0 rfl)), _, rfl, _, _, rfl, rfl, _, rfl, ?_⟩
        rw [List.length_map]
        refine ite2 (fun hc => ?_) (fun hc => ?_)
        · have hc' : (row.length : Int) < n := of_decide_eq_true hc
          refine ⟨_, rfl, _, _, rfl, rfl, .inl ⟨by omega, by omega⟩, _, _, rfl, rfl, _, _, rfl, rfl, (show (0 : Int) < 2147483647 by decide), ?_⟩
          have hb0 := Int.emod_nonneg (b * 69621 + 12289) (show (2147483647 : Int) ≠ 0 by decide)
          have hb1 := Int.emod_lt_of_pos (b * 69621 + 12289) (show (0 : Int) < 2147483647 by decide)
          refine ⟨_, rfl, .inl ⟨rfl, _, SqL.of (h4.get 0 rfl)⟩, _, rfl, _, rfl, _, _, rfl, rfl, .inl ⟨?_, ?_⟩, _, _, rfl, rfl, ⟨by decide, by decide⟩, _, _, rfl, rfl, (show (0 : Int) < 10007 by decide), r, _, _, rfl, rfl, h4.get 0 rfl, ?_, ?_⟩
          · show -(2 ^ 64) < (b * 69621 + 12289) % 2147483647
            omega
          · show (b * 69621 + 12289) % 2147483647 < 2 ^ 64
            omega
          · rw [List.length_map]
            exact sizeOk (by omega)
          · have hq0 := Int.emod_nonneg ((b * 69621 + 12289) % 2147483647 * ((b * 69621 + 12289) % 2147483647) / 4099) (show (10007 : Int) ≠ 0 by decide)
            have hq1 := Int.emod_lt_of_pos ((b * 69621 + 12289) % 2147483647 * ((b * 69621 + 12289) % 2147483647) / 4099) (show (0 : Int) < 10007 by decide)
            refine ⟨⟨row ++ [(b * 69621 + 12289) % 2147483647 * ((b * 69621 + 12289) % 2147483647) / 4099 % 10007], _, _, _, _, rfl, ?_, ?_, hd.snoc hq0 (Int.lt_trans hq1 (by decide)), hb0, hb1⟩, ?_⟩
            · rw [← map_snoc]
              exact h4.puti 0 rfl _
            · rw [List.length_append, List.length_singleton]; omega
            · have e1 : H' r = some (.lst (row.map V.int)) := h4.get 0 rfl
              simp only [e1, upd_same, List.length_append, List.length_map, List.length_singleton]
              omega
        · have hc' : ¬ (row.length : Int) < n := fun z => hc (decide_eq_true z)
          refine ⟨_, rfl, _, rfl, _, rfl, r, _, rfl, SqL.of (h4.get 0 rfl), fun p hp => ?_⟩
          refine k _ p (row.take n.toNat) ?_ (by rw [List.length_take]; omega) (fun d hd' => hd d (List.mem_of_mem_take hd'))
          have h5 := (h4.tail).alloc hp (.lst (cutV (row.map V.int) none (some n)))
          rw [cut_take _ _ hn0, ← List.map_take] at h5 ⊢
          exact h5
      · rintro σ H' Q1 Q2 hQ ⟨v, e, p, ys, e2, h, w', e3, i, j, e4, e5, c, e6, q⟩
        exact ⟨v, e, p, ys, e2, h, w', e3, i, j, e4, e5, c, e6, hQ _ _ q⟩
end

def sp_whole : Sp := fun vs H Q _ => ∃ i : Int, vs = [.int i] ∧ Q (.bl true) H
def sp_is : Sp := fun vs H Q _ => ∃ i j : Int, vs = [.int i, .int j] ∧ Q (.bl (decide (i = j))) H
theorem kit_ii (K : PySem.W.Frag) : PySem.W.kitOne K (.type "int") (.type "int") = some true := by kernel_rfl
theorem kit_ib (K : PySem.W.Frag) : PySem.W.kitOne K (.type "int") (.type "bool") = some false := by kernel_rfl
theorem kit_ll (K : PySem.W.Frag) : PySem.W.kitOne K (.type "list") (.type "list") = some true := by kernel_rfl
section
variable {P : Program} {w : World} {K : PySem.W.Frag} {mg : Str → Option Value} {base : Heap} {t : Adr}
theorem scWh : FnScope ["_law_found"] ["_law_found"] (defScope s_whole) := ⟨rfl, rfl, rfl, by decide +kernel, rfl, by decide +kernel, by decide +kernel⟩
theorem ok_whole (T : Txt K mg t) : FnOk P w K mg base CX0 1 t.f_whole t.d_whole ["_law_found"] sp_whole := by
  refine T.F_whole.ok scWh (fun vs H Q E h => ?_) (fun cdv A outer s H vs Q E hr h => ?_)
  · obtain ⟨_, rfl, _⟩ := h
    rfl
  · obtain ⟨i, rfl, k⟩ := h
    refine ⟨_, (pss_one (ps_ret (pe_and (pe_callB call_isi (by rfl) T.z_isinstance (by rfl) (pa_cons (pv 0) (pa_cons (pe_bltn (v := .ty "int") (by rfl) T.z_int (by rfl) rfl) pa_nil))) (pe_one (pe_not (pe_callB call_isi (by rfl) T.z_isinstance (by rfl) (pa_cons (pv 0) (pa_cons (pe_bltn (v := .ty "bool") (by rfl) T.z_bool (by rfl) rfl) pa_nil)))))))), ?_⟩
    refine ⟨_, rfl, _, _, _, _, rfl, .int i, kit_ii K, _, rfl, iteT ?_⟩
    exact ⟨_, rfl, _, _, _, _, rfl, .int i, kit_ib K, _, rfl, k⟩
theorem scIs : FnScope ["_law_found", "_law_due"] ["_law_found", "_law_due"] (defScope s_is) := ⟨rfl, rfl, rfl, by decide +kernel, rfl, by decide +kernel, by decide +kernel⟩
theorem ok_is (T : Txt K mg t) : FnOk P w K mg base CX0 2 t.f_is t.d_is ["_law_found", "_law_due"] sp_is := by
  refine T.F_is.ok scIs (fun vs H Q E h => ?_) (fun cdv A outer s H vs Q E hr h => ?_)
  · obtain ⟨_, _, rfl, _⟩ := h
    rfl
  · obtain ⟨i, j, rfl, k⟩ := h
    refine ⟨_, (pss_one (ps_ret (pe_and (pe_call (ok_whole T) (hr.mono (by decide)) (by rfl) T.m_whole T.F_whole.kp (b_whole T) .nil pass0 (pa_cons (pv 0) pa_nil)) (pe_one (pe_cmpR op_eq (pv 0) (pv 1) (nomark _)))))), ?_⟩
    refine ⟨_, rfl, i, rfl, _, rfl, iteT ?_⟩
    refine ⟨_, rfl, _, rfl, rfl, ?_⟩
    have e : decide (V.int i = V.int j) = decide (i = j) := by by_cases h : i = j <;> simp [h]
    rw [e]
    exact k
end

inductive Kd where | line | bell | still | lazy | turning | stop
  deriving DecidableEq
def Kd.str : Kd → Str
  | .line => "line" | .bell => "bell" | .still => "still" | .lazy => "lazy" | .turning => "turning" | .stop => "stop"
def Kd.many : Kd → Int
  | .line => 2 | .bell => 2 | .still => 3 | .lazy => 3 | .turning => 3 | .stop => 1
def Kd.point : Kd → Bool
  | .still => true | .lazy => true | .turning => true | _ => false
def endsD : List (Str × PyData) := [("line", .int 2), ("bell", .int 2), ("stop", .int 1), ("still", .int 3), ("lazy", .int 3), ("turning", .int 3)]
theorem Kd.inEnds (k : Kd) : (endsD.any fun p => decide (k.str = p.1)) = true := by cases k <;> decide +kernel
theorem Kd.atEnds (k : Kd) : endsD.lookup k.str = some (.int k.many) := by cases k <;> rfl
theorem endsD_int : (endsD.all fun p => match p.2 with | .int _ => true | _ => false) = true := by decide +kernel
theorem Kd.inPoints (k : Kd) : inV (.str k.str) [.str "still", .str "lazy", .str "turning"] = k.point := by cases k <;> decide +kernel
theorem Kd.isStop (k : Kd) : decide (V.str k.str = V.str "stop") = decide (k = .stop) := by cases k <;> decide +kernel
theorem Kd.isBell (k : Kd) : decide (V.str k.str = V.str "bell") = decide (k = .bell) := by cases k <;> decide +kernel
theorem Kd.isLine (k : Kd) : decide (V.str k.str = V.str "line") = decide (k = .line) := by cases k <;> decide +kernel
def Kd.out (k : Kd) (e s : Int) : V := if k = .stop then .non else if k.point then (if e = 0 then .int s else .int 0) else .int (1 - e)
def Kd.side (k : Kd) (e s : Int) : Int := if k.point then (if e = 0 then (if k = .turning then 3 - s else s) else (if k = .lazy then e else s)) else s
def sp_ends_of : Sp := fun vs H Q _ => ∃ k : Kd, vs = [.str k.str] ∧ Q (.int k.many) H
def sp_is_point : Sp := fun vs H Q _ => ∃ k : Kd, vs = [.str k.str] ∧ Q (.bl k.point) H
def sp_check_end : Sp := fun vs H Q _ => ∃ (k : Kd) (e : Int), vs = [.str k.str, .int e] ∧ 0 ≤ e ∧ e < k.many ∧ Q .non H
def sp_check_side : Sp := fun vs H Q _ => ∃ s : Int, vs = [.int s] ∧ (s = 1 ∨ s = 2) ∧ Q .non H
section
variable {P : Program} {w : World} {K : PySem.W.Frag} {mg : Str → Option Value} {base : Heap} {t : Adr}
theorem decInt (i j : Int) : decide (V.int i = V.int j) = decide (i = j) := by by_cases h : i = j <;> simp [h]
theorem scEo : FnScope ["kind"] ["kind"] (defScope s_ends_of) := ⟨rfl, rfl, rfl, by decide +kernel, rfl, by decide +kernel, by decide +kernel⟩
theorem ok_ends_of (T : Txt K mg t) : FnOk P w K mg base CX0 1 t.f_ends_of t.d_ends_of ["kind"] sp_ends_of := by
  refine T.F_ends_of.ok scEo (fun vs H Q E h => ?_) (fun cdv A outer s H vs Q E hr h => ?_)
  · obtain ⟨_, rfl, _⟩ := h
    rfl
  · obtain ⟨k, rfl, q⟩ := h
    obtain ⟨aE, eE, hE⟩ := T.x_ENDS
    have T_r_ENDS : RelV (.ref aE) t.u_ENDS := by rw [eE]; rfl
    refine ⟨_, (pss_cons (ps_if (pt_cmpR op_notInK (pv 0) (pe_glob (by rfl) T.g_ENDS T_r_ENDS) (by rfl))
        (pss_one ps_never)
        pss_nil)
      (pss_one (ps_ret (pe_ix ix_K (pe_glob (by rfl) T.g_ENDS T_r_ENDS) (pv 0) (fun _ _ => rfl))))), ?_⟩
    refine ⟨_, rfl, _, aE, endsD, rfl, rfl, hE, _, rfl, ?_⟩
    rw [k.inEnds]
    exact ⟨_, rfl, _, aE, endsD, _, rfl, rfl, hE, k.atEnds, endsD_int, q⟩
theorem scIp : FnScope ["kind"] ["kind"] (defScope s_is_point) := ⟨rfl, rfl, rfl, by decide +kernel, rfl, by decide +kernel, by decide +kernel⟩
theorem ok_is_point (T : Txt K mg t) : FnOk P w K mg base CX0 1 t.f_is_point t.d_is_point ["kind"] sp_is_point := by
  refine T.F_is_point.ok scIp (fun vs H Q E h => ?_) (fun cdv A outer s H vs Q E hr h => ?_)
  · obtain ⟨_, rfl, _⟩ := h
    rfl
  · obtain ⟨k, rfl, q⟩ := h
    obtain ⟨aE, eE, hE⟩ := T.x_ENDS
    have T_r_ENDS : RelV (.ref aE) t.u_ENDS := by rw [eE]; rfl
    obtain ⟨aP, oP, its, n, eP, h1, h2, h3, h4, h5⟩ := T.x_POINTS
    have T_r_POINTS : RelV (.ref aP) t.u_POINTS := by rw [eP]; rfl
    refine ⟨_, (pss_cons (ps_if (pt_cmpR op_notInK (pv 0) (pe_glob (by rfl) T.g_ENDS T_r_ENDS) (by rfl))
        (pss_one ps_never)
        pss_nil)
      (pss_one (ps_ret (pe_cmpR op_in_seq (pv 0) (pe_glob (by rfl) T.g_POINTS T_r_POINTS) (by rfl))))), ?_⟩
    refine ⟨_, rfl, _, aE, endsD, rfl, rfl, hE, _, rfl, ?_⟩
    rw [k.inEnds]
    refine ⟨_, rfl, aP, _, rfl, .inr (.inr ⟨oP, its, n, h1, h2, h3, h4, h5⟩), rfl, by decide, ?_⟩
    rw [if_neg Bool.false_ne_true, k.inPoints]
    exact q
theorem scCe : FnScope ["kind", "end", "many"] ["kind", "end"] (defScope s_check_end) := ⟨rfl, rfl, rfl, by decide +kernel, rfl, by decide +kernel, by decide +kernel⟩
theorem ok_check_end (T : Txt K mg t) : FnOk P w K mg base CX0 2 t.f_check_end t.d_check_end ["kind", "end"] sp_check_end := by
  refine T.F_check_end.ok scCe (fun vs H Q E h => ?_) (fun cdv A outer s H vs Q E hr h => ?_)
  · obtain ⟨_, _, rfl, _⟩ := h
    rfl
  · obtain ⟨k, e, rfl, e0, e1, q⟩ := h
    refine ⟨_, (pss_cons (ps_set (i := 2) scCe.nd rfl (Or.inl rfl) (pe_call (ok_ends_of T) (hr.mono (by decide)) (by rfl) T.m_ends_of T.F_ends_of.kp (b_ends_of T) .nil pass0 (pa_cons (pv 0) pa_nil)))
      (pss_one (ps_if (PW.pt (pw_or (pt_cmpR op_lt (pv 1) pe_int (nomark _)) (pw_or1 (pt_cmpR op_ge (pv 1) (pv 2) (nomark _)))))
        (pss_one ps_never)
        pss_nil))), ?_⟩
    refine ⟨_, rfl, k, rfl, ?_⟩
    refine ⟨_, rfl, _, _, rfl, rfl, _, rfl, ?_⟩
    refine ifF (decide_eq_false (by omega)) ?_
    refine ⟨_, rfl, _, rfl, _, _, rfl, rfl, _, rfl, ?_⟩
    exact ifF (decide_eq_false (by omega)) q
theorem scCs : FnScope ["side"] ["side"] (defScope s_check_side) := ⟨rfl, rfl, rfl, by decide +kernel, rfl, by decide +kernel, by decide +kernel⟩
theorem ok_check_side (T : Txt K mg t) : FnOk P w K mg base CX0 1 t.f_check_side t.d_check_side ["side"] sp_check_side := by
  refine T.F_check_side.ok scCs (fun vs H Q E h => ?_) (fun cdv A outer s H vs Q E hr h => ?_)
  · obtain ⟨_, rfl, _⟩ := h
    rfl
  · obtain ⟨z, rfl, hz, q⟩ := h
    refine ⟨_, (pss_one (ps_if (PW.pt (pw_and (pt_cmpR op_ne (pv 0) pe_int (nomark _)) (pw_and1 (pt_cmpR op_ne (pv 0) pe_int (nomark _)))))
        (pss_one ps_never)
        pss_nil)), ?_⟩
    refine ⟨_, rfl, rfl, _, rfl, ?_⟩
    rw [decInt]
    refine ifdn (fun hc => ?_) (fun hc => iteF q)
    refine ⟨_, rfl, rfl, _, rfl, ?_⟩
    rw [decInt]
    exact ifF (by simp; omega) q
end

def sp_many : Sp := fun vs H Q _ => ∃ k : Kd, vs = [.str k.str] ∧ Q (.int k.many) H
section
variable {P : Program} {w : World} {K : PySem.W.Frag} {mg : Str → Option Value} {base : Heap} {t : Adr}
theorem scMa : FnScope ["_law_kind_here"] ["_law_kind_here"] (defScope s_many) := ⟨rfl, rfl, rfl, by decide +kernel, rfl, by decide +kernel, by decide +kernel⟩
theorem ok_many (T : Txt K mg t) : FnOk P w K mg base CX0 1 t.f_many t.d_many ["_law_kind_here"] sp_many := by
  refine T.F_many.ok scMa (fun vs H Q E h => ?_) (fun cdv A outer s H vs Q E hr h => ?_)
  · obtain ⟨_, rfl, _⟩ := h
    rfl
  · obtain ⟨k, rfl, q⟩ := h
    refine ⟨_, (pss_cons (ps_if (pt_cmpR op_eq (pv 0) pe_str (nomark _))
        (pss_one (ps_ret pe_int))
        pss_nil)
      (pss_cons (ps_if (PW.pt (pw_or (pt_cmpR op_eq (pv 0) pe_str (nomark _)) (pw_or1 (pt_cmpR op_eq (pv 0) pe_str (nomark _)))))
        (pss_one (ps_ret pe_int))
        pss_nil)
      (pss_one (ps_ret pe_int)))), ?_⟩
    refine ⟨_, rfl, rfl, _, rfl, ?_⟩
    rw [k.isStop]
    refine ifd (fun h => ?_) (fun h1 => ?_)
    · subst h; exact q
    refine ⟨_, rfl, rfl, _, rfl, ?_⟩
    rw [k.isLine]
    refine ifd (fun h => ?_) (fun h2 => ?_)
    · subst h; exact iteT q
    refine ⟨_, rfl, rfl, _, rfl, ?_⟩
    rw [k.isBell]
    refine ifd (fun h => ?_) (fun h3 => ?_)
    · subst h; exact q
    have e : k.many = 3 := by cases k <;> first | rfl | contradiction
    rw [e] at q
    exact q
end

def sp_is_row : Sp := fun vs H Q _ => ∃ (a b : Addr) (xs ys : List Int) (i j : Nat) (L : Kn), vs = [.ref a, .ref b] ∧ Has H L ∧ L[i]? = some (a, .lst (xs.map V.int)) ∧ L[j]? = some (b, .lst (ys.map V.int)) ∧ xs.length ≤ 100000 ∧ ∀ H', Has H' L → Q (.bl (decide (xs = ys))) H'
theorem all_eq : ∀ {xs ys : List Int}, xs.length = ys.length → ((xs.zip ys).map fun p => decide (p.1 = p.2)).all id = decide (xs = ys)
  | [], [], _ => rfl
  | x :: xs, y :: ys, h => by
    have ih := all_eq (xs := xs) (ys := ys) (by simpa using h)
    rw [List.zip_cons_cons, List.map_cons, List.all_cons, ih]
    by_cases e : x = y
    · subst e; simp
    · simp [e]
section
variable {P : Program} {w : World} {K : PySem.W.Frag} {mg : Str → Option Value} {base : Heap} {t : Adr}
theorem scIr : FnScope ["_law_found", "_law_due"] ["_law_found", "_law_due"] (defScope s_is_row) := ⟨rfl, rfl, rfl, by decide +kernel, rfl, by decide +kernel, by decide +kernel⟩
theorem ok_is_row (T : Txt K mg t) : FnOk P w K mg base CX0 3 t.f_is_row t.d_is_row ["_law_found", "_law_due"] sp_is_row := by
  refine T.F_is_row.ok scIr (fun vs H Q E h => ?_) (fun cdv A outer s H vs Q E hr h => ?_)
  · obtain ⟨_, _, _, _, _, _, _, rfl, _⟩ := h
    rfl
  · obtain ⟨a, b, xs, ys, i, j, L, rfl, hH, hi, hj, hxl, q⟩ := h
    refine ⟨_, (pss_cons (ps_if (PW.pt (pw_or (pt_not (pt_val (pe_callB call_isi (by rfl) T.z_isinstance (by rfl) (pa_cons (pv 0) (pa_cons (pe_bltn (v := .ty "list") (by rfl) T.z_list (by rfl) rfl) pa_nil))))) (pw_or1 (pt_cmpR op_ne (pe_callB call_len_seq (by rfl) T.z_len (by rfl) (pa_cons (pv 0) pa_nil)) (pe_callB call_len_seq (by rfl) T.z_len (by rfl) (pa_cons (pv 1) pa_nil)) (nomark _)))))
        (pss_one (ps_ret pe_bl))
        pss_nil)
      (pss_one (ps_ret (pe_callB (call_all rfl) (by rfl) T.z_all (by rfl) (pa_cons (pe_lc (esc := defScope s_is_row) (k := 2) ["_law_one", "_law_other", "_law_found", "_law_due"] rfl (pi_zip (by rfl) T.z_zip (pa_cons (pv 0) (pa_cons (pv 1) pa_nil))) (fun _ _ _ _ _ => by exact (pg_tupK (K := K) (n := 2) rfl rfl (pgs_cons (pg_name (i := 0) (show List.Nodup (["_law_one", "_law_other", "_law_found", "_law_due"] : List Str) from by decide +kernel) rfl (Or.inl rfl)) (pgs_cons (pg_name (i := 1) (show List.Nodup (["_law_one", "_law_other", "_law_found", "_law_due"] : List Str) from by decide +kernel) rfl (Or.inl rfl)) pgs_nil)))) (fun _ _ _ _ _ => by exact pts_nil) (fun _ _ _ _ _ => by exact (pe_call (ok_is T) (hr.mono (by decide)) (by rfl) T.m_is T.F_is.kp (b_is T) .nil pass0 (pa_cons (pv 0) (pa_cons (pv 1) pa_nil)))) rfl (by decide +kernel) (by decide +kernel) rfl (by decide +kernel) (by rfl) (fun _ _ h _ => h) (by decide +kernel)) pa_nil))))), ?_⟩
    refine ⟨_, rfl, _, _, _, _, rfl, .lst (hH.get i hi), kit_ll K, _, rfl, iteF ?_⟩
    refine ⟨_, rfl, a, _, rfl, .inl (SqL.of (hH.get i hi)), _, rfl, b, _, rfl, .inl (SqL.of (hH.get j hj)), rfl, _, rfl, ?_⟩
    rw [List.length_map, List.length_map, decInt]
    refine ifdn (fun hc => ?_) (fun hc => ?_)
    · have e : decide (xs = ys) = false := decide_eq_false (fun z => hc (by rw [z]))
      rw [e] at q
      exact q _ hH
    · have hl : xs.length = ys.length := by omega
      refine ⟨_, rfl, _, rfl, a, b, rfl, ⟨_, SqL.of (hH.get i hi)⟩, ⟨_, SqL.of (hH.get j hj)⟩, fun D hD => ?_⟩
      refine ⟨fun n m zs H' => m = xs.length - n ∧ n ≤ xs.length ∧ zs = ((xs.zip ys).take n).map (fun p => V.bl (decide (p.1 = p.2))) ∧ Has H' ((D, .lst zs) :: L), ⟨xs.length, by simp, Nat.zero_le _, rfl, hH.alloc hD _⟩, ?_⟩
      rintro n m zs H' ⟨rfl, hn, rfl, h1⟩
      refine ⟨h1.get 0 rfl, ?_⟩
      have ga := h1.get (i + 1) (by simpa using hi)
      have gb := h1.get (j + 1) (by simpa using hj)
      by_cases hlt : n < xs.length
      · refine .inr ⟨⟨_, _, _, _, SqL.of ga, (by rw [List.getElem?_map, List.getElem?_eq_getElem hlt]; rfl), SqL.of gb, (by rw [List.getElem?_map, List.getElem?_eq_getElem (by omega)]; rfl)⟩, ?_⟩
        rintro x H2 ⟨p, x1, y1, rfl, hp, rfl, hx1, hy1⟩
        have hx2 := hx1 _ (SqL.of ga)
        have hy2 := hy1 _ (SqL.of gb)
        rw [List.getElem?_map, List.getElem?_eq_getElem hlt] at hx2
        rw [List.getElem?_map, List.getElem?_eq_getElem (by omega)] at hy2
        cases hx2
        cases hy2
        have h2 := h1.alloc hp (.tup [.int xs[n], .int (ys[n]'(by omega))])
        refine ⟨p, _, rfl, SqT.of (h2.get 0 rfl), rfl, _, _, rfl, _, _, rfl, rfl, rfl, ?_⟩
        refine tTrueT ?_
        refine ⟨_, rfl, _, rfl, _, _, rfl, ?_⟩
        refine ⟨?_, h2.get 1 rfl, xs.length - (n + 1), by omega, rfl, hlt, ?_, ?_⟩
        · rw [List.length_map, List.length_take]
          exact sizeOk (by omega)
        · rw [List.take_succ, List.map_append, List.getElem?_eq_getElem (by rw [List.length_zip]; omega), List.getElem_zip]
          rfl
        · exact (h2.puti 1 rfl _).tail
      · have en : n = xs.length := by omega
        refine .inl ⟨⟨_, _, SqL.of ga, SqL.of gb, .inl (by rw [List.length_map]; omega)⟩, ?_⟩
        refine ⟨D, ((xs.zip ys).map fun p => decide (p.1 = p.2)), rfl, ?_, ?_⟩
        · have e : ((xs.zip ys).take n).map (fun p => V.bl (decide (p.1 = p.2))) = ((xs.zip ys).map fun p => decide (p.1 = p.2)).map V.bl := by
            rw [List.take_of_length_le (by rw [List.length_zip]; omega), List.map_map]; rfl
          rw [← e]
          exact SqL.of (h1.get 0 rfl)
        · rw [all_eq hl]
          exact q _ h1.tail
end

structure YA where
  p : Addr
  dx : Addr
  tr : Addr
  k : Addr
  n : Addr
  r : Addr
  s : Addr
  m : Addr
  g : Addr
structure YR where
  next : Int
  kinds : List (Key × V)
  notes : List (Key × V)
  rods : List (Key × V)
  sides : List V
  mates : List (List Key × V)
  eng : V
  rung : List V
  trail : List V
def fl (A : YA) (next : Int) (eng : V) : List (Str × V) :=
  [("next_piece", .int next), ("kinds", .ref A.k), ("notes", .ref A.n), ("rods_under", .ref A.r), ("sides", .ref A.s), ("mates", .ref A.m), ("engine_end", eng), ("rung", .ref A.g), ("trail", .ref A.tr)]
def yL (C : Addr) (A : YA) (y : YR) : Kn :=
  [(A.tr, .lst y.trail), (A.p, .ins C A.dx (fl A y.next y.eng)), (A.dx, .own A.p), (A.k, .dK y.kinds), (A.n, .dK y.notes), (A.r, .dK y.rods), (A.s, .lst y.sides), (A.m, .dT y.mates), (A.g, .lst y.rung)]
def y0 : YR := ⟨0, [], [], [], [], [], .non, [], []⟩
section
variable (A : YA) (next : Int) (eng : V)
theorem fl_next : (fl A next eng).lookup ("next_piece" : Str) = some (.int next) := by kernel_rfl
theorem fl_kinds : (fl A next eng).lookup ("kinds" : Str) = some (.ref A.k) := by kernel_rfl
theorem fl_notes : (fl A next eng).lookup ("notes" : Str) = some (.ref A.n) := by kernel_rfl
theorem fl_rods : (fl A next eng).lookup ("rods_under" : Str) = some (.ref A.r) := by kernel_rfl
theorem fl_sides : (fl A next eng).lookup ("sides" : Str) = some (.ref A.s) := by kernel_rfl
theorem fl_mates : (fl A next eng).lookup ("mates" : Str) = some (.ref A.m) := by kernel_rfl
theorem fl_eng : (fl A next eng).lookup ("engine_end" : Str) = some eng := by kernel_rfl
theorem fl_rung : (fl A next eng).lookup ("rung" : Str) = some (.ref A.g) := by kernel_rfl
theorem fl_put_trail (q : Addr) : putF "trail" (.ref q) (fl A next eng) = fl { A with tr := q } next eng := by kernel_rfl
theorem fl_put_next (n' : Int) : putF "next_piece" (.int n') (fl A next eng) = fl A n' eng := by kernel_rfl
theorem fl_put_eng (e' : V) : putF "engine_end" e' (fl A next eng) = fl A next e' := by kernel_rfl
end
theorem fl_m (A : YA) (next : Int) (eng : V) : (fl A next eng).lookup ("lay" : Str) = none ∧ (fl A next eng).lookup ("new_rod" : Str) = none ∧ (fl A next eng).lookup ("throw" : Str) = none ∧ (fl A next eng).lookup ("rods" : Str) = none ∧ (fl A next eng).lookup ("rod" : Str) = none ∧
    (fl A next eng).lookup ("side" : Str) = none ∧ (fl A next eng).lookup ("end_trail" : Str) = none ∧ (fl A next eng).lookup ("check_piece" : Str) = none ∧ (fl A next eng).lookup ("check_rod" : Str) = none :=
  ⟨by kernel_rfl, by kernel_rfl, by kernel_rfl, by kernel_rfl, by kernel_rfl, by kernel_rfl, by kernel_rfl, by kernel_rfl, by kernel_rfl⟩
def sp_init (C : Addr) : Sp := fun vs H Q _ => ∃ (p dx : Addr) (L : Kn), vs = [.ref p] ∧ Has H ((p, .ins C dx []) :: (dx, .own p) :: L) ∧ ∀ H' A, A.p = p → Has H' (yL C A y0 ++ L) → Q .non H'
def sp_end_trail (C : Addr) : Sp := fun vs H Q _ => ∃ (A : YA) (y : YR) (L : Kn), vs = [.ref A.p] ∧ Has H (yL C A y ++ L) ∧ ∀ H' q, Has H' (yL C { A with tr := q } { y with trail := [] } ++ L) → Q .non H'
theorem init_perm {H : Hp} {C p dx a1 a2 a3 a4 a5 a7 a8 : Addr} {fs : List (Str × V)} {L : Kn} (h : Has H ((a8, .lst []) :: (a7, .lst []) :: (a5, .dT []) :: (a4, .lst []) :: (a3, .dK []) :: (a2, .dK []) :: (a1, .dK []) :: (p, .ins C dx fs) :: (dx, .own p) :: L)) :
    Has H ([(a8, .lst []), (p, .ins C dx fs), (dx, .own p), (a1, .dK []), (a2, .dK []), (a3, .dK []), (a4, .lst []), (a5, .dT []), (a7, .lst [])] ++ L) := by
  refine h.perm ?_
  refine .cons _ ?_
  show List.Perm ([(a7, HO.lst []), (a5, .dT []), (a4, .lst []), (a3, .dK []), (a2, .dK []), (a1, .dK []), (p, .ins C dx fs), (dx, .own p)] ++ L) ([(p, .ins C dx fs), (dx, .own p), (a1, .dK []), (a2, .dK []), (a3, .dK []), (a4, .lst []), (a5, .dT []), (a7, .lst [])] ++ L)
  refine List.Perm.append_right L ?_
  have e : [(a7, HO.lst []), (a5, .dT []), (a4, .lst []), (a3, .dK []), (a2, .dK []), (a1, .dK []), (p, .ins C dx fs), (dx, .own p)] = [(a7, HO.lst []), (a5, .dT []), (a4, .lst []), (a3, .dK []), (a2, .dK []), (a1, .dK [])] ++ [(p, .ins C dx fs), (dx, .own p)] := rfl
  rw [e]
  refine List.perm_append_comm.trans ?_
  refine .cons _ (.cons _ ?_)
  exact List.reverse_perm [(a1, HO.dK []), (a2, .dK []), (a3, .dK []), (a4, .lst []), (a5, .dT []), (a7, .lst [])]
section
variable {P : Program} {w : World} {K : PySem.W.Frag} {mg : Str → Option Value} {base : Heap} {t : Adr}
theorem scYi : FnScope ["self"] ["self"] (defScope s_Yard_init) := ⟨rfl, rfl, rfl, by decide +kernel, rfl, by decide +kernel, by decide +kernel⟩
theorem ok_Yard_init (T : Txt K mg t) : FnOk P w K mg base CX0 1 t.f_Yard_init t.d_Yard_init ["self"] (sp_init t.c_Yard) := by
  refine T.F_Yard_init.ok scYi (fun vs H Q E h => ?_) (fun cdv A outer s H vs Q E hr h => ?_)
  · obtain ⟨_, _, _, rfl, _⟩ := h
    rfl
  · obtain ⟨p, dx, L, rfl, hH, q⟩ := h
    refine ⟨_, (pss_cons (ps_fld (pv 0) pe_int rfl)
      (pss_cons (ps_fld (pv 0) pe_dnewK rfl)
      (pss_cons (ps_fld (pv 0) pe_dnewK rfl)
      (pss_cons (ps_fld (pv 0) pe_dnewK rfl)
      (pss_cons (ps_fld (pv 0) (pe_lst pa_nil) rfl)
      (pss_cons (ps_fld (pv 0) pe_dnewT rfl)
      (pss_cons (ps_fld (pv 0) pe_non rfl)
      (pss_cons (ps_fld (pv 0) (pe_lst pa_nil) rfl)
      (pss_one (ps_fld (pv 0) (pe_lst pa_nil) rfl)))))))))), ?_⟩
    refine ⟨_, rfl, p, _, dx, _, rfl, hH.get 0 rfl, T.cl_Yard, T.n_Yard_next_piece, (show 0 < 1000 by decide), ?_⟩
    have h1 := hH.puti 0 rfl (.ins t.c_Yard dx (putF ("next_piece" : Str) (V.int 0) ([] : List (Str × V))))
    rw [show putF ("next_piece" : Str) (V.int 0) ([] : List (Str × V)) = ([(("next_piece" : Str), V.int 0)] : List (Str × V)) from by kernel_rfl] at h1 ⊢
    generalize upd H p _ = H1 at h1 ⊢
    intro a1 n1
    refine ⟨_, rfl, p, _, dx, _, rfl, (h1.alloc n1 (.dK [])).get 1 rfl, T.cl_Yard, T.n_Yard_kinds, (show 1 < 1000 by decide), ?_⟩
    have h2 := (h1.alloc n1 (.dK [])).puti 1 rfl (.ins t.c_Yard dx (putF ("kinds" : Str) (V.ref a1) ([(("next_piece" : Str), V.int 0)] : List (Str × V))))
    rw [show putF ("kinds" : Str) (V.ref a1) ([(("next_piece" : Str), V.int 0)] : List (Str × V)) = ([(("next_piece" : Str), V.int 0), (("kinds" : Str), V.ref a1)] : List (Str × V)) from by kernel_rfl] at h2 ⊢
    generalize upd (upd H1 a1 _) p _ = H2 at h2 ⊢
    intro a2 n2
    refine ⟨_, rfl, p, _, dx, _, rfl, (h2.alloc n2 (.dK [])).get 2 rfl, T.cl_Yard, T.n_Yard_notes, (show 2 < 1000 by decide), ?_⟩
    have h3 := (h2.alloc n2 (.dK [])).puti 2 rfl (.ins t.c_Yard dx (putF ("notes" : Str) (V.ref a2) ([(("next_piece" : Str), V.int 0), (("kinds" : Str), V.ref a1)] : List (Str × V))))
    rw [show putF ("notes" : Str) (V.ref a2) ([(("next_piece" : Str), V.int 0), (("kinds" : Str), V.ref a1)] : List (Str × V)) = ([(("next_piece" : Str), V.int 0), (("kinds" : Str), V.ref a1), (("notes" : Str), V.ref a2)] : List (Str × V)) from by kernel_rfl] at h3 ⊢
    generalize upd (upd H2 a2 _) p _ = H3 at h3 ⊢
    intro a3 n3
    refine ⟨_, rfl, p, _, dx, _, rfl, (h3.alloc n3 (.dK [])).get 3 rfl, T.cl_Yard, T.n_Yard_rods_under, (show 3 < 1000 by decide), ?_⟩
    have h4 := (h3.alloc n3 (.dK [])).puti 3 rfl (.ins t.c_Yard dx (putF ("rods_under" : Str) (V.ref a3) ([(("next_piece" : Str), V.int 0), (("kinds" : Str), V.ref a1), (("notes" : Str), V.ref a2)] : List (Str × V))))
    rw [show putF ("rods_under" : Str) (V.ref a3) ([(("next_piece" : Str), V.int 0), (("kinds" : Str), V.ref a1), (("notes" : Str), V.ref a2)] : List (Str × V)) = ([(("next_piece" : Str), V.int 0), (("kinds" : Str), V.ref a1), (("notes" : Str), V.ref a2), (("rods_under" : Str), V.ref a3)] : List (Str × V)) from by kernel_rfl] at h4 ⊢
    generalize upd (upd H3 a3 _) p _ = H4 at h4 ⊢
    refine ⟨by decide, fun a4 n4 => ?_⟩
    refine ⟨_, rfl, p, _, dx, _, rfl, (h4.alloc n4 (.lst [])).get 4 rfl, T.cl_Yard, T.n_Yard_sides, (show 4 < 1000 by decide), ?_⟩
    have h5 := (h4.alloc n4 (.lst [])).puti 4 rfl (.ins t.c_Yard dx (putF ("sides" : Str) (V.ref a4) ([(("next_piece" : Str), V.int 0), (("kinds" : Str), V.ref a1), (("notes" : Str), V.ref a2), (("rods_under" : Str), V.ref a3)] : List (Str × V))))
    rw [show putF ("sides" : Str) (V.ref a4) ([(("next_piece" : Str), V.int 0), (("kinds" : Str), V.ref a1), (("notes" : Str), V.ref a2), (("rods_under" : Str), V.ref a3)] : List (Str × V)) = ([(("next_piece" : Str), V.int 0), (("kinds" : Str), V.ref a1), (("notes" : Str), V.ref a2), (("rods_under" : Str), V.ref a3), (("sides" : Str), V.ref a4)] : List (Str × V)) from by kernel_rfl] at h5 ⊢
    generalize upd (upd H4 a4 _) p _ = H5 at h5 ⊢
    intro a5 n5
    refine ⟨_, rfl, p, _, dx, _, rfl, (h5.alloc n5 (.dT [])).get 5 rfl, T.cl_Yard, T.n_Yard_mates, (show 5 < 1000 by decide), ?_⟩
    have h6 := (h5.alloc n5 (.dT [])).puti 5 rfl (.ins t.c_Yard dx (putF ("mates" : Str) (V.ref a5) ([(("next_piece" : Str), V.int 0), (("kinds" : Str), V.ref a1), (("notes" : Str), V.ref a2), (("rods_under" : Str), V.ref a3), (("sides" : Str), V.ref a4)] : List (Str × V))))
    rw [show putF ("mates" : Str) (V.ref a5) ([(("next_piece" : Str), V.int 0), (("kinds" : Str), V.ref a1), (("notes" : Str), V.ref a2), (("rods_under" : Str), V.ref a3), (("sides" : Str), V.ref a4)] : List (Str × V)) = ([(("next_piece" : Str), V.int 0), (("kinds" : Str), V.ref a1), (("notes" : Str), V.ref a2), (("rods_under" : Str), V.ref a3), (("sides" : Str), V.ref a4), (("mates" : Str), V.ref a5)] : List (Str × V)) from by kernel_rfl] at h6 ⊢
    generalize upd (upd H5 a5 _) p _ = H6 at h6 ⊢
    refine ⟨_, rfl, p, _, dx, _, rfl, h6.get 5 rfl, T.cl_Yard, T.n_Yard_engine_end, (show 6 < 1000 by decide), ?_⟩
    have h7 := h6.puti 5 rfl (.ins t.c_Yard dx (putF ("engine_end" : Str) (V.non) ([(("next_piece" : Str), V.int 0), (("kinds" : Str), V.ref a1), (("notes" : Str), V.ref a2), (("rods_under" : Str), V.ref a3), (("sides" : Str), V.ref a4), (("mates" : Str), V.ref a5)] : List (Str × V))))
    rw [show putF ("engine_end" : Str) (V.non) ([(("next_piece" : Str), V.int 0), (("kinds" : Str), V.ref a1), (("notes" : Str), V.ref a2), (("rods_under" : Str), V.ref a3), (("sides" : Str), V.ref a4), (("mates" : Str), V.ref a5)] : List (Str × V)) = ([(("next_piece" : Str), V.int 0), (("kinds" : Str), V.ref a1), (("notes" : Str), V.ref a2), (("rods_under" : Str), V.ref a3), (("sides" : Str), V.ref a4), (("mates" : Str), V.ref a5), (("engine_end" : Str), V.non)] : List (Str × V)) from by kernel_rfl] at h7 ⊢
    generalize upd H6 p _ = H7 at h7 ⊢
    refine ⟨by decide, fun a7 n7 => ?_⟩
    refine ⟨_, rfl, p, _, dx, _, rfl, (h7.alloc n7 (.lst [])).get 6 rfl, T.cl_Yard, T.n_Yard_rung, (show 7 < 1000 by decide), ?_⟩
    have h8 := (h7.alloc n7 (.lst [])).puti 6 rfl (.ins t.c_Yard dx (putF ("rung" : Str) (V.ref a7) ([(("next_piece" : Str), V.int 0), (("kinds" : Str), V.ref a1), (("notes" : Str), V.ref a2), (("rods_under" : Str), V.ref a3), (("sides" : Str), V.ref a4), (("mates" : Str), V.ref a5), (("engine_end" : Str), V.non)] : List (Str × V))))
    rw [show putF ("rung" : Str) (V.ref a7) ([(("next_piece" : Str), V.int 0), (("kinds" : Str), V.ref a1), (("notes" : Str), V.ref a2), (("rods_under" : Str), V.ref a3), (("sides" : Str), V.ref a4), (("mates" : Str), V.ref a5), (("engine_end" : Str), V.non)] : List (Str × V)) = ([(("next_piece" : Str), V.int 0), (("kinds" : Str), V.ref a1), (("notes" : Str), V.ref a2), (("rods_under" : Str), V.ref a3), (("sides" : Str), V.ref a4), (("mates" : Str), V.ref a5), (("engine_end" : Str), V.non), (("rung" : Str), V.ref a7)] : List (Str × V)) from by kernel_rfl] at h8 ⊢
    generalize upd (upd H7 a7 _) p _ = H8 at h8 ⊢
    refine ⟨by decide, fun a8 n8 => ?_⟩
    refine ⟨_, rfl, p, _, dx, _, rfl, (h8.alloc n8 (.lst [])).get 7 rfl, T.cl_Yard, T.n_Yard_trail, (show 8 < 1000 by decide), ?_⟩
    refine q _ ⟨p, dx, a8, a1, a2, a3, a4, a5, a7⟩ rfl ?_
    have h9 := (h8.alloc n8 (.lst [])).puti 7 rfl (.ins t.c_Yard dx (putF ("trail" : Str) (V.ref a8) ([(("next_piece" : Str), V.int 0), (("kinds" : Str), V.ref a1), (("notes" : Str), V.ref a2), (("rods_under" : Str), V.ref a3), (("sides" : Str), V.ref a4), (("mates" : Str), V.ref a5), (("engine_end" : Str), V.non), (("rung" : Str), V.ref a7)] : List (Str × V))))
    rw [show putF ("trail" : Str) (V.ref a8) ([(("next_piece" : Str), V.int 0), (("kinds" : Str), V.ref a1), (("notes" : Str), V.ref a2), (("rods_under" : Str), V.ref a3), (("sides" : Str), V.ref a4), (("mates" : Str), V.ref a5), (("engine_end" : Str), V.non), (("rung" : Str), V.ref a7)] : List (Str × V)) = ([(("next_piece" : Str), V.int 0), (("kinds" : Str), V.ref a1), (("notes" : Str), V.ref a2), (("rods_under" : Str), V.ref a3), (("sides" : Str), V.ref a4), (("mates" : Str), V.ref a5), (("engine_end" : Str), V.non), (("rung" : Str), V.ref a7), (("trail" : Str), V.ref a8)] : List (Str × V)) from by kernel_rfl] at h9 ⊢
    exact init_perm h9
end

def layY (y : YR) (k : Kd) (note : Int) (rod : V) : YR :=
  { y with next := y.next + 1, kinds := putK y.kinds (Sum.inl y.next) (.str k.str),
           notes := if k = .bell then putK y.notes (Sum.inl y.next) (.int note) else y.notes,
           rods := if k.point then putK y.rods (Sum.inl y.next) (if rod = .non then .int y.sides.length else rod) else y.rods,
           sides := if k.point ∧ rod = .non then y.sides ++ [.int 1] else y.sides, trail := [] }
structure Small (y : YR) : Prop where
  k : y.kinds.length ≤ 10000
  n : y.notes.length ≤ 10000
  r : y.rods.length ≤ 10000
  s : y.sides.length ≤ 10000
  m : y.mates.length ≤ 30000
  g : y.rung.length ≤ 300000
  t : y.trail.length ≤ 300000
def sp_check_piece (C : Addr) : Sp := fun vs H Q _ => ∃ (A : YA) (y : YR) (L : Kn) (n : Int) (v : V), vs = [.ref A.p, .int n] ∧ Has H (yL C A y ++ L) ∧ valV y.kinds (Sum.inl n) = some v ∧ Q .non H
def sp_check_rod (C : Addr) : Sp := fun vs H Q _ => ∃ (A : YA) (y : YR) (L : Kn) (r : Int), vs = [.ref A.p, .int r] ∧ Has H (yL C A y ++ L) ∧ 0 ≤ r ∧ r < y.sides.length ∧ Q .non H
def sp_check_note : Sp := fun vs H Q _ => ∃ n : Int, vs = [.int n] ∧ 0 ≤ n ∧ n ≤ 9999 ∧ Q .non H
def sp_new_rod (C : Addr) : Sp := fun vs H Q _ => ∃ (A : YA) (y : YR) (L : Kn) (s : Int), vs = [.ref A.p, .int s] ∧ Has H (yL C A y ++ L) ∧ (s = 1 ∨ s = 2) ∧ y.sides.length ≤ 10000 ∧
  ∀ H' q, Has H' (yL C { A with tr := q } { y with sides := y.sides ++ [.int s], trail := [] } ++ L) → Q (.int y.sides.length) H'
def sp_rods (C : Addr) : Sp := fun vs H Q _ => ∃ (A : YA) (y : YR) (L : Kn), vs = [.ref A.p] ∧ Has H (yL C A y ++ L) ∧ Small y ∧ ∀ H' l, Has H' ((l, .lst (intsV y.sides.length)) :: (yL C A y ++ L)) → Q (.ref l) H'
def sp_side (C : Addr) : Sp := fun vs H Q _ => ∃ (A : YA) (y : YR) (L : Kn) (r : Int) (v : V), vs = [.ref A.p, .int r] ∧ Has H (yL C A y ++ L) ∧ 0 ≤ r ∧ y.sides[r.toNat]? = some v ∧ Q v H
def sp_rod (C : Addr) : Sp := fun vs H Q _ => ∃ (A : YA) (y : YR) (L : Kn) (n : Int) (u v : V), vs = [.ref A.p, .int n] ∧ Has H (yL C A y ++ L) ∧ valV y.kinds (Sum.inl n) = some u ∧ valV y.rods (Sum.inl n) = some v ∧ Q v H
def sp_lay (C : Addr) : Sp := fun vs H Q _ => ∃ (A : YA) (y : YR) (L : Kn) (k : Kd) (note : Int) (rod : V), vs = [.ref A.p, .str k.str, .int note, rod] ∧ Has H (yL C A y ++ L) ∧ Small y ∧ (k = .bell → 0 ≤ note ∧ note ≤ 9999) ∧
  (k.point = true → rod ≠ .non → ∃ r : Int, rod = .int r ∧ 0 ≤ r ∧ r < y.sides.length) ∧ ∀ H' q, Has H' (yL C { A with tr := q } (layY y k note rod) ++ L) → Q (.int y.next) H'
section
variable {P : Program} {w : World} {K : PySem.W.Frag} {mg : Str → Option Value} {base : Heap} {t : Adr}
theorem scEt : FnScope ["self"] ["self"] (defScope s_Yard_end_trail) := ⟨rfl, rfl, rfl, by decide +kernel, rfl, by decide +kernel, by decide +kernel⟩
theorem ok_Yard_end_trail (T : Txt K mg t) : FnOk P w K mg base CX0 1 t.f_Yard_end_trail t.d_Yard_end_trail ["self"] (sp_end_trail t.c_Yard) := by
  refine T.F_Yard_end_trail.ok scEt (fun vs H Q E h => ?_) (fun cdv A outer s H vs Q E hr h => ?_)
  · obtain ⟨_, _, _, rfl, _⟩ := h
    rfl
  · obtain ⟨A, y, L, rfl, hH, q⟩ := h
    refine ⟨_, (pss_one (ps_fld (pv 0) (pe_lst pa_nil) rfl)), ?_⟩
    refine ⟨by decide, fun a ha => ?_⟩
    have h1 := hH.alloc ha (.lst [])
    refine ⟨_, rfl, A.p, _, A.dx, _, rfl, h1.get 2 rfl, T.cl_Yard, T.n_Yard_trail, (show 9 < 1000 by decide), ?_⟩
    refine q _ a ?_
    rw [fl_put_trail]
    have h2 := (h1.puti 2 rfl (.ins t.c_Yard A.dx (fl { A with tr := a } y.next y.eng)))
    exact (h2.swap2).tail
theorem scCr : FnScope ["self", "rod"] ["self", "rod"] (defScope s_Yard_check_rod) := ⟨rfl, rfl, rfl, by decide +kernel, rfl, by decide +kernel, by decide +kernel⟩
theorem ok_Yard_check_rod (T : Txt K mg t) : FnOk P w K mg base CX0 1 t.f_Yard_check_rod t.d_Yard_check_rod ["self", "rod"] (sp_check_rod t.c_Yard) := by
  refine T.F_Yard_check_rod.ok scCr (fun vs H Q E h => ?_) (fun cdv A outer s H vs Q E hr h => ?_)
  · obtain ⟨_, _, _, _, rfl, _⟩ := h
    rfl
  · obtain ⟨A, y, L, r, rfl, hH, r0, r1, q⟩ := h
    refine ⟨_, (pss_one (ps_if (PW.pt (pw_or (pt_cmpR op_lt (pv 1) pe_int (nomark _)) (pw_or1 (pt_cmpR op_ge (pv 1) (pe_callB call_len_seq (by rfl) T.z_len (by rfl) (pa_cons (pe_fld (pv 0) rfl) pa_nil)) (nomark _)))))
        (pss_one ps_never)
        pss_nil)), ?_⟩
    refine ⟨_, rfl, _, _, rfl, rfl, _, rfl, ifF (decide_eq_false (by omega)) ?_⟩
    refine ⟨_, rfl, _, rfl, A.p, _, A.dx, _, _, rfl, hH.get 1 rfl, T.cl_Yard, T.n_Yard_sides, fl_sides _ _ _, A.s, _, rfl, .inl (SqL.of (hH.get 6 rfl)), _, _, rfl, rfl, _, rfl, ?_⟩
    exact ifF (decide_eq_false (by omega)) q
theorem scCn : FnScope ["note"] ["note"] (defScope s_check_note) := ⟨rfl, rfl, rfl, by decide +kernel, rfl, by decide +kernel, by decide +kernel⟩
theorem ok_check_note (T : Txt K mg t) : FnOk P w K mg base CX0 1 t.f_check_note t.d_check_note ["note"] sp_check_note := by
  refine T.F_check_note.ok scCn (fun vs H Q E h => ?_) (fun cdv A outer s H vs Q E hr h => ?_)
  · obtain ⟨_, rfl, _⟩ := h
    rfl
  · obtain ⟨n, rfl, n0, n1, q⟩ := h
    refine ⟨_, (pss_one (ps_if (PW.pt (pw_or (pt_cmpR op_lt (pv 0) pe_int (nomark _)) (pw_or1 (pt_cmpR op_gt (pv 0) (pe_glob (by rfl) T.g_LAST_NOTE T.r_LAST_NOTE) (nomark _)))))
        (pss_one ps_never)
        pss_nil)), ?_⟩
    refine ⟨_, rfl, _, _, rfl, rfl, _, rfl, ifF (decide_eq_false (by omega)) ?_⟩
    refine ⟨_, rfl, _, _, rfl, rfl, _, rfl, ifF (decide_eq_false (by omega)) q⟩
theorem scCp : FnScope ["self", "piece"] ["self", "piece"] (defScope s_Yard_check_piece) := ⟨rfl, rfl, rfl, by decide +kernel, rfl, by decide +kernel, by decide +kernel⟩
theorem ok_Yard_check_piece (T : Txt K mg t) : FnOk P w K mg base CX0 1 t.f_Yard_check_piece t.d_Yard_check_piece ["self", "piece"] (sp_check_piece t.c_Yard) := by
  refine T.F_Yard_check_piece.ok scCp (fun vs H Q E h => ?_) (fun cdv A outer s H vs Q E hr h => ?_)
  · obtain ⟨_, _, _, _, _, rfl, _⟩ := h
    rfl
  · obtain ⟨A, y, L, n, v, rfl, hH, hv, q⟩ := h
    have hu := hu_of hr
    refine ⟨_, (pss_one (ps_if (pt_cmp (pc_dnotin hu (pv 1) (pe_fld (pv 0) rfl)))
        (pss_one ps_never)
        pss_nil)), ?_⟩
    refine ⟨_, rfl, _, rfl, A.p, _, A.dx, _, _, rfl, hH.get 1 rfl, T.cl_Yard, T.n_Yard_kinds, fl_kinds _ _ _, A.k, _, rfl, DGet.k (k := Sum.inl n) (hH.get 3 rfl), _, rfl, ?_⟩
    exact ifF (by rw [hv]; rfl) q
theorem scNr : FnScope ["self", "side"] ["self", "side"] (defScope s_Yard_new_rod) := ⟨rfl, rfl, rfl, by decide +kernel, rfl, by decide +kernel, by decide +kernel⟩
theorem ok_Yard_new_rod (T : Txt K mg t) : FnOk P w K mg base CX0 2 t.f_Yard_new_rod t.d_Yard_new_rod ["self", "side"] (sp_new_rod t.c_Yard) := by
  refine T.F_Yard_new_rod.ok scNr (fun vs H Q E h => ?_) (fun cdv A outer s H vs Q E hr h => ?_)
  · obtain ⟨_, _, _, _, rfl, _⟩ := h
    rfl
  · obtain ⟨A, y, L, z, rfl, hH, hz, sm, q⟩ := h
    refine ⟨_, (pss_cons (ps_expr (pe_call (ok_check_side T) (hr.mono (by decide)) (by rfl) T.m_check_side T.F_check_side.kp (b_check_side T) .nil pass0 (pa_cons (pv 1) pa_nil)))
      (pss_cons (ps_expr (pe_bm PySem.F.plainAttrs_list PySem.F.slot_list_append PySem.F.type_list_append mt_append (pe_fld (pv 0) rfl) (pa_cons (pv 1) pa_nil)))
      (pss_cons (ps_expr (pe_meth0 (pv 0) T.cl_Yard T.M_Yard_end_trail (ok_Yard_end_trail T) (hr.mono (by decide)) (b_Yard_end_trail T) .nil pass0))
      (pss_one (ps_ret (pe_op op_sub (pe_callB call_len_seq (by rfl) T.z_len (by rfl) (pa_cons (pe_fld (pv 0) rfl) pa_nil)) pe_int)))))), ?_⟩
    refine ⟨_, rfl, z, rfl, hz, ?_⟩
    refine ⟨_, rfl, A.p, _, A.dx, _, _, rfl, hH.get 1 rfl, T.cl_Yard, T.n_Yard_sides, fl_sides _ _ _, .inl ⟨rfl, _, SqL.of (hH.get 6 rfl)⟩, _, rfl, A.s, _, _, rfl, rfl, hH.get 6 rfl, sizeOk (by omega), ?_⟩
    have h1 : Has _ (yL t.c_Yard A { y with sides := y.sides ++ [.int z] } ++ L) := hH.puti 6 rfl (.lst (y.sides ++ [.int z]))
    refine ⟨_, rfl, A.p, A.dx, _, rfl, h1.get 1 rfl, (fl_m _ _ _).2.2.2.2.2.2.1, A, _, L, rfl, h1, fun H' a h2 => ?_⟩
    refine ⟨_, rfl, A.p, _, A.dx, _, _, rfl, h2.get 1 rfl, T.cl_Yard, T.n_Yard_sides, fl_sides _ _ _, A.s, _, rfl, .inl (SqL.of (h2.get 6 rfl)), _, _, rfl, rfl, ?_⟩
    have e : ((y.sides ++ [V.int z]).length : Int) - 1 = y.sides.length := by rw [List.length_append, List.length_singleton]; omega
    show Q (.int (((y.sides ++ [V.int z]).length : Int) - 1)) H'
    rw [e]
    exact q H' a h2
theorem scRs : FnScope ["self"] ["self"] (defScope s_Yard_rods) := ⟨rfl, rfl, rfl, by decide +kernel, rfl, by decide +kernel, by decide +kernel⟩
theorem ok_Yard_rods (T : Txt K mg t) : FnOk P w K mg base CX0 1 t.f_Yard_rods t.d_Yard_rods ["self"] (sp_rods t.c_Yard) := by
  refine T.F_Yard_rods.ok scRs (fun vs H Q E h => ?_) (fun cdv A outer s H vs Q E hr h => ?_)
  · obtain ⟨_, _, _, rfl, _⟩ := h
    rfl
  · obtain ⟨A, y, L, rfl, hH, sm, q⟩ := h
    refine ⟨_, (pss_one (ps_ret (pe_callTy (call_list_rng rfl) (by rfl) T.z_list (by rfl) (pa_cons (pe_callTy call_range1 (by rfl) T.z_range (by rfl) (pa_cons (pe_callB call_len_seq (by rfl) T.z_len (by rfl) (pa_cons (pe_fld (pv 0) rfl) pa_nil)) pa_nil)) pa_nil)))), ?_⟩
    have := sm.s
    refine ⟨_, rfl, A.p, _, A.dx, _, _, rfl, hH.get 1 rfl, T.cl_Yard, T.n_Yard_sides, fl_sides _ _ _, A.s, _, rfl, .inl (SqL.of (hH.get 6 rfl)), _, rfl, fun a ha => ?_⟩
    have h1 := hH.alloc ha (.rng 0 y.sides.length)
    refine ⟨a, _, rfl, h1.get 0 rfl, by omega, by omega, fun l hl => ?_⟩
    have h2 := h1.alloc hl (.lst (intsV ((y.sides.length : Int)).toNat))
    refine q _ l ?_
    exact h2.swap2.tail
theorem scSi : FnScope ["self", "rod"] ["self", "rod"] (defScope s_Yard_side) := ⟨rfl, rfl, rfl, by decide +kernel, rfl, by decide +kernel, by decide +kernel⟩
theorem ok_Yard_side (T : Txt K mg t) : FnOk P w K mg base CX0 2 t.f_Yard_side t.d_Yard_side ["self", "rod"] (sp_side t.c_Yard) := by
  refine T.F_Yard_side.ok scSi (fun vs H Q E h => ?_) (fun cdv A outer s H vs Q E hr h => ?_)
  · obtain ⟨_, _, _, _, _, rfl, _⟩ := h
    rfl
  · obtain ⟨A, y, L, r, v, rfl, hH, r0, hv, q⟩ := h
    have r1 : r < y.sides.length := by have := (List.getElem?_eq_some_iff.mp hv).1; omega
    have er : (r.toNat : Int) = r := by omega
    refine ⟨_, (pss_cons (ps_expr (pe_meth (pv 0) T.cl_Yard T.M_Yard_check_rod (ok_Yard_check_rod T) (hr.mono (by decide)) (b_Yard_check_rod T) .nil pass0 (pa_cons (pv 1) pa_nil)))
      (pss_one (ps_ret (pe_ix ix_list (pe_fld (pv 0) rfl) (pv 1) (fun _ _ => rfl))))), ?_⟩
    refine ⟨_, rfl, A.p, A.dx, _, rfl, hH.get 1 rfl, (fl_m _ _ _).2.2.2.2.2.2.2.2, _, rfl, A, y, L, r, rfl, hH, r0, r1, ?_⟩
    exact ⟨_, rfl, A.p, _, A.dx, _, _, rfl, hH.get 1 rfl, T.cl_Yard, T.n_Yard_sides, fl_sides _ _ _, _, rfl, A.s, _, r, v, rfl, rfl, SqL.of (hH.get 6 rfl), (by rw [← er]; exact atI_nat hv), q⟩
theorem scRo : FnScope ["self", "piece"] ["self", "piece"] (defScope s_Yard_rod) := ⟨rfl, rfl, rfl, by decide +kernel, rfl, by decide +kernel, by decide +kernel⟩
theorem ok_Yard_rod (T : Txt K mg t) : FnOk P w K mg base CX0 2 t.f_Yard_rod t.d_Yard_rod ["self", "piece"] (sp_rod t.c_Yard) := by
  refine T.F_Yard_rod.ok scRo (fun vs H Q E h => ?_) (fun cdv A outer s H vs Q E hr h => ?_)
  · obtain ⟨_, _, _, _, _, _, rfl, _⟩ := h
    rfl
  · obtain ⟨A, y, L, n, u, v, rfl, hH, hk, hv, q⟩ := h
    have hu := hu_of hr
    refine ⟨_, (pss_cons (ps_expr (pe_meth (pv 0) T.cl_Yard T.M_Yard_check_piece (ok_Yard_check_piece T) (hr.mono (by decide)) (b_Yard_check_piece T) .nil pass0 (pa_cons (pv 1) pa_nil)))
      (pss_cons (ps_if (pt_cmp (pc_dnotin hu (pv 1) (pe_fld (pv 0) rfl)))
        (pss_one ps_never)
        pss_nil)
      (pss_one (ps_ret (pe_dget hu (pe_fld (pv 0) rfl) (pv 1) (fun _ _ => rfl)))))), ?_⟩
    refine ⟨_, rfl, A.p, A.dx, _, rfl, hH.get 1 rfl, (fl_m _ _ _).2.2.2.2.2.2.2.1, _, rfl, A, y, L, n, u, rfl, hH, hk, ?_⟩
    refine ⟨_, rfl, _, rfl, A.p, _, A.dx, _, _, rfl, hH.get 1 rfl, T.cl_Yard, T.n_Yard_rods_under, fl_rods _ _ _, A.r, _, rfl, DGet.k (k := Sum.inl n) (hH.get 5 rfl), _, rfl, ifF (by rw [hv]; rfl) ?_⟩
    refine ⟨_, rfl, A.p, _, A.dx, _, _, rfl, hH.get 1 rfl, T.cl_Yard, T.n_Yard_rods_under, fl_rods _ _ _, _, rfl, A.r, _, rfl, ?_, q⟩
    rw [← hv]
    exact DGet.k (k := Sum.inl n) (hH.get 5 rfl)
theorem scLy : FnScope ["self", "kind", "note", "rod", "point", "piece"] ["self", "kind", "note", "rod"] (defScope s_Yard_lay) := ⟨rfl, rfl, rfl, by decide +kernel, rfl, by decide +kernel, by decide +kernel⟩
theorem ok_Yard_lay (T : Txt K mg t) : FnOk P w K mg base CX0 3 t.f_Yard_lay t.d_Yard_lay ["self", "kind", "note", "rod"] (sp_lay t.c_Yard) := by
  obtain ⟨ds_nr, hd_Yard_new_rod_1, hb_Yard_new_rod_1⟩ := bD_Yard_new_rod_1 T
  refine T.F_Yard_lay.ok scLy (fun vs H Q E h => ?_) (fun cdv A outer s H vs Q E hr h => ?_)
  · obtain ⟨_, _, _, _, _, _, rfl, _⟩ := h
    rfl
  · obtain ⟨A, y, L, k, note, rod, rfl, hH, sm, hnote, hrod, q⟩ := h
    have hu := hu_of hr
    refine ⟨_, (pss_cons (ps_set (i := 4) scLy.nd rfl (Or.inl rfl) (pe_call (ok_is_point T) (hr.mono (by decide)) (by rfl) T.m_is_point T.F_is_point.kp (b_is_point T) .nil pass0 (pa_cons (pv 1) pa_nil)))
      (pss_cons (ps_if (pt_cmpR op_eq (pv 1) pe_str (nomark _))
        (pss_one (ps_expr (pe_call (ok_check_note T) (hr.mono (by decide)) (by rfl) T.m_check_note T.F_check_note.kp (b_check_note T) .nil pass0 (pa_cons (pv 2) pa_nil))))
        pss_nil)
      (pss_cons (ps_if (PW.pt (pw_and (pt_val (pv 4)) (pw_and1 (pt_cmpR op_notN (pv 3) pe_non (nomark _)))))
        (pss_one (ps_expr (pe_meth (pv 0) T.cl_Yard T.M_Yard_check_rod (ok_Yard_check_rod T) (hr.mono (by decide)) (b_Yard_check_rod T) .nil pass0 (pa_cons (pv 3) pa_nil))))
        pss_nil)
      (pss_cons (ps_set (i := 5) scLy.nd rfl (Or.inl rfl) (pe_fld (pv 0) rfl))
      (pss_cons (ps_fldaug (pv 0) pe_int in_add)
      (pss_cons (ps_dput hu (pe_fld (pv 0) rfl) (pv 5) (pv 1) rfl)
      (pss_cons (ps_if (pt_cmpR op_eq (pv 1) pe_str (nomark _))
        (pss_one (ps_dput hu (pe_fld (pv 0) rfl) (pv 5) (pv 2) rfl))
        pss_nil)
      (pss_cons (ps_if (pt_val (pv 4))
        (pss_one (ps_dput hu (pe_fld (pv 0) rfl) (pv 5) (pe_ifExp (pt_cmpR op_isN (pv 3) pe_non (nomark _)) (pe_meth0 (pv 0) T.cl_Yard T.M_Yard_new_rod (ok_Yard_new_rod T) (hr.mono (by decide)) hb_Yard_new_rod_1 hd_Yard_new_rod_1 pass0) (pv 3)) rfl))
        pss_nil)
      (pss_cons (ps_expr (pe_meth0 (pv 0) T.cl_Yard T.M_Yard_end_trail (ok_Yard_end_trail T) (hr.mono (by decide)) (b_Yard_end_trail T) .nil pass0))
      (pss_one (ps_ret (pv 5)))))))))))), ?_⟩
    refine ⟨_, rfl, k, rfl, ?_⟩
    refine ⟨_, rfl, rfl, _, rfl, ifJ (fun hc g => ?_) ?_⟩
    · rw [k.isBell] at hc
      have hb := hnote (of_decide_eq_true hc)
      exact ⟨_, rfl, note, rfl, hb.1, hb.2, g⟩
    refine ⟨_, rfl, _, rfl, ?_⟩
    refine (fun (g : _) => if2 (fun hp => ⟨_, rfl, rfl, _, rfl, ifJ (fun hc g' => ?a) g⟩) (fun hp => iteF g)) ?b
    case a =>
      have hn : rod ≠ .non := by simpa using hc
      obtain ⟨r, rfl, r0, r1⟩ := hrod hp hn
      exact ⟨_, rfl, A.p, A.dx, _, rfl, hH.get 1 rfl, (fl_m _ _ _).2.2.2.2.2.2.2.2, _, rfl, A, y, L, r, rfl, hH, r0, r1, g'⟩
    refine ⟨_, rfl, A.p, _, A.dx, _, _, rfl, hH.get 1 rfl, T.cl_Yard, T.n_Yard_next_piece, fl_next _ _ _, ?_⟩
    refine ⟨_, rfl, A.p, _, A.dx, _, _, rfl, hH.get 1 rfl, T.cl_Yard, T.n_Yard_next_piece, fl_next _ _ _, _, _, rfl, rfl, _, _, hH.get 1 rfl, (show 9 < 1000 by decide), ?_⟩
    rw [fl_put_next]
    have h1 : Has _ (yL t.c_Yard A { y with next := y.next + 1 } ++ L) := hH.puti 1 rfl (.ins t.c_Yard A.dx (fl A (y.next + 1) y.eng))
    generalize upd H A.p _ = H1 at h1 ⊢
    refine ⟨_, rfl, _, rfl, A.p, _, A.dx, _, _, rfl, h1.get 1 rfl, T.cl_Yard, T.n_Yard_kinds, fl_kinds _ _ _, _, rfl, A.k, _, rfl, DPut.k (k := Sum.inl y.next) (h1.get 3 rfl) (sizeOk (show y.kinds.length ≤ 1000000 by have := sm.k; omega)), ?_⟩
    have h2 : Has _ (yL t.c_Yard A { y with next := y.next + 1, kinds := putK y.kinds (Sum.inl y.next) (.str k.str) } ++ L) := h1.puti 3 rfl (.dK (putK y.kinds (Sum.inl y.next) (.str k.str)))
    generalize upd H1 A.k _ = H2 at h2 ⊢
    refine ⟨_, rfl, rfl, _, rfl, ?_⟩
    rw [k.isBell]
    have fin : ∀ (H3 : Hp) (A3 : YA) (y3 : YR), A3.p = A.p → (∀ q, { A3 with tr := q } = { A with tr := q }) → { y3 with trail := [] } = layY y k note rod → Has H3 (yL t.c_Yard A3 y3 ++ L) →
        tSeq (tDrop (tMeth t.c_Yard "end_trail" (sp_end_trail t.c_Yard) [] E0 (tVar 0) tNil)) (tRet (tVar 5)) { nx := fun _ H' => Q .non H', rt := Q } [some (.ref A.p), some (.str k.str), some (.int note), some rod, some (.bl k.point), some (.int y.next)] H3 := fun H3 A3 y3 e1 e2 e3 h3 => by
      have g1 := h3.get 1 rfl
      rw [e1] at g1
      refine ⟨_, rfl, A.p, A3.dx, _, rfl, g1, (fl_m _ _ _).2.2.2.2.2.2.1, A3, y3, L, (by rw [e1]; rfl), h3, fun H4 a h4 => ⟨_, rfl, ?_⟩⟩
      rw [e2, e3] at h4
      exact q H4 a h4
    refine ifd (fun hb => ?_) (fun hb => ?_)
    · subst hb
      refine ⟨_, rfl, _, rfl, A.p, _, A.dx, _, _, rfl, h2.get 1 rfl, T.cl_Yard, T.n_Yard_notes, fl_notes _ _ _, _, rfl, A.n, _, rfl, DPut.k (k := Sum.inl y.next) (h2.get 4 rfl) (sizeOk (show y.notes.length ≤ 1000000 by have := sm.n; omega)), ?_⟩
      have h3 : Has _ (yL t.c_Yard A { y with next := y.next + 1, kinds := putK y.kinds (Sum.inl y.next) (.str Kd.bell.str), notes := putK y.notes (Sum.inl y.next) (.int note) } ++ L) := h2.puti 4 rfl (.dK (putK y.notes (Sum.inl y.next) (.int note)))
      refine ⟨_, rfl, _, rfl, iteF ?_⟩
      exact fin _ A _ rfl (fun _ => rfl) rfl h3
    · refine ⟨_, rfl, _, rfl, if2 (fun hp => ?_) (fun hp => ?_)⟩
      · refine ⟨_, rfl, rfl, _, rfl, ifd (fun hn => ?_) (fun hn => ?_)⟩
        · subst hn
          refine ⟨_, rfl, A.p, A.dx, _, rfl, h2.get 1 rfl, (fl_m _ _ _).2.1, A, _, L, 1, rfl, h2, .inl rfl, sm.s, fun H3 a h3 => ?_⟩
          refine ⟨_, rfl, A.p, _, A.dx, _, _, rfl, h3.get 1 rfl, T.cl_Yard, T.n_Yard_rods_under, fl_rods _ _ _, _, rfl, A.r, _, rfl, DPut.k (k := Sum.inl y.next) (h3.get 5 rfl) (sizeOk (show y.rods.length ≤ 1000000 by have := sm.r; omega)), ?_⟩
          have h4 : Has _ (yL t.c_Yard { A with tr := a } { y with next := y.next + 1, kinds := putK y.kinds (Sum.inl y.next) (.str k.str), rods := putK y.rods (Sum.inl y.next) (.int y.sides.length), sides := y.sides ++ [.int 1], trail := [] } ++ L) := h3.puti 5 rfl (.dK (putK y.rods (Sum.inl y.next) (.int y.sides.length)))
          exact fin _ { A with tr := a } _ rfl (fun _ => rfl) (by unfold layY; rw [if_neg hb, if_pos hp, if_pos rfl, if_pos ⟨hp, rfl⟩]) h4
        · refine ⟨_, rfl, _, rfl, A.p, _, A.dx, _, _, rfl, h2.get 1 rfl, T.cl_Yard, T.n_Yard_rods_under, fl_rods _ _ _, _, rfl, A.r, _, rfl, DPut.k (k := Sum.inl y.next) (h2.get 5 rfl) (sizeOk (show y.rods.length ≤ 1000000 by have := sm.r; omega)), ?_⟩
          have h3 : Has _ (yL t.c_Yard A { y with next := y.next + 1, kinds := putK y.kinds (Sum.inl y.next) (.str k.str), rods := putK y.rods (Sum.inl y.next) rod } ++ L) := h2.puti 5 rfl (.dK (putK y.rods (Sum.inl y.next) rod))
          exact fin _ A _ rfl (fun _ => rfl) (by unfold layY; rw [if_neg hb, if_pos hp, if_neg hn, if_neg (fun z => hn z.2)]) h3
      · exact fin _ A _ rfl (fun _ => rfl) (by unfold layY; rw [if_neg hb, if_neg (by rw [hp]; exact Bool.false_ne_true), if_neg (fun z => by rw [hp] at z; exact Bool.false_ne_true z.1)]) h2
end

end P


set_option Elab.async false
set_option linter.all false
set_option maxRecDepth 100000
set_option maxHeartbeats 4000000
namespace P
open PySem L2

abbrev kE (n e : Int) : List Key := [Sum.inl n, Sum.inl e]
theorem fl_m2 (A : YA) (next : Int) (eng : V) : (fl A next eng).lookup ("check_there" : Str) = none ∧ (fl A next eng).lookup ("mate" : Str) = none ∧ (fl A next eng).lookup ("link" : Str) = none ∧ (fl A next eng).lookup ("unlink" : Str) = none :=
  ⟨by kernel_rfl, by kernel_rfl, by kernel_rfl, by kernel_rfl⟩
def There (y : YR) (n e : Int) : Prop := ∃ k : Kd, valV y.kinds (Sum.inl n) = some (.str k.str) ∧ 0 ≤ e ∧ e < k.many
def sp_check_there (C : Addr) : Sp := fun vs H Q _ => ∃ (A : YA) (y : YR) (L : Kn) (b : Addr) (n e : Int) (j : Nat), vs = [.ref A.p, .ref b] ∧ Has H (yL C A y ++ L) ∧ L[j]? = some (b, .tup [.int n, .int e]) ∧ There y n e ∧ Q .non H
def sp_mate (C : Addr) : Sp := fun vs H Q _ => ∃ (A : YA) (y : YR) (L : Kn) (b : Addr) (n e : Int) (j : Nat), vs = [.ref A.p, .ref b] ∧ Has H (yL C A y ++ L) ∧ L[j]? = some (b, .tup [.int n, .int e]) ∧ There y n e ∧ Q ((valV y.mates (kE n e)).getD .non) H
def sp_link (C : Addr) : Sp := fun vs H Q _ => ∃ (A : YA) (y : YR) (L : Kn) (b1 b2 : Addr) (n1 e1 n2 e2 : Int) (j1 j2 : Nat), vs = [.ref A.p, .ref b1, .ref b2] ∧ Has H (yL C A y ++ L) ∧ L[j1]? = some (b1, .tup [.int n1, .int e1]) ∧ L[j2]? = some (b2, .tup [.int n2, .int e2]) ∧
  There y n1 e1 ∧ There y n2 e2 ∧ ¬ kE n1 e1 = kE n2 e2 ∧ valV y.mates (kE n1 e1) = none ∧ valV y.mates (kE n2 e2) = none ∧ y.mates.length ≤ 30000 ∧
  ∀ H' q, Has H' (yL C { A with tr := q } { y with mates := putK (putK y.mates (kE n1 e1) (.ref b2)) (kE n2 e2) (.ref b1), trail := [] } ++ L) → Q .non H'
def sp_unlink (C : Addr) : Sp := fun vs H Q _ => ∃ (A : YA) (y : YR) (L : Kn) (b1 b2 : Addr) (n1 e1 n2 e2 : Int) (j1 j2 : Nat) (v : V), vs = [.ref A.p, .ref b1] ∧ Has H (yL C A y ++ L) ∧ L[j1]? = some (b1, .tup [.int n1, .int e1]) ∧ L[j2]? = some (b2, .tup [.int n2, .int e2]) ∧
  There y n1 e1 ∧ ¬ kE n2 e2 = kE n1 e1 ∧ valV y.mates (kE n1 e1) = some (.ref b2) ∧ valV y.mates (kE n2 e2) = some v ∧
  ∀ H' q, Has H' (yL C { A with tr := q } { y with mates := dropK (dropK y.mates (kE n1 e1)) (kE n2 e2), trail := [] } ++ L) → Q .non H'
theorem valV_drop {κ : Type} [DecidableEq κ] {kvs : List (κ × V)} {k j : κ} (h : ¬ j = k) : valV (dropK kvs k) j = valV kvs j := by
  induction kvs with
  | nil => rfl
  | cons p r ih =>
    by_cases e : p.1 = k
    · rw [dropK_pos e, ih, valV_neg (fun z => h (z.symm.trans e))]
    · rw [dropK_neg e]
      by_cases e2 : p.1 = j
      · rw [valV_pos e2, valV_pos e2]
      · rw [valV_neg e2, valV_neg e2, ih]
theorem valV_drop_self {κ : Type} [DecidableEq κ] {kvs : List (κ × V)} {k : κ} : valV (dropK kvs k) k = none := by
  induction kvs with
  | nil => rfl
  | cons p r ih =>
    by_cases e : p.1 = k
    · rw [dropK_pos e, ih]
    · rw [dropK_neg e, valV_neg e, ih]
section
variable {P : Program} {w : World} {K : PySem.W.Frag} {mg : Str → Option Value} {base : Heap} {t : Adr}
theorem scCt : FnScope ["self", "end", "piece", "place"] ["self", "end"] (defScope s_Yard_check_there) := ⟨rfl, rfl, rfl, by decide +kernel, rfl, by decide +kernel, by decide +kernel⟩
theorem ok_Yard_check_there (T : Txt K mg t) : FnOk P w K mg base CX0 3 t.f_Yard_check_there t.d_Yard_check_there ["self", "end"] (sp_check_there t.c_Yard) := by
  refine T.F_Yard_check_there.ok scCt (fun vs H Q E h => ?_) (fun cdv A outer s H vs Q E hr h => ?_)
  · obtain ⟨_, _, _, _, _, _, _, rfl, _⟩ := h
    rfl
  · obtain ⟨A, y, L, b, n, e, j, rfl, hH, hj, ⟨k, hk, e0, e1⟩, q⟩ := h
    have hu := hu_of hr
    refine ⟨_, (pss_cons (ps_asg (pv 1) (pg_tup rfl (pgs_cons (pg_name (i := 2) scCt.nd rfl (Or.inl rfl)) (pgs_cons (pg_name (i := 3) scCt.nd rfl (Or.inl rfl)) pgs_nil))))
      (pss_cons (ps_expr (pe_meth (pv 0) T.cl_Yard T.M_Yard_check_piece (ok_Yard_check_piece T) (hr.mono (by decide)) (b_Yard_check_piece T) .nil pass0 (pa_cons (pv 2) pa_nil)))
      (pss_one (ps_expr (pe_call (ok_check_end T) (hr.mono (by decide)) (by rfl) T.m_check_end T.F_check_end.kp (b_check_end T) .nil pass0 (pa_cons (pe_dget hu (pe_fld (pv 0) rfl) (pv 2) (fun _ _ => rfl)) (pa_cons (pv 3) pa_nil))))))), ?_⟩
    have gb := hH.get (j + 9) (by simpa [yL] using hj)
    refine ⟨_, rfl, b, _, rfl, SqT.of gb, rfl, _, _, rfl, _, _, rfl, rfl, ?_⟩
    refine ⟨_, rfl, A.p, A.dx, _, rfl, hH.get 1 rfl, (fl_m _ _ _).2.2.2.2.2.2.2.1, _, rfl, A, y, L, n, _, rfl, hH, hk, ?_⟩
    refine ⟨_, rfl, A.p, _, A.dx, _, _, rfl, hH.get 1 rfl, T.cl_Yard, T.n_Yard_kinds, fl_kinds _ _ _, _, rfl, A.k, _, rfl, ?_, _, rfl, k, e, rfl, e0, e1, q⟩
    rw [← hk]
    exact DGet.k (k := Sum.inl n) (hH.get 3 rfl)
theorem scMt : FnScope ["self", "end"] ["self", "end"] (defScope s_Yard_mate) := ⟨rfl, rfl, rfl, by decide +kernel, rfl, by decide +kernel, by decide +kernel⟩
theorem ok_Yard_mate (T : Txt K mg t) : FnOk P w K mg base CX0 4 t.f_Yard_mate t.d_Yard_mate ["self", "end"] (sp_mate t.c_Yard) := by
  refine T.F_Yard_mate.ok scMt (fun vs H Q E h => ?_) (fun cdv A outer s H vs Q E hr h => ?_)
  · obtain ⟨_, _, _, _, _, _, _, rfl, _⟩ := h
    rfl
  · obtain ⟨A, y, L, b, n, e, j, rfl, hH, hj, th, q⟩ := h
    have hu := hu_of hr
    refine ⟨_, (pss_cons (ps_expr (pe_meth (pv 0) T.cl_Yard T.M_Yard_check_there (ok_Yard_check_there T) (hr.mono (by decide)) (b_Yard_check_there T) .nil pass0 (pa_cons (pv 1) pa_nil)))
      (pss_one (ps_ret (pe_dget1 hu (pe_fld (pv 0) rfl) (pv 1) ⟨rfl, rfl, rfl, rfl⟩)))), ?_⟩
    have gb := hH.get (j + 9) (by simpa [yL] using hj)
    refine ⟨_, rfl, A.p, A.dx, _, rfl, hH.get 1 rfl, (fl_m2 _ _ _).1, _, rfl, A, y, L, b, n, e, j, rfl, hH, hj, th, ?_⟩
    exact ⟨_, rfl, A.p, _, A.dx, _, _, rfl, hH.get 1 rfl, T.cl_Yard, T.n_Yard_mates, fl_mates _ _ _, A.m, rfl, .inr ⟨_, .inl (hH.get 7 rfl)⟩, _, rfl, _, DGet.t (k := kE n e) (hH.get 7 rfl) gb, q⟩
theorem scLk : FnScope ["self", "one", "other", "end"] ["self", "one", "other"] (defScope s_Yard_link) := ⟨rfl, rfl, rfl, by decide +kernel, rfl, by decide +kernel, by decide +kernel⟩
theorem ok_Yard_link (T : Txt K mg t) : FnOk P w K mg base CX0 4 t.f_Yard_link t.d_Yard_link ["self", "one", "other"] (sp_link t.c_Yard) := by
  refine T.F_Yard_link.ok scLk (fun vs H Q E h => ?_) (fun cdv A outer s H vs Q E hr h => ?_)
  · obtain ⟨_, _, _, _, _, _, _, _, _, _, _, rfl, _⟩ := h
    rfl
  · obtain ⟨A, y, L, b1, b2, n1, e1, n2, e2, j1, j2, rfl, hH, hj1, hj2, t1, t2, ne, v1, v2, hl, q⟩ := h
    have hu := hu_of hr
    refine ⟨_, (pss_cons (ps_expr (pe_meth (pv 0) T.cl_Yard T.M_Yard_check_there (ok_Yard_check_there T) (hr.mono (by decide)) (b_Yard_check_there T) .nil pass0 (pa_cons (pv 1) pa_nil)))
      (pss_cons (ps_expr (pe_meth (pv 0) T.cl_Yard T.M_Yard_check_there (ok_Yard_check_there T) (hr.mono (by decide)) (b_Yard_check_there T) .nil pass0 (pa_cons (pv 2) pa_nil)))
      (pss_cons (ps_if (pt_cmpR (op_eqT hr.units) (pv 1) (pv 2) (nomark _))
        (pss_one ps_never)
        pss_nil)
      (pss_cons (ps_for PassesOwn.never rfl (pi_tup (pe_tup (pa_cons (pv 1) (pa_cons (pv 2) pa_nil)))) (pg_name (i := 3) scLk.nd rfl (Or.inl rfl))
        (pss_one (ps_if (pt_cmp (pc_din hu (pv 3) (pe_fld (pv 0) rfl)))
            (pss_one ps_never)
            pss_nil)))
      (pss_cons (ps_dput hu (pe_fld (pv 0) rfl) (pv 1) (pv 2) rfl)
      (pss_cons (ps_dput hu (pe_fld (pv 0) rfl) (pv 2) (pv 1) rfl)
      (pss_one (ps_expr (pe_meth0 (pv 0) T.cl_Yard T.M_Yard_end_trail (ok_Yard_end_trail T) (hr.mono (by decide)) (b_Yard_end_trail T) .nil pass0))))))))), ?_⟩
    have g1 := hH.get (j1 + 9) (by simpa [yL] using hj1)
    have g2 := hH.get (j2 + 9) (by simpa [yL] using hj2)
    refine ⟨_, rfl, A.p, A.dx, _, rfl, hH.get 1 rfl, (fl_m2 _ _ _).1, _, rfl, A, y, L, b1, n1, e1, j1, rfl, hH, hj1, t1, ?_⟩
    refine ⟨_, rfl, A.p, A.dx, _, rfl, hH.get 1 rfl, (fl_m2 _ _ _).1, _, rfl, A, y, L, b2, n2, e2, j2, rfl, hH, hj2, t2, ?_⟩
    have ne' : ¬ [n1, e1] = [n2, e2] := fun z => ne (by cases z; rfl)
    refine ⟨_, rfl, _, rfl, b1, b2, [n1, e1], [n2, e2], rfl, rfl, g1, g2, _, rfl, ifF (decide_eq_false ne') ?_⟩
    refine ⟨_, rfl, _, rfl, (show 2 ≤ sizeLine by decide), fun p hp => ?_⟩
    have h1 := (hH.alloc hp (.tup [.ref b1, .ref b2]))
    generalize upd H p _ = H1 at h1 ⊢
    refine ⟨p, rfl, ⟨_, SqT.of (h1.get 0 rfl)⟩, for_tup (xs := [.ref b1, .ref b2]) (fun i σ H' => H' = H1 ∧ ∃ o, σ = [some (.ref A.p), some (.ref b1), some (.ref b2), o]) ⟨rfl, _, rfl⟩ (fun i σ H' _ ⟨e, _⟩ => by rw [e]; exact SqT.of (h1.get 0 rfl)) ?_ ?_⟩
    · rintro i x σ H' hx ⟨rfl, o, rfl⟩
      have k1 := h1.get (j1 + 10) (by simpa [yL] using hj1)
      have k2 := h1.get (j2 + 10) (by simpa [yL] using hj2)
      match i, hx with
      | 0, hx =>
        cases hx
        refine ⟨_, rfl, _, rfl, A.p, _, A.dx, _, _, rfl, h1.get 2 rfl, T.cl_Yard, T.n_Yard_mates, fl_mates _ _ _, A.m, _, rfl, DGet.t (k := kE n1 e1) (h1.get 8 rfl) k1, _, rfl, ifF (by rw [v1]; rfl) ⟨rfl, _, rfl⟩⟩
      | 1, hx =>
        cases hx
        refine ⟨_, rfl, _, rfl, A.p, _, A.dx, _, _, rfl, h1.get 2 rfl, T.cl_Yard, T.n_Yard_mates, fl_mates _ _ _, A.m, _, rfl, DGet.t (k := kE n2 e2) (h1.get 8 rfl) k2, _, rfl, ifF (by rw [v2]; rfl) ⟨rfl, _, rfl⟩⟩
    · rintro σ H' ⟨rfl, o, rfl⟩
      have h2 := h1.tail
      have k1 := h2.get (j1 + 9) (by simpa [yL] using hj1)
      refine ⟨_, rfl, _, rfl, A.p, _, A.dx, _, _, rfl, h2.get 1 rfl, T.cl_Yard, T.n_Yard_mates, fl_mates _ _ _, _, rfl, A.m, _, rfl, DPut.t (k := kE n1 e1) (h2.get 7 rfl) k1 (sizeOk (by omega)), ?_⟩
      have h3 : Has _ (yL t.c_Yard A { y with mates := putK y.mates (kE n1 e1) (.ref b2) } ++ L) := h2.puti 7 rfl (.dT (putK y.mates (kE n1 e1) (.ref b2)))
      generalize upd H' A.m _ = H3 at h3 ⊢
      have k2 := h3.get (j2 + 9) (by simpa [yL] using hj2)
      refine ⟨_, rfl, _, rfl, A.p, _, A.dx, _, _, rfl, h3.get 1 rfl, T.cl_Yard, T.n_Yard_mates, fl_mates _ _ _, _, rfl, A.m, _, rfl, DPut.t (k := kE n2 e2) (h3.get 7 rfl) k2 (sizeOk (Nat.le_trans (length_putK _ _ _) (by omega))), ?_⟩
      have h4 : Has _ (yL t.c_Yard A { y with mates := putK (putK y.mates (kE n1 e1) (.ref b2)) (kE n2 e2) (.ref b1) } ++ L) := h3.puti 7 rfl (.dT (putK (putK y.mates (kE n1 e1) (.ref b2)) (kE n2 e2) (.ref b1)))
      exact ⟨_, rfl, A.p, A.dx, _, rfl, h4.get 1 rfl, (fl_m _ _ _).2.2.2.2.2.2.1, A, _, L, rfl, h4, fun H' a h2 => q H' a h2⟩
theorem scUl : FnScope ["self", "end", "other"] ["self", "end"] (defScope s_Yard_unlink) := ⟨rfl, rfl, rfl, by decide +kernel, rfl, by decide +kernel, by decide +kernel⟩
theorem ok_Yard_unlink (T : Txt K mg t) : FnOk P w K mg base CX0 4 t.f_Yard_unlink t.d_Yard_unlink ["self", "end"] (sp_unlink t.c_Yard) := by
  refine T.F_Yard_unlink.ok scUl (fun vs H Q E h => ?_) (fun cdv A outer s H vs Q E hr h => ?_)
  · obtain ⟨_, _, _, _, _, _, _, _, _, _, _, _, rfl, _⟩ := h
    rfl
  · obtain ⟨A, y, L, b1, b2, n1, e1, n2, e2, j1, j2, v, rfl, hH, hj1, hj2, t1, ne, v1, v2, q⟩ := h
    have hu := hu_of hr
    refine ⟨_, (pss_cons (ps_expr (pe_meth (pv 0) T.cl_Yard T.M_Yard_check_there (ok_Yard_check_there T) (hr.mono (by decide)) (b_Yard_check_there T) .nil pass0 (pa_cons (pv 1) pa_nil)))
      (pss_cons (ps_if (pt_cmp (pc_dnotin hu (pv 1) (pe_fld (pv 0) rfl)))
        (pss_one ps_never)
        pss_nil)
      (pss_cons (ps_set (i := 2) scUl.nd rfl (Or.inl rfl) (pe_dget hu (pe_fld (pv 0) rfl) (pv 1) (fun _ _ => rfl)))
      (pss_cons (ps_ddelT hu (pe_fld (pv 0) rfl) (pv 1))
      (pss_cons (ps_ddelT hu (pe_fld (pv 0) rfl) (pv 2))
      (pss_one (ps_expr (pe_meth0 (pv 0) T.cl_Yard T.M_Yard_end_trail (ok_Yard_end_trail T) (hr.mono (by decide)) (b_Yard_end_trail T) .nil pass0)))))))), ?_⟩
    have g1 := hH.get (j1 + 9) (by simpa [yL] using hj1)
    have g2 := hH.get (j2 + 9) (by simpa [yL] using hj2)
    refine ⟨_, rfl, A.p, A.dx, _, rfl, hH.get 1 rfl, (fl_m2 _ _ _).1, _, rfl, A, y, L, b1, n1, e1, j1, rfl, hH, hj1, t1, ?_⟩
    refine ⟨_, rfl, _, rfl, A.p, _, A.dx, _, _, rfl, hH.get 1 rfl, T.cl_Yard, T.n_Yard_mates, fl_mates _ _ _, A.m, _, rfl, DGet.t (k := kE n1 e1) (hH.get 7 rfl) g1, _, rfl, ifF (by rw [v1]; rfl) ?_⟩
    refine ⟨_, rfl, A.p, _, A.dx, _, _, rfl, hH.get 1 rfl, T.cl_Yard, T.n_Yard_mates, fl_mates _ _ _, _, rfl, A.m, .ref b2, rfl, ?_, ?_⟩
    · rw [← v1]; exact DGet.t (k := kE n1 e1) (hH.get 7 rfl) g1
    refine ⟨_, rfl, A.p, _, A.dx, _, _, rfl, hH.get 1 rfl, T.cl_Yard, T.n_Yard_mates, fl_mates _ _ _, _, rfl, A.m, b1, _, kE n1 e1, _, rfl, rfl, hH.get 7 rfl, g1, v1, ?_⟩
    have h3 : Has _ (yL t.c_Yard A { y with mates := dropK y.mates (kE n1 e1) } ++ L) := hH.puti 7 rfl (.dT (dropK y.mates (kE n1 e1)))
    generalize upd H A.m _ = H3 at h3 ⊢
    have k2 := h3.get (j2 + 9) (by simpa [yL] using hj2)
    refine ⟨_, rfl, A.p, _, A.dx, _, _, rfl, h3.get 1 rfl, T.cl_Yard, T.n_Yard_mates, fl_mates _ _ _, _, rfl, A.m, b2, _, kE n2 e2, v, rfl, rfl, h3.get 7 rfl, k2, (by rw [← v2]; exact valV_drop ne), ?_⟩
    have h4 : Has _ (yL t.c_Yard A { y with mates := dropK (dropK y.mates (kE n1 e1)) (kE n2 e2) } ++ L) := h3.puti 7 rfl (.dT (dropK (dropK y.mates (kE n1 e1)) (kE n2 e2)))
    exact ⟨_, rfl, A.p, A.dx, _, rfl, h4.get 1 rfl, (fl_m _ _ _).2.2.2.2.2.2.1, A, _, L, rfl, h4, fun H' a h2 => q H' a h2⟩
end

theorem fl_m4 (A : YA) (next : Int) (eng : V) : (fl A next eng).lookup ("put" : Str) = none ∧ (fl A next eng).lookup ("off" : Str) = none ∧ (fl A next eng).lookup ("carry" : Str) = none ∧ (fl A next eng).lookup ("pieces" : Str) = none ∧ (fl A next eng).lookup ("kind" : Str) = none ∧
    (fl A next eng).lookup ("note" : Str) = none ∧ (fl A next eng).lookup ("engine" : Str) = none ∧ (fl A next eng).lookup ("bells" : Str) = none ∧ (fl A next eng).lookup ("steps" : Str) = none :=
  ⟨by kernel_rfl, by kernel_rfl, by kernel_rfl, by kernel_rfl, by kernel_rfl, by kernel_rfl, by kernel_rfl, by kernel_rfl, by kernel_rfl⟩
def sp_put (C : Addr) : Sp := fun vs H Q _ => ∃ (A : YA) (y : YR) (L : Kn) (b : Addr) (n e : Int) (j : Nat), vs = [.ref A.p, .ref b] ∧ Has H (yL C A y ++ L) ∧ L[j]? = some (b, .tup [.int n, .int e]) ∧ There y n e ∧
  ∀ H' q, Has H' (yL C { A with tr := q } { y with eng := .ref b, trail := [] } ++ L) → Q .non H'
def sp_off (C : Addr) : Sp := fun vs H Q _ => ∃ (A : YA) (y : YR) (L : Kn), vs = [.ref A.p] ∧ Has H (yL C A y ++ L) ∧ ∀ H' q, Has H' (yL C { A with tr := q } { y with eng := .non, trail := [] } ++ L) → Q .non H'
def sp_engine (C : Addr) : Sp := fun vs H Q _ => ∃ (A : YA) (y : YR) (L : Kn), vs = [.ref A.p] ∧ Has H (yL C A y ++ L) ∧ Q y.eng H
def sp_bells (C : Addr) : Sp := fun vs H Q _ => ∃ (A : YA) (y : YR) (L : Kn), vs = [.ref A.p] ∧ Has H (yL C A y ++ L) ∧ ∀ H' l, Has H' ((l, .lst y.rung) :: (yL C A y ++ L)) → Q (.ref l) H'
def sp_pieces (C : Addr) : Sp := fun vs H Q _ => ∃ (A : YA) (y : YR) (L : Kn), vs = [.ref A.p] ∧ Has H (yL C A y ++ L) ∧ ∀ H' l, Has H' ((l, .lst (y.kinds.map fun kv => kV kv.1)) :: (yL C A y ++ L)) → Q (.ref l) H'
def sp_ykind (C : Addr) : Sp := fun vs H Q _ => ∃ (A : YA) (y : YR) (L : Kn) (n : Int) (v : V), vs = [.ref A.p, .int n] ∧ Has H (yL C A y ++ L) ∧ valV y.kinds (Sum.inl n) = some v ∧ Q v H
def sp_ynote (C : Addr) : Sp := fun vs H Q _ => ∃ (A : YA) (y : YR) (L : Kn) (n : Int) (u v : V), vs = [.ref A.p, .int n] ∧ Has H (yL C A y ++ L) ∧ valV y.kinds (Sum.inl n) = some u ∧ valV y.notes (Sum.inl n) = some v ∧ Q v H
section
variable {P : Program} {w : World} {K : PySem.W.Frag} {mg : Str → Option Value} {base : Heap} {t : Adr}
theorem scPu : FnScope ["self", "end"] ["self", "end"] (defScope s_Yard_put) := ⟨rfl, rfl, rfl, by decide +kernel, rfl, by decide +kernel, by decide +kernel⟩
theorem ok_Yard_put (T : Txt K mg t) : FnOk P w K mg base CX0 4 t.f_Yard_put t.d_Yard_put ["self", "end"] (sp_put t.c_Yard) := by
  refine T.F_Yard_put.ok scPu (fun vs H Q E h => ?_) (fun cdv A outer s H vs Q E hr h => ?_)
  · obtain ⟨_, _, _, _, _, _, _, rfl, _⟩ := h
    rfl
  · obtain ⟨A, y, L, b, n, e, j, rfl, hH, hj, th, q⟩ := h
    refine ⟨_, (pss_cons (ps_expr (pe_meth (pv 0) T.cl_Yard T.M_Yard_check_there (ok_Yard_check_there T) (hr.mono (by decide)) (b_Yard_check_there T) .nil pass0 (pa_cons (pv 1) pa_nil)))
      (pss_cons (ps_fld (pv 0) (pv 1) rfl)
      (pss_one (ps_expr (pe_meth0 (pv 0) T.cl_Yard T.M_Yard_end_trail (ok_Yard_end_trail T) (hr.mono (by decide)) (b_Yard_end_trail T) .nil pass0))))), ?_⟩
    refine ⟨_, rfl, A.p, A.dx, _, rfl, hH.get 1 rfl, (fl_m2 _ _ _).1, _, rfl, A, y, L, b, n, e, j, rfl, hH, hj, th, ?_⟩
    refine ⟨_, rfl, _, rfl, A.p, _, A.dx, _, rfl, hH.get 1 rfl, T.cl_Yard, T.n_Yard_engine_end, (show 9 < 1000 by decide), ?_⟩
    rw [fl_put_eng]
    have h1 : Has _ (yL t.c_Yard A { y with eng := .ref b } ++ L) := hH.puti 1 rfl (.ins t.c_Yard A.dx (fl A y.next (.ref b)))
    exact ⟨_, rfl, A.p, A.dx, _, rfl, h1.get 1 rfl, (fl_m _ _ _).2.2.2.2.2.2.1, A, _, L, rfl, h1, fun H' a h2 => q H' a h2⟩
theorem scOf : FnScope ["self"] ["self"] (defScope s_Yard_off) := ⟨rfl, rfl, rfl, by decide +kernel, rfl, by decide +kernel, by decide +kernel⟩
theorem ok_Yard_off (T : Txt K mg t) : FnOk P w K mg base CX0 2 t.f_Yard_off t.d_Yard_off ["self"] (sp_off t.c_Yard) := by
  refine T.F_Yard_off.ok scOf (fun vs H Q E h => ?_) (fun cdv A outer s H vs Q E hr h => ?_)
  · obtain ⟨_, _, _, rfl, _⟩ := h
    rfl
  · obtain ⟨A, y, L, rfl, hH, q⟩ := h
    refine ⟨_, (pss_cons (ps_fld (pv 0) pe_non rfl)
      (pss_one (ps_expr (pe_meth0 (pv 0) T.cl_Yard T.M_Yard_end_trail (ok_Yard_end_trail T) (hr.mono (by decide)) (b_Yard_end_trail T) .nil pass0)))), ?_⟩
    refine ⟨_, rfl, A.p, _, A.dx, _, rfl, hH.get 1 rfl, T.cl_Yard, T.n_Yard_engine_end, (show 9 < 1000 by decide), ?_⟩
    rw [fl_put_eng]
    have h1 : Has _ (yL t.c_Yard A { y with eng := .non } ++ L) := hH.puti 1 rfl (.ins t.c_Yard A.dx (fl A y.next .non))
    exact ⟨_, rfl, A.p, A.dx, _, rfl, h1.get 1 rfl, (fl_m _ _ _).2.2.2.2.2.2.1, A, _, L, rfl, h1, fun H' a h2 => q H' a h2⟩
theorem scEg : FnScope ["self"] ["self"] (defScope s_Yard_engine) := ⟨rfl, rfl, rfl, by decide +kernel, rfl, by decide +kernel, by decide +kernel⟩
theorem ok_Yard_engine (T : Txt K mg t) : FnOk P w K mg base CX0 1 t.f_Yard_engine t.d_Yard_engine ["self"] (sp_engine t.c_Yard) := by
  refine T.F_Yard_engine.ok scEg (fun vs H Q E h => ?_) (fun cdv A outer s H vs Q E hr h => ?_)
  · obtain ⟨_, _, _, rfl, _⟩ := h
    rfl
  · obtain ⟨A, y, L, rfl, hH, q⟩ := h
    refine ⟨_, (pss_one (ps_ret (pe_fld (pv 0) rfl))), ?_⟩
    exact ⟨_, rfl, A.p, _, A.dx, _, _, rfl, hH.get 1 rfl, T.cl_Yard, T.n_Yard_engine_end, fl_eng _ _ _, q⟩
theorem scBe : FnScope ["self"] ["self"] (defScope s_Yard_bells) := ⟨rfl, rfl, rfl, by decide +kernel, rfl, by decide +kernel, by decide +kernel⟩
theorem ok_Yard_bells (T : Txt K mg t) : FnOk P w K mg base CX0 1 t.f_Yard_bells t.d_Yard_bells ["self"] (sp_bells t.c_Yard) := by
  refine T.F_Yard_bells.ok scBe (fun vs H Q E h => ?_) (fun cdv A outer s H vs Q E hr h => ?_)
  · obtain ⟨_, _, _, rfl, _⟩ := h
    rfl
  · obtain ⟨A, y, L, rfl, hH, q⟩ := h
    refine ⟨_, (pss_one (ps_ret (pe_callTy call_list_of (by rfl) T.z_list (by rfl) (pa_cons (pe_fld (pv 0) rfl) pa_nil)))), ?_⟩
    exact ⟨_, rfl, A.p, _, A.dx, _, _, rfl, hH.get 1 rfl, T.cl_Yard, T.n_Yard_rung, fl_rung _ _ _, A.g, _, rfl, .inl (SqL.of (hH.get 8 rfl)), fun l hl => q _ l (hH.alloc hl _)⟩
theorem scPc : FnScope ["self"] ["self"] (defScope s_Yard_pieces) := ⟨rfl, rfl, rfl, by decide +kernel, rfl, by decide +kernel, by decide +kernel⟩
theorem ok_Yard_pieces (T : Txt K mg t) : FnOk P w K mg base CX0 1 t.f_Yard_pieces t.d_Yard_pieces ["self"] (sp_pieces t.c_Yard) := by
  refine T.F_Yard_pieces.ok scPc (fun vs H Q E h => ?_) (fun cdv A outer s H vs Q E hr h => ?_)
  · obtain ⟨_, _, _, rfl, _⟩ := h
    rfl
  · obtain ⟨A, y, L, rfl, hH, q⟩ := h
    refine ⟨_, (pss_one (ps_ret (pe_callTy (call_list_dK rfl) (by rfl) T.z_list (by rfl) (pa_cons (pe_fld (pv 0) rfl) pa_nil)))), ?_⟩
    exact ⟨_, rfl, A.p, _, A.dx, _, _, rfl, hH.get 1 rfl, T.cl_Yard, T.n_Yard_kinds, fl_kinds _ _ _, A.k, _, rfl, .inl (hH.get 3 rfl), fun l hl => q _ l (hH.alloc hl _)⟩
theorem scYk : FnScope ["self", "piece"] ["self", "piece"] (defScope s_Yard_kind) := ⟨rfl, rfl, rfl, by decide +kernel, rfl, by decide +kernel, by decide +kernel⟩
theorem ok_Yard_kind (T : Txt K mg t) : FnOk P w K mg base CX0 2 t.f_Yard_kind t.d_Yard_kind ["self", "piece"] (sp_ykind t.c_Yard) := by
  refine T.F_Yard_kind.ok scYk (fun vs H Q E h => ?_) (fun cdv A outer s H vs Q E hr h => ?_)
  · obtain ⟨_, _, _, _, _, rfl, _⟩ := h
    rfl
  · obtain ⟨A, y, L, n, v, rfl, hH, hv, q⟩ := h
    have hu := hu_of hr
    refine ⟨_, (pss_cons (ps_expr (pe_meth (pv 0) T.cl_Yard T.M_Yard_check_piece (ok_Yard_check_piece T) (hr.mono (by decide)) (b_Yard_check_piece T) .nil pass0 (pa_cons (pv 1) pa_nil)))
      (pss_one (ps_ret (pe_dget hu (pe_fld (pv 0) rfl) (pv 1) (fun _ _ => rfl))))), ?_⟩
    refine ⟨_, rfl, A.p, A.dx, _, rfl, hH.get 1 rfl, (fl_m _ _ _).2.2.2.2.2.2.2.1, _, rfl, A, y, L, n, v, rfl, hH, hv, ?_⟩
    refine ⟨_, rfl, A.p, _, A.dx, _, _, rfl, hH.get 1 rfl, T.cl_Yard, T.n_Yard_kinds, fl_kinds _ _ _, _, rfl, A.k, _, rfl, ?_, q⟩
    rw [← hv]
    exact DGet.k (k := Sum.inl n) (hH.get 3 rfl)
theorem scYn : FnScope ["self", "piece"] ["self", "piece"] (defScope s_Yard_note) := ⟨rfl, rfl, rfl, by decide +kernel, rfl, by decide +kernel, by decide +kernel⟩
theorem ok_Yard_note (T : Txt K mg t) : FnOk P w K mg base CX0 2 t.f_Yard_note t.d_Yard_note ["self", "piece"] (sp_ynote t.c_Yard) := by
  refine T.F_Yard_note.ok scYn (fun vs H Q E h => ?_) (fun cdv A outer s H vs Q E hr h => ?_)
  · obtain ⟨_, _, _, _, _, _, rfl, _⟩ := h
    rfl
  · obtain ⟨A, y, L, n, u, v, rfl, hH, hk, hv, q⟩ := h
    have hu := hu_of hr
    refine ⟨_, (pss_cons (ps_expr (pe_meth (pv 0) T.cl_Yard T.M_Yard_check_piece (ok_Yard_check_piece T) (hr.mono (by decide)) (b_Yard_check_piece T) .nil pass0 (pa_cons (pv 1) pa_nil)))
      (pss_cons (ps_if (pt_cmp (pc_dnotin hu (pv 1) (pe_fld (pv 0) rfl)))
        (pss_one ps_never)
        pss_nil)
      (pss_one (ps_ret (pe_dget hu (pe_fld (pv 0) rfl) (pv 1) (fun _ _ => rfl)))))), ?_⟩
    refine ⟨_, rfl, A.p, A.dx, _, rfl, hH.get 1 rfl, (fl_m _ _ _).2.2.2.2.2.2.2.1, _, rfl, A, y, L, n, u, rfl, hH, hk, ?_⟩
    refine ⟨_, rfl, _, rfl, A.p, _, A.dx, _, _, rfl, hH.get 1 rfl, T.cl_Yard, T.n_Yard_notes, fl_notes _ _ _, A.n, _, rfl, DGet.k (k := Sum.inl n) (hH.get 4 rfl), _, rfl, ifF (by rw [hv]; rfl) ?_⟩
    refine ⟨_, rfl, A.p, _, A.dx, _, _, rfl, hH.get 1 rfl, T.cl_Yard, T.n_Yard_notes, fl_notes _ _ _, _, rfl, A.n, _, rfl, ?_, q⟩
    rw [← hv]
    exact DGet.k (k := Sum.inl n) (hH.get 4 rfl)
end

def badK (y : Str) : Prop := (endsD.any fun p => decide (y = p.1)) = false
def spR_ends_of (C : Addr) : Sp := fun vs H Q E => ∃ y : Str, vs = [.str y] ∧ badK y ∧ (reprText y).length ≤ 1000 ∧ ∀ a, E (.ref C) (some a) H
def spR_check_end (CK CE : Addr) : Sp := fun vs H Q E => ∃ (y : Str) (e : Int), vs = [.str y, .int e] ∧ ((badK y ∧ (reprText y).length ≤ 1000 ∧ ∀ a, E (.ref CK) (some a) H) ∨ ∃ k : Kd, y = k.str ∧ (e < 0 ∨ k.many ≤ e) ∧ L2.Small e ∧ ∀ a, E (.ref CE) (some a) H)
theorem Kd.len (k : Kd) : k.str.length ≤ 7 ∧ 4 ≤ k.str.length := by cases k <;> decide +kernel
section
variable {P : Program} {w : World} {K : PySem.W.Frag} {mg : Str → Option Value} {base : Heap} {t : Adr}
theorem okR_ends_of (T : Txt K mg t) : FnOk P w K mg base (CXr P w) 1 t.f_ends_of t.d_ends_of ["kind"] (spR_ends_of t.c_NoKind) := by
  refine T.F_ends_of.okR scEo (fun vs H Q E h => ?_) (fun cdv A outer s H vs Q E hr h => ?_)
  · obtain ⟨_, rfl, _⟩ := h
    rfl
  · obtain ⟨y, rfl, hb, hy, q⟩ := h
    obtain ⟨aE, eE, hE⟩ := T.x_ENDS
    have T_r_ENDS : RelV (.ref aE) t.u_ENDS := by rw [eE]; rfl
    refine ⟨_, (pss_cons (ps_if (pt_cmpR op_notInK (pv 0) (pe_glob (by rfl) T.g_ENDS T_r_ENDS) (by rfl))
        (pss_one (ps_raise raisesR rfl (by rfl) T.m_NoKind (excAll_in T.x_NoKind) (pe_joined (pj_cons pe_str (pj_cons (pe_fmtR (pv 0)) pj_nil)))))
        pss_nil)
      (pss_one (ps_ret (pe_ix ix_K (pe_glob (by rfl) T.g_ENDS T_r_ENDS) (pv 0) (fun _ _ => rfl))))), ?_⟩
    refine ⟨_, rfl, _, aE, endsD, rfl, rfl, hE, _, rfl, ?_⟩
    rw [show (endsD.any fun p => decide (y = p.1)) = false from hb]
    exact iteT (rzR rfl hy q)
theorem okB_ends_of (T : Txt K mg t) : FnOk P w K mg base (CXr P w) 1 t.f_ends_of t.d_ends_of ["kind"] (fun vs H Q E => sp_ends_of vs H Q E ∨ spR_ends_of t.c_NoKind vs H Q E) := (ok_ends_of T).lift.or (okR_ends_of T)
theorem okR_check_end (T : Txt K mg t) : FnOk P w K mg base (CXr P w) 2 t.f_check_end t.d_check_end ["kind", "end"] (spR_check_end t.c_NoKind t.c_NoEnd) := by
  refine T.F_check_end.okR scCe (fun vs H Q E h => ?_) (fun cdv A outer s H vs Q E hr h => ?_)
  · obtain ⟨_, _, rfl, _⟩ := h
    rfl
  · obtain ⟨y, e, rfl, h⟩ := h
    refine ⟨_, (pss_cons (ps_set (i := 2) scCe.nd rfl (Or.inl rfl) (pe_call (okB_ends_of T) (hr.mono (by decide)) (by rfl) T.m_ends_of T.F_ends_of.kp (b_ends_of T) .nil passR (pa_cons (pv 0) pa_nil)))
      (pss_one (ps_if (PW.pt (pw_or (pt_cmpR op_lt (pv 1) pe_int (nomark _)) (pw_or1 (pt_cmpR op_ge (pv 1) (pv 2) (nomark _)))))
        (pss_one (ps_raise raisesR rfl (by rfl) T.m_NoEnd (excAll_in T.x_NoEnd) (pe_joined (pj_cons pe_str (pj_cons (pe_fmt (pv 0)) (pj_cons pe_str (pj_cons (pe_fmt (pv 1)) pj_nil)))))))
        pss_nil))), ?_⟩
    rcases h with ⟨hb, hy, q⟩ | ⟨k, rfl, he, hs, q⟩
    · exact ⟨_, rfl, .inr ⟨y, rfl, hb, hy, q⟩⟩
    · refine ⟨_, rfl, .inl ⟨k, rfl, ?_⟩⟩
      have hl : k.str.length ≤ 1000 := Nat.le_trans k.len.1 (by decide)
      by_cases h0 : e < 0
      · exact ⟨_, rfl, _, _, rfl, rfl, _, rfl, ifT (decide_eq_true h0) (iteT (rz2 rfl hl rfl hs q))⟩
      · refine ⟨_, rfl, _, _, rfl, rfl, _, rfl, ifF (decide_eq_false h0) ?_⟩
        exact ⟨_, rfl, _, rfl, _, _, rfl, rfl, _, rfl, ifT (decide_eq_true (by omega)) (rz2 rfl hl rfl hs q)⟩
theorem okB_check_end (T : Txt K mg t) : FnOk P w K mg base (CXr P w) 2 t.f_check_end t.d_check_end ["kind", "end"] (fun vs H Q E => sp_check_end vs H Q E ∨ spR_check_end t.c_NoKind t.c_NoEnd vs H Q E) := (ok_check_end T).lift.or (okR_check_end T)
end

end P


set_option Elab.async false
set_option linter.all false
set_option maxRecDepth 100000
set_option maxHeartbeats 4000000
namespace P
open PySem L2

def NoThere (P E : Addr) (y : YR) (n e : Int) (X : XK) (H : Hp) : Prop :=
  (valV y.kinds (Sum.inl n) = none ∧ L2.Small n ∧ ∀ a, X (.ref P) (some a) H) ∨ ∃ k : Kd, valV y.kinds (Sum.inl n) = some (.str k.str) ∧ (e < 0 ∨ k.many ≤ e) ∧ L2.Small e ∧ ∀ a, X (.ref E) (some a) H
def spR_check_piece (C X : Addr) : Sp := fun vs H _ E => ∃ (A : YA) (y : YR) (L : Kn) (n : Int), vs = [.ref A.p, .int n] ∧ Has H (yL C A y ++ L) ∧ valV y.kinds (Sum.inl n) = none ∧ L2.Small n ∧ ∀ a, E (.ref X) (some a) H
def spR_there (C P X : Addr) : Sp := fun vs H _ E => ∃ (A : YA) (y : YR) (L : Kn) (b : Addr) (n e : Int) (j : Nat), vs = [.ref A.p, .ref b] ∧ Has H (yL C A y ++ L) ∧ L[j]? = some (b, .tup [.int n, .int e]) ∧ NoThere P X y n e E H
section
variable {P : Program} {w : World} {K : PySem.W.Frag} {mg : Str → Option Value} {base : Heap} {t : Adr}
theorem okR_Yard_check_piece (T : Txt K mg t) : FnOk P w K mg base (CXr P w) 1 t.f_Yard_check_piece t.d_Yard_check_piece ["self", "piece"] (spR_check_piece t.c_Yard t.c_NoPiece) := by
  refine T.F_Yard_check_piece.okR scCp (fun vs H Q E h => ?_) (fun cdv A outer s H vs Q E hr h => ?_)
  · obtain ⟨_, _, _, _, rfl, _⟩ := h
    rfl
  · obtain ⟨A, y, L, n, rfl, hH, hv, hs, q⟩ := h
    have hu := hu_of hr
    refine ⟨_, (pss_one (ps_if (pt_cmp (pc_dnotin hu (pv 1) (pe_fld (pv 0) rfl)))
        (pss_one (ps_raise raisesR rfl (by rfl) T.m_NoPiece (excAll_in T.x_NoPiece) (pe_joined (pj_cons pe_str (pj_cons (pe_fmt (pv 1)) pj_nil)))))
        pss_nil)), ?_⟩
    refine ⟨_, rfl, _, rfl, A.p, _, A.dx, _, _, rfl, hH.get 1 rfl, T.cl_Yard, T.n_Yard_kinds, fl_kinds _ _ _, A.k, _, rfl, DGet.k (k := Sum.inl n) (hH.get 3 rfl), _, rfl, ?_⟩
    exact ifT (by rw [hv]; rfl) (rz1 rfl hs q)
theorem okB_Yard_check_piece (T : Txt K mg t) : FnOk P w K mg base (CXr P w) 1 t.f_Yard_check_piece t.d_Yard_check_piece ["self", "piece"] (fun vs H Q E => sp_check_piece t.c_Yard vs H Q E ∨ spR_check_piece t.c_Yard t.c_NoPiece vs H Q E) := (ok_Yard_check_piece T).lift.or (okR_Yard_check_piece T)
theorem okR_Yard_check_there (T : Txt K mg t) : FnOk P w K mg base (CXr P w) 3 t.f_Yard_check_there t.d_Yard_check_there ["self", "end"] (spR_there t.c_Yard t.c_NoPiece t.c_NoEnd) := by
  refine T.F_Yard_check_there.okR scCt (fun vs H Q E h => ?_) (fun cdv A outer s H vs Q E hr h => ?_)
  · obtain ⟨_, _, _, _, _, _, _, rfl, _⟩ := h
    rfl
  · obtain ⟨A, y, L, b, n, e, j, rfl, hH, hj, hN⟩ := h
    have hu := hu_of hr
    refine ⟨_, (pss_cons (ps_asg (pv 1) (pg_tup rfl (pgs_cons (pg_name (i := 2) scCt.nd rfl (Or.inl rfl)) (pgs_cons (pg_name (i := 3) scCt.nd rfl (Or.inl rfl)) pgs_nil))))
      (pss_cons (ps_expr (pe_meth (pv 0) T.cl_Yard T.M_Yard_check_piece (okB_Yard_check_piece T) (hr.mono (by decide)) (b_Yard_check_piece T) .nil passR (pa_cons (pv 2) pa_nil)))
      (pss_one (ps_expr (pe_call (okB_check_end T) (hr.mono (by decide)) (by rfl) T.m_check_end T.F_check_end.kp (b_check_end T) .nil passR (pa_cons (pe_dget hu (pe_fld (pv 0) rfl) (pv 2) (fun _ _ => rfl)) (pa_cons (pv 3) pa_nil))))))), ?_⟩
    have gb := hH.get (j + 9) (by simpa [yL] using hj)
    refine ⟨_, rfl, b, _, rfl, SqT.of gb, rfl, _, _, rfl, _, _, rfl, rfl, ?_⟩
    rcases hN with ⟨hv, hs, q⟩ | ⟨k, hk, he, hs, q⟩
    · exact ⟨_, rfl, A.p, A.dx, _, rfl, hH.get 1 rfl, (fl_m _ _ _).2.2.2.2.2.2.2.1, _, rfl, .inr ⟨A, y, L, n, rfl, hH, hv, hs, q⟩⟩
    · refine ⟨_, rfl, A.p, A.dx, _, rfl, hH.get 1 rfl, (fl_m _ _ _).2.2.2.2.2.2.2.1, _, rfl, .inl ⟨A, y, L, n, _, rfl, hH, hk, ?_⟩⟩
      refine ⟨_, rfl, A.p, _, A.dx, _, _, rfl, hH.get 1 rfl, T.cl_Yard, T.n_Yard_kinds, fl_kinds _ _ _, _, rfl, A.k, _, rfl, (by rw [← hk]; exact DGet.k (k := Sum.inl n) (hH.get 3 rfl)), _, rfl, .inr ⟨k.str, e, rfl, .inr ⟨k, rfl, he, hs, q⟩⟩⟩
theorem okB_Yard_check_there (T : Txt K mg t) : FnOk P w K mg base (CXr P w) 3 t.f_Yard_check_there t.d_Yard_check_there ["self", "end"] (fun vs H Q E => sp_check_there t.c_Yard vs H Q E ∨ spR_there t.c_Yard t.c_NoPiece t.c_NoEnd vs H Q E) := (ok_Yard_check_there T).lift.or (okR_Yard_check_there T)
theorem okR_Yard_kind (T : Txt K mg t) : FnOk P w K mg base (CXr P w) 2 t.f_Yard_kind t.d_Yard_kind ["self", "piece"] (spR_check_piece t.c_Yard t.c_NoPiece) := by
  refine T.F_Yard_kind.okR scYk (fun vs H Q E h => ?_) (fun cdv A outer s H vs Q E hr h => ?_)
  · obtain ⟨_, _, _, _, rfl, _⟩ := h
    rfl
  · obtain ⟨A, y, L, n, rfl, hH, hv, hs, q⟩ := h
    have hu := hu_of hr
    refine ⟨_, (pss_cons (ps_expr (pe_meth (pv 0) T.cl_Yard T.M_Yard_check_piece (okB_Yard_check_piece T) (hr.mono (by decide)) (b_Yard_check_piece T) .nil passR (pa_cons (pv 1) pa_nil)))
      (pss_one (ps_ret (pe_dget hu (pe_fld (pv 0) rfl) (pv 1) (fun _ _ => rfl))))), ?_⟩
    exact ⟨_, rfl, A.p, A.dx, _, rfl, hH.get 1 rfl, (fl_m _ _ _).2.2.2.2.2.2.2.1, _, rfl, .inr ⟨A, y, L, n, rfl, hH, hv, hs, q⟩⟩
theorem okR_Yard_note (T : Txt K mg t) : FnOk P w K mg base (CXr P w) 2 t.f_Yard_note t.d_Yard_note ["self", "piece"] (spR_check_piece t.c_Yard t.c_NoPiece) := by
  refine T.F_Yard_note.okR scYn (fun vs H Q E h => ?_) (fun cdv A outer s H vs Q E hr h => ?_)
  · obtain ⟨_, _, _, _, rfl, _⟩ := h
    rfl
  · obtain ⟨A, y, L, n, rfl, hH, hv, hs, q⟩ := h
    have hu := hu_of hr
    refine ⟨_, (pss_cons (ps_expr (pe_meth (pv 0) T.cl_Yard T.M_Yard_check_piece (okB_Yard_check_piece T) (hr.mono (by decide)) (b_Yard_check_piece T) .nil passR (pa_cons (pv 1) pa_nil)))
      (pss_cons (ps_if (pt_cmp (pc_dnotin hu (pv 1) (pe_fld (pv 0) rfl)))
        (pss_one (ps_raise raisesR rfl (by rfl) T.m_NoBell (excAll_in T.x_NoBell) (pe_joined (pj_cons pe_str (pj_cons (pe_fmt (pv 1)) (pj_cons pe_str pj_nil))))))
        pss_nil)
      (pss_one (ps_ret (pe_dget hu (pe_fld (pv 0) rfl) (pv 1) (fun _ _ => rfl)))))), ?_⟩
    exact ⟨_, rfl, A.p, A.dx, _, rfl, hH.get 1 rfl, (fl_m _ _ _).2.2.2.2.2.2.2.1, _, rfl, .inr ⟨A, y, L, n, rfl, hH, hv, hs, q⟩⟩
theorem okR_Yard_rod (T : Txt K mg t) : FnOk P w K mg base (CXr P w) 2 t.f_Yard_rod t.d_Yard_rod ["self", "piece"] (spR_check_piece t.c_Yard t.c_NoPiece) := by
  refine T.F_Yard_rod.okR scRo (fun vs H Q E h => ?_) (fun cdv A outer s H vs Q E hr h => ?_)
  · obtain ⟨_, _, _, _, rfl, _⟩ := h
    rfl
  · obtain ⟨A, y, L, n, rfl, hH, hv, hs, q⟩ := h
    have hu := hu_of hr
    refine ⟨_, (pss_cons (ps_expr (pe_meth (pv 0) T.cl_Yard T.M_Yard_check_piece (okB_Yard_check_piece T) (hr.mono (by decide)) (b_Yard_check_piece T) .nil passR (pa_cons (pv 1) pa_nil)))
      (pss_cons (ps_if (pt_cmp (pc_dnotin hu (pv 1) (pe_fld (pv 0) rfl)))
        (pss_one (ps_raise raisesR rfl (by rfl) T.m_NoPoint (excAll_in T.x_NoPoint) (pe_joined (pj_cons pe_str (pj_cons (pe_fmt (pv 1)) (pj_cons pe_str pj_nil))))))
        pss_nil)
      (pss_one (ps_ret (pe_dget hu (pe_fld (pv 0) rfl) (pv 1) (fun _ _ => rfl)))))), ?_⟩
    exact ⟨_, rfl, A.p, A.dx, _, rfl, hH.get 1 rfl, (fl_m _ _ _).2.2.2.2.2.2.2.1, _, rfl, .inr ⟨A, y, L, n, rfl, hH, hv, hs, q⟩⟩
theorem okR_Yard_mate (T : Txt K mg t) : FnOk P w K mg base (CXr P w) 4 t.f_Yard_mate t.d_Yard_mate ["self", "end"] (spR_there t.c_Yard t.c_NoPiece t.c_NoEnd) := by
  refine T.F_Yard_mate.okR scMt (fun vs H Q E h => ?_) (fun cdv A outer s H vs Q E hr h => ?_)
  · obtain ⟨_, _, _, _, _, _, _, rfl, _⟩ := h
    rfl
  · obtain ⟨A, y, L, b, n, e, j, rfl, hH, hj, hN⟩ := h
    have hu := hu_of hr
    refine ⟨_, (pss_cons (ps_expr (pe_meth (pv 0) T.cl_Yard T.M_Yard_check_there (okB_Yard_check_there T) (hr.mono (by decide)) (b_Yard_check_there T) .nil passR (pa_cons (pv 1) pa_nil)))
      (pss_one (ps_ret (pe_dget1 hu (pe_fld (pv 0) rfl) (pv 1) ⟨rfl, rfl, rfl, rfl⟩)))), ?_⟩
    exact ⟨_, rfl, A.p, A.dx, _, rfl, hH.get 1 rfl, (fl_m2 _ _ _).1, _, rfl, .inr ⟨A, y, L, b, n, e, j, rfl, hH, hj, hN⟩⟩
theorem okR_Yard_put (T : Txt K mg t) : FnOk P w K mg base (CXr P w) 4 t.f_Yard_put t.d_Yard_put ["self", "end"] (spR_there t.c_Yard t.c_NoPiece t.c_NoEnd) := by
  refine T.F_Yard_put.okR scPu (fun vs H Q E h => ?_) (fun cdv A outer s H vs Q E hr h => ?_)
  · obtain ⟨_, _, _, _, _, _, _, rfl, _⟩ := h
    rfl
  · obtain ⟨A, y, L, b, n, e, j, rfl, hH, hj, hN⟩ := h
    have hu := hu_of hr
    refine ⟨_, (pss_cons (ps_expr (pe_meth (pv 0) T.cl_Yard T.M_Yard_check_there (okB_Yard_check_there T) (hr.mono (by decide)) (b_Yard_check_there T) .nil passR (pa_cons (pv 1) pa_nil)))
      (pss_cons (ps_fld (pv 0) (pv 1) rfl)
      (pss_one (ps_expr (pe_meth0 (pv 0) T.cl_Yard T.M_Yard_end_trail (ok_Yard_end_trail T) (hr.mono (by decide)) (b_Yard_end_trail T) .nil pass0))))), ?_⟩
    exact ⟨_, rfl, A.p, A.dx, _, rfl, hH.get 1 rfl, (fl_m2 _ _ _).1, _, rfl, .inr ⟨A, y, L, b, n, e, j, rfl, hH, hj, hN⟩⟩
def spR_unlink (C P X Y : Addr) : Sp := fun vs H _ E => ∃ (A : YA) (y : YR) (L : Kn) (b : Addr) (n e : Int) (j : Nat), vs = [.ref A.p, .ref b] ∧ Has H (yL C A y ++ L) ∧ L[j]? = some (b, .tup [.int n, .int e]) ∧ (NoThere P X y n e E H ∨ (There y n e ∧ valV y.mates (kE n e) = none ∧ L2.Small n ∧ L2.Small e ∧ ∀ a, E (.ref Y) (some a) H))
theorem okR_Yard_unlink (T : Txt K mg t) : FnOk P w K mg base (CXr P w) 4 t.f_Yard_unlink t.d_Yard_unlink ["self", "end"] (spR_unlink t.c_Yard t.c_NoPiece t.c_NoEnd t.c_NotLinked) := by
  refine T.F_Yard_unlink.okR scUl (fun vs H Q E h => ?_) (fun cdv A outer s H vs Q E hr h => ?_)
  · obtain ⟨_, _, _, _, _, _, _, rfl, _⟩ := h
    rfl
  · obtain ⟨A, y, L, b, n, e, j, rfl, hH, hj, hN⟩ := h
    have hu := hu_of hr
    have gb := hH.get (j + 9) (by simpa [yL] using hj)
    refine ⟨_, (pss_cons (ps_expr (pe_meth (pv 0) T.cl_Yard T.M_Yard_check_there (okB_Yard_check_there T) (hr.mono (by decide)) (b_Yard_check_there T) .nil passR (pa_cons (pv 1) pa_nil)))
      (pss_cons (ps_if (pt_cmp (pc_dnotin hu (pv 1) (pe_fld (pv 0) rfl)))
        (pss_one (ps_raise raisesR rfl (by rfl) T.m_NotLinked (excAll_in T.x_NotLinked) (pe_joined (pj_cons (pe_fmtT hr.gd hr.units (pv 1)) (pj_cons pe_str pj_nil)))))
        pss_nil)
      (pss_cons (ps_set (i := 2) scUl.nd rfl (Or.inl rfl) (pe_dget hu (pe_fld (pv 0) rfl) (pv 1) (fun _ _ => rfl)))
      (pss_cons (ps_ddelT hu (pe_fld (pv 0) rfl) (pv 1))
      (pss_cons (ps_ddelT hu (pe_fld (pv 0) rfl) (pv 2))
      (pss_one (ps_expr (pe_meth0 (pv 0) T.cl_Yard T.M_Yard_end_trail (ok_Yard_end_trail T) (hr.mono (by decide)) (b_Yard_end_trail T) .nil pass0)))))))), ?_⟩
    rcases hN with hN | ⟨th, hv, sn, se, q⟩
    · exact ⟨_, rfl, A.p, A.dx, _, rfl, hH.get 1 rfl, (fl_m2 _ _ _).1, _, rfl, .inr ⟨A, y, L, b, n, e, j, rfl, hH, hj, hN⟩⟩
    · refine ⟨_, rfl, A.p, A.dx, _, rfl, hH.get 1 rfl, (fl_m2 _ _ _).1, _, rfl, .inl ⟨A, y, L, b, n, e, j, rfl, hH, hj, th, ?_⟩⟩
      refine ⟨_, rfl, _, rfl, A.p, _, A.dx, _, _, rfl, hH.get 1 rfl, T.cl_Yard, T.n_Yard_mates, fl_mates _ _ _, A.m, _, rfl, DGet.t (k := kE n e) (hH.get 7 rfl) gb, _, rfl, ifT (by rw [hv]; rfl) ?_⟩
      exact rzT rfl gb sn se q
def spR_link (C P X S Y : Addr) : Sp := fun vs H _ E => ∃ (A : YA) (y : YR) (L : Kn) (b1 b2 : Addr) (n1 e1 n2 e2 : Int) (j1 j2 : Nat), vs = [.ref A.p, .ref b1, .ref b2] ∧ Has H (yL C A y ++ L) ∧ L[j1]? = some (b1, .tup [.int n1, .int e1]) ∧ L[j2]? = some (b2, .tup [.int n2, .int e2]) ∧
  (NoThere P X y n1 e1 E H ∨ (There y n1 e1 ∧ NoThere P X y n2 e2 E H) ∨
   (There y n1 e1 ∧ There y n2 e2 ∧ L2.Small n1 ∧ L2.Small e1 ∧ L2.Small n2 ∧ L2.Small e2 ∧ ((n1 = n2 ∧ e1 = e2 ∧ ∀ a, E (.ref S) (some a) H) ∨
     (¬ (n1 = n2 ∧ e1 = e2) ∧ (valV y.mates (kE n1 e1) ≠ none ∨ valV y.mates (kE n2 e2) ≠ none) ∧ ∀ H' N a, Has H' (N ++ (yL C A y ++ L)) → E (.ref Y) (some a) H'))))
theorem okR_Yard_link (T : Txt K mg t) : FnOk P w K mg base (CXr P w) 4 t.f_Yard_link t.d_Yard_link ["self", "one", "other"] (spR_link t.c_Yard t.c_NoPiece t.c_NoEnd t.c_SameEnd t.c_Linked) := by
  refine T.F_Yard_link.okR scLk (fun vs H Q E h => ?_) (fun cdv A outer s H vs Q E hr h => ?_)
  · obtain ⟨_, _, _, _, _, _, _, _, _, _, _, rfl, _⟩ := h
    rfl
  · obtain ⟨A, y, L, b1, b2, n1, e1, n2, e2, j1, j2, rfl, hH, hj1, hj2, hN⟩ := h
    have hu := hu_of hr
    have g1 := hH.get (j1 + 9) (by simpa [yL] using hj1)
    have g2 := hH.get (j2 + 9) (by simpa [yL] using hj2)
    refine ⟨_, (pss_cons (ps_expr (pe_meth (pv 0) T.cl_Yard T.M_Yard_check_there (okB_Yard_check_there T) (hr.mono (by decide)) (b_Yard_check_there T) .nil passR (pa_cons (pv 1) pa_nil)))
      (pss_cons (ps_expr (pe_meth (pv 0) T.cl_Yard T.M_Yard_check_there (okB_Yard_check_there T) (hr.mono (by decide)) (b_Yard_check_there T) .nil passR (pa_cons (pv 2) pa_nil)))
      (pss_cons (ps_if (pt_cmpR (op_eqT hr.units) (pv 1) (pv 2) (nomark _))
        (pss_one (ps_raise raisesR rfl (by rfl) T.m_SameEnd (excAll_in T.x_SameEnd) (pe_joined (pj_cons (pe_fmtT hr.gd hr.units (pv 1)) (pj_cons pe_str pj_nil)))))
        pss_nil)
      (pss_cons (ps_for PassesOwn.leaving rfl (pi_tup (pe_tup (pa_cons (pv 1) (pa_cons (pv 2) pa_nil)))) (pg_name (i := 3) scLk.nd rfl (Or.inl rfl))
        (pss_one (ps_if (pt_cmp (pc_din hu (pv 3) (pe_fld (pv 0) rfl)))
            (pss_one (ps_raise raisesR rfl (by rfl) T.m_Linked (excAll_in T.x_Linked) (pe_joined (pj_cons (pe_fmtT hr.gd hr.units (pv 3)) (pj_cons pe_str pj_nil)))))
            pss_nil)))
      (pss_cons (ps_dput hu (pe_fld (pv 0) rfl) (pv 1) (pv 2) rfl)
      (pss_cons (ps_dput hu (pe_fld (pv 0) rfl) (pv 2) (pv 1) rfl)
      (pss_one (ps_expr (pe_meth0 (pv 0) T.cl_Yard T.M_Yard_end_trail (ok_Yard_end_trail T) (hr.mono (by decide)) (b_Yard_end_trail T) .nil pass0))))))))), ?_⟩
    rcases hN with hN | ⟨t1, hN⟩ | ⟨t1, t2, sn1, se1, sn2, se2, hN⟩
    · exact ⟨_, rfl, A.p, A.dx, _, rfl, hH.get 1 rfl, (fl_m2 _ _ _).1, _, rfl, .inr ⟨A, y, L, b1, n1, e1, j1, rfl, hH, hj1, hN⟩⟩
    · refine ⟨_, rfl, A.p, A.dx, _, rfl, hH.get 1 rfl, (fl_m2 _ _ _).1, _, rfl, .inl ⟨A, y, L, b1, n1, e1, j1, rfl, hH, hj1, t1, ?_⟩⟩
      exact ⟨_, rfl, A.p, A.dx, _, rfl, hH.get 1 rfl, (fl_m2 _ _ _).1, _, rfl, .inr ⟨A, y, L, b2, n2, e2, j2, rfl, hH, hj2, hN⟩⟩
    · refine ⟨_, rfl, A.p, A.dx, _, rfl, hH.get 1 rfl, (fl_m2 _ _ _).1, _, rfl, .inl ⟨A, y, L, b1, n1, e1, j1, rfl, hH, hj1, t1, ?_⟩⟩
      refine ⟨_, rfl, A.p, A.dx, _, rfl, hH.get 1 rfl, (fl_m2 _ _ _).1, _, rfl, .inl ⟨A, y, L, b2, n2, e2, j2, rfl, hH, hj2, t2, ?_⟩⟩
      rcases hN with ⟨rfl, rfl, q⟩ | ⟨ne, hm, q⟩
      · refine ⟨_, rfl, _, rfl, b1, b2, [n1, e1], [n1, e1], rfl, rfl, g1, g2, _, rfl, ifT (decide_eq_true rfl) ?_⟩
        exact rzT rfl g1 sn1 se1 q
      · have ne' : ¬ [n1, e1] = [n2, e2] := fun z => ne (by cases z; exact ⟨rfl, rfl⟩)
        refine ⟨_, rfl, _, rfl, b1, b2, [n1, e1], [n2, e2], rfl, rfl, g1, g2, _, rfl, ifF (decide_eq_false ne') ?_⟩
        refine ⟨_, rfl, _, rfl, (show 2 ≤ sizeLine by decide), fun p hp => ?_⟩
        have h1 := (hH.alloc hp (.tup [.ref b1, .ref b2]))
        generalize upd H p _ = H1 at h1 ⊢
        refine ⟨p, rfl, ⟨_, SqT.of (h1.get 0 rfl)⟩, for_tup (xs := [.ref b1, .ref b2]) (fun i σ H' => H' = H1 ∧ (∃ o, σ = [some (.ref A.p), some (.ref b1), some (.ref b2), o]) ∧ (1 ≤ i → valV y.mates (kE n1 e1) = none) ∧ i ≤ 1) ⟨rfl, ⟨_, rfl⟩, fun h => absurd h (by decide), by decide⟩ (fun i σ H' _ ⟨e, _⟩ => by rw [e]; exact SqT.of (h1.get 0 rfl)) ?_ ?_⟩
        · rintro i x σ H' hx ⟨rfl, ⟨o, rfl⟩, hv, hi⟩
          have k1 := h1.get (j1 + 10) (by simpa [yL] using hj1)
          have k2 := h1.get (j2 + 10) (by simpa [yL] using hj2)
          match i, hx, hv, hi with
          | 0, hx, hv, hi =>
            cases hx
            by_cases v1 : valV y.mates (kE n1 e1) = none
            · exact ⟨_, rfl, _, rfl, A.p, _, A.dx, _, _, rfl, h1.get 2 rfl, T.cl_Yard, T.n_Yard_mates, fl_mates _ _ _, A.m, _, rfl, DGet.t (k := kE n1 e1) (h1.get 8 rfl) k1, _, rfl, ifF (by rw [v1]; rfl) ⟨rfl, ⟨_, rfl⟩, fun _ => v1, by decide⟩⟩
            · refine ⟨_, rfl, _, rfl, A.p, _, A.dx, _, _, rfl, h1.get 2 rfl, T.cl_Yard, T.n_Yard_mates, fl_mates _ _ _, A.m, _, rfl, DGet.t (k := kE n1 e1) (h1.get 8 rfl) k1, _, rfl, ifT (by cases e : valV y.mates (kE n1 e1) with | none => exact absurd e v1 | some v => rfl) ?_⟩
              exact rzT rfl k1 sn1 se1 (fun a => q H' [_] a h1)
          | 1, hx, hv, hi =>
            cases hx
            have v2 : valV y.mates (kE n2 e2) ≠ none := hm.resolve_left (fun z => z (hv (by decide)))
            refine ⟨_, rfl, _, rfl, A.p, _, A.dx, _, _, rfl, h1.get 2 rfl, T.cl_Yard, T.n_Yard_mates, fl_mates _ _ _, A.m, _, rfl, DGet.t (k := kE n2 e2) (h1.get 8 rfl) k2, _, rfl, ifT (by cases e : valV y.mates (kE n2 e2) with | none => exact absurd e v2 | some v => rfl) ?_⟩
            exact rzT rfl k2 sn2 se2 (fun a => q H' [_] a h1)
        · rintro σ H' ⟨rfl, _, _, hi⟩
          exact absurd hi (show ¬ 2 ≤ 1 by decide)
end

end P


set_option Elab.async false
set_option linter.all false
set_option maxRecDepth 100000
set_option maxHeartbeats 4000000
namespace P
open PySem L2

theorem fl_m6 (A : YA) (next : Int) (eng : V) : (fl A next eng).lookup ("lift" : Str) = none := by kernel_rfl
def spR_lift (C P Y O : Addr) : Sp := fun vs H _ E => ∃ (A : YA) (y : YR) (L : Kn) (n : Int), vs = [.ref A.p, .int n] ∧ Has H (yL C A y ++ L) ∧ L2.Small n ∧
  ((valV y.kinds (Sum.inl n) = none ∧ ∀ a, E (.ref P) (some a) H) ∨ ∃ k : Kd, valV y.kinds (Sum.inl n) = some (.str k.str) ∧
    (((∃ e : Int, 0 ≤ e ∧ e < k.many ∧ valV y.mates (kE n e) ≠ none) ∧ ∀ H' N a, Has H' (N ++ (yL C A y ++ L)) → E (.ref Y) (some a) H') ∨
     ((∀ e : Int, 0 ≤ e → e < k.many → valV y.mates (kE n e) = none) ∧ (∃ (b : Addr) (m : Int), y.eng = .ref b ∧ (b, HO.tup [.int n, .int m]) ∈ L) ∧ ∀ H' a, Has H' (yL C A y ++ L) → E (.ref O) (some a) H')))
section
variable {P : Program} {w : World} {K : PySem.W.Frag} {mg : Str → Option Value} {base : Heap} {t : Adr}
theorem scLf : FnScope ["self", "piece", "end"] ["self", "piece"] (defScope s_Yard_lift) := ⟨rfl, rfl, rfl, by decide +kernel, rfl, by decide +kernel, by decide +kernel⟩
theorem okR_Yard_lift (T : Txt K mg t) : FnOk P w K mg base (CXr P w) 2 t.f_Yard_lift t.d_Yard_lift ["self", "piece"] (spR_lift t.c_Yard t.c_NoPiece t.c_Linked t.c_Occupied) := by
  refine T.F_Yard_lift.okR scLf (fun vs H Q E h => ?_) (fun cdv A outer s H vs Q E hr h => ?_)
  · obtain ⟨_, _, _, _, rfl, _⟩ := h
    rfl
  · obtain ⟨A, y, L, n, rfl, hH, hs, hN⟩ := h
    have hu := hu_of hr
    refine ⟨_, (pss_cons (ps_expr (pe_meth (pv 0) T.cl_Yard T.M_Yard_check_piece (okB_Yard_check_piece T) (hr.mono (by decide)) (b_Yard_check_piece T) .nil passR (pa_cons (pv 1) pa_nil)))
      (pss_cons (ps_for PassesOwn.leaving rfl (pi_range1 (by rfl) T.z_range (pa_cons (pe_call (okB_ends_of T) (hr.mono (by decide)) (by rfl) T.m_ends_of T.F_ends_of.kp (b_ends_of T) .nil passR (pa_cons (pe_dget hu (pe_fld (pv 0) rfl) (pv 1) (fun _ _ => rfl)) pa_nil)) pa_nil)) (pg_name (i := 2) scLf.nd rfl (Or.inl rfl))
        (pss_one (ps_if (pt_cmp (pc_din hu (pe_tup (pa_cons (pv 1) (pa_cons (pv 2) pa_nil))) (pe_fld (pv 0) rfl)))
            (pss_one (ps_raise raisesR rfl (by rfl) T.m_Linked (excAll_in T.x_Linked) (pe_joined (pj_cons pe_str (pj_cons (pe_fmt (pv 2)) (pj_cons pe_str (pj_cons (pe_fmt (pv 1)) (pj_cons pe_str pj_nil))))))))
            pss_nil)))
      (pss_cons (ps_if (PW.pt (pw_and (pt_cmpR op_notN (pe_fld (pv 0) rfl) pe_non (nomark _)) (pw_and1 (pt_cmpR op_eq (pe_ix ix_tup (pe_fld (pv 0) rfl) pe_int (fun _ _ => rfl)) (pv 1) (nomark _)))))
        (pss_one (ps_raise raisesR rfl (by rfl) T.m_Occupied (excAll_in T.x_Occupied) (pe_joined (pj_cons pe_str (pj_cons (pe_fmt (pv 1)) pj_nil)))))
        pss_nil)
      (pss_cons (ps_ddel (pe_fld (pv 0) rfl) (pv 1))
      (pss_cons (ps_expr (pe_dpop2 (pe_fld (pv 0) rfl) (pv 1) pe_non ⟨rfl, rfl, rfl, rfl⟩))
      (pss_cons (ps_expr (pe_dpop2 (pe_fld (pv 0) rfl) (pv 1) pe_non ⟨rfl, rfl, rfl, rfl⟩))
      (pss_one (ps_expr (pe_meth0 (pv 0) T.cl_Yard T.M_Yard_end_trail (ok_Yard_end_trail T) (hr.mono (by decide)) (b_Yard_end_trail T) .nil pass0))))))))), ?_⟩
    rcases hN with ⟨hk, q⟩ | ⟨k, hk, hN⟩
    · exact ⟨_, rfl, A.p, A.dx, _, rfl, hH.get 1 rfl, (fl_m _ _ _).2.2.2.2.2.2.2.1, _, rfl, .inr ⟨A, y, L, n, rfl, hH, hk, hs, q⟩⟩
    have km : 1 ≤ k.many ∧ k.many ≤ 3 := by cases k <;> decide
    refine ⟨_, rfl, A.p, A.dx, _, rfl, hH.get 1 rfl, (fl_m _ _ _).2.2.2.2.2.2.2.1, _, rfl, .inl ⟨A, y, L, n, _, rfl, hH, hk, ?_⟩⟩
    refine ⟨_, rfl, A.p, _, A.dx, _, _, rfl, hH.get 1 rfl, T.cl_Yard, T.n_Yard_kinds, fl_kinds _ _ _, _, rfl, A.k, _, rfl, (by rw [← hk]; exact DGet.k (k := Sum.inl n) (hH.get 3 rfl)), .inl ⟨k, rfl, k.many, rfl, by omega, by omega, for_range (fun i σ H' => ∃ o1 : Option V, σ = [some (.ref A.p), some (.int n), o1] ∧ Has H' (yL t.c_Yard A y ++ L) ∧ ∀ e : Int, 0 ≤ e → e < i → valV y.mates (kE n e) = none) ⟨_, rfl, hH, fun e h0 h1 => absurd h1 (by omega)⟩ ?_ ?_⟩⟩
    · rintro i σ H1 hi ⟨o1, rfl, h1, hv⟩
      refine ⟨_, rfl, _, rfl, (show 2 ≤ sizeLine by decide), fun b hb => ?_⟩
      have h2 := h1.alloc hb (.tup [.int n, .int (0 + (i : Int))])
      by_cases hm : valV y.mates (kE n (0 + (i : Int))) = none
      · refine ⟨_, rfl, A.p, _, A.dx, _, _, rfl, h2.get 2 rfl, T.cl_Yard, T.n_Yard_mates, fl_mates _ _ _, A.m, _, rfl, DGet.t (k := kE n (0 + (i : Int))) (h2.get 8 rfl) (h2.get 0 rfl), _, rfl, ifF (by rw [hm]; rfl) ?_⟩
        refine ⟨_, rfl, h2.tail, fun e e0 e1 => ?_⟩
        by_cases c : e = 0 + (i : Int)
        · rw [c]; exact hm
        · exact hv e e0 (by omega)
      · refine ⟨_, rfl, A.p, _, A.dx, _, _, rfl, h2.get 2 rfl, T.cl_Yard, T.n_Yard_mates, fl_mates _ _ _, A.m, _, rfl, DGet.t (k := kE n (0 + (i : Int))) (h2.get 8 rfl) (h2.get 0 rfl), _, rfl, ifT (by cases e : valV y.mates (kE n (0 + (i : Int))) with | none => exact absurd e hm | some v => rfl) ?_⟩
        have hi3 : i < 3 := by have := hi; omega
        rcases hN with ⟨_, q⟩ | ⟨hall, _⟩
        · exact rz11c rfl (small_of (Nat.lt_of_le_of_lt (show (0 + (i : Int)).natAbs ≤ 3 by omega) (by decide))) rfl hs (fun a => q _ [_] a h2)
        · exact absurd (hall _ (by omega) (by omega)) hm
    · rintro σ H1 ⟨o1, rfl, h1, hv⟩
      have ek : ((k.many).toNat : Int) = k.many := by omega
      rcases hN with ⟨⟨e, e0, e1, hm⟩, _⟩ | ⟨_, ⟨b, m, en, mb⟩, q⟩
      · exact absurd (hv e e0 (by omega)) hm
      · refine ⟨_, rfl, A.p, _, A.dx, _, _, rfl, h1.get 1 rfl, T.cl_Yard, T.n_Yard_engine_end, fl_eng _ _ _, rfl, _, rfl, ifT (by rw [en]; rfl) ?_⟩
        have gb := h1.at_ _ (List.mem_append_right _ mb)
        dsimp only at gb
        refine ⟨_, rfl, A.p, _, A.dx, _, _, rfl, h1.get 1 rfl, T.cl_Yard, T.n_Yard_engine_end, fl_eng _ _ _, b, _, _, _, en, rfl, SqT.of gb, rfl, _, rfl, rfl, _, rfl, ?_⟩
        rw [decInt]
        exact ifT (decide_eq_true rfl) (rz1 rfl hs (fun a => q _ a h1))
end

def sp_lift (C : Addr) : Sp := fun vs H Q _ => ∃ (A : YA) (y : YR) (L : Kn) (n : Int) (k : Kd), vs = [.ref A.p, .int n] ∧ Has H (yL C A y ++ L) ∧ valV y.kinds (Sum.inl n) = some (.str k.str) ∧ (∀ e : Int, 0 ≤ e → e < k.many → valV y.mates (kE n e) = none) ∧ (y.eng = .non ∨ ∃ (b : Addr) (n1 e1 : Int), y.eng = .ref b ∧ (b, HO.tup [.int n1, .int e1]) ∈ L ∧ n1 ≠ n) ∧
  ∀ H' q, Has H' (yL C { A with tr := q } { y with kinds := dropK y.kinds (Sum.inl n), notes := dropK y.notes (Sum.inl n), rods := dropK y.rods (Sum.inl n), trail := [] } ++ L) → Q .non H'
theorem dropK_none {κ : Type} [DecidableEq κ] {kvs : List (κ × V)} {k : κ} (h : valV kvs k = none) : dropK kvs k = kvs := by
  induction kvs with
  | nil => rfl
  | cons p r ih =>
    by_cases e : p.1 = k
    · rw [valV_pos e] at h; cases h
    · rw [valV_neg e] at h
      rw [dropK_neg e, ih h]
section
variable {P : Program} {w : World} {K : PySem.W.Frag} {mg : Str → Option Value} {base : Heap} {t : Adr}
theorem ok_Yard_lift (T : Txt K mg t) : FnOk P w K mg base CX0 2 t.f_Yard_lift t.d_Yard_lift ["self", "piece"] (sp_lift t.c_Yard) := by
  refine T.F_Yard_lift.ok scLf (fun vs H Q E h => ?_) (fun cdv A outer s H vs Q E hr h => ?_)
  · obtain ⟨_, _, _, _, _, rfl, _⟩ := h
    rfl
  · obtain ⟨A, y, L, n, k, rfl, hH, hk, hm, en, q⟩ := h
    have hu := hu_of hr
    refine ⟨_, (pss_cons (ps_expr (pe_meth (pv 0) T.cl_Yard T.M_Yard_check_piece (ok_Yard_check_piece T) (hr.mono (by decide)) (b_Yard_check_piece T) .nil pass0 (pa_cons (pv 1) pa_nil)))
      (pss_cons (ps_for PassesOwn.never rfl (pi_range1 (by rfl) T.z_range (pa_cons (pe_call (ok_ends_of T) (hr.mono (by decide)) (by rfl) T.m_ends_of T.F_ends_of.kp (b_ends_of T) .nil pass0 (pa_cons (pe_dget hu (pe_fld (pv 0) rfl) (pv 1) (fun _ _ => rfl)) pa_nil)) pa_nil)) (pg_name (i := 2) scLf.nd rfl (Or.inl rfl))
        (pss_one (ps_if (pt_cmp (pc_din hu (pe_tup (pa_cons (pv 1) (pa_cons (pv 2) pa_nil))) (pe_fld (pv 0) rfl)))
            (pss_one ps_never)
            pss_nil)))
      (pss_cons (ps_if (PW.pt (pw_and (pt_cmpR op_notN (pe_fld (pv 0) rfl) pe_non (nomark _)) (pw_and1 (pt_cmpR op_eq (pe_ix ix_tup (pe_fld (pv 0) rfl) pe_int (fun _ _ => rfl)) (pv 1) (nomark _)))))
        (pss_one ps_never)
        pss_nil)
      (pss_cons (ps_ddel (pe_fld (pv 0) rfl) (pv 1))
      (pss_cons (ps_expr (pe_dpop2 (pe_fld (pv 0) rfl) (pv 1) pe_non ⟨rfl, rfl, rfl, rfl⟩))
      (pss_cons (ps_expr (pe_dpop2 (pe_fld (pv 0) rfl) (pv 1) pe_non ⟨rfl, rfl, rfl, rfl⟩))
      (pss_one (ps_expr (pe_meth0 (pv 0) T.cl_Yard T.M_Yard_end_trail (ok_Yard_end_trail T) (hr.mono (by decide)) (b_Yard_end_trail T) .nil pass0))))))))), ?_⟩
    refine ⟨_, rfl, A.p, A.dx, _, rfl, hH.get 1 rfl, (fl_m _ _ _).2.2.2.2.2.2.2.1, _, rfl, A, y, L, n, _, rfl, hH, hk, ?_⟩
    have km : 1 ≤ k.many ∧ k.many ≤ 3 := by cases k <;> decide
    refine ⟨_, rfl, A.p, _, A.dx, _, _, rfl, hH.get 1 rfl, T.cl_Yard, T.n_Yard_kinds, fl_kinds _ _ _, _, rfl, A.k, _, rfl, (by rw [← hk]; exact DGet.k (k := Sum.inl n) (hH.get 3 rfl)), k, rfl, k.many, rfl, by omega, by omega, for_range (fun i σ H' => ∃ o1 : Option V, σ = [some (.ref A.p), some (.int n), o1] ∧ Has H' (yL t.c_Yard A y ++ L)) ⟨_, rfl, hH⟩ ?_ ?_⟩
    · rintro i σ H1 hi ⟨o1, rfl, h1⟩
      refine ⟨_, rfl, _, rfl, (show 2 ≤ sizeLine by decide), fun b hb => ?_⟩
      have h2 := h1.alloc hb (.tup [.int n, .int (0 + (i : Int))])
      refine ⟨_, rfl, A.p, _, A.dx, _, _, rfl, h2.get 2 rfl, T.cl_Yard, T.n_Yard_mates, fl_mates _ _ _, A.m, _, rfl, DGet.t (k := kE n (0 + (i : Int))) (h2.get 8 rfl) (h2.get 0 rfl), _, rfl, ifF (by rw [hm _ (by omega) (by omega)]; rfl) ?_⟩
      exact ⟨_, rfl, h2.tail⟩
    · rintro σ H1 ⟨o1, rfl, h1⟩
      rcases en with en | ⟨eb, n1, e1, en, eL, ne⟩
      · refine ⟨_, rfl, A.p, _, A.dx, _, _, rfl, h1.get 1 rfl, T.cl_Yard, T.n_Yard_engine_end, fl_eng _ _ _, rfl, _, rfl, ifF (by rw [en]; rfl) (iteF ?_)⟩
        refine ⟨_, rfl, A.p, _, A.dx, _, _, rfl, h1.get 1 rfl, T.cl_Yard, T.n_Yard_kinds, fl_kinds _ _ _, _, rfl, A.k, _, Sum.inl n, rfl, h1.get 3 rfl, rfl, by rw [hk]; rfl, ?_⟩
        have h2 : Has _ (yL t.c_Yard A { y with kinds := dropK y.kinds (Sum.inl n) } ++ L) := h1.puti 3 rfl (.dK (dropK y.kinds (Sum.inl n)))
        generalize upd H1 A.k _ = H2 at h2 ⊢
        refine ⟨_, rfl, A.p, _, A.dx, _, _, rfl, h2.get 1 rfl, T.cl_Yard, T.n_Yard_notes, fl_notes _ _ _, A.n, rfl, .inl ⟨_, .inl (h2.get 4 rfl)⟩, _, rfl, _, Sum.inl n, h2.get 4 rfl, rfl, fun v hv => ?_, fun hv => ?_⟩
        · have h3 : Has _ (yL t.c_Yard A { y with kinds := dropK y.kinds (Sum.inl n), notes := dropK y.notes (Sum.inl n) } ++ L) := h2.puti 4 rfl (.dK (dropK y.notes (Sum.inl n)))
          refine ⟨_, rfl, A.p, _, A.dx, _, _, rfl, h3.get 1 rfl, T.cl_Yard, T.n_Yard_rods_under, fl_rods _ _ _, A.r, rfl, .inl ⟨_, .inl (h3.get 5 rfl)⟩, _, rfl, _, Sum.inl n, h3.get 5 rfl, rfl, fun v hv => ?_, fun hv => ?_⟩
          · have h4 : Has _ (yL t.c_Yard A { y with kinds := dropK y.kinds (Sum.inl n), notes := dropK y.notes (Sum.inl n), rods := dropK y.rods (Sum.inl n) } ++ L) := h3.puti 5 rfl (.dK (dropK y.rods (Sum.inl n)))
            exact ⟨_, rfl, A.p, A.dx, _, rfl, h4.get 1 rfl, (fl_m _ _ _).2.2.2.2.2.2.1, A, _, L, rfl, h4, fun H' a h5 => q H' a h5⟩
          · have h4' : ∀ H, Has H (yL t.c_Yard A { y with kinds := dropK y.kinds (Sum.inl n), notes := dropK y.notes (Sum.inl n) } ++ L) → Has H (yL t.c_Yard A { y with kinds := dropK y.kinds (Sum.inl n), notes := dropK y.notes (Sum.inl n), rods := dropK y.rods (Sum.inl n) } ++ L) := fun H h => by rw [dropK_none (kvs := y.rods) hv]; exact h
            have h4 := h4' _ h3
            exact ⟨_, rfl, A.p, A.dx, _, rfl, h4.get 1 rfl, (fl_m _ _ _).2.2.2.2.2.2.1, A, _, L, rfl, h4, fun H' a h5 => q H' a h5⟩
        · have h3 : Has H2 (yL t.c_Yard A { y with kinds := dropK y.kinds (Sum.inl n), notes := dropK y.notes (Sum.inl n) } ++ L) := by rw [dropK_none (kvs := y.notes) hv]; exact h2
          refine ⟨_, rfl, A.p, _, A.dx, _, _, rfl, h3.get 1 rfl, T.cl_Yard, T.n_Yard_rods_under, fl_rods _ _ _, A.r, rfl, .inl ⟨_, .inl (h3.get 5 rfl)⟩, _, rfl, _, Sum.inl n, h3.get 5 rfl, rfl, fun v hv => ?_, fun hv => ?_⟩
          · have h4 : Has _ (yL t.c_Yard A { y with kinds := dropK y.kinds (Sum.inl n), notes := dropK y.notes (Sum.inl n), rods := dropK y.rods (Sum.inl n) } ++ L) := h3.puti 5 rfl (.dK (dropK y.rods (Sum.inl n)))
            exact ⟨_, rfl, A.p, A.dx, _, rfl, h4.get 1 rfl, (fl_m _ _ _).2.2.2.2.2.2.1, A, _, L, rfl, h4, fun H' a h5 => q H' a h5⟩
          · have h4' : ∀ H, Has H (yL t.c_Yard A { y with kinds := dropK y.kinds (Sum.inl n), notes := dropK y.notes (Sum.inl n) } ++ L) → Has H (yL t.c_Yard A { y with kinds := dropK y.kinds (Sum.inl n), notes := dropK y.notes (Sum.inl n), rods := dropK y.rods (Sum.inl n) } ++ L) := fun H h => by rw [dropK_none (kvs := y.rods) hv]; exact h
            have h4 := h4' _ h3
            exact ⟨_, rfl, A.p, A.dx, _, rfl, h4.get 1 rfl, (fl_m _ _ _).2.2.2.2.2.2.1, A, _, L, rfl, h4, fun H' a h5 => q H' a h5⟩
      · refine ⟨_, rfl, A.p, _, A.dx, _, _, rfl, h1.get 1 rfl, T.cl_Yard, T.n_Yard_engine_end, fl_eng _ _ _, rfl, _, rfl, ifT (by rw [en]; rfl) ?_⟩
        have gb : H1 eb = some (.tup [.int n1, .int e1]) := h1.at_ _ (List.mem_append_right _ eL)
        refine ⟨_, rfl, A.p, _, A.dx, _, _, rfl, h1.get 1 rfl, T.cl_Yard, T.n_Yard_engine_end, fl_eng _ _ _, eb, _, _, _, en, rfl, SqT.of gb, rfl, _, rfl, rfl, _, rfl, ifF (decide_eq_false (fun e => ne (by injection e))) ?_⟩
        refine ⟨_, rfl, A.p, _, A.dx, _, _, rfl, h1.get 1 rfl, T.cl_Yard, T.n_Yard_kinds, fl_kinds _ _ _, _, rfl, A.k, _, Sum.inl n, rfl, h1.get 3 rfl, rfl, by rw [hk]; rfl, ?_⟩
        have h2 : Has _ (yL t.c_Yard A { y with kinds := dropK y.kinds (Sum.inl n) } ++ L) := h1.puti 3 rfl (.dK (dropK y.kinds (Sum.inl n)))
        generalize upd H1 A.k _ = H2 at h2 ⊢
        refine ⟨_, rfl, A.p, _, A.dx, _, _, rfl, h2.get 1 rfl, T.cl_Yard, T.n_Yard_notes, fl_notes _ _ _, A.n, rfl, .inl ⟨_, .inl (h2.get 4 rfl)⟩, _, rfl, _, Sum.inl n, h2.get 4 rfl, rfl, fun v hv => ?_, fun hv => ?_⟩
        · have h3 : Has _ (yL t.c_Yard A { y with kinds := dropK y.kinds (Sum.inl n), notes := dropK y.notes (Sum.inl n) } ++ L) := h2.puti 4 rfl (.dK (dropK y.notes (Sum.inl n)))
          refine ⟨_, rfl, A.p, _, A.dx, _, _, rfl, h3.get 1 rfl, T.cl_Yard, T.n_Yard_rods_under, fl_rods _ _ _, A.r, rfl, .inl ⟨_, .inl (h3.get 5 rfl)⟩, _, rfl, _, Sum.inl n, h3.get 5 rfl, rfl, fun v hv => ?_, fun hv => ?_⟩
          · have h4 : Has _ (yL t.c_Yard A { y with kinds := dropK y.kinds (Sum.inl n), notes := dropK y.notes (Sum.inl n), rods := dropK y.rods (Sum.inl n) } ++ L) := h3.puti 5 rfl (.dK (dropK y.rods (Sum.inl n)))
            exact ⟨_, rfl, A.p, A.dx, _, rfl, h4.get 1 rfl, (fl_m _ _ _).2.2.2.2.2.2.1, A, _, L, rfl, h4, fun H' a h5 => q H' a h5⟩
          · have h4' : ∀ H, Has H (yL t.c_Yard A { y with kinds := dropK y.kinds (Sum.inl n), notes := dropK y.notes (Sum.inl n) } ++ L) → Has H (yL t.c_Yard A { y with kinds := dropK y.kinds (Sum.inl n), notes := dropK y.notes (Sum.inl n), rods := dropK y.rods (Sum.inl n) } ++ L) := fun H h => by rw [dropK_none (kvs := y.rods) hv]; exact h
            have h4 := h4' _ h3
            exact ⟨_, rfl, A.p, A.dx, _, rfl, h4.get 1 rfl, (fl_m _ _ _).2.2.2.2.2.2.1, A, _, L, rfl, h4, fun H' a h5 => q H' a h5⟩
        · have h3 : Has H2 (yL t.c_Yard A { y with kinds := dropK y.kinds (Sum.inl n), notes := dropK y.notes (Sum.inl n) } ++ L) := by rw [dropK_none (kvs := y.notes) hv]; exact h2
          refine ⟨_, rfl, A.p, _, A.dx, _, _, rfl, h3.get 1 rfl, T.cl_Yard, T.n_Yard_rods_under, fl_rods _ _ _, A.r, rfl, .inl ⟨_, .inl (h3.get 5 rfl)⟩, _, rfl, _, Sum.inl n, h3.get 5 rfl, rfl, fun v hv => ?_, fun hv => ?_⟩
          · have h4 : Has _ (yL t.c_Yard A { y with kinds := dropK y.kinds (Sum.inl n), notes := dropK y.notes (Sum.inl n), rods := dropK y.rods (Sum.inl n) } ++ L) := h3.puti 5 rfl (.dK (dropK y.rods (Sum.inl n)))
            exact ⟨_, rfl, A.p, A.dx, _, rfl, h4.get 1 rfl, (fl_m _ _ _).2.2.2.2.2.2.1, A, _, L, rfl, h4, fun H' a h5 => q H' a h5⟩
          · have h4' : ∀ H, Has H (yL t.c_Yard A { y with kinds := dropK y.kinds (Sum.inl n), notes := dropK y.notes (Sum.inl n) } ++ L) → Has H (yL t.c_Yard A { y with kinds := dropK y.kinds (Sum.inl n), notes := dropK y.notes (Sum.inl n), rods := dropK y.rods (Sum.inl n) } ++ L) := fun H h => by rw [dropK_none (kvs := y.rods) hv]; exact h
            have h4 := h4' _ h3
            exact ⟨_, rfl, A.p, A.dx, _, rfl, h4.get 1 rfl, (fl_m _ _ _).2.2.2.2.2.2.1, A, _, L, rfl, h4, fun H' a h5 => q H' a h5⟩
end

end P


set_option Elab.async false
set_option linter.all false
set_option maxRecDepth 100000
set_option maxHeartbeats 4000000
namespace P
open PySem L2

theorem hcast {H : Hp} {L L' : Kn} (h : Has H L) (e : L = L') : Has H L' := e ▸ h
theorem sz {n : Nat} (h : n ≤ 1000000) : n ≤ sizeLine := Nat.le_of_lt (sizeOk h)

theorem flags_fil : ∀ i, i < 22 → ((flagsOf i).filter (·.2)).map (·.1) = [nameAt i]
  | 0, _ => rfl
  | 1, _ => rfl
  | 2, _ => rfl
  | 3, _ => rfl
  | 4, _ => rfl
  | 5, _ => rfl
  | 6, _ => rfl
  | 7, _ => rfl
  | 8, _ => rfl
  | 9, _ => rfl
  | 10, _ => rfl
  | 11, _ => rfl
  | 12, _ => rfl
  | 13, _ => rfl
  | 14, _ => rfl
  | 15, _ => rfl
  | 16, _ => rfl
  | 17, _ => rfl
  | 18, _ => rfl
  | 19, _ => rfl
  | 20, _ => rfl
  | 21, _ => rfl
  | i + 22, h => absurd h (by omega)
def tupsOf (ts : List (Addr × Str × Bool)) : Kn := ts.map fun z => (z.1, HO.tup [.str z.2.1, .bl z.2.2])
def refsOf (ts : List (Addr × Str × Bool)) : List V := ts.map fun z => V.ref z.1
def sp_names (K : PySem.W.Frag) (t : Adr) : Sp := fun vs H Q _ => ∃ (a C : Addr) (i : Nat) (L : Kn), vs = [.ref a] ∧ Has H L ∧ (a, HO.ext (ExcAt a C)) ∈ L ∧ excAll K C t.c_RailError (dsOf t i) = true ∧
  ∀ H' p ts, ts.map (·.2) = flagsOf i → Has H' ((p, .lst (refsOf ts)) :: ((tupsOf ts).reverse ++ L)) → Q (.ref p) H'
def refSp (K : PySem.W.Frag) (t : Adr) : (Hp → VK → XK → Prop) → Hp → VK → Prop := fun spD H Q => ∃ (X0 L : Kn) (R : V → Kn → Prop) (RX : Nat → Kn → Prop), Has H (X0 ++ L) ∧
  (∀ H1 L1 Q1 E1, Has H1 (X0 ++ L1) → (∀ v N H2, R v N → Has H2 (N ++ L1) → Q1 v H2) → (∀ C a i N H2, RX i N → i < 22 → excAll K C t.c_RailError (dsOf t i) = true → Has H2 (N ++ L1) → E1 (.ref C) (some a) H2) → spD H1 Q1 E1) ∧
  (∀ v N r H2, R v N → Has H2 ((r, .lst []) :: (N ++ L)) → Q (.ref r) H2) ∧
  (∀ i N r H2, RX i N → i < 22 → Has H2 ((r, .lst [.str (nameAt i)]) :: (N ++ L)) → Q (.ref r) H2)
section
variable {P : Program} {w : World} {K : PySem.W.Frag} {mg : Str → Option Value} {base : Heap} {t : Adr}
theorem scNm : FnScope ["_law_e"] ["_law_e"] (defScope s_names) := ⟨rfl, rfl, rfl, by decide +kernel, rfl, by decide +kernel, by decide +kernel⟩
theorem ok_names (T : Txt K mg t) : FnOkQ P w K mg base 1 t.f_names t.d_names ["_law_e"] (sp_names K t) := by
  refine T.F_names.okQ scNm (fun vs H Q E h => ?_) (fun cdv A outer s H vs Q E hr h => ?_)
  · obtain ⟨_, _, _, _, rfl, _⟩ := h
    rfl
  · obtain ⟨a, C, i, L, rfl, h0, m0, hx, q⟩ := h
    refine ⟨_, (pss_one (ps_ret (pe_lst (@pa_cons _ _ _ _ _ (pe_tup (pa_cons pe_str (pa_cons (pe_callB call_isiE (by rfl) T.z_isinstance (by rfl) (pa_cons (pv 0) (pa_cons (pe_glob (v := .ref t.c_NoKind) (by rfl) T.m_NoKind rfl) pa_nil))) pa_nil))) (@pa_cons _ _ _ _ _ (pe_tup (pa_cons pe_str (pa_cons (pe_callB call_isiE (by rfl) T.z_isinstance (by rfl) (pa_cons (pv 0) (pa_cons (pe_glob (v := .ref t.c_NoEnd) (by rfl) T.m_NoEnd rfl) pa_nil))) pa_nil))) (@pa_cons _ _ _ _ _ (pe_tup (pa_cons pe_str (pa_cons (pe_callB call_isiE (by rfl) T.z_isinstance (by rfl) (pa_cons (pv 0) (pa_cons (pe_glob (v := .ref t.c_NoSide) (by rfl) T.m_NoSide rfl) pa_nil))) pa_nil))) (@pa_cons _ _ _ _ _ (pe_tup (pa_cons pe_str (pa_cons (pe_callB call_isiE (by rfl) T.z_isinstance (by rfl) (pa_cons (pv 0) (pa_cons (pe_glob (v := .ref t.c_NoNote) (by rfl) T.m_NoNote rfl) pa_nil))) pa_nil))) (@pa_cons _ _ _ _ _ (pe_tup (pa_cons pe_str (pa_cons (pe_callB call_isiE (by rfl) T.z_isinstance (by rfl) (pa_cons (pv 0) (pa_cons (pe_glob (v := .ref t.c_NoPiece) (by rfl) T.m_NoPiece rfl) pa_nil))) pa_nil))) (@pa_cons _ _ _ _ _ (pe_tup (pa_cons pe_str (pa_cons (pe_callB call_isiE (by rfl) T.z_isinstance (by rfl) (pa_cons (pv 0) (pa_cons (pe_glob (v := .ref t.c_NoRod) (by rfl) T.m_NoRod rfl) pa_nil))) pa_nil))) (@pa_cons _ _ _ _ _ (pe_tup (pa_cons pe_str (pa_cons (pe_callB call_isiE (by rfl) T.z_isinstance (by rfl) (pa_cons (pv 0) (pa_cons (pe_glob (v := .ref t.c_NoPoint) (by rfl) T.m_NoPoint rfl) pa_nil))) pa_nil))) (@pa_cons _ _ _ _ _ (pe_tup (pa_cons pe_str (pa_cons (pe_callB call_isiE (by rfl) T.z_isinstance (by rfl) (pa_cons (pv 0) (pa_cons (pe_glob (v := .ref t.c_NoBell) (by rfl) T.m_NoBell rfl) pa_nil))) pa_nil))) (@pa_cons _ _ _ _ _ (pe_tup (pa_cons pe_str (pa_cons (pe_callB call_isiE (by rfl) T.z_isinstance (by rfl) (pa_cons (pv 0) (pa_cons (pe_glob (v := .ref t.c_SameEnd) (by rfl) T.m_SameEnd rfl) pa_nil))) pa_nil))) (@pa_cons _ _ _ _ _ (pe_tup (pa_cons pe_str (pa_cons (pe_callB call_isiE (by rfl) T.z_isinstance (by rfl) (pa_cons (pv 0) (pa_cons (pe_glob (v := .ref t.c_Linked) (by rfl) T.m_Linked rfl) pa_nil))) pa_nil))) (@pa_cons _ _ _ _ _ (pe_tup (pa_cons pe_str (pa_cons (pe_callB call_isiE (by rfl) T.z_isinstance (by rfl) (pa_cons (pv 0) (pa_cons (pe_glob (v := .ref t.c_NotLinked) (by rfl) T.m_NotLinked rfl) pa_nil))) pa_nil))) (@pa_cons _ _ _ _ _ (pe_tup (pa_cons pe_str (pa_cons (pe_callB call_isiE (by rfl) T.z_isinstance (by rfl) (pa_cons (pv 0) (pa_cons (pe_glob (v := .ref t.c_Occupied) (by rfl) T.m_Occupied rfl) pa_nil))) pa_nil))) (@pa_cons _ _ _ _ _ (pe_tup (pa_cons pe_str (pa_cons (pe_callB call_isiE (by rfl) T.z_isinstance (by rfl) (pa_cons (pv 0) (pa_cons (pe_glob (v := .ref t.c_NoStand) (by rfl) T.m_NoStand rfl) pa_nil))) pa_nil))) (@pa_cons _ _ _ _ _ (pe_tup (pa_cons pe_str (pa_cons (pe_callB call_isiE (by rfl) T.z_isinstance (by rfl) (pa_cons (pv 0) (pa_cons (pe_glob (v := .ref t.c_NoMany) (by rfl) T.m_NoMany rfl) pa_nil))) pa_nil))) (@pa_cons _ _ _ _ _ (pe_tup (pa_cons pe_str (pa_cons (pe_callB call_isiE (by rfl) T.z_isinstance (by rfl) (pa_cons (pv 0) (pa_cons (pe_glob (v := .ref t.c_NoStretch) (by rfl) T.m_NoStretch rfl) pa_nil))) pa_nil))) (@pa_cons _ _ _ _ _ (pe_tup (pa_cons pe_str (pa_cons (pe_callB call_isiE (by rfl) T.z_isinstance (by rfl) (pa_cons (pv 0) (pa_cons (pe_glob (v := .ref t.c_NoRow) (by rfl) T.m_NoRow rfl) pa_nil))) pa_nil))) (@pa_cons _ _ _ _ _ (pe_tup (pa_cons pe_str (pa_cons (pe_callB call_isiE (by rfl) T.z_isinstance (by rfl) (pa_cons (pv 0) (pa_cons (pe_glob (v := .ref t.c_NoMark) (by rfl) T.m_NoMark rfl) pa_nil))) pa_nil))) (@pa_cons _ _ _ _ _ (pe_tup (pa_cons pe_str (pa_cons (pe_callB call_isiE (by rfl) T.z_isinstance (by rfl) (pa_cons (pv 0) (pa_cons (pe_glob (v := .ref t.c_NoCounter) (by rfl) T.m_NoCounter rfl) pa_nil))) pa_nil))) (@pa_cons _ _ _ _ _ (pe_tup (pa_cons pe_str (pa_cons (pe_callB call_isiE (by rfl) T.z_isinstance (by rfl) (pa_cons (pv 0) (pa_cons (pe_glob (v := .ref t.c_NoWidth) (by rfl) T.m_NoWidth rfl) pa_nil))) pa_nil))) (@pa_cons _ _ _ _ _ (pe_tup (pa_cons pe_str (pa_cons (pe_callB call_isiE (by rfl) T.z_isinstance (by rfl) (pa_cons (pv 0) (pa_cons (pe_glob (v := .ref t.c_NoValue) (by rfl) T.m_NoValue rfl) pa_nil))) pa_nil))) (@pa_cons _ _ _ _ _ (pe_tup (pa_cons pe_str (pa_cons (pe_callB call_isiE (by rfl) T.z_isinstance (by rfl) (pa_cons (pv 0) (pa_cons (pe_glob (v := .ref t.c_FallsOut) (by rfl) T.m_FallsOut rfl) pa_nil))) pa_nil))) (@pa_cons _ _ _ _ _ (pe_tup (pa_cons pe_str (pa_cons (pe_callB call_isiE (by rfl) T.z_isinstance (by rfl) (pa_cons (pv 0) (pa_cons (pe_glob (v := .ref t.c_NoText) (by rfl) T.m_NoText rfl) pa_nil))) pa_nil))) (@pa_cons _ _ _ _ _ (pe_tup (pa_cons pe_str (pa_cons (pe_not (pe_callB call_isiE (by rfl) T.z_isinstance (by rfl) (pa_cons (pv 0) (pa_cons (pe_bltn (v := .ty "ValueError") (by rfl) T.z_ValueError (by rfl) rfl) pa_nil)))) pa_nil))) pa_nil (by rfl)) (by rfl)) (by rfl)) (by rfl)) (by rfl)) (by rfl)) (by rfl)) (by rfl)) (by rfl)) (by rfl)) (by rfl)) (by rfl)) (by rfl)) (by rfl)) (by rfl)) (by rfl)) (by rfl)) (by rfl)) (by rfl)) (by rfl)) (by rfl)) (by rfl)) (by rfl))))), ?_⟩
    refine ⟨_, rfl, a, C, _, _, rfl, ⟨_, .inl rfl⟩, h0.at_ _ m0, excAll_cls hx, excAll_kit hx 0 rfl, sizeOk' (show 2 ≤ 1000000 by decide), fun t0 ht0 => ?_⟩
    have h1 := h0.alloc ht0 (.tup [.str "NoKind", .bl (i == 0)])
    have m1 := List.mem_cons_of_mem (t0, HO.tup [.str "NoKind", .bl (i == 0)]) m0
    refine ⟨_, rfl, a, C, _, _, rfl, ⟨_, .inl rfl⟩, h1.at_ _ m1, excAll_cls hx, excAll_kit hx 1 rfl, sizeOk' (show 2 ≤ 1000000 by decide), fun t1 ht1 => ?_⟩
    have h2 := h1.alloc ht1 (.tup [.str "NoEnd", .bl (i == 1)])
    have m2 := List.mem_cons_of_mem (t1, HO.tup [.str "NoEnd", .bl (i == 1)]) m1
    refine ⟨_, rfl, a, C, _, _, rfl, ⟨_, .inl rfl⟩, h2.at_ _ m2, excAll_cls hx, excAll_kit hx 2 rfl, sizeOk' (show 2 ≤ 1000000 by decide), fun t2 ht2 => ?_⟩
    have h3 := h2.alloc ht2 (.tup [.str "NoSide", .bl (i == 2)])
    have m3 := List.mem_cons_of_mem (t2, HO.tup [.str "NoSide", .bl (i == 2)]) m2
    refine ⟨_, rfl, a, C, _, _, rfl, ⟨_, .inl rfl⟩, h3.at_ _ m3, excAll_cls hx, excAll_kit hx 3 rfl, sizeOk' (show 2 ≤ 1000000 by decide), fun t3 ht3 => ?_⟩
    have h4 := h3.alloc ht3 (.tup [.str "NoNote", .bl (i == 3)])
    have m4 := List.mem_cons_of_mem (t3, HO.tup [.str "NoNote", .bl (i == 3)]) m3
    refine ⟨_, rfl, a, C, _, _, rfl, ⟨_, .inl rfl⟩, h4.at_ _ m4, excAll_cls hx, excAll_kit hx 4 rfl, sizeOk' (show 2 ≤ 1000000 by decide), fun t4 ht4 => ?_⟩
    have h5 := h4.alloc ht4 (.tup [.str "NoPiece", .bl (i == 4)])
    have m5 := List.mem_cons_of_mem (t4, HO.tup [.str "NoPiece", .bl (i == 4)]) m4
    refine ⟨_, rfl, a, C, _, _, rfl, ⟨_, .inl rfl⟩, h5.at_ _ m5, excAll_cls hx, excAll_kit hx 5 rfl, sizeOk' (show 2 ≤ 1000000 by decide), fun t5 ht5 => ?_⟩
    have h6 := h5.alloc ht5 (.tup [.str "NoRod", .bl (i == 5)])
    have m6 := List.mem_cons_of_mem (t5, HO.tup [.str "NoRod", .bl (i == 5)]) m5
    refine ⟨_, rfl, a, C, _, _, rfl, ⟨_, .inl rfl⟩, h6.at_ _ m6, excAll_cls hx, excAll_kit hx 6 rfl, sizeOk' (show 2 ≤ 1000000 by decide), fun t6 ht6 => ?_⟩
    have h7 := h6.alloc ht6 (.tup [.str "NoPoint", .bl (i == 6)])
    have m7 := List.mem_cons_of_mem (t6, HO.tup [.str "NoPoint", .bl (i == 6)]) m6
    refine ⟨_, rfl, a, C, _, _, rfl, ⟨_, .inl rfl⟩, h7.at_ _ m7, excAll_cls hx, excAll_kit hx 7 rfl, sizeOk' (show 2 ≤ 1000000 by decide), fun t7 ht7 => ?_⟩
    have h8 := h7.alloc ht7 (.tup [.str "NoBell", .bl (i == 7)])
    have m8 := List.mem_cons_of_mem (t7, HO.tup [.str "NoBell", .bl (i == 7)]) m7
    refine ⟨_, rfl, a, C, _, _, rfl, ⟨_, .inl rfl⟩, h8.at_ _ m8, excAll_cls hx, excAll_kit hx 8 rfl, sizeOk' (show 2 ≤ 1000000 by decide), fun t8 ht8 => ?_⟩
    have h9 := h8.alloc ht8 (.tup [.str "SameEnd", .bl (i == 8)])
    have m9 := List.mem_cons_of_mem (t8, HO.tup [.str "SameEnd", .bl (i == 8)]) m8
    refine ⟨_, rfl, a, C, _, _, rfl, ⟨_, .inl rfl⟩, h9.at_ _ m9, excAll_cls hx, excAll_kit hx 9 rfl, sizeOk' (show 2 ≤ 1000000 by decide), fun t9 ht9 => ?_⟩
    have h10 := h9.alloc ht9 (.tup [.str "Linked", .bl (i == 9)])
    have m10 := List.mem_cons_of_mem (t9, HO.tup [.str "Linked", .bl (i == 9)]) m9
    refine ⟨_, rfl, a, C, _, _, rfl, ⟨_, .inl rfl⟩, h10.at_ _ m10, excAll_cls hx, excAll_kit hx 10 rfl, sizeOk' (show 2 ≤ 1000000 by decide), fun t10 ht10 => ?_⟩
    have h11 := h10.alloc ht10 (.tup [.str "NotLinked", .bl (i == 10)])
    have m11 := List.mem_cons_of_mem (t10, HO.tup [.str "NotLinked", .bl (i == 10)]) m10
    refine ⟨_, rfl, a, C, _, _, rfl, ⟨_, .inl rfl⟩, h11.at_ _ m11, excAll_cls hx, excAll_kit hx 11 rfl, sizeOk' (show 2 ≤ 1000000 by decide), fun t11 ht11 => ?_⟩
    have h12 := h11.alloc ht11 (.tup [.str "Occupied", .bl (i == 11)])
    have m12 := List.mem_cons_of_mem (t11, HO.tup [.str "Occupied", .bl (i == 11)]) m11
    refine ⟨_, rfl, a, C, _, _, rfl, ⟨_, .inl rfl⟩, h12.at_ _ m12, excAll_cls hx, excAll_kit hx 12 rfl, sizeOk' (show 2 ≤ 1000000 by decide), fun t12 ht12 => ?_⟩
    have h13 := h12.alloc ht12 (.tup [.str "NoStand", .bl (i == 12)])
    have m13 := List.mem_cons_of_mem (t12, HO.tup [.str "NoStand", .bl (i == 12)]) m12
    refine ⟨_, rfl, a, C, _, _, rfl, ⟨_, .inl rfl⟩, h13.at_ _ m13, excAll_cls hx, excAll_kit hx 13 rfl, sizeOk' (show 2 ≤ 1000000 by decide), fun t13 ht13 => ?_⟩
    have h14 := h13.alloc ht13 (.tup [.str "NoMany", .bl (i == 13)])
    have m14 := List.mem_cons_of_mem (t13, HO.tup [.str "NoMany", .bl (i == 13)]) m13
    refine ⟨_, rfl, a, C, _, _, rfl, ⟨_, .inl rfl⟩, h14.at_ _ m14, excAll_cls hx, excAll_kit hx 14 rfl, sizeOk' (show 2 ≤ 1000000 by decide), fun t14 ht14 => ?_⟩
    have h15 := h14.alloc ht14 (.tup [.str "NoStretch", .bl (i == 14)])
    have m15 := List.mem_cons_of_mem (t14, HO.tup [.str "NoStretch", .bl (i == 14)]) m14
    refine ⟨_, rfl, a, C, _, _, rfl, ⟨_, .inl rfl⟩, h15.at_ _ m15, excAll_cls hx, excAll_kit hx 15 rfl, sizeOk' (show 2 ≤ 1000000 by decide), fun t15 ht15 => ?_⟩
    have h16 := h15.alloc ht15 (.tup [.str "NoRow", .bl (i == 15)])
    have m16 := List.mem_cons_of_mem (t15, HO.tup [.str "NoRow", .bl (i == 15)]) m15
    refine ⟨_, rfl, a, C, _, _, rfl, ⟨_, .inl rfl⟩, h16.at_ _ m16, excAll_cls hx, excAll_kit hx 16 rfl, sizeOk' (show 2 ≤ 1000000 by decide), fun t16 ht16 => ?_⟩
    have h17 := h16.alloc ht16 (.tup [.str "NoMark", .bl (i == 16)])
    have m17 := List.mem_cons_of_mem (t16, HO.tup [.str "NoMark", .bl (i == 16)]) m16
    refine ⟨_, rfl, a, C, _, _, rfl, ⟨_, .inl rfl⟩, h17.at_ _ m17, excAll_cls hx, excAll_kit hx 17 rfl, sizeOk' (show 2 ≤ 1000000 by decide), fun t17 ht17 => ?_⟩
    have h18 := h17.alloc ht17 (.tup [.str "NoCounter", .bl (i == 17)])
    have m18 := List.mem_cons_of_mem (t17, HO.tup [.str "NoCounter", .bl (i == 17)]) m17
    refine ⟨_, rfl, a, C, _, _, rfl, ⟨_, .inl rfl⟩, h18.at_ _ m18, excAll_cls hx, excAll_kit hx 18 rfl, sizeOk' (show 2 ≤ 1000000 by decide), fun t18 ht18 => ?_⟩
    have h19 := h18.alloc ht18 (.tup [.str "NoWidth", .bl (i == 18)])
    have m19 := List.mem_cons_of_mem (t18, HO.tup [.str "NoWidth", .bl (i == 18)]) m18
    refine ⟨_, rfl, a, C, _, _, rfl, ⟨_, .inl rfl⟩, h19.at_ _ m19, excAll_cls hx, excAll_kit hx 19 rfl, sizeOk' (show 2 ≤ 1000000 by decide), fun t19 ht19 => ?_⟩
    have h20 := h19.alloc ht19 (.tup [.str "NoValue", .bl (i == 19)])
    have m20 := List.mem_cons_of_mem (t19, HO.tup [.str "NoValue", .bl (i == 19)]) m19
    refine ⟨_, rfl, a, C, _, _, rfl, ⟨_, .inl rfl⟩, h20.at_ _ m20, excAll_cls hx, excAll_kit hx 20 rfl, sizeOk' (show 2 ≤ 1000000 by decide), fun t20 ht20 => ?_⟩
    have h21 := h20.alloc ht20 (.tup [.str "FallsOut", .bl (i == 20)])
    have m21 := List.mem_cons_of_mem (t20, HO.tup [.str "FallsOut", .bl (i == 20)]) m20
    refine ⟨_, rfl, a, C, _, _, rfl, ⟨_, .inl rfl⟩, h21.at_ _ m21, excAll_cls hx, excAll_kit hx 21 rfl, sizeOk' (show 2 ≤ 1000000 by decide), fun t21 ht21 => ?_⟩
    have h22 := h21.alloc ht21 (.tup [.str "NoText", .bl (i == 21)])
    have m22 := List.mem_cons_of_mem (t21, HO.tup [.str "NoText", .bl (i == 21)]) m21
    refine ⟨_, rfl, a, C, _, _, rfl, ⟨0, .inr ⟨_, rfl⟩⟩, h22.at_ _ m22, excAll_cls hx, excAll_ve hx, _, rfl, sizeOk' (show 2 ≤ 1000000 by decide), fun t22 ht22 => ?_⟩
    have h23 := h22.alloc ht22 (.tup [.str "plain", .bl (!true)])
    refine ⟨sizeOk' (show 23 ≤ 1000000 by decide), fun p hp => ?_⟩
    exact q _ p [(t0, "NoKind", i == 0), (t1, "NoEnd", i == 1), (t2, "NoSide", i == 2), (t3, "NoNote", i == 3), (t4, "NoPiece", i == 4), (t5, "NoRod", i == 5), (t6, "NoPoint", i == 6), (t7, "NoBell", i == 7), (t8, "SameEnd", i == 8), (t9, "Linked", i == 9), (t10, "NotLinked", i == 10), (t11, "Occupied", i == 11), (t12, "NoStand", i == 12), (t13, "NoMany", i == 13), (t14, "NoStretch", i == 14), (t15, "NoRow", i == 15), (t16, "NoMark", i == 16), (t17, "NoCounter", i == 17), (t18, "NoWidth", i == 18), (t19, "NoValue", i == 19), (t20, "FallsOut", i == 20), (t21, "NoText", i == 21), (t22, "plain", false)] rfl (h23.alloc hp _)
theorem scRf : FnScope ["_law_deed", "_law_pairs", "_law_e"] ["_law_deed"] (defScope s_refused) := ⟨rfl, rfl, rfl, by decide +kernel, rfl, by decide +kernel, by decide +kernel⟩
theorem ok_refused (T : Txt K mg t) : RefOk P w K mg base 10 8 t.f_refused (refSp K t) := by
  refine (T.e_refused ▸ T.F_refused).refOk (N := ["_law_deed", "_law_pairs", "_law_e"]) (y := "_law_deed") scRf (b_refused T) (fun cdv A outer s H g spD Q hr D hrs => ?_)
  obtain ⟨X0, L, R, RX, hH, hD, hR, hRX⟩ := hrs
  obtain ⟨t3, h3, fin⟩ : ∃ t3 : TS, PSs (cxOf CX0 P w K mg base ["_law_deed", "_law_pairs", "_law_e"] "_law_refused" (defScope s_refused) t.f_refused cdv A outer s H E0).nox ((defBody s_refused).drop 2) t3 ∧
      ∀ (o : Option V) (H1 : Hp) (p : Addr) (ts : List (Addr × Str × Bool)) (L1 : Kn) (D1 : Ends), ts.length ≤ 1000 → Has H1 ((p, .lst (refsOf ts)) :: ((tupsOf ts).reverse ++ L1)) →
        (∀ H2 r, Has H2 ((r, .lst (((ts.map (·.2)).filter (·.2)).map fun z => .str z.1)) :: L1) → D1.rt (.ref r) H2) → t3 D1 [some (.ref g), some (.ref p), o] H1 := by
    refine ⟨_, (pss_one (ps_ret (pe_lc (esc := defScope s_refused) (k := 2) ["_law_name", "_law_so", "_law_deed", "_law_pairs", "_law_e"] rfl (pi_list (pv 1)) (fun _ _ _ _ _ => by exact (pg_tupK (K := K) (n := 2) rfl rfl (pgs_cons (pg_name (i := 0) (show List.Nodup (["_law_name", "_law_so", "_law_deed", "_law_pairs", "_law_e"] : List Str) from by decide +kernel) rfl (Or.inl rfl)) (pgs_cons (pg_name (i := 1) (show List.Nodup (["_law_name", "_law_so", "_law_deed", "_law_pairs", "_law_e"] : List Str) from by decide +kernel) rfl (Or.inl rfl)) pgs_nil)))) (fun _ _ _ _ _ => by exact (pts_one (pt_val (pv 1)))) (fun _ _ _ _ _ => by exact (pv 0)) rfl (by decide +kernel) (by decide +kernel) rfl (by decide +kernel) (by rfl) (fun _ _ h _ => h) (by decide +kernel)))), ?_⟩
    intro o H1 p ts L1 D1 hts h1 hq
    have inT : ∀ {H2 : Hp} {c : Addr × HO} {j : Nat} {z : Addr × Str × Bool}, Has H2 (c :: (p, .lst (refsOf ts)) :: ((tupsOf ts).reverse ++ L1)) → ts[j]? = some z → H2 z.1 = some (.tup [.str z.2.1, .bl z.2.2]) := fun {H2 c j z} h e => by
      refine h.at_ (z.1, _) (List.mem_cons_of_mem _ (List.mem_cons_of_mem _ (List.mem_append_left _ (List.mem_reverse.mpr ?_))))
      exact List.mem_map.mpr ⟨z, List.mem_of_getElem? e, rfl⟩
    refine ⟨_, rfl, p, rfl, ⟨_, SqL.of (h1.get 0 rfl)⟩, fun Dl hDl => ?_⟩
    refine ⟨fun n m zs H2 => m = ts.length - n ∧ n ≤ ts.length ∧ zs = (((ts.take n).map (·.2)).filter (·.2)).map (fun z => V.str z.1) ∧ Has H2 ((Dl, .lst zs) :: (p, .lst (refsOf ts)) :: ((tupsOf ts).reverse ++ L1)), ⟨_, rfl, Nat.zero_le _, rfl, h1.alloc hDl _⟩, ?_⟩
    rintro n m zs H2 ⟨rfl, hn, ez, h2⟩
    refine ⟨h2.get 0 rfl, ?_⟩
    have g0 := h2.get 1 rfl
    by_cases hlt : n < ts.length
    · have hx0 : (refsOf ts)[n]? = some (.ref ts[n].1) := by unfold refsOf; rw [List.getElem?_map, List.getElem?_eq_getElem hlt]; rfl
      have e0 : ts[n]? = some ts[n] := List.getElem?_eq_getElem hlt
      refine .inr ⟨⟨_, _, SqL.of g0, hx0⟩, ?_⟩
      rintro x H3 ⟨rfl, hx⟩
      have e1 := hx _ (SqL.of g0)
      rw [hx0] at e1
      cases e1
      have lz : zs.length ≤ 1000 := by
        rw [ez, List.length_map]
        refine Nat.le_trans (List.length_filter_le _ _) ?_
        rw [List.length_map, List.length_take]
        omega
      have tk : ts.take (n + 1) = ts.take n ++ [ts[n]] := by rw [List.take_succ, e0]; rfl
      refine ⟨ts[n].1, _, rfl, SqT.of (inT h2 e0), rfl, _, _, rfl, _, _, rfl, rfl, ?_⟩
      refine ⟨rfl, _, rfl, _, rfl, ?_⟩
      cases hb : ts[n].2.2 with
      | true =>
        refine iteT ⟨_, rfl, sizeOk (by omega), h2.get 0 rfl, ts.length - (n + 1), by omega, rfl, hlt, ?_, h2.puti 0 rfl _⟩
        rw [tk, List.map_append, List.filter_append, List.map_append, ← ez]
        show zs ++ [V.str ts[n].2.1] = zs ++ ((List.filter (·.2) [ts[n].2]).map fun z => V.str z.1)
        rw [List.filter_cons_of_pos hb]
        rfl
      | false =>
        refine iteF ⟨ts.length - (n + 1), by omega, rfl, hlt, ?_, h2⟩
        rw [tk, List.map_append, List.filter_append, List.map_append, ← ez]
        show zs = zs ++ ((List.filter (·.2) [ts[n].2]).map fun z => V.str z.1)
        rw [List.filter_cons_of_neg (by rw [hb]; exact Bool.false_ne_true)]
        simp
    · have en : n = ts.length := by omega
      refine .inl ⟨⟨_, SqL.of g0, by unfold refsOf; rw [List.length_map]; omega⟩, ?_⟩
      rw [en, List.take_length] at ez
      subst ez
      exact hq _ Dl (h2.sub (.cons_cons _ (.cons _ (List.sublist_append_right _ _))))
  refine ⟨_, (pss_cons (ps_set (i := 1) scRf.nd rfl (Or.inl rfl) (pe_lst pa_nil)) (pss_cons (ps_try (i := 0) (j := 2) D (hr.mono (by decide)) rfl rfl rfl (pv 0) (by rfl) T.m_RailError scRf.nd rfl rfl (fun e => pss_one (ps_set (i := 1) scRf.nd rfl (Or.inl rfl) (pe_callQ (ok_names T) ((hr.mono (by decide)).qm _) (by rfl) T.m_names T.F_names.kp (b_names T) (pa_cons (pv 2) pa_nil))))) h3)), ?_⟩
  refine ⟨sizeOk' (show 0 ≤ 1000000 by decide), fun p0 hp0 => ?_⟩
  have h1 := hH.alloc hp0 (.lst [])
  refine ⟨rfl, fun Cv ao H2 => ∃ C a i N, Cv = .ref C ∧ ao = some a ∧ RX i N ∧ i < 22 ∧ excAll K C t.c_RailError (dsOf t i) = true ∧ Has H2 (N ++ ((p0, .lst []) :: L)), hD _ ((p0, .lst []) :: L) _ _ h1.inn (fun v N H2 hRv h2 => ?_) (fun C a i N H2 r1 r2 r3 h2 => ⟨C, a, i, N, rfl, rfl, r1, r2, r3, h2⟩), ?_⟩
  · exact fin _ _ p0 [] (N ++ L) _ (Nat.zero_le _) h2.out fun H3 r h3' => hR v N r H3 hRv h3'
  · rintro C a H2 ⟨C', a', i, N, rfl, ea, r1, r2, r3, h2⟩ hn
    cases ea
    refine ⟨C', rfl, excAll_exm r3, ?_⟩
    have h4 := h2.alloc hn (.ext (ExcAt a C'))
    refine ⟨_, rfl, a, C', i, _, rfl, h4, List.mem_cons_self, r3, fun H3 p ts ets h5 => ?_⟩
    have h6 : Has H3 ((p, .lst (refsOf ts)) :: ((tupsOf ts).reverse ++ (N ++ L))) := by
      refine h5.sub (List.Sublist.cons_cons _ ?_)
      refine List.Sublist.append_left ?_ _
      exact List.Sublist.cons _ (List.Sublist.append_left (List.Sublist.cons _ (List.Sublist.refl _)) _)
    refine fin _ _ p ts (N ++ L) _ (by have := congrArg List.length ets; simp [flagsOf] at this; omega) h6 fun H4 r h7 => ?_
    rw [ets] at h7
    have e := flags_fil i r2
    refine hRX i N r H4 r1 r2 ?_
    have e2 : (((flagsOf i).filter (·.2)).map fun z => V.str z.1) = [V.str (nameAt i)] := by
      have := congrArg (List.map V.str) e
      rw [List.map_map] at this
      exact this
    rw [← e2]
    exact h7
end

theorem eqvR (d : PyData) (h : d.canLay0 = true) : PyData.eqv d d = true := PySem.SeqAt.eqv_refl d h
def strsD (ns : List Str) : PyData := .list (ns.map PyData.str)
theorem strsD_dv {K : PySem.W.Frag} {H : Hp} {l : Addr} {ns : List Str} (h : H l = some (.lst (ns.map V.str))) : DV K H (strsD ns) (.ref l) := by
  unfold strsD DV
  exact ⟨l, _, rfl, SqL.of h, DVs.map _ _ _ fun x _ => by unfold DV; rfl⟩

def dueN : Option Nat → List Str
  | none => []
  | some i => [nameAt i]
theorem nameAt_ok : ∀ i, i < 22 → PyData.strOk (nameAt i) = true
  | 0, _ => by decide +kernel
  | 1, _ => by decide +kernel
  | 2, _ => by decide +kernel
  | 3, _ => by decide +kernel
  | 4, _ => by decide +kernel
  | 5, _ => by decide +kernel
  | 6, _ => by decide +kernel
  | 7, _ => by decide +kernel
  | 8, _ => by decide +kernel
  | 9, _ => by decide +kernel
  | 10, _ => by decide +kernel
  | 11, _ => by decide +kernel
  | 12, _ => by decide +kernel
  | 13, _ => by decide +kernel
  | 14, _ => by decide +kernel
  | 15, _ => by decide +kernel
  | 16, _ => by decide +kernel
  | 17, _ => by decide +kernel
  | 18, _ => by decide +kernel
  | 19, _ => by decide +kernel
  | 20, _ => by decide +kernel
  | 21, _ => by decide +kernel
  | i + 22, h => absurd h (by omega)
theorem dueLay (o : Option Nat) (h : ∀ i, o = some i → i < 22) : (strsD (dueN o)).canLay0 = true := by
  cases o with
  | none => rfl
  | some i => simp [strsD, dueN, PyData.canLay0, PyData.canLayAll0, nameAt_ok i (h i rfl)]
theorem dueSh (o : Option Nat) (h : ∀ i, o = some i → i < 22) : SeqAt.shaped (strsD (dueN o)) = true := by
  refine shaped_of (dueLay o h) ?_
  cases o <;> simp [strsD, dueN, PyData.depth, PyData.depthAll]

theorem dropL {H : Hp} {M : Kn} : ∀ {G : Kn}, Has H (G ++ M) → Has H M
  | [], h => h
  | _ :: G, h => dropL (G := G) h.tail
def NT (z : Addr × HO) : Prop := ∀ ps, z.2 ≠ .tbl ps
theorem Tb.ne {H : Hp} {Z L : Kn} {Pt : Addr} {qual : Str} {z : Addr × HO} (T : Tb L Pt qual) (h : Has H (Z ++ L)) (m : z ∈ L) (hz : NT z) : z.1 ≠ Pt := fun e => by
  obtain ⟨ps, mp, _⟩ := T.ex
  have q1 := h.at_ _ (List.mem_append_right _ m)
  have q2 := h.at_ _ (List.mem_append_right _ mp)
  rw [e, q2] at q1
  exact hz _ (Option.some.inj q1).symm
theorem Tb.other {H : Hp} {Z L L' : Kn} {Pt Pf : Addr} {qual q2 : Str} (T : Tb L Pt qual) (F : Tb L Pf q2) (h : Has H (Z ++ L)) (ne : Pf ≠ Pt) (kp : ∀ z ∈ L, z.1 ≠ Pt → z ∈ L') : Tb L' Pf q2 := by
  obtain ⟨ps, m, tr, hp⟩ := F.ex
  exact ⟨ps, kp _ m ne, tr, fun pos => (hp pos).imp id fun ⟨c', oc, vs, t, a, b, c, d⟩ => ⟨c', oc, vs, t, a, kp _ b (Tb.ne T h b (fun _ e => nomatch e)), c, d⟩⟩

end P


set_option Elab.async false
set_option linter.all false
set_option maxRecDepth 100000
set_option maxHeartbeats 4000000
namespace P
open PySem L2

abbrev En := Addr × Int × Int
structure Wd where
  kf : Int → Option Kd
  nf : Int → Int
  rf : Int → Int
  mf : Int → Int → Option En
structure Sd where
  ss : List Int
  at_ : Option En
  rg : List Int
def Wd.sv (w : Wd) (s : Sd) (n : Int) : Int := s.ss.getD (w.rf n).toNat 0
def Wd.ok (w : Wd) (z : En) : Prop := ∃ k, w.kf z.2.1 = some k ∧ 0 ≤ z.2.2 ∧ z.2.2 < k.many
def stepS (w : Wd) (s : Sd) (z : En) (k : Kd) (z' : En) : Sd :=
  ⟨if k.point then s.ss.set (w.rf z.2.1).toNat (k.side z.2.2 (w.sv s z.2.1)) else s.ss, some z', if k = .bell then s.rg ++ [w.nf z.2.1] else s.rg⟩
def Wd.nx (w : Wd) (s : Sd) : Option Sd :=
  match s.at_ with
  | none => none
  | some z => match w.kf z.2.1 with
    | none => none
    | some k => match k.out z.2.2 (w.sv s z.2.1) with
      | .int o => (w.mf z.2.1 o).map (stepS w s z k)
      | _ => none
def Wd.why (w : Wd) (s : Sd) : V :=
  match s.at_ with
  | none => .str "none"
  | some z => match w.kf z.2.1 with
    | none => .non
    | some k => match k.out z.2.2 (w.sv s z.2.1) with
      | .int o => (match w.mf z.2.1 o with | none => .str "loose" | some _ => .non)
      | _ => .str "stop"
def Wd.go (w : Wd) : Nat → Sd → Sd
  | 0, s => s
  | n + 1, s => match w.nx s with | none => s | some s' => w.go n s'
def Wd.tv (w : Wd) (s : Sd) (z : En) : V := match w.kf z.2.1 with | some k => if k.point then .int (w.sv s z.2.1) else .non | none => .non
def Wd.tr (w : Wd) (s : Sd) : HO := match s.at_ with | some z => .tup [.ref z.1, w.tv s z] | none => .tup []
def enV : Option En → V
  | none => .non
  | some z => .ref z.1
structure Rep (w : Wd) (s : Sd) (y : YR) : Prop where
  kd : ∀ n k, w.kf n = some k → valV y.kinds (Sum.inl n) = some (.str k.str)
  no : ∀ n k, w.kf n = some k → valV y.notes (Sum.inl n) = if k = .bell then some (.int (w.nf n)) else none
  ro : ∀ n k, w.kf n = some k → valV y.rods (Sum.inl n) = if k.point = true then some (.int (w.rf n)) else none
  rr : ∀ n k, w.kf n = some k → k.point = true → 0 ≤ w.rf n ∧ w.rf n < s.ss.length
  sd : y.sides = s.ss.map V.int
  s12 : ∀ x ∈ s.ss, x = 1 ∨ x = 2
  mt : ∀ n e, valV y.mates (kE n e) = (w.mf n e).map fun z => V.ref z.1
  mo : ∀ n e z, w.mf n e = some z → w.ok z
  en : y.eng = enV s.at_
  eo : ∀ z, s.at_ = some z → w.ok z
  rg : y.rung = s.rg.map V.int
structure Pool (w : Wd) (s : Sd) (L : Kn) : Prop where
  m : ∀ n e z, w.mf n e = some z → ∃ j : Nat, L[j]? = some (z.1, HO.tup [.int z.2.1, .int z.2.2])
  e : ∀ z, s.at_ = some z → ∃ j : Nat, L[j]? = some (z.1, HO.tup [.int z.2.1, .int z.2.2])
theorem Rep.s1 {w : Wd} {s : Sd} {y : YR} (R : Rep w s y) {n : Int} {k : Kd} (hk : w.kf n = some k) (hp : k.point = true) : w.sv s n = 1 ∨ w.sv s n = 2 := by
  obtain ⟨h0, h1⟩ := R.rr n k hk hp
  refine R.s12 _ ?_
  unfold Wd.sv
  rw [List.getD_eq_getElem?_getD, List.getElem?_eq_getElem (by omega)]
  exact List.getElem_mem _
theorem stepS_at (w : Wd) (s : Sd) (z : En) (k : Kd) (z' : En) : (stepS w s z k z').at_ = some z' := rfl
theorem nx_some {w : Wd} {s s' : Sd} (h : w.nx s = some s') : ∃ (z : En) (k : Kd) (o : Int) (z' : En), s.at_ = some z ∧ w.kf z.2.1 = some k ∧ k.out z.2.2 (w.sv s z.2.1) = .int o ∧ w.mf z.2.1 o = some z' ∧ s' = stepS w s z k z' := by
  unfold Wd.nx at h
  split at h
  · cases h
  · rename_i z hz
    split at h
    · cases h
    · rename_i k hk
      split at h
      · rename_i o ho
        obtain ⟨z', hm, e⟩ := Option.map_eq_some_iff.mp h
        exact ⟨z, k, o, z', hz, hk, ho, hm, e.symm⟩
      · cases h
theorem Pool.step {w : Wd} {s s' : Sd} {L : Kn} (p : Pool w s L) (h : w.nx s = some s') : Pool w s' L := by
  obtain ⟨z, k, o, z', _, _, _, hm, rfl⟩ := nx_some h
  refine ⟨p.m, fun u hu => ?_⟩
  rw [stepS_at] at hu
  cases hu
  exact p.m _ _ _ hm
inductive Nxt (w : Wd) (s : Sd) : List V → Prop
  | held (h : w.nx s = none) (x : Str) (e : w.why s = .str x) : Nxt w s [.str x, .non, .non]
  | goes (z : En) (k : Kd) (o : Int) (z' : En) (hz : s.at_ = some z) (hk : w.kf z.2.1 = some k) (ho : k.out z.2.2 (w.sv s z.2.1) = .int o) (hm : w.mf z.2.1 o = some z') :
      Nxt w s [.non, .ref z'.1, if k.point then .int (k.side z.2.2 (w.sv s z.2.1)) else .non]

theorem why_goes {w : Wd} {s : Sd} {z : En} {k : Kd} {o : Int} {z' : En} (hz : s.at_ = some z) (hk : w.kf z.2.1 = some k) (ho : k.out z.2.2 (w.sv s z.2.1) = .int o) (hm : w.mf z.2.1 o = some z') : w.why s = .non := by
  unfold Wd.why; simp only [hz, hk, ho, hm]
theorem Nxt.why {w : Wd} {s : Sd} {xs : List V} (h : Nxt w s xs) : xs.length = 3 ∧ xs[0]? = some (w.why s) := by
  cases h with
  | held h x e => rw [e]; exact ⟨rfl, rfl⟩
  | goes z k o z' hz hk ho hm => rw [why_goes hz hk ho hm]; exact ⟨rfl, rfl⟩
theorem Pool.app {w : Wd} {s : Sd} {L : Kn} (p : Pool w s L) (M : Kn) : Pool w s (M ++ L) := by
  have sh : ∀ {x : Addr × HO}, (∃ j : Nat, L[j]? = some x) → ∃ j : Nat, (M ++ L)[j]? = some x := fun {x} ⟨j, h⟩ => ⟨M.length + j, by rw [List.getElem?_append_right (by omega), show M.length + j - M.length = j by omega]; exact h⟩
  exact ⟨fun n e z h => sh (p.m n e z h), fun z h => sh (p.e z h)⟩
section
variable {P : Program} {w : World} {K : PySem.W.Frag} {mg : Str → Option Value} {base : Heap} {t : Adr}
end

end P


set_option Elab.async false
set_option linter.all false
set_option maxRecDepth 100000
set_option maxHeartbeats 4000000
namespace P
open PySem L2

def kvOf (ks : List Kd) : List (Key × V) := ks.zipIdx.map fun p => ((Sum.inl (p.2 : Int) : Key), V.str p.1.str)
theorem kvOf_snoc (ks : List Kd) (k : Kd) : kvOf (ks ++ [k]) = kvOf ks ++ [((Sum.inl (ks.length : Int) : Key), V.str k.str)] := by
  unfold kvOf
  rw [List.zipIdx_append, List.map_append]
  simp
theorem kvOf_length (ks : List Kd) : (kvOf ks).length = ks.length := by unfold kvOf; simp
theorem valV_kv (f : Kd → V) : ∀ (ks : List Kd) (n m : Nat), valV ((ks.zipIdx n).map fun p => ((Sum.inl (p.2 : Int) : Key), f p.1)) (Sum.inl (m : Int)) = if n ≤ m then (ks[m - n]?).map f else none
  | [], n, m => by simp [valV_nil]
  | k :: ks, n, m => by
    rw [List.zipIdx_cons, List.map_cons]
    by_cases e : n = m
    · subst e
      rw [valV_pos rfl]; simp
    · rw [valV_neg (fun z => e (by injection z with z; exact Int.ofNat.inj z)), valV_kv f ks (n + 1) m]
      by_cases c : n ≤ m
      · rw [if_pos c, if_pos (by omega)]
        obtain ⟨d, rfl⟩ : ∃ d, m = n + 1 + d := ⟨m - (n + 1), by omega⟩
        rw [show n + 1 + d - (n + 1) = d by omega, show n + 1 + d - n = d + 1 by omega]
        rfl
      · rw [if_neg c, if_neg (by omega)]
theorem valV_kvOf (ks : List Kd) (m : Nat) : valV (kvOf ks) (Sum.inl (m : Int)) = (ks[m]?).map fun k => V.str k.str := by
  have := valV_kv (fun k => V.str k.str) ks 0 m
  rw [if_pos (Nat.zero_le _)] at this
  exact this
structure Blt (y : YR) (ks : List Kd) (ns rs ss : List Int) : Prop where
  nx : y.next = ks.length
  kd : y.kinds = kvOf ks
  nl : ns.length = ks.length
  rl : rs.length = ks.length
  no : ∀ (i : Nat), valV y.notes (Sum.inl (i : Int)) = if ks[i]? = some .bell then some (.int (ns.getD i 0)) else none
  ro : ∀ (i : Nat), valV y.rods (Sum.inl (i : Int)) = if (ks[i]?.map Kd.point) = some true then some (.int (rs.getD i 0)) else none
  rr : ∀ (i : Nat), (ks[i]?.map Kd.point) = some true → 0 ≤ rs.getD i 0 ∧ rs.getD i 0 < ss.length
  nlen : y.notes.length ≤ ks.length
  rlen : y.rods.length ≤ ks.length
  sd : y.sides = ss.map V.int
  s12 : ∀ s ∈ ss, s = 1 ∨ s = 2
  sl : ss.length ≤ ks.length
  mt : y.mates = []
  en : y.eng = .non
  rg : y.rung = []
  tl : y.trail = []
  nr : ∀ x ∈ ns, 0 ≤ x ∧ x ≤ 9999
  rn : ∀ (i : Nat), (ks[i]?.map Kd.point) = some false → rs.getD i 0 < 0
theorem Blt.nil : Blt y0 [] [] [] [] := ⟨rfl, rfl, rfl, rfl, (fun i => rfl), (fun i => rfl), (fun i h => by simp at h), Nat.le_refl _, Nat.le_refl _, rfl, (fun _ h => nomatch h), Nat.le_refl _, rfl, rfl, rfl, rfl, (fun _ h => nomatch h), (fun i h => by simp at h)⟩
theorem Blt.small {y : YR} {ks : List Kd} {ns rs ss : List Int} (h : Blt y ks ns rs ss) (hk : ks.length ≤ 1000) : Small y :=
  ⟨by rw [h.kd, kvOf_length]; omega, by have := h.nlen; omega, by have := h.rlen; omega, by have := h.sl; rw [h.sd, List.length_map]; omega, by rw [h.mt]; decide, by rw [h.rg]; decide, by rw [h.tl]; decide⟩
theorem getD_snoc {xs : List Int} {x : Int} {i : Nat} (h : i < xs.length) : (xs ++ [x]).getD i 0 = xs.getD i 0 := by simp [List.getD, List.getElem?_append_left h]
theorem getD_last {xs : List Int} {x : Int} : (xs ++ [x]).getD xs.length 0 = x := by simp [List.getD]
theorem Blt.lay {y : YR} {ks : List Kd} {ns rs ss : List Int} (h : Blt y ks ns rs ss) (k : Kd) (z note bar : Int) (rod : V) (ss' : List Int) (hz : 0 ≤ z ∧ z ≤ 9999) (hb : k = .bell → note = z)
    (hp : k.point = true → (rod = .non ∧ bar = ss.length ∧ ss' = ss ++ [1]) ∨ (rod = .int bar ∧ 0 ≤ bar ∧ bar < ss.length ∧ ss' = ss)) (hn : k.point = false → ss' = ss ∧ bar < 0) :
    Blt (layY y k note rod) (ks ++ [k]) (ns ++ [z]) (rs ++ [bar]) ss' := by
  have hnl := h.nl
  have hrl := h.rl
  have up : ss.length ≤ ss'.length ∧ ss'.length ≤ ss.length + 1 := by
    cases e : k.point with
    | false => rw [(hn e).1]; omega
    | true => rcases hp e with ⟨_, _, r⟩ | ⟨_, _, _, r⟩ <;> rw [r] <;> simp
  have fresh : valV y.kinds (Sum.inl (ks.length : Int)) = none := by rw [h.kd, valV_kvOf, List.getElem?_eq_none (Nat.le_refl _)]; rfl
  have ne : ∀ {i : Nat}, ¬ i = ks.length → ¬ (Sum.inl (i : Int) : Key) = Sum.inl (ks.length : Int) := fun {i} c e => c (by injection e with e; exact Int.ofNat.inj e)
  have out : ∀ {i : Nat}, ¬ i = ks.length → ¬ i < ks.length → (ks ++ [k])[i]? = none ∧ ks[i]? = none := fun {i} c1 c2 => ⟨List.getElem?_eq_none (by simp; omega), List.getElem?_eq_none (by omega)⟩
  refine ⟨?_, ?_, by simp [hnl], by simp [hrl], fun i => ?_, fun i => ?_, fun i hi => ?_, ?_, ?_, ?_, ?_, ?_, h.mt, h.en, h.rg, rfl, ?_, fun i hi => ?_⟩
  · show y.next + 1 = _
    rw [h.nx]; simp
  · show putK y.kinds (Sum.inl y.next) (.str k.str) = _
    rw [h.nx, putK_new _ fresh, h.kd, kvOf_snoc]
  · show valV (if k = .bell then putK y.notes (Sum.inl y.next) (.int note) else y.notes) _ = _
    rw [h.nx]
    by_cases c : i = ks.length
    · subst c
      rw [List.getElem?_concat_length]
      by_cases kb : k = .bell
      · rw [if_pos kb, valV_put, if_pos rfl, if_pos (by rw [kb]), ← hnl, getD_last, hb kb]
      · rw [if_neg kb, h.no, List.getElem?_eq_none (Nat.le_refl _), if_neg (by intro z; cases z), if_neg (by intro z; exact kb (Option.some.inj z))]
    · have e : valV (if k = .bell then putK y.notes (Sum.inl (ks.length : Int)) (.int note) else y.notes) (Sum.inl (i : Int)) = valV y.notes (Sum.inl (i : Int)) := by
        by_cases kb : k = .bell
        · rw [if_pos kb, valV_put, if_neg (ne c)]
        · rw [if_neg kb]
      rw [e, h.no]
      by_cases c2 : i < ks.length
      · rw [List.getElem?_append_left c2, getD_snoc (by omega)]
      · rw [(out c c2).1, (out c c2).2, if_neg (by intro z; cases z), if_neg (by intro z; cases z)]
  · show valV (if k.point = true then putK y.rods (Sum.inl y.next) (if rod = .non then .int y.sides.length else rod) else y.rods) _ = _
    rw [h.nx]
    by_cases c : i = ks.length
    · subst c
      rw [List.getElem?_concat_length, ← hrl, getD_last, hrl]
      cases kp : k.point with
      | true =>
        rw [if_pos rfl, valV_put, if_pos rfl, if_pos (show Option.map Kd.point (some k) = some true by simp [kp])]
        rcases hp kp with ⟨r1, r2, _⟩ | ⟨r1, _, _, _⟩
        · rw [if_pos r1, h.sd, List.length_map, r2]
        · rw [r1, if_neg (by intro z; cases z)]
      | false =>
        rw [if_neg Bool.false_ne_true, h.ro, List.getElem?_eq_none (Nat.le_refl _), if_neg (by intro z; cases z), if_neg (by simp [kp])]
    · have e : valV (if k.point = true then putK y.rods (Sum.inl (ks.length : Int)) (if rod = .non then .int y.sides.length else rod) else y.rods) (Sum.inl (i : Int)) = valV y.rods (Sum.inl (i : Int)) := by
        by_cases kb : k.point = true
        · rw [if_pos kb, valV_put, if_neg (ne c)]
        · rw [if_neg kb]
      rw [e, h.ro]
      by_cases c2 : i < ks.length
      · rw [List.getElem?_append_left c2, getD_snoc (by omega)]
      · rw [(out c c2).1, (out c c2).2, if_neg (by intro z; cases z), if_neg (by intro z; cases z)]
  · by_cases c : i = ks.length
    · subst c
      rw [List.getElem?_concat_length] at hi
      rw [← hrl, getD_last]
      rcases hp (by simpa using hi) with ⟨_, r2, r3⟩ | ⟨_, r2, r3, r4⟩
      · refine ⟨by omega, ?_⟩
        rw [r3, r2, List.length_append, List.length_singleton]
        omega
      · rw [r4]; exact ⟨r2, r3⟩
    · by_cases c2 : i < ks.length
      · rw [List.getElem?_append_left c2] at hi
        rw [getD_snoc (by omega)]
        have := h.rr i hi
        exact ⟨this.1, by omega⟩
      · rw [(out c c2).1] at hi; cases hi
  · show (if k = .bell then putK y.notes (Sum.inl y.next) (.int note) else y.notes).length ≤ _
    have := h.nlen
    have := length_putK y.notes (Sum.inl y.next) (.int note)
    rw [List.length_append, List.length_singleton]
    split <;> omega
  · show (if k.point = true then putK y.rods (Sum.inl y.next) (if rod = .non then .int y.sides.length else rod) else y.rods).length ≤ _
    have := h.rlen
    have := length_putK y.rods (Sum.inl y.next) (if rod = .non then .int y.sides.length else rod)
    rw [List.length_append, List.length_singleton]
    split <;> omega
  · show (if k.point = true ∧ rod = .non then y.sides ++ [.int 1] else y.sides) = _
    cases kp : k.point with
    | true =>
      rcases hp kp with ⟨r1, _, r3⟩ | ⟨r1, _, _, r4⟩
      · rw [if_pos ⟨rfl, r1⟩, h.sd, r3, List.map_append]; rfl
      · rw [if_neg (by rw [r1]; intro z; cases z.2), h.sd, r4]
    | false => rw [if_neg (fun z => Bool.false_ne_true z.1), h.sd, (hn kp).1]
  · intro s hs
    cases kp : k.point with
    | true =>
      rcases hp kp with ⟨r1, _, r3⟩ | ⟨r1, _, _, r4⟩
      · rw [r3, List.mem_append] at hs
        rcases hs with hs | hs
        · exact h.s12 s hs
        · exact .inl (by simpa using hs)
      · rw [r4] at hs; exact h.s12 s hs
    | false => rw [(hn kp).1] at hs; exact h.s12 s hs
  · have := h.sl
    rw [List.length_append, List.length_singleton]
    omega
  · intro x hx
    rw [List.mem_append] at hx
    rcases hx with hx | hx
    · exact h.nr x hx
    · rw [List.mem_singleton.mp hx]; exact hz
  · by_cases c : i = ks.length
    · subst c
      rw [List.getElem?_concat_length] at hi
      rw [← hrl, getD_last]
      exact (hn (by simpa using hi)).2
    · by_cases c2 : i < ks.length
      · rw [List.getElem?_append_left c2] at hi
        rw [getD_snoc (by omega)]
        exact h.rn i hi
      · rw [(out c c2).1] at hi; cases hi

def sp_kinds : Sp := fun vs H Q _ => vs = [] ∧ ∀ p, H p = none → Q (.ref p) (upd H p (.lst [.str "line", .str "bell", .str "still", .str "lazy", .str "turning", .str "stop"]))
def sp_kind : Sp := fun vs H Q _ => ∃ (x : Int) (L : Kn), vs = [.int x] ∧ Has H L ∧ ∀ (k : Kd) H', Has H' L → Q (.str k.str) H'
def sp_size : Sp := fun vs H Q _ => ∃ x : Int, vs = [.int x] ∧ ∀ n : Int, 1 ≤ n → n ≤ 24 → Q (.int n) H
def ksV (ks : List Kd) : List V := ks.map fun k => V.str k.str
def sp_built (C : Addr) : Sp := fun vs H Q _ => ∃ (d : Addr) (ds : List Int) (a n : Int) (L : Kn) (j : Nat), vs = [.ref d, .int a, .int n] ∧ Has H L ∧ L[j]? = some (d, .lst (ds.map V.int)) ∧ 0 ≤ a ∧ 0 ≤ n ∧ n ≤ 24 ∧ a + 3 * n ≤ ds.length ∧
  ∀ H' A y (ks : List Kd) (ns rs ss : List Int) (tp sd rr nn kk : Addr), Blt y ks ns rs ss → (ks.length : Int) = n →
    Has H' ((tp, .tup [.ref A.p, .ref kk, .ref nn, .ref rr, .ref sd]) :: (yL C A y ++ ([(sd, .lst (ss.map V.int)), (rr, .lst (rs.map V.int)), (nn, .lst (ns.map V.int)), (kk, .lst (ksV ks))] ++ L))) → Q (.ref tp) H'
theorem Kd.of11 (x : Int) : ∃ k : Kd, atI ([V.str "line", .str "bell", .str "still", .str "lazy", .str "turning", .str "stop"] ++ [V.str "lazy", .str "turning", .str "bell", .str "still", .str "line"]) (x % 11) = some (.str k.str) := by
  have l0 := Int.emod_nonneg x (show (11 : Int) ≠ 0 by decide)
  have l1 := Int.emod_lt_of_pos x (show (0 : Int) < 11 by decide)
  generalize x % 11 = m at *
  have : m = 0 ∨ m = 1 ∨ m = 2 ∨ m = 3 ∨ m = 4 ∨ m = 5 ∨ m = 6 ∨ m = 7 ∨ m = 8 ∨ m = 9 ∨ m = 10 := by omega
  rcases this with rfl | rfl | rfl | rfl | rfl | rfl | rfl | rfl | rfl | rfl | rfl
  · exact ⟨.line, rfl⟩
  · exact ⟨.bell, rfl⟩
  · exact ⟨.still, rfl⟩
  · exact ⟨.lazy, rfl⟩
  · exact ⟨.turning, rfl⟩
  · exact ⟨.stop, rfl⟩
  · exact ⟨.lazy, rfl⟩
  · exact ⟨.turning, rfl⟩
  · exact ⟨.bell, rfl⟩
  · exact ⟨.still, rfl⟩
  · exact ⟨.line, rfl⟩
theorem atD {ds : List Int} {i : Int} (h0 : 0 ≤ i) (h1 : i < ds.length) : atI (ds.map V.int) i = some (.int (ds.getD i.toNat 0)) := by
  obtain ⟨m, rfl⟩ : ∃ m : Nat, i = m := ⟨i.toNat, by omega⟩
  have hl : m < ds.length := by omega
  rw [Int.toNat_natCast]
  refine atI_nat ?_
  rw [List.getElem?_map, List.getElem?_eq_getElem hl]
  simp [List.getD, List.getElem?_eq_getElem hl]
section
variable {P : Program} {w : World} {K : PySem.W.Frag} {mg : Str → Option Value} {base : Heap} {t : Adr}
theorem scKs : FnScope [] [] (defScope s_kinds) := ⟨rfl, rfl, rfl, by decide +kernel, rfl, by decide +kernel, by decide +kernel⟩
theorem ok_kinds (T : Txt K mg t) : FnOk P w K mg base CX0 1 t.f_kinds t.d_kinds [] sp_kinds := by
  refine T.F_kinds.ok scKs (fun vs H Q E h => ?_) (fun cdv A outer s H vs Q E hr h => ?_)
  · obtain ⟨rfl, _⟩ := h
    rfl
  · obtain ⟨rfl, q⟩ := h
    refine ⟨_, (pss_one (ps_ret (pe_lst (pa_cons pe_str (pa_cons pe_str (pa_cons pe_str (pa_cons pe_str (pa_cons pe_str (pa_cons pe_str pa_nil))))))))), ?_⟩
    exact ⟨(show 6 ≤ sizeLine by decide), fun p hp => q p hp⟩
theorem scKn : FnScope ["_law_draw"] ["_law_draw"] (defScope s_kind) := ⟨rfl, rfl, rfl, by decide +kernel, rfl, by decide +kernel, by decide +kernel⟩
theorem ok_kind (T : Txt K mg t) : FnOk P w K mg base CX0 2 t.f_kind t.d_kind ["_law_draw"] sp_kind := by
  refine T.F_kind.ok scKn (fun vs H Q E h => ?_) (fun cdv A outer s H vs Q E hr h => ?_)
  · obtain ⟨_, _, rfl, _⟩ := h
    rfl
  · obtain ⟨x, L, rfl, hH, q⟩ := h
    refine ⟨_, (pss_one (ps_ret (pe_ix ix_list (pe_op op_addL (pe_call0 (ok_kinds T) (hr.mono (by decide)) (by rfl) T.m_kinds T.F_kinds.kp (b_kinds T) .nil pass0) (pe_lst (pa_cons pe_str (pa_cons pe_str (pa_cons pe_str (pa_cons pe_str (pa_cons pe_str pa_nil))))))) (pe_op op_mod (pv 0) pe_int) (fun _ _ => rfl)))), ?_⟩
    refine ⟨rfl, fun p1 hp1 => ?_⟩
    have h1 := hH.alloc hp1 (.lst [.str "line", .str "bell", .str "still", .str "lazy", .str "turning", .str "stop"])
    refine ⟨(show 5 ≤ sizeLine by decide), fun p2 hp2 => ?_⟩
    have h2 := h1.alloc hp2 (.lst [.str "lazy", .str "turning", .str "bell", .str "still", .str "line"])
    refine ⟨p1, p2, _, _, rfl, rfl, SqL.of (h2.get 1 rfl), SqL.of (h2.get 0 rfl), (show 11 ≤ sizeLine by decide), fun p3 hp3 => ?_⟩
    have h3 := h2.alloc hp3 (.lst ([V.str "line", .str "bell", .str "still", .str "lazy", .str "turning", .str "stop"] ++ [V.str "lazy", .str "turning", .str "bell", .str "still", .str "line"]))
    obtain ⟨k, hk⟩ := Kd.of11 x
    refine ⟨_, rfl, _, _, rfl, rfl, (show (0 : Int) < 11 by decide), p3, _, _, _, rfl, rfl, SqL.of (h3.get 0 rfl), hk, ?_⟩
    exact q k _ h3.tail.tail.tail
theorem scSz : FnScope ["_law_draw"] ["_law_draw"] (defScope s_size) := ⟨rfl, rfl, rfl, by decide +kernel, rfl, by decide +kernel, by decide +kernel⟩
theorem ok_size (T : Txt K mg t) : FnOk P w K mg base CX0 1 t.f_size t.d_size ["_law_draw"] sp_size := by
  refine T.F_size.ok scSz (fun vs H Q E h => ?_) (fun cdv A outer s H vs Q E hr h => ?_)
  · obtain ⟨_, rfl, _⟩ := h
    rfl
  · obtain ⟨x, rfl, q⟩ := h
    refine ⟨_, (pss_cons (ps_if (pt_cmpR op_eq (pe_op op_mod (pe_op op_fdiv (pv 0) pe_int) pe_int) pe_int (nomark _))
        (pss_one (ps_ret pe_int))
        pss_nil)
      (pss_one (ps_ret (pe_op op_add pe_int (pe_op op_mod (pv 0) pe_int))))), ?_⟩
    refine ⟨_, rfl, _, _, rfl, rfl, ⟨by decide, by decide⟩, _, _, rfl, rfl, (show (0 : Int) < 6 by decide), rfl, _, rfl, if2 (fun _ => ?_) (fun _ => ?_)⟩
    · exact q 24 (by decide) (by decide)
    · refine ⟨_, rfl, _, _, rfl, rfl, (show (0 : Int) < 9 by decide), _, _, rfl, rfl, ?_⟩
      have l0 := Int.emod_nonneg x (show (9 : Int) ≠ 0 by decide)
      have l1 := Int.emod_lt_of_pos x (show (0 : Int) < 9 by decide)
      exact q _ (by omega) (by omega)
theorem scBu : FnScope ["_law_d", "_law_at", "_law_many_here", "_law_yard", "_law_kinds_here", "_law_notes", "_law_rods", "_law_sides", "_law_piece", "_law_kind_here", "_law_note", "_law_way", "_law_bar"] ["_law_d", "_law_at", "_law_many_here"] (defScope s_built) := ⟨rfl, rfl, rfl, by decide +kernel, rfl, by decide +kernel, by decide +kernel⟩
theorem ok_built (T : Txt K mg t) : FnOk P w K mg base CX0 5 t.f_built t.d_built ["_law_d", "_law_at", "_law_many_here"] (sp_built t.c_Yard) := by
  obtain ⟨_, hd_Yard_lay_2, hb_Yard_lay_2⟩ := bD_Yard_lay_2 T
  obtain ⟨_, hd_Yard_lay_3, hb_Yard_lay_3⟩ := bD_Yard_lay_3 T
  obtain ⟨_, hd_Yard_lay_4, hb_Yard_lay_4⟩ := bD_Yard_lay_4 T
  refine T.F_built.ok scBu (fun vs H Q E h => ?_) (fun cdv A outer s H vs Q E hr h => ?_)
  · obtain ⟨_, _, _, _, _, _, rfl, _⟩ := h
    rfl
  · obtain ⟨d, ds, a, n, L, j, rfl, hH, hj, a0, n0, n24, hds, q⟩ := h
    refine ⟨_, (pss_cons (ps_set (i := 3) scBu.nd rfl (Or.inl rfl) (pe_make0 T.mk_Yard (ok_Yard_init T) (hr.mono (by decide)) (by rfl) T.m_Yard (b_Yard_init T) .nil pass0))
      (pss_cons (ps_set (i := 4) scBu.nd rfl (Or.inl rfl) (pe_lst pa_nil))
      (pss_cons (ps_set (i := 5) scBu.nd rfl (Or.inl rfl) (pe_lst pa_nil))
      (pss_cons (ps_set (i := 6) scBu.nd rfl (Or.inl rfl) (pe_lst pa_nil))
      (pss_cons (ps_set (i := 7) scBu.nd rfl (Or.inl rfl) (pe_lst pa_nil))
      (pss_cons (ps_for PassesOwn.never rfl (pi_range1 (by rfl) T.z_range (pa_cons (pv 2) pa_nil)) (pg_name (i := 8) scBu.nd rfl (Or.inl rfl))
        (pss_cons (ps_set (i := 9) scBu.nd rfl (Or.inl rfl) (pe_call (ok_kind T) (hr.mono (by decide)) (by rfl) T.m_kind T.F_kind.kp (b_kind T) .nil pass0 (pa_cons (pe_ix ix_list (pv 0) (pe_op op_add (pv 1) (pe_op op_mul pe_int (pv 8))) (fun _ _ => rfl)) pa_nil)))
          (pss_cons (ps_set (i := 10) scBu.nd rfl (Or.inl rfl) (pe_op op_mod (pe_ix ix_list (pv 0) (pe_op op_add (pe_op op_add (pv 1) (pe_op op_mul pe_int (pv 8))) pe_int) (fun _ _ => rfl)) pe_int))
          (pss_cons (ps_set (i := 11) scBu.nd rfl (Or.inl rfl) (pe_ix ix_list (pv 0) (pe_op op_add (pe_op op_add (pv 1) (pe_op op_mul pe_int (pv 8))) pe_int) (fun _ _ => rfl)))
          (pss_cons (ps_set (i := 12) scBu.nd rfl (Or.inl rfl) (pe_op op_sub pe_int pe_int))
          (pss_cons (ps_if (pt_cmpR op_eq (pv 9) pe_str (nomark _))
            (pss_one (ps_expr (pe_meth (pv 3) T.cl_Yard T.M_Yard_lay (ok_Yard_lay T) (hr.mono (by decide)) hb_Yard_lay_3 hd_Yard_lay_3 pass0 (pa_cons (pv 9) (pa_cons (pv 10) pa_nil)))))
            (pss_one (ps_if (pt_cmpR op_lt (pe_call (ok_many T) (hr.mono (by decide)) (by rfl) T.m_many T.F_many.kp (b_many T) .nil pass0 (pa_cons (pv 9) pa_nil)) pe_int (nomark _))
                (pss_one (ps_expr (pe_meth (pv 3) T.cl_Yard T.M_Yard_lay (ok_Yard_lay T) (hr.mono (by decide)) hb_Yard_lay_2 hd_Yard_lay_2 pass0 (pa_cons (pv 9) pa_nil))))
                (pss_one (ps_if (PW.pt (pw_and (pt_cmpR op_eq (pe_op op_mod (pv 11) pe_int) pe_int (nomark _)) (pw_and1 (pt_cmpR op_gt (pe_callB call_len_seq (by rfl) T.z_len (by rfl) (pa_cons (pv 7) pa_nil)) pe_int (nomark _)))))
                    (pss_cons (ps_set (i := 12) scBu.nd rfl (Or.inl rfl) (pe_op op_mod (pe_op op_fdiv (pv 11) pe_int) (pe_callB call_len_seq (by rfl) T.z_len (by rfl) (pa_cons (pv 7) pa_nil))))
                      (pss_one (ps_expr (pe_meth (pv 3) T.cl_Yard T.M_Yard_lay (ok_Yard_lay T) (hr.mono (by decide)) hb_Yard_lay_4 hd_Yard_lay_4 pass0 (pa_cons (pv 9) (pa_cons pe_int (pa_cons (pv 12) pa_nil)))))))
                    (pss_cons (ps_set (i := 12) scBu.nd rfl (Or.inl rfl) (pe_callB call_len_seq (by rfl) T.z_len (by rfl) (pa_cons (pv 7) pa_nil)))
                      (pss_cons (ps_expr (pe_bm PySem.F.plainAttrs_list PySem.F.slot_list_append PySem.F.type_list_append mt_append (pv 7) (pa_cons pe_int pa_nil)))
                      (pss_one (ps_expr (pe_meth (pv 3) T.cl_Yard T.M_Yard_lay (ok_Yard_lay T) (hr.mono (by decide)) hb_Yard_lay_2 hd_Yard_lay_2 pass0 (pa_cons (pv 9) pa_nil)))))))))))
          (pss_cons (ps_expr (pe_bm PySem.F.plainAttrs_list PySem.F.slot_list_append PySem.F.type_list_append mt_append (pv 4) (pa_cons (pv 9) pa_nil)))
          (pss_cons (ps_expr (pe_bm PySem.F.plainAttrs_list PySem.F.slot_list_append PySem.F.type_list_append mt_append (pv 5) (pa_cons (pv 10) pa_nil)))
          (pss_one (ps_expr (pe_bm PySem.F.plainAttrs_list PySem.F.slot_list_append PySem.F.type_list_append mt_append (pv 6) (pa_cons (pv 12) pa_nil))))))))))))
      (pss_one (ps_ret (pe_tup (pa_cons (pv 3) (pa_cons (pv 4) (pa_cons (pv 5) (pa_cons (pv 6) (pa_cons (pv 7) pa_nil)))))))))))))), ?_⟩
    intro p1 dx1 hp1 hdx1 ne1
    refine ⟨p1, dx1, _, rfl, (hH.alloc hdx1 (.own p1)).alloc (by rw [upd_ne (Ne.symm ne1)]; exact hp1) (.ins t.c_Yard dx1 []), fun H2 A1 e1 h2 => ⟨rfl, ?_⟩⟩
    subst e1
    refine ⟨by decide, fun kk hkk => ?_⟩
    have h3 := h2.alloc hkk (.lst [])
    generalize upd H2 kk _ = H3 at h3 ⊢
    refine ⟨by decide, fun nn hnn => ?_⟩
    have h4 := h3.alloc hnn (.lst [])
    generalize upd H3 nn _ = H4 at h4 ⊢
    refine ⟨by decide, fun rr hrr => ?_⟩
    have h5 := h4.alloc hrr (.lst [])
    generalize upd H4 rr _ = H5 at h5 ⊢
    refine ⟨by decide, fun sd hsd => ?_⟩
    have h6 := Has.comm (X := [(sd, .lst []), (rr, .lst []), (nn, .lst []), (kk, .lst [])]) (Y := yL t.c_Yard A1 y0) (R := L) (h5.alloc hsd (.lst []))
    generalize upd H5 sd _ = H6 at h6 ⊢
    refine ⟨_, rfl, n, rfl, by omega, by omega, for_range (fun i σ H' => ∃ (A1 : YA) (y : YR) (ks : List Kd) (ns rs ss : List Int) (o1 o2 o3 o4 o5 : Option V), Blt y ks ns rs ss ∧ ks.length = i ∧ σ = [some (.ref d), some (.int a), some (.int n), some (.ref A1.p), some (.ref kk), some (.ref nn), some (.ref rr), some (.ref sd), o1, o2, o3, o4, o5] ∧
      Has H' (yL t.c_Yard A1 y ++ ([(sd, .lst (ss.map V.int)), (rr, .lst (rs.map V.int)), (nn, .lst (ns.map V.int)), (kk, .lst (ksV ks))] ++ L))) ⟨_, _, _, _, _, _, _, _, _, _, _, Blt.nil, rfl, rfl, h6⟩ ?_ ?_⟩
    · clear h2 h3 h4 h5 h6
      rintro i σ H6 hi ⟨A1, y, ks, ns, rs, ss, o1, o2, o3, o4, o5, B, lk, rfl, h6⟩
      have i24 : i < 24 := by omega
      have hnl := B.nl
      have hrl := B.rl
      have hsl := B.sl
      have hd1 : SqL K H6 d (ds.map V.int) := SqL.of (h6.get (j + 13) (by simpa [yL] using hj))
      refine ⟨_, rfl, _, rfl, _, rfl, _, _, rfl, rfl, (.inl ⟨by decide, by decide⟩), _, _, rfl, rfl, d, _, _, _, rfl, rfl, hd1, atD (by omega) (by omega), _, _, rfl, h6, fun k H7 h7 => ?_⟩
      have hd2 : SqL K H7 d (ds.map V.int) := SqL.of (h7.get (j + 13) (by simpa [yL] using hj))
      clear h6
      refine ⟨_, rfl, _, rfl, _, rfl, _, _, rfl, rfl, (.inl ⟨by decide, by decide⟩), _, _, rfl, rfl, _, _, rfl, rfl, d, _, _, _, rfl, rfl, hd2, atD (by omega) (by omega), _, _, rfl, rfl, (show (0 : Int) < 10000 by decide), ?_⟩
      refine ⟨_, rfl, _, rfl, _, rfl, _, _, rfl, rfl, (.inl ⟨by decide, by decide⟩), _, _, rfl, rfl, _, _, rfl, rfl, d, _, _, _, rfl, rfl, hd2, atD (by omega) (by omega), ?_⟩
      refine ⟨_, _, rfl, rfl, ?_⟩
      dsimp only
      have z0 := Int.emod_nonneg (ds.getD (a + 3 * (0 + (i : Int)) + 1).toNat 0) (show (10000 : Int) ≠ 0 by decide)
      have z1 := Int.emod_lt_of_pos (ds.getD (a + 3 * (0 + (i : Int)) + 1).toNat 0) (show (0 : Int) < 10000 by decide)
      generalize ds.getD (a + 3 * (0 + (i : Int)) + 1).toNat 0 % 10000 = z at z0 z1 ⊢
      generalize ds.getD (a + 3 * (0 + (i : Int)) + 2).toNat 0 = way
      have hz : 0 ≤ z ∧ z ≤ 9999 := ⟨z0, by omega⟩
      refine ⟨_, rfl, rfl, _, rfl, ?_⟩
      rw [k.isBell]
      refine ifd (fun kb => ?_) (fun kb => ?_)
      · refine ⟨_, rfl, A1.p, A1.dx, _, rfl, h7.get 1 rfl, (fl_m _ _ _).1, _, rfl, _, rfl, A1, y, _, k, z, .non, rfl, h7, B.small (by omega), fun _ => hz, fun _ h => absurd rfl h, fun H9 q9 h9 => ?_⟩
        have kp : k.point = false := by rw [kb]; rfl
        refine ⟨_, rfl, .inl ⟨rfl, _, SqL.of (h9.get 12 rfl)⟩, _, rfl, kk, _, _, rfl, rfl, h9.get 12 rfl, sizeOk (by unfold ksV; rw [List.length_map]; omega), ?_⟩
        have h10 := h9.puti 12 rfl (.lst (ksV ks ++ [.str k.str]))
        refine ⟨_, rfl, .inl ⟨rfl, _, SqL.of (h10.get 11 rfl)⟩, _, rfl, nn, _, _, rfl, rfl, h10.get 11 rfl, sizeOk (by rw [List.length_map]; omega), ?_⟩
        have h11 := h10.puti 11 rfl (.lst (ns.map V.int ++ [.int z]))
        refine ⟨_, rfl, .inl ⟨rfl, _, SqL.of (h11.get 10 rfl)⟩, _, rfl, rr, _, _, rfl, rfl, h11.get 10 rfl, sizeOk (by rw [List.length_map]; omega), ?_⟩
        have h12 := h11.puti 10 rfl (.lst (rs.map V.int ++ [.int (0 - 1)]))
        refine ⟨{ A1 with tr := q9 }, _, ks ++ [k], ns ++ [z], rs ++ [(0 - 1)], ss, _, _, _, _, _, (B.lay k z z (0 - 1) .non ss hz (fun _ => rfl) (fun h => absurd (kp.symm.trans h) (by decide)) (fun _ => ⟨rfl, by decide⟩)), by simp [lk], rfl, ?_⟩
        have e1 : ksV (ks ++ [k]) = ksV ks ++ [.str k.str] := by unfold ksV; rw [List.map_append]; rfl
        rw [e1, List.map_append (l₁ := ns), List.map_append (l₁ := rs)]
        exact h12
      · refine ⟨_, rfl, k, rfl, _, _, rfl, rfl, _, rfl, if2 (fun km => ?_) (fun km => ?_)⟩
        · refine ⟨_, rfl, A1.p, A1.dx, _, rfl, h7.get 1 rfl, (fl_m _ _ _).1, _, rfl, A1, y, _, k, 0, .non, rfl, h7, B.small (by omega), fun h => absurd h kb, fun _ h => absurd rfl h, fun H9 q9 h9 => ?_⟩
          have kp : k.point = false := by cases k <;> first | rfl | (exfalso; revert km; decide)
          refine ⟨_, rfl, .inl ⟨rfl, _, SqL.of (h9.get 12 rfl)⟩, _, rfl, kk, _, _, rfl, rfl, h9.get 12 rfl, sizeOk (by unfold ksV; rw [List.length_map]; omega), ?_⟩
          have h10 := h9.puti 12 rfl (.lst (ksV ks ++ [.str k.str]))
          refine ⟨_, rfl, .inl ⟨rfl, _, SqL.of (h10.get 11 rfl)⟩, _, rfl, nn, _, _, rfl, rfl, h10.get 11 rfl, sizeOk (by rw [List.length_map]; omega), ?_⟩
          have h11 := h10.puti 11 rfl (.lst (ns.map V.int ++ [.int z]))
          refine ⟨_, rfl, .inl ⟨rfl, _, SqL.of (h11.get 10 rfl)⟩, _, rfl, rr, _, _, rfl, rfl, h11.get 10 rfl, sizeOk (by rw [List.length_map]; omega), ?_⟩
          have h12 := h11.puti 10 rfl (.lst (rs.map V.int ++ [.int (0 - 1)]))
          refine ⟨{ A1 with tr := q9 }, _, ks ++ [k], ns ++ [z], rs ++ [(0 - 1)], ss, _, _, _, _, _, (B.lay k z 0 (0 - 1) .non ss hz (fun h => absurd h kb) (fun h => absurd (kp.symm.trans h) (by decide)) (fun _ => ⟨rfl, by decide⟩)), by simp [lk], rfl, ?_⟩
          have e1 : ksV (ks ++ [k]) = ksV ks ++ [.str k.str] := by unfold ksV; rw [List.map_append]; rfl
          rw [e1, List.map_append (l₁ := ns), List.map_append (l₁ := rs)]
          exact h12
        · have kp : k.point = true := by cases k <;> first | rfl | (exfalso; revert km; decide) | exact absurd rfl kb
          have hsd : SqL K H7 sd (ss.map V.int) := SqL.of (h7.get 9 rfl)
          have h8 : Has (upd H7 sd (.lst (ss.map V.int ++ [.int 1]))) (yL t.c_Yard A1 y ++ ([(sd, .lst ((ss ++ [1]).map V.int)), (rr, .lst (rs.map V.int)), (nn, .lst (ns.map V.int)), (kk, .lst (ksV ks))] ++ L)) := by
            rw [List.map_append]
            exact h7.puti 9 rfl (.lst (ss.map V.int ++ [.int 1]))
          refine ⟨_, rfl, _, _, rfl, rfl, (show (0 : Int) < 3 by decide), rfl, _, rfl, if2 (fun _ => ⟨_, rfl, sd, _, rfl, .inl hsd, _, _, rfl, rfl, _, rfl, if2 (fun hs => ?_) (fun hs => ?_)⟩) (fun _ => iteF ?_)⟩
          · have s0 : 0 < ss.length := by
              have := of_decide_eq_true hs
              rw [List.length_map] at this
              omega
            refine ⟨_, rfl, _, _, rfl, rfl, ⟨by decide, by decide⟩, _, rfl, sd, _, rfl, .inl hsd, _, _, rfl, rfl, (show (0 : Int) < ((ss.map V.int).length : Int) by rw [List.length_map]; omega), ?_⟩
            rw [List.length_map]
            dsimp only
            have b0 := Int.emod_nonneg (way / 3) (show ((ss.length : Nat) : Int) ≠ 0 by omega)
            have b1 := Int.emod_lt_of_pos (way / 3) (show (0 : Int) < ((ss.length : Nat) : Int) by omega)
            generalize way / 3 % (ss.length : Int) = bar at b0 b1 ⊢
            refine ⟨_, rfl, A1.p, A1.dx, _, rfl, h7.get 1 rfl, (fl_m _ _ _).1, _, rfl, _, rfl, A1, y, _, k, 0, .int bar, rfl, h7, B.small (by omega), fun h => absurd h kb, fun _ _ => ⟨bar, rfl, b0, by rw [B.sd, List.length_map]; exact b1⟩, fun H9 q9 h9 => ?_⟩
            refine ⟨_, rfl, .inl ⟨rfl, _, SqL.of (h9.get 12 rfl)⟩, _, rfl, kk, _, _, rfl, rfl, h9.get 12 rfl, sizeOk (by unfold ksV; rw [List.length_map]; omega), ?_⟩
            have h10 := h9.puti 12 rfl (.lst (ksV ks ++ [.str k.str]))
            refine ⟨_, rfl, .inl ⟨rfl, _, SqL.of (h10.get 11 rfl)⟩, _, rfl, nn, _, _, rfl, rfl, h10.get 11 rfl, sizeOk (by rw [List.length_map]; omega), ?_⟩
            have h11 := h10.puti 11 rfl (.lst (ns.map V.int ++ [.int z]))
            refine ⟨_, rfl, .inl ⟨rfl, _, SqL.of (h11.get 10 rfl)⟩, _, rfl, rr, _, _, rfl, rfl, h11.get 10 rfl, sizeOk (by rw [List.length_map]; omega), ?_⟩
            have h12 := h11.puti 10 rfl (.lst (rs.map V.int ++ [.int bar]))
            refine ⟨{ A1 with tr := q9 }, _, ks ++ [k], ns ++ [z], rs ++ [bar], ss, _, _, _, _, _, (B.lay k z 0 bar (.int bar) ss hz (fun h => absurd h kb) (fun _ => .inr ⟨rfl, b0, b1, rfl⟩) (fun h => absurd (kp.symm.trans h) (by decide))), by simp [lk], rfl, ?_⟩
            have e1 : ksV (ks ++ [k]) = ksV ks ++ [.str k.str] := by unfold ksV; rw [List.map_append]; rfl
            rw [e1, List.map_append (l₁ := ns), List.map_append (l₁ := rs)]
            exact h12
          all_goals
            refine ⟨_, rfl, sd, _, rfl, .inl hsd, ?_⟩
            refine ⟨_, rfl, .inl ⟨rfl, _, hsd⟩, sd, _, _, rfl, rfl, h7.get 9 rfl, sizeOk (by rw [List.length_map]; omega), ?_⟩
            refine ⟨_, rfl, A1.p, A1.dx, _, rfl, h8.get 1 rfl, (fl_m _ _ _).1, _, rfl, A1, y, _, k, 0, .non, rfl, h8, B.small (by omega), fun h => absurd h kb, fun _ h => absurd rfl h, fun H9 q9 h9 => ?_⟩
            refine ⟨_, rfl, .inl ⟨rfl, _, SqL.of (h9.get 12 rfl)⟩, _, rfl, kk, _, _, rfl, rfl, h9.get 12 rfl, sizeOk (by unfold ksV; rw [List.length_map]; omega), ?_⟩
            have h10 := h9.puti 12 rfl (.lst (ksV ks ++ [.str k.str]))
            refine ⟨_, rfl, .inl ⟨rfl, _, SqL.of (h10.get 11 rfl)⟩, _, rfl, nn, _, _, rfl, rfl, h10.get 11 rfl, sizeOk (by rw [List.length_map]; omega), ?_⟩
            have h11 := h10.puti 11 rfl (.lst (ns.map V.int ++ [.int z]))
            refine ⟨_, rfl, .inl ⟨rfl, _, SqL.of (h11.get 10 rfl)⟩, _, rfl, rr, _, _, rfl, rfl, h11.get 10 rfl, sizeOk (by rw [List.length_map]; omega), ?_⟩
            have h12 := h11.puti 10 rfl (.lst (rs.map V.int ++ [.int (((ss.map V.int).length : Int))]))
            refine ⟨{ A1 with tr := q9 }, _, ks ++ [k], ns ++ [z], rs ++ [(((ss.map V.int).length : Int))], (ss ++ [1]), _, _, _, _, _, (B.lay k z 0 (((ss.map V.int).length : Int)) .non (ss ++ [1]) hz (fun h => absurd h kb) (fun _ => .inl ⟨rfl, by rw [List.length_map], rfl⟩) (fun h => absurd (kp.symm.trans h) (by decide))), by simp [lk], rfl, ?_⟩
            have e1 : ksV (ks ++ [k]) = ksV ks ++ [.str k.str] := by unfold ksV; rw [List.map_append]; rfl
            rw [e1, List.map_append (l₁ := ns), List.map_append (l₁ := rs)]
            exact h12
    · rintro σ H6 ⟨A1, y, ks, ns, rs, ss, o1, o2, o3, o4, o5, B, lk, rfl, h6⟩
      refine ⟨_, rfl, _, rfl, _, rfl, _, rfl, _, rfl, (show 5 ≤ sizeLine by decide), fun tp htp => ?_⟩
      exact q _ A1 y ks ns rs ss tp sd rr nn kk B (by omega) (h6.alloc htp _)
end

def endsL (ks : List Kd) : List (Int × Int) := ks.zipIdx.flatMap fun p => (List.range p.1.many.toNat).map fun e : Nat => ((p.2 : Int), (e : Int))
theorem endsL_snoc (ks : List Kd) (k : Kd) : endsL (ks ++ [k]) = endsL ks ++ (List.range k.many.toNat).map fun e : Nat => ((ks.length : Int), (e : Int)) := by
  unfold endsL
  rw [List.zipIdx_append, List.flatMap_append]
  simp
def esK (es : List (Addr × Int × Int)) : Kn := es.map fun x => (x.1, HO.tup [.int x.2.1, .int x.2.2])
def esV (es : List (Addr × Int × Int)) : List V := es.map fun x => V.ref x.1
theorem endsL_le (ks : List Kd) : (endsL ks).length ≤ 3 * ks.length := by
  unfold endsL
  have : ∀ (l : List (Kd × Nat)), (l.flatMap fun p => (List.range p.1.many.toNat).map fun e : Nat => ((p.2 : Int), (e : Int))).length ≤ 3 * l.length := by
    intro l
    induction l with
    | nil => simp
    | cons p l ih =>
      rw [List.flatMap_cons, List.length_append, List.length_map, List.length_range, List.length_cons]
      have : p.1.many.toNat ≤ 3 := by cases p.1 <;> decide
      omega
  have h := this ks.zipIdx
  rw [List.length_zipIdx] at h
  exact h
theorem endsL_there {ks : List Kd} {n e : Int} (h : (n, e) ∈ endsL ks) : ∃ (i : Nat) (k : Kd), n = i ∧ ks[i]? = some k ∧ 0 ≤ e ∧ e < k.many := by
  unfold endsL at h
  obtain ⟨p, hp, hq⟩ := List.mem_flatMap.mp h
  obtain ⟨x, hx, he⟩ := List.mem_map.mp hq
  rw [List.mem_range] at hx
  cases he
  refine ⟨p.2, p.1, rfl, ?_, by omega, by omega⟩
  have := List.mem_zipIdx_iff_getElem?.mp hp
  simpa using this
def sp_ends : Sp := fun vs H Q _ => ∃ (kk : Addr) (ks : List Kd) (L : Kn) (j : Nat), vs = [.ref kk] ∧ Has H L ∧ L[j]? = some (kk, .lst (ksV ks)) ∧ ks.length ≤ 1000 ∧
  ∀ H' (el : Addr) (es : List (Addr × Int × Int)), es.map (·.2) = endsL ks → Has H' ((el, .lst (esV es)) :: (esK es ++ L)) → Q (.ref el) H'
section
variable {P : Program} {w : World} {K : PySem.W.Frag} {mg : Str → Option Value} {base : Heap} {t : Adr}
theorem scEn : FnScope ["_law_kinds_here", "_law_ends_here", "_law_piece", "_law_kind_here", "_law_place"] ["_law_kinds_here"] (defScope s_ends) := ⟨rfl, rfl, rfl, by decide +kernel, rfl, by decide +kernel, by decide +kernel⟩
theorem ok_ends (T : Txt K mg t) : FnOk P w K mg base CX0 2 t.f_ends t.d_ends ["_law_kinds_here"] sp_ends := by
  refine T.F_ends.ok scEn (fun vs H Q E h => ?_) (fun cdv A outer s H vs Q E hr h => ?_)
  · obtain ⟨_, _, _, _, rfl, _⟩ := h
    rfl
  · obtain ⟨kk, ks, L, j, rfl, hH, hj, hk, q⟩ := h
    refine ⟨_, (pss_cons (ps_set (i := 1) scEn.nd rfl (Or.inl rfl) (pe_lst pa_nil))
      (pss_cons (ps_for PassesOwn.never rfl (pi_enum (by rfl) T.z_enumerate (pa_cons (pv 0) pa_nil)) (pg_tup rfl (pgs_cons (pg_name (i := 2) scEn.nd rfl (Or.inl rfl)) (pgs_cons (pg_name (i := 3) scEn.nd rfl (Or.inl rfl)) pgs_nil)))
        (pss_one (ps_for PassesOwn.never rfl (pi_range1 (by rfl) T.z_range (pa_cons (pe_call (ok_many T) (hr.mono (by decide)) (by rfl) T.m_many T.F_many.kp (b_many T) .nil pass0 (pa_cons (pv 3) pa_nil)) pa_nil)) (pg_name (i := 4) scEn.nd rfl (Or.inl rfl))
            (pss_one (ps_expr (pe_bm PySem.F.plainAttrs_list PySem.F.slot_list_append PySem.F.type_list_append mt_append (pv 1) (@pa_cons _ _ _ _ _ (pe_tup (pa_cons (pv 2) (pa_cons (pv 4) pa_nil))) pa_nil (by rfl))))))))
      (pss_one (ps_ret (pv 1))))), ?_⟩
    refine ⟨by decide, fun el hel => ?_⟩
    have h1 := hH.alloc hel (.lst [])
    generalize upd H el _ = H1 at h1 ⊢
    have gk : ∀ {H : Hp} {x : HO} {M : Kn}, Has H ((el, x) :: (M ++ L)) → SqL K H kk (ksV ks) := fun {H x M} h => SqL.of (h.get (M.length + j + 1) (by
      rw [List.getElem?_cons_succ, List.getElem?_append_right (by omega), show M.length + j - M.length = j by omega]; exact hj))
    refine ⟨_, rfl, kk, rfl, ⟨_, gk (M := []) h1⟩, for_enum (xs := ksV ks) (fun i σ H' => ∃ (es : List (Addr × Int × Int)) (o1 o2 o3 : Option V), es.map (·.2) = endsL (ks.take i) ∧ σ = [some (.ref kk), some (.ref el), o1, o2, o3] ∧ Has H' ((el, .lst (esV es)) :: (esK es ++ L)))
      ⟨[], _, _, _, rfl, rfl, h1⟩ (fun i σ H' _ ⟨es, _, _, _, _, _, h⟩ => gk h) ?_ ?_⟩
    · rintro i x σ H2 p hx ⟨es, o1, o2, o3, hes, rfl, h2⟩ hp
      have hi : i < ks.length := by
        have := (List.getElem?_eq_some_iff.mp hx).1
        unfold ksV at this
        rw [List.length_map] at this; exact this
      have ex : x = .str (ks[i]).str := by
        unfold ksV at hx
        rw [List.getElem?_map, List.getElem?_eq_getElem hi] at hx
        exact (Option.some.inj hx).symm
      subst ex
      have h3 := h2.alloc hp (.tup [.int i, .str (ks[i]).str])
      refine ⟨p, _, rfl, SqT.of (h3.get 0 rfl), rfl, _, _, rfl, _, _, rfl, rfl, ?_⟩
      have h4 := h3.tail
      generalize upd H2 p _ = H3 at h4 ⊢
      clear h2 h3 hp
      have hm : 1 ≤ (ks[i]).many ∧ (ks[i]).many ≤ 3 := by cases ks[i] <;> decide
      have hti : (ks.take i).length = i := by rw [List.length_take]; omega
      have hen : (endsL (ks.take i)).length ≤ 3000 := Nat.le_trans (endsL_le _) (by omega)
      refine ⟨_, rfl, ks[i], rfl, _, rfl, by omega, by omega, for_range (fun e σ H' => ∃ (es : List (Addr × Int × Int)) (o3 : Option V), es.map (·.2) = endsL (ks.take i) ++ (List.range e).map (fun e : Nat => ((i : Int), (e : Int))) ∧ σ = [some (.ref kk), some (.ref el), some (.int i), some (.str (ks[i]).str), o3] ∧ Has H' ((el, .lst (esV es)) :: (esK es ++ L)))
        ⟨es, _, by rw [hes]; simp, rfl, h4⟩ ?_ ?_⟩
      · clear h4 hes es o3
        rintro e σ H4 he ⟨es, o3, hes, rfl, h4⟩
        have hle : es.length ≤ 3003 := by
          have := congrArg List.length hes
          rw [List.length_map, List.length_append, List.length_map, List.length_range] at this
          omega
        refine ⟨_, rfl, .inl ⟨rfl, _, SqL.of (h4.get 0 rfl)⟩, _, rfl, _, rfl, (show 2 ≤ sizeLine by decide), fun b hb => ?_⟩
        have h5 := h4.alloc hb (.tup [.int i, .int (0 + e)])
        refine ⟨el, _, _, rfl, rfl, h5.get 1 rfl, sizeOk (by unfold esV; rw [List.length_map]; omega), ?_⟩
        have h6 := (h5.puti 1 rfl (.lst (esV es ++ [.ref b]))).swap2.perm (List.Perm.cons _ (List.perm_append_comm_assoc [_] (esK es) L))
        refine ⟨es ++ [(b, (i : Int), 0 + (e : Int))], _, ?_, rfl, ?_⟩
        · rw [List.map_append, hes, List.range_succ, List.map_append, List.append_assoc]
          simp
        · have e1 : esV (es ++ [(b, (i : Int), 0 + (e : Int))]) = esV es ++ [.ref b] := by unfold esV; rw [List.map_append]; rfl
          have e2 : esK (es ++ [(b, (i : Int), 0 + (e : Int))]) ++ L = esK es ++ ([(b, .tup [.int i, .int (0 + e)])] ++ L) := by unfold esK; rw [List.map_append, List.append_assoc]; rfl
          rw [e1, e2]
          exact h6
      · rintro σ H4 ⟨es, o3, hes, rfl, h4⟩
        refine ⟨es, _, _, _, ?_, rfl, h4⟩
        rw [hes, List.take_succ, List.getElem?_eq_getElem hi]
        show _ = endsL (ks.take i ++ [ks[i]])
        rw [endsL_snoc, hti]
    · rintro σ H2 ⟨es, o1, o2, o3, hes, rfl, h2⟩
      refine ⟨_, rfl, ?_⟩
      refine q _ el es ?_ h2
      rw [hes]
      unfold ksV
      rw [List.length_map, List.take_length]
end

theorem esK_get {es : List (Addr × Int × Int)} {i : Nat} {x : Addr × Int × Int} (L : Kn) (h : es[i]? = some x) : (esK es ++ L)[i]? = some (x.1, .tup [.int x.2.1, .int x.2.2]) := by
  have hi := (List.getElem?_eq_some_iff.mp h).1
  rw [List.getElem?_append_left (by unfold esK; rw [List.length_map]; exact hi)]
  unfold esK
  rw [List.getElem?_map, h]
  rfl
theorem esV_get {es : List (Addr × Int × Int)} {i : Nat} {x : Addr × Int × Int} (h : es[i]? = some x) : (esV es)[i]? = some (.ref x.1) := by
  unfold esV
  rw [List.getElem?_map, h]
  rfl

end P


set_option Elab.async false
set_option linter.all false
set_option maxRecDepth 100000
set_option maxHeartbeats 4000000
namespace P
open PySem L2

theorem eraseIdx_mapL {α β : Type} (f : α → β) : ∀ (l : List α) (k : Nat), (l.map f).eraseIdx k = (l.eraseIdx k).map f
  | [], _ => rfl
  | _ :: _, 0 => rfl
  | a :: l, k + 1 => by
    show f a :: (l.map f).eraseIdx k = f a :: (l.eraseIdx k).map f
    rw [eraseIdx_mapL f l k]
theorem eraseIdx_permL {α : Type} : ∀ (l : List α) (k : Nat) (h : k < l.length), (l[k] :: l.eraseIdx k).Perm l
  | [], k, h => absurd h (Nat.not_lt_zero k)
  | a :: l, 0, h => List.Perm.refl _
  | a :: l, k + 1, h => (List.Perm.swap _ _ _).trans (List.Perm.cons a (eraseIdx_permL l k (by simpa using h)))
theorem endsL_nodup (ks : List Kd) : (endsL ks).Nodup := by
  have H : ∀ i, i ≤ ks.length → (endsL (ks.take i)).Nodup := by
    intro i
    induction i with
    | zero => intro _; exact List.Pairwise.nil
    | succ i ih =>
      intro hi
      have hlt : i < ks.length := by omega
      rw [List.take_succ, List.getElem?_eq_getElem hlt]
      show (endsL (ks.take i ++ [ks[i]])).Nodup
      rw [endsL_snoc]
      refine List.nodup_append.mpr ⟨ih (by omega), ?_, ?_⟩
      · refine List.Pairwise.map _ (fun a b hab hc => hab ?_) List.nodup_range
        have := congrArg Prod.snd hc
        exact Int.ofNat.inj this
      · intro a ha b hb e
        subst e
        obtain ⟨x, _, hx⟩ := List.mem_map.mp hb
        obtain ⟨j, k, e1, e2, _⟩ := endsL_there (n := a.1) (e := a.2) ha
        have : a.1 = ((ks.take i).length : Int) := by rw [← hx]
        have hj := (List.getElem?_eq_some_iff.mp e2).1
        rw [List.length_take] at this hj
        omega
  have := H ks.length (Nat.le_refl _)
  rwa [List.take_length] at this
def mfOf (es : List En) (m : List (List Key × V)) (n e : Int) : Option En := match valV m (kE n e) with | some (.ref b) => es.find? fun x => decide (x.1 = b) | _ => none
def MIn (es : List En) (m : List (List Key × V)) : Prop := ∀ k v, valV m k = some v → ∃ z ∈ es, v = .ref z.1
theorem mfOf_val {es : List En} {m : List (List Key × V)} (h : MIn es m) (n e : Int) : valV m (kE n e) = (mfOf es m n e).map fun z => V.ref z.1 := by
  unfold mfOf
  cases hv : valV m (kE n e) with
  | none => rfl
  | some v =>
    obtain ⟨z, hz, rfl⟩ := h _ _ hv
    dsimp only
    cases hf : es.find? fun x => decide (x.1 = z.1) with
    | none => exact absurd (List.find?_eq_none.mp hf z hz) (by simp)
    | some x => have := List.find?_some hf; rw [Option.map_some, of_decide_eq_true this]
theorem mfOf_mem {es : List En} {m : List (List Key × V)} {n e : Int} {z : En} (h : mfOf es m n e = some z) : z ∈ es := by
  unfold mfOf at h
  split at h
  · exact List.mem_of_find?_eq_some h
  · cases h
theorem MIn.nil (es : List En) : MIn es [] := fun k v h => by cases h
theorem MIn.put {es : List En} {m : List (List Key × V)} (h : MIn es m) {x : En} (hx : x ∈ es) (k : List Key) : MIn es (putK m k (.ref x.1)) := fun j v hv => by
  rw [valV_put] at hv
  split at hv
  · exact ⟨x, hx, (Option.some.inj hv).symm⟩
  · exact h j v hv
theorem MIn.mono {es es' : List En} {m : List (List Key × V)} (h : MIn es m) (s : ∀ x ∈ es, x ∈ es') : MIn es' m := fun k v hv => let ⟨z, hz, e⟩ := h k v hv; ⟨z, s z hz, e⟩
def wOf (ks : List Kd) (ns rs : List Int) (es : List En) (m : List (List Key × V)) : Wd := ⟨fun n => if 0 ≤ n then ks[n.toNat]? else none, fun n => ns.getD n.toNat 0, fun n => rs.getD n.toNat 0, mfOf es m⟩
theorem wOf_k {ks : List Kd} {ns rs : List Int} {es : List En} {m : List (List Key × V)} {n : Int} {k : Kd} (h : (wOf ks ns rs es m).kf n = some k) : ∃ i : Nat, n = i ∧ ks[i]? = some k := by
  unfold wOf at h
  dsimp only at h
  split at h
  · exact ⟨n.toNat, by omega, h⟩
  · cases h
theorem wOf_kn {ks : List Kd} {ns rs : List Int} {es : List En} {m : List (List Key × V)} (i : Nat) : (wOf ks ns rs es m).kf i = ks[i]? := by
  unfold wOf; dsimp only; rw [if_pos (by omega), Int.toNat_natCast]
theorem wOf_ok {ks : List Kd} {ns rs : List Int} {es : List En} {m : List (List Key × V)} {z : En} (h : z.2 ∈ endsL ks) : (wOf ks ns rs es m).ok z := by
  obtain ⟨i, k, e1, e2, e3, e4⟩ := endsL_there (n := z.2.1) (e := z.2.2) h
  exact ⟨k, by rw [e1, wOf_kn]; exact e2, e3, e4⟩
theorem Rep.of {y y' : YR} {ks : List Kd} {ns rs ss ss' : List Int} {es : List En} {m : List (List Key × V)} {u : Option En} (B : Blt y ks ns rs ss) (hm : MIn es m) (he : ∀ x ∈ es, x.2 ∈ endsL ks) (hl : ss'.length = ss.length) (h12 : ∀ x ∈ ss', x = 1 ∨ x = 2) (hu : ∀ z, u = some z → z.2 ∈ endsL ks)
    (e1 : y'.kinds = y.kinds) (e2 : y'.notes = y.notes) (e3 : y'.rods = y.rods) (e4 : y'.mates = m) (e5 : y'.sides = ss'.map V.int) (e6 : y'.eng = enV u) (e7 : y'.rung = []) :
    Rep (wOf ks ns rs es m) ⟨ss', u, []⟩ y' := by
  refine ⟨fun n k h => ?_, fun n k h => ?_, fun n k h => ?_, fun n k h hp => ?_, e5, h12, fun n e => by rw [e4]; exact mfOf_val hm n e, fun n e z h => wOf_ok (he z (mfOf_mem h)), e6, fun z hz => wOf_ok (hu z hz), e7⟩
  all_goals obtain ⟨i, rfl, hk⟩ := wOf_k h
  · rw [e1, B.kd, valV_kvOf, hk]; rfl
  · rw [e2, B.no, hk]
    by_cases c : k = .bell
    · rw [if_pos (by rw [c]), if_pos c]; unfold wOf; dsimp only; rw [Int.toNat_natCast]
    · rw [if_neg (fun z => c (Option.some.inj z)), if_neg c]
  · rw [e3, B.ro, hk]
    by_cases c : k.point = true
    · rw [if_pos (by simp [c]), if_pos c]; unfold wOf; dsimp only; rw [Int.toNat_natCast]
    · rw [if_neg (by simp [c]), if_neg c]
  · have := B.rr i (by rw [hk]; simp [hp])
    show 0 ≤ rs.getD (i : Int).toNat 0 ∧ rs.getD (i : Int).toNat 0 < (ss'.length : Int)
    rw [Int.toNat_natCast, hl]
    exact this
theorem endsL_th {y : YR} {ks : List Kd} {ns rs ss : List Int} (B : Blt y ks ns rs ss) {y' : YR} (e : y'.kinds = y.kinds) {p : Int × Int} (h : p ∈ endsL ks) : There y' p.1 p.2 := by
  obtain ⟨i, k, e1, e2, e3, e4⟩ := endsL_there (n := p.1) (e := p.2) h
  exact ⟨k, by rw [e, e1, B.kd, valV_kvOf, e2]; rfl, e3, e4⟩
theorem seqIx {n : Nat} {x : Int} (h : 0 < n) : ∃ k : Nat, k < n ∧ x % (n : Int) = k ∧ seqIndex? (x % (n : Int)) n = some k ∧ -(2 ^ 63) ≤ x % (n : Int) ∧ (n ≤ 1000000 → x % (n : Int) < 2 ^ 63) := by
  have b0 := Int.emod_nonneg x (show ((n : Nat) : Int) ≠ 0 by omega)
  have b1 := Int.emod_lt_of_pos x (show (0 : Int) < ((n : Nat) : Int) by omega)
  refine ⟨(x % (n : Int)).toNat, by omega, by omega, ?_, by omega, fun hn => by omega⟩
  generalize x % (n : Int) = i at b0 b1
  unfold seqIndex?
  dsimp only
  rw [if_neg (show ¬ i < 0 by omega), if_pos (show (decide (0 ≤ i) && decide (i < (n : Int))) = true by rw [decide_eq_true b0, decide_eq_true b1]; rfl)]
def Wsym (mf : Int → Int → Option En) : Prop := ∀ n e z, mf n e = some z → ¬ z.2 = (n, e) ∧ ∃ z', mf z.2.1 z.2.2 = some z' ∧ z'.2 = (n, e)
def mfLk (mf : Int → Int → Option En) (x z : En) (n e : Int) : Option En := if (n, e) = z.2 then some x else if (n, e) = x.2 then some z else mf n e
def mfUn (mf : Int → Int → Option En) (p1 p2 : Int × Int) (n e : Int) : Option En := if (n, e) = p1 ∨ (n, e) = p2 then none else mf n e
theorem Wsym.link {mf : Int → Int → Option En} (S : Wsym mf) {x z : En} (hx : mf x.2.1 x.2.2 = none) (hz : mf z.2.1 z.2.2 = none) (ne : ¬ x.2 = z.2) : Wsym (mfLk mf x z) := by
  intro n e u h
  unfold mfLk at h
  by_cases c1 : (n, e) = z.2
  · rw [if_pos c1] at h
    cases h
    refine ⟨fun q => ne (q.trans c1), z, ?_, c1.symm⟩
    show (if (x.2.1, x.2.2) = z.2 then some x else if (x.2.1, x.2.2) = x.2 then some z else mf x.2.1 x.2.2) = some z
    rw [if_neg (show ¬ (x.2.1, x.2.2) = z.2 from ne), if_pos rfl]
  · rw [if_neg c1] at h
    by_cases c2 : (n, e) = x.2
    · rw [if_pos c2] at h
      cases h
      refine ⟨fun q => ne (c2.symm.trans q.symm), x, ?_, c2.symm⟩
      show (if (z.2.1, z.2.2) = z.2 then some x else if (z.2.1, z.2.2) = x.2 then some z else mf z.2.1 z.2.2) = some x
      rw [if_pos rfl]
    · rw [if_neg c2] at h
      obtain ⟨a, z', b, c⟩ := S n e u h
      refine ⟨a, z', ?_, c⟩
      have d1 : ¬ (u.2.1, u.2.2) = z.2 := fun q => by
        rw [show u.2.1 = z.2.1 from congrArg Prod.fst q, show u.2.2 = z.2.2 from congrArg Prod.snd q, hz] at b
        cases b
      have d2 : ¬ (u.2.1, u.2.2) = x.2 := fun q => by
        rw [show u.2.1 = x.2.1 from congrArg Prod.fst q, show u.2.2 = x.2.2 from congrArg Prod.snd q, hx] at b
        cases b
      show (if (u.2.1, u.2.2) = z.2 then some x else if (u.2.1, u.2.2) = x.2 then some z else mf u.2.1 u.2.2) = some z'
      rw [if_neg d1, if_neg d2]
      exact b
theorem Wsym.unlink {mf : Int → Int → Option En} (S : Wsym mf) {n1 e1 : Int} {z : En} (h : mf n1 e1 = some z) : Wsym (mfUn mf (n1, e1) z.2) := by
  intro n e u hu
  unfold mfUn at hu
  by_cases c : (n, e) = (n1, e1) ∨ (n, e) = z.2
  · rw [if_pos c] at hu
    cases hu
  · rw [if_neg c] at hu
    obtain ⟨a, z', b, d⟩ := S n e u hu
    refine ⟨a, z', ?_, d⟩
    have no : ¬ ((u.2.1, u.2.2) = (n1, e1) ∨ (u.2.1, u.2.2) = z.2) := by
      rintro (q | q)
      · rw [show u.2.1 = n1 from congrArg Prod.fst q, show u.2.2 = e1 from congrArg Prod.snd q, h] at b
        cases b
        exact c (.inr d.symm)
      · obtain ⟨_, z2, b2, d2⟩ := S n1 e1 z h
        rw [show u.2.1 = z.2.1 from congrArg Prod.fst q, show u.2.2 = z.2.2 from congrArg Prod.snd q, b2] at b
        cases b
        exact c (.inl (d.symm.trans d2))
    show (if (u.2.1, u.2.2) = (n1, e1) ∨ (u.2.1, u.2.2) = z.2 then none else mf u.2.1 u.2.2) = some z'
    rw [if_neg no]
    exact b

theorem find_un {es : List En} (eu : ∀ x ∈ es, ∀ z ∈ es, x.1 = z.1 → x = z) {x : En} (hx : x ∈ es) : (es.find? fun u => decide (u.1 = x.1)) = some x := by
  cases hf : es.find? fun u => decide (u.1 = x.1) with
  | none => exact absurd (List.find?_eq_none.mp hf x hx) (by simp)
  | some u =>
    have h0 := List.find?_some hf
    have h1 : u.1 = x.1 := of_decide_eq_true h0
    rw [eu u (List.mem_of_find?_eq_some hf) x hx h1]
theorem mfOf_put2 {es : List En} (eu : ∀ x ∈ es, ∀ z ∈ es, x.1 = z.1 → x = z) {m : List (List Key × V)} {x z : En} (hx : x ∈ es) (hz : z ∈ es) :
    mfOf es (putK (putK m (kE x.2.1 x.2.2) (.ref z.1)) (kE z.2.1 z.2.2) (.ref x.1)) = mfLk (mfOf es m) x z := by
  have ke : ∀ (n e : Int) (u : En), kE n e = kE u.2.1 u.2.2 ↔ (n, e) = u.2 := fun n e u => by
    constructor
    · intro h
      injection h with h1 h2
      injection h2 with h2 _
      injection h1 with h1
      injection h2 with h2
      rw [h1, h2]
    · intro h
      rw [← h]
  funext n e
  unfold mfOf mfLk
  rw [valV_put, valV_put]
  by_cases c1 : (n, e) = z.2
  · rw [if_pos ((ke _ _ _).mpr c1), if_pos c1]
    show (es.find? fun u => decide (u.1 = x.1)) = some x
    exact find_un eu hx
  · rw [if_neg (fun h => c1 ((ke _ _ _).mp h)), if_neg c1]
    by_cases c2 : (n, e) = x.2
    · rw [if_pos ((ke _ _ _).mpr c2), if_pos c2]
      exact find_un eu hz
    · rw [if_neg (fun h => c2 ((ke _ _ _).mp h)), if_neg c2]
theorem mfOf_none {es : List En} {m : List (List Key × V)} {n e : Int} (h : valV m (kE n e) = none) : mfOf es m n e = none := by unfold mfOf; rw [h]

def sp_linked (C : Addr) : Sp := fun vs H Q _ => ∃ (A : YA) (y : YR) (L : Kn) (kk d : Addr) (ks : List Kd) (ns rs ss ds : List Int) (a n : Int) (jk jd : Nat), vs = [.ref A.p, .ref kk, .ref d, .int a, .int n] ∧ Has H (yL C A y ++ L) ∧ Blt y ks ns rs ss ∧ L[jk]? = some (kk, .lst (ksV ks)) ∧ L[jd]? = some (d, .lst (ds.map V.int)) ∧ ks.length ≤ 1000 ∧ 0 ≤ a ∧ 0 ≤ n ∧ n ≤ 10000 ∧ a + 2 * n ≤ ds.length ∧
  ∀ (H' : Hp) (q mh : Addr) (m : List (List Key × V)) (es : List En), MIn es m → Wsym (mfOf es m) → es.map (·.2) = endsL ks → m.length ≤ 2 * n.toNat → Has H' (yL C { A with tr := q } { y with mates := m, trail := [] } ++ ((mh, .dT m) :: (esK es ++ L))) → Q (.ref mh) H'
section
variable {P : Program} {w : World} {K : PySem.W.Frag} {mg : Str → Option Value} {base : Heap} {t : Adr}
theorem scLd : FnScope ["_law_yard", "_law_kinds_here", "_law_d", "_law_at", "_law_many_here", "_law_free", "_law_mates", "_law_turn", "_law_one", "_law_other"] ["_law_yard", "_law_kinds_here", "_law_d", "_law_at", "_law_many_here"] (defScope s_linked) := ⟨rfl, rfl, rfl, by decide +kernel, rfl, by decide +kernel, by decide +kernel⟩
theorem ok_linked (T : Txt K mg t) : FnOk P w K mg base CX0 5 t.f_linked t.d_linked ["_law_yard", "_law_kinds_here", "_law_d", "_law_at", "_law_many_here"] (sp_linked t.c_Yard) := by
  refine T.F_linked.ok scLd (fun vs H Q E h => ?_) (fun cdv A outer s H vs Q E hr h => ?_)
  · obtain ⟨_, _, _, _, _, _, _, _, _, _, _, _, _, _, rfl, _⟩ := h
    rfl
  · obtain ⟨A, y, L, kk, d, ks, ns, rs, ss, ds, a, n, jk, jd, rfl, hH, B, hjk, hjd, kl, a0, n0, n1, hds, q⟩ := h
    have hu := hu_of hr
    refine ⟨_, (pss_cons (ps_set (i := 5) scLd.nd rfl (Or.inl rfl) (pe_call (ok_ends T) (hr.mono (by decide)) (by rfl) T.m_ends T.F_ends.kp (b_ends T) .nil pass0 (pa_cons (pv 1) pa_nil)))
      (pss_cons (ps_set (i := 6) scLd.nd rfl (Or.inl rfl) pe_dnewT)
      (pss_cons (ps_for PassesOwn.never rfl (pi_range1 (by rfl) T.z_range (pa_cons (pv 4) pa_nil)) (pg_name (i := 7) scLd.nd rfl (Or.inl rfl))
        (pss_one (ps_if (pt_cmpR op_gt (pe_callB call_len_seq (by rfl) T.z_len (by rfl) (pa_cons (pv 5) pa_nil)) pe_int (nomark _))
            (pss_cons (ps_set (i := 8) scLd.nd rfl (Or.inl rfl) (pe_bm PySem.F.plainAttrs_list PySem.F.slot_list_pop PySem.F.type_list_pop mt_popAt (pv 5) (pa_cons (pe_op op_mod (pe_ix ix_list (pv 2) (pe_op op_add (pv 3) (pe_op op_mul pe_int (pv 7))) (fun _ _ => rfl)) (pe_callB call_len_seq (by rfl) T.z_len (by rfl) (pa_cons (pv 5) pa_nil))) pa_nil)))
              (pss_cons (ps_set (i := 9) scLd.nd rfl (Or.inl rfl) (pe_bm PySem.F.plainAttrs_list PySem.F.slot_list_pop PySem.F.type_list_pop mt_popAt (pv 5) (pa_cons (pe_op op_mod (pe_ix ix_list (pv 2) (pe_op op_add (pe_op op_add (pv 3) (pe_op op_mul pe_int (pv 7))) pe_int) (fun _ _ => rfl)) (pe_callB call_len_seq (by rfl) T.z_len (by rfl) (pa_cons (pv 5) pa_nil))) pa_nil)))
              (pss_cons (ps_expr (pe_meth (pv 0) T.cl_Yard T.M_Yard_link (ok_Yard_link T) (hr.mono (by decide)) (b_Yard_link T) .nil pass0 (pa_cons (pv 8) (pa_cons (pv 9) pa_nil))))
              (pss_cons (ps_dput hu (pv 6) (pv 8) (pv 9) rfl)
              (pss_one (ps_dput hu (pv 6) (pv 9) (pv 8) rfl))))))
            pss_nil)))
      (pss_one (ps_ret (pv 6)))))), ?_⟩
    refine ⟨_, rfl, kk, ks, _, jk + 9, rfl, hH, (by simpa [yL] using hjk), kl, fun H1 fl_ es hes h1 => ?_⟩
    intro mh hmh
    have h2 : Has (upd H1 mh (.dT [])) (yL t.c_Yard A y ++ ((fl_, .lst (esV es)) :: (mh, .dT []) :: (esK es ++ L))) :=
      Has.comm (X := (fl_, .lst (esV es)) :: (mh, .dT []) :: esK es) (Y := yL t.c_Yard A y) (R := L) (h1.alloc hmh (.dT [])).swap2
    generalize upd H1 mh _ = H2 at h2 ⊢
    clear h1 hmh hH
    have emem : ∀ x ∈ es, x.2 ∈ endsL ks := fun x hx => by rw [← hes]; exact List.mem_map.mpr ⟨x, hx, rfl⟩
    have enod : (es.map (·.2)).Nodup := by rw [hes]; exact endsL_nodup ks
    have elen : es.length ≤ 3000 := by have := congrArg List.length hes; rw [List.length_map] at this; have := endsL_le ks; omega
    refine ⟨_, rfl, _, rfl, by omega, by omega, for_range (fun i σ H' => ∃ (q1 : Addr) (m : List (List Key × V)) (fs : List En) (o1 o2 o3 : Option V), MIn es m ∧ Wsym (mfOf es m) ∧ (∀ x ∈ fs, x ∈ es) ∧ (fs.map (·.2)).Nodup ∧ (∀ x ∈ fs, valV m (kE x.2.1 x.2.2) = none) ∧ m.length ≤ 2 * i ∧ fs.length ≤ 3000 ∧
      σ = [some (.ref A.p), some (.ref kk), some (.ref d), some (.int a), some (.int n), some (.ref fl_), some (.ref mh), o1, o2, o3] ∧ Has H' (yL t.c_Yard { A with tr := q1 } { y with mates := m, trail := [] } ++ ((fl_, .lst (esV fs)) :: (mh, .dT m) :: (esK es ++ L))))
      ⟨A.tr, [], es, _, _, _, MIn.nil es, (fun n e z h => by cases h), fun _ h => h, enod, fun _ _ => rfl, Nat.zero_le _, elen, rfl, ?_⟩ ?_ ?_⟩
    · have e : ({ y with mates := [], trail := [] } : YR) = y := by rw [← B.mt, ← B.tl]
      rw [e]; exact h2
    · clear h2
      rintro i σ H2 hi ⟨q1, m, fs, o1, o2, o3, M, WS, fin, fnd, fno, ml, flen, rfl, h2⟩
      have gd : ∀ {H : Hp} {A1 : YA} {y1 : YR} {f1 m1 : HO}, Has H (yL t.c_Yard A1 y1 ++ ((fl_, f1) :: (mh, m1) :: (esK es ++ L))) → SqL K H d (ds.map V.int) := fun {H A1 y1 f1 m1} h => SqL.of (h.get (es.length + jd + 11) (by
        show (esK es ++ L)[es.length + jd]? = _
        have e : (esK es).length = es.length := by unfold esK; rw [List.length_map]
        rw [List.getElem?_append_right (by omega), show es.length + jd - (esK es).length = jd by omega]
        exact hjd))
      have gs : ∀ {H : Hp} {A1 : YA} {y1 : YR} {f1 m1 : HO}, Has H (yL t.c_Yard A1 y1 ++ ((fl_, f1) :: (mh, m1) :: (esK es ++ L))) → ∀ x ∈ es, H x.1 = some (.tup [.int x.2.1, .int x.2.2]) := fun {H A1 y1 f1 m1} h x hx => by
        obtain ⟨j, hj⟩ := List.mem_iff_getElem?.mp hx
        exact h.get (j + 11) (esK_get L hj)
      have evl : ∀ l : List En, (esV l).length = l.length := fun l => by unfold esV; rw [List.length_map]
      have evx : ∀ (l : List En) (k : Nat), (esV l).eraseIdx k = esV (l.eraseIdx k) := fun l k => by unfold esV; rw [eraseIdx_mapL]
      refine ⟨_, rfl, fl_, _, rfl, .inl (SqL.of (h2.get 9 rfl)), _, _, rfl, rfl, _, rfl, if2 (fun hc => ?_) (fun hc => ?_)⟩
      · have f2 : 1 < fs.length := by
          have := of_decide_eq_true hc
          rw [evl] at this
          omega
        obtain ⟨k1, k1l, k1e, k1s, k1a, k1b⟩ := seqIx (n := fs.length) (x := ds.getD (a + 2 * (0 + (i : Int))).toNat 0) (by omega)
        refine ⟨_, rfl, .inl ⟨rfl, _, SqL.of (h2.get 9 rfl)⟩, ?_⟩
        refine ⟨_, rfl, _, rfl, _, rfl, _, _, rfl, rfl, (.inl ⟨by decide, by decide⟩), _, _, rfl, rfl, d, _, _, _, rfl, rfl, gd h2, atD (by omega) (by omega), _, rfl, fl_, _, rfl, .inl (SqL.of (h2.get 9 rfl)), _, _, rfl, rfl, (show (0 : Int) < ((esV fs).length : Int) by rw [evl]; omega), ?_⟩
        rw [evl]
        refine ⟨fl_, _, _, k1, .ref (fs[k1]).1, rfl, rfl, h2.get 9 rfl, k1a, k1b (by omega), (by rw [evl]; exact k1s), esV_get (List.getElem?_eq_getElem k1l), ?_⟩
        rw [evx]
        have h3 := h2.puti 9 rfl (.lst (esV (fs.eraseIdx k1)))
        generalize upd H2 fl_ _ = H3 at h3 ⊢
        have pm1 := eraseIdx_permL fs k1 k1l
        have l1 : (fs.eraseIdx k1).length = fs.length - 1 := List.length_eraseIdx_of_lt k1l
        generalize hx : fs[k1] = x at *
        have nd1 : (x.2 :: (fs.eraseIdx k1).map (·.2)).Nodup := (pm1.map (fun x : En => x.2)).nodup_iff.mpr fnd
        have xin : x ∈ fs := by rw [← hx]; exact List.getElem_mem _
        have sub1 : ∀ z ∈ fs.eraseIdx k1, z ∈ fs := fun z hz => List.mem_of_mem_eraseIdx hz
        generalize fs.eraseIdx k1 = fs1 at *
        obtain ⟨k2, k2l, k2e, k2s, k2a, k2b⟩ := seqIx (n := fs1.length) (x := ds.getD (a + 2 * (0 + (i : Int)) + 1).toNat 0) (by omega)
        refine ⟨_, rfl, .inl ⟨rfl, _, SqL.of (h3.get 9 rfl)⟩, ?_⟩
        refine ⟨_, rfl, _, rfl, _, rfl, _, _, rfl, rfl, (.inl ⟨by decide, by decide⟩), _, _, rfl, rfl, _, _, rfl, rfl, d, _, _, _, rfl, rfl, gd h3, atD (by omega) (by omega), _, rfl, fl_, _, rfl, .inl (SqL.of (h3.get 9 rfl)), _, _, rfl, rfl, (show (0 : Int) < ((esV fs1).length : Int) by rw [evl]; omega), ?_⟩
        rw [evl]
        refine ⟨fl_, _, _, k2, .ref (fs1[k2]).1, rfl, rfl, h3.get 9 rfl, k2a, k2b (by omega), (by rw [evl]; exact k2s), esV_get (List.getElem?_eq_getElem k2l), ?_⟩
        rw [evx]
        have h4 := h3.puti 9 rfl (.lst (esV (fs1.eraseIdx k2)))
        generalize upd H3 fl_ _ = H4 at h4 ⊢
        have pm2 := eraseIdx_permL fs1 k2 k2l
        have l2 : (fs1.eraseIdx k2).length = fs1.length - 1 := List.length_eraseIdx_of_lt k2l
        generalize hz : fs1[k2] = z at *
        rw [List.nodup_cons] at nd1
        have nd2 : (z.2 :: (fs1.eraseIdx k2).map (·.2)).Nodup := (pm2.map (fun x : En => x.2)).nodup_iff.mpr nd1.2
        have zin : z ∈ fs1 := by rw [← hz]; exact List.getElem_mem _
        have sub2 : ∀ z ∈ fs1.eraseIdx k2, z ∈ fs1 := fun z hz => List.mem_of_mem_eraseIdx hz
        generalize fs1.eraseIdx k2 = fs2 at *
        rw [List.nodup_cons] at nd2
        have kne : ∀ {u v : En}, ¬ u.2 = v.2 → ¬ kE u.2.1 u.2.2 = kE v.2.1 v.2.2 := fun {u v} c e => c (by
          injection e with e1 e2
          injection e2 with e2 _
          injection e1 with e1
          injection e2 with e2
          exact Prod.ext e1 e2)
        have xe := fin x xin
        have ze := fin z (sub1 z zin)
        have xz : ¬ x.2 = z.2 := fun e => nd1.1 (by rw [e]; exact List.mem_map.mpr ⟨z, zin, rfl⟩)
        obtain ⟨ix, hix⟩ := List.mem_iff_getElem?.mp xe
        obtain ⟨iz, hiz⟩ := List.mem_iff_getElem?.mp ze
        refine ⟨_, rfl, A.p, A.dx, _, rfl, h4.get 1 rfl, (fl_m2 _ _ _).2.2.1, _, rfl, _, rfl, { A with tr := q1 }, _, _, x.1, z.1, x.2.1, x.2.2, z.2.1, z.2.2, ix + 2, iz + 2, rfl, h4, esK_get _ hix, esK_get _ hiz, endsL_th B rfl (emem x xe), endsL_th B rfl (emem z ze), kne xz, fno x xin, fno z (sub1 z zin), (show m.length ≤ 30000 by omega), fun H5 q5 h5 => ?_⟩
        refine ⟨_, rfl, _, rfl, _, rfl, mh, _, rfl, DPut.t (k := kE x.2.1 x.2.2) (h5.get 10 rfl) (gs h5 x xe) (sizeOk (by omega)), ?_⟩
        have h6 := h5.puti 10 rfl (.dT (putK m (kE x.2.1 x.2.2) (.ref z.1)))
        refine ⟨_, rfl, _, rfl, _, rfl, mh, _, rfl, DPut.t (k := kE z.2.1 z.2.2) (h6.get 10 rfl) (gs h6 z ze) (sizeOk (Nat.le_trans (length_putK _ _ _) (by omega))), ?_⟩
        have h7 := h6.puti 10 rfl (.dT (putK (putK m (kE x.2.1 x.2.2) (.ref z.1)) (kE z.2.1 z.2.2) (.ref x.1)))
        have eu : ∀ x ∈ es, ∀ z ∈ es, x.1 = z.1 → x = z := fun u hu v hv e => by
          have g1 := gs h5 u hu
          rw [e, gs h5 v hv] at g1
          have g2 := Option.some.inj g1
          injection g2 with g2
          injection g2 with g3 g4
          injection g4 with g4 _
          injection g3 with g3
          injection g4 with g4
          exact Prod.ext e (Prod.ext g3.symm g4.symm)
        refine ⟨q5, _, fs2, _, _, _, (M.put ze _).put xe _, (by rw [mfOf_put2 eu xe ze]; exact WS.link (mfOf_none (fno x xin)) (mfOf_none (fno z (sub1 z zin))) xz), fun u hu => fin u (sub1 u (sub2 u hu)), nd2.2, fun u hu => ?_, ?_, by omega, rfl, h7⟩
        · rw [valV_put, if_neg (kne (fun e => nd2.1 (by rw [← e]; exact List.mem_map.mpr ⟨u, hu, rfl⟩))), valV_put, if_neg (kne (fun e => nd1.1 (by rw [← e]; exact List.mem_map.mpr ⟨u, sub2 u hu, rfl⟩)))]
          exact fno u (sub1 u (sub2 u hu))
        · have b1 := length_putK m (kE x.2.1 x.2.2) (.ref z.1)
          have b2 := length_putK (putK m (kE x.2.1 x.2.2) (.ref z.1)) (kE z.2.1 z.2.2) (.ref x.1)
          omega
      · exact ⟨q1, m, fs, _, _, _, M, WS, fin, fnd, fno, by omega, flen, rfl, h2⟩
    · rintro σ H2 ⟨q1, m, fs, o1, o2, o3, M, WS, fin, fnd, fno, ml, flen, rfl, h2⟩
      refine ⟨_, rfl, q _ q1 mh m es M WS hes ml ?_⟩
      exact (Has.comm (X := yL t.c_Yard { A with tr := q1 } { y with mates := m, trail := [] }) (Y := [(fl_, .lst (esV fs))]) (R := (mh, .dT m) :: (esK es ++ L)) h2).tail
end

theorem Rep.eng {w : Wd} {s : Sd} {y : YR} (R : Rep w s y) (u : Option En) (hu : ∀ z, u = some z → w.ok z) (tr : List V) : Rep w { s with at_ := u } { y with eng := enV u, trail := tr } :=
  ⟨R.kd, R.no, R.ro, R.rr, R.sd, R.s12, R.mt, R.mo, rfl, hu, R.rg⟩
end P


set_option Elab.async false
set_option linter.all false
set_option maxRecDepth 100000
set_option maxHeartbeats 4000000
namespace P
open PySem L2

theorem has_mid {H : Hp} {Z X Y R : Kn} (h : Has H (Z ++ (X ++ (Y ++ R)))) : Has H (Z ++ (Y ++ (X ++ R))) := h.perm (List.Perm.append_left Z (by rw [← List.append_assoc, ← List.append_assoc]; exact List.perm_append_comm.append_right R))
def Stb (K : PySem.W.Frag) (M : Kn) (d : PyData) (v : V) : Prop := ∀ H : Hp, (∀ z ∈ M, NT z → H z.1 = some z.2) → DV K H d v
def Stbs (K : PySem.W.Frag) (M : Kn) (ds : List PyData) (vs : List V) : Prop := ∀ H : Hp, (∀ z ∈ M, NT z → H z.1 = some z.2) → DVs K H ds vs
theorem DVs.app {K : PySem.W.Frag} {H : Hp} : ∀ {ds : List PyData} {vs : List V} {d : PyData} {v : V}, DVs K H ds vs → DV K H d v → DVs K H (ds ++ [d]) (vs ++ [v])
  | [], vs, d, v, h, h2 => by
    have e : vs = [] := by unfold DVs at h; exact h
    subst e
    show DVs K H [d] [v]
    unfold DVs
    exact ⟨v, [], rfl, h2, by unfold DVs; rfl⟩
  | d0 :: ds, vs, d, v, h, h2 => by
    unfold DVs at h
    obtain ⟨v0, r, rfl, h3, h4⟩ := h
    show DVs K H (d0 :: (ds ++ [d])) (v0 :: (r ++ [v]))
    unfold DVs
    exact ⟨v0, _, rfl, h3, DVs.app h4 h2⟩
theorem Stbs.snoc {K : PySem.W.Frag} {M : Kn} {ds : List PyData} {vs : List V} {d : PyData} {v : V} (h : Stbs K M ds vs) (h2 : Stb K M d v) : Stbs K M (ds ++ [d]) (vs ++ [v]) := fun H hM => DVs.app (h H hM) (h2 H hM)
theorem Stbs.nil {K : PySem.W.Frag} {M : Kn} : Stbs K M [] [] := fun H _ => by unfold DVs; rfl
theorem Stb.mono {K : PySem.W.Frag} {M M' : Kn} {d : PyData} {v : V} (h : Stb K M d v) (s : ∀ z ∈ M, NT z → z ∈ M') : Stb K M' d v := fun H hM => h H fun z hz nt => hM z (s z hz nt) nt
theorem Stbs.mono {K : PySem.W.Frag} {M M' : Kn} {ds : List PyData} {vs : List V} (h : Stbs K M ds vs) (s : ∀ z ∈ M, NT z → z ∈ M') : Stbs K M' ds vs := fun H hM => h H fun z hz nt => hM z (s z hz nt) nt
theorem Stb.int {K : PySem.W.Frag} {M : Kn} (i : Int) : Stb K M (.int i) (.int i) := fun H _ => by unfold DV; rfl
theorem Stb.str {K : PySem.W.Frag} {M : Kn} (x : Str) : Stb K M (.str x) (.str x) := fun H _ => by unfold DV; rfl
theorem Stb.lst {K : PySem.W.Frag} {M : Kn} {l : Addr} {vs : List V} {ds : List PyData} (m : (l, HO.lst vs) ∈ M) (h : Stbs K M ds vs) : Stb K M (.list ds) (.ref l) := fun H hM => by
  unfold DV
  exact ⟨l, vs, rfl, SqL.of (hM _ m (fun _ e => nomatch e)), h H hM⟩
theorem Stbs.ints {K : PySem.W.Frag} {M : Kn} (ns : List Int) : Stbs K M (ns.map PyData.int) (ns.map V.int) := fun H _ => DVs.map _ _ _ fun x _ => by unfold DV; rfl
def endD : Option En → PyData
  | none => .none
  | some z => .tuple [.int z.2.1, .int z.2.2]
theorem Stb.en {K : PySem.W.Frag} {M : Kn} {u : Option En} (h : ∀ z, u = some z → (z.1, HO.tup [.int z.2.1, .int z.2.2]) ∈ M) : Stb K M (endD u) (enV u) := fun H hM => by
  cases u with
  | none => show DV K H .none .non; unfold DV; rfl
  | some z =>
    show DV K H (.tuple [.int z.2.1, .int z.2.2]) (.ref z.1)
    unfold DV
    refine ⟨z.1, _, rfl, SqT.of (hM _ (h z rfl) (fun _ e => nomatch e)), ?_⟩
    exact DVs.map PyData.int V.int [z.2.1, z.2.2] fun x _ => by unfold DV; rfl
def pieceD (w : Wd) (p : Int × Kd) : List PyData := [.str p.2.str] ++ (if p.2 = .bell then [.int (w.nf p.1)] else []) ++ (if p.2.point = true then [.int (w.rf p.1)] else []) ++ (List.range p.2.many.toNat).map fun e : Nat => endD (w.mf p.1 e)
def look0 (s : Sd) (KS : List (Int × Kd)) : List PyData := [.list ((KS.map (·.1)).map .int), .list (((List.range s.ss.length).map fun i : Nat => (i : Int)).map .int), endD s.at_, .list (s.rg.map .int)]
def lookD (w : Wd) (s : Sd) (KS : List (Int × Kd)) : PyData := .list (look0 s KS ++ KS.flatMap (pieceD w) ++ s.ss.map .int)
theorem endD_lay (u : Option En) : (endD u).canLay0 = true ∧ (endD u).depth ≤ 2 := by cases u <;> simp [endD, PyData.canLay0, PyData.canLayAll0, PyData.depth, PyData.depthAll]
theorem Kd.strOk (k : Kd) : PyData.strOk k.str = true := by cases k <;> decide +kernel
theorem canLayAll_of : ∀ (l : List PyData), (∀ x ∈ l, x.canLay0 = true) → PyData.canLayAll0 l = true
  | [], _ => rfl
  | x :: l, h => by rw [PyData.canLayAll0, h x List.mem_cons_self, canLayAll_of l fun y hy => h y (List.mem_cons_of_mem _ hy)]; rfl
theorem depthAll_of (n : Nat) : ∀ (l : List PyData), (∀ x ∈ l, x.depth ≤ n) → PyData.depthAll l ≤ n
  | [], _ => Nat.zero_le _
  | x :: l, h => by
    rw [PyData.depthAll]
    exact Nat.max_le.mpr ⟨h x List.mem_cons_self, depthAll_of n l fun y hy => h y (List.mem_cons_of_mem _ hy)⟩
theorem intsLay (ns : List Int) : (PyData.list (ns.map .int)).canLay0 = true ∧ (PyData.list (ns.map .int)).depth ≤ 2 := by
  constructor
  · rw [PyData.canLay0]; exact canLayAll_map _ _ fun x _ => by simp [PyData.canLay0]
  · rw [PyData.depth]
    have := depthAll_map PyData.int 1 ns (fun x _ => by simp [PyData.depth])
    omega
theorem pieceD_lay (w : Wd) (p : Int × Kd) : ∀ x ∈ pieceD w p, x.canLay0 = true ∧ x.depth ≤ 2 := by
  intro x hx
  unfold pieceD at hx
  rcases List.mem_append.mp hx with hx | hx
  · rcases List.mem_append.mp hx with hx | hx
    · rcases List.mem_append.mp hx with hx | hx
      · rw [List.mem_singleton.mp hx]; exact ⟨by rw [PyData.canLay0]; exact p.2.strOk, by simp [PyData.depth]⟩
      · split at hx
        · rw [List.mem_singleton.mp hx]; simp [PyData.canLay0, PyData.depth]
        · cases hx
    · split at hx
      · rw [List.mem_singleton.mp hx]; simp [PyData.canLay0, PyData.depth]
      · cases hx
  · obtain ⟨e, _, rfl⟩ := List.mem_map.mp hx
    exact endD_lay _
theorem look_lay (w : Wd) (s : Sd) (KS : List (Int × Kd)) : (lookD w s KS).canLay0 = true ∧ (lookD w s KS).depth ≤ 3 := by
  have h : ∀ x ∈ look0 s KS ++ KS.flatMap (pieceD w) ++ s.ss.map .int, x.canLay0 = true ∧ x.depth ≤ 2 := fun x hx => by
    rcases List.mem_append.mp hx with hx | hx
    · rcases List.mem_append.mp hx with hx | hx
      · unfold look0 at hx
        simp only [List.mem_cons, List.not_mem_nil, or_false] at hx
        rcases hx with rfl | rfl | rfl | rfl
        · exact intsLay _
        · exact intsLay _
        · exact endD_lay _
        · exact intsLay _
      · obtain ⟨p, _, hp⟩ := List.mem_flatMap.mp hx
        exact pieceD_lay w p x hp
    · obtain ⟨i, _, rfl⟩ := List.mem_map.mp hx
      simp [PyData.canLay0, PyData.depth]
  constructor
  · unfold lookD; rw [PyData.canLay0]; exact canLayAll_of _ fun x hx => (h x hx).1
  · unfold lookD; rw [PyData.depth]
    have := depthAll_of 2 _ fun x hx => (h x hx).2
    omega
theorem look_sh (w : Wd) (s : Sd) (KS : List (Int × Kd)) : SeqAt.shaped (lookD w s KS) = true := shaped_of (look_lay w s KS).1 (by have := (look_lay w s KS).2; omega)
def kmap (KS : List (Int × Kd)) : List (Key × V) := KS.map fun p => ((Sum.inl p.1 : Key), V.str p.2.str)
theorem kmap_keys (KS : List (Int × Kd)) : (kmap KS).map (fun kv => kV kv.1) = (KS.map (·.1)).map V.int := by
  unfold kmap; rw [List.map_map, List.map_map]; rfl
def sp_look (K : PySem.W.Frag) (C : Addr) : Sp := fun vs H Q _ => ∃ (A : YA) (y : YR) (L : Kn) (w : Wd) (s : Sd) (KS : List (Int × Kd)), vs = [.ref A.p] ∧ Has H (yL C A y ++ L) ∧ Rep w s y ∧ Pool w s L ∧ Small y ∧ y.kinds = kmap KS ∧ (∀ p ∈ KS, w.kf p.1 = some p.2) ∧
  ∀ H' l N, Stb K (N ++ L) (lookD w s KS) (.ref l) → Has H' (yL C A y ++ (N ++ L)) → Q (.ref l) H'
def LkI (K : PySem.W.Frag) (C : Addr) (A : YA) (y : YR) (L : Kn) (rw : Addr) (N : Kn) (ds : List PyData) (c : Nat) (H : Hp) : Prop := ∃ vs : List V, Stbs K (N ++ L) ds vs ∧ vs.length ≤ c ∧ Has H (yL C A y ++ ((rw, HO.lst vs) :: (N ++ L)))
theorem intsV_eq (n : Nat) : intsV n = ((List.range n).map fun i : Nat => (i : Int)).map V.int := by
  unfold intsV; rw [List.map_map]; rfl
section
variable {P : Program} {w : World} {K : PySem.W.Frag} {mg : Str → Option Value} {base : Heap} {t : Adr}
theorem scLo : FnScope ["_law_yard", "_law_row", "_law_piece", "_law_kind_here", "_law_place", "_law_rod"] ["_law_yard"] (defScope s_look) := ⟨rfl, rfl, rfl, by decide +kernel, rfl, by decide +kernel, by decide +kernel⟩
theorem ok_look (T : Txt K mg t) : FnOk P w K mg base CX0 6 t.f_look t.d_look ["_law_yard"] (sp_look K t.c_Yard) := by
  refine T.F_look.ok scLo (fun vs H Q E h => ?_) (fun cdv A outer s H vs Q E hr h => ?_)
  · obtain ⟨_, _, _, _, _, _, rfl, _⟩ := h
    rfl
  · obtain ⟨A, y, L, W, sd, KS, rfl, hH, R, PL, sm, ek, hK, q⟩ := h
    have tupIn : ∀ {u : Option En} {N : Kn}, (∀ z, u = some z → ∃ j : Nat, L[j]? = some (z.1, HO.tup [.int z.2.1, .int z.2.2])) → Stb K (N ++ L) (endD u) (enV u) := fun h => Stb.en fun z hz => by
      obtain ⟨j, hj⟩ := h z hz
      exact List.mem_append_right _ (List.mem_of_getElem? hj)
    have kl : KS.length ≤ 10000 := by have := sm.k; rw [ek] at this; unfold kmap at this; rw [List.length_map] at this; exact this
    have sl : sd.ss.length ≤ 10000 := by have := sm.s; rw [R.sd, List.length_map] at this; exact this
    refine ⟨_, (pss_cons (ps_set (i := 1) scLo.nd rfl (Or.inl rfl) (pe_lst (pa_cons (pe_meth0 (pv 0) T.cl_Yard T.M_Yard_pieces (ok_Yard_pieces T) (hr.mono (by decide)) (b_Yard_pieces T) .nil pass0) (pa_cons (pe_meth0 (pv 0) T.cl_Yard T.M_Yard_rods (ok_Yard_rods T) (hr.mono (by decide)) (b_Yard_rods T) .nil pass0) (pa_cons (pe_meth0 (pv 0) T.cl_Yard T.M_Yard_engine (ok_Yard_engine T) (hr.mono (by decide)) (b_Yard_engine T) .nil pass0) (pa_cons (pe_meth0 (pv 0) T.cl_Yard T.M_Yard_bells (ok_Yard_bells T) (hr.mono (by decide)) (b_Yard_bells T) .nil pass0) pa_nil))))))
      (pss_cons (ps_for PassesOwn.never rfl (pi_list (pe_meth0 (pv 0) T.cl_Yard T.M_Yard_pieces (ok_Yard_pieces T) (hr.mono (by decide)) (b_Yard_pieces T) .nil pass0)) (pg_name (i := 2) scLo.nd rfl (Or.inl rfl))
        (pss_cons (ps_set (i := 3) scLo.nd rfl (Or.inl rfl) (pe_meth (pv 0) T.cl_Yard T.M_Yard_kind (ok_Yard_kind T) (hr.mono (by decide)) (b_Yard_kind T) .nil pass0 (pa_cons (pv 2) pa_nil)))
          (pss_cons (ps_expr (pe_bm PySem.F.plainAttrs_list PySem.F.slot_list_append PySem.F.type_list_append mt_append (pv 1) (pa_cons (pv 3) pa_nil)))
          (pss_cons (ps_cut (ps_if (pt_cmpR op_eq (pv 3) pe_str (nomark _))
            (pss_one (ps_expr (pe_bm PySem.F.plainAttrs_list PySem.F.slot_list_append PySem.F.type_list_append mt_append (pv 1) (pa_cons (pe_meth (pv 0) T.cl_Yard T.M_Yard_note (ok_Yard_note T) (hr.mono (by decide)) (b_Yard_note T) .nil pass0 (pa_cons (pv 2) pa_nil)) pa_nil))))
            pss_nil))
          (pss_cons (ps_cut (ps_if (pt_cmpR op_eq (pe_call (ok_many T) (hr.mono (by decide)) (by rfl) T.m_many T.F_many.kp (b_many T) .nil pass0 (pa_cons (pv 3) pa_nil)) pe_int (nomark _))
            (pss_one (ps_expr (pe_bm PySem.F.plainAttrs_list PySem.F.slot_list_append PySem.F.type_list_append mt_append (pv 1) (pa_cons (pe_meth (pv 0) T.cl_Yard T.M_Yard_rod (ok_Yard_rod T) (hr.mono (by decide)) (b_Yard_rod T) .nil pass0 (pa_cons (pv 2) pa_nil)) pa_nil))))
            pss_nil))
          (pss_one (ps_for PassesOwn.never rfl (pi_range1 (by rfl) T.z_range (pa_cons (pe_call (ok_many T) (hr.mono (by decide)) (by rfl) T.m_many T.F_many.kp (b_many T) .nil pass0 (pa_cons (pv 3) pa_nil)) pa_nil)) (pg_name (i := 4) scLo.nd rfl (Or.inl rfl))
            (pss_one (ps_expr (pe_bm PySem.F.plainAttrs_list PySem.F.slot_list_append PySem.F.type_list_append mt_append (pv 1) (pa_cons (pe_meth (pv 0) T.cl_Yard T.M_Yard_mate (ok_Yard_mate T) (hr.mono (by decide)) (b_Yard_mate T) .nil pass0 (@pa_cons _ _ _ _ _ (pe_tup (pa_cons (pv 2) (pa_cons (pv 4) pa_nil))) pa_nil (by rfl))) pa_nil)))))))))))
      (pss_cons (ps_for PassesOwn.never rfl (pi_list (pe_meth0 (pv 0) T.cl_Yard T.M_Yard_rods (ok_Yard_rods T) (hr.mono (by decide)) (b_Yard_rods T) .nil pass0)) (pg_name (i := 5) scLo.nd rfl (Or.inl rfl))
        (pss_one (ps_expr (pe_bm PySem.F.plainAttrs_list PySem.F.slot_list_append PySem.F.type_list_append mt_append (pv 1) (pa_cons (pe_meth (pv 0) T.cl_Yard T.M_Yard_side (ok_Yard_side T) (hr.mono (by decide)) (b_Yard_side T) .nil pass0 (pa_cons (pv 5) pa_nil)) pa_nil)))))
      (pss_one (ps_ret (pv 1)))))), ?_⟩
    rw [show L2.start ["_law_yard", "_law_row", "_law_piece", "_law_kind_here", "_law_place", "_law_rod"] [V.ref A.p] = ([some (V.ref A.p), none, none, none, none, none] : St) from rfl]
    refine ⟨_, rfl, A.p, A.dx, _, rfl, hH.get 1 rfl, (fl_m4 _ _ _).2.2.2.1, A, y, _, rfl, hH, fun H1 l1 h1 => ?_⟩
    replace h1 := Has.comm (X := [_]) (Y := yL t.c_Yard A y) (R := L) h1
    refine ⟨_, rfl, A.p, A.dx, _, rfl, h1.get 1 rfl, (fl_m _ _ _).2.2.2.1, A, y, _, rfl, h1, sm, fun H2 l2 h2 => ?_⟩
    replace h2 := Has.comm (X := [_]) (Y := yL t.c_Yard A y) h2
    refine ⟨_, rfl, A.p, A.dx, _, rfl, h2.get 1 rfl, (fl_m4 _ _ _).2.2.2.2.2.2.1, A, y, _, rfl, h2, ?_⟩
    refine ⟨_, rfl, A.p, A.dx, _, rfl, h2.get 1 rfl, (fl_m4 _ _ _).2.2.2.2.2.2.2.1, A, y, _, rfl, h2, fun H3 l3 h3 => ?_⟩
    replace h3 := Has.comm (X := [_]) (Y := yL t.c_Yard A y) h3
    refine ⟨sz (show 4 ≤ 1000000 by decide), fun rw_ hrw => ?_⟩
    have h4 := Has.comm (X := [_]) (Y := yL t.c_Yard A y) (h3.alloc hrw (.lst [.ref l1, .ref l2, y.eng, .ref l3]))
    generalize upd H3 rw_ _ = H4 at h4 ⊢
    clear h3 h2 h1 hH hrw
    dsimp only [List.set]
    have eI : intsV y.sides.length = ((List.range sd.ss.length).map fun i : Nat => (i : Int)).map V.int := by rw [R.sd, List.length_map]; exact intsV_eq _
    have ekk : (y.kinds.map fun kv => kV kv.1) = (KS.map (·.1)).map V.int := by rw [ek]; exact kmap_keys _
    rw [R.rg, eI, ekk, R.en] at h4
    obtain ⟨N0, eN0⟩ : ∃ N0 : Kn, [(l3, HO.lst (sd.rg.map V.int)), (l2, HO.lst (((List.range sd.ss.length).map fun i : Nat => (i : Int)).map V.int)), (l1, HO.lst ((KS.map (·.1)).map V.int))] = N0 := ⟨_, rfl⟩
    have L4 : LkI K t.c_Yard A y L rw_ N0 (look0 sd KS) 4 H4 := by
      subst eN0
      refine ⟨[.ref l1, .ref l2, enV sd.at_, .ref l3], ?_, Nat.le_refl 4, h4⟩
      have a1 := Stbs.nil.snoc (K := K) (Stb.lst (l := l1) (M := [(l3, HO.lst (sd.rg.map V.int)), (l2, HO.lst (((List.range sd.ss.length).map fun i : Nat => (i : Int)).map V.int)), (l1, HO.lst ((KS.map (·.1)).map V.int))] ++ L) (by simp) (Stbs.ints (KS.map (·.1))))
      have a2 := a1.snoc (Stb.lst (l := l2) (by simp) (Stbs.ints ((List.range sd.ss.length).map fun i : Nat => (i : Int))))
      have a3 := a2.snoc (tupIn (u := sd.at_) PL.e)
      exact a3.snoc (Stb.lst (l := l3) (by simp) (Stbs.ints sd.rg))
    clear h4 eN0
    obtain ⟨vs4, sv4, lv4, h4⟩ := L4
    refine ⟨_, rfl, A.p, A.dx, _, rfl, h4.get 1 rfl, (fl_m4 _ _ _).2.2.2.1, A, y, _, rfl, h4, fun H5 pl h5 => ?_⟩
    rw [ekk] at h5
    have h5' := hcast (has_mid (Z := []) (X := [(pl, HO.lst ((KS.map (·.1)).map V.int))]) (Y := yL t.c_Yard A y ++ [(rw_, HO.lst vs4)]) (R := N0 ++ L) (hcast h5 (by simp))) (L' := yL t.c_Yard A y ++ ((rw_, HO.lst vs4) :: (((pl, HO.lst ((KS.map (·.1)).map V.int)) :: N0) ++ L))) (by simp)
    obtain ⟨N1, eN1⟩ : ∃ N1 : Kn, (pl, HO.lst ((KS.map (·.1)).map V.int)) :: N0 = N1 := ⟨_, rfl⟩
    rw [eN1] at h5'
    have mpl : (pl, HO.lst ((KS.map (·.1)).map V.int)) ∈ N1 := by rw [← eN1]; exact List.mem_cons_self
    have L5 : LkI K t.c_Yard A y L rw_ N1 (look0 sd KS) 4 H5 := ⟨vs4, sv4.mono (fun z hz _ => by rw [← eN1]; exact List.mem_cons_of_mem _ hz), lv4, h5'⟩
    clear h5 h5' h4 sv4 lv4 eN1
    have gpl : ∀ {ds c H'}, LkI K t.c_Yard A y L rw_ N1 ds c H' → SqL K H' pl ((KS.map (·.1)).map V.int) := fun ⟨vs, _, _, h⟩ => SqL.of (h.at_ _ (List.mem_append_right _ (List.mem_cons_of_mem _ (List.mem_append_left _ mpl))))
    refine ⟨pl, rfl, ⟨_, gpl L5⟩, for_list (xs := (KS.map (·.1)).map V.int) (fun i σ H' => ∃ o1 o2 o3 : Option V, σ = [some (.ref A.p), some (.ref rw_), o1, o2, o3, none] ∧ LkI K t.c_Yard A y L rw_ N1 (look0 sd KS ++ (KS.take i).flatMap (pieceD W)) (4 + 6 * i) H') ⟨_, _, _, rfl, by simpa using L5⟩ (fun i σ H' _ ⟨_, _, _, _, h⟩ => gpl h) ?_ ?_⟩
    · clear L5
      rintro i x σ H6 hx ⟨o1, o2, o3, rfl, L6⟩
      have hi : i < KS.length := by have := (List.getElem?_eq_some_iff.mp hx).1; simpa using this
      have ex : x = .int KS[i].1 := by
        rw [List.getElem?_map, List.getElem?_map, List.getElem?_eq_getElem hi] at hx
        exact (Option.some.inj hx).symm
      subst ex
      obtain ⟨p, ep⟩ : ∃ p, KS[i] = p := ⟨_, rfl⟩
      have mp : p ∈ KS := by rw [← ep]; exact List.getElem_mem hi
      have hk := hK p mp
      have tk : KS.take (i + 1) = KS.take i ++ [p] := by rw [List.take_succ, List.getElem?_eq_getElem hi, ep]; rfl
      rw [ep]
      obtain ⟨D0, eD0⟩ : ∃ D0, look0 sd KS ++ (KS.take i).flatMap (pieceD W) = D0 := ⟨_, rfl⟩
      have eD1 : look0 sd KS ++ (KS.take (i + 1)).flatMap (pieceD W) = D0 ++ pieceD W p := by rw [tk, List.flatMap_append, ← List.append_assoc, eD0]; simp
      rw [eD0] at L6
      rw [eD1]
      clear eD1 eD0 tk ep hx
      obtain ⟨vs, sv, lv, h6⟩ := L6
      have km : 1 ≤ p.2.many ∧ p.2.many ≤ 3 := by cases p.2 <;> decide
      dsimp only [List.set]
      refine ⟨_, rfl, A.p, A.dx, _, rfl, h6.get 1 rfl, (fl_m4 _ _ _).2.2.2.2.1, _, rfl, A, y, _, p.1, _, rfl, h6, R.kd _ _ hk, ?_⟩
      dsimp only [List.set]
      refine ⟨_, rfl, .inl ⟨rfl, _, SqL.of (h6.get 9 rfl)⟩, _, rfl, rw_, _, _, rfl, rfl, h6.get 9 rfl, sizeOk (by omega), ?_⟩
      have h7 : Has _ (yL t.c_Yard A y ++ ((rw_, HO.lst (vs ++ [.str p.2.str])) :: (N1 ++ L))) := h6.puti 9 rfl (.lst (vs ++ [.str p.2.str]))
      generalize upd H6 rw_ _ = H7 at h7 ⊢
      have L7 : LkI K t.c_Yard A y L rw_ N1 (D0 ++ [.str p.2.str]) (4 + 6 * i + 1) H7 := ⟨_, sv.snoc (Stb.str _), by rw [List.length_append, List.length_singleton]; omega, h7⟩
      clear h7 h6 sv lv
      refine ⟨fun σ' H' => σ' = [some (.ref A.p), some (.ref rw_), some (.int p.1), some (.str p.2.str), o3, none] ∧ LkI K t.c_Yard A y L rw_ N1 (D0 ++ ([.str p.2.str] ++ (if p.2 = .bell then [.int (W.nf p.1)] else []))) (4 + 6 * i + 2) H', ?_, ?_⟩
      · obtain ⟨vs, sv, lv, h7⟩ := L7
        refine ⟨_, rfl, rfl, _, rfl, ?_⟩
        rw [p.2.isBell]
        refine ifd (fun c => ?_) (fun c => ?_)
        · refine ⟨_, rfl, .inl ⟨rfl, _, SqL.of (h7.get 9 rfl)⟩, _, rfl, A.p, A.dx, _, rfl, h7.get 1 rfl, (fl_m4 _ _ _).2.2.2.2.2.1, _, rfl, A, y, _, p.1, _, _, rfl, h7, R.kd _ _ hk, (by rw [R.no _ _ hk, if_pos c]), rw_, _, _, rfl, rfl, h7.get 9 rfl, sizeOk (by omega), ?_⟩
          refine ⟨rfl, _, ?_, ?_, h7.puti 9 rfl (.lst (vs ++ [.int (W.nf p.1)]))⟩
          · rw [if_pos c, ← List.append_assoc]; exact sv.snoc (Stb.int _)
          · rw [List.length_append, List.length_singleton]; omega
        · refine ⟨rfl, vs, ?_, by omega, h7⟩
          rw [if_neg c, List.append_nil]; exact sv
      clear L7
      rintro σ' H7 ⟨rfl, L7⟩
      obtain ⟨D1, eD1⟩ : ∃ D1 : List PyData, [PyData.str p.2.str] ++ (if p.2 = .bell then [.int (W.nf p.1)] else []) = D1 := ⟨_, rfl⟩
      rw [eD1] at L7
      refine ⟨fun σ' H' => σ' = [some (.ref A.p), some (.ref rw_), some (.int p.1), some (.str p.2.str), o3, none] ∧ LkI K t.c_Yard A y L rw_ N1 (D0 ++ (D1 ++ (if p.2.point = true then [.int (W.rf p.1)] else []))) (4 + 6 * i + 3) H', ?_, ?_⟩
      · obtain ⟨vs, sv, lv, h7⟩ := L7
        refine ⟨_, rfl, p.2, rfl, rfl, _, rfl, ?_⟩
        rw [decInt, show decide (p.2.many = 3) = p.2.point by cases p.2 <;> rfl]
        refine if2 (fun c => ?_) (fun c => ?_)
        · refine ⟨_, rfl, .inl ⟨rfl, _, SqL.of (h7.get 9 rfl)⟩, _, rfl, A.p, A.dx, _, rfl, h7.get 1 rfl, (fl_m _ _ _).2.2.2.2.1, _, rfl, A, y, _, p.1, _, _, rfl, h7, R.kd _ _ hk, (by rw [R.ro _ _ hk, if_pos c]), rw_, _, _, rfl, rfl, h7.get 9 rfl, sizeOk (by omega), ?_⟩
          refine ⟨rfl, _, ?_, ?_, h7.puti 9 rfl (.lst (vs ++ [.int (W.rf p.1)]))⟩
          · rw [if_pos c, ← List.append_assoc]; exact sv.snoc (Stb.int _)
          · rw [List.length_append, List.length_singleton]; omega
        · refine ⟨rfl, vs, ?_, by omega, h7⟩
          rw [if_neg (by rw [c]; exact Bool.false_ne_true), List.append_nil]; exact sv
      clear L7
      rintro σ' H7 ⟨rfl, L7⟩
      obtain ⟨D2, eD2⟩ : ∃ D2 : List PyData, D1 ++ (if p.2.point = true then [.int (W.rf p.1)] else []) = D2 := ⟨_, rfl⟩
      rw [eD2] at L7
      have ePD : pieceD W p = D2 ++ (List.range p.2.many.toNat).map fun e : Nat => endD (W.mf p.1 e) := by unfold pieceD; rw [eD1, eD2]
      rw [ePD]
      refine ⟨_, rfl, p.2, rfl, p.2.many, rfl, by omega, by omega, for_range (fun e σ H' => ∃ o3 : Option V, σ = [some (.ref A.p), some (.ref rw_), some (.int p.1), some (.str p.2.str), o3, none] ∧ LkI K t.c_Yard A y L rw_ N1 (D0 ++ (D2 ++ (List.range e).map fun e : Nat => endD (W.mf p.1 e))) (4 + 6 * i + 3 + e) H') ⟨_, rfl, by simpa using L7⟩ ?_ ?_⟩
      · clear L7
        rintro e σ H8 he ⟨o3, rfl, vs, sv, lv, h8⟩
        have he3 : e < 3 := by omega
        dsimp only [List.set]
        rw [Int.zero_add]
        refine ⟨_, rfl, .inl ⟨rfl, _, SqL.of (h8.get 9 rfl)⟩, _, rfl, A.p, A.dx, _, rfl, h8.get 1 rfl, (fl_m2 _ _ _).2.1, _, rfl, _, rfl, (show 2 ≤ sizeLine by decide), fun b hb => ?_⟩
        have h9 := h8.alloc hb (.tup [.int p.1, .int (e : Int)])
        generalize upd H8 b _ = H9 at h9 ⊢
        refine ⟨A, y, _, b, p.1, (e : Int), 0, rfl, Has.comm (X := [_]) (Y := yL t.c_Yard A y) h9, rfl, ⟨p.2, R.kd _ _ hk, by omega, by omega⟩, ?_⟩
        replace h9 := h9.tail
        rw [show (valV y.mates (kE p.1 (e : Int))).getD .non = enV (W.mf p.1 e) by rw [R.mt]; cases W.mf p.1 e <;> rfl]
        refine ⟨rw_, _, _, rfl, rfl, h9.get 9 rfl, sizeOk (by omega), ?_⟩
        refine ⟨_, rfl, _, ?_, ?_, h9.puti 9 rfl (.lst (vs ++ [enV (W.mf p.1 e)]))⟩
        · rw [List.range_succ, List.map_append, ← List.append_assoc, ← List.append_assoc]
          rw [← List.append_assoc] at sv
          exact sv.snoc (tupIn (fun z hz => PL.m _ _ z hz))
        · rw [List.length_append, List.length_singleton]; omega
      · rintro σ H8 ⟨o3, rfl, vs, sv, lv, h8⟩
        exact ⟨_, _, _, rfl, vs, sv, by omega, h8⟩
    · clear L5
      rintro σ H6 ⟨o1, o2, o3, rfl, L6⟩
      have e1 : ((KS.map (·.1)).map V.int).length = KS.length := by simp
      rw [e1, List.take_length] at L6
      obtain ⟨vs, sv, lv, h6⟩ := L6
      refine ⟨_, rfl, A.p, A.dx, _, rfl, h6.get 1 rfl, (fl_m _ _ _).2.2.2.1, A, y, _, rfl, h6, sm, fun H7 rl h7 => ?_⟩
      rw [eI] at h7
      have h7' := hcast (has_mid (Z := []) (X := [(rl, HO.lst (((List.range sd.ss.length).map fun i : Nat => (i : Int)).map V.int))]) (Y := yL t.c_Yard A y ++ [(rw_, HO.lst vs)]) (R := N1 ++ L) (hcast h7 (by simp))) (L' := yL t.c_Yard A y ++ ((rw_, HO.lst vs) :: (((rl, HO.lst (((List.range sd.ss.length).map fun i : Nat => (i : Int)).map V.int)) :: N1) ++ L))) (by simp)
      obtain ⟨N2, eN2⟩ : ∃ N2 : Kn, (rl, HO.lst (((List.range sd.ss.length).map fun i : Nat => (i : Int)).map V.int)) :: N1 = N2 := ⟨_, rfl⟩
      rw [eN2] at h7'
      have mrl : (rl, HO.lst (((List.range sd.ss.length).map fun i : Nat => (i : Int)).map V.int)) ∈ N2 := by rw [← eN2]; exact List.mem_cons_self
      have L7 : LkI K t.c_Yard A y L rw_ N2 (look0 sd KS ++ KS.flatMap (pieceD W)) (4 + 6 * KS.length) H7 := ⟨vs, sv.mono (fun z hz _ => by rw [← eN2]; exact List.mem_cons_of_mem _ hz), lv, h7'⟩
      clear h7 h7' h6 sv lv eN2
      have grl : ∀ {ds c H'}, LkI K t.c_Yard A y L rw_ N2 ds c H' → SqL K H' rl (((List.range sd.ss.length).map fun i : Nat => (i : Int)).map V.int) := fun ⟨vs, _, _, h⟩ => SqL.of (h.at_ _ (List.mem_append_right _ (List.mem_cons_of_mem _ (List.mem_append_left _ mrl))))
      refine ⟨rl, rfl, ⟨_, grl L7⟩, for_list (xs := ((List.range sd.ss.length).map fun i : Nat => (i : Int)).map V.int) (fun i σ H' => ∃ o0 : Option V, σ = [some (.ref A.p), some (.ref rw_), o1, o2, o3, o0] ∧ LkI K t.c_Yard A y L rw_ N2 (look0 sd KS ++ KS.flatMap (pieceD W) ++ (sd.ss.take i).map .int) (4 + 6 * KS.length + i) H') ⟨_, rfl, by simpa using L7⟩ (fun i σ H' _ ⟨_, _, h⟩ => grl h) ?_ ?_⟩
      · clear L7
        rintro i x σ H8 hx ⟨o0, rfl, vs, sv, lv, h8⟩
        have hi : i < sd.ss.length := by have := (List.getElem?_eq_some_iff.mp hx).1; simpa using this
        have ex : x = .int (i : Int) := by
          rw [List.getElem?_map, List.getElem?_map, List.getElem?_eq_getElem (by simpa using hi)] at hx
          simpa using (Option.some.inj hx).symm
        subst ex
        dsimp only [List.set]
        refine ⟨_, rfl, .inl ⟨rfl, _, SqL.of (h8.get 9 rfl)⟩, _, rfl, A.p, A.dx, _, rfl, h8.get 1 rfl, (fl_m _ _ _).2.2.2.2.2.1, _, rfl, A, y, _, (i : Int), .int sd.ss[i], rfl, h8, by omega, (by rw [R.sd, Int.toNat_natCast, List.getElem?_map, List.getElem?_eq_getElem hi]; rfl), rw_, _, _, rfl, rfl, h8.get 9 rfl, sizeOk (by omega), ?_⟩
        refine ⟨_, rfl, _, ?_, ?_, h8.puti 9 rfl (.lst (vs ++ [.int sd.ss[i]]))⟩
        · rw [List.take_succ, List.getElem?_eq_getElem hi, List.map_append, ← List.append_assoc]
          exact sv.snoc (Stb.int _)
        · rw [List.length_append, List.length_singleton]; omega
      · clear L7
        rintro σ H8 ⟨o0, rfl, vs, sv, lv, h8⟩
        have e2 : (((List.range sd.ss.length).map fun i : Nat => (i : Int)).map V.int).length = sd.ss.length := by simp
        rw [e2, List.take_length] at sv
        refine ⟨_, rfl, q H8 rw_ ((rw_, HO.lst vs) :: N2) ?_ h8⟩
        exact Stb.lst (vs := vs) List.mem_cons_self (sv.mono fun z hz _ => List.mem_cons_of_mem _ hz)
end

structure Sm (y : YR) (c : Nat) : Prop where
  k : y.kinds.length ≤ c
  n : y.notes.length ≤ c
  r : y.rods.length ≤ c
  s : y.sides.length ≤ c
  m : y.mates.length ≤ c
  g : y.rung.length ≤ c
theorem Sm.small {y : YR} {c : Nat} (h : Sm y c) (hc : c ≤ 10000) (ht : y.trail.length ≤ 10000) : Small y := ⟨by have := h.k; omega, by have := h.n; omega, by have := h.r; omega, by have := h.s; omega, by have := h.m; omega, by have := h.g; omega, by omega⟩
theorem drop_le {κ : Type} [DecidableEq κ] (kvs : List (κ × V)) (k : κ) : (dropK kvs k).length ≤ kvs.length := by
  induction kvs with
  | nil => exact Nat.le_refl _
  | cons p r ih =>
    by_cases e : p.1 = k
    · rw [dropK_pos e, List.length_cons]; omega
    · rw [dropK_neg e, List.length_cons, List.length_cons]; omega
theorem kmap_val : ∀ {KS : List (Int × Kd)} {n : Int} {v : V}, valV (kmap KS) (Sum.inl n) = some v → ∃ k, (n, k) ∈ KS ∧ v = .str k.str
  | [], n, v, h => by cases h
  | p :: KS, n, v, h => by
    have h : valV (((Sum.inl p.1 : Key), V.str p.2.str) :: kmap KS) (Sum.inl n) = some v := h
    by_cases c : p.1 = n
    · rw [valV_pos (show ((Sum.inl p.1 : Key), V.str p.2.str).1 = Sum.inl n by rw [c])] at h
      exact ⟨p.2, by rw [← c]; exact List.mem_cons_self, (Option.some.inj h).symm⟩
    · rw [valV_neg (fun e => c (Sum.inl.inj e))] at h
      obtain ⟨k, m, e⟩ := kmap_val h
      exact ⟨k, List.mem_cons_of_mem _ m, e⟩
theorem kmap_drop (n : Int) : ∀ (KS : List (Int × Kd)), dropK (kmap KS) (Sum.inl n) = kmap (KS.filter fun p => decide (¬ p.1 = n))
  | [] => rfl
  | p :: KS => by
    show dropK (((Sum.inl p.1 : Key), V.str p.2.str) :: kmap KS) (Sum.inl n) = _
    by_cases c : p.1 = n
    · rw [dropK_pos (show ((Sum.inl p.1 : Key), V.str p.2.str).1 = Sum.inl n by rw [c]), List.filter_cons_of_neg (by simp [c]), kmap_drop n KS]
    · rw [dropK_neg (fun e => c (Sum.inl.inj e)), List.filter_cons_of_pos (by simp [c]), kmap_drop n KS]
      rfl
structure Y8 (W : Wd) (s : Sd) (y : YR) (KS : List (Int × Kd)) (L : Kn) : Prop where
  R : Rep W s y
  kk : y.kinds = kmap KS
  kf : ∀ p ∈ KS, W.kf p.1 = some p.2
  kn : ∀ n k, W.kf n = some k → (n, k) ∈ KS
  sy : Wsym W.mf
  pm : ∀ n e z, W.mf n e = some z → (z.1, HO.tup [.int z.2.1, .int z.2.2]) ∈ L
  pe : ∀ z, s.at_ = some z → (z.1, HO.tup [.int z.2.1, .int z.2.2]) ∈ L
  sm : Sm y 200
  tr : y.trail = []
theorem Y8.small {W : Wd} {s : Sd} {y : YR} {KS : List (Int × Kd)} {L : Kn} (h : Y8 W s y KS L) : Small y := h.sm.small (by decide) (by rw [h.tr]; decide)
theorem Y8.none {W : Wd} {s : Sd} {y : YR} {KS : List (Int × Kd)} {L : Kn} (h : Y8 W s y KS L) {n : Int} (hn : W.kf n = none) : valV y.kinds (Sum.inl n) = none := by
  cases c : valV y.kinds (Sum.inl n) with
  | none => rfl
  | some v =>
    rw [h.kk] at c
    obtain ⟨k, m, _⟩ := kmap_val c
    have := h.kf _ m
    rw [hn] at this
    cases this
theorem Y8.mono {W : Wd} {s : Sd} {y : YR} {KS : List (Int × Kd)} {L L' : Kn} (h : Y8 W s y KS L) (k : ∀ z ∈ L, NT z → z ∈ L') : Y8 W s y KS L' :=
  ⟨h.R, h.kk, h.kf, h.kn, h.sy, fun n e z hz => k _ (h.pm n e z hz) (fun _ e => nomatch e), fun z hz => k _ (h.pe z hz) (fun _ e => nomatch e), h.sm, h.tr⟩
theorem Y8.pool {W : Wd} {s : Sd} {y : YR} {KS : List (Int × Kd)} {L : Kn} (h : Y8 W s y KS L) : Pool W s L := ⟨fun n e z hz => List.mem_iff_getElem?.mp (h.pm n e z hz), fun z hz => List.mem_iff_getElem?.mp (h.pe z hz)⟩
theorem Y8.off {W : Wd} {s : Sd} {y : YR} {KS : List (Int × Kd)} {L : Kn} (h : Y8 W s y KS L) : Y8 W { s with at_ := Option.none } { y with eng := .non, trail := [] } KS L :=
  ⟨h.R.eng Option.none (fun _ h => nomatch h) [], h.kk, h.kf, h.kn, h.sy, h.pm, (fun _ h => nomatch h), ⟨h.sm.k, h.sm.n, h.sm.r, h.sm.s, h.sm.m, h.sm.g⟩, rfl⟩
theorem Y8.from {W : Wd} {s : Sd} {y : YR} {KS : List (Int × Kd)} {L : Kn} (h : Y8 W s y KS L) {n e : Int} {z : En} (hz : W.mf n e = some z) : ∃ k, W.kf n = some k ∧ 0 ≤ e ∧ e < k.many := by
  obtain ⟨_, z', h1, h2⟩ := h.sy n e z hz
  obtain ⟨k, hk, e0, e1⟩ := h.R.mo _ _ _ h1
  rw [h2] at hk e0 e1
  exact ⟨k, hk, e0, e1⟩
theorem Y8.unlink {W : Wd} {s : Sd} {y : YR} {KS : List (Int × Kd)} {L : Kn} (h : Y8 W s y KS L) {n1 e1 : Int} {z : En} (hz : W.mf n1 e1 = some z) :
    Y8 { W with mf := mfUn W.mf (n1, e1) z.2 } s { y with mates := dropK (dropK y.mates (kE n1 e1)) (kE z.2.1 z.2.2), trail := [] } KS L := by
  have ke : ∀ {a b c d : Int}, kE a b = kE c d ↔ (a, b) = (c, d) := fun {a b c d} => by
    constructor
    · intro h
      injection h with h1 h2
      injection h2 with h2 _
      injection h1 with h1
      injection h2 with h2
      rw [h1, h2]
    · intro h
      injection h with h1 h2
      rw [h1, h2]
  have sub : ∀ {n e u}, mfUn W.mf (n1, e1) z.2 n e = some u → W.mf n e = some u := fun {n e u} hu => by
    unfold mfUn at hu
    split at hu
    · cases hu
    · exact hu
  refine ⟨⟨h.R.kd, h.R.no, h.R.ro, h.R.rr, h.R.sd, h.R.s12, fun n e => ?_, fun n e u hu => h.R.mo n e u (sub hu), h.R.en, h.R.eo, h.R.rg⟩, h.kk, h.kf, h.kn, h.sy.unlink hz, fun n e u hu => h.pm n e u (sub hu), h.pe, ⟨h.sm.k, h.sm.n, h.sm.r, h.sm.s, Nat.le_trans (drop_le _ _) (Nat.le_trans (drop_le _ _) h.sm.m), h.sm.g⟩, rfl⟩
  show valV (dropK (dropK y.mates (kE n1 e1)) (kE z.2.1 z.2.2)) (kE n e) = Option.map _ (mfUn W.mf (n1, e1) z.2 n e)
  unfold mfUn
  by_cases c2 : (n, e) = z.2
  · rw [if_pos (.inr c2), show kE n e = kE z.2.1 z.2.2 from ke.mpr c2, valV_drop_self]; rfl
  · rw [valV_drop (fun q => c2 (ke.mp q))]
    by_cases c1 : (n, e) = (n1, e1)
    · rw [if_pos (.inl c1), show kE n e = kE n1 e1 from ke.mpr c1, valV_drop_self]; rfl
    · rw [if_neg (fun q => q.elim c1 c2), valV_drop (fun q => c1 (ke.mp q))]
      exact h.R.mt n e
def Wd.lift (W : Wd) (n : Int) : Wd := { W with kf := fun i => if i = n then Option.none else W.kf i }
theorem Y8.lift {W : Wd} {s : Sd} {y : YR} {KS : List (Int × Kd)} {L : Kn} (h : Y8 W s y KS L) {n : Int} {k : Kd} (hk : W.kf n = some k) (hm : ∀ e : Int, 0 ≤ e → e < k.many → W.mf n e = Option.none) (he : ∀ z, s.at_ = some z → z.2.1 ≠ n) :
    Y8 (W.lift n) s { y with kinds := dropK y.kinds (Sum.inl n), notes := dropK y.notes (Sum.inl n), rods := dropK y.rods (Sum.inl n), trail := [] } (KS.filter fun p => decide (¬ p.1 = n)) L := by
  have kfs : ∀ {i : Int} {k' : Kd}, (W.lift n).kf i = some k' → ¬ i = n ∧ W.kf i = some k' := fun {i k'} hi => by
    have hi : (if i = n then Option.none else W.kf i) = some k' := hi
    by_cases c : i = n
    · rw [if_pos c] at hi; cases hi
    · rw [if_neg c] at hi; exact ⟨c, hi⟩
  have key : ∀ {i : Int}, ¬ i = n → ¬ (Sum.inl i : Key) = Sum.inl n := fun c e => c (Sum.inl.inj e)
  have no : ∀ e z, W.mf n e = some z → False := fun e z hz => by
    obtain ⟨k', hk', e0, e1⟩ := h.from hz
    rw [hk] at hk'
    cases hk'
    rw [hm e e0 e1] at hz
    cases hz
  have okl : ∀ z : En, W.ok z → ¬ z.2.1 = n → (W.lift n).ok z := fun z ⟨k', a, b, c⟩ ne => ⟨k', by show (if z.2.1 = n then Option.none else W.kf z.2.1) = _; rw [if_neg ne]; exact a, b, c⟩
  refine ⟨⟨fun i k' hi => ?_, fun i k' hi => ?_, fun i k' hi => ?_, fun i k' hi hp => h.R.rr i k' (kfs hi).2 hp, h.R.sd, h.R.s12, h.R.mt, fun i e z hz => okl z (h.R.mo i e z hz) (fun c => ?_), h.R.en, fun z hz => okl z (h.R.eo z hz) (he z hz), h.R.rg⟩, ?_, fun p hp => ?_, fun i k' hi => ?_, h.sy, h.pm, h.pe, ⟨Nat.le_trans (drop_le _ _) h.sm.k, Nat.le_trans (drop_le _ _) h.sm.n, Nat.le_trans (drop_le _ _) h.sm.r, h.sm.s, h.sm.m, h.sm.g⟩, rfl⟩
  · show valV (dropK y.kinds _) _ = _
    rw [valV_drop (key (kfs hi).1)]; exact h.R.kd _ _ (kfs hi).2
  · show valV (dropK y.notes _) _ = _
    rw [valV_drop (key (kfs hi).1)]; exact h.R.no _ _ (kfs hi).2
  · show valV (dropK y.rods _) _ = _
    rw [valV_drop (key (kfs hi).1)]; exact h.R.ro _ _ (kfs hi).2
  · obtain ⟨_, z', h1, _⟩ := h.sy i e z hz
    rw [c] at h1
    exact no _ _ h1
  · show dropK y.kinds _ = _
    rw [h.kk, kmap_drop]
  · obtain ⟨m, c⟩ := List.mem_filter.mp hp
    have c : ¬ p.1 = n := of_decide_eq_true c
    show (if p.1 = n then Option.none else W.kf p.1) = _
    rw [if_neg c]; exact h.kf p m
  · exact List.mem_filter.mpr ⟨h.kn i k' (kfs hi).2, decide_eq_true (kfs hi).1⟩
def ldue (W : Wd) (s : Sd) (n : Int) : Option Nat :=
  match W.kf n with
  | Option.none => some 4
  | some k => if ∃ e : Nat, e < k.many.toNat ∧ W.mf n e ≠ Option.none then some 9 else (match s.at_ with | some z => if z.2.1 = n then some 11 else Option.none | Option.none => Option.none)

end P


set_option Elab.async false
set_option linter.all false
set_option maxRecDepth 100000
set_option maxHeartbeats 4000000
namespace P
open PySem L2

def sp_ldue (K : PySem.W.Frag) (C : Addr) : Sp := fun vs H Q _ => ∃ (A : YA) (y : YR) (L : Kn) (W : Wd) (s : Sd) (KS : List (Int × Kd)) (n : Int) (kk th : Addr) (ks : List Kd), vs = [.ref A.p, .int n, .ref kk, .ref th, enV s.at_] ∧ Has H (yL C A y ++ L) ∧ Y8 W s y KS L ∧ (kk, HO.lst (ksV ks)) ∈ L ∧ (∀ p ∈ KS, 0 ≤ p.1 ∧ ks[p.1.toNat]? = some p.2) ∧ (th, HO.lst ((KS.map (·.1)).map V.int)) ∈ L ∧
  ∀ H' du, Has H' (yL C A y ++ ((du, HO.lst ((dueN (ldue W s n)).map V.str)) :: L)) → Q (.ref du) H'
theorem inV_ints (n : Int) : ∀ (ns : List Int), inV (.int n) (ns.map V.int) = decide (n ∈ ns)
  | [] => rfl
  | m :: ns => by
    have ih := inV_ints n ns
    unfold inV at ih ⊢
    rw [List.map_cons, List.any_cons, ih]
    by_cases c : m = n
    · subst c; simp [eqV]
    · have : eqV (V.int m) (V.int n) = false := by simp [eqV, c]
      rw [this]
      simp [show ¬ n = m from fun e => c e.symm]
theorem flat_ints : ∀ (ns : List Int), (ns.map V.int).all flatV = true
  | [] => rfl
  | _ :: ns => by rw [List.map_cons, List.all_cons, flat_ints ns]; rfl
section
variable {P : Program} {w : World} {K : PySem.W.Frag} {mg : Str → Option Value} {base : Heap} {t : Adr}
theorem scDu : FnScope ["_law_yard", "_law_piece", "_law_kinds_here", "_law_there", "_law_at", "_law_place"] ["_law_yard", "_law_piece", "_law_kinds_here", "_law_there", "_law_at"] (defScope s_lift_due) := ⟨rfl, rfl, rfl, by decide +kernel, rfl, by decide +kernel, by decide +kernel⟩
theorem ok_lift_due (T : Txt K mg t) : FnOk P w K mg base CX0 6 t.f_lift_due t.d_lift_due ["_law_yard", "_law_piece", "_law_kinds_here", "_law_there", "_law_at"] (sp_ldue K t.c_Yard) := by
  refine T.F_lift_due.ok scDu (fun vs H Q E h => ?_) (fun cdv A outer s H vs Q E hr h => ?_)
  · obtain ⟨_, _, _, _, _, _, _, _, _, _, rfl, _⟩ := h
    rfl
  · obtain ⟨A, y, L, W, sd, KS, n, kk, th, ks, rfl, hH, Y, mk, hks, mth, q⟩ := h
    refine ⟨_, (pss_cons (ps_if (pt_cmpR op_notIn_seq (pv 1) (pv 3) (by rfl))
        (pss_one (ps_ret (pe_lst (pa_cons pe_str pa_nil))))
        pss_nil)
      (pss_cons (ps_for PassesOwn.never rfl (pi_range1 (by rfl) T.z_range (pa_cons (pe_call (ok_many T) (hr.mono (by decide)) (by rfl) T.m_many T.F_many.kp (b_many T) .nil pass0 (pa_cons (pe_ix ix_list (pv 2) (pv 1) (fun _ _ => rfl)) pa_nil)) pa_nil)) (pg_name (i := 5) scDu.nd rfl (Or.inl rfl))
        (pss_one (ps_if (pt_cmpR op_notN (pe_meth (pv 0) T.cl_Yard T.M_Yard_mate (ok_Yard_mate T) (hr.mono (by decide)) (b_Yard_mate T) .nil pass0 (@pa_cons _ _ _ _ _ (pe_tup (pa_cons (pv 1) (pa_cons (pv 5) pa_nil))) pa_nil (by rfl))) pe_non (nomark _))
            (pss_one (ps_ret (pe_lst (pa_cons pe_str pa_nil))))
            pss_nil)))
      (pss_cons (ps_if (PW.pt (pw_and (pt_cmpR op_notN (pv 4) pe_non (nomark _)) (pw_and1 (pt_cmpR op_eq (pe_ix ix_tup (pv 4) pe_int (fun _ _ => rfl)) (pv 1) (nomark _)))))
        (pss_one (ps_ret (pe_lst (pa_cons pe_str pa_nil))))
        pss_nil)
      (pss_one (ps_ret (pe_lst pa_nil)))))), ?_⟩
    rw [show L2.start ["_law_yard", "_law_piece", "_law_kinds_here", "_law_there", "_law_at", "_law_place"] [V.ref A.p, V.int n, V.ref kk, V.ref th, enV sd.at_] = ([some (V.ref A.p), some (V.int n), some (V.ref kk), some (V.ref th), some (enV sd.at_), none] : St) from rfl]
    have gth : ∀ {H' : Hp} {X : Kn}, Has H' (X ++ L) → SqL K H' th ((KS.map (·.1)).map V.int) := fun h => SqL.of (h.at_ _ (List.mem_append_right _ mth))
    have gk : ∀ {H' : Hp} {X : Kn}, Has H' (X ++ L) → SqL K H' kk (ksV ks) := fun h => SqL.of (h.at_ _ (List.mem_append_right _ mk))
    have one : 1 ≤ sizeLine := by decide
    have fin : ∀ {H' : Hp} {l : Addr} {vs : List V}, vs = (dueN (ldue W sd n)).map V.str → Has H' ((l, HO.lst vs) :: (yL t.c_Yard A y ++ L)) → Q (.ref l) H' := fun e h => q _ _ (Has.comm (X := [_]) (Y := yL t.c_Yard A y) (R := L) (by rw [← e]; exact h))
    refine ⟨_, rfl, _, rfl, th, _, rfl, .inl (gth hH), rfl, flat_ints _, _, rfl, ?_⟩
    rw [inV_ints]
    cases hk : W.kf n with
    | none =>
      have nm : ¬ n ∈ KS.map (·.1) := fun hm => by
        obtain ⟨p, mp, rfl⟩ := List.mem_map.mp hm
        rw [Y.kf p mp] at hk
        cases hk
      rw [decide_eq_false nm]
      refine iteT ⟨one, fun l hl => fin ?_ (hH.alloc hl _)⟩
      unfold ldue; rw [hk]; rfl
    | some k =>
      have mp := Y.kn n k hk
      rw [decide_eq_true (show n ∈ KS.map (·.1) from List.mem_map.mpr ⟨_, mp, rfl⟩)]
      refine iteF ?_
      obtain ⟨n0, hkn⟩ := hks _ mp
      have n0 : 0 ≤ n := n0
      have km : 1 ≤ k.many ∧ k.many ≤ 3 := by cases k <;> decide
      have ak : atI (ksV ks) n = some (.str k.str) := by
        obtain ⟨i, rfl⟩ := Int.eq_ofNat_of_zero_le n0
        exact atI_nat (by unfold ksV; rw [List.getElem?_map]; have : ks[i]? = some k := hkn; rw [this]; rfl)
      have mv : ∀ e, (valV y.mates (kE n e)).getD .non = enV (W.mf n e) := fun e => by rw [Y.R.mt]; cases W.mf n e <;> rfl
      refine ⟨_, rfl, _, rfl, kk, _, _, _, rfl, rfl, gk hH, ak, k, rfl, k.many, rfl, by omega, by omega, for_range (fun i σ H' => ∃ o1 : Option V, σ = [some (.ref A.p), some (.int n), some (.ref kk), some (.ref th), some (enV sd.at_), o1] ∧ Has H' (yL t.c_Yard A y ++ L) ∧ ∀ e : Nat, e < i → W.mf n e = none) ⟨_, rfl, hH, fun e he => absurd he (Nat.not_lt_zero _)⟩ ?_ ?_⟩
      · rintro i σ H1 hi ⟨o1, rfl, h1, hv⟩
        dsimp only [List.set]
        rw [Int.zero_add]
        refine ⟨_, rfl, A.p, A.dx, _, rfl, h1.get 1 rfl, (fl_m2 _ _ _).2.1, _, rfl, _, rfl, (show 2 ≤ sizeLine by decide), fun b hb => ?_⟩
        have h2 := h1.alloc hb (.tup [.int n, .int (i : Int)])
        generalize upd H1 b _ = H2 at h2 ⊢
        refine ⟨A, y, _, b, n, (i : Int), 0, rfl, Has.comm (X := [_]) (Y := yL t.c_Yard A y) h2, rfl, ⟨k, Y.R.kd _ _ hk, by omega, by omega⟩, rfl, _, rfl, ?_⟩
        replace h2 := h2.tail
        rw [mv]
        cases hm : W.mf n i with
        | none =>
          refine iteF ⟨_, rfl, h2, fun e he => ?_⟩
          by_cases c : e = i
          · rw [c]; exact hm
          · exact hv e (by omega)
        | some z =>
          refine iteT ⟨one, fun l hl => fin ?_ (h2.alloc hl _)⟩
          unfold ldue; rw [hk]
          dsimp only
          rw [if_pos ⟨i, hi, by rw [hm]; exact fun h => nomatch h⟩]; rfl
      · rintro σ H1 ⟨o1, rfl, h1, hv⟩
        have nl : ¬ ∃ e : Nat, e < k.many.toNat ∧ W.mf n e ≠ none := fun ⟨e, he, hne⟩ => hne (hv e he)
        refine ⟨_, rfl, rfl, _, rfl, ?_⟩
        cases hat : sd.at_ with
        | none =>
          refine iteF (iteF ⟨by decide, fun l hl => fin ?_ (h1.alloc hl _)⟩)
          unfold ldue; rw [hk]
          dsimp only
          rw [if_neg nl, hat]; rfl
        | some z =>
          have gz := h1.at_ (z.1, HO.tup [.int z.2.1, .int z.2.2]) (List.mem_append_right _ (Y.pe z hat))
          refine iteT ?_
          refine ⟨_, rfl, z.1, _, _, _, rfl, rfl, SqT.of gz, rfl, _, rfl, rfl, _, rfl, ?_⟩
          rw [decInt]
          refine ifd (fun c => ?_) (fun c => ?_)
          · refine ⟨one, fun l hl => fin ?_ (h1.alloc hl _)⟩
            unfold ldue; rw [hk]
            dsimp only
            rw [if_neg nl, hat]
            dsimp only
            rw [if_pos c]; rfl
          · refine ⟨by decide, fun l hl => fin ?_ (h1.alloc hl _)⟩
            unfold ldue; rw [hk]
            dsimp only
            rw [if_neg nl, hat]
            dsimp only
            rw [if_neg c]; rfl
end
def sp_freed (K : PySem.W.Frag) (C : Addr) : Sp := fun vs H Q _ => ∃ (A : YA) (y : YR) (L : Kn) (W : Wd) (s : Sd) (KS : List (Int × Kd)) (n : Int) (k : Kd) (kk : Addr) (ks : List Kd), vs = [.ref A.p, .int n, .ref kk] ∧ Has H (yL C A y ++ L) ∧ Y8 W s y KS L ∧ (kk, HO.lst (ksV ks)) ∈ L ∧ 0 ≤ n ∧ ks[n.toNat]? = some k ∧ W.kf n = some k ∧
  ∀ H' A' y' W' N, A'.p = A.p → Y8 W' ⟨s.ss, none, s.rg⟩ y' (KS.filter fun p => decide (¬ p.1 = n)) (N ++ L) → y'.next = y.next → W'.kf n = none → Has H' (yL C A' y' ++ (N ++ L)) → Q (.bl true) H'
section
variable {P : Program} {w : World} {K : PySem.W.Frag} {mg : Str → Option Value} {base : Heap} {t : Adr}
theorem scFd : FnScope ["_law_yard", "_law_piece", "_law_kinds_here", "_law_place"] ["_law_yard", "_law_piece", "_law_kinds_here"] (defScope s_freed) := ⟨rfl, rfl, rfl, by decide +kernel, rfl, by decide +kernel, by decide +kernel⟩
theorem ok_freed (T : Txt K mg t) : FnOk P w K mg base CX0 6 t.f_freed t.d_freed ["_law_yard", "_law_piece", "_law_kinds_here"] (sp_freed K t.c_Yard) := by
  refine T.F_freed.ok scFd (fun vs H Q E h => ?_) (fun cdv A outer s H vs Q E hr h => ?_)
  · obtain ⟨_, _, _, _, _, _, _, _, _, _, rfl, _⟩ := h
    rfl
  · obtain ⟨A, y, L, W, sd, KS, n, k, kk, ks, rfl, hH, Y, mk, n0, hkn, hk, q⟩ := h
    refine ⟨_, (pss_cons (ps_for PassesOwn.never rfl (pi_range1 (by rfl) T.z_range (pa_cons (pe_call (ok_many T) (hr.mono (by decide)) (by rfl) T.m_many T.F_many.kp (b_many T) .nil pass0 (pa_cons (pe_ix ix_list (pv 2) (pv 1) (fun _ _ => rfl)) pa_nil)) pa_nil)) (pg_name (i := 3) scFd.nd rfl (Or.inl rfl))
        (pss_one (ps_if (pt_cmpR op_notN (pe_meth (pv 0) T.cl_Yard T.M_Yard_mate (ok_Yard_mate T) (hr.mono (by decide)) (b_Yard_mate T) .nil pass0 (@pa_cons _ _ _ _ _ (pe_tup (pa_cons (pv 1) (pa_cons (pv 3) pa_nil))) pa_nil (by rfl))) pe_non (nomark _))
            (pss_one (ps_expr (pe_meth (pv 0) T.cl_Yard T.M_Yard_unlink (ok_Yard_unlink T) (hr.mono (by decide)) (b_Yard_unlink T) .nil pass0 (@pa_cons _ _ _ _ _ (pe_tup (pa_cons (pv 1) (pa_cons (pv 3) pa_nil))) pa_nil (by rfl)))))
            pss_nil)))
      (pss_cons (ps_expr (pe_meth0 (pv 0) T.cl_Yard T.M_Yard_off (ok_Yard_off T) (hr.mono (by decide)) (b_Yard_off T) .nil pass0))
      (pss_one (ps_ret (pe_cmpR op_isN (pe_meth (pv 0) T.cl_Yard T.M_Yard_lift (ok_Yard_lift T) (hr.mono (by decide)) (b_Yard_lift T) .nil pass0 (pa_cons (pv 1) pa_nil)) pe_non (nomark _)))))), ?_⟩
    rw [show L2.start ["_law_yard", "_law_piece", "_law_kinds_here", "_law_place"] [V.ref A.p, V.int n, V.ref kk] = ([some (V.ref A.p), some (V.int n), some (V.ref kk), none] : St) from rfl]
    have km : 1 ≤ k.many ∧ k.many ≤ 3 := by cases k <;> decide
    have ak : atI (ksV ks) n = some (.str k.str) := by
      obtain ⟨i, rfl⟩ := Int.eq_ofNat_of_zero_le n0
      exact atI_nat (by unfold ksV; rw [List.getElem?_map]; have : ks[i]? = some k := hkn; rw [this]; rfl)
    have two : 2 ≤ sizeLine := by decide
    refine ⟨_, rfl, _, rfl, kk, _, _, _, rfl, rfl, SqL.of (hH.at_ _ (List.mem_append_right _ mk)), ak, k, rfl, k.many, rfl, by omega, by omega, for_range (fun i σ H' => ∃ (A1 : YA) (y1 : YR) (W1 : Wd) (N : Kn) (o1 : Option V), σ = [some (.ref A1.p), some (.int n), some (.ref kk), o1] ∧ A1.p = A.p ∧ Y8 W1 sd y1 KS (N ++ L) ∧ y1.next = y.next ∧ W1.kf = W.kf ∧ Has H' (yL t.c_Yard A1 y1 ++ (N ++ L)) ∧ ∀ e : Nat, e < i → W1.mf n e = none)
      ⟨A, y, W, [], _, rfl, rfl, Y, rfl, rfl, hH, fun e he => absurd he (Nat.not_lt_zero _)⟩ ?_ ?_⟩
    · clear hH
      rintro i σ H1 hi ⟨A1, y1, W1, N, o1, rfl, ep, Y1, e1, ekf, h1, hv⟩
      dsimp only [List.set]
      rw [Int.zero_add]
      have hk1 : W1.kf n = some k := by rw [ekf]; exact hk
      have mv : ∀ e, (valV y1.mates (kE n e)).getD .non = enV (W1.mf n e) := fun e => by rw [Y1.R.mt]; cases W1.mf n e <;> rfl
      have thr : There y1 n (i : Int) := ⟨k, Y1.R.kd _ _ hk1, by omega, by omega⟩
      refine ⟨_, rfl, A1.p, A1.dx, _, rfl, h1.get 1 rfl, (fl_m2 _ _ _).2.1, _, rfl, _, rfl, two, fun b hb => ?_⟩
      have h2 := h1.alloc hb (.tup [.int n, .int (i : Int)])
      generalize upd H1 b _ = H2 at h2 ⊢
      refine ⟨A1, y1, _, b, n, (i : Int), 0, rfl, Has.comm (X := [_]) (Y := yL t.c_Yard A1 y1) h2, rfl, thr, rfl, _, rfl, ?_⟩
      replace h2 := h2.tail
      rw [mv]
      cases hm : W1.mf n i with
      | none =>
        refine iteF ⟨A1, y1, W1, N, _, rfl, ep, Y1, e1, ekf, h2, fun e he => ?_⟩
        by_cases c : e = i
        · rw [c]; exact hm
        · exact hv e (by omega)
      | some z =>
        refine iteT ?_
        obtain ⟨zne, z', hz', ez'⟩ := Y1.sy _ _ _ hm
        refine ⟨_, rfl, A1.p, A1.dx, _, rfl, h2.get 1 rfl, (fl_m2 _ _ _).2.2.2, _, rfl, _, rfl, two, fun b2 hb2 => ?_⟩
        have h3 := Has.comm (X := [_]) (Y := yL t.c_Yard A1 y1) (R := N ++ L) (h2.alloc hb2 (.tup [.int n, .int (i : Int)]))
        generalize upd H2 b2 _ = H3 at h3 ⊢
        obtain ⟨jz, hjz⟩ := List.mem_iff_getElem?.mp (Y1.pm _ _ _ hm)
        refine ⟨A1, y1, _, b2, z.1, n, (i : Int), z.2.1, z.2.2, 0, jz + 1, .ref z'.1, rfl, h3, rfl, hjz, thr, (fun e => zne (by
          injection e with e1 e2
          injection e2 with e2 _
          injection e1 with e1
          injection e2 with e2
          exact Prod.ext e1 e2)), (by rw [Y1.R.mt, hm]; rfl), (by rw [Y1.R.mt, hz']; rfl), fun H4 q4 h4 => ?_⟩
        refine ⟨{ A1 with tr := q4 }, _, _, (b2, HO.tup [.int n, .int (i : Int)]) :: N, _, rfl, ep, (Y1.unlink hm).mono (fun z hz _ => List.mem_cons_of_mem _ hz), e1, ekf, h4, fun e he => ?_⟩
        show mfUn W1.mf (n, (i : Int)) z.2 n e = none
        unfold mfUn
        by_cases c : e = i
        · rw [if_pos (.inl (by rw [c]))]
        · split
          · rfl
          · exact hv e (by omega)
    · clear hH
      rintro σ H1 ⟨A1, y1, W1, N, o1, rfl, ep, Y1, e1, ekf, h1, hv⟩
      have hk1 : W1.kf n = some k := by rw [ekf]; exact hk
      refine ⟨_, rfl, A1.p, A1.dx, _, rfl, h1.get 1 rfl, (fl_m4 _ _ _).2.1, A1, y1, _, rfl, h1, fun H2 q2 h2 => ?_⟩
      have Y2 := Y1.off
      have hm2 : ∀ e : Int, 0 ≤ e → e < k.many → W1.mf n e = none := fun e h0 h1 => by
        obtain ⟨i, rfl⟩ := Int.eq_ofNat_of_zero_le h0
        exact hv i (by omega)
      refine ⟨_, rfl, A1.p, A1.dx, _, rfl, h2.get 1 rfl, fl_m6 _ _ _, _, rfl, { A1 with tr := q2 }, { y1 with eng := .non, trail := [] }, _, n, k, rfl, h2, Y2.R.kd _ _ hk1, (fun e h0 h1 => by rw [Y2.R.mt, hm2 e h0 h1]; rfl), .inl rfl, fun H3 q3 h3 => ?_⟩
      refine ⟨rfl, ?_⟩
      have Y3 := Y2.lift hk1 hm2 (fun _ h => nomatch h)
      exact q H3 { A1 with tr := q3 } _ _ N ep Y3 e1 (if_pos rfl) h3
end

end P


set_option Elab.async false
set_option linter.all false
set_option maxRecDepth 100000
set_option maxHeartbeats 4000000
namespace P
open PySem L2


theorem ref_oneM {K : PySem.W.Frag} {t : Adr} {Z L : Kn} {H : Hp} {Pt : Addr} {qual : Str} {lpos : Pos} {js : List Nat} {tb : XK → TE} {σ : St} {Q : VK} (i : Nat) (hi : i < 22) (C : Addr) (hC : excAll K C t.c_RailError (dsOf t i) = true) (h : Has H (Z ++ L)) (T : Tb L Pt qual)
    (hd : ∀ H1 W Q1 E1, Has H1 (Z ++ W) → (∀ z ∈ L, z.1 ≠ Pt → z ∈ W) → (∀ H2 G a, Has H2 (G ++ (Z ++ W)) → E1 (.ref C) (some a) H2) → tb E1 (js.map fun j => (σ[j]?).join) H1 Q1)
    (k : ∀ H' L' r, Has H' ((r, HO.lst [.str (nameAt i)]) :: (Z ++ L')) → Tb L' Pt qual → (∀ z ∈ L, z.1 ≠ Pt → z ∈ L') → Q (.ref r) H') : tRef Pt qual lpos js (refSp K t) tb σ H Q := by
  refine ref_tb h T (fun H3 L3 s3 tb3 kp3 => ?_)
  refine ⟨Z ++ L3, [], fun _ _ => False, fun i' N => i' = i ∧ ∃ G, N = G ++ (Z ++ L3), by rw [List.append_nil]; exact s3, fun H1' L1' Q1 E1 s1' _ hX => ?_, fun _ _ _ _ z => z.elim, ?_⟩
  · refine hd H1' (L3 ++ L1') Q1 E1 (by rw [← List.append_assoc]; exact s1') (fun z hz ne => List.mem_append_left _ (kp3 z hz ne)) (fun H2 G a h2 => ?_)
    exact hX C a i (G ++ (Z ++ L3)) H2 ⟨rfl, G, rfl⟩ hi hC (by simpa [List.append_assoc] using h2)
  · rintro i' N r H2 ⟨rfl, G, rfl⟩ _ s2
    rw [List.append_nil] at s2
    exact k H2 L3 r (dropL (Has.comm (X := [(r, HO.lst [.str (nameAt i')])]) (Y := G) (R := Z ++ L3) s2)) tb3 kp3
theorem all_true (n : Nat) : (List.replicate n true).all id = true := by induction n with | zero => rfl | succ n ih => rw [List.replicate_succ, List.all_cons, ih]; rfl
theorem hE_mid0 {H : Hp} {Y C P W : Kn} (h : Has H (Y ++ (C ++ (P ++ W)))) : Has H (C ++ ((Y ++ P) ++ W)) := hcast (has_mid (Z := []) h) (by simp)
theorem nameOk (i : Nat) (h : i < 22) : (strsD [nameAt i]).canLay0 = true ∧ SeqAt.shaped (strsD [nameAt i]) = true := ⟨dueLay (some i) (fun j e => by cases e; exact h), dueSh (some i) (fun j e => by cases e; exact h)⟩

theorem ref_okM {K : PySem.W.Frag} {t : Adr} {Z L : Kn} {H : Hp} {Pt : Addr} {qual : Str} {lpos : Pos} {js : List Nat} {tb : XK → TE} {σ : St} {Q : VK} (Rr : V → Kn → Prop) (h : Has H (Z ++ L)) (T : Tb L Pt qual)
    (hd : ∀ H1 W Q1 E1, Has H1 (Z ++ W) → (∀ z ∈ L, z.1 ≠ Pt → z ∈ W) → (∀ H2 v Z', Rr v Z' → Has H2 (Z' ++ W) → Q1 v H2) → tb E1 (js.map fun j => (σ[j]?).join) H1 Q1)
    (k : ∀ H' L' r v Z', Rr v Z' → Has H' ((r, HO.lst []) :: (Z' ++ L')) → Tb L' Pt qual → (∀ z ∈ L, z.1 ≠ Pt → z ∈ L') → Q (.ref r) H') : tRef Pt qual lpos js (refSp K t) tb σ H Q := by
  refine ref_tb h T (fun H3 L3 s3 tb3 kp3 => ?_)
  refine ⟨Z ++ L3, [], fun v N => ∃ Z', Rr v Z' ∧ N = Z' ++ L3, fun _ _ => False, by rw [List.append_nil]; exact s3, fun H1' L1' Q1 E1 s1' hV _ => ?_, ?_, fun _ _ _ _ z => z.elim⟩
  · refine hd H1' (L3 ++ L1') Q1 E1 (by rw [← List.append_assoc]; exact s1') (fun z hz ne => List.mem_append_left _ (kp3 z hz ne)) (fun H2 v Z' r h2 => ?_)
    exact hV v (Z' ++ L3) H2 ⟨Z', r, rfl⟩ (by rw [List.append_assoc]; exact h2)
  · rintro v N r H2 ⟨Z', rr, rfl⟩ s2
    rw [List.append_nil] at s2
    exact k H2 L3 r v Z' rr s2 tb3 kp3
def q_gone : Str := ("_law_gone" : Str) ++ Str.ofString ".<locals>." ++ "<lambda>"
def sp_gone (C Pt : Addr) : Sp := fun vs H Q _ => ∃ (A : YA) (y : YR) (L : Kn) (bad place : Int), vs = [.ref A.p, .int bad, .int place] ∧ Has H (yL C A y ++ L) ∧ Tb L Pt q_gone ∧ valV y.kinds (Sum.inl bad) = none ∧ L2.Small bad ∧
  ∀ H' L', Has H' (yL C A y ++ L') → Tb L' Pt q_gone → (∀ z ∈ L, z.1 ≠ Pt → z ∈ L') → Q (.bl true) H'
section
variable {P : Program} {w : World} {K : PySem.W.Frag} {mg : Str → Option Value} {base : Heap} {t : Adr}
theorem okB_Yard_lift (T : Txt K mg t) : FnOk P w K mg base (CXr P w) 2 t.f_Yard_lift t.d_Yard_lift ["self", "piece"] (fun vs H Q E => sp_lift t.c_Yard vs H Q E ∨ spR_lift t.c_Yard t.c_NoPiece t.c_Linked t.c_Occupied vs H Q E) := (ok_Yard_lift T).lift.or (okR_Yard_lift T)
theorem scGo : FnScope ["_law_yard", "_law_piece", "_law_place", "_law_rows"] ["_law_yard", "_law_piece", "_law_place"] (defScope s_gone) := ⟨rfl, rfl, rfl, by decide +kernel, rfl, by decide +kernel, by decide +kernel⟩
theorem okM_gone (T : Txt K mg t) (kb : K.In base) (hbm : BM base mg) : FnOk P w K mg base CX0 11 t.f_gone t.d_gone ["_law_yard", "_law_piece", "_law_place"] (sp_gone t.c_Yard t.p_gone) := by
  refine T.F_gone.okC scGo (fun vs H Q E h => ?_) (fun cdv A outer s H vs Q E hcdv hr h => ?_)
  · obtain ⟨_, _, _, _, _, rfl, _⟩ := h
    rfl
  · obtain ⟨A, y, L, bad, place, rfl, hH, tb, hb, sb, q⟩ := h
    obtain ⟨cc, ecd, hch⟩ := T.tb_gone
    have ecdv : cdv = .ref cc := hcdv.symm.trans ecd
    subst ecdv
    have hCH : PySem.W.CodeHd base cc t.p_gone := PySem.W.codeHd_of_K kb hch
    have two : 2 ≤ sizeLine := by decide
    have keep : ∀ {L1 L2' L3 : Kn}, (∀ z ∈ L1, z.1 ≠ t.p_gone → z ∈ L2') → (∀ z ∈ L2', z.1 ≠ t.p_gone → z ∈ L3) → ∀ z ∈ L1, z.1 ≠ t.p_gone → z ∈ L3 := fun a b z m ne => b z (a z m ne) ne
    refine ⟨_, (pss_cons (ps_set (i := 3) scGo.nd rfl (Or.inl rfl) (pe_lst (pa_cons (pe_refuse (kd := 7) (N' := ["_law_piece", "_law_yard"]) [1, 0] (ok_refused T) (hr.mono (by decide)) (by rfl) T.m_refused T.F_refused.kp rfl hCH hbm (fun _ => rfl) rfl rfl rfl rfl rfl (by decide +kernel) (esc := defScope s_gone) rfl (by decide +kernel) (by decide +kernel) (by rfl) (fun _ _ _ _ _ => rfl) (fun _ _ _ _ _ _ _ _ hr1 => by exact (pe_meth (pv 1) T.cl_Yard T.M_Yard_kind (okR_Yard_kind T) (hr1.mono (by decide)) (b_Yard_kind T) .nil passL (pa_cons (pv 0) pa_nil)))) pa_nil)))
      (pss_cons (ps_expr (pe_bm PySem.F.plainAttrs_list PySem.F.slot_list_append PySem.F.type_list_append mt_append (pv 3) (pa_cons (pe_refuse (kd := 7) (N' := ["_law_piece", "_law_yard"]) [1, 0] (ok_refused T) (hr.mono (by decide)) (by rfl) T.m_refused T.F_refused.kp rfl hCH hbm (fun _ => rfl) rfl rfl rfl rfl rfl (by decide +kernel) (esc := defScope s_gone) rfl (by decide +kernel) (by decide +kernel) (by rfl) (fun _ _ _ _ _ => rfl) (fun _ _ _ _ _ _ _ _ hr1 => by exact (pe_meth (pv 1) T.cl_Yard T.M_Yard_note (okR_Yard_note T) (hr1.mono (by decide)) (b_Yard_note T) .nil passL (pa_cons (pv 0) pa_nil)))) pa_nil)))
      (pss_cons (ps_expr (pe_bm PySem.F.plainAttrs_list PySem.F.slot_list_append PySem.F.type_list_append mt_append (pv 3) (pa_cons (pe_refuse (kd := 7) (N' := ["_law_piece", "_law_yard"]) [1, 0] (ok_refused T) (hr.mono (by decide)) (by rfl) T.m_refused T.F_refused.kp rfl hCH hbm (fun _ => rfl) rfl rfl rfl rfl rfl (by decide +kernel) (esc := defScope s_gone) rfl (by decide +kernel) (by decide +kernel) (by rfl) (fun _ _ _ _ _ => rfl) (fun _ _ _ _ _ _ _ _ hr1 => by exact (pe_meth (pv 1) T.cl_Yard T.M_Yard_rod (okR_Yard_rod T) (hr1.mono (by decide)) (b_Yard_rod T) .nil passL (pa_cons (pv 0) pa_nil)))) pa_nil)))
      (pss_cons (ps_expr (pe_bm PySem.F.plainAttrs_list PySem.F.slot_list_append PySem.F.type_list_append mt_append (pv 3) (pa_cons (pe_refuse (kd := 7) (N' := ["_law_yard", "_law_piece", "_law_place"]) [0, 1, 2] (ok_refused T) (hr.mono (by decide)) (by rfl) T.m_refused T.F_refused.kp rfl hCH hbm (fun _ => rfl) rfl rfl rfl rfl rfl (by decide +kernel) (esc := defScope s_gone) rfl (by decide +kernel) (by decide +kernel) (by rfl) (fun _ _ _ _ _ => rfl) (fun _ _ _ _ _ _ _ _ hr1 => by exact (pe_meth (pv 0) T.cl_Yard T.M_Yard_mate (okR_Yard_mate T) (hr1.mono (by decide)) (b_Yard_mate T) .nil passL (@pa_cons _ _ _ _ _ (pe_tup (pa_cons (pv 1) (pa_cons (pv 2) pa_nil))) pa_nil (by rfl))))) pa_nil)))
      (pss_cons (ps_expr (pe_bm PySem.F.plainAttrs_list PySem.F.slot_list_append PySem.F.type_list_append mt_append (pv 3) (pa_cons (pe_refuse (kd := 7) (N' := ["_law_yard", "_law_piece", "_law_place"]) [0, 1, 2] (ok_refused T) (hr.mono (by decide)) (by rfl) T.m_refused T.F_refused.kp rfl hCH hbm (fun _ => rfl) rfl rfl rfl rfl rfl (by decide +kernel) (esc := defScope s_gone) rfl (by decide +kernel) (by decide +kernel) (by rfl) (fun _ _ _ _ _ => rfl) (fun _ _ _ _ _ _ _ _ hr1 => by exact (pe_meth (pv 0) T.cl_Yard T.M_Yard_put (okR_Yard_put T) (hr1.mono (by decide)) (b_Yard_put T) .nil passL (@pa_cons _ _ _ _ _ (pe_tup (pa_cons (pv 1) (pa_cons (pv 2) pa_nil))) pa_nil (by rfl))))) pa_nil)))
      (pss_cons (ps_expr (pe_bm PySem.F.plainAttrs_list PySem.F.slot_list_append PySem.F.type_list_append mt_append (pv 3) (pa_cons (pe_refuse (kd := 7) (N' := ["_law_yard", "_law_piece", "_law_place"]) [0, 1, 2] (ok_refused T) (hr.mono (by decide)) (by rfl) T.m_refused T.F_refused.kp rfl hCH hbm (fun _ => rfl) rfl rfl rfl rfl rfl (by decide +kernel) (esc := defScope s_gone) rfl (by decide +kernel) (by decide +kernel) (by rfl) (fun _ _ _ _ _ => rfl) (fun _ _ _ _ _ _ _ _ hr1 => by exact (pe_meth (pv 0) T.cl_Yard T.M_Yard_unlink (okR_Yard_unlink T) (hr1.mono (by decide)) (b_Yard_unlink T) .nil passL (@pa_cons _ _ _ _ _ (pe_tup (pa_cons (pv 1) (pa_cons (pv 2) pa_nil))) pa_nil (by rfl))))) pa_nil)))
      (pss_cons (ps_expr (pe_bm PySem.F.plainAttrs_list PySem.F.slot_list_append PySem.F.type_list_append mt_append (pv 3) (pa_cons (pe_refuse (kd := 7) (N' := ["_law_yard", "_law_piece", "_law_place"]) [0, 1, 2] (ok_refused T) (hr.mono (by decide)) (by rfl) T.m_refused T.F_refused.kp rfl hCH hbm (fun _ => rfl) rfl rfl rfl rfl rfl (by decide +kernel) (esc := defScope s_gone) rfl (by decide +kernel) (by decide +kernel) (by rfl) (fun _ _ _ _ _ => rfl) (fun _ _ _ _ _ _ _ _ hr1 => by exact (pe_meth (pv 0) T.cl_Yard T.M_Yard_link (okR_Yard_link T) (hr1.mono (by decide)) (b_Yard_link T) .nil passL (@pa_cons _ _ _ _ _ (pe_tup (pa_cons (pv 1) (pa_cons (pv 2) pa_nil))) (@pa_cons _ _ _ _ _ (pe_tup (pa_cons (pv 1) (pa_cons (pv 2) pa_nil))) pa_nil (by rfl)) (by rfl))))) pa_nil)))
      (pss_cons (ps_expr (pe_bm PySem.F.plainAttrs_list PySem.F.slot_list_append PySem.F.type_list_append mt_append (pv 3) (pa_cons (pe_refuse (kd := 7) (N' := ["_law_piece", "_law_yard"]) [1, 0] (ok_refused T) (hr.mono (by decide)) (by rfl) T.m_refused T.F_refused.kp rfl hCH hbm (fun _ => rfl) rfl rfl rfl rfl rfl (by decide +kernel) (esc := defScope s_gone) rfl (by decide +kernel) (by decide +kernel) (by rfl) (fun _ _ _ _ _ => rfl) (fun _ _ _ _ _ _ _ _ hr1 => by exact (pe_meth (pv 1) T.cl_Yard T.M_Yard_lift (okB_Yard_lift T) (hr1.mono (by decide)) (b_Yard_lift T) .nil passL (pa_cons (pv 0) pa_nil)))) pa_nil)))
      (pss_one (ps_ret (pe_callB (call_all rfl) (by rfl) T.z_all (by rfl) (pa_cons (pe_lc (esc := defScope s_gone) (k := 1) ["_law_row", "_law_yard", "_law_piece", "_law_place", "_law_rows"] rfl (pi_list (pv 3)) (fun _ _ _ _ _ => by exact (pg_name (i := 0) (show List.Nodup (["_law_row", "_law_yard", "_law_piece", "_law_place", "_law_rows"] : List Str) from by decide +kernel) rfl (Or.inl rfl))) (fun _ _ _ _ _ => by exact pts_nil) (fun _ _ _ _ _ => by exact (pe_cmpR (op_eqDK (K := K) rfl hr.units) (pv 0) (pe_lst (pa_cons pe_str pa_nil)) (nomark _))) rfl (by decide +kernel) (by decide +kernel) rfl (by decide +kernel) (by rfl) (fun _ _ h _ => h) (by decide +kernel)) pa_nil)))))))))))), ?_⟩
    rw [show L2.start ["_law_yard", "_law_piece", "_law_place", "_law_rows"] [V.ref A.p, V.int bad, V.int place] = ([some (V.ref A.p), some (V.int bad), some (V.int place), none] : St) from rfl]
    refine ref_oneM (t := t) 4 (by decide) t.c_NoPiece T.x_NoPiece (Z := yL t.c_Yard A y) (L := L) (hcast hH (by simp)) tb (fun H1 W Q1 E1 g' kW hE => ?_) (fun G1 L1 r1 v1 tb1 kp1 => ?_)
    · have g : Has H1 (yL t.c_Yard A y ++ (([] : Kn) ++ W)) := hcast g' (by simp)
      exact ⟨_, rfl, A.p, A.dx, _, rfl, g.get 1 rfl, (fl_m4 _ _ _).2.2.2.2.1, _, rfl, A, y, _, bad, rfl, g, hb, sb, fun a => hE H1 [] a g'⟩
    refine ⟨sz (show 1 ≤ 1000000 by decide), fun rl hrl => ?_⟩
    have h1 : Has _ (yL t.c_Yard A y ++ ([(rl, HO.lst [.ref r1]), (r1, HO.lst [.str "NoPiece"])] ++ L1)) := Has.comm (X := [_, _]) (Y := yL t.c_Yard A y) (R := L1) (v1.alloc hrl (.lst [.ref r1]))
    generalize upd G1 rl _ = K1 at h1 ⊢
    dsimp only [List.set]
    clear v1 hrl
    refine ⟨_, rfl, .inl ⟨rfl, _, SqL.of (h1.get 9 rfl)⟩, ?_⟩
    refine ref_oneM (t := t) 4 (by decide) t.c_NoPiece T.x_NoPiece (Z := yL t.c_Yard A y ++ [(rl, HO.lst [.ref r1]), (r1, HO.lst [.str "NoPiece"])]) (L := L1) (hcast h1 (by simp)) tb1 (fun H1 W Q1 E1 g' kW hE => ?_) (fun G2 L2 r2 v2 tb2 kp2 => ?_)
    · have g : Has H1 (yL t.c_Yard A y ++ ([(rl, HO.lst [.ref r1]), (r1, HO.lst [.str "NoPiece"])] ++ W)) := hcast g' (by simp)
      exact ⟨_, rfl, A.p, A.dx, _, rfl, g.get 1 rfl, (fl_m4 _ _ _).2.2.2.2.2.1, _, rfl, A, y, _, bad, rfl, g, hb, sb, fun a => hE H1 [] a g'⟩
    have u2 : Has G2 (yL t.c_Yard A y ++ ((r2, HO.lst [.str "NoPiece"]) :: ([(rl, HO.lst [.ref r1]), (r1, HO.lst [.str "NoPiece"])] ++ L2))) := Has.comm (X := [_]) (Y := yL t.c_Yard A y) (hcast v2 (by simp [nameAt]))
    refine ⟨rl, _, _, rfl, rfl, u2.get 10 rfl, sizeOk (show 1 ≤ 1000000 by decide), ?_⟩
    have h2 : Has _ (yL t.c_Yard A y ++ ([(r2, HO.lst [.str "NoPiece"]), (rl, HO.lst [.ref r1, .ref r2]), (r1, HO.lst [.str "NoPiece"])] ++ L2)) := u2.puti 10 rfl (.lst ([.ref r1] ++ [.ref r2]))
    generalize upd G2 rl _ = K2 at h2 ⊢
    clear u2 v2
    refine ⟨_, rfl, .inl ⟨rfl, _, SqL.of (h2.get 10 rfl)⟩, ?_⟩
    refine ref_oneM (t := t) 4 (by decide) t.c_NoPiece T.x_NoPiece (Z := yL t.c_Yard A y ++ [(r2, HO.lst [.str "NoPiece"]), (rl, HO.lst [.ref r1, .ref r2]), (r1, HO.lst [.str "NoPiece"])]) (L := L2) (hcast h2 (by simp)) tb2 (fun H1 W Q1 E1 g' kW hE => ?_) (fun G3 L3 r3 v3 tb3 kp3 => ?_)
    · have g : Has H1 (yL t.c_Yard A y ++ ([(r2, HO.lst [.str "NoPiece"]), (rl, HO.lst [.ref r1, .ref r2]), (r1, HO.lst [.str "NoPiece"])] ++ W)) := hcast g' (by simp)
      exact ⟨_, rfl, A.p, A.dx, _, rfl, g.get 1 rfl, (fl_m _ _ _).2.2.2.2.1, _, rfl, A, y, _, bad, rfl, g, hb, sb, fun a => hE H1 [] a g'⟩
    have u3 : Has G3 (yL t.c_Yard A y ++ ((r3, HO.lst [.str "NoPiece"]) :: ([(r2, HO.lst [.str "NoPiece"]), (rl, HO.lst [.ref r1, .ref r2]), (r1, HO.lst [.str "NoPiece"])] ++ L3))) := Has.comm (X := [_]) (Y := yL t.c_Yard A y) (hcast v3 (by simp [nameAt]))
    refine ⟨rl, _, _, rfl, rfl, u3.get 11 rfl, sizeOk (show 2 ≤ 1000000 by decide), ?_⟩
    have h3 : Has _ (yL t.c_Yard A y ++ ([(r3, HO.lst [.str "NoPiece"]), (r2, HO.lst [.str "NoPiece"]), (rl, HO.lst [.ref r1, .ref r2, .ref r3]), (r1, HO.lst [.str "NoPiece"])] ++ L3)) := u3.puti 11 rfl (.lst ([.ref r1, .ref r2] ++ [.ref r3]))
    generalize upd G3 rl _ = K3 at h3 ⊢
    clear u3 v3
    refine ⟨_, rfl, .inl ⟨rfl, _, SqL.of (h3.get 11 rfl)⟩, ?_⟩
    refine ref_oneM (t := t) 4 (by decide) t.c_NoPiece T.x_NoPiece (Z := yL t.c_Yard A y ++ [(r3, HO.lst [.str "NoPiece"]), (r2, HO.lst [.str "NoPiece"]), (rl, HO.lst [.ref r1, .ref r2, .ref r3]), (r1, HO.lst [.str "NoPiece"])]) (L := L3) (hcast h3 (by simp)) tb3 (fun H1 W Q1 E1 g' kW hE => ?_) (fun G4 L4 r4 v4 tb4 kp4 => ?_)
    · have g : Has H1 (yL t.c_Yard A y ++ ([(r3, HO.lst [.str "NoPiece"]), (r2, HO.lst [.str "NoPiece"]), (rl, HO.lst [.ref r1, .ref r2, .ref r3]), (r1, HO.lst [.str "NoPiece"])] ++ W)) := hcast g' (by simp)
      refine ⟨_, rfl, A.p, A.dx, _, rfl, g.get 1 rfl, (fl_m2 _ _ _).2.1, _, rfl, _, rfl, two, fun c1 hc1 => ?_⟩
      have g3 := Has.comm (X := [_]) (Y := yL t.c_Yard A y) (g.alloc hc1 (.tup [.int bad, .int place]))
      exact ⟨A, y, _, c1, bad, place, 0, rfl, g3, rfl, .inl ⟨hb, sb, fun a => hE _ _ a (hE_mid0 g3)⟩⟩
    have u4 : Has G4 (yL t.c_Yard A y ++ ((r4, HO.lst [.str "NoPiece"]) :: ([(r3, HO.lst [.str "NoPiece"]), (r2, HO.lst [.str "NoPiece"]), (rl, HO.lst [.ref r1, .ref r2, .ref r3]), (r1, HO.lst [.str "NoPiece"])] ++ L4))) := Has.comm (X := [_]) (Y := yL t.c_Yard A y) (hcast v4 (by simp [nameAt]))
    refine ⟨rl, _, _, rfl, rfl, u4.get 12 rfl, sizeOk (show 3 ≤ 1000000 by decide), ?_⟩
    have h4 : Has _ (yL t.c_Yard A y ++ ([(r4, HO.lst [.str "NoPiece"]), (r3, HO.lst [.str "NoPiece"]), (r2, HO.lst [.str "NoPiece"]), (rl, HO.lst [.ref r1, .ref r2, .ref r3, .ref r4]), (r1, HO.lst [.str "NoPiece"])] ++ L4)) := u4.puti 12 rfl (.lst ([.ref r1, .ref r2, .ref r3] ++ [.ref r4]))
    generalize upd G4 rl _ = K4 at h4 ⊢
    clear u4 v4
    refine ⟨_, rfl, .inl ⟨rfl, _, SqL.of (h4.get 12 rfl)⟩, ?_⟩
    refine ref_oneM (t := t) 4 (by decide) t.c_NoPiece T.x_NoPiece (Z := yL t.c_Yard A y ++ [(r4, HO.lst [.str "NoPiece"]), (r3, HO.lst [.str "NoPiece"]), (r2, HO.lst [.str "NoPiece"]), (rl, HO.lst [.ref r1, .ref r2, .ref r3, .ref r4]), (r1, HO.lst [.str "NoPiece"])]) (L := L4) (hcast h4 (by simp)) tb4 (fun H1 W Q1 E1 g' kW hE => ?_) (fun G5 L5 r5 v5 tb5 kp5 => ?_)
    · have g : Has H1 (yL t.c_Yard A y ++ ([(r4, HO.lst [.str "NoPiece"]), (r3, HO.lst [.str "NoPiece"]), (r2, HO.lst [.str "NoPiece"]), (rl, HO.lst [.ref r1, .ref r2, .ref r3, .ref r4]), (r1, HO.lst [.str "NoPiece"])] ++ W)) := hcast g' (by simp)
      refine ⟨_, rfl, A.p, A.dx, _, rfl, g.get 1 rfl, (fl_m4 _ _ _).1, _, rfl, _, rfl, two, fun c1 hc1 => ?_⟩
      have g3 := Has.comm (X := [_]) (Y := yL t.c_Yard A y) (g.alloc hc1 (.tup [.int bad, .int place]))
      exact ⟨A, y, _, c1, bad, place, 0, rfl, g3, rfl, .inl ⟨hb, sb, fun a => hE _ _ a (hE_mid0 g3)⟩⟩
    have u5 : Has G5 (yL t.c_Yard A y ++ ((r5, HO.lst [.str "NoPiece"]) :: ([(r4, HO.lst [.str "NoPiece"]), (r3, HO.lst [.str "NoPiece"]), (r2, HO.lst [.str "NoPiece"]), (rl, HO.lst [.ref r1, .ref r2, .ref r3, .ref r4]), (r1, HO.lst [.str "NoPiece"])] ++ L5))) := Has.comm (X := [_]) (Y := yL t.c_Yard A y) (hcast v5 (by simp [nameAt]))
    refine ⟨rl, _, _, rfl, rfl, u5.get 13 rfl, sizeOk (show 4 ≤ 1000000 by decide), ?_⟩
    have h5 : Has _ (yL t.c_Yard A y ++ ([(r5, HO.lst [.str "NoPiece"]), (r4, HO.lst [.str "NoPiece"]), (r3, HO.lst [.str "NoPiece"]), (r2, HO.lst [.str "NoPiece"]), (rl, HO.lst [.ref r1, .ref r2, .ref r3, .ref r4, .ref r5]), (r1, HO.lst [.str "NoPiece"])] ++ L5)) := u5.puti 13 rfl (.lst ([.ref r1, .ref r2, .ref r3, .ref r4] ++ [.ref r5]))
    generalize upd G5 rl _ = K5 at h5 ⊢
    clear u5 v5
    refine ⟨_, rfl, .inl ⟨rfl, _, SqL.of (h5.get 13 rfl)⟩, ?_⟩
    refine ref_oneM (t := t) 4 (by decide) t.c_NoPiece T.x_NoPiece (Z := yL t.c_Yard A y ++ [(r5, HO.lst [.str "NoPiece"]), (r4, HO.lst [.str "NoPiece"]), (r3, HO.lst [.str "NoPiece"]), (r2, HO.lst [.str "NoPiece"]), (rl, HO.lst [.ref r1, .ref r2, .ref r3, .ref r4, .ref r5]), (r1, HO.lst [.str "NoPiece"])]) (L := L5) (hcast h5 (by simp)) tb5 (fun H1 W Q1 E1 g' kW hE => ?_) (fun G6 L6 r6 v6 tb6 kp6 => ?_)
    · have g : Has H1 (yL t.c_Yard A y ++ ([(r5, HO.lst [.str "NoPiece"]), (r4, HO.lst [.str "NoPiece"]), (r3, HO.lst [.str "NoPiece"]), (r2, HO.lst [.str "NoPiece"]), (rl, HO.lst [.ref r1, .ref r2, .ref r3, .ref r4, .ref r5]), (r1, HO.lst [.str "NoPiece"])] ++ W)) := hcast g' (by simp)
      refine ⟨_, rfl, A.p, A.dx, _, rfl, g.get 1 rfl, (fl_m2 _ _ _).2.2.2, _, rfl, _, rfl, two, fun c1 hc1 => ?_⟩
      have g3 := Has.comm (X := [_]) (Y := yL t.c_Yard A y) (g.alloc hc1 (.tup [.int bad, .int place]))
      exact ⟨A, y, _, c1, bad, place, 0, rfl, g3, rfl, .inl (.inl ⟨hb, sb, fun a => hE _ _ a (hE_mid0 g3)⟩)⟩
    have u6 : Has G6 (yL t.c_Yard A y ++ ((r6, HO.lst [.str "NoPiece"]) :: ([(r5, HO.lst [.str "NoPiece"]), (r4, HO.lst [.str "NoPiece"]), (r3, HO.lst [.str "NoPiece"]), (r2, HO.lst [.str "NoPiece"]), (rl, HO.lst [.ref r1, .ref r2, .ref r3, .ref r4, .ref r5]), (r1, HO.lst [.str "NoPiece"])] ++ L6))) := Has.comm (X := [_]) (Y := yL t.c_Yard A y) (hcast v6 (by simp [nameAt]))
    refine ⟨rl, _, _, rfl, rfl, u6.get 14 rfl, sizeOk (show 5 ≤ 1000000 by decide), ?_⟩
    have h6 : Has _ (yL t.c_Yard A y ++ ([(r6, HO.lst [.str "NoPiece"]), (r5, HO.lst [.str "NoPiece"]), (r4, HO.lst [.str "NoPiece"]), (r3, HO.lst [.str "NoPiece"]), (r2, HO.lst [.str "NoPiece"]), (rl, HO.lst [.ref r1, .ref r2, .ref r3, .ref r4, .ref r5, .ref r6]), (r1, HO.lst [.str "NoPiece"])] ++ L6)) := u6.puti 14 rfl (.lst ([.ref r1, .ref r2, .ref r3, .ref r4, .ref r5] ++ [.ref r6]))
    generalize upd G6 rl _ = K6 at h6 ⊢
    clear u6 v6
    refine ⟨_, rfl, .inl ⟨rfl, _, SqL.of (h6.get 14 rfl)⟩, ?_⟩
    refine ref_oneM (t := t) 4 (by decide) t.c_NoPiece T.x_NoPiece (Z := yL t.c_Yard A y ++ [(r6, HO.lst [.str "NoPiece"]), (r5, HO.lst [.str "NoPiece"]), (r4, HO.lst [.str "NoPiece"]), (r3, HO.lst [.str "NoPiece"]), (r2, HO.lst [.str "NoPiece"]), (rl, HO.lst [.ref r1, .ref r2, .ref r3, .ref r4, .ref r5, .ref r6]), (r1, HO.lst [.str "NoPiece"])]) (L := L6) (hcast h6 (by simp)) tb6 (fun H1 W Q1 E1 g' kW hE => ?_) (fun G7 L7 r7 v7 tb7 kp7 => ?_)
    · have g : Has H1 (yL t.c_Yard A y ++ ([(r6, HO.lst [.str "NoPiece"]), (r5, HO.lst [.str "NoPiece"]), (r4, HO.lst [.str "NoPiece"]), (r3, HO.lst [.str "NoPiece"]), (r2, HO.lst [.str "NoPiece"]), (rl, HO.lst [.ref r1, .ref r2, .ref r3, .ref r4, .ref r5, .ref r6]), (r1, HO.lst [.str "NoPiece"])] ++ W)) := hcast g' (by simp)
      refine ⟨_, rfl, A.p, A.dx, _, rfl, g.get 1 rfl, (fl_m2 _ _ _).2.2.1, _, rfl, _, rfl, two, fun c1 hc1 => ?_⟩
      have g2 := g.alloc hc1 (.tup [.int bad, .int place])
      refine ⟨_, rfl, _, rfl, two, fun c2 hc2 => ?_⟩
      have g3 := Has.comm (X := [_, _]) (Y := yL t.c_Yard A y) (g2.alloc hc2 (.tup [.int bad, .int place]))
      exact ⟨A, y, _, c1, c2, bad, place, bad, place, 1, 0, rfl, g3, rfl, rfl, .inl (.inl ⟨hb, sb, fun a => hE _ _ a (hE_mid0 g3)⟩)⟩
    have u7 : Has G7 (yL t.c_Yard A y ++ ((r7, HO.lst [.str "NoPiece"]) :: ([(r6, HO.lst [.str "NoPiece"]), (r5, HO.lst [.str "NoPiece"]), (r4, HO.lst [.str "NoPiece"]), (r3, HO.lst [.str "NoPiece"]), (r2, HO.lst [.str "NoPiece"]), (rl, HO.lst [.ref r1, .ref r2, .ref r3, .ref r4, .ref r5, .ref r6]), (r1, HO.lst [.str "NoPiece"])] ++ L7))) := Has.comm (X := [_]) (Y := yL t.c_Yard A y) (hcast v7 (by simp [nameAt]))
    refine ⟨rl, _, _, rfl, rfl, u7.get 15 rfl, sizeOk (show 6 ≤ 1000000 by decide), ?_⟩
    have h7 : Has _ (yL t.c_Yard A y ++ ([(r7, HO.lst [.str "NoPiece"]), (r6, HO.lst [.str "NoPiece"]), (r5, HO.lst [.str "NoPiece"]), (r4, HO.lst [.str "NoPiece"]), (r3, HO.lst [.str "NoPiece"]), (r2, HO.lst [.str "NoPiece"]), (rl, HO.lst [.ref r1, .ref r2, .ref r3, .ref r4, .ref r5, .ref r6, .ref r7]), (r1, HO.lst [.str "NoPiece"])] ++ L7)) := u7.puti 15 rfl (.lst ([.ref r1, .ref r2, .ref r3, .ref r4, .ref r5, .ref r6] ++ [.ref r7]))
    generalize upd G7 rl _ = K7 at h7 ⊢
    clear u7 v7
    refine ⟨_, rfl, .inl ⟨rfl, _, SqL.of (h7.get 15 rfl)⟩, ?_⟩
    refine ref_oneM (t := t) 4 (by decide) t.c_NoPiece T.x_NoPiece (Z := yL t.c_Yard A y ++ [(r7, HO.lst [.str "NoPiece"]), (r6, HO.lst [.str "NoPiece"]), (r5, HO.lst [.str "NoPiece"]), (r4, HO.lst [.str "NoPiece"]), (r3, HO.lst [.str "NoPiece"]), (r2, HO.lst [.str "NoPiece"]), (rl, HO.lst [.ref r1, .ref r2, .ref r3, .ref r4, .ref r5, .ref r6, .ref r7]), (r1, HO.lst [.str "NoPiece"])]) (L := L7) (hcast h7 (by simp)) tb7 (fun H1 W Q1 E1 g' kW hE => ?_) (fun G8 L8 r8 v8 tb8 kp8 => ?_)
    · have g : Has H1 (yL t.c_Yard A y ++ ([(r7, HO.lst [.str "NoPiece"]), (r6, HO.lst [.str "NoPiece"]), (r5, HO.lst [.str "NoPiece"]), (r4, HO.lst [.str "NoPiece"]), (r3, HO.lst [.str "NoPiece"]), (r2, HO.lst [.str "NoPiece"]), (rl, HO.lst [.ref r1, .ref r2, .ref r3, .ref r4, .ref r5, .ref r6, .ref r7]), (r1, HO.lst [.str "NoPiece"])] ++ W)) := hcast g' (by simp)
      exact ⟨_, rfl, A.p, A.dx, _, rfl, g.get 1 rfl, fl_m6 _ _ _, _, rfl, .inr ⟨A, y, _, bad, rfl, g, sb, .inl ⟨hb, fun a => hE H1 [] a g'⟩⟩⟩
    have u8 : Has G8 (yL t.c_Yard A y ++ ((r8, HO.lst [.str "NoPiece"]) :: ([(r7, HO.lst [.str "NoPiece"]), (r6, HO.lst [.str "NoPiece"]), (r5, HO.lst [.str "NoPiece"]), (r4, HO.lst [.str "NoPiece"]), (r3, HO.lst [.str "NoPiece"]), (r2, HO.lst [.str "NoPiece"]), (rl, HO.lst [.ref r1, .ref r2, .ref r3, .ref r4, .ref r5, .ref r6, .ref r7]), (r1, HO.lst [.str "NoPiece"])] ++ L8))) := Has.comm (X := [_]) (Y := yL t.c_Yard A y) (hcast v8 (by simp [nameAt]))
    refine ⟨rl, _, _, rfl, rfl, u8.get 16 rfl, sizeOk (show 7 ≤ 1000000 by decide), ?_⟩
    have h8 : Has _ (yL t.c_Yard A y ++ ([(r8, HO.lst [.str "NoPiece"]), (r7, HO.lst [.str "NoPiece"]), (r6, HO.lst [.str "NoPiece"]), (r5, HO.lst [.str "NoPiece"]), (r4, HO.lst [.str "NoPiece"]), (r3, HO.lst [.str "NoPiece"]), (r2, HO.lst [.str "NoPiece"]), (rl, HO.lst [.ref r1, .ref r2, .ref r3, .ref r4, .ref r5, .ref r6, .ref r7, .ref r8]), (r1, HO.lst [.str "NoPiece"])] ++ L8)) := u8.puti 16 rfl (.lst ([.ref r1, .ref r2, .ref r3, .ref r4, .ref r5, .ref r6, .ref r7] ++ [.ref r8]))
    generalize upd G8 rl _ = K8 at h8 ⊢
    clear u8 v8
    obtain ⟨X, eX⟩ : ∃ X : Kn, yL t.c_Yard A y ++ ([(r8, HO.lst [.str "NoPiece"]), (r7, HO.lst [.str "NoPiece"]), (r6, HO.lst [.str "NoPiece"]), (r5, HO.lst [.str "NoPiece"]), (r4, HO.lst [.str "NoPiece"]), (r3, HO.lst [.str "NoPiece"]), (r2, HO.lst [.str "NoPiece"]), (rl, HO.lst [.ref r1, .ref r2, .ref r3, .ref r4, .ref r5, .ref r6, .ref r7, .ref r8]), (r1, HO.lst [.str "NoPiece"])] ++ L8) = X := ⟨_, rfl⟩
    have hX := hcast h8 eX
    have mrl : (rl, HO.lst [.ref r1, .ref r2, .ref r3, .ref r4, .ref r5, .ref r6, .ref r7, .ref r8]) ∈ X := by rw [← eX]; simp
    have mall : ∀ r ∈ [r1, r2, r3, r4, r5, r6, r7, r8], (r, HO.lst [.str (nameAt 4)]) ∈ X := fun r hr => by
      rw [← eX]
      simp only [List.mem_cons, List.not_mem_nil, or_false] at hr
      rcases hr with rfl | rfl | rfl | rfl | rfl | rfl | rfl | rfl <;> simp [nameAt]
    refine ⟨_, rfl, rl, rfl, ⟨_, SqL.of (hX.at_ _ mrl)⟩, fun Dl hDl => ?_⟩
    refine ⟨fun n m zs H' => m = 8 - n ∧ n ≤ 8 ∧ zs = (List.replicate n true).map V.bl ∧ ∃ N : Kn, Has H' ((Dl, .lst zs) :: (N ++ X)), ⟨_, rfl, Nat.zero_le _, rfl, [], hX.alloc hDl _⟩, ?_⟩
    rintro n0 m zs H2 ⟨rfl, hn, rfl, N, h12⟩
    refine ⟨h12.get 0 rfl, ?_⟩
    have g0 := h12.tail.at_ _ (List.mem_append_right N mrl)
    dsimp only at g0
    by_cases hlt : n0 < 8
    · obtain ⟨r, hr⟩ : ∃ r, [r1, r2, r3, r4, r5, r6, r7, r8][n0]? = some r := ⟨_, List.getElem?_eq_getElem (show n0 < [r1, r2, r3, r4, r5, r6, r7, r8].length from hlt)⟩
      have er : ([.ref r1, .ref r2, .ref r3, .ref r4, .ref r5, .ref r6, .ref r7, .ref r8] : List V)[n0]? = some (.ref r) := by
        have := congrArg (Option.map V.ref) hr
        rw [← List.getElem?_map] at this
        exact this
      refine .inr ⟨⟨_, .ref r, SqL.of g0, er⟩, ?_⟩
      rintro x H3 ⟨rfl, hx⟩
      have e1 := hx _ (SqL.of g0)
      rw [er] at e1
      cases e1
      refine ⟨rfl, tTrueT ?_⟩
      refine ⟨_, rfl, sz (show 1 ≤ 1000000 by decide), fun a ha => ?_⟩
      have h13 := h12.alloc ha (.lst [.str "NoPiece"])
      have gr := h13.tail.tail.at_ _ (List.mem_append_right N (mall r (List.mem_of_getElem? hr)))
      refine ⟨strsD [nameAt 4], strsD [nameAt 4], strsD_dv (ns := [nameAt 4]) gr, strsD_dv (ns := [nameAt 4]) (h13.get 0 rfl), (nameOk 4 (by decide)).2, (nameOk 4 (by decide)).2, ?_⟩
      rw [eqvR _ (nameOk 4 (by decide)).1]
      refine ⟨sizeOk (by rw [List.length_map, List.length_replicate]; omega), h13.get 1 rfl, 8 - (n0 + 1), by omega, rfl, hlt, by rw [List.replicate_succ', List.map_append]; rfl, _ :: N, (h13.puti 1 rfl _).swap2⟩
    · have en : n0 = 8 := by omega
      subst en
      refine .inl ⟨⟨_, SqL.of g0, Nat.le_refl 8⟩, ?_⟩
      refine ⟨Dl, List.replicate 8 true, rfl, SqL.of (h12.get 0 rfl), ?_⟩
      rw [all_true]
      have h14 := dropL h12.tail
      rw [← eX] at h14
      have h15 := dropL (G := [(r8, HO.lst [.str "NoPiece"]), (r7, HO.lst [.str "NoPiece"]), (r6, HO.lst [.str "NoPiece"]), (r5, HO.lst [.str "NoPiece"]), (r4, HO.lst [.str "NoPiece"]), (r3, HO.lst [.str "NoPiece"]), (r2, HO.lst [.str "NoPiece"]), (rl, HO.lst [.ref r1, .ref r2, .ref r3, .ref r4, .ref r5, .ref r6, .ref r7, .ref r8]), (r1, HO.lst [.str "NoPiece"])]) (Has.comm (X := yL t.c_Yard A y) (Y := [(r8, HO.lst [.str "NoPiece"]), (r7, HO.lst [.str "NoPiece"]), (r6, HO.lst [.str "NoPiece"]), (r5, HO.lst [.str "NoPiece"]), (r4, HO.lst [.str "NoPiece"]), (r3, HO.lst [.str "NoPiece"]), (r2, HO.lst [.str "NoPiece"]), (rl, HO.lst [.ref r1, .ref r2, .ref r3, .ref r4, .ref r5, .ref r6, .ref r7, .ref r8]), (r1, HO.lst [.str "NoPiece"])]) (R := L8) h14)
      exact q _ L8 h15 tb8 (keep kp1 (keep kp2 (keep kp3 (keep kp4 (keep kp5 (keep kp6 (keep kp7 kp8)))))))
end

end P


set_option Elab.async false
set_option linter.all false
set_option maxRecDepth 100000
set_option maxHeartbeats 4000000
namespace P
open PySem L2

theorem endsL_pos {ks : List Kd} (h : 0 < ks.length) : 0 < (endsL ks).length := by
  obtain ⟨k, ks', rfl⟩ : ∃ k ks', ks = k :: ks' := by cases ks with | nil => simp at h | cons a b => exact ⟨a, b, rfl⟩
  unfold endsL
  rw [List.zipIdx_cons, List.flatMap_cons, List.length_append, List.length_map, List.length_range]
  have : 1 ≤ k.many.toNat := by cases k <;> decide
  show 0 < k.many.toNat + _
  omega

def sp_lawTs (K : PySem.W.Frag) (Ts : List Addr) : Sp := fun vs H Q _ => ∃ (a : Addr) (ns : List Int), vs = [.ref a] ∧ SqL K H a (ns.map V.int) ∧ ns.length ≤ 63 ∧ (∀ p ∈ Ts, H p = some (.tbl #[])) ∧ ∀ H', Q (.bl true) H'
theorem law_binds {K : PySem.W.Frag} {mg : Str → Option Value} {t : Adr} (T : Txt K mg t) (s : Shared) (u : Value) : BindsTo s t.d_law ⟨[u], []⟩ [("_law_script", u)] := by
  obtain ⟨oc, od, kV, doc, pm, an, cdv, ct, osl, e, lk, hcd⟩ := T.F_law.ex
  rw [e, T.e_law]
  exact .of_eq rfl
def qLaw : Str := ("law" : Str) ++ Str.ofString ".<locals>." ++ "<lambda>"
def ksOf (ks : List Kd) : List (Int × Kd) := ks.zipIdx.map fun p => ((p.2 : Int), p.1)
theorem kvOf_kmap (ks : List Kd) : kvOf ks = kmap (ksOf ks) := by unfold kvOf kmap ksOf; rw [List.map_map]; rfl
theorem ksOf_mem {ks : List Kd} {p : Int × Kd} : p ∈ ksOf ks ↔ 0 ≤ p.1 ∧ ks[p.1.toNat]? = some p.2 := by
  unfold ksOf
  constructor
  · intro h
    obtain ⟨q, hq, rfl⟩ := List.mem_map.mp h
    have := List.mem_zipIdx_iff_getElem?.mp hq
    exact ⟨by show (0 : Int) ≤ q.2; omega, this⟩
  · rintro ⟨h0, h1⟩
    refine List.mem_map.mpr ⟨(p.2, p.1.toNat), List.mem_zipIdx_iff_getElem?.mpr h1, ?_⟩
    exact Prod.ext (by show ((p.1.toNat : Nat) : Int) = p.1; omega) rfl
theorem ksOf_ids (ks : List Kd) : (ksOf ks).map (·.1) = (List.range ks.length).map fun i : Nat => (i : Int) := by
  unfold ksOf
  rw [List.map_map]
  have : (ks.zipIdx.map fun p => p.2) = List.range ks.length := by rw [List.zipIdx_map_snd]; exact List.range_eq_range'.symm
  rw [← this, List.map_map]
  rfl
theorem eqv_n {i j : Nat} (hi : i < 22) (hj : j < 22) : PyData.eqv (strsD [nameAt i]) (strsD [nameAt j]) = decide (i = j) := by
  by_cases c : i = j
  · subst c; rw [eqvR _ (nameOk i hi).1, decide_eq_true rfl]
  · rw [decide_eq_false c]
    have : ∀ i, i < 22 → ∀ j, j < 22 → i ≠ j → PyData.eqv (strsD [nameAt i]) (strsD [nameAt j]) = false := by decide +kernel
    exact this i hi j hj c
theorem ldue_lt {W : Wd} {s : Sd} {n : Int} {i : Nat} (h : ldue W s n = some i) : i < 22 ∧ (i = 4 ∨ i = 9 ∨ i = 11) := by
  unfold ldue at h
  split at h
  · cases h; decide
  · split at h
    · cases h; decide
    · split at h
      · split at h
        · cases h; decide
        · cases h
      · cases h
section
variable {P : Program} {w : World} {K : PySem.W.Frag} {mg : Str → Option Value} {base : Heap} {t : Adr}
theorem scLa : FnScope ["_law_script", "_law_d", "_law_yard", "_law_kinds_here", "_law_notes", "_law_rods", "_law_sides", "_law_at", "_law_there", "_law_turn", "_law_piece", "_law_due", "_law_before"] ["_law_script"] (defScope s_law) := ⟨rfl, rfl, rfl, by decide +kernel, rfl, by decide +kernel, by decide +kernel⟩
theorem ok_law (T : Txt K mg t) (kb : K.In base) (hbm : BM base mg) : FnOk P w K mg base CX0 14 t.f_law t.d_law ["_law_script"] (sp_lawTs K [t.p_gone, t.p_law]) := by
  have ok_gone : ∀ (T : Txt K mg t), FnOk P w K mg base CX0 11 t.f_gone t.d_gone ["_law_yard", "_law_piece", "_law_place"] (sp_gone t.c_Yard t.p_gone) := fun T => okM_gone T kb hbm
  obtain ⟨_, hd_Yard_lay_2, hb_Yard_lay_2⟩ := bD_Yard_lay_2 T
  refine T.F_law.okC scLa (fun vs H Q E h => ?_) (fun cdv A outer s H vs Q E hcdv hr h => ?_)
  · obtain ⟨_, _, rfl, _⟩ := h
    rfl
  · obtain ⟨a, ns0, rfl, hS, hns, hT, q⟩ := h
    obtain ⟨cc, ecd, hch⟩ := T.tb_law
    have ecdv : cdv = .ref cc := hcdv.symm.trans ecd
    subst ecdv
    have hCH : PySem.W.CodeHd base cc t.p_law := PySem.W.codeHd_of_K kb hch
    have small : ∀ b : Int, b.natAbs ≤ 1000 → L2.Small b := fun b hb => small_of (Nat.lt_of_le_of_lt hb (by decide))
    have h0 : Has H [(t.p_gone, HO.tbl #[]), (t.p_law, HO.tbl #[])] := by
      refine ⟨?_, ?_⟩
      · simp [T.dj_gone_law]
      · intro z hz
        simp only [List.mem_cons, List.not_mem_nil, or_false] at hz
        rcases hz with rfl | rfl <;> exact hT _ (by simp)
    have two : 2 ≤ sizeLine := by decide
    refine ⟨_, (pss_cons (ps_set (i := 1) scLa.nd rfl (Or.inl rfl) (pe_call (ok_draws T) (hr.mono (by decide)) (by rfl) T.m_draws T.F_draws.kp (b_draws T) .nil pass0 (pa_cons (pv 0) (pa_cons pe_int pa_nil))))
      (pss_cons (ps_asg (pe_call (ok_built T) (hr.mono (by decide)) (by rfl) T.m_built T.F_built.kp (b_built T) .nil pass0 (pa_cons (pv 1) (pa_cons pe_int (pa_cons (pe_call (ok_size T) (hr.mono (by decide)) (by rfl) T.m_size T.F_size.kp (b_size T) .nil pass0 (pa_cons (pe_ix ix_list (pv 1) pe_int (fun _ _ => rfl)) pa_nil)) pa_nil)))) (pg_tup rfl (pgs_cons (pg_name (i := 2) scLa.nd rfl (Or.inr rfl)) (pgs_cons (pg_name (i := 3) scLa.nd rfl (Or.inl rfl)) (pgs_cons (pg_name (i := 4) scLa.nd rfl (Or.inl rfl)) (pgs_cons (pg_name (i := 5) scLa.nd rfl (Or.inl rfl)) (pgs_cons (pg_name (i := 6) scLa.nd rfl (Or.inl rfl)) pgs_nil)))))))
      (pss_cons (ps_expr (pe_call (ok_linked T) (hr.mono (by decide)) (by rfl) T.m_linked T.F_linked.kp (b_linked T) .nil pass0 (pa_cons (pv 2) (pa_cons (pv 3) (pa_cons (pv 1) (pa_cons pe_int (pa_cons (pe_op op_mod (pe_ix ix_list (pv 1) pe_int (fun _ _ => rfl)) pe_int) pa_nil)))))))
      (pss_cons (ps_set (i := 7) scLa.nd rfl (Or.inl rfl) (pe_ix ix_list (pe_call (ok_ends T) (hr.mono (by decide)) (by rfl) T.m_ends T.F_ends.kp (b_ends T) .nil pass0 (pa_cons (pv 3) pa_nil)) (pe_op op_mod (pe_ix ix_list (pv 1) pe_int (fun _ _ => rfl)) (pe_callB call_len_seq (by rfl) T.z_len (by rfl) (pa_cons (pe_call (ok_ends T) (hr.mono (by decide)) (by rfl) T.m_ends T.F_ends.kp (b_ends T) .nil pass0 (pa_cons (pv 3) pa_nil)) pa_nil))) (fun _ _ => rfl)))
      (pss_cons (ps_expr (pe_meth (pv 2) T.cl_Yard T.M_Yard_put (ok_Yard_put T) (hr.mono (by decide)) (b_Yard_put T) .nil pass0 (pa_cons (pv 7) pa_nil)))
      (pss_cons (ps_set (i := 8) scLa.nd rfl (Or.inl rfl) (pe_callTy (call_list_rng rfl) (by rfl) T.z_list (by rfl) (pa_cons (pe_callTy call_range1 (by rfl) T.z_range (by rfl) (pa_cons (pe_callB call_len_seq (by rfl) T.z_len (by rfl) (pa_cons (pv 3) pa_nil)) pa_nil)) pa_nil)))
      (pss_cons (ps_for PassesOwn.never rfl (pi_range1 (by rfl) T.z_range (pa_cons pe_int pa_nil)) (pg_name (i := 9) scLa.nd rfl (Or.inl rfl))
        (pss_cons (ps_set (i := 10) scLa.nd rfl (Or.inr rfl) (pe_op op_sub (pe_op op_mod (pe_ix ix_list (pv 1) (pe_op op_add pe_int (pv 9)) (fun _ _ => rfl)) (pe_op op_add (pe_callB call_len_seq (by rfl) T.z_len (by rfl) (pa_cons (pv 3) pa_nil)) pe_int)) pe_int))
          (pss_cons (ps_set (i := 11) scLa.nd rfl (Or.inl rfl) (pe_call (ok_lift_due T) (hr.mono (by decide)) (by rfl) T.m_lift_due T.F_lift_due.kp (b_lift_due T) .nil pass0 (pa_cons (pv 2) (pa_cons (pv 10) (pa_cons (pv 3) (pa_cons (pv 8) (pa_cons (pv 7) pa_nil)))))))
          (pss_cons (ps_set (i := 12) scLa.nd rfl (Or.inl rfl) (pe_call (ok_look T) (hr.mono (by decide)) (by rfl) T.m_look T.F_look.kp (b_look T) .nil pass0 (pa_cons (pv 2) pa_nil)))
          (pss_cons (ps_cut (ps_if (pt_cmpR (op_neD hr.units) (pe_refuse (kd := 7) (N' := ["_law_piece", "_law_yard"]) [10, 2] (ok_refused T) (hr.mono (by decide)) (by rfl) T.m_refused T.F_refused.kp rfl hCH hbm (fun _ => rfl) rfl rfl rfl rfl rfl (by decide +kernel) (esc := defScope s_law) rfl (by decide +kernel) (by decide +kernel) (by rfl) (fun _ _ _ _ _ => rfl) (fun _ _ _ _ _ _ _ _ hr1 => by exact (pe_meth (pv 1) T.cl_Yard T.M_Yard_lift (okB_Yard_lift T) (hr1.mono (by decide)) (b_Yard_lift T) .nil passL (pa_cons (pv 0) pa_nil)))) (pv 11) (nomark _))
            (pss_one (ps_ret pe_bl))
            pss_nil))
          (pss_cons (ps_cut (ps_if (PW.pt (pw_and (pt_cmpR (op_neD hr.units) (pv 11) (pe_lst pa_nil) (nomark _)) (pw_and1 (pt_cmpR (op_neD hr.units) (pe_call (ok_look T) (hr.mono (by decide)) (by rfl) T.m_look T.F_look.kp (b_look T) .nil pass0 (pa_cons (pv 2) pa_nil)) (pv 12) (nomark _)))))
            (pss_one (ps_ret pe_bl))
            pss_nil))
          (pss_cons (ps_cut (ps_if (PW.pt (pw_or (pt_cmpR (op_eqD hr.units) (pv 11) (pe_lst (pa_cons pe_str pa_nil)) (nomark _)) (pw_or1 (pt_cmpR (op_eqD hr.units) (pv 11) (pe_lst (pa_cons pe_str pa_nil)) (nomark _)))))
            (pss_cons (ps_set (i := 7) scLa.nd rfl (Or.inl rfl) pe_non)
              (pss_one (ps_cut (ps_if (pt_not (pt_val (pe_call (ok_freed T) (hr.mono (by decide)) (by rfl) T.m_freed T.F_freed.kp (b_freed T) .nil pass0 (pa_cons (pv 2) (pa_cons (pv 10) (pa_cons (pv 3) pa_nil))))))
                (pss_one (ps_ret pe_bl))
                pss_nil))))
            pss_nil))
          (pss_cons (ps_setC (ix := 8) scLa.nd rfl (Or.inl rfl) (esc := defScope s_law) (k := 1) ["_law_other", "_law_script", "_law_d", "_law_yard", "_law_kinds_here", "_law_notes", "_law_rods", "_law_sides", "_law_at", "_law_there", "_law_turn", "_law_piece", "_law_due", "_law_before"] rfl (pi_list (pv 8)) (fun _ _ _ _ _ => by exact (pg_name (i := 0) (show List.Nodup (["_law_other", "_law_script", "_law_d", "_law_yard", "_law_kinds_here", "_law_notes", "_law_rods", "_law_sides", "_law_at", "_law_there", "_law_turn", "_law_piece", "_law_due", "_law_before"] : List Str) from by decide +kernel) rfl (Or.inl rfl))) (fun _ _ _ _ _ => by exact (pts_one (pt_cmpR op_ne (pv 0) (pv 11) (nomark _)))) (fun _ _ _ _ _ => by exact (pv 0)) rfl (by decide +kernel) (by decide +kernel) rfl (by decide +kernel) (by rfl) (fun _ _ h _ => h) (by decide +kernel))
          (pss_cons (ps_cut (ps_if (PW.pt (pw_or (pt_not (pt_val (pe_call (ok_is_row T) (hr.mono (by decide)) (by rfl) T.m_is_row T.F_is_row.kp (b_is_row T) .nil pass0 (pa_cons (pe_meth0 (pv 2) T.cl_Yard T.M_Yard_pieces (ok_Yard_pieces T) (hr.mono (by decide)) (b_Yard_pieces T) .nil pass0) (pa_cons (pv 8) pa_nil))))) (pw_or1 (pt_not (pt_val (pe_call (ok_is_row T) (hr.mono (by decide)) (by rfl) T.m_is_row T.F_is_row.kp (b_is_row T) .nil pass0 (pa_cons (pe_meth0 (pv 2) T.cl_Yard T.M_Yard_rods (ok_Yard_rods T) (hr.mono (by decide)) (b_Yard_rods T) .nil pass0) (pa_cons (pe_callTy (call_list_rng rfl) (by rfl) T.z_list (by rfl) (pa_cons (pe_callTy call_range1 (by rfl) T.z_range (by rfl) (pa_cons (pe_callB call_len_seq (by rfl) T.z_len (by rfl) (pa_cons (pv 6) pa_nil)) pa_nil)) pa_nil)) pa_nil))))))))
            (pss_one (ps_ret pe_bl))
            pss_nil))
          (pss_one (ps_cut (ps_if (pt_not (pt_val (pe_call (ok_gone T) (hr.mono (by decide)) (by rfl) T.m_gone T.F_gone.kp (b_gone T) .nil pass0 (pa_cons (pv 2) (pa_cons (pv 10) (pa_cons (pe_op op_mod (pe_ix ix_list (pv 1) (pe_op op_add pe_int (pv 9)) (fun _ _ => rfl)) pe_int) pa_nil))))))
            (pss_one (ps_ret pe_bl))
            pss_nil))))))))))))
      (pss_one (ps_ret (pe_and (pe_call (ok_is T) (hr.mono (by decide)) (by rfl) T.m_is T.F_is.kp (b_is T) .nil pass0 (pa_cons (pe_meth (pv 2) T.cl_Yard T.M_Yard_lay (ok_Yard_lay T) (hr.mono (by decide)) hb_Yard_lay_2 hd_Yard_lay_2 pass0 (pa_cons pe_str pa_nil)) (pa_cons (pe_callB call_len_seq (by rfl) T.z_len (by rfl) (pa_cons (pv 3) pa_nil)) pa_nil))) (pe_one (pe_call (ok_is T) (hr.mono (by decide)) (by rfl) T.m_is T.F_is.kp (b_is T) .nil pass0 (pa_cons (pe_meth (pv 2) T.cl_Yard T.M_Yard_rod (ok_Yard_rod T) (hr.mono (by decide)) (b_Yard_rod T) .nil pass0 (pa_cons (pe_callB call_len_seq (by rfl) T.z_len (by rfl) (pa_cons (pv 3) pa_nil)) pa_nil)) (pa_cons (pe_callB call_len_seq (by rfl) T.z_len (by rfl) (pa_cons (pv 6) pa_nil)) pa_nil)))))))))))))), ?_⟩
    rw [show L2.start ["_law_script", "_law_d", "_law_yard", "_law_kinds_here", "_law_notes", "_law_rods", "_law_sides", "_law_at", "_law_there", "_law_turn", "_law_piece", "_law_due", "_law_before"] [V.ref a] = ([some (V.ref a), none, none, none, none, none, none, none, none, none, none, none, none] : St) from rfl]
    refine ⟨_, rfl, a, ns0, 150, _, rfl, hS, hns, by decide, by decide, h0, fun H1 d ds h1 hds hdr => ?_⟩
    clear hS hns h0 hdr
    have hds : ds.length = 150 := hds
    dsimp only [List.set]
    refine ⟨_, rfl, _, rfl, d, _, _, _, rfl, rfl, SqL.of (h1.get 0 rfl), atD (by omega) (by omega), _, rfl, fun n n1 n24 => ?_⟩
    refine ⟨d, ds, 1, n, _, 0, rfl, h1, rfl, by omega, by omega, by omega, by omega, fun H2 A1 y ks ns rs ss tp sd rr nn kk B lk h2 => ?_⟩
    refine ⟨tp, _, rfl, SqT.of (h2.get 0 rfl), rfl, _, _, rfl, _, _, rfl, _, _, rfl, _, _, rfl, _, _, rfl, rfl, ?_⟩
    replace h2 := h2.tail
    clear h1
    dsimp only [List.set]
    have l0 := Int.emod_nonneg (ds.getD (130 : Int).toNat 0) (show (9 : Int) ≠ 0 by decide)
    have l1 := Int.emod_lt_of_pos (ds.getD (130 : Int).toNat 0) (show (0 : Int) < 9 by decide)
    refine ⟨_, rfl, _, rfl, _, rfl, _, rfl, d, _, _, _, rfl, rfl, SqL.of (h2.get 13 rfl), atD (by omega) (by omega), _, _, rfl, rfl, (show (0 : Int) < 9 by decide), ?_⟩
    refine ⟨A1, y, _, kk, d, ks, ns, rs, ss, ds, 75, _, 3, 4, rfl, h2, B, rfl, rfl, by omega, by omega, l0, by omega, by omega, fun H4 q4 mh m es1 M WS hes ml h4 => ?_⟩
    clear h2
    have ml' : m.length ≤ 40 := by omega
    obtain ⟨L4, eL4⟩ : ∃ L4 : Kn, (mh, HO.dT m) :: (esK es1 ++ ([(sd, HO.lst (ss.map V.int)), (rr, .lst (rs.map V.int)), (nn, .lst (ns.map V.int)), (kk, .lst (ksV ks))] ++ ((d, .lst (ds.map V.int)) :: [(t.p_gone, HO.tbl #[]), (t.p_law, HO.tbl #[])]))) = L4 := ⟨_, rfl⟩
    have mkk : (kk, HO.lst (ksV ks)) ∈ L4 := by rw [← eL4]; simp
    have msd : (sd, HO.lst (ss.map V.int)) ∈ L4 := by rw [← eL4]; simp
    have md : (d, HO.lst (ds.map V.int)) ∈ L4 := by rw [← eL4]; simp
    have mg_ : (t.p_gone, HO.tbl #[]) ∈ L4 := by rw [← eL4]; simp
    have ml_ : (t.p_law, HO.tbl #[]) ∈ L4 := by rw [← eL4]; simp
    have mes : ∀ z ∈ es1, (z.1, HO.tup [.int z.2.1, .int z.2.2]) ∈ L4 := fun z hz => by
      rw [← eL4]
      have : (z.1, HO.tup [.int z.2.1, .int z.2.2]) ∈ esK es1 := List.mem_map.mpr ⟨z, hz, rfl⟩
      simp [this]
    rw [eL4] at h4
    clear eL4
    obtain ⟨jk, hjk⟩ := List.mem_iff_getElem?.mp (List.mem_append_right (yL t.c_Yard { A1 with tr := q4 } { y with mates := m, trail := [] }) mkk)
    refine ⟨_, rfl, kk, ks, _, jk, rfl, h4, hjk, by omega, fun H5 el es2 hes2 h5 => ?_⟩
    have h6 := Has.comm (X := (el, HO.lst (esV es2)) :: esK es2) (Y := yL t.c_Yard { A1 with tr := q4 } { y with mates := m, trail := [] }) h5
    clear h5 h4 hjk
    have e2 : 0 < es2.length := by have := congrArg List.length hes2; rw [List.length_map] at this; have := endsL_pos (ks := ks) (by omega); omega
    have evl : ∀ l : List En, (esV l).length = l.length := fun l => by unfold esV; rw [List.length_map]
    have gd6 : SqL K H5 d (ds.map V.int) := SqL.of (h6.at_ (d, HO.lst (ds.map V.int)) (by simp [md]))
    refine ⟨_, rfl, d, _, _, _, rfl, rfl, gd6, atD (by omega) (by omega), ?_⟩
    obtain ⟨jk, hjk⟩ := List.mem_iff_getElem?.mp (List.mem_append_right (yL t.c_Yard { A1 with tr := q4 } { y with mates := m, trail := [] }) (List.mem_append_right ((el, HO.lst (esV es2)) :: esK es2) mkk))
    refine ⟨_, rfl, kk, ks, _, jk, rfl, h6, hjk, by omega, fun H7 el3 es3 hes3 h7 => ?_⟩
    have h8 := Has.comm (X := (el3, HO.lst (esV es3)) :: esK es3) (Y := yL t.c_Yard { A1 with tr := q4 } { y with mates := m, trail := [] }) h7
    clear h7 hjk h6 gd6
    have e3 : es3.length = es2.length := by have a := congrArg List.length hes3; have b := congrArg List.length hes2; rw [List.length_map] at a b; omega
    obtain ⟨zp, zp2, pk⟩ : ∃ e ∈ es2, atI (esV es2) (ds.getD (131 : Int).toNat 0 % ((esV es3).length : Int)) = some (.ref e.1) := by
      obtain ⟨i, il, ie, _⟩ := seqIx (n := es2.length) (x := ds.getD (131 : Int).toNat 0) e2
      exact ⟨es2[i], List.getElem_mem il, by rw [evl, e3, ie]; exact atI_nat (esV_get (List.getElem?_eq_getElem il))⟩
    refine ⟨el3, _, rfl, .inl (SqL.of (h8.get 9 rfl)), _, _, rfl, rfl, (show (0 : Int) < ((esV es3).length : Int) by rw [evl]; omega), el, _, _, _, rfl, rfl, SqL.of (h8.at_ (el, HO.lst (esV es2)) (by simp)), pk, ?_⟩
    dsimp only [List.set]
    obtain ⟨L, eL⟩ : ∃ L : Kn, (el3, HO.lst (esV es3)) :: esK es3 ++ ((el, HO.lst (esV es2)) :: esK es2 ++ L4) = L := ⟨_, rfl⟩
    rw [eL] at h8
    have up4 : ∀ z ∈ L4, z ∈ L := fun z hz => by rw [← eL]; simp [hz]
    have mzp : (zp.1, HO.tup [.int zp.2.1, .int zp.2.2]) ∈ L := by
      have : (zp.1, HO.tup [.int zp.2.1, .int zp.2.2]) ∈ esK es2 := List.mem_map.mpr ⟨zp, zp2, rfl⟩
      rw [← eL]; simp [this]
    clear eL
    replace mkk := up4 _ mkk
    replace msd := up4 _ msd
    replace md := up4 _ md
    replace mg_ := up4 _ mg_
    replace ml_ := up4 _ ml_
    replace mes := fun z hz => up4 _ (mes z hz)
    have em1 : ∀ x ∈ es1, x.2 ∈ endsL ks := fun x hx => by rw [← hes]; exact List.mem_map.mpr ⟨x, hx, rfl⟩
    have okp : (wOf ks ns rs es1 m).ok zp := wOf_ok (by rw [← hes2]; exact List.mem_map.mpr ⟨zp, zp2, rfl⟩)
    have R8 : Rep (wOf ks ns rs es1 m) ⟨ss, none, []⟩ { y with mates := m, trail := [] } := Rep.of B M em1 rfl B.s12 (fun _ h => nomatch h) rfl rfl rfl rfl B.sd B.en B.rg
    obtain ⟨jz, hjz⟩ := List.mem_iff_getElem?.mp mzp
    refine ⟨_, rfl, A1.p, _, _, rfl, h8.get 1 rfl, (fl_m4 _ _ _).1, _, rfl, { A1 with tr := q4 }, { y with mates := m, trail := [] }, L, zp.1, zp.2.1, zp.2.2, jz, rfl, h8, hjz, (by obtain ⟨k, hk, e0, e1⟩ := okp; exact ⟨k, R8.kd _ _ hk, e0, e1⟩), fun H9 q9 h9 => ?_⟩
    have R9 := R8.eng (some zp) (fun v hv => by cases hv; exact okp) []
    obtain ⟨A2, hA2⟩ : ∃ A2 : YA, ({ A1 with tr := q9 } : YA) = A2 := ⟨_, rfl⟩
    have epp : A1.p = A2.p := by rw [← hA2]
    replace h9 : Has H9 (yL t.c_Yard A2 { y with mates := m, eng := enV (some zp), trail := [] } ++ L) := by rw [← hA2]; exact h9
    rw [epp]
    have Y9 : Y8 (wOf ks ns rs es1 m) ⟨ss, some zp, []⟩ { y with mates := m, eng := enV (some zp), trail := [] } (ksOf ks) L := by
      refine ⟨R9, by rw [← kvOf_kmap]; exact B.kd, fun p hp => ?_, fun n k hn => ?_, WS, fun n e z hz => mes z (mfOf_mem hz), fun z hz => by cases hz; exact mzp, ⟨?_, ?_, ?_, ?_, ?_, ?_⟩, rfl⟩
      · obtain ⟨p0, p1⟩ := ksOf_mem.mp hp
        show (if 0 ≤ p.1 then ks[p.1.toNat]? else none) = some p.2
        rw [if_pos p0]; exact p1
      · have hn : (if 0 ≤ n then ks[n.toNat]? else none) = some k := hn
        split at hn
        · exact ksOf_mem.mpr ⟨by assumption, hn⟩
        · cases hn
      · show y.kinds.length ≤ 200
        rw [B.kd, kvOf_length]; omega
      · have := B.nlen; show y.notes.length ≤ 200; omega
      · have := B.rlen; show y.rods.length ≤ 200; omega
      · have := B.sl; show y.sides.length ≤ 200; rw [B.sd, List.length_map]; omega
      · show m.length ≤ 200; omega
      · show y.rung.length ≤ 200; rw [B.rg]; decide
    have nx9 : ({ y with mates := m, eng := enV (some zp), trail := [] } : YR).next = ks.length := B.nx
    clear h8 R8 R9 hA2 epp up4 okp mes M WS hes hes2 hes3 em1 pk ml ml' e3 e2 mzp zp2 hjz
    generalize ({ y with mates := m, eng := enV (some zp), trail := [] } : YR) = y9 at h9 Y9 nx9
    generalize wOf ks ns rs es1 m = W9 at Y9
    have kl : ks.length ≤ 24 := by omega
    have ssl : ss.length ≤ 24 := by have := B.sl; omega
    have klv : (ksV ks).length = ks.length := by unfold ksV; rw [List.length_map]
    have slv : (ss.map V.int).length = ss.length := List.length_map ..
    clear B
    refine ⟨_, rfl, kk, _, rfl, .inl (SqL.of (h9.at_ _ (List.mem_append_right _ mkk))), _, rfl, fun p hp => ?_⟩
    have h10 := h9.alloc hp (.rng 0 ((ksV ks).length : Int))
    refine ⟨p, _, rfl, h10.get 0 rfl, by omega, by omega, fun th hth => ?_⟩
    dsimp only [List.set]
    have h11 := h10.alloc hth (.lst (intsV (((ksV ks).length : Nat) : Int).toNat))
    have e11 : intsV (((ksV ks).length : Nat) : Int).toNat = ((ksOf ks).map (·.1)).map V.int := by rw [Int.toNat_natCast, klv, ksOf_ids]; exact intsV_eq _
    generalize upd (upd H9 p _) th _ = H12 at h11 ⊢
    rw [e11] at h11
    have h12 := Has.comm (X := [_, _]) (Y := yL t.c_Yard A2 y9) (R := L) h11
    clear h9 h10 h11 hp hth e11
    obtain ⟨L12, eL12⟩ : ∃ L12 : Kn, [(th, HO.lst (((ksOf ks).map (·.1)).map V.int)), (p, HO.rng 0 ((ksV ks).length : Int))] ++ L = L12 := ⟨_, rfl⟩
    have up : ∀ z ∈ L, z ∈ L12 := fun z hz => by rw [← eL12]; exact List.mem_append_right _ hz
    have mth : (th, HO.lst (((ksOf ks).map (·.1)).map V.int)) ∈ L12 := by rw [← eL12]; simp
    rw [eL12] at h12
    refine ⟨_, rfl, by decide, by decide, for_range (fun i σ H' => ∃ (A : YA) (y : YR) (W : Wd) (s : Sd) (KS : List (Int × Kd)) (th : Addr) (L : Kn) (o1 o2 o3 o4 : Option V), σ = [some (.ref a), some (.ref d), some (.ref A.p), some (.ref kk), some (.ref nn), some (.ref rr), some (.ref sd), some (enV s.at_), some (.ref th), o1, o2, o3, o4] ∧
      Y8 W s y KS L ∧ s.ss.length = ss.length ∧ y.next = ks.length ∧ (∀ p ∈ KS, 0 ≤ p.1 ∧ ks[p.1.toNat]? = some p.2) ∧ (kk, HO.lst (ksV ks)) ∈ L ∧ (sd, HO.lst (ss.map V.int)) ∈ L ∧ (d, HO.lst (ds.map V.int)) ∈ L ∧ (th, HO.lst ((KS.map (·.1)).map V.int)) ∈ L ∧ Tb L t.p_gone q_gone ∧ Tb L t.p_law qLaw ∧ Has H' (yL t.c_Yard A y ++ L))
      ⟨A2, y9, W9, ⟨ss, some zp, []⟩, ksOf ks, th, L12, _, _, _, _, rfl, Y9.mono (fun z hz _ => up z hz), rfl, nx9, fun p hp => ksOf_mem.mp hp, up _ mkk, up _ msd, up _ md, mth, Tb.new (up _ mg_), Tb.new (up _ ml_), h12⟩ ?_ ?_⟩
    · clear h12 Y9 nx9 up mth eL12 mkk msd md mg_ ml_
      rintro i σ H6 hi ⟨A, y, W, s, KS, th, L, o1, o2, o3, o4, rfl, Y, ssl', nx, hks, mkk, msd, md, mth, tg, tl, h6⟩
      have hi8 : i < 8 := by omega
      have gd : ∀ {H : Hp} {X : Kn}, Has H (X ++ L) → SqL K H d (ds.map V.int) := fun h => SqL.of (h.at_ _ (List.mem_append_right _ md))
      have gk : ∀ {H : Hp} {X : Kn}, Has H (X ++ L) → SqL K H kk (ksV ks) := fun h => SqL.of (h.at_ _ (List.mem_append_right _ mkk))
      dsimp only [List.set]
      rw [Int.zero_add]
      refine ⟨_, rfl, _, rfl, _, _, rfl, rfl, d, _, _, _, rfl, rfl, gd h6, atD (by omega) (by omega), _, rfl, kk, _, rfl, .inl (gk h6), _, _, rfl, rfl, _, _, rfl, rfl, (show (0 : Int) < ((ksV ks).length : Int) + 2 by omega), _, _, rfl, rfl, ?_⟩
      dsimp only [List.set]
      obtain ⟨pc, epc⟩ : ∃ pc, ds.getD (132 + (i : Int)).toNat 0 % (((ksV ks).length : Int) + 2) - 1 = pc := ⟨_, rfl⟩
      have pcb : pc.natAbs ≤ 1000 := by
        have b0 := Int.emod_nonneg (ds.getD (132 + (i : Int)).toNat 0) (show ((ksV ks).length : Int) + 2 ≠ 0 by omega)
        have b1 := Int.emod_lt_of_pos (ds.getD (132 + (i : Int)).toNat 0) (show (0 : Int) < ((ksV ks).length : Int) + 2 by omega)
        omega
      rw [epc]
      clear epc
      refine ⟨_, rfl, _, rfl, _, rfl, _, rfl, _, rfl, A, y, L, W, s, KS, pc, kk, th, ks, rfl, h6, Y, mkk, hks, mth, fun H7 du h7 => ?_⟩
      dsimp only [List.set]
      clear h6
      obtain ⟨x, ex⟩ : ∃ x, ldue W s pc = x := ⟨_, rfl⟩
      rw [ex] at h7
      have hx22 : ∀ j, x = some j → j < 22 := fun j e => (ldue_lt (by rw [ex]; exact e)).1
      have P7 : Pool W s ((du, HO.lst ((dueN x).map V.str)) :: L) := Y.pool.app [_]
      refine ⟨_, rfl, A, y, _, W, s, KS, rfl, h7, Y.R, P7, Y.small, Y.kk, Y.kf, fun H8 bf N8 S8 h8 => ?_⟩
      dsimp only [List.set]
      clear h7
      obtain ⟨L8, eL8⟩ : ∃ L8 : Kn, N8 ++ ((du, HO.lst ((dueN x).map V.str)) :: L) = L8 := ⟨_, rfl⟩
      have up8 : ∀ z ∈ L, z ∈ L8 := fun z hz => by rw [← eL8]; simp [hz]
      have mdu : (du, HO.lst ((dueN x).map V.str)) ∈ L8 := by rw [← eL8]; simp
      rw [eL8] at h8 S8
      clear eL8
      have tl8 := tl.mono up8
      have tg8 := tg.mono up8
      obtain ⟨KS', eKS⟩ : ∃ KS', (KS.filter fun p => decide (¬ p.1 = pc)) = KS' := ⟨_, rfl⟩
      refine ⟨fun σ' H' => ∃ (A1 : YA) (y1 : YR) (W1 : Wd) (L1 : Kn), σ' = [some (.ref a), some (.ref d), some (.ref A1.p), some (.ref kk), some (.ref nn), some (.ref rr), some (.ref sd), some (enV s.at_), some (.ref th), some (.int i), some (.int pc), some (.ref du), some (.ref bf)] ∧ Tb L1 t.p_gone q_gone ∧ Tb L1 t.p_law qLaw ∧ (∀ z ∈ L8, NT z → z ∈ L1) ∧ Has H' (yL t.c_Yard A1 y1 ++ L1) ∧
        ((∃ j, x = some j ∧ A1 = A ∧ y1 = y ∧ W1 = W) ∨ (x = none ∧ Y8 W1 s y1 KS' L1 ∧ y1.next = y.next ∧ W1.kf pc = none)), ?_, ?_⟩
      · cases hx : x with
        | some j =>
          have j22 := hx22 j hx
          have hj := (ldue_lt (by rw [ex]; exact hx)).2
          rw [hx] at mdu
          have ned : du ≠ t.p_law := Tb.ne tl8 h8 mdu (fun _ e => nomatch e)
          obtain ⟨C, hC, hcs⟩ : ∃ C : Addr, excAll K C t.c_RailError (dsOf t j) = true ∧ ((j = 4 ∧ C = t.c_NoPiece) ∨ (j = 9 ∧ C = t.c_Linked) ∨ (j = 11 ∧ C = t.c_Occupied)) := by
            rcases hj with rfl | rfl | rfl
            · exact ⟨_, T.x_NoPiece, .inl ⟨rfl, rfl⟩⟩
            · exact ⟨_, T.x_Linked, .inr (.inl ⟨rfl, rfl⟩)⟩
            · exact ⟨_, T.x_Occupied, .inr (.inr ⟨rfl, rfl⟩)⟩
          refine ref_oneM (t := t) j j22 C hC (Z := yL t.c_Yard A y) (L := L8) h8 tl8 (fun H1 W1 Q1 E1 g kW hE => ?_) (fun G1 L1 r1 v1 tl1 kp1 => ?_)
          · refine ⟨_, rfl, A.p, A.dx, _, rfl, g.get 1 rfl, fl_m6 _ _ _, _, rfl, .inr ⟨A, y, _, pc, rfl, g, small pc pcb, ?_⟩⟩
            rw [hx] at ex
            unfold ldue at ex
            cases hk : W.kf pc with
            | none =>
              rw [hk] at ex
              cases ex
              rcases hcs with ⟨_, rfl⟩ | ⟨e, _⟩ | ⟨e, _⟩
              · exact .inl ⟨Y.none hk, fun a => hE H1 [] a g⟩
              · cases e
              · cases e
            | some k =>
              rw [hk] at ex
              dsimp only at ex
              refine .inr ⟨k, Y.R.kd _ _ hk, ?_⟩
              by_cases cl : ∃ e : Nat, e < k.many.toNat ∧ W.mf pc e ≠ none
              · rw [if_pos cl] at ex
                cases ex
                rcases hcs with ⟨e, _⟩ | ⟨_, rfl⟩ | ⟨e, _⟩
                · cases e
                · obtain ⟨e, he, hne⟩ := cl
                  refine .inl ⟨⟨(e : Int), by omega, by omega, ?_⟩, fun H2 N a h2 => hE H2 N a h2⟩
                  rw [Y.R.mt]
                  cases c : W.mf pc e with
                  | none => exact absurd c hne
                  | some z => exact fun h => nomatch h
                · cases e
              · rw [if_neg cl] at ex
                cases hat : s.at_ with
                | none => rw [hat] at ex; cases ex
                | some z =>
                  rw [hat] at ex
                  dsimp only at ex
                  by_cases cz : z.2.1 = pc
                  · rw [if_pos cz] at ex
                    cases ex
                    rcases hcs with ⟨e, _⟩ | ⟨e, _⟩ | ⟨_, rfl⟩
                    · cases e
                    · cases e
                    · refine .inr ⟨fun e e0 e1 => ?_, ⟨z.1, z.2.2, by rw [Y.R.en, hat]; rfl, ?_⟩, fun H2 a h2 => hE H2 [] a h2⟩
                      · obtain ⟨e', rfl⟩ := Int.eq_ofNat_of_zero_le e0
                        rw [Y.R.mt]
                        cases c : W.mf pc e' with
                        | none => rfl
                        | some u => exact absurd ⟨e', by omega, by rw [c]; exact fun h => nomatch h⟩ cl
                      · have := kW _ (up8 _ (Y.pe z hat)) (Tb.ne tl8 h8 (up8 _ (Y.pe z hat)) (fun _ e => nomatch e))
                        rw [cz] at this
                        exact this
                  · rw [if_neg cz] at ex; cases ex
          · have mdu1 := kp1 _ mdu ned
            have gdu := v1.at_ _ (List.mem_cons_of_mem _ (List.mem_append_right _ mdu1))
            refine ⟨_, rfl, strsD [nameAt j], strsD [nameAt j], strsD_dv (ns := [nameAt j]) (v1.get 0 rfl), strsD_dv (ns := [nameAt j]) gdu, (nameOk j j22).2, (nameOk j j22).2, ?_⟩
            rw [eqvR _ (nameOk j j22).1]
            refine ⟨_, rfl, iteF ?_⟩
            exact ⟨A, y, W, L1, rfl, Tb.other tl8 tg8 h8 T.dj_gone_law kp1, tl1, fun z hz nt => kp1 z hz (Tb.ne tl8 h8 hz nt), v1.tail, .inl ⟨j, rfl, rfl, rfl, rfl⟩⟩
        | none =>
          rw [hx] at ex mdu
          have ned : du ≠ t.p_law := Tb.ne tl8 h8 mdu (fun _ e => nomatch e)
          obtain ⟨k, hk, hm, he⟩ : ∃ k, W.kf pc = some k ∧ (∀ e : Int, 0 ≤ e → e < k.many → W.mf pc e = none) ∧ ∀ z, s.at_ = some z → z.2.1 ≠ pc := by
            unfold ldue at ex
            cases hk : W.kf pc with
            | none => rw [hk] at ex; cases ex
            | some k =>
              rw [hk] at ex
              dsimp only at ex
              by_cases cl : ∃ e : Nat, e < k.many.toNat ∧ W.mf pc e ≠ none
              · rw [if_pos cl] at ex; cases ex
              · rw [if_neg cl] at ex
                refine ⟨k, rfl, fun e e0 e1 => ?_, fun z hz cz => ?_⟩
                · obtain ⟨e', rfl⟩ := Int.eq_ofNat_of_zero_le e0
                  cases c : W.mf pc e' with
                  | none => rfl
                  | some u => exact absurd ⟨e', by omega, by rw [c]; exact fun h => nomatch h⟩ cl
                · rw [hz] at ex
                  dsimp only at ex
                  rw [if_pos cz] at ex
                  cases ex
          refine ref_okM (t := t) (fun v Z' => v = .non ∧ ∃ q', Z' = yL t.c_Yard { A with tr := q' } { y with kinds := dropK y.kinds (Sum.inl pc), notes := dropK y.notes (Sum.inl pc), rods := dropK y.rods (Sum.inl pc), trail := [] }) (Z := yL t.c_Yard A y) (L := L8) h8 tl8 (fun H1 W1 Q1 E1 g kW hV => ?_) (fun G1 L1 r1 v Z' hR v1 tl1 kp1 => ?_)
          · refine ⟨_, rfl, A.p, A.dx, _, rfl, g.get 1 rfl, fl_m6 _ _ _, _, rfl, .inl ⟨A, y, _, pc, k, rfl, g, Y.R.kd _ _ hk, (fun e e0 e1 => by rw [Y.R.mt, hm e e0 e1]; rfl), ?_, fun H2 q2 h2 => hV H2 _ _ ⟨rfl, q2, rfl⟩ h2⟩⟩
            cases hat : s.at_ with
            | none => exact .inl (by rw [Y.R.en, hat]; rfl)
            | some z => exact .inr ⟨z.1, z.2.1, z.2.2, by rw [Y.R.en, hat]; rfl, kW _ (up8 _ (Y.pe z hat)) (Tb.ne tl8 h8 (up8 _ (Y.pe z hat)) (fun _ e => nomatch e)), he z hat⟩
          · obtain ⟨rfl, q', rfl⟩ := hR
            have mdu1 := kp1 _ mdu ned
            have gdu := v1.at_ _ (List.mem_cons_of_mem _ (List.mem_append_right _ mdu1))
            have hnone : ∀ i, (none : Option Nat) = some i → i < 22 := fun i e => by cases e
            refine ⟨_, rfl, strsD (dueN none), strsD (dueN none), strsD_dv (v1.get 0 rfl), strsD_dv gdu, dueSh _ hnone, dueSh _ hnone, ?_⟩
            rw [eqvR _ (dueLay _ hnone)]
            refine ⟨_, rfl, iteF ?_⟩
            have keep : ∀ z ∈ L8, NT z → z ∈ L1 := fun z hz nt => kp1 z hz (Tb.ne tl8 h8 hz nt)
            have Y1 := (Y.lift hk hm he).mono (fun z hz nt => keep z (up8 z hz) nt)
            rw [eKS] at Y1
            exact ⟨{ A with tr := q' }, _, W.lift pc, L1, rfl, Tb.other tl8 tg8 h8 T.dj_gone_law kp1, tl1, keep, v1.tail, .inr ⟨rfl, Y1, rfl, if_pos rfl⟩⟩
      clear tl8 tg8
      rintro σ' H9 ⟨A1, y1, W1, L1, rfl, tg1, tl1, kp1, h9, cs⟩
      have mdu1 := kp1 _ mdu (fun _ e => nomatch e)
      have S1 : Stb K L1 (lookD W s KS) (.ref bf) := S8.mono kp1
      have up1 : ∀ z ∈ L, NT z → z ∈ L1 := fun z hz nt => kp1 z (up8 z hz) nt
      clear h8 S8 mdu kp1 up8
      have hnone : ∀ i, (none : Option Nat) = some i → i < 22 := fun i e => by cases e
      refine ⟨fun σ' H' => ∃ (N : Kn), σ' = [some (.ref a), some (.ref d), some (.ref A1.p), some (.ref kk), some (.ref nn), some (.ref rr), some (.ref sd), some (enV s.at_), some (.ref th), some (.int i), some (.int pc), some (.ref du), some (.ref bf)] ∧ Has H' (yL t.c_Yard A1 y1 ++ (N ++ L1)), ?_, ?_⟩
      · refine ⟨_, rfl, sz (show 0 ≤ 1000000 by decide), fun ea hea => ?_⟩
        have h10 := h9.alloc hea (.lst [])
        have gdu := h10.at_ _ (List.mem_cons_of_mem _ (List.mem_append_right _ mdu1))
        rcases cs with ⟨j, hj, rfl, rfl, rfl⟩ | ⟨hx, Y1, e1, k1⟩
        · have j22 := hx22 j hj
          have hoi : ∀ i, (some j : Option Nat) = some i → i < 22 := fun i e => by cases e; exact j22
          rw [hj] at gdu
          refine ⟨strsD (dueN (some j)), strsD (dueN none), strsD_dv gdu, strsD_dv (h10.get 0 rfl), dueSh _ hoi, dueSh _ hnone, ?_⟩
          rw [show PyData.eqv (strsD (dueN (some j))) (strsD (dueN none)) = false from rfl]
          refine ⟨_, rfl, iteT ?_⟩
          have h11 := h10.tail
          generalize upd H9 ea _ = H11 at h11 ⊢
          have P1 : Pool W1 s L1 := (Y.mono up1).pool
          refine ⟨_, rfl, A1, y1, _, W1, s, KS, rfl, h11, Y.R, P1, Y.small, Y.kk, Y.kf, fun H12 l12 N12 S12 h12 => ?_⟩
          refine ⟨_, rfl, lookD W1 s KS, lookD W1 s KS, S12 H12 (fun z hz _ => h12.at_ z (List.mem_append_right _ hz)), S1 H12 (fun z hz _ => h12.at_ z (List.mem_append_right _ (List.mem_append_right _ hz))), look_sh _ _ _, look_sh _ _ _, ?_⟩
          rw [eqvR _ (look_lay _ _ _).1]
          exact ⟨_, rfl, iteF ⟨N12, rfl, h12⟩⟩
        · rw [hx] at gdu
          refine ⟨strsD (dueN none), strsD (dueN none), strsD_dv gdu, strsD_dv (h10.get 0 rfl), dueSh _ hnone, dueSh _ hnone, ?_⟩
          rw [eqvR _ (dueLay _ hnone)]
          exact ⟨_, rfl, iteF (iteF ⟨[], rfl, h10.tail⟩)⟩
      clear h9 S1
      rintro σ' H10 ⟨N10, rfl, h10⟩
      obtain ⟨L2', eL2⟩ : ∃ L2' : Kn, N10 ++ L1 = L2' := ⟨_, rfl⟩
      have up2 : ∀ z ∈ L1, z ∈ L2' := fun z hz => by rw [← eL2]; exact List.mem_append_right _ hz
      rw [eL2] at h10
      have mdu2 := up2 _ mdu1
      have tg2 := tg1.mono up2
      have tl2 := tl1.mono up2
      have upL : ∀ z ∈ L, NT z → z ∈ L2' := fun z hz nt => up2 z (up1 z hz nt)
      clear eL2 mdu1 tg1 tl1
      refine ⟨fun σ' H' => ∃ (A2 : YA) (y2 : YR) (W2 : Wd) (s2 : Sd) (L3 : Kn), σ' = [some (.ref a), some (.ref d), some (.ref A2.p), some (.ref kk), some (.ref nn), some (.ref rr), some (.ref sd), some (enV s2.at_), some (.ref th), some (.int i), some (.int pc), some (.ref du), some (.ref bf)] ∧ Y8 W2 s2 y2 KS' L3 ∧ s2.ss.length = ss.length ∧ y2.next = ks.length ∧ W2.kf pc = none ∧ (∀ z ∈ L2', z ∈ L3) ∧ Has H' (yL t.c_Yard A2 y2 ++ L3), ?_, ?_⟩
      · have tst : ∀ (nm : Str) (m : Nat), m < 22 → nm = nameAt m → ∀ (H' : Hp) (l : Addr), Has H' ((l, HO.lst [.str nm]) :: (yL t.c_Yard A1 y1 ++ L2')) → ∃ d e : PyData, DV K H' d (.ref du) ∧ DV K H' e (.ref l) ∧ SeqAt.shaped d = true ∧ SeqAt.shaped e = true ∧ PyData.eqv d e = decide (x = some m) := fun nm m hm hn H' l h => by
          have gdu := h.at_ _ (List.mem_cons_of_mem _ (List.mem_append_right _ mdu2))
          subst hn
          cases hx : x with
          | none =>
            rw [hx] at gdu
            exact ⟨strsD (dueN none), strsD [nameAt m], strsD_dv gdu, strsD_dv (ns := [nameAt m]) (h.get 0 rfl), dueSh _ hnone, (nameOk m hm).2, rfl⟩
          | some j =>
            have j22 := hx22 j hx
            rw [hx] at gdu
            refine ⟨strsD [nameAt j], strsD [nameAt m], strsD_dv (ns := [nameAt j]) gdu, strsD_dv (ns := [nameAt m]) (h.get 0 rfl), (nameOk j j22).2, (nameOk m hm).2, ?_⟩
            rw [eqv_n j22 hm]
            by_cases c : j = m
            · rw [decide_eq_true c, decide_eq_true (by rw [c])]
            · rw [decide_eq_false c, decide_eq_false (fun e => c (Option.some.inj e))]
        have go : ∀ (H' : Hp) (L0 : Kn), Has H' (yL t.c_Yard A1 y1 ++ L0) → (∀ z ∈ L2', z ∈ L0) → (x = some 9 ∨ x = some 11) → ∃ (Q' : VK), True := fun _ _ _ _ _ => ⟨fun _ _ => True, trivial⟩
        clear go
        refine ⟨_, rfl, sz (show 1 ≤ 1000000 by decide), fun l1 hl1 => ?_⟩
        have h11 := h10.alloc hl1 (.lst [.str "Linked"])
        obtain ⟨d1, d2, v1, v2, s1, s2, ev⟩ := tst "Linked" 9 (by decide) rfl _ l1 h11
        refine ⟨d1, d2, v1, v2, s1, s2, ?_⟩
        rw [ev]
        clear v1 v2 s1 s2 ev
        replace h11 := h11.tail
        generalize upd H10 l1 _ = H11 at h11 ⊢
        clear h10 hl1
        by_cases c9 : x = some 9
        refine ⟨_, rfl, ifT (decide_eq_true c9) (iteT ?_)⟩
        rotate_left
        refine ⟨_, rfl, ifF (decide_eq_false c9) ?_⟩
        refine ⟨_, rfl, sz (show 1 ≤ 1000000 by decide), fun l2 hl2 => ?_⟩
        have h12 := h11.alloc hl2 (.lst [.str "Occupied"])
        obtain ⟨d1, d2, v1, v2, s1, s2, ev⟩ := tst "Occupied" 11 (by decide) rfl _ l2 h12
        refine ⟨d1, d2, v1, v2, s1, s2, ?_⟩
        rw [ev]
        clear v1 v2 s1 s2 ev h11
        replace h11 := h12.tail
        clear h12
        generalize upd H11 l2 _ = H12 at h11 ⊢
        clear hl2
        by_cases c11 : x = some 11
        refine ⟨_, rfl, ifT (decide_eq_true c11) ?_⟩
        rotate_left
        · refine ⟨_, rfl, ifF (decide_eq_false c11) ?_⟩
          rcases cs with ⟨j, hj, rfl, rfl, rfl⟩ | ⟨hx, Y1, e1, k1⟩
          · have j4 : j = 4 := by
              rcases (ldue_lt (by rw [ex]; exact hj)).2 with r | r | r
              · exact r
              · exact absurd (by rw [hj, r]) c9
              · exact absurd (by rw [hj, r]) c11
            have kn : W1.kf pc = none := by
              rw [hj, j4] at ex
              unfold ldue at ex
              cases hk : W1.kf pc with
              | none => rfl
              | some k =>
                rw [hk] at ex
                dsimp only at ex
                split at ex
                · cases ex
                · split at ex
                  · split at ex <;> cases ex
                  · cases ex
            have eK : KS' = KS := by
              rw [← eKS]
              refine List.filter_eq_self.mpr (fun p hp => decide_eq_true fun c => ?_)
              have := Y.kf p hp
              rw [c, kn] at this
              cases this
            exact ⟨A1, y1, W1, s, L2', rfl, by rw [eK]; exact Y.mono upL, ssl', nx, kn, fun _ h => h, h11⟩
          · exact ⟨A1, y1, W1, s, L2', rfl, Y1.mono (fun z hz _ => up2 z hz), ssl', e1.trans nx, k1, fun _ h => h, h11⟩
        all_goals
          dsimp only [List.set]
          rcases cs with ⟨j, hj, rfl, rfl, rfl⟩ | ⟨hx, Y1, e1, k1⟩
          · obtain ⟨k, hk⟩ : ∃ k, W1.kf pc = some k := by
              cases hk : W1.kf pc with
              | some k => exact ⟨k, rfl⟩
              | none =>
                unfold ldue at ex
                rw [hk] at ex
                rw [← ex] at hj
                first | (rw [← ex] at c9; cases c9) | (rw [← ex] at c11; cases c11)
            obtain ⟨p0, p1⟩ := hks _ (Y.kn pc k hk)
            refine ⟨_, ?_, fun _ _ h => h⟩
            refine ⟨_, rfl, _, rfl, _, rfl, A1, y1, L2', W1, s, KS, pc, k, kk, ks, rfl, h11, Y.mono upL, upL _ mkk (fun _ e => nomatch e), p0, p1, hk, fun H13 A13 y13 W13 N13 ep Y13 e13 k13 h13 => ?_⟩
            rw [eKS] at Y13
            refine ⟨_, rfl, iteF ?_⟩
            exact ⟨A13, y13, W13, ⟨s.ss, none, s.rg⟩, N13 ++ L2', by rw [ep]; rfl, Y13, ssl', e13.trans nx, k13, fun z hz => List.mem_append_right _ hz, h13⟩
          · exfalso
            first | (rw [hx] at c9; cases c9) | (rw [hx] at c11; cases c11)
      clear cs h10 mdu2 up1 up2
      rintro σ' H11 ⟨A2, y2, W2, s2, L3, rfl, Y2, ssl2, nx2, kpc, up3, h11⟩
      have tg3 := tg2.mono up3
      have tl3 := tl2.mono up3
      have upL3 : ∀ z ∈ L, NT z → z ∈ L3 := fun z hz nt => up3 z (upL z hz nt)
      clear tg2 tl2 up3 upL
      have mth3 := upL3 _ mth (fun _ e => nomatch e)
      obtain ⟨ids, eids⟩ : ∃ ids, KS.map (·.1) = ids := ⟨_, rfl⟩
      have eids' : KS'.map (·.1) = ids.filter fun o => decide (¬ o = pc) := by
        rw [← eKS, ← eids, List.filter_map]
        rfl
      rw [eids] at mth3
      have idl : ids.length ≤ 200 := by rw [← eids, List.length_map]; have := Y.sm.k; rw [Y.kk] at this; unfold kmap at this; rw [List.length_map] at this; exact this
      refine ⟨_, rfl, th, rfl, ⟨_, SqL.of (h11.at_ _ (List.mem_append_right _ mth3))⟩, fun Dl hDl => ?_⟩
      refine ⟨fun n m zs H' => m = ids.length - n ∧ n ≤ ids.length ∧ zs = ((ids.take n).filter fun o => decide (¬ o = pc)).map V.int ∧ Has H' ((Dl, .lst zs) :: (yL t.c_Yard A2 y2 ++ L3)), ⟨_, rfl, Nat.zero_le _, rfl, h11.alloc hDl _⟩, ?_⟩
      clear h11 hDl
      rintro n0 m zs H12 ⟨rfl, hn, rfl, h12⟩
      refine ⟨h12.get 0 rfl, ?_⟩
      have g0 := h12.at_ _ (List.mem_cons_of_mem _ (List.mem_append_right _ mth3))
      dsimp only at g0
      by_cases hlt : n0 < ids.length
      · have e0 : ids[n0]? = some ids[n0] := List.getElem?_eq_getElem hlt
        refine .inr ⟨⟨_, .int ids[n0], SqL.of g0, by rw [List.getElem?_map, e0]; rfl⟩, ?_⟩
        rintro x0 H13 ⟨rfl, hx0⟩
        have e1 := hx0 _ (SqL.of g0)
        rw [List.getElem?_map, e0] at e1
        cases e1
        have tk : ids.take (n0 + 1) = ids.take n0 ++ [ids[n0]] := by rw [List.take_succ, e0]; rfl
        have fl_le : (((ids.take n0).filter fun o => decide (¬ o = pc)).map V.int).length ≤ 200 := by
          rw [List.length_map]
          refine Nat.le_trans (List.length_filter_le _ _) ?_
          rw [List.length_take]; omega
        refine ⟨rfl, _, rfl, _, rfl, rfl, _, rfl, ?_⟩
        rw [decInt]
        by_cases c : ids[n0] = pc
        · refine ifF (by rw [decide_eq_true c]; rfl) ⟨ids.length - (n0 + 1), by omega, rfl, hlt, ?_, h12⟩
          rw [tk, List.filter_append, List.filter_cons_of_neg (by simp [c])]
          simp
        · refine ifT (by rw [decide_eq_false c]; rfl) ⟨_, rfl, sizeOk (by omega), h12.get 0 rfl, ids.length - (n0 + 1), by omega, rfl, hlt, ?_, h12.puti 0 rfl _⟩
          rw [tk, List.filter_append, List.filter_cons_of_pos (by simp [c]), List.map_append]
          rfl
      have en : n0 = ids.length := by omega
      subst en
      refine .inl ⟨⟨_, SqL.of g0, by rw [List.length_map]; exact Nat.le_refl _⟩, ?_⟩
      rw [List.take_length, ← eids'] at h12
      dsimp only [List.set]
      have h13 := Has.comm (X := [_]) (Y := yL t.c_Yard A2 y2) (R := L3) h12
      clear h12 g0 hlt hn
      obtain ⟨L4, eL4⟩ : ∃ L4 : Kn, [(Dl, HO.lst ((KS'.map (·.1)).map V.int))] ++ L3 = L4 := ⟨_, rfl⟩
      rw [eL4] at h13
      have mD : (Dl, HO.lst ((KS'.map (·.1)).map V.int)) ∈ L4 := by rw [← eL4]; exact List.mem_cons_self
      have up4 : ∀ z ∈ L3, z ∈ L4 := fun z hz => by rw [← eL4]; exact List.mem_cons_of_mem _ hz
      have tg4 := tg3.mono up4
      have tl4 := tl3.mono up4
      have Y4 := Y2.mono (fun z hz _ => up4 z hz)
      have upL4 : ∀ z ∈ L, NT z → z ∈ L4 := fun z hz nt => up4 z (upL3 z hz nt)
      clear eL4 tg3 tl3 Y2 up4 upL3 mth3
      have kl4 : KS'.length ≤ 200 := by have := Y4.sm.k; rw [Y4.kk] at this; unfold kmap at this; rw [List.length_map] at this; exact this
      refine ⟨fun σ' H' => σ' = [some (.ref a), some (.ref d), some (.ref A2.p), some (.ref kk), some (.ref nn), some (.ref rr), some (.ref sd), some (enV s2.at_), some (.ref Dl), some (.int i), some (.int pc), some (.ref du), some (.ref bf)] ∧ Has H' (yL t.c_Yard A2 y2 ++ L4), ?_, ?_⟩
      · refine ⟨_, rfl, A2.p, A2.dx, _, rfl, h13.get 1 rfl, (fl_m4 _ _ _).2.2.2.1, A2, y2, _, rfl, h13, fun H14 l14 h14 => ?_⟩
        rw [Y4.kk, kmap_keys] at h14
        obtain ⟨jD, hjD⟩ := List.mem_iff_getElem?.mp mD
        refine ⟨_, rfl, l14, Dl, KS'.map (·.1), KS'.map (·.1), 0, jD + 10, _, rfl, h14, rfl, (by simpa [yL] using hjD), by rw [List.length_map]; omega, fun H15 h15 => ?_⟩
        rw [decide_eq_true rfl]
        refine ⟨_, rfl, iteF ?_⟩
        replace h15 := h15.tail
        refine ⟨_, rfl, A2.p, A2.dx, _, rfl, h15.get 1 rfl, (fl_m _ _ _).2.2.2.1, A2, y2, _, rfl, h15, Y4.small, fun H16 l16 h16 => ?_⟩
        have gsd : SqL K H16 sd (ss.map V.int) := SqL.of (h16.at_ _ (List.mem_cons_of_mem _ (List.mem_append_right _ (upL4 _ msd (fun _ e => nomatch e)))))
        refine ⟨_, rfl, sd, _, rfl, .inl gsd, _, rfl, fun p hp => ?_⟩
        rw [slv]
        have h17 := h16.alloc hp (.rng 0 (ss.length : Int))
        refine ⟨p, _, rfl, h17.get 0 rfl, by omega, by omega, fun l17 hl17 => ?_⟩
        have h18 := h17.alloc hl17 (.lst (intsV ((ss.length : Nat) : Int).toNat))
        have e1 : intsV y2.sides.length = ((List.range ss.length).map fun i : Nat => (i : Int)).map V.int := by rw [Y4.R.sd, List.length_map, ssl2]; exact intsV_eq _
        have e2 : intsV ((ss.length : Nat) : Int).toNat = ((List.range ss.length).map fun i : Nat => (i : Int)).map V.int := by rw [Int.toNat_natCast]; exact intsV_eq _
        generalize upd (upd H16 p _) l17 _ = H18 at h18 ⊢
        rw [e1, e2] at h18
        refine ⟨l16, l17, _, _, 2, 0, _, rfl, h18, rfl, rfl, by rw [List.length_map, List.length_range]; omega, fun H19 h19 => ?_⟩
        rw [decide_eq_true rfl]
        exact ⟨_, rfl, iteF ⟨rfl, h19.tail.tail.tail⟩⟩
      clear h13
      rintro σ' H14 ⟨rfl, h14⟩
      refine ⟨_, ?_, fun _ _ h => h⟩
      have gd4 : SqL K H14 d (ds.map V.int) := SqL.of (h14.at_ _ (List.mem_append_right _ (upL4 _ md (fun _ e => nomatch e))))
      refine ⟨_, rfl, _, rfl, _, rfl, _, rfl, _, _, rfl, rfl, d, _, _, _, rfl, rfl, gd4, atD (by omega) (by omega), _, _, rfl, rfl, (show (0 : Int) < 3 by decide), A2, y2, L4, pc, _, rfl, h14, tg4, Y4.none kpc, small pc pcb, fun H15 L5 h15 tg5 kp5 => ?_⟩
      refine ⟨_, rfl, iteF ?_⟩
      have k5 : ∀ z ∈ L4, NT z → z ∈ L5 := fun z hz nt => kp5 z hz (Tb.ne tg4 h14 hz nt)
      refine ⟨A2, y2, W2, s2, KS', Dl, L5, _, _, _, _, rfl, Y4.mono k5, ssl2, nx2, fun p hp => ?_, k5 _ (upL4 _ mkk (fun _ e => nomatch e)) (fun _ e => nomatch e), k5 _ (upL4 _ msd (fun _ e => nomatch e)) (fun _ e => nomatch e), k5 _ (upL4 _ md (fun _ e => nomatch e)) (fun _ e => nomatch e), k5 _ mD (fun _ e => nomatch e), tg5, Tb.other tg4 tl4 h14 (Ne.symm T.dj_gone_law) kp5, h15⟩
      rw [← eKS] at hp
      exact hks p (List.mem_filter.mp hp).1
    · clear h12 Y9 nx9 up mth eL12 mkk msd md mg_ ml_
      rintro σ H6 ⟨A, y, W, s, KS, th, L, o1, o2, o3, o4, rfl, Y, ssl', nx, hks, mkk, msd, md, mth, tg, tl, h6⟩
      have gk : ∀ {H : Hp} {X : Kn}, Has H (X ++ L) → SqL K H kk (ksV ks) := fun h => SqL.of (h.at_ _ (List.mem_append_right _ mkk))
      have sl2 : y.sides.length = ss.length := by rw [Y.R.sd, List.length_map]; exact ssl'
      refine ⟨_, rfl, A.p, A.dx, _, rfl, h6.get 1 rfl, (fl_m _ _ _).1, A, y, _, .still, 0, .non, rfl, h6, Y.small, (fun h => nomatch h), (fun _ h => absurd rfl h), fun H7 q7 h7 => ?_⟩
      refine ⟨_, rfl, kk, _, rfl, .inl (gk h7), _, _, rfl, ?_⟩
      rw [klv, decide_eq_true (show y.next = (ks.length : Int) from nx)]
      refine ⟨_, rfl, iteT ?_⟩
      have vk : valV (layY y .still 0 .non).kinds (Sum.inl (ks.length : Int)) = some (.str Kd.still.str) := by
        show valV (putK y.kinds (Sum.inl y.next) (.str Kd.still.str)) _ = _
        rw [valV_put, if_pos (by rw [nx])]
      have vr : valV (layY y .still 0 .non).rods (Sum.inl (ks.length : Int)) = some (.int y.sides.length) := by
        show valV (putK y.rods (Sum.inl y.next) (.int y.sides.length)) _ = _
        rw [valV_put, if_pos (by rw [nx])]
      refine ⟨_, rfl, A.p, A.dx, _, rfl, h7.get 1 rfl, (fl_m _ _ _).2.2.2.2.1, _, rfl, kk, _, rfl, .inl (gk h7), ?_⟩
      rw [klv]
      refine ⟨{ A with tr := q7 }, layY y .still 0 .non, _, (ks.length : Int), _, _, rfl, h7, vk, vr, ?_⟩
      refine ⟨_, rfl, sd, _, rfl, .inl (SqL.of (h7.at_ _ (List.mem_append_right _ msd))), _, _, rfl, ?_⟩
      rw [slv, sl2, decide_eq_true rfl]
      exact q _
end
theorem finFs {P : Program} {w : World} {K : PySem.W.Frag} {mg : Str → Option Value} {fa : Addr} {Ts0 : List Addr} (hmg : mg "law" = some (.ref fa)) (h : ∃ t, Txt K mg t ∧ t.p_gone ∈ Ts0 ∧ t.p_law ∈ Ts0) :
    ∃ (fd : FuncData) (Ts : List Addr), (∀ p ∈ Ts, p ∈ Ts0 ∧ K.lookup p = none ∧ ∃ c, PySem.W.codeHdIn K c p = true) ∧ (∀ (s : Shared) (u : Value), BindsTo s fd ⟨[u], []⟩ [("_law_script", u)]) ∧
      (∀ base : Heap, K.In base → base.Ns mainGlobals mg → BM base mg → FnOk P w K mg base CX0 14 fa fd ["_law_script"] (sp_lawTs K Ts)) ∧
      ∀ (H : Hp) (a : Addr) (ns : List Int), ns.length ≤ 63 → (∀ p ∈ Ts, H p = some (.tbl #[])) → SqL K H a (ns.map V.int) → sp_lawTs K Ts [.ref a] H (fun v _ => v = .bl true) fun _ _ _ => False := by
  obtain ⟨t, T, m1, m2⟩ := h
  have e0 := hmg.symm.trans T.m_law
  cases e0
  obtain ⟨c1, _, hc1⟩ := T.tb_gone
  obtain ⟨c2, _, hc2⟩ := T.tb_law
  refine ⟨_, [t.p_gone, t.p_law], fun p hp => ?_, fun s u => law_binds T s u, fun base kb nb hbm => ok_law T kb hbm, fun H a ns hl hT hS => ⟨a, ns, rfl, hS, hl, hT, fun _ => rfl⟩⟩
  rcases List.mem_cons.mp hp with rfl | hp
  · exact ⟨m1, T.tn_gone, c1, hc1⟩
  · cases List.mem_singleton.mp hp
    exact ⟨m2, T.tn_law, c2, hc2⟩

end P


set_option Elab.async false
set_option linter.all false
set_option maxRecDepth 100000
set_option maxHeartbeats 4000000
namespace P
open PySem L2

theorem txt_mk {K : PySem.W.Frag} {h : Heap} {mg : Str → Option Value} (KX : K.In h) (G : h.Ns mainGlobals mg)
    {z0 : Addr} {z1 z2 : Option Addr} {z3 : Array (Option Value)} {z4 z5 z6 z7 z8 z9 za : Value}
    {zb : Addr} {zc zd : Option Addr} {ze : Array (Option Value)} {zf zg zh zi zj zk zl : Value}
    {zm : Addr} {zn zo : Option Addr} {zp : Array (Option Value)} {zq zr zs zt zu zv zw : Value}
    {zx : Addr} {zy zz : Option Addr} {z10 : Array (Option Value)} {z11 z12 z13 z14 z15 z16 z17 : Value}
    {z18 : Addr} {z19 z1a : Option Addr} {z1b : Array (Option Value)} {z1c z1d z1e z1f z1g z1h z1i : Value}
    {z1j : Addr} {z1k z1l : Option Addr} {z1m : Array (Option Value)} {z1n z1o z1p z1q z1r z1s z1t : Value}
    {z1u : Addr} {z1v z1w : Option Addr} {z1x : Array (Option Value)} {z1y z1z z20 z21 z22 z23 z24 : Value}
    {z25 : Addr} {z26 z27 : Option Addr} {z28 : Array (Option Value)} {z29 z2a z2b z2c z2d z2e z2f : Value}
    {z2g : Addr} {z2h z2i : Option Addr} {z2j : Array (Option Value)} {z2k z2l z2m z2n z2o z2p z2q : Value}
    {z2r : Addr} {z2s z2t : Option Addr} {z2u : Array (Option Value)} {z2v z2w z2x z2y z2z z30 z31 : Value}
    {z32 : Addr} {z33 z34 : Option Addr} {z35 : Array (Option Value)} {z36 z37 z38 z39 z3a z3b z3c : Value}
    {z3d : Addr} {z3e z3f : Option Addr} {z3g : Array (Option Value)} {z3h z3i z3j z3k z3l z3m z3n : Value}
    {z3o : Addr} {z3p z3q : Option Addr} {z3r : Array (Option Value)} {z3s z3t z3u z3v z3w z3x z3y : Value}
    {z3z : Addr} {z40 z41 : Option Addr} {z42 : Array (Option Value)} {z43 z44 z45 z46 z47 z48 z49 : Value}
    {z4a : Addr} {z4b z4c : Option Addr} {z4d : Array (Option Value)} {z4e z4f z4g z4h z4i z4j z4k : Value}
    {z4l : Addr} {z4m z4n : Option Addr} {z4o : Array (Option Value)} {z4p z4q z4r z4s z4t z4u z4v : Value}
    {z4w : Addr} {z4x z4y : Option Addr} {z4z : Array (Option Value)} {z50 z51 z52 z53 z54 z55 z56 : Value}
    {z57 : Addr} {z58 z59 : Option Addr} {z5a : Array (Option Value)} {z5b z5c z5d z5e z5f z5g z5h : Value}
    {z5i : Addr} {z5j z5k : Option Addr} {z5l : Array (Option Value)} {z5m z5n z5o z5p z5q z5r z5s : Value}
    {z5t : Addr} {z5u z5v : Option Addr} {z5w : Array (Option Value)} {z5x z5y z5z z60 z61 z62 z63 : Value}
    {z64 : Addr} {z65 z66 : Option Addr} {z67 : Array (Option Value)} {z68 z69 z6a z6b z6c z6d z6e : Value}
    {z6f : Addr} {z6g z6h : Option Addr} {z6i : Array (Option Value)} {z6j z6k z6l z6m z6n z6o z6p : Value}
    {z6q : Addr} {z6r z6s : Option Addr} {z6t : Array (Option Value)} {z6u z6v z6w z6x z6y z6z z70 : Value}
    {z71 : Addr} {z72 z73 : Option Addr} {z74 : Array (Option Value)} {z75 z76 z77 z78 z79 z7a z7b : Value}
    {z7c : Addr} {z7d z7e : Option Addr} {z7f : Array (Option Value)} {z7g z7h z7i z7j z7k z7l z7m : Value}
    {z7n : Addr} {z7o z7p : Option Addr} {z7q : Array (Option Value)} {z7r z7s z7t z7u z7v z7w z7x : Value}
    {z7y : Addr} {z7z z80 : Option Addr} {z81 : Array (Option Value)} {z82 z83 z84 z85 z86 z87 z88 : Value}
    {z89 : Addr} {z8a z8b : Option Addr} {z8c : Array (Option Value)} {z8d z8e z8f z8g z8h z8i z8j : Value}
    {z8k : Addr} {z8l z8m : Option Addr} {z8n : Array (Option Value)} {z8o z8p z8q z8r z8s z8t z8u : Value}
    {z8v : Addr} {z8w z8x : Option Addr} {z8y : Array (Option Value)} {z8z z90 z91 z92 z93 z94 z95 : Value}
    {z96 : Addr} {z97 z98 : Option Addr} {z99 : Array (Option Value)} {z9a z9b z9c z9d z9e z9f z9g : Value}
    {z9h : Addr} {z9i z9j : Option Addr} {z9k : Array (Option Value)} {z9l z9m z9n z9o z9p z9q z9r : Value}
    {z9s : Addr} {z9t z9u : Option Addr} {z9v : Array (Option Value)} {z9w z9x z9y z9z za0 za1 za2 : Value}
    {za3 : Addr} {za4 za5 : Option Addr} {za6 : Array (Option Value)} {za7 za8 za9 zaa zab zac zad : Value}
    {zae : Addr} {zaf zag : Option Addr} {zah : Array (Option Value)} {zai zaj zak zal zam zan zao : Value}
    {zap : Addr} {zaq zar : Option Addr} {zas : Array (Option Value)} {zat zau zav zaw zax zay zaz : Value}
    {zb0 : Addr} {zb1 zb2 : Option Addr} {zb3 : Array (Option Value)} {zb4 zb5 zb6 zb7 zb8 zb9 zba : Value}
    {zbb : Addr} {zbc zbd : Option Addr} {zbe : Array (Option Value)} {zbf zbg zbh zbi zbj zbk zbl : Value}
    {zbm : Addr} {zbn zbo : Option Addr} {zbp : Array (Option Value)} {zbq zbr zbs zbt zbu zbv zbw : Value}
    {zbx : Addr} {zby zbz : Option Addr} {zc0 : Array (Option Value)} {zc1 zc2 zc3 zc4 zc5 zc6 zc7 : Value}
    {zc8 : Addr} {zc9 zca : Option Addr} {zcb : Array (Option Value)} {zcc zcd zce zcf zcg zch zci : Value}
    {zcj : Addr} {zck zcl : Option Addr} {zcm : Array (Option Value)} {zcn zco zcp zcq zcr zcs zct : Value}
    {zcu : Addr} {zcv zcw : Option Addr} {zcx : Array (Option Value)} {zcy zcz zd0 zd1 zd2 zd3 zd4 : Value}
    {zd5 : Addr} {zd6 zd7 : Option Addr} {zd8 : Array (Option Value)} {zd9 zda zdb zdc zdd zde zdf : Value}
    {zdg : Addr}
    {zdh : Addr}
    {zdi : Addr}
    {zdj : Addr}
    {zdk : Addr}
    {zdl : Addr}
    {zdm : Addr}
    {zdn : Addr}
    {zdo : Addr}
    {zdp : Addr}
    {zdq : Addr}
    {zdr : Addr}
    {zds : Addr}
    {zdt : Addr}
    {zdu : Addr}
    {zdv : Addr}
    {zdw : Addr}
    {zdx : Addr}
    {zdy : Addr}
    {zdz : Addr}
    {ze0 : Addr}
    {ze1 : Addr}
    {ze2 : Addr}
    {ze3 : Addr}
    {ze4 ze5 : Addr} {ze6 : Value} {ze7 : Option Addr} {ze8 : Array Value} {ze9 : Array (Option Value)}
    {zea zeb : Addr} {zec : Value} {zed : Option Addr} {zee : Array Value} {zef : Array (Option Value)}
    {zeg : Value}
    {zeh : Value}
    {zei : Value}
    {zej : Addr} {zek : Option Addr} {zel : Nat} {zem : Array (Option Value)} {zen : Tok}
    {zeo : Addr} {zep : Option Addr} {zeq : Nat} {zer : Array (Option Value)} {zes : Tok}
    {zet : Addr} {zeu : Option Addr} {zev : Array Value} {zew : Nat} {zex : Array (Option Value)}
    (zey : PySem.W.nsIn K mainGlobals "Yard" = some (some (.ref zdg)))
    (zez : PySem.W.nsIn K mainGlobals "law" = some (some (.ref z0)))
    (zf0 : K.lookup z0 = some ⟨z4, z1, .func (PySem.W.fnOf "law" "law" (defArgs s_law) (defBody s_law) (defScope s_law) z5 z6 z7 z8 z2 z9 za), z3⟩)
    (zf1 : PySem.W.codeIn K z9 "law" = true)
    (zf2 : PySem.W.keepIn K (.ref z0) = true)
    (zf3 : z5 = .none)
    (zf4 : PySem.W.nsIn K mainGlobals "_law_draws" = some (some (.ref zb)))
    (zf5 : K.lookup zb = some ⟨zf, zc, .func (PySem.W.fnOf "_law_draws" "_law_draws" (defArgs s_draws) (defBody s_draws) (defScope s_draws) zg zh zi zj zd zk zl), ze⟩)
    (zf6 : PySem.W.codeIn K zk "_law_draws" = true)
    (zf7 : PySem.W.keepIn K (.ref zb) = true)
    (zf8 : zg = .none)
    (zf9 : PySem.W.nsIn K mainGlobals "_law_built" = some (some (.ref zm)))
    (zfa : K.lookup zm = some ⟨zq, zn, .func (PySem.W.fnOf "_law_built" "_law_built" (defArgs s_built) (defBody s_built) (defScope s_built) zr zs zt zu zo zv zw), zp⟩)
    (zfb : PySem.W.codeIn K zv "_law_built" = true)
    (zfc : PySem.W.keepIn K (.ref zm) = true)
    (zfd : zr = .none)
    (zfe : PySem.W.nsIn K mainGlobals "_law_kind" = some (some (.ref zx)))
    (zff : K.lookup zx = some ⟨z11, zy, .func (PySem.W.fnOf "_law_kind" "_law_kind" (defArgs s_kind) (defBody s_kind) (defScope s_kind) z12 z13 z14 z15 zz z16 z17), z10⟩)
    (zfg : PySem.W.codeIn K z16 "_law_kind" = true)
    (zfh : PySem.W.keepIn K (.ref zx) = true)
    (zfi : z12 = .none)
    (zfj : PySem.W.nsIn K mainGlobals "_law_kinds" = some (some (.ref z18)))
    (zfk : K.lookup z18 = some ⟨z1c, z19, .func (PySem.W.fnOf "_law_kinds" "_law_kinds" (defArgs s_kinds) (defBody s_kinds) (defScope s_kinds) z1d z1e z1f z1g z1a z1h z1i), z1b⟩)
    (zfl : PySem.W.codeIn K z1h "_law_kinds" = true)
    (zfm : PySem.W.keepIn K (.ref z18) = true)
    (zfn : z1d = .none)
    (zfo : PySem.W.nsIn K mainGlobals "_law_many" = some (some (.ref z1j)))
    (zfp : K.lookup z1j = some ⟨z1n, z1k, .func (PySem.W.fnOf "_law_many" "_law_many" (defArgs s_many) (defBody s_many) (defScope s_many) z1o z1p z1q z1r z1l z1s z1t), z1m⟩)
    (zfq : PySem.W.codeIn K z1s "_law_many" = true)
    (zfr : PySem.W.keepIn K (.ref z1j) = true)
    (zfs : z1o = .none)
    (zft : PySem.W.nsIn K mainGlobals "_law_linked" = some (some (.ref z1u)))
    (zfu : K.lookup z1u = some ⟨z1y, z1v, .func (PySem.W.fnOf "_law_linked" "_law_linked" (defArgs s_linked) (defBody s_linked) (defScope s_linked) z1z z20 z21 z22 z1w z23 z24), z1x⟩)
    (zfv : PySem.W.codeIn K z23 "_law_linked" = true)
    (zfw : PySem.W.keepIn K (.ref z1u) = true)
    (zfx : z1z = .none)
    (zfy : PySem.W.nsIn K mainGlobals "_law_ends" = some (some (.ref z25)))
    (zfz : K.lookup z25 = some ⟨z29, z26, .func (PySem.W.fnOf "_law_ends" "_law_ends" (defArgs s_ends) (defBody s_ends) (defScope s_ends) z2a z2b z2c z2d z27 z2e z2f), z28⟩)
    (zg0 : PySem.W.codeIn K z2e "_law_ends" = true)
    (zg1 : PySem.W.keepIn K (.ref z25) = true)
    (zg2 : z2a = .none)
    (zg3 : PySem.W.nsIn K mainGlobals "_law_size" = some (some (.ref z2g)))
    (zg4 : K.lookup z2g = some ⟨z2k, z2h, .func (PySem.W.fnOf "_law_size" "_law_size" (defArgs s_size) (defBody s_size) (defScope s_size) z2l z2m z2n z2o z2i z2p z2q), z2j⟩)
    (zg5 : PySem.W.codeIn K z2p "_law_size" = true)
    (zg6 : PySem.W.keepIn K (.ref z2g) = true)
    (zg7 : z2l = .none)
    (zg8 : PySem.W.nsIn K mainGlobals "_law_lift_due" = some (some (.ref z2r)))
    (zg9 : K.lookup z2r = some ⟨z2v, z2s, .func (PySem.W.fnOf "_law_lift_due" "_law_lift_due" (defArgs s_lift_due) (defBody s_lift_due) (defScope s_lift_due) z2w z2x z2y z2z z2t z30 z31), z2u⟩)
    (zga : PySem.W.codeIn K z30 "_law_lift_due" = true)
    (zgb : PySem.W.keepIn K (.ref z2r) = true)
    (zgc : z2w = .none)
    (zgd : PySem.W.nsIn K mainGlobals "_law_look" = some (some (.ref z32)))
    (zge : K.lookup z32 = some ⟨z36, z33, .func (PySem.W.fnOf "_law_look" "_law_look" (defArgs s_look) (defBody s_look) (defScope s_look) z37 z38 z39 z3a z34 z3b z3c), z35⟩)
    (zgf : PySem.W.codeIn K z3b "_law_look" = true)
    (zgg : PySem.W.keepIn K (.ref z32) = true)
    (zgh : z37 = .none)
    (zgi : PySem.W.nsIn K mainGlobals "_law_is" = some (some (.ref z3d)))
    (zgj : K.lookup z3d = some ⟨z3h, z3e, .func (PySem.W.fnOf "_law_is" "_law_is" (defArgs s_is) (defBody s_is) (defScope s_is) z3i z3j z3k z3l z3f z3m z3n), z3g⟩)
    (zgk : PySem.W.codeIn K z3m "_law_is" = true)
    (zgl : PySem.W.keepIn K (.ref z3d) = true)
    (zgm : z3i = .none)
    (zgn : PySem.W.nsIn K mainGlobals "_law_whole" = some (some (.ref z3o)))
    (zgo : K.lookup z3o = some ⟨z3s, z3p, .func (PySem.W.fnOf "_law_whole" "_law_whole" (defArgs s_whole) (defBody s_whole) (defScope s_whole) z3t z3u z3v z3w z3q z3x z3y), z3r⟩)
    (zgp : PySem.W.codeIn K z3x "_law_whole" = true)
    (zgq : PySem.W.keepIn K (.ref z3o) = true)
    (zgr : z3t = .none)
    (zgs : PySem.W.nsIn K mainGlobals "_law_refused" = some (some (.ref z3z)))
    (zgt : K.lookup z3z = some ⟨z43, z40, .func (PySem.W.fnOf "_law_refused" "_law_refused" (defArgs s_refused) (defBody s_refused) (defScope s_refused) z44 z45 z46 z47 z41 z48 z49), z42⟩)
    (zgu : PySem.W.codeIn K z48 "_law_refused" = true)
    (zgv : PySem.W.keepIn K (.ref z3z) = true)
    (zgw : z44 = .none)
    (zgx : PySem.W.nsIn K mainGlobals "_law_names" = some (some (.ref z4a)))
    (zgy : K.lookup z4a = some ⟨z4e, z4b, .func (PySem.W.fnOf "_law_names" "_law_names" (defArgs s_names) (defBody s_names) (defScope s_names) z4f z4g z4h z4i z4c z4j z4k), z4d⟩)
    (zgz : PySem.W.codeIn K z4j "_law_names" = true)
    (zh0 : PySem.W.keepIn K (.ref z4a) = true)
    (zh1 : z4f = .none)
    (zh2 : PySem.W.nsIn K mainGlobals "_law_gone" = some (some (.ref z4l)))
    (zh3 : K.lookup z4l = some ⟨z4p, z4m, .func (PySem.W.fnOf "_law_gone" "_law_gone" (defArgs s_gone) (defBody s_gone) (defScope s_gone) z4q z4r z4s z4t z4n z4u z4v), z4o⟩)
    (zh4 : PySem.W.codeIn K z4u "_law_gone" = true)
    (zh5 : PySem.W.keepIn K (.ref z4l) = true)
    (zh6 : z4q = .none)
    (zh7 : PySem.W.nsIn K mainGlobals "_law_freed" = some (some (.ref z4w)))
    (zh8 : K.lookup z4w = some ⟨z50, z4x, .func (PySem.W.fnOf "_law_freed" "_law_freed" (defArgs s_freed) (defBody s_freed) (defScope s_freed) z51 z52 z53 z54 z4y z55 z56), z4z⟩)
    (zh9 : PySem.W.codeIn K z55 "_law_freed" = true)
    (zha : PySem.W.keepIn K (.ref z4w) = true)
    (zhb : z51 = .none)
    (zhc : PySem.W.nsIn K mainGlobals "_law_is_row" = some (some (.ref z57)))
    (zhd : K.lookup z57 = some ⟨z5b, z58, .func (PySem.W.fnOf "_law_is_row" "_law_is_row" (defArgs s_is_row) (defBody s_is_row) (defScope s_is_row) z5c z5d z5e z5f z59 z5g z5h), z5a⟩)
    (zhe : PySem.W.codeIn K z5g "_law_is_row" = true)
    (zhf : PySem.W.keepIn K (.ref z57) = true)
    (zhg : z5c = .none)
    (zhh : PySem.W.nsIn K mainGlobals "check_end" = some (some (.ref z5i)))
    (zhi : K.lookup z5i = some ⟨z5m, z5j, .func (PySem.W.fnOf "check_end" "check_end" (defArgs s_check_end) (defBody s_check_end) (defScope s_check_end) z5n z5o z5p z5q z5k z5r z5s), z5l⟩)
    (zhj : PySem.W.codeIn K z5r "check_end" = true)
    (zhk : PySem.W.keepIn K (.ref z5i) = true)
    (zhl : z5n = .none)
    (zhm : PySem.W.nsIn K mainGlobals "ends_of" = some (some (.ref z5t)))
    (zhn : K.lookup z5t = some ⟨z5x, z5u, .func (PySem.W.fnOf "ends_of" "ends_of" (defArgs s_ends_of) (defBody s_ends_of) (defScope s_ends_of) z5y z5z z60 z61 z5v z62 z63), z5w⟩)
    (zho : PySem.W.codeIn K z62 "ends_of" = true)
    (zhp : PySem.W.keepIn K (.ref z5t) = true)
    (zhq : z5y = .none)
    (zhr : PySem.W.nsIn K mainGlobals "is_point" = some (some (.ref z64)))
    (zhs : K.lookup z64 = some ⟨z68, z65, .func (PySem.W.fnOf "is_point" "is_point" (defArgs s_is_point) (defBody s_is_point) (defScope s_is_point) z69 z6a z6b z6c z66 z6d z6e), z67⟩)
    (zht : PySem.W.codeIn K z6d "is_point" = true)
    (zhu : PySem.W.keepIn K (.ref z64) = true)
    (zhv : z69 = .none)
    (zhw : PySem.W.nsIn K mainGlobals "check_note" = some (some (.ref z6f)))
    (zhx : K.lookup z6f = some ⟨z6j, z6g, .func (PySem.W.fnOf "check_note" "check_note" (defArgs s_check_note) (defBody s_check_note) (defScope s_check_note) z6k z6l z6m z6n z6h z6o z6p), z6i⟩)
    (zhy : PySem.W.codeIn K z6o "check_note" = true)
    (zhz : PySem.W.keepIn K (.ref z6f) = true)
    (zi0 : z6k = .none)
    (zi1 : PySem.W.nsIn K mainGlobals "check_side" = some (some (.ref z6q)))
    (zi2 : K.lookup z6q = some ⟨z6u, z6r, .func (PySem.W.fnOf "check_side" "check_side" (defArgs s_check_side) (defBody s_check_side) (defScope s_check_side) z6v z6w z6x z6y z6s z6z z70), z6t⟩)
    (zi3 : PySem.W.codeIn K z6z "check_side" = true)
    (zi4 : PySem.W.keepIn K (.ref z6q) = true)
    (zi5 : z6v = .none)
    (zi6 : PySem.W.findIn K (.ref zdg) "__init__" = some (some (.ref z71)))
    (zi7 : PySem.W.isFn K (.ref z71) = true)
    (zi8 : K.lookup z71 = some ⟨z75, z72, .func (PySem.W.fnOf "__init__" "Yard.__init__" (defArgs s_Yard_init) (defBody s_Yard_init) (defScope s_Yard_init) z76 z77 z78 z79 z73 z7a z7b), z74⟩)
    (zi9 : PySem.W.codeIn K z7a "Yard.__init__" = true)
    (zia : PySem.W.keepIn K (.ref z71) = true)
    (zib : z76 = .none)
    (zic : PySem.W.findIn K (.ref zdg) "put" = some (some (.ref z7c)))
    (zid : PySem.W.isFn K (.ref z7c) = true)
    (zie : K.lookup z7c = some ⟨z7g, z7d, .func (PySem.W.fnOf "put" "Yard.put" (defArgs s_Yard_put) (defBody s_Yard_put) (defScope s_Yard_put) z7h z7i z7j z7k z7e z7l z7m), z7f⟩)
    (zif : PySem.W.codeIn K z7l "Yard.put" = true)
    (zig : PySem.W.keepIn K (.ref z7c) = true)
    (zih : z7h = .none)
    (zii : PySem.W.findIn K (.ref zdg) "check_there" = some (some (.ref z7n)))
    (zij : PySem.W.isFn K (.ref z7n) = true)
    (zik : K.lookup z7n = some ⟨z7r, z7o, .func (PySem.W.fnOf "check_there" "Yard.check_there" (defArgs s_Yard_check_there) (defBody s_Yard_check_there) (defScope s_Yard_check_there) z7s z7t z7u z7v z7p z7w z7x), z7q⟩)
    (zil : PySem.W.codeIn K z7w "Yard.check_there" = true)
    (zim : PySem.W.keepIn K (.ref z7n) = true)
    (zin : z7s = .none)
    (zio : PySem.W.findIn K (.ref zdg) "check_piece" = some (some (.ref z7y)))
    (zip : PySem.W.isFn K (.ref z7y) = true)
    (ziq : K.lookup z7y = some ⟨z82, z7z, .func (PySem.W.fnOf "check_piece" "Yard.check_piece" (defArgs s_Yard_check_piece) (defBody s_Yard_check_piece) (defScope s_Yard_check_piece) z83 z84 z85 z86 z80 z87 z88), z81⟩)
    (zir : PySem.W.codeIn K z87 "Yard.check_piece" = true)
    (zis : PySem.W.keepIn K (.ref z7y) = true)
    (zit : z83 = .none)
    (ziu : PySem.W.findIn K (.ref zdg) "end_trail" = some (some (.ref z89)))
    (ziv : PySem.W.isFn K (.ref z89) = true)
    (ziw : K.lookup z89 = some ⟨z8d, z8a, .func (PySem.W.fnOf "end_trail" "Yard.end_trail" (defArgs s_Yard_end_trail) (defBody s_Yard_end_trail) (defScope s_Yard_end_trail) z8e z8f z8g z8h z8b z8i z8j), z8c⟩)
    (zix : PySem.W.codeIn K z8i "Yard.end_trail" = true)
    (ziy : PySem.W.keepIn K (.ref z89) = true)
    (ziz : z8e = .none)
    (zj0 : PySem.W.findIn K (.ref zdg) "lay" = some (some (.ref z8k)))
    (zj1 : PySem.W.isFn K (.ref z8k) = true)
    (zj2 : K.lookup z8k = some ⟨z8o, z8l, .func (PySem.W.fnOf "lay" "Yard.lay" (defArgs s_Yard_lay) (defBody s_Yard_lay) (defScope s_Yard_lay) z8p z8q z8r z8s z8m z8t z8u), z8n⟩)
    (zj3 : PySem.W.codeIn K z8t "Yard.lay" = true)
    (zj4 : PySem.W.keepIn K (.ref z8k) = true)
    (zj5 : z8p = .ref zej)
    (zj6 : K.lookup zej = some ⟨.type "tuple", zek, .seq #[.int 0 zen, .none] zel, zem⟩)
    (zj7 : PySem.W.findIn K (.ref zdg) "check_rod" = some (some (.ref z8v)))
    (zj8 : PySem.W.isFn K (.ref z8v) = true)
    (zj9 : K.lookup z8v = some ⟨z8z, z8w, .func (PySem.W.fnOf "check_rod" "Yard.check_rod" (defArgs s_Yard_check_rod) (defBody s_Yard_check_rod) (defScope s_Yard_check_rod) z90 z91 z92 z93 z8x z94 z95), z8y⟩)
    (zja : PySem.W.codeIn K z94 "Yard.check_rod" = true)
    (zjb : PySem.W.keepIn K (.ref z8v) = true)
    (zjc : z90 = .none)
    (zjd : PySem.W.findIn K (.ref zdg) "new_rod" = some (some (.ref z96)))
    (zje : PySem.W.isFn K (.ref z96) = true)
    (zjf : K.lookup z96 = some ⟨z9a, z97, .func (PySem.W.fnOf "new_rod" "Yard.new_rod" (defArgs s_Yard_new_rod) (defBody s_Yard_new_rod) (defScope s_Yard_new_rod) z9b z9c z9d z9e z98 z9f z9g), z99⟩)
    (zjg : PySem.W.codeIn K z9f "Yard.new_rod" = true)
    (zjh : PySem.W.keepIn K (.ref z96) = true)
    (zji : z9b = .ref zeo)
    (zjj : K.lookup zeo = some ⟨.type "tuple", zep, .seq #[.int 1 zes] zeq, zer⟩)
    (zjk : PySem.W.findIn K (.ref zdg) "rod" = some (some (.ref z9h)))
    (zjl : PySem.W.isFn K (.ref z9h) = true)
    (zjm : K.lookup z9h = some ⟨z9l, z9i, .func (PySem.W.fnOf "rod" "Yard.rod" (defArgs s_Yard_rod) (defBody s_Yard_rod) (defScope s_Yard_rod) z9m z9n z9o z9p z9j z9q z9r), z9k⟩)
    (zjn : PySem.W.codeIn K z9q "Yard.rod" = true)
    (zjo : PySem.W.keepIn K (.ref z9h) = true)
    (zjp : z9m = .none)
    (zjq : PySem.W.findIn K (.ref zdg) "lift" = some (some (.ref z9s)))
    (zjr : PySem.W.isFn K (.ref z9s) = true)
    (zjs : K.lookup z9s = some ⟨z9w, z9t, .func (PySem.W.fnOf "lift" "Yard.lift" (defArgs s_Yard_lift) (defBody s_Yard_lift) (defScope s_Yard_lift) z9x z9y z9z za0 z9u za1 za2), z9v⟩)
    (zjt : PySem.W.codeIn K za1 "Yard.lift" = true)
    (zju : PySem.W.keepIn K (.ref z9s) = true)
    (zjv : z9x = .none)
    (zjw : PySem.W.findIn K (.ref zdg) "pieces" = some (some (.ref za3)))
    (zjx : PySem.W.isFn K (.ref za3) = true)
    (zjy : K.lookup za3 = some ⟨za7, za4, .func (PySem.W.fnOf "pieces" "Yard.pieces" (defArgs s_Yard_pieces) (defBody s_Yard_pieces) (defScope s_Yard_pieces) za8 za9 zaa zab za5 zac zad), za6⟩)
    (zjz : PySem.W.codeIn K zac "Yard.pieces" = true)
    (zk0 : PySem.W.keepIn K (.ref za3) = true)
    (zk1 : za8 = .none)
    (zk2 : PySem.W.findIn K (.ref zdg) "rods" = some (some (.ref zae)))
    (zk3 : PySem.W.isFn K (.ref zae) = true)
    (zk4 : K.lookup zae = some ⟨zai, zaf, .func (PySem.W.fnOf "rods" "Yard.rods" (defArgs s_Yard_rods) (defBody s_Yard_rods) (defScope s_Yard_rods) zaj zak zal zam zag zan zao), zah⟩)
    (zk5 : PySem.W.codeIn K zan "Yard.rods" = true)
    (zk6 : PySem.W.keepIn K (.ref zae) = true)
    (zk7 : zaj = .none)
    (zk8 : PySem.W.findIn K (.ref zdg) "link" = some (some (.ref zap)))
    (zk9 : PySem.W.isFn K (.ref zap) = true)
    (zka : K.lookup zap = some ⟨zat, zaq, .func (PySem.W.fnOf "link" "Yard.link" (defArgs s_Yard_link) (defBody s_Yard_link) (defScope s_Yard_link) zau zav zaw zax zar zay zaz), zas⟩)
    (zkb : PySem.W.codeIn K zay "Yard.link" = true)
    (zkc : PySem.W.keepIn K (.ref zap) = true)
    (zkd : zau = .none)
    (zke : PySem.W.findIn K (.ref zdg) "mate" = some (some (.ref zb0)))
    (zkf : PySem.W.isFn K (.ref zb0) = true)
    (zkg : K.lookup zb0 = some ⟨zb4, zb1, .func (PySem.W.fnOf "mate" "Yard.mate" (defArgs s_Yard_mate) (defBody s_Yard_mate) (defScope s_Yard_mate) zb5 zb6 zb7 zb8 zb2 zb9 zba), zb3⟩)
    (zkh : PySem.W.codeIn K zb9 "Yard.mate" = true)
    (zki : PySem.W.keepIn K (.ref zb0) = true)
    (zkj : zb5 = .none)
    (zkk : PySem.W.findIn K (.ref zdg) "engine" = some (some (.ref zbb)))
    (zkl : PySem.W.isFn K (.ref zbb) = true)
    (zkm : K.lookup zbb = some ⟨zbf, zbc, .func (PySem.W.fnOf "engine" "Yard.engine" (defArgs s_Yard_engine) (defBody s_Yard_engine) (defScope s_Yard_engine) zbg zbh zbi zbj zbd zbk zbl), zbe⟩)
    (zkn : PySem.W.codeIn K zbk "Yard.engine" = true)
    (zko : PySem.W.keepIn K (.ref zbb) = true)
    (zkp : zbg = .none)
    (zkq : PySem.W.findIn K (.ref zdg) "bells" = some (some (.ref zbm)))
    (zkr : PySem.W.isFn K (.ref zbm) = true)
    (zks : K.lookup zbm = some ⟨zbq, zbn, .func (PySem.W.fnOf "bells" "Yard.bells" (defArgs s_Yard_bells) (defBody s_Yard_bells) (defScope s_Yard_bells) zbr zbs zbt zbu zbo zbv zbw), zbp⟩)
    (zkt : PySem.W.codeIn K zbv "Yard.bells" = true)
    (zku : PySem.W.keepIn K (.ref zbm) = true)
    (zkv : zbr = .none)
    (zkw : PySem.W.findIn K (.ref zdg) "kind" = some (some (.ref zbx)))
    (zkx : PySem.W.isFn K (.ref zbx) = true)
    (zky : K.lookup zbx = some ⟨zc1, zby, .func (PySem.W.fnOf "kind" "Yard.kind" (defArgs s_Yard_kind) (defBody s_Yard_kind) (defScope s_Yard_kind) zc2 zc3 zc4 zc5 zbz zc6 zc7), zc0⟩)
    (zkz : PySem.W.codeIn K zc6 "Yard.kind" = true)
    (zl0 : PySem.W.keepIn K (.ref zbx) = true)
    (zl1 : zc2 = .none)
    (zl2 : PySem.W.findIn K (.ref zdg) "side" = some (some (.ref zc8)))
    (zl3 : PySem.W.isFn K (.ref zc8) = true)
    (zl4 : K.lookup zc8 = some ⟨zcc, zc9, .func (PySem.W.fnOf "side" "Yard.side" (defArgs s_Yard_side) (defBody s_Yard_side) (defScope s_Yard_side) zcd zce zcf zcg zca zch zci), zcb⟩)
    (zl5 : PySem.W.codeIn K zch "Yard.side" = true)
    (zl6 : PySem.W.keepIn K (.ref zc8) = true)
    (zl7 : zcd = .none)
    (zl8 : PySem.W.findIn K (.ref zdg) "note" = some (some (.ref zcj)))
    (zl9 : PySem.W.isFn K (.ref zcj) = true)
    (zla : K.lookup zcj = some ⟨zcn, zck, .func (PySem.W.fnOf "note" "Yard.note" (defArgs s_Yard_note) (defBody s_Yard_note) (defScope s_Yard_note) zco zcp zcq zcr zcl zcs zct), zcm⟩)
    (zlb : PySem.W.codeIn K zcs "Yard.note" = true)
    (zlc : PySem.W.keepIn K (.ref zcj) = true)
    (zld : zco = .none)
    (zle : PySem.W.findIn K (.ref zdg) "unlink" = some (some (.ref zcu)))
    (zlf : PySem.W.isFn K (.ref zcu) = true)
    (zlg : K.lookup zcu = some ⟨zcy, zcv, .func (PySem.W.fnOf "unlink" "Yard.unlink" (defArgs s_Yard_unlink) (defBody s_Yard_unlink) (defScope s_Yard_unlink) zcz zd0 zd1 zd2 zcw zd3 zd4), zcx⟩)
    (zlh : PySem.W.codeIn K zd3 "Yard.unlink" = true)
    (zli : PySem.W.keepIn K (.ref zcu) = true)
    (zlj : zcz = .none)
    (zlk : PySem.W.findIn K (.ref zdg) "off" = some (some (.ref zd5)))
    (zll : PySem.W.isFn K (.ref zd5) = true)
    (zlm : K.lookup zd5 = some ⟨zd9, zd6, .func (PySem.W.fnOf "off" "Yard.off" (defArgs s_Yard_off) (defBody s_Yard_off) (defScope s_Yard_off) zda zdb zdc zdd zd7 zde zdf), zd8⟩)
    (zln : PySem.W.codeIn K zde "Yard.off" = true)
    (zlo : PySem.W.keepIn K (.ref zd5) = true)
    (zlp : zda = .none)
    (zlq : PySem.W.plainGet K zdg Str.empty = true)
    (zlr : PySem.W.hasDictIn K zdg = true)
    (zls : PySem.W.plainOver K zdg = true)
    (zlt : PySem.W.findIn K (.ref zdg) "__setattr__" = some (some (.builtin "object.__setattr__")))
    (zlu : PySem.W.makesIn K zdg = true)
    (zlv : PySem.W.keepIn K (.ref zdg) = true)
    (zlw : PySem.W.findIn K (.ref zdg) "next_piece" = some none)
    (zlx : PySem.W.findIn K (.ref zdg) "kinds" = some none)
    (zly : PySem.W.findIn K (.ref zdg) "notes" = some none)
    (zlz : PySem.W.findIn K (.ref zdg) "rods_under" = some none)
    (zm0 : PySem.W.findIn K (.ref zdg) "sides" = some none)
    (zm1 : PySem.W.findIn K (.ref zdg) "mates" = some none)
    (zm2 : PySem.W.findIn K (.ref zdg) "engine_end" = some none)
    (zm3 : PySem.W.findIn K (.ref zdg) "rung" = some none)
    (zm4 : PySem.W.findIn K (.ref zdg) "trail" = some none)
    (zm5 : PySem.W.nsIn K mainGlobals "RailError" = some (some (.ref zdh)))
    (zm6 : PySem.W.nsIn K mainGlobals "NoKind" = some (some (.ref zdi)))
    (zm7 : PySem.W.nsIn K mainGlobals "NoEnd" = some (some (.ref zdj)))
    (zm8 : PySem.W.nsIn K mainGlobals "NoSide" = some (some (.ref zdk)))
    (zm9 : PySem.W.nsIn K mainGlobals "NoNote" = some (some (.ref zdl)))
    (zma : PySem.W.nsIn K mainGlobals "NoPiece" = some (some (.ref zdm)))
    (zmb : PySem.W.nsIn K mainGlobals "NoRod" = some (some (.ref zdn)))
    (zmc : PySem.W.nsIn K mainGlobals "NoPoint" = some (some (.ref zdo)))
    (zmd : PySem.W.nsIn K mainGlobals "NoBell" = some (some (.ref zdp)))
    (zme : PySem.W.nsIn K mainGlobals "SameEnd" = some (some (.ref zdq)))
    (zmf : PySem.W.nsIn K mainGlobals "Linked" = some (some (.ref zdr)))
    (zmg : PySem.W.nsIn K mainGlobals "NotLinked" = some (some (.ref zds)))
    (zmh : PySem.W.nsIn K mainGlobals "Occupied" = some (some (.ref zdt)))
    (zmi : PySem.W.nsIn K mainGlobals "NoStand" = some (some (.ref zdu)))
    (zmj : PySem.W.nsIn K mainGlobals "NoMany" = some (some (.ref zdv)))
    (zmk : PySem.W.nsIn K mainGlobals "NoStretch" = some (some (.ref zdw)))
    (zml : PySem.W.nsIn K mainGlobals "NoRow" = some (some (.ref zdx)))
    (zmm : PySem.W.nsIn K mainGlobals "NoMark" = some (some (.ref zdy)))
    (zmn : PySem.W.nsIn K mainGlobals "NoCounter" = some (some (.ref zdz)))
    (zmo : PySem.W.nsIn K mainGlobals "NoWidth" = some (some (.ref ze0)))
    (zmp : PySem.W.nsIn K mainGlobals "NoValue" = some (some (.ref ze1)))
    (zmq : PySem.W.nsIn K mainGlobals "FallsOut" = some (some (.ref ze2)))
    (zmr : PySem.W.nsIn K mainGlobals "NoText" = some (some (.ref ze3)))
    (zms : excAll K zdi zdh [(zdi, true), (zdj, false), (zdk, false), (zdl, false), (zdm, false), (zdn, false), (zdo, false), (zdp, false), (zdq, false), (zdr, false), (zds, false), (zdt, false), (zdu, false), (zdv, false), (zdw, false), (zdx, false), (zdy, false), (zdz, false), (ze0, false), (ze1, false), (ze2, false), (ze3, false)] = true)
    (zmt : excAll K zdj zdh [(zdi, false), (zdj, true), (zdk, false), (zdl, false), (zdm, false), (zdn, false), (zdo, false), (zdp, false), (zdq, false), (zdr, false), (zds, false), (zdt, false), (zdu, false), (zdv, false), (zdw, false), (zdx, false), (zdy, false), (zdz, false), (ze0, false), (ze1, false), (ze2, false), (ze3, false)] = true)
    (zmu : excAll K zdk zdh [(zdi, false), (zdj, false), (zdk, true), (zdl, false), (zdm, false), (zdn, false), (zdo, false), (zdp, false), (zdq, false), (zdr, false), (zds, false), (zdt, false), (zdu, false), (zdv, false), (zdw, false), (zdx, false), (zdy, false), (zdz, false), (ze0, false), (ze1, false), (ze2, false), (ze3, false)] = true)
    (zmv : excAll K zdl zdh [(zdi, false), (zdj, false), (zdk, false), (zdl, true), (zdm, false), (zdn, false), (zdo, false), (zdp, false), (zdq, false), (zdr, false), (zds, false), (zdt, false), (zdu, false), (zdv, false), (zdw, false), (zdx, false), (zdy, false), (zdz, false), (ze0, false), (ze1, false), (ze2, false), (ze3, false)] = true)
    (zmw : excAll K zdm zdh [(zdi, false), (zdj, false), (zdk, false), (zdl, false), (zdm, true), (zdn, false), (zdo, false), (zdp, false), (zdq, false), (zdr, false), (zds, false), (zdt, false), (zdu, false), (zdv, false), (zdw, false), (zdx, false), (zdy, false), (zdz, false), (ze0, false), (ze1, false), (ze2, false), (ze3, false)] = true)
    (zmx : excAll K zdn zdh [(zdi, false), (zdj, false), (zdk, false), (zdl, false), (zdm, false), (zdn, true), (zdo, false), (zdp, false), (zdq, false), (zdr, false), (zds, false), (zdt, false), (zdu, false), (zdv, false), (zdw, false), (zdx, false), (zdy, false), (zdz, false), (ze0, false), (ze1, false), (ze2, false), (ze3, false)] = true)
    (zmy : excAll K zdq zdh [(zdi, false), (zdj, false), (zdk, false), (zdl, false), (zdm, false), (zdn, false), (zdo, false), (zdp, false), (zdq, true), (zdr, false), (zds, false), (zdt, false), (zdu, false), (zdv, false), (zdw, false), (zdx, false), (zdy, false), (zdz, false), (ze0, false), (ze1, false), (ze2, false), (ze3, false)] = true)
    (zmz : excAll K zdr zdh [(zdi, false), (zdj, false), (zdk, false), (zdl, false), (zdm, false), (zdn, false), (zdo, false), (zdp, false), (zdq, false), (zdr, true), (zds, false), (zdt, false), (zdu, false), (zdv, false), (zdw, false), (zdx, false), (zdy, false), (zdz, false), (ze0, false), (ze1, false), (ze2, false), (ze3, false)] = true)
    (zn0 : excAll K zds zdh [(zdi, false), (zdj, false), (zdk, false), (zdl, false), (zdm, false), (zdn, false), (zdo, false), (zdp, false), (zdq, false), (zdr, false), (zds, true), (zdt, false), (zdu, false), (zdv, false), (zdw, false), (zdx, false), (zdy, false), (zdz, false), (ze0, false), (ze1, false), (ze2, false), (ze3, false)] = true)
    (zn1 : excAll K zdp zdh [(zdi, false), (zdj, false), (zdk, false), (zdl, false), (zdm, false), (zdn, false), (zdo, false), (zdp, true), (zdq, false), (zdr, false), (zds, false), (zdt, false), (zdu, false), (zdv, false), (zdw, false), (zdx, false), (zdy, false), (zdz, false), (ze0, false), (ze1, false), (ze2, false), (ze3, false)] = true)
    (zn2 : excAll K zdo zdh [(zdi, false), (zdj, false), (zdk, false), (zdl, false), (zdm, false), (zdn, false), (zdo, true), (zdp, false), (zdq, false), (zdr, false), (zds, false), (zdt, false), (zdu, false), (zdv, false), (zdw, false), (zdx, false), (zdy, false), (zdz, false), (ze0, false), (ze1, false), (ze2, false), (ze3, false)] = true)
    (zn3 : excAll K zdt zdh [(zdi, false), (zdj, false), (zdk, false), (zdl, false), (zdm, false), (zdn, false), (zdo, false), (zdp, false), (zdq, false), (zdr, false), (zds, false), (zdt, true), (zdu, false), (zdv, false), (zdw, false), (zdx, false), (zdy, false), (zdz, false), (ze0, false), (ze1, false), (ze2, false), (ze3, false)] = true)
    (zn4 : z4u = .ref ze5)
    (zn5 : K.lookup ze5 = some ⟨ze6, ze7, .fields ze8, ze9⟩)
    (zn6 : ze8[11]? = some (.ref ze4))
    (zn7 : PySem.W.codeHdIn K ze5 ze4 = true)
    (zn8 : K.lookup ze4 = none)
    (zn9 : z9 = .ref zeb)
    (zna : K.lookup zeb = some ⟨zec, zed, .fields zee, zef⟩)
    (znb : zee[11]? = some (.ref zea))
    (znc : PySem.W.codeHdIn K zeb zea = true)
    (znd : K.lookup zea = none)
    (zne : ze4 ≠ zea)
    (znf : PySem.W.nsIn K mainGlobals "ValueError" = some none)
    (zng : PySem.W.nsIn K mainGlobals "abs" = some none)
    (znh : PySem.W.nsIn K mainGlobals "all" = some none)
    (zni : PySem.W.nsIn K mainGlobals "bool" = some none)
    (znj : PySem.W.nsIn K mainGlobals "enumerate" = some none)
    (znk : PySem.W.nsIn K mainGlobals "int" = some none)
    (znl : PySem.W.nsIn K mainGlobals "isinstance" = some none)
    (znm : PySem.W.nsIn K mainGlobals "len" = some none)
    (znn : PySem.W.nsIn K mainGlobals "list" = some none)
    (zno : PySem.W.nsIn K mainGlobals "range" = some none)
    (znp : PySem.W.nsIn K mainGlobals "zip" = some none)
    (znq : PySem.W.nsIn K mainGlobals "ENDS" = some (some zeg))
    (znr : ∃ a, zeg = .ref a ∧ TabK K a [("line", .int 2), ("bell", .int 2), ("stop", .int 1), ("still", .int 3), ("lazy", .int 3), ("turning", .int 3)])
    (zns : PySem.W.nsIn K mainGlobals "LAST_NOTE" = some (some zeh))
    (znt : RelV (.int 9999) zeh)
    (znu : PySem.W.nsIn K mainGlobals "POINTS" = some (some zei))
    (znv : zei = .ref zet)
    (znw : K.lookup zet = some ⟨.type "tuple", zeu, .seq zev zew, zex⟩)
    (znx : zev.size ≤ sizeLine)
    (zny : Vals [.str "still", .str "lazy", .str "turning"] zev.toList) :
    Txt K mg ⟨z0, PySem.W.fnOf "law" "law" (defArgs s_law) (defBody s_law) (defScope s_law) z5 z6 z7 z8 z2 z9 za, z5, zb, PySem.W.fnOf "_law_draws" "_law_draws" (defArgs s_draws) (defBody s_draws) (defScope s_draws) zg zh zi zj zd zk zl, zg, zm, PySem.W.fnOf "_law_built" "_law_built" (defArgs s_built) (defBody s_built) (defScope s_built) zr zs zt zu zo zv zw, zr, zx, PySem.W.fnOf "_law_kind" "_law_kind" (defArgs s_kind) (defBody s_kind) (defScope s_kind) z12 z13 z14 z15 zz z16 z17, z12, z18, PySem.W.fnOf "_law_kinds" "_law_kinds" (defArgs s_kinds) (defBody s_kinds) (defScope s_kinds) z1d z1e z1f z1g z1a z1h z1i, z1d, z1j, PySem.W.fnOf "_law_many" "_law_many" (defArgs s_many) (defBody s_many) (defScope s_many) z1o z1p z1q z1r z1l z1s z1t, z1o, z1u, PySem.W.fnOf "_law_linked" "_law_linked" (defArgs s_linked) (defBody s_linked) (defScope s_linked) z1z z20 z21 z22 z1w z23 z24, z1z, z25, PySem.W.fnOf "_law_ends" "_law_ends" (defArgs s_ends) (defBody s_ends) (defScope s_ends) z2a z2b z2c z2d z27 z2e z2f, z2a, z2g, PySem.W.fnOf "_law_size" "_law_size" (defArgs s_size) (defBody s_size) (defScope s_size) z2l z2m z2n z2o z2i z2p z2q, z2l, z2r, PySem.W.fnOf "_law_lift_due" "_law_lift_due" (defArgs s_lift_due) (defBody s_lift_due) (defScope s_lift_due) z2w z2x z2y z2z z2t z30 z31, z2w, z32, PySem.W.fnOf "_law_look" "_law_look" (defArgs s_look) (defBody s_look) (defScope s_look) z37 z38 z39 z3a z34 z3b z3c, z37, z3d, PySem.W.fnOf "_law_is" "_law_is" (defArgs s_is) (defBody s_is) (defScope s_is) z3i z3j z3k z3l z3f z3m z3n, z3i, z3o, PySem.W.fnOf "_law_whole" "_law_whole" (defArgs s_whole) (defBody s_whole) (defScope s_whole) z3t z3u z3v z3w z3q z3x z3y, z3t, z3z, PySem.W.fnOf "_law_refused" "_law_refused" (defArgs s_refused) (defBody s_refused) (defScope s_refused) z44 z45 z46 z47 z41 z48 z49, z44, z4a, PySem.W.fnOf "_law_names" "_law_names" (defArgs s_names) (defBody s_names) (defScope s_names) z4f z4g z4h z4i z4c z4j z4k, z4f, z4l, PySem.W.fnOf "_law_gone" "_law_gone" (defArgs s_gone) (defBody s_gone) (defScope s_gone) z4q z4r z4s z4t z4n z4u z4v, z4q, z4w, PySem.W.fnOf "_law_freed" "_law_freed" (defArgs s_freed) (defBody s_freed) (defScope s_freed) z51 z52 z53 z54 z4y z55 z56, z51, z57, PySem.W.fnOf "_law_is_row" "_law_is_row" (defArgs s_is_row) (defBody s_is_row) (defScope s_is_row) z5c z5d z5e z5f z59 z5g z5h, z5c, z5i, PySem.W.fnOf "check_end" "check_end" (defArgs s_check_end) (defBody s_check_end) (defScope s_check_end) z5n z5o z5p z5q z5k z5r z5s, z5n, z5t, PySem.W.fnOf "ends_of" "ends_of" (defArgs s_ends_of) (defBody s_ends_of) (defScope s_ends_of) z5y z5z z60 z61 z5v z62 z63, z5y, z64, PySem.W.fnOf "is_point" "is_point" (defArgs s_is_point) (defBody s_is_point) (defScope s_is_point) z69 z6a z6b z6c z66 z6d z6e, z69, z6f, PySem.W.fnOf "check_note" "check_note" (defArgs s_check_note) (defBody s_check_note) (defScope s_check_note) z6k z6l z6m z6n z6h z6o z6p, z6k, z6q, PySem.W.fnOf "check_side" "check_side" (defArgs s_check_side) (defBody s_check_side) (defScope s_check_side) z6v z6w z6x z6y z6s z6z z70, z6v, z71, PySem.W.fnOf "__init__" "Yard.__init__" (defArgs s_Yard_init) (defBody s_Yard_init) (defScope s_Yard_init) z76 z77 z78 z79 z73 z7a z7b, z76, z7c, PySem.W.fnOf "put" "Yard.put" (defArgs s_Yard_put) (defBody s_Yard_put) (defScope s_Yard_put) z7h z7i z7j z7k z7e z7l z7m, z7h, z7n, PySem.W.fnOf "check_there" "Yard.check_there" (defArgs s_Yard_check_there) (defBody s_Yard_check_there) (defScope s_Yard_check_there) z7s z7t z7u z7v z7p z7w z7x, z7s, z7y, PySem.W.fnOf "check_piece" "Yard.check_piece" (defArgs s_Yard_check_piece) (defBody s_Yard_check_piece) (defScope s_Yard_check_piece) z83 z84 z85 z86 z80 z87 z88, z83, z89, PySem.W.fnOf "end_trail" "Yard.end_trail" (defArgs s_Yard_end_trail) (defBody s_Yard_end_trail) (defScope s_Yard_end_trail) z8e z8f z8g z8h z8b z8i z8j, z8e, z8k, PySem.W.fnOf "lay" "Yard.lay" (defArgs s_Yard_lay) (defBody s_Yard_lay) (defScope s_Yard_lay) z8p z8q z8r z8s z8m z8t z8u, z8p, z8v, PySem.W.fnOf "check_rod" "Yard.check_rod" (defArgs s_Yard_check_rod) (defBody s_Yard_check_rod) (defScope s_Yard_check_rod) z90 z91 z92 z93 z8x z94 z95, z90, z96, PySem.W.fnOf "new_rod" "Yard.new_rod" (defArgs s_Yard_new_rod) (defBody s_Yard_new_rod) (defScope s_Yard_new_rod) z9b z9c z9d z9e z98 z9f z9g, z9b, z9h, PySem.W.fnOf "rod" "Yard.rod" (defArgs s_Yard_rod) (defBody s_Yard_rod) (defScope s_Yard_rod) z9m z9n z9o z9p z9j z9q z9r, z9m, z9s, PySem.W.fnOf "lift" "Yard.lift" (defArgs s_Yard_lift) (defBody s_Yard_lift) (defScope s_Yard_lift) z9x z9y z9z za0 z9u za1 za2, z9x, za3, PySem.W.fnOf "pieces" "Yard.pieces" (defArgs s_Yard_pieces) (defBody s_Yard_pieces) (defScope s_Yard_pieces) za8 za9 zaa zab za5 zac zad, za8, zae, PySem.W.fnOf "rods" "Yard.rods" (defArgs s_Yard_rods) (defBody s_Yard_rods) (defScope s_Yard_rods) zaj zak zal zam zag zan zao, zaj, zap, PySem.W.fnOf "link" "Yard.link" (defArgs s_Yard_link) (defBody s_Yard_link) (defScope s_Yard_link) zau zav zaw zax zar zay zaz, zau, zb0, PySem.W.fnOf "mate" "Yard.mate" (defArgs s_Yard_mate) (defBody s_Yard_mate) (defScope s_Yard_mate) zb5 zb6 zb7 zb8 zb2 zb9 zba, zb5, zbb, PySem.W.fnOf "engine" "Yard.engine" (defArgs s_Yard_engine) (defBody s_Yard_engine) (defScope s_Yard_engine) zbg zbh zbi zbj zbd zbk zbl, zbg, zbm, PySem.W.fnOf "bells" "Yard.bells" (defArgs s_Yard_bells) (defBody s_Yard_bells) (defScope s_Yard_bells) zbr zbs zbt zbu zbo zbv zbw, zbr, zbx, PySem.W.fnOf "kind" "Yard.kind" (defArgs s_Yard_kind) (defBody s_Yard_kind) (defScope s_Yard_kind) zc2 zc3 zc4 zc5 zbz zc6 zc7, zc2, zc8, PySem.W.fnOf "side" "Yard.side" (defArgs s_Yard_side) (defBody s_Yard_side) (defScope s_Yard_side) zcd zce zcf zcg zca zch zci, zcd, zcj, PySem.W.fnOf "note" "Yard.note" (defArgs s_Yard_note) (defBody s_Yard_note) (defScope s_Yard_note) zco zcp zcq zcr zcl zcs zct, zco, zcu, PySem.W.fnOf "unlink" "Yard.unlink" (defArgs s_Yard_unlink) (defBody s_Yard_unlink) (defScope s_Yard_unlink) zcz zd0 zd1 zd2 zcw zd3 zd4, zcz, zd5, PySem.W.fnOf "off" "Yard.off" (defArgs s_Yard_off) (defBody s_Yard_off) (defScope s_Yard_off) zda zdb zdc zdd zd7 zde zdf, zda, zdg, zdh, zdi, zdj, zdk, zdl, zdm, zdn, zdo, zdp, zdq, zdr, zds, zdt, zdu, zdv, zdw, zdx, zdy, zdz, ze0, ze1, ze2, ze3, ze4, zea, zeg, zeh, zei⟩ where
  F_law := funG_mk zf0 zf1 zf2
  F_draws := funG_mk zf5 zf6 zf7
  F_built := funG_mk zfa zfb zfc
  F_kind := funG_mk zff zfg zfh
  F_kinds := funG_mk zfk zfl zfm
  F_many := funG_mk zfp zfq zfr
  F_linked := funG_mk zfu zfv zfw
  F_ends := funG_mk zfz zg0 zg1
  F_size := funG_mk zg4 zg5 zg6
  F_lift_due := funG_mk zg9 zga zgb
  F_look := funG_mk zge zgf zgg
  F_is := funG_mk zgj zgk zgl
  F_whole := funG_mk zgo zgp zgq
  F_refused := funG_mk zgt zgu zgv
  F_names := funG_mk zgy zgz zh0
  F_gone := funG_mk zh3 zh4 zh5
  F_freed := funG_mk zh8 zh9 zha
  F_is_row := funG_mk zhd zhe zhf
  F_check_end := funG_mk zhi zhj zhk
  F_ends_of := funG_mk zhn zho zhp
  F_is_point := funG_mk zhs zht zhu
  F_check_note := funG_mk zhx zhy zhz
  F_check_side := funG_mk zi2 zi3 zi4
  F_Yard_init := funG_mk zi8 zi9 zia
  F_Yard_put := funG_mk zie zif zig
  F_Yard_check_there := funG_mk zik zil zim
  F_Yard_check_piece := funG_mk ziq zir zis
  F_Yard_end_trail := funG_mk ziw zix ziy
  F_Yard_lay := funG_mk zj2 zj3 zj4
  F_Yard_check_rod := funG_mk zj9 zja zjb
  F_Yard_new_rod := funG_mk zjf zjg zjh
  F_Yard_rod := funG_mk zjm zjn zjo
  F_Yard_lift := funG_mk zjs zjt zju
  F_Yard_pieces := funG_mk zjy zjz zk0
  F_Yard_rods := funG_mk zk4 zk5 zk6
  F_Yard_link := funG_mk zka zkb zkc
  F_Yard_mate := funG_mk zkg zkh zki
  F_Yard_engine := funG_mk zkm zkn zko
  F_Yard_bells := funG_mk zks zkt zku
  F_Yard_kind := funG_mk zky zkz zl0
  F_Yard_side := funG_mk zl4 zl5 zl6
  F_Yard_note := funG_mk zla zlb zlc
  F_Yard_unlink := funG_mk zlg zlh zli
  F_Yard_off := funG_mk zlm zln zlo
  m_law := PySem.W.mg_of KX G zez
  e_law := zf3
  m_draws := PySem.W.mg_of KX G zf4
  e_draws := zf8
  m_built := PySem.W.mg_of KX G zf9
  e_built := zfd
  m_kind := PySem.W.mg_of KX G zfe
  e_kind := zfi
  m_kinds := PySem.W.mg_of KX G zfj
  e_kinds := zfn
  m_many := PySem.W.mg_of KX G zfo
  e_many := zfs
  m_linked := PySem.W.mg_of KX G zft
  e_linked := zfx
  m_ends := PySem.W.mg_of KX G zfy
  e_ends := zg2
  m_size := PySem.W.mg_of KX G zg3
  e_size := zg7
  m_lift_due := PySem.W.mg_of KX G zg8
  e_lift_due := zgc
  m_look := PySem.W.mg_of KX G zgd
  e_look := zgh
  m_is := PySem.W.mg_of KX G zgi
  e_is := zgm
  m_whole := PySem.W.mg_of KX G zgn
  e_whole := zgr
  m_refused := PySem.W.mg_of KX G zgs
  e_refused := zgw
  m_names := PySem.W.mg_of KX G zgx
  e_names := zh1
  m_gone := PySem.W.mg_of KX G zh2
  e_gone := zh6
  m_freed := PySem.W.mg_of KX G zh7
  e_freed := zhb
  m_is_row := PySem.W.mg_of KX G zhc
  e_is_row := zhg
  m_check_end := PySem.W.mg_of KX G zhh
  e_check_end := zhl
  m_ends_of := PySem.W.mg_of KX G zhm
  e_ends_of := zhq
  m_is_point := PySem.W.mg_of KX G zhr
  e_is_point := zhv
  m_check_note := PySem.W.mg_of KX G zhw
  e_check_note := zi0
  m_check_side := PySem.W.mg_of KX G zi1
  e_check_side := zi5
  e_Yard_init := zib
  M_Yard_put := ⟨zic, zid, zig⟩
  e_Yard_put := zih
  M_Yard_check_there := ⟨zii, zij, zim⟩
  e_Yard_check_there := zin
  M_Yard_check_piece := ⟨zio, zip, zis⟩
  e_Yard_check_piece := zit
  M_Yard_end_trail := ⟨ziu, ziv, ziy⟩
  e_Yard_end_trail := ziz
  M_Yard_lay := ⟨zj0, zj1, zj4⟩
  D_Yard_lay := ⟨zej, zek, zel, zem, zen, zj5, zj6⟩
  M_Yard_check_rod := ⟨zj7, zj8, zjb⟩
  e_Yard_check_rod := zjc
  M_Yard_new_rod := ⟨zjd, zje, zjh⟩
  D_Yard_new_rod := ⟨zeo, zep, zeq, zer, zes, zji, zjj⟩
  M_Yard_rod := ⟨zjk, zjl, zjo⟩
  e_Yard_rod := zjp
  M_Yard_lift := ⟨zjq, zjr, zju⟩
  e_Yard_lift := zjv
  M_Yard_pieces := ⟨zjw, zjx, zk0⟩
  e_Yard_pieces := zk1
  M_Yard_rods := ⟨zk2, zk3, zk6⟩
  e_Yard_rods := zk7
  M_Yard_link := ⟨zk8, zk9, zkc⟩
  e_Yard_link := zkd
  M_Yard_mate := ⟨zke, zkf, zki⟩
  e_Yard_mate := zkj
  M_Yard_engine := ⟨zkk, zkl, zko⟩
  e_Yard_engine := zkp
  M_Yard_bells := ⟨zkq, zkr, zku⟩
  e_Yard_bells := zkv
  M_Yard_kind := ⟨zkw, zkx, zl0⟩
  e_Yard_kind := zl1
  M_Yard_side := ⟨zl2, zl3, zl6⟩
  e_Yard_side := zl7
  M_Yard_note := ⟨zl8, zl9, zlc⟩
  e_Yard_note := zld
  M_Yard_unlink := ⟨zle, zlf, zli⟩
  e_Yard_unlink := zlj
  M_Yard_off := ⟨zlk, zll, zlo⟩
  e_Yard_off := zlp
  cl_Yard := ⟨zlq, zlr, zls, zlt⟩
  m_Yard := PySem.W.mg_of KX G zey
  mk_Yard := ⟨zlu, zi6, zi7, zlv⟩
  n_Yard_next_piece := zlw
  n_Yard_kinds := zlx
  n_Yard_notes := zly
  n_Yard_rods_under := zlz
  n_Yard_sides := zm0
  n_Yard_mates := zm1
  n_Yard_engine_end := zm2
  n_Yard_rung := zm3
  n_Yard_trail := zm4
  m_RailError := PySem.W.mg_of KX G zm5
  m_NoKind := PySem.W.mg_of KX G zm6
  m_NoEnd := PySem.W.mg_of KX G zm7
  m_NoSide := PySem.W.mg_of KX G zm8
  m_NoNote := PySem.W.mg_of KX G zm9
  m_NoPiece := PySem.W.mg_of KX G zma
  m_NoRod := PySem.W.mg_of KX G zmb
  m_NoPoint := PySem.W.mg_of KX G zmc
  m_NoBell := PySem.W.mg_of KX G zmd
  m_SameEnd := PySem.W.mg_of KX G zme
  m_Linked := PySem.W.mg_of KX G zmf
  m_NotLinked := PySem.W.mg_of KX G zmg
  m_Occupied := PySem.W.mg_of KX G zmh
  m_NoStand := PySem.W.mg_of KX G zmi
  m_NoMany := PySem.W.mg_of KX G zmj
  m_NoStretch := PySem.W.mg_of KX G zmk
  m_NoRow := PySem.W.mg_of KX G zml
  m_NoMark := PySem.W.mg_of KX G zmm
  m_NoCounter := PySem.W.mg_of KX G zmn
  m_NoWidth := PySem.W.mg_of KX G zmo
  m_NoValue := PySem.W.mg_of KX G zmp
  m_FallsOut := PySem.W.mg_of KX G zmq
  m_NoText := PySem.W.mg_of KX G zmr
  x_NoKind := zms
  x_NoEnd := zmt
  x_NoSide := zmu
  x_NoNote := zmv
  x_NoPiece := zmw
  x_NoRod := zmx
  x_SameEnd := zmy
  x_Linked := zmz
  x_NotLinked := zn0
  x_NoBell := zn1
  x_NoPoint := zn2
  x_Occupied := zn3
  tb_gone := ⟨ze5, zn4, zn7⟩
  tn_gone := zn8
  tb_law := ⟨zeb, zn9, znc⟩
  tn_law := znd
  dj_gone_law := zne
  z_ValueError := PySem.W.mg_none_of KX G znf
  z_abs := PySem.W.mg_none_of KX G zng
  z_all := PySem.W.mg_none_of KX G znh
  z_bool := PySem.W.mg_none_of KX G zni
  z_enumerate := PySem.W.mg_none_of KX G znj
  z_int := PySem.W.mg_none_of KX G znk
  z_isinstance := PySem.W.mg_none_of KX G znl
  z_len := PySem.W.mg_none_of KX G znm
  z_list := PySem.W.mg_none_of KX G znn
  z_range := PySem.W.mg_none_of KX G zno
  z_zip := PySem.W.mg_none_of KX G znp
  g_ENDS := PySem.W.mg_of KX G znq
  x_ENDS := znr
  g_LAST_NOTE := PySem.W.mg_of KX G zns
  r_LAST_NOTE := znt
  g_POINTS := PySem.W.mg_of KX G znu
  x_POINTS := ⟨zet, _, zev, zew, znv, znw, rfl, rfl, znx, zny⟩
end P
def PySem.W.Fast.tw16030079507498255960 : Unit := ()
def PySem.W.Fast.tw13705067829417301844 : Unit := ()
def PySem.W.Fast.tw2483268850464106013 : Unit := ()
def PySem.W.Fast.tw16252030050185004271 : Unit := ()
def PySem.W.Fast.tw7707849802382816015 : Unit := ()
def PySem.W.Fast.tw9803742107179842709 : Unit := ()
def PySem.W.Fast.tw6683916592576270505 : Unit := ()
def PySem.W.Fast.tw12622188530969740394 : Unit := ()
def PySem.W.Fast.tw9346560257494713016 : Unit := ()
def PySem.W.Fast.tw4767349773869359130 : Unit := ()
def PySem.W.Fast.tw14446269744027624344 : Unit := ()
def PySem.W.Fast.tw5715598384325681452 : Unit := ()
def PySem.W.Fast.tw6986146868080542027 : Unit := ()
def PySem.W.Fast.tw12761728077706816452 : Unit := ()
def PySem.W.Fast.tw14934497742365496000 : Unit := ()
def PySem.W.Fast.tw8336431402364560811 : Unit := ()
def PySem.W.Fast.tw15569284481857412562 : Unit := ()
def PySem.W.Fast.tw13335419796435331252 : Unit := ()
def PySem.W.Fast.tw1488446527580439868 : Unit := ()
def PySem.W.Fast.tw5786946619211419986 : Unit := ()
def PySem.W.Fast.tw17097476035210575932 : Unit := ()
def PySem.W.Fast.tw16804640362240815537 : Unit := ()
def PySem.W.Fast.tw10582763965870249827 : Unit := ()
def PySem.W.Fast.tw10807913689342792190 : Unit := ()
def PySem.W.Fast.tw11073424457167140911 : Unit := ()
def PySem.W.Fast.tw694749594161324723 : Unit := ()
def PySem.W.Fast.tw15178435445793199003 : Unit := ()
def PySem.W.Fast.tw2671419640862054753 : Unit := ()
def PySem.W.Fast.tw16816482882439245354 : Unit := ()
def PySem.W.Fast.tw16876996771245167559 : Unit := ()
def PySem.W.Fast.tw16817153188357671471 : Unit := ()
def PySem.W.Fast.tw6887832622352801886 : Unit := ()
def PySem.W.Fast.tw1847678172118778664 : Unit := ()
def PySem.W.Fast.tw11643470200825942825 : Unit := ()
def PySem.W.Fast.tw8087131804870046746 : Unit := ()
def PySem.W.Fast.tw4168831413315266450 : Unit := ()
def PySem.W.Fast.tw13581799263030258831 : Unit := ()
def PySem.W.Fast.tw7982379518735443807 : Unit := ()
def PySem.W.Fast.tw5301830486700259904 : Unit := ()
def PySem.W.Fast.tw12195634003079530353 : Unit := ()
def PySem.W.Fast.tw13320253626975051272 : Unit := ()
def PySem.W.Fast.tw13916743060077895422 : Unit := ()
def PySem.W.Fast.tw1957340974742801957 : Unit := ()
def PySem.W.Fast.tw6529297096180534530 : Unit := ()
def PySem.W.Fast.tw5192655290464690246 : Unit := ()
def PySem.W.Fast.tw12480571463368686139 : Unit := ()
def PySem.W.Fast.tw14699275349443707342 : Unit := ()
def PySem.W.Fast.tw13969457354784478826 : Unit := ()
def PySem.W.Fast.tw3701497132742798991 : Unit := ()
def PySem.W.Fast.tw4797898310045876475 : Unit := ()
def PySem.W.Fast.tw6650306982981359195 : Unit := ()
def PySem.W.Fast.tw15637944392919879334 : Unit := ()
def PySem.W.Fast.tw5022413727004039670 : Unit := ()
def PySem.W.Fast.tw1158067693708262035 : Unit := ()
def PySem.W.Fast.tw4025813787181520659 : Unit := ()
def PySem.W.Fast.tw14482104807401881440 : Unit := ()
def PySem.W.Fast.tw1814613409520514274 : Unit := ()
def PySem.W.Fast.tw9820135892567714526 : Unit := ()
def PySem.W.Fast.tw14886393870230477776 : Unit := ()
def PySem.W.Fast.tw6665040770414421664 : Unit := ()
def PySem.W.Fast.tw16146130416046064828 : Unit := ()
def PySem.W.Fast.tw11228007030238878716 : Unit := ()
def PySem.W.Fast.tw8015606717150306024 : Unit := ()
def PySem.W.Fast.tw7044746943474354468 : Unit := ()
def PySem.W.Fast.tw13234405954428709407 : Unit := ()
def PySem.W.Fast.tw4788249408516762013 : Unit := ()
def PySem.W.Fast.tw14648187550261951797 : Unit := ()
def PySem.W.Fast.tw14946373455059763841 : Unit := ()
def PySem.W.Fast.tw18216286111531874544 : Unit := ()
def PySem.W.Fast.tw611435355701099338 : Unit := ()
def PySem.W.Fast.tw3384946872335456813 : Unit := ()
def PySem.W.Fast.tw1095506571422674896 : Unit := ()
def PySem.W.Fast.tw238600909545149051 : Unit := ()
def PySem.W.Fast.tw3379135016983619097 : Unit := ()
def PySem.W.Fast.tw9689285715766216021 : Unit := ()
def PySem.W.Fast.tw17172144872379435718 : Unit := ()
def PySem.W.Fast.tw8127897842284120969 : Unit := ()

open PySem PySem.W PyProof.Rows
set_option maxRecDepth 100000 in
set_option maxHeartbeats 0 in
theorem PySem.Challenge.cw_lazyrails_k08_pieces_lifted_holds : PySem.Challenge.rw_lazyrails_k08_pieces_lifted.Holds := by
  w_on; o_law; k_head; (case hw => w_witness2)
  k_fill
  refine L2.walk_ofTs (l := PySem.Challenge.rw_lazyrails_k08_pieces_lifted) (n := 63) (k := 14) (x := "_law_script") (sp := P.sp_lawTs) rfl (by decide) rfl ⟨rfl, by decide, by decide, rfl⟩ (fun w h Y => ⟨PySem.W.km_in_of Y, PySem.W.km_tabs_of Y⟩) ?F
  case F =>
    intro w mg fa h KX G hmg
    refine P.finFs hmg ?_
    refine' ⟨_, P.txt_mk KX G ?zey ?zez ?zf0 ?zf1 ?zf2 ?zf3 ?zf4 ?zf5 ?zf6 ?zf7 ?zf8 ?zf9 ?zfa ?zfb ?zfc ?zfd ?zfe ?zff ?zfg ?zfh ?zfi ?zfj ?zfk ?zfl ?zfm ?zfn ?zfo ?zfp ?zfq ?zfr ?zfs ?zft ?zfu ?zfv ?zfw ?zfx ?zfy ?zfz ?zg0 ?zg1 ?zg2 ?zg3 ?zg4 ?zg5 ?zg6 ?zg7 ?zg8 ?zg9 ?zga ?zgb ?zgc ?zgd ?zge ?zgf ?zgg ?zgh ?zgi ?zgj ?zgk ?zgl ?zgm ?zgn ?zgo ?zgp ?zgq ?zgr ?zgs ?zgt ?zgu ?zgv ?zgw ?zgx ?zgy ?zgz ?zh0 ?zh1 ?zh2 ?zh3 ?zh4 ?zh5 ?zh6 ?zh7 ?zh8 ?zh9 ?zha ?zhb ?zhc ?zhd ?zhe ?zhf ?zhg ?zhh ?zhi ?zhj ?zhk ?zhl ?zhm ?zhn ?zho ?zhp ?zhq ?zhr ?zhs ?zht ?zhu ?zhv ?zhw ?zhx ?zhy ?zhz ?zi0 ?zi1 ?zi2 ?zi3 ?zi4 ?zi5 ?zi6 ?zi7 ?zi8 ?zi9 ?zia ?zib ?zic ?zid ?zie ?zif ?zig ?zih ?zii ?zij ?zik ?zil ?zim ?zin ?zio ?zip ?ziq ?zir ?zis ?zit ?ziu ?ziv ?ziw ?zix ?ziy ?ziz ?zj0 ?zj1 ?zj2 ?zj3 ?zj4 ?zj5 ?zj6 ?zj7 ?zj8 ?zj9 ?zja ?zjb ?zjc ?zjd ?zje ?zjf ?zjg ?zjh ?zji ?zjj ?zjk ?zjl ?zjm ?zjn ?zjo ?zjp ?zjq ?zjr ?zjs ?zjt ?zju ?zjv ?zjw ?zjx ?zjy ?zjz ?zk0 ?zk1 ?zk2 ?zk3 ?zk4 ?zk5 ?zk6 ?zk7 ?zk8 ?zk9 ?zka ?zkb ?zkc ?zkd ?zke ?zkf ?zkg ?zkh ?zki ?zkj ?zkk ?zkl ?zkm ?zkn ?zko ?zkp ?zkq ?zkr ?zks ?zkt ?zku ?zkv ?zkw ?zkx ?zky ?zkz ?zl0 ?zl1 ?zl2 ?zl3 ?zl4 ?zl5 ?zl6 ?zl7 ?zl8 ?zl9 ?zla ?zlb ?zlc ?zld ?zle ?zlf ?zlg ?zlh ?zli ?zlj ?zlk ?zll ?zlm ?zln ?zlo ?zlp ?zlq ?zlr ?zls ?zlt ?zlu ?zlv ?zlw ?zlx ?zly ?zlz ?zm0 ?zm1 ?zm2 ?zm3 ?zm4 ?zm5 ?zm6 ?zm7 ?zm8 ?zm9 ?zma ?zmb ?zmc ?zmd ?zme ?zmf ?zmg ?zmh ?zmi ?zmj ?zmk ?zml ?zmm ?zmn ?zmo ?zmp ?zmq ?zmr ?zms ?zmt ?zmu ?zmv ?zmw ?zmx ?zmy ?zmz ?zn0 ?zn1 ?zn2 ?zn3 ?zn4 ?zn5 ?zn6 ?zn7 ?zn8 ?zn9 ?zna ?znb ?znc ?znd ?zne ?znf ?zng ?znh ?zni ?znj ?znk ?znl ?znm ?znn ?zno ?znp ?znq ?znr ?zns ?znt ?znu ?znv ?znw ?znx ?zny, ?mem_gone, ?mem_law⟩
    (case zey => k_is)
    (case zez => k_is)
    (case zf0 => k_is)
    (case zf1 => k_is)
    (case zf2 => k_is)
    (case zf3 => exact rfl)
    (case zf4 => k_is)
    (case zf5 => k_is)
    (case zf6 => k_is)
    (case zf7 => k_is)
    (case zf8 => exact rfl)
    (case zf9 => k_is)
    (case zfa => k_is)
    (case zfb => k_is)
    (case zfc => k_is)
    (case zfd => exact rfl)
    (case zfe => k_is)
    (case zff => k_is)
    (case zfg => k_is)
    (case zfh => k_is)
    (case zfi => exact rfl)
    (case zfj => k_is)
    (case zfk => k_is)
    (case zfl => k_is)
    (case zfm => k_is)
    (case zfn => exact rfl)
    (case zfo => k_is)
    (case zfp => k_is)
    (case zfq => k_is)
    (case zfr => k_is)
    (case zfs => exact rfl)
    (case zft => k_is)
    (case zfu => k_is)
    (case zfv => k_is)
    (case zfw => k_is)
    (case zfx => exact rfl)
    (case zfy => k_is)
    (case zfz => k_is)
    (case zg0 => k_is)
    (case zg1 => k_is)
    (case zg2 => exact rfl)
    (case zg3 => k_is)
    (case zg4 => k_is)
    (case zg5 => k_is)
    (case zg6 => k_is)
    (case zg7 => exact rfl)
    (case zg8 => k_is)
    (case zg9 => k_is)
    (case zga => k_is)
    (case zgb => k_is)
    (case zgc => exact rfl)
    (case zgd => k_is)
    (case zge => k_is)
    (case zgf => k_is)
    (case zgg => k_is)
    (case zgh => exact rfl)
    (case zgi => k_is)
    (case zgj => k_is)
    (case zgk => k_is)
    (case zgl => k_is)
    (case zgm => exact rfl)
    (case zgn => k_is)
    (case zgo => k_is)
    (case zgp => k_is)
    (case zgq => k_is)
    (case zgr => exact rfl)
    (case zgs => k_is)
    (case zgt => k_is)
    (case zgu => k_is)
    (case zgv => k_is)
    (case zgw => exact rfl)
    (case zgx => k_is)
    (case zgy => k_is)
    (case zgz => k_is)
    (case zh0 => k_is)
    (case zh1 => exact rfl)
    (case zh2 => k_is)
    (case zh3 => k_is)
    (case zh4 => k_is)
    (case zh5 => k_is)
    (case zh6 => exact rfl)
    (case zh7 => k_is)
    (case zh8 => k_is)
    (case zh9 => k_is)
    (case zha => k_is)
    (case zhb => exact rfl)
    (case zhc => k_is)
    (case zhd => k_is)
    (case zhe => k_is)
    (case zhf => k_is)
    (case zhg => exact rfl)
    (case zhh => k_is)
    (case zhi => k_is)
    (case zhj => k_is)
    (case zhk => k_is)
    (case zhl => exact rfl)
    (case zhm => k_is)
    (case zhn => k_is)
    (case zho => k_is)
    (case zhp => k_is)
    (case zhq => exact rfl)
    (case zhr => k_is)
    (case zhs => k_is)
    (case zht => k_is)
    (case zhu => k_is)
    (case zhv => exact rfl)
    (case zhw => k_is)
    (case zhx => k_is)
    (case zhy => k_is)
    (case zhz => k_is)
    (case zi0 => exact rfl)
    (case zi1 => k_is)
    (case zi2 => k_is)
    (case zi3 => k_is)
    (case zi4 => k_is)
    (case zi5 => exact rfl)
    (case zi6 => k_is)
    (case zi7 => k_is)
    (case zi8 => k_is)
    (case zi9 => k_is)
    (case zia => k_is)
    (case zib => exact rfl)
    (case zic => k_is)
    (case zid => k_is)
    (case zie => k_is)
    (case zif => k_is)
    (case zig => k_is)
    (case zih => exact rfl)
    (case zii => k_is)
    (case zij => k_is)
    (case zik => k_is)
    (case zil => k_is)
    (case zim => k_is)
    (case zin => exact rfl)
    (case zio => k_is)
    (case zip => k_is)
    (case ziq => k_is)
    (case zir => k_is)
    (case zis => k_is)
    (case zit => exact rfl)
    (case ziu => k_is)
    (case ziv => k_is)
    (case ziw => k_is)
    (case zix => k_is)
    (case ziy => k_is)
    (case ziz => exact rfl)
    (case zj0 => k_is)
    (case zj1 => k_is)
    (case zj2 => k_is)
    (case zj3 => k_is)
    (case zj4 => k_is)
    (case zj5 => exact rfl)
    (case zj6 => k_is)
    (case zj7 => k_is)
    (case zj8 => k_is)
    (case zj9 => k_is)
    (case zja => k_is)
    (case zjb => k_is)
    (case zjc => exact rfl)
    (case zjd => k_is)
    (case zje => k_is)
    (case zjf => k_is)
    (case zjg => k_is)
    (case zjh => k_is)
    (case zji => exact rfl)
    (case zjj => k_is)
    (case zjk => k_is)
    (case zjl => k_is)
    (case zjm => k_is)
    (case zjn => k_is)
    (case zjo => k_is)
    (case zjp => exact rfl)
    (case zjq => k_is)
    (case zjr => k_is)
    (case zjs => k_is)
    (case zjt => k_is)
    (case zju => k_is)
    (case zjv => exact rfl)
    (case zjw => k_is)
    (case zjx => k_is)
    (case zjy => k_is)
    (case zjz => k_is)
    (case zk0 => k_is)
    (case zk1 => exact rfl)
    (case zk2 => k_is)
    (case zk3 => k_is)
    (case zk4 => k_is)
    (case zk5 => k_is)
    (case zk6 => k_is)
    (case zk7 => exact rfl)
    (case zk8 => k_is)
    (case zk9 => k_is)
    (case zka => k_is)
    (case zkb => k_is)
    (case zkc => k_is)
    (case zkd => exact rfl)
    (case zke => k_is)
    (case zkf => k_is)
    (case zkg => k_is)
    (case zkh => k_is)
    (case zki => k_is)
    (case zkj => exact rfl)
    (case zkk => k_is)
    (case zkl => k_is)
    (case zkm => k_is)
    (case zkn => k_is)
    (case zko => k_is)
    (case zkp => exact rfl)
    (case zkq => k_is)
    (case zkr => k_is)
    (case zks => k_is)
    (case zkt => k_is)
    (case zku => k_is)
    (case zkv => exact rfl)
    (case zkw => k_is)
    (case zkx => k_is)
    (case zky => k_is)
    (case zkz => k_is)
    (case zl0 => k_is)
    (case zl1 => exact rfl)
    (case zl2 => k_is)
    (case zl3 => k_is)
    (case zl4 => k_is)
    (case zl5 => k_is)
    (case zl6 => k_is)
    (case zl7 => exact rfl)
    (case zl8 => k_is)
    (case zl9 => k_is)
    (case zla => k_is)
    (case zlb => k_is)
    (case zlc => k_is)
    (case zld => exact rfl)
    (case zle => k_is)
    (case zlf => k_is)
    (case zlg => k_is)
    (case zlh => k_is)
    (case zli => k_is)
    (case zlj => exact rfl)
    (case zlk => k_is)
    (case zll => k_is)
    (case zlm => k_is)
    (case zln => k_is)
    (case zlo => k_is)
    (case zlp => exact rfl)
    (case zlq => k_is)
    (case zlr => k_is)
    (case zls => k_is)
    (case zlt => k_is)
    (case zlu => k_is)
    (case zlv => k_is)
    (case zlw => k_is)
    (case zlx => k_is)
    (case zly => k_is)
    (case zlz => k_is)
    (case zm0 => k_is)
    (case zm1 => k_is)
    (case zm2 => k_is)
    (case zm3 => k_is)
    (case zm4 => k_is)
    (case zm5 => k_is)
    (case zm6 => k_is)
    (case zm7 => k_is)
    (case zm8 => k_is)
    (case zm9 => k_is)
    (case zma => k_is)
    (case zmb => k_is)
    (case zmc => k_is)
    (case zmd => k_is)
    (case zme => k_is)
    (case zmf => k_is)
    (case zmg => k_is)
    (case zmh => k_is)
    (case zmi => k_is)
    (case zmj => k_is)
    (case zmk => k_is)
    (case zml => k_is)
    (case zmm => k_is)
    (case zmn => k_is)
    (case zmo => k_is)
    (case zmp => k_is)
    (case zmq => k_is)
    (case zmr => k_is)
    (case zms => kernel_rfl)
    (case zmt => kernel_rfl)
    (case zmu => kernel_rfl)
    (case zmv => kernel_rfl)
    (case zmw => kernel_rfl)
    (case zmx => kernel_rfl)
    (case zmy => kernel_rfl)
    (case zmz => kernel_rfl)
    (case zn0 => kernel_rfl)
    (case zn1 => kernel_rfl)
    (case zn2 => kernel_rfl)
    (case zn3 => kernel_rfl)
    (case zn4 => exact rfl)
    (case zn5 => k_is)
    (case zn6 => exact rfl)
    (case zn7 => kernel_rfl)
    (case zn8 => kernel_rfl)
    (case zn9 => exact rfl)
    (case zna => k_is)
    (case znb => exact rfl)
    (case znc => kernel_rfl)
    (case znd => kernel_rfl)
    (case zne => decide)
    (case znf => k_is)
    (case zng => k_is)
    (case znh => k_is)
    (case zni => k_is)
    (case znj => k_is)
    (case znk => k_is)
    (case znl => k_is)
    (case znm => k_is)
    (case znn => k_is)
    (case zno => k_is)
    (case znp => k_is)
    (case znq => k_is)
    (case znr => exact ⟨_, rfl, by kernel_rfl⟩)
    (case zns => k_is)
    (case znt => exact ⟨_, rfl⟩)
    (case znu => k_is)
    (case znv => exact rfl)
    (case znw => k_is)
    (case znx => exact (show 3 ≤ PySem.sizeLine by decide))
    (case zny => exact .cons ⟨_, rfl⟩ (.cons ⟨_, rfl⟩ (.cons ⟨_, rfl⟩ (.nil))))
    (case mem_gone => decide)
    (case mem_law => decide)
