import PyProof.Rows.All
import Wide.All
import OpenK.AllK
import Wide.FinOn
import Lean
import PyProof.EqAt
import PyProof.EqKinds
import PyProof.TupleCall
import PyProof.ZipIter
import PyProof.EnumMake
import PyProof.ListRange
import KE.KDictList
import KE.LcSums
import KE.KTabLook
import PyProof.P3In
import PySem.Challenge.RW_lazyrails_k34_programs_refused
set_option Elab.async false
set_option linter.all false
set_option maxRecDepth 100000
namespace L2
open PySem PySem.Spec PyProof.Rows

abbrev Key := Sum Int Str
def keyIs : Key → Value → Bool
  | .inl k, v => Value.isInt k v
  | .inr x, v => Value.isStrOf x v
def keyH (w : World) : Key → Int
  | .inl k => hashInt k
  | .inr x => hashStr w x
theorem keyIs_shape : ∀ {k : Key} {v : Value}, keyIs k v = true → (∃ i t, k = Sum.inl i ∧ v = Value.int i t) ∨ (∃ x t, k = Sum.inr x ∧ v = Value.str x t)
  | .inl i, v, h => by
    obtain ⟨t, e⟩ := Value.isInt_shape (k := i) (v := v) h
    exact .inl ⟨i, t, rfl, e⟩
  | .inr x, v, h => by
    obtain ⟨t, e⟩ := Value.isStrOf_shape (x := x) (v := v) h
    exact .inr ⟨x, t, rfl, e⟩
theorem key_ll (a b : Int) : decide ((Sum.inl a : Key) = Sum.inl b) = (a == b) := by
  by_cases e : a = b
  · subst e; simp
  · have h : ¬ (Sum.inl a : Key) = Sum.inl b := fun q => e (Sum.inl.inj q)
    rw [decide_eq_false h]
    exact (beq_eq_false_iff_ne.mpr e).symm
theorem key_rr (a b : Str) : decide ((Sum.inr a : Key) = Sum.inr b) = decide (a = b) := by
  by_cases e : a = b
  · subst e; simp
  · have h : ¬ (Sum.inr a : Key) = Sum.inr b := fun q => e (Sum.inr.inj q)
    rw [decide_eq_false h, decide_eq_false e]
theorem key_lr (a : Int) (b : Str) : decide ((Sum.inl a : Key) = Sum.inr b) = false := decide_eq_false (fun q => nomatch q)
theorem key_rl (a : Str) (b : Int) : decide ((Sum.inr a : Key) = Sum.inl b) = false := decide_eq_false (fun q => nomatch q)

def mixKind (prog : Program) (w : World) : PySem.KeyKind prog w Key where
  is := keyIs
  hash := keyH w
  inj := fun v a b ha hb => by
    rcases keyIs_shape ha with ⟨i, t, rfl, rfl⟩ | ⟨x, t, rfl, rfl⟩
    · rcases keyIs_shape hb with ⟨j, u, rfl, e⟩ | ⟨y, u, rfl, e⟩
      · injection e with e1 _; rw [e1]
      · exact nomatch e
    · rcases keyIs_shape hb with ⟨j, u, rfl, e⟩ | ⟨y, u, rfl, e⟩
      · exact nomatch e
      · injection e with e1 _; rw [e1]
  byValue := fun k v h => by
    rcases keyIs_shape h with ⟨i, t, rfl, rfl⟩ | ⟨x, t, rfl, rfl⟩ <;> rfl
  pyHash := fun hv h => by
    rcases keyIs_shape hv with ⟨i, t, rfl, rfl⟩ | ⟨x, t, rfl, rfl⟩
    · exact wpAny_pyHash_int h
    · exact wpAny_pyHash_str h
  eqBool := fun hu hv h => by
    rcases keyIs_shape hu with ⟨i, t, rfl, rfl⟩ | ⟨x, t, rfl, rfl⟩
    · rcases keyIs_shape hv with ⟨j, u, rfl, rfl⟩ | ⟨y, u, rfl, rfl⟩
      · rw [key_ll] at h; exact wpAny_eqBool_int h
      · rw [key_lr] at h; exact SeqAt.EqAt.int_str i t y u _ _ _ _ h
    · rcases keyIs_shape hv with ⟨j, u, rfl, rfl⟩ | ⟨y, u, rfl, rfl⟩
      · rw [key_rl] at h; exact SeqAt.EqAt.str_int x t j u _ _ _ _ h
      · rw [key_rr] at h; exact wpAny_eqBool_str h
  «strs» := fun k x t v h => by
    rcases keyIs_shape h with ⟨i, u, rfl, e⟩ | ⟨y, u, rfl, e⟩
    · exact nomatch e
    · injection e with e1 _
      subst e1
      cases v <;> rfl

end L2

namespace L2
open PySem PySem.Spec PyProof.Rows

inductive V where
  | non | bl (b : Bool) | int (i : Int) | str (x : Str) | byt (b : Array UInt8) | flt (b : UInt64) | ref (a : Addr) | ty (n : String)
  deriving DecidableEq

def RelV : V → Value → Prop
  | .non, u => u = Value.none
  | .bl b, u => u = Value.bool b
  | .int i, u => ∃ t, u = Value.int i t
  | .str x, u => ∃ t, u = Value.str x t
  | .byt b, u => ∃ t, u = Value.bytes b t
  | .flt b, u => ∃ t, u = Value.float b t
  | .ref a, u => u = Value.ref a
  | .ty n, u => u = Value.type n

abbrev Vals : List V → List Value → Prop := Paired RelV
theorem Vals.length {xs : List V} {us : List Value} (r : Vals xs us) : xs.length = us.length := Paired.length r
theorem Vals.get : ∀ {xs : List V} {us : List Value} {i : Nat} {x : V}, Vals xs us → xs[i]? = some x → ∃ u, us[i]? = some u ∧ RelV x u
  | _, _, _, _, .nil, e => by simp at e
  | _, _, 0, _, .cons r _, e => by simp at e; subst e; exact ⟨_, rfl, r⟩
  | _, _, i + 1, x, .cons _ t, e => by
    obtain ⟨u, h1, h2⟩ := Vals.get (i := i) (x := x) t (by simpa using e)
    exact ⟨u, by simpa using h1, h2⟩
theorem Vals.set {x : V} {u : Value} (r : RelV x u) : ∀ {xs : List V} {us : List Value} (i : Nat), Vals xs us → Vals (xs.set i x) (us.set i u)
  | _, _, _, .nil => .nil
  | _, _, 0, .cons _ t => .cons r t
  | _, _, i + 1, .cons q t => .cons q (Vals.set r i t)
theorem Vals.append : ∀ {xs ys : List V} {us ws : List Value}, Vals xs us → Vals ys ws → Vals (xs ++ ys) (us ++ ws)
  | _, _, _, _, .nil, s => s
  | _, _, _, _, .cons r t, s => .cons r (Vals.append t s)
theorem Vals.take : ∀ {xs : List V} {us : List Value} (n : Nat), Vals xs us → Vals (xs.take n) (us.take n)
  | _, _, 0, _ => .nil
  | _, _, _ + 1, .nil => .nil
  | _, _, n + 1, .cons r t => .cons r (Vals.take n t)
theorem Vals.drop : ∀ {xs : List V} {us : List Value} (n : Nat), Vals xs us → Vals (xs.drop n) (us.drop n)
  | _, _, 0, r => r
  | _, _, _ + 1, .nil => .nil
  | _, _, n + 1, .cons _ t => Vals.drop n t
theorem Vals.none_of : ∀ {xs : List V} {us : List Value} {i : Nat}, Vals xs us → xs[i]? = none → us[i]? = none := fun {xs us i} r e => by
  have h1 := r.length
  have h2 : xs.length ≤ i := List.getElem?_eq_none_iff.mp e
  exact List.getElem?_eq_none_iff.mpr (by omega)

def RelO : Option V → Option Value → Prop
  | some v, some u => RelV v u
  | none, none => True
  | _, _ => False
def KV {κ : Type} : List (κ × V) → List (κ × Value) → Prop := Paired fun (p : κ × V) (q : κ × Value) => p.1 = q.1 ∧ RelV p.2 q.2

def kV : Key → V
  | .inl i => .int i
  | .inr x => .str x

inductive HO where
    | lst (xs : List V)
    | tup (xs : List V)
    | dK (kvs : List (Key × V)) | dT (kvs : List (List Key × V))
    | set (S : Int → Bool) (n : Nat)
    | ins (C dx : Addr) (fs : List (Str × V))
    | own (x : Addr)
    | xd (fs : List (Str × V))
    | met (f x : Addr)
    | rng (lo hi : Int)
    | frz (o : Obj) (u : HO)
    | tbl (ps : Array Value)
    | ext (φ : Heap → Prop)

abbrev Hp := Addr → Option HO
def upd (H : Hp) (a : Addr) (o : HO) : Hp := fun b => if b = a then some o else H b
theorem upd_same {H : Hp} {a : Addr} {o : HO} : upd H a o a = some o := by unfold upd; rw [if_pos rfl]
theorem upd_ne {H : Hp} {a b : Addr} {o : HO} (h : b ≠ a) : upd H a o b = H b := by unfold upd; rw [if_neg h]
theorem ne_of_none {H : Hp} {a b : Addr} {o : HO} (h : H a = some o) (h' : H b = none) : a ≠ b := by
  intro e; subst e; rw [h] at h'; cases h'

section
variable (P : Program) (w : World)
def ObjOk (H : Hp) (h : Heap) (a : Addr) : HO → Prop
  | .lst xs => xs.length ≤ sizeLine ∧ ∃ (its : List Value) (n : Nat), Vals xs its ∧ h.get? a = some { cls := .type "list", data := .seq its.toArray n }
  | .tup xs => xs.length ≤ sizeLine ∧ ∃ its : List Value, Vals xs its ∧ IsTup h a its.toArray
  | .dK kvs => kvs.length ≤ sizeLine ∧ (a == sysModules) = false ∧ ∃ vs, KV kvs vs ∧ h.DictOf (mixKind P w) a vs
  | .dT kvs => kvs.length ≤ sizeLine ∧ (a == sysModules) = false ∧ ∃ xs : List (List Key × Addr × Value),
      Paired (fun (p : List Key × V) (q : List Key × Addr × Value) => p.1 = q.1 ∧ H q.2.1 = some (.tup (p.1.map kV)) ∧ RelV p.2 q.2.2) kvs xs ∧
      ∃ o es ep, h.get? a = some o ∧ o.ExactDict ∧ o.data = .dict es ep ∧ es.toList = xs.map (entryOfKey (tupleKind (mixKind P w))) ∧ (xs.map (·.1)).Nodup
  | .set S n => h.SetOf (intKind P w) a S n
  | .ins C dx fs => H dx = some (.own a) ∧ fs.length ≤ 1000 ∧ dx ≠ a ∧ h.get? a = some (PySem.W.instObj C dx) ∧
      ∃ mA, h.Ns1 dx mA ∧ (∀ f, RelO (fs.lookup f) (mA f)) ∧ PySem.Within mA (fs.map (·.1))
  | .own _ => ∃ o, h.get? a = some o
  | .xd fs => ∃ mA, h.Ns1 a mA ∧ ∀ f, RelO (fs.lookup f) (mA f)
  | .rng lo hi => ∃ t u v, h.get? a = some { cls := .type "range", data := .fields #[.int lo t, .int hi u, .int 1 v] }
  | .frz o u => h.get? a = some o ∧ ObjOk H h a u
  | .tbl ps => h.get? a = some { cls := .none, data := .fields ps }
  | .met f x => h.get? a = some (PySem.W.methodObj (.ref f) (.ref x))
  | .ext φ => φ h ∧ (∃ o, h.get? a = some o) ∧ ∀ h1 h2 : Heap, φ h1 → (∀ o, h1.get? a = some o → h2.get? a = some o) → φ h2
def HOk (H : Hp) (h : Heap) : Prop := ∀ a o, H a = some o → ObjOk P w H h a o
end

section
variable {P : Program} {w : World} {H H' : Hp} {h h' : Heap} {a : Addr} {o : HO}
theorem ObjOk.lt (x : ObjOk P w H h a o) : a < h.objs.size := by
  cases o with
  | lst xs => obtain ⟨_, _, _, _, e⟩ := x; exact Heap.lt_size e
  | tup xs => obtain ⟨_, _, _, p⟩ := x; exact p.lt
  | dK kvs => obtain ⟨_, _, _, _, o, _, _, e, _⟩ := x; exact Heap.lt_size e
  | dT kvs => obtain ⟨_, _, _, _, o, _, _, e, _⟩ := x; exact Heap.lt_size e
  | set S n => obtain ⟨o, _, _, _, e, _⟩ := x; exact Heap.lt_size e
  | ins C dx fs => obtain ⟨_, _, _, e, _⟩ := x; exact Heap.lt_size e
  | own y => obtain ⟨_, e⟩ := x; exact Heap.lt_size e
  | xd fs => obtain ⟨_, ⟨_, _, _, e, _⟩, _⟩ := x; exact Heap.lt_size e
  | rng lo hi => obtain ⟨_, _, _, e⟩ := x; exact Heap.lt_size e
  | frz ob u => obtain ⟨e, _⟩ := x; exact Heap.lt_size e
  | tbl ps => exact Heap.lt_size (show h.get? a = some _ from x)
  | met f y => exact Heap.lt_size (show h.get? a = some _ from x)
  | ext φ => obtain ⟨_, ⟨_, e⟩, _⟩ := x; exact Heap.lt_size e
theorem Paired.mapP {α β : Type} {F G : α → β → Prop} : ∀ {l₁ : List α} {l₂ : List β}, Paired F l₁ l₂ → (∀ a b, F a b → G a b) → Paired G l₁ l₂
  | _, _, .nil, _ => .nil
  | _, _, .cons r t, f => .cons (f _ _ r) (Paired.mapP t f)
theorem ObjOk.stay (x : ObjOk P w H h a o) (k : ∀ b u, (b = a ∨ H b = some (.own a)) → h.get? b = some u → h'.get? b = some u)
    (ho : ∀ b, H b = some (.own a) → H' b = some (.own a)) (ht : ∀ b xs, H b = some (.tup xs) → H' b = some (.tup xs)) : ObjOk P w H' h' a o := by
  induction o with
  | lst xs => obtain ⟨z, its, n, r, e⟩ := x; exact ⟨z, its, n, r, k _ _ (.inl rfl) e⟩
  | tup xs => obtain ⟨z, its, r, ob, e, c⟩ := x; exact ⟨z, its, r, ob, k _ _ (.inl rfl) e, c⟩
  | dK kvs => obtain ⟨z, y, vs, r, ob, es, ep, e, c⟩ := x; exact ⟨z, y, vs, r, ob, es, ep, k _ _ (.inl rfl) e, c⟩
  | dT kvs =>
    obtain ⟨z, y, xs, r, ob, es, ep, e, c⟩ := x
    exact ⟨z, y, xs, Paired.mapP r fun p q z => ⟨z.1, ht _ _ z.2.1, z.2.2⟩, ob, es, ep, k _ _ (.inl rfl) e, c⟩
  | set S n => obtain ⟨ob, es, ep, t, e, c⟩ := x; exact ⟨ob, es, ep, t, k _ _ (.inl rfl) e, c⟩
  | ins C dx fs =>
    obtain ⟨d, z, ne, e, mA, ⟨od, es, ep, e2, c⟩, r⟩ := x
    exact ⟨ho _ d, z, ne, k _ _ (.inl rfl) e, mA, ⟨od, es, ep, k _ _ (.inr d) e2, c⟩, r⟩
  | own y => obtain ⟨ob, e⟩ := x; exact ⟨ob, k _ _ (.inl rfl) e⟩
  | xd fs => obtain ⟨mA, ⟨od, es, ep, e, c⟩, r⟩ := x; exact ⟨mA, ⟨od, es, ep, k _ _ (.inl rfl) e, c⟩, r⟩
  | rng lo hi => obtain ⟨t, u, v, e⟩ := x; exact ⟨t, u, v, k _ _ (.inl rfl) e⟩
  | frz ob u ih => obtain ⟨e, q⟩ := x; exact ⟨k _ _ (.inl rfl) e, ih q⟩
  | tbl ps =>
    have e : h.get? a = some { cls := .none, data := .fields ps } := x
    show h'.get? a = some { cls := .none, data := .fields ps }
    exact k a _ (.inl rfl) e
  | met f y =>
    have e : h.get? a = some (PySem.W.methodObj (.ref f) (.ref y)) := x
    show h'.get? a = some (PySem.W.methodObj (.ref f) (.ref y))
    exact k a _ (.inl rfl) e
  | ext φ => obtain ⟨p, ⟨o, e⟩, st⟩ := x; exact ⟨st _ _ p fun o q => k _ _ (.inl rfl) q, ⟨o, k _ _ (.inl rfl) e⟩, st⟩
theorem HOk.lt (x : HOk P w H h) (e : H a = some o) : a < h.objs.size := (x a o e).lt
theorem HOk.fresh (x : HOk P w H h) (e : h.objs.size ≤ a) : H a = none := by
  cases q : H a with
  | none => rfl
  | some u => exact absurd (Nat.lt_of_lt_of_le (x.lt q) e) (Nat.lt_irrefl _)
theorem HOk.kept (x : HOk P w H h) (k : ∀ b u, h.get? b = some u → h'.get? b = some u) : HOk P w H h' := fun a o e =>
  (x a o e).stay (fun b u _ q => k b u q) (fun _ q => q) fun _ _ q => q
theorem HOk.laid (x : HOk P w H h) (k : ∀ b u, h.get? b = some u → h'.get? b = some u) (hp : h.objs.size ≤ a) (new : ObjOk P w (upd H a o) h' a o) : HOk P w (upd H a o) h' := fun b u e => by
  have hn := x.fresh hp
  by_cases hb : b = a
  · subst hb; rw [upd_same] at e; cases e; exact new
  · rw [upd_ne hb] at e
    exact (x b u e).stay (fun c v _ q => k c v q) (fun c q => by rw [upd_ne (ne_of_none q hn)]; exact q) fun c xs q => by rw [upd_ne (ne_of_none q hn)]; exact q
end

def Rd (H : Hp) (a : Addr) (u : HO) : Prop := H a = some u ∨ ∃ o, H a = some (.frz o u)
theorem Rd.of {H : Hp} {a : Addr} {u : HO} (h : H a = some u) : Rd H a u := .inl h
theorem Rd.ok {P : Program} {w : World} {H : Hp} {h : Heap} {a : Addr} {u : HO} (r : Rd H a u) (x : HOk P w H h) : ObjOk P w H h a u := by
  rcases r with r | ⟨o, r⟩
  · exact x a u r
  · obtain ⟨_, q⟩ := x a _ r
    exact q
def Mut : Option HO → Prop
  | some (.lst _) => True
  | some (.dK _) => True
  | some (.dT _) => True
  | some (.set _ _) => True
  | some (.ins _ _ _) => True
  | some (.ext _) => True
  | _ => False
section
variable {P : Program} {w : World} {H : Hp} {h h' : Heap} {x e : Addr} {o' : HO}
theorem HOk.write (ok : HOk P w H h) (mu : Mut (H x)) (he : e = x ∨ H e = some (.own x)) (k : ∀ b u, b ≠ e → h.get? b = some u → h'.get? b = some u) (heo : ∃ u, h'.get? e = some u)
    (new : ObjOk P w (upd H x o') h' x o') : HOk P w (upd H x o') h' := fun b u q => by
  have nown : ∀ c y, H c = some (.own y) → c ≠ x := fun c y r z => by subst z; rw [r] at mu; exact mu
  have ntup : ∀ c xs, H c = some (.tup xs) → c ≠ x := fun c xs r z => by subst z; rw [r] at mu; exact mu
  by_cases hb : b = x
  · subst hb; rw [upd_same] at q; cases q; exact new
  · rw [upd_ne hb] at q
    by_cases hbe : b = e
    · have q' : H b = some (.own x) := by
        rcases he with z | z
        · exact absurd (hbe.trans z) hb
        · rw [hbe]; exact z
      rw [q] at q'; cases q'
      obtain ⟨v, hv⟩ := heo
      exact ⟨v, by rw [hbe]; exact hv⟩
    · refine (ok b u q).stay (fun c v hc r => k c v ?_ r) (fun c r => by rw [upd_ne (nown c b r)]; exact r) fun c xs r => by rw [upd_ne (ntup c xs r)]; exact r
      rcases hc with rfl | hc
      · exact hbe
      · rintro rfl
        rcases he with z | z
        · exact nown c b hc z
        · rw [hc] at z; cases z; exact hb rfl
end

structure Un (fs ex : List Addr) (H H' : Hp) (h h' : Heap) : Prop where
  keep : ∀ b o, h.get? b = some o → H b = none → b ∉ fs → b ∉ ex → h'.get? b = some o
  slot : ∀ b o, h.get? b = some o → H b = none → b ∈ fs → b ∉ ex → ∃ sl, h'.get? b = some { o with slots := sl }
  free : ∀ b o, h.get? b = some o → H b = none → b ∉ ex → H' b = none
  there : ∀ b o, h.get? b = some o → b ∉ ex → ∃ o', h'.get? b = some o'
  tups : ∀ b xs, H b = some (.tup xs) → H' b = some (.tup xs)
  frzs : ∀ b o u, H b = some (.frz o u) → H' b = some (.frz o u)
  tbls : ∀ b ps, H b = some (.tbl ps) → ∃ more, H' b = some (.tbl (ps ++ more))
section
variable {fs fs' ex ex' : List Addr} {H H1 H2 : Hp} {h h1 h2 h' : Heap} {a x e : Addr} {o : HO}
theorem Un.any (u : Un fs ex H H1 h h1) {b : Addr} {ob : Obj} (q : h.get? b = some ob) (n : H b = none) (hx : b ∉ ex) : ∃ sl, h1.get? b = some { ob with slots := sl } := by
  by_cases hb : b ∈ fs
  · exact u.slot b ob q n hb hx
  · exact ⟨ob.slots, u.keep b ob q n hb hx⟩
theorem Un.trans (a : Un fs ex H H1 h h1) (b : Un fs ex H1 H2 h1 h2) : Un fs ex H H2 h h2 where
  keep := fun c ob q n hc hx => b.keep c ob (a.keep c ob q n hc hx) (a.free c ob q n hx) hc hx
  slot := fun c ob q n hc hx => by
    obtain ⟨sl, e1⟩ := a.slot c ob q n hc hx
    obtain ⟨sl', e2⟩ := b.slot c _ e1 (a.free c ob q n hx) hc hx
    exact ⟨sl', e2⟩
  free := fun c ob q n hx => by
    obtain ⟨o', e1⟩ := a.there c ob q hx
    exact b.free c o' e1 (a.free c ob q n hx) hx
  there := fun c ob q hx => by
    obtain ⟨o', e1⟩ := a.there c ob q hx
    exact b.there c o' e1 hx
  tups := fun c xs q => b.tups c xs (a.tups c xs q)
  frzs := fun c ob xs q => b.frzs c ob xs (a.frzs c ob xs q)
  tbls := fun c ps q => by
    obtain ⟨m1, e1⟩ := a.tbls c ps q
    obtain ⟨m2, e2⟩ := b.tbls c _ e1
    exact ⟨m1 ++ m2, by rw [e2, Array.append_assoc]⟩
theorem Un.kept (k : ∀ b u, h.get? b = some u → h'.get? b = some u) : Un fs ex H H h h' :=
  ⟨fun b ob q _ _ _ => k b ob q, fun b ob q _ _ _ => ⟨ob.slots, k b ob q⟩, fun _ _ _ n _ => n, fun b ob q _ => ⟨ob, k b ob q⟩, fun _ _ q => q, fun _ _ _ q => q, fun _ ps q => ⟨#[], by rw [q]; simp⟩⟩
theorem Un.refl : Un fs ex H H h h := Un.kept fun _ _ q => q
theorem Un.laid (k : ∀ b u, h.get? b = some u → h'.get? b = some u) (hp : h.objs.size ≤ a) (hn : H a = none) : Un fs ex H (upd H a o) h h' where
  keep := fun b u q _ _ _ => k b u q
  slot := fun b u q _ _ _ => ⟨u.slots, k b u q⟩
  free := fun b u q n _ => by rw [upd_ne (Nat.ne_of_lt (Nat.lt_of_lt_of_le (Heap.lt_size q) hp))]; exact n
  there := fun b u q _ => ⟨u, k b u q⟩
  tups := fun b xs q => by rw [upd_ne (ne_of_none q hn)]; exact q
  frzs := fun b u xs q => by rw [upd_ne (ne_of_none q hn)]; exact q
  tbls := fun b ps q => ⟨#[], by rw [upd_ne (ne_of_none q hn), q]; simp⟩
theorem Un.write (mu : Mut (H x)) (he : e = x ∨ H e = some (.own x)) (k : ∀ b u, b ≠ e → h.get? b = some u → h'.get? b = some u) (heo : ∃ u, h'.get? e = some u) : Un fs ex H (upd H x o) h h' := by
  have hx : ∀ b, H b = none → b ≠ x := fun b n z => by subst z; rw [n] at mu; exact mu
  have hb : ∀ b, H b = none → b ≠ e := fun b n z => by
    subst z
    rcases he with r | r
    · exact hx b n r
    · rw [n] at r; cases r
  have hm : ∀ b u, H b = some u → ¬ Mut (some u) → b ≠ x := fun b u q nm z => by subst z; rw [q] at mu; exact nm mu
  refine ⟨fun b u q n _ _ => k b u (hb b n) q, fun b u q n _ _ => ⟨u.slots, k b u (hb b n) q⟩, fun b u q n _ => by rw [upd_ne (hx b n)]; exact n, fun b u q _ => ?_,
    fun b xs q => by rw [upd_ne (hm b _ q fun z => z)]; exact q, fun b u xs q => by rw [upd_ne (hm b _ q fun z => z)]; exact q, fun b ps q => ⟨#[], by rw [upd_ne (hm b _ q fun z => z), q]; simp⟩⟩
  by_cases hbe : b = e
  · subst hbe; exact heo
  · exact ⟨u, k b u hbe q⟩
theorem Un.mono (u : Un fs ex H H1 h h1) (hs : ∀ b ∈ fs, b ∈ fs') (hx : ∀ b ∈ ex, b ∈ ex') : Un fs' ex' H H1 h h1 :=
  ⟨fun b ob q n hb he => u.keep b ob q n (fun z => hb (hs b z)) fun z => he (hx b z), fun _ _ q n _ he => u.any q n fun z => he (hx _ z), fun b ob q n he => u.free b ob q n fun z => he (hx b z), fun b ob q he => u.there b ob q fun z => he (hx b z), u.tups, u.frzs, u.tbls⟩
end

def trk (h : Heap) (H : Hp) : List Addr := (List.range h.objs.size).filter fun a => (H a).isSome
def hidT (h : Heap) (H : Hp) : Heap := PySem.W.hideAll h (trk h H)
theorem hidT_size (h : Heap) (H : Hp) : (hidT h H).objs.size = h.objs.size := PySem.W.hideAll_size _ _
theorem hidT_get {h : Heap} {H : Hp} {b : Addr} {o : Obj} (e : h.get? b = some o) (n : H b = none) : (hidT h H).get? b = some o :=
  PySem.W.hideAll_get _ e fun hm => by
    have q : (H b).isSome = true := (List.mem_filter.mp hm).2
    rw [n] at q; simp at q
theorem of_hidT {h : Heap} {H : Hp} {b : Addr} {o : Obj} (e : (hidT h H).get? b = some o) : h.get? b = some o ∧ H b = none := by
  have e' : h.get? b = some o := PySem.W.of_hideAll (trk h H) e
  refine ⟨e', ?_⟩
  cases q : H b with
  | none => rfl
  | some x =>
    have hm : b ∈ trk h H := List.mem_filter.mpr ⟨List.mem_range.mpr (Heap.lt_size e'), by simp [q]⟩
    have z : (hidT h H).get? b = none := PySem.W.hideAll_none (trk h H) hm
    rw [z] at e; cases e

def allNews (g h : Heap) (L : Addr) : List (Addr × Obj) := (List.range h.objs.size).filterMap fun a => if a = L ∨ (g.get? a).isSome = true then none else (h.get? a).map fun o => (a, o)
def rest (g h : Heap) (L d : Addr) : List (Addr × Obj) := (allNews g h L).filter fun p => decide (p.1 ≠ d)
end L2

namespace L2
open PySem PySem.Spec PyProof.Rows

structure Mod (K : PySem.W.Frag) (mg : Str → Option Value) (base : Heap) : Prop where
  kin : K.In base
  glob : base.Ns mainGlobals mg
  blt : ∃ mb, base.Ns builtinsNs mb ∧ ∀ x : Str, x ≠ "__name__" → mb x = bootBuiltins x
  nolimit : base.NoLimit

structure Cx where
  prog : Program
  w : World
  K : PySem.W.Frag
  mg : Str → Option Value
  base : Heap
  A : Around
  N : List Str
  s₀ : Shared
  H₀ : Hp
  env : Env
  outer : List Env
  stack : List Env
  ex : List Addr
  fn : Str → Bool
  calm : Bool
  pn : List (Addr × Obj)
  xe : Value → Shared → Prop
def frs (l : List Env) : List Addr := l.filterMap (·.frame)
abbrev Cx.fs (X : Cx) : List Addr := frs X.outer

def Vis (sc : Scope) (x : Str) : Prop := sc.names.lookup x = some .local ∨ sc.names.lookup x = some .cell ∨ sc.names.lookup x = some .free
def Loc (sc : Scope) (x : Str) : Prop := sc.names.lookup x = some .local ∨ sc.names.lookup x = some .cell
def Look (env : Env) (h : Heap) (m : Str → Option Value) (x : Str) (u : Value) : Prop :=
  (env.kindOf x = some .local ∧ m x = some u) ∨ ((env.kindOf x = some .cell ∨ env.kindOf x = some .free) ∧ ∃ c, env.cells.lookup x = some c ∧ h.IsCell c (some u))

structure Cx.Ok (X : Cx) : Prop where
  mod : Mod X.K X.mg X.base
  kind : X.env.scope.kind = .function
  glob : X.env.globals = mainGlobals
  blt : X.env.builtins = builtinsNs
  above : X.s₀.heap.objs.size ≤ X.env.locals
  inj : ∀ x y c, X.env.cells.lookup x = some c → X.env.cells.lookup y = some c → x = y
  has : ∀ x, (X.env.kindOf x = some .cell ∨ X.env.kindOf x = some .free) → ∃ c, X.env.cells.lookup x = some c
  cab : ∀ x c, X.fn x = true → X.env.cells.lookup x = some c → X.s₀.heap.objs.size ≤ c
  hd : X.calm = true → X.A.handled = none
  frames : X.A.frames = some X.stack
  stk : X.stack = X.outer ∨ (X.stack = X.env :: X.outer ∧ X.env.frame = some X.env.locals)
  exf : ∀ b ∈ X.ex, b ≠ X.env.locals ∧ ∀ x c, X.env.cells.lookup x = some c → c ≠ b
  bs : ∀ b o, X.base.get? b = some o → X.s₀.heap.get? b = some o ∧ X.H₀ b = none
  bsz : X.base.objs.size ≤ X.s₀.heap.objs.size
  noex : ∀ b o, X.base.get? b = some o → b ∉ X.ex
  exfs : ∀ b ∈ X.ex, b ∉ X.fs
  funs : X.s₀.heap.FunFrames X.base X.outer
  frf : ∀ b ∈ X.fs, X.H₀ b = none

structure Inv (X : Cx) (pins : List (Addr × Obj)) (σ : List (Option V)) (H : Hp) (s : Shared) : Prop where
  ok : X.Ok
  os : s.os = X.s₀.os
  bare : AllBare s.gens
  base : Un X.fs X.ex X.H₀ H X.s₀.heap s.heap
  loc : ∃ m, s.heap.Ns X.env.locals m ∧ ∀ (i : Nat) (x : Str) (v : V), X.N[i]? = some x → σ[i]? = some (some v) → Vis X.env.scope x → ∃ u, RelV v u ∧ Look X.env s.heap m x u
  cell : ∀ x c, X.env.cells.lookup x = some c → ∃ v, s.heap.IsCell c v
  free : H X.env.locals = none
  freeC : ∀ x c, X.env.cells.lookup x = some c → H c = none
  pin : ∀ p ∈ X.pn ++ pins, s.heap.get? p.1 = some p.2 ∧ H p.1 = none ∧ p.1 ≠ X.env.locals ∧ p.1 ∉ X.fs ∧ ∀ v, p.2.data ≠ .cell v
  hok : HOk X.prog X.w H s.heap
  len : σ.length = X.N.length

section
variable {X : Cx} {pins : List (Addr × Obj)} {σ : List (Option V)} {H H' : Hp} {s : Shared} {h' : Heap}

theorem Cx.Ok.nofr (ok : X.Ok) {b : Addr} {o : Obj} (e : X.base.get? b = some o) : b ∉ X.fs := fun hb => by
  have := (ok.funs.mem hb).1
  rw [e] at this; cases this
theorem Inv.bs (I : Inv X pins σ H s) : ∀ b o, X.base.get? b = some o → s.heap.get? b = some o ∧ H b = none := fun b o e =>
  ⟨I.base.keep b o (I.ok.bs b o e).1 (I.ok.bs b o e).2 (I.ok.nofr e) (I.ok.noex b o e), I.base.free b o (I.ok.bs b o e).1 (I.ok.bs b o e).2 (I.ok.noex b o e)⟩
theorem Inv.bk (I : Inv X pins σ H s) : ∀ b o, X.base.get? b = some o → s.heap.get? b = some o := fun b o e => (I.bs b o e).1
theorem Inv.mod (I : Inv X pins σ H s) : Mod X.K X.mg X.base := I.ok.mod
theorem Inv.kIn (I : Inv X pins σ H s) : X.K.In s.heap := I.ok.mod.kin.keeps I.bk
theorem Inv.nolimit (I : Inv X pins σ H s) : s.heap.NoLimit := I.ok.mod.nolimit.keeps I.bk
theorem Inv.fr (I : Inv X pins σ H s) : ∃ m, Fr X.base X.env.locals s.heap m :=
  let ⟨m, hn, _⟩ := I.loc
  ⟨m, hn, I.bk, Nat.le_trans I.ok.bsz I.ok.above⟩
theorem Inv.lt (I : Inv X pins σ H s) : X.env.locals < s.heap.objs.size := let ⟨_, hn, _⟩ := I.loc; hn.lt
theorem Inv.sz (I : Inv X pins σ H s) : X.s₀.heap.objs.size ≤ s.heap.objs.size := Nat.le_trans I.ok.above (Nat.le_of_lt I.lt)
theorem Inv.nofs (I : Inv X pins σ H s) {a : Addr} (h : s.heap.objs.size ≤ a) : a ∉ X.fs := fun hb => by
  obtain ⟨_, o, ho, _⟩ := I.ok.funs.mem hb
  exact absurd (Nat.lt_of_lt_of_le (Heap.lt_size ho) (Nat.le_trans I.sz h)) (Nat.lt_irrefl _)
theorem Inv.cne (I : Inv X pins σ H s) : ∀ x c, X.env.cells.lookup x = some c → c ≠ X.env.locals := fun x c e z => by
  obtain ⟨v, o, ho, hd⟩ := I.cell x c e
  obtain ⟨m, ⟨o', es, ep, ho', hd', _⟩, _⟩ := I.loc
  rw [z, ho'] at ho; cases ho; rw [hd'] at hd; cases hd
theorem Inv.funs (I : Inv X pins σ H s) : s.heap.FunFrames X.base X.outer := by
  have all : ∀ (l : List Env), (∀ b ∈ frs l, b ∈ X.fs) → X.s₀.heap.FunFrames X.base l → s.heap.FunFrames X.base l := by
    intro l
    induction l with
    | nil => intro _ _; trivial
    | cons env r ih =>
      intro hs hl
      obtain ⟨hk, ⟨L, o, hf, hn, ho, hd⟩, hr⟩ := hl
      have hL : L ∈ X.fs := hs L (by unfold frs; rw [List.filterMap_cons, hf]; exact List.mem_cons_self)
      obtain ⟨sl, e⟩ := I.base.slot L o ho (I.ok.frf L hL) hL fun z => I.ok.exfs L z hL
      exact ⟨hk, ⟨L, _, hf, hn, e, hd⟩, ih (fun b hb => hs b (by unfold frs; rw [List.filterMap_cons, hf]; exact List.mem_cons_of_mem _ hb)) hr⟩
  exact all X.outer (fun _ hb => hb) I.ok.funs

theorem Inv.stack (I : Inv X pins σ H s) : s.heap.FunFrames X.base X.stack := by
  rcases I.ok.stk with e | ⟨e, hf⟩
  · rw [e]; exact I.funs
  · rw [e]
    obtain ⟨m, hn, _⟩ := I.loc
    refine .cons (by rw [I.ok.kind]; decide) hf hn ?_ I.funs
    exact Heap.get?_none_of_le (Nat.le_trans I.ok.bsz I.ok.above)
theorem Inv.stkSub (I : Inv X pins σ H s) : ∀ b ∈ frs X.stack, b ∈ X.env.locals :: X.fs := fun b hb => by
  rcases I.ok.stk with e | ⟨e, hf⟩
  · rw [e] at hb; exact List.mem_cons_of_mem _ hb
  · rw [e] at hb
    unfold frs at hb
    rw [List.filterMap_cons, hf] at hb
    exact hb
theorem Inv.stkFree (I : Inv X pins σ H s) : ∀ b ∈ frs X.stack, H b = none := fun b hb => by
  rcases List.mem_cons.mp (I.stkSub b hb) with e | hb
  · rw [e]; exact I.free
  · obtain ⟨_, o, ho, _⟩ := I.ok.funs.mem hb
    exact I.base.free b o ho (I.ok.frf b hb) fun z => I.ok.exfs b z hb

theorem Inv.step {g' : Array GenState} {t' : Nat} {d' : Drawn} {ch : List Addr} (I : Inv X pins σ H s)
    (hch : ∀ b ∈ ch, (b ∈ X.ex ∨ X.s₀.heap.objs.size ≤ b) ∧ b ≠ X.env.locals ∧ (∀ x c, X.env.cells.lookup x = some c → c ≠ b) ∧ ∀ p ∈ X.pn ++ pins, p.1 ≠ b)
    (keep : ∀ b o, b ≠ X.env.locals → b ∉ X.fs → b ∉ ch → s.heap.get? b = some o → H b = none → h'.get? b = some o)
    (slot : ∀ b o, b ≠ X.env.locals → b ∈ X.fs → b ∉ ch → s.heap.get? b = some o → H b = none → ∃ sl, h'.get? b = some { o with slots := sl }) (free : ∀ b o, b ∉ ch → s.heap.get? b = some o → H b = none → H' b = none)
    (there : ∀ b o, b ∉ ch → s.heap.get? b = some o → ∃ o', h'.get? b = some o')
    (tups : ∀ b xs, H b = some (.tup xs) → H' b = some (.tup xs)) (frzs : ∀ b o u, H b = some (.frz o u) → H' b = some (.frz o u)) (tbls : ∀ b ps, H b = some (.tbl ps) → ∃ more, H' b = some (.tbl (ps ++ more)))
    (ns : ∀ m, s.heap.Ns X.env.locals m → h'.Ns X.env.locals m) (hok : HOk X.prog X.w H' h') (hg : AllBare g') :
    Inv X pins σ H' { s with heap := h', gens := g', drawn := d', toks := t' } := by
  have neL : ∀ b o, X.s₀.heap.get? b = some o → b ≠ X.env.locals := fun b o e => Nat.ne_of_lt (Nat.lt_of_lt_of_le (Heap.lt_size e) I.ok.above)
  have neC : ∀ b o, X.s₀.heap.get? b = some o → b ∉ X.ex → b ∉ ch := fun b o e hx hb => by
    rcases (hch b hb).1 with z | z
    · exact hx z
    · exact absurd (Nat.lt_of_lt_of_le (Heap.lt_size e) z) (Nat.lt_irrefl _)
  have cellK : ∀ x c, X.env.cells.lookup x = some c → ∀ v, s.heap.IsCell c v → h'.IsCell c v := fun x c e v ⟨o, ho, hd⟩ => by
    have nch : c ∉ ch := fun z => (hch c z).2.2.1 x c e rfl
    by_cases hc : c ∈ X.fs
    · obtain ⟨sl, q⟩ := slot c o (I.cne x c e) hc nch ho (I.freeC x c e)
      exact ⟨_, q, hd⟩
    · exact ⟨o, keep c o (I.cne x c e) hc nch ho (I.freeC x c e), hd⟩
  refine ⟨I.ok, I.os, hg, ⟨fun b o e n hb hx => ?_, fun b o e n hb hx => ?_, fun b o e n hx => ?_, fun b o e hx => ?_, fun b xs e => tups b xs (I.base.tups b xs e), fun b o xs e => frzs b o xs (I.base.frzs b o xs e), fun b ps e => ?_⟩, ?_, fun x c e => ?_, ?_, fun x c e => ?_, fun p hp => ?_, hok, I.len⟩
  · exact keep b o (neL b o e) hb (neC b o e hx) (I.base.keep b o e n hb hx) (I.base.free b o e n hx)
  · obtain ⟨sl, e1⟩ := I.base.slot b o e n hb hx
    obtain ⟨sl', e2⟩ := slot b _ (neL b o e) hb (neC b o e hx) e1 (I.base.free b o e n hx)
    exact ⟨sl', e2⟩
  · obtain ⟨o', e1⟩ := I.base.there b o e hx
    exact free b o' (neC b o e hx) e1 (I.base.free b o e n hx)
  · obtain ⟨o', e1⟩ := I.base.there b o e hx
    exact there b o' (neC b o e hx) e1
  · obtain ⟨m1, e1⟩ := I.base.tbls b ps e
    obtain ⟨m2, e2⟩ := tbls b _ e1
    exact ⟨m1 ++ m2, by rw [e2, Array.append_assoc]⟩
  · obtain ⟨m, hn, hl⟩ := I.loc
    refine ⟨m, ns m hn, fun i x v e1 e2 e3 => ?_⟩
    obtain ⟨u, r, l⟩ := hl i x v e1 e2 e3
    refine ⟨u, r, ?_⟩
    rcases l with l | ⟨k, c, e, z⟩
    · exact .inl l
    · exact .inr ⟨k, c, e, cellK x c e _ z⟩
  · obtain ⟨v, z⟩ := I.cell x c e
    exact ⟨v, cellK x c e v z⟩
  · obtain ⟨m, ⟨o, _, _, ho, _⟩, _⟩ := I.loc
    exact free _ o (fun z => (hch _ z).2.1 rfl) ho I.free
  · obtain ⟨v, o, ho, hd⟩ := I.cell x c e
    exact free c o (fun z => (hch c z).2.2.1 x c e rfl) ho (I.freeC x c e)
  · obtain ⟨e, n, ne, nf, d⟩ := I.pin p hp
    have nch : p.1 ∉ ch := fun z => (hch p.1 z).2.2.2 p hp rfl
    exact ⟨keep p.1 p.2 ne nf nch e n, free p.1 p.2 nch e n, ne, nf, d⟩
theorem Inv.un {t' : Nat} (I : Inv X pins σ H s) (u : Un X.fs [] H H' s.heap h') (hok : HOk X.prog X.w H' h') : Inv X pins σ H' { s with heap := h', toks := t' } := by
  obtain ⟨m, ⟨o, es, ep, ho, r⟩, _⟩ := id I.loc
  obtain ⟨sl, hL⟩ := u.any ho I.free (by simp)
  exact I.step (g' := s.gens) (d' := s.drawn) (ch := []) (fun _ z => nomatch z) (fun b o _ hb _ e n => u.keep b o e n hb (by simp)) (fun b o _ hb _ e n => u.slot b o e n hb (by simp)) (fun b o _ e n => u.free b o e n (by simp)) (fun b o _ e => u.there b o e (by simp)) u.tups u.frzs u.tbls (fun m' hm => by
    obtain ⟨o', es', ep', ho', r'⟩ := hm
    rw [ho] at ho'; cases ho'
    exact ⟨_, es', ep', hL, r'⟩) hok I.bare
theorem Inv.call {g' : Array GenState} {t' : Nat} {d' : Drawn} {ch : List Addr} (I : Inv X pins σ H s) (u : Un (frs X.stack) ch H H' s.heap h') (hok : HOk X.prog X.w H' h') (hg : AllBare g')
    (hch : ∀ b ∈ ch, (b ∈ X.ex ∨ X.s₀.heap.objs.size ≤ b) ∧ b ≠ X.env.locals ∧ (∀ x c, X.env.cells.lookup x = some c → c ≠ b) ∧ ∀ p ∈ X.pn ++ pins, p.1 ≠ b) :
    Inv X pins σ H' { s with heap := h', gens := g', drawn := d', toks := t' } := by
  obtain ⟨m, ⟨o, es, ep, ho, r⟩, _⟩ := id I.loc
  obtain ⟨sl, hL⟩ := u.any ho I.free fun z => (hch _ z).2.1 rfl
  exact I.step (ch := ch) hch (fun b o hL hb hc e n => u.keep b o e n (fun z => (List.mem_cons.mp (I.stkSub b z)).elim hL hb) hc) (fun b o _ _ hc e n => u.any e n hc) (fun b o hc e n => u.free b o e n hc) (fun b o hc e => u.there b o e hc) u.tups u.frzs u.tbls (fun m' hm => by
    obtain ⟨o', es', ep', ho', r'⟩ := hm
    rw [ho] at ho'; cases ho'
    exact ⟨_, es', ep', hL, r'⟩) hok hg
theorem Inv.turned {t' : Nat} {it : Addr} (I : Inv X pins σ H s) (k : ∀ b o, b ≠ it → s.heap.get? b = some o → h'.get? b = some o) (hn : H it = none) (hL : it ≠ X.env.locals)
    (h1 : it ∈ X.ex ∨ X.s₀.heap.objs.size ≤ it) (h2 : ∀ x c, X.env.cells.lookup x = some c → c ≠ it) (h3 : ∀ p ∈ X.pn ++ pins, p.1 ≠ it) : Inv X pins σ H { s with heap := h', toks := t' } := by
  have nit : ∀ b u, H b = some u → b ≠ it := fun b u e z => by rw [z, hn] at e; cases e
  refine I.step (g' := s.gens) (d' := s.drawn) (ch := [it]) (fun b hb => ?_) (fun b o _ _ hc e _ => k b o (fun z => hc (by simp [z])) e) (fun b o _ _ hc e _ => ⟨o.slots, k b o (fun z => hc (by simp [z])) e⟩) (fun _ _ _ _ n => n)
    (fun b o hc e => ⟨o, k b o (fun z => hc (by simp [z])) e⟩) (fun _ _ e => e) (fun _ _ _ e => e) (fun b ps e => ⟨#[], by rw [e]; simp⟩) (fun m hm => ?_) (fun b u e => ?_) I.bare
  · have e : b = it := by simpa using hb
    subst e
    exact ⟨h1, hL, h2, h3⟩
  · obtain ⟨o, es, ep, ho, r⟩ := hm
    exact ⟨o, es, ep, k _ o (Ne.symm hL) ho, r⟩
  · refine (I.hok b u e).stay (fun c v hc q => k c v ?_ q) (fun _ q => q) fun _ _ q => q
    rcases hc with z | z
    · rw [z]; exact nit b u e
    · exact nit c _ z
theorem Inv.tok (I : Inv X pins σ H s) (t : Nat) : Inv X pins σ H { s with toks := t } := I.un (h' := s.heap) (t' := t) Un.refl I.hok
theorem Inv.kept {t' : Nat} (I : Inv X pins σ H s) (k : ∀ b u, s.heap.get? b = some u → h'.get? b = some u) : Inv X pins σ H { s with heap := h', toks := t' } := I.un (Un.kept k) (I.hok.kept k)
theorem Inv.laid {a : Addr} {o : HO} {t' : Nat} (I : Inv X pins σ H s) (k : ∀ b u, s.heap.get? b = some u → h'.get? b = some u) (hp : s.heap.objs.size ≤ a) (new : ObjOk X.prog X.w (upd H a o) h' a o) :
    Inv X pins σ (upd H a o) { s with heap := h', toks := t' } := I.un (Un.laid k hp (I.hok.fresh hp)) (I.hok.laid k hp new)
theorem Inv.write {x e : Addr} {o : HO} {t' : Nat} (I : Inv X pins σ H s) (mu : Mut (H x)) (he : e = x ∨ H e = some (.own x)) (k : ∀ b u, b ≠ e → s.heap.get? b = some u → h'.get? b = some u) (heo : ∃ u, h'.get? e = some u)
    (new : ObjOk X.prog X.w (upd H x o) h' x o) : Inv X pins σ (upd H x o) { s with heap := h', toks := t' } := I.un (Un.write mu he k heo) (I.hok.write mu he k heo new)
theorem Inv.weak {σ' : List (Option V)} (I : Inv X pins σ H s) (hl : σ'.length = σ.length) (w : ∀ (i : Nat) v, σ'[i]? = some (some v) → σ[i]? = some (some v)) : Inv X pins σ' H s :=
  ⟨I.ok, I.os, I.bare, I.base, let ⟨m, hn, hl'⟩ := I.loc; ⟨m, hn, fun i x v e1 e2 e3 => hl' i x v e1 (w i v e2) e3⟩, I.cell, I.free, I.freeC, I.pin, I.hok, hl.trans I.len⟩
theorem Inv.pins_of {pins' : List (Addr × Obj)} (I : Inv X pins σ H s) (h : ∀ p ∈ pins', s.heap.get? p.1 = some p.2 ∧ H p.1 = none ∧ p.1 ≠ X.env.locals ∧ p.1 ∉ X.fs ∧ ∀ v, p.2.data ≠ .cell v) : Inv X pins' σ H s :=
  ⟨I.ok, I.os, I.bare, I.base, I.loc, I.cell, I.free, I.freeC, fun p hp => (List.mem_append.mp hp).elim (fun z => I.pin p (List.mem_append_left _ z)) (h p), I.hok, I.len⟩

theorem nodup_ix {N : List Str} (hN : N.Nodup) {i j : Nat} {x : Str} (a : N[i]? = some x) (b : N[j]? = some x) : i = j := by
  obtain ⟨h1, e1⟩ := List.getElem?_eq_some_iff.mp a
  obtain ⟨h2, e2⟩ := List.getElem?_eq_some_iff.mp b
  exact (List.getElem_inj hN).mp (e1.trans e2.symm)

theorem store_ok2 {M : Model} {A : Around} {E : Value → Shared → Prop} {i : Nat} {x : Str} {v : V} {u : Value} {Q : Unit → Shared → Prop} (I : Inv X pins σ H s) (hN : X.N.Nodup) (hi : X.N[i]? = some x) (hx : Loc X.env.scope x) (r : RelV v u)
    (h : ∀ s', Inv X pins (σ.set i (some v)) H s' → (∃ a, Heap.SameBut a s.heap s'.heap ∧ (a = X.env.locals ∨ X.env.cells.lookup x = some a)) → Q () s') (hf : X.fn x = true ∨ X.env.scope.names.lookup x = some .local := by first | exact .inl rfl | exact .inr rfl | assumption) : wpAny M A (storeName X.env x u) Q E s := by
  obtain ⟨m, hn, hl⟩ := id I.loc
  have hcls : (X.env.scope.kind == .class || (X.env.scope.kind == .module && X.env.locals != X.env.globals)) = false := by rw [I.ok.kind]; rfl
  have hiσ : i < σ.length := by rw [I.len]; exact (List.getElem?_eq_some_iff.mp hi).1
  have cne := I.cne
  have tracked : ∀ {a : Addr} {h' : Heap}, (∃ o, s.heap.get? a = some o ∧ H a = none) → Heap.SameBut a s.heap h' → HOk X.prog X.w H h' := fun {a h'} ha hs b ob e => by
    obtain ⟨_, _, hfree⟩ := ha
    refine (I.hok b ob e).stay (fun c w' hc q => (hs.2 c ?_).trans q) (fun _ q => q) fun _ _ q => q
    rintro rfl
    rcases hc with rfl | hc
    · rw [hfree] at e; cases e
    · rw [hfree] at hc; cases hc
  rcases hx with hk | hk
  · refine wpAny_storeName_local hk hn (fun h' hn' hs => ?_) hcls
    obtain ⟨oL, _, _, hoL, _⟩ := id hn
    refine h _ ⟨I.ok, I.os, I.bare, ⟨fun b o e n hb hx => ?_, fun b o e n hb hx => ?_, I.base.free, fun b o e hx => ?_, I.base.tups, I.base.frzs, I.base.tbls⟩, ⟨_, hn', fun j y v' e1 e2 e3 => ?_⟩, fun y c e => ?_, I.free, I.freeC, fun p hp => ?_, tracked ⟨oL, hoL, I.free⟩ hs, by simpa using I.len⟩ ⟨_, hs, .inl rfl⟩
    · exact (hs.2 b (Nat.ne_of_lt (Nat.lt_of_lt_of_le (Heap.lt_size e) I.ok.above))).trans (I.base.keep b o e n hb hx)
    · obtain ⟨sl, e1⟩ := I.base.slot b o e n hb hx
      exact ⟨sl, (hs.2 b (Nat.ne_of_lt (Nat.lt_of_lt_of_le (Heap.lt_size e) I.ok.above))).trans e1⟩
    · obtain ⟨o', e1⟩ := I.base.there b o e hx
      exact ⟨o', (hs.2 b (Nat.ne_of_lt (Nat.lt_of_lt_of_le (Heap.lt_size e) I.ok.above))).trans e1⟩
    · by_cases hj : j = i
      · subst hj
        rw [hi] at e1; cases e1
        rw [List.getElem?_set_self hiσ] at e2
        cases e2
        exact ⟨u, r, .inl ⟨hk, by simp⟩⟩
      · rw [List.getElem?_set_ne (Ne.symm hj)] at e2
        obtain ⟨u', r', q⟩ := hl j y v' e1 e2 e3
        refine ⟨u', r', ?_⟩
        rcases q with ⟨k, e⟩ | ⟨k, c, e, z⟩
        · refine .inl ⟨k, ?_⟩
          have : y ≠ x := fun e => hj (nodup_ix hN e1 (e ▸ hi))
          simp [this, e]
        · exact .inr ⟨k, c, e, z.sameBut hs (cne y c e)⟩
    · obtain ⟨w', z⟩ := I.cell y c e
      exact ⟨w', z.sameBut hs (cne y c e)⟩
    · obtain ⟨e, n, ne, nf, d⟩ := I.pin p hp
      exact ⟨(hs.2 p.1 ne).trans e, n, ne, nf, d⟩
  · have hfn : X.fn x = true := by
      rcases hf with z | z
      · exact z
      · rw [z] at hk; cases hk
    obtain ⟨c, hc⟩ := I.ok.has x (.inl hk)
    obtain ⟨w', z⟩ := I.cell x c hc
    refine wpAny_storeName_cell I.ok.kind hk hc z (fun h' hc' hs => ?_)
    obtain ⟨oc, hoc, hocd⟩ := id z
    refine h { s with heap := h' } ⟨I.ok, I.os, I.bare, ⟨fun b o e n hb hx => ?_, fun b o e n hb hx => ?_, I.base.free, fun b o e hx => ?_, I.base.tups, I.base.frzs, I.base.tbls⟩, ⟨m, hn.sameBut hs (Ne.symm (cne x c hc)), fun j y v' e1 e2 e3 => ?_⟩, fun y c' e => ?_, I.free, I.freeC, fun p hp => ?_, tracked ⟨oc, hoc, I.freeC x c hc⟩ hs, by simpa using I.len⟩ ⟨c, hs, .inr hc⟩
    · exact (hs.2 b (Nat.ne_of_lt (Nat.lt_of_lt_of_le (Heap.lt_size e) (I.ok.cab x c hfn hc)))).trans (I.base.keep b o e n hb hx)
    · obtain ⟨sl, e1⟩ := I.base.slot b o e n hb hx
      exact ⟨sl, (hs.2 b (Nat.ne_of_lt (Nat.lt_of_lt_of_le (Heap.lt_size e) (I.ok.cab x c hfn hc)))).trans e1⟩
    · obtain ⟨o', e1⟩ := I.base.there b o e hx
      exact ⟨o', (hs.2 b (Nat.ne_of_lt (Nat.lt_of_lt_of_le (Heap.lt_size e) (I.ok.cab x c hfn hc)))).trans e1⟩
    · by_cases hj : j = i
      · subst hj
        rw [hi] at e1; cases e1
        rw [List.getElem?_set_self hiσ] at e2
        cases e2
        exact ⟨u, r, .inr ⟨.inl hk, c, hc, hc'⟩⟩
      · rw [List.getElem?_set_ne (Ne.symm hj)] at e2
        obtain ⟨u', r', q⟩ := hl j y v' e1 e2 e3
        refine ⟨u', r', ?_⟩
        rcases q with q | ⟨k, c', e, z'⟩
        · exact .inl q
        · refine .inr ⟨k, c', e, z'.sameBut hs ?_⟩
          rintro rfl
          exact hj (nodup_ix hN e1 (I.ok.inj _ _ _ e hc ▸ hi))
    · by_cases hcc : c' = c
      · subst hcc; exact ⟨_, hc'⟩
      · obtain ⟨w2, z2⟩ := I.cell y c' e
        exact ⟨w2, z2.sameBut hs hcc⟩
    · obtain ⟨e, n, ne, nf, d⟩ := I.pin p hp
      refine ⟨(hs.2 p.1 ?_).trans e, n, ne, nf, d⟩
      intro q
      rw [q, hoc] at e
      have q' : oc = p.2 := Option.some.inj e
      exact d w' (by rw [← q']; exact hocd)
theorem store_ok {M : Model} {A : Around} {E : Value → Shared → Prop} {i : Nat} {x : Str} {v : V} {u : Value} {Q : Unit → Shared → Prop} (I : Inv X pins σ H s) (hN : X.N.Nodup) (hi : X.N[i]? = some x) (hx : Loc X.env.scope x) (r : RelV v u)
    (h : ∀ s', Inv X pins (σ.set i (some v)) H s' → Q () s') (hf : X.fn x = true ∨ X.env.scope.names.lookup x = some .local := by first | exact .inl rfl | exact .inr rfl | assumption) : wpAny M A (storeName X.env x u) Q E s :=
  store_ok2 I hN hi hx r (fun s' I' _ => h s' I') hf
theorem Inv.call' {s' : Shared} {ch : List Addr} (I : Inv X pins σ H s) (ho : s'.os = s.os) (u : Un (frs X.stack) ch H H' s.heap s'.heap) (hok : HOk X.prog X.w H' s'.heap) (hg : AllBare s'.gens)
    (hch : ∀ b ∈ ch, (b ∈ X.ex ∨ X.s₀.heap.objs.size ≤ b) ∧ b ≠ X.env.locals ∧ (∀ x c, X.env.cells.lookup x = some c → c ≠ b) ∧ ∀ p ∈ X.pn ++ pins, p.1 ≠ b) : Inv X pins σ H' s' := by
  obtain ⟨h', g', d', t', o'⟩ := s'
  have e : o' = s.os := ho
  subst e
  exact I.call (g' := g') (t' := t') (d' := d') u hok hg hch
end

abbrev XK := Value → Option Addr → Hp → Prop
abbrev St := List (Option V)
abbrev VK := V → Hp → Prop
abbrev TE := St → Hp → VK → Prop
abbrev TT := St → Hp → (Bool → Hp → Prop) → Prop
abbrev TA := St → Hp → (List V → Hp → Prop) → Prop
structure Ends where
  nx : St → Hp → Prop
  rt : VK
  bk : St → Hp → Prop := fun _ _ => False
  ct : St → Hp → Prop := fun _ _ => False
abbrev TS := Ends → St → Hp → Prop

def EP (X : Cx) (pins : List (Addr × Obj)) (σ : St) (Q : VK) (u : Value) (s' : Shared) : Prop := ∃ v H', Inv X pins σ H' s' ∧ RelV v u ∧ Q v H'
def TP (X : Cx) (pins : List (Addr × Obj)) (σ : St) (Q : Bool → Hp → Prop) (b : Bool) (s' : Shared) : Prop := ∃ H', Inv X pins σ H' s' ∧ Q b H'
def AP (X : Cx) (pins : List (Addr × Obj)) (σ : St) (Q : List V → Hp → Prop) (us : List Value) (s' : Shared) : Prop := ∃ vs H', Inv X pins σ H' s' ∧ Vals vs us ∧ Q vs H'
def SP (X : Cx) (pins : List (Addr × Obj)) (D : Ends) (f : Flow) (s' : Shared) : Prop :=
  match f with
  | .next => ∃ σ' H', Inv X pins σ' H' s' ∧ D.nx σ' H'
  | .brk => ∃ σ' H', Inv X pins σ' H' s' ∧ D.bk σ' H'
  | .cont => ∃ σ' H', Inv X pins σ' H' s' ∧ D.ct σ' H'
  | .ret u => ∃ v σ' H', Inv X pins σ' H' s' ∧ RelV v u ∧ D.rt v H'

def PE (X : Cx) (e : Expr) (t : TE) : Prop :=
  ∀ (pins : List (Addr × Obj)) (s : Shared) (σ : St) (H : Hp) (Q : VK), Inv X pins σ H s → t σ H Q → wpAny (model X.prog X.w) X.A (eval e X.env) (EP X pins σ Q) X.xe s
def PT (X : Cx) (e : Expr) (t : TT) : Prop :=
  ∀ (pins : List (Addr × Obj)) (s : Shared) (σ : St) (H : Hp) (Q : Bool → Hp → Prop), Inv X pins σ H s → t σ H Q → wpAny (model X.prog X.w) X.A (isTrue e X.env (eval e X.env)) (TP X pins σ Q) X.xe s
def PW (X : Cx) (e : Expr) (t : TT) : Prop :=
  ∀ (whole : Sem Value) (pins : List (Addr × Obj)) (s : Shared) (σ : St) (H : Hp) (Q : Bool → Hp → Prop), Inv X pins σ H s → t σ H Q → wpAny (model X.prog X.w) X.A (isTrue e X.env whole) (TP X pins σ Q) X.xe s
theorem PW.pt {X : Cx} {e : Expr} {t : TT} (h : PW X e t) : PT X e t := h _
def PA (X : Cx) (es : List Expr) (t : TA) : Prop :=
  ∀ (pos : Pos) (pins : List (Addr × Obj)) (s : Shared) (σ : St) (H : Hp) (Q : List V → Hp → Prop), Inv X pins σ H s → t σ H Q → wpAny (model X.prog X.w) X.A (spliced (backTo pos (starEach es X.env))) (AP X pins σ Q) X.xe s
def PS (X : Cx) (st : Stmt) (t : TS) : Prop :=
  ∀ (pins : List (Addr × Obj)) (s : Shared) (σ : St) (H : Hp) (D : Ends), Inv X pins σ H s → t D σ H → wpAny (model X.prog X.w) X.A (exec st X.env) (SP X pins D) X.xe s
def PSs (X : Cx) (st : List Stmt) (t : TS) : Prop :=
  ∀ (pins : List (Addr × Obj)) (s : Shared) (σ : St) (H : Hp) (D : Ends), Inv X pins σ H s → t D σ H → wpAny (model X.prog X.w) X.A (execs st X.env) (SP X pins D) X.xe s
theorem thn {α : Type} {t : Sem α} {Q Q' : α → Shared → Prop} {M : Model} {A : Around} {E : Value → Shared → Prop} {s : Shared} (h : wpAny M A t Q E s) (hQ : ∀ a s, Q a s → Q' a s) : wpAny M A t Q' E s := wpAny_mono h hQ fun _ _ x => x
end L2

namespace L2
open PySem PySem.Spec PyProof.Rows
section
variable {X : Cx}

def tVar (i : Nat) : TE := fun σ H Q => ∃ v, σ[i]? = some (some v) ∧ Q v H
def tC (v : V) : TE := fun _ H Q => Q v H
theorem pe_var {i : Nat} {x : Str} {pos : Pos} (hN : X.N[i]? = some x) (hv : Vis X.env.scope x) (hd : (x == ("__debug__" : Str)) = false := by decide) (hcd : (x == ("__classdict__" : Str)) = false := by decide) : PE X (.Name x pos) (tVar i) := by
  intro pins s σ H Q I h
  obtain ⟨v, e, h⟩ := h
  obtain ⟨m, hn, hl⟩ := I.loc
  obtain ⟨u, r, l⟩ := hl i x v hN e hv
  have fin : EP X pins σ Q u s := ⟨v, H, I, r, h⟩
  rcases l with ⟨hk, hm⟩ | ⟨hk, c, hc, hcell⟩
  · exact wpAny_Name (wpAny_loadName_local I.ok.kind hk hn hm fin) hd
  · rcases hk with hk | hk
    · exact wpAny_Name (wpAny_loadName_cell I.ok.kind hk hc hcell fin) hd
    · exact wpAny_Name (wpAny_loadName_free I.ok.kind hk hc hcell fin hcd) hd
theorem pe_int {i j pos} : PE X (.Constant (.int i) j pos) (tC (.int i)) := fun _ _ _ H _ I h => wpAny_Constant_int ⟨.int i, H, I.tok _, ⟨_, rfl⟩, h⟩
theorem pe_bl {b j pos} : PE X (.Constant (.bool b) j pos) (tC (.bl b)) := fun _ _ _ H _ I h => Constant_bool ⟨.bl b, H, I, rfl, h⟩
theorem pe_str {x j pos} : PE X (.Constant (.str x) j pos) (tC (.str x)) := fun _ _ _ H _ I h => Calls.Constant_str ⟨.str x, H, I.tok _, ⟨_, rfl⟩, h⟩

def Gl (X : Cx) (x : Str) : Prop := X.env.kindOf x = some .globalImplicit
theorem ld_glob {E : Value → Shared → Prop} {pins : List (Addr × Obj)} {s : Shared} {σ : St} {H : Hp} {x : Str} {u : Value} {pos : Pos} {Q : Value → Shared → Prop} (I : Inv X pins σ H s) (hg : Gl X x) (hm : X.mg x = some u) (h : Q u s)
    (hd : (x == ("__debug__" : Str)) = false := by decide) : wpAny (model X.prog X.w) X.A (eval (.Name x pos) X.env) Q E s :=
  Calls.Name_function_global I.ok.kind hg (Calls.loadGlobal_global (by rw [I.ok.glob]; exact I.mod.glob.keeps I.bk) hm h) hd
theorem ld_blt {E : Value → Shared → Prop} {pins : List (Addr × Obj)} {s : Shared} {σ : St} {H : Hp} {x : Str} {u : Value} {pos : Pos} {Q : Value → Shared → Prop} (I : Inv X pins σ H s) (hg : Gl X x) (hm : X.mg x = none) (hv : bootBuiltins x = some u) (h : Q u s)
    (hn : x ≠ "__name__" := by decide) (hd : (x == ("__debug__" : Str)) = false := by decide) : wpAny (model X.prog X.w) X.A (eval (.Name x pos) X.env) Q E s := by
  obtain ⟨mb, h1, h2⟩ := I.mod.blt
  exact Calls.Name_function_global I.ok.kind hg (Calls.loadGlobal_builtin (by rw [I.ok.glob]; exact I.mod.glob.keeps I.bk) hm (by rw [I.ok.blt]; exact h1.keeps I.bk) ((h2 x hn).trans hv) h) hd
theorem pe_glob {x : Str} {v : V} {u : Value} {pos : Pos} (hg : Gl X x) (hm : X.mg x = some u) (r : RelV v u) (hd : (x == ("__debug__" : Str)) = false := by decide) : PE X (.Name x pos) (tC v) :=
  fun _ _ _ H _ I h => ld_glob I hg hm ⟨v, H, I, r, h⟩ hd
theorem pe_bltn {x : Str} {v : V} {u : Value} {pos : Pos} (hg : Gl X x) (hm : X.mg x = none) (hv : bootBuiltins x = some u) (r : RelV v u) (hn : x ≠ "__name__" := by decide) (hd : (x == ("__debug__" : Str)) = false := by decide) : PE X (.Name x pos) (tC v) :=
  fun _ _ _ H _ I h => ld_blt I hg hm hv ⟨v, H, I, r, h⟩ hn hd

variable {a b : Expr} {ta tb : TE} {pos : Pos}
def tB (t : TE) : TT := fun σ H Q => t σ H fun x H1 => ∃ c, x = .bl c ∧ Q c H1
theorem pt_val {e : Expr} {t : TE} (h : PE X e t) (he : ∀ whole, isTrue e X.env whole = (do let v ← whole; standAt e.pos; holding [v] (truthy v)) := by intro _; rfl) : PT X e (tB t) := by
  intro pins s σ H Q I hw
  refine isTrue_plain (thn (h pins s σ H _ I hw) fun v s1 ⟨x, H1, I1, r1, q1⟩ => ?_) (he _)
  obtain ⟨d, rfl, q⟩ := q1
  cases r1
  exact wpAny_truthy_bool ⟨H1, I1, q⟩

variable {tA tB' : TT} {rest : List Expr}
def tAnd (t u : TT) : TT := fun σ H Q => t σ H fun c H1 => if c = true then u σ H1 Q else Q false H1
def tOr (t u : TT) : TT := fun σ H Q => t σ H fun c H1 => if c = true then Q true H1 else u σ H1 Q
def tNot (t : TT) : TT := fun σ H Q => t σ H fun c H1 => Q (!c) H1
theorem pw_and1 (ha : PT X a tA) : PW X (.BoolOp .And [a] pos) tA := by
  intro wh pins s σ H Q I h
  refine isTrue_and (thn (ha pins s σ H Q I h) fun c s1 e => ?_)
  cases c with
  | true => exact isTrue_and_nil e
  | false => exact e
theorem pw_or1 (ha : PT X a tA) : PW X (.BoolOp .Or [a] pos) tA := by
  intro wh pins s σ H Q I h
  refine isTrue_or (thn (ha pins s σ H Q I h) fun c s1 e => ?_)
  cases c with
  | false => exact isTrue_or_nil e
  | true => exact e
theorem pw_and (ha : PT X a tA) (hb : PW X (.BoolOp .And (b :: rest) pos) tB') : PW X (.BoolOp .And (a :: b :: rest) pos) (tAnd tA tB') := by
  intro wh pins s σ H Q I h
  refine isTrue_and (thn (ha pins s σ H _ I h) fun c s1 ⟨H1, I1, q1⟩ => ?_)
  cases c with
  | true => exact hb wh pins s1 σ H1 Q I1 q1
  | false => exact ⟨H1, I1, q1⟩
theorem pw_or (ha : PT X a tA) (hb : PW X (.BoolOp .Or (b :: rest) pos) tB') : PW X (.BoolOp .Or (a :: b :: rest) pos) (tOr tA tB') := by
  intro wh pins s σ H Q I h
  refine isTrue_or (thn (ha pins s σ H _ I h) fun c s1 ⟨H1, I1, q1⟩ => ?_)
  cases c with
  | true => exact ⟨H1, I1, q1⟩
  | false => exact hb wh pins s1 σ H1 Q I1 q1
theorem pt_not (ha : PT X a tA) : PT X (.UnaryOp .Not a pos) (tNot tA) := by
  intro pins s σ H Q I h
  exact isTrue_not (ha pins s σ H (fun c H1 => Q (!c) H1) I h)
def tAndV (ta tb : TE) : TE := fun σ H Q => ta σ H fun x H1 => ∃ c, x = .bl c ∧ if c = true then tb σ H1 Q else Q (.bl false) H1
def tNotV (ta : TE) : TE := fun σ H Q => ta σ H fun x H1 => ∃ c, x = .bl c ∧ Q (.bl (!c)) H1
theorem pe_one {op} {t : TE} (h : PE X a t) : PE X (.BoolOp op [a] pos) t := fun pins s σ H Q I hw => BoolOp_one (h pins s σ H Q I hw)
theorem pe_and (ha : PE X a ta) (hb : PE X (.BoolOp .And (b :: rest) pos) tb) : PE X (.BoolOp .And (a :: b :: rest) pos) (tAndV ta tb) := by
  intro pins s σ H Q I h
  refine BoolOp_and (thn (ha pins s σ H _ I h) fun v s1 ⟨x, H1, I1, r1, q1⟩ => ?_)
  obtain ⟨c, rfl, q1⟩ := q1
  cases r1
  refine wpAny_truthy_bool ?_
  cases c with
  | true => exact hb pins s1 σ H1 Q I1 q1
  | false => exact ⟨.bl false, H1, I1, rfl, q1⟩
theorem pe_not (ha : PE X a ta) : PE X (.UnaryOp .Not a pos) (tNotV ta) := by
  intro pins s σ H Q I h
  refine UnaryOp_ (thn (ha pins s σ H _ I h) fun v s1 ⟨x, H1, I1, r1, q1⟩ => ?_)
  obtain ⟨c, rfl, q1⟩ := q1
  cases r1
  exact not_of (wpAny_truthy_bool ⟨.bl (!c), H1, I1, rfl, q1⟩)
end
end L2

namespace L2
open PySem PySem.Spec PyProof.Rows

def SqL (K : PySem.W.Frag) (H : Hp) (a : Addr) (xs : List V) : Prop :=
  Rd H a (.lst xs) ∨
    ∃ (o : Obj) (its : Array Value) (n : Nat), K.lookup a = some o ∧ o.cls = .type "list" ∧ o.dict = none ∧ o.data = .seq its n ∧ its.size ≤ sizeLine ∧ Vals xs its.toList
def SqT (K : PySem.W.Frag) (H : Hp) (a : Addr) (xs : List V) : Prop :=
  Rd H a (.tup xs) ∨
    ∃ (o : Obj) (its : Array Value) (n : Nat), K.lookup a = some o ∧ o.cls = .type "tuple" ∧ o.data = .seq its n ∧ its.size ≤ sizeLine ∧ Vals xs its.toList
def absV : Value → Option V
  | .none => some .non
  | .bool b => some (.bl b)
  | .int i _ => some (.int i)
  | .str x _ => some (.str x)
  | .bytes b _ => some (.byt b)
  | .float b _ => some (.flt b)
  | .ref a => some (.ref a)
  | .type n => some (.ty n)
  | _ => none
theorem RelV.abs {x : V} {u : Value} (r : RelV x u) : absV u = some x := by
  cases x with
  | non => cases r; rfl
  | bl _ => cases r; rfl
  | int _ => obtain ⟨t, rfl⟩ := r; rfl
  | str _ => obtain ⟨t, rfl⟩ := r; rfl
  | byt _ => obtain ⟨t, rfl⟩ := r; rfl
  | flt _ => obtain ⟨t, rfl⟩ := r; rfl
  | ref _ => cases r; rfl
  | ty _ => cases r; rfl
theorem RelV.inj {x y : V} {u : Value} (r : RelV x u) (q : RelV y u) : x = y := Option.some.inj (r.abs.symm.trans q.abs)
theorem Vals.inj : ∀ {xs ys : List V} {us : List Value}, Vals xs us → Vals ys us → xs = ys
  | _, _, _, .nil, .nil => rfl
  | _, _, _, .cons r t, .cons r' t' => by rw [r.inj r', Vals.inj t t']
section
variable {X : Cx} {pins : List (Addr × Obj)} {σ : St} {H : Hp} {s : Shared} {a : Addr} {xs ys : List V}
theorem SqL.of {K : PySem.W.Frag} (h : H a = some (.lst xs)) : SqL K H a xs := .inl (.inl h)
theorem SqT.of {K : PySem.W.Frag} (h : H a = some (.tup xs)) : SqT K H a xs := .inl (.inl h)
theorem Inv.list (I : Inv X pins σ H s) (h : SqL X.K H a xs) : ∃ its : List Value, Vals xs its ∧ PlainL s.heap a its.toArray ∧ xs.length ≤ sizeLine := by
  rcases h with h | ⟨o, its, n, hk, hc, hd, hs, hz, r⟩
  · obtain ⟨z, its, n, r, e⟩ := h.ok I.hok
    exact ⟨its, r, ⟨_, n, e, rfl, rfl, rfl⟩, z⟩
  · refine ⟨its.toList, r, ⟨o, n, I.kIn a o hk, hc, hd, by simpa using hs⟩, ?_⟩
    have e := r.length
    simp only [Array.length_toList] at e
    omega
theorem Inv.tuple (I : Inv X pins σ H s) (h : SqT X.K H a xs) : ∃ its : List Value, Vals xs its ∧ IsTup s.heap a its.toArray ∧ xs.length ≤ sizeLine := by
  rcases h with h | ⟨o, its, n, hk, hc, hs, hz, r⟩
  · obtain ⟨z, its, r, p⟩ := h.ok I.hok
    exact ⟨its, r, p, z⟩
  · refine ⟨its.toList, r, ⟨o, I.kIn a o hk, hc, n, by simpa using hs⟩, ?_⟩
    have e := r.length
    simp only [Array.length_toList] at e
    omega
theorem Inv.list_inj (I : Inv X pins σ H s) (h : SqL X.K H a xs) (h' : SqL X.K H a ys) : xs = ys := by
  obtain ⟨its, r, ⟨o, n, e, _, _, d⟩, _⟩ := I.list h
  obtain ⟨its', r', ⟨o', n', e', _, _, d'⟩, _⟩ := I.list h'
  rw [e] at e'; cases e'
  rw [d] at d'
  injection d' with d1 _
  have : its = its' := by simpa using congrArg Array.toList d1
  subst this
  exact r.inj r'
theorem Inv.tuple_inj (I : Inv X pins σ H s) (h : SqT X.K H a xs) (h' : SqT X.K H a ys) : xs = ys := by
  obtain ⟨its, r, ⟨o, e, _, n, d⟩, _⟩ := I.tuple h
  obtain ⟨its', r', ⟨o', e', _, n', d'⟩, _⟩ := I.tuple h'
  rw [e] at e'; cases e'
  rw [d] at d'
  injection d' with d1 _
  have : its = its' := by simpa using congrArg Array.toList d1
  subst this
  exact r.inj r'
end

abbrev Cx.wish (X : Cx) (E : Value → Shared → Prop) : Cx := { X with xe := E }
abbrev Cx.nox (X : Cx) : Cx := X.wish fun _ _ => False
theorem Cx.Ok.wish {X : Cx} (ok : X.Ok) (E : Value → Shared → Prop) : (X.wish E).Ok :=
  ⟨ok.mod, ok.kind, ok.glob, ok.blt, ok.above, ok.inj, ok.has, ok.cab, ok.hd, ok.frames, ok.stk, ok.exf, ok.bs, ok.bsz, ok.noex, ok.exfs, ok.funs, ok.frf⟩
theorem Cx.Ok.unwish {X : Cx} {E : Value → Shared → Prop} (ok : (X.wish E).Ok) : X.Ok :=
  ⟨ok.mod, ok.kind, ok.glob, ok.blt, ok.above, ok.inj, ok.has, ok.cab, ok.hd, ok.frames, ok.stk, ok.exf, ok.bs, ok.bsz, ok.noex, ok.exfs, ok.funs, ok.frf⟩
section
variable {X : Cx} {pins : List (Addr × Obj)} {σ : St} {H : Hp} {s : Shared} {E : Value → Shared → Prop}
theorem Inv.wish (I : Inv X pins σ H s) (E : Value → Shared → Prop) : Inv (X.wish E) pins σ H s := ⟨I.ok.wish E, I.os, I.bare, I.base, I.loc, I.cell, I.free, I.freeC, I.pin, I.hok, I.len⟩
theorem Inv.unwish (I : Inv (X.wish E) pins σ H s) : Inv X pins σ H s := ⟨I.ok.unwish, I.os, I.bare, I.base, I.loc, I.cell, I.free, I.freeC, I.pin, I.hok, I.len⟩
theorem SP.unwish {D : Ends} {f : Flow} {s' : Shared} (h : SP (X.wish E) pins D f s') : SP X pins D f s' := by
  cases f with
  | next => obtain ⟨σ', H', I, q⟩ := h; exact ⟨σ', H', I.unwish, q⟩
  | brk => obtain ⟨σ', H', I, q⟩ := h; exact ⟨σ', H', I.unwish, q⟩
  | cont => obtain ⟨σ', H', I, q⟩ := h; exact ⟨σ', H', I.unwish, q⟩
  | ret u => obtain ⟨v, σ', H', I, r, q⟩ := h; exact ⟨v, σ', H', I.unwish, r, q⟩
theorem PE.nox {e : Expr} {t : TE} (h : PE X.nox e t) : PE X e t := fun pins s σ H Q I hw =>
  wpAny_mono (h pins s σ H Q (I.wish _) hw) (fun _ _ ⟨v, H', I', r, q⟩ => ⟨v, H', I'.unwish, r, q⟩) fun _ _ z => False.elim z
theorem PT.nox {e : Expr} {t : TT} (h : PT X.nox e t) : PT X e t := fun pins s σ H Q I hw =>
  wpAny_mono (h pins s σ H Q (I.wish _) hw) (fun _ _ ⟨H', I', q⟩ => ⟨H', I'.unwish, q⟩) fun _ _ z => False.elim z
theorem PSs.nox {st : List Stmt} {t : TS} (h : PSs X.nox st t) : PSs X st t := fun pins s σ H D I hw =>
  wpAny_mono (h pins s σ H D (I.wish _) hw) (fun _ _ q => q.unwish) fun _ _ z => False.elim z
end

section
variable {X : Cx} {st : Stmt} {rest : List Stmt} {t u : TS} {e : Expr} {te : TE} {pos : Pos}
def tNext : TS := fun D σ H => D.nx σ H
def tSeq (t u : TS) : TS := fun D σ H => t { D with nx := u D } σ H
theorem pss_nil : PSs X [] tNext := fun _ _ σ H _ I h => wpAny_execs_nil ⟨σ, H, I, h⟩
theorem pss_cons (h1 : PS X st t) (h2 : PSs X rest u) : PSs X (st :: rest) (tSeq t u) := by
  intro pins s σ H D I h
  refine wpAny_execs_cons (thn (h1 pins s σ H { D with nx := u D } I h) fun f s1 q => ?_)
  cases f with
  | next =>
    obtain ⟨σ', H', I', q⟩ := q
    exact h2 pins s1 σ' H' D I' q
  | ret v => exact q
  | brk => exact q
  | cont => exact q
theorem pss_one (h1 : PS X st t) : PSs X [st] t := by
  intro pins s σ H D I h
  refine wpAny_execs_cons (thn (h1 pins s σ H D I h) fun f s1 q => ?_)
  cases f with
  | next => exact wpAny_execs_nil q
  | ret v => exact q
  | brk => exact q
  | cont => exact q
theorem Inv.quiet {pins : List (Addr × Obj)} {σ : St} {H : Hp} {s : Shared} (I : Inv X pins σ H s) : interactive X.env = false := by simp [interactive, I.ok.kind]
def tDrop (te : TE) : TS := fun D σ H => te σ H fun _ H1 => D.nx σ H1
theorem ps_expr (he : PE X e te) (hs : swapsWith e none pos.line X.env = pure false := by rfl) : PS X (.Expr e pos) (tDrop te) := by
  intro pins s σ H D I h
  exact wpAny_Expr_any (thn (he pins s σ H _ I h) fun v s1 ⟨x, H1, I1, r1, q1⟩ => ⟨σ, H1, I1, q1⟩) I.quiet hs
def tRet (te : TE) : TS := fun D σ H => te σ H D.rt
theorem ps_ret (he : PE X e te) : PS X (.Return (some e) pos) (tRet te) := by
  intro pins s σ H D I h
  exact wpAny_Return_some (thn (he pins s σ H _ I h) fun v s1 ⟨x, H1, I1, r1, q1⟩ => ⟨x, σ, H1, I1, r1, q1⟩)
def tRetN : TS := fun D _ H => D.rt .non H
theorem ps_retN : PS X (.Return none pos) tRetN := fun _ _ σ H _ I h => wpAny_Return_none ⟨.non, σ, H, I, rfl, h⟩
def tIfS (c : TT) (t u : TS) : TS := fun D σ H => c σ H fun b H1 => if b = true then t D σ H1 else u D σ H1
theorem ps_if {c : Expr} {a b : List Stmt} {tc : TT} (hc : PT X c tc) (ha : PSs X a t) (hb : PSs X b u) : PS X (.If c a b pos) (tIfS tc t u) := by
  intro pins s σ H D I h
  refine wpAny_If (thn (hc pins s σ H _ I h) fun d s1 ⟨H1, I1, q1⟩ => ?_)
  cases d with
  | true => exact ha pins s1 σ H1 D I1 q1
  | false => exact hb pins s1 σ H1 D I1 q1
end

abbrev TG := V → St → Hp → (St → Hp → Prop) → Prop
abbrev TGs := List V → St → Hp → (St → Hp → Prop) → Prop
def PG (X : Cx) (target : Expr) (t : TG) : Prop :=
  ∀ (pins : List (Addr × Obj)) (s : Shared) (σ : St) (H : Hp) (v : V) (u : Value) (Q : St → Hp → Prop), Inv X pins σ H s → RelV v u → t v σ H Q →
    wpAny (model X.prog X.w) X.A (assign target X.env u) (fun _ s' => ∃ σ' H', Inv X pins σ' H' s' ∧ Q σ' H') X.xe s
def PGs (X : Cx) (ts : List Expr) (t : TGs) : Prop :=
  ∀ (pins : List (Addr × Obj)) (s : Shared) (σ : St) (H : Hp) (vs : List V) (us : List Value) (Q : St → Hp → Prop), Inv X pins σ H s → Vals vs us → t vs σ H Q →
    wpAny (model X.prog X.w) X.A (assignInOrder ((assignEach ts X.env).map (·.2)) us) (fun _ s' => ∃ σ' H', Inv X pins σ' H' s' ∧ Q σ' H') X.xe s
abbrev TSet := V → V → V → Hp → (Hp → Prop) → Prop
def PSet (X : Cx) (t : TSet) : Prop :=
  ∀ (pins : List (Addr × Obj)) (s : Shared) (σ : St) (H : Hp) (o i v : V) (ov iv u : Value) (Q : Hp → Prop), Inv X pins σ H s → RelV o ov → RelV i iv → RelV v u → t o i v H Q →
    wpAny (model X.prog X.w) X.A (setItem ov iv u) (fun _ s' => ∃ H', Inv X pins σ H' s' ∧ Q H') X.xe s
section
variable {X : Cx} {pos : Pos}
def gName (i : Nat) : TG := fun v σ H Q => Q (σ.set i (some v)) H
theorem pg_name {i : Nat} {x : Str} (hN : X.N.Nodup) (hi : X.N[i]? = some x) (hx : Loc X.env.scope x) (hf : X.fn x = true ∨ X.env.scope.names.lookup x = some .local := by first | exact .inl rfl | exact .inr rfl | assumption) : PG X (.Name x pos) (gName i) := by
  intro pins s σ H v u Q I r h
  exact wpAny_assign_Name (store_ok I hN hi hx r (fun s' I' => ⟨_, H, I', h⟩) hf)
def gNil : TGs := fun vs σ H Q => vs = [] ∧ Q σ H
def gCons (t : TG) (u : TGs) : TGs := fun vs σ H Q => ∃ v r, vs = v :: r ∧ t v σ H fun σ' H' => u r σ' H' Q
theorem pgs_nil : PGs X [] gNil := by
  intro pins s σ H vs us Q I r h
  obtain ⟨e, h⟩ := h
  subst e
  cases r
  exact assignInOrder_nil ⟨σ, H, I, h⟩
theorem pgs_cons {e : Expr} {es : List Expr} {t : TG} {u : TGs} (h1 : PG X e t) (h2 : PGs X es u)
    (hs : (assignEach (e :: es) X.env).map (·.2) = assign e X.env :: (assignEach es X.env).map (·.2) := by rfl) : PGs X (e :: es) (gCons t u) := by
  intro pins s σ H vs us Q I r h
  obtain ⟨v, vr, e1, h⟩ := h
  subst e1
  cases r with
  | cons r rr =>
    rw [hs]
    refine assignInOrder_cons (thn (h1 pins s σ H _ _ _ I r h) fun _ s1 ⟨σ1, H1, I1, q1⟩ => ?_)
    exact h2 pins s1 σ1 H1 _ _ Q I1 rr q1
def gTup (K : PySem.W.Frag) (n : Nat) (t : TGs) : TG := fun v σ H Q => ∃ a xs, v = .ref a ∧ SqT K H a xs ∧ xs.length = n ∧ t xs σ H Q
theorem pg_tup {es : List Expr} {k : Nat} {t : TGs} {n : Nat} (hc : X.calm = true) (h : PGs X es t)
    (hn : (assignEach es X.env).length = n := by rfl) (hst : (assignEach es X.env).findIdx? (·.1) = none := by rfl) : PG X (.Tuple es k pos) (gTup X.K n t) := by
  intro pins s σ H v u Q I r hw
  obtain ⟨a, xs, e1, hq, hl, hw⟩ := hw
  subst e1
  cases r
  obtain ⟨its, rv, ht, hz⟩ := I.tuple hq
  refine assign_Tuple_tuple (I.ok.hd hc) ht (by simp [hn, ← hl, rv.length]) hst fun h' hx => ?_
  have I1 : Inv X pins σ H { s with heap := h' } := I.kept (t' := s.toks) fun b o e => hx b o (Nat.ne_of_lt (Heap.lt_size e)) e
  exact h pins _ σ H xs _ Q I1 (by simpa using rv) hw
def gSub (to ti : TE) (t : TSet) : TG := fun v σ H Q => to σ H fun o H1 => ti σ H1 fun i H2 => t o i v H2 fun H3 => Q σ H3
theorem pg_sub {o i : Expr} {to ti : TE} {t : TSet} (ho : PE X o to) (hi : PE X i ti) (hs : PSet X t)
    (ha : ∀ v, assign (.Subscript o i pos) X.env v = (do
      let ov ← holding [v] (eval o X.env)
      let iv ← holding [v, ov] (eval i X.env)
      standAt pos
      holding [v, ov, iv] (setItem ov iv v)
      release [v, ov, iv] []) := by intro _; rfl) : PG X (.Subscript o i pos) (gSub to ti t) := by
  intro pins s σ H v u Q I r h
  rw [ha]
  refine wpAny_bind (wpAny_holding (thn (ho pins s σ H _ I h) fun ov s1 ⟨x, H1, I1, r1, q1⟩ => ?_))
  refine wpAny_bind (wpAny_holding (thn (hi pins s1 σ H1 _ I1 q1) fun iv s2 ⟨y, H2, I2, r2, q2⟩ => ?_))
  refine wpAny_bind (wpAny_standAt (wpAny_bind (wpAny_holding (thn (hs pins s2 σ H2 x y v ov iv u _ I2 r1 r2 r q2) fun _ s3 ⟨H3, I3, q3⟩ => ?_))))
  exact wpAny_release ⟨σ, H3, I3, q3⟩
def tAsg (te : TE) (g : TG) : TS := fun D σ H => te σ H fun x H1 => g x σ H1 D.nx
theorem ps_asg {tg e : Expr} {te : TE} {g : TG} (he : PE X e te) (hg : PG X tg g) (hs : swapsWithSole [tg] e pos.line X.env = pure false := by rfl) (hw : swappedStores [tg] e X.env = pure none := by rfl)
    (h1 : (assignEach [tg] X.env).map (·.2) = [assign tg X.env] := by rfl) : PS X (.Assign [tg] e pos) (tAsg te g) := by
  intro pins s σ H D I h
  refine wpAny_Assign_stores (thn (he pins s σ H _ I h) fun v s1 ⟨x, H1, I1, r1, q1⟩ => ?_) hs hw
  rw [h1]
  exact thn (hg pins s1 σ H1 x v _ I1 r1 q1) fun _ s2 q => q
theorem ps_set {i : Nat} {x : Str} {e : Expr} {te : TE} {pos' : Pos} (hN : X.N.Nodup) (hi : X.N[i]? = some x) (hx : Loc X.env.scope x) (he : PE X e te) (hs : swapsWith e (some (.Name x pos')) pos.line X.env = pure false := by rfl) (hf : X.fn x = true ∨ X.env.scope.names.lookup x = some .local := by first | exact .inl rfl | exact .inr rfl | assumption) :
    PS X (.Assign [.Name x pos'] e pos) (tAsg te (gName i)) := by
  intro pins s σ H D I h
  refine wpAny_Assign_Name (thn (he pins s σ H _ I h) fun v s1 ⟨y, H1, I1, r1, q1⟩ => ?_) hs
  exact store_ok I1 hN hi hx r1 (fun s2 I2 => ⟨_, H1, I2, q1⟩) hf
end

section
variable {X : Cx} {pos : Pos}
def tWhile (c : TT) (tb : TS) : TS := fun D σ H => ∃ W : Nat → St → Hp → Prop, (∃ m, W m σ H) ∧ ∀ m σ H, W m σ H →
  c σ H fun b H1 => if b = true then ∃ N : St → Hp → Prop, (∀ σ' H', N σ' H' → ∃ m', m' < m ∧ W m' σ' H') ∧ tb { D with nx := N, ct := N, bk := D.nx } σ H1 else D.nx σ H1
theorem ps_while {c : Expr} {body : List Stmt} {tc : TT} {tb : TS} (hp : PassesOwn (model X.prog X.w) X.A X.env X.xe) (hc : PT X c tc) (hb : PSs X body tb) : PS X (.While c body [] pos) (tWhile tc tb) := by
  intro pins s σ H D I h
  obtain ⟨W, ⟨m0, w0⟩, turn⟩ := h
  refine wpAny_While (codeAny_whileLoop (fun n s' => ∃ σ' H', Inv X pins σ' H' s' ∧ W n σ' H') ?_ m0 ⟨σ, H, I, w0⟩)
  rintro n s1 ⟨σ1, H1, I1, w1⟩
  refine wpAny_passesOwn hp (thn (hc pins s1 σ1 H1 _ I1 (turn n σ1 H1 w1)) fun b s2 ⟨H2, I2, q2⟩ => ?_)
  cases b with
  | true =>
    obtain ⟨N, hN, q2⟩ := q2
    rw [if_pos rfl]
    refine wpAny_passesOwn hp (thn (hb pins s2 σ1 H2 _ I2 q2) fun f s3 q3 => ?_)
    cases f with
    | next =>
      obtain ⟨σ3, H3, I3, n3⟩ := q3
      obtain ⟨m', hm, w3⟩ := hN σ3 H3 n3
      exact ⟨m', hm, σ3, H3, I3, w3⟩
    | cont =>
      obtain ⟨σ3, H3, I3, n3⟩ := q3
      obtain ⟨m', hm, w3⟩ := hN σ3 H3 n3
      exact ⟨m', hm, σ3, H3, I3, w3⟩
    | brk => exact q3
    | ret v => exact q3
  | false =>
    rw [if_neg Bool.false_ne_true]
    exact wpAny_execs_nil ⟨σ1, H2, I2, q2⟩
end

structure It where
  go : Nat → Hp → Prop
  yld : Nat → Hp → V → Hp → Prop
  stop : Nat → Hp → Prop
def FpOk (X : Cx) (pins : List (Addr × Obj)) (H : Hp) (b : Addr) : Prop :=
  H b = none ∧ b ≠ X.env.locals ∧ b ∉ X.fs ∧ (b ∈ X.ex ∨ X.s₀.heap.objs.size ≤ b) ∧ (∀ x c, X.env.cells.lookup x = some c → c ≠ b) ∧ ∀ p ∈ X.pn ++ pins, p.1 ≠ b
theorem Inv.fpOk {X : Cx} {pins : List (Addr × Obj)} {σ : St} {H H' : Hp} {s : Shared} {b : Addr} (I : Inv X pins σ H s) (hb : s.heap.objs.size ≤ b) (hn : H' b = none) : FpOk X pins H' b := by
  refine ⟨hn, Nat.ne_of_gt (Nat.lt_of_lt_of_le I.lt hb), I.nofs hb, .inr (Nat.le_trans I.sz hb), fun x c e z => ?_, fun p hp z => ?_⟩
  · obtain ⟨v, q⟩ := I.cell x c e
    exact absurd (Nat.lt_of_lt_of_le q.lt (by rw [z]; exact hb)) (Nat.lt_irrefl _)
  · exact absurd (Nat.lt_of_lt_of_le (Heap.lt_size (I.pin p hp).1) (by rw [z]; exact hb)) (Nat.lt_irrefl _)
structure Turn (P : Program) (w : World) (K : PySem.W.Frag) (tg : Expr) (J : It) (fp : List Addr) (it : Addr) (tn : Nat → Heap → Prop) : Prop where
  mem : it ∈ fp
  obj : ∀ i h, tn i h → ∀ b ∈ fp, ∃ o, h.get? b = some o ∧ ∀ v, o.data ≠ .cell v
  keep : ∀ i h h', tn i h → (∀ b ∈ fp, ∀ o, h.get? b = some o → h'.get? b = some o) → tn i h'
  item : ∀ (X : Cx), X.prog = P → X.w = w → X.K = K → X.calm = true → ∀ (i : Nat) (pins : List (Addr × Obj)) (s : Shared) (σ : St) (H : Hp) (E : Value → Shared → Prop), Inv X pins σ H s → (∀ b ∈ fp, FpOk X pins H b) → tn i s.heap → J.go i H →
    wpAny (model P w) X.A (pyNext (.ref it)) (fun r s1 => ∃ u, r = some u ∧
      wpAny (model P w) X.A (letOwnedTupleGo tg (.ref it) u) (fun _ s2 => ∃ x H', Inv X pins σ H' s2 ∧ RelV x u ∧ J.yld i H x H' ∧ tn (i + 1) s2.heap ∧ ∀ b ∈ fp, H' b = none) E s1) E s
  done : ∀ (X : Cx), X.prog = P → X.w = w → X.K = K → X.calm = true → ∀ (i : Nat) (pins : List (Addr × Obj)) (s : Shared) (σ : St) (H : Hp) (E : Value → Shared → Prop), Inv X pins σ H s → (∀ b ∈ fp, FpOk X pins H b) → tn i s.heap → J.stop i H →
    wpAny (model P w) X.A (pyNext (.ref it)) (fun r s1 => r = none ∧ Inv X pins σ H s1) E s
  self : ∀ (A : Around) (i : Nat) (s : Shared) (Q : Value → Shared → Prop) (E : Value → Shared → Prop), tn i s.heap → Q (.ref it) s → wpAny (model P w) A (pyIter (.ref it)) Q E s
abbrev TI := St → Hp → (It → Hp → Prop) → Prop
def PIE (X : Cx) (pins : List (Addr × Obj)) (σ : St) (tg : Expr) (R : It → Hp → Prop) (itv : Value) (s2 : Shared) : Prop :=
  ∃ (it : Addr) (fp : List Addr) (tn : Nat → Heap → Prop) (J : It) (H' : Hp), itv = .ref it ∧ Inv X pins σ H' s2 ∧ Turn X.prog X.w X.K tg J fp it tn ∧ tn 0 s2.heap ∧ (∀ b ∈ fp, FpOk X pins H' b) ∧ R J H'
def PI (X : Cx) (tg iter : Expr) (wi : TI) : Prop :=
  ∀ (pins : List (Addr × Obj)) (s : Shared) (σ : St) (H : Hp) (R : It → Hp → Prop), Inv X pins σ H s → wi σ H R →
    wpAny (model X.prog X.w) X.A (eval iter X.env) (fun v s1 => wpAny (model X.prog X.w) X.A (pyIter v) (PIE X pins σ tg R) X.xe s1) X.xe s

theorem go_of {M : Model} {A : Around} {E : Value → Shared → Prop} {s : Shared} {tg : Expr} {it : Addr} {u : Value} {o : Obj} {n : String} {vs : Array Value} {Q : Unit → Shared → Prop} (ho : s.heap.get? it = some o) (hc : o.cls = .type n) (hd : o.data = .fields vs)
    (hn : ["enumerate", "zip", "dict_itemiterator", "dict_reverseitemiterator", "odict_iterator", "itertools.zip_longest", "itertools.pairwise"].contains n = false) (hQ : Q () s) : wpAny M A (letOwnedTupleGo tg (.ref it) u) Q E s := by
  unfold letOwnedTupleGo
  cases tg <;> first
    | exact wpAny_pure hQ
    | (cases u <;> first
        | exact wpAny_pure hQ
        | (refine wpAny_bind (wpAny_load ho ?_)
           rw [hc, hd]
           show wpAny M A (if (["enumerate", "zip", "dict_itemiterator", "dict_reverseitemiterator", "odict_iterator", "itertools.zip_longest", "itertools.pairwise"].contains n && vs[0]? == some (rawInt _)) = true then _ else _) Q E s
           rw [if_neg (by intro h; rw [hn, Bool.false_and] at h; cases h)]
           exact wpAny_pure hQ))

def Itl (K : PySem.W.Frag) (a : Addr) : It :=
  ⟨fun i H => ∃ xs x, SqL K H a xs ∧ xs[i]? = some x, fun i H x H' => H' = H ∧ ∀ xs, SqL K H a xs → xs[i]? = some x, fun i H => ∃ xs, SqL K H a xs ∧ xs.length ≤ i⟩
def Itr (lo : Int) (n : Nat) : It := ⟨fun i _ => i < n, fun i H x H' => H' = H ∧ x = .int (lo + i), fun i _ => n ≤ i⟩
theorem turn_list {P : Program} {w : World} {K : PySem.W.Frag} {tg : Expr} (a it : Addr) : Turn P w K tg (Itl K a) [it] it (fun i h => h.IsListIter it a i) where
  mem := by simp
  obj := fun i h st b hb => by
    have e : b = it := by simpa using hb
    subst e
    obtain ⟨o, e, c, d⟩ := st
    exact ⟨o, e, fun v z => by rw [d] at z; cases z⟩
  keep := fun i h h' st k => st.at fun o e => k it (by simp) o e
  item := by
    intro X hP hw hK hc i pins s σ H E I hf st hg
    subst hP hw hK
    obtain ⟨xs, x, hq, hx⟩ := hg
    obtain ⟨its, rv, p, hz⟩ := I.list hq
    obtain ⟨u, hu, ru⟩ := rv.get hx
    obtain ⟨f0, f1, f2, f3, f4, f5⟩ := hf it (by simp)
    refine wpAny_pyNext_list_item st p.isList (x := u) (by simpa using hu) fun h' st' sb => ?_
    have I1 : Inv X pins σ H { s with heap := h' } := I.turned (t' := s.toks) (fun b o hb e => (sb.2 b hb).trans e) f0 f1 f3 f4 f5
    obtain ⟨o, e, c, d⟩ := id st'
    exact ⟨u, rfl, go_of (s := { s with heap := h' }) e c d (by decide) ⟨x, H, I1, ru, ⟨rfl, fun ys hy => by rw [I.list_inj hy hq]; exact hx⟩, st', fun b hb => (hf b hb).1⟩⟩
  done := by
    intro X hP hw hK hc i pins s σ H E I hf st hg
    subst hP hw hK
    obtain ⟨xs, hq, hx⟩ := hg
    obtain ⟨its, rv, p, hz⟩ := I.list hq
    obtain ⟨f0, f1, f2, f3, f4, f5⟩ := hf it (by simp)
    have hl := rv.length
    exact wpAny_pyNext_list_end (I.ok.hd hc) st p.isList (by simp; omega) fun h' eb => ⟨rfl, I.turned (t' := s.toks) (fun b o hb e => eb b o hb e) f0 f1 f3 f4 f5⟩
  self := fun _ _ _ _ _ st h => wpAny_pyIter_listiter st h
theorem turn_range {P : Program} {w : World} {K : PySem.W.Frag} {tg : Expr} (it : Addr) (lo : Int) (n : Nat) : Turn P w K tg (Itr lo n) [it] it (fun i h => IsRangeIter h it (lo + (i : Nat) * 1) ((n : Int) - (i : Nat)) 1) where
  mem := by simp
  obj := fun i h st b hb => by
    have e : b = it := by simpa using hb
    subst e
    exact ⟨_, st, fun v z => by
      have z' : Data.fields _ = Data.cell v := z
      cases z'⟩
  keep := fun i h h' st k => k it (by simp) _ st
  item := by
    intro X hP hw hK hc i pins s σ H E I hf st hg
    subst hP hw hK
    obtain ⟨f0, f1, f2, f3, f4, f5⟩ := hf it (by simp)
    have W := Walks.range (prog := X.prog) (w := X.w) (I.ok.hd hc) it lo 1 n
    refine W.item i s _ _ hg st fun v h' tk hv st' kk => ?_
    obtain ⟨t, rfl⟩ := hv
    have I1 : Inv X pins σ H { s with heap := h', toks := tk } := I.turned (fun b o hb e => kk b o (by simpa using hb) e) f0 f1 f3 f4 f5
    refine ⟨_, rfl, go_of (s := { s with heap := h', toks := tk }) (n := "range_iterator") st' rfl rfl (by decide) ⟨.int (lo + i), H, I1, ⟨t, ?_⟩, ⟨rfl, rfl⟩, st', fun b hb => (hf b hb).1⟩⟩
    rw [Int.mul_one]
  done := by
    intro X hP hw hK hc i pins s σ H E I hf st hg
    subst hP hw hK
    obtain ⟨f0, f1, f2, f3, f4, f5⟩ := hf it (by simp)
    exact wpAny_pyNext_range_end (I.ok.hd hc) st (by have : n ≤ i := hg; omega) fun h' eb => ⟨rfl, I.turned (t' := s.toks) (fun b o hb e => eb b o hb e) f0 f1 f3 f4 f5⟩
  self := fun _ _ _ _ _ st h => wpAny_pyIter_rangeiter st h
end L2

namespace L2
open PySem PySem.Spec PyProof.Rows
section
variable {X : Cx} {tg : Expr}
def iList (K : PySem.W.Frag) (tl : TE) : TI := fun σ H R => tl σ H fun x H1 => ∃ a, x = .ref a ∧ (∃ xs, SqL K H1 a xs) ∧ R (Itl K a) H1
theorem pi_list {l : Expr} {tl : TE} (hl : PE X l tl) : PI X tg l (iList X.K tl) := by
  intro pins s σ H R I h
  refine thn (hl pins s σ H _ I h) fun v s1 ⟨x, H1, I1, r1, q1⟩ => ?_
  obtain ⟨a, e, ⟨xs, hq⟩, q⟩ := q1
  subst e
  cases r1
  obtain ⟨its, rv, p, hz⟩ := I1.list hq
  refine wpAny_pyIter_list p.isList ?_
  refine ⟨s1.heap.objs.size, [s1.heap.objs.size], _, _, H1, rfl, I1.kept (t' := s1.toks) fun b o e => Heap.get?_push_of_some _ e, turn_list a _, ⟨_, Heap.get?_push_size _ rfl, rfl, rfl⟩, fun b hb => ?_, q⟩
  have e : b = s1.heap.objs.size := by simpa using hb
  subst e
  exact I1.fpOk (Nat.le_refl _) (I1.hok.fresh (Nat.le_refl _))
theorem range_it {pins : List (Addr × Obj)} {σ : St} {H : Hp} {s : Shared} {R : It → Hp → Prop} {E : Value → Shared → Prop} {lo hi : Int} {t u v : Tok} {tk : Nat} (I : Inv X pins σ H s) (h1 : -(2 ^ 62) ≤ lo) (h2 : lo < 2 ^ 62) (h3 : -(2 ^ 62) ≤ hi) (h4 : hi < 2 ^ 62)
    (q : R (Itr lo (hi - lo).toNat) H) : wpAny (model X.prog X.w) X.A (pyIter (.ref s.heap.objs.size)) (PIE X pins σ tg R) E { s with heap := s.heap.push { cls := .type "range", data := .fields #[.int lo t, .int hi u, .int 1 v] }, toks := tk } := by
  refine wpAny_pyIter_range (IsRange.new ..) (small_one h1 h2 h3 h4) ?_
  have I1 : Inv X pins σ H { s with heap := s.heap.push { cls := .type "range", data := .fields #[.int lo t, .int hi u, .int 1 v] }, toks := tk } := I.kept fun b o e => Heap.get?_push_of_some _ e
  refine ⟨(s.heap.push { cls := .type "range", data := .fields #[.int lo t, .int hi u, .int 1 v] }).objs.size, [(s.heap.push { cls := .type "range", data := .fields #[.int lo t, .int hi u, .int 1 v] }).objs.size], _, _, H, rfl,
    I1.kept (t' := tk) fun b o e => Heap.get?_push_of_some _ e, turn_range _ lo (hi - lo).toNat, ?_, fun b hb => ?_, q⟩
  · have e1 : lo + ((0 : Nat) : Int) * 1 = lo := by simp
    have e2 : (((hi - lo).toNat : Nat) : Int) - ((0 : Nat) : Int) = Builtin.Range.rangeSize lo hi 1 := by rw [rangeSize_one]; split <;> omega
    show IsRangeIter _ _ (lo + ((0 : Nat) : Int) * 1) ((((hi - lo).toNat : Nat) : Int) - ((0 : Nat) : Int)) 1
    rw [e1, e2]
    exact Heap.get?_push_size _ rfl
  · have e : b = (s.heap.push { cls := .type "range", data := .fields #[.int lo t, .int hi u, .int 1 v] }).objs.size := by simpa using hb
    subst e
    exact I1.fpOk (Nat.le_refl _) (I1.hok.fresh (Nat.le_refl _))
def iRng1 (ta : TA) : TI := fun σ H R => ta σ H fun vs H1 => ∃ j : Int, vs = [.int j] ∧ -(2 ^ 62) ≤ j ∧ j < 2 ^ 62 ∧ R (Itr 0 j.toNat) H1
theorem pi_range1 {a : Expr} {ta : TA} {p pos : Pos} (hg : Gl X "range") (hm : X.mg "range" = none) (ha : PA X [a] ta) (hs : starEach [a] X.env = [(false, eval a X.env)] := by rfl) : PI X tg (.Call (.Name "range" p) [a] [] pos) (iRng1 ta) := by
  intro pins s σ H R I h
  refine Call_ (ld_blt I hg hm boot_range (PyProof.Rows.callWith_type1 (thn (ha pos pins s σ H _ I h) fun us s1 ⟨vs, H1, I1, r1, q1⟩ => ?_) hs rfl))
  obtain ⟨j, e, q1, q2, q⟩ := q1
  subst e
  cases r1 with
  | cons r rr =>
    cases rr
    obtain ⟨t, rfl⟩ := r
    exact call_range_1 (range_it I1 (by omega) (by omega) q1 q2 (by simpa using q))
def tFor (wi : TI) (g : TG) (tb : TS) : TS := fun D σ H => wi σ H fun J H1 => ∃ W : Nat → Nat → St → Hp → Prop, (∃ m, W 0 m σ H1) ∧ ∀ i m σ H, W i m σ H →
  (J.stop i H ∧ D.nx σ H) ∨ (J.go i H ∧ ∃ N : St → Hp → Prop, (∀ σ' H', N σ' H' → ∃ m', m' < m ∧ W (i + 1) m' σ' H') ∧ ∀ x H', J.yld i H x H' → g x σ H' fun σ2 H2 => tb { D with nx := N, ct := N, bk := D.nx } σ2 H2)
def pinsAt (fp : List Addr) (h : Heap) : List (Addr × Obj) := fp.filterMap fun b => (h.get? b).map fun o => (b, o)
theorem mem_pinsAt {fp : List Addr} {h : Heap} {b : Addr} {o : Obj} (hb : b ∈ fp) (e : h.get? b = some o) : (b, o) ∈ pinsAt fp h := List.mem_filterMap.mpr ⟨b, hb, by rw [e]; rfl⟩
theorem of_pinsAt {fp : List Addr} {h : Heap} {p : Addr × Obj} (hp : p ∈ pinsAt fp h) : p.1 ∈ fp ∧ h.get? p.1 = some p.2 := by
  obtain ⟨b, hb, e⟩ := List.mem_filterMap.mp hp
  cases q : h.get? b with
  | none => rw [q] at e; cases e
  | some o =>
    rw [q] at e
    have e' : (b, o) = p := Option.some.inj e
    subst e'
    exact ⟨hb, q⟩
theorem Inv.pinned {pins : List (Addr × Obj)} {σ : St} {H : Hp} {s : Shared} {fp : List Addr} (I : Inv X pins σ H s) (hf : ∀ b ∈ fp, FpOk X pins H b) (ho : ∀ b ∈ fp, ∃ o, s.heap.get? b = some o ∧ ∀ v, o.data ≠ .cell v) : Inv X (pins ++ pinsAt fp s.heap) σ H s :=
  I.pins_of fun p hp => (List.mem_append.mp hp).elim (fun z => I.pin p (List.mem_append_right _ z)) fun z => by
    obtain ⟨hb, e⟩ := of_pinsAt z
    obtain ⟨f0, f1, f2, _⟩ := hf p.1 hb
    obtain ⟨o, e', d⟩ := ho p.1 hb
    rw [e] at e'; cases e'
    exact ⟨e, f0, f1, f2, d⟩
theorem Inv.unpinned {pins pl : List (Addr × Obj)} {σ : St} {H : Hp} {s : Shared} (I : Inv X (pins ++ pl) σ H s) : Inv X pins σ H s := I.pins_of fun p hp => I.pin p (List.mem_append_right _ (List.mem_append_left _ hp))
theorem ps_for {iter : Expr} {body : List Stmt} {wi : TI} {g : TG} {tb : TS} {pos : Pos} (hp : PassesOwn (model X.prog X.w) X.A X.env X.xe) (hc : X.calm = true) (hi : PI X tg iter wi) (hg : PG X tg g) (hb : PSs X body tb)
    (hs : ∀ x, foldedSetIterable iter X.env x = pure x := by intro _; rfl) : PS X (.For tg iter body [] pos) (tFor wi g tb) := by
  intro pins s σ H D I h
  refine wpAny_For (thn (hi pins s σ H _ I h) fun v s1 h1 => thn h1 fun itv s2 h2 => ?_) hs
  obtain ⟨it, fp, tn, J, H2, e, I2, T, st2, f2, W, ⟨m0, w0⟩, turn⟩ := h2
  subst e
  have stat : ∀ {H' : Hp}, (∀ b ∈ fp, H' b = none) → ∀ b ∈ fp, FpOk X pins H' b := fun hn b hb => ⟨hn b hb, (f2 b hb).2⟩
  refine codeAny_forLoop_any (fun n s' => ∃ i σ' H', Inv X pins σ' H' s' ∧ tn i s'.heap ∧ (∀ b ∈ fp, H' b = none) ∧ W i n σ' H') ?_ m0 ⟨0, σ, H2, I2, st2, fun b hb => (f2 b hb).1, w0⟩
  rintro n s3 ⟨i, σ3, H3, I3, st3, fr3, w3⟩
  rcases turn i n σ3 H3 w3 with ⟨stop, qn⟩ | ⟨go, N, hN, step⟩
  · refine wpAny_passesOwn hp (thn (T.done X rfl rfl rfl hc i pins s3 σ3 H3 X.xe I3 (stat fr3) st3 stop) fun r s4 ⟨hr, I4⟩ => ?_)
    subst hr
    exact wpAny_execs_nil ⟨σ3, H3, I4, qn⟩
  · refine wpAny_passesOwn hp (thn (T.item X rfl rfl rfl hc i pins s3 σ3 H3 X.xe I3 (stat fr3) st3 go) fun r s4 ⟨u, hr, h4⟩ => ?_)
    subst hr
    refine wpAny_passesOwn hp (thn h4 fun _ s5 ⟨x, H5, I5, r5, y5, st5, fr5⟩ => ?_)
    have I5' := I5.pinned (stat fr5) (T.obj _ _ st5)
    refine wpAny_passesOwn hp (thn (hg _ s5 σ3 H5 x u _ I5' r5 (step x H5 y5)) fun _ s6 ⟨σ6, H6, I6, q6⟩ => ?_)
    refine wpAny_passesOwn hp (thn (hb _ s6 σ6 H6 _ I6 q6) fun f s7 q7 => ?_)
    have again : ∀ {σ7 : St} {H7 : Hp}, Inv X (pins ++ pinsAt fp s5.heap) σ7 H7 s7 → N σ7 H7 → ∃ m, m < n ∧ ∃ i σ' H', Inv X pins σ' H' s7 ∧ tn i s7.heap ∧ (∀ b ∈ fp, H' b = none) ∧ W i m σ' H' := fun {σ7 H7} I7 n7 => by
      obtain ⟨m', hm, w7⟩ := hN σ7 H7 n7
      refine ⟨m', hm, i + 1, σ7, H7, I7.unpinned, T.keep _ _ _ st5 fun b hb o e => (I7.pin (b, o) (List.mem_append_right _ (List.mem_append_right _ (mem_pinsAt hb e)))).1, fun b hb => ?_, w7⟩
      obtain ⟨o, e, d⟩ := T.obj _ _ st5 b hb
      exact (I7.pin (b, o) (List.mem_append_right _ (List.mem_append_right _ (mem_pinsAt hb e)))).2.1
    cases f with
    | next => obtain ⟨σ7, H7, I7, n7⟩ := q7; exact again I7 n7
    | cont => obtain ⟨σ7, H7, I7, n7⟩ := q7; exact again I7 n7
    | brk => obtain ⟨σ7, H7, I7, q7⟩ := q7; exact ⟨σ7, H7, I7.unpinned, q7⟩
    | ret v => obtain ⟨x7, σ7, H7, I7, r7, q7⟩ := q7; exact ⟨x7, σ7, H7, I7.unpinned, r7, q7⟩
end

theorem for_list {K : PySem.W.Frag} {a : Addr} {xs : List V} {g : TG} {tb : TS} {D : Ends} {σ : St} {H : Hp} (Pv : Nat → St → Hp → Prop) (h0 : Pv 0 σ H) (hl : ∀ i σ H, i ≤ xs.length → Pv i σ H → SqL K H a xs)
    (hs : ∀ i x σ H, xs[i]? = some x → Pv i σ H → g x σ H fun σ2 H2 => tb { D with nx := Pv (i + 1), ct := Pv (i + 1), bk := D.nx } σ2 H2) (hd : ∀ σ H, Pv xs.length σ H → D.nx σ H) :
    ∃ W : Nat → Nat → St → Hp → Prop, (∃ m, W 0 m σ H) ∧ ∀ i m σ H, W i m σ H →
      ((Itl K a).stop i H ∧ D.nx σ H) ∨ ((Itl K a).go i H ∧ ∃ N : St → Hp → Prop, (∀ σ' H', N σ' H' → ∃ m', m' < m ∧ W (i + 1) m' σ' H') ∧ ∀ x H', (Itl K a).yld i H x H' → g x σ H' fun σ2 H2 => tb { D with nx := N, ct := N, bk := D.nx } σ2 H2) := by
  refine ⟨fun i m σ H => m = xs.length - i ∧ i ≤ xs.length ∧ Pv i σ H, ⟨xs.length, by simp, Nat.zero_le _, h0⟩, ?_⟩
  rintro i m σ H ⟨rfl, hi, p⟩
  have q := hl i σ H hi p
  by_cases hlt : i < xs.length
  · refine .inr ⟨⟨xs, xs[i], q, by simp [hlt]⟩, Pv (i + 1), fun σ' H' p' => ⟨xs.length - (i + 1), by omega, rfl, hlt, p'⟩, fun x H' y => ?_⟩
    obtain ⟨e, y⟩ := y
    subst e
    exact hs i x σ _ (y xs q) p
  · have e : i = xs.length := by omega
    subst e
    exact .inl ⟨⟨xs, q, Nat.le_refl _⟩, hd σ H p⟩
theorem for_range {lo : Int} {n : Nat} {g : TG} {tb : TS} {D : Ends} {σ : St} {H : Hp} (Pv : Nat → St → Hp → Prop) (h0 : Pv 0 σ H)
    (hs : ∀ i σ H, i < n → Pv i σ H → g (.int (lo + i)) σ H fun σ2 H2 => tb { D with nx := Pv (i + 1), ct := Pv (i + 1), bk := D.nx } σ2 H2) (hd : ∀ σ H, Pv n σ H → D.nx σ H) :
    ∃ W : Nat → Nat → St → Hp → Prop, (∃ m, W 0 m σ H) ∧ ∀ i m σ H, W i m σ H →
      ((Itr lo n).stop i H ∧ D.nx σ H) ∨ ((Itr lo n).go i H ∧ ∃ N : St → Hp → Prop, (∀ σ' H', N σ' H' → ∃ m', m' < m ∧ W (i + 1) m' σ' H') ∧ ∀ x H', (Itr lo n).yld i H x H' → g x σ H' fun σ2 H2 => tb { D with nx := N, ct := N, bk := D.nx } σ2 H2) := by
  refine ⟨fun i m σ H => m = n - i ∧ i ≤ n ∧ Pv i σ H, ⟨n, by simp, Nat.zero_le _, h0⟩, ?_⟩
  rintro i m σ H ⟨rfl, hi, p⟩
  by_cases hlt : i < n
  · refine .inr ⟨hlt, Pv (i + 1), fun σ' H' p' => ⟨n - (i + 1), by omega, rfl, hlt, p'⟩, fun x H' y => ?_⟩
    obtain ⟨e, y⟩ := y
    subst e y
    exact hs i σ _ hlt p
  · have e : i = n := by omega
    subst e
    exact .inl ⟨Nat.le_refl _, hd σ H p⟩
theorem while_by {c : TT} {tb : TS} {D : Ends} {σ : St} {H : Hp} (Pv : St → Hp → Prop) (μ : St → Hp → Nat) (h0 : Pv σ H)
    (hs : ∀ σ H, Pv σ H → c σ H fun b H1 => if b = true then tb { D with nx := fun σ' H' => Pv σ' H' ∧ μ σ' H' < μ σ H, ct := fun σ' H' => Pv σ' H' ∧ μ σ' H' < μ σ H, bk := D.nx } σ H1 else D.nx σ H1)
    (mono : ∀ σ H Q Q', (∀ b H1, Q b H1 → Q' b H1) → c σ H Q → c σ H Q') : tWhile c tb D σ H := by
  refine ⟨fun m σ H => m = μ σ H ∧ Pv σ H, ⟨_, rfl, h0⟩, ?_⟩
  rintro m σ H ⟨rfl, p⟩
  refine mono σ H _ _ (fun b H1 q => ?_) (hs σ H p)
  cases b with
  | true => exact ⟨_, fun σ' H' ⟨p', l⟩ => ⟨_, l, rfl, p'⟩, q⟩
  | false => exact q
end L2

namespace L2
open PySem PySem.Spec PyProof.Rows

abbrev R2 := V → V → Hp → VK → Prop
def OpR (X : Cx) (f : Value → Value → Sem Value) (r : R2) : Prop :=
  ∀ (pins : List (Addr × Obj)) (s : Shared) (σ : St) (H : Hp) (x y : V) (v u : Value) (Q : VK), Inv X pins σ H s → RelV x v → RelV y u → r x y H Q →
    wpAny (model X.prog X.w) X.A (f v u) (EP X pins σ Q) X.xe s
def UnR (X : Cx) (f : Value → Sem Value) (r : V → Hp → VK → Prop) : Prop :=
  ∀ (pins : List (Addr × Obj)) (s : Shared) (σ : St) (H : Hp) (x : V) (v : Value) (Q : VK), Inv X pins σ H s → RelV x v → r x H Q →
    wpAny (model X.prog X.w) X.A (f v) (EP X pins σ Q) X.xe s
def CallR (X : Cx) (f : Value) (r : List V → Hp → VK → Prop) : Prop :=
  ∀ (pins : List (Addr × Obj)) (s : Shared) (σ : St) (H : Hp) (xs : List V) (us : List Value) (Q : VK), Inv X pins σ H s → Vals xs us → r xs H Q →
    wpAny (model X.prog X.w) X.A (call f us) (EP X pins σ Q) X.xe s
def TruR (X : Cx) (r : V → Hp → (Bool → Hp → Prop) → Prop) : Prop :=
  ∀ (pins : List (Addr × Obj)) (s : Shared) (σ : St) (H : Hp) (x : V) (v : Value) (Q : Bool → Hp → Prop), Inv X pins σ H s → RelV x v → r x H Q →
    wpAny (model X.prog X.w) X.A (truthy v) (TP X pins σ Q) X.xe s

def tOp (r : R2) (ta tb : TE) : TE := fun σ H Q => ta σ H fun x H1 => tb σ H1 fun y H2 => r x y H2 Q
def tUn (r : V → Hp → VK → Prop) (ta : TE) : TE := fun σ H Q => ta σ H fun x H1 => r x H1 Q
def rI (C : Int → Int → Prop) (g : Int → Int → V) : R2 := fun x y H Q => ∃ i j, x = .int i ∧ y = .int j ∧ C i j ∧ Q (g i j) H
def rI0 (g : Int → Int → V) : R2 := fun x y H Q => ∃ i j, x = .int i ∧ y = .int j ∧ Q (g i j) H
def rU (g : Int → V) : V → Hp → VK → Prop := fun x H Q => ∃ i, x = .int i ∧ Q (g i) H

section
variable {X : Cx} {a b c : Expr} {ta tb tc : TE} {pos : Pos}

theorem binT (ha : PE X a ta) (hb : PE X b tb) {pins : List (Addr × Obj)} {s : Shared} {σ : St} {H : Hp} {R : V → V → Hp → Prop} (I : Inv X pins σ H s)
    (h : ta σ H fun x H1 => tb σ H1 fun y H2 => R x y H2) {Q : Value → Shared → Prop} {f : Value → Value → Sem Value}
    (hf : ∀ v u s2 x y H2, Inv X pins σ H2 s2 → RelV x v → RelV y u → R x y H2 → wpAny (model X.prog X.w) X.A (f v u) Q X.xe s2) :
    wpAny (model X.prog X.w) X.A (eval a X.env) (fun v s₁ => wpAny (model X.prog X.w) X.A (eval b X.env) (fun u s₂ => wpAny (model X.prog X.w) X.A (f v u) Q X.xe s₂) X.xe s₁) X.xe s := by
  refine thn (ha pins s σ H _ I h) fun v s1 ⟨x, H1, I1, r1, q1⟩ => ?_
  refine thn (hb pins s1 σ H1 _ I1 q1) fun u s2 ⟨y, H2, I2, r2, q2⟩ => ?_
  exact hf v u s2 x y H2 I2 r1 r2 q2

theorem pe_op {op : Operator} {r : R2} (ho : OpR X (binaryOp op) r) (ha : PE X a ta) (hb : PE X b tb) : PE X (.BinOp a op b pos) (tOp r ta tb) := by
  intro pins s σ H Q I h
  exact wpAny_BinOp (binT ha hb I h fun v u s2 x y H2 I2 rx ry q => ho pins s2 σ H2 x y v u Q I2 rx ry q)
theorem pe_un {op : UnaryOp} {r : V → Hp → VK → Prop} (ho : UnR X (unaryOp op) r) (ha : PE X a ta) : PE X (.UnaryOp op a pos) (tUn r ta) := by
  intro pins s σ H Q I h
  exact UnaryOp_ (thn (ha pins s σ H _ I h) fun v s1 ⟨x, H1, I1, r1, q1⟩ => ho pins s1 σ H1 x v Q I1 r1 q1)
theorem opI {f : Value → Value → Sem Value} {C : Int → Int → Prop} {g : Int → Int → Int}
    (rule : ∀ (i j : Int) (t u : Tok) (s : Shared) (Q : Value → Shared → Prop) (E : Value → Shared → Prop), C i j → Q (.int (g i j) s.toks) { s with toks := s.toks + 1 } → wpAny (model X.prog X.w) X.A (f (.int i t) (.int j u)) Q E s) :
    OpR X f (rI C fun i j => .int (g i j)) := by
  intro pins s σ H x y v u Q I rx ry h
  obtain ⟨i, j, rfl, rfl, hc, q⟩ := h
  obtain ⟨t, rfl⟩ := rx
  obtain ⟨t', rfl⟩ := ry
  exact rule i j t t' s _ _ hc ⟨.int (g i j), H, I.tok _, ⟨_, rfl⟩, q⟩
theorem opI0 {f : Value → Value → Sem Value} {g : Int → Int → Int}
    (rule : ∀ (i j : Int) (t u : Tok) (s : Shared) (Q : Value → Shared → Prop) (E : Value → Shared → Prop), Q (.int (g i j) s.toks) { s with toks := s.toks + 1 } → wpAny (model X.prog X.w) X.A (f (.int i t) (.int j u)) Q E s) :
    OpR X f (rI0 fun i j => .int (g i j)) := by
  intro pins s σ H x y v u Q I rx ry h
  obtain ⟨i, j, rfl, rfl, q⟩ := h
  obtain ⟨t, rfl⟩ := rx
  obtain ⟨t', rfl⟩ := ry
  exact rule i j t t' s _ _ ⟨.int (g i j), H, I.tok _, ⟨_, rfl⟩, q⟩
theorem opB0 {f : Value → Value → Sem Value} {g : Int → Int → Bool}
    (rule : ∀ (i j : Int) (t u : Tok) (s : Shared) (Q : Value → Shared → Prop) (E : Value → Shared → Prop), Q (.bool (g i j)) s → wpAny (model X.prog X.w) X.A (f (.int i t) (.int j u)) Q E s) :
    OpR X f (rI0 fun i j => .bl (g i j)) := by
  intro pins s σ H x y v u Q I rx ry h
  obtain ⟨i, j, rfl, rfl, q⟩ := h
  obtain ⟨t, rfl⟩ := rx
  obtain ⟨t', rfl⟩ := ry
  exact rule i j t t' s _ _ ⟨.bl (g i j), H, I, rfl, q⟩

def CDiv (i j : Int) : Prop := 0 < j ∧ j < 1073741824
def CPow (i j : Int) : Prop := 0 ≤ j ∧ j ≤ 1000000 ∧ i.natAbs < 2 ^ 64
def CMul (i j : Int) : Prop := (-(2 ^ 64) < i ∧ i < 2 ^ 64) ∨ (-(2 ^ 64) < j ∧ j < 2 ^ 64)
theorem CMul.ok {i j : Int} (h : CMul i j) : IntMulOk i j := by
  rcases h with ⟨h1, h2⟩ | ⟨h1, h2⟩
  · exact .of_left (intBits_le_64 h1 h2)
  · exact .of_right (intBits_le_64 h1 h2)
theorem op_add : OpR X (binaryOp .Add) (rI0 fun i j => .int (i + j)) := opI0 fun _ _ _ _ _ _ _ q => add_int q
theorem op_sub : OpR X (binaryOp .Sub) (rI0 fun i j => .int (i - j)) := opI0 fun _ _ _ _ _ _ _ q => sub_int q
theorem op_mul : OpR X (binaryOp .Mult) (rI CMul fun i j => .int (i * j)) := opI fun _ _ _ _ _ _ _ hc q => mul_int q hc.ok
theorem op_fdiv : OpR X (binaryOp .FloorDiv) (rI CDiv fun i j => .int (i / j)) := opI fun i j _ _ _ _ _ hc q => by
  have h1 : (0 : Int) < j := hc.1
  have h2 : j < 1073741824 := hc.2
  exact floordiv_int (by omega) (by rw [Int.fdiv_eq_ediv_of_nonneg i (by omega)]; exact q) (.inl (PyProof.noPylong_small (by omega)))
theorem op_mod : OpR X (binaryOp .Mod) (rI (fun _ j => 0 < j) fun i j => .int (i % j)) := opI fun i j _ _ _ _ _ hc q => by
  have h1 : (0 : Int) < j := hc
  exact mod_int' (by omega) (by rw [Int.fmod_eq_emod_of_nonneg i (by omega)]; exact q)
theorem op_pow : OpR X (binaryOp .Pow) (rI CPow fun i j => .int (i ^ j.toNat)) := opI fun _ _ _ _ _ _ _ hc q => pow_int_small hc.1 hc.2.1 hc.2.2 q
theorem unI {f : Value → Sem Value} {g : Int → Int}
    (rule : ∀ (i : Int) (t : Tok) (s : Shared) (Q : Value → Shared → Prop) (E : Value → Shared → Prop), Q (.int (g i) s.toks) { s with toks := s.toks + 1 } → wpAny (model X.prog X.w) X.A (f (.int i t)) Q E s) :
    UnR X f (rU fun i => .int (g i)) := by
  intro pins s σ H x v Q I rx h
  obtain ⟨i, rfl, q⟩ := h
  obtain ⟨t, rfl⟩ := rx
  exact rule i t s _ _ ⟨.int (g i), H, I.tok _, ⟨_, rfl⟩, q⟩
theorem un_neg : UnR X (unaryOp .USub) (rU fun i => .int (-i)) := unI fun _ _ _ _ _ q => neg_int q
end

def scal : V → V → Bool
  | .non, .non => true | .non, .int _ => true | .int _, .non => true | .non, .bl _ => true | .bl _, .non => true | .non, .str _ => true | .str _, .non => true
  | .int _, .int _ => true | .bl _, .bl _ => true | .str _, .str _ => true | .byt _, .byt _ => true
  | .int _, .str _ => true | .str _, .int _ => true | .bl _, .str _ => true | .str _, .bl _ => true
  | _, _ => false
def rEq : R2 := fun x y H Q => scal x y = true ∧ Q (.bl (decide (x = y))) H
def rNe : R2 := fun x y H Q => scal x y = true ∧ Q (.bl (!decide (x = y))) H

theorem dec_int {i j : Int} : decide (V.int i = V.int j) = (i == j) := by
  rw [Bool.eq_iff_iff]
  simp
theorem dec_bl {i j : Bool} : decide (V.bl i = V.bl j) = (i == j) := by
  rw [Bool.eq_iff_iff]
  simp
theorem dec_str {i j : Str} : decide (V.str i = V.str j) = (i == j) := by
  rw [Bool.eq_iff_iff]
  simp
theorem dec_byt {i j : Array UInt8} : decide (V.byt i = V.byt j) = (i.toList == j.toList) := by
  rw [Bool.eq_iff_iff]
  cases i
  cases j
  simp

section
variable {X : Cx} {a b c : Expr} {ta tb tc : TE} {pos : Pos}
theorem fin_bl {pins : List (Addr × Obj)} {σ : St} {H : Hp} {s : Shared} {Q : VK} {k k' : Bool} (I : Inv X pins σ H s) (q : Q (.bl k) H) (e : k = k') : EP X pins σ Q (.bool k') s := by
  subst e
  exact ⟨.bl k, H, I, rfl, q⟩
theorem op_eq : OpR X (compareOp .Eq) rEq := by
  intro pins s σ H x y v u Q I rx ry h
  obtain ⟨hs, q⟩ := h
  cases x with
  | non =>
    cases rx
    cases y with
    | non => cases ry; exact PySem.EqNone.eq_none_none (fin_bl I q (by simp))
    | bl j => cases ry; exact PySem.EqNone.eq_none_bool (fin_bl I q (by simp))
    | int j => obtain ⟨t', rfl⟩ := ry; exact PySem.EqNone.eq_none_int (fin_bl I q (by simp))
    | str j => obtain ⟨t', rfl⟩ := ry; exact PySem.EqNone.eq_none_str (fin_bl I q (by simp))
    | _ => exact absurd (show false = true from hs) Bool.false_ne_true
  | bl i =>
    cases rx
    cases y with
    | non => cases ry; exact PySem.EqNone.eq_bool_none (fin_bl I q (by simp))
    | bl j => cases ry; exact eq_bool (fin_bl I q dec_bl)
    | str j => obtain ⟨t', rfl⟩ := ry; exact PySem.EqMixed.eq_bool_str (fin_bl I q (by simp))
    | _ => exact absurd (show false = true from hs) Bool.false_ne_true
  | int i =>
    obtain ⟨t, rfl⟩ := rx
    cases y with
    | non => cases ry; exact PySem.EqNone.eq_int_none (fin_bl I q (by simp))
    | int j => obtain ⟨t', rfl⟩ := ry; exact eq_int (fin_bl I q dec_int)
    | str j => obtain ⟨t', rfl⟩ := ry; exact PySem.EqMixed.eq_int_str (fin_bl I q (by simp))
    | _ => exact absurd (show false = true from hs) Bool.false_ne_true
  | str i =>
    obtain ⟨t, rfl⟩ := rx
    cases y with
    | non => cases ry; exact PySem.EqNone.eq_str_none (fin_bl I q (by simp))
    | bl j => cases ry; exact PySem.EqMixed.eq_str_bool (fin_bl I q (by simp))
    | int j => obtain ⟨t', rfl⟩ := ry; exact PySem.EqMixed.eq_str_int (fin_bl I q (by simp))
    | str j => obtain ⟨t', rfl⟩ := ry; exact eq_str (fin_bl I q dec_str)
    | _ => exact absurd (show false = true from hs) Bool.false_ne_true
  | byt i =>
    obtain ⟨t, rfl⟩ := rx
    cases y with
    | byt j => obtain ⟨t', rfl⟩ := ry; exact PySem.W.eq_bytes (fin_bl I q dec_byt)
    | _ => exact absurd (show false = true from hs) Bool.false_ne_true
  | _ => cases y <;> exact absurd (show false = true from hs) Bool.false_ne_true
theorem op_ne : OpR X (compareOp .NotEq) rNe := by
  intro pins s σ H x y v u Q I rx ry h
  obtain ⟨hs, q⟩ := h
  cases x with
  | non =>
    cases rx
    cases y with
    | non => cases ry; exact PySem.EqNone.ne_none_none (fin_bl I q (by simp))
    | bl j => cases ry; exact PySem.EqNone.ne_none_bool (fin_bl I q (by simp))
    | int j => obtain ⟨t', rfl⟩ := ry; exact PySem.EqNone.ne_none_int (fin_bl I q (by simp))
    | str j => obtain ⟨t', rfl⟩ := ry; exact PySem.EqNone.ne_none_str (fin_bl I q (by simp))
    | _ => exact absurd (show false = true from hs) Bool.false_ne_true
  | bl i =>
    cases rx
    cases y with
    | non => cases ry; exact PySem.EqNone.ne_bool_none (fin_bl I q (by simp))
    | bl j => cases ry; exact ne_bool (fin_bl I q (congrArg not dec_bl))
    | str j => obtain ⟨t', rfl⟩ := ry; exact PySem.EqMixed.ne_bool_str (fin_bl I q (by simp))
    | _ => exact absurd (show false = true from hs) Bool.false_ne_true
  | int i =>
    obtain ⟨t, rfl⟩ := rx
    cases y with
    | non => cases ry; exact PySem.EqNone.ne_int_none (fin_bl I q (by simp))
    | int j => obtain ⟨t', rfl⟩ := ry; exact ne_int (fin_bl I q (congrArg not dec_int))
    | str j => obtain ⟨t', rfl⟩ := ry; exact PySem.EqMixed.ne_int_str (fin_bl I q (by simp))
    | _ => exact absurd (show false = true from hs) Bool.false_ne_true
  | str i =>
    obtain ⟨t, rfl⟩ := rx
    cases y with
    | non => cases ry; exact PySem.EqNone.ne_str_none (fin_bl I q (by simp))
    | bl j => cases ry; exact PySem.EqMixed.ne_str_bool (fin_bl I q (by simp))
    | int j => obtain ⟨t', rfl⟩ := ry; exact PySem.EqMixed.ne_str_int (fin_bl I q (by simp))
    | str j => obtain ⟨t', rfl⟩ := ry; exact ne_str (fin_bl I q (congrArg not dec_str))
    | _ => exact absurd (show false = true from hs) Bool.false_ne_true
  | byt i =>
    obtain ⟨t, rfl⟩ := rx
    cases y with
    | byt j => obtain ⟨t', rfl⟩ := ry; exact PySem.W.ne_bytes (fin_bl I q (congrArg not dec_byt))
    | _ => exact absurd (show false = true from hs) Bool.false_ne_true
  | _ => cases y <;> exact absurd (show false = true from hs) Bool.false_ne_true

theorem op_lt : OpR X (compareOp .Lt) (rI0 fun i j => .bl (decide (i < j))) := opB0 fun _ _ _ _ _ _ _ q => lt_int q
theorem op_le : OpR X (compareOp .LtE) (rI0 fun i j => .bl (decide (i ≤ j))) := opB0 fun _ _ _ _ _ _ _ q => le_int q
theorem op_gt : OpR X (compareOp .Gt) (rI0 fun i j => .bl (decide (j < i))) := opB0 fun _ _ _ _ _ _ _ q => gt_int q
theorem op_ge : OpR X (compareOp .GtE) (rI0 fun i j => .bl (decide (j ≤ i))) := opB0 fun _ _ _ _ _ _ _ q => ge_int q
theorem OpR.or {f : Value → Value → Sem Value} {r r' : R2} (h : OpR X f r) (h' : OpR X f r') : OpR X f (fun x y H Q => r x y H Q ∨ r' x y H Q) := by
  intro pins s σ H x y v u Q I rx ry q
  rcases q with q | q
  · exact h pins s σ H x y v u Q I rx ry q
  · exact h' pins s σ H x y v u Q I rx ry q

theorem nomark (b : Expr) {op : CmpOp} (h : op ≠ .In := by decide) (h2 : op ≠ .NotIn := by decide) : behindInMarks op b = false := by
  have e1 : (op == CmpOp.In) = false := by cases op <;> first | rfl | exact absurd rfl h
  have e2 : (op == CmpOp.NotIn) = false := by cases op <;> first | rfl | exact absurd rfl h2
  cases b <;> simp [behindInMarks, e1, e2]
theorem pe_cmpR {op : CmpOp} {r : R2} (ho : OpR X (compareOp op) r) (ha : PE X a ta) (hb : PE X b tb) (hm : behindInMarks op b = false) : PE X (.Compare a [op] [b] pos) (tOp r ta tb) := by
  intro pins s σ H Q I h
  exact wpAny_Compare1 (binT ha hb I h fun v u s2 x y H2 I2 rx ry q => ho pins s2 σ H2 x y v u Q I2 rx ry q) hm
def tTest (t : TE) : TT := fun σ H Q => t σ H fun x H' => ∃ k, x = .bl k ∧ Q k H'
theorem pt_cmpR {op : CmpOp} {r : R2} (ho : OpR X (compareOp op) r) (ha : PE X a ta) (hb : PE X b tb) (hm : behindInMarks op b = false) : PT X (.Compare a [op] [b] pos) (tTest (tOp r ta tb)) := by
  intro pins s σ H Q I h
  refine wpAny_isTrue_Compare1 (thn (ha pins s σ H _ I h) fun v s1 ⟨x, H1, I1, r1, q1⟩ => thn (hb pins s1 σ H1 _ I1 q1) fun u s2 ⟨y, H2, I2, r2, q2⟩ =>
    thn (ho pins s2 σ H2 x y v u _ I2 r1 r2 q2) fun c s3 ⟨z, H3, I3, r3, k, e, q3⟩ => ?_) hm
  subst e
  cases r3
  exact wpAny_truthy_bool ⟨H3, I3, q3⟩
def TruV (K : PySem.W.Frag) (x : V) (H : Hp) (k : Bool) : Prop :=
  match x with
  | .non => k = false
  | .bl b => k = b
  | .int i => k = (i != 0)
  | .str y => y.length ≤ sizeLine ∧ k = ((y.length : Int) != 0)
  | .byt y => y.size ≤ sizeLine ∧ k = ((y.size : Int) != 0)
  | .ref p => (∃ xs, SqL K H p xs ∧ k = !xs.isEmpty) ∨ (∃ xs, SqT K H p xs ∧ k = !xs.isEmpty) ∨ ∃ kvs, H p = some (.dK kvs) ∧ k = !kvs.isEmpty
  | _ => False
theorem isEmpty_kv {κ : Type} {kvs : List (κ × V)} {vs : List (κ × Value)} (r : KV kvs vs) : (!vs.isEmpty) = !kvs.isEmpty := by
  cases r <;> rfl
theorem isEmpty_of {xs : List V} {its : List Value} (r : Vals xs its) : (!its.toArray.isEmpty) = !xs.isEmpty := by
  cases r <;> simp
theorem line63 : (sizeLine : Nat) < 2 ^ 63 := by rw [sizeLine_eq]; decide
theorem tru_ok : TruR X (fun x H Q => ∃ k, TruV X.K x H k ∧ Q k H) := by
  intro pins s σ H x v Q I rx h
  obtain ⟨k, e, q⟩ := h
  have hl := line63
  have hs : sizeLine = 16777216 := sizeLine_eq
  cases x with
  | non =>
    cases rx
    have e' : k = false := e
    subst e'
    exact truthy_none ⟨H, I, q⟩
  | bl b =>
    cases rx
    have e' : k = b := e
    subst e'
    exact wpAny_truthy_bool ⟨H, I, q⟩
  | int i =>
    obtain ⟨t, rfl⟩ := rx
    have e' : k = (i != 0) := e
    subst e'
    exact PySem.P.truthy_int ⟨H, I, q⟩
  | str y =>
    obtain ⟨t, rfl⟩ := rx
    obtain ⟨hy, e'⟩ : y.length ≤ sizeLine ∧ k = ((y.length : Int) != 0) := e
    subst e'
    exact PySem.P.truthy_str (by omega) ⟨H, I.tok _, q⟩
  | byt y =>
    obtain ⟨t, rfl⟩ := rx
    obtain ⟨hy, e'⟩ : y.size ≤ sizeLine ∧ k = ((y.size : Int) != 0) := e
    subst e'
    exact PySem.W.truthy_bytes (by omega) ⟨H, I.tok _, q⟩
  | ref p =>
    cases rx
    have e' : (∃ xs, SqL X.K H p xs ∧ k = !xs.isEmpty) ∨ (∃ xs, SqT X.K H p xs ∧ k = !xs.isEmpty) ∨ ∃ kvs, H p = some (.dK kvs) ∧ k = !kvs.isEmpty := e
    rcases e' with ⟨xs, hx, e'⟩ | ⟨xs, hx, e'⟩ | ⟨kvs, hx, e'⟩
    · subst e'
      obtain ⟨its, r, pl, hz⟩ := I.list hx
      have hlen := r.length
      exact wpAny_truthy_list pl.isList (by simp only [List.size_toArray]; omega) ⟨H, I.tok _, by rw [isEmpty_of r]; exact q⟩
    · subst e'
      obtain ⟨its, r, pl, hz⟩ := I.tuple hx
      have hlen := r.length
      exact truthy_tuple pl (by simp only [List.size_toArray]; omega) ⟨H, I.tok _, by rw [isEmpty_of r]; exact q⟩
    · subst e'
      obtain ⟨hz, hS, vs, r, m⟩ : kvs.length ≤ sizeLine ∧ (p == sysModules) = false ∧ ∃ vs, KV kvs vs ∧ s.heap.DictOf (mixKind X.prog X.w) p vs := I.hok p _ hx
      have hlen : kvs.length = vs.length := Paired.length r
      exact wpAny_truthy_dict hS m (by omega) ⟨H, I.tok _, by rw [isEmpty_kv r]; exact q⟩
  | _ => exact (show False from e).elim
theorem pt_truth (ha : PE X a ta) (he : ∀ whole, isTrue a X.env whole = (do let v ← whole; standAt a.pos; holding [v] (truthy v))) :
    PT X a (fun σ H Q => ta σ H fun x H' => ∃ k, TruV X.K x H' k ∧ Q k H') := by
  intro pins s σ H Q I h
  exact isTrue_plain (thn (ha pins s σ H _ I h) fun v s1 ⟨x, H1, I1, r1, q1⟩ => tru_ok pins s1 σ H1 x v Q I1 r1 q1) (he _)

theorem vals1 {x : V} {us : List Value} (r : Vals [x] us) : ∃ u, us = [u] ∧ RelV x u := by
  cases r with
  | cons r1 r2 => cases r2; exact ⟨_, rfl, r1⟩
theorem vals2 {x y : V} {us : List Value} (r : Vals [x, y] us) : ∃ u w', us = [u, w'] ∧ RelV x u ∧ RelV y w' := by
  cases r with
  | cons r1 r2 =>
    cases r2 with
    | cons r3 r4 => cases r4; exact ⟨_, _, rfl, r1, r3⟩
theorem call_abs : CallR X (.builtin "abs") (fun xs H Q => ∃ i, xs = [.int i] ∧ Q (.int (if i < 0 then -i else i)) H) := by
  intro pins s σ H xs us Q I r h
  obtain ⟨i, rfl, q⟩ := h
  obtain ⟨u, rfl, t, rfl⟩ := vals1 r
  exact call_abs_int fun u tk => ⟨.int (if i < 0 then -i else i), H, I.tok _, ⟨_, rfl⟩, q⟩
theorem call_min2 (hc : X.calm = true) : CallR X (.builtin "min") (fun xs H Q => ∃ i j, xs = [.int i, .int j] ∧ Q (.int (if j < i then j else i)) H) := by
  intro pins s σ H xs us Q I r h
  obtain ⟨i, j, rfl, q⟩ := h
  obtain ⟨u, w', rfl, ⟨t, rfl⟩, ⟨t', rfl⟩⟩ := vals2 r
  refine min_two_ints (I.ok.hd hc) fun h' tk k => ⟨_, H, I.kept k, ?_, q⟩
  by_cases hj : j < i
  · rw [if_pos hj, if_pos hj]; exact ⟨_, rfl⟩
  · rw [if_neg hj, if_neg hj]; exact ⟨_, rfl⟩
theorem call_int1 : CallR X (.type "int") (fun xs H Q => (∃ i, xs = [.int i] ∧ Q (.int i) H) ∨ ∃ k, xs = [.bl k] ∧ Q (.int (if k then 1 else 0)) H) := by
  intro pins s σ H xs us Q I r h
  rcases h with ⟨i, rfl, q⟩ | ⟨k, rfl, q⟩
  · obtain ⟨u, rfl, t, rfl⟩ := vals1 r
    exact call_int_int ⟨.int i, H, I, ⟨_, rfl⟩, q⟩
  · obtain ⟨u, rfl, r1⟩ := vals1 r
    cases r1
    exact call_int_bool ⟨.int (if k then 1 else 0), H, I.tok _, ⟨_, rfl⟩, q⟩
end
end L2

namespace L2
open PySem PySem.Spec PyProof.Rows

structure ObjM (h : Heap) (x dx C : Addr) (mA : Str → Option Value) : Prop where
  obj : h.get? x = some (PySem.W.instObj C dx)
  ns : h.Ns1 dx mA
  ne : dx ≠ x

theorem lookIn_ns {h : Heap} {dx : Addr} {mA : Str → Option Value} (n : h.Ns1 dx mA) : ∃ od, h.get? dx = some od ∧ ∀ name, PySem.W.lookIn name od = some (mA name) := by
  obtain ⟨o, es, ep, ho, hd, hk, _, hm⟩ := n
  refine ⟨o, ho, fun name => ?_⟩
  have e := hm name
  unfold nsFind findBy at e
  rw [← Array.find?_toList] at e
  unfold PySem.W.lookIn
  rw [hd]
  dsimp only
  split
  · rename_i y q
    rw [q] at e
    exact congrArg some e
  · rename_i q
    rw [q] at e
    have a : es.toList.any (·.refKey) = false := by
      rw [List.any_eq_false]
      intro y hy
      obtain ⟨z, t, hkey⟩ := hk y (Array.mem_toList_iff.mp hy)
      simp [DictEntry.refKey, hkey]
    have a' : ¬ es.toList.any (·.refKey) = true := by rw [a]; exact Bool.false_ne_true
    rw [if_neg a']
    exact congrArg some e

theorem ObjM.look {h : Heap} {x dx C : Addr} {mA : Str → Option Value} (I : ObjM h x dx C mA) : ∃ od, PySem.W.InstAt h x (PySem.W.instObj C dx) C (some od) ∧ ∀ name, PySem.W.lookIn name od = some (mA name) :=
  let ⟨od, ho, hl⟩ := lookIn_ns I.ns
  ⟨od, ⟨I.obj, rfl, rfl, ho⟩, hl⟩

section
variable {prog : Program} {w : World} {A : Around} {E : Value → Shared → Prop} {s : Shared} {K : PySem.W.Frag} {x dx C f : Addr} {mA : Str → Option Value} {name : Str} {v : Value}

theorem get_map {expr : Bool} {Q : Value → Shared → Prop} (X : K.In s.heap) (I : ObjM s.heap x dx C mA) (hg : PySem.W.plainGet K C name = true) (hh : PySem.W.hasDictIn K C = true)
    (ha : PySem.W.findIn K (.ref C) name = some none) (hv : mA name = some v) (hv' : PySem.W.handedIn v = true) (h : Q v { s with toks := s.toks + 1 }) :
    wpAny (model prog w) A (getAttr (.ref x) name expr) Q E s := by
  obtain ⟨od, J, hl⟩ := I.look
  exact PySem.W.get_value X J (PySem.W.plainGet_of hg).1 (PySem.W.findObj_own hh ha rfl (by rw [hl, hv])) hv' h

theorem get_meth {pl : Sem Bool} {Q : Value × List Value → Shared → Prop} (X : K.In s.heap) (I : ObjM s.heap x dx C mA) (hg : PySem.W.plainGet K C name = true)
    (hf : PySem.W.findIn K (.ref C) name = some (some (.ref f))) (ht : PySem.W.isFn K (.ref f) = true) (hv : mA name = none) (h : Q (.ref f, [.ref x]) s) :
    wpAny (model prog w) A (getMethod (.ref x) name pl) Q E s := by
  obtain ⟨od, J, hl⟩ := I.look
  exact PySem.W.method_fn X J (PySem.W.plainGet_of hg).1 (PySem.W.plainGet_of hg).2 hf (beq_iff_eq.mp ht) (by show (PySem.W.lookIn name od).map (·.isSome) = some false; rw [hl, hv]; rfl) h

theorem set_map {ns : List Str} {Q : Unit → Shared → Prop} (X : K.In s.heap) (I : ObjM s.heap x dx C mA)
    (hs : PySem.W.findIn K (.ref C) "__setattr__" = some (some (.builtin "object.__setattr__"))) (hp : PySem.W.plainOver K C = true) (ht : PySem.W.takerIn K C name = some none) (hh : PySem.W.hasDictIn K C = true)
    (hw : PySem.Within mA ns) (hsz : ns.length ≤ sizeLine)
    (h : ∀ h', ObjM h' x dx C (fun y => if y = name then some v else mA y) → Heap.SameBut dx s.heap h' → Q () { s with heap := h', toks := s.toks + 2 }) :
    wpAny (model prog w) A (setAttr (.ref x) name v) Q E s := by
  obtain ⟨od, J, hl⟩ := I.look
  refine PySem.W.set_plain X J hs (PySem.W.osa_open (s := { s with toks := s.toks + 1 }) (r := none) X J hp ht fun b => ?_)
  obtain ⟨cd, hc, hd'⟩ := PySem.W.any_some hh
  have hx : s.heap.get? x = some ⟨.ref C, some dx, .plain, #[]⟩ := I.obj
  refine wpAny_bind (wpAny_pure (wpAny_bind (wpAny_bind (wpAny_loadPart hx (wpAny_bind (PySem.W.Looks.here (s := { s with toks := s.toks + 1 }) (PySem.W.looks_clsIn X hc) ?_))))))
  rw [hd']
  refine wpAny_pure (a := some dx) (wpAny_bind (wpAny_pure (wpAny_bind ?_)))
  refine wpAny_nsSet1 (s := { s with toks := s.toks + 1 }) I.ns fun h' hn2 hs2 => ?_
  obtain ⟨oD, esD, epD, hoD, hdD, hcD⟩ := hn2.count (PySem.Within.cons name v hw)
  refine wpAny_bind (wpAny_lookBehind hoD (by rw [hdD]; exact pastItsLine_dict (Nat.le_trans hcD (by rw [List.length_cons]; omega))) ?_)
  exact wpAny_pure (h _ ⟨(hs2.2 _ (Ne.symm I.ne)).trans I.obj, hn2, I.ne⟩ hs2)

theorem make_map {R : Result → Shared → Prop} {vs : List Value} {kw : List (Str × Value)} (X : K.In s.heap) (hm : PySem.W.makesIn K C = true)
    (hi : PySem.W.findIn K (.ref C) "__init__" = some (some (.ref f))) (hf : PySem.W.typeIn K (.ref f) = some (.type "function"))
    (h : codeAny (model prog w) (A.under (.builtin "type.__call__" ⟨.ref C :: vs, kw⟩)) (.call (.ref f) ⟨.ref (s.heap.objs.size + 1) :: vs, kw⟩) (PySem.W.InitBack (s.heap.objs.size + 1) R)
      { s with heap := (s.heap.push PySem.W.emptyDict).push (PySem.W.instObj C s.heap.objs.size) }) :
    codeAny (model prog w) A (.call (.ref C) ⟨vs, kw⟩) R s := by
  obtain ⟨hh, g, d, t, os⟩ := s
  exact PySem.W.make_core (PySem.W.makes_of X hm) (PySem.W.looks_findIn X hi) (fun self => PySem.W.bind_fn X self hf) (.inl rfl) h
end

def putF (f : Str) (v : V) : List (Str × V) → List (Str × V)
  | [] => [(f, v)]
  | (g, x) :: r => if g = f then (g, v) :: r else (g, x) :: putF f v r
theorem lookup_putF (f g : Str) (v : V) : ∀ fs : List (Str × V), (putF f v fs).lookup g = if g = f then some v else fs.lookup g
  | [] => by
    show List.lookup g [(f, v)] = _
    by_cases h : g = f
    · have hb : (g == f) = true := beq_iff_eq.mpr h
      simp only [List.lookup, hb, if_pos h]
    · have hb : (g == f) = false := beq_eq_false_iff_ne.mpr h
      simp only [List.lookup, hb, if_neg h]
  | (k, x) :: r => by
    have ih := lookup_putF f g v r
    rw [show putF f v ((k, x) :: r) = (if k = f then (k, v) :: r else (k, x) :: putF f v r) from rfl]
    by_cases hk : k = f
    · rw [if_pos hk]
      by_cases h : g = k
      · have hb : (g == k) = true := beq_iff_eq.mpr h
        simp only [List.lookup, hb, if_pos (h.trans hk)]
      · have hb : (g == k) = false := beq_eq_false_iff_ne.mpr h
        simp only [List.lookup, hb, if_neg (fun e : g = f => h (e.trans hk.symm))]
    · rw [if_neg hk]
      by_cases h : g = k
      · have hb : (g == k) = true := beq_iff_eq.mpr h
        simp only [List.lookup, hb, if_neg (fun e : g = f => hk (h.symm.trans e))]
      · have hb : (g == k) = false := beq_eq_false_iff_ne.mpr h
        simp only [List.lookup, hb]
        exact ih
theorem keys_putF (f : Str) (v : V) : ∀ fs : List (Str × V), f ∈ (putF f v fs).map (·.1) ∧ ∀ g, g ∈ fs.map (·.1) → g ∈ (putF f v fs).map (·.1)
  | [] => ⟨by simp [putF], fun g h => by simp at h⟩
  | (k, x) :: r => by
    obtain ⟨i1, i2⟩ := keys_putF f v r
    rw [show putF f v ((k, x) :: r) = (if k = f then (k, v) :: r else (k, x) :: putF f v r) from rfl]
    by_cases hk : k = f
    · rw [if_pos hk]
      subst hk
      exact ⟨by simp, fun g h => by simpa using h⟩
    · rw [if_neg hk]
      refine ⟨?_, fun g h => ?_⟩
      · rw [List.map_cons]
        exact List.mem_cons_of_mem _ i1
      · rw [List.map_cons] at h ⊢
        rcases List.mem_cons.mp h with e | e
        · exact List.mem_cons.mpr (.inl e)
        · exact List.mem_cons_of_mem _ (i2 g e)
theorem length_putF (f : Str) (v : V) : ∀ fs : List (Str × V), (putF f v fs).length ≤ fs.length + 1
  | [] => by simp [putF]
  | (k, x) :: r => by
    have ih := length_putF f v r
    rw [show putF f v ((k, x) :: r) = (if k = f then (k, v) :: r else (k, x) :: putF f v r) from rfl]
    by_cases hk : k = f
    · rw [if_pos hk, List.length_cons, List.length_cons]; omega
    · rw [if_neg hk, List.length_cons, List.length_cons]; omega

theorem RelO.some_of {v : V} {o : Option Value} (r : RelO (some v) o) : ∃ u, o = some u ∧ RelV v u := by
  cases o with
  | none => exact (show False from r).elim
  | some u => exact ⟨u, rfl, r⟩
theorem RelO.none_of {o : Option Value} (r : RelO none o) : o = none := by
  cases o with
  | none => rfl
  | some u => exact (show False from r).elim
theorem handed_of {v : V} {u : Value} (r : RelV v u) : PySem.W.handedIn u = true := by
  cases v with
  | non => cases (show u = Value.none from r); rfl
  | bl b => cases (show u = Value.bool b from r); rfl
  | int i => obtain ⟨t, e⟩ := (show ∃ t, u = Value.int i t from r); cases e; rfl
  | str x => obtain ⟨t, e⟩ := (show ∃ t, u = Value.str x t from r); cases e; rfl
  | byt b => obtain ⟨t, e⟩ := (show ∃ t, u = Value.bytes b t from r); cases e; rfl
  | flt b => obtain ⟨t, e⟩ := (show ∃ t, u = Value.float b t from r); cases e; rfl
  | ref a => cases (show u = Value.ref a from r); rfl
  | ty n => cases (show u = Value.type n from r); rfl

section
variable {P : Program} {w : World} {H H' : Hp} {h h' : Heap} {a C dx : Addr} {fs fs' : List (Str × V)}
theorem ins_get (hok : HOk P w H h) (e : H a = some (.ins C dx fs)) : ∃ mA, ObjM h a dx C mA ∧ (∀ f, RelO (fs.lookup f) (mA f)) ∧ PySem.Within mA (fs.map (·.1)) ∧ fs.length ≤ 1000 ∧ H dx = some (.own a) := by
  obtain ⟨d, z, ne, ob, mA, n, r, q⟩ := (show ObjOk P w H h a (.ins C dx fs) from hok a _ e)
  exact ⟨mA, ⟨ob, n, ne⟩, r, q, z, d⟩
end

structure Cls (K : PySem.W.Frag) (C : Addr) : Prop where
  pg : PySem.W.plainGet K C Str.empty = true
  hd : PySem.W.hasDictIn K C = true
  po : PySem.W.plainOver K C = true
  sa : PySem.W.findIn K (.ref C) "__setattr__" = some (some (.builtin "object.__setattr__"))
theorem Cls.get {K : PySem.W.Frag} {C : Addr} (c : Cls K C) (f : Str) : PySem.W.plainGet K C f = true := c.pg
def NoAttr (K : PySem.W.Frag) (C : Addr) (f : Str) : Prop := PySem.W.findIn K (.ref C) f = some none
theorem NoAttr.taker {K : PySem.W.Frag} {C : Addr} {f : Str} (n : NoAttr K C f) : PySem.W.takerIn K C f = some none := by
  unfold PySem.W.takerIn
  rw [show PySem.W.findIn K (.ref C) f = some none from n]
  rfl
structure Con (K : PySem.W.Frag) (C : Addr) (f : Str) (v : V) (u : Value) : Prop where
  at_ : PySem.W.findIn K (.ref C) f = some (some u)
  rel : RelV v u
  get : PySem.W.specialIn K u "__get__" = some none
  cp : PySem.W.copiedNames.contains f = false
structure Meth (K : PySem.W.Frag) (C : Addr) (m : Str) (f : Addr) : Prop where
  at_ : PySem.W.findIn K (.ref C) m = some (some (.ref f))
  fn : PySem.W.isFn K (.ref f) = true
  kp : PySem.W.keepIn K (.ref f) = true

section
variable {X : Cx} {pins : List (Addr × Obj)} {σ : St} {H : Hp} {s : Shared} {a C dx : Addr} {fs : List (Str × V)} {f : Str} {v : V} {A : Around} {E : Value → Shared → Prop}

theorem getattr_ok {b : Bool} {Q : Value → Shared → Prop} (I : Inv X pins σ H s) (e : H a = some (.ins C dx fs)) (c : Cls X.K C) (n : NoAttr X.K C f) (l : fs.lookup f = some v)
    (h : ∀ u s', Inv X pins σ H s' → RelV v u → Q u s') : wpAny (model X.prog X.w) A (getAttr (.ref a) f b) Q E s := by
  obtain ⟨mA, O, r, _, _, _⟩ := ins_get I.hok e
  obtain ⟨u, hu, ru⟩ := RelO.some_of (v := v) (o := mA f) (by rw [← l]; exact r f)
  exact get_map I.kIn O (c.get f) c.hd n hu (handed_of ru) (h u _ (I.tok _) ru)

theorem getmeth_ok {m : Str} {g : Addr} {pl : Sem Bool} {Q : Value × List Value → Shared → Prop} (I : Inv X pins σ H s) (e : H a = some (.ins C dx fs)) (c : Cls X.K C) (k : Meth X.K C m g) (l : fs.lookup m = none)
    (h : Q (.ref g, [.ref a]) s) : wpAny (model X.prog X.w) A (getMethod (.ref a) m pl) Q E s := by
  obtain ⟨mA, O, r, _, _, _⟩ := ins_get I.hok e
  have hn : mA m = none := RelO.none_of (by rw [← l]; exact r m)
  exact get_meth I.kIn O (c.get m) k.at_ k.fn hn h

theorem setattr_ok {y : V} {u : Value} {Q : Unit → Shared → Prop} (I : Inv X pins σ H s) (e : H a = some (.ins C dx fs)) (c : Cls X.K C) (n : NoAttr X.K C f) (hl : fs.length < 1000) (ry : RelV y u)
    (h : ∀ s', Inv X pins σ (upd H a (.ins C dx (putF f y fs))) s' → Q () s') : wpAny (model X.prog X.w) A (setAttr (.ref a) f u) Q E s := by
  obtain ⟨mA, O, r, wi, _, ho⟩ := ins_get I.hok e
  have hz : (fs.map (·.1)).length ≤ sizeLine := by rw [List.length_map, sizeLine_eq]; omega
  refine set_map I.kIn O c.sa c.po n.taker c.hd wi hz fun h' O' sb => h _ ?_
  have hd : ∃ o, h'.get? dx = some o := let ⟨o, _, _, e', _⟩ := O'.ns; ⟨o, e'⟩
  refine I.write (x := a) (e := dx) (by rw [e]; exact True.intro) (.inr ho) (fun b q hb z => (sb.2 b hb).trans z) hd ?_
  refine ⟨by rw [upd_ne O.ne]; exact ho, ?_, O.ne, O'.obj, _, O'.ns, fun g => ?_, fun g hg => ?_⟩
  · have := length_putF f y fs; omega
  · show RelO ((putF f y fs).lookup g) (if g = f then some u else mA g)
    rw [lookup_putF]
    by_cases q : g = f
    · rw [if_pos q, if_pos q]; exact ry
    · rw [if_neg q, if_neg q]; exact r g
  · by_cases q : g = f
    · rw [q]; exact (keys_putF f y fs).1
    · refine (keys_putF f y fs).2 g (wi g fun z => hg ?_)
      show (if g = f then some u else mA g) = none
      rw [if_neg q]; exact z

theorem Inv.made (I : Inv X pins σ H s) : Inv X pins σ (upd (upd H s.heap.objs.size (.own (s.heap.objs.size + 1))) (s.heap.objs.size + 1) (.ins C s.heap.objs.size []))
    { s with heap := (s.heap.push PySem.W.emptyDict).push (PySem.W.instObj C s.heap.objs.size) } := by
  have e1 : (s.heap.push PySem.W.emptyDict).get? s.heap.objs.size = some PySem.W.emptyDict := Heap.get?_push_size s.heap rfl
  have e2 : ((s.heap.push PySem.W.emptyDict).push (PySem.W.instObj C s.heap.objs.size)).get? (s.heap.objs.size + 1) = some (PySem.W.instObj C s.heap.objs.size) := by
    have := Heap.get?_push_size (s.heap.push PySem.W.emptyDict) (o := PySem.W.instObj C s.heap.objs.size) rfl
    rwa [Heap.size_push] at this
  have e3 : (s.heap.push PySem.W.emptyDict).Ns s.heap.objs.size (fun _ => none) := ⟨PySem.W.emptyDict, #[], _, e1, rfl, (fun e he => absurd he (by simp)), fun _ => rfl⟩
  have I1 := I.laid (a := s.heap.objs.size) (o := .own (s.heap.objs.size + 1)) (h' := s.heap.push PySem.W.emptyDict) (t' := s.toks) (fun b u q => Heap.get?_push_of_some _ q) (Nat.le_refl _) ⟨_, e1⟩
  refine I1.laid (a := s.heap.objs.size + 1) (o := .ins C s.heap.objs.size []) (t' := s.toks) (fun b u q => Heap.get?_push_of_some _ q) (Nat.le_of_eq (Heap.size_push _ _)) ?_
  have ne : s.heap.objs.size ≠ s.heap.objs.size + 1 := Nat.ne_of_lt (Nat.lt_succ_self _)
  refine ⟨by rw [upd_ne ne, upd_same], Nat.zero_le _, ne, e2, fun _ => none, (Heap.Ns1.of_empty e3).at fun o q => Heap.get?_push_of_some _ q, fun _ => True.intro, fun y hy => absurd rfl hy⟩

theorem attr_of {prog : Program} {w : World} {env : Env} {e : Expr} {f : Str} {pos : Pos} {s : Shared} {Q : Value → Shared → Prop} (hb : attributeBase e f env (eval e env) = eval e env)
    (h : wpAny (model prog w) A (eval e env) (fun o s₁ => wpAny (model prog w) A (getAttr o f true) Q E s₁) E s) : wpAny (model prog w) A (eval (.Attribute e f pos) env) Q E s :=
  Attribute_any_ h (by rw [arm_eval_Attribute, hb])
end

def tFld (K : PySem.W.Frag) (ta : TE) (f : Str) : TE := fun σ H Q => ta σ H fun x H1 => ∃ a C dx fs v, x = .ref a ∧ H1 a = some (.ins C dx fs) ∧ Cls K C ∧ NoAttr K C f ∧ fs.lookup f = some v ∧ Q v H1
def sFld (K : PySem.W.Frag) (ta tv : TE) (f : Str) : TS := fun D σ H => tv σ H fun y H1 => ta σ H1 fun x H2 => ∃ a C dx fs, x = .ref a ∧ H2 a = some (.ins C dx fs) ∧ Cls K C ∧ NoAttr K C f ∧ fs.length < 1000 ∧
  D.nx σ (upd H2 a (.ins C dx (putF f y fs)))
section
variable {X : Cx} {o e value : Expr} {f : Str} {pos pos' tpos : Pos} {ta tv : TE}
theorem pe_fld (he : PE X e ta) (hb : attributeBase e f X.env (eval e X.env) = eval e X.env) : PE X (.Attribute e f pos) (tFld X.K ta f) := by
  intro pins s σ H Q I h
  refine attr_of hb (thn (he pins s σ H _ I h) fun u s1 ⟨x, H1, I1, rx, a, C, dx, fs, v, ex, ea, c, n, l, q⟩ => ?_)
  subst ex
  obtain rfl : u = Value.ref a := rx
  exact getattr_ok I1 ea c n l fun u' s2 I2 ru => ⟨v, H1, I2, ru, q⟩
theorem ps_fld (ha : PE X o ta) (hv : PE X value tv) (hs : swapsWith value (some (.Attribute o f pos')) pos.line X.env = pure false) : PS X (.Assign [.Attribute o f pos'] value pos) (sFld X.K ta tv f) := by
  intro pins s σ H D I h
  refine plainObj_wpAny_Assign_Attribute (thn (hv pins s σ H _ I h) fun u s1 ⟨y, H1, I1, ry, q⟩ => thn (ha pins s1 σ H1 _ I1 q) fun ov s2 ⟨x, H2, I2, rx, a, C, dx, fs, ex, ea, c, n, l, q2⟩ => ?_) hs
  subst ex
  obtain rfl : ov = Value.ref a := rx
  exact setattr_ok I2 ea c n l ry fun s3 I3 => ⟨σ, _, I3, q2⟩
end

section
variable {X : Cx} {pins : List (Addr × Obj)} {σ : St} {H : Hp} {s : Shared} {A : Around} {E : Value → Shared → Prop} {Q : Value → Shared → Prop} {c : Value} {b : Bool}
inductive TyOf (K : PySem.W.Frag) (H : Hp) : V → Value → Prop where
  | non : TyOf K H .non (.type "NoneType")
  | bl (x : Bool) : TyOf K H (.bl x) (.type "bool")
  | int (i : Int) : TyOf K H (.int i) (.type "int")
  | str (x : Str) : TyOf K H (.str x) (.type "str")
  | flt (x : UInt64) : TyOf K H (.flt x) (.type "float")
  | lst {a : Addr} {xs : List V} (e : H a = some (.lst xs)) : TyOf K H (.ref a) (.type "list")
  | frz {a : Addr} {o : Obj} {xs : List V} (e : H a = some (.frz o (.lst xs))) : TyOf K H (.ref a) (.type "list")
  | tup {a : Addr} {xs : List V} (e : H a = some (.tup xs)) : TyOf K H (.ref a) (.type "tuple")
  | dK {a : Addr} {kvs : List (Key × V)} (e : H a = some (.dK kvs)) : TyOf K H (.ref a) (.type "dict")
  | dT {a : Addr} {kvs : List (List Key × V)} (e : H a = some (.dT kvs)) : TyOf K H (.ref a) (.type "dict")
  | ins {a C dx : Addr} {fs : List (Str × V)} (e : H a = some (.ins C dx fs)) (cl : Cls K C) (ha : PySem.W.findIn K (.ref C) "__class__" = some (some (.builtin "object.__class__")))
      (hn : PySem.W.specialIn K (.builtin "object.__class__") "__get__" = some (some (.builtin "getset_descriptor.__get__"))) (htk : PySem.W.takesIn K (.builtin "object.__class__") = some true)
      (hm : PySem.W.mroIn K C (.type "object") = some true) : TyOf K H (.ref a) (.ref C)
end
end L2

namespace L2
open PySem PySem.Spec PyProof.Rows

structure Room (k : Nat) (A : Around) : Prop where
  hd : A.handled = none
  dp : A.depth + 3 * k + 5 < recursionLimit
  un : A.units + 16 * k + 200 < cLine
  gd : A.guards = some []
theorem Room.mono {j k : Nat} {A : Around} (r : Room k A) (h : j ≤ k) : Room j A := ⟨r.hd, by have := r.dp; omega, by have := r.un; omega, r.gd⟩
theorem Room.deeper {k : Nat} {A : Around} (r : Room (k + 1) A) (env : Env) : Room k (A.deeper env) :=
  ⟨r.hd, by have := r.dp; show A.depth + 1 + 3 * k + 5 < _; omega, by have := r.un; show A.units + 3 + 16 * k + 200 < _; omega, r.gd⟩
theorem Room.in1 {k : Nat} {A : Around} (r : Room (k + 1) A) : Room k A.in1 :=
  ⟨r.hd, by have := r.dp; show A.depth + 3 * k + 5 < _; omega, by have := r.un; show A.units + 1 + 16 * k + 200 < _; omega, r.gd⟩
theorem make_depth {A : Around} {C : Addr} {us : List Value} {kw : List (Str × Value)} : (A.under (.builtin "type.__call__" ⟨.ref C :: us, kw⟩)).depth = A.depth + 1 := by
  first | rfl | simp [Around.under, Code.weight, Code.isCreation, Code.isGuard, Code.isCaller, Code.frames, Code.isFrame, guardIds]
theorem make_units {A : Around} {C : Addr} {us : List Value} {kw : List (Str × Value)} : (A.under (.builtin "type.__call__" ⟨.ref C :: us, kw⟩)).units = A.units + 1 := by
  first | rfl | simp [Around.under, Code.cUnits, Code.frames, Code.isFrame]
theorem make_guards {A : Around} {C : Addr} {us : List Value} {kw : List (Str × Value)} : (A.under (.builtin "type.__call__" ⟨.ref C :: us, kw⟩)).guards = A.guards := by
  cases h : A.guards with
  | none => simp [Around.under, Code.guards, Code.isGuard, guardIds, pushGuards, h]
  | some l => simp [Around.under, Code.guards, Code.isGuard, guardIds, pushGuards, h]
theorem Room.make {k : Nat} {A : Around} (r : Room (k + 1) A) (C : Addr) (us : List Value) (kw : List (Str × Value)) : Room k (A.under (.builtin "type.__call__" ⟨.ref C :: us, kw⟩)) :=
  ⟨r.hd, by have := r.dp; rw [make_depth]; omega, by have := r.un; rw [make_units]; omega, by rw [make_guards]; exact r.gd⟩
theorem Room.depth {k : Nat} {A : Around} (r : Room k A) : A.depth < recursionLimit := by have := r.dp; omega
theorem Room.units {k : Nat} {A : Around} (r : Room k A) : A.units + 64 < cLine := by have := r.un; omega
def tNil : TA := fun _ H Q => Q [] H
def tCons (ta : TE) (tr : TA) : TA := fun σ H Q => ta σ H fun x H1 => tr σ H1 fun xs H2 => Q (x :: xs) H2
section
variable {X : Cx} {e : Expr} {es : List Expr} {te : TE} {t : TA} {pos : Pos}
theorem pa_nil : PA X [] tNil := fun _ _ _ _ H Q I h => Calls.spliced_nil ⟨[], H, I, .nil, h⟩
theorem pa_cons (ha : PE X e te) (hr : PA X es t) (hs : starEach (e :: es) X.env = (false, eval e X.env) :: starEach es X.env := by rfl) : PA X (e :: es) (tCons te t) := by
  intro pos pins s σ H Q I h
  rw [hs]
  show wpAny _ _ (spliced ((false, eval e X.env) :: backTo pos (starEach es X.env))) _ _ s
  refine Calls.spliced_cons (thn (ha pins s σ H _ I h) fun u s1 ⟨x, H1, I1, r1, q1⟩ => ?_)
  exact thn (hr pos pins s1 σ H1 _ I1 q1) fun us s2 ⟨xs, H2, I2, r2, q2⟩ => ⟨x :: xs, H2, I2, .cons r1 r2, q2⟩

def tTup (t : TA) : TE := fun σ H Q => t σ H fun xs H1 => xs.length ≤ sizeLine ∧ ∀ p, H1 p = none → Q (.ref p) (upd H1 p (.tup xs))
def tLst (t : TA) : TE := fun σ H Q => t σ H fun xs H1 => xs.length ≤ sizeLine ∧ ∀ p, H1 p = none → Q (.ref p) (upd H1 p (.lst xs))
theorem pe_tup {x1} (h : PA X es t) : PE X (.Tuple es x1 pos) (tTup t) := by
  intro pins s σ H Q I hq
  refine wpAny_Tuple_spliced (thn (h pos pins s σ H _ I hq) fun us s1 ⟨xs, H1, I1, r, z, q⟩ => ⟨by rw [← r.length]; exact z, ?_⟩)
  have hf : H1 s1.heap.objs.size = none := I1.hok.fresh (Nat.le_refl _)
  refine ⟨.ref s1.heap.objs.size, upd H1 s1.heap.objs.size (.tup xs), I1.laid (t' := s1.toks) (fun b u e => Heap.get?_push_of_some _ e) (Nat.le_refl _) ?_, rfl, q _ hf⟩
  exact ⟨z, us, r, ⟨_, Heap.get?_push_size _ rfl, rfl, _, rfl⟩⟩
theorem pe_lst (h : PA X es t) : PE X (.List es pos) (tLst t) := by
  intro pins s σ H Q I hq
  refine wpAny_List_spliced (thn (h pos pins s σ H _ I hq) fun us s1 ⟨xs, H1, I1, r, z, q⟩ => ⟨by rw [← r.length]; exact z, ?_⟩)
  have hf : H1 s1.heap.objs.size = none := I1.hok.fresh (Nat.le_refl _)
  refine ⟨.ref s1.heap.objs.size, upd H1 s1.heap.objs.size (.lst xs), I1.laid (t' := s1.toks) (fun b u e => Heap.get?_push_of_some _ e) (Nat.le_refl _) ?_, rfl, q _ hf⟩
  exact ⟨z, us, 0, r, Heap.get?_push_size _ rfl⟩
end

abbrev Sp := List V → Hp → VK → XK → Prop
abbrev CXT := List Env → Hp → Shared → XK → Value → Shared → Prop

structure Env0 (P : Program) (w : World) (K : PySem.W.Frag) (mg : Str → Option Value) (base : Heap) (A : Around) (outer : List Env) (s : Shared) (H : Hp) : Prop where
  frames : A.frames = some outer
  mod : Mod K mg base
  bs : ∀ b o, base.get? b = some o → s.heap.get? b = some o ∧ H b = none
  bsz : base.objs.size ≤ s.heap.objs.size
  funs : s.heap.FunFrames base outer
  frf : ∀ b ∈ frs outer, H b = none
  hok : HOk P w H s.heap
  bare : AllBare s.gens
def CE (outer : List Env) (P : Program) (w : World) (H : Hp) (s : Shared) (Q : VK) (u : Value) (s' : Shared) : Prop :=
  ∃ v H', s'.os = s.os ∧ AllBare s'.gens ∧ Un (frs outer) [] H H' s.heap s'.heap ∧ HOk P w H' s'.heap ∧ RelV v u ∧ Q v H'
def CR (CX : CXT) (outer : List Env) (P : Program) (w : World) (H : Hp) (s : Shared) (Q : VK) (E : XK) (r : Result) (s' : Shared) : Prop :=
  match r with
  | .ok (.ret u) => CE outer P w H s Q u s'
  | .ok _ => False
  | .error e => CX outer H s E e s'
structure FnOk (P : Program) (w : World) (K : PySem.W.Frag) (mg : Str → Option Value) (base : Heap) (CX : CXT) (k : Nat) (f : Addr) (fd : FuncData) (ps : List Str) (sp : Sp) : Prop where
  len : ∀ vs H Q E, sp vs H Q E → vs.length = ps.length
  run : ∀ (A : Around) (outer : List Env) (s : Shared) (H : Hp) (args : Args) (us : List Value) (vs : List V) (Q : VK) (E : XK), Room k A → Env0 P w K mg base A outer s H → BindsTo s fd args (ps.zip us) → Vals vs us → sp vs H Q E →
    codeAny (model P w) A (.call (.ref f) args) (CR CX outer P w H s Q E) s
theorem FnOk.mono {P : Program} {w : World} {K : PySem.W.Frag} {mg : Str → Option Value} {base : Heap} {CX : CXT} {j k : Nat} {f : Addr} {fd : FuncData} {ps : List Str} {sp : Sp} (F : FnOk P w K mg base CX j f fd ps sp) (h : j ≤ k) :
    FnOk P w K mg base CX k f fd ps sp := ⟨F.len, fun A outer s H args us vs Q E hr => F.run A outer s H args us vs Q E (hr.mono h)⟩
theorem FnOk.imp {P : Program} {w : World} {K : PySem.W.Frag} {mg : Str → Option Value} {base : Heap} {CX : CXT} {k : Nat} {f : Addr} {fd : FuncData} {ps : List Str} {sp sp' : Sp} (F : FnOk P w K mg base CX k f fd ps sp)
    (h : ∀ vs H Q E, sp' vs H Q E → sp vs H Q E) : FnOk P w K mg base CX k f fd ps sp' :=
  ⟨fun vs H Q E q => F.len vs H Q E (h _ _ _ _ q), fun A outer s H args us vs Q E hr he hb hv hs => F.run A outer s H args us vs Q E hr he hb hv (h _ _ _ _ hs)⟩

theorem Env0.make {P : Program} {w : World} {K : PySem.W.Frag} {mg : Str → Option Value} {base : Heap} {A : Around} {outer : List Env} {s : Shared} {H : Hp} (e : Env0 P w K mg base A outer s H) (C : Addr) (us : List Value) (kw : List (Str × Value)) :
    Env0 P w K mg base (A.under (.builtin "type.__call__" ⟨.ref C :: us, kw⟩)) outer s H := ⟨by first | exact e.frames | (simpa [Around.under, Code.envs, Code.isFrame, pushEnvs] using e.frames), e.mod, e.bs, e.bsz, e.funs, e.frf, e.hok, e.bare⟩
theorem Env0.in1 {P : Program} {w : World} {K : PySem.W.Frag} {mg : Str → Option Value} {base : Heap} {A : Around} {outer : List Env} {s : Shared} {H : Hp} (e : Env0 P w K mg base A outer s H) :
    Env0 P w K mg base A.in1 outer s H := ⟨e.frames, e.mod, e.bs, e.bsz, e.funs, e.frf, e.hok, e.bare⟩

section
variable {X : Cx} {pins : List (Addr × Obj)} {σ : St} {H : Hp} {s s' : Shared}
theorem Inv.env0 (I : Inv X pins σ H s) : Env0 X.prog X.w X.K X.mg X.base X.A X.stack s H :=
  ⟨I.ok.frames, I.ok.mod, I.bs, Nat.le_trans I.ok.bsz I.sz, I.stack, I.stkFree, I.hok, I.bare⟩
theorem Inv.after {Q : VK} {u : Value} (I : Inv X pins σ H s) (h : CE X.stack X.prog X.w H s Q u s') : EP X pins σ Q u s' := by
  obtain ⟨v, H', os, bare, un, hok, r, q⟩ := h
  obtain ⟨hh, g, d, t, os'⟩ := s'
  obtain rfl : os' = s.os := os
  exact ⟨v, H', I.call (h' := hh) (g' := g) (d' := d) (t' := t) (ch := []) un hok bare (fun b z => absurd z (by simp)), r, q⟩
end

def tCall (sp : Sp) (dvs : List V) (E : XK) (t : TA) : TE := fun σ H Q => t σ H fun vs H1 => sp (vs ++ dvs) H1 Q E
def tMeth (C : Addr) (m : Str) (sp : Sp) (dvs : List V) (E : XK) (ta : TE) (t : TA) : TE := fun σ H Q => ta σ H fun x H1 => ∃ a dx fs, x = .ref a ∧ H1 a = some (.ins C dx fs) ∧ fs.lookup m = none ∧
  t σ H1 fun vs H2 => sp (x :: (vs ++ dvs)) H2 Q E
def tMake (C : Addr) (sp : Sp) (dvs : List V) (E : XK) (t : TA) : TE := fun σ H Q => t σ H fun vs H1 => ∀ x dx, H1 x = none → H1 dx = none → dx ≠ x →
  sp (.ref x :: (vs ++ dvs)) (upd (upd H1 dx (.own x)) x (.ins C dx [])) (fun v H2 => v = .non ∧ Q (.ref x) H2) E

def Binds (K : PySem.W.Frag) (fd : FuncData) (ps : List Str) (ds : List Value) : Prop :=
  ∀ (s : Shared) (us : List Value), K.In s.heap → (us ++ ds).length = ps.length → BindsTo s fd ⟨us, []⟩ (ps.zip (us ++ ds))
theorem Binds.all {K : PySem.W.Frag} {fd : FuncData} {ps : List Str} (h : ∀ us : List Value, us.length = ps.length → bindArgs fd ⟨us, []⟩ = pure (ps.zip us)) : Binds K fd ps [] := fun s us _ hl => by
  rw [List.append_nil] at hl ⊢
  exact .of_eq (h us hl)

def Passes (CX : CXT) (X : Cx) (E : XK) : Prop := ∀ (pins : List (Addr × Obj)) (σ : St) (H : Hp) (s : Shared) (e : Value) (s' : Shared), Inv X pins σ H s → CX X.stack H s E e s' → X.xe e s'

section
variable {X : Cx} {CX : CXT} {k : Nat} {f C : Addr} {fd : FuncData} {ps : List Str} {sp : Sp} {dvs : List V} {ds : List Value} {E : XK} {x m : Str} {p pos apos : Pos} {e o : Expr} {es : List Expr} {ta : TE} {t : TA}

theorem run_fn {pins : List (Addr × Obj)} {σ : St} {H : Hp} {s : Shared} {Q : VK} {us : List Value} {vs : List V} (F : FnOk X.prog X.w X.K X.mg X.base CX k f fd ps sp) (hr : Room k X.A) (hb : Binds X.K fd ps ds) (hd : Vals dvs ds) (hx : Passes CX X E)
    (I : Inv X pins σ H s) (r : Vals vs us) (h : sp (vs ++ dvs) H Q E) : wpAny (model X.prog X.w) X.A (call (.ref f) us) (EP X pins σ Q) X.xe s := by
  have r2 : Vals (vs ++ dvs) (us ++ ds) := r.append hd
  have hl : (us ++ ds).length = ps.length := by rw [← r2.length]; exact F.len _ _ _ _ h
  refine wpAny_call (codeAny_mono (F.run X.A X.stack s H ⟨us, []⟩ (us ++ ds) (vs ++ dvs) Q E hr I.env0 (hb s us I.kIn hl) r2 h) fun r s' hq => ?_)
  cases r with
  | error e => exact hx pins σ H s e s' I hq
  | ok fl =>
    cases fl with
    | ret u => exact I.after hq
    | next => exact False.elim hq
    | brk => exact False.elim hq
    | cont => exact False.elim hq

theorem pe_call (F : FnOk X.prog X.w X.K X.mg X.base CX k f fd ps sp) (hr : Room k X.A) (hg : Gl X x) (hm : X.mg x = some (.ref f)) (hk : PySem.W.keepIn X.K (.ref f) = true) (hb : Binds X.K fd ps ds) (hd : Vals dvs ds) (hx : Passes CX X E)
    (ha : PA X (e :: es) t) (hdb : (x == ("__debug__" : Str)) = false := by decide) (he : starEach (e :: es) X.env = (false, eval e X.env) :: starEach es X.env := by rfl) (hpl : (backTo pos (starEach es X.env)).any (·.1) = false := by rfl) :
    PE X (.Call (.Name x p) (e :: es) [] pos) (tCall sp dvs E t) := by
  intro pins s σ H Q I h
  refine wpAny_Call_Name_kw (ld_glob I hg hm ?_ hdb)
  refine PySem.W.callWith_K (h₀ := X.base) I.ok.mod.kin hk (thn (ha pos pins s σ H _ I h) fun us s1 ⟨vs, H1, I1, r, q⟩ => ⟨I1.kIn, ?_⟩) he hpl
  exact run_fn F hr hb hd hx I1 r q
theorem pe_meth {pl : Sem Bool} (he : PE X o ta) (c : Cls X.K C) (hm : Meth X.K C m f) (F : FnOk X.prog X.w X.K X.mg X.base CX k f fd ps sp) (hr : Room k X.A) (hb : Binds X.K fd ps ds) (hd : Vals dvs ds) (hx : Passes CX X E) (ha : PA X (e :: es) t)
    (hst : starEach (e :: es) X.env = (false, eval e X.env) :: starEach es X.env := by rfl) (hpl : (backTo pos (starEach es X.env)).any (·.1) = false := by rfl)
    (ht : eval (.Call (.Attribute o m apos) (e :: es) [] pos) X.env = (do
      let ov ← eval o X.env
      standAt apos.atName
      let (f, first) ← holding [ov] (getMethod ov m pl)
      callWith pos f first (backTo pos (starEach (e :: es) X.env)) (backToKw pos (keywordEach [] X.env))) := by rfl) :
    PE X (.Call (.Attribute o m apos) (e :: es) [] pos) (tMeth C m sp dvs E ta t) := by
  intro pins s σ H Q I h
  refine PySem.W.methodCall_KW (pl := pl) (thn (he pins s σ H _ I h) fun u s1 ⟨x, H1, I1, rx, a, dx, fs, ex, ea, l, q⟩ => ?_) ht
  subst ex
  obtain rfl : u = Value.ref a := rx
  refine getmeth_ok I1 ea c hm l ?_
  refine PySem.W.callWith_K (first := [.ref a]) (h₀ := X.base) I.ok.mod.kin hm.kp (thn (ha pos pins s1 σ H1 _ I1 q) fun us s2 ⟨vs, H2, I2, r, q2⟩ => ⟨I2.kIn, ?_⟩) hst hpl
  exact run_fn (us := .ref a :: us) (vs := .ref a :: vs) F hr hb hd hx I2 (.cons rfl r) q2
theorem pe_meth0 {pl : Sem Bool} (he : PE X o ta) (c : Cls X.K C) (hm : Meth X.K C m f) (F : FnOk X.prog X.w X.K X.mg X.base CX k f fd ps sp) (hr : Room k X.A) (hb : Binds X.K fd ps ds) (hd : Vals dvs ds) (hx : Passes CX X E)
    (ht : eval (.Call (.Attribute o m apos) [] [] pos) X.env = (do
      let ov ← eval o X.env
      standAt apos.atName
      let (f, first) ← holding [ov] (getMethod ov m pl)
      callWith pos f first (backTo pos (starEach [] X.env)) (backToKw pos (keywordEach [] X.env))) := by rfl) :
    PE X (.Call (.Attribute o m apos) [] [] pos) (tMeth C m sp dvs E ta tNil) := by
  intro pins s σ H Q I h
  refine PySem.W.methodCall_KW (pl := pl) (thn (he pins s σ H _ I h) fun u s1 ⟨x, H1, I1, rx, a, dx, fs, ex, ea, l, q⟩ => ?_) ht
  subst ex
  obtain rfl : u = Value.ref a := rx
  refine getmeth_ok I1 ea c hm l ?_
  exact PySem.W.callWith_K0 (first := [.ref a]) I1.kIn hm.kp (run_fn (us := [.ref a]) (vs := [.ref a]) F hr hb hd hx I1 (.cons rfl .nil) q)

structure Mk (K : PySem.W.Frag) (C f : Addr) : Prop where
  makes : PySem.W.makesIn K C = true
  init : PySem.W.findIn K (.ref C) "__init__" = some (some (.ref f))
  fn : PySem.W.isFn K (.ref f) = true
  kp : PySem.W.keepIn K (.ref C) = true

theorem run_make {pins : List (Addr × Obj)} {σ : St} {H : Hp} {s : Shared} {Q : VK} {us : List Value} {vs : List V} (M : Mk X.K C f) (F : FnOk X.prog X.w X.K X.mg X.base CX k f fd ps sp) (hr : Room (k + 1) X.A) (hb : Binds X.K fd ps ds) (hd : Vals dvs ds)
    (hx : Passes CX X E) (I : Inv X pins σ H s) (r : Vals vs us)
    (h : ∀ x dx, H x = none → H dx = none → dx ≠ x → sp (.ref x :: (vs ++ dvs)) (upd (upd H dx (.own x)) x (.ins C dx [])) (fun v H2 => v = .non ∧ Q (.ref x) H2) E) :
    wpAny (model X.prog X.w) X.A (call (.ref C) us) (EP X pins σ Q) X.xe s := by
  have hq := h (s.heap.objs.size + 1) s.heap.objs.size (I.hok.fresh (Nat.le_succ _)) (I.hok.fresh (Nat.le_refl _)) (Nat.ne_of_lt (Nat.lt_succ_self _))
  have I2 := Inv.made (C := C) I
  have r2 : Vals (V.ref (s.heap.objs.size + 1) :: (vs ++ dvs)) (Value.ref (s.heap.objs.size + 1) :: (us ++ ds)) := .cons rfl (r.append hd)
  have hl : (Value.ref (s.heap.objs.size + 1) :: us ++ ds).length = ps.length := by
    have e := r2.length
    rw [F.len _ _ _ _ hq] at e
    exact e.symm
  refine wpAny_call (make_map (f := f) I.kIn M.makes M.init (beq_iff_eq.mp M.fn) (codeAny_mono (F.run _ X.stack _ _ ⟨Value.ref (s.heap.objs.size + 1) :: us, []⟩ (Value.ref (s.heap.objs.size + 1) :: (us ++ ds)) _ _ E (hr.make C us [])
    (I2.env0.make C us []) (hb _ (Value.ref (s.heap.objs.size + 1) :: us) I2.kIn hl) r2 hq) fun r s' hq' => ?_))
  cases r with
  | error e => exact hx pins σ _ _ e s' I2 hq'
  | ok fl =>
    cases fl with
    | ret u =>
      obtain ⟨v, H', I3, rv, ev, q3⟩ := I2.after hq'
      subst ev
      exact ⟨rv, ⟨V.ref (s.heap.objs.size + 1), H', I3, rfl, q3⟩⟩
    | next => exact False.elim hq'
    | brk => exact False.elim hq'
    | cont => exact False.elim hq'
theorem pe_make (M : Mk X.K C f) (F : FnOk X.prog X.w X.K X.mg X.base CX k f fd ps sp) (hr : Room (k + 1) X.A) (hg : Gl X x) (hm : X.mg x = some (.ref C)) (hb : Binds X.K fd ps ds) (hd : Vals dvs ds) (hx : Passes CX X E)
    (ha : PA X (e :: es) t) (hdb : (x == ("__debug__" : Str)) = false := by decide) (he : starEach (e :: es) X.env = (false, eval e X.env) :: starEach es X.env := by rfl) (hpl : (backTo pos (starEach es X.env)).any (·.1) = false := by rfl) :
    PE X (.Call (.Name x p) (e :: es) [] pos) (tMake C sp dvs E t) := by
  intro pins s σ H Q I h
  refine wpAny_Call_Name_kw (ld_glob I hg hm ?_ hdb)
  refine PySem.W.callWith_K (h₀ := X.base) I.ok.mod.kin M.kp (thn (ha pos pins s σ H _ I h) fun us s1 ⟨vs, H1, I1, r, q⟩ => ⟨I1.kIn, ?_⟩) he hpl
  exact run_make M F hr hb hd hx I1 r q
end

section
variable {X : Cx} {CX : CXT} {k : Nat} {f C : Addr} {fd : FuncData} {ps ks : List Str} {sp : Sp} {E : XK} {x m : Str} {p pos apos kpos : Pos} {e o : Expr} {es : List Expr} {kws : List Keyword} {te ta : TE} {t tk : TA} {nm : Option Str}
structure KBinds (K : PySem.W.Frag) (fd : FuncData) (ps ks : List Str) (g : List Value → List Value → List Value) (gV : List V → List V → List V) : Prop where
  to : ∀ (s : Shared) (us ws : List Value), K.In s.heap → (g us ws).length = ps.length → BindsTo s fd ⟨us, ks.zip ws⟩ (ps.zip (g us ws))
  rel : ∀ {vs : List V} {us : List Value} {zs : List V} {ws : List Value}, Vals vs us → Vals zs ws → Vals (gV vs zs) (g us ws)
variable {g : List Value → List Value → List Value} {gV : List V → List V → List V}
end

structure FnScope (N P : List Str) (sc : Scope) : Prop where
  kind : sc.kind = .function
  co : sc.isCoroutine = false
  gen : sc.isGenerator = false
  nd : N.Nodup
  pre : N.take P.length = P
  par : ∀ x ∈ P, sc.names.lookup x = some .local ∨ sc.names.lookup x = some .cell
  nofree : ∀ y ∈ sc.names, y.2 ≠ .free

theorem bindL_out {kindOf : Str → Option NameKind} {x : Str} : ∀ {binds : List (Str × Value)} {m : Str → Option Value}, (∀ v, (x, v) ∉ binds) → bindL kindOf binds m x = m x
  | [], _, _ => rfl
  | (n, v) :: r, m, h => by
    unfold bindL
    rw [bindL_out fun w hw => h w (List.mem_cons_of_mem _ hw)]
    split
    · have : x ≠ n := by rintro rfl; exact h v List.mem_cons_self
      simp [this]
    · rfl
theorem bindC_out {kindOf : Str → Option NameKind} {x : Str} : ∀ {binds : List (Str × Value)} {m : Str → Option Value}, (∀ v, (x, v) ∉ binds) → bindC kindOf binds m x = m x
  | [], _, _ => rfl
  | (n, v) :: r, m, h => by
    unfold bindC
    rw [bindC_out fun w hw => h w (List.mem_cons_of_mem _ hw)]
    split
    · rfl
    · have : x ≠ n := by rintro rfl; exact h v List.mem_cons_self
      simp [this]
theorem bindL_get {kindOf : Str → Option NameKind} {x : Str} {v : Value} : ∀ {P : List Str} {vs : List Value} {i : Nat} {m : Str → Option Value}, P.Nodup → P[i]? = some x → vs[i]? = some v → kindOf x = some .local →
    bindL kindOf (P.zip vs) m x = some v
  | [], _, _, _, _, h, _, _ => by simp at h
  | _ :: _, [], _, _, _, _, h, _ => by simp at h
  | p :: P, w :: vs, 0, m, nd, h1, h2, hk => by
    simp at h1 h2; subst h1; subst h2
    show bindL kindOf ((p, w) :: P.zip vs) m p = _
    unfold bindL
    rw [bindL_out fun v hv => (List.nodup_cons.mp nd).1 (List.of_mem_zip hv).1, if_pos hk]
    simp
  | p :: P, w :: vs, i + 1, m, nd, h1, h2, hk => by
    show bindL kindOf ((p, w) :: P.zip vs) m x = _
    unfold bindL
    exact bindL_get (i := i) (List.nodup_cons.mp nd).2 (by simpa using h1) (by simpa using h2) hk
theorem bindC_get {kindOf : Str → Option NameKind} {x : Str} {v : Value} : ∀ {P : List Str} {vs : List Value} {i : Nat} {m : Str → Option Value}, P.Nodup → P[i]? = some x → vs[i]? = some v → kindOf x ≠ some .local →
    bindC kindOf (P.zip vs) m x = some v
  | [], _, _, _, _, h, _, _ => by simp at h
  | _ :: _, [], _, _, _, _, h, _ => by simp at h
  | p :: P, w :: vs, 0, m, nd, h1, h2, hk => by
    simp at h1 h2; subst h1; subst h2
    show bindC kindOf ((p, w) :: P.zip vs) m p = _
    unfold bindC
    rw [bindC_out fun v hv => (List.nodup_cons.mp nd).1 (List.of_mem_zip hv).1, if_neg hk]
    simp
  | p :: P, w :: vs, i + 1, m, nd, h1, h2, hk => by
    show bindC kindOf ((p, w) :: P.zip vs) m x = _
    unfold bindC
    exact bindC_get (i := i) (List.nodup_cons.mp nd).2 (by simpa using h1) (by simpa using h2) hk

def start (N : List Str) (vs : List V) : St := vs.map some ++ List.replicate (N.length - vs.length) none

def cxOf (CX : CXT) (P : Program) (w : World) (K : PySem.W.Frag) (mg : Str → Option Value) (base : Heap) (N : List Str) (qual : Str) (scope : Scope) (f : Addr) (cd : Value) (A : Around) (outer : List Env) (s : Shared) (H : Hp) (E : XK) : Cx where
  prog := P
  w := w
  K := K
  mg := mg
  base := base
  A := A.deeper (envOfC qual scope s.heap.objs.size f cd)
  N := N
  s₀ := s
  H₀ := H
  env := envOfC qual scope s.heap.objs.size f cd
  outer := outer
  stack := envOfC qual scope s.heap.objs.size f cd :: outer
  ex := []
  calm := true
  fn := fun _ => true
  pn := []
  xe := fun e s' => wpAny (model P w) (A.deeper (envOfC qual scope s.heap.objs.size f cd)) (leaving (envOfC qual scope s.heap.objs.size f cd) e) (fun _ s'' => CX outer H s E e s'') (fun e' s'' => CX outer H s E e' s'') s'

theorem cell_has {sc : Scope} {n : Nat} {x : Str} (h : sc.names.lookup x = some .cell) : ∃ c, (cellsFrom n sc.names []).lookup x = some c := by
  have q := PySem.W.cellsFrom_some sc.names n [] (.inl h)
  exact Option.isSome_iff_exists.mp q

theorem inv_start {CX : CXT} {P : Program} {w : World} {K : PySem.W.Frag} {mg : Str → Option Value} {base : Heap} {N ps : List Str} {qual : Str} {scope : Scope} {f : Addr} {cd : Value} {A : Around} {outer : List Env} {s s1 : Shared} {H : Hp} {E : XK} {us : List Value} {vs : List V}
    (S : FnScope N ps scope) (hd : A.handled = none) (e0 : Env0 P w K mg base A outer s H) (hl : vs.length = ps.length) (r : Vals vs us)
    (x : InCallC s s.heap.objs.size (bindL (envOfC qual scope s.heap.objs.size f cd).kindOf (ps.zip us) fun _ => none) (cellsFrom (s.heap.objs.size + 1) scope.names []) (bindC (envOfC qual scope s.heap.objs.size f cd).kindOf (ps.zip us) fun _ => none) s1) :
    Inv (cxOf CX P w K mg base N qual scope f cd A outer s H E) [] (start N vs) H s1 := by
  have hpl : ps.length ≤ N.length := by have := congrArg List.length S.pre; rw [List.length_take] at this; omega
  obtain ⟨h1, tk, rfl, hk⟩ := x.done
  have noA : ∀ b : Addr, b ∉ (cxOf CX P w K mg base N qual scope f cd A outer s H E).ex := fun b z => absurd (show b ∈ ([] : List Addr) from z) (by simp)
  refine ⟨⟨e0.mod, S.kind, rfl, rfl, Nat.le_refl _, fun y z c h1 h2 => ?_, fun y hy => ?_, fun y c _ h => ?_, fun _ => hd, Around.frames_deeper e0.frames, .inr ⟨rfl, rfl⟩, fun b z => absurd z (noA b), e0.bs, e0.bsz, fun b _ _ => noA b, fun b z => absurd z (noA b), e0.funs, e0.frf⟩,
    rfl, e0.bare, Un.kept hk, ⟨_, x.toInCall.ns, fun i y v h1 h2 h3 => ?_⟩, fun y c h => ⟨_, x.cell y c h⟩, e0.hok.fresh (Nat.le_refl _), fun y c h => ?_, fun p hp => absurd (show p ∈ ([] : List (Addr × Obj)) from hp) (by simp), e0.hok.kept hk, ?_⟩
  · exact name_of_addr x.apart (PySem.mem_of_lookup h1) (PySem.mem_of_lookup h2)
  · have hy : scope.names.lookup y = some .cell ∨ scope.names.lookup y = some .free := hy
    rcases hy with hy | hy
    · exact cell_has hy
    · exact absurd rfl (S.nofree _ (PySem.mem_of_lookup hy))
  · exact Nat.le_of_lt (x.above y c (PySem.mem_of_lookup h))
  · have hi : i < vs.length := by
      unfold start at h2
      by_cases hi : i < vs.length
      · exact hi
      · rw [List.getElem?_append_right (by simpa using hi)] at h2
        rw [List.getElem?_replicate] at h2
        split at h2 <;> cases h2
    have ha : vs[i]? = some v := by
      unfold start at h2
      rw [List.getElem?_append_left (by simpa using hi), List.getElem?_map] at h2
      cases e : vs[i]? with
      | none => rw [e] at h2; cases h2
      | some a => rw [e] at h2; cases h2; rfl
    obtain ⟨u, hu, rv⟩ := r.get ha
    have hp : ps[i]? = some y := by
      rw [← S.pre, List.getElem?_take_of_lt (by omega)]; exact h1
    have ndP : ps.Nodup := by rw [← S.pre]; exact S.nd.sublist (List.take_sublist _ _)
    refine ⟨u, rv, ?_⟩
    rcases S.par y (List.mem_of_getElem? hp) with k | k
    · exact .inl ⟨k, bindL_get ndP hp hu k⟩
    · obtain ⟨c, e⟩ := cell_has (n := s.heap.objs.size + 1) k
      refine .inr ⟨.inl k, c, e, ?_⟩
      have q := x.cell y c e
      rw [bindC_get ndP hp hu (by show scope.names.lookup y ≠ _; rw [k]; decide)] at q
      exact q
  · exact e0.hok.fresh (Nat.le_of_lt (x.above y c (PySem.mem_of_lookup h)))
  · unfold start
    show _ = N.length
    rw [List.length_append, List.length_map, List.length_replicate]
    omega

theorem fn_of {CX : CXT} {P : Program} {w : World} {K : PySem.W.Frag} {mg : Str → Option Value} {base : Heap} {k : Nat} {f : Addr} {name qual : Str} {params : Arguments} {body : List Stmt} {scope : Scope} {dV kV doc pm cdv ct oc : Value} {an od : Option Addr}
    {osl : Array (Option Value)} {N ps : List Str} {sp : Sp} (lk : K.lookup f = some ⟨oc, od, .func (PySem.W.fnOf name qual params body scope dV kV doc pm an cdv ct), osl⟩) (hcd : PySem.W.codeIn K cdv qual = true) (S : FnScope N ps scope)
    (len : ∀ vs H Q E, sp vs H Q E → vs.length = ps.length)
    (hbody : ∀ (A : Around) (outer : List Env) (s : Shared) (H : Hp) (vs : List V) (Q : VK) (E : XK), Room k (A.deeper (envOfC qual scope s.heap.objs.size f cdv)) → sp vs H Q E →
      ∃ t, PSs (cxOf CX P w K mg base N qual scope f cdv A outer s H E) body t ∧ t { nx := fun _ H' => Q .non H', rt := Q } (start N vs) H) :
    FnOk P w K mg base CX (k + 1) f (PySem.W.fnOf name qual params body scope dV kV doc pm an cdv ct) ps sp := by
  refine ⟨len, fun A outer s H args us vs Q E hr e0 hb r hsp => ?_⟩
  have hl := len _ _ _ _ hsp
  have KX : K.In s.heap := e0.mod.kin.keeps fun b o e => (e0.bs b o e).1
  have lim : s.heap.NoLimit := e0.mod.nolimit.keeps fun b o e => (e0.bs b o e).1
  have hkind : ∀ y ∈ ps.zip us, scope.names.lookup y.1 = some .local ∨ (scope.names.lookup y.1 = some .cell ∧ ((cellsFrom (s.heap.objs.size + 1) scope.names []).lookup y.1).isSome = true) := fun ⟨n, v⟩ hy => by
    rcases S.par n (List.of_mem_zip hy).1 with q | q
    · exact .inl q
    · exact .inr ⟨q, PySem.W.cellsFrom_some _ _ _ (.inl q)⟩
  refine codeAny_call_function hr.depth (KX _ _ lk) rfl S.co S.gen rfl (PySem.W.codeRec_of KX hcd) (hb _ _ _ _ ?_)
  refine wpAny_newFunctionEnv_cells S.kind hkind fun env he s1 x => ?_
  subst he
  refine ⟨lim.keeps x.toInCall.keep, codeAny_func ?_⟩
  obtain ⟨t, ht, hq⟩ := hbody A outer s H vs Q E (hr.deeper _) hsp
  have I : Inv (cxOf CX P w K mg base N qual scope f cdv A outer s H E) [] (start N vs) H s1 := inv_start S hr.hd e0 hl r x
  refine wpAny_mono (ht [] s1 (start N vs) H _ I hq) (fun fl s' hs => ?_) fun e s' hs => hs
  have fin : ∀ {σ' : St} {H' : Hp} {v : V} {u : Value}, Inv (cxOf CX P w K mg base N qual scope f cdv A outer s H E) [] σ' H' s' → RelV v u → Q v H' → CE outer P w H s Q u s' :=
    fun {σ' H' v u} J rv q => ⟨v, H', J.os, J.bare, J.base, J.hok, rv, q⟩
  cases fl with
  | ret u =>
    obtain ⟨v, σ', H', J, rv, q⟩ := hs
    exact fin J rv q
  | next =>
    obtain ⟨σ', H', J, q⟩ := hs
    exact fin (v := V.non) (u := Value.none) J rfl q
  | brk =>
    obtain ⟨_, _, _, q⟩ := hs
    exact False.elim q
  | cont =>
    obtain ⟨_, _, _, q⟩ := hs
    exact False.elim q
end L2

namespace L2
open PySem PySem.Spec PyProof.Rows
section
variable {X : Cx} {x : Str} {p pos : Pos} {e : Expr} {es : List Expr} {t : TA} {id T : String} {r : List V → Hp → VK → Prop}

def tCB (r : List V → Hp → VK → Prop) (t : TA) : TE := fun σ H Q => t σ H fun vs H1 => r vs H1 Q
theorem pe_callB (hc : CallR X (.builtin id) r) (hg : Gl X x) (hm : X.mg x = none) (hv : bootBuiltins x = some (.builtin id)) (ha : PA X (e :: es) t) (hn : x ≠ "__name__" := by decide) (hdb : (x == ("__debug__" : Str)) = false := by decide)
    (he : starEach (e :: es) X.env = (false, eval e X.env) :: starEach es X.env := by rfl) (hpl : (backTo pos (starEach es X.env)).any (·.1) = false := by rfl) : PE X (.Call (.Name x p) (e :: es) [] pos) (tCB r t) := by
  intro pins s σ H Q I h
  refine wpAny_Call_Name_kw (ld_blt I hg hm hv ?_ hn hdb)
  exact PyProof.Rows.callWith_builtin1 (thn (ha pos pins s σ H _ I h) fun us s1 ⟨vs, H1, I1, r1, q1⟩ => hc pins s1 σ H1 vs us Q I1 r1 q1) he hpl
theorem pe_callTy (hc : CallR X (.type T) r) (hg : Gl X x) (hm : X.mg x = none) (hv : bootBuiltins x = some (.type T)) (ha : PA X (e :: es) t) (hn : x ≠ "__name__" := by decide) (hdb : (x == ("__debug__" : Str)) = false := by decide)
    (he : starEach (e :: es) X.env = (false, eval e X.env) :: starEach es X.env := by rfl) (hpl : (backTo pos (starEach es X.env)).any (·.1) = false := by rfl) : PE X (.Call (.Name x p) (e :: es) [] pos) (tCB r t) := by
  intro pins s σ H Q I h
  refine wpAny_Call_Name_kw (ld_blt I hg hm hv ?_ hn hdb)
  exact PyProof.Rows.callWith_type1 (thn (ha pos pins s σ H _ I h) fun us s1 ⟨vs, H1, I1, r1, q1⟩ => hc pins s1 σ H1 vs us Q I1 r1 q1) he hpl
end
end L2

namespace L2
open PySem PySem.Spec PyProof.Rows

section
variable {κ : Type} [DecidableEq κ]
def valV (kvs : List (κ × V)) (k : κ) : Option V := (kvs.find? fun kv => decide (kv.1 = k)).map (·.2)
def putK (kvs : List (κ × V)) (k : κ) (v : V) : List (κ × V) :=
  if (kvs.any fun kv => decide (kv.1 = k)) = true then kvs.map (fun kv => if kv.1 = k then (kv.1, v) else kv) else kvs ++ [(k, v)]
def dropK (kvs : List (κ × V)) (k : κ) : List (κ × V) := kvs.filter fun kv => decide (kv.1 ≠ k)

theorem valV_pos {p : κ × V} {r : List (κ × V)} {k : κ} (e : p.1 = k) : valV (p :: r) k = some p.2 := by simp [valV, List.find?_cons, e]
theorem valV_neg {p : κ × V} {r : List (κ × V)} {k : κ} (e : ¬ p.1 = k) : valV (p :: r) k = valV r k := by simp [valV, List.find?_cons, e]
theorem valV_any (k : κ) : ∀ kvs : List (κ × V), (kvs.any fun kv => decide (kv.1 = k)) = (valV kvs k).isSome
  | [] => rfl
  | p :: r => by
    rw [List.any_cons]
    by_cases e : p.1 = k
    · simp only [valV_pos e, decide_eq_true e, Bool.true_or, Option.isSome_some]
    · rw [valV_neg e, decide_eq_false e, Bool.false_or]; exact valV_any k r
theorem RelO.isSome_eq {o : Option V} {u : Option Value} (r : RelO o u) : o.isSome = u.isSome := by
  cases o with
  | none => cases u with
    | none => rfl
    | some _ => exact (show False from r).elim
  | some _ => cases u with
    | none => exact (show False from r).elim
    | some _ => rfl
theorem RelO.getD {o : Option V} {u : Option Value} {d : V} {d' : Value} (r : RelO o u) (rd : RelV d d') : RelV (o.getD d) (u.getD d') := by
  cases o with
  | none => cases u with
    | none => exact rd
    | some _ => exact (show False from r).elim
  | some _ => cases u with
    | none => exact (show False from r).elim
    | some _ => exact r

theorem KV.val {kvs : List (κ × V)} {vs : List (κ × Value)} (r : KV kvs vs) (k : κ) : RelO (valV kvs k) (valueAt vs k) := by
  unfold KV at r
  induction r with
  | nil => exact True.intro
  | @cons p q ps qs h t ih =>
    obtain ⟨h1, h2⟩ := h
    by_cases e : p.1 = k
    · have e' : q.1 = k := h1.symm.trans e
      have b : valueAt (q :: qs) k = some q.2 := by simp [valueAt, List.find?_cons, e']
      rw [valV_pos e, b]; exact h2
    · have e' : ¬ q.1 = k := fun z => e (h1.trans z)
      have b : valueAt (q :: qs) k = valueAt qs k := by simp [valueAt, List.find?_cons, e']
      rw [valV_neg e, b]; exact ih
theorem KV.any {kvs : List (κ × V)} {vs : List (κ × Value)} (r : KV kvs vs) (k : κ) : (kvs.any fun kv => decide (kv.1 = k)) = vs.any fun kv => decide (kv.1 = k) := by
  unfold KV at r
  induction r with
  | nil => rfl
  | cons h t ih => rw [List.any_cons, List.any_cons, ih, h.1]
theorem KV.repl {kvs : List (κ × V)} {vs : List (κ × Value)} (r : KV kvs vs) (k : κ) {y : V} {u : Value} (ry : RelV y u) :
    KV (kvs.map fun kv => if kv.1 = k then (kv.1, y) else kv) (vs.map fun kv => if kv.1 = k then (kv.1, u) else kv) := by
  unfold KV at r ⊢
  induction r with
  | nil => exact .nil
  | @cons p q ps qs h t ih =>
    rw [List.map_cons, List.map_cons]
    refine .cons ?_ ih
    obtain ⟨h1, h2⟩ := h
    by_cases e : p.1 = k
    · rw [if_pos e, if_pos (h1.symm.trans e)]; exact ⟨h1, ry⟩
    · rw [if_neg e, if_neg (fun z => e (h1.trans z))]; exact ⟨h1, h2⟩
theorem KV.put {kvs : List (κ × V)} {vs : List (κ × Value)} (r : KV kvs vs) (k : κ) {y : V} {u : Value} (ry : RelV y u) : KV (putK kvs k y) (stored vs k u) := by
  unfold putK stored
  rw [r.any k]
  by_cases e : (vs.any fun kv => decide (kv.1 = k)) = true
  · rw [if_pos e, if_pos e]; exact r.repl k ry
  · rw [if_neg e, if_neg e]; exact Paired.snoc r ⟨rfl, ry⟩
theorem KV.drop {kvs : List (κ × V)} {vs : List (κ × Value)} (r : KV kvs vs) (k : κ) : KV (dropK kvs k) (without vs k) := by
  unfold KV at r ⊢
  unfold dropK without
  induction r with
  | nil => exact .nil
  | @cons p q ps qs h t ih =>
    obtain ⟨h1, h2⟩ := h
    rw [List.filter_cons, List.filter_cons]
    by_cases e : p.1 = k
    · have a : ¬ decide (p.1 ≠ k) = true := by simp [e]
      have b : ¬ decide (q.1 ≠ k) = true := by simp [h1.symm.trans e]
      rw [if_neg a, if_neg b]; exact ih
    · have e' : ¬ q.1 = k := fun z => e (h1.trans z)
      have a : decide (p.1 ≠ k) = true := by simp [e]
      have b : decide (q.1 ≠ k) = true := by simp [e']
      rw [if_pos a, if_pos b]; exact .cons ⟨h1, h2⟩ ih
theorem KV.keys {kvs : List (κ × V)} {vs : List (κ × Value)} (r : KV kvs vs) : kvs.map (·.1) = vs.map (·.1) := by
  unfold KV at r
  induction r with
  | nil => rfl
  | cons h t ih => rw [List.map_cons, List.map_cons, ih, h.1]
theorem KV.length {kvs : List (κ × V)} {vs : List (κ × Value)} (r : KV kvs vs) : kvs.length = vs.length := Paired.length r
end


abbrev KT (H : Hp) : List (List Key × V) → List (List Key × Addr × Value) → Prop := Paired fun p q => p.1 = q.1 ∧ H q.2.1 = some (.tup (p.1.map kV)) ∧ RelV p.2 q.2.2
theorem KT.val {H : Hp} {kvs : List (List Key × V)} {xs : List (List Key × Addr × Value)} (r : KT H kvs xs) (k : List Key) : RelO (valV kvs k) ((atKey xs k).map (·.2)) := by
  induction r with
  | nil => exact True.intro
  | @cons p q ps qs h t ih =>
    obtain ⟨h1, _, h2⟩ := h
    by_cases e : p.1 = k
    · have e' : q.1 = k := h1.symm.trans e
      have b : atKey (q :: qs) k = some q.2 := by simp [atKey, List.find?_cons, e']
      rw [valV_pos e, b]; exact h2
    · have e' : ¬ q.1 = k := fun z => e (h1.trans z)
      have b : atKey (q :: qs) k = atKey qs k := by simp [atKey, List.find?_cons, e']
      rw [valV_neg e, b]; exact ih
theorem KT.repl {H : Hp} {kvs : List (List Key × V)} {xs : List (List Key × Addr × Value)} (r : KT H kvs xs) (k : List Key) {y : V} {u : Value} (ry : RelV y u) :
    KT H (kvs.map fun kv => if kv.1 = k then (kv.1, y) else kv) (xs.map (putAt k u)) := by
  induction r with
  | nil => exact .nil
  | @cons p q ps qs h t ih =>
    rw [List.map_cons, List.map_cons]
    refine .cons ?_ ih
    obtain ⟨h1, h2, h3⟩ := h
    unfold putAt
    by_cases e : p.1 = k
    · rw [if_pos e, if_pos (h1.symm.trans e)]; exact ⟨h1, h2, ry⟩
    · rw [if_neg e, if_neg (fun z => e (h1.trans z))]; exact ⟨h1, h2, h3⟩
theorem KT.put {H : Hp} {kvs : List (List Key × V)} {xs : List (List Key × Addr × Value)} (r : KT H kvs xs) (k : List Key) {b : Addr} {y : V} {u : Value} (hb : H b = some (.tup (k.map kV))) (ry : RelV y u) :
    KT H (putK kvs k y) (storedH xs k b u) := by
  have e : (kvs.any fun kv => decide (kv.1 = k)) = (atKey xs k).isSome := by
    rw [valV_any, (r.val k).isSome_eq, Option.isSome_map]
  unfold putK storedH
  rw [e]
  by_cases q : (atKey xs k).isSome = true
  · rw [if_pos q, if_pos q]; exact r.repl k ry
  · rw [if_neg q, if_neg q]; exact Paired.snoc r ⟨rfl, hb, ry⟩
theorem KT.keeps {H H' : Hp} {kvs : List (List Key × V)} {xs : List (List Key × Addr × Value)} (r : KT H kvs xs) (ht : ∀ b ys, H b = some (.tup ys) → H' b = some (.tup ys)) : KT H' kvs xs :=
  Paired.mapP r fun _ _ z => ⟨z.1, ht _ _ z.2.1, z.2.2⟩

section
variable {P : Program} {w : World} {H : Hp} {h : Heap} {a : Addr}
end

def DGet (H : Hp) (a : Addr) (y : V) (r : Option V) : Prop :=
  (∃ kvs k, Rd H a (.dK kvs) ∧ y = kV k ∧ r = valV kvs k) ∨ ∃ kvs k b, Rd H a (.dT kvs) ∧ y = .ref b ∧ H b = some (.tup (k.map kV)) ∧ r = valV kvs k
def DPut (H : Hp) (a : Addr) (y v : V) (H' : Hp) : Prop :=
  (∃ kvs k, H a = some (.dK kvs) ∧ y = kV k ∧ kvs.length < sizeLine ∧ H' = upd H a (.dK (putK kvs k v))) ∨
  ∃ kvs k b, H a = some (.dT kvs) ∧ y = .ref b ∧ H b = some (.tup (k.map kV)) ∧ kvs.length < sizeLine ∧ H' = upd H a (.dT (putK kvs k v))
theorem DGet.k {H : Hp} {a : Addr} {kvs : List (Key × V)} {k : Key} (e : H a = some (.dK kvs)) : DGet H a (kV k) (valV kvs k) := .inl ⟨kvs, k, .inl e, rfl, rfl⟩
theorem DGet.t {H : Hp} {a b : Addr} {kvs : List (List Key × V)} {k : List Key} (e : H a = some (.dT kvs)) (eb : H b = some (.tup (k.map kV))) : DGet H a (.ref b) (valV kvs k) := .inr ⟨kvs, k, b, .inl e, rfl, eb, rfl⟩
theorem DPut.k {H : Hp} {a : Addr} {kvs : List (Key × V)} {k : Key} {v : V} (e : H a = some (.dK kvs)) (hl : kvs.length < sizeLine) : DPut H a (kV k) v (upd H a (.dK (putK kvs k v))) := .inl ⟨kvs, k, e, rfl, hl, rfl⟩
theorem DPut.t {H : Hp} {a b : Addr} {kvs : List (List Key × V)} {k : List Key} {v : V} (e : H a = some (.dT kvs)) (eb : H b = some (.tup (k.map kV))) (hl : kvs.length < sizeLine) :
    DPut H a (.ref b) v (upd H a (.dT (putK kvs k v))) := .inr ⟨kvs, k, b, e, rfl, eb, hl, rfl⟩


section
variable {X : Cx} {pins : List (Addr × Obj)} {σ : St} {H : Hp} {s : Shared} {a : Addr} {y v : V} {u r : Value} {o : Option V} {A : Around} {E : Value → Shared → Prop}

end

section
variable {X : Cx} {pins : List (Addr × Obj)} {σ : St} {H : Hp} {s : Shared} {a : Addr} {kvs : List (Key × V)} {k : Key} {u : Value} {A : Around} {E : Value → Shared → Prop}
end


def NoSl (i : Expr) : Prop := ∀ ov iv, subscripted i false ov iv = operate [ov, iv] (getItem ov iv)
theorem subD_of {prog : Program} {w : World} {A : Around} {E : Value → Shared → Prop} {s : Shared} {env : Env} {value slice : Expr} {pos : Pos} {T id : String} {Q : Value → Shared → Prop}
    (hl : typeLookup (.type T) "__getitem__" = pure (some (.builtin id))) (hs : NoSl slice)
    (h : wpAny (model prog w) A (eval value env) (fun o s₁ => wpAny (model prog w) A (eval slice env) (fun i s₂ => s₂.TypeIs o T ∧ wpAny (model prog w) A (getItem o i) Q E s₂) E s₁) E s) :
    wpAny (model prog w) A (eval (.Subscript value slice pos) env) Q E s := by
  refine Subscript_ (wpAny_mono h (fun o s₁ h₁ => wpAny_mono h₁ (fun i s₂ h₂ => ?_) fun _ _ x => x) fun _ _ x => x)
  obtain ⟨hT, h₂⟩ := h₂
  unfold subscriptTail
  refine wpAny_bind ?_
  rw [getitemInPython_of_ne hT.not_modules]
  refine wpAny_bind (wpAny_specialOf hT hl ?_)
  have fin : wpAny (model prog w) A (subscripted slice false o i) (fun r s₃ => wpAny (model prog w) A (letTemporaryGo value o r >>= fun _ => pure r) Q E s₃) E s₂ := by
    rw [hs o i]
    exact wpAny_operating (wpAny_mono h₂ (fun r s₃ h₃ => wpAny_bind (wpAny_letTemporaryGo (wpAny_pure h₃))) fun _ _ x => x)
  first
    | exact wpAny_pure (wpAny_bind fin)
    | exact wpAny_bind (wpAny_pure (wpAny_bind fin))
    | exact wpAny_bind fin

section
variable {X : Cx} {o i e value : Expr} {pos pos' tpos : Pos} {td ty tv : TE}
end


section
variable {X : Cx} {pos : Pos}
end

structure M1 (X : Cx) (o : Expr) (m : Str) (apos : Pos) (e : Expr) (cpos : Pos) : Prop where
  base : attributeBase o m X.env (eval o X.env) = eval o X.env
  few : ((backTo cpos (starEach [e] X.env)).all (fun x => !x.1) && (backToKw cpos (keywordEach [] X.env)).all (fun x => x.1.isSome)
    && decide (([e] : List Expr).length + ([] : List Keyword).length + (if ([] : List Keyword).isEmpty then 0 else 1) < 30)) = true
  line : (apos.endLine == cpos.line) = true
  trees : backTo cpos (starEach [e] X.env) = [(false, eval e X.env)]
structure M2 (X : Cx) (o : Expr) (m : Str) (apos : Pos) (e f : Expr) (cpos : Pos) : Prop where
  base : attributeBase o m X.env (eval o X.env) = eval o X.env
  few : ((backTo cpos (starEach [e, f] X.env)).all (fun x => !x.1) && (backToKw cpos (keywordEach [] X.env)).all (fun x => x.1.isSome)
    && decide (([e, f] : List Expr).length + ([] : List Keyword).length + (if ([] : List Keyword).isEmpty then 0 else 1) < 30)) = true
  line : (apos.endLine == cpos.line) = true
  trees : backTo cpos (starEach [e, f] X.env) = [(false, eval e X.env), (false, eval f X.env)]

section
variable {X : Cx} {pins : List (Addr × Obj)} {σ : St} {H : Hp} {s : Shared} {a : Addr} {y d : V} {u r : Value} {o : Option V} {A : Around} {E : Value → Shared → Prop}
end

section
variable {X : Cx} {o e f : Expr} {apos cpos : Pos} {td ty tx : TE}
end

section
variable {X : Cx} {pins : List (Addr × Obj)} {σ : St} {H : Hp} {s : Shared} {a : Addr} {kvs : List (Key × V)} {A : Around} {E : Value → Shared → Prop}
end


section
variable {X : Cx} {pins : List (Addr × Obj)} {σ : St} {H : Hp} {s : Shared} {a : Addr} {y : V} {u : Value} {A : Around} {E : Value → Shared → Prop}
end
end L2

namespace HT
open PySem PyProof.Rows

section
open PySem.SeqAt
open PySem.AutoSeq1 (wpAny_loadPart')
open PySem.MeetsSeq PySem.MeetsSeq2 PySem.MeetsSeq3

end

section
variable {prog : Program} {w : World} {A : Around} {E : Value → Shared → Prop} {s : Shared}

def sIx (n d : Nat) : Option Int → Nat
  | none => d
  | some v => if v < 0 then (v + (n : Int)).toNat else min v.toNat n
theorem sIx_le (n d : Nat) (hd : d ≤ n) (o : Option Int) : sIx n d o ≤ n := by
  cases o with
  | none => exact hd
  | some v =>
    show (if v < 0 then (v + (n : Int)).toNat else min v.toNat n) ≤ n
    by_cases hv : v < 0
    · rw [if_pos hv]; omega
    · rw [if_neg hv]; exact Nat.min_le_right _ _
theorem clip_eq (v : Int) (n d : Nat) : (if v < 0 then max (v + (n : Int)) 0 else min v (n : Int)) = ((sIx n d (some v) : Nat) : Int) := by
  show (if v < 0 then max (v + (n : Int)) 0 else min v (n : Int)) = (((if v < 0 then (v + (n : Int)).toNat else min v.toNat n) : Nat) : Int)
  by_cases hv : v < 0
  · simp only [if_pos hv]; omega
  · simp only [if_neg hv]; omega
theorem adjust_gen (lo hi : Option Int) (n : Nat) : Builtin.Slice.sliceAdjust lo hi 1 (n : Int) = (((sIx n 0 lo : Nat) : Int), ((sIx n n hi : Nat) : Int)) := by
  have h1 : ¬ ((1 : Int) < 0) := by omega
  unfold Builtin.Slice.sliceAdjust
  simp only [h1, if_false]
  refine Prod.ext ?_ ?_
  · cases lo with
    | none => rfl
    | some v => exact clip_eq v n 0
  · cases hi with
    | none => rfl
    | some v => exact clip_eq v n n
theorem places_gen (i j : Nat) : Builtin.Slice.slicePlaces (i : Int) (j : Int) 1 = j - i := by
  unfold Builtin.Slice.slicePlaces
  have h1 : (1 : Int) > 0 := by omega
  simp only [h1, if_true, Int.ediv_one]
  split <;> omega
theorem slicePart_ {v : Value} {o : Option Int} {Q : Option Int → Shared → Prop} (p : IsPart v o) (h : Q o s) : wpAny (model prog w) A (Builtin.Slice.slicePartIndex v) Q E s := by
  cases p with
  | none => exact slicePart_none h
  | int i t => exact slicePart_int h
theorem sliceApplied_gen {sl : Addr} {vl vu : Value} {lo hi : Option Int} {n : Nat} {Q : Int × Int × Nat → Shared → Prop} (hs : s.heap.IsSliceOf sl vl vu .none) (pl : IsPart vl lo) (pu : IsPart vu hi)
    (h : Q (((sIx n 0 lo : Nat) : Int), 1, sIx n n hi - sIx n 0 lo) s) : wpAny (model prog w) A (Builtin.Slice.sliceApplied (.ref sl) (pure (n : Int))) Q E s := by
  obtain ⟨os, hos, hcs, hds⟩ := id hs
  unfold Builtin.Slice.sliceApplied Builtin.Slice.sliceFields
  refine wpAny_bind (wpAny_bind (wpAny_field hos hds (x := vl) rfl (wpAny_bind (wpAny_field hos hds (x := vu) rfl (wpAny_bind (wpAny_field hos hds (x := .none) rfl (wpAny_pure ?_)))))))
  refine wpAny_bind (slicePart_none ?_)
  show wpAny _ _ (if ((1 : Int) == 0) = true then _ else _) _ _ s
  rw [if_neg (by decide)]
  refine wpAny_bind (slicePart_ pl (wpAny_bind (slicePart_ pu (wpAny_bind (wpAny_pure ?_)))))
  show wpAny _ _ (match Builtin.Slice.sliceAdjust lo hi 1 (n : Int) with | (lo, hi) => pure (lo, (1 : Int), Builtin.Slice.slicePlaces lo hi 1)) _ _ s
  rw [adjust_gen lo hi n]
  show wpAny _ _ (pure (((sIx n 0 lo : Nat) : Int), (1 : Int), Builtin.Slice.slicePlaces ((sIx n 0 lo : Nat) : Int) ((sIx n n hi : Nat) : Int) 1)) _ _ s
  rw [places_gen]
  exact wpAny_pure h
theorem pick_gen (xs : Array Value) (i k : Nat) : ((List.range k).filterMap fun (m : Nat) => xs[((i : Int) + (m : Int) * 1).toNat]?).toArray = ((xs.toList.drop i).take k).toArray := by
  have e : (fun (m : Nat) => xs[((i : Int) + (m : Int) * 1).toNat]?) = fun m => xs[i + m]? := by
    funext m
    have : ((i : Int) + (m : Int) * 1).toNat = i + m := by omega
    rw [this]
  rw [e]
  have := pick_run xs i k
  rw [List.filterMap_map] at this
  have e2 : ((fun x => xs[x]?) ∘ fun x => i + x) = fun m => xs[i + m]? := rfl
  rw [e2] at this
  rw [this]

theorem getItem_tuple_cut {t sl : Addr} {items : Array Value} {vl vu : Value} {lo hi : Option Int} {Q : Value → Shared → Prop} (ht : IsTup s.heap t items) (hs : s.heap.IsSliceOf sl vl vu .none) (pl : IsPart vl lo) (pu : IsPart vu hi)
    (hw : ¬ (sIx items.size 0 lo = 0 ∧ sIx items.size items.size hi = items.size))
    (h : Q (.ref s.heap.objs.size) { s with heap := s.heap.push { cls := .type "tuple", data := .seq ((items.toList.drop (sIx items.size 0 lo)).take (sIx items.size items.size hi - sIx items.size 0 lo)).toArray } })
    (hsz : items.size ≤ sizeLine) : wpAny (model prog w) A (getItem (.ref t) (.ref sl)) Q E s := by
  have htake : sizeOk (.seq ((items.toList.drop (sIx items.size 0 lo)).take (sIx items.size items.size hi - sIx items.size 0 lo)).toArray) := by
    show ((items.toList.drop (sIx items.size 0 lo)).take (sIx items.size items.size hi - sIx items.size 0 lo)).toArray.size ≤ sizeLine
    rw [List.size_toArray, List.length_take, List.length_drop, Array.length_toList]
    omega
  have hj : sIx items.size items.size hi ≤ items.size := sIx_le _ _ (Nat.le_refl _) hi
  obtain ⟨os, hos, hcs, hds⟩ := id hs
  have hTs : s.TypeIs (.ref sl) "slice" := ⟨os, hos, hcs⟩
  unfold getItem
  try with_reducible refine wpAny_holding ?_
  first | refine wpAny_bind (wpAny_pure ?_) | skip
  refine wpAny_bind (wpAny_sequenceKey ht.typeIs (by decide) ?_)
  refine wpAny_bind (wpAny_callSpecial?_slot (name := Str.ofString "__getitem__") ht.typeIs PyProof.Rows.slot_tuple_getitem
    (wpAny_call_entry PyProof.Rows.slot_tuple_getitem ht.typeIs entry_tuple_getitem ?_ (args_tuple_getitem _ _)))
  show wpAny _ _ (Builtin.Tuple.tupleItemsOf (.ref t) >>= _) _ _ s
  refine wpAny_bind (tupleItemsOf_ ht ?_)
  refine wpAny_bind (wpAny_typeOf hTs ?_)
  rw [if_pos (by decide)]
  refine wpAny_bind (sliceApplied_gen hs pl pu ?_)
  have hno : ¬ ((((sIx items.size 0 lo : Nat) : Int) == 0 && (1 : Int) == 1 && (sIx items.size items.size hi - sIx items.size 0 lo) == items.size) = true) := by
    intro q
    rw [Bool.and_eq_true, Bool.and_eq_true] at q
    have q1 : ((sIx items.size 0 lo : Nat) : Int) = 0 := eq_of_beq q.1.1
    have q2 : sIx items.size items.size hi - sIx items.size 0 lo = items.size := eq_of_beq q.2
    exact hw ⟨by omega, by omega⟩
  show wpAny _ _ (if (((sIx items.size 0 lo : Nat) : Int) == 0 && (1 : Int) == 1 && (sIx items.size items.size hi - sIx items.size 0 lo) == items.size) = true then _ else _) _ _ s
  rw [if_neg hno, pick_gen]
  first
    | exact wpAny_bind (m := Builtin.Tuple.tupleExact _) (wpAny_newObj_type (wpAny_pure ⟨_, rfl, wpAny_pure h⟩) htake)
    | exact wpAny_bind (m := Builtin.Tuple.tupleExact _) (wpAny_newObj_type (wpAny_bind (wpAny_pure (wpAny_pure ⟨_, rfl, wpAny_pure h⟩))) htake)
    | exact wpAny_bind (wpAny_bind (m := Builtin.Tuple.tupleExact _) (wpAny_newObj_type (wpAny_pure (wpAny_pure ⟨_, rfl, wpAny_pure h⟩)) htake))
    | exact wpAny_bind (wpAny_bind (m := Builtin.Tuple.tupleExact _) (wpAny_newObj_type (wpAny_pure ⟨_, rfl, wpAny_pure h⟩) htake))
end
end HT

namespace L2
open PySem PySem.Spec PyProof.Rows

abbrev TO := St → Hp → (Option Int → Hp → Prop) → Prop
def PO (X : Cx) (e : Option Expr) (t : TO) : Prop :=
  ∀ (pins : List (Addr × Obj)) (s : Shared) (σ : St) (H : Hp) (Q : Option Int → Hp → Prop), Inv X pins σ H s → t σ H Q →
    wpAny (model X.prog X.w) X.A (evalPart e X.env) (fun u s' => ∃ o H', Inv X pins σ H' s' ∧ IsPart u o ∧ Q o H') X.xe s
def tNoPart : TO := fun _ H Q => Q none H
def tPart (t : TE) : TO := fun σ H Q => t σ H fun x H1 => ∃ i, x = .int i ∧ Q (some i) H1

section
variable {X : Cx} {e : Expr} {te : TE} {lo hi : Option Expr} {tl th : TO} {pos p2 : Pos}

theorem po_none : PO X none tNoPart := by
  intro pins s σ H Q I h
  rw [evalPart_none]
  exact wpAny_pure ⟨none, H, I, .none, h⟩
theorem po_some (h : PE X e te) : PO X (some e) (tPart te) := by
  intro pins s σ H Q I hw
  rw [evalPart_some]
  refine thn (h pins s σ H _ I hw) fun u s1 ⟨x, H1, I1, r1, q1⟩ => ?_
  obtain ⟨i, rfl, q⟩ := q1
  obtain ⟨t, rfl⟩ := r1
  exact ⟨some i, H1, I1, .int i t, q⟩

def SlR (X : Cx) (r : V → Option Int → Option Int → Hp → VK → Prop) : Prop :=
  ∀ (pins : List (Addr × Obj)) (s : Shared) (σ : St) (H : Hp) (x : V) (v vl vu : Value) (lo hi : Option Int) (sl : Addr) (Q : VK), Inv X pins σ H s → RelV x v → s.heap.IsSliceOf sl vl vu .none → IsPart vl lo → IsPart vu hi → r x lo hi H Q →
    ∃ T id, typeLookup (.type T) "__getitem__" = pure (some (.builtin id)) ∧ s.TypeIs v T ∧ wpAny (model X.prog X.w) X.A (getItem v (.ref sl)) (EP X pins σ Q) X.xe s
theorem SlR.or {r r' : V → Option Int → Option Int → Hp → VK → Prop} (h : SlR X r) (h' : SlR X r') : SlR X (fun x lo hi H Q => r x lo hi H Q ∨ r' x lo hi H Q) := by
  intro pins s σ H x v vl vu lo hi sl Q I rx hs pl pu q
  rcases q with q | q
  · exact h pins s σ H x v vl vu lo hi sl Q I rx hs pl pu q
  · exact h' pins s σ H x v vl vu lo hi sl Q I rx hs pl pu q
def tSl (r : V → Option Int → Option Int → Hp → VK → Prop) (te : TE) (tl th : TO) : TE := fun σ H Q => te σ H fun x H1 => tl σ H1 fun l H2 => th σ H2 fun u H3 => r x l u H3 Q
theorem pe_slice {r : V → Option Int → Option Int → Hp → VK → Prop} (hr : SlR X r) (he : PE X e te) (hl : PO X lo tl) (hu : PO X hi th) : PE X (.Subscript e (.Slice lo hi none p2) pos) (tSl r te tl th) := by
  intro pins s σ H Q I h
  refine Subscript_ (thn (he pins s σ H _ I h) fun v s1 ⟨x, H1, I1, r1, q1⟩ => ?_)
  refine wpAny_Slice (thn (hl pins s1 σ H1 _ I1 q1) fun vl s2 ⟨l, H2, I2, pl, q2⟩ => thn (hu pins s2 σ H2 _ I2 q2) fun vu s3 ⟨u, H3, I3, pu, q3⟩ => ?_)
  rw [evalPart_none]
  refine wpAny_pure ?_
  have I4 : Inv X pins σ H3 { s3 with heap := s3.heap.push { cls := .type "slice", data := .fields #[vl, vu, .none] } } := I3.kept (t' := s3.toks) fun b ob q => Heap.get?_push_of_some _ q
  obtain ⟨T, id, hT, ht, hg⟩ := hr pins { s3 with heap := s3.heap.push { cls := .type "slice", data := .fields #[vl, vu, .none] } } σ H3 x v vl vu l u s3.heap.objs.size Q I4 r1 (Heap.IsSliceOf.new ..) pl pu q3
  show wpAny (model X.prog X.w) X.A (subscriptTail e (.Slice lo hi none p2) v (.ref s3.heap.objs.size)) (EP X pins σ Q) X.xe { s3 with heap := s3.heap.push { cls := .type "slice", data := .fields #[vl, vu, .none] } }
  exact tail_any (ops := [.ref s3.heap.objs.size, v]) ht hT hg (by with_unfolding_all rfl)

def cutV (xs : List V) (lo hi : Option Int) : List V := (xs.drop (HT.sIx xs.length 0 lo)).take (HT.sIx xs.length xs.length hi - HT.sIx xs.length 0 lo)
theorem cutV_length (xs : List V) (lo hi : Option Int) : (cutV xs lo hi).length ≤ xs.length := by
  unfold cutV
  rw [List.length_take, List.length_drop]
  omega
def rSlT (K : PySem.W.Frag) : V → Option Int → Option Int → Hp → VK → Prop := fun x lo hi H Q => ∃ a xs, x = .ref a ∧ SqT K H a xs ∧
  ¬ (HT.sIx xs.length 0 lo = 0 ∧ HT.sIx xs.length xs.length hi = xs.length) ∧ ∀ p, H p = none → Q (.ref p) (upd H p (.tup (cutV xs lo hi)))
theorem sl_tup : SlR X (rSlT X.K) := by
  intro pins s σ H x v vl vu lo hi sl Q I rx hs pl pu h
  obtain ⟨a, xs, rfl, hx, hw, q⟩ := h
  cases rx
  obtain ⟨its, r, ht, hz⟩ := I.tuple hx
  have hlen : its.toArray.size = xs.length := by rw [List.size_toArray]; exact r.length.symm
  refine ⟨"tuple", _, PyProof.Rows.slot_tuple_getitem.lookup, ht.typeIs, ?_⟩
  refine HT.getItem_tuple_cut ht hs pl pu (by rw [hlen]; exact hw) ?_ (by rw [hlen]; exact hz)
  rw [hlen]
  refine ⟨.ref s.heap.objs.size, _, I.laid (t' := s.toks) (o := .tup (cutV xs lo hi)) (fun b ob q => Heap.get?_push_of_some _ q) (Nat.le_refl _) ?_, rfl, q _ (I.hok.fresh (Nat.le_refl _))⟩
  exact ⟨Nat.le_trans (cutV_length xs lo hi) hz, _, (r.drop (HT.sIx xs.length 0 lo)).take (HT.sIx xs.length xs.length hi - HT.sIx xs.length 0 lo), IsTup.new _ _⟩

end
end L2

namespace L2
open PySem PySem.Spec PyProof.Rows

def ixN (n : Nat) (i : Int) : Option Nat := if 0 ≤ i then (if i < n then some i.toNat else none) else if -(n : Int) ≤ i then some (i + n).toNat else none
def atI {α : Type} (xs : List α) (i : Int) : Option α := (ixN xs.length i).bind fun j => xs[j]?
theorem ixN_seq {n : Nat} {i : Int} {j : Nat} (h : ixN n i = some j) : seqIndex? i n = some j ∧ j < n ∧ -(n : Int) ≤ i ∧ i < n := by
  unfold ixN at h
  by_cases h0 : 0 ≤ i
  · rw [if_pos h0] at h
    by_cases h1 : i < n
    · rw [if_pos h1] at h
      have e : i.toNat = j := Option.some.inj h
      exact ⟨by rw [seqIndex_of h0 h1, e], by omega, by omega, h1⟩
    · rw [if_neg h1] at h; cases h
  · rw [if_neg h0] at h
    by_cases h1 : -(n : Int) ≤ i
    · rw [if_pos h1] at h
      have e : (i + n).toNat = j := Option.some.inj h
      exact ⟨by rw [seqIndex_neg (by omega) h1, e], by omega, h1, by omega⟩
    · rw [if_neg h1] at h; cases h
theorem atI_get {α : Type} {xs : List α} {i : Int} {v : α} (h : atI xs i = some v) : ∃ j, seqIndex? i xs.length = some j ∧ xs[j]? = some v ∧ j < xs.length ∧ -(xs.length : Int) ≤ i ∧ i < xs.length := by
  unfold atI at h
  cases e : ixN xs.length i with
  | none => rw [e] at h; cases h
  | some j =>
    rw [e] at h
    obtain ⟨h1, h2, h3, h4⟩ := ixN_seq e
    exact ⟨j, h1, h, h2, h3, h4⟩
theorem atI_nat {α : Type} {xs : List α} {j : Nat} {v : α} (h : xs[j]? = some v) : atI xs (j : Int) = some v := by
  have hj : j < xs.length := (List.getElem?_eq_some_iff.mp h).1
  have e : ixN xs.length (j : Int) = some j := by
    unfold ixN
    rw [if_pos (by omega), if_pos (by omega)]; simp
  unfold atI; rw [e]; exact h
theorem atI_last {α : Type} (xs : List α) (v : α) : atI (xs ++ [v]) (-1) = some v := by
  have hl : (xs ++ [v]).length = xs.length + 1 := by simp
  have e : ixN (xs ++ [v]).length (-1) = some xs.length := by
    unfold ixN
    rw [hl, if_neg (by decide), if_pos (by omega)]
    congr 1
    omega
  unfold atI
  rw [e]
  show (xs ++ [v])[xs.length]? = some v
  simp

def PlainIx (b : Expr) : Prop := ∀ o i, subscripted b false o i = operate [o, i] (getItem o i)
def IxR (X : Cx) (r : R2) : Prop :=
  ∀ (value slice : Expr) (pins : List (Addr × Obj)) (s : Shared) (σ : St) (H : Hp) (x y : V) (v u : Value) (Q : VK), Inv X pins σ H s → RelV x v → RelV y u → r x y H Q →
    subscripted slice false v u = operate [v, u] (getItem v u) → wpAny (model X.prog X.w) X.A (subscriptTail value slice v u) (EP X pins σ Q) X.xe s
def MtR (X : Cx) (id : String) (r : V → List V → Hp → VK → Prop) : Prop :=
  ∀ (pins : List (Addr × Obj)) (s : Shared) (σ : St) (H : Hp) (x : V) (xs : List V) (v : Value) (us : List Value) (Q : VK), Inv X pins σ H s → RelV x v → Vals xs us → r x xs H Q →
    wpAny (model X.prog X.w) X.A (call (.builtin id) (v :: us)) (EP X pins σ Q) X.xe s
section
variable {X : Cx} {a b : Expr} {ta tb : TE} {pos : Pos}
theorem IxR.or {r r' : R2} (h : IxR X r) (h' : IxR X r') : IxR X (fun x y H Q => r x y H Q ∨ r' x y H Q) := by
  intro value slice pins s σ H x y v u Q I rx ry q hs
  rcases q with q | q
  · exact h value slice pins s σ H x y v u Q I rx ry q hs
  · exact h' value slice pins s σ H x y v u Q I rx ry q hs
theorem MtR.or {id : String} {r r' : V → List V → Hp → VK → Prop} (h : MtR X id r) (h' : MtR X id r') : MtR X id (fun x xs H Q => r x xs H Q ∨ r' x xs H Q) := by
  intro pins s σ H x xs v us Q I rx rs q
  rcases q with q | q
  · exact h pins s σ H x xs v us Q I rx rs q
  · exact h' pins s σ H x xs v us Q I rx rs q
theorem pe_ix {r : R2} (hr : IxR X r) (ha : PE X a ta) (hb : PE X b tb) (hs : PlainIx b) : PE X (.Subscript a b pos) (tOp r ta tb) := by
  intro pins s σ H Q I h
  exact Subscript_ (binT ha hb I h fun v u s2 x y H2 I2 rx ry q => hr a b pins s2 σ H2 x y v u Q I2 rx ry q (hs _ _))

def rIxL (K : PySem.W.Frag) : R2 := fun x y H Q => ∃ p xs i v, x = .ref p ∧ y = .int i ∧ SqL K H p xs ∧ atI xs i = some v ∧ Q v H
def rIxT (K : PySem.W.Frag) : R2 := fun x y H Q => ∃ p xs i v, x = .ref p ∧ y = .int i ∧ SqT K H p xs ∧ atI xs i = some v ∧ Q v H
theorem ix_list : IxR X (rIxL X.K) := by
  intro value slice pins s σ H x y v u Q I rx ry h hs
  obtain ⟨p, xs, i, z, rfl, rfl, hq, he, q⟩ := h
  cases rx
  obtain ⟨t, rfl⟩ := ry
  obtain ⟨its, r, pl, hz⟩ := I.list hq
  obtain ⟨j, h1, h2, h3, h4, h5⟩ := atI_get he
  obtain ⟨w, ew, rw'⟩ := r.get h2
  have hl := r.length
  have hn := line63
  have fin : EP X pins σ Q w s := ⟨z, H, I, rw', q⟩
  by_cases h0 : 0 ≤ i
  · have hj : i.toNat = j := by
      rw [seqIndex_of h0 h5] at h1
      exact Option.some.inj h1
    exact item_listR pl.isList h0 (by omega) (by rw [hj]; simpa using ew) fin hs
  · have hj : (i + (its.toArray.size : Int)).toNat = j := by
      rw [seqIndex_neg (by omega) h4] at h1
      rw [List.size_toArray, ← hl]
      exact Option.some.inj h1
    exact subscriptTail_builtinR (x := w) pl.isList.typeIs slot_list_getitem.lookup
      (wpAny_getItem_list_neg (Q := fun r s' => r = w ∧ EP X pins σ Q r s') pl.isList (by omega) (by rw [List.size_toArray] <;> omega) (by omega) (by rw [hj]; simpa using ew) ⟨rfl, fin⟩) hs
theorem ix_tup : IxR X (rIxT X.K) := by
  intro value slice pins s σ H x y v u Q I rx ry h hs
  obtain ⟨p, xs, i, z, rfl, rfl, hq, he, q⟩ := h
  cases rx
  obtain ⟨t, rfl⟩ := ry
  obtain ⟨its, r, pl, hz⟩ := I.tuple hq
  obtain ⟨j, h1, h2, h3, h4, h5⟩ := atI_get he
  obtain ⟨w, ew, rw'⟩ := r.get h2
  have hl := r.length
  have hn := line63
  have fin : EP X pins σ Q w s := ⟨z, H, I, rw', q⟩
  exact subscriptTail_builtinR (x := w) pl.typeIs slot_tuple_getitem.lookup
    (getItem_tuple (j := j) (Q := fun r s' => r = w ∧ EP X pins σ Q r s') pl (by omega) (by omega) (by rw [List.size_toArray, ← hl]; exact h1) (by simpa using ew) ⟨rfl, fin⟩) hs
theorem mapSeq_set (its : List Value) (n j : Nat) (u : Value) : Obj.mapSeq (·.setIfInBounds j u) { cls := .type "list", data := .seq its.toArray n } = { cls := .type "list", data := .seq (its.set j u).toArray n } := by
  simp [Obj.mapSeq]
theorem Inv.lst {pins : List (Addr × Obj)} {σ : St} {H : Hp} {s : Shared} {p : Addr} {xs : List V} (I : Inv X pins σ H s) (h : H p = some (.lst xs)) :
    ∃ (its : List Value) (n : Nat), Vals xs its ∧ s.heap.get? p = some { cls := .type "list", data := .seq its.toArray n } ∧ xs.length ≤ sizeLine := by
  obtain ⟨z, its, n, r, e⟩ := I.hok p _ h
  exact ⟨its, n, r, e, z⟩
theorem Inv.lstUpd {pins : List (Addr × Obj)} {σ : St} {H : Hp} {s : Shared} {p : Addr} {xs ys : List V} {its its' : List Value} {n n' : Nat} {f : Obj → Obj} (I : Inv X pins σ H s) (h : H p = some (.lst xs))
    (ho : s.heap.get? p = some { cls := .type "list", data := .seq its.toArray n }) (hf : f { cls := .type "list", data := .seq its.toArray n } = { cls := .type "list", data := .seq its'.toArray n' }) (r : Vals ys its') (hz : ys.length ≤ sizeLine) (t : Nat) :
    Inv X pins σ (upd H p (.lst ys)) { s with heap := s.heap.update p f, toks := t } := by
  have e : (s.heap.update p f).get? p = some { cls := .type "list", data := .seq its'.toArray n' } := by
    rw [Heap.get?_update_self f ho (by rw [hf] <;> rfl), hf]
  refine I.write (x := p) (e := p) (by rw [h]; trivial) (.inl rfl) (fun b u hb q => (Heap.get?_update_other _ _ (Ne.symm hb)).trans q) ⟨_, e⟩ ?_
  exact ⟨hz, its', n', r, e⟩
def rSetL : V → V → V → Hp → (Hp → Prop) → Prop := fun o i v H Q => ∃ p xs k j, o = .ref p ∧ i = .int k ∧ H p = some (.lst xs) ∧ ixN xs.length k = some j ∧ Q (upd H p (.lst (xs.set j v)))
theorem set_list : PSet X rSetL := by
  intro pins s σ H o i v ov iv u Q I ro ri rv h
  obtain ⟨p, xs, k, j, rfl, rfl, hp, hj, q⟩ := h
  cases ro
  obtain ⟨t, rfl⟩ := ri
  obtain ⟨its, n, r, ho, hz⟩ := I.lst hp
  obtain ⟨h1, h2, h3, h4⟩ := ixN_seq hj
  have hl := r.length
  have hn := line63
  have I' : Inv X pins σ (upd H p (.lst (xs.set j v))) { s with heap := s.heap.update p (Obj.mapSeq (·.setIfInBounds j u)) } :=
    I.lstUpd hp ho (mapSeq_set its n j u) (r.set rv j) (by rw [List.length_set]; exact hz) s.toks
  by_cases h0 : 0 ≤ k
  · have hk : k.toNat = j := by
      rw [seqIndex_of h0 h4] at h1
      exact Option.some.inj h1
    exact PySem.W.ki_setAt ho h0 (by omega) (by rw [List.size_toArray, ← hl]; exact h4) (by rw [hk]; exact ⟨_, I', q⟩)
  · have hk : (k + (its.toArray.size : Int)).toNat = j := by
      rw [seqIndex_neg (by omega) h3] at h1
      rw [List.size_toArray, ← hl]
      exact Option.some.inj h1
    exact PySem.W.ki_setBack ho (by omega) (by rw [List.size_toArray, ← hl]; exact h3) (by omega) (by rw [hk]; exact ⟨_, I', q⟩)

theorem slice_bounds (lo hi : Option Int) (n : Nat) : (sliceBounds lo hi none n).1 = ((HT.sIx n 0 lo : Nat) : Int) ∧ (sliceBounds lo hi none n).2.1 = ((HT.sIx n n hi : Nat) : Int) ∧ (sliceBounds lo hi none n).2.2 = 1 := by
  refine ⟨?_, ?_, rfl⟩
  · cases lo with
    | none => simp [sliceBounds, HT.sIx]
    | some i =>
      simp only [sliceBounds, HT.sIx, Option.getD_none, show (1 : Int) > 0 by decide, if_true]
      by_cases h : i < 0
      · simp only [h, if_true] <;> omega
      · simp only [h, if_false] <;> omega
  · cases hi with
    | none => simp [sliceBounds, HT.sIx]
    | some i =>
      simp only [sliceBounds, HT.sIx, Option.getD_none, show (1 : Int) > 0 by decide, if_true]
      by_cases h : i < 0
      · simp only [h, if_true] <;> omega
      · simp only [h, if_false] <;> omega
theorem slicePick_cut (its : List Value) (lo hi : Option Int) : slicePick its.toArray lo hi none = ((its.drop (HT.sIx its.length 0 lo)).take (HT.sIx its.length its.length hi - HT.sIx its.length 0 lo)).toArray := by
  obtain ⟨h1, h2, h3⟩ := slice_bounds lo hi its.toArray.size
  unfold slicePick
  rw [h1, h2, h3]
  simp only [sliceRange_one, pick_run, List.size_toArray] <;> rfl
def rSlL (K : PySem.W.Frag) : V → Option Int → Option Int → Hp → VK → Prop := fun x lo hi H Q => ∃ a xs, x = .ref a ∧ SqL K H a xs ∧ ∀ p, H p = none → Q (.ref p) (upd H p (.lst (cutV xs lo hi)))
theorem sl_list : SlR X (rSlL X.K) := by
  intro pins s σ H x v vl vu lo hi sl Q I rx hs pl pu h
  obtain ⟨a, xs, rfl, hx, q⟩ := h
  cases rx
  obtain ⟨its, r, ht, hz⟩ := I.list hx
  have hlen := r.length
  refine ⟨"list", _, slot_list_getitem.lookup, ht.isList.typeIs, ?_⟩
  refine wpAny_getItem_list_slice ht.isList hs pl pu .none (by simp) ?_ (by rw [List.size_toArray] <;> omega)
  rw [slicePick_cut, ← hlen]
  refine ⟨.ref s.heap.objs.size, _, I.laid (t' := s.toks) (o := .lst (cutV xs lo hi)) (fun b ob q => Heap.get?_push_of_some _ q) (Nat.le_refl _) ?_, rfl, q _ (I.hok.fresh (Nat.le_refl _))⟩
  exact ⟨Nat.le_trans (cutV_length xs lo hi) hz, _, 0, (r.drop (HT.sIx xs.length 0 lo)).take (HT.sIx xs.length xs.length hi - HT.sIx xs.length 0 lo), Heap.get?_push_size _ rfl⟩

def flatV : V → Bool
  | .non => true
  | .bl _ => true
  | .int _ => true
  | .str _ => true
  | _ => false
def eqV : V → V → Bool
  | .non, .non => true
  | .bl a, .bl b => a == b
  | .bl a, .int b => (if a then 1 else 0) == b
  | .int a, .bl b => a == (if b then 1 else 0)
  | .int a, .int b => a == b
  | .str a, .str b => a == b
  | _, _ => false
theorem eqAt_V {A : Around} {s : Shared} {y x : V} {u v : Value} (ry : RelV y u) (rx : RelV x v) (fy : flatV y = true) (fx : flatV x = true) : SeqAt.EqAt A s u v (eqV y x) := by
  cases y with
  | non =>
    cases ry
    cases x with
    | non => cases rx; exact SeqAt.EqAt.same _
    | bl b => cases rx; exact SeqAt.EqAt.none_bool b
    | int b => obtain ⟨t, rfl⟩ := rx; exact SeqAt.EqAt.none_int b t
    | str b => obtain ⟨t, rfl⟩ := rx; exact SeqAt.EqAt.none_str b t
    | _ => exact absurd (show false = true from fx) Bool.false_ne_true
  | bl a =>
    cases ry
    cases x with
    | non => cases rx; exact SeqAt.EqAt.bool_none a
    | bl b => cases rx; exact SeqAt.EqAt.bool_bool a b
    | int b => obtain ⟨t, rfl⟩ := rx; exact SeqAt.EqAt.bool_int a b t
    | str b => obtain ⟨t, rfl⟩ := rx; exact SeqAt.EqAt.bool_str a b t
    | _ => exact absurd (show false = true from fx) Bool.false_ne_true
  | int a =>
    obtain ⟨t', rfl⟩ := ry
    cases x with
    | non => cases rx; exact SeqAt.EqAt.int_none a t'
    | bl b => cases rx; exact SeqAt.EqAt.int_bool a t' b
    | int b => obtain ⟨t, rfl⟩ := rx; exact SeqAt.EqAt.int_int a t' b t
    | str b => obtain ⟨t, rfl⟩ := rx; exact SeqAt.EqAt.int_str a t' b t
    | _ => exact absurd (show false = true from fx) Bool.false_ne_true
  | str a =>
    obtain ⟨t', rfl⟩ := ry
    cases x with
    | non => cases rx; exact SeqAt.EqAt.str_none a t'
    | bl b => cases rx; exact SeqAt.EqAt.str_bool a t' b
    | int b => obtain ⟨t, rfl⟩ := rx; exact SeqAt.EqAt.str_int a t' b t
    | str b => obtain ⟨t, rfl⟩ := rx; exact SeqAt.EqAt.str_str a t' b t
    | _ => exact absurd (show false = true from fx) Bool.false_ne_true
  | _ => exact absurd (show false = true from fy) Bool.false_ne_true
def eqU (x : V) (u : Value) : Bool := match u with
  | .none => eqV .non x
  | .bool b => eqV (.bl b) x
  | .int i _ => eqV (.int i) x
  | .str z _ => eqV (.str z) x
  | _ => false
theorem eqU_of {x y : V} {u : Value} (r : RelV y u) (f : flatV y = true) : eqU x u = eqV y x := by
  cases y with
  | non => cases r; rfl
  | bl b => cases r; rfl
  | int i => obtain ⟨t, rfl⟩ := r; rfl
  | str z => obtain ⟨t, rfl⟩ := r; rfl
  | _ => exact absurd (show false = true from f) Bool.false_ne_true
theorem any_eqU {x : V} : ∀ {xs : List V} {us : List Value}, Vals xs us → xs.all flatV = true → us.any (eqU x) = xs.any fun y => eqV y x
  | _, _, .nil, _ => rfl
  | y :: xs, u :: us, .cons r t, f => by
    rw [List.all_cons, Bool.and_eq_true] at f
    rw [List.any_cons, List.any_cons, eqU_of r f.1, any_eqU t f.2]
theorem mem_eqAt {A : Around} {s : Shared} {x : V} {v : Value} (rx : RelV x v) (fx : flatV x = true) : ∀ {xs : List V} {us : List Value}, Vals xs us → xs.all flatV = true → ∀ u ∈ us, SeqAt.EqAt A s u v (eqU x u)
  | _, _, .nil, _ => fun u hu => by cases hu
  | y :: xs, u :: us, .cons r t, f => fun u' hu => by
    rw [List.all_cons, Bool.and_eq_true] at f
    rcases List.mem_cons.mp hu with rfl | hu
    · rw [eqU_of r f.1]; exact eqAt_V r rx f.1 fx
    · exact mem_eqAt rx fx t f.2 u' hu
def inV (x : V) (xs : List V) : Bool := xs.any fun y => eqV y x
def rIn (K : PySem.W.Frag) (neg : Bool) : R2 := fun x y H Q => ∃ p xs, y = .ref p ∧ (SqL K H p xs ∨ SqT K H p xs) ∧ flatV x = true ∧ xs.all flatV = true ∧ Q (.bl (if neg then !inV x xs else inV x xs)) H
theorem op_in_seq : OpR X (compareOp .In) (rIn X.K false) := by
  intro pins s σ H x y v u Q I rx ry h
  obtain ⟨p, xs, rfl, hq, fx, fs, q⟩ := h
  cases ry
  rcases hq with hq | hq
  · obtain ⟨its, r, pl, hz⟩ := I.list hq
    refine SeqAt.in_listAt (eqU x) pl.isList (fun w hw => mem_eqAt rx fx r fs w (by simpa using hw)) ⟨.bl _, H, I, rfl, ?_⟩
    rw [show its.toArray.any (eqU x) = its.any (eqU x) by simp, any_eqU r fs]
    exact q
  · obtain ⟨its, r, pl, hz⟩ := I.tuple hq
    refine SeqAt.in_tupleAt (eqU x) pl (fun w hw => mem_eqAt rx fx r fs w (by simpa using hw)) ⟨.bl _, H, I, rfl, ?_⟩
    rw [show its.toArray.any (eqU x) = its.any (eqU x) by simp, any_eqU r fs]
    exact q
theorem op_notIn_seq : OpR X (compareOp .NotIn) (rIn X.K true) := by
  intro pins s σ H x y v u Q I rx ry h
  obtain ⟨p, xs, rfl, hq, fx, fs, q⟩ := h
  cases ry
  rcases hq with hq | hq
  · obtain ⟨its, r, pl, hz⟩ := I.list hq
    refine SeqAt.notIn_listAt (eqU x) pl.isList (fun w hw => mem_eqAt rx fx r fs w (by simpa using hw)) ⟨.bl _, H, I, rfl, ?_⟩
    rw [show its.toArray.any (eqU x) = its.any (eqU x) by simp, any_eqU r fs]
    exact q
  · obtain ⟨its, r, pl, hz⟩ := I.tuple hq
    refine SeqAt.notIn_tupleAt (eqU x) pl (fun w hw => mem_eqAt rx fx r fs w (by simpa using hw)) ⟨.bl _, H, I, rfl, ?_⟩
    rw [show its.toArray.any (eqU x) = its.any (eqU x) by simp, any_eqU r fs]
    exact q
theorem call_len_seq : CallR X (.builtin "len") (fun xs H Q => ∃ p ys, xs = [.ref p] ∧ (SqL X.K H p ys ∨ SqT X.K H p ys) ∧ Q (.int ys.length) H) := by
  intro pins s σ H xs us Q I r h
  obtain ⟨p, ys, rfl, hq, q⟩ := h
  obtain ⟨u, rfl, rx⟩ := vals1 r
  cases rx
  have hn := line63
  rcases hq with hq | hq
  · obtain ⟨its, r', pl, hz⟩ := I.list hq
    have hlen := r'.length
    exact Calls.call_len_list pl.isList (by simp only [List.size_toArray] <;> omega) ⟨.int ys.length, H, I.tok _, ⟨s.toks + 1, by rw [List.size_toArray, hlen]⟩, q⟩
  · obtain ⟨its, r', pl, hz⟩ := I.tuple hq
    have hlen := r'.length
    exact len_tuple pl (by simp only [List.size_toArray] <;> omega) ⟨.int ys.length, H, I.tok _, ⟨s.toks + 1, by rw [List.size_toArray, hlen]⟩, q⟩
theorem CallR.or {f : Value} {r r' : List V → Hp → VK → Prop} (h : CallR X f r) (h' : CallR X f r') : CallR X f (fun xs H Q => r xs H Q ∨ r' xs H Q) := by
  intro pins s σ H xs us Q I rs q
  rcases q with q | q
  · exact h pins s σ H xs us Q I rs q
  · exact h' pins s σ H xs us Q I rs q
theorem call_list_of : CallR X (.type "list") (fun xs H Q => ∃ p ys, xs = [.ref p] ∧ (SqL X.K H p ys ∨ SqT X.K H p ys) ∧ ∀ l, H l = none → Q (.ref l) (upd H l (.lst ys))) := by
  intro pins s σ H xs us Q I r h
  obtain ⟨p, ys, rfl, hq, q⟩ := h
  obtain ⟨u, rfl, rx⟩ := vals1 r
  cases rx
  have fin : ∀ (its : List Value), Vals ys its → ys.length ≤ sizeLine → ∀ (h' : Heap) (c' : Nat), (∀ b o', s.heap.get? b = some o' → h'.get? b = some o') →
      h'.get? s.heap.objs.size = some { cls := .type "list", dict := none, data := .seq its.toArray c', slots := #[] } → EP X pins σ Q (.ref s.heap.objs.size) { s with heap := h' } := fun its r' hz h' c' kp e =>
    ⟨.ref s.heap.objs.size, _, I.laid (t' := s.toks) kp (Nat.le_refl _) (show ObjOk X.prog X.w _ h' _ (.lst ys) from ⟨hz, its, c', r', e⟩), rfl, q _ (I.hok.fresh (Nat.le_refl _))⟩
  rcases hq with hq | hq
  · obtain ⟨its, r', pl, hz⟩ := I.list hq
    have hlen := r'.length
    obtain ⟨o, ho, hc, n, hd⟩ := pl.isList
    exact call_list_seq p (.inl rfl) ho hc hd (fun h' c' kp e => fin its r' hz h' c' kp e) (by simp only [List.size_toArray] <;> omega)
  · obtain ⟨its, r', pl, hz⟩ := I.tuple hq
    have hlen := r'.length
    obtain ⟨o, ho, hc, n, hd⟩ := pl
    exact call_list_seq p (.inr rfl) ho hc hd (fun h' c' kp e => fin its r' hz h' c' kp e) (by simp only [List.size_toArray] <;> omega)
theorem call_tuple_of : CallR X (.type "tuple") (fun xs H Q => ∃ p ys, xs = [.ref p] ∧ ((SqL X.K H p ys ∧ ∀ l, H l = none → Q (.ref l) (upd H l (.tup ys))) ∨ (SqT X.K H p ys ∧ Q (.ref p) H))) := by
  intro pins s σ H xs us Q I r h
  obtain ⟨p, ys, rfl, h⟩ := h
  obtain ⟨u, rfl, rx⟩ := vals1 r
  cases rx
  rcases h with ⟨hq, q⟩ | ⟨hq, q⟩
  · obtain ⟨its, r', pl, hz⟩ := I.list hq
    have hlen := r'.length
    refine call_tuple_list pl.isList (fun h' kp => ?_) (by simp only [List.size_toArray] <;> omega)
    have I1 : Inv X pins σ H { s with heap := h' } := I.kept (t' := s.toks) kp
    have I2 : Inv X pins σ (upd H h'.objs.size (.tup ys)) { s with heap := h'.push { cls := .type "tuple", data := .seq its.toArray } } :=
      I1.laid (t' := s.toks) (fun b o e => Heap.get?_push_of_some _ e) (Nat.le_refl _) (show ObjOk X.prog X.w _ _ _ (.tup ys) from ⟨hz, its, r', IsTup.new _ _⟩)
    exact ⟨.ref h'.objs.size, _, I2, rfl, q _ (I1.hok.fresh (Nat.le_refl _))⟩
  · obtain ⟨its, r', pl, hz⟩ := I.tuple hq
    exact call_tuple_same pl ⟨.ref p, H, I, rfl, q⟩

def tyV (K : PySem.W.Frag) (T : String) (x : V) (H : Hp) : Prop := match x with
  | .str _ => T = "str"
  | .int _ => T = "int"
  | .ref p => (T = "list" ∧ ∃ xs, SqL K H p xs) ∨ (T = "tuple" ∧ ∃ o, K.lookup p = some o ∧ o.cls = .type "tuple" ∧ o.dict = none) ∨
      (T = "dict" ∧ ((∃ kvs, H p = some (.dK kvs)) ∨ ∃ kvs, H p = some (.dT kvs))) ∨ (T = "set" ∧ ∃ S n, H p = some (.set S n))
  | _ => False
theorem tyV_is {pins : List (Addr × Obj)} {σ : St} {H : Hp} {s : Shared} {T : String} {x : V} {v : Value} (I : Inv X pins σ H s) (r : RelV x v) (ty : tyV X.K T x H) :
    s.TypeIs v T ∧ ∀ a, v = .ref a → ∃ ob, s.heap.get? a = some ob ∧ ob.dict = none := by
  cases x with
  | str z =>
    obtain ⟨t, rfl⟩ := r
    cases (show T = "str" from ty)
    exact ⟨typeIs_str s z t, fun _ e => nomatch e⟩
  | int i =>
    obtain ⟨t, rfl⟩ := r
    cases (show T = "int" from ty)
    exact ⟨typeIs_int s i t, fun _ e => nomatch e⟩
  | ref p =>
    cases r
    rcases ty with ⟨rfl, xs, hq⟩ | ⟨rfl, o, hk, hc, hd⟩ | ⟨rfl, hk⟩ | ⟨rfl, S, n, hk⟩
    · obtain ⟨its, _, pl, _⟩ := I.list hq
      refine ⟨pl.isList.typeIs, fun a e => ?_⟩
      cases e
      obtain ⟨o, n, e, c, hd, _⟩ := pl
      exact ⟨o, e, hd⟩
    · refine ⟨⟨o, I.kIn p o hk, hc⟩, fun a e => ?_⟩
      cases e
      exact ⟨o, I.kIn _ o hk, hd⟩
    · have z : ∃ o, s.heap.get? p = some o ∧ o.ExactDict := by
        rcases hk with ⟨kvs, hk⟩ | ⟨kvs, hk⟩
        · obtain ⟨_, _, _, _, o, _, _, e, ex, _⟩ := I.hok p _ hk
          exact ⟨o, e, ex⟩
        · obtain ⟨_, _, _, _, o, _, _, e, ex, _⟩ := I.hok p _ hk
          exact ⟨o, e, ex⟩
      obtain ⟨o, e, ex⟩ := z
      refine ⟨⟨o, e, ex.1⟩, fun a e2 => ?_⟩
      cases e2
      exact ⟨o, e, ex.2.1⟩
    · obtain ⟨o, _, _, _, e, ex, _⟩ := I.hok p _ hk
      refine ⟨⟨o, e, ex.1⟩, fun a e2 => ?_⟩
      cases e2
      exact ⟨o, e, ex.2.1⟩
  | _ => exact False.elim ty
def tBM0 (K : PySem.W.Frag) (T : String) (r : V → List V → Hp → VK → Prop) (to : TE) : TE := fun σ H Q => to σ H fun x H1 => tyV K T x H1 ∧ r x [] H1 Q
def tBM (K : PySem.W.Frag) (T : String) (r : V → List V → Hp → VK → Prop) (to : TE) (t : TA) : TE := fun σ H Q => to σ H fun x H1 => tyV K T x H1 ∧ t σ H1 fun xs H2 => r x xs H2 Q
variable {o e : Expr} {es : List Expr} {to : TE} {t : TA} {name : Str} {apos cpos : Pos} {T id : String} {r : V → List V → Hp → VK → Prop}
theorem pe_bm0 (pa : PlainAttrs T) (slot : Slot T name id) (hty : typeOf (.builtin id) = pure (.type "method_descriptor")) (hm : MtR X id r) (ho : PE X o to)
    (hbase : attributeBase o name X.env (eval o X.env) = eval o X.env := by rfl) (hline : (apos.endLine == cpos.line) = true := by rfl) : PE X (.Call (.Attribute o name apos) [] [] cpos) (tBM0 X.K T r to) := by
  intro pins s σ H Q I h
  refine wpAny_Call_method0_late hbase hline (thn (ho pins s σ H _ I h) fun v s1 ⟨x, H1, I1, r1, ty, q1⟩ => ?_)
  obtain ⟨h1, h2⟩ := tyV_is I1 r1 ty
  exact ⟨T, id, pa, slot, hty, h1, h2, Calls.callWith_builtin rfl (PySem.evalArgs_none (hm pins s1 σ H1 x [] v [] Q I1 r1 .nil q1))⟩
theorem pe_bm (pa : PlainAttrs T) (slot : Slot T name id) (hty : typeOf (.builtin id) = pure (.type "method_descriptor")) (hm : MtR X id r) (ho : PE X o to) (ha : PA X (e :: es) t)
    (hbase : attributeBase o name X.env (eval o X.env) = eval o X.env := by rfl)
    (hfew : ((backTo cpos (starEach (e :: es) X.env)).all (fun x => !x.1) && (backToKw cpos (keywordEach [] X.env)).all (fun x => x.1.isSome)
      && decide ((e :: es).length + ([] : List Keyword).length + (if ([] : List Keyword).isEmpty then 0 else 1) < 30)) = true := by rfl)
    (hline : (apos.endLine == cpos.line) = true := by rfl) (hs : starEach (e :: es) X.env = (false, eval e X.env) :: starEach es X.env := by rfl) (hplain : (backTo cpos (starEach es X.env)).any (·.1) = false := by rfl) :
    PE X (.Call (.Attribute o name apos) (e :: es) [] cpos) (tBM X.K T r to t) := by
  intro pins s σ H Q I h
  refine wpAny_Call_method_late hbase hfew hline rfl (thn (ho pins s σ H _ I h) fun v s1 ⟨x, H1, I1, r1, ty, q1⟩ => ?_)
  obtain ⟨h1, h2⟩ := tyV_is I1 r1 ty
  refine ⟨T, id, pa, slot, hty, h1, h2, ?_⟩
  have hA := ha cpos pins s1 σ H1 _ I1 q1
  rw [hs] at hA ⊢
  refine Calls.callWith_builtin (by show (false || (backTo cpos (starEach es X.env)).any (·.1)) = false; rw [hplain] <;> rfl) (Calls.evalArgs_plain ?_)
  exact thn hA fun us s2 ⟨vs, H2, I2, r2, q2⟩ => hm pins s2 σ H2 x vs v us Q I2 r1 r2 q2
/- xs.append(e), list.index on a module's tuple .. are MtR facts of 06m -/
end
end L2

namespace L2
open PySem PySem.Spec PyProof.Rows

def MtM (X : Cx) (id : String) (r : V → List V → Hp → VK → Prop) : Prop :=
  ∀ (pins : List (Addr × Obj)) (s : Shared) (σ : St) (H : Hp) (x : V) (xs : List V) (v : Value) (us : List Value) (Q : VK), Inv X pins σ H s → RelV x v → Vals xs us → r x xs H Q →
    wpAny (model X.prog X.w) X.A (call (.builtin id) (v :: us)) (EP X pins σ Q) X.xe s

theorem Vals.one : ∀ {x : V} {us : List Value}, Vals [x] us → ∃ u, us = [u] ∧ RelV x u
  | _, _, .cons r .nil => ⟨_, rfl, r⟩
theorem Vals.two : ∀ {x y : V} {us : List Value}, Vals [x, y] us → ∃ u v, us = [u, v] ∧ RelV x u ∧ RelV y v
  | _, _, _, .cons r (.cons q .nil) => ⟨_, _, rfl, r, q⟩
theorem Vals.zero : ∀ {us : List Value}, Vals [] us → us = []
  | _, .nil => rfl
theorem Vals.dropLast {xs : List V} {us : List Value} (h : Vals xs us) : Vals xs.dropLast us.dropLast := by
  induction h with
  | nil => exact .nil
  | cons r t ih =>
    cases t with
    | nil => exact .nil
    | cons q t' => exact .cons r ih
theorem Vals.eraseIdx : ∀ {xs : List V} {us : List Value} (i : Nat), Vals xs us → Vals (xs.eraseIdx i) (us.eraseIdx i)
  | _, _, _, .nil => .nil
  | _, _, 0, .cons _ t => t
  | _, _, i + 1, .cons r t => .cons r (Vals.eraseIdx i t)
theorem Vals.reverse {xs : List V} {us : List Value} (h : Vals xs us) : Vals xs.reverse us.reverse := by
  induction h with
  | nil => exact .nil
  | cons r t ih => rw [List.reverse_cons, List.reverse_cons]; exact Vals.append ih (.cons r .nil)
theorem erase_last {α : Type} (l : List α) : l.eraseIdx (l.length - 1) = l.dropLast := by
  induction l with
  | nil => rfl
  | cons a r ih =>
    cases r with
    | nil => rfl
    | cons b r =>
      have e : (a :: b :: r).length - 1 = ((b :: r).length - 1) + 1 := by
        have h1 : (a :: b :: r).length = r.length + 2 := rfl
        have h2 : (b :: r).length = r.length + 1 := rfl
        omega
      rw [e, List.eraseIdx_cons_succ, ih]
      all_goals rfl
section
variable {X : Cx} {pins : List (Addr × Obj)} {σ : St} {H : Hp} {s : Shared} {l b : Addr} {xs ys zs : List V}

theorem Inv.lset {its its' : List Value} {n : Nat} {f : Array Value → Array Value} {t' : Nat} (I : Inv X pins σ H s) (hH : H l = some (.lst xs))
    (e : s.heap.get? l = some { cls := .type "list", data := .seq its.toArray n }) (hf : f its.toArray = its'.toArray) (hv : Vals ys its') (hz : ys.length ≤ sizeLine) :
    Inv X pins σ (upd H l (.lst ys)) { s with heap := s.heap.update l (Obj.mapSeq f), toks := t' } := by
  have q := PySem.IsL.update e f
  rw [hf] at q
  refine I.write (x := l) (e := l) (by rw [hH]; exact trivial) (.inl rfl) (fun b' u hb hu => (Heap.get?_update_other s.heap (Obj.mapSeq f) (Ne.symm hb)).trans hu) ⟨_, q⟩ ?_
  exact ⟨hz, its', _, hv, q⟩
theorem Inv.fresh (I : Inv X pins σ H s) : H s.heap.objs.size = none := I.hok.fresh (Nat.le_refl _)
theorem Inv.lstM (I : Inv X pins σ H s) (hH : H l = some (.lst xs)) : xs.length ≤ sizeLine ∧ ∃ (its : List Value) (n : Nat), Vals xs its ∧ xs.length = its.length ∧ s.heap.get? l = some { cls := .type "list", data := .seq its.toArray n } := by
  obtain ⟨z, its, n, r, e⟩ := I.hok l _ hH
  exact ⟨z, its, n, r, r.length, e⟩

end

section
variable {X : Cx}

def rAppend : V → List V → Hp → VK → Prop := fun x vs H Q => ∃ l xs y, x = .ref l ∧ vs = [y] ∧ H l = some (.lst xs) ∧ xs.length < sizeLine ∧ Q .non (upd H l (.lst (xs ++ [y])))
theorem mt_append : MtM X "list.append" rAppend := by
  intro pins s σ H x vs v us Q I rx rv h
  obtain ⟨l, xs, y, rfl, rfl, hH, hz, q⟩ := h
  cases rx
  obtain ⟨u, rfl, ru⟩ := rv.one
  obtain ⟨z, its, n, r, hl, e⟩ := I.lstM hH
  refine call_meets F.slot_list_append ⟨_, e, rfl⟩ F.entry_list_append (F.args_list_append_2 _ _) (PySem.list_append l its.toArray n u (by rw [List.size_toArray]; omega)) ⟨e, ?_⟩
  refine ⟨.non, _, I.lset (its' := its ++ [u]) hH e (by simp) (r.append (.cons ru .nil)) ?_, rfl, q⟩
  rw [List.length_append, List.length_singleton]
  omega

def rPop : V → List V → Hp → VK → Prop := fun x vs H Q => ∃ l xs y, x = .ref l ∧ vs = [] ∧ H l = some (.lst xs) ∧ xs[xs.length - 1]? = some y ∧ Q y (upd H l (.lst xs.dropLast))
theorem mt_pop : MtM X "list.pop" rPop := by
  intro pins s σ H x vs v us Q I rx rv h
  obtain ⟨l, xs, y, rfl, rfl, hH, hy, q⟩ := h
  cases rx
  have hus := rv.zero
  subst hus
  obtain ⟨z, its, n, r, hl, e⟩ := I.lstM hH
  obtain ⟨u, hu, ru⟩ := r.get hy
  have hy' : its.toArray[its.toArray.size - 1]? = some u := by
    show its.toArray[its.length - 1]? = some u
    rw [← Array.getElem?_toList, ← hl]
    exact hu
  refine call_meets F.slot_list_pop ⟨_, e, rfl⟩ F.entry_list_pop (F.args_list_pop_1 _) (MeetsSeq.list_pop_last l its.toArray n u hy' (by rw [List.size_toArray]; omega)) ⟨e, ?_⟩
  refine ⟨y, _, I.lset (its' := its.dropLast) hH e ?_ r.dropLast ?_, ru, q⟩
  · show its.toArray.eraseIdxIfInBounds (its.toArray.size - 1) = its.dropLast.toArray
    rw [List.size_toArray, List.eraseIdxIfInBounds_toArray, erase_last]
  · rw [List.length_dropLast]
    omega

def rClear : V → List V → Hp → VK → Prop := fun x vs H Q => ∃ l xs, x = .ref l ∧ vs = [] ∧ H l = some (.lst xs) ∧ Q .non (upd H l (.lst []))
theorem mt_clear : MtM X "list.clear" rClear := by
  intro pins s σ H x vs v us Q I rx rv h
  obtain ⟨l, xs, rfl, rfl, hH, q⟩ := h
  cases rx
  have hus := rv.zero
  subst hus
  obtain ⟨z, its, n, r, hl, e⟩ := I.lstM hH
  refine call_meets F.slot_list_clear ⟨_, e, rfl⟩ F.entry_list_clear (F.args_list_clear_1 _) (AutoSeq1.list_clear_list_0 l its.toArray n (by rw [List.size_toArray]; omega)) ⟨e, ?_⟩
  exact ⟨.non, _, I.lset (its' := []) (ys := []) hH e rfl .nil (Nat.zero_le _), rfl, q⟩

end

section
variable {prog : Program} {w : World} {A : Around} {E : Value → Shared → Prop} {s : Shared}
end

section
variable {X : Cx}
end
end L2

namespace Att
open PySem PySem.W PySem.Calls PyProof.Rows

theorem ints_of_wellAll {P : Params} {h : Heap} : ∀ (ns : List Int) (vs : List Value), WellAll P h vs (ns.map WData.int) → IntsAre vs ns := by
  intro ns
  induction ns with
  | nil =>
    intro vs w
    rw [List.map_nil] at w
    cases w
    exact .nil
  | cons n ns ih =>
    intro vs w
    rw [List.map_cons] at w
    cases w with
    | cons a b =>
      cases a
      exact .cons _ _ (ih _ b)

theorem script_of {l : OpenLaw} {n : Nat} (hn : l.most = some n) {P : Params} {h : Heap} {args : List WData} {vals : List Value}
    (hpre : l.row.toRowW.claim.pre args = true) (hwl : WellAll P h vals args) :
    ∃ a vs ns, vals = [Value.ref a] ∧ args = [WData.list (ns.map WData.int)] ∧ h.get? a = some { cls := .type "list", data := .seq vs.toArray } ∧ IntsAre vs ns ∧ ns.length ≤ n := by
  have hsh : WShape.hasAll [] args [.list .int] = true := (pre_splitW hpre).1
  have hc : l.pre.holds [] { args := args } = true := (pre_splitW hpre).2
  obtain ⟨d, r, rfl, h1, h2⟩ := hasAllW_cons hsh
  obtain rfl := hasAllW_nil h2
  obtain ⟨xs, rfl, h3⟩ := hasW_list h1
  obtain ⟨ns, rfl⟩ := items_int h3
  have hlen : ns.length ≤ n := by
    unfold OpenLaw.pre at hc
    have h4 : (WTm.not (.lt (.lit (.int (n : Int))) (.len (.arg 0)))).holds [] { args := [.list (ns.map .int)] } = true := by
      have h4 := (holds_andW hc).1
      rw [hn] at h4
      exact h4
    have h5 := condW_of h4 (w_not (w_lt w_lit (w_len_list (w_arg rfl))))
    rw [List.length_map] at h5
    refine Nat.le_of_not_lt fun q => ?_
    have q' : (n : Int) < ((ns.length : Nat) : Int) := by omega
    first
      | (rw [decide_eq_true q'] at h5; exact absurd h5 (by decide))
      | (simp at h5; omega)
  cases hwl with
  | cons w1 w2 =>
    cases w2
    cases w1 with
    | list ho hall => exact ⟨_, _, ns, rfl, rfl, ho, ints_of_wellAll ns _ hall, hlen⟩

theorem post_true (l : OpenLaw) (args : List WData) : l.row.toRowW.claim.post args (.bool true) args = true :=
  postW_of (r := l.row.toRowW) (X := (true == true))
    (show WShape.has [] (.bool true) .bool = true by first | rfl | decide | simp [WShape.has, WShape.arms, WShape.armsAll])
    (show (WTm.eq .res (.lit (.bool true))).value [] { args := args, res := some (.bool true), after := args } = some (.bool (true == true)) from w_eq_bool (w_res rfl) w_lit) rfl

theorem attach_call {l : OpenLaw} {n : Nat} {q : Program} {loose : List Str} {XP : (Str → Option Value) → Heap → Prop} {YP : World → Heap → Prop} {d : DefRec}
    (hn : l.most = some n) (hdf : d.params.defaults = [])
    (call : ∀ (w : World) (s₀ s₁ : Shared) (mg mb : Str → Option Value) (fa : Addr) (o : Obj) (pm cd doc : Value) (a : Addr) (vs : List Value) (ns : List Int),
      Ground q loose [] XP w s₀ mg mb s₁.heap → YP w s₁.heap →
      s₁.heap.get? fa = some o → o.data = .func (docDef d.name d.params d.body d.scope pm cd doc) → s₁.heap.CodeRec cd d.name → mg d.name = some (.ref fa) →
      s₁.heap.get? a = some { cls := .type "list", data := .seq vs.toArray } → IntsAre vs ns → ns.length ≤ n → s₁.gens = #[] →
      codeAny (model l.prog w) callerA (.call (.ref fa) ⟨[.ref a], []⟩) (fun r s' => r = .ok (.ret (.bool true)) ∧ OldK s₁.heap s'.heap ∧ s'.os = s₁.os ∧ AllBare s'.gens) s₁) :
    WalkO q loose XP YP l.row.toRowW d [] (fun f vs => PySem.call f vs) := by
  intro w s₀ s₁ mg mb G Y fa o pm cd doc dV kV ho hd hcd hD hmg hg args vals as hpre hlay hrd hwl hlo
  obtain rfl : dV = .none := Dflts.none hD hdf
  obtain rfl : kV = .none := Dflts.noKw hD
  obtain ⟨a, vs, ns, rfl, rfl, hobj, hints, hlen⟩ := script_of hn hpre hwl
  refine enter_call (codeAny_mono (call w s₀ s₁ mg mb fa o pm cd doc a vs ns G Y ho (fd_plain hd) hcd hmg hobj hints hlen hg) fun r s' hq => ?_)
  obtain ⟨rfl, h2, h3, h4⟩ := hq
  exact ⟨.inl ⟨.bool true, .bool true, [], rfl, fun _ => rfl, .bool true, post_true l _, fun _ => ⟨List.Pairwise.nil, fun _ hm => (nomatch hm)⟩⟩, h2, h3, h4⟩

section
variable {prog : Program} {w : World} {A : Around} {E : Value → Shared → Prop} {s : Shared} {K : Frag}

def ledger (h : Heap) (L d : Addr) : List (Addr × Obj) := (List.range h.objs.size).filterMap fun a => if a = L ∨ a = d then none else (h.get? a).map fun o => (a, o)
end
end Att

namespace L2
open PySem PySem.Spec PyProof.Rows

theorem vals_ints : ∀ {vs : List Value} {ns : List Int}, IntsAre vs ns → Vals (ns.map V.int) vs
  | _, _, .nil => .nil
  | _, _, .cons n t h => .cons ⟨t, rfl⟩ (vals_ints h)

end L2

namespace L2
open PySem PySem.Spec PyProof.Rows

end L2


namespace L2
open PySem PySem.Spec PyProof.Rows

def inClass (s : Stmt) (j : Nat) : Stmt := match s with
  | .ClassDef _ _ _ body _ _ _ _ _ _ _ => body.getD j (.Pass ⟨0, 0, 0, 0⟩)
  | _ => .Pass ⟨0, 0, 0, 0⟩
def defArgs (s : Stmt) : Arguments := match s with
  | .FunctionDef _ a _ _ _ _ _ _ _ _ => a
  | _ => { posonlyargs := [], args := [], vararg := none, kwonlyargs := [], kw_defaults := [], kwarg := none, defaults := [] }
def defBody (s : Stmt) : List Stmt := match s with
  | .FunctionDef _ _ b _ _ _ _ _ _ _ => b
  | _ => []
def defScope (s : Stmt) : Scope := match s with
  | .FunctionDef _ _ _ _ _ _ sc _ _ _ => sc
  | _ => { kind := .function, names := [], isGenerator := false, isCoroutine := false }

abbrev CX0 : CXT := fun _ _ _ _ _ _ => False
abbrev E0 : XK := fun _ _ _ => False
theorem pass0 {X : Cx} : Passes CX0 X E0 := fun _ _ _ _ _ _ _ h => h.elim

structure Fun (K : PySem.W.Frag) (x qual : Str) (st : Stmt) (f : Addr) (fd : FuncData) : Prop where
  ex : ∃ (oc : Value) (od : Option Addr) (kV doc pm : Value) (an : Option Addr) (cdv ct : Value) (osl : Array (Option Value)),
    fd = PySem.W.fnOf x qual (defArgs st) (defBody st) (defScope st) .none kV doc pm an cdv ct ∧ K.lookup f = some ⟨oc, od, .func fd, osl⟩ ∧ PySem.W.codeIn K cdv qual = true
  kp : PySem.W.keepIn K (.ref f) = true
section
variable {P : Program} {w : World} {K : PySem.W.Frag} {mg : Str → Option Value} {base : Heap}
theorem Fun.ok {x qual : Str} {st : Stmt} {f : Addr} {fd : FuncData} {N ps : List Str} {k : Nat} {sp : Sp} (F : Fun K x qual st f fd) (S : FnScope N ps (defScope st)) (len : ∀ vs H Q E, sp vs H Q E → vs.length = ps.length)
    (hbody : ∀ (cdv : Value) (A : Around) (outer : List Env) (s : Shared) (H : Hp) (vs : List V) (Q : VK) (E : XK), Room k (A.deeper (envOfC qual (defScope st) s.heap.objs.size f cdv)) → sp vs H Q E →
      ∃ t, PSs (cxOf CX0 P w K mg base N qual (defScope st) f cdv A outer s H E).nox (defBody st) t ∧ t { nx := fun _ H' => Q .non H', rt := Q } (start N vs) H) : FnOk P w K mg base CX0 (k + 1) f fd ps sp := by
  obtain ⟨oc, od, kV, doc, pm, an, cdv, ct, osl, rfl, lk, hcd⟩ := F.ex
  refine fn_of lk hcd S len fun A outer s H vs Q E hr hsp => ?_
  obtain ⟨t, h, q⟩ := hbody cdv A outer s H vs Q E hr hsp
  exact ⟨t, h.nox, q⟩
theorem Fun.binds {x qual : Str} {st : Stmt} {f : Addr} {fd : FuncData} {ps : List Str} (F : Fun K x qual st f fd)
    (h : ∀ (kV doc pm : Value) (an : Option Addr) (cdv ct : Value) (us : List Value), us.length = ps.length → bindArgs (PySem.W.fnOf x qual (defArgs st) (defBody st) (defScope st) .none kV doc pm an cdv ct) ⟨us, []⟩ = pure (ps.zip us)) : Binds K fd ps [] := by
  obtain ⟨oc, od, kV, doc, pm, an, cdv, ct, osl, rfl, lk, hcd⟩ := F.ex
  exact .all (h kV doc pm an cdv ct)
end
section
variable {X : Cx}
theorem pv (i : Nat) {x : Str} {pos : Pos} (hN : X.N[i]? = some x := by rfl) (hv : Vis X.env.scope x := by first | exact Or.inl rfl | exact Or.inr (Or.inl rfl) | exact Or.inr (Or.inr rfl)) (hd : (x == ("__debug__" : Str)) = false := by decide)
    (hcd : (x == ("__classdict__" : Str)) = false := by decide) : PE X (.Name x pos) (tVar i) := pe_var hN hv hd hcd
end

theorem iteF {A B : Prop} (h : B) : if false = true then A else B := by
  rw [if_neg Bool.false_ne_true]
  exact h
theorem iteT {A B : Prop} (h : A) : if true = true then A else B := by
  rw [if_pos rfl]
  exact h
theorem ite2 {c A B : Prop} [Decidable c] (h1 : c → A) (h2 : ¬ c → B) : if c then A else B := by
  by_cases h : c
  · rw [if_pos h]
    exact h1 h
  · rw [if_neg h]
    exact h2 h
def Same (H H' : Hp) : Prop := ∀ b o, H b = some o → H' b = some o
theorem Same.refl (H : Hp) : Same H H := fun _ _ h => h
theorem Same.trans {H H1 H2 : Hp} (a : Same H H1) (b : Same H1 H2) : Same H H2 := fun c o h => b c o (a c o h)
theorem Same.free {H H' : Hp} (e : Same H H') {l : Addr} (h : H' l = Option.none) : H l = Option.none := by
  cases q : H l with
  | none => rfl
  | some o =>
    rw [e l o q] at h
    cases h
theorem Same.seq {K : PySem.W.Frag} {H H' : Hp} {a : Addr} {xs : List V} (e : Same H H') (h : SqL K H a xs) : SqL K H' a xs := by
  rcases h with (h | ⟨o, h⟩) | h
  · exact .inl (.inl (e _ _ h))
  · exact .inl (.inr ⟨o, e _ _ h⟩)
  · exact .inr h

section
variable {κ : Type} [DecidableEq κ]
end
end L2

set_option Elab.async false
set_option linter.all false
set_option maxRecDepth 100000
namespace L2
open PySem PySem.Spec PyProof.Rows

abbrev Kn := List (Addr × HO)
structure Has (H : Hp) (L : Kn) : Prop where
  nd : (L.map (·.1)).Nodup
  at_ : ∀ x ∈ L, H x.1 = some x.2
namespace Has
variable {H H' : Hp} {L L' X Y R : Kn} {a p : Addr} {o o' : HO} {x y : Addr × HO}
theorem nil : Has H [] := ⟨List.nodup_nil, fun _ h => nomatch h⟩
theorem get (h : Has H L) (i : Nat) (e : L[i]? = some (a, o)) : H a = some o := h.at_ (a, o) (List.mem_of_getElem? e)
theorem alloc (h : Has H L) (hp : H p = none) (o : HO) : Has (upd H p o) ((p, o) :: L) := by
  have ne : ∀ x ∈ L, x.1 ≠ p := fun x hx e => by
    have := h.at_ x hx
    rw [e, hp] at this; cases this
  refine ⟨?_, fun x hx => ?_⟩
  · rw [List.map_cons, List.nodup_cons]
    refine ⟨fun m => ?_, h.nd⟩
    obtain ⟨x, hx, e⟩ := List.mem_map.mp m
    exact ne x hx e
  · rcases List.mem_cons.mp hx with rfl | hx
    · exact upd_same
    · rw [upd_ne (ne x hx)]; exact h.at_ x hx
theorem same (h : Has H L) (s : Same H H') : Has H' L := ⟨h.nd, fun x hx => s _ _ (h.at_ x hx)⟩
theorem sub (h : Has H L) (s : L'.Sublist L) : Has H L' := ⟨h.nd.sublist (s.map _), fun x hx => h.at_ x (s.subset hx)⟩
theorem perm (h : Has H L) (s : L.Perm L') : Has H L' := ⟨(s.map _).nodup_iff.mp h.nd, fun x hx => h.at_ x (s.mem_iff.mpr hx)⟩
theorem tail (h : Has H (x :: L)) : Has H L := h.sub (List.sublist_cons_self _ _)
theorem right (h : Has H (X ++ R)) : Has H R := h.sub (List.sublist_append_right _ _)
theorem left (h : Has H (X ++ R)) : Has H X := h.sub (List.sublist_append_left _ _)
theorem swap2 (h : Has H (x :: y :: L)) : Has H (y :: x :: L) := h.perm (List.Perm.swap _ _ _)
theorem comm (h : Has H (X ++ (Y ++ R))) : Has H (Y ++ (X ++ R)) := h.perm (by rw [← List.append_assoc, ← List.append_assoc]; exact List.perm_append_comm.append_right R)
theorem inn (h : Has H (x :: (Y ++ R))) : Has H (Y ++ (x :: R)) := h.perm List.perm_middle.symm
theorem out (h : Has H (Y ++ (x :: R))) : Has H (x :: (Y ++ R)) := h.perm List.perm_middle
theorem ne2 (h : Has H ((a, o) :: R)) {b : Addr} (m : b ∈ R.map (·.1)) : b ≠ a := fun e => by
  have := List.nodup_cons.mp (show ((a :: R.map (·.1)).Nodup) from h.nd)
  exact this.1 (e ▸ m)
theorem put (h : Has H ((a, o) :: R)) (o' : HO) : Has (upd H a o') ((a, o') :: R) := by
  refine ⟨h.nd, fun x hx => ?_⟩
  rcases List.mem_cons.mp hx with rfl | hx
  · exact upd_same
  · rw [upd_ne (h.ne2 (List.mem_map_of_mem hx))]; exact h.at_ x (List.mem_cons_of_mem _ hx)
theorem map_set_fst : ∀ (L : Kn) (i : Nat), L[i]? = some (a, o) → (L.set i (a, o')).map (·.1) = L.map (·.1)
  | [], i, e => by simp at e
  | x :: L, 0, e => by simp at e; subst e; rfl
  | x :: L, i + 1, e => by
    simp only [List.set_cons_succ, List.map_cons]
    rw [map_set_fst L i (by simpa using e)]
theorem puti (h : Has H L) (i : Nat) (e : L[i]? = some (a, o)) (o' : HO) : Has (upd H a o') (L.set i (a, o')) := by
  have hi : i < L.length := (List.getElem?_eq_some_iff.mp e).1
  refine ⟨by rw [map_set_fst (o' := o') L i e]; exact h.nd, fun x hx => ?_⟩
  obtain ⟨j, hj⟩ := List.getElem?_of_mem hx
  by_cases hij : j = i
  · subst hij
    rw [List.getElem?_set_self hi] at hj
    cases hj
    exact upd_same
  · rw [List.getElem?_set_ne (Ne.symm hij)] at hj
    have hx' : x ∈ L := List.mem_of_getElem? hj
    have : x.1 ≠ a := fun z => by
      have e1 : (L.map (·.1))[i]? = some a := by rw [List.getElem?_map, e]; rfl
      have e2 : (L.map (·.1))[j]? = some a := by rw [List.getElem?_map, hj, ← z]; rfl
      obtain ⟨l1, q1⟩ := List.getElem?_eq_some_iff.mp e1
      obtain ⟨l2, q2⟩ := List.getElem?_eq_some_iff.mp e2
      exact hij ((List.getElem_inj h.nd).mp (q2.trans q1.symm))
    rw [upd_ne this]
    exact h.at_ x hx'
theorem ne (h : Has H L) (i j : Nat) {b : Addr} {u : HO} (e : L[i]? = some (a, o)) (e' : L[j]? = some (b, u)) (hij : i ≠ j) : a ≠ b := fun z => by
  have e1 : (L.map (·.1))[i]? = some a := by rw [List.getElem?_map, e]; rfl
  have e2 : (L.map (·.1))[j]? = some a := by rw [List.getElem?_map, e', ← z]; rfl
  obtain ⟨l1, q1⟩ := List.getElem?_eq_some_iff.mp e1
  obtain ⟨l2, q2⟩ := List.getElem?_eq_some_iff.mp e2
  exact hij ((List.getElem_inj h.nd).mp (q1.trans q2.symm))
end Has

section
variable {X : Cx}
end
end L2
namespace L2
open PySem PySem.Spec PyProof.Rows
theorem SqL.alloc {K : PySem.W.Frag} {H : Hp} {a p : Addr} {xs : List V} {o : HO} (h : SqL K H a xs) (hp : H p = none) : SqL K (upd H p o) a xs :=
  Same.seq (fun b u e => by rw [upd_ne (ne_of_none e hp)]; exact e) h
theorem cut_take (xs : List V) (n : Int) (h0 : 0 ≤ n) : cutV xs none (some n) = xs.take n.toNat := by
  show ((xs.drop 0).take ((if n < 0 then (n + (xs.length : Int)).toNat else min n.toNat xs.length) - 0)) = _
  rw [if_neg (by omega), List.drop_zero, Nat.sub_zero]
  by_cases hl : n.toNat ≤ xs.length
  · rw [Nat.min_eq_left hl]
  · rw [Nat.min_eq_right (by omega), List.take_of_length_le (Nat.le_refl _), List.take_of_length_le (by omega)]
end L2
namespace L2
open PySem PySem.Spec PyProof.Rows
theorem sizeOk {n : Nat} (h : n ≤ 1000000) : n < sizeLine := Nat.lt_of_le_of_lt h (by decide)
theorem sizeOk' {n : Nat} (h : n ≤ 1000000) : n ≤ sizeLine := Nat.le_of_lt (sizeOk h)
end L2
namespace L2
theorem ifF {b : Bool} {A B : Prop} (e : b = false) (h : B) : if b = true then A else B := by subst e; exact iteF h
theorem ifT {b : Bool} {A B : Prop} (e : b = true) (h : A) : if b = true then A else B := by subst e; exact iteT h
theorem if2 {b : Bool} {A B : Prop} (h1 : b = true → A) (h2 : b = false → B) : if b = true then A else B := by
  cases b
  · exact iteF (h2 rfl)
  · exact iteT (h1 rfl)
theorem ifd {c : Prop} [Decidable c] {A B : Prop} (h1 : c → A) (h2 : ¬ c → B) : if decide c = true then A else B := by
  by_cases h : c
  · exact ifT (decide_eq_true h) (h1 h)
  · exact ifF (decide_eq_false h) (h2 h)
theorem ifdn {c : Prop} [Decidable c] {A B : Prop} (h1 : ¬ c → A) (h2 : c → B) : if (!decide c) = true then A else B := by
  by_cases h : c
  · exact ifF (by simp [h]) (h2 h)
  · exact ifT (by simp [h]) (h1 h)
end L2

set_option Elab.async false
set_option linter.all false
set_option maxRecDepth 100000
namespace L2
open PySem PySem.Spec PyProof.Rows

def clOf (cells : List (Str × Addr)) : List (Str × NameKind) → List (Str × Addr) → List (Str × Addr)
  | [], acc => acc
  | (n, k) :: r, acc => if k == .free then clOf cells r ((n, (cells.lookup n).getD 0) :: acc) else clOf cells r acc
theorem closure_eq (scope : Scope) (env : Env) (h : ∀ y ∈ scope.names, y.2 = .free → ∃ c, env.cells.lookup y.1 = some c) : closureFor scope env = pure (clOf env.cells scope.names []) := by
  unfold closureFor
  have all : ∀ (l : List (Str × NameKind)) (acc : List (Str × Addr)), (∀ y ∈ l, y.2 = .free → ∃ c, env.cells.lookup y.1 = some c) →
      (forIn l acc fun x r => match x with
        | (name, kind) => if (kind == .free) = true then do let a ← cellOf env name; pure (ForInStep.yield ((name, a) :: r)) else pure (ForInStep.yield r)) = (pure (clOf env.cells l acc) : Sem _) := by
    intro l
    induction l with
    | nil => intro acc _; rfl
    | cons y l ih =>
      obtain ⟨n, k⟩ := y
      intro acc hl
      rw [List.forIn_cons]
      by_cases hk : (k == NameKind.free) = true
      · obtain ⟨c, hc⟩ := hl (n, k) List.mem_cons_self (by simpa using hk)
        have e : cellOf env n = pure c := by unfold cellOf; rw [hc]
        simp only [hk, if_true, e, pure_bind, clOf, hc, Option.getD_some]
        exact ih _ fun y hy => hl y (List.mem_cons_of_mem _ hy)
      · simp only [hk, if_false, pure_bind, clOf]
        exact ih _ fun y hy => hl y (List.mem_cons_of_mem _ hy)
  have := all scope.names [] h
  simp only [this, pure_bind]
theorem clOf_sub {cells : List (Str × Addr)} {x : Str} {c : Addr} : ∀ (l : List (Str × NameKind)) (acc : List (Str × Addr)), (∀ y ∈ l, y.2 = .free → ∃ c, cells.lookup y.1 = some c) →
    (∀ y d, acc.lookup y = some d → cells.lookup y = some d) → (clOf cells l acc).lookup x = some c → cells.lookup x = some c
  | [], acc, _, ha, h => ha x c h
  | (n, k) :: r, acc, hl, ha, h => by
    unfold clOf at h
    split at h
    · rename_i hk
      obtain ⟨d, hd⟩ := hl (n, k) List.mem_cons_self (by simpa using hk)
      refine clOf_sub r _ (fun y hy => hl y (List.mem_cons_of_mem _ hy)) (fun y e he => ?_) h
      rw [List.lookup_cons] at he
      split at he
      · rename_i hyn
        have : y = n := by simpa using hyn
        subst this
        cases he
        rw [hd]; rfl
      · exact ha y e he
    · exact clOf_sub r _ (fun y hy => hl y (List.mem_cons_of_mem _ hy)) ha h
theorem clOf_acc {cells : List (Str × Addr)} {x : Str} : ∀ (l : List (Str × NameKind)) (acc : List (Str × Addr)), (∃ c, acc.lookup x = some c) → ∃ c, (clOf cells l acc).lookup x = some c
  | [], acc, h => h
  | (n, k) :: r, acc, h => by
    unfold clOf
    split
    · refine clOf_acc r _ ?_
      rw [List.lookup_cons]
      split
      · exact ⟨_, rfl⟩
      · exact h
    · exact clOf_acc r _ h
theorem clOf_has {cells : List (Str × Addr)} {x : Str} : ∀ (l : List (Str × NameKind)) (acc : List (Str × Addr)), (x, NameKind.free) ∈ l → ∃ c, (clOf cells l acc).lookup x = some c
  | [], _, h => nomatch h
  | (n, k) :: r, acc, h => by
    unfold clOf
    rcases List.mem_cons.mp h with e | h
    · cases e
      rw [if_pos (by rfl)]
      exact clOf_acc r _ ⟨(cells.lookup x).getD 0, by rw [List.lookup_cons]; simp⟩
    · split
      · exact clOf_has r _ h
      · exact clOf_has r _ h
theorem relabel_cf {env : Env} {x : Str} : ∀ (l : List (Str × NameKind)), (∀ y ∈ l, y.2 ≠ .cell) →
    ((l.map fun (n, k) => if (k == NameKind.free && env.scope.kind == .function && env.kindOf n == some .cell) then (n, NameKind.cell) else (n, k)).lookup x = some .cell ∨
     (l.map fun (n, k) => if (k == NameKind.free && env.scope.kind == .function && env.kindOf n == some .cell) then (n, NameKind.cell) else (n, k)).lookup x = some .free) → (x, NameKind.free) ∈ l
  | [], _, h => by simp at h
  | (n, k) :: r, hl, h => by
    have ih := relabel_cf (env := env) (x := x) r fun y hy => hl y (List.mem_cons_of_mem _ hy)
    by_cases hc : (k == NameKind.free && env.scope.kind == .function && env.kindOf n == some .cell) = true
    · have hkf : k = .free := by
        rw [Bool.and_eq_true, Bool.and_eq_true] at hc
        simpa using hc.1.1
      subst hkf
      simp only [List.map_cons, hc, if_true, List.lookup_cons] at h
      cases hx : x == n with
      | true =>
        have : x = n := by simpa using hx
        subst this
        exact List.mem_cons_self
      | false =>
        simp only [hx] at h
        exact List.mem_cons_of_mem _ (ih h)
    · simp only [List.map_cons, if_neg hc, List.lookup_cons] at h
      cases hx : x == n with
      | true =>
        have : x = n := by simpa using hx
        subst this
        simp only [hx] at h
        rcases h with h | h
        · cases h
          exact absurd rfl (hl (x, .cell) List.mem_cons_self)
        · cases h
          exact List.mem_cons_self
      | false =>
        simp only [hx] at h
        exact List.mem_cons_of_mem _ (ih h)

def PTs (X : Cx) (ifs : List Expr) (t : TT) : Prop :=
  ∀ (pins : List (Addr × Obj)) (s : Shared) (σ : St) (H : Hp) (Q : Bool → Hp → Prop), Inv X pins σ H s → t σ H Q →
    wpAny (model X.prog X.w) X.A (forIn ifs true fun c r => if r = true then do let ok ← isTrue c X.env (eval c X.env); pure (ForInStep.yield ok) else pure (ForInStep.yield r)) (TP X pins σ Q) X.xe s
def tTrue : TT := fun _ H Q => Q true H
theorem pts_nil {X : Cx} : PTs X [] tTrue := fun _ _ _ H _ I h => wpAny_tests_nil ⟨H, I, h⟩
theorem pts_one {X : Cx} {c : Expr} {t : TT} (h : PT X c t) : PTs X [c] t := fun pins s σ H Q I q => wpAny_tests_one (h pins s σ H Q I q)

theorem compLoop_go {prog : Program} {w : World} {A : Around} {R : Result → Shared → Prop} {s : Shared} {elt target iter : Expr} {ifs : List Expr} {scope : Scope} {pos : Pos} {it acc : Value} {env : Env} (I : Nat → Shared → Prop)
    (turn : ∀ n s, I n s → wpAny (model prog w) A (pyNext it) (fun r s₁ => match r with
      | none => R (.ok .next) s₁
      | some v => wpAny (model prog w) A (letOwnedTupleGo target it v) (fun _ s₀ => wpAny (model prog w) A (assign target env v) (fun _ s₂ =>
          wpAny (model prog w) A (forIn ifs true fun c r => if r = true then do let ok ← isTrue c env (eval c env); pure (ForInStep.yield ok) else pure (ForInStep.yield r)) (fun ok s₃ =>
            if ok = true then wpAny (model prog w) A (eval elt env) (fun x s₄ =>
              wpAny (model prog w) A (call (.builtin "list.append") [acc, x]) (fun _ s₅ => ∃ m, m < n ∧ I m s₅) (fun _ _ => False) s₄) (fun _ _ => False) s₃
            else ∃ m, m < n ∧ I m s₃) (fun _ _ => False) s₂) (fun _ _ => False) s₀) (fun _ _ => False) s₁) (fun _ _ => False) s)
    (n : Nat) (h : I n s) :
    codeAny (model prog w) A (.compLoop (.ListComp elt [⟨target, iter, ifs, 0⟩] scope pos) 0 it acc env) R s := by
  have no : ∀ {α : Type} {t : Sem α} {Q : α → Shared → Prop} {s : Shared} {E : Value → Shared → Prop}, wpAny (model prog w) A t Q (fun _ _ => False) s → wpAny (model prog w) A t Q E s := fun h => wpAny_mono h (fun _ _ q => q) fun _ _ z => False.elim z
  refine codeAny_loop rfl I (fun n s hI => ?_) n h
  show wpAny _ A ((compTurn (.ListComp elt [⟨target, iter, ifs, 0⟩] scope pos) 0 it acc env).onRaise (fun x => do noteFrame x env; theTreesLotGoes x)) _ _ s
  refine wpAny_noted ?_
  rw [compTurn_list]
  refine wpAny_bind (wpAny_standAt (wpAny_bind (wpAny_mono (no (turn n s hI)) (fun r s₁ h₁ => ?_) fun _ _ h' => h')))
  cases r with
  | none => exact wpAny_pure h₁
  | some v =>
    refine wpAny_bind (wpAny_mono (no h₁) (fun _ s₀ h₀ => ?_) fun _ _ h' => h')
    refine wpAny_bind (wpAny_mono (no h₀) (fun _ s₂ h₂ => wpAny_bind (wpAny_mono (no h₂) (fun ok s₃ h₃ => ?_) fun _ _ h' => h')) fun _ _ h' => h')
    cases ok with
    | false => exact wpAny_pure ⟨rfl, h₃⟩
    | true =>
      exact wpAny_bind (wpAny_bind (wpAny_mono (no h₃) (fun x s₄ h₄ => wpAny_bind (wpAny_mono (no h₄) (fun _ s₅ h₅ => wpAny_pure (wpAny_pure ⟨rfl, h₅⟩)) fun _ _ h' => h')) fun _ _ h' => h'))
end L2

set_option Elab.async false
set_option linter.all false
set_option maxRecDepth 100000
namespace L2
open PySem PySem.Spec PyProof.Rows

abbrev blk (X : Cx) (scope : Scope) (N' : List Str) (C : Addr) (s₀ : Shared) (H₀ : Hp) (fp : List Addr) (pins : List (Addr × Obj)) : Cx :=
  { X with N := N', s₀ := s₀, H₀ := H₀, env := compEnvC scope (clOf X.env.cells scope.names []) C X.env, outer := X.stack, stack := X.stack, ex := fp, fn := fun _ => false, pn := X.pn ++ pins, xe := fun _ _ => False }

def tLC (wi : TI) (k : Nat) (g : TG) (tc : TT) (te : TE) : TE := fun σ H Q => wi σ H fun J H1 => ∀ D, H1 D = none → ∃ W : Nat → Nat → List V → Hp → Prop, (∃ m, W 0 m [] (upd H1 D (.lst []))) ∧ ∀ i m ys H, W i m ys H → H D = some (.lst ys) ∧
  ((J.stop i H ∧ Q (.ref D) H) ∨ (J.go i H ∧ ∀ x H', J.yld i H x H' → g x (List.replicate k none ++ σ) H' fun σ2 H2 => σ2.drop k = σ ∧ tc σ2 H2 fun b H3 =>
    if b = true then te σ2 H3 fun y H4 => ys.length < sizeLine ∧ H4 D = some (.lst ys) ∧ ∃ m', m' < m ∧ W (i + 1) m' (ys ++ [y]) (upd H4 D (.lst (ys ++ [y]))) else ∃ m', m' < m ∧ W (i + 1) m' ys H3))

section
variable {X : Cx}
theorem pe_lc {elt tg iter : Expr} {ifs : List Expr} {scope : Scope} {pos : Pos} {wi : TI} {k : Nat} {g : TG} {tc : TT} {te : TE} (N' : List Str) (hc : X.calm = true) (hi : PI X tg iter wi)
    (hg : ∀ C s₀ H₀ fp pins, PG (blk X scope N' C s₀ H₀ fp pins) tg g) (ht : ∀ C s₀ H₀ fp pins, PTs (blk X scope N' C s₀ H₀ fp pins) ifs tc) (he : ∀ C s₀ H₀ fp pins, PE (blk X scope N' C s₀ H₀ fp pins) elt te)
    (hk : scope.kind = .function) (hcell : ∀ y ∈ scope.names, y.2 ≠ .cell) (hnames : ∀ y ∈ scope.names, y.2 = .local → scope.names.lookup y.1 = some .local)
    {esc : Scope} (hsc : X.env.scope = esc) (hfr' : ∀ y ∈ scope.names, y.2 = .free → esc.names.lookup y.1 = some .cell ∨ esc.names.lookup y.1 = some .free)
    (hlen : N'.length = k + X.N.length)
    (hN : ∀ (i : Nat) (x : Str), N'[i + k]? = some x → (x, NameKind.free) ∈ scope.names → X.N[i]? = some x)
    (hN2 : ∀ x ∈ N'.drop k, scope.names.lookup x ≠ some .local)
    (hs : ∀ x, foldedSetIterable iter X.env x = pure x := by intro _; rfl) :
    PE X (.ListComp elt [⟨tg, iter, ifs, 0⟩] scope pos) (tLC wi k g tc te) := by
  intro pins s σ H Q I h
  have hfr : ∀ y ∈ scope.names, y.2 = .free → X.env.kindOf y.1 = some .cell ∨ X.env.kindOf y.1 = some .free := fun y hy hf => by
    show X.env.scope.names.lookup y.1 = _ ∨ X.env.scope.names.lookup y.1 = _
    rw [hsc]; exact hfr' y hy hf
  have hcells : ∀ y ∈ scope.names, y.2 = .free → ∃ c, X.env.cells.lookup y.1 = some c := fun y hy hf => I.ok.has y.1 (hfr y hy hf)
  have hclos := closure_eq scope X.env hcells
  rw [eval_ListComp]
  refine wpAny_comprehension_free (use := none) rfl hs hclos hk hnames (thn (hi pins s σ H _ I h) fun v s1 h1 => thn h1 fun itv s2 h2 => ?_)
  obtain ⟨it, fp, tn, J, H2, e, I2, T, st2, f2, R⟩ := h2
  subst e
  refine wpAny_newObj_type ?_
  have hD : H2 s2.heap.objs.size = none := I2.hok.fresh (Nat.le_refl _)
  obtain ⟨W, ⟨m0, w0⟩, turn⟩ := R _ hD
  generalize eD : s2.heap.objs.size = D at *
  have I3 : Inv X pins σ (upd H2 D (.lst [])) { s2 with heap := s2.heap.push { cls := .type "list", dict := none, data := .seq ([] : List Value).toArray } } :=
    I2.laid (a := D) (o := .lst []) (t' := s2.toks) (fun b u e => Heap.get?_push_of_some _ e) (Nat.le_of_eq eD) ⟨Nat.zero_le _, [], 0, .nil, by rw [← eD]; exact Heap.get?_push_size _ rfl⟩
  generalize e3 : ({ s2 with heap := s2.heap.push { cls := .type "list", dict := none, data := .seq ([] : List Value).toArray } } : Shared) = s3 at *
  have st3 : tn 0 s3.heap := T.keep _ _ _ st2 fun b _ o e => by rw [← e3]; exact Heap.get?_push_of_some _ e
  have lt2 : ∀ b ∈ fp, b < s2.heap.objs.size := fun b hb => by
    obtain ⟨o, e, _⟩ := T.obj _ _ st2 b hb
    exact Heap.lt_size e
  have neD : ∀ b ∈ fp, b ≠ D := fun b hb => by
    have := lt2 b hb
    rw [eD] at this
    exact Nat.ne_of_lt this
  have f3 : ∀ b ∈ fp, FpOk X pins (upd H2 D (.lst [])) b := fun b hb => ⟨by rw [upd_ne (neD b hb)]; exact (f2 b hb).1, (f2 b hb).2⟩
  generalize upd H2 D (.lst []) = H3 at *
  refine wpAny_newFunctionEnv hcell (by intro y hy; simp at hy) (fun h₁ hns₁ hsb₁ => ?_) hk
  try dsimp only at hns₁ hsb₁ ⊢
  have lt3 : ∀ b ∈ fp, b < s3.heap.objs.size := fun b hb => by
    obtain ⟨o, e, _⟩ := T.obj _ _ st3 b hb
    exact Heap.lt_size e
  generalize eC : s3.heap.objs.size = C at *
  have kp : ∀ b o, s3.heap.get? b = some o → h₁.get? b = some o := fun b o e => (hsb₁.2 b (by rw [← eC]; exact Nat.ne_of_lt (Heap.lt_size e))).trans (Heap.get?_push_of_some _ e)
  have subC : ∀ x c, (clOf X.env.cells scope.names []).lookup x = some c → X.env.cells.lookup x = some c := fun x c e => clOf_sub scope.names [] hcells (fun y d z => by simp at z) e
  have hCnone : H3 C = none := I3.hok.fresh (Nat.le_of_eq eC)
  have ok' : (blk X scope N' C s3 H3 fp pins).Ok := {
    mod := I3.ok.mod
    kind := hk
    glob := I3.ok.glob
    blt := I3.ok.blt
    above := Nat.le_of_eq eC
    inj := fun x y c a b => I3.ok.inj x y c (subC x c a) (subC y c b)
    has := fun x hx => clOf_has scope.names [] (relabel_cf scope.names hcell hx)
    cab := fun x c a _ => absurd a Bool.false_ne_true
    hd := I3.ok.hd
    frames := I3.ok.frames
    stk := .inl rfl
    exf := fun b hb => ⟨by have := lt3 b hb; exact Nat.ne_of_lt this, fun x c e => (f3 b hb).2.2.2.2.1 x c (subC x c e)⟩
    bs := I3.bs
    bsz := Nat.le_trans I3.ok.bsz I3.sz
    noex := fun b o e hb => by
      rcases (f3 b hb).2.2.2.1 with z | z
      · exact I3.ok.noex b o e z
      · exact absurd (Nat.lt_of_lt_of_le (Heap.lt_size e) (Nat.le_trans I3.ok.bsz z)) (Nat.lt_irrefl _)
    exfs := fun b hb z => by
      rcases List.mem_cons.mp (I3.stkSub b z) with e | e
      · exact (f3 b hb).2.1 e
      · exact (f3 b hb).2.2.1 e
    funs := I3.stack
    frf := I3.stkFree }
  have s4os : ({ s3 with heap := h₁, toks := s3.toks + ([] : List (Str × Value)).length } : Shared).os = s3.os := rfl
  generalize e4 : ({ s3 with heap := h₁, toks := s3.toks + ([] : List (Str × Value)).length } : Shared) = s4 at *
  have h4 : s4.heap = h₁ := by rw [← e4]
  have J4 : Inv (blk X scope N' C s3 H3 fp pins) [] (List.replicate k none ++ σ) H3 s4 := by
    refine ⟨ok', s4os, by rw [← e4]; exact I3.bare, ?_, ⟨_, by rw [h4]; exact hns₁, fun i x v e1 e2 e5 => ?_⟩, fun x c e => ?_, hCnone, fun x c e => I3.freeC x c (subC x c e), fun p hp => ?_, ?_, ?_⟩
    · rw [h4]; exact Un.kept kp
    · have hik : ¬ i < k := fun hlt => by
        rw [List.getElem?_append_left (by rw [List.length_replicate]; exact hlt), List.getElem?_replicate] at e2
        split at e2 <;> cases e2
      obtain ⟨j, rfl⟩ : ∃ j, i = j + k := ⟨i - k, by omega⟩
      have e2' : σ[j]? = some (some v) := by
        rw [List.getElem?_append_right (by rw [List.length_replicate]; omega), List.length_replicate] at e2
        have : j + k - k = j := by omega
        rw [this] at e2; exact e2
      have nl : (relabel scope X.env).names.lookup x ≠ some .local := fun z => by
        have q : ∀ (l : List (Str × NameKind)), (l.map fun (n, k) => if (k == NameKind.free && X.env.scope.kind == .function && X.env.kindOf n == some .cell) then (n, NameKind.cell) else (n, k)).lookup x = some .local → l.lookup x = some .local := by
          intro l
          induction l with
          | nil => intro z; simp at z
          | cons y l ih =>
            obtain ⟨n, kk⟩ := y
            intro z
            by_cases hcc : (kk == NameKind.free && X.env.scope.kind == .function && X.env.kindOf n == some .cell) = true
            · simp only [List.map_cons, if_pos hcc, List.lookup_cons] at z ⊢
              cases hx : x == n with
              | true => simp only [hx] at z; cases z
              | false => simp only [hx] at z ⊢; exact ih z
            · simp only [List.map_cons, if_neg hcc, List.lookup_cons] at z ⊢
              cases hx : x == n with
              | true => simp only [hx] at z ⊢; exact z
              | false => simp only [hx] at z ⊢; exact ih z
        exact hN2 x (List.mem_of_getElem? (i := j) (by rw [List.getElem?_drop, Nat.add_comm]; exact e1)) (q _ z)
      have hcf : (relabel scope X.env).names.lookup x = some .cell ∨ (relabel scope X.env).names.lookup x = some .free := by
        rcases e5 with z | z | z
        · exact absurd z nl
        · exact .inl z
        · exact .inr z
      have hmem : (x, NameKind.free) ∈ scope.names := relabel_cf scope.names hcell hcf
      have hx := hN j x e1 hmem
      obtain ⟨mo, _, hl⟩ := I3.loc
      have hkx := hfr (x, .free) hmem rfl
      obtain ⟨u, ru, lk⟩ := hl j x v hx e2' (by
        rcases hkx with z | z
        · exact .inr (.inl z)
        · exact .inr (.inr z))
      refine ⟨u, ru, .inr ⟨hcf, ?_⟩⟩
      rcases lk with ⟨z, _⟩ | ⟨_, c, hc1, hc2⟩
      · rcases hkx with q | q
        · rw [q] at z; cases z
        · rw [q] at z; cases z
      · obtain ⟨c', hc'⟩ := clOf_has (cells := X.env.cells) scope.names [] hmem
        have := subC x c' hc'
        rw [hc1] at this; cases this
        obtain ⟨oc, h5, h6⟩ := hc2
        exact ⟨c, hc', oc, by rw [h4]; exact kp _ _ h5, h6⟩
    · obtain ⟨v, oc, h5, h6⟩ := I3.cell x c (subC x c e)
      exact ⟨v, oc, by rw [h4]; exact kp _ _ h5, h6⟩
    · have hp' : p ∈ X.pn ++ pins := by simpa using hp
      obtain ⟨a1, a2, a3, a4, a5⟩ := I3.pin p hp'
      refine ⟨by rw [h4]; exact kp _ _ a1, a2, ?_, fun z => ?_, a5⟩
      · have := Heap.lt_size a1
        rw [eC] at this
        exact Nat.ne_of_lt this
      · rcases List.mem_cons.mp (I3.stkSub p.1 z) with q | q
        · exact a3 q
        · exact a4 q
    · rw [h4]; exact I3.hok.kept kp
    · rw [List.length_append, List.length_replicate, I3.len]; exact hlen.symm
  have stat : ∀ {H' : Hp}, (∀ b ∈ fp, H' b = none) → ∀ b ∈ fp, FpOk (blk X scope N' C s3 H3 fp pins) [] H' b := fun hn b hb =>
    ⟨hn b hb, (ok'.exf b hb).1, ok'.exfs b hb, .inl hb, fun x c e => (ok'.exf b hb).2 x c e, fun p hp => (f3 b hb).2.2.2.2.2 p (by simpa using hp)⟩
  have fr4 : ∀ b ∈ fp, H3 b = none := fun b hb => (f3 b hb).1
  have st4 : tn 0 s4.heap := T.keep _ _ _ st3 fun b _ o e => by rw [h4]; exact kp _ _ e
  have loop : codeAny (model X.prog X.w) X.A (.compLoop (.ListComp elt [⟨tg, iter, ifs, 0⟩] scope pos) 0 (.ref it) (.ref D) (compEnvC scope (clOf X.env.cells scope.names []) C X.env))
      (compPost (model X.prog X.w) X.A X.xe none (EP X pins σ Q) (.ref D) C) s4 := by
    refine compLoop_go (fun n s' => ∃ i ys H', Inv (blk X scope N' C s3 H3 fp pins) [] (List.replicate k none ++ σ) H' s' ∧ tn i s'.heap ∧ (∀ b ∈ fp, H' b = none) ∧ W i n ys H') ?_ m0 ⟨0, [], H3, J4, st4, fr4, w0⟩
    rintro n s5 ⟨i, ys, H5, I5, st5, fr5, w5⟩
    obtain ⟨hDl, stp⟩ := turn i n ys H5 w5
    rcases stp with ⟨stop, qn⟩ | ⟨go, step⟩
    · refine thn (T.done (blk X scope N' C s3 H3 fp pins) rfl rfl rfl hc i [] s5 _ H5 (fun _ _ => False) I5 (stat fr5) st5 stop) fun r s6 ⟨hr, I6⟩ => ?_
      subst hr
      obtain ⟨m6, ns6, _⟩ := id I6.loc
      refine ⟨m6, ns6, fun h' hsb => ⟨.ref D, H5, ?_, rfl, qn⟩⟩
      have hC5 : H5 C = none := I6.free
      have un6 : Un (frs X.stack) fp H3 H5 s3.heap s6.heap := I6.base
      have neC : ∀ b o, s3.heap.get? b = some o → b ≠ C := fun b o e => by
        have := Heap.lt_size e
        rw [eC] at this
        exact Nat.ne_of_lt this
      refine I3.call' (s' := { s6 with heap := h' }) (ch := fp) I6.os ⟨fun b o e a1 a2 a3 => ?_, fun b o e a1 a2 a3 => ?_, un6.free, fun b o e a3 => ?_, un6.tups, un6.frzs, un6.tbls⟩ ?_ I6.bare (fun b hb => ?_)
      · exact (hsb.2 b (neC b o e)).trans (un6.keep b o e a1 a2 a3)
      · obtain ⟨sl, z⟩ := un6.slot b o e a1 a2 a3
        exact ⟨sl, (hsb.2 b (neC b o e)).trans z⟩
      · obtain ⟨o', z⟩ := un6.there b o e a3
        exact ⟨o', (hsb.2 b (neC b o e)).trans z⟩
      · intro b u e
        refine (I6.hok b u e).stay (fun c w' hcc q => (hsb.2 c ?_).trans q) (fun _ q => q) fun _ _ q => q
        rintro rfl
        rcases hcc with z | z
        · rw [z, e] at hC5; cases hC5
        · rw [z] at hC5; cases hC5
      · exact ⟨(f3 b hb).2.2.2.1, (f3 b hb).2.1, (f3 b hb).2.2.2.2.1, (f3 b hb).2.2.2.2.2⟩
    · refine thn (T.item (blk X scope N' C s3 H3 fp pins) rfl rfl rfl hc i [] s5 _ H5 (fun _ _ => False) I5 (stat fr5) st5 go) fun r s6 ⟨u, hr, h6⟩ => ?_
      subst hr
      refine thn h6 fun _ s7 ⟨x, H7, I7, r7, y7, st7, fr7⟩ => ?_
      have I7' := I7.pinned (stat fr7) (T.obj _ _ st7)
      refine thn (hg C s3 H3 fp pins _ s7 _ H7 x u _ I7' r7 (step x H7 y7)) fun _ s8 ⟨σ8, H8, I8, d8, q8⟩ => ?_
      refine thn (ht C s3 H3 fp pins _ s8 σ8 H8 _ I8 q8) fun b s9 ⟨H9, I9, q9⟩ => ?_
      have kz : ∀ (j : Nat) v, (List.replicate k none ++ σ)[j]? = some (some v) → σ8[j]? = some (some v) := fun j v e => by
        have hik : ¬ j < k := fun hlt => by
          rw [List.getElem?_append_left (by rw [List.length_replicate]; exact hlt), List.getElem?_replicate] at e
          split at e <;> cases e
        rw [List.getElem?_append_right (by rw [List.length_replicate]; omega), List.length_replicate, ← d8, List.getElem?_drop] at e
        have : k + (j - k) = j := by omega
        rw [this] at e; exact e
      have again : ∀ {Hz : Hp} {sz : Shared} {zs : List V} {m' : Nat}, Inv (blk X scope N' C s3 H3 fp pins) ([] ++ pinsAt fp s7.heap) σ8 Hz sz → m' < n → W (i + 1) m' zs Hz →
          ∃ m, m < n ∧ ∃ i ys H', Inv (blk X scope N' C s3 H3 fp pins) [] (List.replicate k none ++ σ) H' sz ∧ tn i sz.heap ∧ (∀ b ∈ fp, H' b = none) ∧ W i m ys H' := fun {Hz sz zs m'} Iz hm wz => by
        refine ⟨m', hm, i + 1, zs, Hz, (Iz.unpinned).weak ?_ kz, T.keep _ _ _ st7 fun b hb o e => (Iz.pin (b, o) (List.mem_append_right _ (List.mem_append_right _ (mem_pinsAt hb e)))).1, fun b hb => ?_, wz⟩
        · rw [Iz.len]; exact I5.len
        · obtain ⟨o, e, d⟩ := T.obj _ _ st7 b hb
          exact (Iz.pin (b, o) (List.mem_append_right _ (List.mem_append_right _ (mem_pinsAt hb e)))).2.1
      cases b with
      | false =>
        obtain ⟨m', hm, w9⟩ := (show ∃ m', m' < n ∧ W (i + 1) m' ys H9 by simpa using q9)
        rw [if_neg Bool.false_ne_true]
        exact again I9 hm w9
      | true =>
        rw [if_pos rfl] at q9 ⊢
        refine thn (he C s3 H3 fp pins _ s9 σ8 H9 _ I9 q9) fun u9 s10 ⟨y, H10, I10, r10, hz, hD10, m', hm, w10⟩ => ?_
        refine thn (mt_append (X := blk X scope N' C s3 H3 fp pins) _ s10 σ8 H10 (.ref D) [y] (.ref D) [u9] (fun _ H' => H' = upd H10 D (.lst (ys ++ [y]))) I10 rfl (.cons r10 .nil) ⟨D, ys, y, rfl, rfl, hD10, hz, rfl⟩) fun _ s11 ⟨_, H11, I11, _, e11⟩ => ?_
        subst e11
        exact again I11 hm w10
  exact codeAny_compStart_list loop (T.self _ 0 _ _ _ st4 loop)
end
end L2

set_option Elab.async false
set_option linter.all false
set_option maxRecDepth 100000
namespace L2
open PySem PySem.Spec PyProof.Rows

section
variable {X : Cx} {pins : List (Addr × Obj)} {σ : St} {H : Hp} {s : Shared} {h' : Heap}
theorem Inv.turnedL {t' : Nat} {fp : List Addr} (I : Inv X pins σ H s) (k : ∀ b o, b ∉ fp → s.heap.get? b = some o → h'.get? b = some o) (hf : ∀ b ∈ fp, FpOk X pins H b) : Inv X pins σ H { s with heap := h', toks := t' } := by
  have nit : ∀ b u, H b = some u → b ∉ fp := fun b u e z => by rw [(hf b z).1] at e; cases e
  refine I.step (g' := s.gens) (d' := s.drawn) (ch := fp) (fun b hb => ⟨(hf b hb).2.2.2.1, (hf b hb).2.1, (hf b hb).2.2.2.2.1, (hf b hb).2.2.2.2.2⟩) (fun b o _ _ hc e _ => k b o hc e) (fun b o _ _ hc e _ => ⟨o.slots, k b o hc e⟩) (fun _ _ _ _ n => n)
    (fun b o hc e => ⟨o, k b o hc e⟩) (fun _ _ e => e) (fun _ _ _ e => e) (fun b ps e => ⟨#[], by rw [e]; simp⟩) (fun m hm => ?_) (fun b u e => ?_) I.bare
  · obtain ⟨o, es, ep, ho, r⟩ := hm
    exact ⟨o, es, ep, k _ o (fun z => (hf _ z).2.1 rfl) ho, r⟩
  · refine (I.hok b u e).stay (fun c v hc q => k c v ?_ q) (fun _ q => q) fun _ _ q => q
    rcases hc with z | z
    · rw [z]; exact nit b u e
    · exact nit c _ z
theorem Inv.track {p : Addr} {o : HO} (I : Inv X pins σ H s) (hp : X.s₀.heap.objs.size ≤ p) (hL : p ≠ X.env.locals) (hc : ∀ x c, X.env.cells.lookup x = some c → c ≠ p) (hpin : ∀ q ∈ X.pn ++ pins, q.1 ≠ p) (hn : H p = none)
    (new : ObjOk X.prog X.w (upd H p o) s.heap p o) : Inv X pins σ (upd H p o) s := by
  refine ⟨I.ok, I.os, I.bare, ⟨I.base.keep, I.base.slot, fun b ob e n hx => ?_, I.base.there, fun b xs e => ?_, fun b ob u e => ?_, fun b ps e => ?_⟩, I.loc, I.cell, by rw [upd_ne (Ne.symm hL)]; exact I.free, fun x c e => by rw [upd_ne (hc x c e)]; exact I.freeC x c e, fun q hq => ?_, fun b u e => ?_, I.len⟩
  · rw [upd_ne (Nat.ne_of_lt (Nat.lt_of_lt_of_le (Heap.lt_size e) hp))]; exact I.base.free b ob e n hx
  · have := I.base.tups b xs e
    rw [upd_ne (ne_of_none this hn)]; exact this
  · have := I.base.frzs b ob u e
    rw [upd_ne (ne_of_none this hn)]; exact this
  · obtain ⟨more, e2⟩ := I.base.tbls b ps e
    exact ⟨more, by rw [upd_ne (ne_of_none e2 hn)]; exact e2⟩
  · obtain ⟨a1, a2, a3, a4, a5⟩ := I.pin q hq
    exact ⟨a1, by rw [upd_ne (hpin q hq)]; exact a2, a3, a4, a5⟩
  · by_cases hb : b = p
    · subst hb; rw [upd_same] at e; cases e; exact new
    · rw [upd_ne hb] at e
      exact (I.hok b u e).stay (fun _ _ _ q => q) (fun c q => by rw [upd_ne (ne_of_none q hn)]; exact q) fun c xs q => by rw [upd_ne (ne_of_none q hn)]; exact q
end

section
variable {X : Cx}
end

def Ite (K : PySem.W.Frag) (a : Addr) : It :=
  ⟨fun i H => ∃ xs x, SqL K H a xs ∧ xs[i]? = some x,
   fun i H v H' => ∃ p x, v = .ref p ∧ H p = none ∧ H' = upd H p (.tup [.int i, x]) ∧ ∀ xs, SqL K H a xs → xs[i]? = some x,
   fun i H => ∃ xs, SqL K H a xs ∧ xs.length ≤ i⟩
theorem turn_enum {P : Program} {w : World} {K : PySem.W.Frag} {es : List Expr} {x1} {pos : Pos} (a e it : Addr) : Turn P w K (.Tuple es x1 pos) (Ite K a) [e, it] e
    (fun i h => (∃ old, IsEnum h e it i old) ∧ h.IsListIter it a i) where
  mem := by simp
  obj := fun i h ⟨⟨old, he⟩, h1⟩ c hc => by
    simp only [List.mem_cons, List.not_mem_nil, or_false] at hc
    rcases hc with rfl | rfl
    · exact ⟨_, he, fun v q => by cases (show Data.fields _ = Data.cell v from q)⟩
    · obtain ⟨o, e, _, d⟩ := h1
      exact ⟨o, e, fun v q => by rw [d] at q; cases q⟩
  keep := fun i h h' ⟨⟨old, he⟩, h1⟩ k => ⟨⟨old, k e (by simp) _ he⟩, h1.at fun o q => k it (by simp) o q⟩
  item := by
    intro X hP hw hK hc i pins s σ H E I hf ⟨⟨old, he⟩, h1⟩ hg
    subst hP hw hK
    obtain ⟨xs, x, hqa, hx⟩ := hg
    obtain ⟨its, rv, p, hsz⟩ := I.list hqa
    obtain ⟨ux, hux, rux⟩ := rv.get hx
    have hne : e ≠ it := fun z => by
      obtain ⟨o1, e1, c1, _⟩ := h1
      rw [← z, he] at e1; cases e1
      exact absurd (show Value.type "enumerate" = Value.type "list_iterator" from c1) (by decide)
    refine wpAny_pyNext_enum_item he h1 p.isList (x := ux) (by simpa using hux) hne fun h' a1 a3 a5 a6 hk => ?_
    refine ⟨_, rfl, ?_⟩
    refine wpAny_letOwnedTupleGo_enum (s := { s with heap := h', toks := s.toks + 1 }) a1 fun h2' hz' hs' => ?_
    have lt : ∀ b ∈ [e, it], b < s.heap.objs.size := fun c hcm => by
      simp only [List.mem_cons, List.not_mem_nil, or_false] at hcm
      rcases hcm with rfl | rfl
      · exact Heap.lt_size he
      · obtain ⟨o, q, _⟩ := h1; exact Heap.lt_size q
    have h12 : h2'.IsListIter it a (i + 1) := a3.extBut hs'.extBut (Ne.symm hne)
    have pz : s.heap.objs.size ≠ e := Nat.ne_of_gt (Heap.lt_size he)
    have hp2 : h2'.get? s.heap.objs.size = some { cls := .type "tuple", data := .seq #[.int i s.toks, ux] } := hs'.extBut _ _ pz a5
    have kk : ∀ c o, c ∉ [e, it] → s.heap.get? c = some o → h2'.get? c = some o := fun c o hcm q => by
      simp only [List.mem_cons, List.not_mem_nil, or_false, not_or] at hcm
      exact hs'.extBut _ _ hcm.1 (hk c o hcm.1 hcm.2 q)
    have I1 : Inv X pins σ H { s with heap := h2', toks := s.toks + 1 } := I.turnedL kk hf
    have fP : FpOk X pins H s.heap.objs.size := I.fpOk (Nat.le_refl _) (I.hok.fresh (Nat.le_refl _))
    have I2 : Inv X pins σ (upd H s.heap.objs.size (.tup [.int i, x])) { s with heap := h2', toks := s.toks + 1 } := by
      refine I1.track I.sz (fP.2.1) fP.2.2.2.2.1 fP.2.2.2.2.2 fP.1 ?_
      exact ⟨(show 2 ≤ sizeLine by decide), [.int i s.toks, ux], .cons ⟨_, rfl⟩ (.cons rux .nil), ⟨_, hp2, rfl, _, rfl⟩⟩
    refine ⟨.ref s.heap.objs.size, _, I2, rfl, ⟨_, x, rfl, fP.1, rfl, fun zs hzs => by rw [I.list_inj hzs hqa]; exact hx⟩, ⟨⟨_, hz'⟩, h12⟩, fun c hcm => ?_⟩
    rw [upd_ne (Nat.ne_of_lt (lt c hcm))]
    exact (hf c hcm).1
  done := by
    intro X hP hw hK hc i pins s σ H E I hf ⟨⟨old, he⟩, h1⟩ hg
    subst hP hw hK
    obtain ⟨xs, hqa, hend⟩ := hg
    obtain ⟨its, rv, p, hsz⟩ := I.list hqa
    have e1 := rv.length
    refine wpAny_pyNext_enum_end (I.ok.hd hc) he h1 p.isList (i := i) (by simp; omega) fun h' hk => ⟨rfl, ?_⟩
    exact I.turnedL (t' := s.toks) (fun c o hcm q => by
      simp only [List.mem_cons, List.not_mem_nil, or_false, not_or] at hcm
      exact hk c o hcm.2 q) hf
  self := fun _ _ _ _ _ ⟨⟨_, st⟩, _⟩ h => wpAny_pyIter_enum st h
section
variable {X : Cx}
def iEnum (K : PySem.W.Frag) (ta : TA) : TI := fun σ H R => ta σ H fun vs H1 => ∃ a, vs = [.ref a] ∧ (∃ xs, SqL K H1 a xs) ∧ R (Ite K a) H1
theorem pi_enum {es : List Expr} {x1} {tpos : Pos} {e1 : Expr} {ta : TA} {p pos : Pos} (hg : Gl X "enumerate") (hm : X.mg "enumerate" = none) (ha : PA X [e1] ta) (hs : starEach [e1] X.env = [(false, eval e1 X.env)] := by rfl) :
    PI X (.Tuple es x1 tpos) (.Call (.Name "enumerate" p) [e1] [] pos) (iEnum X.K ta) := by
  intro pins s σ H R I h
  refine Call_ (ld_blt I hg hm (by rfl) (PyProof.Rows.callWith_type1 (thn (ha pos pins s σ H _ I h) fun us s1 ⟨vs, H1, I1, r1, q1⟩ => ?_) hs rfl))
  obtain ⟨a, rfl, ⟨xs, hqa⟩, q⟩ := q1
  obtain ⟨u1, rfl, ru1⟩ := vals1 r1
  cases (show u1 = Value.ref a from ru1)
  obtain ⟨its, rv, pa, hsz⟩ := I1.list hqa
  refine call_enumerate_list pa.isList fun h' hz h1 hsize hk => ?_
  refine wpAny_pyIter_enum (s := { s1 with heap := h' }) hz ?_
  refine ⟨_, _, _, _, H1, rfl, I1.kept (t' := s1.toks) hk, turn_enum a (s1.heap.objs.size + 1) s1.heap.objs.size, ⟨⟨_, hz⟩, h1⟩, fun c hc => ?_, q⟩
  have hge : s1.heap.objs.size ≤ c := by
    simp only [List.mem_cons, List.not_mem_nil, or_false] at hc
    rcases hc with h | h <;> (rw [h]; omega)
  exact I1.fpOk hge (I1.hok.fresh hge)
end
end L2

set_option Elab.async false
set_option linter.all false
set_option maxRecDepth 100000
namespace L2
open PySem PySem.Spec PyProof.Rows

theorem vals_of_items {P : Nat → Value → Prop} {acc : List Value} {xs : List V} (hl : acc.length = xs.length) (h : ∀ (j : Nat) (v : Value), acc[j]? = some v → P j v) (hP : ∀ (j : Nat) v x, P j v → xs[j]? = some x → RelV x v) : Vals xs acc := by
  induction xs generalizing acc P with
  | nil =>
    cases acc with
    | nil => exact .nil
    | cons _ _ => simp at hl
  | cons x xs ih =>
    cases acc with
    | nil => simp at hl
    | cons u acc =>
      refine .cons (hP 0 u x (h 0 u rfl) rfl) (ih (P := fun j => P (j + 1)) (by simpa using hl) (fun j v e => h (j + 1) v (by simpa using e)) fun j v y p e => hP (j + 1) v y p (by simpa using e))

section
variable {X : Cx}
end
end L2

set_option Elab.async false
set_option linter.all false
set_option maxRecDepth 100000
namespace L2
open PySem PySem.Spec PyProof.Rows

section
variable {X : Cx}
end
end L2

set_option Elab.async false
set_option linter.all false
set_option maxRecDepth 100000
namespace L2
open PySem PySem.Spec PyProof.Rows
structure FunG (K : PySem.W.Frag) (x qual : Str) (st : Stmt) (dV : Value) (f : Addr) (fd : FuncData) : Prop where
  ex : ∃ (oc : Value) (od : Option Addr) (kV doc pm : Value) (an : Option Addr) (cdv ct : Value) (osl : Array (Option Value)),
    fd = PySem.W.fnOf x qual (defArgs st) (defBody st) (defScope st) dV kV doc pm an cdv ct ∧ K.lookup f = some ⟨oc, od, .func fd, osl⟩ ∧ PySem.W.codeIn K cdv qual = true
  kp : PySem.W.keepIn K (.ref f) = true
section
variable {P : Program} {w : World} {K : PySem.W.Frag} {mg : Str → Option Value} {base : Heap}
theorem FunG.ok {x qual : Str} {st : Stmt} {dV : Value} {f : Addr} {fd : FuncData} {N ps : List Str} {k : Nat} {sp : Sp} (F : FunG K x qual st dV f fd) (S : FnScope N ps (defScope st)) (len : ∀ vs H Q E, sp vs H Q E → vs.length = ps.length)
    (hbody : ∀ (cdv : Value) (A : Around) (outer : List Env) (s : Shared) (H : Hp) (vs : List V) (Q : VK) (E : XK), Room k (A.deeper (envOfC qual (defScope st) s.heap.objs.size f cdv)) → sp vs H Q E →
      ∃ t, PSs (cxOf CX0 P w K mg base N qual (defScope st) f cdv A outer s H E).nox (defBody st) t ∧ t { nx := fun _ H' => Q .non H', rt := Q } (start N vs) H) : FnOk P w K mg base CX0 (k + 1) f fd ps sp := by
  obtain ⟨oc, od, kV, doc, pm, an, cdv, ct, osl, rfl, lk, hcd⟩ := F.ex
  refine fn_of lk hcd S len fun A outer s H vs Q E hr hsp => ?_
  obtain ⟨t, h, q⟩ := hbody cdv A outer s H vs Q E hr hsp
  exact ⟨t, h.nox, q⟩
theorem FunG.binds {x qual : Str} {st : Stmt} {dV : Value} {f : Addr} {fd : FuncData} {ps : List Str} (F : FunG K x qual st dV f fd)
    (h : ∀ (kV doc pm : Value) (an : Option Addr) (cdv ct : Value) (us : List Value), us.length = ps.length → bindArgs (PySem.W.fnOf x qual (defArgs st) (defBody st) (defScope st) dV kV doc pm an cdv ct) ⟨us, []⟩ = pure (ps.zip us)) : Binds K fd ps [] := by
  obtain ⟨oc, od, kV, doc, pm, an, cdv, ct, osl, rfl, lk, hcd⟩ := F.ex
  exact .all (h kV doc pm an cdv ct)
theorem funG_mk {x qual : Str} {st : Stmt} {f : Addr} {oc : Value} {od an : Option Addr} {osl : Array (Option Value)} {dV kV doc pm cdv ct : Value} (l : K.lookup f = some ⟨oc, od, .func (PySem.W.fnOf x qual (defArgs st) (defBody st) (defScope st) dV kV doc pm an cdv ct), osl⟩)
    (c : PySem.W.codeIn K cdv qual = true) (k : PySem.W.keepIn K (.ref f) = true) : FunG K x qual st dV f (PySem.W.fnOf x qual (defArgs st) (defBody st) (defScope st) dV kV doc pm an cdv ct) := ⟨⟨oc, od, kV, doc, pm, an, cdv, ct, osl, rfl, l, c⟩, k⟩
end
end L2

set_option Elab.async false
set_option linter.all false
set_option maxRecDepth 100000
namespace L2
open PySem PySem.Spec PyProof.Rows
section
variable {X : Cx} {K : PySem.W.Frag}
theorem pg_tupK (hK : X.K = K) {es : List Expr} {k : Nat} {t : TGs} {n : Nat} {pos : Pos} (hc : X.calm = true) (h : PGs X es t)
    (hn : (assignEach es X.env).length = n := by rfl) (hst : (assignEach es X.env).findIdx? (·.1) = none := by rfl) : PG X (.Tuple es k pos) (gTup K n t) := by
  subst hK; exact pg_tup hc h hn hst
theorem ix_listK (hK : X.K = K) : IxR X (rIxL K) := by subst hK; exact ix_list
end
end L2
namespace L2
theorem tTrueT {σ : St} {H : Hp} {A B : Hp → Prop} (h : A H) : tTrue σ H (fun b H3 => if b = true then A H3 else B H3) := (iteT h : if true = true then A H else B H)
end L2
namespace L2
open PySem PySem.Spec PyProof.Rows
section
variable {X : Cx} {CX : CXT} {k : Nat} {f C : Addr} {fd : FuncData} {ps ks : List Str} {sp : Sp} {E : XK} {x m : Str} {p pos apos kpos : Pos} {e o : Expr} {es : List Expr} {kws : List Keyword} {te ta : TE} {t tk : TA}
  {g : List Value → List Value → List Value} {gV : List V → List V → List V}
end
end L2
namespace L2
end L2

set_option Elab.async false
set_option linter.all false
set_option maxRecDepth 100000
namespace L2
open PySem PySem.Spec PyProof.Rows
section
variable {prog : Program} {w : World} {K : Type} [DecidableEq K] {knd : HeapKind prog w K} {A : Around} {E : Value → Shared → Prop} {s : Shared} {d a : Addr} {k : K} {xs : List (K × Addr × Value)}
end
end L2
namespace L2
open PySem PySem.Spec PyProof.Rows
theorem KT.drop {H : Hp} {kvs : List (List Key × V)} {xs : List (List Key × Addr × Value)} (r : KT H kvs xs) (k : List Key) : KT H (dropK kvs k) (xs.filter fun x => decide (x.1 ≠ k)) := by
  unfold dropK
  induction r with
  | nil => exact .nil
  | @cons p q ps qs hq t ih =>
    rw [List.filter_cons, List.filter_cons]
    have e : p.1 = q.1 := hq.1
    by_cases c : q.1 = k
    · rw [if_neg (by simpa using e.trans c), if_neg (by simpa using c)]; exact ih
    · rw [if_pos (by simpa using fun z => c (e.symm.trans z)), if_pos (by simpa using c)]; exact .cons hq ih
section
variable {X : Cx} {pins : List (Addr × Obj)} {σ : St} {H : Hp} {s : Shared} {a b : Addr} {kvs : List (List Key × V)} {k : List Key} {u : Value} {A : Around} {E : Value → Shared → Prop}
end
section
variable {X : Cx} {o i e : Expr} {td ty : TE} {tpos pos apos cpos : Pos}
end
end L2
namespace L2
open PySem PySem.Spec PyProof.Rows
theorem for_enum {K : PySem.W.Frag} {a : Addr} {xs : List V} {g : TG} {tb : TS} {D : Ends} {σ : St} {H : Hp} (Pv : Nat → St → Hp → Prop) (h0 : Pv 0 σ H) (hl : ∀ i σ H, i ≤ xs.length → Pv i σ H → SqL K H a xs)
    (hs : ∀ i x σ H p, xs[i]? = some x → Pv i σ H → H p = none → g (.ref p) σ (upd H p (.tup [.int i, x])) fun σ2 H2 => tb { D with nx := Pv (i + 1), ct := Pv (i + 1), bk := D.nx } σ2 H2) (hd : ∀ σ H, Pv xs.length σ H → D.nx σ H) :
    ∃ W : Nat → Nat → St → Hp → Prop, (∃ m, W 0 m σ H) ∧ ∀ i m σ H, W i m σ H →
      ((Ite K a).stop i H ∧ D.nx σ H) ∨ ((Ite K a).go i H ∧ ∃ N : St → Hp → Prop, (∀ σ' H', N σ' H' → ∃ m', m' < m ∧ W (i + 1) m' σ' H') ∧ ∀ x H', (Ite K a).yld i H x H' → g x σ H' fun σ2 H2 => tb { D with nx := N, ct := N, bk := D.nx } σ2 H2) := by
  refine ⟨fun i m σ H => m = xs.length - i ∧ i ≤ xs.length ∧ Pv i σ H, ⟨xs.length, by simp, Nat.zero_le _, h0⟩, ?_⟩
  rintro i m σ H ⟨rfl, hi, p⟩
  have hq := hl i σ H hi p
  by_cases hlt : i < xs.length
  · refine .inr ⟨⟨xs, xs[i], hq, List.getElem?_eq_getElem hlt⟩, Pv (i + 1), fun σ' H' p' => ⟨xs.length - (i + 1), by omega, rfl, hlt, p'⟩, fun x H' y => ?_⟩
    obtain ⟨b, z, rfl, hb, rfl, hz⟩ := y
    exact hs i z σ H b (hz xs hq) p hb
  · have e : i = xs.length := by omega
    subst e
    exact .inl ⟨⟨xs, hq, Nat.le_refl _⟩, hd σ H p⟩
end L2

set_option Elab.async false
set_option linter.all false
set_option maxRecDepth 100000
namespace L2
open PySem PySem.Spec PyProof.Rows
section
variable {prog : Program} {w : World} {A : Around} {E : Value → Shared → Prop} {s : Shared}
end
section
variable {X : Cx} {pins : List (Addr × Obj)} {σ : St} {H : Hp} {s : Shared} {a : Addr} {y v : V} {u r : Value} {o : Option V} {A : Around} {E : Value → Shared → Prop}
end
end L2

set_option Elab.async false
set_option linter.all false
set_option maxRecDepth 100000
namespace L2
open PySem PySem.Spec PyProof.Rows
section
variable {X : Cx}
theorem ps_setC {ix : Nat} {nm : Str} {pos' spos : Pos} {elt tg iter : Expr} {ifs : List Expr} {scope : Scope} {pos : Pos} {wi : TI} {k : Nat} {g : TG} {tc : TT} {te : TE} (hNd : X.N.Nodup) (hix : X.N[ix]? = some nm) (hLx : Loc X.env.scope nm) (N' : List Str) (hc : X.calm = true) (hi : PI X tg iter wi)
    (hg : ∀ C s₀ H₀ fp pins, PG (blk X scope N' C s₀ H₀ fp pins) tg g) (ht : ∀ C s₀ H₀ fp pins, PTs (blk X scope N' C s₀ H₀ fp pins) ifs tc) (he : ∀ C s₀ H₀ fp pins, PE (blk X scope N' C s₀ H₀ fp pins) elt te)
    (hk : scope.kind = .function) (hcell : ∀ y ∈ scope.names, y.2 ≠ .cell) (hnames : ∀ y ∈ scope.names, y.2 = .local → scope.names.lookup y.1 = some .local)
    {esc : Scope} (hsc : X.env.scope = esc) (hfr' : ∀ y ∈ scope.names, y.2 = .free → esc.names.lookup y.1 = some .cell ∨ esc.names.lookup y.1 = some .free)
    (hlen : N'.length = k + X.N.length)
    (hN : ∀ (i : Nat) (x : Str), N'[i + k]? = some x → (x, NameKind.free) ∈ scope.names → X.N[i]? = some x)
    (hN2 : ∀ x ∈ N'.drop k, scope.names.lookup x ≠ some .local)
    (hs : ∀ x, foldedSetIterable iter X.env x = pure x := by intro _; rfl)
    (hsw : swapsWith (.ListComp elt [⟨tg, iter, ifs, 0⟩] scope pos) (some (.Name nm pos')) spos.line X.env = pure true := by rfl)
    (hf : X.fn nm = true ∨ X.env.scope.names.lookup nm = some .local := by first | exact .inl rfl | exact .inr rfl | assumption) :
    PS X (.Assign [.Name nm pos'] (.ListComp elt [⟨tg, iter, ifs, 0⟩] scope pos) spos) (tAsg (tLC wi k g tc te) (gName ix)) := by
  intro pins s σ H Dn I h
  have hfr : ∀ y ∈ scope.names, y.2 = .free → X.env.kindOf y.1 = some .cell ∨ X.env.kindOf y.1 = some .free := fun y hy hf => by
    show X.env.scope.names.lookup y.1 = _ ∨ X.env.scope.names.lookup y.1 = _
    rw [hsc]; exact hfr' y hy hf
  have hcells : ∀ y ∈ scope.names, y.2 = .free → ∃ c, X.env.cells.lookup y.1 = some c := fun y hy hf => I.ok.has y.1 (hfr y hy hf)
  have hclos := closure_eq scope X.env hcells
  rw [exec_Assign_Name_used _ _ _ _ hsw]
  refine wpAny_bind (wpAny_standAt (wpAny_bind ?_))
  show wpAny _ X.A (do let _ ← comprehension (.ListComp elt [⟨tg, iter, ifs, 0⟩] scope pos) scope X.env _ (newList []) false (eval iter X.env) (some (assign (.Name nm pos') X.env))) _ _ s
  refine wpAny_bind (wpAny_mono (wpAny_comprehension_free (Q := fun _ s' => SP X pins Dn .next s') (use := some (assign (.Name nm pos') X.env)) rfl hs hclos hk hnames ?_) (fun _ s' hq => wpAny_pure (wpAny_pure hq)) fun _ _ e => e)
  refine (thn (hi pins s σ H _ I h) fun v s1 h1 => thn h1 fun itv s2 h2 => ?_)
  obtain ⟨it, fp, tn, J, H2, e, I2, T, st2, f2, R⟩ := h2
  subst e
  refine wpAny_newObj_type ?_
  have hD : H2 s2.heap.objs.size = none := I2.hok.fresh (Nat.le_refl _)
  obtain ⟨W, ⟨m0, w0⟩, turn⟩ := R _ hD
  generalize eD : s2.heap.objs.size = D at *
  have I3 : Inv X pins σ (upd H2 D (.lst [])) { s2 with heap := s2.heap.push { cls := .type "list", dict := none, data := .seq ([] : List Value).toArray } } :=
    I2.laid (a := D) (o := .lst []) (t' := s2.toks) (fun b u e => Heap.get?_push_of_some _ e) (Nat.le_of_eq eD) ⟨Nat.zero_le _, [], 0, .nil, by rw [← eD]; exact Heap.get?_push_size _ rfl⟩
  generalize e3 : ({ s2 with heap := s2.heap.push { cls := .type "list", dict := none, data := .seq ([] : List Value).toArray } } : Shared) = s3 at *
  have st3 : tn 0 s3.heap := T.keep _ _ _ st2 fun b _ o e => by rw [← e3]; exact Heap.get?_push_of_some _ e
  have lt2 : ∀ b ∈ fp, b < s2.heap.objs.size := fun b hb => by
    obtain ⟨o, e, _⟩ := T.obj _ _ st2 b hb
    exact Heap.lt_size e
  have neD : ∀ b ∈ fp, b ≠ D := fun b hb => by
    have := lt2 b hb
    rw [eD] at this
    exact Nat.ne_of_lt this
  have f3 : ∀ b ∈ fp, FpOk X pins (upd H2 D (.lst [])) b := fun b hb => ⟨by rw [upd_ne (neD b hb)]; exact (f2 b hb).1, (f2 b hb).2⟩
  generalize upd H2 D (.lst []) = H3 at *
  refine wpAny_newFunctionEnv hcell (by intro y hy; simp at hy) (fun h₁ hns₁ hsb₁ => ?_) hk
  try dsimp only at hns₁ hsb₁ ⊢
  have lt3 : ∀ b ∈ fp, b < s3.heap.objs.size := fun b hb => by
    obtain ⟨o, e, _⟩ := T.obj _ _ st3 b hb
    exact Heap.lt_size e
  generalize eC : s3.heap.objs.size = C at *
  have kp : ∀ b o, s3.heap.get? b = some o → h₁.get? b = some o := fun b o e => (hsb₁.2 b (by rw [← eC]; exact Nat.ne_of_lt (Heap.lt_size e))).trans (Heap.get?_push_of_some _ e)
  have subC : ∀ x c, (clOf X.env.cells scope.names []).lookup x = some c → X.env.cells.lookup x = some c := fun x c e => clOf_sub scope.names [] hcells (fun y d z => by simp at z) e
  have hCnone : H3 C = none := I3.hok.fresh (Nat.le_of_eq eC)
  have ok' : (blk X scope N' C s3 H3 fp pins).Ok := {
    mod := I3.ok.mod
    kind := hk
    glob := I3.ok.glob
    blt := I3.ok.blt
    above := Nat.le_of_eq eC
    inj := fun x y c a b => I3.ok.inj x y c (subC x c a) (subC y c b)
    has := fun x hx => clOf_has scope.names [] (relabel_cf scope.names hcell hx)
    cab := fun x c a _ => absurd a Bool.false_ne_true
    hd := I3.ok.hd
    frames := I3.ok.frames
    stk := .inl rfl
    exf := fun b hb => ⟨by have := lt3 b hb; exact Nat.ne_of_lt this, fun x c e => (f3 b hb).2.2.2.2.1 x c (subC x c e)⟩
    bs := I3.bs
    bsz := Nat.le_trans I3.ok.bsz I3.sz
    noex := fun b o e hb => by
      rcases (f3 b hb).2.2.2.1 with z | z
      · exact I3.ok.noex b o e z
      · exact absurd (Nat.lt_of_lt_of_le (Heap.lt_size e) (Nat.le_trans I3.ok.bsz z)) (Nat.lt_irrefl _)
    exfs := fun b hb z => by
      rcases List.mem_cons.mp (I3.stkSub b z) with e | e
      · exact (f3 b hb).2.1 e
      · exact (f3 b hb).2.2.1 e
    funs := I3.stack
    frf := I3.stkFree }
  have s4os : ({ s3 with heap := h₁, toks := s3.toks + ([] : List (Str × Value)).length } : Shared).os = s3.os := rfl
  generalize e4 : ({ s3 with heap := h₁, toks := s3.toks + ([] : List (Str × Value)).length } : Shared) = s4 at *
  have h4 : s4.heap = h₁ := by rw [← e4]
  have J4 : Inv (blk X scope N' C s3 H3 fp pins) [] (List.replicate k none ++ σ) H3 s4 := by
    refine ⟨ok', s4os, by rw [← e4]; exact I3.bare, ?_, ⟨_, by rw [h4]; exact hns₁, fun i x v e1 e2 e5 => ?_⟩, fun x c e => ?_, hCnone, fun x c e => I3.freeC x c (subC x c e), fun p hp => ?_, ?_, ?_⟩
    · rw [h4]; exact Un.kept kp
    · have hik : ¬ i < k := fun hlt => by
        rw [List.getElem?_append_left (by rw [List.length_replicate]; exact hlt), List.getElem?_replicate] at e2
        split at e2 <;> cases e2
      obtain ⟨j, rfl⟩ : ∃ j, i = j + k := ⟨i - k, by omega⟩
      have e2' : σ[j]? = some (some v) := by
        rw [List.getElem?_append_right (by rw [List.length_replicate]; omega), List.length_replicate] at e2
        have : j + k - k = j := by omega
        rw [this] at e2; exact e2
      have nl : (relabel scope X.env).names.lookup x ≠ some .local := fun z => by
        have q : ∀ (l : List (Str × NameKind)), (l.map fun (n, k) => if (k == NameKind.free && X.env.scope.kind == .function && X.env.kindOf n == some .cell) then (n, NameKind.cell) else (n, k)).lookup x = some .local → l.lookup x = some .local := by
          intro l
          induction l with
          | nil => intro z; simp at z
          | cons y l ih =>
            obtain ⟨n, kk⟩ := y
            intro z
            by_cases hcc : (kk == NameKind.free && X.env.scope.kind == .function && X.env.kindOf n == some .cell) = true
            · simp only [List.map_cons, if_pos hcc, List.lookup_cons] at z ⊢
              cases hx : x == n with
              | true => simp only [hx] at z; cases z
              | false => simp only [hx] at z ⊢; exact ih z
            · simp only [List.map_cons, if_neg hcc, List.lookup_cons] at z ⊢
              cases hx : x == n with
              | true => simp only [hx] at z ⊢; exact z
              | false => simp only [hx] at z ⊢; exact ih z
        exact hN2 x (List.mem_of_getElem? (i := j) (by rw [List.getElem?_drop, Nat.add_comm]; exact e1)) (q _ z)
      have hcf : (relabel scope X.env).names.lookup x = some .cell ∨ (relabel scope X.env).names.lookup x = some .free := by
        rcases e5 with z | z | z
        · exact absurd z nl
        · exact .inl z
        · exact .inr z
      have hmem : (x, NameKind.free) ∈ scope.names := relabel_cf scope.names hcell hcf
      have hx := hN j x e1 hmem
      obtain ⟨mo, _, hl⟩ := I3.loc
      have hkx := hfr (x, .free) hmem rfl
      obtain ⟨u, ru, lk⟩ := hl j x v hx e2' (by
        rcases hkx with z | z
        · exact .inr (.inl z)
        · exact .inr (.inr z))
      refine ⟨u, ru, .inr ⟨hcf, ?_⟩⟩
      rcases lk with ⟨z, _⟩ | ⟨_, c, hc1, hc2⟩
      · rcases hkx with q | q
        · rw [q] at z; cases z
        · rw [q] at z; cases z
      · obtain ⟨c', hc'⟩ := clOf_has (cells := X.env.cells) scope.names [] hmem
        have := subC x c' hc'
        rw [hc1] at this; cases this
        obtain ⟨oc, h5, h6⟩ := hc2
        exact ⟨c, hc', oc, by rw [h4]; exact kp _ _ h5, h6⟩
    · obtain ⟨v, oc, h5, h6⟩ := I3.cell x c (subC x c e)
      exact ⟨v, oc, by rw [h4]; exact kp _ _ h5, h6⟩
    · have hp' : p ∈ X.pn ++ pins := by simpa using hp
      obtain ⟨a1, a2, a3, a4, a5⟩ := I3.pin p hp'
      refine ⟨by rw [h4]; exact kp _ _ a1, a2, ?_, fun z => ?_, a5⟩
      · have := Heap.lt_size a1
        rw [eC] at this
        exact Nat.ne_of_lt this
      · rcases List.mem_cons.mp (I3.stkSub p.1 z) with q | q
        · exact a3 q
        · exact a4 q
    · rw [h4]; exact I3.hok.kept kp
    · rw [List.length_append, List.length_replicate, I3.len]; exact hlen.symm
  have stat : ∀ {H' : Hp}, (∀ b ∈ fp, H' b = none) → ∀ b ∈ fp, FpOk (blk X scope N' C s3 H3 fp pins) [] H' b := fun hn b hb =>
    ⟨hn b hb, (ok'.exf b hb).1, ok'.exfs b hb, .inl hb, fun x c e => (ok'.exf b hb).2 x c e, fun p hp => (f3 b hb).2.2.2.2.2 p (by simpa using hp)⟩
  have fr4 : ∀ b ∈ fp, H3 b = none := fun b hb => (f3 b hb).1
  have st4 : tn 0 s4.heap := T.keep _ _ _ st3 fun b _ o e => by rw [h4]; exact kp _ _ e
  have loop : codeAny (model X.prog X.w) X.A (.compLoop (.ListComp elt [⟨tg, iter, ifs, 0⟩] scope pos) 0 (.ref it) (.ref D) (compEnvC scope (clOf X.env.cells scope.names []) C X.env))
      (compPost (model X.prog X.w) X.A X.xe (some (assign (.Name nm pos') X.env)) (fun _ s' => SP X pins Dn .next s') (.ref D) C) s4 := by
    refine compLoop_go (fun n s' => ∃ i ys H', Inv (blk X scope N' C s3 H3 fp pins) [] (List.replicate k none ++ σ) H' s' ∧ tn i s'.heap ∧ (∀ b ∈ fp, H' b = none) ∧ W i n ys H') ?_ m0 ⟨0, [], H3, J4, st4, fr4, w0⟩
    rintro n s5 ⟨i, ys, H5, I5, st5, fr5, w5⟩
    obtain ⟨hDl, stp⟩ := turn i n ys H5 w5
    rcases stp with ⟨stop, qn⟩ | ⟨go, step⟩
    · refine thn (T.done (blk X scope N' C s3 H3 fp pins) rfl rfl rfl hc i [] s5 _ H5 (fun _ _ => False) I5 (stat fr5) st5 stop) fun r s6 ⟨hr, I6⟩ => ?_
      subst hr
      obtain ⟨m6, ns6, _⟩ := id I6.loc
      have hC5 : H5 C = none := I6.free
      have un6 : Un (frs X.stack) fp H3 H5 s3.heap s6.heap := I6.base
      have IX : Inv X pins σ H5 s6 := by
        refine I3.call' (s' := s6) (ch := fp) I6.os un6 I6.hok I6.bare (fun b hb => ?_)
        exact ⟨(f3 b hb).2.2.2.1, (f3 b hb).2.1, (f3 b hb).2.2.2.2.1, (f3 b hb).2.2.2.2.2⟩
      have fpC : FpOk X pins H5 C := I3.fpOk (Nat.le_of_eq eC) hC5
      obtain ⟨oC, esC, epC, gC, dC, rC⟩ := ns6
      have IXp := IX.pinned (fp := [C]) (fun b hb => by rw [List.mem_singleton.mp hb]; exact fpC) (fun b hb => by rw [List.mem_singleton.mp hb]; exact ⟨oC, gC, fun v z => by rw [dC] at z; cases z⟩)
      have sto := pg_name (pos := pos') hNd hix hLx hf _ s6 σ H5 (.ref D) (.ref D) (fun σ' H' => σ' = σ.set ix (some (.ref D)) ∧ H' = H5) IXp rfl ⟨rfl, rfl⟩
      show wpAny _ _ (assign (.Name nm pos') X.env (.ref D)) _ _ s6
      refine thn sto fun _ s7 ⟨σ7, H7, I7, e7, e7'⟩ => ?_
      subst e7 e7'
      have gC7 : s7.heap.get? C = some oC := (I7.pin (C, oC) (List.mem_append_right _ (List.mem_append_right _ (mem_pinsAt (List.mem_singleton.mpr rfl) gC)))).1
      refine ⟨_, ⟨oC, esC, epC, gC7, dC, rC⟩, fun h' hsb => ⟨σ.set ix (some (.ref D)), _, ?_, qn⟩⟩
      refine (I7.unpinned).call' (s' := { s7 with heap := h' }) (ch := [C]) rfl ⟨fun b o e a1 a2 a3 => ?_, fun b o e a1 a2 a3 => ?_, fun _ _ _ n _ => n, fun b o e a3 => ?_, fun _ _ q => q, fun _ _ _ q => q, fun _ ps q => ⟨#[], by rw [q]; simp⟩⟩ ?_ I7.bare (fun b hb => ?_)
      · exact (hsb.2 b (fun z => a3 (List.mem_singleton.mpr z))).trans e
      · exact ⟨o.slots, (hsb.2 b (fun z => a3 (List.mem_singleton.mpr z))).trans e⟩
      · exact ⟨o, (hsb.2 b (fun z => a3 (List.mem_singleton.mpr z))).trans e⟩
      · intro b u e
        refine (I7.hok b u e).stay (fun c w' hcc q => (hsb.2 c ?_).trans q) (fun _ q => q) fun _ _ q => q
        rintro rfl
        rcases hcc with z | z
        · rw [z, e] at hC5; cases hC5
        · rw [z] at hC5; cases hC5
      · rw [List.mem_singleton.mp hb]
        exact ⟨fpC.2.2.2.1, fpC.2.1, fpC.2.2.2.2.1, fpC.2.2.2.2.2⟩
    · refine thn (T.item (blk X scope N' C s3 H3 fp pins) rfl rfl rfl hc i [] s5 _ H5 (fun _ _ => False) I5 (stat fr5) st5 go) fun r s6 ⟨u, hr, h6⟩ => ?_
      subst hr
      refine thn h6 fun _ s7 ⟨x, H7, I7, r7, y7, st7, fr7⟩ => ?_
      have I7' := I7.pinned (stat fr7) (T.obj _ _ st7)
      refine thn (hg C s3 H3 fp pins _ s7 _ H7 x u _ I7' r7 (step x H7 y7)) fun _ s8 ⟨σ8, H8, I8, d8, q8⟩ => ?_
      refine thn (ht C s3 H3 fp pins _ s8 σ8 H8 _ I8 q8) fun b s9 ⟨H9, I9, q9⟩ => ?_
      have kz : ∀ (j : Nat) v, (List.replicate k none ++ σ)[j]? = some (some v) → σ8[j]? = some (some v) := fun j v e => by
        have hik : ¬ j < k := fun hlt => by
          rw [List.getElem?_append_left (by rw [List.length_replicate]; exact hlt), List.getElem?_replicate] at e
          split at e <;> cases e
        rw [List.getElem?_append_right (by rw [List.length_replicate]; omega), List.length_replicate, ← d8, List.getElem?_drop] at e
        have : k + (j - k) = j := by omega
        rw [this] at e; exact e
      have again : ∀ {Hz : Hp} {sz : Shared} {zs : List V} {m' : Nat}, Inv (blk X scope N' C s3 H3 fp pins) ([] ++ pinsAt fp s7.heap) σ8 Hz sz → m' < n → W (i + 1) m' zs Hz →
          ∃ m, m < n ∧ ∃ i ys H', Inv (blk X scope N' C s3 H3 fp pins) [] (List.replicate k none ++ σ) H' sz ∧ tn i sz.heap ∧ (∀ b ∈ fp, H' b = none) ∧ W i m ys H' := fun {Hz sz zs m'} Iz hm wz => by
        refine ⟨m', hm, i + 1, zs, Hz, (Iz.unpinned).weak ?_ kz, T.keep _ _ _ st7 fun b hb o e => (Iz.pin (b, o) (List.mem_append_right _ (List.mem_append_right _ (mem_pinsAt hb e)))).1, fun b hb => ?_, wz⟩
        · rw [Iz.len]; exact I5.len
        · obtain ⟨o, e, d⟩ := T.obj _ _ st7 b hb
          exact (Iz.pin (b, o) (List.mem_append_right _ (List.mem_append_right _ (mem_pinsAt hb e)))).2.1
      cases b with
      | false =>
        obtain ⟨m', hm, w9⟩ := (show ∃ m', m' < n ∧ W (i + 1) m' ys H9 by simpa using q9)
        rw [if_neg Bool.false_ne_true]
        exact again I9 hm w9
      | true =>
        rw [if_pos rfl] at q9 ⊢
        refine thn (he C s3 H3 fp pins _ s9 σ8 H9 _ I9 q9) fun u9 s10 ⟨y, H10, I10, r10, hz, hD10, m', hm, w10⟩ => ?_
        refine thn (mt_append (X := blk X scope N' C s3 H3 fp pins) _ s10 σ8 H10 (.ref D) [y] (.ref D) [u9] (fun _ H' => H' = upd H10 D (.lst (ys ++ [y]))) I10 rfl (.cons r10 .nil) ⟨D, ys, y, rfl, rfl, hD10, hz, rfl⟩) fun _ s11 ⟨_, H11, I11, _, e11⟩ => ?_
        subst e11
        exact again I11 hm w10
  exact codeAny_compStart_list loop (T.self _ 0 _ _ _ st4 loop)
end
end L2

set_option Elab.async false
set_option linter.all false
set_option maxRecDepth 100000
namespace L2
open PySem PySem.Spec PyProof.Rows
section
variable {X : Cx}
end
section
variable {prog : Program} {w : World} {A : Around} {E : Value → Shared → Prop} {s : Shared} {K : Type} [DecidableEq K] {knd : PySem.KeyKind prog w K}
end

section
variable {X : Cx}
end
end L2

set_option Elab.async false
set_option linter.all false
set_option maxRecDepth 100000
namespace L2
open PySem PySem.Spec PyProof.Rows
section
variable {X : Cx}
end
end L2

set_option Elab.async false
set_option linter.all false
set_option maxRecDepth 100000
namespace L2
open PySem PySem.Spec PyProof.Rows
section
variable {prog : Program} {w : World} {A : Around} {E : Value → Shared → Prop} {s : Shared}
theorem nextOf_tuple_item {it l : Addr} {i : Nat} {items : Array Value} {x : Value} {Q : Value → Shared → Prop} (h1 : s.heap.IsTupleIter it l i) (h2 : s.heap.IsTuple l items) (h3 : items[i]? = some x)
    (h : ∀ h', h'.IsTupleIter it l (i + 1) → Heap.SameBut it s.heap h' → Q x { s with heap := h' }) : wpAny (model prog w) A (Builtin.SmallTypes.nextOf (.ref it)) Q E s := by
  obtain ⟨o, e, c, d⟩ := h1
  obtain ⟨ol, el, cl, n, dl⟩ := h2
  unfold Builtin.SmallTypes.nextOf
  refine wpAny_bind (wpAny_callSpecial?_slot (T := "tuple_iterator") ⟨o, e, c⟩ F.slot_tuple_iterator_next (wpAny_call_entry F.slot_tuple_iterator_next ⟨o, e, c⟩ F.entry_tuple_iterator_next ?_ (F.args_tuple_iterator_next_1 _)))
  unfold Builtin.«tuple_iterator.__next__»
  refine wpAny_bind (wpAny_of_eq (a := (Value.ref it, [])) rfl ?_)
  refine wpAny_bind (wpAny_field (x := .ref l) e d rfl ?_)
  rw [if_neg (show ¬ ((Value.ref l == Value.none) = true) from by simp)]
  refine wpAny_bind (wpAny_field (x := .int (i : Int) 0) e d rfl ?_)
  refine wpAny_bind (wpAny_seqItems el dl ?_)
  dsimp only
  rw [Int.toNat_natCast, h3]
  refine wpAny_bind (wpAny_setField e d (by simp) ?_)
  refine wpAny_pure ⟨x, rfl, wpAny_pure (h _ ⟨_, Heap.get?_update_self _ e (Obj.isFreed_of_fields (Obj.data_mapFields d _)), (Obj.cls_mapFields _ _).trans c, Obj.data_mapFields d _⟩ (Heap.SameBut.update _ _ _))⟩
theorem nextOf_tuple_end {it l : Addr} {i : Nat} {items : Array Value} {Q : Value → Shared → Prop} (hh : A.handled = none) (h1 : s.heap.IsTupleIter it l i) (h2 : s.heap.IsTuple l items) (h3 : items[i]? = none)
    (h : ∀ h' e, Heap.ExtBut it s.heap h' → (∃ o, h'.get? e = some o ∧ o.cls = .type "StopIteration") → E (.ref e) { s with heap := h' }) : wpAny (model prog w) A (Builtin.SmallTypes.nextOf (.ref it)) Q E s := by
  obtain ⟨o, e, c, d⟩ := h1
  obtain ⟨ol, el, cl, n, dl⟩ := h2
  unfold Builtin.SmallTypes.nextOf
  refine wpAny_bind (wpAny_callSpecial?_slot (T := "tuple_iterator") ⟨o, e, c⟩ F.slot_tuple_iterator_next (wpAny_call_entry F.slot_tuple_iterator_next ⟨o, e, c⟩ F.entry_tuple_iterator_next ?_ (F.args_tuple_iterator_next_1 _)))
  unfold Builtin.«tuple_iterator.__next__»
  refine wpAny_bind (wpAny_of_eq (a := (Value.ref it, [])) rfl ?_)
  refine wpAny_bind (wpAny_field (x := .ref l) e d rfl ?_)
  rw [if_neg (show ¬ ((Value.ref l == Value.none) = true) from by simp)]
  refine wpAny_bind (wpAny_field (x := .int (i : Int) 0) e d rfl ?_)
  refine wpAny_bind (wpAny_seqItems el dl ?_)
  dsimp only
  rw [Int.toNat_natCast, h3]
  refine wpAny_bind (wpAny_rule ?_)
  refine wpAny_bind (wpAny_setField e d (by simp) ?_)
  unfold Builtin.SmallTypes.stopIteration
  refine wpAny_bind ?_
  unfold newExc
  refine wpAny_bind (wpAny_newTuple ?_ (by simp))
  refine wpAny_bind (wpAny_bind (wpAny_pure (wpAny_pure ?_)))
  refine wpAny_newObj_type ?_ (sizeOk_excFields _ _ _ _ _ _ _ _)
  unfold raiseNew
  refine wpAny_bind (wpAny_handled ?_)
  rw [show A.in1.handled = none from hh]
  refine wpAny_throw (h _ _ (fun b o hb eb => ?_) ⟨_, Heap.get?_push_size _ rfl, rfl⟩)
  exact Heap.get?_push_of_some _ (Heap.get?_push_of_some _ (((Heap.SameBut.update s.heap it _).2 b hb).trans eb))
theorem tupAt {h h' : Heap} {a l : Addr} {xs : Array Value} (p : h.IsTuple l xs) (sb : Heap.SameBut a h h') (ne : l ≠ a) : h'.IsTuple l xs := by
  obtain ⟨o, e, r⟩ := p
  exact ⟨o, (sb.2 l ne).trans e, r⟩
theorem zipT_next_item {z TI TO i1 i2 l1 l2 : Addr} {k1 k2 : Nat} {xs ys : Array Value} {x y a b : Value} {Q : Value → Shared → Prop} (D : ZipApart z TI TO i1 i2 l1 l2) (hz : IsZip s.heap z TI TO .none) (hTI : IsPair s.heap TI (.ref i1) (.ref i2)) (hTO : IsPair s.heap TO a b)
    (h1 : s.heap.IsTupleIter i1 l1 k1) (h2 : s.heap.IsTupleIter i2 l2 k2) (p1 : s.heap.IsTuple l1 xs) (p2 : s.heap.IsTuple l2 ys) (hx : xs[k1]? = some x) (hy : ys[k2]? = some y)
    (h : ∀ h', IsZip h' z TI TO (rawInt s.heap.objs.size) → IsPair h' TO x y → h'.IsTupleIter i1 l1 (k1 + 1) → h'.IsTupleIter i2 l2 (k2 + 1) → IsPair h' s.heap.objs.size x y → h'.objs.size = s.heap.objs.size + 1 →
      (∀ c o, c ≠ z → c ≠ TO → c ≠ i1 → c ≠ i2 → s.heap.get? c = some o → h'.get? c = some o) → Q (.ref s.heap.objs.size) { s with heap := h' }) :
    wpAny (model prog w) A (Builtin.«zip.__next__» { pos := [.ref z] }) (fun fin s' => ∃ v, fin = Fin.done (.ret v) ∧ Q v s') E s := by
  unfold Builtin.«zip.__next__»
  refine wpAny_bind (wpAny_of_eq (a := (Value.ref z, [])) rfl ?_)
  dsimp only
  refine wpAny_bind (wpAny_field (x := .bool false) hz rfl rfl ?_)
  refine wpAny_bind (wpAny_field (x := .ref TI) hz rfl rfl ?_)
  refine wpAny_bind (wpAny_seqItems hTI rfl ?_)
  dsimp only
  rw [if_neg (by simp)]
  refine wpAny_bind ?_
  unfold Builtin.SmallTypes.ownedTupleIsFree
  refine wpAny_bind (wpAny_field (x := .none) hz rfl rfl (wpAny_pure ?_))
  rw [if_pos rfl]
  refine wpAny_bind (wpAny_rule ?_)
  refine wpAny_bind (wpAny_field (x := .ref TO) hz rfl rfl ?_)
  refine wpAny_bind (wpAny_setField_rec hz (by simp) fun h₁ hz₁ hs₁ => ?_)
  refine wpAny_bind ?_
  show wpAny _ _ (forIn [(Value.ref i1, 0), (Value.ref i2, 1)] (none, ()) _) _ _ _
  rw [List.forIn_cons]
  refine wpAny_bind ?_
  refine wpAny_bind (wpAny_onRaise ?_)
  have ne1 : (Value.bool false == Value.bool true) = true → False := by decide
  refine wpAny_bind (nextOf_tuple_item (h1.extBut hs₁.extBut D.i1z) (tupAt p1 hs₁ D.l1z) hx fun h₂ g1 sb2 => ?_)
  refine wpAny_pure ?_
  have hTO2 : IsPair h₂ TO a b := (sb2.2 _ D.TOi1).trans ((hs₁.2 _ D.TOz).trans hTO)
  refine wpAny_bind (wpAny_seqItems hTO2 rfl ?_)
  refine wpAny_bind (wpAny_updateSeq_pair hTO2 fun h₃ e3 sb3 => ?_)
  refine wpAny_bind (wpAny_letGo ?_)
  refine wpAny_pure ?_
  dsimp only
  have hTO3 : IsPair h₃ TO x b := e3
  rw [List.forIn_cons]
  refine wpAny_bind ?_
  refine wpAny_bind (wpAny_onRaise ?_)
  have h2b : h₃.IsTupleIter i2 l2 k2 := ((h2.extBut hs₁.extBut D.i2z).extBut sb2.extBut D.i12.symm).extBut sb3.extBut D.TOi2.symm
  refine wpAny_bind (nextOf_tuple_item h2b (tupAt (tupAt (tupAt p2 hs₁ D.l2z) sb2 D.l2i1) sb3 D.l2TO) hy fun h₄ g2 sb4 => ?_)
  refine wpAny_pure ?_
  have hTO4 : IsPair h₄ TO x b := (sb4.2 _ D.TOi2).trans hTO3
  refine wpAny_bind (wpAny_seqItems hTO4 rfl ?_)
  refine wpAny_bind (wpAny_updateSeq_pair hTO4 fun h₅ e5 sb5 => ?_)
  refine wpAny_bind (wpAny_letGo ?_)
  refine wpAny_pure ?_
  dsimp only
  have hTO5 : IsPair h₅ TO x y := e5
  rw [List.forIn_nil]
  refine wpAny_pure ?_
  dsimp only
  refine wpAny_bind (wpAny_seqItems hTO5 rfl ?_)
  dsimp only
  refine wpAny_bind (wpAny_newTuple ?_ (by simp [sizeLine_eq]))
  have sz : h₅.objs.size = s.heap.objs.size := sb5.1.trans (sb4.1.trans (sb3.1.trans (sb2.1.trans hs₁.1)))
  have hz5 : h₅.get? z = some { cls := .type "zip", data := .fields #[Value.ellipsis, .bool false, .bool false, .ref TI, .ref TO] } :=
    (sb5.2 _ D.TOz.symm).trans ((sb4.2 _ D.i2z.symm).trans ((sb3.2 _ D.TOz.symm).trans ((sb2.2 _ D.i1z.symm).trans hz₁)))
  have hz6 : (h₅.push { cls := .type "tuple", data := .seq #[x, y] }).get? z = some { cls := .type "zip", data := .fields #[Value.ellipsis, .bool false, .bool false, .ref TI, .ref TO] } := Heap.get?_push_of_some _ hz5
  unfold Builtin.SmallTypes.ownedTupleHandOut
  refine wpAny_bind (wpAny_bind (wpAny_setField_rec hz6 (by simp) fun h₇ e7 sb7 => ?_))
  refine wpAny_setField_rec (k := 1) e7 (by simp) fun h₈ e8 sb8 => ?_
  refine wpAny_pure ⟨_, rfl, ?_⟩
  have szz : z < s.heap.objs.size := Heap.lt_size hz
  have nz : s.heap.objs.size ≠ z := Nat.ne_of_gt szz
  have pz : ∀ c, c ≠ z → h₈.get? c = (h₅.push { cls := .type "tuple", data := .seq #[x, y] }).get? c := fun c hc => (sb8.2 c hc).trans (sb7.2 c hc)
  have old : ∀ c o, c ≠ z → h₅.get? c = some o → h₈.get? c = some o := fun c o hc e => (pz c hc).trans (Heap.get?_push_of_some _ e)
  rw [show ({ s with heap := h₅ } : Shared).heap.objs.size = s.heap.objs.size from sz] at e8 ⊢
  refine h h₈ ?_ (old _ _ D.TOz hTO5) ?_ ?_ ?_ ?_ ?_
  · exact e8
  · exact (g1.at fun o e => old _ _ D.i1z ((sb5.2 _ D.TOi1.symm).trans ((sb4.2 _ D.i12).trans ((sb3.2 _ D.TOi1.symm).trans e))))
  · exact (g2.at fun o e => old _ _ D.i2z ((sb5.2 _ D.TOi2.symm).trans e))
  · have e9 : (h₅.push { cls := .type "tuple", data := .seq #[x, y] }).get? h₅.objs.size = some { cls := .type "tuple", data := .seq #[x, y] } := Heap.get?_push_size _ rfl
    have sz' : h₅.objs.size = s.heap.objs.size := sz
    rw [sz'] at e9
    exact (pz _ nz).trans e9
  · rw [sb8.1, sb7.1, Heap.size_push]
    exact congrArg (· + 1) (show h₅.objs.size = s.heap.objs.size from sz)
  · intro c o c1 c2 c3 c4 e
    exact old c o c1 ((sb5.2 c c2).trans ((sb4.2 c c4).trans ((sb3.2 c c2).trans ((sb2.2 c c3).trans ((hs₁.2 c c1).trans e)))))
theorem pyNext_zipT_item {z TI TO i1 i2 l1 l2 : Addr} {k1 k2 : Nat} {xs ys : Array Value} {x y a b : Value} {Q : Option Value → Shared → Prop} (D : ZipApart z TI TO i1 i2 l1 l2) (hz : IsZip s.heap z TI TO .none) (hTI : IsPair s.heap TI (.ref i1) (.ref i2)) (hTO : IsPair s.heap TO a b)
    (h1 : s.heap.IsTupleIter i1 l1 k1) (h2 : s.heap.IsTupleIter i2 l2 k2) (p1 : s.heap.IsTuple l1 xs) (p2 : s.heap.IsTuple l2 ys) (hx : xs[k1]? = some x) (hy : ys[k2]? = some y)
    (h : ∀ h', IsZip h' z TI TO (rawInt s.heap.objs.size) → IsPair h' TO x y → h'.IsTupleIter i1 l1 (k1 + 1) → h'.IsTupleIter i2 l2 (k2 + 1) → IsPair h' s.heap.objs.size x y → h'.objs.size = s.heap.objs.size + 1 →
      (∀ c o, c ≠ z → c ≠ TO → c ≠ i1 → c ≠ i2 → s.heap.get? c = some o → h'.get? c = some o) → Q (some (.ref s.heap.objs.size)) { s with heap := h' }) :
    wpAny (model prog w) A (pyNext (.ref z)) Q E s := by
  have tz : Shared.TypeIs s (.ref z) "zip" := ⟨_, hz, rfl⟩
  unfold pyNext
  refine wpAny_bind (wpAny_attempt (wpAny_callSpecial?_slot tz F.slot_zip_next (wpAny_call_entry F.slot_zip_next tz F.entry_zip_next ?_ (F.args_zip_next_1 _))))
  refine zipT_next_item D hz hTI hTO h1 h2 p1 p2 hx hy fun h' a1 a2 a3 a4 a5 a6 a7 => ?_
  exact wpAny_pure (h h' a1 a2 a3 a4 a5 a6 a7)
theorem zipT_next_end {z TI TO i1 i2 l1 l2 : Addr} {k1 k2 : Nat} {xs ys : Array Value} {a b : Value} {Q : PySem.Fin → Shared → Prop} (hh : A.handled = none) (D : ZipApart z TI TO i1 i2 l1 l2) (hz : IsZip s.heap z TI TO .none) (hTI : IsPair s.heap TI (.ref i1) (.ref i2)) (hTO : IsPair s.heap TO a b)
    (h1 : s.heap.IsTupleIter i1 l1 k1) (h2 : s.heap.IsTupleIter i2 l2 k2) (p1 : s.heap.IsTuple l1 xs) (p2 : s.heap.IsTuple l2 ys) (hxy : xs[k1]? = none ∨ ys[k2]? = none)
    (h : ∀ h' e, (∀ c o, c ≠ z → c ≠ TO → c ≠ i1 → c ≠ i2 → s.heap.get? c = some o → h'.get? c = some o) → (∃ o, h'.get? e = some o ∧ o.cls = .type "StopIteration") → E (.ref e) { s with heap := h' }) :
    wpAny (model prog w) A (Builtin.«zip.__next__» { pos := [.ref z] }) Q E s := by
  unfold Builtin.«zip.__next__»
  refine wpAny_bind (wpAny_of_eq (a := (Value.ref z, [])) rfl ?_)
  dsimp only
  refine wpAny_bind (wpAny_field (x := .bool false) hz rfl rfl ?_)
  refine wpAny_bind (wpAny_field (x := .ref TI) hz rfl rfl ?_)
  refine wpAny_bind (wpAny_seqItems hTI rfl ?_)
  dsimp only
  rw [if_neg (by simp)]
  refine wpAny_bind ?_
  unfold Builtin.SmallTypes.ownedTupleIsFree
  refine wpAny_bind (wpAny_field (x := .none) hz rfl rfl (wpAny_pure ?_))
  rw [if_pos rfl]
  refine wpAny_bind (wpAny_rule ?_)
  refine wpAny_bind (wpAny_field (x := .ref TO) hz rfl rfl ?_)
  refine wpAny_bind (wpAny_setField_rec hz (by simp) fun h₁ hz₁ hs₁ => ?_)
  refine wpAny_bind ?_
  show wpAny _ _ (forIn [(Value.ref i1, 0), (Value.ref i2, 1)] (none, ()) _) _ _ _
  rw [List.forIn_cons]
  refine wpAny_bind ?_
  refine wpAny_bind (wpAny_onRaise ?_)
  have fin : ∀ (g g' : Heap) (e : Addr) (f0 : Value), Heap.get? g z = some { cls := .type "zip", data := .fields #[f0, .bool false, .bool false, .ref TI, .ref TO] } → (∀ c o, c ≠ z → c ≠ TO → c ≠ i1 → c ≠ i2 → s.heap.get? c = some o → g.get? c = some o) → (∃ o, g.get? e = some o ∧ o.cls = .type "StopIteration") →
      wpAny (model prog w) A (setField (.ref z) 0 .none) (fun _ s'' => E (.ref e) s'') E { s with heap := g } := fun g g' e f0 ez kk he => by
    refine wpAny_setField_rec ez (by simp) fun g2 e2 sb2 => h g2 e (fun c o c1 c2 c3 c4 eo => (sb2.2 c c1).trans (kk c o c1 c2 c3 c4 eo)) ?_
    obtain ⟨o, eo, ec⟩ := he
    exact ⟨o, (sb2.2 e (fun z' => by rw [z', ez] at eo; cases eo; exact absurd (show Value.type "zip" = Value.type "StopIteration" from ec) (by decide +kernel))).trans eo, ec⟩
  cases hx : xs[k1]? with
  | none =>
    refine wpAny_bind (nextOf_tuple_end hh (h1.extBut hs₁.extBut D.i1z) (tupAt p1 hs₁ D.l1z) hx fun h₂ e sb2 he => ?_)
    exact fin h₂ h₂ e _ (sb2 _ _ D.i1z.symm hz₁) (fun c o c1 c2 c3 c4 eo => sb2 _ _ c3 ((hs₁.2 c c1).trans eo)) he
  | some x =>
    have hy : ys[k2]? = none := hxy.resolve_left (fun q => by rw [hx] at q; cases q)
    refine wpAny_bind (nextOf_tuple_item (h1.extBut hs₁.extBut D.i1z) (tupAt p1 hs₁ D.l1z) hx fun h₂ g1 sb2 => ?_)
    refine wpAny_pure ?_
    have hTO2 : IsPair h₂ TO a b := (sb2.2 _ D.TOi1).trans ((hs₁.2 _ D.TOz).trans hTO)
    refine wpAny_bind (wpAny_seqItems hTO2 rfl ?_)
    refine wpAny_bind (wpAny_updateSeq_pair hTO2 fun h₃ e3 sb3 => ?_)
    refine wpAny_bind (wpAny_letGo ?_)
    refine wpAny_pure ?_
    dsimp only
    rw [List.forIn_cons]
    refine wpAny_bind ?_
    refine wpAny_bind (wpAny_onRaise ?_)
    have h2b : h₃.IsTupleIter i2 l2 k2 := ((h2.extBut hs₁.extBut D.i2z).extBut sb2.extBut D.i12.symm).extBut sb3.extBut D.TOi2.symm
    refine wpAny_bind (nextOf_tuple_end hh h2b (tupAt (tupAt (tupAt p2 hs₁ D.l2z) sb2 D.l2i1) sb3 D.l2TO) hy fun h₄ e sb4 he => ?_)
    refine fin h₄ h₄ e _ (sb4 _ _ D.i2z.symm ((sb3.2 _ D.TOz.symm).trans ((sb2.2 _ D.i1z.symm).trans hz₁))) (fun c o c1 c2 c3 c4 eo => sb4 _ _ c4 ((sb3.2 c c2).trans ((sb2.2 c c3).trans ((hs₁.2 c c1).trans eo)))) he
theorem pyNext_zipT_end {z TI TO i1 i2 l1 l2 : Addr} {k1 k2 : Nat} {xs ys : Array Value} {a b : Value} {Q : Option Value → Shared → Prop} (hh : A.handled = none) (D : ZipApart z TI TO i1 i2 l1 l2) (hz : IsZip s.heap z TI TO .none) (hTI : IsPair s.heap TI (.ref i1) (.ref i2)) (hTO : IsPair s.heap TO a b)
    (h1 : s.heap.IsTupleIter i1 l1 k1) (h2 : s.heap.IsTupleIter i2 l2 k2) (p1 : s.heap.IsTuple l1 xs) (p2 : s.heap.IsTuple l2 ys) (hxy : xs[k1]? = none ∨ ys[k2]? = none)
    (h : ∀ h', (∀ c o, c ≠ z → c ≠ TO → c ≠ i1 → c ≠ i2 → s.heap.get? c = some o → h'.get? c = some o) → Q none { s with heap := h' }) :
    wpAny (model prog w) A (pyNext (.ref z)) Q E s := by
  have tz : Shared.TypeIs s (.ref z) "zip" := ⟨_, hz, rfl⟩
  unfold pyNext
  refine wpAny_bind (wpAny_attempt (wpAny_callSpecial?_slot tz F.slot_zip_next (wpAny_call_entry F.slot_zip_next tz F.entry_zip_next ?_ (F.args_zip_next_1 _))))
  refine zipT_next_end hh D hz hTI hTO h1 h2 p1 p2 hxy fun h' e kk he => ?_
  obtain ⟨o, eo, ec⟩ := he
  refine wpAny_bind (wpAny_isInstance (T := "StopIteration") ⟨o, eo, ec⟩ isSubtype_stop ?_)
  rw [if_pos rfl]
  exact wpAny_pure (h h' kk)
theorem call_zipT {l1 l2 : Addr} {xs ys : Array Value} {Q : Value → Shared → Prop} (p1 : s.heap.IsTuple l1 xs) (p2 : s.heap.IsTuple l2 ys)
    (h : ∀ h', IsZip h' (s.heap.objs.size + 4) (s.heap.objs.size + 2) (s.heap.objs.size + 3) .none → IsPair h' (s.heap.objs.size + 2) (.ref s.heap.objs.size) (.ref (s.heap.objs.size + 1)) → IsPair h' (s.heap.objs.size + 3) .none .none →
      h'.IsTupleIter s.heap.objs.size l1 0 → h'.IsTupleIter (s.heap.objs.size + 1) l2 0 → h'.objs.size = s.heap.objs.size + 5 → (∀ c o, s.heap.get? c = some o → h'.get? c = some o) → Q (.ref (s.heap.objs.size + 4)) { s with heap := h' }) :
    wpAny (model prog w) A (call (.type "zip") [.ref l1, .ref l2]) Q E s := by
  have hM : Meets (Builtin.«zip.__new__» { pos := [.type "zip", .ref l1, .ref l2] }) (fun _ R s => s.heap.IsTuple l1 xs ∧ s.heap.IsTuple l2 ys ∧
      ∀ h', IsZip h' (s.heap.objs.size + 4) (s.heap.objs.size + 2) (s.heap.objs.size + 3) .none → IsPair h' (s.heap.objs.size + 2) (.ref s.heap.objs.size) (.ref (s.heap.objs.size + 1)) → IsPair h' (s.heap.objs.size + 3) .none .none →
      h'.IsTupleIter s.heap.objs.size l1 0 → h'.IsTupleIter (s.heap.objs.size + 1) l2 0 → h'.objs.size = s.heap.objs.size + 5 → (∀ c o, s.heap.get? c = some o → h'.get? c = some o) → R (.ok (.ret (.ref (s.heap.objs.size + 4)))) { s with heap := h' }) :=
    .of_wp fun prog w A R s ⟨q1, q2, hq⟩ => by
      unfold Builtin.«zip.__new__»
      refine wpAny_bind ?_
      unfold Builtin.SmallTypes.newClass
      refine wpAny_bind (wpAny_of_eq (a := true) rfl ?_)
      rw [if_neg (by decide)]
      refine wpAny_bind (wpAny_of_eq (a := true) sub_zip ?_)
      rw [if_neg (by decide)]
      refine wpAny_pure ?_
      dsimp only
      rw [if_neg (by decide)]
      refine wpAny_bind ?_
      unfold Builtin.SmallTypes.iterAll
      refine wpAny_bind ?_
      rw [List.forIn_cons]
      refine wpAny_bind (wpAny_bind (wpAny_holding (wpAny_pyIter_tuple q1 (wpAny_pure ?_))))
      dsimp only
      rw [List.forIn_cons]
      have q2' : (s.heap.push { cls := .type "tuple_iterator", data := .fields #[.ref l1, .int 0 0] }).IsTuple l2 ys := by
        obtain ⟨o, e, r⟩ := q2
        exact ⟨o, Heap.get?_push_of_some _ e, r⟩
      refine wpAny_bind (wpAny_bind (wpAny_holding (wpAny_pyIter_tuple q2' (wpAny_pure ?_))))
      dsimp only
      rw [List.forIn_nil]
      refine wpAny_pure (wpAny_pure ?_)
      refine wpAny_bind (wpAny_newTuple ?_ (by simp [sizeLine_eq]))
      refine wpAny_bind (wpAny_newTuple ?_ (by simp [sizeLine_eq]))
      refine wpAny_bind ?_
      unfold Builtin.SmallTypes.newRecord
      refine wpAny_newObj_type ?_ (by simp [PySem.sizeOk, Builtin.SmallTypes.ownedTupleFields, sizeLine_eq])
      refine wpAny_pure ⟨_, rfl, ?_⟩
      have n1 : (s.heap.push { cls := .type "tuple_iterator", data := .fields #[.ref l1, .int 0 0] }).objs.size = s.heap.objs.size + 1 := Heap.size_push _ _
      have n2 : ((s.heap.push { cls := .type "tuple_iterator", data := .fields #[.ref l1, .int 0 0] }).push { cls := .type "tuple_iterator", data := .fields #[.ref l2, .int 0 0] }).objs.size = s.heap.objs.size + 2 := by rw [Heap.size_push, n1]
      generalize hg1 : s.heap.push { cls := .type "tuple_iterator", data := .fields #[.ref l1, .int 0 0] } = g1 at *
      generalize hg2 : g1.push { cls := .type "tuple_iterator", data := .fields #[.ref l2, .int 0 0] } = g2 at *
      show R (.ok (.ret (.ref ((g2.push { cls := .type "tuple", data := .seq #[.ref s.heap.objs.size, .ref g1.objs.size] }).push { cls := .type "tuple", data := .seq #[.none, .none] }).objs.size))) { s with heap := ((g2.push { cls := .type "tuple", data := .seq #[.ref s.heap.objs.size, .ref g1.objs.size] }).push { cls := .type "tuple", data := .seq #[.none, .none] }).push { cls := .type "zip", data := .fields #[.none, .bool false, .bool false, .ref g2.objs.size, .ref (g2.push { cls := .type "tuple", data := .seq #[.ref s.heap.objs.size, .ref g1.objs.size] }).objs.size] } }
      have n3 : (g2.push { cls := .type "tuple", data := .seq #[.ref s.heap.objs.size, .ref g1.objs.size] }).objs.size = s.heap.objs.size + 3 := by rw [Heap.size_push, n2]
      have i1 : g1.get? s.heap.objs.size = some { cls := .type "tuple_iterator", data := .fields #[.ref l1, .int 0 0] } := by rw [← hg1]; exact Heap.get?_push_size _ rfl
      have i2 : g2.get? (s.heap.objs.size + 1) = some { cls := .type "tuple_iterator", data := .fields #[.ref l2, .int 0 0] } := by rw [← hg2, ← n1]; exact Heap.get?_push_size _ rfl
      have i1' : g2.get? s.heap.objs.size = some { cls := .type "tuple_iterator", data := .fields #[.ref l1, .int 0 0] } := by rw [← hg2]; exact Heap.get?_push_of_some _ i1
      have k2 : ∀ c o, s.heap.get? c = some o → g2.get? c = some o := fun c o e => by rw [← hg2, ← hg1]; exact Heap.get?_push_of_some _ (Heap.get?_push_of_some _ e)
      rw [n1]
      rw [n1] at n3
      generalize hg3 : g2.push { cls := .type "tuple", data := .seq #[.ref s.heap.objs.size, .ref (s.heap.objs.size + 1)] } = g3 at *
      have i3 : g3.get? (s.heap.objs.size + 2) = some { cls := .type "tuple", data := .seq #[.ref s.heap.objs.size, .ref (s.heap.objs.size + 1)] } := by rw [← hg3, ← n2]; exact Heap.get?_push_size _ rfl
      have k3 : ∀ c o, g2.get? c = some o → g3.get? c = some o := fun c o e => by rw [← hg3]; exact Heap.get?_push_of_some _ e
      have n4 : (g3.push { cls := .type "tuple", data := .seq #[.none, .none] }).objs.size = s.heap.objs.size + 4 := by rw [Heap.size_push, n3]
      generalize hg4 : g3.push { cls := .type "tuple", data := .seq #[.none, .none] } = g4 at *
      have i4 : g4.get? (s.heap.objs.size + 3) = some { cls := .type "tuple", data := .seq #[.none, .none] } := by rw [← hg4, ← n3]; exact Heap.get?_push_size _ rfl
      have k4 : ∀ c o, g3.get? c = some o → g4.get? c = some o := fun c o e => by rw [← hg4]; exact Heap.get?_push_of_some _ e
      rw [n2, n3, n4]
      have k5 : ∀ c o, g4.get? c = some o → (g4.push { cls := .type "zip", data := .fields #[.none, .bool false, .bool false, .ref (s.heap.objs.size + 2), .ref (s.heap.objs.size + 3)] }).get? c = some o := fun c o e => Heap.get?_push_of_some _ e
      refine hq _ ?_ (k5 _ _ (k4 _ _ i3)) (k5 _ _ i4) ⟨_, k5 _ _ (k4 _ _ (k3 _ _ i1')), rfl, rfl⟩ ⟨_, k5 _ _ (k4 _ _ (k3 _ _ i2)), rfl, rfl⟩ ?_ (fun c o e => k5 _ _ (k4 _ _ (k3 _ _ (k2 _ _ e))))
      · show Heap.get? _ (s.heap.objs.size + 4) = _
        rw [← n4]; exact Heap.get?_push_size _ rfl
      · rw [Heap.size_push, n4]
  refine callType_new F.called_zip (by decide) (F.typeCall_zip_2 _ _) (F.newCall_zip_2 _ _) (fun obj => F.args_object_init_3 _ _ _) F.entry_zip_new hM ⟨p1, p2, fun h' a1 a2 a3 a4 a5 a6 a7 => ?_⟩
  exact ⟨⟨_, a1, rfl⟩, h h' a1 a2 a3 a4 a5 a6 a7⟩
end
end L2
namespace L2
open PySem PySem.Spec PyProof.Rows
theorem sq_ne {X : Cx} {pins : List (Addr × Obj)} {σ : St} {H : Hp} {s : Shared} {a b : Addr} {xs : List V} (I : Inv X pins σ H s) (f : FpOk X pins H b) (q : SqT X.K H a xs) : a ≠ b := fun e => by
  subst e
  rcases q with (q | ⟨o, q⟩) | ⟨o, its, n, hk, _⟩
  · rw [f.1] at q; cases q
  · rw [f.1] at q; cases q
  · have hb := I.ok.mod.kin a o hk
    rcases f.2.2.2.1 with hx | hx
    · exact I.ok.noex a o hb hx
    · exact absurd (Nat.lt_of_lt_of_le (Heap.lt_size hb) (Nat.le_trans I.ok.bsz hx)) (Nat.lt_irrefl _)
def ItzT (K : PySem.W.Frag) (a b : Addr) : It :=
  ⟨fun i H => ∃ xs x ys y, SqT K H a xs ∧ xs[i]? = some x ∧ SqT K H b ys ∧ ys[i]? = some y,
   fun i H v H' => ∃ p x y, v = .ref p ∧ H p = none ∧ H' = upd H p (.tup [x, y]) ∧ (∀ xs, SqT K H a xs → xs[i]? = some x) ∧ ∀ ys, SqT K H b ys → ys[i]? = some y,
   fun i H => ∃ xs ys, SqT K H a xs ∧ SqT K H b ys ∧ (xs.length ≤ i ∨ ys.length ≤ i)⟩
theorem turn_zipT {P : Program} {w : World} {K : PySem.W.Frag} {es : List Expr} {x1} {pos : Pos} (a b z TI TO i1 i2 : Addr) : Turn P w K (.Tuple es x1 pos) (ItzT K a b) [z, TI, TO, i1, i2] z
    (fun i h => IsZip h z TI TO .none ∧ IsPair h TI (.ref i1) (.ref i2) ∧ (∃ u v, IsPair h TO u v) ∧ h.IsTupleIter i1 a i ∧ h.IsTupleIter i2 b i ∧ TI ≠ TO ∧ i1 ≠ i2) where
  mem := by simp
  obj := fun i h ⟨hz, hTI, ⟨u, v, hTO⟩, h1, h2, _⟩ c hc => by
    simp only [List.mem_cons, List.not_mem_nil, or_false] at hc
    rcases hc with rfl | rfl | rfl | rfl | rfl
    · exact ⟨_, hz, fun v q => by cases (show Data.fields _ = Data.cell v from q)⟩
    · exact ⟨_, hTI, fun v q => by cases (show Data.seq _ _ = Data.cell v from q)⟩
    · exact ⟨_, hTO, fun v q => by cases (show Data.seq _ _ = Data.cell v from q)⟩
    · obtain ⟨o, e, _, d⟩ := h1
      exact ⟨o, e, fun v q => by rw [d] at q; cases q⟩
    · obtain ⟨o, e, _, d⟩ := h2
      exact ⟨o, e, fun v q => by rw [d] at q; cases q⟩
  keep := fun i h h' ⟨hz, hTI, ⟨u, v, hTO⟩, h1, h2, n1, n2⟩ k => ⟨k z (by simp) _ hz, k TI (by simp) _ hTI, ⟨u, v, k TO (by simp) _ hTO⟩, h1.at fun o e => k i1 (by simp) o e, h2.at fun o e => k i2 (by simp) o e, n1, n2⟩
  item := by
    intro X hP hw hK hc i pins s σ H E I hf ⟨hz, hTI, ⟨u, v, hTO⟩, h1, h2, n1, n2⟩ hg
    subst hP hw hK
    obtain ⟨xs, x, ys, y, hqa, hx, hqb, hy⟩ := hg
    obtain ⟨its, rv, p, hsz⟩ := I.tuple hqa
    obtain ⟨jts, rw', p', hsz'⟩ := I.tuple hqb
    obtain ⟨ux, hux, rux⟩ := rv.get hx
    obtain ⟨uy, huy, ruy⟩ := rw'.get hy
    have D : ZipApart z TI TO i1 i2 a b := by
      obtain ⟨oa, ea, ca, _, _⟩ := p
      obtain ⟨ob, eb, cb, _, _⟩ := p'
      obtain ⟨o1, e1, c1, _⟩ := h1
      obtain ⟨o2, e2, c2, _⟩ := h2
      have dz : ∀ {c : Addr} {o : Obj} {T : String}, s.heap.get? c = some o → o.cls = .type T → T ≠ "zip" → c ≠ z := fun e q n r => by
        rw [r, hz] at e; cases e; cases q; exact n rfl
      have dT : ∀ {c d : Addr} {o q : Obj} {T U : String}, s.heap.get? c = some o → o.cls = .type T → s.heap.get? d = some q → q.cls = .type U → T ≠ U → c ≠ d := fun e1 c1 e2 c2 n r => by
        subst r; rw [e1] at e2; cases e2; rw [c1] at c2; cases c2; exact n rfl
      exact ⟨dz hTI rfl (by decide), dz hTO rfl (by decide), dz e1 c1 (by decide), dz e2 c2 (by decide), n1, dT hTI rfl e1 c1 (by decide), dT hTI rfl e2 c2 (by decide), dT hTO rfl e1 c1 (by decide), dT hTO rfl e2 c2 (by decide), n2,
        dz ea ca (by decide), sq_ne I (hf TO (by simp)) hqa, dT ea ca e1 c1 (by decide), dT ea ca e2 c2 (by decide), dz eb cb (by decide), sq_ne I (hf TO (by simp)) hqb, dT eb cb e1 c1 (by decide), dT eb cb e2 c2 (by decide)⟩
    refine pyNext_zipT_item D hz hTI hTO h1 h2 (show s.heap.IsTuple a its.toArray from p) (show s.heap.IsTuple b jts.toArray from p') (x := ux) (y := uy) (by simpa using hux) (by simpa using huy) fun h' a1 a2 a3 a4 a5 a6 hk => ?_
    refine ⟨_, rfl, ?_⟩
    refine wpAny_letOwnedTupleGo_zip (s := { s with heap := h' }) a1 fun h2' hz' hs' => ?_
    have lt : ∀ b ∈ [z, TI, TO, i1, i2], b < s.heap.objs.size := fun c hcm => by
      simp only [List.mem_cons, List.not_mem_nil, or_false] at hcm
      rcases hcm with rfl | rfl | rfl | rfl | rfl
      · exact Heap.lt_size hz
      · exact Heap.lt_size hTI
      · exact Heap.lt_size hTO
      · obtain ⟨o, e, _⟩ := h1; exact Heap.lt_size e
      · obtain ⟨o, e, _⟩ := h2; exact Heap.lt_size e
    have hTI2 : IsPair h2' TI (.ref i1) (.ref i2) := hs'.extBut _ _ D.TIz (hk _ _ D.TIz D.TITO D.TIi1 D.TIi2 hTI)
    have hTO2 : IsPair h2' TO ux uy := hs'.extBut _ _ D.TOz a2
    have h12 : h2'.IsTupleIter i1 a (i + 1) := a3.extBut hs'.extBut D.i1z
    have h22 : h2'.IsTupleIter i2 b (i + 1) := a4.extBut hs'.extBut D.i2z
    have pz : s.heap.objs.size ≠ z := Nat.ne_of_gt (Heap.lt_size hz)
    have hp2 : IsPair h2' s.heap.objs.size ux uy := hs'.extBut _ _ pz a5
    have kk : ∀ c o, c ∉ [z, TI, TO, i1, i2] → s.heap.get? c = some o → h2'.get? c = some o := fun c o hcm e => by
      simp only [List.mem_cons, List.not_mem_nil, or_false, not_or] at hcm
      exact hs'.extBut _ _ hcm.1 (hk c o hcm.1 hcm.2.2.1 hcm.2.2.2.1 hcm.2.2.2.2 e)
    have I1 : Inv X pins σ H { s with heap := h2', toks := s.toks } := I.turnedL kk hf
    have fP : FpOk X pins H s.heap.objs.size := I.fpOk (Nat.le_refl _) (I.hok.fresh (Nat.le_refl _))
    have I2 : Inv X pins σ (upd H s.heap.objs.size (.tup [x, y])) { s with heap := h2', toks := s.toks } := by
      refine I1.track I.sz (fP.2.1) fP.2.2.2.2.1 fP.2.2.2.2.2 fP.1 ?_
      exact ⟨(show 2 ≤ sizeLine by decide), [ux, uy], .cons rux (.cons ruy .nil), ⟨_, hp2, rfl, _, rfl⟩⟩
    refine ⟨.ref s.heap.objs.size, _, I2, rfl, ⟨_, x, y, rfl, fP.1, rfl, fun zs hzs => by rw [I.tuple_inj hzs hqa]; exact hx, fun zs hzs => by rw [I.tuple_inj hzs hqb]; exact hy⟩, ⟨hz', hTI2, ⟨_, _, hTO2⟩, h12, h22, n1, n2⟩, fun c hcm => ?_⟩
    rw [upd_ne (Nat.ne_of_lt (lt c hcm))]
    exact (hf c hcm).1
  done := by
    intro X hP hw hK hc i pins s σ H E I hf ⟨hz, hTI, ⟨u, v, hTO⟩, h1, h2, n1, n2⟩ hg
    subst hP hw hK
    obtain ⟨xs, ys, hqa, hqb, hend⟩ := hg
    obtain ⟨its, rv, p, hsz⟩ := I.tuple hqa
    obtain ⟨jts, rw', p', hsz'⟩ := I.tuple hqb
    have D : ZipApart z TI TO i1 i2 a b := by
      obtain ⟨oa, ea, ca, _, _⟩ := p
      obtain ⟨ob, eb, cb, _, _⟩ := p'
      obtain ⟨o1, e1, c1, _⟩ := h1
      obtain ⟨o2, e2, c2, _⟩ := h2
      have dz : ∀ {c : Addr} {o : Obj} {T : String}, s.heap.get? c = some o → o.cls = .type T → T ≠ "zip" → c ≠ z := fun e q n r => by
        rw [r, hz] at e; cases e; cases q; exact n rfl
      have dT : ∀ {c d : Addr} {o q : Obj} {T U : String}, s.heap.get? c = some o → o.cls = .type T → s.heap.get? d = some q → q.cls = .type U → T ≠ U → c ≠ d := fun e1 c1 e2 c2 n r => by
        subst r; rw [e1] at e2; cases e2; rw [c1] at c2; cases c2; exact n rfl
      exact ⟨dz hTI rfl (by decide), dz hTO rfl (by decide), dz e1 c1 (by decide), dz e2 c2 (by decide), n1, dT hTI rfl e1 c1 (by decide), dT hTI rfl e2 c2 (by decide), dT hTO rfl e1 c1 (by decide), dT hTO rfl e2 c2 (by decide), n2,
        dz ea ca (by decide), sq_ne I (hf TO (by simp)) hqa, dT ea ca e1 c1 (by decide), dT ea ca e2 c2 (by decide), dz eb cb (by decide), sq_ne I (hf TO (by simp)) hqb, dT eb cb e1 c1 (by decide), dT eb cb e2 c2 (by decide)⟩
    have e1 := rv.length
    have e2 := rw'.length
    refine pyNext_zipT_end (I.ok.hd hc) D hz hTI hTO h1 h2 (show s.heap.IsTuple a its.toArray from p) (show s.heap.IsTuple b jts.toArray from p') (k1 := i) (k2 := i) (by
      rcases hend with h | h
      · left; simp; omega
      · right; simp; omega) fun h' hk => ⟨rfl, ?_⟩
    exact I.turnedL (t' := s.toks) (fun c o hcm e => by
      simp only [List.mem_cons, List.not_mem_nil, or_false, not_or] at hcm
      exact hk c o hcm.1 hcm.2.2.1 hcm.2.2.2.1 hcm.2.2.2.2 e) hf
  self := fun _ _ _ _ _ st h => wpAny_pyIter_zip st.1 h
section
variable {X : Cx}
def iZipT (K : PySem.W.Frag) (ta : TA) : TI := fun σ H R => ta σ H fun vs H1 => ∃ a b, vs = [.ref a, .ref b] ∧ (∃ xs, SqT K H1 a xs) ∧ (∃ ys, SqT K H1 b ys) ∧ R (ItzT K a b) H1
theorem pi_zipTT {es : List Expr} {x1} {tpos : Pos} {e1 e2 : Expr} {ta : TA} {p pos : Pos} (hg : Gl X "zip") (hm : X.mg "zip" = none) (ha : PA X [e1, e2] ta) (hs : starEach [e1, e2] X.env = [(false, eval e1 X.env), (false, eval e2 X.env)] := by rfl) (hs2 : starEach [e2] X.env = [(false, eval e2 X.env)] := by rfl) :
    PI X (.Tuple es x1 tpos) (.Call (.Name "zip" p) [e1, e2] [] pos) (iZipT X.K ta) := by
  intro pins s σ H R I h
  refine Call_ (ld_blt I hg hm (by rfl) (PyProof.Rows.callWith_type1 (thn (ha pos pins s σ H _ I h) fun us s1 ⟨vs, H1, I1, r1, q1⟩ => ?_) (by rw [hs, hs2]) (by rw [hs2]; rfl)))
  obtain ⟨a, b, rfl, ⟨xs, hqa⟩, ⟨ys, hqb⟩, q⟩ := q1
  obtain ⟨u1, u2, rfl, ru1, ru2⟩ := vals2 r1
  cases (show u1 = Value.ref a from ru1)
  cases (show u2 = Value.ref b from ru2)
  obtain ⟨its, rv, pa, hsz⟩ := I1.tuple hqa
  obtain ⟨jts, rw', pb, hsz'⟩ := I1.tuple hqb
  refine call_zipT (show s1.heap.IsTuple a its.toArray from pa) (show s1.heap.IsTuple b jts.toArray from pb) fun h' hz hTI hTO h1 h2 hsize hk => ?_
  refine wpAny_pyIter_zip (s := { s1 with heap := h' }) hz ?_
  refine ⟨_, _, _, _, H1, rfl, I1.kept (t' := s1.toks) hk, turn_zipT a b (s1.heap.objs.size + 4) (s1.heap.objs.size + 2) (s1.heap.objs.size + 3) s1.heap.objs.size (s1.heap.objs.size + 1), ⟨hz, hTI, ⟨_, _, hTO⟩, h1, h2, (fun z => by have : s1.heap.objs.size + 2 = s1.heap.objs.size + 3 := z; omega), (fun z => by have : s1.heap.objs.size = s1.heap.objs.size + 1 := z; omega)⟩, fun c hc => ?_, q⟩
  have hge : s1.heap.objs.size ≤ c := by
    simp only [List.mem_cons, List.not_mem_nil, or_false] at hc
    rcases hc with h | h | h | h | h <;> (rw [h]; omega)
  exact I1.fpOk hge (I1.hok.fresh hge)
end
end L2

set_option Elab.async false
set_option linter.all false
set_option maxRecDepth 100000
namespace L2
open PySem PySem.Spec PyProof.Rows
def strsL : List Value → List Str → Bool
  | [], [] => true
  | .str x _ :: vs, y :: ys => (x == y) && strsL vs ys
  | _, _ => false
def tupLooks (get : Addr → Option Obj) (ss : List Str) (v : Value) : Bool :=
  match v with
  | .ref b => (match get b with
    | some o => (o.cls == .type "tuple") && (match o.data with | .seq its _ => strsL its.toList ss | _ => false)
    | none => false)
  | _ => false
abbrev TabT (K : PySem.W.Frag) (a : Addr) (D : List (Str × List Str)) : Prop := KTD.tabLook (tupLooks fun b => K.lookup b) (fun b => K.lookup b) a D = true
theorem strsL_flats : ∀ {vs : List Value} {ss : List Str}, strsL vs ss = true → KTD.Flats vs (ss.map PyData.str)
  | [], [], _ => .nil
  | .str x t :: vs, y :: ys, h => by
    have h : ((x == y) && strsL vs ys) = true := h
    rw [Bool.and_eq_true] at h
    have e : x = y := by simpa using h.1
    subst e
    exact .cons (.str x t) (strsL_flats h.2)
theorem flats_vals : ∀ {vs : List Value} {ss : List Str}, KTD.Flats vs (ss.map PyData.str) → Vals (ss.map V.str) vs
  | _, [], h => by cases h; exact .nil
  | _, y :: ys, h => by
    cases h with
    | cons f r => exact .cons (PyProof.V.Flat.str_inv f) (flats_vals r)
theorem flats_len : ∀ {vs : List Value} {ds : List PyData}, KTD.Flats vs ds → vs.length = ds.length
  | _, _, .nil => rfl
  | _, _, .cons _ r => by rw [List.length_cons, List.length_cons, flats_len r]
section
variable {X : Cx} {pins : List (Addr × Obj)} {σ : St} {H : Hp} {s : Shared}
def onlyK (K : PySem.W.Frag) (h : Heap) : Heap := PySem.W.hideAll h ((List.range h.objs.size).filter fun b => (K.lookup b).isNone)
theorem onlyK_get (kin : ∀ a o, X.K.lookup a = some o → s.heap.get? a = some o) {a : Addr} {o : Obj} (h : X.K.lookup a = some o) : (onlyK X.K s.heap).get? a = some o :=
  PySem.W.hideAll_get _ (kin a o h) fun hm => by
    have := (List.mem_filter.mp hm).2
    rw [h] at this; cases this
theorem onlyK_of {a : Addr} {o : Obj} (kin : ∀ a o, X.K.lookup a = some o → s.heap.get? a = some o) (h : (onlyK X.K s.heap).get? a = some o) : X.K.lookup a = some o := by
  have h1 : s.heap.get? a = some o := PySem.W.of_hideAll _ h
  cases hk : X.K.lookup a with
  | some o' => rw [kin a o' hk] at h1; exact h1
  | none =>
    have : (onlyK X.K s.heap).get? a = none := PySem.W.hideAll_none _ (List.mem_filter.mpr ⟨List.mem_range.mpr (Heap.lt_size h1), by rw [hk]; rfl⟩)
    rw [h] at this; cases this
theorem looks_at (kin : ∀ a o, X.K.lookup a = some o → s.heap.get? a = some o) (ss : List Str) (v : Value) (h : tupLooks (fun b => X.K.lookup b) ss v = true) : KTD.Dat.At (onlyK X.K s.heap) (.tup (ss.map PyData.str)) v := by
  unfold tupLooks at h
  split at h
  · rename_i b
    split at h
    · rename_i o ho
      rw [Bool.and_eq_true] at h
      obtain ⟨h1, h2⟩ := h
      split at h2
      · rename_i its n hd
        exact ⟨b, its.toList, rfl, ⟨o, onlyK_get kin ho, by simpa using h1, n, by simpa using hd⟩, strsL_flats h2⟩
      · cases h2
    · cases h
  · cases h
theorem tabT_here (I : Inv X pins σ H s) {a : Addr} {D : List (Str × List Str)} (T : TabT X.K a D) : KTD.Here (onlyK X.K s.heap) s.heap a (D.map fun p => (p.1, KTD.Dat.tup (p.2.map PyData.str))) := by
  have kin : ∀ a o, X.K.lookup a = some o → s.heap.get? a = some o := fun b o e => I.kIn b o e
  obtain ⟨h1, o, es, ep, h2, h3, h4, h5⟩ := KTD.tab_of_look (h := onlyK X.K s.heap) (R := fun (d : List Str) v => KTD.Dat.At (onlyK X.K s.heap) (.tup (d.map PyData.str)) v) (fun d v h => looks_at kin d v h) (fun b o e => onlyK_get kin e) T
  exact ⟨⟨h1, o, es, ep, h2, h3, h4, h5.mono (f := fun d : List Str => KTD.Dat.tup (d.map PyData.str)) (fun d v h => h)⟩, fun b o e => PySem.W.of_hideAll _ e⟩
theorem datumAt_T (k : Str) : ∀ D : List (Str × List Str), KTD.datumAt k (D.map fun p => (p.1, KTD.Dat.tup (p.2.map PyData.str))) = (D.lookup k).map fun ss => KTD.Dat.tup (ss.map PyData.str)
  | [] => rfl
  | (x, d) :: D => by
    rw [List.map_cons, KTD.datumAt, List.lookup_cons, datumAt_T k D]
    by_cases hk : k = x
    · subst hk; simp
    · have : (k == x) = false := beq_eq_false_iff_ne.mpr hk
      simp [hk, this]
def tIxT (td ty : TE) (K : PySem.W.Frag) : TE := fun σ H Q => td σ H fun x H1 => ty σ H1 fun y H2 => ∃ k a D ss, x = V.ref a ∧ y = V.str k ∧ TabT K a D ∧ D.lookup k = some ss ∧ ss.length ≤ 1000 ∧ ∀ b, (∀ H3, SqT K H3 b (ss.map V.str)) → Q (.ref b) H2
theorem pe_ixT {o i : Expr} {pos : Pos} {td ty : TE} (ho : PE X o td) (hi : PE X i ty) (hs : NoSl i) : PE X (.Subscript o i pos) (tIxT td ty X.K) := by
  intro pins s σ H Q I h
  refine subD_of PySem.F.slot_dict_getitem.lookup hs (thn (ho pins s σ H _ I h) fun u s1 ⟨x, H1, I1, rx, q1⟩ => thn (hi pins s1 σ H1 _ I1 q1) fun iv s2 ⟨y, H2, I2, ry, k, a, D, ss, ex, ey, T, l, sb, q2⟩ => ?_)
  subst ex ey
  obtain rfl : u = Value.ref a := rx
  obtain ⟨t, rfl⟩ := (show ∃ t, iv = Value.str k t from ry)
  have hT := tabT_here I2 T
  refine ⟨hT.typeIs, ?_⟩
  have hat : KTD.datumAt k (D.map fun p => (p.1, KTD.Dat.tup (p.2.map PyData.str))) = some (KTD.Dat.tup (ss.map PyData.str)) := by rw [datumAt_T, l]; rfl
  have hmem : KTD.inKeys k (D.map fun p => (p.1, KTD.Dat.tup (p.2.map PyData.str))) = true := by rw [← KTD.isSome_datumAt, hat]; rfl
  unfold getItem
  try with_reducible refine wpAny_holding ?_
  refine wpAny_bind (wpAny_sequenceKey hT.typeIs (by decide) ?_)
  refine wpAny_bind (wpAny_callSpecial?_slot (name := Str.ofString "__getitem__") hT.typeIs slot_dict_getitem
    (wpAny_call_entry slot_dict_getitem hT.typeIs entry_dict_getitem ?_ (args_dict_getitem _ _)))
  show wpAny _ _ (dictGet a (.str k t) >>= _) _ _ s2
  refine wpAny_bind (KTD.dictGet_text hT (fun d v ha hv => wpAny_pure ⟨v, rfl, wpAny_pure ?_⟩) fun hn => absurd hn (KTD.at_of_mem hmem))
  rw [hat] at ha
  cases ha
  obtain ⟨b, vs, rfl, ⟨ob, e1, e2, n, e3⟩, fl⟩ := hv
  have lv : vs.length = ss.length := by have := flats_len fl; rw [List.length_map] at this; exact this
  exact ⟨.ref b, H2, I2.tok _, rfl, q2 b fun _ => (.inr ⟨ob, vs.toArray, n, onlyK_of (fun b o e => I2.kIn b o e) e1, e2, e3, by rw [List.size_toArray, lv]; exact Nat.le_of_lt (sizeOk (by omega)), by simpa using flats_vals fl⟩)⟩
theorem for_zipT {K : PySem.W.Frag} {a b : Addr} {xs ys : List V} {g : TG} {tb : TS} {D : Ends} {σ : St} {H : Hp} (hl : xs.length = ys.length) (Pv : Nat → St → Hp → Prop) (h0 : Pv 0 σ H) (ha : ∀ i σ H, i ≤ xs.length → Pv i σ H → SqT K H a xs ∧ SqT K H b ys)
    (hs : ∀ i x y σ H p, xs[i]? = some x → ys[i]? = some y → Pv i σ H → H p = none → g (.ref p) σ (upd H p (.tup [x, y])) fun σ2 H2 => tb { D with nx := Pv (i + 1), ct := Pv (i + 1), bk := D.nx } σ2 H2) (hd : ∀ σ H, Pv xs.length σ H → D.nx σ H) :
    ∃ W : Nat → Nat → St → Hp → Prop, (∃ m, W 0 m σ H) ∧ ∀ i m σ H, W i m σ H →
      ((ItzT K a b).stop i H ∧ D.nx σ H) ∨ ((ItzT K a b).go i H ∧ ∃ N : St → Hp → Prop, (∀ σ' H', N σ' H' → ∃ m', m' < m ∧ W (i + 1) m' σ' H') ∧ ∀ x H', (ItzT K a b).yld i H x H' → g x σ H' fun σ2 H2 => tb { D with nx := N, ct := N, bk := D.nx } σ2 H2) := by
  refine ⟨fun i m σ H => m = xs.length - i ∧ i ≤ xs.length ∧ Pv i σ H, ⟨_, rfl, Nat.zero_le _, h0⟩, ?_⟩
  rintro i m σ H ⟨rfl, hi, hp⟩
  obtain ⟨qa, qb⟩ := ha i σ H hi hp
  by_cases c : i < xs.length
  · refine .inr ⟨⟨xs, xs[i], ys, ys[i]'(by omega), qa, List.getElem?_eq_getElem c, qb, List.getElem?_eq_getElem (by omega)⟩, Pv (i + 1), fun σ' H' h' => ⟨_, by omega, rfl, by omega, h'⟩, ?_⟩
    rintro v H' ⟨p, x, y, rfl, hpn, rfl, hx, hy⟩
    exact hs i x y σ H p (hx _ qa) (hy _ qb) hp hpn
  · have e : i = xs.length := by omega
    subst e
    exact .inl ⟨⟨xs, ys, qa, qb, .inl (Nat.le_refl _)⟩, hd σ H hp⟩
end
end L2

set_option Elab.async false
set_option linter.all false
set_option maxRecDepth 100000
namespace L2
open PySem PySem.Spec PyProof.Rows
section
variable {X : Cx}
theorem call_range2 : CallR X (.type "range") (fun xs H Q => ∃ i j : Int, xs = [.int i, .int j] ∧ ∀ p, H p = none → Q (.ref p) (upd H p (.rng i j))) := by
  intro pins s σ H xs us Q I r h
  obtain ⟨i, j, rfl, q⟩ := h
  obtain ⟨u, u', rfl, ⟨t, rfl⟩, ⟨t', rfl⟩⟩ := vals2 r
  refine call_range_2 ⟨.ref s.heap.objs.size, _, I.laid (fun b o e => Heap.get?_push_of_some _ e) (Nat.le_refl _) ?_, rfl, q _ (I.hok.fresh (Nat.le_refl _))⟩
  exact ⟨_, _, _, Heap.get?_push_size _ rfl⟩
def intsF (lo : Int) (n : Nat) : List V := (List.range n).map fun (i : Nat) => V.int (lo + (i : Int))
theorem intsF_length (lo : Int) (n : Nat) : (intsF lo n).length = n := by simp [intsF]
theorem intsF_get {lo : Int} {n i : Nat} (h : i < n) : (intsF lo n)[i]? = some (.int (lo + (i : Int))) := by simp [intsF, h]
theorem call_list_rng2 (hc : X.calm = true) : CallR X (.type "list") (fun xs H Q => ∃ p i j, xs = [.ref p] ∧ H p = some (.rng i j) ∧ 0 ≤ i ∧ i ≤ 2 ^ 24 ∧ 0 ≤ j ∧ j ≤ 2 ^ 24 ∧ ∀ l, H l = none → Q (.ref l) (upd H l (.lst (intsF i (j - i).toNat)))) := by
  intro pins s σ H xs us Q I r h
  obtain ⟨p, i0, j, rfl, hp, h2, h3, h0, h1, q⟩ := h
  obtain ⟨u, rfl, ru⟩ := vals1 r
  cases (show u = Value.ref p from ru)
  obtain ⟨t, u, v, e⟩ := (show ObjOk X.prog X.w H s.heap p (.rng i0 j) from I.hok p _ hp)
  have sz : ((j - i0).toNat : Nat) ≤ sizeLine := by rw [sizeLine_eq]; omega
  refine call_list_range (n := (j - i0).toNat) (I.ok.hd hc) e (small_one (by omega) (by omega) (by omega) (by omega)) (by rw [rangeSize_one]; split <;> omega) (by omega) fun h' tk acc c hk hS hi => ?_
  refine ⟨.ref s.heap.objs.size, _, I.laid hk (Nat.le_refl _) ?_, rfl, q _ (I.hok.fresh (Nat.le_refl _))⟩
  refine ⟨by rw [intsF_length]; exact sz, acc.toList, c, vals_of_items (P := fun i v => ∃ t, v = .int (i0 + i * 1) t) (by rw [intsF_length, Array.length_toList]; exact hi.1) (fun i v e => hi.2 i v (by simpa using e)) (fun i v x ⟨t, e⟩ ex => ?_), by simpa using hS⟩
  subst e
  have hlt : i < (j - i0).toNat := by
    have := (List.getElem?_eq_some_iff.mp ex).1
    rw [intsF_length] at this; exact this
  rw [intsF_get hlt] at ex
  cases ex
  exact ⟨t, by congr 1; omega⟩
end
end L2

set_option Elab.async false
set_option linter.all false
set_option maxRecDepth 100000
namespace L2
open PySem PySem.Spec PyProof.Rows
mutual
def DV (K : PySem.W.Frag) (H : Hp) : PyData → V → Prop
  | .none, v => v = .non
  | .bool b, v => v = .bl b
  | .int i, v => v = .int i
  | .str x, v => v = .str x
  | .list ds, v => ∃ (a : Addr) (xs : List V), v = .ref a ∧ SqL K H a xs ∧ DVs K H ds xs
  | .tuple ds, v => ∃ (a : Addr) (xs : List V), v = .ref a ∧ SqT K H a xs ∧ DVs K H ds xs
  | .dict _, _ => False
def DVs (K : PySem.W.Frag) (H : Hp) : List PyData → List V → Prop
  | [], xs => xs = []
  | d :: ds, xs => ∃ v r, xs = v :: r ∧ DV K H d v ∧ DVs K H ds r
end
section
variable {X : Cx} {pins : List (Addr × Obj)} {s : Shared} {σ : St} {H : Hp}
mutual
theorem DV.reads (I : Inv X pins σ H s) : ∀ (d : PyData) (v : V) (u : Value), DV X.K H d v → RelV v u → ∃ as, Reads s.heap u d as
  | .none, v, u, h, r => by
    unfold DV at h; subst h; cases (show u = Value.none from r); exact ⟨[], .none⟩
  | .bool b, v, u, h, r => by
    unfold DV at h; subst h; cases (show u = Value.bool b from r); exact ⟨[], .bool b⟩
  | .int i, v, u, h, r => by
    unfold DV at h; subst h; obtain ⟨t, e⟩ := (show ∃ t, u = Value.int i t from r); subst e; exact ⟨[], .int i t⟩
  | .str x, v, u, h, r => by
    unfold DV at h; subst h; obtain ⟨t, e⟩ := (show ∃ t, u = Value.str x t from r); subst e; exact ⟨[], .str x t⟩
  | .list ds, v, u, h, r => by
    unfold DV at h
    obtain ⟨a, xs, rfl, hs, hd⟩ := h
    cases (show u = Value.ref a from r)
    obtain ⟨its, r2, ⟨o, n, e, c, d, dd⟩, hz⟩ := I.list hs
    obtain ⟨as, ra⟩ := DVs.reads I ds xs its hd r2
    exact ⟨a :: as, .list e c dd (by simpa using ra)⟩
  | .tuple ds, v, u, h, r => by
    unfold DV at h
    obtain ⟨a, xs, rfl, hs, hd⟩ := h
    cases (show u = Value.ref a from r)
    obtain ⟨its, r2, ⟨o, e, c, n, dd⟩, hz⟩ := I.tuple hs
    obtain ⟨as, ra⟩ := DVs.reads I ds xs its hd r2
    exact ⟨as, .tuple e c dd (by simpa using ra)⟩
  | .dict _, v, u, h, r => by unfold DV at h; exact h.elim
theorem DVs.reads (I : Inv X pins σ H s) : ∀ (ds : List PyData) (xs : List V) (us : List Value), DVs X.K H ds xs → Vals xs us → ∃ as, ReadsAll s.heap us ds as
  | [], xs, us, h, r => by
    unfold DVs at h; subst h; cases r; exact ⟨[], .nil⟩
  | d :: ds, xs, us, h, r => by
    unfold DVs at h
    obtain ⟨v, r', rfl, h1, h2⟩ := h
    cases r with
    | cons ru rs =>
      obtain ⟨as, ra⟩ := DV.reads I d v _ h1 ru
      obtain ⟨bs, rb⟩ := DVs.reads I ds r' _ h2 rs
      exact ⟨as ++ bs, .cons ra rb⟩
end
def rDat (K : PySem.W.Frag) (neg : Bool) : R2 := fun x y H Q => ∃ (d e : PyData), DV K H d x ∧ DV K H e y ∧ SeqAt.shaped d = true ∧ SeqAt.shaped e = true ∧ Q (.bl (if neg then !PyData.eqv d e else PyData.eqv d e)) H
theorem op_eqD {X : Cx} (hu : X.A.units + 64 < cLine) : OpR X (compareOp .Eq) (rDat X.K false) := by
  intro pins s σ H x y u v Q I rx ry h
  obtain ⟨d, e, hd, he, sd, se, q⟩ := h
  obtain ⟨as, ra⟩ := DV.reads I d x u hd rx
  obtain ⟨bs, rb⟩ := DV.reads I e y v he ry
  exact eq_dataH ra rb sd se hu (fin_bl I q (by simp))
theorem op_neD {X : Cx} (hu : X.A.units + 64 < cLine) : OpR X (compareOp .NotEq) (rDat X.K true) := by
  intro pins s σ H x y u v Q I rx ry h
  obtain ⟨d, e, hd, he, sd, se, q⟩ := h
  obtain ⟨as, ra⟩ := DV.reads I d x u hd rx
  obtain ⟨bs, rb⟩ := DV.reads I e y v he ry
  exact ne_dataH ra rb sd se hu (fin_bl I q (by simp))
end
theorem canLayAll_map {α : Type} (f : α → PyData) : ∀ (l : List α), (∀ x ∈ l, (f x).canLay0 = true) → PyData.canLayAll0 (l.map f) = true
  | [], _ => rfl
  | x :: l, h => by
    rw [List.map_cons, PyData.canLayAll0, h x List.mem_cons_self, canLayAll_map f l fun y hy => h y (List.mem_cons_of_mem _ hy)]; rfl
theorem depthAll_map {α : Type} (f : α → PyData) (n : Nat) : ∀ (l : List α), (∀ x ∈ l, (f x).depth ≤ n) → PyData.depthAll (l.map f) ≤ n
  | [], _ => Nat.zero_le _
  | x :: l, h => by
    rw [List.map_cons, PyData.depthAll]
    exact Nat.max_le.mpr ⟨h x List.mem_cons_self, depthAll_map f n l fun y hy => h y (List.mem_cons_of_mem _ hy)⟩
theorem DVs.map {α : Type} {K : PySem.W.Frag} {H : Hp} (f : α → PyData) (g : α → V) : ∀ (l : List α), (∀ x ∈ l, DV K H (f x) (g x)) → DVs K H (l.map f) (l.map g)
  | [], _ => by show DVs K H [] []; unfold DVs; rfl
  | x :: l, h => by
    show DVs K H (f x :: l.map f) (g x :: l.map g)
    unfold DVs
    exact ⟨_, _, rfl, h x List.mem_cons_self, DVs.map f g l fun y hy => h y (List.mem_cons_of_mem _ hy)⟩
theorem shaped_of {d : PyData} (h1 : d.canLay0 = true) (h2 : d.depth ≤ 64) : SeqAt.shaped d = true := by unfold SeqAt.shaped; rw [h1, decide_eq_true h2]; rfl
section
variable {X : Cx}
end
end L2

set_option Elab.async false
set_option linter.all false
set_option maxRecDepth 100000
namespace L2
open PySem PySem.Spec PyProof.Rows
def CXr (P : Program) (w : World) : CXT := fun outer H s E e s' => ∃ (a : Addr) (C a0 : Value) (H' : Hp) (B : Heap), e = .ref a ∧ Heap.FlyingW B outer a C a0 s'.heap ∧ s'.os = s.os ∧ AllBare s'.gens ∧ Un (frs outer) [] H H' s.heap s'.heap ∧
  (∀ b o, s.heap.get? b = some o → H b = none → b ∉ frs outer → B.get? b = some o) ∧ (∀ b o, s.heap.get? b = some o → b ∉ frs outer → ∃ o', B.get? b = some o') ∧ HOk P w H' B ∧ E C (some a) H'
theorem funFrames_hide {h base : Heap} : ∀ {l : List Env} {m : List Addr}, h.FunFrames base l → (∀ b ∈ frs l, b ∈ m) → h.FunFrames (PySem.W.hideAll h m) l
  | [], _, _, _ => trivial
  | env :: r, m, ⟨hk, ⟨L, o, hf, hn, ho, hd⟩, hr⟩, hs => ⟨hk, ⟨L, o, hf, PySem.W.hideAll_none m (hs L (by unfold frs; rw [List.filterMap_cons, hf]; exact List.mem_cons_self)), ho, hd⟩, funFrames_hide hr fun b hb => hs b (by unfold frs; rw [List.filterMap_cons, hf]; exact List.mem_cons_of_mem _ hb)⟩
theorem hok_hide {P : Program} {w : World} {H : Hp} {h : Heap} {m : List Addr} (ok : HOk P w H h) (hm : ∀ b ∈ m, H b = none) : HOk P w H (PySem.W.hideAll h m) := fun a o e =>
  (ok a o e).stay (fun b u hb q => PySem.W.hideAll_get m q fun z => by
    have n := hm b z
    rcases hb with hb | hb
    · rw [hb, e] at n; cases n
    · rw [hb] at n; cases n) (fun _ q => q) fun _ _ q => q
section
variable {P : Program} {w : World} {K : PySem.W.Frag} {mg : Str → Option Value} {base : Heap} {N : List Str} {qual : Str} {scope : Scope} {f : Addr} {cd : Value} {A : Around} {outer : List Env} {s₀ : Shared} {H₀ : Hp} {E : XK}
theorem raise_leaves {pins : List (Addr × Obj)} {σ : St} {H : Hp} {s : Shared} {h1 : Heap} {e : Addr} {C : Value} {args : List Value}
    (I : Inv (cxOf (CXr P w) P w K mg base N qual scope f cd A outer s₀ H₀ E) pins σ H s) (hm : Heap.MadeExcOf s.heap h1 e C args) (hE : E C (some e) H) :
    (cxOf (CXr P w) P w K mg base N qual scope f cd A outer s₀ H₀ E).xe (.ref e) { s with heap := h1 } := by
  have nox : ∀ b : Addr, b ∉ ([] : List Addr) := fun b z => nomatch z
  have hst : ∀ b ∈ frs (envOfC qual scope s₀.heap.objs.size f cd :: outer), H b = none := fun b hb => I.stkFree b hb
  have nfr : ∀ b o, s₀.heap.get? b = some o → b ∉ frs outer → b ∉ frs (envOfC qual scope s₀.heap.objs.size f cd :: outer) := fun b o eb hb z => by
    rcases List.mem_cons.mp (show b ∈ s₀.heap.objs.size :: frs outer from z) with z | z
    · exact absurd (Heap.lt_size eb) (by rw [z]; exact Nat.lt_irrefl _)
    · exact hb z
  refine wpAny_leaves_madeW (base := PySem.W.hideAll s.heap (frs (envOfC qual scope s₀.heap.objs.size f cd :: outer))) (h := s.heap) I.ok.frames rfl (fun b o q => PySem.W.of_hideAll _ q) (funFrames_hide I.stack fun _ hb => hb) hm fun h' t fl _ _ ups => ?_
  refine ⟨e, C, .ref t, H, _, rfl, fl, I.os, I.bare, ⟨fun b o q n hb _ => ?_, fun b o q n hb hx => ?_, fun b o q n hx => I.base.free b o q n (nox b), fun b o q hx => ?_, I.base.tups, I.base.frzs, I.base.tbls⟩, fun b o q n hb => ?_, fun b o q hb => ?_, hok_hide I.hok hst, hE⟩
  · exact fl.1 b o (PySem.W.hideAll_get _ (I.base.keep b o q n hb (nox b)) (nfr b o q hb))
  · obtain ⟨sl, e1⟩ := I.base.slot b o q n hb (nox b)
    obtain ⟨_, o2, ho2, hnf⟩ := I.stack.mem (show b ∈ frs (envOfC qual scope s₀.heap.objs.size f cd :: outer) from List.mem_cons_of_mem _ hb)
    rw [e1] at ho2
    cases ho2
    obtain ⟨sl2, e2⟩ := ups b _ (hm.keeps b _ e1) hnf
    exact ⟨sl2, e2⟩
  · obtain ⟨o', e1⟩ := I.base.there b o q (nox b)
    by_cases hb : b ∈ frs (envOfC qual scope s₀.heap.objs.size f cd :: outer)
    · obtain ⟨_, o2, ho2, hnf⟩ := I.stack.mem hb
      obtain ⟨sl2, e2⟩ := ups b _ (hm.keeps b _ ho2) hnf
      exact ⟨_, e2⟩
    · exact ⟨o', fl.1 b o' (PySem.W.hideAll_get _ e1 hb)⟩
  · exact PySem.W.hideAll_get _ (I.base.keep b o q n hb (nox b)) (nfr b o q hb)
  · obtain ⟨o', e1⟩ := I.base.there b o q (nox b)
    exact ⟨o', PySem.W.hideAll_get _ e1 (nfr b o q hb)⟩
theorem passR : Passes (CXr P w) (cxOf (CXr P w) P w K mg base N qual scope f cd A outer s₀ H₀ E) E := by
  intro pins σ H s e s' I h
  obtain ⟨a, C, a0, H', B, rfl, fl, os, bare, un, kb, tb, hok, hE⟩ := h
  have nox : ∀ b : Addr, b ∉ ([] : List Addr) := fun b z => nomatch z
  have nfr : ∀ b o, s₀.heap.get? b = some o → b ∉ frs outer → b ∉ frs (envOfC qual scope s₀.heap.objs.size f cd :: outer) := fun b o eb hb z => by
    rcases List.mem_cons.mp (show b ∈ s₀.heap.objs.size :: frs outer from z) with z | z
    · exact absurd (Heap.lt_size eb) (by rw [z]; exact Nat.lt_irrefl _)
    · exact hb z
  refine wpAny_leaves_onW I.ok.frames rfl fl fun h' fl' ups => ?_
  refine ⟨a, C, a0, H', B, rfl, fl', os.trans I.os, bare, ⟨fun b o q n hb _ => ?_, fun b o q n hb hx => ?_, fun b o q n hx => ?_, fun b o q hx => ?_, fun b xs q => un.tups b xs (I.base.tups b xs q), fun b o u q => un.frzs b o u (I.base.frzs b o u q), fun b ps q => ?_⟩, fun b o q n hb => ?_, fun b o q hb => ?_, hok, hE⟩
  · exact fl'.1 b o (kb b o (I.base.keep b o q n hb (nox b)) (I.base.free b o q n (nox b)) (nfr b o q hb))
  · obtain ⟨sl, e1⟩ := I.base.slot b o q n hb (nox b)
    obtain ⟨sl2, e2⟩ := un.slot b _ e1 (I.base.free b o q n (nox b)) (List.mem_cons_of_mem _ hb) (nox b)
    obtain ⟨_, o2, ho2, hnf⟩ := fl.2.2.1.mem (show b ∈ frs (envOfC qual scope s₀.heap.objs.size f cd :: outer) from List.mem_cons_of_mem _ hb)
    rw [e2] at ho2
    cases ho2
    obtain ⟨sl3, e3⟩ := ups b _ e2 hnf
    exact ⟨sl3, e3⟩
  · obtain ⟨sl, e1⟩ := I.base.any q n (nox b)
    exact un.free b _ e1 (I.base.free b o q n (nox b)) (nox b)
  · obtain ⟨o1, e1⟩ := I.base.there b o q (nox b)
    by_cases hb : b ∈ frs (envOfC qual scope s₀.heap.objs.size f cd :: outer)
    · obtain ⟨_, o2, ho2, hnf⟩ := fl.2.2.1.mem hb
      obtain ⟨sl2, e2⟩ := ups b _ ho2 hnf
      exact ⟨_, e2⟩
    · obtain ⟨o2, e2⟩ := tb b o1 e1 hb
      exact ⟨o2, fl'.1 b o2 e2⟩
  · obtain ⟨more, e1⟩ := I.base.tbls b ps q
    obtain ⟨more2, e2⟩ := un.tbls b _ e1
    exact ⟨more ++ more2, by rw [← Array.append_assoc]; exact e2⟩
  · exact kb b o (I.base.keep b o q n hb (nox b)) (I.base.free b o q n (nox b)) (nfr b o q hb)
  · obtain ⟨o1, e1⟩ := I.base.there b o q (nox b)
    exact tb b o1 e1 (nfr b o q hb)
end
end L2
namespace L2
open PySem PySem.Spec PyProof.Rows
theorem excObj {K : PySem.W.Frag} {hp : Heap} {C : Addr} {tail : List Value} {mk : String} (inn : K.In hp) (isx : PySem.W.excIn K C tail mk = true) :
    ∃ up ns nm qn bs hd sn sub ab col dd x0 x1 x2 x3 x5 names, hp.get? C = some (excClassObj nm qn C ns bs up hd sn sub ab col dd x0 x1 x2 x3 x5 mk) ∧ hp.Ns ns names ∧ names "__init__" = none ∧ OwnTail hp tail up := by
  unfold PySem.W.excIn at isx
  split at isx
  case h_2 => exact absurd isx Bool.false_ne_true
  rename_i dd cls slots found
  split at isx
  case h_2 => exact absurd isx Bool.false_ne_true
  rename_i C2 up x0 x1 x2 x3 nw x5 mroIs slotsIs
  rw [Bool.and_eq_true, Bool.and_eq_true, Bool.and_eq_true, Bool.and_eq_true, Bool.and_eq_true] at isx
  have p1 : C2 = C := eq_of_beq isx.1.1.1.1.1
  have p2 : nw = mk := eq_of_beq isx.1.1.1.1.2
  have p3 : cls.hasDel = false := by simpa using isx.1.1.1.2
  have p6 : PySem.W.nsIn K cls.ns "__init__" = some none := eq_of_beq isx.2
  have ob := inn _ _ found
  have sl : slots = #[x0, x1, x2, x3, some (.builtin nw), x5] := by rw [← slotsIs]
  cases cls
  simp only at mroIs p3
  rw [mroIs, p3, sl, p1, p2] at ob
  exact ⟨up, _, _, _, _, _, _, _, _, _, _, x0, x1, x2, x3, x5, _, ob, .of_isNs (PySem.W.isNs_of_in inn isx.1.2), PySem.W.nsMap_none_of_in inn isx.1.2 p6, PySem.W.tail_of_in inn isx.1.1.2⟩
def Raises (X : Cx) (E : XK) : Prop := ∀ (pins : List (Addr × Obj)) (σ : St) (H : Hp) (s : Shared) (h1 : Heap) (e : Addr) (C : Value) (args : List Value), Inv X pins σ H s → Heap.MadeExcOf s.heap h1 e C args → E C (some e) H → X.xe (.ref e) { s with heap := h1 }
theorem raisesR {P : Program} {w : World} {K : PySem.W.Frag} {mg : Str → Option Value} {base : Heap} {N : List Str} {qual : Str} {scope : Scope} {f : Addr} {cd : Value} {A : Around} {outer : List Env} {s₀ : Shared} {H₀ : Hp} {E : XK} :
    Raises (cxOf (CXr P w) P w K mg base N qual scope f cd A outer s₀ H₀ E) E := fun _ _ _ _ _ _ _ _ I hm hE => raise_leaves I hm hE
def sRaise (E : XK) (C : Addr) (t : TE) : TS := fun D σ H => t σ H fun _ H1 => ∀ e, E (.ref C) (some e) H1
abbrev veTail : List Value := [.type "ValueError", .type "Exception", .type "BaseException", .type "object"]
section
variable {X : Cx} {E : XK} {C : Addr} {x : Str} {np cpos pos : Pos} {e₀ : Expr} {t : TE}
theorem ps_raise (hx : Raises X E) (hc : X.calm = true) (hg : Gl X x) (hm : X.mg x = some (.ref C)) (isx : PySem.W.excIn X.K C veTail "ValueError.__new__" = true) (ha : PE X e₀ t) (hdb : (x == ("__debug__" : Str)) = false := by decide)
    (he : starEach [e₀] X.env = [(false, eval e₀ X.env)] := by rfl) : PS X (.Raise (some (.Call (.Name x np) [e₀] [] cpos)) none pos) (sRaise E C t) := by
  intro pins s σ H D I h
  obtain ⟨up, ns, nm, qn, bs, hd, sn, sub, ab, col, dd, x0, x1, x2, x3, x5, names, hC, hN, hni, T⟩ := excObj I.mod.kin isx
  refine wpAny_Raise_call_subT (C := C) (nm := nm) (q := qn) (N := ns) (bs := bs) (bm := up) (hdct := hd) (sn := sn) (sub := sub) (ab := ab) (col := col) (dd := dd) (k0 := x0) (k1 := x1) (k2 := x2) (k3 := x3) (k5 := x5) (mN := names)
    PySem.F.excBase_ValueError (T.hasType PySem.F.excBase_ValueError.hasBase) (I.ok.hd hc) (by rw [he]; rfl) hni (ld_glob I hg hm ⟨rfl, ?_⟩ hdb)
  rw [he]
  refine Calls.evalArgs_plain (Calls.spliced_cons (thn (ha pins s σ H _ I h) fun u s1 ⟨v, H1, I1, r, q⟩ => Calls.spliced_nil ?_))
  exact ⟨rfl, (show 1 ≤ sizeLine by decide), I1.bk _ _ hC, hN.keeps I1.bk, T.keeps I1.bk, fun h' e hm => hx pins σ H1 s1 h' e _ _ I1 hm (q e)⟩
end
section
variable {P : Program} {w : World} {K : PySem.W.Frag} {mg : Str → Option Value} {base : Heap}
theorem Fun.okR {x qual : Str} {st : Stmt} {f : Addr} {fd : FuncData} {N ps : List Str} {k : Nat} {sp : Sp} (F : Fun K x qual st f fd) (S : FnScope N ps (defScope st)) (len : ∀ vs H Q E, sp vs H Q E → vs.length = ps.length)
    (hbody : ∀ (cdv : Value) (A : Around) (outer : List Env) (s : Shared) (H : Hp) (vs : List V) (Q : VK) (E : XK), Room k (A.deeper (envOfC qual (defScope st) s.heap.objs.size f cdv)) → sp vs H Q E →
      ∃ t, PSs (cxOf (CXr P w) P w K mg base N qual (defScope st) f cdv A outer s H E) (defBody st) t ∧ t { nx := fun _ H' => Q .non H', rt := Q } (start N vs) H) : FnOk P w K mg base (CXr P w) (k + 1) f fd ps sp := by
  obtain ⟨oc, od, kV, doc, pm, an, cdv, ct, osl, rfl, lk, hcd⟩ := F.ex
  exact fn_of lk hcd S len fun A outer s H vs Q E hr hsp => hbody cdv A outer s H vs Q E hr hsp
end
end L2
namespace L2
open PySem PySem.Spec PyProof.Rows
abbrev TJ := Str → St → Hp → VK → Prop
section
variable {X : Cx} {e v1 v2 : Expr} {es : List Expr} {te : TE} {tr : TJ} {pos : Pos}
def PJ (X : Cx) (es : List Expr) (t : TJ) : Prop := ∀ (pins : List (Addr × Obj)) (s : Shared) (σ : St) (H : Hp) (acc : Str) (Q : VK), Inv X pins σ H s → t acc σ H Q →
  Joins (model X.prog X.w) X.A X.xe (evalEach es X.env) acc (fun out s1 => out.length ≤ sizeLine ∧ EP X pins σ Q (.str out s1.toks) { s1 with toks := s1.toks + 1 }) s
def tJ0 : TJ := fun acc σ H Q => acc.length ≤ sizeLine ∧ Q (.str acc) H
def tJ1 (te : TE) (tr : TJ) : TJ := fun acc σ H Q => te σ H fun v H1 => ∃ y, v = .str y ∧ (acc ++ y).length ≤ sizeLine ∧ tr (acc ++ y) σ H1 Q
theorem pj_nil : PJ X [] tJ0 := fun pins s σ H acc Q I h => ⟨h.1, .str acc, H, I.tok _, ⟨_, rfl⟩, h.2⟩
theorem pj_cons (h1 : PE X e te) (h2 : PJ X es tr) : PJ X (e :: es) (tJ1 te tr) := fun pins s σ H acc Q I h => by
  refine thn (h1 pins s σ H _ I h) fun u s1 ⟨v, H1, I1, r, y, ey, hz, q⟩ => ?_
  subst ey
  obtain ⟨t, rfl⟩ := r
  exact ⟨y, t, rfl, hz, h2 pins s1 σ H1 _ Q I1 q⟩
theorem pe_joined (h : PJ X (v1 :: v2 :: es) tr) : PE X (.JoinedStr (v1 :: v2 :: es) pos) (fun σ H Q => tr Str.empty σ H Q) := fun pins s σ H Q I hh => wpAny_JoinedStr (h pins s σ H _ Q I hh)
def tFmt (te : TE) : TE := fun σ H Q => te σ H fun v H1 => (∃ y, v = .str y ∧ y.length ≤ sizeLine ∧ Q (.str y) H1) ∨ ∃ i : Int, v = .int i ∧ i.natAbs.log2 < 1920 ∧ Q (.str (toString i)) H1
theorem pe_fmt (h : PE X e te) : PE X (.FormattedValue e (-1) none pos) (tFmt te) := fun pins s σ H Q I hh => by
  refine wpAny_FormattedValue_plain (thn (h pins s σ H _ I hh) fun u s1 ⟨v, H1, I1, r, q⟩ => ?_)
  rcases q with ⟨y, rfl, hz, q⟩ | ⟨i, rfl, hz, q⟩
  · obtain ⟨t, rfl⟩ := r
    exact wpAny_formatField_str ⟨.str y, H1, I1, ⟨_, rfl⟩, q⟩ ⟨.str y, H1, I1.tok _, ⟨_, rfl⟩, q⟩ hz
  · obtain ⟨t, rfl⟩ := r
    exact wpAny_formatField_int hz ⟨.str (toString i), H1, (I1.tok _).tok _, ⟨_, rfl⟩, q⟩
end
end L2

set_option Elab.async false
set_option linter.all false
set_option maxRecDepth 100000
namespace L2
open PySem PySem.Spec PyProof.Rows PySem.Calls
def ExcAt (x D : Addr) (h : Heap) : Prop := ∃ o vs, h.get? x = some o ∧ o.cls = .ref D ∧ o.data = .fields vs
theorem ExcAt.ty {M : Model} {x D : Addr} {h : Heap} (p : ExcAt x D h) : PySem.W.Looks M h (typeOf (.ref x)) (.ref D) := by
  obtain ⟨o, vs, h1, h2, _⟩ := p
  exact h2 ▸ (PySem.W.Looks.ld h1).andThen .now
structure ExcCls (K : PySem.W.Frag) (D : Addr) : Prop where
  ga : PySem.W.findIn K (.ref D) "__getattribute__" = some (some (.builtin "BaseException.__getattribute__"))
  gh : PySem.W.findIn K (.ref D) "__getattr__" = some none
  be : PySem.W.mroIn K D (.type "BaseException") = some true
  hd : PySem.W.hasDictIn K D = true
  at_ : PySem.W.findIn K (.ref D) "__class__" = some (some (.builtin "object.__class__"))
  gt : PySem.W.specialIn K (.builtin "object.__class__") "__get__" = some (some (.builtin "getset_descriptor.__get__"))
  tk : PySem.W.takesIn K (.builtin "object.__class__") = some true
  ob : PySem.W.mroIn K D (.type "object") = some true
section
variable {K : PySem.W.Frag} {x D : Addr}
open PySem.W Builtin Builtin.ObjectAttr in
theorem exc_find {M : Model} {h : Heap} (c : ExcCls K D) (X : K.In h) : Looks M h (find (.ref x) (.ref D) "__class__") (Found.bind (.builtin "getset_descriptor.__get__") (.builtin "object.__class__")) := by
  have l1 := looks_findIn (M := M) X c.at_
  have l2 : Looks M h (getOf (some (.builtin "object.__class__"))) (some (.builtin "getset_descriptor.__get__")) := looks_specialIn X c.gt
  have l3 := looks_takesIn (M := M) X c.tk
  have l4 : Looks M h (dataDescriptor? (some (.builtin "object.__class__")) (some (.builtin "getset_descriptor.__get__"))) (some (.builtin "getset_descriptor.__get__", .builtin "object.__class__")) := l3.andThen .now
  exact l1.andThen (l2.andThen (l4.andThen (Looks.tag .now)))
open PySem.W Builtin Builtin.ObjectAttr Builtin.Getset_descriptor in
theorem exc_class {prog : Program} {w : World} {A : Around} {R : Result → Shared → Prop} {s : Shared} {tp : Value} (c : ExcCls K D) (X : K.In s.heap) (p : ExcAt x D s.heap) (h : R (.ok (.ret (.ref D))) s) :
    codeAny (model prog w) A (.call (.builtin "getset_descriptor.__get__") ⟨[.builtin "object.__class__", .ref x, tp], []⟩) R s := by
  obtain ⟨hp, ge, dw, tt, oo⟩ := s
  have l0 := p.ty (M := model prog w)
  have l1 := looks_mroIn (M := model prog w) X c.ob
  refine codeAny_call_builtin KF.slot_gs.plain KF.entry_gs ?_
  refine KF.slot_gs.check _ _ _ _ _ _ _ _ KF.type_class (KF.args_gs _ _ _) ?_
  unfold Builtin.«getset_descriptor.__get__»; unfold descrGet
  rw [dga_obj]; refine wpAny_bind (wpAny_pure ?_)
  unfold descrGetter descrCheckInstance; unfold descrNameAndClass isInstance
  simp only [KF.owner_class]; repeat lk
  refine ⟨Code.quiet_builtin _ (by decide +kernel), ?_⟩
  refine codeAny_builtin KF.entry_class ?_
  unfold Builtin.«object.__class__»; unfold shownTypeOf
  repeat lk
  exact h
open PySem.W Builtin Builtin.ObjectAttr in
theorem exc_entry {prog : Program} {w : World} {A : Around} {E : Value → Shared → Prop} {s : Shared} {tk : Tok} {Q : Fin → Shared → Prop} (c : ExcCls K D) (X : K.In s.heap) (p : ExcAt x D s.heap) (h : Q (.done (.ret (.ref D))) s) :
    wpAny (model prog w) A (Builtin.«object.__getattribute__» ⟨[.ref x, .str "__class__" tk], []⟩) Q E s := by
  obtain ⟨hp, ge, dw, tt, oo⟩ := s
  have l0 := p.ty (M := model prog w)
  have l2 := exc_find (x := x) (M := model prog w) c X
  unfold Builtin.«object.__getattribute__»
  repeat (any_goals (first | assumption | lk | wp_step))
  show wpAny _ _ (run _ none) _ _ _
  refine wpAny_run (exc_class c X p ?_)
  exact wpAny_pure (wpAny_pure h)
open PySem.W Builtin Builtin.ObjectAttr in
theorem exc_ga {prog : Program} {w : World} {A : Around} {R : Result → Shared → Prop} {s : Shared} {tk : Tok} (c : ExcCls K D) (X : K.In s.heap) (p : ExcAt x D s.heap) (h : R (.ok (.ret (.ref D))) s) :
    codeAny (model prog w) A (.call (.builtin "BaseException.__getattribute__") ⟨[.ref x, .str "__class__" tk], []⟩) R s := by
  obtain ⟨hp, ge, dw, tt, oo⟩ := s
  have l0 := p.ty (M := model prog w)
  have l1 := looks_mroIn (M := model prog w) X c.be
  refine codeAny_call_builtin PySem.F.excAttr_ValueError.ga.plain PySem.F.entry_bexc_ga ?_
  have hk : builtinKind "BaseException.__getattribute__" = some .slot := by decide +kernel
  have hs : splitId "BaseException.__getattribute__" = some ("BaseException", "__getattribute__") := by decide +kernel
  have ha := PySem.F.args_bexc_ga (.ref x) (.str "__class__" tk)
  simp only [checkBuiltinCall, hk, hs]
  refine wpAny_bind ?_
  unfold isInstance
  refine wpAny_bind (l0.at (l1.at ?_))
  rw [if_neg (by decide)]
  unfold argsOk at ha
  have fin := exc_entry (prog := prog) (w := w) (A := A.in1) (E := fun e s' => R (.error e) s') (s := ⟨hp, ge, dw, tt, oo⟩) (tk := tk) (Q := fun fin s' => match fin with | .done f => R (.ok f) s' | .again c' => c'.quiet = true ∧ codeAny (model prog w) A c' R s') c X p h
  generalize Manifest.signature? "BaseException.__getattribute__" = sg at ha ⊢
  cases sg with
  | none => exact wpAny_pure fin
  | some sig =>
    dsimp only at ha ⊢
    rw [ha]
    exact wpAny_pure fin
open PySem.W Builtin Builtin.ObjectAttr in
theorem exc_attr {prog : Program} {w : World} {A : Around} {E : Value → Shared → Prop} {s : Shared} {Q : Option Value → Shared → Prop} (c : ExcCls K D) (X : K.In s.heap) (p : ExcAt x D s.heap) (h : Q (some (.ref D)) { s with toks := s.toks + 1 }) :
    wpAny (model prog w) A (getAttr? (.ref x) "__class__") Q E s := by
  obtain ⟨hp, ge, dw, tt, oo⟩ := s
  have l0 := p.ty (M := model prog w)
  have l1 := looks_findIn (M := model prog w) X c.ga
  have l3 := looks_findIn (M := model prog w) X c.gh
  have f3 := PySem.F.excAttr_ValueError.ga.bind (.ref x)
  have hx2 : (Value.builtin "BaseException.__getattribute__" == Value.builtin "object.__getattribute__") = false := by decide +kernel
  have hx1 : (onTheHeap (Value.ref D) && Value.builtin "BaseException.__getattribute__" == Value.builtin "object.__getattribute__") = false := by rw [hx2]; rfl
  unfold getAttr? getAttrBy?; unfold getAttrBy
  refine wpAny_bind (wpAny_mkText (wpAny_bind (wpAny_attempt (wpAny_holding ?_))))
  refine wpAny_bind (l0.at (wpAny_bind (l1.at ?_)))
  simp only [hx1]
  show wpAny _ _ (getAttrByItsOwn _ _ _ _ _ _) _ _ _
  unfold getAttrByItsOwn hookBefore
  refine wpAny_bind ?_
  show wpAny _ _ (typeLookup (.ref D) "__getattr__") _ _ _
  refine l3.at ?_
  unfold callGetattribute boundAndCalled
  refine wpAny_bind (wpAny_attempt (wpAny_holding ?_))
  show wpAny _ _ (bindSpecial _ _ >>= _) _ _ _
  rw [f3]
  refine wpAny_bind (wpAny_pure ?_)
  refine wpAny_call (exc_ga (s := ⟨hp, ge, dw, tt + 1, oo⟩) c X p ?_)
  exact handed_on rfl (wpAny_pure h)
theorem kitx_exc (c : ExcCls K D) : PySem.W.KitX K (.ref x) (.ref D) (ExcAt x D) where
  ty := fun _ _ _ p => p.ty
  it := fun _ _ X _ => by
    obtain ⟨cd, hc, _⟩ := PySem.W.any_some c.hd
    unfold PySem.W.clsIn at hc
    split at hc
    · rename_i c' d' cd' sl' ho
      intro A' Q' E' s' k q
      unfold isType loadHead
      exact wpAny_bind (wpAny_loadPart (k _ _ (X _ _ ho)) (wpAny_pure q))
    · cases hc
  ne := fun h tp dd its n sl X htp => by
    obtain ⟨cd, hc, _⟩ := PySem.W.any_some c.hd
    refine Bool.eq_false_iff.mpr fun q => ?_
    have e : D = tp := Value.ref.inj (beq_iff_eq.mp q)
    subst e
    unfold PySem.W.clsIn at hc
    split at hc
    · rename_i c' d' cd' sl' ho
      have z := (X _ _ ho).symm.trans htp
      cases z
    · cases hc
  ca := fun X p k => exc_attr c X p k
end
end L2

set_option Elab.async false
set_option linter.all false
set_option maxRecDepth 100000
namespace L2
open PySem PySem.Spec PyProof.Rows
section
variable {P : Program} {w : World} {K : PySem.W.Frag} {mg : Str → Option Value} {base : Heap} {CX : CXT} {k : Nat} {f : Addr} {fd : FuncData} {ps : List Str} {sp sp' : Sp}
theorem FnOk.or (F : FnOk P w K mg base CX k f fd ps sp) (G : FnOk P w K mg base CX k f fd ps sp') : FnOk P w K mg base CX k f fd ps (fun vs H Q E => sp vs H Q E ∨ sp' vs H Q E) :=
  ⟨fun vs H Q E h => h.elim (F.len vs H Q E) (G.len vs H Q E), fun A outer s H args us vs Q E hr he hb hv hs => hs.elim (F.run A outer s H args us vs Q E hr he hb hv) (G.run A outer s H args us vs Q E hr he hb hv)⟩
end
structure Flt (P : Program) (w : World) (outer : List Env) (H : Hp) (s : Shared) (H' : Hp) (B h : Heap) : Prop where
  stays : B.StaysIn h
  frames : h.FunFrames B outer
  slot : ∀ b o, s.heap.get? b = some o → H b = none → b ∈ frs outer → ∃ sl, h.get? b = some { o with slots := sl }
  free : ∀ b o, s.heap.get? b = some o → H b = none → H' b = none
  tups : ∀ b xs, H b = some (.tup xs) → H' b = some (.tup xs)
  frzs : ∀ b o u, H b = some (.frz o u) → H' b = some (.frz o u)
  tbls : ∀ b ps, H b = some (.tbl ps) → ∃ more, H' b = some (.tbl (ps ++ more))
  kb : ∀ b o, s.heap.get? b = some o → H b = none → b ∉ frs outer → B.get? b = some o
  tb : ∀ b o, s.heap.get? b = some o → b ∉ frs outer → ∃ o', B.get? b = some o'
  hok : HOk P w H' B
section
variable {P : Program} {w : World} {outer : List Env} {H H' : Hp} {s : Shared} {B h h' : Heap}
theorem Flt.un (f : Flt P w outer H s H' B h) : Un (frs outer) [] H H' s.heap h where
  keep := fun b o q n hb _ => f.stays b o (f.kb b o q n hb)
  slot := fun b o q n hb _ => f.slot b o q n hb
  free := fun b o q n _ => f.free b o q n
  there := fun b o q _ => by
    by_cases hb : b ∈ frs outer
    · obtain ⟨_, o2, ho2, _⟩ := f.frames.mem hb
      exact ⟨o2, ho2⟩
    · obtain ⟨o2, e2⟩ := f.tb b o q hb
      exact ⟨o2, f.stays b o2 e2⟩
  tups := f.tups
  frzs := f.frzs
  tbls := f.tbls
theorem Flt.ok (f : Flt P w outer H s H' B h) : HOk P w H' h := f.hok.kept f.stays
theorem Flt.next (f : Flt P w outer H s H' B h) (st : B.StaysIn h') (fr : h'.FunFrames B outer) (u : h.UpToSlots h') : Flt P w outer H s H' B h' :=
  ⟨st, fr, fun b o q n hb => by
    obtain ⟨sl, e1⟩ := f.slot b o q n hb
    obtain ⟨_, o2, ho2, hnf⟩ := f.frames.mem hb
    rw [e1] at ho2
    cases ho2
    obtain ⟨sl2, e2⟩ := u b _ e1 hnf
    exact ⟨sl2, e2⟩, f.free, f.tups, f.frzs, f.tbls, f.kb, f.tb, f.hok⟩
theorem ObjOk.there {H : Hp} {a : Addr} {o : HO} (x : ObjOk P w H h a o) : ∃ ob, h.get? a = some ob := by
  cases o with
  | lst xs => obtain ⟨_, _, _, _, e⟩ := x; exact ⟨_, e⟩
  | tup xs => obtain ⟨_, _, _, o, e, _⟩ := x; exact ⟨o, e⟩
  | dK kvs => obtain ⟨_, _, _, _, o, _, _, e, _⟩ := x; exact ⟨o, e⟩
  | dT kvs => obtain ⟨_, _, _, _, o, _, _, e, _⟩ := x; exact ⟨o, e⟩
  | set S n => obtain ⟨o, _, _, _, e, _⟩ := x; exact ⟨o, e⟩
  | ins C dx fs => obtain ⟨_, _, _, e, _⟩ := x; exact ⟨_, e⟩
  | own y => exact x
  | xd fs => obtain ⟨_, ⟨o, _, _, e, _⟩, _⟩ := x; exact ⟨o, e⟩
  | rng lo hi => obtain ⟨_, _, _, e⟩ := x; exact ⟨_, e⟩
  | frz ob u => obtain ⟨e, _⟩ := x; exact ⟨_, e⟩
  | tbl ps => exact ⟨_, show h.get? a = some _ from x⟩
  | met f y => exact ⟨_, show h.get? a = some _ from x⟩
  | ext φ => obtain ⟨_, e, _⟩ := x; exact e
end
section
variable {X : Cx} {pins : List (Addr × Obj)} {σ : St} {H : Hp} {s : Shared}
theorem Inv.tracked {a : Addr} {u : HO} (I : Inv X pins σ H s) (hn : H a = none) (new : X.s₀.heap.get? a = none) (hL : a ≠ X.env.locals) (hc : ∀ x c, X.env.cells.lookup x = some c → c ≠ a) (hp : ∀ p ∈ X.pn ++ pins, p.1 ≠ a)
    (ok : ObjOk X.prog X.w (upd H a u) s.heap a u) : Inv X pins σ (upd H a u) s := by
  have ne : ∀ b o, H b = some o → b ≠ a := fun b o e z => by rw [z, hn] at e; cases e
  have nw : ∀ b o, X.s₀.heap.get? b = some o → b ≠ a := fun b o e z => by rw [z, new] at e; cases e
  refine ⟨I.ok, I.os, I.bare, ⟨I.base.keep, I.base.slot, fun b o q n hx => ?_, I.base.there, fun b xs q => ?_, fun b o v q => ?_, fun b ps q => ?_⟩, I.loc, I.cell, ?_, fun x c e => ?_, fun p h => ?_, fun b o e => ?_, I.len⟩
  · rw [upd_ne (nw b o q)]; exact I.base.free b o q n hx
  · have e := I.base.tups b xs q; rw [upd_ne (ne b _ e)]; exact e
  · have e := I.base.frzs b o v q; rw [upd_ne (ne b _ e)]; exact e
  · obtain ⟨m, e⟩ := I.base.tbls b ps q; exact ⟨m, by rw [upd_ne (ne b _ e)]; exact e⟩
  · rw [upd_ne (Ne.symm hL)]; exact I.free
  · rw [upd_ne (hc x c e)]; exact I.freeC x c e
  · obtain ⟨e1, e2, e3⟩ := I.pin p h
    exact ⟨e1, by rw [upd_ne (hp p h)]; exact e2, e3⟩
  · by_cases hb : b = a
    · subst hb; rw [upd_same] at e; cases e; exact ok
    · rw [upd_ne hb] at e
      exact (I.hok b o e).stay (fun _ _ _ q => q) (fun c q => by rw [upd_ne (ne c _ q)]; exact q) fun c xs q => by rw [upd_ne (ne c _ q)]; exact q
theorem Inv.gone {i : Nat} {x : Str} {h' : Heap} {v : Option Value} {m : Str → Option Value} {t : Nat} (I : Inv X pins σ H s) (hN : X.N.Nodup) (hi : X.N[i]? = some x)
    (hm : ∀ (i : Nat) (x : Str) (v : V), X.N[i]? = some x → σ[i]? = some (some v) → Vis X.env.scope x → ∃ u, RelV v u ∧ Look X.env s.heap m x u)
    (hn' : h'.Ns X.env.locals (fun y => if y = x then v else m y)) (hs : Heap.SameBut X.env.locals s.heap h') : Inv X pins (σ.set i none) H { s with heap := h', toks := t } := by
  obtain ⟨m0, ⟨oL, es, ep, hoL, r0⟩, _⟩ := id I.loc
  have cne := I.cne
  refine ⟨I.ok, I.os, I.bare, ⟨fun b o e n hb hx => ?_, fun b o e n hb hx => ?_, I.base.free, fun b o e hx => ?_, I.base.tups, I.base.frzs, I.base.tbls⟩, ⟨_, hn', fun j y v' e1 e2 e3 => ?_⟩, fun y c e => ?_, I.free, I.freeC, fun p hp => ?_, fun b ob e => ?_, by simpa using I.len⟩
  · exact (hs.2 b (Nat.ne_of_lt (Nat.lt_of_lt_of_le (Heap.lt_size e) I.ok.above))).trans (I.base.keep b o e n hb hx)
  · obtain ⟨sl, e1⟩ := I.base.slot b o e n hb hx
    exact ⟨sl, (hs.2 b (Nat.ne_of_lt (Nat.lt_of_lt_of_le (Heap.lt_size e) I.ok.above))).trans e1⟩
  · obtain ⟨o', e1⟩ := I.base.there b o e hx
    exact ⟨o', (hs.2 b (Nat.ne_of_lt (Nat.lt_of_lt_of_le (Heap.lt_size e) I.ok.above))).trans e1⟩
  · by_cases hj : j = i
    · subst hj
      rw [List.getElem?_set] at e2
      split at e2
      · split at e2 <;> cases e2
      · exact absurd rfl ‹¬ j = j›
    · rw [List.getElem?_set_ne (Ne.symm hj)] at e2
      obtain ⟨u', r', q⟩ := hm j y v' e1 e2 e3
      refine ⟨u', r', ?_⟩
      rcases q with ⟨k, e⟩ | ⟨k, c, e, z⟩
      · refine .inl ⟨k, ?_⟩
        have : y ≠ x := fun e => hj (nodup_ix hN e1 (e ▸ hi))
        simp [this, e]
      · exact .inr ⟨k, c, e, z.sameBut hs (cne y c e)⟩
  · obtain ⟨w', z⟩ := I.cell y c e
    exact ⟨w', z.sameBut hs (cne y c e)⟩
  · obtain ⟨e, n, ne, nf, d⟩ := I.pin p hp
    exact ⟨(hs.2 p.1 ne).trans e, n, ne, nf, d⟩
  · refine (I.hok b ob e).stay (fun c w' hc q => (hs.2 c ?_).trans q) (fun _ q => q) fun _ _ q => q
    rintro rfl
    rcases hc with rfl | hc
    · rw [I.free] at e; cases e
    · rw [I.free] at hc; cases hc
end
abbrev Cx.marked (X : Cx) (e : Addr) : Cx := { X with A := X.A.mark (some (.ref e)), calm := false, xe := fun _ _ => False }
theorem Inv.mark {X : Cx} {pins : List (Addr × Obj)} {σ : St} {H : Hp} {s : Shared} (I : Inv X pins σ H s) (e : Addr) : Inv (X.marked e) pins σ H s :=
  ⟨⟨I.ok.mod, I.ok.kind, I.ok.glob, I.ok.blt, I.ok.above, I.ok.inj, I.ok.has, I.ok.cab, fun z => Bool.noConfusion z, I.ok.frames, I.ok.stk, I.ok.exf, I.ok.bs, I.ok.bsz, I.ok.noex, I.ok.exfs, I.ok.funs, I.ok.frf⟩, I.os, I.bare, I.base, I.loc, I.cell, I.free, I.freeC, I.pin, I.hok, I.len⟩
theorem Inv.unmark {X : Cx} {pins : List (Addr × Obj)} {σ : St} {H : Hp} {s s0 : Shared} {pins0 : List (Addr × Obj)} {σ0 : St} {H0 : Hp} {e : Addr} (I : Inv (X.marked e) pins σ H s) (I0 : Inv X pins0 σ0 H0 s0) : Inv X pins σ H s :=
  ⟨I0.ok, I.os, I.bare, I.base, I.loc, I.cell, I.free, I.freeC, I.pin, I.hok, I.len⟩
structure RoomQ (k : Nat) (A : Around) : Prop where
  dp : A.depth + 3 * k + 5 < recursionLimit
  un : A.units + 16 * k + 200 < cLine
theorem Room.q {k : Nat} {A : Around} (r : Room k A) : RoomQ k A := ⟨r.dp, r.un⟩
theorem Room.qm {k : Nat} {A : Around} (r : Room k A) (e : Value) : RoomQ k (A.mark (some e)) := ⟨r.dp, r.un⟩
theorem RoomQ.mono {j k : Nat} {A : Around} (r : RoomQ k A) (h : j ≤ k) : RoomQ j A := ⟨by have := r.dp; omega, by have := r.un; omega⟩
theorem RoomQ.deeper {k : Nat} {A : Around} (r : RoomQ (k + 1) A) (env : Env) : RoomQ k (A.deeper env) :=
  ⟨by have := r.dp; show A.depth + 1 + 3 * k + 5 < _; omega, by have := r.un; show A.units + 3 + 16 * k + 200 < _; omega⟩
structure FnOkQ (P : Program) (w : World) (K : PySem.W.Frag) (mg : Str → Option Value) (base : Heap) (k : Nat) (f : Addr) (fd : FuncData) (ps : List Str) (sp : Sp) : Prop where
  len : ∀ vs H Q E, sp vs H Q E → vs.length = ps.length
  run : ∀ (A : Around) (outer : List Env) (s : Shared) (H : Hp) (args : Args) (us : List Value) (vs : List V) (Q : VK) (E : XK), RoomQ k A → Env0 P w K mg base A outer s H → BindsTo s fd args (ps.zip us) → Vals vs us → sp vs H Q E →
    codeAny (model P w) A (.call (.ref f) args) (CR CX0 outer P w H s Q E) s
def cxOfQ (P : Program) (w : World) (K : PySem.W.Frag) (mg : Str → Option Value) (base : Heap) (N : List Str) (qual : Str) (scope : Scope) (f : Addr) (cd : Value) (A : Around) (outer : List Env) (s : Shared) (H : Hp) (E : XK) : Cx :=
  { cxOf CX0 P w K mg base N qual scope f cd A outer s H E with calm := false, xe := fun _ _ => False }
theorem fn_ofQ {P : Program} {w : World} {K : PySem.W.Frag} {mg : Str → Option Value} {base : Heap} {k : Nat} {f : Addr} {name qual : Str} {params : Arguments} {body : List Stmt} {scope : Scope} {dV kV doc pm cdv ct oc : Value} {an od : Option Addr}
    {osl : Array (Option Value)} {N ps : List Str} {sp : Sp} (lk : K.lookup f = some ⟨oc, od, .func (PySem.W.fnOf name qual params body scope dV kV doc pm an cdv ct), osl⟩) (hcd : PySem.W.codeIn K cdv qual = true) (S : FnScope N ps scope)
    (len : ∀ vs H Q E, sp vs H Q E → vs.length = ps.length)
    (hbody : ∀ (A : Around) (outer : List Env) (s : Shared) (H : Hp) (vs : List V) (Q : VK) (E : XK), RoomQ k (A.deeper (envOfC qual scope s.heap.objs.size f cdv)) → sp vs H Q E →
      ∃ t, PSs (cxOfQ P w K mg base N qual scope f cdv A outer s H E) body t ∧ t { nx := fun _ H' => Q .non H', rt := Q } (start N vs) H) :
    FnOkQ P w K mg base (k + 1) f (PySem.W.fnOf name qual params body scope dV kV doc pm an cdv ct) ps sp := by
  refine ⟨len, fun A outer s H args us vs Q E hr e0 hb r hsp => ?_⟩
  have hl := len _ _ _ _ hsp
  have KX : K.In s.heap := e0.mod.kin.keeps fun b o e => (e0.bs b o e).1
  have lim : s.heap.NoLimit := e0.mod.nolimit.keeps fun b o e => (e0.bs b o e).1
  have hkind : ∀ y ∈ ps.zip us, scope.names.lookup y.1 = some .local ∨ (scope.names.lookup y.1 = some .cell ∧ ((cellsFrom (s.heap.objs.size + 1) scope.names []).lookup y.1).isSome = true) := fun ⟨n, v⟩ hy => by
    rcases S.par n (List.of_mem_zip hy).1 with q | q
    · exact .inl q
    · exact .inr ⟨q, PySem.W.cellsFrom_some _ _ _ (.inl q)⟩
  have hdp : A.depth < recursionLimit := by have := hr.dp; omega
  refine codeAny_call_function hdp (KX _ _ lk) rfl S.co S.gen rfl (PySem.W.codeRec_of KX hcd) (hb _ _ _ _ ?_)
  refine wpAny_newFunctionEnv_cells S.kind hkind fun env he s1 x => ?_
  subst he
  refine ⟨lim.keeps x.toInCall.keep, codeAny_func ?_⟩
  obtain ⟨t, ht, hq⟩ := hbody A outer s H vs Q E (hr.deeper _) hsp
  have e1 : Env0 P w K mg base { A with handled := none } outer s H := ⟨e0.frames, e0.mod, e0.bs, e0.bsz, e0.funs, e0.frf, e0.hok, e0.bare⟩
  have I0 : Inv (cxOf CX0 P w K mg base N qual scope f cdv { A with handled := none } outer s H E) [] (start N vs) H s1 := inv_start S rfl e1 hl r x
  have I : Inv (cxOfQ P w K mg base N qual scope f cdv A outer s H E) [] (start N vs) H s1 :=
    ⟨⟨I0.ok.mod, I0.ok.kind, I0.ok.glob, I0.ok.blt, I0.ok.above, I0.ok.inj, I0.ok.has, I0.ok.cab, fun z => Bool.noConfusion z, Around.frames_deeper e0.frames, I0.ok.stk, I0.ok.exf, I0.ok.bs, I0.ok.bsz, I0.ok.noex, I0.ok.exfs, I0.ok.funs, I0.ok.frf⟩, I0.os, I0.bare, I0.base, I0.loc, I0.cell, I0.free, I0.freeC, I0.pin, I0.hok, I0.len⟩
  refine wpAny_mono (ht [] s1 (start N vs) H _ I hq) (fun fl s' hs => ?_) fun e s' hs => False.elim hs
  have fin : ∀ {σ' : St} {H' : Hp} {v : V} {u : Value}, Inv (cxOfQ P w K mg base N qual scope f cdv A outer s H E) [] σ' H' s' → RelV v u → Q v H' → CE outer P w H s Q u s' :=
    fun {σ' H' v u} J rv q => ⟨v, H', J.os, J.bare, J.base, J.hok, rv, q⟩
  cases fl with
  | ret u =>
    obtain ⟨v, σ', H', J, rv, q⟩ := hs
    exact fin J rv q
  | next =>
    obtain ⟨σ', H', J, q⟩ := hs
    exact fin (v := V.non) (u := Value.none) J rfl q
  | brk =>
    obtain ⟨_, _, _, q⟩ := hs
    exact False.elim q
  | cont =>
    obtain ⟨_, _, _, q⟩ := hs
    exact False.elim q
section
variable {X : Cx} {k : Nat} {f : Addr} {fd : FuncData} {ps : List Str} {sp : Sp} {x : Str} {p pos : Pos} {e : Expr} {es : List Expr} {t : TA}
theorem pe_callQ (F : FnOkQ X.prog X.w X.K X.mg X.base k f fd ps sp) (hr : RoomQ k X.A) (hg : Gl X x) (hm : X.mg x = some (.ref f)) (hk : PySem.W.keepIn X.K (.ref f) = true) (hb : Binds X.K fd ps [])
    (ha : PA X (e :: es) t) (hdb : (x == ("__debug__" : Str)) = false := by decide) (he : starEach (e :: es) X.env = (false, eval e X.env) :: starEach es X.env := by rfl) (hpl : (backTo pos (starEach es X.env)).any (·.1) = false := by rfl) :
    PE X (.Call (.Name x p) (e :: es) [] pos) (fun σ H Q => t σ H fun vs H1 => sp vs H1 Q E0) := by
  intro pins s σ H Q I h
  refine wpAny_Call_Name_kw (ld_glob I hg hm ?_ hdb)
  refine PySem.W.callWith_K (h₀ := X.base) I.ok.mod.kin hk (thn (ha pos pins s σ H _ I h) fun us s1 ⟨vs, H1, I1, r, q⟩ => ⟨I1.kIn, ?_⟩) he hpl
  have hl : us.length = ps.length := by rw [← r.length]; exact F.len _ _ _ _ q
  have hb1 := hb s1 us I1.kIn (by rw [List.append_nil]; exact hl)
  rw [List.append_nil] at hb1
  refine wpAny_call (codeAny_mono (F.run X.A X.stack s1 H1 ⟨us, []⟩ us vs Q E0 hr I1.env0 hb1 r q) fun r s' hq => ?_)
  cases r with
  | error e => exact False.elim hq
  | ok fl =>
    cases fl with
    | ret u => exact I1.after hq
    | next => exact False.elim hq
    | brk => exact False.elim hq
    | cont => exact False.elim hq
def clsV : V → Value
  | .ref a => .ref a
  | .ty n => .type n
  | _ => .none
theorem call_isiE : CallR X (.builtin "isinstance") (fun xs H Q => ∃ (a D : Addr) (c : V) (b : Bool), xs = [V.ref a, c] ∧ (∃ z, c = .ref z ∨ ∃ n, c = .ty n) ∧ H a = some (.ext (ExcAt a D)) ∧ ExcCls X.K D ∧ PySem.W.kitOne X.K (.ref D) (clsV c) = some b ∧ Q (.bl b) H) := by
  intro pins s σ H xs us Q I r h
  obtain ⟨a, D, c, b, rfl, hc, ha, ec, ek, q⟩ := h
  obtain ⟨u1, u2, rfl, r1, r2⟩ := vals2 r
  cases (show u1 = Value.ref a from r1)
  have e2 : u2 = clsV c := by
    rcases hc with ⟨z, rfl | ⟨n, rfl⟩⟩
    · exact r2
    · exact r2
  subst e2
  obtain ⟨hx, _, _⟩ := (show ObjOk X.prog X.w H s.heap a (.ext (ExcAt a D)) from I.hok a _ ha)
  exact PySem.W.kia_one (kitx_exc ec) I.kIn hx ek (fun z => nomatch z) fun tk => ⟨.bl b, H, I.tok _, rfl, q⟩
end
end L2

set_option Elab.async false
set_option linter.all false
set_option maxRecDepth 100000
namespace L2
open PySem PySem.Spec PyProof.Rows
structure Deed (P : Program) (w : World) (K : PySem.W.Frag) (mg : Str → Option Value) (base : Heap) (k : Nat) (s : Shared) (H : Hp) (outer : List Env) (g : Addr) (sp : Hp → VK → XK → Prop) : Prop where
  fn : PySem.W.FnAt g s.heap
  un : H g = none
  nf : g ∉ frs outer
  run : ∀ (A' : Around) (outer' : List Env) (s' : Shared) (H' : Hp) (Q : VK) (E : XK), Room k A' → Env0 P w K mg base A' outer' s' H' →
    (∀ b o, s.heap.get? b = some o → H b = none → b ∉ frs outer → s'.heap.get? b = some o ∧ H' b = none) → (∀ b o u, H b = some (.frz o u) → H' b = some (.frz o u)) → sp H' Q E → codeAny (model P w) A' (.call (.ref g) ⟨[], []⟩) (CR (CXr P w) outer' P w H' s' Q E) s'
def sTry (K : PySem.W.Frag) (g R : Addr) (i j : Nat) (sp : Hp → VK → XK → Prop) (tb : TS) : TS := fun D σ H => σ[i]? = some (some (.ref g)) ∧ ∃ E : XK, sp H (fun _ H1 => D.nx σ H1) E ∧
  ∀ C a H1, E C (some a) H1 → H1 a = none → ∃ Ca, C = .ref Ca ∧ PySem.W.exmOne K (.ref Ca) (.ref R) = some true ∧
    tb { nx := fun σ' H2 => D.nx (σ'.set j none) H2, rt := fun _ _ => False } (σ.set j (some (.ref a))) (upd H1 a (.ext (ExcAt a Ca)))
theorem ps_try {X : Cx} {k i j : Nat} {g R : Addr} {sp : Hp → VK → XK → Prop} {x c en : Str} {np cp ep cp2 hp tp : Pos} {b₀ : Stmt} {suite : List Stmt} {tb : TS}
    (hd : Deed X.prog X.w X.K X.mg X.base k X.s₀ X.H₀ X.outer g sp) (hr : Room k X.A) (hex : X.ex = []) (hstk : X.stack = X.env :: X.outer) (hfr : X.env.frame = some X.env.locals)
    (hx : PE X.nox (.Name x np) (tVar i)) (hcg : Gl X c) (hcm : X.mg c = some (.ref R)) (hN : X.N.Nodup) (hj : X.N[j]? = some en) (hlj : X.env.scope.names.lookup en = some .local) (hs : ∀ e, PSs (X.marked e) (b₀ :: suite) tb)
    (hdb : (c == ("__debug__" : Str)) = false := by decide) (hsw : swapsWith (.Call (.Name x np) [] [] cp) none ep.line X.env = pure false := by rfl) :
    PS X (.Try [.Expr (.Call (.Name x np) [] [] cp) ep] [.ExceptHandler (some (.Name c cp2)) (some en) (b₀ :: suite) hp] [] [] tp) (sTry X.K g R i j sp tb) := by
  intro pins s σ H D I ⟨hg, E, hsp, hE⟩
  refine wpAny_Try_except (wpAny_execs_cons (wpAny_Expr_any (wpAny_Call_Name_kw ?_) I.quiet hsw))
  refine wpAny_mono (hx pins s σ H (fun v H1 => v = .ref g ∧ H1 = H) (I.wish _) ⟨.ref g, hg, rfl, rfl⟩) (fun u s1 ⟨v, H1, I1, r1, ev, eH⟩ => ?_) fun _ _ z => False.elim z
  subst ev; subst eH
  obtain rfl : u = Value.ref g := r1
  have I1 : Inv X pins σ H1 s1 := I1.unwish
  have keep : ∀ b o, X.s₀.heap.get? b = some o → X.H₀ b = none → b ∉ frs X.outer → s1.heap.get? b = some o ∧ H1 b = none := fun b o q n hb =>
    ⟨I1.base.keep b o q n hb (by rw [hex]; exact fun z => nomatch z), I1.base.free b o q n (by rw [hex]; exact fun z => nomatch z)⟩
  have hfa : PySem.W.FnAt g s1.heap := by
    obtain ⟨oc, od, fd, sl, e⟩ := hd.fn
    exact ⟨oc, od, fd, sl, (keep g _ e hd.un hd.nf).1⟩
  refine PySem.W.callWith_F0 hfa (wpAny_call (codeAny_mono (hd.run X.A X.stack s1 H1 _ E hr I1.env0 keep I1.base.frzs hsp) fun r s' hq => ?_))
  cases r with
  | ok fl =>
    cases fl with
    | ret u =>
      obtain ⟨v, H2, I2, rv, q⟩ := I1.after hq
      exact wpAny_execs_nil (wpAny_execs_nil ⟨σ, H2, I2, q⟩)
    | next => exact False.elim hq
    | brk => exact False.elim hq
    | cont => exact False.elim hq
  | error e =>
    obtain ⟨a, C, a0, H', B, rfl, fl, os, bare, un, kb, tb', hok, hEq⟩ := hq
    have nox : ∀ b : Addr, b ∉ ([] : List Addr) := fun b z => nomatch z
    have f0 : Flt X.prog X.w X.stack H1 s1 H' B s'.heap := ⟨fl.1, fl.2.2.1, fun b o q n hb => un.slot b o q n hb (nox b), fun b o q n => un.free b o q n (nox b), un.tups, un.frzs, un.tbls, kb, tb', hok⟩
    have hAf : X.A.frames = some (X.env :: X.outer) := by rw [← hstk]; exact I.ok.frames
    rw [hstk] at fl
    refine wpAny_looks_onW hAf hfr fl fun h2 held u2 => ?_
    have f2 := f0.next held.1 (by rw [hstk]; exact held.2.2.1) u2
    refine wpAny_landsW held fun h3 fl3 u3 => ?_
    have f3 := f2.next fl3.1 (by rw [hstk]; exact fl3.2.2.1) u3
    have hna : H' a = none := by
      cases q : H' a with
      | none => rfl
      | some o =>
        obtain ⟨ob, e⟩ := ObjOk.there (hok a o q)
        rw [fl3.2.1] at e; cases e
    obtain ⟨Ca, rfl, hex2, hq⟩ := hE C a H' hEq hna
    have I3 : Inv X pins σ H' { s' with heap := h3 } := I1.call' (s' := { s' with heap := h3 }) (ch := []) os f3.un f3.ok bare fun b z => absurd z (nox b)
    have xAt : ∀ {h : Heap}, Heap.FlyingW B (X.env :: X.outer) a (.ref Ca) a0 h → ExcAt a Ca h := fun {h} z => by
      obtain ⟨oe, vs, e1, e2, e3, _⟩ := z.first
      exact ⟨oe, vs, e1, e2, e3⟩
    refine wpAny_handleBy_cons (codeAny_handlers_test ?_) (by intro q; cases q)
    refine ld_glob (X := X.marked a) (I3.mark a) hcg hcm ?_ hdb
    refine (PySem.W.exm_one (I3.kIn) (xAt fl3).ty hex2).here ?_
    refine codeAny_handlers_suite_as ?_
    refine wpAny_setFlight_noneW fl3.1 fl3.2.2.1 fl3.2.2.2 fun h4 k1 k2 k3 k4 => ?_
    have fl4 : Heap.FlyingW B (X.env :: X.outer) a (.ref Ca) a0 h4 := ⟨k1, fl3.2.1, k2, k3⟩
    have f4 := f3.next k1 (by rw [hstk]; exact k2) fun b o hb hn => ⟨o.slots, k4 b o hb hn⟩
    have I4 : Inv X pins σ H' { s' with heap := h4 } := I1.call' (s' := { s' with heap := h4 }) (ch := []) os f4.un f4.ok bare fun b z => absurd z (nox b)
    obtain ⟨ox, vx, ex1, ex2, ex3⟩ := xAt fl4
    have nfrm : a ∉ frs X.stack := fun z => by
      obtain ⟨_, o, ho, hnf⟩ := f4.frames.mem z
      rw [ex1] at ho; cases ho
      exact hnf vx ex3
    have old : ∀ b o, s1.heap.get? b = some o → b ≠ a := fun b o q z => by
      subst z
      obtain ⟨o', e'⟩ := tb' b o q nfrm
      rw [fl3.2.1] at e'; cases e'
    have I5 : Inv X pins σ (upd H' a (.ext (ExcAt a Ca))) { s' with heap := h4 } := by
      refine I4.tracked hna ?_ ?_ ?_ ?_ ⟨xAt fl4, ⟨ox, ex1⟩, fun ha hb ⟨o, vs, y1, y2, y3⟩ kp => ⟨o, vs, kp o y1, y2, y3⟩⟩
      · cases q : X.s₀.heap.get? a with
        | none => rfl
        | some o =>
          obtain ⟨o', e'⟩ := I1.base.there a o q (by rw [hex]; exact nox a)
          exact absurd rfl (old a o' e')
      · obtain ⟨m, ⟨oL, _, _, hoL, _⟩, _⟩ := I1.loc
        exact Ne.symm (old _ _ hoL)
      · intro y cc ec
        obtain ⟨v, o, ho, _⟩ := I1.cell y cc ec
        exact old _ _ ho
      · intro p hp
        exact old _ _ (I1.pin p hp).1
    refine store_ok (X := X.marked a) (i := j) (v := .ref a) (I5.mark a) hN hj (.inl hlj) rfl (fun s5 I6 => ?_) (.inr hlj)
    refine wpAny_mono (hs a pins s5 (σ.set j (some (.ref a))) _ _ I6 hq) (fun f s6 z => ?_) fun _ _ z => False.elim z
    cases f with
    | next =>
      obtain ⟨σ', H2, I7, q⟩ := z
      have I7 : Inv X pins σ' H2 s6 := I7.unmark I
      obtain ⟨m, hn, hm⟩ := id I7.loc
      refine wpAny_nameGoes_keeps hlj hn (by rw [I.ok.kind]; rfl) fun h' v hn' hs' => ?_
      exact ⟨σ'.set j none, H2, I7.gone hN hj hm hn' hs', q⟩
    | ret u => obtain ⟨_, _, _, _, _, q⟩ := z; exact False.elim q
    | brk => obtain ⟨_, _, _, q⟩ := z; exact False.elim q
    | cont => obtain ⟨_, _, _, q⟩ := z; exact False.elim q
end L2

set_option Elab.async false
set_option linter.all false
set_option maxRecDepth 100000
namespace L2
open PySem PySem.Spec PyProof.Rows
theorem passG {X : Cx} {E : XK} (hstk : X.stack = X.env :: X.outer) (hfr : X.env.frame = some X.env.locals) (hex : X.ex = []) {pins : List (Addr × Obj)} {σ : St} {H : Hp} {s : Shared} {e : Value} {s' : Shared} (I : Inv X pins σ H s)
    (h : CXr X.prog X.w X.stack H s E e s') {E1 : Value → Shared → Prop} : wpAny (model X.prog X.w) X.A (leaving X.env e) (fun _ s'' => CXr X.prog X.w X.outer X.H₀ X.s₀ E e s'') E1 s' := by
  obtain ⟨a, C, a0, H', B, rfl, fl, os, bare, un, kb, tb, hok, hE⟩ := h
  have nox : ∀ b : Addr, b ∉ ([] : List Addr) := fun b z => nomatch z
  have nxx : ∀ b : Addr, b ∉ X.ex := fun b => by rw [hex]; exact nox b
  have f0 : Flt X.prog X.w X.stack H s H' B s'.heap := ⟨fl.1, fl.2.2.1, fun b o q n hb => un.slot b o q n hb (nox b), fun b o q n => un.free b o q n (nox b), un.tups, un.frzs, un.tbls, kb, tb, hok⟩
  have hAf : X.A.frames = some (X.env :: X.outer) := by rw [← hstk]; exact I.ok.frames
  have sfr : frs X.stack = X.env.locals :: frs X.outer := by rw [hstk]; unfold frs; rw [List.filterMap_cons, hfr]
  have nfr : ∀ b o, X.s₀.heap.get? b = some o → b ∉ frs X.outer → b ∉ frs X.stack := fun b o eb hb z => by
    rw [sfr] at z
    rcases List.mem_cons.mp z with z | z
    · exact absurd (Nat.lt_of_lt_of_le (Heap.lt_size eb) I.ok.above) (by rw [z]; exact Nat.lt_irrefl _)
    · exact hb z
  rw [hstk] at fl
  refine wpAny_leaves_onW hAf hfr fl fun h' fl' ups => ?_
  refine ⟨a, C, a0, H', B, rfl, fl', os.trans I.os, bare, ⟨fun b o q n hb _ => ?_, fun b o q n hb hx => ?_, fun b o q n hx => ?_, fun b o q hx => ?_, fun b xs q => un.tups b xs (I.base.tups b xs q), fun b o u q => un.frzs b o u (I.base.frzs b o u q), fun b ps q => ?_⟩, fun b o q n hb => ?_, fun b o q hb => ?_, hok, hE⟩
  · exact fl'.1 b o (kb b o (I.base.keep b o q n hb (nxx b)) (I.base.free b o q n (nxx b)) (nfr b o q hb))
  · obtain ⟨sl, e1⟩ := I.base.slot b o q n hb (nxx b)
    obtain ⟨sl2, e2⟩ := un.slot b _ e1 (I.base.free b o q n (nxx b)) (by rw [sfr]; exact List.mem_cons_of_mem _ hb) (nox b)
    obtain ⟨_, o2, ho2, hnf⟩ := f0.frames.mem (show b ∈ frs X.stack by rw [sfr]; exact List.mem_cons_of_mem _ hb)
    rw [e2] at ho2
    cases ho2
    obtain ⟨sl3, e3⟩ := ups b _ e2 hnf
    exact ⟨sl3, e3⟩
  · obtain ⟨sl, e1⟩ := I.base.any q n (nxx b)
    exact un.free b _ e1 (I.base.free b o q n (nxx b)) (nox b)
  · obtain ⟨o1, e1⟩ := I.base.there b o q (nxx b)
    by_cases hb : b ∈ frs X.stack
    · obtain ⟨_, o2, ho2, hnf⟩ := f0.frames.mem hb
      obtain ⟨sl2, e2⟩ := ups b _ ho2 hnf
      exact ⟨_, e2⟩
    · obtain ⟨o2, e2⟩ := tb b o1 e1 hb
      exact ⟨o2, fl'.1 b o2 e2⟩
  · obtain ⟨more, e1⟩ := I.base.tbls b ps q
    obtain ⟨more2, e2⟩ := un.tbls b _ e1
    exact ⟨more ++ more2, by rw [← Array.append_assoc]; exact e2⟩
  · exact kb b o (I.base.keep b o q n hb (nxx b)) (I.base.free b o q n (nxx b)) (nfr b o q hb)
  · obtain ⟨o1, e1⟩ := I.base.there b o q (nxx b)
    exact tb b o1 e1 (nfr b o q hb)
def cxLam (P : Program) (w : World) (K : PySem.W.Frag) (mg : Str → Option Value) (base : Heap) (N : List Str) (qual : Str) (scope : Scope) (g : Addr) (cd : Value) (cl : List (Str × Addr)) (A : Around) (outer : List Env) (s : Shared) (H : Hp) (E : XK) : Cx where
  prog := P
  w := w
  K := K
  mg := mg
  base := base
  A := A.deeper (PySem.W.envX qual scope s.heap.objs.size g cd cl)
  N := N
  s₀ := s
  H₀ := H
  env := PySem.W.envX qual scope s.heap.objs.size g cd cl
  outer := outer
  stack := PySem.W.envX qual scope s.heap.objs.size g cd cl :: outer
  ex := []
  calm := true
  fn := fun _ => false
  pn := []
  xe := fun e s' => wpAny (model P w) (A.deeper (PySem.W.envX qual scope s.heap.objs.size g cd cl)) (leaving (PySem.W.envX qual scope s.heap.objs.size g cd cl) e) (fun _ s'' => CXr P w outer H s E e s'') (fun e' s'' => CXr P w outer H s E e' s'') s'
theorem passL {P : Program} {w : World} {K : PySem.W.Frag} {mg : Str → Option Value} {base : Heap} {N : List Str} {qual : Str} {scope : Scope} {g : Addr} {cd : Value} {cl : List (Str × Addr)} {A : Around} {outer : List Env} {s : Shared} {H : Hp} {E : XK} :
    Passes (CXr P w) (cxLam P w K mg base N qual scope g cd cl A outer s H E) E := fun pins σ H1 s1 e s' I h => passG (X := cxLam P w K mg base N qual scope g cd cl A outer s H E) rfl rfl rfl I h
structure LamAt (h : Heap) (H : Hp) (fs : List Addr) (N : List Str) (σ : St) (qual : Str) (params : Arguments) (body : Expr) (scope : Scope) (cl : List (Str × Addr)) (g c' : Addr) : Prop where
  fn : ∃ pm ctv, h.get? g = some (PySem.W.kla_obj "<lambda>" qual params body scope cl pm c' ctv)
  gn : H g = none ∧ g ∉ fs
  code : ∃ o vs t, H c' = some (.frz o (.own 0)) ∧ o.data = .fields vs ∧ vs[1]? = some (.str qual t)
  cells : ∀ x c, cl.lookup x = some c → (∃ v, h.IsCell c v) ∧ H c = none ∧ c ∉ fs
  vals : ∀ (i : Nat) (x : Str) (v : V), N[i]? = some x → σ[i]? = some (some v) → ∃ u c, RelV v u ∧ cl.lookup x = some c ∧ h.IsCell c (some u)
theorem deed_lam {P : Program} {w : World} {K : PySem.W.Frag} {mg : Str → Option Value} {base : Heap} {k : Nat} {s : Shared} {H : Hp} {outer : List Env} {g c' : Addr} {N : List Str} {σ : St} {qual : Str} {params : Arguments} {body : Expr} {scope : Scope} {cl : List (Str × Addr)} {tb : XK → TE}
    (L : LamAt s.heap H (frs outer) N σ qual params body scope cl g c') (hl : σ.length = N.length) (hk : scope.kind = .function) (hco : scope.isCoroutine = false) (hgen : scope.isGenerator = false) (hcell : ∀ x ∈ scope.names, x.2 ≠ .cell)
    (hfree : ∀ x : Str, scope.names.lookup x = some .free → ∃ c, cl.lookup x = some c) (hN : ∀ x ∈ N, scope.names.lookup x = some .free) (hinj : ∀ x y c, cl.lookup x = some c → cl.lookup y = some c → x = y)
    (hbind : ∀ (pm cd ctv : Value), bindArgs (PySem.W.kla_fn "<lambda>" qual params body scope cl pm cd ctv) ⟨[], []⟩ = pure [])
    (hbody : ∀ (A : Around) (outer : List Env) (s : Shared) (H : Hp) (E : XK), Room k (A.deeper (PySem.W.envX qual scope s.heap.objs.size g (.ref c') cl)) → PE (cxLam P w K mg base N qual scope g (.ref c') cl A outer s H E) body (tb E)) :
    Deed P w K mg base (k + 1) s H outer g (fun H1 Q E => tb E σ H1 Q) := by
  obtain ⟨pm, ctv, hg⟩ := L.fn
  refine ⟨⟨_, _, _, _, hg⟩, L.gn.1, L.gn.2, fun A' outer' s' H' Q E hr e0 keep kfrz hq => ?_⟩
  have hg' := (keep g _ hg L.gn.1 L.gn.2).1
  have lim : s'.heap.NoLimit := e0.mod.nolimit.keeps fun b o e => (e0.bs b o e).1
  obtain ⟨oc, vs, t, h1, h2, h3⟩ := L.code
  have hcode : s'.heap.CodeRec (.ref c') qual := by
    obtain ⟨e1, _⟩ := e0.hok c' _ (kfrz c' oc _ h1)
    exact ⟨c', oc, vs, t, rfl, e1, h2, h3⟩
  refine PySem.W.kla_callFunE hr.depth hg' rfl hco hgen rfl hcode ?_
  rw [hbind]
  refine wpAny_pure (wpAny_newFunctionEnv hcell (fun _ z => nomatch z) (fun h₁ hns hsb => ?_) hk)
  have hk₁ : ∀ b o, s'.heap.get? b = some o → h₁.get? b = some o := fun b o e => (hsb.2 b (Nat.ne_of_lt (Heap.lt_size e))).trans (Heap.get?_push_of_some _ e)
  refine ⟨lim.keeps hk₁, ?_⟩
  show codeAny _ _ (.expr body (PySem.W.envX qual scope s'.heap.objs.size g (.ref c') cl)) _ _
  have hcl : ∀ x c, cl.lookup x = some c → (∃ v, s'.heap.IsCell c v) ∧ H' c = none := fun x c e => by
    obtain ⟨⟨v, o, ho, hv⟩, n, nf⟩ := L.cells x c e
    obtain ⟨k1, k2⟩ := keep c o ho n nf
    exact ⟨⟨v, o, k1, hv⟩, k2⟩
  have I : Inv (cxLam P w K mg base N qual scope g (.ref c') cl A' outer' s' H' E) [] σ H' { s' with heap := h₁, toks := s'.toks + 0 } := by
    refine ⟨⟨e0.mod, hk, rfl, rfl, Nat.le_refl _, hinj, fun y hy => ?_, fun y c z => Bool.noConfusion z, fun _ => hr.hd, Around.frames_deeper e0.frames, .inr ⟨rfl, rfl⟩, (fun b z => nomatch z), e0.bs, e0.bsz, (fun b _ _ z => nomatch z), (fun b z => nomatch z), e0.funs, e0.frf⟩,
      rfl, e0.bare, Un.kept hk₁, ⟨_, hns, fun i y v h1 h2 h3 => ?_⟩, fun y c h => ?_, e0.hok.fresh (Nat.le_refl _), fun y c h => (hcl y c h).2, (fun p hp => nomatch hp), e0.hok.kept hk₁, hl⟩
    · have hy : scope.names.lookup y = some .cell ∨ scope.names.lookup y = some .free := hy
      rcases hy with hy | hy
      · exact absurd rfl (hcell _ (PySem.mem_of_lookup hy))
      · exact hfree y hy
    · obtain ⟨u, c, r, e, o, ho, hv⟩ := L.vals i y v h1 h2
      refine ⟨u, r, .inr ⟨.inr (hN y (List.mem_of_getElem? h1)), c, e, ?_⟩⟩
      obtain ⟨_, n, nf⟩ := L.cells y c e
      exact ⟨o, hk₁ _ _ (keep c o ho n nf).1, hv⟩
    · obtain ⟨⟨v, z⟩, _⟩ := hcl y c h
      exact ⟨v, z.keeps hk₁⟩
  refine PySem.W.kla_codeExpr (wpAny_mono (hbody A' outer' s' H' E (hr.deeper _) [] _ σ H' Q I hq) (fun u s2 ⟨v, H2, J, r, q⟩ => ?_) fun e s2 z => z)
  exact ⟨v, H2, J.os, J.bare, J.base, J.hok, r, q⟩
end L2

set_option Elab.async false
set_option linter.all false
set_option maxRecDepth 100000
namespace L2
open PySem PySem.Spec PyProof.Rows
def BM (base : Heap) (mg : Str → Option Value) : Prop := ∃ bm ob, mg "__builtins__" = some (.ref bm) ∧ bm ≠ builtinsNs ∧ base.get? bm = some ob ∧ ob.cls = .type "module" ∧ ob.dict = some builtinsNs ∧ ob.data = .plain
structure RefOk (P : Program) (w : World) (K : PySem.W.Frag) (mg : Str → Option Value) (base : Heap) (k kd : Nat) (f : Addr) (rs : (Hp → VK → XK → Prop) → Hp → VK → Prop) : Prop where
  run : ∀ (A : Around) (outer : List Env) (s : Shared) (H : Hp) (g : Addr) (spD : Hp → VK → XK → Prop) (Q : VK), Room k A → Env0 P w K mg base A outer s H → Deed P w K mg base kd s H outer g spD → rs spD H Q →
    codeAny (model P w) A (.call (.ref f) ⟨[.ref g], []⟩) (CR CX0 outer P w H s Q E0) s
def tRef (Pt : Addr) (qual : Str) (lpos : Pos) (js : List Nat) (rs : (Hp → VK → XK → Prop) → Hp → VK → Prop) (tb : XK → TE) : TE := fun σ H Q => ∃ ps : Array Value, H Pt = some (.tbl ps) ∧ TriplesOk ps.toList ∧
  ((codeAmong lpos ps.toList = none ∧ ∀ (c' : Addr) (oc : Obj) (vs : Array Value) (t : Tok), H c' = none → oc.data = .fields vs → vs[1]? = some (.str qual t) →
      rs (fun H1 Q1 E1 => tb E1 (js.map fun j => (σ[j]?).join) H1 Q1) (upd (upd H Pt (.tbl (ps ++ #[rawInt lpos.line, rawInt lpos.col, .ref c']))) c' (.frz oc (.own 0))) Q) ∨
   ∃ (c' : Addr) (oc : Obj) (vs : Array Value) (t : Tok), codeAmong lpos ps.toList = some (.ref c') ∧ H c' = some (.frz oc (.own 0)) ∧ oc.data = .fields vs ∧ vs[1]? = some (.str qual t) ∧ rs (fun H1 Q1 E1 => tb E1 (js.map fun j => (σ[j]?).join) H1 Q1) H Q)
section
variable {X : Cx} {pins : List (Addr × Obj)} {σ : St} {H : Hp} {s : Shared} {c Pt : Addr} {ps : Array Value} {params : Arguments} {body : Expr} {scope : Scope} {lpos : Pos} {clos : List (Str × Addr)} {Q : Value → Shared → Prop} {E : Value → Shared → Prop}
theorem lam_bm (I : Inv X pins σ H s) (hbm : BM X.base X.mg) (hP : H Pt = some (.tbl ps)) : s.heap.BuiltinsAt X.mg Pt := by
  obtain ⟨bm, ob, b1, b2, b3, b4, b5, b6⟩ := hbm
  obtain ⟨e1, e2⟩ := I.bs _ _ b3
  refine ⟨bm, ob, b1, b2, fun q => ?_, fun q => ?_, e1, b4, b5, b6⟩
  · obtain ⟨o, es, ep, e, hd, _⟩ := I.mod.glob
    rw [q, e] at b3; cases b3; rw [hd] at b6; cases b6
  · rw [q, hP] at e2; cases e2
theorem lam_gP (I : Inv X pins σ H s) (hP : H Pt = some (.tbl ps)) : mainGlobals ≠ Pt := fun q => by
  obtain ⟨o, es, ep, e, _⟩ := I.mod.glob
  have := (I.bs _ _ e).2
  rw [q, hP] at this; cases this
theorem make_lam (I : Inv X pins σ H s) (hcode : X.env.code = .ref c) (hC : PySem.W.CodeHd X.base c Pt) (hbm : BM X.base X.mg) (hP : H Pt = some (.tbl ps)) (ht : TriplesOk ps.toList) (hcl : closureFor scope X.env = pure clos) (hdef : defaultsOf params X.env = ([], []))
    (hn : codeAmong lpos ps.toList = none)
    (h : ∀ (c' g : Addr) (s1 : Shared) (oc : Obj) (vs : Array Value) (t : Tok) (pm ctv : Value), Inv X pins σ (upd (upd H Pt (.tbl (ps ++ #[rawInt lpos.line, rawInt lpos.col, .ref c']))) c' (.frz oc (.own 0))) s1 → H c' = none → s.heap.objs.size ≤ c' → oc.data = .fields vs → vs[1]? = some (.str (X.env.qual ++ "<lambda>") t) →
      s1.heap.get? g = some (PySem.W.kla_obj "<lambda>" (X.env.qual ++ "<lambda>") params body scope clos pm c' ctv) → s.heap.objs.size ≤ g → g ≠ c' → (∀ b o, b ≠ Pt → s.heap.get? b = some o → s1.heap.get? b = some o) → Q (.ref g) s1) :
    wpAny (model X.prog X.w) X.A (eval (.Lambda params body scope lpos) X.env) Q E s := by
  have hPg : s.heap.get? Pt = some (PySem.W.tabObj ps) := I.hok Pt _ hP
  refine PySem.W.kla_eval hdef (PySem.W.kla_makeFunction (mg := X.mg) hcl I.ok.glob (I.mod.glob.keeps I.bk) hcode (hC.keeps I.bk) hPg ht hn (lam_gP I hP) (lam_bm I hbm hP) fun c' ctv h' tk hx hge hlt hrec htb => ?_)
  obtain ⟨c2, oc, vs, t, e2, hoc, hd, hv⟩ := hrec
  cases e2
  have hcn : H c' = none := I.hok.fresh hge
  have hcP : c' ≠ Pt := fun z => by rw [z, hP] at hcn; cases hcn
  have hne : ∀ b u, H b = some u → b ≠ c' := fun b u e z => by rw [z, hcn] at e; cases e
  have hPs : Pt < s.heap.objs.size := Heap.lt_size hPg
  have hsz : s.heap.objs.size ≤ h'.objs.size := Nat.le_of_lt (Nat.lt_of_le_of_lt hge hlt)
  refine h c' h'.objs.size _ oc vs t _ ctv (I.un (t' := tk) ⟨fun b o e n _ _ => ?_, fun b o e n _ _ => ⟨o.slots, ?_⟩, fun b o e n _ => ?_, fun b o e _ => ?_, fun b xs e => ?_, fun b o u e => ?_, fun b qs e => ?_⟩ fun b u e => ?_) hcn hge hd hv (Heap.get?_push_size _ rfl) hsz (Nat.ne_of_gt hlt)
    fun b o hb e => Heap.get?_push_of_some _ (hx b o hb e)
  · exact Heap.get?_push_of_some _ (hx b o (fun z => by rw [z, hP] at n; cases n) e)
  · exact Heap.get?_push_of_some _ (hx b o (fun z => by rw [z, hP] at n; cases n) e)
  · rw [upd_ne (Nat.ne_of_lt (Nat.lt_of_lt_of_le (Heap.lt_size e) hge)), upd_ne (fun z => by rw [z, hP] at n; cases n)]; exact n
  · by_cases hb : b = Pt
    · subst hb; exact ⟨_, Heap.get?_push_of_some _ htb⟩
    · exact ⟨o, Heap.get?_push_of_some _ (hx b o hb e)⟩
  · rw [upd_ne (hne b _ e), upd_ne (fun z => by rw [z, hP] at e; cases e)]; exact e
  · rw [upd_ne (hne b _ e), upd_ne (fun z => by rw [z, hP] at e; cases e)]; exact e
  · by_cases hb : b = Pt
    · subst hb
      rw [hP] at e; cases e
      exact ⟨_, by rw [upd_ne (Ne.symm hcP), upd_same]⟩
    · exact ⟨#[], by rw [upd_ne (hne b _ e), upd_ne hb, e]; simp⟩
  · by_cases hb : b = c'
    · subst hb
      rw [upd_same] at e; cases e
      exact ⟨Heap.get?_push_of_some _ hoc, oc, Heap.get?_push_of_some _ hoc⟩
    · rw [upd_ne hb] at e
      by_cases hb2 : b = Pt
      · subst hb2
        rw [upd_same] at e; cases e
        exact Heap.get?_push_of_some _ htb
      · rw [upd_ne hb2] at e
        refine (I.hok b u e).stay (fun d v hd2 q => Heap.get?_push_of_some _ (hx d v ?_ q)) (fun d q => ?_) fun d xs q => ?_
        · rcases hd2 with z | z
          · rw [z]; exact hb2
          · intro y; rw [y, hP] at z; cases z
        · rw [upd_ne (hne d _ q), upd_ne (fun z => by rw [z, hP] at q; cases q)]; exact q
        · rw [upd_ne (hne d _ q), upd_ne (fun z => by rw [z, hP] at q; cases q)]; exact q
theorem make_lamHit {c' : Addr} (I : Inv X pins σ H s) (hcode : X.env.code = .ref c) (hC : PySem.W.CodeHd X.base c Pt) (hbm : BM X.base X.mg) (hP : H Pt = some (.tbl ps)) (ht : TriplesOk ps.toList) (hcl : closureFor scope X.env = pure clos) (hdef : defaultsOf params X.env = ([], []))
    (hn : codeAmong lpos ps.toList = some (.ref c'))
    (h : ∀ (g : Addr) (s1 : Shared) (pm ctv : Value), Inv X pins σ H s1 → s1.heap.get? g = some (PySem.W.kla_obj "<lambda>" (X.env.qual ++ "<lambda>") params body scope clos pm c' ctv) → s.heap.objs.size ≤ g → (∀ b o, s.heap.get? b = some o → s1.heap.get? b = some o) → Q (.ref g) s1) :
    wpAny (model X.prog X.w) X.A (eval (.Lambda params body scope lpos) X.env) Q E s := by
  have hPg : s.heap.get? Pt = some (PySem.W.tabObj ps) := I.hok Pt _ hP
  refine PySem.W.kla_eval hdef (PySem.W.kla_makeFunctionHit (mg := X.mg) hcl I.ok.glob (I.mod.glob.keeps I.bk) hcode (hC.keeps I.bk) hPg ht hn (lam_bm I hbm hP) fun ctv h' tk hk hsz => ?_)
  have kp : ∀ b o, s.heap.get? b = some o → (h'.push { cls := .type "function", data := .func (PySem.W.kla_fn "<lambda>" (X.env.qual ++ "<lambda>") params body scope clos ((X.mg "__name__").getD .none) (.ref c') ctv) }).get? b = some o := fun b o e => Heap.get?_push_of_some _ (hk b o e)
  exact h h'.objs.size _ _ ctv (I.kept (t' := tk) kp) (Heap.get?_push_size _ rfl) hsz kp
end
section
variable {X : Cx} {k kd : Nat} {f c Pt : Addr} {rs : (Hp → VK → XK → Prop) → Hp → VK → Prop} {x : Str} {p pos lpos : Pos} {params : Arguments} {body : Expr} {scope : Scope} {N' : List Str} {tb : XK → TE}
theorem pe_refuse (js : List Nat) (F : RefOk X.prog X.w X.K X.mg X.base k (kd + 1) f rs) (hr : Room k X.A) (hg : Gl X x) (hm : X.mg x = some (.ref f)) (hk : PySem.W.keepIn X.K (.ref f) = true)
    (hcode : X.env.code = .ref c) (hC : PySem.W.CodeHd X.base c Pt) (hbm : BM X.base X.mg) (hfn : ∀ y, X.fn y = true) (hstk : X.stack = X.env :: X.outer) (hfrm : X.env.frame = some X.env.locals)
    (hkd : scope.kind = .function) (hco : scope.isCoroutine = false) (hgen : scope.isGenerator = false) (hcell : ∀ y ∈ scope.names, y.2 ≠ .cell) {esc : Scope} (hsc : X.env.scope = esc) (hcells' : ∀ y ∈ scope.names, y.2 = .free → esc.names.lookup y.1 = some .cell)
    (hNF : ∀ y ∈ N', scope.names.lookup y = some .free) (hNJ : js.map (fun j => X.N[j]?) = N'.map some)
    (hbind : ∀ (qual : Str) (cl : List (Str × Addr)) (pm cd ctv : Value), bindArgs (PySem.W.kla_fn "<lambda>" qual params body scope cl pm cd ctv) ⟨[], []⟩ = pure [])
    (hbody : ∀ (g c' : Addr) (cl : List (Str × Addr)) (A : Around) (outer : List Env) (s : Shared) (H : Hp) (E : XK), Room kd (A.deeper (PySem.W.envX (X.env.qual ++ "<lambda>") scope s.heap.objs.size g (.ref c') cl)) →
      PE (cxLam X.prog X.w X.K X.mg X.base N' (X.env.qual ++ "<lambda>") scope g (.ref c') cl A outer s H E) body (tb E))
    (hdef : defaultsOf params X.env = ([], []) := by rfl) (hdb : (x == ("__debug__" : Str)) = false := by decide) (he : starEach [.Lambda params body scope lpos] X.env = [(false, eval (.Lambda params body scope lpos) X.env)] := by rfl) :
    PE X (.Call (.Name x p) [.Lambda params body scope lpos] [] pos) (tRef Pt (X.env.qual ++ "<lambda>") lpos js rs tb) := by
  intro pins s σ H Q I ⟨ps, hP, ht, hq⟩
  have hcells : ∀ y ∈ scope.names, y.2 = .free → X.env.kindOf y.1 = some .cell := fun y hy e => by
    show X.env.scope.names.lookup y.1 = _
    rw [hsc]; exact hcells' y hy e
  have hfr : ∀ y ∈ scope.names, y.2 = .free → ∃ d, X.env.cells.lookup y.1 = some d := fun y hy e => I.ok.has _ (.inl (hcells y hy e))
  have hcl := closure_eq scope X.env hfr
  have csub : ∀ y d, (clOf X.env.cells scope.names []).lookup y = some d → X.env.cells.lookup y = some d := fun y d e => clOf_sub scope.names [] hfr (fun _ _ z => nomatch z) e
  have hlen : js.length = N'.length := by have := congrArg List.length hNJ; simpa using this
  have hPg : s.heap.get? Pt = some (PySem.W.tabObj ps) := I.hok Pt _ hP
  have go : ∀ (g c' : Addr) (s1 : Shared) (H1 : Hp) (oc : Obj) (vs : Array Value) (t : Tok) (pm ctv : Value), Inv X pins σ H1 s1 → H1 c' = some (.frz oc (.own 0)) → oc.data = .fields vs → vs[1]? = some (.str (X.env.qual ++ "<lambda>") t) →
      s1.heap.get? g = some (PySem.W.kla_obj "<lambda>" (X.env.qual ++ "<lambda>") params body scope (clOf X.env.cells scope.names []) pm c' ctv) → H1 g = none → s.heap.objs.size ≤ g →
      rs (fun H1 Q1 E1 => tb E1 (js.map fun j => (σ[j]?).join) H1 Q1) H1 Q → wpAny (model X.prog X.w) X.A (call (.ref f) [.ref g]) (EP X pins σ Q) X.xe s1 := by
    intro g c' s1 H1 oc vs t pm ctv I1 h1 h2 h3 hgo hgn hge hrs
    have nst : ∀ b, b ∈ frs X.stack → b < s.heap.objs.size := fun b hb => by
      obtain ⟨_, o, ho, _⟩ := I.stack.mem hb
      exact Heap.lt_size ho
    have hcc : ∀ y d, X.env.cells.lookup y = some d → d ∉ frs X.stack := fun y d e z => by
      have z2 := I.stkSub d z
      rcases List.mem_cons.mp z2 with z2 | z2
      · exact I.cne y d e z2
      · obtain ⟨_, o, ho, _⟩ := I.ok.funs.mem z2
        exact absurd (Nat.lt_of_lt_of_le (Heap.lt_size ho) (I.ok.cab y d (hfn y) e)) (Nat.lt_irrefl _)
    have L : LamAt s1.heap H1 (frs X.stack) N' (js.map fun j => (σ[j]?).join) (X.env.qual ++ "<lambda>") params body scope (clOf X.env.cells scope.names []) g c' := by
      refine ⟨⟨pm, ctv, hgo⟩, ⟨hgn, fun z => absurd (Nat.lt_of_lt_of_le (nst g z) hge) (Nat.lt_irrefl _)⟩, ⟨oc, vs, t, h1, h2, h3⟩, fun y d e => ?_, fun i y v e1 e2 => ?_⟩
      · exact ⟨I1.cell y d (csub y d e), I1.freeC y d (csub y d e), hcc y d (csub y d e)⟩
      · have hyF := hNF y (List.mem_of_getElem? e1)
        obtain ⟨d, hd⟩ := clOf_has (cells := X.env.cells) scope.names [] (PySem.mem_of_lookup hyF)
        have hi : (js.map (fun j => X.N[j]?))[i]? = some (some y) := by rw [hNJ, List.getElem?_map, e1]; rfl
        rw [List.getElem?_map] at hi e2
        cases hj : js[i]? with
        | none => rw [hj] at hi; cases hi
        | some j =>
          rw [hj] at hi e2
          have hXN : X.N[j]? = some y := by simpa using hi
          have hσ : σ[j]? = some (some v) := by
            have e3 : (σ[j]?).join = some v := by simpa using e2
            cases q : σ[j]? with
            | none => rw [q] at e3; cases e3
            | some o => rw [q] at e3; cases o with
              | none => cases e3
              | some v' => cases e3; rfl
          obtain ⟨m, hn, hm⟩ := I1.loc
          have hkc := hcells _ (PySem.mem_of_lookup hyF) rfl
          obtain ⟨u, r, lk⟩ := hm j y v hXN hσ (.inr (.inl hkc))
          rcases lk with ⟨kk, _⟩ | ⟨_, d2, hd2, hcell2⟩
          · rw [show X.env.kindOf y = some .cell from hkc] at kk; cases kk
          · have e4 := csub y d hd
            rw [e4] at hd2; cases hd2
            exact ⟨u, d, r, hd, hcell2⟩
    have D := deed_lam (P := X.prog) (w := X.w) (K := X.K) (mg := X.mg) (base := X.base) (k := kd) (tb := tb) L (by rw [List.length_map, hlen]) hkd hco hgen hcell (fun y hy => clOf_has scope.names [] (PySem.mem_of_lookup hy)) hNF (fun y z d e1 e2 => I.ok.inj y z d (csub y d e1) (csub z d e2))
      (fun pm cd ctv => hbind _ _ pm cd ctv) (fun A outer s H E hr => hbody g c' _ A outer s H E hr)
    refine wpAny_call (codeAny_mono (F.run X.A X.stack s1 H1 g _ Q hr I1.env0 D hrs) fun r s' hq => ?_)
    cases r with
    | error e => exact False.elim hq
    | ok fl =>
      cases fl with
      | ret u => exact I1.after hq
      | next => exact False.elim hq
      | brk => exact False.elim hq
      | cont => exact False.elim hq
  refine wpAny_Call_Name_kw (ld_glob I hg hm ?_ hdb)
  refine PySem.W.callWith_K (h₀ := X.base) I.ok.mod.kin hk ?_ he rfl
  rw [he]
  show wpAny _ _ (spliced ((false, eval (.Lambda params body scope lpos) X.env) :: backTo pos [])) _ _ s
  refine Calls.spliced_cons ?_
  rcases hq with ⟨hn, hq⟩ | ⟨c', oc, vs, t, hn, h1, h2, h3, hq⟩
  · refine make_lam I hcode hC hbm hP ht hcl hdef hn fun c' g s1 oc vs t pm ctv I1 hcn hcs h2 h3 hgo hge hgc kp => Calls.spliced_nil ⟨I1.kIn, ?_⟩
    have hgP : g ≠ Pt := Ne.symm (Nat.ne_of_lt (Nat.lt_of_lt_of_le (Heap.lt_size hPg) hge))
    exact go g c' s1 _ oc vs t pm ctv I1 upd_same h2 h3 hgo (by rw [upd_ne hgc, upd_ne hgP]; exact I.hok.fresh hge) hge (hq c' oc vs t hcn h2 h3)
  · refine make_lamHit I hcode hC hbm hP ht hcl hdef hn fun g s1 pm ctv I1 hgo hge kp => Calls.spliced_nil ⟨I1.kIn, ?_⟩
    exact go g c' s1 _ oc vs t pm ctv I1 h1 h2 h3 hgo (I.hok.fresh hge) hge hq
end
end L2

set_option Elab.async false
set_option linter.all false
set_option maxRecDepth 100000
namespace L2
open PySem PySem.Spec PyProof.Rows
section
variable {P : Program} {w : World} {K : PySem.W.Frag} {mg : Str → Option Value} {base : Heap}
theorem FunG.okC {x qual : Str} {st : Stmt} {dV : Value} {f : Addr} {fd : FuncData} {N ps : List Str} {k : Nat} {sp : Sp} (F : FunG K x qual st dV f fd) (S : FnScope N ps (defScope st)) (len : ∀ vs H Q E, sp vs H Q E → vs.length = ps.length)
    (hbody : ∀ (cdv : Value) (A : Around) (outer : List Env) (s : Shared) (H : Hp) (vs : List V) (Q : VK) (E : XK), fd.code = cdv → Room k (A.deeper (envOfC qual (defScope st) s.heap.objs.size f cdv)) → sp vs H Q E →
      ∃ t, PSs (cxOf CX0 P w K mg base N qual (defScope st) f cdv A outer s H E).nox (defBody st) t ∧ t { nx := fun _ H' => Q .non H', rt := Q } (start N vs) H) : FnOk P w K mg base CX0 (k + 1) f fd ps sp := by
  obtain ⟨oc, od, kV, doc, pm, an, cdv, ct, osl, rfl, lk, hcd⟩ := F.ex
  refine fn_of lk hcd S len fun A outer s H vs Q E hr hsp => ?_
  obtain ⟨t, h, q⟩ := hbody cdv A outer s H vs Q E rfl hr hsp
  exact ⟨t, h.nox, q⟩
theorem FunG.okR {x qual : Str} {st : Stmt} {dV : Value} {f : Addr} {fd : FuncData} {N ps : List Str} {k : Nat} {sp : Sp} (F : FunG K x qual st dV f fd) (S : FnScope N ps (defScope st)) (len : ∀ vs H Q E, sp vs H Q E → vs.length = ps.length)
    (hbody : ∀ (cdv : Value) (A : Around) (outer : List Env) (s : Shared) (H : Hp) (vs : List V) (Q : VK) (E : XK), Room k (A.deeper (envOfC qual (defScope st) s.heap.objs.size f cdv)) → sp vs H Q E →
      ∃ t, PSs (cxOf (CXr P w) P w K mg base N qual (defScope st) f cdv A outer s H E) (defBody st) t ∧ t { nx := fun _ H' => Q .non H', rt := Q } (start N vs) H) : FnOk P w K mg base (CXr P w) (k + 1) f fd ps sp := by
  obtain ⟨oc, od, kV, doc, pm, an, cdv, ct, osl, rfl, lk, hcd⟩ := F.ex
  exact fn_of lk hcd S len fun A outer s H vs Q E hr hsp => hbody cdv A outer s H vs Q E hr hsp
theorem FunG.okQ {x qual : Str} {st : Stmt} {dV : Value} {f : Addr} {fd : FuncData} {N ps : List Str} {k : Nat} {sp : Sp} (F : FunG K x qual st dV f fd) (S : FnScope N ps (defScope st)) (len : ∀ vs H Q E, sp vs H Q E → vs.length = ps.length)
    (hbody : ∀ (cdv : Value) (A : Around) (outer : List Env) (s : Shared) (H : Hp) (vs : List V) (Q : VK) (E : XK), RoomQ k (A.deeper (envOfC qual (defScope st) s.heap.objs.size f cdv)) → sp vs H Q E →
      ∃ t, PSs (cxOfQ P w K mg base N qual (defScope st) f cdv A outer s H E) (defBody st) t ∧ t { nx := fun _ H' => Q .non H', rt := Q } (start N vs) H) : FnOkQ P w K mg base (k + 1) f fd ps sp := by
  obtain ⟨oc, od, kV, doc, pm, an, cdv, ct, osl, rfl, lk, hcd⟩ := F.ex
  exact fn_ofQ lk hcd S len fun A outer s H vs Q E hr hsp => hbody cdv A outer s H vs Q E hr hsp
theorem FunG.refOk {x qual y : Str} {st : Stmt} {f : Addr} {fd : FuncData} {N : List Str} {k kd : Nat} {rs : (Hp → VK → XK → Prop) → Hp → VK → Prop} (F : FunG K x qual st .none f fd) (S : FnScope N [y] (defScope st)) (hb : Binds K fd [y] [])
    (hbody : ∀ (cdv : Value) (A : Around) (outer : List Env) (s : Shared) (H : Hp) (g : Addr) (spD : Hp → VK → XK → Prop) (Q : VK), Room k (A.deeper (envOfC qual (defScope st) s.heap.objs.size f cdv)) → Deed P w K mg base kd s H outer g spD → rs spD H Q →
      ∃ t, PSs (cxOf CX0 P w K mg base N qual (defScope st) f cdv A outer s H E0).nox (defBody st) t ∧ t { nx := fun _ H' => Q .non H', rt := Q } (start N [.ref g]) H) : RefOk P w K mg base (k + 1) kd f rs := by
  obtain ⟨oc, od, kV, doc, pm, an, cdv, ct, osl, rfl, lk, hcd⟩ := F.ex
  refine ⟨fun A outer s H g spD Q hr e0 D hrs => ?_⟩
  have r : Vals [V.ref g] [Value.ref g] := .cons rfl .nil
  have KX : K.In s.heap := e0.mod.kin.keeps fun b o e => (e0.bs b o e).1
  have lim : s.heap.NoLimit := e0.mod.nolimit.keeps fun b o e => (e0.bs b o e).1
  have hkind : ∀ z ∈ [y].zip [Value.ref g], (defScope st).names.lookup z.1 = some .local ∨ ((defScope st).names.lookup z.1 = some .cell ∧ ((cellsFrom (s.heap.objs.size + 1) (defScope st).names []).lookup z.1).isSome = true) := fun ⟨n, v⟩ hy => by
    rcases S.par n (List.of_mem_zip hy).1 with q | q
    · exact .inl q
    · exact .inr ⟨q, PySem.W.cellsFrom_some _ _ _ (.inl q)⟩
  have hbt : BindsTo s (PySem.W.fnOf x qual (defArgs st) (defBody st) (defScope st) .none kV doc pm an cdv ct) ⟨[.ref g], []⟩ ([y].zip [Value.ref g]) := hb s [.ref g] KX rfl
  refine codeAny_call_function hr.depth (KX _ _ lk) rfl S.co S.gen rfl (PySem.W.codeRec_of KX hcd) (hbt _ _ _ _ ?_)
  refine wpAny_newFunctionEnv_cells S.kind hkind fun env he s1 z => ?_
  subst he
  refine ⟨lim.keeps z.toInCall.keep, codeAny_func ?_⟩
  obtain ⟨t, ht, hq⟩ := hbody cdv A outer s H g spD Q (hr.deeper _) D hrs
  have I : Inv (cxOf CX0 P w K mg base N qual (defScope st) f cdv A outer s H E0) [] (start N [.ref g]) H s1 := inv_start S hr.hd e0 rfl r z
  refine wpAny_mono (ht.nox [] s1 (start N [.ref g]) H _ I hq) (fun fl s' hs => ?_) fun e s' hs => hs
  have fin : ∀ {σ' : St} {H' : Hp} {v : V} {u : Value}, Inv (cxOf CX0 P w K mg base N qual (defScope st) f cdv A outer s H E0) [] σ' H' s' → RelV v u → Q v H' → CE outer P w H s Q u s' :=
    fun {σ' H' v u} J rv q => ⟨v, H', J.os, J.bare, J.base, J.hok, rv, q⟩
  cases fl with
  | ret u =>
    obtain ⟨v, σ', H', J, rv, q⟩ := hs
    exact fin J rv q
  | next =>
    obtain ⟨σ', H', J, q⟩ := hs
    exact fin (v := V.non) (u := Value.none) J rfl q
  | brk =>
    obtain ⟨_, _, _, q⟩ := hs
    exact False.elim q
  | cont =>
    obtain ⟨_, _, _, q⟩ := hs
    exact False.elim q
end
theorem law_callT {P : Program} {w : World} {K : PySem.W.Frag} {mg mb : Str → Option Value} {k : Nat} {fa a c Pt : Addr} {fd : FuncData} {x : Str} {sp : Sp} {s₁ : Shared} {vs : List Value} {ns : List Int}
    (KX : K.In s₁.heap) (hns : s₁.heap.Ns mainGlobals mg) (hb : s₁.heap.Ns builtinsNs mb) (hbb : ∀ x : Str, x ≠ "__name__" → mb x = bootBuiltins x) (hlim : s₁.heap.NoLimit) (hg : s₁.gens = #[])
    (ha : s₁.heap.get? a = some { cls := .type "list", data := .seq vs.toArray }) (hi : IntsAre vs ns) (hl : ns.length ≤ sizeLine) (hr : Room k callerA)
    (hPt : s₁.heap.get? Pt = some (PySem.W.tabObj #[])) (hPK : K.lookup Pt = none) (hC : PySem.W.CodeHd s₁.heap c Pt) (hbm : BM s₁.heap mg)
    (F : ∀ base : Heap, K.In base → base.Ns mainGlobals mg → BM base mg → FnOk P w K mg base CX0 k fa fd [x] sp) (hbind : ∀ (s : Shared) (u : Value), BindsTo s fd ⟨[u], []⟩ [(x, u)])
    (hsp : ∀ H : Hp, H Pt = some (.tbl #[]) → SqL K H a (ns.map V.int) → sp [.ref a] H (fun v _ => v = .bl true) fun _ _ _ => False) :
    codeAny (model P w) callerA (.call (.ref fa) ⟨[.ref a], []⟩) (fun r s' => r = .ok (.ret (.bool true)) ∧ OldK s₁.heap s'.heap ∧ s'.os = s₁.os ∧ AllBare s'.gens) s₁ := by
  have rv := vals_ints hi
  have lenV := hi.length
  have haP : a ≠ Pt := fun z => by rw [z, hPt] at ha; cases ha
  have core : ∀ H : Hp, H Pt = some (.tbl #[]) → (∀ b, b ≠ Pt → H b = none ∨ ∃ o xs, H b = some (.frz o (.lst xs))) → SqL K H a (ns.map V.int) → HOk P w H s₁.heap → (∀ b, H b ≠ none → b = a ∨ b = Pt) → (H a ≠ none → K.lookup a = none) →
      codeAny (model P w) callerA (.call (.ref fa) ⟨[.ref a], []⟩) (fun r s' => r = .ok (.ret (.bool true)) ∧ OldK s₁.heap s'.heap ∧ s'.os = s₁.os ∧ AllBare s'.gens) s₁ := by
    intro H hT hO hS hok hA hK
    have base_of : ∀ {b : Addr} {o : Obj}, s₁.heap.get? b = some o → H b = none → (hidT s₁.heap H).get? b = some o := fun e n => hidT_get e n
    have noA : ∀ {b : Addr} {o : Obj}, s₁.heap.get? b = some o → (∀ vs n, o.data ≠ .seq vs n) → (∀ vs, o.data ≠ .fields vs) → H b = none := fun {b o} e d1 d2 => by
      cases q : H b with
      | none => rfl
      | some u =>
        rcases hA b (by rw [q]; simp) with e' | e'
        · subst e'; rw [ha] at e; cases e; exact absurd rfl (d1 _ _)
        · subst e'; rw [hPt] at e; cases e; exact absurd rfl (d2 _)
    have nsK : ∀ {b : Addr} {m : Str → Option Value}, s₁.heap.Ns b m → (hidT s₁.heap H).Ns b m := fun {b m} ⟨o, es, ep, e, d, r⟩ => ⟨o, es, ep, base_of e (noA e (fun _ _ z => by rw [d] at z; cases z) fun _ z => by rw [d] at z; cases z), d, r⟩
    have hKb : K.In (hidT s₁.heap H) := fun b o e => base_of (KX b o e) (by
      cases q : H b with
      | none => rfl
      | some u =>
        rcases hA b (by rw [q]; simp) with e' | e'
        · subst e'; rw [hK (by rw [q]; simp)] at e; cases e
        · subst e'; rw [hPK] at e; cases e)
    have hM : Mod K mg (hidT s₁.heap H) := ⟨hKb, nsK hns, ⟨mb, nsK hb, hbb⟩, let ⟨mc, h1, h2⟩ := hlim; ⟨mc, nsK h1, h2⟩⟩
    have hB : BM (hidT s₁.heap H) mg := by
      obtain ⟨bm, ob, b1, b2, b3, b4, b5, b6⟩ := hbm
      exact ⟨bm, ob, b1, b2, base_of b3 (noA b3 (fun _ _ z => by rw [b6] at z; cases z) fun _ z => by rw [b6] at z; cases z), b4, b5, b6⟩
    have e0 : Env0 P w K mg (hidT s₁.heap H) callerA [] s₁ H := ⟨rfl, hM, fun b o e => of_hidT e, Nat.le_of_eq (hidT_size _ _), trivial, fun b hb => absurd (show b ∈ ([] : List Addr) from hb) (by simp), hok, .of_eq hg⟩
    refine codeAny_mono ((F _ hKb (nsK hns) hB).run callerA [] s₁ H ⟨[.ref a], []⟩ [.ref a] [.ref a] _ _ hr e0 (hbind s₁ (.ref a)) (.cons rfl .nil) (hsp H hT hS)) fun r s' h => ?_
    cases r with
    | error e => exact False.elim h
    | ok fl =>
      cases fl with
      | next => exact False.elim h
      | brk => exact False.elim h
      | cont => exact False.elim h
      | ret u =>
        obtain ⟨v, H', os, bare, un, hok', r', q⟩ := h
        have q' : v = .bl true := q
        subst q'
        obtain rfl : u = Value.bool true := r'
        refine ⟨rfl, ⟨fun b o e => ?_, fun b o e => un.there b o e (by simp)⟩, os, bare⟩
        by_cases hbP : b = Pt
        · subst hbP
          rw [hPt] at e; cases e
          obtain ⟨more, e2⟩ := un.tbls b _ hT
          have e3 : s'.heap.get? b = some { cls := .none, data := .fields (#[] ++ more) } := hok' b _ e2
          exact .inr (.inl ⟨(hC.tab hPt).isCodeTable, rfl, #[], more, rfl, e3⟩)
        · refine .inl ?_
          cases q : H b with
          | none => exact un.keep b o e q (by intro z; exact absurd (show b ∈ ([] : List Addr) from z) (by simp)) (by simp)
          | some u =>
            rcases hO b hbP with z | ⟨ob, xs, z⟩
            · rw [q] at z; cases z
            · have z2 := un.frzs b ob _ z
              obtain ⟨e1, _⟩ := hok b _ z
              obtain ⟨e2, _⟩ := hok' b _ z2
              rw [e] at e1; cases e1
              exact e2
  cases hk : K.lookup a with
  | some o =>
    have e := KX a o hk
    rw [ha] at e
    cases e
    refine core (fun b => if b = Pt then some (.tbl #[]) else none) (if_pos rfl) (fun b hb => .inl (if_neg hb)) (.inr ⟨_, vs.toArray, _, hk, rfl, rfl, rfl, by rw [List.size_toArray, lenV]; exact hl, by simpa using rv⟩) (fun b u z => ?_) (fun b z => ?_) fun z => absurd (if_neg haP) z
    · by_cases hb : b = Pt
      · have z' := (if_pos hb).symm.trans z
        cases z'
        subst hb
        exact hPt
      · have z' := (if_neg hb).symm.trans z
        cases z'
    · by_cases hb : b = Pt
      · exact .inr hb
      · exact absurd (if_neg hb) z
  | none =>
    refine core (fun b => if b = Pt then some (.tbl #[]) else if b = a then some (.frz { cls := .type "list", data := .seq vs.toArray } (.lst (ns.map V.int))) else none) (if_pos rfl) (fun b hb => ?_) (.inl (.inr ⟨{ cls := .type "list", data := .seq vs.toArray }, (if_neg haP).trans (if_pos rfl)⟩)) (fun b u z => ?_) (fun b z => ?_) fun _ => hk
    · by_cases hb2 : b = a
      · exact .inr ⟨_, _, (if_neg hb).trans (if_pos hb2)⟩
      · exact .inl ((if_neg hb).trans (if_neg hb2))
    · by_cases hb : b = Pt
      · have z' := (if_pos hb).symm.trans z
        cases z'
        subst hb
        exact hPt
      · have z1 := (if_neg hb).symm.trans z
        by_cases hb2 : b = a
        · have z' := (if_pos hb2).symm.trans z1
          cases z'
          subst hb2
          exact ⟨ha, by rw [List.length_map]; exact hl, vs, _, rv, ha⟩
        · have z' := (if_neg hb2).symm.trans z1
          cases z'
    · by_cases hb : b = Pt
      · exact .inr hb
      · by_cases hb2 : b = a
        · exact .inl hb2
        · exact absurd ((if_neg hb).trans (if_neg hb2)) z
theorem walk_ofT {l : PySem.W.OpenLaw} {n k : Nat} {q : Program} {loose : List Str} {XP : (Str → Option Value) → Heap → Prop} {YP : World → Heap → Prop} {d : DefRec} {K : Params → PySem.W.Frag} {sp : PySem.W.Frag → Addr → Sp} {x : Str} {Pt : Addr}
    (hn : l.most = some n) (hn2 : n ≤ sizeLine) (hdf : d.params.defaults = []) (hr : Room k callerA)
    (hY : ∀ (w : World) (h : Heap), YP w h → (K w.params).In h ∧ h.get? Pt = some (PySem.W.tabObj #[]))
    (F : ∀ (w : World) (mg : Str → Option Value) (fa : Addr) (h : Heap), (K w.params).In h → h.Ns mainGlobals mg → mg d.name = some (.ref fa) →
      ∃ (fd : FuncData) (c : Addr), (K w.params).lookup Pt = none ∧ PySem.W.codeHdIn (K w.params) c Pt = true ∧ (∀ (s : Shared) (u : Value), BindsTo s fd ⟨[u], []⟩ [(x, u)]) ∧
        ∀ base : Heap, (K w.params).In base → base.Ns mainGlobals mg → BM base mg → FnOk l.prog w (K w.params) mg base CX0 k fa fd [x] (sp (K w.params) Pt))
    (hsp : ∀ (K : PySem.W.Frag) (H : Hp) (a : Addr) (ns : List Int), ns.length ≤ n → H Pt = some (.tbl #[]) → SqL K H a (ns.map V.int) → sp K Pt [.ref a] H (fun v _ => v = .bl true) fun _ _ _ => False) :
    PySem.W.WalkO q loose XP YP l.row.toRowW d [] (fun f vs => PySem.call f vs) := by
  refine Att.attach_call hn hdf fun w s₀ s₁ mg mb fa o pm cd doc a vs ns G Y ho hd hcd hmg hobj hints hlen hg => ?_
  obtain ⟨KX, hPt⟩ := hY w _ Y
  obtain ⟨fd, c, hPK, hch, hb, hF⟩ := F w mg fa _ KX G.T.g hmg
  obtain ⟨bm, ob, b1, b2, b3, b4, b5, b6⟩ := G.T.bmain
  exact law_callT KX G.T.g G.T.b G.T.builtins G.T.nolimit hg hobj hints (Nat.le_trans hlen hn2) hr hPt hPK (PySem.W.codeHd_of_K KX hch) ⟨bm, ob, b1, b2, b3, b4, b5, b6⟩ hF hb fun H hT hS => hsp (K w.params) H a ns hlen hT hS
end L2

set_option Elab.async false
set_option linter.all false
set_option maxRecDepth 100000
namespace L2
open PySem PySem.Spec PyProof.Rows
def excAll (K : PySem.W.Frag) (C R : Addr) (Ds : List (Addr × Bool)) : Bool :=
  ((PySem.W.findIn K (.ref C) "__getattribute__" == some (some (.builtin "BaseException.__getattribute__"))) && (PySem.W.findIn K (.ref C) "__getattr__" == some none) && (PySem.W.mroIn K C (.type "BaseException") == some true) && PySem.W.hasDictIn K C && (PySem.W.findIn K (.ref C) "__class__" == some (some (.builtin "object.__class__"))) && (PySem.W.specialIn K (.builtin "object.__class__") "__get__" == some (some (.builtin "getset_descriptor.__get__"))) &&
    (PySem.W.takesIn K (.builtin "object.__class__") == some true) && (PySem.W.mroIn K C (.type "object") == some true)) &&
  ((PySem.W.exmOne K (.ref C) (.ref R) == some true) && (Ds.all fun p => PySem.W.kitOne K (.ref C) (.ref p.1) == some p.2) && (PySem.W.kitOne K (.ref C) (.type "ValueError") == some true)) && PySem.W.excIn K C veTail "ValueError.__new__"
section
variable {K : PySem.W.Frag} {C R : Addr} {Ds : List (Addr × Bool)}
theorem excAll_in (h : excAll K C R Ds = true) : PySem.W.excIn K C veTail "ValueError.__new__" = true := by
  unfold excAll at h
  exact (Bool.and_eq_true_iff.mp h).2
theorem excAll_cls (h : excAll K C R Ds = true) : ExcCls K C := by
  unfold excAll at h
  simp only [Bool.and_eq_true, beq_iff_eq] at h
  obtain ⟨⟨⟨⟨⟨⟨⟨⟨⟨a0, b0⟩, c0⟩, a2⟩, a3⟩, a4⟩, a5⟩, a6⟩, _⟩, _⟩ := h
  exact ⟨a0, b0, c0, a2, a3, a4, a5, a6⟩
theorem excAll_exm (h : excAll K C R Ds = true) : PySem.W.exmOne K (.ref C) (.ref R) = some true := by
  unfold excAll at h
  simp only [Bool.and_eq_true, beq_iff_eq] at h
  exact h.1.2.1.1
theorem excAll_ve (h : excAll K C R Ds = true) : PySem.W.kitOne K (.ref C) (.type "ValueError") = some true := by
  unfold excAll at h
  simp only [Bool.and_eq_true, beq_iff_eq] at h
  exact h.1.2.2
theorem excAll_kit (h : excAll K C R Ds = true) (i : Nat) {D : Addr} {b : Bool} (e : Ds[i]? = some (D, b)) : PySem.W.kitOne K (.ref C) (.ref D) = some b := by
  unfold excAll at h
  simp only [Bool.and_eq_true, beq_iff_eq] at h
  have := List.all_eq_true.mp h.1.2.1.2 (D, b) (List.mem_of_getElem? e)
  simpa using this
end
def Small (i : Int) : Prop := i.natAbs.log2 < 1920
theorem small_of {i : Int} (h : i.natAbs < 2 ^ 1000) : Small i := by
  unfold Small
  by_cases h0 : i.natAbs = 0
  · rw [h0]; decide
  · have := (Nat.log2_lt h0).mpr (show i.natAbs < 2 ^ 1000 from h)
    omega
theorem smallLen {i : Int} (h : Small i) : (PySem.Str.ofString (toString i)).length ≤ 1921 := int_text_len_1921 h
theorem catLen (a b : Str) : (a ++ b).length = a.length + b.length := PySem.Str.length_append a b
theorem cat1 {a b : Str} {n m : Nat} (h1 : a.length ≤ n) (h2 : b.length ≤ m) : (a ++ b).length ≤ n + m := by rw [catLen]; omega
theorem emptyLen : (Str.empty).length ≤ 0 := by decide
section
variable {E : XK} {C : Addr} {D : Ends} {σ : St} {H : Hp} {x y : Str} {i j : Nat} {m n : Int}
theorem rz0 (q : ∀ e, E (.ref C) (some e) H) : sRaise E C (tC (.str x)) D σ H := q
theorem rz1 (hv : σ[i]? = some (some (.int n))) (hn : Small n) (q : ∀ e, E (.ref C) (some e) H) (hx : x.length ≤ 1000 := by decide +kernel) :
    sRaise E C (fun σ H Q => tJ1 (tC (.str x)) (tJ1 (tFmt (tVar i)) tJ0) Str.empty σ H Q) D σ H := by
  have l1 := cat1 emptyLen hx
  have l2 := cat1 l1 (smallLen hn)
  exact ⟨x, rfl, sizeOk' (by omega), .int n, hv, .inr ⟨n, rfl, hn, _, rfl, sizeOk' (by omega), sizeOk' (by omega), q⟩⟩
end
end L2

set_option Elab.async false
set_option linter.all false
set_option maxRecDepth 100000
namespace L2
open PySem PySem.Spec PyProof.Rows
def Asc (n : Nat) (y : Str) : Prop := y.length ≤ n ∧ ∀ c ∈ y.cps.toList, c < 128
theorem Asc.mono {n m : Nat} {y : Str} (h : Asc n y) (hm : n ≤ m) : Asc m y := ⟨Nat.le_trans h.1 hm, h.2⟩
theorem slice_mem {x : Str} {l u : Option Int} {c : Nat} (h : c ∈ (Txt.slice x l u).cps.toList) : c ∈ x.cps.toList := by
  unfold Txt.slice at h
  split at h
  · exact h
  · have h2 : c ∈ (Builtin.Str.strSliceIndices l u 1 x.length).filterMap (x.cps[·]?) := by simpa using h
    obtain ⟨i, _, e⟩ := List.mem_filterMap.mp h2
    exact Array.mem_toList_iff.mpr (Array.mem_of_getElem? e)
theorem Asc.slice {n : Nat} {y : Str} (h : Asc n y) (l u : Option Int) : Asc n (Txt.slice y l u) := ⟨Nat.le_trans (Txt.slice_le y l u) h.1, fun c hc => h.2 c (slice_mem hc)⟩
section
variable {X : Cx}
end
end L2

set_option Elab.async false
set_option linter.all false
set_option maxRecDepth 100000
namespace L2
open PySem PySem.Spec PyProof.Rows
def tCut (t : TS) : TS := fun D σ H => ∃ Pn : St → Hp → Prop, t { D with nx := Pn } σ H ∧ ∀ σ' H', Pn σ' H' → D.nx σ' H'
theorem ps_cut {X : Cx} {st : Stmt} {t : TS} (h : PS X st t) : PS X st (tCut t) := by
  intro pins s σ H D I ⟨Pn, ht, hn⟩
  refine thn (h pins s σ H { D with nx := Pn } I ht) fun f s1 q => ?_
  cases f with
  | next => obtain ⟨σ', H', I', q⟩ := q; exact ⟨σ', H', I', hn _ _ q⟩
  | ret v => exact q
  | brk => exact q
  | cont => exact q
section
variable {E : XK} {C : Addr} {D : Ends} {σ : St} {H : Hp} {x x1 y : Str} {i j : Nat} {m n : Int}
theorem rz11 (hv : σ[i]? = some (some (.int m))) (hm : Small m) (hw : σ[j]? = some (some (.int n))) (hn : Small n) (q : ∀ e, E (.ref C) (some e) H) (hx : x.length ≤ 1000 := by decide +kernel) (hx1 : x1.length ≤ 1000 := by decide +kernel) :
    sRaise E C (fun σ H Q => tJ1 (tC (.str x)) (tJ1 (tFmt (tVar i)) (tJ1 (tC (.str x1)) (tJ1 (tFmt (tVar j)) tJ0))) Str.empty σ H Q) D σ H := by
  have l1 := cat1 emptyLen hx
  have l2 := cat1 l1 (smallLen hm)
  have l3 := cat1 l2 hx1
  have l4 := cat1 l3 (smallLen hn)
  exact ⟨x, rfl, sizeOk' (by omega), .int m, hv, .inr ⟨m, rfl, hm, _, rfl, sizeOk' (by omega), _, rfl, sizeOk' (by omega), .int n, hw, .inr ⟨n, rfl, hn, _, rfl, sizeOk' (by omega), sizeOk' (by omega), q⟩⟩⟩
end
end L2

set_option Elab.async false
set_option linter.all false
set_option maxRecDepth 100000
namespace L2
open PySem PySem.Spec PyProof.Rows
theorem among_snoc {pos p2 : Pos} {c : Value} : ∀ (l : List Value), TriplesOk l → codeAmong pos (l ++ [rawInt p2.line, rawInt p2.col, c]) = (match codeAmong pos l with | some x => some x | none => if ((p2.line : Int) == (pos.line : Int) && (p2.col : Int) == (pos.col : Int)) = true then some c else none)
  | [], _ => by
    show codeAmong pos [rawInt p2.line, rawInt p2.col, c] = _
    unfold codeAmong rawInt
    rfl
  | .int a t :: .int b u :: x :: r, h => by
    have ih := among_snoc (pos := pos) (p2 := p2) (c := c) r h
    show codeAmong pos (.int a t :: .int b u :: x :: (r ++ [rawInt p2.line, rawInt p2.col, c])) = _
    unfold codeAmong
    by_cases hc : (a == (pos.line : Int) && b == (pos.col : Int)) = true
    · rw [if_pos hc, if_pos hc]
    · rw [if_neg hc, if_neg hc]
      exact ih
theorem triples_snoc {p2 : Pos} {c : Value} : ∀ (l : List Value), TriplesOk l → TriplesOk (l ++ [rawInt p2.line, rawInt p2.col, c])
  | [], _ => trivial
  | .int a t :: .int b u :: x :: r, h => triples_snoc (p2 := p2) (c := c) r h
structure Tb (L : Kn) (Pt : Addr) (qual : Str) : Prop where
  ex : ∃ ps : Array Value, (Pt, HO.tbl ps) ∈ L ∧ TriplesOk ps.toList ∧ ∀ pos, codeAmong pos ps.toList = none ∨ ∃ (c' : Addr) (oc : Obj) (vs : Array Value) (t : Tok), codeAmong pos ps.toList = some (.ref c') ∧ (c', HO.frz oc (.own 0)) ∈ L ∧ oc.data = .fields vs ∧ vs[1]? = some (.str qual t)
theorem Tb.mono {L L' : Kn} {Pt : Addr} {qual : Str} (T : Tb L Pt qual) (h : ∀ z ∈ L, z ∈ L') : Tb L' Pt qual := by
  obtain ⟨ps, m, tr, hp⟩ := T.ex
  exact ⟨ps, h _ m, tr, fun pos => (hp pos).imp id fun ⟨c', oc, vs, t, a, b, c, d⟩ => ⟨c', oc, vs, t, a, h _ b, c, d⟩⟩
theorem Tb.new {L : Kn} {Pt : Addr} {qual : Str} (h : (Pt, HO.tbl #[]) ∈ L) : Tb L Pt qual := ⟨#[], h, trivial, fun _ => .inl rfl⟩
theorem ref_tb {Z L : Kn} {H : Hp} {Pt : Addr} {qual : Str} {lpos : Pos} {js : List Nat} {rs : (Hp → VK → XK → Prop) → Hp → VK → Prop} {tb : XK → TE} {σ : St} {Q : VK} (h : Has H (Z ++ L)) (T : Tb L Pt qual)
    (k : ∀ H' L', Has H' (Z ++ L') → Tb L' Pt qual → (∀ z ∈ L, z.1 ≠ Pt → z ∈ L') → rs (fun H1 Q1 E1 => tb E1 (js.map fun j => (σ[j]?).join) H1 Q1) H' Q) : tRef Pt qual lpos js rs tb σ H Q := by
  obtain ⟨ps, m, tr, hps⟩ := T.ex
  refine ⟨ps, h.at_ _ (List.mem_append_right _ m), tr, ?_⟩
  rcases hps lpos with hn | ⟨c', oc, vs, t, h1, h2, h3, h4⟩
  · refine .inl ⟨hn, fun c' oc vs t hc' ho hv => ?_⟩
    obtain ⟨X, Y, rfl⟩ := List.append_of_mem m
    have hPne : c' ≠ Pt := fun z => by
      rw [z, h.at_ (Pt, _) (List.mem_append_right _ m)] at hc'
      cases hc'
    have h5 : Has H ((Pt, HO.tbl ps) :: (Z ++ (X ++ Y))) := by
      have : Has H ((Z ++ X) ++ (Pt, HO.tbl ps) :: Y) := by rw [List.append_assoc]; exact h
      have := this.out
      rw [List.append_assoc] at this
      exact this
    have h6 := (h5.put (.tbl (ps ++ #[rawInt lpos.line, rawInt lpos.col, .ref c']))).alloc (by rw [upd_ne hPne]; exact hc') (.frz oc (.own 0))
    have h7 := Has.comm (X := [(c', HO.frz oc (.own 0)), (Pt, HO.tbl (ps ++ #[rawInt lpos.line, rawInt lpos.col, .ref c']))]) (Y := Z) h6
    have etl : (ps ++ #[rawInt lpos.line, rawInt lpos.col, Value.ref c']).toList = ps.toList ++ [rawInt lpos.line, rawInt lpos.col, .ref c'] := by simp
    have keep : ∀ z ∈ X ++ (Pt, HO.tbl ps) :: Y, z.1 ≠ Pt → z ∈ (c', HO.frz oc (.own 0)) :: (Pt, HO.tbl (ps ++ #[rawInt lpos.line, rawInt lpos.col, .ref c'])) :: (X ++ Y) := fun z hz ne => by
      rcases List.mem_append.mp hz with hz | hz
      · simp [hz]
      · rcases List.mem_cons.mp hz with rfl | hz
        · exact absurd rfl ne
        · simp [hz]
    refine k _ _ h7 ⟨_, List.mem_cons_of_mem _ List.mem_cons_self, by rw [etl]; exact triples_snoc _ tr, fun pos => ?_⟩ keep
    rw [etl, among_snoc _ tr]
    rcases hps pos with hn2 | ⟨c2, oc2, vs2, t2, g1, g2, g3, g4⟩
    · rw [hn2]
      dsimp only
      by_cases hc : ((lpos.line : Int) == (pos.line : Int) && (lpos.col : Int) == (pos.col : Int)) = true
      · rw [if_pos hc]
        exact .inr ⟨c', oc, vs, t, rfl, List.mem_cons_self, ho, hv⟩
      · rw [if_neg hc]
        exact .inl rfl
    · rw [g1]
      refine .inr ⟨c2, oc2, vs2, t2, rfl, keep _ g2 fun e => ?_, g3, g4⟩
      have q1 := h.at_ _ (List.mem_append_right _ g2)
      have q2 := h.at_ _ (List.mem_append_right _ m)
      dsimp only at q1 q2
      rw [show c2 = Pt from e, q2] at q1
      cases q1
  · exact .inr ⟨c', oc, vs, t, h1, h.at_ _ (List.mem_append_right _ h2), h3, h4, k H L h T fun z hz _ => hz⟩
section
variable {X : Cx} {e : Expr} {te : TE} {pos : Pos}
end
section
variable {E : XK} {C : Addr} {D : Ends} {σ : St} {H : Hp} {x x1 x2 : Str} {i j : Nat} {m n : Int} {a : Addr}
theorem rz1c (hv : σ[i]? = some (some (.int n))) (hn : Small n) (q : ∀ e, E (.ref C) (some e) H) (hx : x.length ≤ 1000 := by decide +kernel) (hx1 : x1.length ≤ 1000 := by decide +kernel) :
    sRaise E C (fun σ H Q => tJ1 (tC (.str x)) (tJ1 (tFmt (tVar i)) (tJ1 (tC (.str x1)) tJ0)) Str.empty σ H Q) D σ H := by
  have l1 := cat1 emptyLen hx
  have l2 := cat1 l1 (smallLen hn)
  have l3 := cat1 l2 hx1
  exact ⟨x, rfl, sizeOk' (by omega), .int n, hv, .inr ⟨n, rfl, hn, _, rfl, sizeOk' (by omega), _, rfl, sizeOk' (by omega), sizeOk' (by omega), q⟩⟩
end
end L2

set_option Elab.async false
set_option linter.all false
set_option maxRecDepth 100000
namespace L2
open PySem PySem.Spec PyProof.Rows
section
variable {X : Cx} {K : PySem.W.Frag}
end
end L2


set_option Elab.async false
set_option linter.all false
set_option maxRecDepth 100000
set_option maxHeartbeats 4000000
namespace P
open PySem L2

def top (i : Nat) : Stmt := PySem.Challenge.pw_lazyrails_k34_programs_refused.main.body.getD i (.Pass ⟨0, 0, 0, 0⟩)
abbrev s_law : Stmt := top 51
abbrev s_draws : Stmt := top 40
abbrev s_program : Stmt := top 45
abbrev s_parts : Stmt := top 44
abbrev s_row : Stmt := top 43
abbrev s_copied : Stmt := top 46
abbrev s_spoilt : Stmt := top 50
abbrev s_number : Stmt := top 49
abbrev s_refused : Stmt := top 42
abbrev s_names : Stmt := top 41
abbrev s_fault : Stmt := top 48
abbrev s_row_fault : Stmt := top 47
abbrev s_check_side : Stmt := top 27
abbrev s_check_width : Stmt := top 35
abbrev s_check_note : Stmt := top 28
abbrev s_check_mark : Stmt := top 33
abbrev s_check_counter : Stmt := top 34
abbrev s_check_row : Stmt := top 37
abbrev s_check_stretch : Stmt := top 36
abbrev s_Program_init : Stmt := inClass (top 38) 0
abbrev s_Program_check_beginning : Stmt := inClass (top 38) 6
abbrev s_Program_many : Stmt := inClass (top 38) 3
abbrev s_Program_check_rows : Stmt := inClass (top 38) 7
abbrev s_Program_check_part : Stmt := inClass (top 38) 8
abbrev s_Program_check_called : Stmt := inClass (top 38) 9
structure Adr where
  f_law : Addr
  d_law : FuncData
  v_law : Value
  f_draws : Addr
  d_draws : FuncData
  v_draws : Value
  f_program : Addr
  d_program : FuncData
  v_program : Value
  f_parts : Addr
  d_parts : FuncData
  v_parts : Value
  f_row : Addr
  d_row : FuncData
  v_row : Value
  f_copied : Addr
  d_copied : FuncData
  v_copied : Value
  f_spoilt : Addr
  d_spoilt : FuncData
  v_spoilt : Value
  f_number : Addr
  d_number : FuncData
  v_number : Value
  f_refused : Addr
  d_refused : FuncData
  v_refused : Value
  f_names : Addr
  d_names : FuncData
  v_names : Value
  f_fault : Addr
  d_fault : FuncData
  v_fault : Value
  f_row_fault : Addr
  d_row_fault : FuncData
  v_row_fault : Value
  f_check_side : Addr
  d_check_side : FuncData
  v_check_side : Value
  f_check_width : Addr
  d_check_width : FuncData
  v_check_width : Value
  f_check_note : Addr
  d_check_note : FuncData
  v_check_note : Value
  f_check_mark : Addr
  d_check_mark : FuncData
  v_check_mark : Value
  f_check_counter : Addr
  d_check_counter : FuncData
  v_check_counter : Value
  f_check_row : Addr
  d_check_row : FuncData
  v_check_row : Value
  f_check_stretch : Addr
  d_check_stretch : FuncData
  v_check_stretch : Value
  f_Program_init : Addr
  d_Program_init : FuncData
  v_Program_init : Value
  f_Program_check_beginning : Addr
  d_Program_check_beginning : FuncData
  v_Program_check_beginning : Value
  f_Program_many : Addr
  d_Program_many : FuncData
  v_Program_many : Value
  f_Program_check_rows : Addr
  d_Program_check_rows : FuncData
  v_Program_check_rows : Value
  f_Program_check_part : Addr
  d_Program_check_part : FuncData
  v_Program_check_part : Value
  f_Program_check_called : Addr
  d_Program_check_called : FuncData
  v_Program_check_called : Value
  c_Program : Addr
  c_RailError : Addr
  c_NoKind : Addr
  c_NoEnd : Addr
  c_NoSide : Addr
  c_NoNote : Addr
  c_NoPiece : Addr
  c_NoRod : Addr
  c_NoPoint : Addr
  c_NoBell : Addr
  c_SameEnd : Addr
  c_Linked : Addr
  c_NotLinked : Addr
  c_Occupied : Addr
  c_NoStand : Addr
  c_NoMany : Addr
  c_NoStretch : Addr
  c_NoRow : Addr
  c_NoMark : Addr
  c_NoCounter : Addr
  c_NoWidth : Addr
  c_NoValue : Addr
  c_FallsOut : Addr
  c_NoText : Addr
  p_law : Addr
  u_LAST_NOTE : Value
  u_LAST_WORDS : Value
  u_PARTS : Value
  u_WIDEST : Value
def dsOf (t : Adr) (i : Nat) : List (Addr × Bool) := [(t.c_NoKind, i == 0), (t.c_NoEnd, i == 1), (t.c_NoSide, i == 2), (t.c_NoNote, i == 3), (t.c_NoPiece, i == 4), (t.c_NoRod, i == 5), (t.c_NoPoint, i == 6), (t.c_NoBell, i == 7), (t.c_SameEnd, i == 8), (t.c_Linked, i == 9), (t.c_NotLinked, i == 10), (t.c_Occupied, i == 11), (t.c_NoStand, i == 12), (t.c_NoMany, i == 13), (t.c_NoStretch, i == 14), (t.c_NoRow, i == 15), (t.c_NoMark, i == 16), (t.c_NoCounter, i == 17), (t.c_NoWidth, i == 18), (t.c_NoValue, i == 19), (t.c_FallsOut, i == 20), (t.c_NoText, i == 21)]
def flagsOf (i : Nat) : List (Str × Bool) := [("NoKind", i == 0), ("NoEnd", i == 1), ("NoSide", i == 2), ("NoNote", i == 3), ("NoPiece", i == 4), ("NoRod", i == 5), ("NoPoint", i == 6), ("NoBell", i == 7), ("SameEnd", i == 8), ("Linked", i == 9), ("NotLinked", i == 10), ("Occupied", i == 11), ("NoStand", i == 12), ("NoMany", i == 13), ("NoStretch", i == 14), ("NoRow", i == 15), ("NoMark", i == 16), ("NoCounter", i == 17), ("NoWidth", i == 18), ("NoValue", i == 19), ("FallsOut", i == 20), ("NoText", i == 21), ("plain", false)]
def nameAt (i : Nat) : Str := ((["NoKind", "NoEnd", "NoSide", "NoNote", "NoPiece", "NoRod", "NoPoint", "NoBell", "SameEnd", "Linked", "NotLinked", "Occupied", "NoStand", "NoMany", "NoStretch", "NoRow", "NoMark", "NoCounter", "NoWidth", "NoValue", "FallsOut", "NoText"] : List Str)[i]?).getD ""
structure Txt (K : PySem.W.Frag) (mg : Str → Option Value) (t : Adr) : Prop where
  F_law : FunG K "law" "law" s_law t.v_law t.f_law t.d_law
  F_draws : FunG K "_law_draws" "_law_draws" s_draws t.v_draws t.f_draws t.d_draws
  F_program : FunG K "_law_program" "_law_program" s_program t.v_program t.f_program t.d_program
  F_parts : FunG K "_law_parts" "_law_parts" s_parts t.v_parts t.f_parts t.d_parts
  F_row : FunG K "_law_row" "_law_row" s_row t.v_row t.f_row t.d_row
  F_copied : FunG K "_law_copied" "_law_copied" s_copied t.v_copied t.f_copied t.d_copied
  F_spoilt : FunG K "_law_spoilt" "_law_spoilt" s_spoilt t.v_spoilt t.f_spoilt t.d_spoilt
  F_number : FunG K "_law_number" "_law_number" s_number t.v_number t.f_number t.d_number
  F_refused : FunG K "_law_refused" "_law_refused" s_refused t.v_refused t.f_refused t.d_refused
  F_names : FunG K "_law_names" "_law_names" s_names t.v_names t.f_names t.d_names
  F_fault : FunG K "_law_fault" "_law_fault" s_fault t.v_fault t.f_fault t.d_fault
  F_row_fault : FunG K "_law_row_fault" "_law_row_fault" s_row_fault t.v_row_fault t.f_row_fault t.d_row_fault
  F_check_side : FunG K "check_side" "check_side" s_check_side t.v_check_side t.f_check_side t.d_check_side
  F_check_width : FunG K "check_width" "check_width" s_check_width t.v_check_width t.f_check_width t.d_check_width
  F_check_note : FunG K "check_note" "check_note" s_check_note t.v_check_note t.f_check_note t.d_check_note
  F_check_mark : FunG K "check_mark" "check_mark" s_check_mark t.v_check_mark t.f_check_mark t.d_check_mark
  F_check_counter : FunG K "check_counter" "check_counter" s_check_counter t.v_check_counter t.f_check_counter t.d_check_counter
  F_check_row : FunG K "check_row" "check_row" s_check_row t.v_check_row t.f_check_row t.d_check_row
  F_check_stretch : FunG K "check_stretch" "check_stretch" s_check_stretch t.v_check_stretch t.f_check_stretch t.d_check_stretch
  F_Program_init : FunG K "__init__" "Program.__init__" s_Program_init t.v_Program_init t.f_Program_init t.d_Program_init
  F_Program_check_beginning : FunG K "check_beginning" "Program.check_beginning" s_Program_check_beginning t.v_Program_check_beginning t.f_Program_check_beginning t.d_Program_check_beginning
  F_Program_many : FunG K "many" "Program.many" s_Program_many t.v_Program_many t.f_Program_many t.d_Program_many
  F_Program_check_rows : FunG K "check_rows" "Program.check_rows" s_Program_check_rows t.v_Program_check_rows t.f_Program_check_rows t.d_Program_check_rows
  F_Program_check_part : FunG K "check_part" "Program.check_part" s_Program_check_part t.v_Program_check_part t.f_Program_check_part t.d_Program_check_part
  F_Program_check_called : FunG K "check_called" "Program.check_called" s_Program_check_called t.v_Program_check_called t.f_Program_check_called t.d_Program_check_called
  m_law : mg "law" = some (.ref t.f_law)
  e_law : t.v_law = .none
  m_draws : mg "_law_draws" = some (.ref t.f_draws)
  e_draws : t.v_draws = .none
  m_program : mg "_law_program" = some (.ref t.f_program)
  e_program : t.v_program = .none
  m_parts : mg "_law_parts" = some (.ref t.f_parts)
  e_parts : t.v_parts = .none
  m_row : mg "_law_row" = some (.ref t.f_row)
  e_row : t.v_row = .none
  m_copied : mg "_law_copied" = some (.ref t.f_copied)
  e_copied : t.v_copied = .none
  m_spoilt : mg "_law_spoilt" = some (.ref t.f_spoilt)
  e_spoilt : t.v_spoilt = .none
  m_number : mg "_law_number" = some (.ref t.f_number)
  e_number : t.v_number = .none
  m_refused : mg "_law_refused" = some (.ref t.f_refused)
  e_refused : t.v_refused = .none
  m_names : mg "_law_names" = some (.ref t.f_names)
  e_names : t.v_names = .none
  m_fault : mg "_law_fault" = some (.ref t.f_fault)
  e_fault : t.v_fault = .none
  m_row_fault : mg "_law_row_fault" = some (.ref t.f_row_fault)
  e_row_fault : t.v_row_fault = .none
  m_check_side : mg "check_side" = some (.ref t.f_check_side)
  e_check_side : t.v_check_side = .none
  m_check_width : mg "check_width" = some (.ref t.f_check_width)
  e_check_width : t.v_check_width = .none
  m_check_note : mg "check_note" = some (.ref t.f_check_note)
  e_check_note : t.v_check_note = .none
  m_check_mark : mg "check_mark" = some (.ref t.f_check_mark)
  e_check_mark : t.v_check_mark = .none
  m_check_counter : mg "check_counter" = some (.ref t.f_check_counter)
  e_check_counter : t.v_check_counter = .none
  m_check_row : mg "check_row" = some (.ref t.f_check_row)
  e_check_row : t.v_check_row = .none
  m_check_stretch : mg "check_stretch" = some (.ref t.f_check_stretch)
  e_check_stretch : t.v_check_stretch = .none
  e_Program_init : t.v_Program_init = .none
  M_Program_check_beginning : Meth K t.c_Program "check_beginning" t.f_Program_check_beginning
  e_Program_check_beginning : t.v_Program_check_beginning = .none
  M_Program_many : Meth K t.c_Program "many" t.f_Program_many
  e_Program_many : t.v_Program_many = .none
  M_Program_check_rows : Meth K t.c_Program "check_rows" t.f_Program_check_rows
  e_Program_check_rows : t.v_Program_check_rows = .none
  M_Program_check_part : Meth K t.c_Program "check_part" t.f_Program_check_part
  e_Program_check_part : t.v_Program_check_part = .none
  M_Program_check_called : Meth K t.c_Program "check_called" t.f_Program_check_called
  e_Program_check_called : t.v_Program_check_called = .none
  cl_Program : Cls K t.c_Program
  m_Program : mg "Program" = some (.ref t.c_Program)
  mk_Program : Mk K t.c_Program t.f_Program_init
  n_Program_mark_sides : NoAttr K t.c_Program "mark_sides"
  n_Program_counter_widths : NoAttr K t.c_Program "counter_widths"
  n_Program_stretches : NoAttr K t.c_Program "stretches"
  m_RailError : mg "RailError" = some (.ref t.c_RailError)
  m_NoKind : mg "NoKind" = some (.ref t.c_NoKind)
  m_NoEnd : mg "NoEnd" = some (.ref t.c_NoEnd)
  m_NoSide : mg "NoSide" = some (.ref t.c_NoSide)
  m_NoNote : mg "NoNote" = some (.ref t.c_NoNote)
  m_NoPiece : mg "NoPiece" = some (.ref t.c_NoPiece)
  m_NoRod : mg "NoRod" = some (.ref t.c_NoRod)
  m_NoPoint : mg "NoPoint" = some (.ref t.c_NoPoint)
  m_NoBell : mg "NoBell" = some (.ref t.c_NoBell)
  m_SameEnd : mg "SameEnd" = some (.ref t.c_SameEnd)
  m_Linked : mg "Linked" = some (.ref t.c_Linked)
  m_NotLinked : mg "NotLinked" = some (.ref t.c_NotLinked)
  m_Occupied : mg "Occupied" = some (.ref t.c_Occupied)
  m_NoStand : mg "NoStand" = some (.ref t.c_NoStand)
  m_NoMany : mg "NoMany" = some (.ref t.c_NoMany)
  m_NoStretch : mg "NoStretch" = some (.ref t.c_NoStretch)
  m_NoRow : mg "NoRow" = some (.ref t.c_NoRow)
  m_NoMark : mg "NoMark" = some (.ref t.c_NoMark)
  m_NoCounter : mg "NoCounter" = some (.ref t.c_NoCounter)
  m_NoWidth : mg "NoWidth" = some (.ref t.c_NoWidth)
  m_NoValue : mg "NoValue" = some (.ref t.c_NoValue)
  m_FallsOut : mg "FallsOut" = some (.ref t.c_FallsOut)
  m_NoText : mg "NoText" = some (.ref t.c_NoText)
  x_NoSide : excAll K t.c_NoSide t.c_RailError (dsOf t 2) = true
  x_NoNote : excAll K t.c_NoNote t.c_RailError (dsOf t 3) = true
  x_NoMark : excAll K t.c_NoMark t.c_RailError (dsOf t 16) = true
  x_NoCounter : excAll K t.c_NoCounter t.c_RailError (dsOf t 17) = true
  x_NoWidth : excAll K t.c_NoWidth t.c_RailError (dsOf t 18) = true
  x_NoStretch : excAll K t.c_NoStretch t.c_RailError (dsOf t 14) = true
  x_NoRow : excAll K t.c_NoRow t.c_RailError (dsOf t 15) = true
  x_FallsOut : excAll K t.c_FallsOut t.c_RailError (dsOf t 20) = true
  tb_law : ∃ c, t.d_law.code = .ref c ∧ PySem.W.codeHdIn K c t.p_law = true
  tn_law : K.lookup t.p_law = none
  z_ValueError : mg "ValueError" = none
  z_abs : mg "abs" = none
  z_enumerate : mg "enumerate" = none
  z_int : mg "int" = none
  z_isinstance : mg "isinstance" = none
  z_len : mg "len" = none
  z_list : mg "list" = none
  z_min : mg "min" = none
  z_range : mg "range" = none
  z_tuple : mg "tuple" = none
  z_zip : mg "zip" = none
  g_LAST_NOTE : mg "LAST_NOTE" = some t.u_LAST_NOTE
  r_LAST_NOTE : RelV (.int 9999) t.u_LAST_NOTE
  g_LAST_WORDS : mg "LAST_WORDS" = some t.u_LAST_WORDS
  x_LAST_WORDS : ∃ (a : Addr) (o : Obj) (its : Array Value) (n : Nat), t.u_LAST_WORDS = .ref a ∧ K.lookup a = some o ∧ o.cls = .type "tuple" ∧ o.data = .seq its n ∧ its.size ≤ sizeLine ∧ Vals [.str "ask", .str "go", .str "end"] its.toList
  g_PARTS : mg "PARTS" = some t.u_PARTS
  x_PARTS : ∃ a, t.u_PARTS = .ref a ∧ TabT K a [("bell", ["note"]), ("set", ["mark", "side"]), ("ask", ["mark", "row", "row"]), ("bump", ["counter", "row"]), ("go", ["row"]), ("call", ["stretch"]), ("end", [])]
  g_WIDEST : mg "WIDEST" = some t.u_WIDEST
  r_WIDEST : RelV (.int 8) t.u_WIDEST
section
variable {K : PySem.W.Frag} {mg : Str → Option Value} {t : Adr}
theorem b_draws (T : Txt K mg t) : Binds K t.d_draws ["_law_script", "_law_many"] [] := (T.e_draws ▸ T.F_draws).binds fun _ _ _ _ _ _ us hl => match us, hl with | [_, _], _ => rfl
theorem b_program (T : Txt K mg t) : Binds K t.d_program ["_law_d"] [] := (T.e_program ▸ T.F_program).binds fun _ _ _ _ _ _ us hl => match us, hl with | [_], _ => rfl
theorem b_parts (T : Txt K mg t) : Binds K t.d_parts ["_law_d", "_law_at", "_law_marks", "_law_counters"] [] := (T.e_parts ▸ T.F_parts).binds fun _ _ _ _ _ _ us hl => match us, hl with | [_, _, _, _], _ => rfl
theorem b_row (T : Txt K mg t) : Binds K t.d_row ["_law_d", "_law_k", "_law_more", "_law_many", "_law_marks", "_law_counters", "_law_later"] [] := (T.e_row ▸ T.F_row).binds fun _ _ _ _ _ _ us hl => match us, hl with | [_, _, _, _, _, _, _], _ => rfl
theorem b_copied (T : Txt K mg t) : Binds K t.d_copied ["_law_parts_here"] [] := (T.e_copied ▸ T.F_copied).binds fun _ _ _ _ _ _ us hl => match us, hl with | [_], _ => rfl
theorem b_spoilt (T : Txt K mg t) : Binds K t.d_spoilt ["_law_d", "_law_at", "_law_marks", "_law_widths", "_law_parts_here"] [] := (T.e_spoilt ▸ T.F_spoilt).binds fun _ _ _ _ _ _ us hl => match us, hl with | [_, _, _, _, _], _ => rfl
theorem b_number (T : Txt K mg t) : Binds K t.d_number ["_law_draw", "_law_here", "_law_many", "_law_rows"] [] := (T.e_number ▸ T.F_number).binds fun _ _ _ _ _ _ us hl => match us, hl with | [_, _, _, _], _ => rfl
theorem b_refused (T : Txt K mg t) : Binds K t.d_refused ["_law_deed"] [] := (T.e_refused ▸ T.F_refused).binds fun _ _ _ _ _ _ us hl => match us, hl with | [_], _ => rfl
theorem b_names (T : Txt K mg t) : Binds K t.d_names ["_law_e"] [] := (T.e_names ▸ T.F_names).binds fun _ _ _ _ _ _ us hl => match us, hl with | [_], _ => rfl
theorem b_fault (T : Txt K mg t) : Binds K t.d_fault ["_law_marks", "_law_widths", "_law_parts_here"] [] := (T.e_fault ▸ T.F_fault).binds fun _ _ _ _ _ _ us hl => match us, hl with | [_, _, _], _ => rfl
theorem b_row_fault (T : Txt K mg t) : Binds K t.d_row_fault ["_law_deed", "_law_stretch", "_law_rows", "_law_marks", "_law_widths", "_law_stretches"] [] := (T.e_row_fault ▸ T.F_row_fault).binds fun _ _ _ _ _ _ us hl => match us, hl with | [_, _, _, _, _, _], _ => rfl
theorem b_check_side (T : Txt K mg t) : Binds K t.d_check_side ["side"] [] := (T.e_check_side ▸ T.F_check_side).binds fun _ _ _ _ _ _ us hl => match us, hl with | [_], _ => rfl
theorem b_check_width (T : Txt K mg t) : Binds K t.d_check_width ["width"] [] := (T.e_check_width ▸ T.F_check_width).binds fun _ _ _ _ _ _ us hl => match us, hl with | [_], _ => rfl
theorem b_check_note (T : Txt K mg t) : Binds K t.d_check_note ["note"] [] := (T.e_check_note ▸ T.F_check_note).binds fun _ _ _ _ _ _ us hl => match us, hl with | [_], _ => rfl
theorem b_check_mark (T : Txt K mg t) : Binds K t.d_check_mark ["mark", "many"] [] := (T.e_check_mark ▸ T.F_check_mark).binds fun _ _ _ _ _ _ us hl => match us, hl with | [_, _], _ => rfl
theorem b_check_counter (T : Txt K mg t) : Binds K t.d_check_counter ["counter", "many"] [] := (T.e_check_counter ▸ T.F_check_counter).binds fun _ _ _ _ _ _ us hl => match us, hl with | [_, _], _ => rfl
theorem b_check_row (T : Txt K mg t) : Binds K t.d_check_row ["row", "many"] [] := (T.e_check_row ▸ T.F_check_row).binds fun _ _ _ _ _ _ us hl => match us, hl with | [_, _], _ => rfl
theorem b_check_stretch (T : Txt K mg t) : Binds K t.d_check_stretch ["stretch", "many"] [] := (T.e_check_stretch ▸ T.F_check_stretch).binds fun _ _ _ _ _ _ us hl => match us, hl with | [_, _], _ => rfl
theorem b_Program_init (T : Txt K mg t) : Binds K t.d_Program_init ["self", "marks", "widths", "stretches"] [] := (T.e_Program_init ▸ T.F_Program_init).binds fun _ _ _ _ _ _ us hl => match us, hl with | [_, _, _, _], _ => rfl
theorem b_Program_check_beginning (T : Txt K mg t) : Binds K t.d_Program_check_beginning ["self"] [] := (T.e_Program_check_beginning ▸ T.F_Program_check_beginning).binds fun _ _ _ _ _ _ us hl => match us, hl with | [_], _ => rfl
theorem b_Program_many (T : Txt K mg t) : Binds K t.d_Program_many ["self"] [] := (T.e_Program_many ▸ T.F_Program_many).binds fun _ _ _ _ _ _ us hl => match us, hl with | [_], _ => rfl
theorem b_Program_check_rows (T : Txt K mg t) : Binds K t.d_Program_check_rows ["self", "stretch"] [] := (T.e_Program_check_rows ▸ T.F_Program_check_rows).binds fun _ _ _ _ _ _ us hl => match us, hl with | [_, _], _ => rfl
theorem b_Program_check_part (T : Txt K mg t) : Binds K t.d_Program_check_part ["self", "part", "number", "stretch"] [] := (T.e_Program_check_part ▸ T.F_Program_check_part).binds fun _ _ _ _ _ _ us hl => match us, hl with | [_, _, _, _], _ => rfl
theorem b_Program_check_called (T : Txt K mg t) : Binds K t.d_Program_check_called ["self", "called", "stretch"] [] := (T.e_Program_check_called ▸ T.F_Program_check_called).binds fun _ _ _ _ _ _ us hl => match us, hl with | [_, _, _], _ => rfl
end
def Dr (ds : List Int) : Prop := ∀ d ∈ ds, 0 ≤ d ∧ d < 10 ^ 18
def sp_draws (K : PySem.W.Frag) : Sp := fun vs H Q _ => ∃ (a : Addr) (ns : List Int) (n : Int) (L : Kn), vs = [.ref a, .int n] ∧ SqL K H a (ns.map V.int) ∧ ns.length ≤ 63 ∧ 0 ≤ n ∧ n ≤ 1000 ∧ Has H L ∧
  ∀ H' p ds, Has H' ((p, .lst (ds.map V.int)) :: L) → ds.length = n.toNat → Dr ds → Q (.ref p) H'
section
variable {P : Program} {w : World} {K : PySem.W.Frag} {mg : Str → Option Value} {base : Heap} {t : Adr}
theorem scD : FnScope ["_law_script", "_law_many", "_law_row_here", "_law_base", "_law_cell", "_law_left", "_law_turn"] ["_law_script", "_law_many"] (defScope s_draws) := ⟨rfl, rfl, rfl, by decide +kernel, rfl, by decide +kernel, by decide +kernel⟩
theorem Dr.snoc {ds : List Int} {d : Int} (h : Dr ds) (h0 : 0 ≤ d) (h1 : d < 10 ^ 18) : Dr (ds ++ [d]) := fun x hx => by
  rcases List.mem_append.mp hx with hx | hx
  · exact h x hx
  · have : x = d := by simpa using hx
    subst this; exact ⟨h0, h1⟩
theorem map_snoc (ds : List Int) (d : Int) : ds.map V.int ++ [V.int d] = (ds ++ [d]).map V.int := by simp
theorem ok_draws (T : Txt K mg t) : FnOk P w K mg base CX0 1 t.f_draws t.d_draws ["_law_script", "_law_many"] (sp_draws K) := by
  refine T.F_draws.ok scD (fun vs H Q E h => ?_) (fun cdv A outer s H vs Q E hr h => ?_)
  · obtain ⟨_, _, _, _, rfl, _⟩ := h
    rfl
  · obtain ⟨a, ns, n, L, rfl, hS, hns, hn0, hn1, hL, k⟩ := h
    refine ⟨_, (pss_cons (ps_set (i := 2) scD.nd rfl (Or.inl rfl) (pe_lst pa_nil))
      (pss_cons (ps_set (i := 3) scD.nd rfl (Or.inl rfl) pe_int)
      (pss_cons (ps_for PassesOwn.never rfl (pi_list (pe_slice sl_list (pv 0) po_none (po_some pe_int))) (pg_name (i := 4) scD.nd rfl (Or.inl rfl))
        (pss_cons (ps_set (i := 5) scD.nd rfl (Or.inl rfl) (pe_callB call_abs (by rfl) T.z_abs (by rfl) (pa_cons (pv 4) pa_nil)))
          (pss_cons (ps_set (i := 3) scD.nd rfl (Or.inl rfl) (pe_op op_mod (pe_op op_add (pe_op op_add (pe_op op_mul (pv 3) pe_int) (pv 5)) (pe_op op_mul pe_int (pe_callTy call_int1 (by rfl) T.z_int (by rfl) (pa_cons (pe_cmpR op_lt (pv 4) pe_int (nomark _)) pa_nil)))) pe_int))
          (pss_one (ps_if (pt_cmpR op_lt (pv 5) (pe_op op_pow pe_int pe_int) (nomark _))
            (pss_one (ps_expr (pe_bm PySem.F.plainAttrs_list PySem.F.slot_list_append PySem.F.type_list_append mt_append (pv 2) (pa_cons (pv 5) pa_nil))))
            (pss_one (ps_for PassesOwn.never rfl (pi_range1 (by rfl) T.z_range (pa_cons pe_int pa_nil)) (pg_name (i := 6) scD.nd rfl (Or.inl rfl))
                (pss_one (ps_if (pt_cmpR op_gt (pv 5) pe_int (nomark _))
                    (pss_cons (ps_expr (pe_bm PySem.F.plainAttrs_list PySem.F.slot_list_append PySem.F.type_list_append mt_append (pv 2) (pa_cons (pe_op op_mod (pv 5) pe_int) pa_nil)))
                      (pss_one (ps_set (i := 5) scD.nd rfl (Or.inl rfl) (pe_op op_fdiv (pv 5) pe_int))))
                    pss_nil)))))))))
      (pss_cons (ps_while PassesOwn.never (pt_cmpR op_lt (pe_callB call_len_seq (by rfl) T.z_len (by rfl) (pa_cons (pv 2) pa_nil)) (pv 1) (nomark _))
        (pss_cons (ps_set (i := 3) scD.nd rfl (Or.inl rfl) (pe_op op_mod (pe_op op_add (pe_op op_mul (pv 3) pe_int) pe_int) pe_int))
          (pss_one (ps_expr (pe_bm PySem.F.plainAttrs_list PySem.F.slot_list_append PySem.F.type_list_append mt_append (pv 2) (pa_cons (pe_op op_mod (pe_op op_fdiv (pe_op op_mul (pv 3) (pv 3)) pe_int) pe_int) pa_nil))))))
      (pss_one (ps_ret (pe_slice sl_list (pv 2) po_none (po_some (pv 1))))))))), ?_⟩
    refine ⟨by decide, fun r hr0 => ?_⟩
    have h1 := hL.alloc hr0 (.lst [])
    have hS1 : SqL K (upd H r (.lst [])) a (ns.map V.int) := hS.alloc hr0
    generalize upd H r (.lst []) = H1 at *
    refine ⟨_, rfl, _, rfl, a, _, rfl, hS1, fun sl hsl => ?_⟩
    have h2 := h1.alloc hsl (.lst (cutV (ns.map V.int) none (some 63)))
    generalize upd H1 sl (.lst (cutV (ns.map V.int) none (some 63))) = H2 at *
    refine ⟨sl, rfl, ⟨_, SqL.of (h2.get 0 rfl)⟩, ?_⟩
    refine for_list (K := K) (a := sl) (xs := cutV (ns.map V.int) none (some 63)) (fun i σ H' => ∃ (row : List Int) (b : Int) (c l t : Option V), σ = [some (.ref a), some (.int n), some (.ref r), some (.int b), c, l, t] ∧
      Has H' ((r, .lst (row.map V.int)) :: (sl, .lst (cutV (ns.map V.int) none (some 63))) :: L) ∧ row.length ≤ 60 * i ∧ Dr row ∧ 0 ≤ b ∧ b < 2147483647)
      ⟨[], 7, none, none, none, rfl, h2.swap2, Nat.zero_le _, (fun _ h => nomatch h), by decide, by decide⟩ (fun i σ H' _ ⟨row, b, c, l, t, _, h, _⟩ => SqL.of (h.get 1 rfl)) ?_ ?_
    · rintro i y σ H' hi ⟨row, b, c, l, t, rfl, h3, hlen, hd, b0, b1⟩
      have hi63 : i < 63 := by
        have h5 := (List.getElem?_eq_some_iff.mp hi).1
        rw [cut_take _ _ (by decide), List.length_take, List.length_map] at h5
        omega
      obtain ⟨z, rfl⟩ : ∃ z, y = V.int z := by
        rw [cut_take _ _ (by decide), List.getElem?_take_of_lt (by omega), List.getElem?_map] at hi
        cases e : ns[i]? with
        | none => rw [e] at hi; cases hi
        | some z => rw [e] at hi; exact ⟨z, (Option.some.inj hi).symm⟩
      refine ⟨_, rfl, _, rfl, ?_⟩
      have hab : 0 ≤ (if z < 0 then -z else z) := by split <;> omega
      generalize (if z < 0 then -z else z) = left at *
      refine ⟨_, rfl, _, _, rfl, rfl, .inl ⟨by omega, by omega⟩, _, rfl, _, _, rfl, rfl, _, rfl, _, _, rfl, rfl, .inr ⟨_, rfl, _, _, rfl, rfl, .inl ⟨by decide, by decide⟩, _, _, rfl, rfl, _, _, rfl, rfl, (show (0 : Int) < 2147483647 by decide), ?_⟩⟩
      have hb0 := Int.emod_nonneg (b * 48271 + left + 2 * (if decide (z < 0) = true then 1 else 0)) (show (2147483647 : Int) ≠ 0 by decide)
      have hb1 := Int.emod_lt_of_pos (b * 48271 + left + 2 * (if decide (z < 0) = true then 1 else 0)) (show (0 : Int) < 2147483647 by decide)
      refine ⟨_, rfl, _, _, rfl, rfl, ⟨by decide, by decide, by decide⟩, _, _, rfl, rfl, _, rfl, ?_⟩
      refine ite2 (fun hc => ?_) (fun hc => ?_)
      · have hc' : left < 10 ^ 18 := of_decide_eq_true hc
        refine ⟨_, rfl, .inl ⟨rfl, _, SqL.of (h3.get 0 rfl)⟩, _, rfl, r, _, _, rfl, rfl, h3.get 0 rfl, ?_, ?_⟩
        · rw [List.length_map]
          exact sizeOk (by omega)
        · refine ⟨row ++ [left], _, _, _, _, rfl, ?_, ?_, hd.snoc hab hc', hb0, hb1⟩
          · rw [← map_snoc]
            exact h3.puti 0 rfl _
          · rw [List.length_append, List.length_singleton]; omega
      · -- for turn in range(60)
        refine ⟨_, rfl, by decide, by decide, for_range (n := 60) (fun j σ H2 => ∃ (row2 : List Int) (l2 : Int) (t2 : Option V) (b2 : Int), 0 ≤ b2 ∧ b2 < 2147483647 ∧ σ = [some (.ref a), some (.int n), some (.ref r), some (.int b2), some (.int z), some (.int l2), t2] ∧
          Has H2 ((r, .lst (row2.map V.int)) :: (sl, .lst (cutV (ns.map V.int) none (some 63))) :: L) ∧ row2.length ≤ row.length + j ∧ Dr row2 ∧ 0 ≤ l2) ⟨row, _, _, _, hb0, hb1, rfl, h3, Nat.le_add_right _ _, hd, hab⟩ ?_ ?_⟩
        · rintro j σ H2 hj ⟨row2, l2, t2, b2, hb20, hb21, rfl, h4, hlen2, hd2, hl2⟩
          refine ⟨_, rfl, _, _, rfl, rfl, _, rfl, ?_⟩
          refine ite2 (fun hc2 => ?_) (fun hc2 => ?_)
          · refine ⟨_, rfl, .inl ⟨rfl, _, SqL.of (h4.get 0 rfl)⟩, _, rfl, _, _, rfl, rfl, (show (0 : Int) < 10007 by decide), r, _, _, rfl, rfl, h4.get 0 rfl, ?_, ?_⟩
            · rw [List.length_map]
              exact sizeOk (by omega)
            · refine ⟨_, rfl, _, _, rfl, rfl, ⟨by decide, by decide⟩, ?_⟩
              refine ⟨row2 ++ [l2 % 10007], _, _, _, hb20, hb21, rfl, ?_, ?_, hd2.snoc (Int.emod_nonneg _ (by decide)) (Int.lt_trans (Int.emod_lt_of_pos _ (by decide)) (by decide)), Int.ediv_nonneg hl2 (by decide)⟩
              · rw [← map_snoc]
                exact h4.puti 0 rfl _
              · rw [List.length_append, List.length_singleton]; omega
          · exact ⟨row2, l2, _, b2, hb20, hb21, rfl, h4, by omega, hd2, hl2⟩
        · rintro σ H2 ⟨row2, l2, t2, b2, hb20, hb21, rfl, h4, hlen2, hd2, hl2⟩
          exact ⟨row2, b2, _, _, _, rfl, h4, by omega, hd2, hb20, hb21⟩
    · rintro σ H' ⟨row, b, c, l, t, rfl, h3, hlen, hd, b0, b1⟩
      have hlx : (cutV (ns.map V.int) none (some 63)).length ≤ 63 := by
        rw [cut_take _ _ (by decide), List.length_take]; omega
      refine while_by (fun σ H' => ∃ (row : List Int) (b : Int) (c l t : Option V), σ = [some (.ref a), some (.int n), some (.ref r), some (.int b), c, l, t] ∧ Has H' ((r, .lst (row.map V.int)) :: L) ∧ row.length ≤ 4000 ∧ Dr row ∧ 0 ≤ b ∧ b < 2147483647)
        (fun σ H' => match H' r with | some (.lst xs) => n.toNat - xs.length | _ => 0) ⟨row, b, c, l, t, rfl, h3.swap2.tail, by omega, hd, b0, b1⟩ ?_ ?_
      · rintro σ H' ⟨row, b, c, l, t, rfl, h4, hlen, hd, b0, b1⟩
        refine ⟨_, rfl, r, _, rfl, .inl (SqL.of (h4.get 0 rfl)), _, rfl, _, _, rfl, rfl, _, rfl, ?_⟩
        rw [List.length_map]
        refine ite2 (fun hc => ?_) (fun hc => ?_)
        · have hc' : (row.length : Int) < n := of_decide_eq_true hc
          refine ⟨_, rfl, _, _, rfl, rfl, .inl ⟨by omega, by omega⟩, _, _, rfl, rfl, _, _, rfl, rfl, (show (0 : Int) < 2147483647 by decide), ?_⟩
          have hb0 := Int.emod_nonneg (b * 69621 + 12289) (show (2147483647 : Int) ≠ 0 by decide)
          have hb1 := Int.emod_lt_of_pos (b * 69621 + 12289) (show (0 : Int) < 2147483647 by decide)
          refine ⟨_, rfl, .inl ⟨rfl, _, SqL.of (h4.get 0 rfl)⟩, _, rfl, _, rfl, _, _, rfl, rfl, .inl ⟨?_, ?_⟩, _, _, rfl, rfl, ⟨by decide, by decide⟩, _, _, rfl, rfl, (show (0 : Int) < 10007 by decide), r, _, _, rfl, rfl, h4.get 0 rfl, ?_, ?_⟩
          · show -(2 ^ 64) < (b * 69621 + 12289) % 2147483647
            omega
          · show (b * 69621 + 12289) % 2147483647 < 2 ^ 64
            omega
          · rw [List.length_map]
            exact sizeOk (by omega)
          · have hq0 := Int.emod_nonneg ((b * 69621 + 12289) % 2147483647 * ((b * 69621 + 12289) % 2147483647) / 4099) (show (10007 : Int) ≠ 0 by decide)
            have hq1 := Int.emod_lt_of_pos ((b * 69621 + 12289) % 2147483647 * ((b * 69621 + 12289) % 2147483647) / 4099) (show (0 : Int) < 10007 by decide)
            refine ⟨⟨row ++ [(b * 69621 + 12289) % 2147483647 * ((b * 69621 + 12289) % 2147483647) / 4099 % 10007], _, _, _, _, rfl, ?_, ?_, hd.snoc hq0 (Int.lt_trans hq1 (by decide)), hb0, hb1⟩, ?_⟩
            · rw [← map_snoc]
              exact h4.puti 0 rfl _
            · rw [List.length_append, List.length_singleton]; omega
            · have e1 : H' r = some (.lst (row.map V.int)) := h4.get 0 rfl
              simp only [e1, upd_same, List.length_append, List.length_map, List.length_singleton]
              omega
        · have hc' : ¬ (row.length : Int) < n := fun z => hc (decide_eq_true z)
          refine ⟨_, rfl, _, rfl, _, rfl, r, _, rfl, SqL.of (h4.get 0 rfl), fun p hp => ?_⟩
          refine k _ p (row.take n.toNat) ?_ (by rw [List.length_take]; omega) (fun d hd' => hd d (List.mem_of_mem_take hd'))
          have h5 := (h4.tail).alloc hp (.lst (cutV (row.map V.int) none (some n)))
          rw [cut_take _ _ hn0, ← List.map_take] at h5 ⊢
          exact h5
      · rintro σ H' Q1 Q2 hQ ⟨v, e, p, ys, e2, h, w', e3, i, j, e4, e5, c, e6, q⟩
        exact ⟨v, e, p, ys, e2, h, w', e3, i, j, e4, e5, c, e6, hQ _ _ q⟩
end

structure PA where
  p : Addr
  dx : Addr
  m : Addr
  w : Addr
  s : Addr
def pfl (A : PA) : List (Str × V) := [("mark_sides", .ref A.m), ("counter_widths", .ref A.w), ("stretches", .ref A.s)]
theorem pfl_m (A : PA) : (pfl A).lookup ("mark_sides" : Str) = some (.ref A.m) := by kernel_rfl
theorem pfl_w (A : PA) : (pfl A).lookup ("counter_widths" : Str) = some (.ref A.w) := by kernel_rfl
theorem pfl_s (A : PA) : (pfl A).lookup ("stretches" : Str) = some (.ref A.s) := by kernel_rfl
theorem pfl_n (A : PA) : (pfl A).lookup ("many" : Str) = none ∧ (pfl A).lookup ("marks" : Str) = none ∧ (pfl A).lookup ("widths" : Str) = none ∧ (pfl A).lookup ("row_at" : Str) = none ∧ (pfl A).lookup ("check_beginning" : Str) = none ∧ (pfl A).lookup ("check_rows" : Str) = none ∧ (pfl A).lookup ("check_part" : Str) = none :=
  ⟨by kernel_rfl, by kernel_rfl, by kernel_rfl, by kernel_rfl, by kernel_rfl, by kernel_rfl, by kernel_rfl⟩
theorem pfl_cc (A : PA) : (pfl A).lookup ("check_called" : Str) = none := by kernel_rfl
inductive Rw where
  | bell (n : Int)
  | set (m s : Int)
  | ask (m a b : Int)
  | bump (c r : Int)
  | go (r : Int)
  | call (s : Int)
  | fin
def Rw.ws : Rw → Str
  | .bell _ => "bell"
  | .set _ _ => "set"
  | .ask _ _ _ => "ask"
  | .bump _ _ => "bump"
  | .go _ => "go"
  | .call _ => "call"
  | .fin => "end"
def Rw.ns : Rw → List Int
  | .bell n => [n]
  | .set m s => [m, s]
  | .ask m a b => [m, a, b]
  | .bump c r => [c, r]
  | .go r => [r]
  | .call s => [s]
  | .fin => []
def Rw.v (x : Rw) : List V := .str x.ws :: x.ns.map V.int
def Rw.ps : Rw → List Str
  | .bell _ => ["note"]
  | .set _ _ => ["mark", "side"]
  | .ask _ _ _ => ["mark", "row", "row"]
  | .bump _ _ => ["counter", "row"]
  | .go _ => ["row"]
  | .call _ => ["stretch"]
  | .fin => []
def Rw.last : Rw → Bool
  | .ask _ _ _ => true
  | .go _ => true
  | .fin => true
  | _ => false
def Rw.ok (nm nc nr k ns : Nat) : Rw → Prop
  | .bell n => 0 ≤ n ∧ n ≤ 9999
  | .set m s => 0 ≤ m ∧ m < nm ∧ (s = 1 ∨ s = 2)
  | .ask m a b => 0 ≤ m ∧ m < nm ∧ 0 ≤ a ∧ a < nr ∧ 0 ≤ b ∧ b < nr
  | .bump c r => 0 ≤ c ∧ c < nc ∧ 0 ≤ r ∧ r < nr
  | .go r => 0 ≤ r ∧ r < nr
  | .call s => (k : Int) < s ∧ s < ns
  | .fin => True
theorem Rw.len (x : Rw) : x.ps.length = x.ns.length := by cases x <;> rfl
theorem Rw.psl (x : Rw) : x.ps.length ≤ 1000 := by cases x <;> simp [Rw.ps]
theorem Rw.nsl (x : Rw) : x.ns.length + 1 ≤ 4 := by cases x <;> simp [Rw.ns]
theorem Rw.lastIn : ∀ (x : Rw), x.last = true → (!inV (.str x.ws) [.str "ask", .str "go", .str "end"]) = false
  | .ask _ _ _, _ => (by decide +kernel : (!inV (.str ("ask" : Str)) [.str "ask", .str "go", .str "end"]) = false)
  | .go _, _ => (by decide +kernel : (!inV (.str ("go" : Str)) [.str "ask", .str "go", .str "end"]) = false)
  | .fin, _ => (by decide +kernel : (!inV (.str ("end" : Str)) [.str "ask", .str "go", .str "end"]) = false)
  | .bell _, h => nomatch h
  | .set _ _, h => nomatch h
  | .bump _ _, h => nomatch h
  | .call _, h => nomatch h
theorem cutok {n : Nat} (h1 : 1 ≤ n) (h2 : n ≤ 4) : ¬ (HT.sIx n 0 (some 1) = 0 ∧ HT.sIx n n none = n) := by
  match n with
  | 1 => decide
  | 2 => decide
  | 3 => decide
  | 4 => decide
def partsD : List (Str × List Str) := [("bell", ["note"]), ("set", ["mark", "side"]), ("ask", ["mark", "row", "row"]), ("bump", ["counter", "row"]), ("go", ["row"]), ("call", ["stretch"]), ("end", [])]
theorem Rw.parts (x : Rw) : partsD.lookup x.ws = some x.ps := by cases x <;> rfl
def rwV (rs : List (Addr × Rw)) : List V := rs.map fun x => V.ref x.1
abbrev Ss := List (Addr × List (Addr × Rw))
def ssV (ss : Ss) : List V := ss.map fun z => V.ref z.1
def PartOk (nm nc nr k ns : Nat) (p : Str) (n : Int) : Prop :=
  (p = "note" ∧ 0 ≤ n ∧ n ≤ 9999) ∨ (p = "mark" ∧ 0 ≤ n ∧ n < nm) ∨ (p = "side" ∧ (n = 1 ∨ n = 2)) ∨ (p = "counter" ∧ 0 ≤ n ∧ n < nc) ∨ (p = "row" ∧ 0 ≤ n ∧ n < nr) ∨ (p = "stretch" ∧ (k : Int) < n ∧ n < ns)
theorem Rw.part {nm nc nr k ns : Nat} {x : Rw} (h : x.ok nm nc nr k ns) {i : Nat} {p : Str} {n : Int} (hp : x.ps[i]? = some p) (hn : x.ns[i]? = some n) : PartOk nm nc nr k ns p n := by
  cases x with
  | bell k =>
    match i with
    | 0 => cases hp; cases hn; exact .inl ⟨rfl, h⟩
    | i + 1 => cases hp
  | set m s =>
    match i with
    | 0 => cases hp; cases hn; exact .inr (.inl ⟨rfl, h.1, h.2.1⟩)
    | 1 => cases hp; cases hn; exact .inr (.inr (.inl ⟨rfl, h.2.2⟩))
    | i + 2 => cases hp
  | ask m a b =>
    match i with
    | 0 => cases hp; cases hn; exact .inr (.inl ⟨rfl, h.1, h.2.1⟩)
    | 1 => cases hp; cases hn; exact .inr (.inr (.inr (.inr (.inl ⟨rfl, h.2.2.1, h.2.2.2.1⟩))))
    | 2 => cases hp; cases hn; exact .inr (.inr (.inr (.inr (.inl ⟨rfl, h.2.2.2.2.1, h.2.2.2.2.2⟩))))
    | i + 3 => cases hp
  | bump c r =>
    match i with
    | 0 => cases hp; cases hn; exact .inr (.inr (.inr (.inl ⟨rfl, h.1, h.2.1⟩)))
    | 1 => cases hp; cases hn; exact .inr (.inr (.inr (.inr (.inl ⟨rfl, h.2.2.1, h.2.2.2⟩))))
    | i + 2 => cases hp
  | go r =>
    match i with
    | 0 => cases hp; cases hn; exact .inr (.inr (.inr (.inr (.inl ⟨rfl, h.1, h.2⟩))))
    | i + 1 => cases hp
  | call s =>
    match i with
    | 0 => cases hp; cases hn; exact .inr (.inr (.inr (.inr (.inr ⟨rfl, h.1, h.2⟩))))
    | i + 1 => cases hp
  | fin => cases hp
structure PIn (C : Addr) (A : PA) (ms ws : List Int) (ss : Ss) (L : Kn) : Prop where
  p : (A.p, HO.ins C A.dx (pfl A)) ∈ L
  m : (A.m, HO.lst (ms.map V.int)) ∈ L
  w : (A.w, HO.lst (ws.map V.int)) ∈ L
  s : (A.s, HO.lst (ssV ss)) ∈ L
  l : ∀ z ∈ ss, (z.1, HO.lst (rwV z.2)) ∈ L
  r : ∀ z ∈ ss, ∀ x ∈ z.2, (x.1, HO.tup x.2.v) ∈ L
structure PInN (C : Addr) (A : PA) (ms ws : List Int) (ss : Ss) (N : Kn) : Prop where
  p : (A.p, HO.ins C A.dx (pfl A)) ∈ N
  m : (A.m, HO.lst (ms.map V.int)) ∈ N
  w : (A.w, HO.lst (ws.map V.int)) ∈ N
  s : (A.s, HO.lst (ssV ss)) ∈ N
  l : ∀ z ∈ ss, (z.1, HO.lst (rwV z.2)) ∈ N
theorem PInN.pin {C : Addr} {A : PA} {ms ws : List Int} {ss : Ss} {N L : Kn} (h : PInN C A ms ws ss N) (hs : ∀ z ∈ N, z ∈ L) (hr : ∀ z ∈ ss, ∀ x ∈ z.2, (x.1, HO.tup x.2.v) ∈ L) : PIn C A ms ws ss L :=
  ⟨hs _ h.p, hs _ h.m, hs _ h.w, hs _ h.s, fun z hz => hs _ (h.l z hz), hr⟩
theorem PIn.mono {C : Addr} {A : PA} {ms ws : List Int} {ss : Ss} {L L' : Kn} (h : PIn C A ms ws ss L) (s : ∀ z ∈ L, z ∈ L') : PIn C A ms ws ss L' :=
  ⟨s _ h.p, s _ h.m, s _ h.w, s _ h.s, fun z hz => s _ (h.l z hz), fun z hz x hx => s _ (h.r z hz x hx)⟩
def Good (nm nc : Nat) (ss : Ss) : Prop := ∀ (k : Nat) z, ss[k]? = some z → (∀ x ∈ z.2, x.2.ok nm nc z.2.length k ss.length) ∧ ∃ a y, z.2.getLast? = some (a, y) ∧ y.last = true
theorem ssV_get {ss : Ss} {k : Nat} {z : Addr × List (Addr × Rw)} (h : ss[k]? = some z) : (ssV ss)[k]? = some (.ref z.1) := by unfold ssV; rw [List.getElem?_map, h]; rfl
theorem rwV_get {rs : List (Addr × Rw)} {k : Nat} {z : Addr × Rw} (h : rs[k]? = some z) : (rwV rs)[k]? = some (.ref z.1) := by unfold rwV; rw [List.getElem?_map, h]; rfl
theorem Good.tr {nm nc : Nat} {ss ss' : Ss} (e : ss'.map (·.2) = ss.map (·.2)) (h : Good nm nc ss) : Good nm nc ss' := by
  intro k z hz
  have hl : ss'.length = ss.length := by simpa using congrArg List.length e
  have e2 : (ss.map (·.2))[k]? = some z.2 := by rw [← e, List.getElem?_map, hz]; rfl
  rw [List.getElem?_map] at e2
  obtain ⟨z', h1, h2⟩ := Option.map_eq_some_iff.mp e2
  have := h k z' h1
  rw [h2] at this
  rw [hl]
  exact this
def sp_many (C : Addr) : Sp := fun vs H Q _ => ∃ (A : PA) (st : List V), vs = [.ref A.p] ∧ H A.p = some (.ins C A.dx (pfl A)) ∧ H A.s = some (.lst st) ∧ Q (.int st.length) H
end P


set_option Elab.async false
set_option linter.all false
set_option maxRecDepth 100000
set_option maxHeartbeats 4000000
namespace P
open PySem L2

theorem decInt (i j : Int) : decide (V.int i = V.int j) = decide (i = j) := by by_cases h : i = j <;> simp [h]
def fst1 : List (Option Nat) → Option Nat
  | [] => none
  | some i :: _ => some i
  | none :: r => fst1 r
theorem fst1_none {l : List (Option Nat)} (h : ∀ o ∈ l, o = none) : fst1 l = none := by
  induction l with
  | nil => rfl
  | cons o r ih =>
    have := h o List.mem_cons_self
    subst this
    exact ih fun o ho => h o (List.mem_cons_of_mem _ ho)
theorem fst1_at {l : List (Option Nat)} {n i : Nat} (h1 : ∀ k, k < n → l[k]? = some none) (h2 : l[n]? = some (some i)) : fst1 l = some i := by
  induction l generalizing n with
  | nil => cases h2
  | cons o r ih =>
    cases n with
    | zero => cases h2; rfl
    | succ n =>
      have := h1 0 (by omega)
      cases this
      exact ih (fun k hk => h1 (k + 1) (by omega)) h2
def gSide (n : Int) : Prop := n = 1 ∨ n = 2
def gNote (n : Int) : Prop := 0 ≤ n ∧ n ≤ 9999
def gWidth (n : Int) : Prop := 1 ≤ n ∧ n ≤ 8
def gIn (m : Nat) (n : Int) : Prop := 0 ≤ n ∧ n < m
def gCall (k ns : Nat) (n : Int) : Prop := (k : Int) < n ∧ n < ns
instance (n : Int) : Decidable (gSide n) := inferInstanceAs (Decidable (n = 1 ∨ n = 2))
instance (n : Int) : Decidable (gNote n) := inferInstanceAs (Decidable (0 ≤ n ∧ n ≤ 9999))
instance (n : Int) : Decidable (gWidth n) := inferInstanceAs (Decidable (1 ≤ n ∧ n ≤ 8))
instance (m : Nat) (n : Int) : Decidable (gIn m n) := inferInstanceAs (Decidable (0 ≤ n ∧ n < m))
instance (k ns : Nat) (n : Int) : Decidable (gCall k ns n) := inferInstanceAs (Decidable ((k : Int) < n ∧ n < ns))
def un (p : Prop) [Decidable p] (i : Nat) : Option Nat := if p then none else some i
theorem un_pos {p : Prop} [Decidable p] {i : Nat} (h : p) : un p i = none := if_pos h
theorem un_neg' {p : Prop} [Decidable p] {i : Nat} (h : ¬ p) : un p i = some i := if_neg h
def Rw.fs (nm nc nr k ns : Nat) : Rw → List (Option Nat)
  | .bell n => [un (gNote n) 3]
  | .set m s => [un (gIn nm m) 16, un (gSide s) 2]
  | .ask m a b => [un (gIn nm m) 16, un (gIn nr a) 15, un (gIn nr b) 15]
  | .bump c r => [un (gIn nc c) 17, un (gIn nr r) 15]
  | .go r => [un (gIn nr r) 15]
  | .call s => [un (gCall k ns s) 14]
  | .fin => []
def PF (nm nc nr k ns : Nat) (p : Str) (n : Int) (o : Option Nat) : Prop :=
  (p = "note" ∧ o = un (gNote n) 3) ∨ (p = "mark" ∧ o = un (gIn nm n) 16) ∨ (p = "side" ∧ o = un (gSide n) 2) ∨ (p = "counter" ∧ o = un (gIn nc n) 17) ∨ (p = "row" ∧ o = un (gIn nr n) 15) ∨ (p = "stretch" ∧ o = un (gCall k ns n) 14)
theorem Rw.fsl (nm nc nr k ns : Nat) (x : Rw) : (x.fs nm nc nr k ns).length = x.ns.length := by cases x <;> rfl
theorem Rw.pf (nm nc nr k ns : Nat) {x : Rw} {i : Nat} {p : Str} {n : Int} (hp : x.ps[i]? = some p) (hn : x.ns[i]? = some n) : ∃ o, (x.fs nm nc nr k ns)[i]? = some o ∧ PF nm nc nr k ns p n o := by
  cases x with
  | bell k =>
    match i with
    | 0 => cases hp; cases hn; exact ⟨_, rfl, .inl ⟨rfl, rfl⟩⟩
    | i + 1 => cases hp
  | set m s =>
    match i with
    | 0 => cases hp; cases hn; exact ⟨_, rfl, .inr (.inl ⟨rfl, rfl⟩)⟩
    | 1 => cases hp; cases hn; exact ⟨_, rfl, .inr (.inr (.inl ⟨rfl, rfl⟩))⟩
    | i + 2 => cases hp
  | ask m a b =>
    match i with
    | 0 => cases hp; cases hn; exact ⟨_, rfl, .inr (.inl ⟨rfl, rfl⟩)⟩
    | 1 => cases hp; cases hn; exact ⟨_, rfl, .inr (.inr (.inr (.inr (.inl ⟨rfl, rfl⟩))))⟩
    | 2 => cases hp; cases hn; exact ⟨_, rfl, .inr (.inr (.inr (.inr (.inl ⟨rfl, rfl⟩))))⟩
    | i + 3 => cases hp
  | bump c r =>
    match i with
    | 0 => cases hp; cases hn; exact ⟨_, rfl, .inr (.inr (.inr (.inl ⟨rfl, rfl⟩)))⟩
    | 1 => cases hp; cases hn; exact ⟨_, rfl, .inr (.inr (.inr (.inr (.inl ⟨rfl, rfl⟩))))⟩
    | i + 2 => cases hp
  | go r =>
    match i with
    | 0 => cases hp; cases hn; exact ⟨_, rfl, .inr (.inr (.inr (.inr (.inl ⟨rfl, rfl⟩))))⟩
    | i + 1 => cases hp
  | call s =>
    match i with
    | 0 => cases hp; cases hn; exact ⟨_, rfl, .inr (.inr (.inr (.inr (.inr ⟨rfl, rfl⟩))))⟩
    | i + 1 => cases hp
  | fin => cases hp
def Rw.flt (nm nc nr k ns : Nat) (x : Rw) : Option Nat := fst1 (x.fs nm nc nr k ns)
def lastOk (rs : List (Addr × Rw)) : Bool := match rs.getLast? with | some x => x.2.last | none => false
def stF (nm nc k ns : Nat) (rs : List (Addr × Rw)) : Option Nat :=
  if rs = [] then some 20 else match fst1 (rs.map fun x => x.2.flt nm nc rs.length k ns) with | some i => some i | none => if lastOk rs then none else some 20
def bgF (ms ws : List Int) (ss : Ss) : Option Nat :=
  match fst1 (ms.map fun n => un (gSide n) 2) with
  | some i => some i
  | none => match fst1 (ws.map fun n => un (gWidth n) 18) with
    | some i => some i
    | none => if ss = [] then some 14 else none
def stsF (nm nc : Nat) (ss : Ss) : List (Option Nat) := ss.zipIdx.map fun p => stF nm nc p.2 ss.length p.1.2
def fault (ms ws : List Int) (ss : Ss) : Option Nat :=
  match bgF ms ws ss with
  | some i => some i
  | none => fst1 (stsF ms.length ws.length ss)
def SmR (x : Rw) : Prop := ∀ n ∈ x.ns, n.natAbs ≤ 10 ^ 18 + 10
def SmS (ss : Ss) : Prop := ss.length ≤ 1000 ∧ ∀ z ∈ ss, z.2.length ≤ 1000 ∧ ∀ x ∈ z.2, SmR x.2
def SmI (ns : List Int) : Prop := ns.length ≤ 1000 ∧ ∀ n ∈ ns, n.natAbs ≤ 10 ^ 18 + 10
theorem smS {n : Int} (h : n.natAbs ≤ 10 ^ 18 + 1000) : Small n := small_of (Nat.lt_of_le_of_lt h (by decide))
def clsOf (t : Adr) (i : Nat) : Addr := if i = 2 then t.c_NoSide else if i = 3 then t.c_NoNote else if i = 14 then t.c_NoStretch else if i = 15 then t.c_NoRow else if i = 16 then t.c_NoMark else if i = 17 then t.c_NoCounter else if i = 18 then t.c_NoWidth else t.c_FallsOut
def spB1 (C : Addr) (g : Int → Prop) : Sp := fun vs H Q E => ∃ n : Int, vs = [.int n] ∧ Small n ∧ (g n → Q .non H) ∧ (¬ g n → ∀ a, E (.ref C) (some a) H)
def spB2 (C : Addr) : Sp := fun vs H Q E => ∃ (n : Int) (m : Nat), vs = [.int n, .int m] ∧ Small n ∧ (gIn m n → Q .non H) ∧ (¬ gIn m n → ∀ a, E (.ref C) (some a) H)
def spB_called (t : Adr) : Sp := fun vs H Q E => ∃ (A : PA) (ms ws : List Int) (ss : Ss) (L : Kn) (n : Int) (k : Nat), vs = [.ref A.p, .int n, .int k] ∧ Has H L ∧ PIn t.c_Program A ms ws ss L ∧ Small n ∧ k ≤ 1000 ∧ (gCall k ss.length n → Q .non H) ∧ (¬ gCall k ss.length n → ∀ a, E (.ref t.c_NoStretch) (some a) H)
def spB_part (t : Adr) : Sp := fun vs H Q E => ∃ (A : PA) (ms ws : List Int) (ss : Ss) (L : Kn) (k : Nat) (p : Str) (n : Int) (z : Addr × List (Addr × Rw)) (o : Option Nat), vs = [.ref A.p, .str p, .int n, .int k] ∧ Has H L ∧ PIn t.c_Program A ms ws ss L ∧ ss[k]? = some z ∧ k ≤ 1000 ∧ PF ms.length ws.length z.2.length k ss.length p n o ∧ Small n ∧ (o = none → Q .non H) ∧ (∀ i, o = some i → ∀ a, E (.ref (clsOf t i)) (some a) H)
def spB_rows (t : Adr) : Sp := fun vs H Q E => ∃ (A : PA) (ms ws : List Int) (ss : Ss) (L : Kn) (k : Nat) (z : Addr × List (Addr × Rw)), vs = [.ref A.p, .int k] ∧ Has H L ∧ PIn t.c_Program A ms ws ss L ∧ ss[k]? = some z ∧ k ≤ 1000 ∧ (∀ x ∈ z.2, SmR x.2) ∧
  (stF ms.length ws.length k ss.length z.2 = none → ∀ H', Has H' L → Q .non H') ∧ (∀ i, stF ms.length ws.length k ss.length z.2 = some i → ∀ H' N a, Has H' (N ++ L) → E (.ref (clsOf t i)) (some a) H')
def spB_beg (t : Adr) : Sp := fun vs H Q E => ∃ (A : PA) (ms ws : List Int) (ss : Ss) (L : Kn), vs = [.ref A.p] ∧ Has H L ∧ PIn t.c_Program A ms ws ss L ∧ SmI ms ∧ SmI ws ∧ (bgF ms ws ss = none → Q .non H) ∧ (∀ i, bgF ms ws ss = some i → ∀ a, E (.ref (clsOf t i)) (some a) H)
section
variable {P : Program} {w : World} {K : PySem.W.Frag} {mg : Str → Option Value} {base : Heap} {t : Adr}
theorem scCm : FnScope ["mark", "many"] ["mark", "many"] (defScope s_check_mark) := ⟨rfl, rfl, rfl, by decide +kernel, rfl, by decide +kernel, by decide +kernel⟩
theorem okB_check_mark (T : Txt K mg t) : FnOk P w K mg base (CXr P w) 1 t.f_check_mark t.d_check_mark ["mark", "many"] (spB2 t.c_NoMark) := by
  refine T.F_check_mark.okR scCm (fun vs H Q E h => ?_) (fun cdv A outer s H vs Q E hr h => ?_)
  · obtain ⟨_, _, rfl, _⟩ := h
    rfl
  · obtain ⟨n, m, rfl, sn, qg, qb⟩ := h
    refine ⟨_, (pss_one (ps_if (PW.pt (pw_or (pt_cmpR op_lt (pv 0) pe_int (nomark _)) (pw_or1 (pt_cmpR op_ge (pv 0) (pv 1) (nomark _)))))
        (pss_one (ps_raise raisesR rfl (by rfl) T.m_NoMark (excAll_in T.x_NoMark) (pe_joined (pj_cons pe_str (pj_cons (pe_fmt (pv 0)) pj_nil)))))
        pss_nil)), ?_⟩
    by_cases h0 : n < 0
    · exact ⟨_, rfl, _, _, rfl, rfl, _, rfl, ifT (decide_eq_true h0) (iteT (rz1 rfl sn (qb (fun g => by have := g.1; omega))))⟩
    · refine ⟨_, rfl, _, _, rfl, rfl, _, rfl, ifF (decide_eq_false h0) ?_⟩
      by_cases h1 : n < m
      · exact ⟨_, rfl, _, rfl, _, _, rfl, rfl, _, rfl, ifF (decide_eq_false (by omega)) (qg ⟨by omega, h1⟩)⟩
      · exact ⟨_, rfl, _, rfl, _, _, rfl, rfl, _, rfl, ifT (decide_eq_true (by omega)) (rz1 rfl sn (qb (fun g => h1 g.2)))⟩
theorem scCo : FnScope ["counter", "many"] ["counter", "many"] (defScope s_check_counter) := ⟨rfl, rfl, rfl, by decide +kernel, rfl, by decide +kernel, by decide +kernel⟩
theorem okB_check_counter (T : Txt K mg t) : FnOk P w K mg base (CXr P w) 1 t.f_check_counter t.d_check_counter ["counter", "many"] (spB2 t.c_NoCounter) := by
  refine T.F_check_counter.okR scCo (fun vs H Q E h => ?_) (fun cdv A outer s H vs Q E hr h => ?_)
  · obtain ⟨_, _, rfl, _⟩ := h
    rfl
  · obtain ⟨n, m, rfl, sn, qg, qb⟩ := h
    refine ⟨_, (pss_one (ps_if (PW.pt (pw_or (pt_cmpR op_lt (pv 0) pe_int (nomark _)) (pw_or1 (pt_cmpR op_ge (pv 0) (pv 1) (nomark _)))))
        (pss_one (ps_raise raisesR rfl (by rfl) T.m_NoCounter (excAll_in T.x_NoCounter) (pe_joined (pj_cons pe_str (pj_cons (pe_fmt (pv 0)) pj_nil)))))
        pss_nil)), ?_⟩
    by_cases h0 : n < 0
    · exact ⟨_, rfl, _, _, rfl, rfl, _, rfl, ifT (decide_eq_true h0) (iteT (rz1 rfl sn (qb (fun g => by have := g.1; omega))))⟩
    · refine ⟨_, rfl, _, _, rfl, rfl, _, rfl, ifF (decide_eq_false h0) ?_⟩
      by_cases h1 : n < m
      · exact ⟨_, rfl, _, rfl, _, _, rfl, rfl, _, rfl, ifF (decide_eq_false (by omega)) (qg ⟨by omega, h1⟩)⟩
      · exact ⟨_, rfl, _, rfl, _, _, rfl, rfl, _, rfl, ifT (decide_eq_true (by omega)) (rz1 rfl sn (qb (fun g => h1 g.2)))⟩
theorem scCw : FnScope ["row", "many"] ["row", "many"] (defScope s_check_row) := ⟨rfl, rfl, rfl, by decide +kernel, rfl, by decide +kernel, by decide +kernel⟩
theorem okB_check_row (T : Txt K mg t) : FnOk P w K mg base (CXr P w) 1 t.f_check_row t.d_check_row ["row", "many"] (spB2 t.c_NoRow) := by
  refine T.F_check_row.okR scCw (fun vs H Q E h => ?_) (fun cdv A outer s H vs Q E hr h => ?_)
  · obtain ⟨_, _, rfl, _⟩ := h
    rfl
  · obtain ⟨n, m, rfl, sn, qg, qb⟩ := h
    refine ⟨_, (pss_one (ps_if (PW.pt (pw_or (pt_cmpR op_lt (pv 0) pe_int (nomark _)) (pw_or1 (pt_cmpR op_ge (pv 0) (pv 1) (nomark _)))))
        (pss_one (ps_raise raisesR rfl (by rfl) T.m_NoRow (excAll_in T.x_NoRow) (pe_joined (pj_cons pe_str (pj_cons (pe_fmt (pv 0)) pj_nil)))))
        pss_nil)), ?_⟩
    by_cases h0 : n < 0
    · exact ⟨_, rfl, _, _, rfl, rfl, _, rfl, ifT (decide_eq_true h0) (iteT (rz1 rfl sn (qb (fun g => by have := g.1; omega))))⟩
    · refine ⟨_, rfl, _, _, rfl, rfl, _, rfl, ifF (decide_eq_false h0) ?_⟩
      by_cases h1 : n < m
      · exact ⟨_, rfl, _, rfl, _, _, rfl, rfl, _, rfl, ifF (decide_eq_false (by omega)) (qg ⟨by omega, h1⟩)⟩
      · exact ⟨_, rfl, _, rfl, _, _, rfl, rfl, _, rfl, ifT (decide_eq_true (by omega)) (rz1 rfl sn (qb (fun g => h1 g.2)))⟩
theorem scCt : FnScope ["stretch", "many"] ["stretch", "many"] (defScope s_check_stretch) := ⟨rfl, rfl, rfl, by decide +kernel, rfl, by decide +kernel, by decide +kernel⟩
theorem okB_check_stretch (T : Txt K mg t) : FnOk P w K mg base (CXr P w) 1 t.f_check_stretch t.d_check_stretch ["stretch", "many"] (spB2 t.c_NoStretch) := by
  refine T.F_check_stretch.okR scCt (fun vs H Q E h => ?_) (fun cdv A outer s H vs Q E hr h => ?_)
  · obtain ⟨_, _, rfl, _⟩ := h
    rfl
  · obtain ⟨n, m, rfl, sn, qg, qb⟩ := h
    refine ⟨_, (pss_one (ps_if (PW.pt (pw_or (pt_cmpR op_lt (pv 0) pe_int (nomark _)) (pw_or1 (pt_cmpR op_ge (pv 0) (pv 1) (nomark _)))))
        (pss_one (ps_raise raisesR rfl (by rfl) T.m_NoStretch (excAll_in T.x_NoStretch) (pe_joined (pj_cons pe_str (pj_cons (pe_fmt (pv 0)) pj_nil)))))
        pss_nil)), ?_⟩
    by_cases h0 : n < 0
    · exact ⟨_, rfl, _, _, rfl, rfl, _, rfl, ifT (decide_eq_true h0) (iteT (rz1 rfl sn (qb (fun g => by have := g.1; omega))))⟩
    · refine ⟨_, rfl, _, _, rfl, rfl, _, rfl, ifF (decide_eq_false h0) ?_⟩
      by_cases h1 : n < m
      · exact ⟨_, rfl, _, rfl, _, _, rfl, rfl, _, rfl, ifF (decide_eq_false (by omega)) (qg ⟨by omega, h1⟩)⟩
      · exact ⟨_, rfl, _, rfl, _, _, rfl, rfl, _, rfl, ifT (decide_eq_true (by omega)) (rz1 rfl sn (qb (fun g => h1 g.2)))⟩
theorem scWi : FnScope ["width"] ["width"] (defScope s_check_width) := ⟨rfl, rfl, rfl, by decide +kernel, rfl, by decide +kernel, by decide +kernel⟩
theorem okB_check_width (T : Txt K mg t) : FnOk P w K mg base (CXr P w) 1 t.f_check_width t.d_check_width ["width"] (spB1 t.c_NoWidth gWidth) := by
  refine T.F_check_width.okR scWi (fun vs H Q E h => ?_) (fun cdv A outer s H vs Q E hr h => ?_)
  · obtain ⟨_, rfl, _⟩ := h
    rfl
  · obtain ⟨n, rfl, sn, qg, qb⟩ := h
    refine ⟨_, (pss_one (ps_if (PW.pt (pw_or (pt_cmpR op_lt (pv 0) pe_int (nomark _)) (pw_or1 (pt_cmpR op_gt (pv 0) (pe_glob (by rfl) T.g_WIDEST T.r_WIDEST) (nomark _)))))
        (pss_one (ps_raise raisesR rfl (by rfl) T.m_NoWidth (excAll_in T.x_NoWidth) (pe_joined (pj_cons pe_str (pj_cons (pe_fmt (pv 0)) pj_nil)))))
        pss_nil)), ?_⟩
    by_cases h0 : n < 1
    · exact ⟨_, rfl, _, _, rfl, rfl, _, rfl, ifT (decide_eq_true h0) (iteT (rz1 rfl sn (qb (fun g => by have := g.1; omega))))⟩
    · refine ⟨_, rfl, _, _, rfl, rfl, _, rfl, ifF (decide_eq_false h0) ?_⟩
      by_cases h1 : n ≤ 8
      · exact ⟨_, rfl, _, _, rfl, rfl, _, rfl, ifF (decide_eq_false (by omega)) (qg ⟨by omega, h1⟩)⟩
      · exact ⟨_, rfl, _, _, rfl, rfl, _, rfl, ifT (decide_eq_true (by omega)) (rz1 rfl sn (qb (fun g => h1 g.2)))⟩
theorem scNo : FnScope ["note"] ["note"] (defScope s_check_note) := ⟨rfl, rfl, rfl, by decide +kernel, rfl, by decide +kernel, by decide +kernel⟩
theorem okB_check_note (T : Txt K mg t) : FnOk P w K mg base (CXr P w) 1 t.f_check_note t.d_check_note ["note"] (spB1 t.c_NoNote gNote) := by
  refine T.F_check_note.okR scNo (fun vs H Q E h => ?_) (fun cdv A outer s H vs Q E hr h => ?_)
  · obtain ⟨_, rfl, _⟩ := h
    rfl
  · obtain ⟨n, rfl, sn, qg, qb⟩ := h
    refine ⟨_, (pss_one (ps_if (PW.pt (pw_or (pt_cmpR op_lt (pv 0) pe_int (nomark _)) (pw_or1 (pt_cmpR op_gt (pv 0) (pe_glob (by rfl) T.g_LAST_NOTE T.r_LAST_NOTE) (nomark _)))))
        (pss_one (ps_raise raisesR rfl (by rfl) T.m_NoNote (excAll_in T.x_NoNote) (pe_joined (pj_cons pe_str (pj_cons (pe_fmt (pv 0)) pj_nil)))))
        pss_nil)), ?_⟩
    by_cases h0 : n < 0
    · exact ⟨_, rfl, _, _, rfl, rfl, _, rfl, ifT (decide_eq_true h0) (iteT (rz1 rfl sn (qb (fun g => by have := g.1; omega))))⟩
    · refine ⟨_, rfl, _, _, rfl, rfl, _, rfl, ifF (decide_eq_false h0) ?_⟩
      by_cases h1 : n ≤ 9999
      · exact ⟨_, rfl, _, _, rfl, rfl, _, rfl, ifF (decide_eq_false (by omega)) (qg ⟨by omega, h1⟩)⟩
      · exact ⟨_, rfl, _, _, rfl, rfl, _, rfl, ifT (decide_eq_true (by omega)) (rz1 rfl sn (qb (fun g => h1 g.2)))⟩
theorem scSd : FnScope ["side"] ["side"] (defScope s_check_side) := ⟨rfl, rfl, rfl, by decide +kernel, rfl, by decide +kernel, by decide +kernel⟩
theorem okB_check_side (T : Txt K mg t) : FnOk P w K mg base (CXr P w) 1 t.f_check_side t.d_check_side ["side"] (spB1 t.c_NoSide gSide) := by
  refine T.F_check_side.okR scSd (fun vs H Q E h => ?_) (fun cdv A outer s H vs Q E hr h => ?_)
  · obtain ⟨_, rfl, _⟩ := h
    rfl
  · obtain ⟨n, rfl, sn, qg, qb⟩ := h
    refine ⟨_, (pss_one (ps_if (PW.pt (pw_and (pt_cmpR op_ne (pv 0) pe_int (nomark _)) (pw_and1 (pt_cmpR op_ne (pv 0) pe_int (nomark _)))))
        (pss_one (ps_raise raisesR rfl (by rfl) T.m_NoSide (excAll_in T.x_NoSide) (pe_joined (pj_cons pe_str (pj_cons (pe_fmt (pv 0)) pj_nil)))))
        pss_nil)), ?_⟩
    refine ⟨_, rfl, rfl, _, rfl, ?_⟩
    rw [decInt]
    refine ifdn (fun h1 => ?_) (fun h1 => iteF (qg (.inl h1)))
    refine ⟨_, rfl, rfl, _, rfl, ?_⟩
    rw [decInt]
    exact ifdn (fun h2 => rz1 rfl sn (qb (fun g => g.elim h1 h2))) (fun h2 => qg (.inr h2))
theorem scMy : FnScope ["self"] ["self"] (defScope s_Program_many) := ⟨rfl, rfl, rfl, by decide +kernel, rfl, by decide +kernel, by decide +kernel⟩
theorem ok_Program_many (T : Txt K mg t) : FnOk P w K mg base CX0 1 t.f_Program_many t.d_Program_many ["self"] (sp_many t.c_Program) := by
  refine T.F_Program_many.ok scMy (fun vs H Q E h => ?_) (fun cdv A outer s H vs Q E hr h => ?_)
  · obtain ⟨_, _, rfl, _⟩ := h
    rfl
  · obtain ⟨A, st, rfl, g1, g2, q⟩ := h
    refine ⟨_, (pss_one (ps_ret (pe_callB call_len_seq (by rfl) T.z_len (by rfl) (pa_cons (pe_fld (pv 0) rfl) pa_nil)))), ?_⟩
    exact ⟨_, rfl, A.p, _, A.dx, _, _, rfl, g1, T.cl_Program, T.n_Program_stretches, pfl_s _, A.s, _, rfl, .inl (SqL.of g2), q⟩
theorem scCc : FnScope ["self", "called", "stretch"] ["self", "called", "stretch"] (defScope s_Program_check_called) := ⟨rfl, rfl, rfl, by decide +kernel, rfl, by decide +kernel, by decide +kernel⟩
theorem okB_Program_check_called (T : Txt K mg t) : FnOk P w K mg base (CXr P w) 2 t.f_Program_check_called t.d_Program_check_called ["self", "called", "stretch"] (spB_called t) := by
  refine T.F_Program_check_called.okR scCc (fun vs H Q E h => ?_) (fun cdv A outer s H vs Q E hr h => ?_)
  · obtain ⟨_, _, _, _, _, _, _, rfl, _⟩ := h
    rfl
  · obtain ⟨A, ms, ws, ss, L, n, k, rfl, hH, pin, sn, kb, qg, qb⟩ := h
    have hL : ∀ {z : Addr × HO}, z ∈ L → H z.1 = some z.2 := fun m => hH.at_ _ m
    have sl : (ssV ss).length = ss.length := by unfold ssV; rw [List.length_map]
    refine ⟨_, (pss_cons (ps_expr (pe_call (okB_check_stretch T) (hr.mono (by decide)) (by rfl) T.m_check_stretch T.F_check_stretch.kp (b_check_stretch T) .nil passR (pa_cons (pv 1) (pa_cons (pe_meth0 (pv 0) T.cl_Program T.M_Program_many (ok_Program_many T) (hr.mono (by decide)) (b_Program_many T) .nil pass0) pa_nil))))
      (pss_one (ps_if (pt_cmpR op_le (pv 1) (pv 2) (nomark _))
        (pss_one (ps_raise raisesR rfl (by rfl) T.m_NoStretch (excAll_in T.x_NoStretch) (pe_joined (pj_cons pe_str (pj_cons (pe_fmt (pv 1)) (pj_cons pe_str (pj_cons (pe_fmt (pv 2)) pj_nil)))))))
        pss_nil))), ?_⟩
    refine ⟨_, rfl, _, rfl, A.p, A.dx, _, rfl, hL pin.p, (pfl_n _).1, A, _, rfl, hL pin.p, hL pin.s, n, _, rfl, sn, fun g => ?_, fun g => qb (fun c => g ⟨by have := c.1; omega, by rw [sl]; exact c.2⟩)⟩
    by_cases c : n ≤ k
    · exact ⟨_, rfl, _, rfl, _, _, rfl, rfl, _, rfl, ifT (decide_eq_true c) (rz11 rfl sn rfl (smS (by omega)) (qb (fun d => by have := d.1; omega)))⟩
    · exact ⟨_, rfl, _, rfl, _, _, rfl, rfl, _, rfl, ifF (decide_eq_false c) (qg ⟨by omega, by have := g.2; rw [sl] at this; exact this⟩)⟩
theorem scPt : FnScope ["self", "part", "number", "stretch"] ["self", "part", "number", "stretch"] (defScope s_Program_check_part) := ⟨rfl, rfl, rfl, by decide +kernel, rfl, by decide +kernel, by decide +kernel⟩
theorem okB_Program_check_part (T : Txt K mg t) : FnOk P w K mg base (CXr P w) 3 t.f_Program_check_part t.d_Program_check_part ["self", "part", "number", "stretch"] (spB_part t) := by
  refine T.F_Program_check_part.okR scPt (fun vs H Q E h => ?_) (fun cdv A outer s H vs Q E hr h => ?_)
  · obtain ⟨_, _, _, _, _, _, _, _, _, _, rfl, _⟩ := h
    rfl
  · obtain ⟨A, ms, ws, ss, L, k, p, n, z, o, rfl, hH, pin, hz, kb, hp, sn, qg, qb⟩ := h
    have hL : ∀ {z : Addr × HO}, z ∈ L → H z.1 = some z.2 := fun m => hH.at_ _ m
    have hzm := List.mem_of_getElem? hz
    refine ⟨_, (pss_one (ps_if (pt_cmpR op_eq (pv 1) pe_str (nomark _))
        (pss_one (ps_expr (pe_call (okB_check_note T) (hr.mono (by decide)) (by rfl) T.m_check_note T.F_check_note.kp (b_check_note T) .nil passR (pa_cons (pv 2) pa_nil))))
        (pss_one (ps_if (pt_cmpR op_eq (pv 1) pe_str (nomark _))
            (pss_one (ps_expr (pe_call (okB_check_mark T) (hr.mono (by decide)) (by rfl) T.m_check_mark T.F_check_mark.kp (b_check_mark T) .nil passR (pa_cons (pv 2) (pa_cons (pe_callB call_len_seq (by rfl) T.z_len (by rfl) (pa_cons (pe_fld (pv 0) rfl) pa_nil)) pa_nil)))))
            (pss_one (ps_if (pt_cmpR op_eq (pv 1) pe_str (nomark _))
                (pss_one (ps_expr (pe_call (okB_check_side T) (hr.mono (by decide)) (by rfl) T.m_check_side T.F_check_side.kp (b_check_side T) .nil passR (pa_cons (pv 2) pa_nil))))
                (pss_one (ps_if (pt_cmpR op_eq (pv 1) pe_str (nomark _))
                    (pss_one (ps_expr (pe_call (okB_check_counter T) (hr.mono (by decide)) (by rfl) T.m_check_counter T.F_check_counter.kp (b_check_counter T) .nil passR (pa_cons (pv 2) (pa_cons (pe_callB call_len_seq (by rfl) T.z_len (by rfl) (pa_cons (pe_fld (pv 0) rfl) pa_nil)) pa_nil)))))
                    (pss_one (ps_if (pt_cmpR op_eq (pv 1) pe_str (nomark _))
                        (pss_one (ps_expr (pe_call (okB_check_row T) (hr.mono (by decide)) (by rfl) T.m_check_row T.F_check_row.kp (b_check_row T) .nil passR (pa_cons (pv 2) (pa_cons (pe_callB call_len_seq (by rfl) T.z_len (by rfl) (pa_cons (pe_ix ix_list (pe_fld (pv 0) rfl) (pv 3) (fun _ _ => rfl)) pa_nil)) pa_nil)))))
                        (pss_one (ps_expr (pe_meth (pv 0) T.cl_Program T.M_Program_check_called (okB_Program_check_called T) (hr.mono (by decide)) (b_Program_check_called T) .nil passR (pa_cons (pv 2) (pa_cons (pv 3) pa_nil))))))))))))))), ?_⟩
    rcases hp with ⟨rfl, rfl⟩ | ⟨rfl, rfl⟩ | ⟨rfl, rfl⟩ | ⟨rfl, rfl⟩ | ⟨rfl, rfl⟩ | ⟨rfl, rfl⟩
    · refine ⟨_, rfl, rfl, _, rfl, ifT (by decide +kernel) ?_⟩
      exact ⟨_, rfl, n, rfl, sn, fun g => qg (un_pos g), fun g => qb _ (un_neg' g)⟩
    · refine ⟨_, rfl, rfl, _, rfl, ifF (by decide +kernel) ?_⟩
      refine ⟨_, rfl, rfl, _, rfl, ifT (by decide +kernel) ?_⟩
      refine ⟨_, rfl, _, rfl, A.p, _, A.dx, _, _, rfl, hL pin.p, T.cl_Program, T.n_Program_mark_sides, pfl_m _, A.m, _, rfl, .inl (SqL.of (hL pin.m)), n, _, rfl, sn, ?_⟩
      rw [List.length_map]
      exact ⟨fun g => qg (un_pos g), fun g => qb _ (un_neg' g)⟩
    · refine ⟨_, rfl, rfl, _, rfl, ifF (by decide +kernel) ?_⟩
      refine ⟨_, rfl, rfl, _, rfl, ifF (by decide +kernel) ?_⟩
      refine ⟨_, rfl, rfl, _, rfl, ifT (by decide +kernel) ?_⟩
      exact ⟨_, rfl, n, rfl, sn, fun g => qg (un_pos g), fun g => qb _ (un_neg' g)⟩
    · refine ⟨_, rfl, rfl, _, rfl, ifF (by decide +kernel) ?_⟩
      refine ⟨_, rfl, rfl, _, rfl, ifF (by decide +kernel) ?_⟩
      refine ⟨_, rfl, rfl, _, rfl, ifF (by decide +kernel) ?_⟩
      refine ⟨_, rfl, rfl, _, rfl, ifT (by decide +kernel) ?_⟩
      refine ⟨_, rfl, _, rfl, A.p, _, A.dx, _, _, rfl, hL pin.p, T.cl_Program, T.n_Program_counter_widths, pfl_w _, A.w, _, rfl, .inl (SqL.of (hL pin.w)), n, _, rfl, sn, ?_⟩
      rw [List.length_map]
      exact ⟨fun g => qg (un_pos g), fun g => qb _ (un_neg' g)⟩
    · refine ⟨_, rfl, rfl, _, rfl, ifF (by decide +kernel) ?_⟩
      refine ⟨_, rfl, rfl, _, rfl, ifF (by decide +kernel) ?_⟩
      refine ⟨_, rfl, rfl, _, rfl, ifF (by decide +kernel) ?_⟩
      refine ⟨_, rfl, rfl, _, rfl, ifF (by decide +kernel) ?_⟩
      refine ⟨_, rfl, rfl, _, rfl, ifT (by decide +kernel) ?_⟩
      refine ⟨_, rfl, _, rfl, A.p, _, A.dx, _, _, rfl, hL pin.p, T.cl_Program, T.n_Program_stretches, pfl_s _, _, rfl, A.s, _, _, _, rfl, rfl, SqL.of (hL pin.s), atI_nat (ssV_get hz), z.1, _, rfl, .inl (SqL.of (hL (pin.l z hzm))), n, _, rfl, sn, ?_⟩
      rw [show (rwV z.2).length = z.2.length by unfold rwV; rw [List.length_map]]
      exact ⟨fun g => qg (un_pos g), fun g => qb _ (un_neg' g)⟩
    · refine ⟨_, rfl, rfl, _, rfl, ifF (by decide +kernel) ?_⟩
      refine ⟨_, rfl, rfl, _, rfl, ifF (by decide +kernel) ?_⟩
      refine ⟨_, rfl, rfl, _, rfl, ifF (by decide +kernel) ?_⟩
      refine ⟨_, rfl, rfl, _, rfl, ifF (by decide +kernel) ?_⟩
      refine ⟨_, rfl, rfl, _, rfl, ifF (by decide +kernel) ?_⟩
      exact ⟨_, rfl, A.p, A.dx, _, rfl, hL pin.p, pfl_cc _, _, rfl, _, rfl, A, ms, ws, ss, L, n, k, rfl, hH, pin, sn, kb, fun g => qg (un_pos g), fun g => qb _ (un_neg' g)⟩
theorem scCb : FnScope ["self", "side", "width"] ["self"] (defScope s_Program_check_beginning) := ⟨rfl, rfl, rfl, by decide +kernel, rfl, by decide +kernel, by decide +kernel⟩
theorem okB_Program_check_beginning (T : Txt K mg t) : FnOk P w K mg base (CXr P w) 2 t.f_Program_check_beginning t.d_Program_check_beginning ["self"] (spB_beg t) := by
  refine T.F_Program_check_beginning.okR scCb (fun vs H Q E h => ?_) (fun cdv A outer s H vs Q E hr h => ?_)
  · obtain ⟨_, _, _, _, _, rfl, _⟩ := h
    rfl
  · obtain ⟨A, ms, ws, ss, L, rfl, hH, pin, smm, smw, qg, qb⟩ := h
    have hL : ∀ {z : Addr × HO}, z ∈ L → H z.1 = some z.2 := fun m => hH.at_ _ m
    have mapn : ∀ (g : Int → Prop) [∀ n, Decidable (g n)] (c : Nat) (l : List Int) (i : Nat), (∀ k, k < i → ∀ n, l[k]? = some n → g n) → ∀ k, k < i → i ≤ l.length → (l.map fun n => un (g n) c)[k]? = some none := fun g _ c l i h k hk hi => by
      rw [List.getElem?_map, List.getElem?_eq_getElem (by omega)]
      show some (un (g l[k]) c) = some none
      rw [un_pos (h k hk _ (List.getElem?_eq_getElem (by omega)))]
    refine ⟨_, (pss_cons (ps_for PassesOwn.leaving rfl (pi_list (pe_fld (pv 0) rfl)) (pg_name (i := 1) scCb.nd rfl (Or.inl rfl))
        (pss_one (ps_expr (pe_call (okB_check_side T) (hr.mono (by decide)) (by rfl) T.m_check_side T.F_check_side.kp (b_check_side T) .nil passR (pa_cons (pv 1) pa_nil)))))
      (pss_cons (ps_for PassesOwn.leaving rfl (pi_list (pe_fld (pv 0) rfl)) (pg_name (i := 2) scCb.nd rfl (Or.inl rfl))
        (pss_one (ps_expr (pe_call (okB_check_width T) (hr.mono (by decide)) (by rfl) T.m_check_width T.F_check_width.kp (b_check_width T) .nil passR (pa_cons (pv 2) pa_nil)))))
      (pss_one (ps_if (pt_not (pt_truth (pe_fld (pv 0) rfl) (by intro _; rfl)))
        (pss_one (ps_raise raisesR rfl (by rfl) T.m_NoStretch (excAll_in T.x_NoStretch) pe_str))
        pss_nil)))), ?_⟩
    refine ⟨_, rfl, A.p, _, A.dx, _, _, rfl, hL pin.p, T.cl_Program, T.n_Program_mark_sides, pfl_m _, A.m, rfl, ⟨_, SqL.of (hL pin.m)⟩, for_list (xs := ms.map V.int) (fun i σ H' => ∃ (o1 o2 : Option V), σ = [some (.ref A.p), o1, o2] ∧ H' = H ∧ ∀ k, k < i → ∀ n, ms[k]? = some n → gSide n) ⟨_, _, rfl, rfl, fun k hk => absurd hk (Nat.not_lt_zero _)⟩ (fun i σ H' _ ⟨_, _, _, e, _⟩ => by rw [e]; exact SqL.of (hL pin.m)) ?_ ?_⟩
    · rintro i x σ H' hx ⟨o1, o2, rfl, rfl, ok⟩
      rw [List.getElem?_map] at hx
      obtain ⟨n, hn, rfl⟩ := Option.map_eq_some_iff.mp hx
      have il := (List.getElem?_eq_some_iff.mp hn).1
      refine ⟨_, rfl, n, rfl, smS (by have := smm.2 n (List.mem_of_getElem? hn); omega), fun g => ⟨_, _, rfl, rfl, fun k hk m hm => ?_⟩, fun g => qb 2 ?_⟩
      · by_cases c : k = i
        · subst c; rw [hn] at hm; cases hm; exact g
        · exact ok k (by omega) m hm
      · unfold bgF
        rw [fst1_at (n := i) (i := 2) (fun k hk => mapn gSide 2 ms i ok k hk (by omega)) (by rw [List.getElem?_map, hn]; show some (un (gSide n) 2) = _; rw [un_neg' g])]
    · rintro σ H' ⟨o1, o2, rfl, rfl, ok⟩
      rw [List.length_map] at ok
      have ms0 : fst1 (ms.map fun n => un (gSide n) 2) = none := fst1_none fun o ho => by
        obtain ⟨n, hn, rfl⟩ := List.mem_map.mp ho
        obtain ⟨k, hk⟩ := List.mem_iff_getElem?.mp hn
        exact un_pos (ok k (List.getElem?_eq_some_iff.mp hk).1 n hk)
      refine ⟨_, rfl, A.p, _, A.dx, _, _, rfl, hL pin.p, T.cl_Program, T.n_Program_counter_widths, pfl_w _, A.w, rfl, ⟨_, SqL.of (hL pin.w)⟩, for_list (xs := ws.map V.int) (fun i σ H1 => ∃ (o1 o2 : Option V), σ = [some (.ref A.p), o1, o2] ∧ H1 = H' ∧ ∀ k, k < i → ∀ n, ws[k]? = some n → gWidth n) ⟨_, _, rfl, rfl, fun k hk => absurd hk (Nat.not_lt_zero _)⟩ (fun i σ H1 _ ⟨_, _, _, e, _⟩ => by rw [e]; exact SqL.of (hL pin.w)) ?_ ?_⟩
      · rintro i x σ H1 hx ⟨o1, o2, rfl, rfl, okw⟩
        rw [List.getElem?_map] at hx
        obtain ⟨n, hn, rfl⟩ := Option.map_eq_some_iff.mp hx
        have il := (List.getElem?_eq_some_iff.mp hn).1
        refine ⟨_, rfl, n, rfl, smS (by have := smw.2 n (List.mem_of_getElem? hn); omega), fun g => ⟨_, _, rfl, rfl, fun k hk m hm => ?_⟩, fun g => qb 18 ?_⟩
        · by_cases c : k = i
          · subst c; rw [hn] at hm; cases hm; exact g
          · exact okw k (by omega) m hm
        · unfold bgF
          rw [ms0]
          dsimp only
          rw [fst1_at (n := i) (i := 18) (fun k hk => mapn gWidth 18 ws i okw k hk (by omega)) (by rw [List.getElem?_map, hn]; show some (un (gWidth n) 18) = _; rw [un_neg' g])]
      · rintro σ H1 ⟨o1, o2, rfl, rfl, okw⟩
        rw [List.length_map] at okw
        have ws0 : fst1 (ws.map fun n => un (gWidth n) 18) = none := fst1_none fun o ho => by
          obtain ⟨n, hn, rfl⟩ := List.mem_map.mp ho
          obtain ⟨k, hk⟩ := List.mem_iff_getElem?.mp hn
          exact un_pos (okw k (List.getElem?_eq_some_iff.mp hk).1 n hk)
        have bg : bgF ms ws ss = if ss = [] then some 14 else none := by
          unfold bgF
          rw [ms0]
          dsimp only
          rw [ws0]
        by_cases c : ss = []
        · refine ⟨_, rfl, A.p, _, A.dx, _, _, rfl, hL pin.p, T.cl_Program, T.n_Program_stretches, pfl_s _, false, .inl ⟨_, SqL.of (hL pin.s), by rw [c]; rfl⟩, iteT (rz0 (qb 14 (by rw [bg, if_pos c])))⟩
        · refine ⟨_, rfl, A.p, _, A.dx, _, _, rfl, hL pin.p, T.cl_Program, T.n_Program_stretches, pfl_s _, true, .inl ⟨_, SqL.of (hL pin.s), ?_⟩, iteF (qg (by rw [bg, if_neg c]))⟩
          cases ss with
          | nil => exact absurd rfl c
          | cons a b => rfl
end

end P


set_option Elab.async false
set_option linter.all false
set_option maxRecDepth 100000
set_option maxHeartbeats 4000000
namespace P
open PySem L2

theorem call_list_ofK {X : Cx} {K : PySem.W.Frag} (hK : X.K = K) : CallR X (.type "list") (fun xs H Q => ∃ p ys, xs = [.ref p] ∧ (SqL K H p ys ∨ SqT K H p ys) ∧ ∀ l, H l = none → Q (.ref l) (upd H l (.lst ys))) := by subst hK; exact call_list_of
theorem stF_row {nm nc k ns : Nat} {rs : List (Addr × Rw)} {i : Nat} {x : Addr × Rw} {j : Nat} {c : Nat} (hx : rs[i]? = some x) (h1 : ∀ a, a < i → ∀ y, rs[a]? = some y → y.2.flt nm nc rs.length k ns = none) (h2 : ∀ b, b < j → (x.2.fs nm nc rs.length k ns)[b]? = some none) (h3 : (x.2.fs nm nc rs.length k ns)[j]? = some (some c)) : stF nm nc k ns rs = some c := by
  unfold stF
  have hil := (List.getElem?_eq_some_iff.mp hx).1
  have e := fst1_at (l := rs.map fun x => x.2.flt nm nc rs.length k ns) (n := i) (i := c) (fun a ha => by
    rw [List.getElem?_map, List.getElem?_eq_getElem (by omega)]
    show some (Rw.flt _ _ _ _ _ _) = _
    rw [h1 a ha _ (List.getElem?_eq_getElem (by omega))]) (by
    rw [List.getElem?_map, hx]
    show some (fst1 _) = _
    rw [fst1_at h2 h3])
  rw [if_neg (fun e => by rw [e] at hx; cases hx), e]
theorem stF_ok {nm nc k ns : Nat} {rs : List (Addr × Rw)} (h0 : rs ≠ []) (h1 : ∀ a, a < rs.length → ∀ y, rs[a]? = some y → y.2.flt nm nc rs.length k ns = none) : stF nm nc k ns rs = if lastOk rs then none else some 20 := by
  unfold stF
  rw [if_neg h0, fst1_none fun o ho => ?_]
  obtain ⟨y, hy, rfl⟩ := List.mem_map.mp ho
  obtain ⟨a, ha⟩ := List.mem_iff_getElem?.mp hy
  exact h1 a (List.getElem?_eq_some_iff.mp ha).1 y ha
theorem Rw.lastOut : ∀ (x : Rw), x.last = false → (!inV (.str x.ws) [.str "ask", .str "go", .str "end"]) = true
  | .bell _, _ => (by decide +kernel : (!inV (.str ("bell" : Str)) [.str "ask", .str "go", .str "end"]) = true)
  | .set _ _, _ => (by decide +kernel : (!inV (.str ("set" : Str)) [.str "ask", .str "go", .str "end"]) = true)
  | .bump _ _, _ => (by decide +kernel : (!inV (.str ("bump" : Str)) [.str "ask", .str "go", .str "end"]) = true)
  | .call _, _ => (by decide +kernel : (!inV (.str ("call" : Str)) [.str "ask", .str "go", .str "end"]) = true)
  | .ask _ _ _, h => nomatch h
  | .go _, h => nomatch h
  | .fin, h => nomatch h
section
variable {P : Program} {w : World} {K : PySem.W.Frag} {mg : Str → Option Value} {base : Heap} {t : Adr}
theorem scPr : FnScope ["self", "stretch", "rows", "row", "part", "number"] ["self", "stretch"] (defScope s_Program_check_rows) := ⟨rfl, rfl, rfl, by decide +kernel, rfl, by decide +kernel, by decide +kernel⟩
theorem okB_Program_check_rows (T : Txt K mg t) : FnOk P w K mg base (CXr P w) 4 t.f_Program_check_rows t.d_Program_check_rows ["self", "stretch"] (spB_rows t) := by
  refine T.F_Program_check_rows.okR scPr (fun vs H Q E h => ?_) (fun cdv A outer s H vs Q E hr h => ?_)
  · obtain ⟨_, _, _, _, _, _, _, rfl, _⟩ := h
    rfl
  · obtain ⟨A, ms, ws, ss, L, k, z, rfl, hH, pin, hz, kb, hsm, qg, qb⟩ := h
    obtain ⟨aE, eE, hE⟩ := T.x_PARTS
    have T_r_PARTS : RelV (.ref aE) t.u_PARTS := by rw [eE]; rfl
    obtain ⟨aP, oP, its, nn, eP, k1, k2, k3, k4, k5⟩ := T.x_LAST_WORDS
    have T_r_LAST_WORDS : RelV (.ref aP) t.u_LAST_WORDS := by rw [eP]; rfl
    have hzm := List.mem_of_getElem? hz
    have sk : Small (k : Int) := smS (by omega)
    refine ⟨_, (pss_cons (ps_set (i := 2) scPr.nd rfl (Or.inl rfl) (pe_ix ix_list (pe_fld (pv 0) rfl) (pv 1) (fun _ _ => rfl)))
      (pss_cons (ps_if (pt_not (pt_truth (pv 2) (by intro _; rfl)))
        (pss_one (ps_raise raisesR rfl (by rfl) T.m_FallsOut (excAll_in T.x_FallsOut) (pe_joined (pj_cons pe_str (pj_cons (pe_fmt (pv 1)) (pj_cons pe_str pj_nil))))))
        pss_nil)
      (pss_cons (ps_for PassesOwn.leaving rfl (pi_list (pv 2)) (pg_name (i := 3) scPr.nd rfl (Or.inl rfl))
        (pss_one (ps_for PassesOwn.leaving rfl (pi_zipTT (by rfl) T.z_zip (pa_cons (pe_ixT (pe_glob (by rfl) T.g_PARTS T_r_PARTS) (pe_ix ix_tup (pv 3) pe_int (fun _ _ => rfl)) (fun _ _ => rfl)) (pa_cons (pe_slice sl_tup (pv 3) (po_some pe_int) po_none) pa_nil))) (pg_tup rfl (pgs_cons (pg_name (i := 4) scPr.nd rfl (Or.inl rfl)) (pgs_cons (pg_name (i := 5) scPr.nd rfl (Or.inl rfl)) pgs_nil)))
            (pss_one (ps_expr (pe_meth (pv 0) T.cl_Program T.M_Program_check_part (okB_Program_check_part T) (hr.mono (by decide)) (b_Program_check_part T) .nil passR (pa_cons (pv 4) (pa_cons (pv 5) (pa_cons (pv 1) pa_nil)))))))))
      (pss_one (ps_if (pt_cmpR op_notIn_seq (pe_ix ix_tup (pe_ix ix_list (pv 2) (pe_un un_neg pe_int) (fun _ _ => rfl)) pe_int (fun _ _ => rfl)) (pe_glob (by rfl) T.g_LAST_WORDS T_r_LAST_WORDS) (by rfl))
        (pss_one (ps_raise raisesR rfl (by rfl) T.m_FallsOut (excAll_in T.x_FallsOut) (pe_joined (pj_cons pe_str (pj_cons (pe_fmt (pv 1)) (pj_cons pe_str pj_nil))))))
        pss_nil))))), ?_⟩
    have hL : ∀ {H' : Hp} {z : Addr × HO}, Has H' L → z ∈ L → H' z.1 = some z.2 := fun h m => h.at_ _ m
    refine ⟨_, rfl, A.p, _, A.dx, _, _, rfl, hL hH pin.p, T.cl_Program, T.n_Program_stretches, pfl_s _, _, rfl, A.s, _, _, _, rfl, rfl, SqL.of (hL hH pin.s), atI_nat (ssV_get hz), ?_⟩
    by_cases hne : z.2 = []
    · exact ⟨_, rfl, false, .inl ⟨_, SqL.of (hL hH (pin.l z hzm)), by rw [hne]; rfl⟩, iteT (rz1c rfl sk (fun a => qb 20 (by unfold stF; rw [if_pos hne]) _ [] a hH))⟩
    refine ⟨_, rfl, true, .inl ⟨_, SqL.of (hL hH (pin.l z hzm)), ?_⟩, iteF ?_⟩
    · cases e : z.2 with
      | nil => exact absurd e hne
      | cons a b => rfl
    refine ⟨_, rfl, z.1, rfl, ⟨_, SqL.of (hL hH (pin.l z hzm))⟩, for_list (xs := rwV z.2) (fun i σ H' => ∃ (o1 o2 o3 : Option V), σ = [some (.ref A.p), some (.int k), some (.ref z.1), o1, o2, o3] ∧ Has H' L ∧ ∀ a, a < i → ∀ y, z.2[a]? = some y → y.2.flt ms.length ws.length z.2.length k ss.length = none) ⟨_, _, _, rfl, hH, fun a ha => absurd ha (Nat.not_lt_zero _)⟩ (fun i σ H' _ ⟨_, _, _, _, e, _⟩ => SqL.of (hL e (pin.l z hzm))) ?_ ?_⟩
    · rintro i x σ H' hx ⟨o1, o2, o3, rfl, h1, pre⟩
      unfold rwV at hx
      rw [List.getElem?_map] at hx
      obtain ⟨n, hn, rfl⟩ := Option.map_eq_some_iff.mp hx
      have hnm := List.mem_of_getElem? hn
      have g1 := hL h1 (pin.r z hzm n hnm)
      have hcut : cutV (.str n.2.ws :: n.2.ns.map V.int) (some 1) none = n.2.ns.map V.int := by cases n.2 <;> rfl
      refine ⟨_, rfl, n.1, _, _, _, rfl, rfl, SqT.of g1, atI_nat (j := 0) rfl, _, aE, _, n.2.ps, rfl, rfl, hE, n.2.parts, n.2.psl, fun b hb => ?_⟩
      refine ⟨_, rfl, _, rfl, n.1, _, rfl, SqT.of g1, ?_, fun p hp => ?_⟩
      · unfold Rw.v
        exact cutok (by rw [List.length_cons, List.length_map]; omega) (by rw [List.length_cons, List.length_map]; exact n.2.nsl)
      unfold Rw.v
      rw [hcut]
      have h2 := h1.alloc hp (.tup (n.2.ns.map V.int))
      refine ⟨b, p, rfl, ⟨_, hb _⟩, ⟨_, SqT.of (h2.get 0 rfl)⟩, for_zipT (xs := n.2.ps.map V.str) (ys := n.2.ns.map V.int) (by rw [List.length_map, List.length_map]; exact n.2.len) (fun i σ H' => ∃ (o2 o3 : Option V), σ = [some (.ref A.p), some (.int k), some (.ref z.1), some (.ref n.1), o2, o3] ∧ Has H' ((p, .tup (n.2.ns.map V.int)) :: L) ∧ ∀ b, b < i → (n.2.fs ms.length ws.length z.2.length k ss.length)[b]? = some none) ⟨_, _, rfl, h2, fun b hb => absurd hb (Nat.not_lt_zero _)⟩ (fun i σ H' _ ⟨_, _, _, e, _⟩ => ⟨hb _, SqT.of (e.get 0 rfl)⟩) ?_ ?_⟩
      · rintro j x y σ H3 p3 hx hy ⟨o4, o5, rfl, h3, pr2⟩ hp3
        rw [List.getElem?_map] at hx hy
        obtain ⟨x, hx1, rfl⟩ := Option.map_eq_some_iff.mp hx
        obtain ⟨y, hy1, rfl⟩ := Option.map_eq_some_iff.mp hy
        have h4 := h3.alloc hp3 (.tup [.str x, .int y])
        obtain ⟨o, ho, hpf⟩ := Rw.pf ms.length ws.length z.2.length k ss.length hx1 hy1
        refine ⟨p3, _, rfl, SqT.of (h4.get 0 rfl), rfl, _, _, rfl, _, _, rfl, rfl, ?_⟩
        refine ⟨_, rfl, A.p, A.dx, _, rfl, hL h4.tail.tail pin.p, (pfl_n _).2.2.2.2.2.2, _, rfl, _, rfl, _, rfl, A, ms, ws, ss, L, k, x, y, z, o, rfl, h4.tail.tail, pin, hz, kb, hpf, smS (by have := hsm n hnm y (List.mem_of_getElem? hy1); omega), fun eo => ⟨_, _, rfl, h4.tail, fun b hb => ?_⟩, fun c eo a => qb c (stF_row hn pre pr2 (by rw [ho, eo])) _ [_, _] a h4⟩
        by_cases c : b = j
        · rw [c, ho, eo]
        · exact pr2 b (by omega)
      · rintro σ H3 ⟨o4, o5, rfl, h3, pr2⟩
        refine ⟨_, _, _, rfl, h3.tail, fun a ha y hy => ?_⟩
        by_cases c : a = i
        · subst c
          rw [hn] at hy
          cases hy
          rw [List.length_map] at pr2
          exact fst1_none fun o ho => by
            obtain ⟨b, hb⟩ := List.mem_iff_getElem?.mp ho
            have hbl := (List.getElem?_eq_some_iff.mp hb).1
            rw [Rw.fsl, ← n.2.len] at hbl
            rw [pr2 b hbl] at hb
            cases hb
            rfl
        · exact pre a (by omega) y hy
    · rintro σ H' ⟨o1, o2, o3, rfl, h1, pre⟩
      have lz : (rwV z.2).length = z.2.length := by unfold rwV; rw [List.length_map]
      rw [lz] at pre
      have st := stF_ok hne pre
      obtain ⟨la, ly, hla⟩ : ∃ la ly, z.2.getLast? = some (la, ly) := by
        cases e : z.2.getLast? with
        | none => exact absurd (List.getLast?_eq_none_iff.mp e) hne
        | some x => exact ⟨x.1, x.2, rfl⟩
      have lo : lastOk z.2 = ly.last := by unfold lastOk; rw [hla]
      obtain ⟨rs', ers⟩ := List.getLast?_eq_some_iff.mp hla
      have eV : rwV z.2 = rwV rs' ++ [.ref la] := by rw [ers]; unfold rwV; rw [List.map_append]; rfl
      have g1 := hL h1 (pin.l z hzm)
      have g2 := hL h1 (pin.r z hzm (la, ly) (by rw [ers]; simp))
      rw [eV] at g1
      refine ⟨_, rfl, 1, rfl, z.1, _, _, _, rfl, rfl, SqL.of g1, atI_last _ _, la, _, _, _, rfl, rfl, SqT.of g2, atI_nat (j := 0) rfl, aP, _, rfl, .inr (.inr ⟨oP, its, nn, k1, k2, k3, k4, k5⟩), rfl, rfl, _, rfl, ?_⟩
      cases hlast : ly.last with
      | true => exact ifF (ly.lastIn hlast) (qg (by rw [st, lo, hlast]; rfl) _ h1)
      | false => exact ifT (ly.lastOut hlast) (rz1c rfl sk (fun a => qb 20 (by rw [st, lo, hlast]; rfl) _ [] a h1))
end

end P


set_option Elab.async false
set_option linter.all false
set_option maxRecDepth 100000
set_option maxHeartbeats 4000000
namespace P
open PySem L2

theorem stsF_at {nm nc : Nat} {ss : Ss} {k : Nat} {z : Addr × List (Addr × Rw)} (h : ss[k]? = some z) : (stsF nm nc ss)[k]? = some (stF nm nc k ss.length z.2) := by
  unfold stsF
  rw [List.getElem?_map, List.getElem?_zipIdx, h]
  simp
theorem stsF_len {nm nc : Nat} {ss : Ss} : (stsF nm nc ss).length = ss.length := by unfold stsF; simp
theorem stsF_tr {nm nc : Nat} {ss ss' : Ss} (e : ss'.map (·.2) = ss.map (·.2)) : stsF nm nc ss' = stsF nm nc ss := by
  have hl : ss'.length = ss.length := by simpa using congrArg List.length e
  refine List.ext_getElem? fun k => ?_
  by_cases hk : k < ss.length
  · have h1 := List.getElem?_eq_getElem hk
    have h2 := List.getElem?_eq_getElem (l := ss') (i := k) (by omega)
    have e2 := congrArg (fun l => l[k]?) e
    rw [List.getElem?_map, List.getElem?_map, h1, h2] at e2
    have e3 : ss'[k].2 = ss[k].2 := Option.some.inj e2
    rw [stsF_at h1, stsF_at h2, e3, hl]
  · rw [List.getElem?_eq_none (by rw [stsF_len]; omega), List.getElem?_eq_none (by rw [stsF_len]; omega)]
theorem nil_tr {ss ss' : Ss} (e : ss'.map (·.2) = ss.map (·.2)) : ss' = [] ↔ ss = [] := by
  have hl : ss'.length = ss.length := by simpa using congrArg List.length e
  rw [← List.length_eq_zero_iff, ← List.length_eq_zero_iff, hl]
theorem bgF_tr {ms ws : List Int} {ss ss' : Ss} (e : ss'.map (·.2) = ss.map (·.2)) : bgF ms ws ss' = bgF ms ws ss := by
  unfold bgF
  have : (if ss' = [] then some 14 else none) = (if ss = [] then some 14 else none) := by simp only [nil_tr e]
  rw [this]
theorem fault_tr {ms ws : List Int} {ss ss' : Ss} (e : ss'.map (·.2) = ss.map (·.2)) : fault ms ws ss' = fault ms ws ss := by
  unfold fault
  rw [bgF_tr e, stsF_tr e]
theorem fault_beg {ms ws : List Int} {ss : Ss} {i : Nat} (h : bgF ms ws ss = some i) : fault ms ws ss = some i := by unfold fault; rw [h]
theorem fault_st {ms ws : List Int} {ss : Ss} {i : Nat} (h0 : bgF ms ws ss = none) {k : Nat} {z : Addr × List (Addr × Rw)} (hz : ss[k]? = some z) (h1 : ∀ a, a < k → ∀ y, ss[a]? = some y → stF ms.length ws.length a ss.length y.2 = none) (h2 : stF ms.length ws.length k ss.length z.2 = some i) : fault ms ws ss = some i := by
  unfold fault
  rw [h0]
  have hk := (List.getElem?_eq_some_iff.mp hz).1
  exact fst1_at (n := k) (fun a ha => by rw [stsF_at (List.getElem?_eq_getElem (show a < ss.length by omega)), h1 a ha _ (List.getElem?_eq_getElem (by omega))]) (by rw [stsF_at hz, h2])
theorem fault_ok {ms ws : List Int} {ss : Ss} (h0 : bgF ms ws ss = none) (h1 : ∀ a, a < ss.length → ∀ y, ss[a]? = some y → stF ms.length ws.length a ss.length y.2 = none) : fault ms ws ss = none := by
  unfold fault
  rw [h0]
  exact fst1_none fun o ho => by
    obtain ⟨k, hk⟩ := List.mem_iff_getElem?.mp ho
    have hl := (List.getElem?_eq_some_iff.mp hk).1
    rw [stsF_len] at hl
    rw [stsF_at (List.getElem?_eq_getElem hl), h1 k hl _ (List.getElem?_eq_getElem hl)] at hk
    exact (Option.some.inj hk).symm
def spB_init (t : Adr) : Sp := fun vs H Q E => ∃ (p dx m0 w0 s0 : Addr) (ms ws : List Int) (ss : Ss) (L : Kn), vs = [.ref p, .ref m0, .ref w0, .ref s0] ∧
  Has H ((p, .ins t.c_Program dx []) :: (dx, .own p) :: L) ∧ (m0, HO.lst (ms.map V.int)) ∈ L ∧ (w0, HO.lst (ws.map V.int)) ∈ L ∧ (s0, HO.lst (ssV ss)) ∈ L ∧ (∀ z ∈ ss, (z.1, HO.lst (rwV z.2)) ∈ L) ∧ (∀ z ∈ ss, ∀ x ∈ z.2, (x.1, HO.tup x.2.v) ∈ L) ∧
  SmI ms ∧ SmI ws ∧ SmS ss ∧ (fault ms ws ss = none → ∀ H' N, Has H' (N ++ L) → Q .non H') ∧ (∀ i, fault ms ws ss = some i → ∀ H' N a, Has H' (N ++ L) → E (.ref (clsOf t i)) (some a) H')
section
variable {P : Program} {w : World} {K : PySem.W.Frag} {mg : Str → Option Value} {base : Heap} {t : Adr}
theorem scPn : FnScope ["self", "marks", "widths", "stretches", "stretch"] ["self", "marks", "widths", "stretches"] (defScope s_Program_init) := ⟨rfl, rfl, rfl, by decide +kernel, rfl, by decide +kernel, by decide +kernel⟩
theorem okB_Program_init (T : Txt K mg t) : FnOk P w K mg base (CXr P w) 5 t.f_Program_init t.d_Program_init ["self", "marks", "widths", "stretches"] (spB_init t) := by
  refine T.F_Program_init.okR scPn (fun vs H Q E h => ?_) (fun cdv A outer s H vs Q E hr h => ?_)
  · obtain ⟨_, _, _, _, _, _, _, _, _, rfl, _⟩ := h
    rfl
  · obtain ⟨p, dx, m0, w0, s0, ms, ws, ss, L, rfl, hH, mm0, mw0, ms0, ml, mr, smm, smw, sms, qg, qb⟩ := h
    have hlen := sms.1
    refine ⟨_, (pss_cons (ps_fld (pv 0) (pe_callTy call_list_of (by rfl) T.z_list (by rfl) (pa_cons (pv 1) pa_nil)) rfl)
      (pss_cons (ps_fld (pv 0) (pe_callTy call_list_of (by rfl) T.z_list (by rfl) (pa_cons (pv 2) pa_nil)) rfl)
      (pss_cons (ps_fld (pv 0) (pe_lc (esc := defScope s_Program_init) (k := 1) ["rows", "self", "marks", "widths", "stretches", "stretch"] rfl (pi_list (pv 3)) (fun _ _ _ _ _ => by exact (pg_name (i := 0) (show List.Nodup (["rows", "self", "marks", "widths", "stretches", "stretch"] : List Str) from by decide +kernel) rfl (Or.inl rfl))) (fun _ _ _ _ _ => by exact pts_nil) (fun _ _ _ _ _ => by exact (pe_callTy (call_list_ofK (K := K) rfl) (by rfl) T.z_list (by rfl) (pa_cons (pv 0) pa_nil))) rfl (by decide +kernel) (by decide +kernel) rfl (by decide +kernel) (by rfl) (fun _ _ h _ => h) (by decide +kernel)) rfl)
      (pss_cons (ps_expr (pe_meth0 (pv 0) T.cl_Program T.M_Program_check_beginning (okB_Program_check_beginning T) (hr.mono (by decide)) (b_Program_check_beginning T) .nil passR))
      (pss_one (ps_for PassesOwn.leaving rfl (pi_range1 (by rfl) T.z_range (pa_cons (pe_meth0 (pv 0) T.cl_Program T.M_Program_many (ok_Program_many T) (hr.mono (by decide)) (b_Program_many T) .nil pass0) pa_nil)) (pg_name (i := 4) scPn.nd rfl (Or.inl rfl))
        (pss_one (ps_expr (pe_meth (pv 0) T.cl_Program T.M_Program_check_rows (okB_Program_check_rows T) (hr.mono (by decide)) (b_Program_check_rows T) .nil passR (pa_cons (pv 4) pa_nil)))))))))), ?_⟩
    refine ⟨_, rfl, m0, _, rfl, .inl (SqL.of (hH.tail.tail.at_ _ mm0)), fun a1 ha1 => ?_⟩
    have h1 := hH.alloc ha1 (.lst (ms.map V.int))
    refine ⟨_, rfl, p, _, dx, _, rfl, h1.get 1 rfl, T.cl_Program, T.n_Program_mark_sides, (show 0 < 1000 by decide), ?_⟩
    have h2 := h1.puti 1 rfl (.ins t.c_Program dx [("mark_sides", .ref a1)])
    refine ⟨_, rfl, w0, _, rfl, .inl (SqL.of (h2.tail.tail.tail.at_ _ mw0)), fun a2 ha2 => ?_⟩
    have h3 := h2.alloc ha2 (.lst (ws.map V.int))
    refine ⟨_, rfl, p, _, dx, _, rfl, h3.get 2 rfl, T.cl_Program, T.n_Program_counter_widths, (show 1 < 1000 by decide), ?_⟩
    have h4 := h3.puti 2 rfl (.ins t.c_Program dx [("mark_sides", .ref a1), ("counter_widths", .ref a2)])
    refine ⟨_, rfl, s0, rfl, ⟨_, SqL.of (h4.tail.tail.tail.tail.at_ _ ms0)⟩, fun D hD => ?_⟩
    have inL : ∀ {H' : Hp} {N : Kn} {z c1 c2 c3 c4 c5 : Addr × HO}, Has H' (c1 :: (N ++ (c2 :: c3 :: c4 :: c5 :: L))) → z ∈ L → H' z.1 = some z.2 := fun h m => h.at_ _ (List.mem_cons_of_mem _ (List.mem_append_right _ (by simp [m])))
    refine ⟨fun n m zs H' => ∃ (s1 : Ss) (N : Kn), m = ss.length - n ∧ n ≤ ss.length ∧ s1.map (·.2) = (ss.take n).map (·.2) ∧ zs = ssV s1 ∧ (∀ z ∈ s1, (z.1, HO.lst (rwV z.2)) ∈ N) ∧ Has H' ((D, .lst zs) :: (N ++ ((a2, .lst (ws.map V.int)) :: (a1, .lst (ms.map V.int)) :: (p, .ins t.c_Program dx [("mark_sides", .ref a1), ("counter_widths", .ref a2)]) :: (dx, .own p) :: L))), ⟨_, [], [], rfl, Nat.zero_le _, rfl, rfl, by simp, h4.alloc hD _⟩, ?_⟩
    rintro n m zs H5 ⟨s1, N, rfl, hn, es1, rfl, hN, h5⟩
    refine ⟨h5.get 0 rfl, ?_⟩
    have g0 := inL h5 ms0
    have ls1 : s1.length = n := by
      have := congrArg List.length es1
      simp at this
      omega
    by_cases hlt : n < ss.length
    · have hx0 : (ssV ss)[n]? = some (.ref ss[n].1) := ssV_get (List.getElem?_eq_getElem hlt)
      refine .inr ⟨⟨_, _, SqL.of g0, hx0⟩, ?_⟩
      rintro x H6 ⟨rfl, hx⟩
      have e1 := hx _ (SqL.of g0)
      rw [hx0] at e1
      cases e1
      refine ⟨rfl, tTrueT ?_⟩
      refine ⟨_, rfl, ss[n].1, _, rfl, .inl (SqL.of (inL h5 (ml _ (List.getElem_mem hlt)))), fun rl hrl => ?_⟩
      have h6 := h5.alloc hrl (.lst (rwV ss[n].2))
      refine ⟨sizeOk (by unfold ssV; rw [List.length_map]; omega), h6.get 1 rfl, ss.length - (n + 1), by omega, s1 ++ [(rl, ss[n].2)], (rl, .lst (rwV ss[n].2)) :: N, rfl, hlt, ?_, ?_, ?_, ?_⟩
      · rw [List.map_append, es1, List.take_succ, List.map_append, List.getElem?_eq_getElem hlt]
        rfl
      · unfold ssV
        rw [List.map_append]
        rfl
      · intro z hz
        rcases List.mem_append.mp hz with hz | hz
        · exact List.mem_cons_of_mem _ (hN z hz)
        · cases List.mem_singleton.mp hz
          exact List.mem_cons_self
      · exact (h6.puti 1 rfl _).swap2
    · have en : n = ss.length := by omega
      rw [en, List.take_length] at es1
      refine .inl ⟨⟨_, SqL.of g0, by unfold ssV; rw [List.length_map]; omega⟩, ?_⟩
      have h6 := Has.comm (X := (D, HO.lst (ssV s1)) :: N) (Y := [(a2, .lst (ws.map V.int)), (a1, .lst (ms.map V.int)), (p, .ins t.c_Program dx [("mark_sides", .ref a1), ("counter_widths", .ref a2)]), (dx, .own p)]) h5
      refine ⟨_, rfl, p, _, dx, _, rfl, h6.get 2 rfl, T.cl_Program, T.n_Program_stretches, (show 2 < 1000 by decide), ?_⟩
      have h7 := h6.puti 2 rfl (.ins t.c_Program dx (pfl ⟨p, dx, a1, a2, D⟩))
      have ef : putF "stretches" (.ref D) [("mark_sides", .ref a1), ("counter_widths", .ref a2)] = pfl ⟨p, dx, a1, a2, D⟩ := by kernel_rfl
      have h8 := h7
      rw [← ef] at h8
      rw [ef] at h8 ⊢
      obtain ⟨N2, eN2⟩ : ∃ N2 : Kn, [(a2, HO.lst (ws.map V.int)), (a1, .lst (ms.map V.int)), (p, .ins t.c_Program dx (pfl ⟨p, dx, a1, a2, D⟩)), (dx, .own p)] ++ ((D, HO.lst (ssV s1)) :: N) = N2 := ⟨_, rfl⟩
      have h9 : Has (upd H5 p (.ins t.c_Program dx (pfl ⟨p, dx, a1, a2, D⟩))) (N2 ++ L) := by rw [← eN2]; exact h7
      have pin : PIn t.c_Program ⟨p, dx, a1, a2, D⟩ ms ws s1 (N2 ++ L) := by
        rw [← eN2]
        refine ⟨by simp, by simp, by simp, by simp, fun z hz => ?_, fun z hz x hx => ?_⟩
        · exact List.mem_append_left _ (by simp [hN z hz])
        · have : z.2 ∈ ss.map (·.2) := by rw [← es1]; exact List.mem_map_of_mem hz
          obtain ⟨z', h1, h2⟩ := List.mem_map.mp this
          exact List.mem_append_right _ (mr z' h1 x (by rw [h2]; exact hx))
      have pinN : PInN t.c_Program ⟨p, dx, a1, a2, D⟩ ms ws s1 N2 := by
        rw [← eN2]
        exact ⟨by simp, by simp, by simp, by simp, fun z hz => by simp [hN z hz]⟩
      obtain ⟨A, hA⟩ : ∃ A : PA, (⟨p, dx, a1, a2, D⟩ : PA) = A := ⟨_, rfl⟩
      have hp : p = A.p := by rw [← hA]
      rw [hA] at pin pinN
      clear h7 h8 h6 h5
      generalize upd H5 p (.ins t.c_Program dx (pfl ⟨p, dx, a1, a2, D⟩)) = H6 at h9 ⊢
      clear hA eN2
      subst hp
      have hL : ∀ {H' : Hp} {z : Addr × HO}, Has H' (N2 ++ L) → z ∈ N2 ++ L → H' z.1 = some z.2 := fun h m => h.at_ _ m
      have lss : s1.length = ss.length := by rw [ls1, en]
      rw [← fault_tr es1] at qg qb
      refine ⟨_, rfl, A.p, A.dx, _, rfl, hL h9 pin.p, (pfl_n _).2.2.2.2.1, A, ms, ws, s1, _, rfl, h9, pin, smm, smw, fun bg => ?_, fun i hi a => qb i (fault_beg hi) _ N2 a h9⟩
      refine ⟨_, rfl, A.p, A.dx, _, rfl, hL h9 pin.p, (pfl_n _).1, A, _, rfl, hL h9 pin.p, hL h9 pin.s, _, rfl, (by omega), (by unfold ssV; rw [List.length_map]; omega), for_range (fun i σ H' => ∃ (o : Option V), σ = [some (.ref A.p), some (.ref m0), some (.ref w0), some (.ref s0), o] ∧ Has H' (N2 ++ L) ∧ ∀ a, a < i → ∀ y, s1[a]? = some y → stF ms.length ws.length a s1.length y.2 = none) ⟨_, rfl, h9, fun a ha => absurd ha (Nat.not_lt_zero _)⟩ ?_ ?_⟩
      · rintro i σ H1 hi ⟨o, rfl, h8, pre⟩
        have hi : i < s1.length := by
          have : i < ((ssV s1).length : Int).toNat := hi
          unfold ssV at this
          rw [List.length_map] at this
          omega
        have hz := List.getElem?_eq_getElem hi
        have hsm : ∀ x ∈ s1[i].2, SmR x.2 := by
          have : s1[i].2 ∈ ss.map (·.2) := by rw [← es1]; exact List.mem_map_of_mem (List.getElem_mem hi)
          obtain ⟨z', h1, h2⟩ := List.mem_map.mp this
          rw [← h2]
          exact (sms.2 z' h1).2
        rw [Int.zero_add]
        refine ⟨_, rfl, A.p, A.dx, _, rfl, hL h8 pin.p, (pfl_n _).2.2.2.2.2.1, _, rfl, A, ms, ws, s1, _, i, _, rfl, h8, pin, hz, by omega, hsm, fun ok H2 h9 => ⟨_, rfl, h9, fun a ha y hy => ?_⟩, fun c hc H2 N a h9 => qb c (fault_st bg hz pre hc) _ (N ++ N2) a (by rw [List.append_assoc]; exact h9)⟩
        by_cases e : a = i
        · subst e
          rw [hz] at hy
          cases hy
          exact ok
        · exact pre a (by omega) y hy
      · rintro σ H1 ⟨o, rfl, h8, pre⟩
        refine qg (fault_ok bg fun a ha => pre a ?_) _ N2 h8
        have : ((ssV s1).length : Int).toNat = s1.length := by unfold ssV; rw [List.length_map]; omega
        rw [this]
        exact ha
end

end P


set_option Elab.async false
set_option linter.all false
set_option maxRecDepth 100000
set_option maxHeartbeats 4000000
namespace P
open PySem L2

theorem bring_perm {α : Type} : ∀ (L : List α) (i : Nat) (hi : i < L.length), L.Perm (L[i] :: L.eraseIdx i)
  | x :: L, 0, _ => List.Perm.refl _
  | x :: L, i + 1, hi => by
    have := bring_perm L i (by simpa using hi)
    simp only [List.getElem_cons_succ, List.eraseIdx_cons_succ]
    exact (this.cons x).trans (List.Perm.swap _ _ _)
theorem bringH {H : Hp} {L : Kn} (h : Has H L) (i : Nat) {x : Addr × HO} (e : L[i]? = some x) : Has H (x :: L.eraseIdx i) := by
  obtain ⟨hi, rfl⟩ := List.getElem?_eq_some_iff.mp e
  exact h.perm (bring_perm L i hi)
theorem sz {n : Nat} (h : n ≤ 1000000) : n ≤ sizeLine := Nat.le_of_lt (sizeOk h)

theorem and_if {p q : Prop} [Decidable p] [Decidable q] {A B U : Prop} (h : (if decide q = true then A else B) → U) (h1 : p → q → A) (h2 : ¬ (p ∧ q) → B) : if decide p = true then U else (if false = true then A else B) := by
  by_cases hp : p
  · refine ifT (decide_eq_true hp) (h ?_)
    by_cases hq : q
    · exact ifT (decide_eq_true hq) (h1 hp hq)
    · exact ifF (decide_eq_false hq) (h2 fun z => hq z.2)
  · exact ifF (decide_eq_false hp) (iteF (h2 fun z => hp z.1))
theorem and_if3 {p q r : Prop} [Decidable p] [Decidable q] [Decidable r] {A B U U' : Prop} (h : (if decide q = true then U' else (if false = true then A else B)) → U) (h' : (if decide r = true then A else B) → U') (h1 : p → q → r → A) (h2 : ¬ (p ∧ q ∧ r) → B) : if decide p = true then U else (if false = true then A else B) := by
  by_cases hp : p
  · exact ifT (decide_eq_true hp) (h (and_if h' (fun hq hr => h1 hp hq hr) (fun z => h2 fun w => z w.2)))
  · exact ifF (decide_eq_false hp) (iteF (h2 fun z => hp z.1))
theorem dgI {ds : List Int} (j : Int) (h0 : 0 ≤ j) (h1 : j < ds.length) : atI (ds.map V.int) j = some (.int (ds.getD j.toNat 0)) := by
  obtain ⟨i, rfl⟩ := Int.eq_ofNat_of_zero_le h0
  exact atI_nat (by
    rw [List.getElem?_map, List.getElem?_eq_getElem (show i < ds.length by omega)]
    simp [List.getD, List.getElem?_eq_getElem (show i < ds.length by omega)])
def sp_lrow : Sp := fun vs H Q _ => ∃ (d lt : Addr) (ds : List Int) (k more : Int) (many nm nc st ns : Nat) (L : Kn), vs = [.ref d, .int k, .int more, .int many, .int nm, .int nc, .ref lt] ∧ Has H L ∧ (d, HO.lst (ds.map V.int)) ∈ L ∧ (lt, HO.lst (intsF ((st : Int) + 1) (ns - (st + 1)))) ∈ L ∧ 0 ≤ k ∧ k + 3 < ds.length ∧ 1 ≤ many ∧
  ∀ H' a (y : Rw), y.ok nm nc many st ns → Has H' ((a, .tup y.v) :: L) → Q (.ref a) H'
def sp_copied : Sp := fun vs H Q _ => ∃ (s0 : Addr) (ss : Ss) (L : Kn), vs = [.ref s0] ∧ Has H L ∧ (s0, HO.lst (ssV ss)) ∈ L ∧ (∀ z ∈ ss, (z.1, HO.lst (rwV z.2)) ∈ L) ∧ ss.length ≤ 1000 ∧
  ∀ H' D (s1 : Ss) N, s1.map (·.2) = ss.map (·.2) → (∀ z ∈ s1, (z.1, HO.lst (rwV z.2)) ∈ N) → Has H' ((D, .lst (ssV s1)) :: (N ++ L)) → Q (.ref D) H'
section
variable {P : Program} {w : World} {K : PySem.W.Frag} {mg : Str → Option Value} {base : Heap} {t : Adr}
theorem scCy : FnScope ["_law_parts_here"] ["_law_parts_here"] (defScope s_copied) := ⟨rfl, rfl, rfl, by decide +kernel, rfl, by decide +kernel, by decide +kernel⟩
theorem ok_copied (T : Txt K mg t) : FnOk P w K mg base CX0 1 t.f_copied t.d_copied ["_law_parts_here"] sp_copied := by
  refine T.F_copied.ok scCy (fun vs H Q E h => ?_) (fun cdv A outer s H vs Q E hr h => ?_)
  · obtain ⟨_, _, _, rfl, _⟩ := h
    rfl
  · obtain ⟨s0, ss, L, rfl, hH, ms0, ml, hlen, q⟩ := h
    refine ⟨_, (pss_one (ps_ret (pe_lc (esc := defScope s_copied) (k := 1) ["_law_rows", "_law_parts_here"] rfl (pi_list (pv 0)) (fun _ _ _ _ _ => by exact (pg_name (i := 0) (show List.Nodup (["_law_rows", "_law_parts_here"] : List Str) from by decide +kernel) rfl (Or.inl rfl))) (fun _ _ _ _ _ => by exact pts_nil) (fun _ _ _ _ _ => by exact (pe_callTy (call_list_ofK (K := K) rfl) (by rfl) T.z_list (by rfl) (pa_cons (pv 0) pa_nil))) rfl (by decide +kernel) (by decide +kernel) rfl (by decide +kernel) (by rfl) (fun _ _ h _ => h) (by decide +kernel)))), ?_⟩
    refine ⟨_, rfl, s0, rfl, ⟨_, SqL.of (hH.at_ _ ms0)⟩, fun D hD => ?_⟩
    have inL : ∀ {H' : Hp} {N : Kn} {z c1 : Addr × HO}, Has H' (c1 :: (N ++ L)) → z ∈ L → H' z.1 = some z.2 := fun h m => h.at_ _ (List.mem_cons_of_mem _ (List.mem_append_right _ m))
    refine ⟨fun n m zs H' => ∃ (s1 : Ss) (N : Kn), m = ss.length - n ∧ n ≤ ss.length ∧ s1.map (·.2) = (ss.take n).map (·.2) ∧ zs = ssV s1 ∧ (∀ z ∈ s1, (z.1, HO.lst (rwV z.2)) ∈ N) ∧ Has H' ((D, .lst zs) :: (N ++ L)), ⟨_, [], [], rfl, Nat.zero_le _, rfl, rfl, by simp, hH.alloc hD _⟩, ?_⟩
    rintro n m zs H5 ⟨s1, N, rfl, hn, es1, rfl, hN, h5⟩
    refine ⟨h5.get 0 rfl, ?_⟩
    have g0 := inL h5 ms0
    have ls1 : s1.length = n := by
      have := congrArg List.length es1
      simp at this
      omega
    by_cases hlt : n < ss.length
    · have hx0 : (ssV ss)[n]? = some (.ref ss[n].1) := ssV_get (List.getElem?_eq_getElem hlt)
      refine .inr ⟨⟨_, _, SqL.of g0, hx0⟩, ?_⟩
      rintro x H6 ⟨rfl, hx⟩
      have e1 := hx _ (SqL.of g0)
      rw [hx0] at e1
      cases e1
      refine ⟨rfl, tTrueT ?_⟩
      refine ⟨_, rfl, ss[n].1, _, rfl, .inl (SqL.of (inL h5 (ml _ (List.getElem_mem hlt)))), fun rl hrl => ?_⟩
      have h6 := h5.alloc hrl (.lst (rwV ss[n].2))
      refine ⟨sizeOk (by unfold ssV; rw [List.length_map]; omega), h6.get 1 rfl, ss.length - (n + 1), by omega, s1 ++ [(rl, ss[n].2)], (rl, .lst (rwV ss[n].2)) :: N, rfl, hlt, ?_, ?_, ?_, ?_⟩
      · rw [List.map_append, es1, List.take_succ, List.map_append, List.getElem?_eq_getElem hlt]
        rfl
      · unfold ssV
        rw [List.map_append]
        rfl
      · intro z hz
        rcases List.mem_append.mp hz with hz | hz
        · exact List.mem_cons_of_mem _ (hN z hz)
        · cases List.mem_singleton.mp hz
          exact List.mem_cons_self
      · exact (h6.puti 1 rfl _).swap2
    · have en : n = ss.length := by omega
      rw [en, List.take_length] at es1
      exact .inl ⟨⟨_, SqL.of g0, by unfold ssV; rw [List.length_map]; omega⟩, q _ D s1 N es1 hN h5⟩
theorem scLr : FnScope ["_law_d", "_law_k", "_law_more", "_law_many", "_law_marks", "_law_counters", "_law_later", "_law_word", "_law_one", "_law_other"] ["_law_d", "_law_k", "_law_more", "_law_many", "_law_marks", "_law_counters", "_law_later"] (defScope s_row) := ⟨rfl, rfl, rfl, by decide +kernel, rfl, by decide +kernel, by decide +kernel⟩
theorem ok_row (T : Txt K mg t) : FnOk P w K mg base CX0 1 t.f_row t.d_row ["_law_d", "_law_k", "_law_more", "_law_many", "_law_marks", "_law_counters", "_law_later"] sp_lrow := by
  refine T.F_row.ok scLr (fun vs H Q E h => ?_) (fun cdv A outer s H vs Q E hr h => ?_)
  · obtain ⟨_, _, _, _, _, _, _, _, _, _, _, rfl, _⟩ := h
    rfl
  · obtain ⟨d, lt, ds, k, more, many, nm, nc, st, ns, L, rfl, hH, md, mlt, k0, k1, hmany, q⟩ := h
    have gd := hH.at_ _ md
    have gl := hH.at_ _ mlt
    dsimp only at gd gl
    refine ⟨_, (pss_cons (ps_set (i := 7) scLr.nd rfl (Or.inl rfl) (pe_op op_mod (pe_op op_add (pe_ix ix_list (pv 0) (pv 1) (fun _ _ => rfl)) (pv 2)) pe_int))
      (pss_cons (ps_set (i := 8) scLr.nd rfl (Or.inl rfl) (pe_op op_add (pe_ix ix_list (pv 0) (pe_op op_add (pv 1) pe_int) (fun _ _ => rfl)) (pe_op op_mul pe_int (pv 2))))
      (pss_cons (ps_set (i := 9) scLr.nd rfl (Or.inl rfl) (pe_op op_add (pe_ix ix_list (pv 0) (pe_op op_add (pv 1) pe_int) (fun _ _ => rfl)) (pe_op op_mul pe_int (pv 2))))
      (pss_cons (ps_if (PW.pt (pw_and (pt_cmpR op_eq (pv 7) pe_int (nomark _)) (pw_and1 (pt_cmpR op_gt (pv 4) pe_int (nomark _)))))
        (pss_one (ps_ret (pe_tup (pa_cons pe_str (pa_cons (pe_op op_mod (pv 8) (pv 4)) (pa_cons (pe_op op_add pe_int (pe_op op_mod (pv 9) pe_int)) pa_nil))))))
        pss_nil)
      (pss_cons (ps_if (PW.pt (pw_and (pt_cmpR op_lt (pv 7) pe_int (nomark _)) (pw_and (pt_cmpR op_gt (pv 7) pe_int (nomark _)) (pw_and1 (pt_cmpR op_gt (pv 4) pe_int (nomark _))))))
        (pss_one (ps_ret (pe_tup (pa_cons pe_str (pa_cons (pe_op op_mod (pv 8) (pv 4)) (pa_cons (pe_op op_mod (pv 9) (pv 3)) (pa_cons (pe_op op_mod (pe_ix ix_list (pv 0) (pe_op op_add (pv 1) pe_int) (fun _ _ => rfl)) (pv 3)) pa_nil)))))))
        pss_nil)
      (pss_cons (ps_if (PW.pt (pw_and (pt_cmpR op_lt (pv 7) pe_int (nomark _)) (pw_and (pt_cmpR op_gt (pv 7) pe_int (nomark _)) (pw_and1 (pt_cmpR op_gt (pv 5) pe_int (nomark _))))))
        (pss_one (ps_ret (pe_tup (pa_cons pe_str (pa_cons (pe_op op_mod (pv 8) (pv 5)) (pa_cons (pe_op op_mod (pv 9) (pv 3)) pa_nil))))))
        pss_nil)
      (pss_cons (ps_if (pt_cmpR op_eq (pv 7) pe_int (nomark _))
        (pss_one (ps_ret (pe_tup (pa_cons pe_str (pa_cons (pe_op op_mod (pv 8) (pv 3)) pa_nil)))))
        pss_nil)
      (pss_cons (ps_if (PW.pt (pw_and (pt_cmpR op_lt (pv 7) pe_int (nomark _)) (pw_and (pt_cmpR op_gt (pv 7) pe_int (nomark _)) (pw_and1 (pt_cmpR op_gt (pe_callB call_len_seq (by rfl) T.z_len (by rfl) (pa_cons (pv 6) pa_nil)) pe_int (nomark _))))))
        (pss_one (ps_ret (pe_tup (pa_cons pe_str (pa_cons (pe_ix ix_list (pv 6) (pe_op op_mod (pv 8) (pe_callB call_len_seq (by rfl) T.z_len (by rfl) (pa_cons (pv 6) pa_nil))) (fun _ _ => rfl)) pa_nil)))))
        pss_nil)
      (pss_cons (ps_if (pt_cmpR op_eq (pv 7) pe_int (nomark _))
        (pss_one (ps_ret (pe_tup (pa_cons pe_str pa_nil))))
        pss_nil)
      (pss_one (ps_ret (pe_tup (pa_cons pe_str (pa_cons (pe_op op_mod (pv 8) pe_int) pa_nil)))))))))))))), ?_⟩
    rw []
    refine ⟨_, rfl, _, rfl, d, _, _, _, rfl, rfl, SqL.of gd, dgI k k0 (by omega), _, rfl, _, _, rfl, rfl, _, _, rfl, rfl, (show (0 : Int) < 10 by decide), ?_⟩
    dsimp only [List.set]
    obtain ⟨wd, ewd⟩ : ∃ wd, (ds.getD k.toNat 0 + more) % 10 = wd := ⟨_, rfl⟩
    rw [ewd]
    refine ⟨_, rfl, _, rfl, _, _, rfl, rfl, d, _, _, _, rfl, rfl, SqL.of gd, dgI (k + 1) (by omega) (by omega), _, rfl, _, _, rfl, rfl, .inl ⟨by decide, by decide⟩, _, _, rfl, rfl, ?_⟩
    dsimp only [List.set]
    obtain ⟨one, eone⟩ : ∃ one, ds.getD (k + 1).toNat 0 + 7 * more = one := ⟨_, rfl⟩
    rw [eone]
    refine ⟨_, rfl, _, rfl, _, _, rfl, rfl, d, _, _, _, rfl, rfl, SqL.of gd, dgI (k + 2) (by omega) (by omega), _, rfl, _, _, rfl, rfl, .inl ⟨by decide, by decide⟩, _, _, rfl, rfl, ?_⟩
    dsimp only [List.set]
    obtain ⟨oth, eoth⟩ : ∃ oth, ds.getD (k + 2).toNat 0 + 5 * more = oth := ⟨_, rfl⟩
    rw [eoth]
    have em : ∀ (a b : Int), 0 < b → 0 ≤ a % b ∧ a % b < b := fun a b hb => ⟨Int.emod_nonneg _ (by omega), Int.emod_lt_of_pos _ hb⟩
    have hm0 : (0 : Int) < many := by omega
    refine ⟨_, rfl, rfl, _, rfl, ?_⟩
    rw [decInt]
    refine and_if (fun z => ⟨_, rfl, _, _, rfl, rfl, _, rfl, z⟩) (fun hw hp => ?_) (fun _ => ?_)
    · have hp : (0 : Int) < nm := by omega
      refine ⟨_, rfl, _, rfl, _, _, rfl, rfl, hp, _, rfl, _, _, rfl, rfl, (show (0 : Int) < 2 by decide), _, _, rfl, rfl, sz (show 3 ≤ 1000000 by decide), fun a ha => ?_⟩
      have := em one nm hp
      exact q _ a (.set (one % nm) (1 + oth % 2)) ⟨this.1, this.2, by omega⟩ (hH.alloc ha _)
    refine ⟨_, rfl, _, _, rfl, rfl, _, rfl, ?_⟩
    refine and_if3 (fun z => ⟨_, rfl, _, _, rfl, rfl, _, rfl, z⟩) (fun z => ⟨_, rfl, _, _, rfl, rfl, _, rfl, z⟩) (fun _ _ hp => ?_) (fun _ => ?_)
    · have hp : (0 : Int) < nm := by omega
      refine ⟨_, rfl, _, rfl, _, _, rfl, rfl, hp, _, rfl, _, rfl, _, _, rfl, rfl, hm0, _, rfl, _, rfl, _, _, rfl, rfl, d, _, _, _, rfl, rfl, SqL.of gd, dgI (k + 3) (by omega) (by omega), _, rfl, _, _, rfl, rfl, hm0, sz (show 4 ≤ 1000000 by decide), fun a ha => ?_⟩
      have e1 := em one nm hp
      have e2 := em oth many hm0
      have e3 := em (ds.getD (k + 3).toNat 0) many hm0
      exact q _ a (.ask (one % nm) (oth % many) (ds.getD (k + 3).toNat 0 % many)) ⟨e1.1, e1.2, e2.1, e2.2, e3.1, e3.2⟩ (hH.alloc ha _)
    refine ⟨_, rfl, _, _, rfl, rfl, _, rfl, ?_⟩
    refine and_if3 (fun z => ⟨_, rfl, _, _, rfl, rfl, _, rfl, z⟩) (fun z => ⟨_, rfl, _, _, rfl, rfl, _, rfl, z⟩) (fun _ _ hp => ?_) (fun _ => ?_)
    · have hp : (0 : Int) < nc := by omega
      refine ⟨_, rfl, _, rfl, _, _, rfl, rfl, hp, _, rfl, _, rfl, _, _, rfl, rfl, hm0, sz (show 3 ≤ 1000000 by decide), fun a ha => ?_⟩
      have e1 := em one nc hp
      have e2 := em oth many hm0
      exact q _ a (.bump (one % nc) (oth % many)) ⟨e1.1, e1.2, e2.1, e2.2⟩ (hH.alloc ha _)
    refine ⟨_, rfl, rfl, _, rfl, ?_⟩
    rw [decInt]
    refine ifd (fun _ => ?_) (fun _ => ?_)
    · refine ⟨_, rfl, _, rfl, _, _, rfl, rfl, hm0, sz (show 2 ≤ 1000000 by decide), fun a ha => ?_⟩
      have e1 := em one many hm0
      exact q _ a (.go (one % many)) e1 (hH.alloc ha _)
    refine ⟨_, rfl, _, _, rfl, rfl, _, rfl, ?_⟩
    refine and_if3 (fun z => ⟨_, rfl, _, _, rfl, rfl, _, rfl, z⟩) (fun z => ⟨_, rfl, lt, _, rfl, .inl (SqL.of gl), _, _, rfl, rfl, _, rfl, z⟩) (fun _ _ hp => ?_) (fun _ => ?_)
    · have hl : (intsF ((st : Int) + 1) (ns - (st + 1))).length = ns - (st + 1) := intsF_length _ _
      have hp : (0 : Int) < ((intsF ((st : Int) + 1) (ns - (st + 1))).length : Int) := by omega
      have e1 := em one _ hp
      obtain ⟨j, ej⟩ := Int.eq_ofNat_of_zero_le e1.1
      have hj : j < ns - (st + 1) := by omega
      refine ⟨_, rfl, _, rfl, _, rfl, lt, _, rfl, .inl (SqL.of gl), _, _, rfl, rfl, hp, lt, _, _, _, rfl, rfl, SqL.of gl, (by rw [ej]; exact atI_nat (intsF_get hj)), sz (show 2 ≤ 1000000 by decide), fun a ha => ?_⟩
      exact q _ a (.call ((st : Int) + 1 + (j : Int))) ⟨by omega, by omega⟩ (hH.alloc ha _)
    refine ⟨_, rfl, rfl, _, rfl, ?_⟩
    rw [decInt]
    refine ifd (fun _ => ?_) (fun _ => ?_)
    · refine ⟨sz (show 1 ≤ 1000000 by decide), fun a ha => ?_⟩
      exact q _ a .fin trivial (hH.alloc ha _)
    refine ⟨_, rfl, _, _, rfl, rfl, (show (0 : Int) < 10000 by decide), sz (show 2 ≤ 1000000 by decide), fun a ha => ?_⟩
    exact q _ a (.bell (one % 10000)) ⟨by omega, by omega⟩ (hH.alloc ha _)
end

end P


set_option Elab.async false
set_option linter.all false
set_option maxRecDepth 100000
set_option maxHeartbeats 4000000
namespace P
open PySem L2

theorem Rw.notLast : ∀ (x : Rw), x.last = false → (!inV (.str x.ws) [.str "ask", .str "go", .str "end"]) = true
  | .bell _, _ => (by decide +kernel : (!inV (.str ("bell" : Str)) [.str "ask", .str "go", .str "end"]) = true)
  | .set _ _, _ => (by decide +kernel : (!inV (.str ("set" : Str)) [.str "ask", .str "go", .str "end"]) = true)
  | .bump _ _, _ => (by decide +kernel : (!inV (.str ("bump" : Str)) [.str "ask", .str "go", .str "end"]) = true)
  | .call _, _ => (by decide +kernel : (!inV (.str ("call" : Str)) [.str "ask", .str "go", .str "end"]) = true)
  | .ask _ _ _, h => nomatch h
  | .go _, h => nomatch h
  | .fin, h => nomatch h
theorem ixN_last {n : Nat} (h : 1 ≤ n) : ixN n (-1) = some (n - 1) := by
  unfold ixN
  rw [if_neg (by omega), if_pos (by omega)]
  congr 1
  omega
theorem set_last {α : Type} (xs : List α) (a b : α) : (xs ++ [a]).set ((xs ++ [a]).length - 1) b = xs ++ [b] := by
  rw [List.length_append, List.length_singleton, Nat.add_sub_cancel, List.set_append_right _ _ (Nat.le_refl _), Nat.sub_self]
  rfl
def LimR (ss : Ss) : Prop := (∀ z ∈ ss, z.2.length ≤ 1000) ∧ (ss.map (·.1)).Nodup
def GoodU (nm nc S : Nat) (ss : Ss) : Prop := (∀ (k : Nat) z, ss[k]? = some z → (∀ x ∈ z.2, x.2.ok nm nc z.2.length k S) ∧ (∃ a y, z.2.getLast? = some (a, y) ∧ y.last = true) ∧ z.2.length ≤ 1000) ∧ (ss.map (·.1)).Nodup
def sp_parts : Sp := fun vs H Q _ => ∃ (d : Addr) (ds : List Int) (nm nc : Nat) (L : Kn), vs = [.ref d, .int 8, .int nm, .int nc] ∧ Has H L ∧ (d, HO.lst (ds.map V.int)) ∈ L ∧ 340 ≤ ds.length ∧
  ∀ H' pl ss N, ss ≠ [] → ss.length ≤ 1000 → Good nm nc ss → LimR ss → (∀ z ∈ ss, (z.1, HO.lst (rwV z.2)) ∈ N) → (∀ z ∈ ss, ∀ x ∈ z.2, (x.1, HO.tup x.2.v) ∈ N) → Has H' ((pl, .lst (ssV ss)) :: (N ++ L)) → Q (.ref pl) H'
theorem GoodU.snoc {nm nc S : Nat} {ss : Ss} {z : Addr × List (Addr × Rw)} (h : GoodU nm nc S ss) (h1 : ∀ x ∈ z.2, x.2.ok nm nc z.2.length ss.length S) (h2 : ∃ a y, z.2.getLast? = some (a, y) ∧ y.last = true) (h3 : z.2.length ≤ 1000) (h4 : ∀ x ∈ ss, x.1 ≠ z.1) : GoodU nm nc S (ss ++ [z]) := by
  refine ⟨?_, by
    rw [List.map_append, List.nodup_append]
    exact ⟨h.2, by simp, fun a ha b hb => by obtain ⟨x, hx, rfl⟩ := List.mem_map.mp ha; cases List.mem_singleton.mp hb; exact h4 x hx⟩⟩
  intro k y hy
  by_cases hk : k < ss.length
  · rw [List.getElem?_append_left hk] at hy
    exact h.1 k y hy
  · rw [List.getElem?_append_right (by omega)] at hy
    cases hj : k - ss.length with
    | zero =>
      rw [hj] at hy
      cases hy
      have : k = ss.length := by omega
      subst this
      exact ⟨h1, h2, h3⟩
    | succ j => rw [hj] at hy; simp at hy
section
variable {P : Program} {w : World} {K : PySem.W.Frag} {mg : Str → Option Value} {base : Heap} {t : Adr}
theorem scLp : FnScope ["_law_d", "_law_at", "_law_marks", "_law_counters", "_law_stretches", "_law_low", "_law_size", "_law_parts_here", "_law_slot", "_law_stretch", "_law_many", "_law_rows", "_law_row_here", "_law_k"] ["_law_d", "_law_at", "_law_marks", "_law_counters"] (defScope s_parts) := ⟨rfl, rfl, rfl, by decide +kernel, rfl, by decide +kernel, by decide +kernel⟩
theorem ok_parts (T : Txt K mg t) : FnOk P w K mg base CX0 2 t.f_parts t.d_parts ["_law_d", "_law_at", "_law_marks", "_law_counters"] sp_parts := by
  refine T.F_parts.ok scLp (fun vs H Q E h => ?_) (fun cdv A outer s H vs Q E hr h => ?_)
  · obtain ⟨_, _, _, _, _, rfl, _⟩ := h
    rfl
  · obtain ⟨d, ds, nm, nc, L, rfl, hH, md, hds, q⟩ := h
    have gd := hH.at_ _ md
    dsimp only at gd
    refine ⟨_, (pss_cons (ps_asg (pe_ix ix_list (pe_lst (@pa_cons _ _ _ _ _ (pe_tup (pa_cons (pe_op op_add pe_int (pe_op op_mod (pe_ix ix_list (pv 0) (pv 1) (fun _ _ => rfl)) pe_int)) (pa_cons pe_int (pa_cons pe_int pa_nil)))) (@pa_cons _ _ _ _ _ (pe_tup (pa_cons pe_int (pa_cons pe_int (pa_cons pe_int pa_nil)))) (@pa_cons _ _ _ _ _ (pe_tup (pa_cons (pe_op op_add pe_int (pe_op op_mod (pe_ix ix_list (pv 0) (pv 1) (fun _ _ => rfl)) pe_int)) (pa_cons pe_int (pa_cons pe_int pa_nil)))) (@pa_cons _ _ _ _ _ (pe_tup (pa_cons pe_int (pa_cons pe_int (pa_cons pe_int pa_nil)))) (@pa_cons _ _ _ _ _ (pe_tup (pa_cons pe_int (pa_cons pe_int (pa_cons pe_int pa_nil)))) (@pa_cons _ _ _ _ _ (pe_tup (pa_cons (pe_op op_add pe_int (pe_op op_mod (pe_ix ix_list (pv 0) (pv 1) (fun _ _ => rfl)) pe_int)) (pa_cons pe_int (pa_cons pe_int pa_nil)))) (@pa_cons _ _ _ _ _ (pe_tup (pa_cons (pe_op op_add pe_int (pe_op op_mod (pe_ix ix_list (pv 0) (pv 1) (fun _ _ => rfl)) pe_int)) (pa_cons pe_int (pa_cons pe_int pa_nil)))) (@pa_cons _ _ _ _ _ (pe_tup (pa_cons (pe_op op_add pe_int (pe_op op_mod (pe_ix ix_list (pv 0) (pv 1) (fun _ _ => rfl)) pe_int)) (pa_cons pe_int (pa_cons pe_int pa_nil)))) pa_nil (by rfl)) (by rfl)) (by rfl)) (by rfl)) (by rfl)) (by rfl)) (by rfl)) (by rfl))) (pe_op op_mod (pe_op op_fdiv (pe_ix ix_list (pv 0) (pv 1) (fun _ _ => rfl)) pe_int) pe_int) (fun _ _ => rfl)) (pg_tup rfl (pgs_cons (pg_name (i := 4) scLp.nd rfl (Or.inl rfl)) (pgs_cons (pg_name (i := 5) scLp.nd rfl (Or.inl rfl)) (pgs_cons (pg_name (i := 6) scLp.nd rfl (Or.inl rfl)) pgs_nil)))))
      (pss_cons (ps_set (i := 7) scLp.nd rfl (Or.inl rfl) (pe_lst pa_nil))
      (pss_cons (ps_set (i := 8) scLp.nd rfl (Or.inl rfl) pe_int)
      (pss_cons (ps_for PassesOwn.never rfl (pi_range1 (by rfl) T.z_range (pa_cons (pv 4) pa_nil)) (pg_name (i := 9) scLp.nd rfl (Or.inl rfl))
        (pss_cons (ps_set (i := 10) scLp.nd rfl (Or.inl rfl) (pe_op op_add (pv 5) (pe_op op_mod (pe_op op_add (pe_ix ix_list (pv 0) (pe_op op_add (pe_op op_add (pv 1) pe_int) (pe_op op_mod (pv 9) pe_int)) (fun _ _ => rfl)) (pe_op op_fdiv (pv 9) pe_int)) (pv 6))))
          (pss_cons (ps_set (i := 11) scLp.nd rfl (Or.inl rfl) (pe_lst pa_nil))
          (pss_cons (ps_for PassesOwn.never rfl (pi_range1 (by rfl) T.z_range (pa_cons (pv 10) pa_nil)) (pg_name (i := 12) scLp.nd rfl (Or.inl rfl))
            (pss_cons (ps_set (i := 13) scLp.nd rfl (Or.inl rfl) (pe_op op_add (pe_op op_add (pv 1) pe_int) (pe_op op_mul pe_int (pe_op op_mod (pv 8) pe_int))))
              (pss_cons (ps_expr (pe_bm PySem.F.plainAttrs_list PySem.F.slot_list_append PySem.F.type_list_append mt_append (pv 11) (pa_cons (pe_call (ok_row T) (hr.mono (by decide)) (by rfl) T.m_row T.F_row.kp (b_row T) .nil pass0 (pa_cons (pv 0) (pa_cons (pv 13) (pa_cons (pe_op op_fdiv (pv 8) pe_int) (pa_cons (pv 10) (pa_cons (pv 2) (pa_cons (pv 3) (pa_cons (pe_callTy (call_list_rng2 rfl) (by rfl) T.z_list (by rfl) (pa_cons (pe_callTy call_range2 (by rfl) T.z_range (by rfl) (pa_cons (pe_op op_add (pv 9) pe_int) (pa_cons (pv 4) pa_nil))) pa_nil)) pa_nil)))))))) pa_nil)))
              (pss_one (ps_set (i := 8) scLp.nd rfl (Or.inl rfl) (pe_op op_add (pv 8) pe_int))))))
          (pss_cons (ps_if (pt_cmpR op_notIn_seq (pe_ix ix_tup (pe_ix ix_list (pv 11) (pe_un un_neg pe_int) (fun _ _ => rfl)) pe_int (fun _ _ => rfl)) (pe_tup (pa_cons pe_str (pa_cons pe_str (pa_cons pe_str pa_nil)))) (by rfl))
            (pss_one (ps_asg (pe_tup (pa_cons pe_str pa_nil)) (pg_sub (pv 11) (pe_un un_neg pe_int) set_list)))
            pss_nil)
          (pss_one (ps_expr (pe_bm PySem.F.plainAttrs_list PySem.F.slot_list_append PySem.F.type_list_append mt_append (pv 7) (pa_cons (pv 11) pa_nil)))))))))
      (pss_one (ps_ret (pv 7))))))), ?_⟩
    rw []
    have a8 : atI (ds.map V.int) 8 = some (.int (ds.getD (8 : Int).toNat 0)) := dgI 8 (by decide) (by omega)
    obtain ⟨x8, ex8⟩ : ∃ x8, ds.getD (8 : Int).toNat 0 = x8 := ⟨_, rfl⟩
    rw [ex8] at a8
    obtain ⟨v4, ev4⟩ : ∃ v : Nat, 1 + x8 % 4 = (v : Int) := Int.eq_ofNat_of_zero_le (by omega)
    obtain ⟨v3, ev3⟩ : ∃ v : Nat, 1 + x8 % 3 = (v : Int) := Int.eq_ofNat_of_zero_le (by omega)
    refine ⟨_, rfl, _, rfl, d, _, _, _, rfl, rfl, SqL.of gd, a8, _, _, rfl, rfl, (show (0 : Int) < 4 by decide), _, _, rfl, rfl, sz (show 3 ≤ 1000000 by decide), fun p1 hp1 => ?_⟩
    have h1 := hH.alloc hp1 (.tup [.int (1 + x8 % 4), .int 1, .int 6])
    refine ⟨sz (show 3 ≤ 1000000 by decide), fun p2 hp2 => ?_⟩
    have h2 := h1.alloc hp2 (.tup [.int 8, .int 1, .int 10])
    have gd2 : _ = _ := h2.at_ _ (List.mem_cons_of_mem _ (List.mem_cons_of_mem _ md))
    dsimp only at gd2
    refine ⟨_, rfl, _, rfl, d, _, _, _, rfl, rfl, SqL.of gd2, a8, _, _, rfl, rfl, (show (0 : Int) < 3 by decide), _, _, rfl, rfl, sz (show 3 ≤ 1000000 by decide), fun p3 hp3 => ?_⟩
    have h3 := h2.alloc hp3 (.tup [.int (1 + x8 % 3), .int 11, .int 30])
    refine ⟨sz (show 3 ≤ 1000000 by decide), fun p4 hp4 => ?_⟩
    have h4 := h3.alloc hp4 (.tup [.int 40, .int 1, .int 2])
    refine ⟨sz (show 3 ≤ 1000000 by decide), fun p5 hp5 => ?_⟩
    have h5 := h4.alloc hp5 (.tup [.int 1, .int 41, .int 60])
    have gd5 := h5.at_ _ (List.mem_cons_of_mem _ (List.mem_cons_of_mem _ (List.mem_cons_of_mem _ (List.mem_cons_of_mem _ (List.mem_cons_of_mem _ md)))))
    dsimp only at gd5
    refine ⟨_, rfl, _, rfl, d, _, _, _, rfl, rfl, SqL.of gd5, a8, _, _, rfl, rfl, (show (0 : Int) < 4 by decide), _, _, rfl, rfl, sz (show 3 ≤ 1000000 by decide), fun p6 hp6 => ?_⟩
    have h6 := h5.alloc hp6 (.tup [.int (1 + x8 % 4), .int 1, .int 6])
    have gd6 := h6.at_ _ (List.mem_cons_of_mem _ (List.mem_cons_of_mem _ (List.mem_cons_of_mem _ (List.mem_cons_of_mem _ (List.mem_cons_of_mem _ (List.mem_cons_of_mem _ md))))))
    dsimp only at gd6
    refine ⟨_, rfl, _, rfl, d, _, _, _, rfl, rfl, SqL.of gd6, a8, _, _, rfl, rfl, (show (0 : Int) < 4 by decide), _, _, rfl, rfl, sz (show 3 ≤ 1000000 by decide), fun p7 hp7 => ?_⟩
    have h7 := h6.alloc hp7 (.tup [.int (1 + x8 % 4), .int 1, .int 6])
    have gd7 := h7.at_ _ (List.mem_cons_of_mem _ (List.mem_cons_of_mem _ (List.mem_cons_of_mem _ (List.mem_cons_of_mem _ (List.mem_cons_of_mem _ (List.mem_cons_of_mem _ (List.mem_cons_of_mem _ md)))))))
    dsimp only at gd7
    refine ⟨_, rfl, _, rfl, d, _, _, _, rfl, rfl, SqL.of gd7, a8, _, _, rfl, rfl, (show (0 : Int) < 4 by decide), _, _, rfl, rfl, sz (show 3 ≤ 1000000 by decide), fun p8 hp8 => ?_⟩
    have h8 := h7.alloc hp8 (.tup [.int (1 + x8 % 4), .int 1, .int 6])
    refine ⟨sz (show 8 ≤ 1000000 by decide), fun lp hlp => ?_⟩
    have h9 := h8.alloc hlp (.lst [.ref p1, .ref p2, .ref p3, .ref p4, .ref p5, .ref p6, .ref p7, .ref p8])
    have h10 := h9.sub (List.sublist_append_right [(lp, HO.lst [.ref p1, .ref p2, .ref p3, .ref p4, .ref p5, .ref p6, .ref p7, .ref p8]), (p8, .tup [.int (1 + x8 % 4), .int 1, .int 6]), (p7, .tup [.int (1 + x8 % 4), .int 1, .int 6]), (p6, .tup [.int (1 + x8 % 4), .int 1, .int 6]), (p5, .tup [.int 1, .int 41, .int 60]), (p4, .tup [.int 40, .int 1, .int 2]), (p3, .tup [.int (1 + x8 % 3), .int 11, .int 30]), (p2, .tup [.int 8, .int 1, .int 10]), (p1, .tup [.int (1 + x8 % 4), .int 1, .int 6])] L)
    dsimp only [List.set] at h9 h10 ⊢
    have gd9 := h10.at_ _ md
    dsimp only at gd9
    obtain ⟨pi, S, lo, sz0, hat, hpi, hS1, hS2, hlo1, hlo2, hz1, hz2⟩ : ∃ (pi : Addr) (S lo sz0 : Nat), atI [V.ref p1, .ref p2, .ref p3, .ref p4, .ref p5, .ref p6, .ref p7, .ref p8] (x8 / 4 % 8) = some (.ref pi) ∧ (pi, HO.tup [.int S, .int lo, .int sz0]) ∈ [(lp, HO.lst [.ref p1, .ref p2, .ref p3, .ref p4, .ref p5, .ref p6, .ref p7, .ref p8]), (p8, .tup [.int (1 + x8 % 4), .int 1, .int 6]), (p7, .tup [.int (1 + x8 % 4), .int 1, .int 6]), (p6, .tup [.int (1 + x8 % 4), .int 1, .int 6]), (p5, .tup [.int 1, .int 41, .int 60]), (p4, .tup [.int 40, .int 1, .int 2]), (p3, .tup [.int (1 + x8 % 3), .int 11, .int 30]), (p2, .tup [.int 8, .int 1, .int 10]), (p1, .tup [.int (1 + x8 % 4), .int 1, .int 6])] ++ L ∧ 1 ≤ S ∧ S ≤ 40 ∧ 1 ≤ lo ∧ lo ≤ 41 ∧ 1 ≤ sz0 ∧ sz0 ≤ 60 := by
      rw [ev4, ev3]
      have c : x8 / 4 % 8 = 0 ∨ x8 / 4 % 8 = 1 ∨ x8 / 4 % 8 = 2 ∨ x8 / 4 % 8 = 3 ∨ x8 / 4 % 8 = 4 ∨ x8 / 4 % 8 = 5 ∨ x8 / 4 % 8 = 6 ∨ x8 / 4 % 8 = 7 := by omega
      rcases c with c | c | c | c | c | c | c | c <;> rw [c]
      · exact ⟨p1, v4, 1, 6, rfl, by simp, by omega, by omega, by omega, by omega, by omega, by omega⟩
      · exact ⟨p2, 8, 1, 10, rfl, by simp, by omega, by omega, by omega, by omega, by omega, by omega⟩
      · exact ⟨p3, v3, 11, 30, rfl, by simp, by omega, by omega, by omega, by omega, by omega, by omega⟩
      · exact ⟨p4, 40, 1, 2, rfl, by simp, by omega, by omega, by omega, by omega, by omega, by omega⟩
      · exact ⟨p5, 1, 41, 60, rfl, by simp, by omega, by omega, by omega, by omega, by omega, by omega⟩
      · exact ⟨p6, v4, 1, 6, rfl, by simp, by omega, by omega, by omega, by omega, by omega, by omega⟩
      · exact ⟨p7, v4, 1, 6, rfl, by simp, by omega, by omega, by omega, by omega, by omega, by omega⟩
      · exact ⟨p8, v4, 1, 6, rfl, by simp, by omega, by omega, by omega, by omega, by omega, by omega⟩
    refine ⟨_, rfl, _, rfl, d, _, _, _, rfl, rfl, SqL.of gd9, a8, _, _, rfl, rfl, ⟨by decide, by decide⟩, _, _, rfl, rfl, (show (0 : Int) < 8 by decide), lp, _, _, _, rfl, rfl, SqL.of (h9.get 0 rfl), hat, pi, _, rfl, SqT.of (h9.at_ _ hpi), rfl, _, _, rfl, _, _, rfl, _, _, rfl, rfl, ?_⟩
    refine ⟨sz (show 0 ≤ 1000000 by decide), fun pl hpl => ?_⟩
    have h11 := h10.alloc hpl (.lst [])
    clear h1 h2 h3 h4 h5 h6 h7 h8 h9 hpi hat gd2 gd5 gd6 gd7 gd9
    have em : ∀ (a b : Int), 0 < b → 0 ≤ a % b ∧ a % b < b := fun a b hb => ⟨Int.emod_nonneg _ (by omega), Int.emod_lt_of_pos _ hb⟩
    refine ⟨_, rfl, _, rfl, by omega, by omega, for_range (fun i σ H' => ∃ (o9 o10 o11 o12 o13 : Option V) (slot : Int) (ss : Ss) (N : Kn), σ = [some (.ref d), some (.int 8), some (.int nm), some (.int nc), some (.int S), some (.int lo), some (.int sz0), some (.ref pl), some (.int slot), o9, o10, o11, o12, o13] ∧ ss.length = i ∧ GoodU nm nc S ss ∧ (∀ z ∈ ss, (z.1, HO.lst (rwV z.2)) ∈ N) ∧ (∀ z ∈ ss, ∀ x ∈ z.2, (x.1, HO.tup x.2.v) ∈ N) ∧ Has H' ((pl, .lst (ssV ss)) :: (N ++ L))) ⟨none, none, none, none, none, 0, [], [], rfl, rfl, ⟨fun k z hz => by simp at hz, by simp⟩, by simp, by simp, h11⟩ ?_ ?_⟩
    · clear h11 h10
      rintro i σ H2 hi ⟨o9, o10, o11, o12, o13, slot, ss, N, rfl, hl, hg, hz, hx, h2⟩
      have hi : i < S := by omega
      rw [Int.zero_add]
      show tSeq _ _ _ _ _
      dsimp only [List.set]
      have inL : ∀ {H' : Hp} {z c1 : Addr × HO} {N : Kn}, Has H' (c1 :: (N ++ L)) → z ∈ L → H' z.1 = some z.2 := fun h m => h.at_ _ (List.mem_cons_of_mem _ (List.mem_append_right _ m))
      have g2 := inL h2 md
      dsimp only at g2
      have i8 := em (i : Int) 8 (by decide)
      refine ⟨_, rfl, _, rfl, _, rfl, _, _, rfl, rfl, _, rfl, _, _, rfl, rfl, (show (0 : Int) < 8 by decide), _, _, rfl, rfl, d, _, _, _, rfl, rfl, SqL.of g2, dgI (8 + 1 + (i : Int) % 8) (by omega) (by omega), _, rfl, _, _, rfl, rfl, ⟨by decide, by decide⟩, _, _, rfl, rfl, _, rfl, _, _, rfl, rfl, (show (0 : Int) < sz0 by omega), _, _, rfl, rfl, ?_⟩
      dsimp only [List.set]
      obtain ⟨many, emany⟩ : ∃ many : Nat, (lo : Int) + (ds.getD (8 + 1 + (i : Int) % 8).toNat 0 + (i : Int) / 8) % sz0 = (many : Int) := Int.eq_ofNat_of_zero_le (by have := em (ds.getD (8 + 1 + (i : Int) % 8).toNat 0 + (i : Int) / 8) sz0 (by omega); omega)
      have hmany : 1 ≤ many ∧ many ≤ 101 := by have := em (ds.getD (8 + 1 + (i : Int) % 8).toNat 0 + (i : Int) / 8) sz0 (by omega); omega
      rw [emany]
      refine ⟨sz (show 0 ≤ 1000000 by decide), fun rl hrl => ?_⟩
      dsimp only [List.set]
      have h3 := h2.alloc hrl (.lst [])
      refine ⟨_, rfl, _, rfl, by omega, by omega, for_range (fun j σ H' => ∃ (o12 o13 : Option V) (slot : Int) (rs : List (Addr × Rw)) (N' : Kn), σ = [some (.ref d), some (.int 8), some (.int nm), some (.int nc), some (.int S), some (.int lo), some (.int sz0), some (.ref pl), some (.int slot), some (.int i), some (.int many), some (.ref rl), o12, o13] ∧ rs.length = j ∧ (∀ x ∈ rs, x.2.ok nm nc many i S) ∧ (∀ x ∈ rs, (x.1, HO.tup x.2.v) ∈ N') ∧ Has H' ((rl, .lst (rwV rs)) :: (N' ++ ((pl, .lst (ssV ss)) :: (N ++ L))))) ⟨_, _, slot, [], [], rfl, rfl, by simp, by simp, h3⟩ ?_ ?_⟩
      · clear h3
        rintro j σ H3 hj ⟨o12, o13, slot, rs, N', rfl, hrl2, hok, hin, h3⟩
        have hj : j < many := by omega
        show tSeq _ _ _ _ _
        dsimp only [List.set]
        have s80 := em slot 80 (by decide)
        refine ⟨_, rfl, _, _, rfl, rfl, _, rfl, _, _, rfl, rfl, (show (0 : Int) < 80 by decide), _, _, rfl, rfl, .inl ⟨by decide, by decide⟩, _, _, rfl, rfl, ?_⟩
        dsimp only [List.set]
        refine ⟨_, rfl, .inl ⟨rfl, _, SqL.of (h3.get 0 rfl)⟩, _, rfl, _, rfl, _, rfl, _, _, rfl, rfl, ⟨by decide, by decide⟩, _, rfl, _, rfl, _, rfl, _, rfl, _, _, rfl, rfl, _, rfl, _, _, rfl, fun p hp => ?_⟩
        have h4 := h3.alloc hp (.rng ((i : Int) + 1) S)
        refine ⟨p, _, _, rfl, h4.get 0 rfl, by omega, by omega, by omega, by omega, fun lt hlt => ?_⟩
        have h5 := h4.alloc hlt (.lst (intsF ((i : Int) + 1) ((S : Int) - ((i : Int) + 1)).toNat))
        refine ⟨d, lt, ds, _, _, many, nm, nc, i, S, _, rfl, h5, List.mem_cons_of_mem _ (List.mem_cons_of_mem _ (List.mem_cons_of_mem _ (List.mem_append_right _ (List.mem_cons_of_mem _ (List.mem_append_right _ md))))), (by rw [show S - (i + 1) = ((S : Int) - ((i : Int) + 1)).toNat by omega]; exact List.mem_cons_self), (by omega), (by omega), hmany.1, fun H6 a y hy h6 => ?_⟩
        refine ⟨rl, _, _, rfl, rfl, h6.get 3 rfl, sizeOk (by unfold rwV; rw [List.length_map]; omega), ?_⟩
        have h7 := h6.puti 3 rfl (.lst (rwV rs ++ [.ref a]))
        have h8 := bringH h7 3 rfl
        refine ⟨_, rfl, _, _, rfl, rfl, ?_⟩
        dsimp only [List.set]
        refine ⟨_, _, slot + 1, rs ++ [(a, y)], (a, .tup y.v) :: (lt, .lst (intsF ((i : Int) + 1) ((S : Int) - ((i : Int) + 1)).toNat)) :: (p, .rng ((i : Int) + 1) S) :: N', rfl, by simp [hrl2], ?_, ?_, ?_⟩
        · intro x hx
          rcases List.mem_append.mp hx with hx | hx
          · exact hok x hx
          · cases List.mem_singleton.mp hx
            exact hy
        · intro x hx
          rcases List.mem_append.mp hx with hx | hx
          · exact List.mem_cons_of_mem _ (List.mem_cons_of_mem _ (List.mem_cons_of_mem _ (hin x hx)))
          · cases List.mem_singleton.mp hx
            exact List.mem_cons_self
        · have e : rwV (rs ++ [(a, y)]) = rwV rs ++ [.ref a] := by unfold rwV; rw [List.map_append]; rfl
          rw [e]
          exact h8
      · clear h3
        rintro σ H3 hP
        rw [Int.toNat_natCast] at hP
        obtain ⟨o12, o13, slot, rs, N', rfl, hrl2, hok, hin, h3⟩ := hP
        have fin : ∀ {H4 : Hp} (rs1 : List (Addr × Rw)) (N1 : Kn), rs1.length = many → (∀ x ∈ rs1, x.2.ok nm nc many i S) → (∀ x ∈ rs1, (x.1, HO.tup x.2.v) ∈ N1) → (∃ a y, rs1.getLast? = some (a, y) ∧ y.last = true) → Has H4 ((rl, .lst (rwV rs1)) :: (N1 ++ ((pl, .lst (ssV ss)) :: (N ++ L)))) →
            ∃ (N2 : Kn), (∀ z ∈ ss ++ [(rl, rs1)], (z.1, HO.lst (rwV z.2)) ∈ N2) ∧ (∀ z ∈ ss ++ [(rl, rs1)], ∀ x ∈ z.2, (x.1, HO.tup x.2.v) ∈ N2) ∧ GoodU nm nc S (ss ++ [(rl, rs1)]) ∧ H4 pl = some (.lst (ssV ss)) ∧ Has (upd H4 pl (.lst (ssV ss ++ [.ref rl]))) ((pl, .lst (ssV (ss ++ [(rl, rs1)]))) :: (N2 ++ L)) := by
          intro H4 rs1 N1 l1 ok1 in1 la1 h4
          have h5 := Has.comm (X := (rl, HO.lst (rwV rs1)) :: N1) (Y := [(pl, HO.lst (ssV ss))]) h4
          have h6 := h5.puti 0 rfl (.lst (ssV ss ++ [.ref rl]))
          refine ⟨((rl, HO.lst (rwV rs1)) :: N1) ++ N, ?_, ?_, hg.snoc (by rw [hl, l1]; exact ok1) la1 (by rw [l1]; omega) (fun x hx e => by
            have := (List.nodup_cons.mp h4.nd).1
            exact this (by
              rw [show rl = x.1 from e.symm]
              exact List.mem_map_of_mem (f := (·.1)) (List.mem_append_right _ (List.mem_cons_of_mem _ (List.mem_append_left _ (hz x hx)))))), h5.get 0 rfl, ?_⟩
          · intro z hz1
            rcases List.mem_append.mp hz1 with hz1 | hz1
            · exact List.mem_append_right _ (hz z hz1)
            · cases List.mem_singleton.mp hz1
              exact List.mem_append_left _ List.mem_cons_self
          · intro z hz1 x hx1
            rcases List.mem_append.mp hz1 with hz1 | hz1
            · exact List.mem_append_right _ (hx z hz1 x hx1)
            · cases List.mem_singleton.mp hz1
              exact List.mem_append_left _ (List.mem_cons_of_mem _ (in1 x hx1))
          · have e : ssV (ss ++ [(rl, rs1)]) = ssV ss ++ [.ref rl] := by unfold ssV; rw [List.map_append]; rfl
            rw [e, List.append_assoc]
            exact h6
        obtain ⟨⟨la, ly⟩, hla⟩ : ∃ z, rs.getLast? = some z := by
          cases e : rs.getLast? with
          | none => rw [List.getLast?_eq_none_iff] at e; rw [e] at hrl2; simp at hrl2; omega
          | some z => exact ⟨z, rfl⟩
        obtain ⟨rs', ers⟩ := List.getLast?_eq_some_iff.mp hla
        have eV : rwV rs = rwV rs' ++ [.ref la] := by rw [ers]; unfold rwV; rw [List.map_append]; rfl
        have mla : (la, ly) ∈ rs := by rw [ers]; simp
        have g1 := h3.get 0 rfl
        rw [eV] at g1
        have g2 := h3.at_ (la, _) (List.mem_cons_of_mem _ (List.mem_append_left _ (hin _ mla)))
        dsimp only at g2
        have lss : (ssV ss).length ≤ 1000 := by unfold ssV; rw [List.length_map]; omega
        refine ⟨_, rfl, 1, rfl, rl, _, _, _, rfl, rfl, SqL.of g1, atI_last _ _, la, _, _, _, rfl, rfl, SqT.of g2, atI_nat (j := 0) rfl, sz (show 3 ≤ 1000000 by decide), fun wt hwt => ?_⟩
        have h4 := h3.alloc hwt (.tup [.str "ask", .str "go", .str "end"])
        refine ⟨wt, _, rfl, .inr (SqT.of (h4.get 0 rfl)), rfl, rfl, _, rfl, ?_⟩
        cases hlast : ly.last with
        | true =>
          refine ifF (ly.lastIn hlast) ?_
          obtain ⟨N2, f1, f2, f3, f4, f5⟩ := fin rs N' hrl2 hok hin ⟨la, ly, hla, hlast⟩ h4.tail
          exact ⟨_, rfl, .inl ⟨rfl, _, SqL.of f4⟩, _, rfl, pl, _, _, rfl, rfl, f4, sizeOk (by omega), _, _, _, _, _, slot, ss ++ [(rl, rs)], N2, rfl, by simp [hl], f3, f1, f2, f5⟩
        | false =>
          refine ifT (ly.notLast hlast) ?_
          refine ⟨sz (show 1 ≤ 1000000 by decide), fun e he => ?_⟩
          have h5 := h4.alloc he (.tup (Rw.fin).v)
          have lrs : (rwV rs).length = many := by unfold rwV; rw [List.length_map]; exact hrl2
          refine ⟨_, rfl, 1, rfl, rl, _, _, _, rfl, rfl, h5.get 2 rfl, ixN_last (by omega), ?_⟩
          have h6 := h5.puti 2 rfl (.lst ((rwV rs).set ((rwV rs).length - 1) (.ref e)))
          have eS : (rwV rs).set ((rwV rs).length - 1) (.ref e) = rwV (rs' ++ [(e, Rw.fin)]) := by
            rw [eV, set_last]
            unfold rwV
            rw [List.map_append]
            rfl
          rw [eS] at h6
          rw [eS]
          have h7 := bringH h6 2 rfl
          have l1 : (rs' ++ [(e, Rw.fin)]).length = many := by rw [← hrl2, ers]; simp
          obtain ⟨N2, f1, f2, f3, f4, f5⟩ := fin (rs' ++ [(e, Rw.fin)]) ((e, .tup (Rw.fin).v) :: (wt, .tup [.str "ask", .str "go", .str "end"]) :: N') l1 (by
            intro x hx
            rcases List.mem_append.mp hx with hx | hx
            · exact hok x (by rw [ers]; exact List.mem_append_left _ hx)
            · cases List.mem_singleton.mp hx
              trivial) (by
            intro x hx
            rcases List.mem_append.mp hx with hx | hx
            · exact List.mem_cons_of_mem _ (List.mem_cons_of_mem _ (hin x (by rw [ers]; exact List.mem_append_left _ hx)))
            · cases List.mem_singleton.mp hx
              exact List.mem_cons_self) ⟨e, .fin, by simp, rfl⟩ h7
          exact ⟨_, rfl, .inl ⟨rfl, _, SqL.of f4⟩, _, rfl, pl, _, _, rfl, rfl, f4, sizeOk (by omega), _, _, _, _, _, slot, ss ++ [(rl, rs' ++ [(e, Rw.fin)])], N2, rfl, by simp [hl], f3, f1, f2, f5⟩
    · rintro σ H2 hP
      rw [Int.toNat_natCast] at hP
      obtain ⟨o9, o10, o11, o12, o13, slot, ss, N, rfl, hl, hg, hz, hx, h2⟩ := hP
      exact ⟨_, rfl, q _ pl ss N (by intro e; rw [e] at hl; simp at hl; omega) (by omega) (fun k z hk => by rw [hl]; exact ⟨(hg.1 k z hk).1, (hg.1 k z hk).2.1⟩) ⟨fun z hz => by obtain ⟨k, hk⟩ := List.getElem?_of_mem hz; exact (hg.1 k z hk).2.2, hg.2⟩ hz hx h2⟩
end

end P


set_option Elab.async false
set_option linter.all false
set_option maxRecDepth 100000
set_option maxHeartbeats 4000000
namespace P
open PySem L2

def sp_program : Sp := fun vs H Q _ => ∃ (d : Addr) (ds : List Int) (L : Kn), vs = [.ref d] ∧ Has H L ∧ (d, HO.lst (ds.map V.int)) ∈ L ∧ 340 ≤ ds.length ∧
  ∀ H' tp m w pl (ms ws : List Int) (ss : Ss) (N : Kn), (∀ x ∈ ms, x = 1 ∨ x = 2) → (∀ x ∈ ws, 1 ≤ x ∧ x ≤ 8) → ms.length ≤ 30 → ws.length ≤ 30 → ss ≠ [] → ss.length ≤ 1000 → Good ms.length ws.length ss → LimR ss → (∀ z ∈ ss, (z.1, HO.lst (rwV z.2)) ∈ N) → (∀ z ∈ ss, ∀ x ∈ z.2, (x.1, HO.tup x.2.v) ∈ N) →
    Has H' ((tp, .tup [.ref m, .ref w, .ref pl]) :: (pl, .lst (ssV ss)) :: (N ++ ((w, .lst (ws.map V.int)) :: (m, .lst (ms.map V.int)) :: L))) → Q (.ref tp) H'
theorem ifSet {c : Bool} {v : V} {i : Nat} {D : Ends} {σ : St} {H : Hp} (h : ∀ τ, (τ = σ.set i (some v) ∨ τ = σ) → D.nx τ H) : if c = true then tAsg (tC v) (gName i) D σ H else tNext D σ H := by
  cases c
  · exact iteF (h σ (.inr rfl))
  · exact iteT (h _ (.inl rfl))
section
variable {P : Program} {w : World} {K : PySem.W.Frag} {mg : Str → Option Value} {base : Heap} {t : Adr}
theorem scLg : FnScope ["_law_d", "_law_many", "_law_marks", "_law_widths", "_law_turn", "_law_width"] ["_law_d"] (defScope s_program) := ⟨rfl, rfl, rfl, by decide +kernel, rfl, by decide +kernel, by decide +kernel⟩
theorem ok_program (T : Txt K mg t) : FnOk P w K mg base CX0 3 t.f_program t.d_program ["_law_d"] sp_program := by
  refine T.F_program.ok scLg (fun vs H Q E h => ?_) (fun cdv A outer s H vs Q E hr h => ?_)
  · obtain ⟨_, _, _, rfl, _⟩ := h
    rfl
  · obtain ⟨d, ds, L, rfl, hH, md, hds, q⟩ := h
    have gd := hH.at_ _ md
    dsimp only at gd
    refine ⟨_, (pss_cons (ps_set (i := 1) scLg.nd rfl (Or.inl rfl) (pe_op op_mod (pe_ix ix_list (pv 0) pe_int (fun _ _ => rfl)) pe_int))
      (pss_cons (ps_if (pt_cmpR op_eq (pe_op op_mod (pe_op op_fdiv (pe_ix ix_list (pv 0) pe_int (fun _ _ => rfl)) pe_int) pe_int) pe_int (nomark _))
        (pss_one (ps_set (i := 1) scLg.nd rfl (Or.inl rfl) pe_int))
        pss_nil)
      (pss_cons (ps_setC (ix := 2) scLg.nd rfl (Or.inl rfl) (esc := defScope s_program) (k := 1) ["_law_turn", "_law_d", "_law_many", "_law_marks", "_law_widths", "_law_turn'", "_law_width"] rfl (pi_range1 (by rfl) T.z_range (pa_cons (pv 1) pa_nil)) (fun _ _ _ _ _ => by exact (pg_name (i := 0) (show List.Nodup (["_law_turn", "_law_d", "_law_many", "_law_marks", "_law_widths", "_law_turn'", "_law_width"] : List Str) from by decide +kernel) rfl (Or.inl rfl))) (fun _ _ _ _ _ => by exact pts_nil) (fun _ _ _ _ _ => by exact (pe_op op_add pe_int (pe_op op_mod (pe_ix (ix_listK (K := K) rfl) (pv 1) (pe_op op_add pe_int (pv 0)) (fun _ _ => rfl)) pe_int))) rfl (by decide +kernel) (by decide +kernel) rfl (by decide +kernel) (by rfl) (fun i y h hf => by
        by_cases c : i = 4
        · subst c; cases h; exact absurd hf (by decide +kernel)
        · have h2 : (List.set (["_law_d", "_law_many", "_law_marks", "_law_widths", "_law_turn", "_law_width"] : List Str) 4 "_law_turn'")[i]? = some y := h
          rw [List.getElem?_set_ne (fun z => c z.symm)] at h2; exact h2) (by decide +kernel))
      (pss_cons (ps_set (i := 3) scLg.nd rfl (Or.inl rfl) (pe_lst pa_nil))
      (pss_cons (ps_set (i := 1) scLg.nd rfl (Or.inl rfl) (pe_op op_mod (pe_ix ix_list (pv 0) pe_int (fun _ _ => rfl)) pe_int))
      (pss_cons (ps_if (pt_cmpR op_eq (pe_op op_mod (pe_op op_fdiv (pe_ix ix_list (pv 0) pe_int (fun _ _ => rfl)) pe_int) pe_int) pe_int (nomark _))
        (pss_one (ps_set (i := 1) scLg.nd rfl (Or.inl rfl) pe_int))
        pss_nil)
      (pss_cons (ps_for PassesOwn.never rfl (pi_range1 (by rfl) T.z_range (pa_cons (pv 1) pa_nil)) (pg_name (i := 4) scLg.nd rfl (Or.inl rfl))
        (pss_cons (ps_set (i := 5) scLg.nd rfl (Or.inl rfl) (pe_op op_add pe_int (pe_op op_mod (pe_ix ix_list (pv 0) (pe_op op_add pe_int (pv 4)) (fun _ _ => rfl)) pe_int)))
          (pss_cons (ps_if (pt_cmpR op_eq (pe_op op_mod (pe_op op_fdiv (pe_ix ix_list (pv 0) (pe_op op_add pe_int (pv 4)) (fun _ _ => rfl)) pe_int) pe_int) pe_int (nomark _))
            (pss_one (ps_set (i := 5) scLg.nd rfl (Or.inl rfl) (pe_op op_add pe_int (pe_op op_mod (pe_op op_fdiv (pe_ix ix_list (pv 0) (pe_op op_add pe_int (pv 4)) (fun _ _ => rfl)) pe_int) pe_int))))
            pss_nil)
          (pss_one (ps_expr (pe_bm PySem.F.plainAttrs_list PySem.F.slot_list_append PySem.F.type_list_append mt_append (pv 3) (pa_cons (pv 5) pa_nil)))))))
      (pss_one (ps_ret (pe_tup (pa_cons (pv 2) (pa_cons (pv 3) (pa_cons (pe_call (ok_parts T) (hr.mono (by decide)) (by rfl) T.m_parts T.F_parts.kp (b_parts T) .nil pass0 (pa_cons (pv 0) (pa_cons pe_int (pa_cons (pe_callB call_len_seq (by rfl) T.z_len (by rfl) (pa_cons (pv 2) pa_nil)) (pa_cons (pe_callB call_len_seq (by rfl) T.z_len (by rfl) (pa_cons (pv 3) pa_nil)) pa_nil))))) pa_nil))))))))))))), ?_⟩
    rw [show L2.start ["_law_d", "_law_many", "_law_marks", "_law_widths", "_law_turn", "_law_width"] [V.ref d] = ([some (V.ref d), none, none, none, none, none] : St) from rfl]
    have a0 : atI (ds.map V.int) 0 = some (.int (ds.getD (0 : Int).toNat 0)) := dgI 0 (by decide) (by omega)
    have a4 : atI (ds.map V.int) 4 = some (.int (ds.getD (4 : Int).toNat 0)) := dgI 4 (by decide) (by omega)
    obtain ⟨x0, ex0⟩ : ∃ x0, ds.getD (0 : Int).toNat 0 = x0 := ⟨_, rfl⟩
    obtain ⟨x4, ex4⟩ : ∃ x4, ds.getD (4 : Int).toNat 0 = x4 := ⟨_, rfl⟩
    rw [ex0] at a0
    rw [ex4] at a4
    refine ⟨_, rfl, d, _, _, _, rfl, rfl, SqL.of gd, a0, _, _, rfl, rfl, (show (0 : Int) < 4 by decide), ?_⟩
    dsimp only [List.set]
    refine ⟨_, rfl, d, _, _, _, rfl, rfl, SqL.of gd, a0, _, _, rfl, rfl, ⟨by decide, by decide⟩, _, _, rfl, rfl, (show (0 : Int) < 11 by decide), rfl, _, rfl, ?_⟩
    refine ifSet (fun τ hτ => ?_)
    obtain ⟨n, hn, rfl⟩ : ∃ n : Nat, n ≤ 30 ∧ τ = [some (.ref d), some (.int n), none, none, none, none] := by
      rcases hτ with rfl | rfl
      · exact ⟨30, Nat.le_refl _, rfl⟩
      · exact ⟨(x0 % 4).toNat, by omega, by rw [Int.toNat_of_nonneg (by omega)]; rfl⟩
    refine ⟨_, rfl, _, rfl, by omega, by omega, fun D hD => ?_⟩
    refine ⟨fun i m zs H' => m = n - i ∧ i ≤ n ∧ ∃ ms : List Int, zs = ms.map V.int ∧ ms.length = i ∧ (∀ x ∈ ms, x = 1 ∨ x = 2) ∧ Has H' ((D, .lst zs) :: L), ⟨_, rfl, Nat.zero_le _, [], rfl, rfl, by simp, hH.alloc hD _⟩, ?_⟩
    rintro i m zs H2 ⟨rfl, hi, ms, rfl, hml, hms, h2⟩
    refine ⟨h2.get 0 rfl, ?_⟩
    have g2 := h2.tail.at_ _ md
    dsimp only at g2
    by_cases hlt : i < n
    · refine .inr ⟨(show i < (n : Int).toNat by omega), ?_⟩
      rintro x H3 ⟨rfl, rfl⟩
      refine ⟨rfl, tTrueT ?_⟩
      refine ⟨_, rfl, _, rfl, _, _, rfl, rfl, d, _, _, _, rfl, rfl, SqL.of g2, dgI (1 + (0 + (i : Int))) (by omega) (by omega), _, _, rfl, rfl, (show (0 : Int) < 2 by decide), _, _, rfl, rfl, ?_⟩
      dsimp only
      obtain ⟨v, ev⟩ : ∃ v, 1 + ds.getD (1 + (0 + (i : Int))).toNat 0 % 2 = v := ⟨_, rfl⟩
      rw [ev]
      refine ⟨sizeOk (by rw [List.length_map]; omega), h2.get 0 rfl, n - (i + 1), by omega, rfl, hlt, ms ++ [v], by rw [List.map_append]; rfl, by simp [hml], ?_, h2.puti 0 rfl _⟩
      intro x hx
      rcases List.mem_append.mp hx with hx | hx
      · exact hms x hx
      · cases List.mem_singleton.mp hx
        omega
    · refine .inl ⟨(show (n : Int).toNat ≤ i by omega), ?_⟩
      dsimp only [List.set]
      refine ⟨sz (show 0 ≤ 1000000 by decide), fun wl hwl => ?_⟩
      have h3 := h2.alloc hwl (.lst [])
      have g3 := h3.tail.tail.at_ _ md
      dsimp only [List.set] at g3 ⊢
      refine ⟨_, rfl, d, _, _, _, rfl, rfl, SqL.of g3, a4, _, _, rfl, rfl, (show (0 : Int) < 4 by decide), ?_⟩
      dsimp only [List.set]
      refine ⟨_, rfl, d, _, _, _, rfl, rfl, SqL.of g3, a4, _, _, rfl, rfl, ⟨by decide, by decide⟩, _, _, rfl, rfl, (show (0 : Int) < 11 by decide), rfl, _, rfl, ?_⟩
      refine ifSet (fun τ hτ => ?_)
      obtain ⟨n2, hn2, rfl⟩ : ∃ n2 : Nat, n2 ≤ 30 ∧ τ = [some (.ref d), some (.int n2), some (.ref D), some (.ref wl), none, none] := by
        rcases hτ with rfl | rfl
        · exact ⟨30, Nat.le_refl _, rfl⟩
        · exact ⟨(x4 % 4).toNat, by omega, by rw [Int.toNat_of_nonneg (by omega)]; rfl⟩
      refine ⟨_, rfl, _, rfl, by omega, by omega, for_range (fun j σ H' => ∃ (o4 o5 : Option V) (ws : List Int), σ = [some (.ref d), some (.int n2), some (.ref D), some (.ref wl), o4, o5] ∧ ws.length = j ∧ (∀ x ∈ ws, 1 ≤ x ∧ x ≤ 8) ∧ Has H' ((wl, .lst (ws.map V.int)) :: (D, .lst (ms.map V.int)) :: L)) ⟨_, _, [], rfl, rfl, by simp, h3⟩ ?_ ?_⟩
      · clear h3
        rintro j σ H3 hj ⟨o4, o5, ws, rfl, hwl2, hws, h3⟩
        have hj : j < n2 := by omega
        have g3 := h3.tail.tail.at_ _ md
        dsimp only at g3
        rw [Int.zero_add]
        show tSeq _ _ _ _ _
        dsimp only [List.set]
        have a5 : atI (ds.map V.int) (5 + (j : Int)) = some (.int (ds.getD (5 + (j : Int)).toNat 0)) := dgI _ (by omega) (by omega)
        obtain ⟨x5, ex5⟩ : ∃ x5, ds.getD (5 + (j : Int)).toNat 0 = x5 := ⟨_, rfl⟩
        rw [ex5] at a5
        have fin : ∀ (v : Int) (o4 o5 : Option V), 1 ≤ v → v ≤ 8 → ∃ (o4' o5' : Option V) (ws' : List Int), [some (V.ref d), some (.int n2), some (.ref D), some (.ref wl), o4, o5] = [some (V.ref d), some (.int n2), some (.ref D), some (.ref wl), o4', o5'] ∧ ws'.length = j + 1 ∧ (∀ x ∈ ws', 1 ≤ x ∧ x ≤ 8) ∧ Has (upd H3 wl (.lst (ws.map V.int ++ [.int v]))) ((wl, .lst (ws'.map V.int)) :: (D, .lst (ms.map V.int)) :: L) := by
          intro v o4 o5 v1 v8
          refine ⟨o4, o5, ws ++ [v], rfl, by simp [hwl2], ?_, ?_⟩
          · intro x hx
            rcases List.mem_append.mp hx with hx | hx
            · exact hws x hx
            · cases List.mem_singleton.mp hx
              exact ⟨v1, v8⟩
          · rw [List.map_append]
            exact h3.puti 0 rfl _
        refine ⟨_, rfl, _, rfl, _, _, rfl, rfl, d, _, _, _, rfl, rfl, SqL.of g3, a5, _, _, rfl, rfl, (show (0 : Int) < 2 by decide), _, _, rfl, rfl, ?_⟩
        dsimp only [List.set]
        refine ⟨_, rfl, _, rfl, _, _, rfl, rfl, d, _, _, _, rfl, rfl, SqL.of g3, a5, _, _, rfl, rfl, ⟨by decide, by decide⟩, _, _, rfl, rfl, (show (0 : Int) < 4 by decide), rfl, _, rfl, ?_⟩
        refine if2 (fun _ => ?_) (fun _ => ?_)
        · refine ⟨_, rfl, _, rfl, _, _, rfl, rfl, d, _, _, _, rfl, rfl, SqL.of g3, a5, _, _, rfl, rfl, ⟨by decide, by decide⟩, _, _, rfl, rfl, (show (0 : Int) < 8 by decide), _, _, rfl, rfl, ?_⟩
          exact ⟨_, rfl, .inl ⟨rfl, _, SqL.of (h3.get 0 rfl)⟩, _, rfl, wl, _, _, rfl, rfl, h3.get 0 rfl, sizeOk (by rw [List.length_map]; omega), fin (1 + x5 / 8 % 8) _ _ (by omega) (by omega)⟩
        · exact ⟨_, rfl, .inl ⟨rfl, _, SqL.of (h3.get 0 rfl)⟩, _, rfl, wl, _, _, rfl, rfl, h3.get 0 rfl, sizeOk (by rw [List.length_map]; omega), fin (1 + x5 % 2) _ _ (by omega) (by omega)⟩
      · clear h3
        rintro σ H3 hP
        rw [Int.toNat_natCast] at hP
        obtain ⟨o4, o5, ws, rfl, hwl2, hws, h3⟩ := hP
        refine ⟨_, rfl, _, rfl, _, rfl, _, rfl, D, _, rfl, .inl (SqL.of (h3.get 1 rfl)), _, rfl, wl, _, rfl, .inl (SqL.of (h3.get 0 rfl)), d, ds, ms.length, ws.length, _, (by rw [List.length_map, List.length_map]; rfl), h3, List.mem_cons_of_mem _ (List.mem_cons_of_mem _ md), hds, fun H4 pl ss N k1 k2 k3 kL k4 k5 h4 => ?_⟩
        refine ⟨sz (show 3 ≤ 1000000 by decide), fun tp htp => ?_⟩
        exact q _ tp D wl pl ms ws ss N hms hws (by omega) (by omega) k1 k2 k3 kL k4 k5 (h4.alloc htp _)
end

end P


set_option Elab.async false
set_option linter.all false
set_option maxRecDepth 100000
set_option maxHeartbeats 4000000
namespace P
open PySem L2

theorem flags_fil : ∀ i, i < 22 → ((flagsOf i).filter (·.2)).map (·.1) = [nameAt i]
  | 0, _ => rfl
  | 1, _ => rfl
  | 2, _ => rfl
  | 3, _ => rfl
  | 4, _ => rfl
  | 5, _ => rfl
  | 6, _ => rfl
  | 7, _ => rfl
  | 8, _ => rfl
  | 9, _ => rfl
  | 10, _ => rfl
  | 11, _ => rfl
  | 12, _ => rfl
  | 13, _ => rfl
  | 14, _ => rfl
  | 15, _ => rfl
  | 16, _ => rfl
  | 17, _ => rfl
  | 18, _ => rfl
  | 19, _ => rfl
  | 20, _ => rfl
  | 21, _ => rfl
  | i + 22, h => absurd h (by omega)
def tupsOf (ts : List (Addr × Str × Bool)) : Kn := ts.map fun z => (z.1, HO.tup [.str z.2.1, .bl z.2.2])
def refsOf (ts : List (Addr × Str × Bool)) : List V := ts.map fun z => V.ref z.1
def sp_names (K : PySem.W.Frag) (t : Adr) : Sp := fun vs H Q _ => ∃ (a C : Addr) (i : Nat) (L : Kn), vs = [.ref a] ∧ Has H L ∧ (a, HO.ext (ExcAt a C)) ∈ L ∧ excAll K C t.c_RailError (dsOf t i) = true ∧
  ∀ H' p ts, ts.map (·.2) = flagsOf i → Has H' ((p, .lst (refsOf ts)) :: ((tupsOf ts).reverse ++ L)) → Q (.ref p) H'
def refSp (K : PySem.W.Frag) (t : Adr) : (Hp → VK → XK → Prop) → Hp → VK → Prop := fun spD H Q => ∃ (X0 L : Kn) (R : V → Kn → Prop) (RX : Nat → Kn → Prop), Has H (X0 ++ L) ∧
  (∀ H1 L1 Q1 E1, Has H1 (X0 ++ L1) → (∀ v N H2, R v N → Has H2 (N ++ L1) → Q1 v H2) → (∀ C a i N H2, RX i N → i < 22 → excAll K C t.c_RailError (dsOf t i) = true → Has H2 (N ++ L1) → E1 (.ref C) (some a) H2) → spD H1 Q1 E1) ∧
  (∀ v N r H2, R v N → Has H2 ((r, .lst []) :: (N ++ L)) → Q (.ref r) H2) ∧
  (∀ i N r H2, RX i N → i < 22 → Has H2 ((r, .lst [.str (nameAt i)]) :: (N ++ L)) → Q (.ref r) H2)
section
variable {P : Program} {w : World} {K : PySem.W.Frag} {mg : Str → Option Value} {base : Heap} {t : Adr}
theorem scNm : FnScope ["_law_e"] ["_law_e"] (defScope s_names) := ⟨rfl, rfl, rfl, by decide +kernel, rfl, by decide +kernel, by decide +kernel⟩
theorem ok_names (T : Txt K mg t) : FnOkQ P w K mg base 1 t.f_names t.d_names ["_law_e"] (sp_names K t) := by
  refine T.F_names.okQ scNm (fun vs H Q E h => ?_) (fun cdv A outer s H vs Q E hr h => ?_)
  · obtain ⟨_, _, _, _, rfl, _⟩ := h
    rfl
  · obtain ⟨a, C, i, L, rfl, h0, m0, hx, q⟩ := h
    refine ⟨_, (pss_one (ps_ret (pe_lst (@pa_cons _ _ _ _ _ (pe_tup (pa_cons pe_str (pa_cons (pe_callB call_isiE (by rfl) T.z_isinstance (by rfl) (pa_cons (pv 0) (pa_cons (pe_glob (v := .ref t.c_NoKind) (by rfl) T.m_NoKind rfl) pa_nil))) pa_nil))) (@pa_cons _ _ _ _ _ (pe_tup (pa_cons pe_str (pa_cons (pe_callB call_isiE (by rfl) T.z_isinstance (by rfl) (pa_cons (pv 0) (pa_cons (pe_glob (v := .ref t.c_NoEnd) (by rfl) T.m_NoEnd rfl) pa_nil))) pa_nil))) (@pa_cons _ _ _ _ _ (pe_tup (pa_cons pe_str (pa_cons (pe_callB call_isiE (by rfl) T.z_isinstance (by rfl) (pa_cons (pv 0) (pa_cons (pe_glob (v := .ref t.c_NoSide) (by rfl) T.m_NoSide rfl) pa_nil))) pa_nil))) (@pa_cons _ _ _ _ _ (pe_tup (pa_cons pe_str (pa_cons (pe_callB call_isiE (by rfl) T.z_isinstance (by rfl) (pa_cons (pv 0) (pa_cons (pe_glob (v := .ref t.c_NoNote) (by rfl) T.m_NoNote rfl) pa_nil))) pa_nil))) (@pa_cons _ _ _ _ _ (pe_tup (pa_cons pe_str (pa_cons (pe_callB call_isiE (by rfl) T.z_isinstance (by rfl) (pa_cons (pv 0) (pa_cons (pe_glob (v := .ref t.c_NoPiece) (by rfl) T.m_NoPiece rfl) pa_nil))) pa_nil))) (@pa_cons _ _ _ _ _ (pe_tup (pa_cons pe_str (pa_cons (pe_callB call_isiE (by rfl) T.z_isinstance (by rfl) (pa_cons (pv 0) (pa_cons (pe_glob (v := .ref t.c_NoRod) (by rfl) T.m_NoRod rfl) pa_nil))) pa_nil))) (@pa_cons _ _ _ _ _ (pe_tup (pa_cons pe_str (pa_cons (pe_callB call_isiE (by rfl) T.z_isinstance (by rfl) (pa_cons (pv 0) (pa_cons (pe_glob (v := .ref t.c_NoPoint) (by rfl) T.m_NoPoint rfl) pa_nil))) pa_nil))) (@pa_cons _ _ _ _ _ (pe_tup (pa_cons pe_str (pa_cons (pe_callB call_isiE (by rfl) T.z_isinstance (by rfl) (pa_cons (pv 0) (pa_cons (pe_glob (v := .ref t.c_NoBell) (by rfl) T.m_NoBell rfl) pa_nil))) pa_nil))) (@pa_cons _ _ _ _ _ (pe_tup (pa_cons pe_str (pa_cons (pe_callB call_isiE (by rfl) T.z_isinstance (by rfl) (pa_cons (pv 0) (pa_cons (pe_glob (v := .ref t.c_SameEnd) (by rfl) T.m_SameEnd rfl) pa_nil))) pa_nil))) (@pa_cons _ _ _ _ _ (pe_tup (pa_cons pe_str (pa_cons (pe_callB call_isiE (by rfl) T.z_isinstance (by rfl) (pa_cons (pv 0) (pa_cons (pe_glob (v := .ref t.c_Linked) (by rfl) T.m_Linked rfl) pa_nil))) pa_nil))) (@pa_cons _ _ _ _ _ (pe_tup (pa_cons pe_str (pa_cons (pe_callB call_isiE (by rfl) T.z_isinstance (by rfl) (pa_cons (pv 0) (pa_cons (pe_glob (v := .ref t.c_NotLinked) (by rfl) T.m_NotLinked rfl) pa_nil))) pa_nil))) (@pa_cons _ _ _ _ _ (pe_tup (pa_cons pe_str (pa_cons (pe_callB call_isiE (by rfl) T.z_isinstance (by rfl) (pa_cons (pv 0) (pa_cons (pe_glob (v := .ref t.c_Occupied) (by rfl) T.m_Occupied rfl) pa_nil))) pa_nil))) (@pa_cons _ _ _ _ _ (pe_tup (pa_cons pe_str (pa_cons (pe_callB call_isiE (by rfl) T.z_isinstance (by rfl) (pa_cons (pv 0) (pa_cons (pe_glob (v := .ref t.c_NoStand) (by rfl) T.m_NoStand rfl) pa_nil))) pa_nil))) (@pa_cons _ _ _ _ _ (pe_tup (pa_cons pe_str (pa_cons (pe_callB call_isiE (by rfl) T.z_isinstance (by rfl) (pa_cons (pv 0) (pa_cons (pe_glob (v := .ref t.c_NoMany) (by rfl) T.m_NoMany rfl) pa_nil))) pa_nil))) (@pa_cons _ _ _ _ _ (pe_tup (pa_cons pe_str (pa_cons (pe_callB call_isiE (by rfl) T.z_isinstance (by rfl) (pa_cons (pv 0) (pa_cons (pe_glob (v := .ref t.c_NoStretch) (by rfl) T.m_NoStretch rfl) pa_nil))) pa_nil))) (@pa_cons _ _ _ _ _ (pe_tup (pa_cons pe_str (pa_cons (pe_callB call_isiE (by rfl) T.z_isinstance (by rfl) (pa_cons (pv 0) (pa_cons (pe_glob (v := .ref t.c_NoRow) (by rfl) T.m_NoRow rfl) pa_nil))) pa_nil))) (@pa_cons _ _ _ _ _ (pe_tup (pa_cons pe_str (pa_cons (pe_callB call_isiE (by rfl) T.z_isinstance (by rfl) (pa_cons (pv 0) (pa_cons (pe_glob (v := .ref t.c_NoMark) (by rfl) T.m_NoMark rfl) pa_nil))) pa_nil))) (@pa_cons _ _ _ _ _ (pe_tup (pa_cons pe_str (pa_cons (pe_callB call_isiE (by rfl) T.z_isinstance (by rfl) (pa_cons (pv 0) (pa_cons (pe_glob (v := .ref t.c_NoCounter) (by rfl) T.m_NoCounter rfl) pa_nil))) pa_nil))) (@pa_cons _ _ _ _ _ (pe_tup (pa_cons pe_str (pa_cons (pe_callB call_isiE (by rfl) T.z_isinstance (by rfl) (pa_cons (pv 0) (pa_cons (pe_glob (v := .ref t.c_NoWidth) (by rfl) T.m_NoWidth rfl) pa_nil))) pa_nil))) (@pa_cons _ _ _ _ _ (pe_tup (pa_cons pe_str (pa_cons (pe_callB call_isiE (by rfl) T.z_isinstance (by rfl) (pa_cons (pv 0) (pa_cons (pe_glob (v := .ref t.c_NoValue) (by rfl) T.m_NoValue rfl) pa_nil))) pa_nil))) (@pa_cons _ _ _ _ _ (pe_tup (pa_cons pe_str (pa_cons (pe_callB call_isiE (by rfl) T.z_isinstance (by rfl) (pa_cons (pv 0) (pa_cons (pe_glob (v := .ref t.c_FallsOut) (by rfl) T.m_FallsOut rfl) pa_nil))) pa_nil))) (@pa_cons _ _ _ _ _ (pe_tup (pa_cons pe_str (pa_cons (pe_callB call_isiE (by rfl) T.z_isinstance (by rfl) (pa_cons (pv 0) (pa_cons (pe_glob (v := .ref t.c_NoText) (by rfl) T.m_NoText rfl) pa_nil))) pa_nil))) (@pa_cons _ _ _ _ _ (pe_tup (pa_cons pe_str (pa_cons (pe_not (pe_callB call_isiE (by rfl) T.z_isinstance (by rfl) (pa_cons (pv 0) (pa_cons (pe_bltn (v := .ty "ValueError") (by rfl) T.z_ValueError (by rfl) rfl) pa_nil)))) pa_nil))) pa_nil (by rfl)) (by rfl)) (by rfl)) (by rfl)) (by rfl)) (by rfl)) (by rfl)) (by rfl)) (by rfl)) (by rfl)) (by rfl)) (by rfl)) (by rfl)) (by rfl)) (by rfl)) (by rfl)) (by rfl)) (by rfl)) (by rfl)) (by rfl)) (by rfl)) (by rfl)) (by rfl))))), ?_⟩
    refine ⟨_, rfl, a, C, _, _, rfl, ⟨_, .inl rfl⟩, h0.at_ _ m0, excAll_cls hx, excAll_kit hx 0 rfl, sizeOk' (show 2 ≤ 1000000 by decide), fun t0 ht0 => ?_⟩
    have h1 := h0.alloc ht0 (.tup [.str "NoKind", .bl (i == 0)])
    have m1 := List.mem_cons_of_mem (t0, HO.tup [.str "NoKind", .bl (i == 0)]) m0
    refine ⟨_, rfl, a, C, _, _, rfl, ⟨_, .inl rfl⟩, h1.at_ _ m1, excAll_cls hx, excAll_kit hx 1 rfl, sizeOk' (show 2 ≤ 1000000 by decide), fun t1 ht1 => ?_⟩
    have h2 := h1.alloc ht1 (.tup [.str "NoEnd", .bl (i == 1)])
    have m2 := List.mem_cons_of_mem (t1, HO.tup [.str "NoEnd", .bl (i == 1)]) m1
    refine ⟨_, rfl, a, C, _, _, rfl, ⟨_, .inl rfl⟩, h2.at_ _ m2, excAll_cls hx, excAll_kit hx 2 rfl, sizeOk' (show 2 ≤ 1000000 by decide), fun t2 ht2 => ?_⟩
    have h3 := h2.alloc ht2 (.tup [.str "NoSide", .bl (i == 2)])
    have m3 := List.mem_cons_of_mem (t2, HO.tup [.str "NoSide", .bl (i == 2)]) m2
    refine ⟨_, rfl, a, C, _, _, rfl, ⟨_, .inl rfl⟩, h3.at_ _ m3, excAll_cls hx, excAll_kit hx 3 rfl, sizeOk' (show 2 ≤ 1000000 by decide), fun t3 ht3 => ?_⟩
    have h4 := h3.alloc ht3 (.tup [.str "NoNote", .bl (i == 3)])
    have m4 := List.mem_cons_of_mem (t3, HO.tup [.str "NoNote", .bl (i == 3)]) m3
    refine ⟨_, rfl, a, C, _, _, rfl, ⟨_, .inl rfl⟩, h4.at_ _ m4, excAll_cls hx, excAll_kit hx 4 rfl, sizeOk' (show 2 ≤ 1000000 by decide), fun t4 ht4 => ?_⟩
    have h5 := h4.alloc ht4 (.tup [.str "NoPiece", .bl (i == 4)])
    have m5 := List.mem_cons_of_mem (t4, HO.tup [.str "NoPiece", .bl (i == 4)]) m4
    refine ⟨_, rfl, a, C, _, _, rfl, ⟨_, .inl rfl⟩, h5.at_ _ m5, excAll_cls hx, excAll_kit hx 5 rfl, sizeOk' (show 2 ≤ 1000000 by decide), fun t5 ht5 => ?_⟩
    have h6 := h5.alloc ht5 (.tup [.str "NoRod", .bl (i == 5)])
    have m6 := List.mem_cons_of_mem (t5, HO.tup [.str "NoRod", .bl (i == 5)]) m5
    refine ⟨_, rfl, a, C, _, _, rfl, ⟨_, .inl rfl⟩, h6.at_ _ m6, excAll_cls hx, excAll_kit hx 6 rfl, sizeOk' (show 2 ≤ 1000000 by decide), fun t6 ht6 => ?_⟩
    have h7 := h6.alloc ht6 (.tup [.str "NoPoint", .bl (i == 6)])
    have m7 := List.mem_cons_of_mem (t6, HO.tup [.str "NoPoint", .bl (i == 6)]) m6
    refine ⟨_, rfl, a, C, _, _, rfl, ⟨_, .inl rfl⟩, h7.at_ _ m7, excAll_cls hx, excAll_kit hx 7 rfl, sizeOk' (show 2 ≤ 1000000 by decide), fun t7 ht7 => ?_⟩
    have h8 := h7.alloc ht7 (.tup [.str "NoBell", .bl (i == 7)])
    have m8 := List.mem_cons_of_mem (t7, HO.tup [.str "NoBell", .bl (i == 7)]) m7
    refine ⟨_, rfl, a, C, _, _, rfl, ⟨_, .inl rfl⟩, h8.at_ _ m8, excAll_cls hx, excAll_kit hx 8 rfl, sizeOk' (show 2 ≤ 1000000 by decide), fun t8 ht8 => ?_⟩
    have h9 := h8.alloc ht8 (.tup [.str "SameEnd", .bl (i == 8)])
    have m9 := List.mem_cons_of_mem (t8, HO.tup [.str "SameEnd", .bl (i == 8)]) m8
    refine ⟨_, rfl, a, C, _, _, rfl, ⟨_, .inl rfl⟩, h9.at_ _ m9, excAll_cls hx, excAll_kit hx 9 rfl, sizeOk' (show 2 ≤ 1000000 by decide), fun t9 ht9 => ?_⟩
    have h10 := h9.alloc ht9 (.tup [.str "Linked", .bl (i == 9)])
    have m10 := List.mem_cons_of_mem (t9, HO.tup [.str "Linked", .bl (i == 9)]) m9
    refine ⟨_, rfl, a, C, _, _, rfl, ⟨_, .inl rfl⟩, h10.at_ _ m10, excAll_cls hx, excAll_kit hx 10 rfl, sizeOk' (show 2 ≤ 1000000 by decide), fun t10 ht10 => ?_⟩
    have h11 := h10.alloc ht10 (.tup [.str "NotLinked", .bl (i == 10)])
    have m11 := List.mem_cons_of_mem (t10, HO.tup [.str "NotLinked", .bl (i == 10)]) m10
    refine ⟨_, rfl, a, C, _, _, rfl, ⟨_, .inl rfl⟩, h11.at_ _ m11, excAll_cls hx, excAll_kit hx 11 rfl, sizeOk' (show 2 ≤ 1000000 by decide), fun t11 ht11 => ?_⟩
    have h12 := h11.alloc ht11 (.tup [.str "Occupied", .bl (i == 11)])
    have m12 := List.mem_cons_of_mem (t11, HO.tup [.str "Occupied", .bl (i == 11)]) m11
    refine ⟨_, rfl, a, C, _, _, rfl, ⟨_, .inl rfl⟩, h12.at_ _ m12, excAll_cls hx, excAll_kit hx 12 rfl, sizeOk' (show 2 ≤ 1000000 by decide), fun t12 ht12 => ?_⟩
    have h13 := h12.alloc ht12 (.tup [.str "NoStand", .bl (i == 12)])
    have m13 := List.mem_cons_of_mem (t12, HO.tup [.str "NoStand", .bl (i == 12)]) m12
    refine ⟨_, rfl, a, C, _, _, rfl, ⟨_, .inl rfl⟩, h13.at_ _ m13, excAll_cls hx, excAll_kit hx 13 rfl, sizeOk' (show 2 ≤ 1000000 by decide), fun t13 ht13 => ?_⟩
    have h14 := h13.alloc ht13 (.tup [.str "NoMany", .bl (i == 13)])
    have m14 := List.mem_cons_of_mem (t13, HO.tup [.str "NoMany", .bl (i == 13)]) m13
    refine ⟨_, rfl, a, C, _, _, rfl, ⟨_, .inl rfl⟩, h14.at_ _ m14, excAll_cls hx, excAll_kit hx 14 rfl, sizeOk' (show 2 ≤ 1000000 by decide), fun t14 ht14 => ?_⟩
    have h15 := h14.alloc ht14 (.tup [.str "NoStretch", .bl (i == 14)])
    have m15 := List.mem_cons_of_mem (t14, HO.tup [.str "NoStretch", .bl (i == 14)]) m14
    refine ⟨_, rfl, a, C, _, _, rfl, ⟨_, .inl rfl⟩, h15.at_ _ m15, excAll_cls hx, excAll_kit hx 15 rfl, sizeOk' (show 2 ≤ 1000000 by decide), fun t15 ht15 => ?_⟩
    have h16 := h15.alloc ht15 (.tup [.str "NoRow", .bl (i == 15)])
    have m16 := List.mem_cons_of_mem (t15, HO.tup [.str "NoRow", .bl (i == 15)]) m15
    refine ⟨_, rfl, a, C, _, _, rfl, ⟨_, .inl rfl⟩, h16.at_ _ m16, excAll_cls hx, excAll_kit hx 16 rfl, sizeOk' (show 2 ≤ 1000000 by decide), fun t16 ht16 => ?_⟩
    have h17 := h16.alloc ht16 (.tup [.str "NoMark", .bl (i == 16)])
    have m17 := List.mem_cons_of_mem (t16, HO.tup [.str "NoMark", .bl (i == 16)]) m16
    refine ⟨_, rfl, a, C, _, _, rfl, ⟨_, .inl rfl⟩, h17.at_ _ m17, excAll_cls hx, excAll_kit hx 17 rfl, sizeOk' (show 2 ≤ 1000000 by decide), fun t17 ht17 => ?_⟩
    have h18 := h17.alloc ht17 (.tup [.str "NoCounter", .bl (i == 17)])
    have m18 := List.mem_cons_of_mem (t17, HO.tup [.str "NoCounter", .bl (i == 17)]) m17
    refine ⟨_, rfl, a, C, _, _, rfl, ⟨_, .inl rfl⟩, h18.at_ _ m18, excAll_cls hx, excAll_kit hx 18 rfl, sizeOk' (show 2 ≤ 1000000 by decide), fun t18 ht18 => ?_⟩
    have h19 := h18.alloc ht18 (.tup [.str "NoWidth", .bl (i == 18)])
    have m19 := List.mem_cons_of_mem (t18, HO.tup [.str "NoWidth", .bl (i == 18)]) m18
    refine ⟨_, rfl, a, C, _, _, rfl, ⟨_, .inl rfl⟩, h19.at_ _ m19, excAll_cls hx, excAll_kit hx 19 rfl, sizeOk' (show 2 ≤ 1000000 by decide), fun t19 ht19 => ?_⟩
    have h20 := h19.alloc ht19 (.tup [.str "NoValue", .bl (i == 19)])
    have m20 := List.mem_cons_of_mem (t19, HO.tup [.str "NoValue", .bl (i == 19)]) m19
    refine ⟨_, rfl, a, C, _, _, rfl, ⟨_, .inl rfl⟩, h20.at_ _ m20, excAll_cls hx, excAll_kit hx 20 rfl, sizeOk' (show 2 ≤ 1000000 by decide), fun t20 ht20 => ?_⟩
    have h21 := h20.alloc ht20 (.tup [.str "FallsOut", .bl (i == 20)])
    have m21 := List.mem_cons_of_mem (t20, HO.tup [.str "FallsOut", .bl (i == 20)]) m20
    refine ⟨_, rfl, a, C, _, _, rfl, ⟨_, .inl rfl⟩, h21.at_ _ m21, excAll_cls hx, excAll_kit hx 21 rfl, sizeOk' (show 2 ≤ 1000000 by decide), fun t21 ht21 => ?_⟩
    have h22 := h21.alloc ht21 (.tup [.str "NoText", .bl (i == 21)])
    have m22 := List.mem_cons_of_mem (t21, HO.tup [.str "NoText", .bl (i == 21)]) m21
    refine ⟨_, rfl, a, C, _, _, rfl, ⟨0, .inr ⟨_, rfl⟩⟩, h22.at_ _ m22, excAll_cls hx, excAll_ve hx, _, rfl, sizeOk' (show 2 ≤ 1000000 by decide), fun t22 ht22 => ?_⟩
    have h23 := h22.alloc ht22 (.tup [.str "plain", .bl (!true)])
    refine ⟨sizeOk' (show 23 ≤ 1000000 by decide), fun p hp => ?_⟩
    exact q _ p [(t0, "NoKind", i == 0), (t1, "NoEnd", i == 1), (t2, "NoSide", i == 2), (t3, "NoNote", i == 3), (t4, "NoPiece", i == 4), (t5, "NoRod", i == 5), (t6, "NoPoint", i == 6), (t7, "NoBell", i == 7), (t8, "SameEnd", i == 8), (t9, "Linked", i == 9), (t10, "NotLinked", i == 10), (t11, "Occupied", i == 11), (t12, "NoStand", i == 12), (t13, "NoMany", i == 13), (t14, "NoStretch", i == 14), (t15, "NoRow", i == 15), (t16, "NoMark", i == 16), (t17, "NoCounter", i == 17), (t18, "NoWidth", i == 18), (t19, "NoValue", i == 19), (t20, "FallsOut", i == 20), (t21, "NoText", i == 21), (t22, "plain", false)] rfl (h23.alloc hp _)
theorem scRf : FnScope ["_law_deed", "_law_pairs", "_law_e"] ["_law_deed"] (defScope s_refused) := ⟨rfl, rfl, rfl, by decide +kernel, rfl, by decide +kernel, by decide +kernel⟩
theorem ok_refused (T : Txt K mg t) : RefOk P w K mg base 10 8 t.f_refused (refSp K t) := by
  refine (T.e_refused ▸ T.F_refused).refOk (N := ["_law_deed", "_law_pairs", "_law_e"]) (y := "_law_deed") scRf (b_refused T) (fun cdv A outer s H g spD Q hr D hrs => ?_)
  obtain ⟨X0, L, R, RX, hH, hD, hR, hRX⟩ := hrs
  obtain ⟨t3, h3, fin⟩ : ∃ t3 : TS, PSs (cxOf CX0 P w K mg base ["_law_deed", "_law_pairs", "_law_e"] "_law_refused" (defScope s_refused) t.f_refused cdv A outer s H E0).nox ((defBody s_refused).drop 2) t3 ∧
      ∀ (o : Option V) (H1 : Hp) (p : Addr) (ts : List (Addr × Str × Bool)) (L1 : Kn) (D1 : Ends), ts.length ≤ 1000 → Has H1 ((p, .lst (refsOf ts)) :: ((tupsOf ts).reverse ++ L1)) →
        (∀ H2 r, Has H2 ((r, .lst (((ts.map (·.2)).filter (·.2)).map fun z => .str z.1)) :: L1) → D1.rt (.ref r) H2) → t3 D1 [some (.ref g), some (.ref p), o] H1 := by
    refine ⟨_, (pss_one (ps_ret (pe_lc (esc := defScope s_refused) (k := 2) ["_law_name", "_law_so", "_law_deed", "_law_pairs", "_law_e"] rfl (pi_list (pv 1)) (fun _ _ _ _ _ => by exact (pg_tupK (K := K) (n := 2) rfl rfl (pgs_cons (pg_name (i := 0) (show List.Nodup (["_law_name", "_law_so", "_law_deed", "_law_pairs", "_law_e"] : List Str) from by decide +kernel) rfl (Or.inl rfl)) (pgs_cons (pg_name (i := 1) (show List.Nodup (["_law_name", "_law_so", "_law_deed", "_law_pairs", "_law_e"] : List Str) from by decide +kernel) rfl (Or.inl rfl)) pgs_nil)))) (fun _ _ _ _ _ => by exact (pts_one (pt_val (pv 1)))) (fun _ _ _ _ _ => by exact (pv 0)) rfl (by decide +kernel) (by decide +kernel) rfl (by decide +kernel) (by rfl) (fun _ _ h _ => h) (by decide +kernel)))), ?_⟩
    intro o H1 p ts L1 D1 hts h1 hq
    have inT : ∀ {H2 : Hp} {c : Addr × HO} {j : Nat} {z : Addr × Str × Bool}, Has H2 (c :: (p, .lst (refsOf ts)) :: ((tupsOf ts).reverse ++ L1)) → ts[j]? = some z → H2 z.1 = some (.tup [.str z.2.1, .bl z.2.2]) := fun {H2 c j z} h e => by
      refine h.at_ (z.1, _) (List.mem_cons_of_mem _ (List.mem_cons_of_mem _ (List.mem_append_left _ (List.mem_reverse.mpr ?_))))
      exact List.mem_map.mpr ⟨z, List.mem_of_getElem? e, rfl⟩
    refine ⟨_, rfl, p, rfl, ⟨_, SqL.of (h1.get 0 rfl)⟩, fun Dl hDl => ?_⟩
    refine ⟨fun n m zs H2 => m = ts.length - n ∧ n ≤ ts.length ∧ zs = (((ts.take n).map (·.2)).filter (·.2)).map (fun z => V.str z.1) ∧ Has H2 ((Dl, .lst zs) :: (p, .lst (refsOf ts)) :: ((tupsOf ts).reverse ++ L1)), ⟨_, rfl, Nat.zero_le _, rfl, h1.alloc hDl _⟩, ?_⟩
    rintro n m zs H2 ⟨rfl, hn, ez, h2⟩
    refine ⟨h2.get 0 rfl, ?_⟩
    have g0 := h2.get 1 rfl
    by_cases hlt : n < ts.length
    · have hx0 : (refsOf ts)[n]? = some (.ref ts[n].1) := by unfold refsOf; rw [List.getElem?_map, List.getElem?_eq_getElem hlt]; rfl
      have e0 : ts[n]? = some ts[n] := List.getElem?_eq_getElem hlt
      refine .inr ⟨⟨_, _, SqL.of g0, hx0⟩, ?_⟩
      rintro x H3 ⟨rfl, hx⟩
      have e1 := hx _ (SqL.of g0)
      rw [hx0] at e1
      cases e1
      have lz : zs.length ≤ 1000 := by
        rw [ez, List.length_map]
        refine Nat.le_trans (List.length_filter_le _ _) ?_
        rw [List.length_map, List.length_take]
        omega
      have tk : ts.take (n + 1) = ts.take n ++ [ts[n]] := by rw [List.take_succ, e0]; rfl
      refine ⟨ts[n].1, _, rfl, SqT.of (inT h2 e0), rfl, _, _, rfl, _, _, rfl, rfl, ?_⟩
      refine ⟨rfl, _, rfl, _, rfl, ?_⟩
      cases hb : ts[n].2.2 with
      | true =>
        refine iteT ⟨_, rfl, sizeOk (by omega), h2.get 0 rfl, ts.length - (n + 1), by omega, rfl, hlt, ?_, h2.puti 0 rfl _⟩
        rw [tk, List.map_append, List.filter_append, List.map_append, ← ez]
        show zs ++ [V.str ts[n].2.1] = zs ++ ((List.filter (·.2) [ts[n].2]).map fun z => V.str z.1)
        rw [List.filter_cons_of_pos hb]
        rfl
      | false =>
        refine iteF ⟨ts.length - (n + 1), by omega, rfl, hlt, ?_, h2⟩
        rw [tk, List.map_append, List.filter_append, List.map_append, ← ez]
        show zs = zs ++ ((List.filter (·.2) [ts[n].2]).map fun z => V.str z.1)
        rw [List.filter_cons_of_neg (by rw [hb]; exact Bool.false_ne_true)]
        simp
    · have en : n = ts.length := by omega
      refine .inl ⟨⟨_, SqL.of g0, by unfold refsOf; rw [List.length_map]; omega⟩, ?_⟩
      rw [en, List.take_length] at ez
      subst ez
      exact hq _ Dl (h2.sub (.cons_cons _ (.cons _ (List.sublist_append_right _ _))))
  refine ⟨_, (pss_cons (ps_set (i := 1) scRf.nd rfl (Or.inl rfl) (pe_lst pa_nil)) (pss_cons (ps_try (i := 0) (j := 2) D (hr.mono (by decide)) rfl rfl rfl (pv 0) (by rfl) T.m_RailError scRf.nd rfl rfl (fun e => pss_one (ps_set (i := 1) scRf.nd rfl (Or.inl rfl) (pe_callQ (ok_names T) ((hr.mono (by decide)).qm _) (by rfl) T.m_names T.F_names.kp (b_names T) (pa_cons (pv 2) pa_nil))))) h3)), ?_⟩
  refine ⟨sizeOk' (show 0 ≤ 1000000 by decide), fun p0 hp0 => ?_⟩
  have h1 := hH.alloc hp0 (.lst [])
  refine ⟨rfl, fun Cv ao H2 => ∃ C a i N, Cv = .ref C ∧ ao = some a ∧ RX i N ∧ i < 22 ∧ excAll K C t.c_RailError (dsOf t i) = true ∧ Has H2 (N ++ ((p0, .lst []) :: L)), hD _ ((p0, .lst []) :: L) _ _ h1.inn (fun v N H2 hRv h2 => ?_) (fun C a i N H2 r1 r2 r3 h2 => ⟨C, a, i, N, rfl, rfl, r1, r2, r3, h2⟩), ?_⟩
  · exact fin _ _ p0 [] (N ++ L) _ (Nat.zero_le _) h2.out fun H3 r h3' => hR v N r H3 hRv h3'
  · rintro C a H2 ⟨C', a', i, N, rfl, ea, r1, r2, r3, h2⟩ hn
    cases ea
    refine ⟨C', rfl, excAll_exm r3, ?_⟩
    have h4 := h2.alloc hn (.ext (ExcAt a C'))
    refine ⟨_, rfl, a, C', i, _, rfl, h4, List.mem_cons_self, r3, fun H3 p ts ets h5 => ?_⟩
    have h6 : Has H3 ((p, .lst (refsOf ts)) :: ((tupsOf ts).reverse ++ (N ++ L))) := by
      refine h5.sub (List.Sublist.cons_cons _ ?_)
      refine List.Sublist.append_left ?_ _
      exact List.Sublist.cons _ (List.Sublist.append_left (List.Sublist.cons _ (List.Sublist.refl _)) _)
    refine fin _ _ p ts (N ++ L) _ (by have := congrArg List.length ets; simp [flagsOf] at this; omega) h6 fun H4 r h7 => ?_
    rw [ets] at h7
    have e := flags_fil i r2
    refine hRX i N r H4 r1 r2 ?_
    have e2 : (((flagsOf i).filter (·.2)).map fun z => V.str z.1) = [V.str (nameAt i)] := by
      have := congrArg (List.map V.str) e
      rw [List.map_map] at this
      exact this
    rw [← e2]
    exact h7
end

end P


set_option Elab.async false
set_option linter.all false
set_option maxRecDepth 100000
set_option maxHeartbeats 4000000
namespace P
open PySem L2

theorem eqvR (d : PyData) (h : d.canLay0 = true) : PyData.eqv d d = true := PySem.SeqAt.eqv_refl d h
def strsD (ns : List Str) : PyData := .list (ns.map PyData.str)
theorem strsD_dv {K : PySem.W.Frag} {H : Hp} {l : Addr} {ns : List Str} (h : H l = some (.lst (ns.map V.str))) : DV K H (strsD ns) (.ref l) := by
  unfold strsD DV
  exact ⟨l, _, rfl, SqL.of h, DVs.map _ _ _ fun x _ => by unfold DV; rfl⟩

def dueN : Option Nat → List Str
  | none => []
  | some i => [nameAt i]
theorem nameAt_ok : ∀ i, i < 22 → PyData.strOk (nameAt i) = true
  | 0, _ => by decide +kernel
  | 1, _ => by decide +kernel
  | 2, _ => by decide +kernel
  | 3, _ => by decide +kernel
  | 4, _ => by decide +kernel
  | 5, _ => by decide +kernel
  | 6, _ => by decide +kernel
  | 7, _ => by decide +kernel
  | 8, _ => by decide +kernel
  | 9, _ => by decide +kernel
  | 10, _ => by decide +kernel
  | 11, _ => by decide +kernel
  | 12, _ => by decide +kernel
  | 13, _ => by decide +kernel
  | 14, _ => by decide +kernel
  | 15, _ => by decide +kernel
  | 16, _ => by decide +kernel
  | 17, _ => by decide +kernel
  | 18, _ => by decide +kernel
  | 19, _ => by decide +kernel
  | 20, _ => by decide +kernel
  | 21, _ => by decide +kernel
  | i + 22, h => absurd h (by omega)
theorem dueLay (o : Option Nat) (h : ∀ i, o = some i → i < 22) : (strsD (dueN o)).canLay0 = true := by
  cases o with
  | none => rfl
  | some i => simp [strsD, dueN, PyData.canLay0, PyData.canLayAll0, nameAt_ok i (h i rfl)]
theorem dueSh (o : Option Nat) (h : ∀ i, o = some i → i < 22) : SeqAt.shaped (strsD (dueN o)) = true := by
  refine shaped_of (dueLay o h) ?_
  cases o <;> simp [strsD, dueN, PyData.depth, PyData.depthAll]

theorem fst1_b1 {o : Option Nat} {r : List (Option Nat)} {i : Nat} (h : o = some i) : fst1 (o :: r) = some i := by rw [h]; rfl
theorem fst1_n1 {o : Option Nat} (h : o = none) : fst1 [o] = none := by rw [h]; rfl
theorem fst1_b2 {o o1 : Option Nat} {r : List (Option Nat)} {i : Nat} (h0 : o1 = none) (h : o = some i) : fst1 (o1 :: o :: r) = some i := by rw [h0, h]; rfl
theorem fst1_n2 {o o1 : Option Nat} (h0 : o1 = none) (h : o = none) : fst1 [o1, o] = none := by rw [h0, h]; rfl
theorem fst1_sk {o1 : Option Nat} {r : List (Option Nat)} (h0 : o1 = none) : fst1 (o1 :: r) = fst1 r := by rw [h0]; rfl
theorem tgn {m i : Nat} {l : List Int} (h : ∀ b, b < i → ∀ n, l[b]? = some n → gIn m n) (hi : i ≤ l.length) {b : Nat} (hb : b < i) : (l.map fun n => un (gIn m n) 15)[b]? = some none := by
  rw [List.getElem?_map, List.getElem?_eq_getElem (by omega)]
  exact congrArg some (un_pos (h b hb _ (List.getElem?_eq_getElem (by omega))))
theorem ne2_if {s : Int} {A B U : Prop} (h : (if (!decide (s = 2)) = true then A else B) → U) (h1 : ¬ gSide s → A) (h2 : gSide s → B) : if (!decide (s = 1)) = true then U else (if false = true then A else B) :=
  ifdn (fun d1 => h (ifdn (fun d2 => h1 fun z => z.elim d1 d2) (fun d2 => h2 (.inr d2)))) (fun d1 => iteF (h2 (.inl d1)))
def sp_rf : Sp := fun vs H Q _ => ∃ (a rl ml wl : Addr) (y : Rw) (k ns : Nat) (rs ms ws : List V) (L : Kn), vs = [.ref a, .int k, .ref rl, .ref ml, .ref wl, .int ns] ∧ Has H L ∧ (a, HO.tup y.v) ∈ L ∧ (rl, HO.lst rs) ∈ L ∧ (ml, HO.lst ms) ∈ L ∧ (wl, HO.lst ws) ∈ L ∧
  ∀ H' r N, Has H' ((r, .lst ((dueN (y.flt ms.length ws.length rs.length k ns)).map V.str)) :: (N ++ L)) → Q (.ref r) H'
section
variable {P : Program} {w : World} {K : PySem.W.Frag} {mg : Str → Option Value} {base : Heap} {t : Adr}
theorem scRt : FnScope ["_law_deed", "_law_stretch", "_law_rows", "_law_marks", "_law_widths", "_law_stretches", "_law_word", "_law_targets", "_law_target"] ["_law_deed", "_law_stretch", "_law_rows", "_law_marks", "_law_widths", "_law_stretches"] (defScope s_row_fault) := ⟨rfl, rfl, rfl, by decide +kernel, rfl, by decide +kernel, by decide +kernel⟩
theorem ok_row_fault (T : Txt K mg t) : FnOk P w K mg base CX0 1 t.f_row_fault t.d_row_fault ["_law_deed", "_law_stretch", "_law_rows", "_law_marks", "_law_widths", "_law_stretches"] sp_rf := by
  refine T.F_row_fault.ok scRt (fun vs H Q E h => ?_) (fun cdv A outer s H vs Q E hr h => ?_)
  · obtain ⟨_, _, _, _, _, _, _, _, _, _, _, rfl, _⟩ := h
    rfl
  · obtain ⟨a, rl, ml, wl, y, k, ns, rs, ms, ws, L, rfl, hH, ma, mr, mm, mw, q⟩ := h
    refine ⟨_, (pss_cons (ps_set (i := 6) scRt.nd rfl (Or.inl rfl) (pe_ix ix_tup (pv 0) pe_int (fun _ _ => rfl)))
      (pss_cons (ps_if (PW.pt (pw_and (pt_cmpR op_eq (pv 6) pe_str (nomark _)) (pw_and1 (PW.pt (pw_or (pt_cmpR op_lt (pe_ix ix_tup (pv 0) pe_int (fun _ _ => rfl)) pe_int (nomark _)) (pw_or1 (pt_cmpR op_gt (pe_ix ix_tup (pv 0) pe_int (fun _ _ => rfl)) pe_int (nomark _))))))))
        (pss_one (ps_ret (pe_lst (pa_cons pe_str pa_nil))))
        pss_nil)
      (pss_cons (ps_if (PW.pt (pw_and (pt_cmpR op_in_seq (pv 6) (pe_tup (pa_cons pe_str (pa_cons pe_str pa_nil))) (by rfl)) (pw_and1 (PW.pt (pw_or (pt_cmpR op_lt (pe_ix ix_tup (pv 0) pe_int (fun _ _ => rfl)) pe_int (nomark _)) (pw_or1 (pt_cmpR op_ge (pe_ix ix_tup (pv 0) pe_int (fun _ _ => rfl)) (pe_callB call_len_seq (by rfl) T.z_len (by rfl) (pa_cons (pv 3) pa_nil)) (nomark _))))))))
        (pss_one (ps_ret (pe_lst (pa_cons pe_str pa_nil))))
        pss_nil)
      (pss_cons (ps_if (PW.pt (pw_and (pt_cmpR op_eq (pv 6) pe_str (nomark _)) (pw_and (pt_cmpR op_ne (pe_ix ix_tup (pv 0) pe_int (fun _ _ => rfl)) pe_int (nomark _)) (pw_and1 (pt_cmpR op_ne (pe_ix ix_tup (pv 0) pe_int (fun _ _ => rfl)) pe_int (nomark _))))))
        (pss_one (ps_ret (pe_lst (pa_cons pe_str pa_nil))))
        pss_nil)
      (pss_cons (ps_if (PW.pt (pw_and (pt_cmpR op_eq (pv 6) pe_str (nomark _)) (pw_and1 (PW.pt (pw_or (pt_cmpR op_lt (pe_ix ix_tup (pv 0) pe_int (fun _ _ => rfl)) pe_int (nomark _)) (pw_or1 (pt_cmpR op_ge (pe_ix ix_tup (pv 0) pe_int (fun _ _ => rfl)) (pe_callB call_len_seq (by rfl) T.z_len (by rfl) (pa_cons (pv 4) pa_nil)) (nomark _))))))))
        (pss_one (ps_ret (pe_lst (pa_cons pe_str pa_nil))))
        pss_nil)
      (pss_cons (ps_set (i := 7) scRt.nd rfl (Or.inl rfl) (pe_lst pa_nil))
      (pss_cons (ps_if (pt_cmpR op_eq (pv 6) pe_str (nomark _))
        (pss_one (ps_set (i := 7) scRt.nd rfl (Or.inl rfl) (pe_lst (pa_cons (pe_ix ix_tup (pv 0) pe_int (fun _ _ => rfl)) pa_nil))))
        pss_nil)
      (pss_cons (ps_if (pt_cmpR op_in_seq (pv 6) (pe_tup (pa_cons pe_str (pa_cons pe_str pa_nil))) (by rfl))
        (pss_one (ps_set (i := 7) scRt.nd rfl (Or.inl rfl) (pe_callTy call_list_of (by rfl) T.z_list (by rfl) (pa_cons (pe_slice sl_tup (pv 0) (po_some pe_int) po_none) pa_nil))))
        pss_nil)
      (pss_cons (ps_for PassesOwn.never rfl (pi_list (pv 7)) (pg_name (i := 8) scRt.nd rfl (Or.inl rfl))
        (pss_one (ps_if (PW.pt (pw_or (pt_cmpR op_lt (pv 8) pe_int (nomark _)) (pw_or1 (pt_cmpR op_ge (pv 8) (pe_callB call_len_seq (by rfl) T.z_len (by rfl) (pa_cons (pv 2) pa_nil)) (nomark _)))))
            (pss_one (ps_ret (pe_lst (pa_cons pe_str pa_nil))))
            pss_nil)))
      (pss_cons (ps_if (PW.pt (pw_and (pt_cmpR op_eq (pv 6) pe_str (nomark _)) (pw_and1 (PW.pt (pw_or (pt_cmpR op_le (pe_ix ix_tup (pv 0) pe_int (fun _ _ => rfl)) (pv 1) (nomark _)) (pw_or1 (pt_cmpR op_ge (pe_ix ix_tup (pv 0) pe_int (fun _ _ => rfl)) (pv 5) (nomark _))))))))
        (pss_one (ps_ret (pe_lst (pa_cons pe_str pa_nil))))
        pss_nil)
      (pss_one (ps_ret (pe_lst pa_nil))))))))))))), ?_⟩
    rw []
    have inL : ∀ {H' : Hp} {X : Kn} {z : Addr × HO}, Has H' (X ++ L) → z ∈ L → H' z.1 = some z.2 := fun h mz => h.at_ _ (List.mem_append_right _ mz)
    have s1 : 1 ≤ sizeLine := sz (show 1 ≤ 1000000 by decide)
    have s2 : 2 ≤ sizeLine := sz (show 2 ≤ 1000000 by decide)
    have s0 : 0 ≤ sizeLine := sz (show 0 ≤ 1000000 by decide)
    cases y with
    | bell n =>
      have h0 : Has H ([] ++ L) := hH
      have g : ∀ {H' : Hp} {X : Kn}, Has H' (X ++ L) → H' a = some (HO.tup [.str "bell", .int n]) := fun h => inL h ma
      refine ⟨_, rfl, a, _, _, _, rfl, rfl, SqT.of (g (X := []) h0), atI_nat (j := 0) rfl, ?_⟩
      dsimp only [List.set]
      refine ⟨_, rfl, rfl, _, rfl, ifT (by decide +kernel) ?_⟩
      refine ⟨_, rfl, a, _, _, _, rfl, rfl, SqT.of (g (X := []) h0), atI_nat (j := 1) rfl, _, _, rfl, rfl, _, rfl, ifd (fun c0 => iteT ?_) (fun c0 => ⟨_, rfl, a, _, _, _, rfl, rfl, SqT.of (g (X := []) h0), atI_nat (j := 1) rfl, _, _, rfl, rfl, _, rfl, ifd (fun c1 => ?_) (fun c1 => ?_)⟩)⟩
      ·
        refine ⟨s1, fun rr hr1 => ?_⟩
        refine q _ rr [] ?_
        rw [show Rw.flt ms.length ws.length rs.length k ns (Rw.bell n) = some 3 from fst1_b1 (un_neg' (fun z => by have := z.1; omega))]
        exact h0.alloc hr1 _
      ·
        refine ⟨s1, fun rr hr1 => ?_⟩
        refine q _ rr [] ?_
        rw [show Rw.flt ms.length ws.length rs.length k ns (Rw.bell n) = some 3 from fst1_b1 (un_neg' (fun z => by have := z.2; omega))]
        exact h0.alloc hr1 _
      have fl : Rw.flt ms.length ws.length rs.length k ns (Rw.bell n) = none := fst1_n1 (un_pos ⟨by omega, by omega⟩)
      refine ⟨_, rfl, s2, fun p1 hp1 => ?_⟩
      have h1 := h0.alloc hp1 (HO.tup [.str "set", .str "ask"])
      refine ⟨p1, _, rfl, .inr (SqT.of (h1.get 0 rfl)), rfl, rfl, _, rfl, ifF (by decide +kernel) (iteF ?_)⟩
      refine ⟨_, rfl, rfl, _, rfl, ifF (by decide +kernel) (iteF ?_)⟩
      refine ⟨_, rfl, rfl, _, rfl, ifF (by decide +kernel) (iteF ?_)⟩
      refine ⟨s0, fun tl htl => ?_⟩
      have h2 := h1.alloc htl (HO.lst [])
      dsimp only [List.set]
      refine ⟨_, rfl, rfl, _, rfl, ifF (by decide +kernel) ?_⟩
      refine ⟨_, rfl, s2, fun p2 hp2 => ?_⟩
      have h3 := h2.alloc hp2 (HO.tup [.str "ask", .str "bump"])
      refine ⟨p2, _, rfl, .inr (SqT.of (h3.get 0 rfl)), rfl, rfl, _, rfl, ifF (by decide +kernel) ?_⟩
      refine ⟨_, rfl, tl, rfl, ⟨_, SqL.of (h3.get 1 rfl)⟩, for_list (xs := ([] : List Int).map V.int) (fun i σ H' => ∃ (o8 : Option V), σ = [some (.ref a), some (.int k), some (.ref rl), some (.ref ml), some (.ref wl), some (.int ns), some (.str "bell"), some (.ref tl), o8] ∧ Has H' ([(p2, HO.tup [.str "ask", .str "bump"]), (tl, HO.lst []), (p1, HO.tup [.str "set", .str "ask"])] ++ L) ∧ ∀ b, b < i → ∀ n, ([] : List Int)[b]? = some n → gIn rs.length n) ⟨_, rfl, h3, fun b hb => absurd hb (Nat.not_lt_zero _)⟩ (fun i σ H' _ ⟨_, _, e, _⟩ => SqL.of (e.get 1 rfl)) ?_ ?_⟩
      · rintro i x σ H' hx ⟨o8, rfl, hh, ok⟩
        cases hx
      · rintro σ H' ⟨o8, rfl, hh, ok⟩
        refine ⟨_, rfl, rfl, _, rfl, ifF (by decide +kernel) (iteF ?_)⟩
        refine ⟨s0, fun rr hr1 => q _ rr [(p2, HO.tup [.str "ask", .str "bump"]), (tl, HO.lst []), (p1, HO.tup [.str "set", .str "ask"])] ?_⟩
        rw [fl]
        exact hh.alloc hr1 _
    | set m s =>
      have h0 : Has H ([] ++ L) := hH
      have g : ∀ {H' : Hp} {X : Kn}, Has H' (X ++ L) → H' a = some (HO.tup [.str "set", .int m, .int s]) := fun h => inL h ma
      refine ⟨_, rfl, a, _, _, _, rfl, rfl, SqT.of (g (X := []) h0), atI_nat (j := 0) rfl, ?_⟩
      dsimp only [List.set]
      refine ⟨_, rfl, rfl, _, rfl, ifF (by decide +kernel) (iteF ?_)⟩
      refine ⟨_, rfl, s2, fun p1 hp1 => ?_⟩
      have h1 := h0.alloc hp1 (HO.tup [.str "set", .str "ask"])
      refine ⟨p1, _, rfl, .inr (SqT.of (h1.get 0 rfl)), rfl, rfl, _, rfl, ifT (by decide +kernel) ?_⟩
      refine ⟨_, rfl, a, _, _, _, rfl, rfl, SqT.of (g (X := [(p1, HO.tup [.str "set", .str "ask"])]) h1), atI_nat (j := 1) rfl, _, _, rfl, rfl, _, rfl, ifd (fun c0 => iteT ?_) (fun c0 => ⟨_, rfl, a, _, _, _, rfl, rfl, SqT.of (g (X := [(p1, HO.tup [.str "set", .str "ask"])]) h1), atI_nat (j := 1) rfl, _, rfl, ml, _, rfl, .inl (SqL.of (inL (X := [(p1, HO.tup [.str "set", .str "ask"])]) h1 mm)), _, _, rfl, rfl, _, rfl, ifd (fun c1 => ?_) (fun c1 => ?_)⟩)⟩
      ·
        refine ⟨s1, fun rr hr1 => ?_⟩
        refine q _ rr [(p1, HO.tup [.str "set", .str "ask"])] ?_
        rw [show Rw.flt ms.length ws.length rs.length k ns (Rw.set m s) = some 16 from fst1_b1 (un_neg' (fun z => by have := z.1; omega))]
        exact h1.alloc hr1 _
      ·
        refine ⟨s1, fun rr hr1 => ?_⟩
        refine q _ rr [(p1, HO.tup [.str "set", .str "ask"])] ?_
        rw [show Rw.flt ms.length ws.length rs.length k ns (Rw.set m s) = some 16 from fst1_b1 (un_neg' (fun z => by have := z.2; omega))]
        exact h1.alloc hr1 _
      have m0 : un (gIn ms.length m) 16 = none := un_pos ⟨by omega, by omega⟩
      refine ⟨_, rfl, rfl, _, rfl, ifT (by decide +kernel) ?_⟩
      refine ⟨_, rfl, a, _, _, _, rfl, rfl, SqT.of (g (X := [(p1, HO.tup [.str "set", .str "ask"])]) h1), atI_nat (j := 2) rfl, rfl, _, rfl, ?_⟩
      rw [decInt]
      refine ne2_if (fun z => ⟨_, rfl, a, _, _, _, rfl, rfl, SqT.of (g (X := [(p1, HO.tup [.str "set", .str "ask"])]) h1), atI_nat (j := 2) rfl, rfl, _, rfl, by rw [decInt]; exact z⟩) (fun d => ?_) (fun d => ?_)
      ·
        refine ⟨s1, fun rr hr1 => ?_⟩
        refine q _ rr [(p1, HO.tup [.str "set", .str "ask"])] ?_
        rw [show Rw.flt ms.length ws.length rs.length k ns (Rw.set m s) = some 2 from fst1_b2 m0 (un_neg' d)]
        exact h1.alloc hr1 _
      have fl : Rw.flt ms.length ws.length rs.length k ns (Rw.set m s) = none := fst1_n2 m0 (un_pos d)
      refine ⟨_, rfl, rfl, _, rfl, ifF (by decide +kernel) (iteF ?_)⟩
      refine ⟨s0, fun tl htl => ?_⟩
      have h2 := h1.alloc htl (HO.lst [])
      dsimp only [List.set]
      refine ⟨_, rfl, rfl, _, rfl, ifF (by decide +kernel) ?_⟩
      refine ⟨_, rfl, s2, fun p2 hp2 => ?_⟩
      have h3 := h2.alloc hp2 (HO.tup [.str "ask", .str "bump"])
      refine ⟨p2, _, rfl, .inr (SqT.of (h3.get 0 rfl)), rfl, rfl, _, rfl, ifF (by decide +kernel) ?_⟩
      refine ⟨_, rfl, tl, rfl, ⟨_, SqL.of (h3.get 1 rfl)⟩, for_list (xs := ([] : List Int).map V.int) (fun i σ H' => ∃ (o8 : Option V), σ = [some (.ref a), some (.int k), some (.ref rl), some (.ref ml), some (.ref wl), some (.int ns), some (.str "set"), some (.ref tl), o8] ∧ Has H' ([(p2, HO.tup [.str "ask", .str "bump"]), (tl, HO.lst []), (p1, HO.tup [.str "set", .str "ask"])] ++ L) ∧ ∀ b, b < i → ∀ n, ([] : List Int)[b]? = some n → gIn rs.length n) ⟨_, rfl, h3, fun b hb => absurd hb (Nat.not_lt_zero _)⟩ (fun i σ H' _ ⟨_, _, e, _⟩ => SqL.of (e.get 1 rfl)) ?_ ?_⟩
      · rintro i x σ H' hx ⟨o8, rfl, hh, ok⟩
        cases hx
      · rintro σ H' ⟨o8, rfl, hh, ok⟩
        refine ⟨_, rfl, rfl, _, rfl, ifF (by decide +kernel) (iteF ?_)⟩
        refine ⟨s0, fun rr hr1 => q _ rr [(p2, HO.tup [.str "ask", .str "bump"]), (tl, HO.lst []), (p1, HO.tup [.str "set", .str "ask"])] ?_⟩
        rw [fl]
        exact hh.alloc hr1 _
    | ask m x1 x2 =>
      have h0 : Has H ([] ++ L) := hH
      have g : ∀ {H' : Hp} {X : Kn}, Has H' (X ++ L) → H' a = some (HO.tup [.str "ask", .int m, .int x1, .int x2]) := fun h => inL h ma
      refine ⟨_, rfl, a, _, _, _, rfl, rfl, SqT.of (g (X := []) h0), atI_nat (j := 0) rfl, ?_⟩
      dsimp only [List.set]
      refine ⟨_, rfl, rfl, _, rfl, ifF (by decide +kernel) (iteF ?_)⟩
      refine ⟨_, rfl, s2, fun p1 hp1 => ?_⟩
      have h1 := h0.alloc hp1 (HO.tup [.str "set", .str "ask"])
      refine ⟨p1, _, rfl, .inr (SqT.of (h1.get 0 rfl)), rfl, rfl, _, rfl, ifT (by decide +kernel) ?_⟩
      refine ⟨_, rfl, a, _, _, _, rfl, rfl, SqT.of (g (X := [(p1, HO.tup [.str "set", .str "ask"])]) h1), atI_nat (j := 1) rfl, _, _, rfl, rfl, _, rfl, ifd (fun c0 => iteT ?_) (fun c0 => ⟨_, rfl, a, _, _, _, rfl, rfl, SqT.of (g (X := [(p1, HO.tup [.str "set", .str "ask"])]) h1), atI_nat (j := 1) rfl, _, rfl, ml, _, rfl, .inl (SqL.of (inL (X := [(p1, HO.tup [.str "set", .str "ask"])]) h1 mm)), _, _, rfl, rfl, _, rfl, ifd (fun c1 => ?_) (fun c1 => ?_)⟩)⟩
      ·
        refine ⟨s1, fun rr hr1 => ?_⟩
        refine q _ rr [(p1, HO.tup [.str "set", .str "ask"])] ?_
        rw [show Rw.flt ms.length ws.length rs.length k ns (Rw.ask m x1 x2) = some 16 from fst1_b1 (un_neg' (fun z => by have := z.1; omega))]
        exact h1.alloc hr1 _
      ·
        refine ⟨s1, fun rr hr1 => ?_⟩
        refine q _ rr [(p1, HO.tup [.str "set", .str "ask"])] ?_
        rw [show Rw.flt ms.length ws.length rs.length k ns (Rw.ask m x1 x2) = some 16 from fst1_b1 (un_neg' (fun z => by have := z.2; omega))]
        exact h1.alloc hr1 _
      have m0 : un (gIn ms.length m) 16 = none := un_pos ⟨by omega, by omega⟩
      refine ⟨_, rfl, rfl, _, rfl, ifF (by decide +kernel) (iteF ?_)⟩
      refine ⟨_, rfl, rfl, _, rfl, ifF (by decide +kernel) (iteF ?_)⟩
      refine ⟨s0, fun tl htl => ?_⟩
      have h2 := h1.alloc htl (HO.lst [])
      dsimp only [List.set]
      refine ⟨_, rfl, rfl, _, rfl, ifF (by decide +kernel) ?_⟩
      refine ⟨_, rfl, s2, fun p2 hp2 => ?_⟩
      have h3 := h2.alloc hp2 (HO.tup [.str "ask", .str "bump"])
      refine ⟨p2, _, rfl, .inr (SqT.of (h3.get 0 rfl)), rfl, rfl, _, rfl, ifT (by decide +kernel) ?_⟩
      refine ⟨_, rfl, _, rfl, a, _, rfl, SqT.of (g (X := [(p2, HO.tup [.str "ask", .str "bump"]), (tl, HO.lst []), (p1, HO.tup [.str "set", .str "ask"])]) h3), (show ¬ (HT.sIx 4 0 (some 2) = 0 ∧ HT.sIx 4 4 none = 4) from by decide), fun t3 ht3 => ?_⟩
      have h4 := h3.alloc ht3 (HO.tup [.int x1, .int x2])
      refine ⟨t3, _, rfl, .inr (SqT.of (h4.get 0 rfl)), fun t4 ht4 => ?_⟩
      have h5 := h4.alloc ht4 (HO.lst [.int x1, .int x2])
      dsimp only [List.set]
      have fle : Rw.flt ms.length ws.length rs.length k ns (Rw.ask m x1 x2) = fst1 (([x1, x2] : List Int).map fun n => un (gIn rs.length n) 15) := fst1_sk m0
      refine ⟨_, rfl, t4, rfl, ⟨_, SqL.of (h5.get 0 rfl)⟩, for_list (xs := ([x1, x2] : List Int).map V.int) (fun i σ H' => ∃ (o8 : Option V), σ = [some (.ref a), some (.int k), some (.ref rl), some (.ref ml), some (.ref wl), some (.int ns), some (.str "ask"), some (.ref t4), o8] ∧ Has H' ([(t4, HO.lst [.int x1, .int x2]), (t3, HO.tup [.int x1, .int x2]), (p2, HO.tup [.str "ask", .str "bump"]), (tl, HO.lst []), (p1, HO.tup [.str "set", .str "ask"])] ++ L) ∧ ∀ b, b < i → ∀ n, ([x1, x2] : List Int)[b]? = some n → gIn rs.length n) ⟨_, rfl, h5, fun b hb => absurd hb (Nat.not_lt_zero _)⟩ (fun i σ H' _ ⟨_, _, e, _⟩ => SqL.of (e.get 0 rfl)) ?_ ?_⟩
      · rintro i x σ H' hx ⟨o8, rfl, hh, ok⟩
        rw [List.getElem?_map] at hx
        obtain ⟨n, hn, rfl⟩ := Option.map_eq_some_iff.mp hx
        refine ⟨_, rfl, _, _, rfl, rfl, _, rfl, ifd (fun c0 => iteT ?_) (fun c0 => ⟨_, rfl, _, rfl, rl, _, rfl, .inl (SqL.of (inL (X := [(t4, HO.lst [.int x1, .int x2]), (t3, HO.tup [.int x1, .int x2]), (p2, HO.tup [.str "ask", .str "bump"]), (tl, HO.lst []), (p1, HO.tup [.str "set", .str "ask"])]) hh mr)), _, _, rfl, rfl, _, rfl, ifd (fun c1 => ?_) (fun c1 => ⟨_, rfl, hh, fun b hb m2 hm2 => ?_⟩)⟩)⟩
        ·
          refine ⟨s1, fun rr hr1 => ?_⟩
          refine q _ rr [(t4, HO.lst [.int x1, .int x2]), (t3, HO.tup [.int x1, .int x2]), (p2, HO.tup [.str "ask", .str "bump"]), (tl, HO.lst []), (p1, HO.tup [.str "set", .str "ask"])] ?_
          rw [show Rw.flt ms.length ws.length rs.length k ns (Rw.ask m x1 x2) = some 15 from fle.trans (fst1_at (n := i) (fun b hb => tgn ok (by have := (List.getElem?_eq_some_iff.mp hn).1; omega) hb) (by rw [List.getElem?_map, hn]; exact congrArg some (un_neg' (fun z => by have := z.1; omega))))]
          exact hh.alloc hr1 _
        ·
          refine ⟨s1, fun rr hr1 => ?_⟩
          refine q _ rr [(t4, HO.lst [.int x1, .int x2]), (t3, HO.tup [.int x1, .int x2]), (p2, HO.tup [.str "ask", .str "bump"]), (tl, HO.lst []), (p1, HO.tup [.str "set", .str "ask"])] ?_
          rw [show Rw.flt ms.length ws.length rs.length k ns (Rw.ask m x1 x2) = some 15 from fle.trans (fst1_at (n := i) (fun b hb => tgn ok (by have := (List.getElem?_eq_some_iff.mp hn).1; omega) hb) (by rw [List.getElem?_map, hn]; exact congrArg some (un_neg' (fun z => by have := z.2; omega))))]
          exact hh.alloc hr1 _
        · by_cases c : b = i
          · subst c; rw [hn] at hm2; cases hm2; exact ⟨by omega, by omega⟩
          · exact ok b (by omega) m2 hm2
      · rintro σ H' ⟨o8, rfl, hh, ok⟩
        have fl : Rw.flt ms.length ws.length rs.length k ns (Rw.ask m x1 x2) = none := fle.trans (fst1_none fun o ho => by obtain ⟨n, hn, rfl⟩ := List.mem_map.mp ho; obtain ⟨b, hb⟩ := List.mem_iff_getElem?.mp hn; exact un_pos (ok b (by rw [List.length_map]; exact (List.getElem?_eq_some_iff.mp hb).1) n hb))
        refine ⟨_, rfl, rfl, _, rfl, ifF (by decide +kernel) (iteF ?_)⟩
        refine ⟨s0, fun rr hr1 => q _ rr [(t4, HO.lst [.int x1, .int x2]), (t3, HO.tup [.int x1, .int x2]), (p2, HO.tup [.str "ask", .str "bump"]), (tl, HO.lst []), (p1, HO.tup [.str "set", .str "ask"])] ?_⟩
        rw [fl]
        exact hh.alloc hr1 _
    | bump c r =>
      have h0 : Has H ([] ++ L) := hH
      have g : ∀ {H' : Hp} {X : Kn}, Has H' (X ++ L) → H' a = some (HO.tup [.str "bump", .int c, .int r]) := fun h => inL h ma
      refine ⟨_, rfl, a, _, _, _, rfl, rfl, SqT.of (g (X := []) h0), atI_nat (j := 0) rfl, ?_⟩
      dsimp only [List.set]
      refine ⟨_, rfl, rfl, _, rfl, ifF (by decide +kernel) (iteF ?_)⟩
      refine ⟨_, rfl, s2, fun p1 hp1 => ?_⟩
      have h1 := h0.alloc hp1 (HO.tup [.str "set", .str "ask"])
      refine ⟨p1, _, rfl, .inr (SqT.of (h1.get 0 rfl)), rfl, rfl, _, rfl, ifF (by decide +kernel) (iteF ?_)⟩
      refine ⟨_, rfl, rfl, _, rfl, ifF (by decide +kernel) (iteF ?_)⟩
      refine ⟨_, rfl, rfl, _, rfl, ifT (by decide +kernel) ?_⟩
      refine ⟨_, rfl, a, _, _, _, rfl, rfl, SqT.of (g (X := [(p1, HO.tup [.str "set", .str "ask"])]) h1), atI_nat (j := 1) rfl, _, _, rfl, rfl, _, rfl, ifd (fun c0 => iteT ?_) (fun c0 => ⟨_, rfl, a, _, _, _, rfl, rfl, SqT.of (g (X := [(p1, HO.tup [.str "set", .str "ask"])]) h1), atI_nat (j := 1) rfl, _, rfl, wl, _, rfl, .inl (SqL.of (inL (X := [(p1, HO.tup [.str "set", .str "ask"])]) h1 mw)), _, _, rfl, rfl, _, rfl, ifd (fun c1 => ?_) (fun c1 => ?_)⟩)⟩
      ·
        refine ⟨s1, fun rr hr1 => ?_⟩
        refine q _ rr [(p1, HO.tup [.str "set", .str "ask"])] ?_
        rw [show Rw.flt ms.length ws.length rs.length k ns (Rw.bump c r) = some 17 from fst1_b1 (un_neg' (fun z => by have := z.1; omega))]
        exact h1.alloc hr1 _
      ·
        refine ⟨s1, fun rr hr1 => ?_⟩
        refine q _ rr [(p1, HO.tup [.str "set", .str "ask"])] ?_
        rw [show Rw.flt ms.length ws.length rs.length k ns (Rw.bump c r) = some 17 from fst1_b1 (un_neg' (fun z => by have := z.2; omega))]
        exact h1.alloc hr1 _
      have m0 : un (gIn ws.length c) 17 = none := un_pos ⟨by omega, by omega⟩
      refine ⟨s0, fun tl htl => ?_⟩
      have h2 := h1.alloc htl (HO.lst [])
      dsimp only [List.set]
      refine ⟨_, rfl, rfl, _, rfl, ifF (by decide +kernel) ?_⟩
      refine ⟨_, rfl, s2, fun p2 hp2 => ?_⟩
      have h3 := h2.alloc hp2 (HO.tup [.str "ask", .str "bump"])
      refine ⟨p2, _, rfl, .inr (SqT.of (h3.get 0 rfl)), rfl, rfl, _, rfl, ifT (by decide +kernel) ?_⟩
      refine ⟨_, rfl, _, rfl, a, _, rfl, SqT.of (g (X := [(p2, HO.tup [.str "ask", .str "bump"]), (tl, HO.lst []), (p1, HO.tup [.str "set", .str "ask"])]) h3), (show ¬ (HT.sIx 3 0 (some 2) = 0 ∧ HT.sIx 3 3 none = 3) from by decide), fun t3 ht3 => ?_⟩
      have h4 := h3.alloc ht3 (HO.tup [.int r])
      refine ⟨t3, _, rfl, .inr (SqT.of (h4.get 0 rfl)), fun t4 ht4 => ?_⟩
      have h5 := h4.alloc ht4 (HO.lst [.int r])
      dsimp only [List.set]
      have fle : Rw.flt ms.length ws.length rs.length k ns (Rw.bump c r) = fst1 (([r] : List Int).map fun n => un (gIn rs.length n) 15) := fst1_sk m0
      refine ⟨_, rfl, t4, rfl, ⟨_, SqL.of (h5.get 0 rfl)⟩, for_list (xs := ([r] : List Int).map V.int) (fun i σ H' => ∃ (o8 : Option V), σ = [some (.ref a), some (.int k), some (.ref rl), some (.ref ml), some (.ref wl), some (.int ns), some (.str "bump"), some (.ref t4), o8] ∧ Has H' ([(t4, HO.lst [.int r]), (t3, HO.tup [.int r]), (p2, HO.tup [.str "ask", .str "bump"]), (tl, HO.lst []), (p1, HO.tup [.str "set", .str "ask"])] ++ L) ∧ ∀ b, b < i → ∀ n, ([r] : List Int)[b]? = some n → gIn rs.length n) ⟨_, rfl, h5, fun b hb => absurd hb (Nat.not_lt_zero _)⟩ (fun i σ H' _ ⟨_, _, e, _⟩ => SqL.of (e.get 0 rfl)) ?_ ?_⟩
      · rintro i x σ H' hx ⟨o8, rfl, hh, ok⟩
        rw [List.getElem?_map] at hx
        obtain ⟨n, hn, rfl⟩ := Option.map_eq_some_iff.mp hx
        refine ⟨_, rfl, _, _, rfl, rfl, _, rfl, ifd (fun c0 => iteT ?_) (fun c0 => ⟨_, rfl, _, rfl, rl, _, rfl, .inl (SqL.of (inL (X := [(t4, HO.lst [.int r]), (t3, HO.tup [.int r]), (p2, HO.tup [.str "ask", .str "bump"]), (tl, HO.lst []), (p1, HO.tup [.str "set", .str "ask"])]) hh mr)), _, _, rfl, rfl, _, rfl, ifd (fun c1 => ?_) (fun c1 => ⟨_, rfl, hh, fun b hb m2 hm2 => ?_⟩)⟩)⟩
        ·
          refine ⟨s1, fun rr hr1 => ?_⟩
          refine q _ rr [(t4, HO.lst [.int r]), (t3, HO.tup [.int r]), (p2, HO.tup [.str "ask", .str "bump"]), (tl, HO.lst []), (p1, HO.tup [.str "set", .str "ask"])] ?_
          rw [show Rw.flt ms.length ws.length rs.length k ns (Rw.bump c r) = some 15 from fle.trans (fst1_at (n := i) (fun b hb => tgn ok (by have := (List.getElem?_eq_some_iff.mp hn).1; omega) hb) (by rw [List.getElem?_map, hn]; exact congrArg some (un_neg' (fun z => by have := z.1; omega))))]
          exact hh.alloc hr1 _
        ·
          refine ⟨s1, fun rr hr1 => ?_⟩
          refine q _ rr [(t4, HO.lst [.int r]), (t3, HO.tup [.int r]), (p2, HO.tup [.str "ask", .str "bump"]), (tl, HO.lst []), (p1, HO.tup [.str "set", .str "ask"])] ?_
          rw [show Rw.flt ms.length ws.length rs.length k ns (Rw.bump c r) = some 15 from fle.trans (fst1_at (n := i) (fun b hb => tgn ok (by have := (List.getElem?_eq_some_iff.mp hn).1; omega) hb) (by rw [List.getElem?_map, hn]; exact congrArg some (un_neg' (fun z => by have := z.2; omega))))]
          exact hh.alloc hr1 _
        · by_cases c : b = i
          · subst c; rw [hn] at hm2; cases hm2; exact ⟨by omega, by omega⟩
          · exact ok b (by omega) m2 hm2
      · rintro σ H' ⟨o8, rfl, hh, ok⟩
        have fl : Rw.flt ms.length ws.length rs.length k ns (Rw.bump c r) = none := fle.trans (fst1_none fun o ho => by obtain ⟨n, hn, rfl⟩ := List.mem_map.mp ho; obtain ⟨b, hb⟩ := List.mem_iff_getElem?.mp hn; exact un_pos (ok b (by rw [List.length_map]; exact (List.getElem?_eq_some_iff.mp hb).1) n hb))
        refine ⟨_, rfl, rfl, _, rfl, ifF (by decide +kernel) (iteF ?_)⟩
        refine ⟨s0, fun rr hr1 => q _ rr [(t4, HO.lst [.int r]), (t3, HO.tup [.int r]), (p2, HO.tup [.str "ask", .str "bump"]), (tl, HO.lst []), (p1, HO.tup [.str "set", .str "ask"])] ?_⟩
        rw [fl]
        exact hh.alloc hr1 _
    | go r =>
      have h0 : Has H ([] ++ L) := hH
      have g : ∀ {H' : Hp} {X : Kn}, Has H' (X ++ L) → H' a = some (HO.tup [.str "go", .int r]) := fun h => inL h ma
      refine ⟨_, rfl, a, _, _, _, rfl, rfl, SqT.of (g (X := []) h0), atI_nat (j := 0) rfl, ?_⟩
      dsimp only [List.set]
      refine ⟨_, rfl, rfl, _, rfl, ifF (by decide +kernel) (iteF ?_)⟩
      refine ⟨_, rfl, s2, fun p1 hp1 => ?_⟩
      have h1 := h0.alloc hp1 (HO.tup [.str "set", .str "ask"])
      refine ⟨p1, _, rfl, .inr (SqT.of (h1.get 0 rfl)), rfl, rfl, _, rfl, ifF (by decide +kernel) (iteF ?_)⟩
      refine ⟨_, rfl, rfl, _, rfl, ifF (by decide +kernel) (iteF ?_)⟩
      refine ⟨_, rfl, rfl, _, rfl, ifF (by decide +kernel) (iteF ?_)⟩
      refine ⟨s0, fun tl htl => ?_⟩
      have h2 := h1.alloc htl (HO.lst [])
      dsimp only [List.set]
      refine ⟨_, rfl, rfl, _, rfl, ifT (by decide +kernel) ?_⟩
      refine ⟨_, rfl, a, _, _, _, rfl, rfl, SqT.of (g (X := [(tl, HO.lst []), (p1, HO.tup [.str "set", .str "ask"])]) h2), atI_nat (j := 1) rfl, s1, fun t2 ht2 => ?_⟩
      have h3 := h2.alloc ht2 (HO.lst [.int r])
      dsimp only [List.set]
      refine ⟨_, rfl, s2, fun p2 hp2 => ?_⟩
      have h4 := h3.alloc hp2 (HO.tup [.str "ask", .str "bump"])
      refine ⟨p2, _, rfl, .inr (SqT.of (h4.get 0 rfl)), rfl, rfl, _, rfl, ifF (by decide +kernel) ?_⟩
      have fle : Rw.flt ms.length ws.length rs.length k ns (Rw.go r) = fst1 (([r] : List Int).map fun n => un (gIn rs.length n) 15) := rfl
      refine ⟨_, rfl, t2, rfl, ⟨_, SqL.of (h4.get 1 rfl)⟩, for_list (xs := ([r] : List Int).map V.int) (fun i σ H' => ∃ (o8 : Option V), σ = [some (.ref a), some (.int k), some (.ref rl), some (.ref ml), some (.ref wl), some (.int ns), some (.str "go"), some (.ref t2), o8] ∧ Has H' ([(p2, HO.tup [.str "ask", .str "bump"]), (t2, HO.lst [.int r]), (tl, HO.lst []), (p1, HO.tup [.str "set", .str "ask"])] ++ L) ∧ ∀ b, b < i → ∀ n, ([r] : List Int)[b]? = some n → gIn rs.length n) ⟨_, rfl, h4, fun b hb => absurd hb (Nat.not_lt_zero _)⟩ (fun i σ H' _ ⟨_, _, e, _⟩ => SqL.of (e.get 1 rfl)) ?_ ?_⟩
      · rintro i x σ H' hx ⟨o8, rfl, hh, ok⟩
        rw [List.getElem?_map] at hx
        obtain ⟨n, hn, rfl⟩ := Option.map_eq_some_iff.mp hx
        refine ⟨_, rfl, _, _, rfl, rfl, _, rfl, ifd (fun c0 => iteT ?_) (fun c0 => ⟨_, rfl, _, rfl, rl, _, rfl, .inl (SqL.of (inL (X := [(p2, HO.tup [.str "ask", .str "bump"]), (t2, HO.lst [.int r]), (tl, HO.lst []), (p1, HO.tup [.str "set", .str "ask"])]) hh mr)), _, _, rfl, rfl, _, rfl, ifd (fun c1 => ?_) (fun c1 => ⟨_, rfl, hh, fun b hb m2 hm2 => ?_⟩)⟩)⟩
        ·
          refine ⟨s1, fun rr hr1 => ?_⟩
          refine q _ rr [(p2, HO.tup [.str "ask", .str "bump"]), (t2, HO.lst [.int r]), (tl, HO.lst []), (p1, HO.tup [.str "set", .str "ask"])] ?_
          rw [show Rw.flt ms.length ws.length rs.length k ns (Rw.go r) = some 15 from fle.trans (fst1_at (n := i) (fun b hb => tgn ok (by have := (List.getElem?_eq_some_iff.mp hn).1; omega) hb) (by rw [List.getElem?_map, hn]; exact congrArg some (un_neg' (fun z => by have := z.1; omega))))]
          exact hh.alloc hr1 _
        ·
          refine ⟨s1, fun rr hr1 => ?_⟩
          refine q _ rr [(p2, HO.tup [.str "ask", .str "bump"]), (t2, HO.lst [.int r]), (tl, HO.lst []), (p1, HO.tup [.str "set", .str "ask"])] ?_
          rw [show Rw.flt ms.length ws.length rs.length k ns (Rw.go r) = some 15 from fle.trans (fst1_at (n := i) (fun b hb => tgn ok (by have := (List.getElem?_eq_some_iff.mp hn).1; omega) hb) (by rw [List.getElem?_map, hn]; exact congrArg some (un_neg' (fun z => by have := z.2; omega))))]
          exact hh.alloc hr1 _
        · by_cases c : b = i
          · subst c; rw [hn] at hm2; cases hm2; exact ⟨by omega, by omega⟩
          · exact ok b (by omega) m2 hm2
      · rintro σ H' ⟨o8, rfl, hh, ok⟩
        have fl : Rw.flt ms.length ws.length rs.length k ns (Rw.go r) = none := fle.trans (fst1_none fun o ho => by obtain ⟨n, hn, rfl⟩ := List.mem_map.mp ho; obtain ⟨b, hb⟩ := List.mem_iff_getElem?.mp hn; exact un_pos (ok b (by rw [List.length_map]; exact (List.getElem?_eq_some_iff.mp hb).1) n hb))
        refine ⟨_, rfl, rfl, _, rfl, ifF (by decide +kernel) (iteF ?_)⟩
        refine ⟨s0, fun rr hr1 => q _ rr [(p2, HO.tup [.str "ask", .str "bump"]), (t2, HO.lst [.int r]), (tl, HO.lst []), (p1, HO.tup [.str "set", .str "ask"])] ?_⟩
        rw [fl]
        exact hh.alloc hr1 _
    | call s =>
      have h0 : Has H ([] ++ L) := hH
      have g : ∀ {H' : Hp} {X : Kn}, Has H' (X ++ L) → H' a = some (HO.tup [.str "call", .int s]) := fun h => inL h ma
      refine ⟨_, rfl, a, _, _, _, rfl, rfl, SqT.of (g (X := []) h0), atI_nat (j := 0) rfl, ?_⟩
      dsimp only [List.set]
      refine ⟨_, rfl, rfl, _, rfl, ifF (by decide +kernel) (iteF ?_)⟩
      refine ⟨_, rfl, s2, fun p1 hp1 => ?_⟩
      have h1 := h0.alloc hp1 (HO.tup [.str "set", .str "ask"])
      refine ⟨p1, _, rfl, .inr (SqT.of (h1.get 0 rfl)), rfl, rfl, _, rfl, ifF (by decide +kernel) (iteF ?_)⟩
      refine ⟨_, rfl, rfl, _, rfl, ifF (by decide +kernel) (iteF ?_)⟩
      refine ⟨_, rfl, rfl, _, rfl, ifF (by decide +kernel) (iteF ?_)⟩
      refine ⟨s0, fun tl htl => ?_⟩
      have h2 := h1.alloc htl (HO.lst [])
      dsimp only [List.set]
      refine ⟨_, rfl, rfl, _, rfl, ifF (by decide +kernel) ?_⟩
      refine ⟨_, rfl, s2, fun p2 hp2 => ?_⟩
      have h3 := h2.alloc hp2 (HO.tup [.str "ask", .str "bump"])
      refine ⟨p2, _, rfl, .inr (SqT.of (h3.get 0 rfl)), rfl, rfl, _, rfl, ifF (by decide +kernel) ?_⟩
      refine ⟨_, rfl, tl, rfl, ⟨_, SqL.of (h3.get 1 rfl)⟩, for_list (xs := ([] : List Int).map V.int) (fun i σ H' => ∃ (o8 : Option V), σ = [some (.ref a), some (.int k), some (.ref rl), some (.ref ml), some (.ref wl), some (.int ns), some (.str "call"), some (.ref tl), o8] ∧ Has H' ([(p2, HO.tup [.str "ask", .str "bump"]), (tl, HO.lst []), (p1, HO.tup [.str "set", .str "ask"])] ++ L) ∧ ∀ b, b < i → ∀ n, ([] : List Int)[b]? = some n → gIn rs.length n) ⟨_, rfl, h3, fun b hb => absurd hb (Nat.not_lt_zero _)⟩ (fun i σ H' _ ⟨_, _, e, _⟩ => SqL.of (e.get 1 rfl)) ?_ ?_⟩
      · rintro i x σ H' hx ⟨o8, rfl, hh, ok⟩
        cases hx
      · rintro σ H' ⟨o8, rfl, hh, ok⟩
        refine ⟨_, rfl, rfl, _, rfl, ifT (by decide +kernel) ?_⟩
        refine ⟨_, rfl, a, _, _, _, rfl, rfl, SqT.of (g (X := [(p2, HO.tup [.str "ask", .str "bump"]), (tl, HO.lst []), (p1, HO.tup [.str "set", .str "ask"])]) hh), atI_nat (j := 1) rfl, _, rfl, _, _, rfl, rfl, _, rfl, ifd (fun c0 => iteT ?_) (fun c0 => ⟨_, rfl, a, _, _, _, rfl, rfl, SqT.of (g (X := [(p2, HO.tup [.str "ask", .str "bump"]), (tl, HO.lst []), (p1, HO.tup [.str "set", .str "ask"])]) hh), atI_nat (j := 1) rfl, _, rfl, _, _, rfl, rfl, _, rfl, ifd (fun c1 => ?_) (fun c1 => ?_)⟩)⟩
        ·
          refine ⟨s1, fun rr hr1 => ?_⟩
          refine q _ rr [(p2, HO.tup [.str "ask", .str "bump"]), (tl, HO.lst []), (p1, HO.tup [.str "set", .str "ask"])] ?_
          rw [show Rw.flt ms.length ws.length rs.length k ns (Rw.call s) = some 14 from fst1_b1 (un_neg' (fun z => by have := z.1; omega))]
          exact hh.alloc hr1 _
        ·
          refine ⟨s1, fun rr hr1 => ?_⟩
          refine q _ rr [(p2, HO.tup [.str "ask", .str "bump"]), (tl, HO.lst []), (p1, HO.tup [.str "set", .str "ask"])] ?_
          rw [show Rw.flt ms.length ws.length rs.length k ns (Rw.call s) = some 14 from fst1_b1 (un_neg' (fun z => by have := z.2; omega))]
          exact hh.alloc hr1 _
        have fl : Rw.flt ms.length ws.length rs.length k ns (Rw.call s) = none := fst1_n1 (un_pos ⟨by omega, by omega⟩)
        refine ⟨s0, fun rr hr1 => q _ rr [(p2, HO.tup [.str "ask", .str "bump"]), (tl, HO.lst []), (p1, HO.tup [.str "set", .str "ask"])] ?_⟩
        rw [fl]
        exact hh.alloc hr1 _
    | fin =>
      have h0 : Has H ([] ++ L) := hH
      have g : ∀ {H' : Hp} {X : Kn}, Has H' (X ++ L) → H' a = some (HO.tup [.str "end"]) := fun h => inL h ma
      refine ⟨_, rfl, a, _, _, _, rfl, rfl, SqT.of (g (X := []) h0), atI_nat (j := 0) rfl, ?_⟩
      dsimp only [List.set]
      refine ⟨_, rfl, rfl, _, rfl, ifF (by decide +kernel) (iteF ?_)⟩
      refine ⟨_, rfl, s2, fun p1 hp1 => ?_⟩
      have h1 := h0.alloc hp1 (HO.tup [.str "set", .str "ask"])
      refine ⟨p1, _, rfl, .inr (SqT.of (h1.get 0 rfl)), rfl, rfl, _, rfl, ifF (by decide +kernel) (iteF ?_)⟩
      refine ⟨_, rfl, rfl, _, rfl, ifF (by decide +kernel) (iteF ?_)⟩
      refine ⟨_, rfl, rfl, _, rfl, ifF (by decide +kernel) (iteF ?_)⟩
      refine ⟨s0, fun tl htl => ?_⟩
      have h2 := h1.alloc htl (HO.lst [])
      dsimp only [List.set]
      refine ⟨_, rfl, rfl, _, rfl, ifF (by decide +kernel) ?_⟩
      refine ⟨_, rfl, s2, fun p2 hp2 => ?_⟩
      have h3 := h2.alloc hp2 (HO.tup [.str "ask", .str "bump"])
      refine ⟨p2, _, rfl, .inr (SqT.of (h3.get 0 rfl)), rfl, rfl, _, rfl, ifF (by decide +kernel) ?_⟩
      refine ⟨_, rfl, tl, rfl, ⟨_, SqL.of (h3.get 1 rfl)⟩, for_list (xs := ([] : List Int).map V.int) (fun i σ H' => ∃ (o8 : Option V), σ = [some (.ref a), some (.int k), some (.ref rl), some (.ref ml), some (.ref wl), some (.int ns), some (.str "end"), some (.ref tl), o8] ∧ Has H' ([(p2, HO.tup [.str "ask", .str "bump"]), (tl, HO.lst []), (p1, HO.tup [.str "set", .str "ask"])] ++ L) ∧ ∀ b, b < i → ∀ n, ([] : List Int)[b]? = some n → gIn rs.length n) ⟨_, rfl, h3, fun b hb => absurd hb (Nat.not_lt_zero _)⟩ (fun i σ H' _ ⟨_, _, e, _⟩ => SqL.of (e.get 1 rfl)) ?_ ?_⟩
      · rintro i x σ H' hx ⟨o8, rfl, hh, ok⟩
        cases hx
      · rintro σ H' ⟨o8, rfl, hh, ok⟩
        have fl : Rw.flt ms.length ws.length rs.length k ns Rw.fin = none := rfl
        refine ⟨_, rfl, rfl, _, rfl, ifF (by decide +kernel) (iteF ?_)⟩
        refine ⟨s0, fun rr hr1 => q _ rr [(p2, HO.tup [.str "ask", .str "bump"]), (tl, HO.lst []), (p1, HO.tup [.str "set", .str "ask"])] ?_⟩
        rw [fl]
        exact hh.alloc hr1 _
end

end P


set_option Elab.async false
set_option linter.all false
set_option maxRecDepth 100000
set_option maxHeartbeats 4000000
namespace P
open PySem L2

def Rw.d (x : Rw) : PyData := .tuple (.str x.ws :: x.ns.map PyData.int)
def rwD (rs : List (Addr × Rw)) : PyData := .list (rs.map fun x => x.2.d)
def ssD (ss : Ss) : PyData := .list (ss.map fun z => rwD z.2)
theorem Rw.lay (x : Rw) : x.d.canLay0 = true := by
  cases x <;> simp [Rw.d, PyData.canLay0, PyData.canLayAll0, Rw.ns, Rw.ws] <;> decide +kernel
theorem Rw.dep (x : Rw) : x.d.depth ≤ 1 := by
  cases x <;> simp [Rw.d, PyData.depth, PyData.depthAll, Rw.ns]
theorem rwD_lay (rs : List (Addr × Rw)) : (rwD rs).canLay0 = true := by
  unfold rwD; rw [PyData.canLay0]; exact canLayAll_map _ _ fun x _ => x.2.lay
theorem rwD_dep (rs : List (Addr × Rw)) : (rwD rs).depth ≤ 2 := by
  unfold rwD; rw [PyData.depth]; exact Nat.add_le_add_right (depthAll_map _ 1 _ fun x _ => x.2.dep) 1
theorem rwD_sh (rs : List (Addr × Rw)) : SeqAt.shaped (rwD rs) = true := shaped_of (rwD_lay rs) (Nat.le_trans (rwD_dep rs) (by decide))
theorem ssD_lay (ss : Ss) : (ssD ss).canLay0 = true := by
  unfold ssD; rw [PyData.canLay0]; exact canLayAll_map _ _ fun x _ => rwD_lay _
theorem ssD_sh (ss : Ss) : SeqAt.shaped (ssD ss) = true := by
  refine shaped_of (ssD_lay ss) ?_
  unfold ssD; rw [PyData.depth]; exact Nat.le_trans (Nat.add_le_add_right (depthAll_map _ 2 _ fun x _ => rwD_dep _) 1) (by decide)
theorem DVints (K : PySem.W.Frag) (H : Hp) (ns : List Int) : DVs K H (ns.map PyData.int) (ns.map V.int) := DVs.map _ _ _ fun x _ => by unfold DV; rfl
theorem Rw.dv {K : PySem.W.Frag} {H : Hp} {a : Addr} {x : Rw} (h : H a = some (.tup x.v)) : DV K H x.d (.ref a) := by
  unfold Rw.d DV
  refine ⟨a, _, rfl, SqT.of h, ?_⟩
  unfold DVs Rw.v
  exact ⟨_, _, rfl, by unfold DV; rfl, DVints _ _ _⟩
theorem rwD_dv {K : PySem.W.Frag} {H : Hp} {l : Addr} {rs : List (Addr × Rw)} (h : H l = some (.lst (rwV rs))) (hr : ∀ x ∈ rs, H x.1 = some (.tup x.2.v)) : DV K H (rwD rs) (.ref l) := by
  unfold rwD DV
  refine ⟨l, _, rfl, SqL.of h, ?_⟩
  unfold rwV
  exact DVs.map _ _ _ fun x hx => Rw.dv (hr x hx)
theorem ssD_dv {K : PySem.W.Frag} {H : Hp} {l : Addr} {ss : Ss} (h : H l = some (.lst (ssV ss))) (hz : ∀ z ∈ ss, H z.1 = some (.lst (rwV z.2))) (hr : ∀ z ∈ ss, ∀ x ∈ z.2, H x.1 = some (.tup x.2.v)) : DV K H (ssD ss) (.ref l) := by
  unfold ssD DV
  refine ⟨l, _, rfl, SqL.of h, ?_⟩
  unfold ssV
  exact DVs.map _ _ _ fun z hz' => rwD_dv (hz z hz') (hr z hz')
theorem ssD_tr {ss ss' : Ss} (e : ss'.map (·.2) = ss.map (·.2)) : ssD ss' = ssD ss := by
  unfold ssD
  rw [show (ss'.map fun z => rwD z.2) = (ss'.map (·.2)).map rwD by rw [List.map_map]; rfl, e, List.map_map]
  rfl
def intsD (ns : List Int) : PyData := .list (ns.map PyData.int)
theorem intsD_lay (ns : List Int) : (intsD ns).canLay0 = true := by unfold intsD; rw [PyData.canLay0]; exact canLayAll_map _ _ fun _ _ => rfl
theorem intsD_sh (ns : List Int) : SeqAt.shaped (intsD ns) = true := by
  refine shaped_of (intsD_lay ns) ?_
  unfold intsD; rw [PyData.depth]; exact Nat.le_trans (Nat.add_le_add_right (depthAll_map PyData.int 0 _ fun _ _ => by rw [PyData.depth]; exact Nat.le_refl 0) 1) (by decide)
theorem intsD_dv {K : PySem.W.Frag} {H : Hp} {l : Addr} {ns : List Int} (h : H l = some (.lst (ns.map V.int))) : DV K H (intsD ns) (.ref l) := by
  unfold intsD DV
  exact ⟨l, _, rfl, SqL.of h, DVints _ _ _⟩

def sp_lf : Sp := fun vs H Q _ => ∃ (ml wl pl : Addr) (ms ws : List Int) (ss : Ss) (L : Kn), vs = [.ref ml, .ref wl, .ref pl] ∧ Has H L ∧ (ml, HO.lst (ms.map V.int)) ∈ L ∧ (wl, HO.lst (ws.map V.int)) ∈ L ∧ (pl, HO.lst (ssV ss)) ∈ L ∧ (∀ z ∈ ss, (z.1, HO.lst (rwV z.2)) ∈ L) ∧ (∀ z ∈ ss, ∀ x ∈ z.2, (x.1, HO.tup x.2.v) ∈ L) ∧
  ∀ H' r N, Has H' ((r, .lst ((dueN (fault ms ws ss)).map V.str)) :: (N ++ L)) → Q (.ref r) H'
theorem eqv_no34 (i : Nat) : PyData.eqv (strsD (dueN (some i))) (strsD (dueN none)) = false := rfl
theorem eqv_ss (ss : Ss) (h : ss ≠ []) : PyData.eqv (ssD ss) (ssD []) = false := by
  cases ss with
  | nil => exact absurd rfl h
  | cons a b => rfl
theorem eqv_rw (rs : List (Addr × Rw)) (h : rs ≠ []) : PyData.eqv (rwD rs) (rwD []) = false := by
  cases rs with
  | nil => exact absurd rfl h
  | cons a b => rfl
theorem Rw.flt22 {nm nc nr k ns : Nat} {x : Rw} {i : Nat} (h : x.flt nm nc nr k ns = some i) : i < 22 := by
  have u1 : ∀ (p : Prop) [Decidable p] (c : Nat), c < 22 → ∀ o, o = un p c → ∀ j, o = some j → j < 22 := fun p _ c hc o ho j hj => by
    rw [ho] at hj
    unfold un at hj
    split at hj
    · cases hj
    · cases hj; exact hc
  have key : ∀ (l : List (Option Nat)), (∀ o ∈ l, ∀ j, o = some j → j < 22) → fst1 l = some i → i < 22 := by
    intro l hl e
    induction l with
    | nil => cases e
    | cons o r ih =>
      cases o with
      | some j => cases e; exact hl _ List.mem_cons_self _ rfl
      | none => exact ih (fun o ho => hl o (List.mem_cons_of_mem _ ho)) e
  refine key _ (fun o ho j hj => ?_) h
  cases x <;> simp only [Rw.fs, List.mem_cons, List.not_mem_nil, or_false] at ho
  case bell => exact u1 _ 3 (by decide) o ho j hj
  case set => rcases ho with ho | ho; exact u1 _ 16 (by decide) o ho j hj; exact u1 _ 2 (by decide) o ho j hj
  case ask => rcases ho with ho | ho | ho; exact u1 _ 16 (by decide) o ho j hj; exact u1 _ 15 (by decide) o ho j hj; exact u1 _ 15 (by decide) o ho j hj
  case bump => rcases ho with ho | ho; exact u1 _ 17 (by decide) o ho j hj; exact u1 _ 15 (by decide) o ho j hj
  case go => exact u1 _ 15 (by decide) o ho j hj
  case call => exact u1 _ 14 (by decide) o ho j hj
theorem mapn (g : Int → Prop) [∀ n, Decidable (g n)] (c : Nat) {l : List Int} {i : Nat} (h : ∀ k, k < i → ∀ n, l[k]? = some n → g n) (hi : i ≤ l.length) : ∀ k, k < i → (l.map fun n => un (g n) c)[k]? = some none := fun k hk => by
  rw [List.getElem?_map, List.getElem?_eq_getElem (by omega)]
  exact congrArg some (un_pos (h k hk _ (List.getElem?_eq_getElem (by omega))))
theorem alln (g : Int → Prop) [∀ n, Decidable (g n)] (c : Nat) {l : List Int} (h : ∀ k, k < l.length → ∀ n, l[k]? = some n → g n) : fst1 (l.map fun n => un (g n) c) = none := fst1_none fun o ho => by
  obtain ⟨n, hn, rfl⟩ := List.mem_map.mp ho
  obtain ⟨k, hk⟩ := List.mem_iff_getElem?.mp hn
  exact un_pos (h k (List.getElem?_eq_some_iff.mp hk).1 n hk)
theorem atn (g : Int → Prop) [∀ n, Decidable (g n)] (c : Nat) {l : List Int} {i : Nat} {n : Int} (h : ∀ k, k < i → ∀ n, l[k]? = some n → g n) (hn : l[i]? = some n) (hg : ¬ g n) : fst1 (l.map fun n => un (g n) c) = some c :=
  fst1_at (n := i) (mapn g c h (by have := (List.getElem?_eq_some_iff.mp hn).1; omega)) (by rw [List.getElem?_map, hn]; exact congrArg some (un_neg' hg))
theorem bg_m {ms ws : List Int} {ss : Ss} (h : fst1 (ms.map fun n => un (gSide n) 2) = some 2) : fault ms ws ss = some 2 := fault_beg (by unfold bgF; rw [h])
theorem bg_w {ms ws : List Int} {ss : Ss} (h0 : fst1 (ms.map fun n => un (gSide n) 2) = none) (h : fst1 (ws.map fun n => un (gWidth n) 18) = some 18) : fault ms ws ss = some 18 := fault_beg (by unfold bgF; rw [h0]; dsimp only; rw [h])
theorem bg_s {ms ws : List Int} {ss : Ss} (h0 : fst1 (ms.map fun n => un (gSide n) 2) = none) (h : fst1 (ws.map fun n => un (gWidth n) 18) = none) : bgF ms ws ss = if ss = [] then some 14 else none := by unfold bgF; rw [h0]; dsimp only; rw [h]
theorem flt_row {nm nc k ns : Nat} {rs : List (Addr × Rw)} {i : Nat} {x : Addr × Rw} {c : Nat} (hx : rs[i]? = some x) (h1 : ∀ a, a < i → ∀ y, rs[a]? = some y → y.2.flt nm nc rs.length k ns = none) (h2 : x.2.flt nm nc rs.length k ns = some c) : stF nm nc k ns rs = some c := by
  unfold stF
  have hil := (List.getElem?_eq_some_iff.mp hx).1
  have e := fst1_at (l := rs.map fun x => x.2.flt nm nc rs.length k ns) (n := i) (i := c) (fun a ha => by
    rw [List.getElem?_map, List.getElem?_eq_getElem (by omega)]
    exact congrArg some (h1 a ha _ (List.getElem?_eq_getElem (by omega)))) (by
    rw [List.getElem?_map, hx]
    exact congrArg some h2)
  rw [if_neg (fun e => by rw [e] at hx; cases hx), e]
section
variable {P : Program} {w : World} {K : PySem.W.Frag} {mg : Str → Option Value} {base : Heap} {t : Adr}
theorem scLf : FnScope ["_law_marks", "_law_widths", "_law_parts_here", "_law_side", "_law_width", "_law_stretch", "_law_rows", "_law_deed", "_law_fault_here"] ["_law_marks", "_law_widths", "_law_parts_here"] (defScope s_fault) := ⟨rfl, rfl, rfl, by decide +kernel, rfl, by decide +kernel, by decide +kernel⟩
theorem ok_fault (T : Txt K mg t) : FnOk P w K mg base CX0 2 t.f_fault t.d_fault ["_law_marks", "_law_widths", "_law_parts_here"] sp_lf := by
  refine T.F_fault.ok scLf (fun vs H Q E h => ?_) (fun cdv A outer s H vs Q E hr h => ?_)
  · obtain ⟨_, _, _, _, _, _, _, rfl, _⟩ := h
    rfl
  · obtain ⟨ml, wl, pl, ms, ws, ss, L, rfl, hH, mm, mw, mp, mz, mr, q⟩ := h
    have inL : ∀ {H' : Hp} {X : Kn} {z : Addr × HO}, Has H' (X ++ L) → z ∈ L → H' z.1 = some z.2 := fun h mz => h.at_ _ (List.mem_append_right _ mz)
    have s1 : 1 ≤ sizeLine := sz (show 1 ≤ 1000000 by decide)
    have s0 : 0 ≤ sizeLine := sz (show 0 ≤ 1000000 by decide)
    have ret : ∀ {H' : Hp} {N : Kn} (c : Nat), fault ms ws ss = some c → Has H' (N ++ L) → ∀ r, H' r = none → Q (.ref r) (upd H' r (.lst [.str (nameAt c)])) := fun {H' N} c e h r hr => q _ r N (by rw [e]; exact h.alloc hr _)
    refine ⟨_, (pss_cons (ps_for PassesOwn.never rfl (pi_list (pv 0)) (pg_name (i := 3) scLf.nd rfl (Or.inl rfl))
        (pss_one (ps_if (PW.pt (pw_and (pt_cmpR op_ne (pv 3) pe_int (nomark _)) (pw_and1 (pt_cmpR op_ne (pv 3) pe_int (nomark _)))))
            (pss_one (ps_ret (pe_lst (pa_cons pe_str pa_nil))))
            pss_nil)))
      (pss_cons (ps_for PassesOwn.never rfl (pi_list (pv 1)) (pg_name (i := 4) scLf.nd rfl (Or.inl rfl))
        (pss_one (ps_if (PW.pt (pw_or (pt_cmpR op_lt (pv 4) pe_int (nomark _)) (pw_or1 (pt_cmpR op_gt (pv 4) pe_int (nomark _)))))
            (pss_one (ps_ret (pe_lst (pa_cons pe_str pa_nil))))
            pss_nil)))
      (pss_cons (ps_if (pt_cmpR (op_eqD hr.units) (pv 2) (pe_lst pa_nil) (nomark _))
        (pss_one (ps_ret (pe_lst (pa_cons pe_str pa_nil))))
        pss_nil)
      (pss_cons (ps_for PassesOwn.never rfl (pi_enum (by rfl) T.z_enumerate (pa_cons (pv 2) pa_nil)) (pg_tup rfl (pgs_cons (pg_name (i := 5) scLf.nd rfl (Or.inl rfl)) (pgs_cons (pg_name (i := 6) scLf.nd rfl (Or.inl rfl)) pgs_nil)))
        (pss_cons (ps_if (pt_cmpR (op_eqD hr.units) (pv 6) (pe_lst pa_nil) (nomark _))
            (pss_one (ps_ret (pe_lst (pa_cons pe_str pa_nil))))
            pss_nil)
          (pss_cons (ps_for PassesOwn.never rfl (pi_list (pv 6)) (pg_name (i := 7) scLf.nd rfl (Or.inl rfl))
            (pss_cons (ps_set (i := 8) scLf.nd rfl (Or.inl rfl) (pe_call (ok_row_fault T) (hr.mono (by decide)) (by rfl) T.m_row_fault T.F_row_fault.kp (b_row_fault T) .nil pass0 (pa_cons (pv 7) (pa_cons (pv 5) (pa_cons (pv 6) (pa_cons (pv 0) (pa_cons (pv 1) (pa_cons (pe_callB call_len_seq (by rfl) T.z_len (by rfl) (pa_cons (pv 2) pa_nil)) pa_nil))))))))
              (pss_one (ps_if (pt_cmpR (op_neD hr.units) (pv 8) (pe_lst pa_nil) (nomark _))
                (pss_one (ps_ret (pv 8)))
                pss_nil))))
          (pss_one (ps_if (pt_cmpR op_notIn_seq (pe_ix ix_tup (pe_ix ix_list (pv 6) (pe_un un_neg pe_int) (fun _ _ => rfl)) pe_int (fun _ _ => rfl)) (pe_tup (pa_cons pe_str (pa_cons pe_str (pa_cons pe_str pa_nil)))) (by rfl))
            (pss_one (ps_ret (pe_lst (pa_cons pe_str pa_nil))))
            pss_nil)))))
      (pss_one (ps_ret (pe_lst pa_nil))))))), ?_⟩
    rw []
    refine ⟨_, rfl, ml, rfl, ⟨_, SqL.of (inL (X := []) hH mm)⟩, for_list (xs := ms.map V.int) (fun i σ H' => ∃ (o3 o4 o5 o6 o7 o8 : Option V), σ = [some (.ref ml), some (.ref wl), some (.ref pl), o3, o4, o5, o6, o7, o8] ∧ Has H' ([] ++ L) ∧ ∀ k, k < i → ∀ n, ms[k]? = some n → gSide n) ⟨_, _, _, _, _, _, rfl, hH, fun k hk => absurd hk (Nat.not_lt_zero _)⟩ (fun i σ H' _ ⟨_, _, _, _, _, _, _, e, _⟩ => SqL.of (inL e mm)) ?_ ?_⟩
    · rintro i x σ H' hx ⟨o3, o4, o5, o6, o7, o8, rfl, h1, ok⟩
      rw [List.getElem?_map] at hx
      obtain ⟨n, hn, rfl⟩ := Option.map_eq_some_iff.mp hx
      refine ⟨_, rfl, rfl, _, rfl, ?_⟩
      rw [decInt]
      refine ne2_if (fun z => ⟨_, rfl, rfl, _, rfl, by rw [decInt]; exact z⟩) (fun d => ⟨s1, fun r hr1 => ret 2 (bg_m (atn gSide 2 ok hn d)) h1 r hr1⟩) (fun d => ⟨_, _, _, _, _, _, rfl, h1, fun k hk m hm => ?_⟩)
      by_cases c : k = i
      · subst c; rw [hn] at hm; cases hm; exact d
      · exact ok k (by omega) m hm
    · rintro σ H' ⟨o3, o4, o5, o6, o7, o8, rfl, h1, ok⟩
      rw [List.length_map] at ok
      have ms0 := alln gSide 2 ok
      refine ⟨_, rfl, wl, rfl, ⟨_, SqL.of (inL h1 mw)⟩, for_list (xs := ws.map V.int) (fun i σ H' => ∃ (o3 o4 o5 o6 o7 o8 : Option V), σ = [some (.ref ml), some (.ref wl), some (.ref pl), o3, o4, o5, o6, o7, o8] ∧ Has H' ([] ++ L) ∧ ∀ k, k < i → ∀ n, ws[k]? = some n → gWidth n) ⟨_, _, _, _, _, _, rfl, h1, fun k hk => absurd hk (Nat.not_lt_zero _)⟩ (fun i σ H' _ ⟨_, _, _, _, _, _, _, e, _⟩ => SqL.of (inL e mw)) ?_ ?_⟩
      · clear h1 H'
        rintro i x σ H' hx ⟨o3, o4, o5, o6, o7, o8, rfl, h1, okw⟩
        rw [List.getElem?_map] at hx
        obtain ⟨n, hn, rfl⟩ := Option.map_eq_some_iff.mp hx
        refine ⟨_, rfl, _, _, rfl, rfl, _, rfl, ifd (fun c0 => iteT ⟨s1, fun r hr1 => ret 18 (bg_w ms0 (atn gWidth 18 okw hn (fun d => by have := d.1; omega))) h1 r hr1⟩) (fun c0 => ⟨_, rfl, _, _, rfl, rfl, _, rfl, ifd (fun c1 => ⟨s1, fun r hr1 => ret 18 (bg_w ms0 (atn gWidth 18 okw hn (fun d => by have := d.2; omega))) h1 r hr1⟩) (fun c1 => ⟨_, _, _, _, _, _, rfl, h1, fun k hk m hm => ?_⟩)⟩)⟩
        by_cases c : k = i
        · subst c; rw [hn] at hm; cases hm; exact ⟨by omega, by omega⟩
        · exact okw k (by omega) m hm
      · clear h1 H'
        rintro σ H' ⟨o3, o4, o5, o6, o7, o8, rfl, h1, okw⟩
        rw [List.length_map] at okw
        have ws0 := alln gWidth 18 okw
        have bg := bg_s (ss := ss) ms0 ws0
        have hD : ∀ {H' : Hp} {X : Kn}, Has H' (X ++ L) → DV K H' (ssD ss) (.ref pl) := fun h => ssD_dv (inL h mp) (fun z hz => inL h (mz z hz)) (fun z hz x hx => inL h (mr z hz x hx))
        have hR : ∀ {H' : Hp} {X : Kn} {z : Addr × List (Addr × Rw)}, z ∈ ss → Has H' (X ++ L) → DV K H' (rwD z.2) (.ref z.1) := fun hz h => rwD_dv (inL h (mz _ hz)) (fun x hx => inL h (mr _ hz x hx))
        refine ⟨_, rfl, s0, fun e he => ?_⟩
        have h2 := h1.alloc he (.lst [])
        refine ⟨ssD ss, ssD [], hD (X := [_]) h2, ssD_dv (h2.get 0 rfl) (by simp) (by simp), ssD_sh _, ssD_sh _, _, rfl, ?_⟩
        by_cases hss : ss = []
        · refine ifT (by rw [hss]; rfl) ⟨s1, fun r hr1 => ret (N := [_]) 14 (fault_beg (by rw [bg, if_pos hss])) h2 r hr1⟩
        refine ifF (by rw [eqv_ss ss hss]; rfl) ?_
        rw [if_neg hss] at bg
        refine ⟨_, rfl, pl, rfl, ⟨_, SqL.of (inL (X := [_]) h2 mp)⟩, for_enum (xs := ssV ss) (fun i σ H' => ∃ (o3 o4 o5 o6 o7 o8 : Option V) (N : Kn), σ = [some (.ref ml), some (.ref wl), some (.ref pl), o3, o4, o5, o6, o7, o8] ∧ Has H' (N ++ L) ∧ ∀ a, a < i → ∀ y, ss[a]? = some y → stF ms.length ws.length a ss.length y.2 = none) ⟨_, _, _, _, _, _, [_], rfl, h2, fun k hk => absurd hk (Nat.not_lt_zero _)⟩ (fun i σ H' _ ⟨_, _, _, _, _, _, _, _, e, _⟩ => SqL.of (inL e mp)) ?_ ?_⟩
        · clear h1 h2 H' he
          rintro i x σ H5 p hx ⟨o3, o4, o5, o6, o7, o8, N, rfl, h5, pre⟩ hp
          unfold ssV at hx
          rw [List.getElem?_map] at hx
          obtain ⟨z, hz, rfl⟩ := Option.map_eq_some_iff.mp hx
          have hzm := List.mem_of_getElem? hz
          have h6 : Has _ (((p, HO.tup [.int i, .ref z.1]) :: N) ++ L) := h5.alloc hp (.tup [.int i, .ref z.1])
          refine ⟨p, _, rfl, SqT.of (h6.get 0 rfl), rfl, _, _, rfl, _, _, rfl, rfl, ?_⟩
          refine ⟨_, rfl, s0, fun e he => ?_⟩
          have h7 : Has _ (((e, HO.lst []) :: (p, HO.tup [.int i, .ref z.1]) :: N) ++ L) := h6.alloc he (.lst [])
          refine ⟨rwD z.2, rwD [], hR hzm h7, rwD_dv (h7.get 0 rfl) (by simp), rwD_sh _, rwD_sh _, _, rfl, ?_⟩
          by_cases hrs : z.2 = []
          · refine ifT (by rw [hrs]; rfl) ⟨s1, fun r hr1 => ret 20 (fault_st bg hz pre (by unfold stF; rw [if_pos hrs])) h7 r hr1⟩
          refine ifF (by rw [eqv_rw z.2 hrs]; rfl) ?_
          have lss : (ssV ss).length = ss.length := by unfold ssV; rw [List.length_map]
          have lrw : (rwV z.2).length = z.2.length := by unfold rwV; rw [List.length_map]
          refine ⟨_, rfl, z.1, rfl, ⟨_, SqL.of (inL h7 (mz z hzm))⟩, for_list (xs := rwV z.2) (fun j σ H' => ∃ (o3 o4 o7 o8 : Option V) (N : Kn), σ = [some (.ref ml), some (.ref wl), some (.ref pl), o3, o4, some (.int i), some (.ref z.1), o7, o8] ∧ Has H' (N ++ L) ∧ ∀ a, a < j → ∀ y, z.2[a]? = some y → y.2.flt ms.length ws.length z.2.length i ss.length = none) ⟨_, _, _, _, _, rfl, h7, fun k hk => absurd hk (Nat.not_lt_zero _)⟩ (fun i σ H' _ ⟨_, _, _, _, _, _, e, _⟩ => SqL.of (inL e (mz z hzm))) ?_ ?_⟩
          · clear h7 he h6 hp h5
            rintro j x σ H8 hx ⟨o3, o4, o7, o8, N, rfl, h8, pr2⟩
            unfold rwV at hx
            rw [List.getElem?_map] at hx
            obtain ⟨x, hx1, rfl⟩ := Option.map_eq_some_iff.mp hx
            have hxm := List.mem_of_getElem? hx1
            have mN : ∀ {z : Addr × HO}, z ∈ L → z ∈ N ++ L := fun m => List.mem_append_right _ m
            refine ⟨_, rfl, _, rfl, _, rfl, _, rfl, _, rfl, _, rfl, pl, _, rfl, .inl (SqL.of (inL h8 mp)), x.1, z.1, ml, wl, x.2, i, (ssV ss).length, rwV z.2, ms.map V.int, ws.map V.int, N ++ L, rfl, h8, mN (mr z hzm x hxm), mN (mz z hzm), mN mm, mN mw, fun H9 r N9 h9 => ?_⟩
            rw [List.length_map, List.length_map, lss, lrw] at h9
            obtain ⟨o, eo⟩ : ∃ o, x.2.flt ms.length ws.length z.2.length i ss.length = o := ⟨_, rfl⟩
            have ho : ∀ c, o = some c → c < 22 := fun c hc => Rw.flt22 (eo.trans hc)
            rw [eo] at h9
            have h9 : Has H9 (((r, HO.lst ((dueN o).map V.str)) :: (N9 ++ N)) ++ L) := by simpa [List.append_assoc] using h9
            refine ⟨_, rfl, s0, fun e he => ?_⟩
            have h10 : Has _ (((e, HO.lst []) :: (r, HO.lst ((dueN o).map V.str)) :: (N9 ++ N)) ++ L) := h9.alloc he (.lst [])
            refine ⟨strsD (dueN o), strsD (dueN none), strsD_dv (h10.get 1 rfl), strsD_dv (h10.get 0 rfl), dueSh _ ho, dueSh _ (fun _ z => nomatch z), _, rfl, ?_⟩
            cases o with
            | some c =>
              refine ifT (by rw [eqv_no34]; rfl) ?_
              refine ⟨_, rfl, q _ r ((e, HO.lst []) :: (N9 ++ N)) ?_⟩
              rw [fault_st bg hz pre (flt_row hx1 pr2 eo)]
              exact h10.swap2
            | none =>
              refine ifF rfl ⟨_, _, _, _, _, rfl, h10, fun a ha y hy => ?_⟩
              by_cases c : a = j
              · subst c; rw [hx1] at hy; cases hy; exact eo
              · exact pr2 a (by omega) y hy
          · clear h7 he h6 hp h5
            rintro σ H8 ⟨o3, o4, o7, o8, N, rfl, h8, pr2⟩
            rw [lrw] at pr2
            have st := stF_ok hrs pr2
            obtain ⟨la, ly, hla⟩ : ∃ la ly, z.2.getLast? = some (la, ly) := by
              cases e : z.2.getLast? with
              | none => exact absurd (List.getLast?_eq_none_iff.mp e) hrs
              | some x => exact ⟨x.1, x.2, rfl⟩
            have lo : lastOk z.2 = ly.last := by unfold lastOk; rw [hla]
            obtain ⟨rs', ers⟩ := List.getLast?_eq_some_iff.mp hla
            have eV : rwV z.2 = rwV rs' ++ [.ref la] := by rw [ers]; unfold rwV; rw [List.map_append]; rfl
            have g1 := inL h8 (mz z hzm)
            have g2 := inL h8 (mr z hzm (la, ly) (by rw [ers]; simp))
            rw [eV] at g1
            refine ⟨_, rfl, 1, rfl, z.1, _, _, _, rfl, rfl, SqL.of g1, atI_last _ _, la, _, _, _, rfl, rfl, SqT.of g2, atI_nat (j := 0) rfl, sz (show 3 ≤ 1000000 by decide), fun wt hwt => ?_⟩
            have h9 : Has _ (((wt, HO.tup [.str "ask", .str "go", .str "end"]) :: N) ++ L) := h8.alloc hwt (.tup [.str "ask", .str "go", .str "end"])
            refine ⟨wt, _, rfl, .inr (SqT.of (h9.get 0 rfl)), rfl, rfl, _, rfl, ?_⟩
            cases hlast : ly.last with
            | true =>
              refine ifF (ly.lastIn hlast) ⟨_, _, _, _, _, _, _, rfl, h9, fun a ha y hy => ?_⟩
              by_cases c : a = i
              · subst c; rw [hz] at hy; cases hy; rw [st, lo, hlast]; rfl
              · exact pre a (by omega) y hy
            | false => exact ifT (ly.lastOut hlast) ⟨s1, fun r hr1 => ret 20 (fault_st bg hz pre (by rw [st, lo, hlast]; rfl)) h9 r hr1⟩
        · clear h1 h2 H' he
          rintro σ H5 ⟨o3, o4, o5, o6, o7, o8, N, rfl, h5, pre⟩
          have lss : (ssV ss).length = ss.length := by unfold ssV; rw [List.length_map]
          rw [lss] at pre
          refine ⟨s0, fun r hr1 => q _ r N ?_⟩
          rw [fault_ok bg pre]
          exact h5.alloc hr1 _
end

end P


set_option Elab.async false
set_option linter.all false
set_option maxRecDepth 100000
set_option maxHeartbeats 4000000
namespace P
open PySem L2

def sp_num : Sp := fun vs H Q _ => ∃ (d h m r : Int) (L : Kn), vs = [.int d, .int h, .int m, .int r] ∧ Has H L ∧ 0 ≤ d ∧ d < 10 ^ 18 ∧ h.natAbs ≤ 10 ^ 18 ∧ m.natAbs ≤ 10 ^ 18 ∧ r.natAbs ≤ 10 ^ 18 ∧ ∀ H' (v : Int), v.natAbs ≤ 10 ^ 18 + 10 → Has H' L → Q (.int v) H'
structure S34 (H : Hp) (ml wl pl : Addr) (ms ws : List Int) (ss : Ss) (N L : Kn) : Prop where
  has : Has H ((pl, .lst (ssV ss)) :: (wl, .lst (ws.map V.int)) :: (ml, .lst (ms.map V.int)) :: (N ++ L))
  l : ∀ z ∈ ss, (z.1, HO.lst (rwV z.2)) ∈ N
  r : ∀ z ∈ ss, ∀ x ∈ z.2, (x.1, HO.tup x.2.v) ∈ N
  nd : (ss.map (·.1)).Nodup
  sm : SmI ms
  sw : SmI ws
  sS : SmS ss
def sp_sp : Sp := fun vs H Q _ => ∃ (d ml wl pl : Addr) (ds : List Int) (at' : Int) (ms ws : List Int) (ss : Ss) (N L : Kn), vs = [.ref d, .int at', .ref ml, .ref wl, .ref pl] ∧ S34 H ml wl pl ms ws ss N L ∧ (d, HO.lst (ds.map V.int)) ∈ L ∧ (∀ x ∈ ds, 0 ≤ x ∧ x < 10 ^ 18) ∧ 0 ≤ at' ∧ at' + 4 < ds.length ∧
  ∀ H' ms' ws' ss' N', S34 H' ml wl pl ms' ws' ss' N' L → Q .non H'
theorem ixNn {n : Nat} {i : Int} (h0 : 0 ≤ i) (h1 : i < n) : ixN n i = some i.toNat := by unfold ixN; rw [if_pos h0, if_pos h1]
theorem SmI.put {ms : List Int} (h : SmI ms) {v : Int} (hv : v.natAbs ≤ 10 ^ 18 + 10) (i : Nat) : SmI (ms.set i v) := ⟨by rw [List.length_set]; exact h.1, fun n hn => by
  rcases List.mem_or_eq_of_mem_set hn with hn | rfl
  · exact h.2 n hn
  · exact hv⟩
theorem S34.more {H : Hp} {ml wl pl : Addr} {ms ws : List Int} {ss : Ss} {N L : Kn} (h : S34 H ml wl pl ms ws ss N L) {p : Addr} (hp : H p = none) (o : HO) : S34 (upd H p o) ml wl pl ms ws ss N L := { h with has := (h.has.alloc hp o).tail }
theorem S34.addN {H : Hp} {ml wl pl : Addr} {ms ws : List Int} {ss : Ss} {N L : Kn} (h : S34 H ml wl pl ms ws ss N L) {p : Addr} (hp : H p = none) (o : HO) : S34 (upd H p o) ml wl pl ms ws ss ((p, o) :: N) L :=
  { h with
    has := (h.has.alloc hp o).perm ((List.Perm.swap _ _ _).trans (.cons _ ((List.Perm.swap _ _ _).trans (.cons _ (List.Perm.swap _ _ _)))))
    l := fun z hz => List.mem_cons_of_mem _ (h.l z hz)
    r := fun z hz x hx => List.mem_cons_of_mem _ (h.r z hz x hx) }
theorem S34.setM {H : Hp} {ml wl pl : Addr} {ms ws : List Int} {ss : Ss} {N L : Kn} (h : S34 H ml wl pl ms ws ss N L) (i : Nat) {v : Int} (hv : v.natAbs ≤ 10 ^ 18 + 10) : S34 (upd H ml (.lst ((ms.map V.int).set i (.int v)))) ml wl pl (ms.set i v) ws ss N L :=
  { h with
    has := by
      have := h.has.puti 2 rfl (.lst ((ms.map V.int).set i (.int v)))
      rw [show (ms.map V.int).set i (.int v) = (ms.set i v).map V.int from List.map_set.symm] at this ⊢
      exact this
    sm := h.sm.put hv i }
theorem S34.setW {H : Hp} {ml wl pl : Addr} {ms ws : List Int} {ss : Ss} {N L : Kn} (h : S34 H ml wl pl ms ws ss N L) (i : Nat) {v : Int} (hv : v.natAbs ≤ 10 ^ 18 + 10) : S34 (upd H wl (.lst ((ws.map V.int).set i (.int v)))) ml wl pl ms (ws.set i v) ss N L :=
  { h with
    has := by
      have := h.has.puti 1 rfl (.lst ((ws.map V.int).set i (.int v)))
      rw [show (ws.map V.int).set i (.int v) = (ws.set i v).map V.int from List.map_set.symm] at this ⊢
      exact this
    sw := h.sw.put hv i }
theorem S34.clear {H : Hp} {ml wl pl : Addr} {ms ws : List Int} {ss : Ss} {N L : Kn} (h : S34 H ml wl pl ms ws ss N L) : S34 (upd H pl (.lst [])) ml wl pl ms ws [] N L :=
  { h with
    has := h.has.puti 0 rfl (.lst [])
    l := fun z hz => nomatch hz
    r := fun z hz => nomatch hz
    nd := List.nodup_nil
    sS := ⟨Nat.zero_le _, fun z hz => nomatch hz⟩ }
theorem mem_set' {α : Type} {l : List α} {i : Nat} {x y : α} (h : y ∈ l.set i x) : (∃ j, j ≠ i ∧ l[j]? = some y) ∨ y = x := by
  obtain ⟨j, hj⟩ := List.mem_iff_getElem?.mp h
  by_cases c : j = i
  · subst c
    rw [List.getElem?_set] at hj
    rw [if_pos rfl] at hj
    split at hj
    · exact .inr (Option.some.inj hj).symm
    · cases hj
  · exact .inl ⟨j, c, by rw [List.getElem?_set, if_neg (Ne.symm c)] at hj; exact hj⟩
theorem nd_set {ss : Ss} (h : (ss.map (·.1)).Nodup) {i : Nat} {z : Addr × List (Addr × Rw)} (hz : ∀ j x, j ≠ i → ss[j]? = some x → x.1 ≠ z.1) : ((ss.set i z).map (·.1)).Nodup := by
  induction ss generalizing i with
  | nil => exact h
  | cons a b ih =>
    rw [List.map_cons, List.nodup_cons] at h
    cases i with
    | zero =>
      rw [List.set_cons_zero, List.map_cons, List.nodup_cons]
      refine ⟨fun m => ?_, h.2⟩
      obtain ⟨x, hx, e⟩ := List.mem_map.mp m
      obtain ⟨j, hj⟩ := List.mem_iff_getElem?.mp hx
      exact hz (j + 1) x (by omega) hj e
    | succ i =>
      rw [List.set_cons_succ, List.map_cons, List.nodup_cons]
      refine ⟨fun m => ?_, ih h.2 (fun j x hj hx => hz (j + 1) x (by omega) hx)⟩
      obtain ⟨x, hx, e⟩ := List.mem_map.mp m
      rcases mem_set' hx with ⟨j, _, hj⟩ | rfl
      · exact h.1 (List.mem_map.mpr ⟨x, List.mem_of_getElem? hj, e⟩)
      · exact hz 0 a (by omega) rfl e.symm
theorem SmS.put {ss : Ss} (h : SmS ss) {i : Nat} {z : Addr × List (Addr × Rw)} (hz : z.2.length ≤ 1000 ∧ ∀ x ∈ z.2, SmR x.2) : SmS (ss.set i z) := ⟨by rw [List.length_set]; exact h.1, fun y hy => by
  rcases mem_set' hy with ⟨j, _, hj⟩ | rfl
  · exact h.2 y (List.mem_of_getElem? hj)
  · exact hz⟩
theorem S34.setP {H : Hp} {ml wl pl : Addr} {ms ws : List Int} {ss : Ss} {N L : Kn} (h : S34 H ml wl pl ms ws ss N L) {e : Addr} (he : (e, HO.lst []) ∈ N) (hne : ∀ z ∈ ss, z.1 ≠ e) (i : Nat) : S34 (upd H pl (.lst ((ssV ss).set i (.ref e)))) ml wl pl ms ws (ss.set i (e, [])) N L :=
  { h with
    has := by
      have := h.has.puti 0 rfl (.lst ((ssV ss).set i (.ref e)))
      rw [show (ssV ss).set i (.ref e) = ssV (ss.set i (e, [])) by unfold ssV; rw [List.map_set]] at this ⊢
      exact this
    l := fun z hz => by
      rcases mem_set' hz with ⟨j, _, hj⟩ | rfl
      · exact h.l z (List.mem_of_getElem? hj)
      · exact he
    r := fun z hz x hx => by
      rcases mem_set' hz with ⟨j, _, hj⟩ | rfl
      · exact h.r z (List.mem_of_getElem? hj) x hx
      · cases hx
    nd := nd_set h.nd fun j x _ hx => hne x (List.mem_of_getElem? hx)
    sS := h.sS.put ⟨Nat.zero_le _, fun x hx => nomatch hx⟩ }
theorem S34.setR {H : Hp} {ml wl pl : Addr} {ms ws : List Int} {ss : Ss} {N L : Kn} (h : S34 H ml wl pl ms ws ss N L) {i : Nat} {z : Addr × List (Addr × Rw)} (hz : ss[i]? = some z) {rs : List (Addr × Rw)} (hr : ∀ x ∈ rs, (x.1, HO.tup x.2.v) ∈ N) (hs : rs.length ≤ 1000 ∧ ∀ x ∈ rs, SmR x.2) : ∃ N', S34 (upd H z.1 (.lst (rwV rs))) ml wl pl ms ws (ss.set i (z.1, rs)) N' L := by
  obtain ⟨k, hk⟩ := List.mem_iff_getElem?.mp (h.l z (List.mem_of_getElem? hz))
  have kl := (List.getElem?_eq_some_iff.mp hk).1
  have il := (List.getElem?_eq_some_iff.mp hz).1
  have keep : ∀ {y : Addr × HO}, y ∈ N → y ≠ (z.1, HO.lst (rwV z.2)) → y ∈ N.set k (z.1, .lst (rwV rs)) := fun {y} hy ne => by
    obtain ⟨j, hj⟩ := List.mem_iff_getElem?.mp hy
    have : j ≠ k := fun e => by subst e; rw [hk] at hj; exact ne (Option.some.inj hj).symm
    exact List.mem_iff_getElem?.mpr ⟨j, by rw [List.getElem?_set, if_neg (Ne.symm this)]; exact hj⟩
  have ne : ∀ j x, j ≠ i → ss[j]? = some x → x.1 ≠ z.1 := fun j x hj hx e => by
    have jl := (List.getElem?_eq_some_iff.mp hx).1
    have e1 : (ss.map (·.1))[j]? = some x.1 := by rw [List.getElem?_map, hx]; rfl
    have e2 : (ss.map (·.1))[i]? = some x.1 := by rw [List.getElem?_map, hz, e]; rfl
    exact hj ((List.getElem?_inj (by rw [List.length_map]; exact jl) h.nd).mp (e1.trans e2.symm))
  refine ⟨N.set k (z.1, .lst (rwV rs)), ?_⟩
  exact { h with
    has := by
      have := h.has.puti (3 + k) (a := z.1) (o := .lst (rwV z.2)) (by
        rw [show 3 + k = k + 1 + 1 + 1 by omega, List.getElem?_cons_succ, List.getElem?_cons_succ, List.getElem?_cons_succ, List.getElem?_append_left kl]
        exact hk) (.lst (rwV rs))
      rw [show 3 + k = k + 1 + 1 + 1 by omega, List.set_cons_succ, List.set_cons_succ, List.set_cons_succ, List.set_append_left _ _ kl] at this
      rw [show ssV (ss.set i (z.1, rs)) = ssV ss by
        unfold ssV
        rw [List.map_set]
        refine List.ext_getElem? fun j => ?_
        rw [List.getElem?_set]
        split
        · next e => subst e; rw [List.length_map, if_pos il, List.getElem?_map, hz]; rfl
        · rfl]
      exact this
    l := fun y hy => by
      rcases mem_set' hy with ⟨j, hj, hjy⟩ | rfl
      · exact keep (h.l y (List.mem_of_getElem? hjy)) fun e => ne j y hj hjy (Prod.mk.inj e).1
      · exact List.mem_iff_getElem?.mpr ⟨k, by rw [List.getElem?_set, if_pos rfl, if_pos kl]⟩
    r := fun y hy x hx => by
      rcases mem_set' hy with ⟨j, hj, hjy⟩ | rfl
      · exact keep (h.r y (List.mem_of_getElem? hjy) x hx) fun e => nomatch (Prod.mk.inj e).2
      · exact keep (hr x hx) fun e => nomatch (Prod.mk.inj e).2
    nd := nd_set h.nd ne
    sS := h.sS.put hs }
theorem Rw.put (y : Rw) (i : Nat) (hi : i < y.ns.length) (v : Int) : ∃ y' : Rw, y'.v = y.v.set (i + 1) (.int v) ∧ ∀ n ∈ y'.ns, n ∈ y.ns ∨ n = v := by
  cases y with
  | bell n => match i, hi with | 0, _ => exact ⟨.bell v, rfl, by simp [Rw.ns]⟩
  | set m s => match i, hi with | 0, _ => exact ⟨.set v s, rfl, by simp [Rw.ns]⟩ | 1, _ => exact ⟨.set m v, rfl, by simp [Rw.ns]⟩
  | ask m a b => match i, hi with | 0, _ => exact ⟨.ask v a b, rfl, by simp [Rw.ns]⟩ | 1, _ => exact ⟨.ask m v b, rfl, by simp [Rw.ns]⟩ | 2, _ => exact ⟨.ask m a v, rfl, by simp [Rw.ns]⟩
  | bump c r => match i, hi with | 0, _ => exact ⟨.bump v r, rfl, by simp [Rw.ns]⟩ | 1, _ => exact ⟨.bump c v, rfl, by simp [Rw.ns]⟩
  | go r => match i, hi with | 0, _ => exact ⟨.go v, rfl, by simp [Rw.ns]⟩
  | call s => match i, hi with | 0, _ => exact ⟨.call v, rfl, by simp [Rw.ns]⟩
  | fin => exact absurd hi (by simp [Rw.ns])
theorem Rw.vl (y : Rw) : y.v.length = y.ns.length + 1 := by cases y <;> rfl
section
variable {P : Program} {w : World} {K : PySem.W.Frag} {mg : Str → Option Value} {base : Heap} {t : Adr}
theorem scLn : FnScope ["_law_draw", "_law_here", "_law_many", "_law_rows"] ["_law_draw", "_law_here", "_law_many", "_law_rows"] (defScope s_number) := ⟨rfl, rfl, rfl, by decide +kernel, rfl, by decide +kernel, by decide +kernel⟩
theorem ok_number (T : Txt K mg t) : FnOk P w K mg base CX0 1 t.f_number t.d_number ["_law_draw", "_law_here", "_law_many", "_law_rows"] sp_num := by
  refine T.F_number.ok scLn (fun vs H Q E h => ?_) (fun cdv A outer s H vs Q E hr h => ?_)
  · obtain ⟨_, _, _, _, _, rfl, _⟩ := h
    rfl
  · obtain ⟨d, h, m, r, L, rfl, hH, d0, d1, hh, hm, hr, q⟩ := h
    refine ⟨_, (pss_one (ps_ret (pe_ix ix_list (pe_lst (pa_cons (pe_op op_sub pe_int pe_int) (pa_cons (pv 2) (pa_cons (pv 3) (pa_cons (pv 1) (pa_cons pe_int (pa_cons pe_int (pa_cons pe_int (pa_cons pe_int (pa_cons (pe_op op_sub (pe_op op_sub pe_int pe_int) (pv 0)) (pa_cons (pv 0) pa_nil))))))))))) (pe_op op_mod (pv 0) pe_int) (fun _ _ => rfl)))), ?_⟩
    refine ⟨_, _, rfl, rfl, _, rfl, _, rfl, _, rfl, _, _, rfl, rfl, _, rfl, _, _, rfl, rfl, _, rfl, sz (show 10 ≤ 1000000 by decide), fun p hp => ?_⟩
    have h1 := hH.alloc hp (.lst [.int (0 - 1), .int m, .int r, .int h, .int 10000, .int 3, .int 0, .int 9, .int (0 - 1 - d), .int d])
    obtain ⟨v, hv, vb⟩ : ∃ v : Int, atI [V.int (0 - 1), .int m, .int r, .int h, .int 10000, .int 3, .int 0, .int 9, .int (0 - 1 - d), .int d] (d % 10) = some (.int v) ∧ v.natAbs ≤ 10 ^ 18 + 10 := by
      have c : d % 10 = 0 ∨ d % 10 = 1 ∨ d % 10 = 2 ∨ d % 10 = 3 ∨ d % 10 = 4 ∨ d % 10 = 5 ∨ d % 10 = 6 ∨ d % 10 = 7 ∨ d % 10 = 8 ∨ d % 10 = 9 := by omega
      rcases c with c | c | c | c | c | c | c | c | c | c <;> rw [c]
      · exact ⟨_, rfl, by decide⟩
      · exact ⟨_, rfl, by omega⟩
      · exact ⟨_, rfl, by omega⟩
      · exact ⟨_, rfl, by omega⟩
      · exact ⟨_, rfl, by decide⟩
      · exact ⟨_, rfl, by decide⟩
      · exact ⟨_, rfl, by decide⟩
      · exact ⟨_, rfl, by decide⟩
      · exact ⟨_, rfl, by omega⟩
      · exact ⟨_, rfl, by omega⟩
    exact ⟨_, rfl, _, _, rfl, rfl, (show (0 : Int) < 10 by decide), p, _, _, _, rfl, rfl, SqL.of (h1.get 0 rfl), hv, q _ v vb h1.tail⟩
end

end P


set_option Elab.async false
set_option linter.all false
set_option maxRecDepth 100000
set_option maxHeartbeats 4000000
namespace P
open PySem L2

section
variable {P : Program} {w : World} {K : PySem.W.Frag} {mg : Str → Option Value} {base : Heap} {t : Adr}
theorem scLs : FnScope ["_law_d", "_law_at", "_law_marks", "_law_widths", "_law_parts_here", "_law_way", "_law_draw", "_law_here", "_law_rows", "_law_row_here", "_law_deed"] ["_law_d", "_law_at", "_law_marks", "_law_widths", "_law_parts_here"] (defScope s_spoilt) := ⟨rfl, rfl, rfl, by decide +kernel, rfl, by decide +kernel, by decide +kernel⟩
theorem ok_spoilt (T : Txt K mg t) : FnOk P w K mg base CX0 2 t.f_spoilt t.d_spoilt ["_law_d", "_law_at", "_law_marks", "_law_widths", "_law_parts_here"] sp_sp := by
  refine T.F_spoilt.ok scLs (fun vs H Q E h => ?_) (fun cdv A outer s H vs Q E hr h => ?_)
  · obtain ⟨_, _, _, _, _, _, _, _, _, _, _, rfl, _⟩ := h
    rfl
  · obtain ⟨d, ml, wl, pl, ds, a, ms, ws, ss, N, L, rfl, hS, md, hds, a0, a1, q⟩ := h
    have s5 : 5 ≤ sizeLine := sz (show 5 ≤ 1000000 by decide)
    have s0 : 0 ≤ sizeLine := sz (show 0 ≤ 1000000 by decide)
    have gd : ∀ {H' : Hp} {X N : Kn} {c1 c2 c3 : Addr × HO}, Has H' (X ++ (c1 :: c2 :: c3 :: (N ++ L))) → H' d = some (.lst (ds.map V.int)) := fun h => h.at_ (d, _) (List.mem_append_right _ (List.mem_cons_of_mem _ (List.mem_cons_of_mem _ (List.mem_cons_of_mem _ (List.mem_append_right _ md)))))
    have db : ∀ j : Int, 0 ≤ j → j < ds.length → 0 ≤ ds.getD j.toNat 0 ∧ ds.getD j.toNat 0 < 10 ^ 18 := fun j h0 h1 => hds _ (by
      rw [List.getD_eq_getElem?_getD, List.getElem?_eq_getElem (show j.toNat < ds.length by omega)]
      exact List.getElem_mem _)
    refine ⟨_, (pss_cons (ps_set (i := 5) scLs.nd rfl (Or.inl rfl) (pe_op op_mod (pe_ix ix_list (pv 0) (pv 1) (fun _ _ => rfl)) pe_int))
      (pss_cons (ps_set (i := 6) scLs.nd rfl (Or.inl rfl) (pe_ix ix_list (pv 0) (pe_op op_add (pv 1) pe_int) (fun _ _ => rfl)))
      (pss_cons (ps_cut (ps_if (PW.pt (pw_and (pt_cmpR op_eq (pv 5) pe_int (nomark _)) (pw_and1 (pt_cmpR op_gt (pe_callB call_len_seq (by rfl) T.z_len (by rfl) (pa_cons (pv 2) pa_nil)) pe_int (nomark _)))))
        (pss_one (ps_asg (pe_ix ix_list (pe_lst (pa_cons pe_int (pa_cons pe_int (pa_cons (pe_op op_sub pe_int pe_int) (pa_cons (pe_op op_add pe_int (pv 6)) (pa_cons (pe_op op_sub pe_int (pv 6)) pa_nil)))))) (pe_op op_mod (pe_op op_fdiv (pv 6) pe_int) pe_int) (fun _ _ => rfl)) (pg_sub (pv 2) (pe_op op_mod (pv 6) (pe_callB call_len_seq (by rfl) T.z_len (by rfl) (pa_cons (pv 2) pa_nil))) set_list)))
        pss_nil))
      (pss_cons (ps_cut (ps_if (PW.pt (pw_and (pt_cmpR op_eq (pv 5) pe_int (nomark _)) (pw_and1 (pt_cmpR op_gt (pe_callB call_len_seq (by rfl) T.z_len (by rfl) (pa_cons (pv 3) pa_nil)) pe_int (nomark _)))))
        (pss_one (ps_asg (pe_ix ix_list (pe_lst (pa_cons pe_int (pa_cons pe_int (pa_cons (pe_op op_sub pe_int pe_int) (pa_cons (pe_op op_add pe_int (pv 6)) (pa_cons (pe_op op_sub pe_int (pv 6)) pa_nil)))))) (pe_op op_mod (pe_op op_fdiv (pv 6) pe_int) pe_int) (fun _ _ => rfl)) (pg_sub (pv 3) (pe_op op_mod (pv 6) (pe_callB call_len_seq (by rfl) T.z_len (by rfl) (pa_cons (pv 3) pa_nil))) set_list)))
        pss_nil))
      (pss_cons (ps_cut (ps_if (PW.pt (pw_and (pt_cmpR op_eq (pv 5) pe_int (nomark _)) (pw_and1 (pt_cmpR op_eq (pe_op op_mod (pv 6) pe_int) pe_int (nomark _)))))
        (pss_one (ps_expr (pe_bm0 PySem.F.plainAttrs_list PySem.F.slot_list_clear PySem.F.type_list_clear mt_clear (pv 4))))
        pss_nil))
      (pss_cons (ps_cut (ps_if (pt_cmpR op_eq (pe_callB call_len_seq (by rfl) T.z_len (by rfl) (pa_cons (pv 4) pa_nil)) pe_int (nomark _))
        (pss_one ps_retN)
        pss_nil))
      (pss_cons (ps_set (i := 7) scLs.nd rfl (Or.inl rfl) (pe_op op_mod (pv 6) (pe_callB call_len_seq (by rfl) T.z_len (by rfl) (pa_cons (pv 4) pa_nil))))
      (pss_cons (ps_cut (ps_if (pt_cmpR op_eq (pv 5) pe_int (nomark _))
        (pss_one (ps_asg (pe_lst pa_nil) (pg_sub (pv 4) (pv 7) set_list)))
        pss_nil))
      (pss_cons (ps_set (i := 8) scLs.nd rfl (Or.inl rfl) (pe_ix ix_list (pv 4) (pv 7) (fun _ _ => rfl)))
      (pss_cons (ps_cut (ps_if (pt_cmpR op_eq (pe_callB call_len_seq (by rfl) T.z_len (by rfl) (pa_cons (pv 8) pa_nil)) pe_int (nomark _))
        (pss_one ps_retN)
        pss_nil))
      (pss_cons (ps_cut (ps_if (pt_cmpR op_eq (pv 5) pe_int (nomark _))
        (pss_one (ps_expr (pe_bm0 PySem.F.plainAttrs_list PySem.F.slot_list_pop PySem.F.type_list_pop mt_pop (pv 8))))
        pss_nil))
      (pss_one (ps_cut (ps_if (pt_cmpR op_gt (pv 5) pe_int (nomark _))
        (pss_cons (ps_set (i := 9) scLs.nd rfl (Or.inl rfl) (pe_op op_mod (pe_ix ix_list (pv 0) (pe_op op_add (pv 1) pe_int) (fun _ _ => rfl)) (pe_callB call_len_seq (by rfl) T.z_len (by rfl) (pa_cons (pv 8) pa_nil))))
          (pss_cons (ps_set (i := 10) scLs.nd rfl (Or.inl rfl) (pe_callTy call_list_of (by rfl) T.z_list (by rfl) (pa_cons (pe_ix ix_list (pv 8) (pv 9) (fun _ _ => rfl)) pa_nil)))
          (pss_cons (ps_cut (ps_if (pt_cmpR op_gt (pe_callB call_len_seq (by rfl) T.z_len (by rfl) (pa_cons (pv 10) pa_nil)) pe_int (nomark _))
            (pss_one (ps_asg (pe_call (ok_number T) (hr.mono (by decide)) (by rfl) T.m_number T.F_number.kp (b_number T) .nil pass0 (pa_cons (pe_ix ix_list (pv 0) (pe_op op_add (pv 1) pe_int) (fun _ _ => rfl)) (pa_cons (pv 7) (pa_cons (pe_callB call_len_seq (by rfl) T.z_len (by rfl) (pa_cons (pv 4) pa_nil)) (pa_cons (pe_callB call_len_seq (by rfl) T.z_len (by rfl) (pa_cons (pv 8) pa_nil)) pa_nil))))) (pg_sub (pv 10) (pe_op op_add pe_int (pe_op op_mod (pe_ix ix_list (pv 0) (pe_op op_add (pv 1) pe_int) (fun _ _ => rfl)) (pe_op op_sub (pe_callB call_len_seq (by rfl) T.z_len (by rfl) (pa_cons (pv 10) pa_nil)) pe_int))) set_list)))
            pss_nil))
          (pss_one (ps_asg (pe_callTy call_tuple_of (by rfl) T.z_tuple (by rfl) (pa_cons (pv 10) pa_nil)) (pg_sub (pv 8) (pv 9) set_list))))))
        pss_nil)))))))))))))), ?_⟩
    rw []
    refine ⟨_, rfl, _, rfl, d, _, _, _, rfl, rfl, SqL.of (gd (X := []) hS.has), dgI a (by omega) (by omega), _, _, rfl, rfl, (show (0 : Int) < 9 by decide), ?_⟩
    dsimp only [List.set]
    refine ⟨_, rfl, _, rfl, _, _, rfl, rfl, d, _, _, _, rfl, rfl, SqL.of (gd (X := []) hS.has), dgI (a + 1) (by omega) (by omega), ?_⟩
    dsimp only [List.set]
    obtain ⟨way, eway⟩ : ∃ way, ds.getD a.toNat 0 % 9 = way := ⟨_, rfl⟩
    obtain ⟨dr, edr⟩ : ∃ dr, ds.getD (a + 1).toNat 0 = dr := ⟨_, rfl⟩
    have drb := db (a + 1) (by omega) (by omega)
    rw [edr] at drb
    rw [eway, edr]
    obtain ⟨Pn, ePn⟩ : ∃ Pn : St → Hp → Prop, (fun σ' H' => ∃ ms ws ss N, σ' = [some (.ref d), some (.int a), some (.ref ml), some (.ref wl), some (.ref pl), some (.int way), some (.int dr), none, none, none, none] ∧ S34 H' ml wl pl ms ws ss N L) = Pn := ⟨_, rfl⟩
    have mkP : ∀ {H' ms ws ss N}, S34 H' ml wl pl ms ws ss N L → Pn [some (.ref d), some (.int a), some (.ref ml), some (.ref wl), some (.ref pl), some (.int way), some (.int dr), none, none, none, none] H' := fun h => by rw [← ePn]; exact ⟨_, _, _, _, rfl, h⟩
    have unP : ∀ {σ' H'}, Pn σ' H' → ∃ ms ws ss N, σ' = [some (.ref d), some (.int a), some (.ref ml), some (.ref wl), some (.ref pl), some (.int way), some (.int dr), none, none, none, none] ∧ S34 H' ml wl pl ms ws ss N L := fun h => by rw [← ePn] at h; exact h
    clear ePn
    have five : ∀ (x y z : Int), x.natAbs ≤ 10 ^ 18 + 10 → y.natAbs ≤ 10 ^ 18 + 10 → z.natAbs ≤ 10 ^ 18 + 10 → ∃ v : Int, atI [V.int x, .int y, .int (0 - 1), .int z, .int (0 - dr)] (dr / 5 % 5) = some (.int v) ∧ v.natAbs ≤ 10 ^ 18 + 10 := by
      intro x y z hx hy hz
      have c : dr / 5 % 5 = 0 ∨ dr / 5 % 5 = 1 ∨ dr / 5 % 5 = 2 ∨ dr / 5 % 5 = 3 ∨ dr / 5 % 5 = 4 := by omega
      rcases c with c | c | c | c | c <;> rw [c]
      · exact ⟨_, rfl, hx⟩
      · exact ⟨_, rfl, hy⟩
      · exact ⟨_, rfl, by decide⟩
      · exact ⟨_, rfl, hz⟩
      · exact ⟨_, rfl, by omega⟩
    refine ⟨Pn, ?_, ?_⟩
    · refine ⟨_, rfl, rfl, _, rfl, ?_⟩
      rw [decInt]
      refine and_if (fun z => ⟨_, rfl, ml, _, rfl, .inl (SqL.of (hS.has.get 2 rfl)), _, _, rfl, rfl, _, rfl, z⟩) (fun _ hl => ?_) (fun _ => mkP hS)
      rw [List.length_map] at hl
      refine ⟨_, _, rfl, rfl, _, rfl, _, _, rfl, rfl, _, rfl, _, _, rfl, rfl, s5, fun p hp => ?_⟩
      have h1 := hS.has.alloc hp (.lst [.int 0, .int 3, .int (0 - 1), .int (3 + dr), .int (0 - dr)])
      have hS1 := hS.more hp (.lst [.int 0, .int 3, .int (0 - 1), .int (3 + dr), .int (0 - dr)])
      obtain ⟨v, hv, vb⟩ := five 0 3 (3 + dr) (by decide) (by decide) (by omega)
      refine ⟨_, rfl, _, _, rfl, rfl, ⟨by decide, by decide⟩, _, _, rfl, rfl, (show (0 : Int) < 5 by decide), p, _, _, _, rfl, rfl, SqL.of (h1.get 0 rfl), hv, ?_⟩
      have em : 0 ≤ dr % (ms.length : Int) ∧ dr % (ms.length : Int) < ms.length := ⟨Int.emod_nonneg _ (by omega), Int.emod_lt_of_pos _ (by omega)⟩
      refine ⟨_, rfl, _, rfl, _, rfl, ml, _, rfl, .inl (SqL.of (hS1.has.get 2 rfl)), _, _, rfl, rfl, (by rw [List.length_map]; omega), ml, _, _, _, rfl, rfl, hS1.has.get 2 rfl, (by rw [List.length_map]; exact ixNn em.1 em.2), ?_⟩
      exact mkP (hS1.setM _ vb)
    intro σ H1 hP
    obtain ⟨ms, ws, ss, N, rfl, hS⟩ := unP hP
    clear hP
    refine ⟨Pn, ?_, ?_⟩
    · refine ⟨_, rfl, rfl, _, rfl, ?_⟩
      rw [decInt]
      refine and_if (fun z => ⟨_, rfl, wl, _, rfl, .inl (SqL.of (hS.has.get 1 rfl)), _, _, rfl, rfl, _, rfl, z⟩) (fun _ hl => ?_) (fun _ => mkP hS)
      rw [List.length_map] at hl
      refine ⟨_, _, rfl, rfl, _, rfl, _, _, rfl, rfl, _, rfl, _, _, rfl, rfl, s5, fun p hp => ?_⟩
      have h1 := hS.has.alloc hp (.lst [.int 0, .int 9, .int (0 - 1), .int (9 + dr), .int (0 - dr)])
      have hS1 := hS.more hp (.lst [.int 0, .int 9, .int (0 - 1), .int (9 + dr), .int (0 - dr)])
      obtain ⟨v, hv, vb⟩ := five 0 9 (9 + dr) (by decide) (by decide) (by omega)
      refine ⟨_, rfl, _, _, rfl, rfl, ⟨by decide, by decide⟩, _, _, rfl, rfl, (show (0 : Int) < 5 by decide), p, _, _, _, rfl, rfl, SqL.of (h1.get 0 rfl), hv, ?_⟩
      have em : 0 ≤ dr % (ws.length : Int) ∧ dr % (ws.length : Int) < ws.length := ⟨Int.emod_nonneg _ (by omega), Int.emod_lt_of_pos _ (by omega)⟩
      refine ⟨_, rfl, _, rfl, _, rfl, wl, _, rfl, .inl (SqL.of (hS1.has.get 1 rfl)), _, _, rfl, rfl, (by rw [List.length_map]; omega), wl, _, _, _, rfl, rfl, hS1.has.get 1 rfl, (by rw [List.length_map]; exact ixNn em.1 em.2), ?_⟩
      exact mkP (hS1.setW _ vb)
    intro σ H2 hP
    obtain ⟨ms, ws, ss, N, rfl, hS⟩ := unP hP
    clear hP
    refine ⟨Pn, ?_, ?_⟩
    · refine ⟨_, rfl, rfl, _, rfl, ?_⟩
      rw [decInt]
      refine and_if (fun z => ⟨_, rfl, _, _, rfl, rfl, (show (0 : Int) < 3 by decide), rfl, _, rfl, by rw [decInt]; exact z⟩) (fun _ hl => ?_) (fun _ => mkP hS)
      exact ⟨_, rfl, .inl ⟨rfl, _, SqL.of (hS.has.get 0 rfl)⟩, pl, _, rfl, rfl, hS.has.get 0 rfl, mkP hS.clear⟩
    intro σ H3 hP
    obtain ⟨ms, ws, ss, N, rfl, hS⟩ := unP hP
    clear hP
    have sl : ∀ (ss : Ss), (ssV ss).length = ss.length := fun ss => by unfold ssV; rw [List.length_map]
    have rl : ∀ (rs : List (Addr × Rw)), (rwV rs).length = rs.length := fun rs => by unfold rwV; rw [List.length_map]
    refine ⟨fun σ' H' => ss ≠ [] ∧ σ' = [some (.ref d), some (.int a), some (.ref ml), some (.ref wl), some (.ref pl), some (.int way), some (.int dr), none, none, none, none] ∧ S34 H' ml wl pl ms ws ss N L, ?_, ?_⟩
    · refine ⟨_, rfl, pl, _, rfl, .inl (SqL.of (hS.has.get 0 rfl)), rfl, _, rfl, ?_⟩
      rw [decInt, sl]
      exact ifd (fun _ => q _ _ _ _ _ hS) (fun c => ⟨fun e => c (by rw [e]; rfl), rfl, hS⟩)
    clear hS
    rintro σ H4 ⟨ne, rfl, hS⟩
    have pos : 0 < ss.length := List.length_pos_iff.mpr ne
    have em : 0 ≤ dr % (ss.length : Int) ∧ dr % (ss.length : Int) < ss.length := ⟨Int.emod_nonneg _ (by omega), Int.emod_lt_of_pos _ (by omega)⟩
    refine ⟨_, rfl, _, rfl, pl, _, rfl, .inl (SqL.of (hS.has.get 0 rfl)), _, _, rfl, rfl, (by rw [sl]; omega), ?_⟩
    dsimp only [List.set]
    rw [sl]
    obtain ⟨here, ehere⟩ : ∃ here : Nat, dr % (ss.length : Int) = here := Int.eq_ofNat_of_zero_le em.1
    rw [ehere] at em ⊢
    have hlt : here < ss.length := by omega
    refine ⟨fun σ' H' => ∃ ss N, here < ss.length ∧ σ' = [some (.ref d), some (.int a), some (.ref ml), some (.ref wl), some (.ref pl), some (.int way), some (.int dr), some (.int here), none, none, none] ∧ S34 H' ml wl pl ms ws ss N L, ?_, ?_⟩
    · refine ⟨_, rfl, rfl, _, rfl, ?_⟩
      rw [decInt]
      refine ifd (fun _ => ?_) (fun _ => ⟨ss, N, hlt, rfl, hS⟩)
      refine ⟨s0, fun e he => ?_⟩
      have hS1 := hS.addN he (.lst [])
      refine ⟨_, rfl, _, rfl, pl, _, _, _, rfl, rfl, hS1.has.get 0 rfl, (by rw [sl]; exact ixNn em.1 em.2), ?_⟩
      refine ⟨_, _, ?_, rfl, hS1.setP List.mem_cons_self (fun z hz e2 => ?_) _⟩
      · rw [List.length_set]; exact hlt
      · have g := hS.has.at_ (z.1, _) (List.mem_cons_of_mem _ (List.mem_cons_of_mem _ (List.mem_cons_of_mem _ (List.mem_append_left _ (hS.l z hz)))))
        rw [e2, he] at g
        cases g
    clear hS ehere hlt ne pos em
    rintro σ H5 ⟨ss, N, hlt, rfl, hS⟩
    obtain ⟨z, hz⟩ : ∃ z, ss[here]? = some z := ⟨_, List.getElem?_eq_getElem hlt⟩
    have gz : ∀ {H' : Hp} {X N : Kn} {c1 c2 c3 y : Addr × HO}, Has H' (X ++ (c1 :: c2 :: c3 :: (N ++ L))) → y ∈ N → H' y.1 = some y.2 := fun h m => h.at_ _ (List.mem_append_right _ (List.mem_cons_of_mem _ (List.mem_cons_of_mem _ (List.mem_cons_of_mem _ (List.mem_append_left _ m)))))
    refine ⟨_, rfl, _, rfl, pl, _, _, _, rfl, rfl, SqL.of (hS.has.get 0 rfl), atI_nat (ssV_get hz), ?_⟩
    dsimp only [List.set]
    refine ⟨fun σ' H' => z.2 ≠ [] ∧ σ' = [some (.ref d), some (.int a), some (.ref ml), some (.ref wl), some (.ref pl), some (.int way), some (.int dr), some (.int here), some (.ref z.1), none, none] ∧ S34 H' ml wl pl ms ws ss N L, ?_, ?_⟩
    · refine ⟨_, rfl, z.1, _, rfl, .inl (SqL.of (gz (X := []) hS.has (hS.l z (List.mem_of_getElem? hz)))), rfl, _, rfl, ?_⟩
      rw [decInt, rl]
      exact ifd (fun _ => q _ _ _ _ _ hS) (fun c => ⟨fun e => c (by rw [e]; rfl), rfl, hS⟩)
    clear hS
    rintro σ H6 ⟨zne, rfl, hS⟩
    refine ⟨fun σ' H' => ∃ ss N z', ss[here]? = some z' ∧ z'.1 = z.1 ∧ (4 < way → z'.2 ≠ []) ∧ σ' = [some (.ref d), some (.int a), some (.ref ml), some (.ref wl), some (.ref pl), some (.int way), some (.int dr), some (.int here), some (.ref z.1), none, none] ∧ S34 H' ml wl pl ms ws ss N L, ?_, ?_⟩
    · refine ⟨_, rfl, rfl, _, rfl, ?_⟩
      rw [decInt]
      refine ifd (fun w4 => ?_) (fun _ => ⟨ss, N, z, hz, rfl, fun _ => zne, rfl, hS⟩)
      have hzm := List.mem_of_getElem? hz
      have g := gz (X := []) hS.has (hS.l z hzm)
      obtain ⟨la, hla⟩ : ∃ la, z.2[z.2.length - 1]? = some la := ⟨_, List.getElem?_eq_getElem (by have := List.length_pos_iff.mpr zne; omega)⟩
      refine ⟨_, rfl, .inl ⟨rfl, _, SqL.of g⟩, z.1, _, _, rfl, rfl, g, (by rw [rl]; exact rwV_get hla), ?_⟩
      obtain ⟨N', hS'⟩ := hS.setR hz (rs := z.2.dropLast) (fun x hx => hS.r z hzm x (List.dropLast_subset _ hx)) ⟨by have := (hS.sS.2 z hzm).1; rw [List.length_dropLast]; omega, fun x hx => (hS.sS.2 z hzm).2 x (List.dropLast_subset _ hx)⟩
      have ed : (rwV z.2).dropLast = rwV z.2.dropLast := by unfold rwV; rw [List.map_dropLast]
      rw [ed]
      exact ⟨_, N', (z.1, z.2.dropLast), by rw [List.getElem?_set, if_pos rfl, if_pos (List.getElem?_eq_some_iff.mp hz).1], rfl, fun c => absurd w4 (by omega), rfl, hS'⟩
    clear hS hz zne hlt
    rintro σ H7 ⟨ss, N, z', hz, ez, zne, rfl, hS⟩
    rw [← ez]
    clear ez z
    refine ⟨fun σ' H' => ∃ ss N, S34 H' ml wl pl ms ws ss N L, ?_, ?_⟩
    · refine ⟨_, rfl, _, _, rfl, rfl, _, rfl, ?_⟩
      refine ifd (fun w4 => ?_) (fun _ => ⟨ss, N, hS⟩)
      have hzm := List.mem_of_getElem? hz
      have zne := zne w4
      have pos := List.length_pos_iff.mpr zne
      have g := gz (X := []) hS.has (hS.l z' hzm)
      refine ⟨_, rfl, _, rfl, _, _, rfl, rfl, d, _, _, _, rfl, rfl, SqL.of (gd (X := []) hS.has), dgI (a + 2) (by omega) (by omega), _, rfl, z'.1, _, rfl, .inl (SqL.of g), _, _, rfl, rfl, (by rw [rl]; omega), ?_⟩
      dsimp only [List.set]
      rw [rl]
      have em : 0 ≤ ds.getD (a + 2).toNat 0 % (z'.2.length : Int) ∧ ds.getD (a + 2).toNat 0 % (z'.2.length : Int) < z'.2.length := ⟨Int.emod_nonneg _ (by omega), Int.emod_lt_of_pos _ (by omega)⟩
      obtain ⟨rw', erw⟩ : ∃ rw' : Nat, ds.getD (a + 2).toNat 0 % (z'.2.length : Int) = rw' := Int.eq_ofNat_of_zero_le em.1
      rw [erw] at em ⊢
      obtain ⟨x, hx⟩ : ∃ x, z'.2[rw']? = some x := ⟨_, List.getElem?_eq_getElem (by omega)⟩
      have hxm := List.mem_of_getElem? hx
      refine ⟨_, rfl, _, rfl, z'.1, _, _, _, rfl, rfl, SqL.of g, atI_nat (rwV_get hx), x.1, _, rfl, .inr (SqT.of (gz (X := []) hS.has (hS.r z' hzm x hxm))), fun dl hdl => ?_⟩
      dsimp only [List.set]
      have hd := hS.has.alloc hdl (.lst x.2.v)
      have hS1 := hS.more hdl (.lst x.2.v)
      have sx := (hS.sS.2 z' hzm).2 x hxm
      refine ⟨fun σ' H' => ∃ y' : Rw, SmR y' ∧ σ' = [some (.ref d), some (.int a), some (.ref ml), some (.ref wl), some (.ref pl), some (.int way), some (.int dr), some (.int here), some (.ref z'.1), some (.int rw'), some (.ref dl)] ∧ Has H' ((dl, .lst y'.v) :: (pl, .lst (ssV ss)) :: (wl, .lst (ws.map V.int)) :: (ml, .lst (ms.map V.int)) :: (N ++ L)), ?_, ?_⟩
      · refine ⟨_, rfl, dl, _, rfl, .inl (SqL.of (hd.get 0 rfl)), _, _, rfl, rfl, _, rfl, ?_⟩
        refine ifd (fun c1 => ?_) (fun _ => ⟨x.2, sx, rfl, hd⟩)
        rw [Rw.vl] at c1
        have d4 := db (a + 4) (by omega) (by omega)
        refine ⟨_, rfl, _, rfl, _, _, rfl, rfl, d, _, _, _, rfl, rfl, SqL.of (gd (X := [_]) hd), dgI (a + 4) (by omega) (by omega), _, rfl, _, rfl, pl, _, rfl, .inl (SqL.of (hd.get 1 rfl)), _, rfl, z'.1, _, rfl, .inl (SqL.of (gz (X := [_]) hd (hS.l z' hzm))), _, _, _, _, _, rfl, hd, d4.1, d4.2, ?_, ?_, ?_, fun H8 v vb h8 => ?_⟩
        · have := (List.getElem?_eq_some_iff.mp hz).1
          have := hS.sS.1
          omega
        · have := hS.sS.1
          rw [sl]
          omega
        · have := (hS.sS.2 z' hzm).1
          rw [rl]
          omega
        have e3 : 0 ≤ ds.getD (a + 3).toNat 0 % (x.2.ns.length : Int) ∧ ds.getD (a + 3).toNat 0 % (x.2.ns.length : Int) < x.2.ns.length := ⟨Int.emod_nonneg _ (by omega), Int.emod_lt_of_pos _ (by omega)⟩
        obtain ⟨j, ej⟩ : ∃ j : Nat, ds.getD (a + 3).toNat 0 % (x.2.ns.length : Int) = j := Int.eq_ofNat_of_zero_le e3.1
        have ev : ((x.2.v.length : Nat) : Int) - 1 = (x.2.ns.length : Int) := by rw [Rw.vl]; omega
        refine ⟨_, rfl, _, rfl, _, rfl, _, _, rfl, rfl, d, _, _, _, rfl, rfl, SqL.of (gd (X := [_]) h8), dgI (a + 3) (by omega) (by omega), _, rfl, dl, _, rfl, .inl (SqL.of (h8.get 0 rfl)), _, _, rfl, rfl, _, _, rfl, rfl, (by rw [ev]; omega), _, _, rfl, rfl, dl, _, _, _, rfl, rfl, h8.get 0 rfl, (by rw [ev, ej]; exact ixNn (by omega) (by rw [Rw.vl]; omega)), ?_⟩
        obtain ⟨y', ey, hy⟩ := x.2.put j (by omega) v
        refine ⟨y', fun n hn => (hy n hn).elim (fun m => sx n m) (fun e => by rw [e]; exact vb), rfl, ?_⟩
        have := h8.puti 0 rfl (.lst (x.2.v.set (1 + (j : Int)).toNat (.int v)))
        rw [show (1 + (j : Int)).toNat = j + 1 by omega, ← ey] at this ⊢
        exact this
      · rintro σ H8 ⟨y', sy, rfl, h8⟩
        refine ⟨_, rfl, dl, _, rfl, .inl ⟨SqL.of (h8.get 0 rfl), fun e he => ?_⟩⟩
        have hS8 : S34 H8 ml wl pl ms ws ss N L := { hS with has := h8.tail }
        have hS9 := hS8.addN he (.tup y'.v)
        refine ⟨_, rfl, _, rfl, z'.1, _, _, _, rfl, rfl, gz (X := []) hS9.has (hS9.l z' hzm), (by rw [rl]; exact ixNn em.1 em.2), ?_⟩
        have es : (rwV z'.2).set (rw' : Int).toNat (.ref e) = rwV (z'.2.set rw' (e, y')) := by
          unfold rwV
          rw [List.map_set]
          rfl
        rw [es]
        obtain ⟨N', hS'⟩ := hS9.setR hz (rs := z'.2.set rw' (e, y')) (fun u hu => by
          rcases mem_set' hu with ⟨k, _, hk⟩ | rfl
          · exact hS9.r z' hzm u (List.mem_of_getElem? hk)
          · exact List.mem_cons_self) ⟨by rw [List.length_set]; exact (hS.sS.2 z' hzm).1, fun u hu => by
          rcases mem_set' hu with ⟨k, _, hk⟩ | rfl
          · exact (hS.sS.2 z' hzm).2 u (List.mem_of_getElem? hk)
          · exact sy⟩
        exact ⟨_, N', hS'⟩
    · rintro σ H8 ⟨ss, N, hS⟩
      exact q _ _ _ _ _ hS
end

end P


set_option Elab.async false
set_option linter.all false
set_option maxRecDepth 100000
set_option maxHeartbeats 4000000
namespace P
open PySem L2

def NT (z : Addr × HO) : Prop := ∀ ps, z.2 ≠ .tbl ps
theorem Tb.ne {H : Hp} {Z L : Kn} {Pt : Addr} {qual : Str} {z : Addr × HO} (T : Tb L Pt qual) (h : Has H (Z ++ L)) (m : z ∈ L) (hz : NT z) : z.1 ≠ Pt := fun e => by
  obtain ⟨ps, mp, _⟩ := T.ex
  have q1 := h.at_ _ (List.mem_append_right _ m)
  have q2 := h.at_ _ (List.mem_append_right _ mp)
  rw [e, q2] at q1
  exact hz _ (Option.some.inj q1).symm
theorem Tb.other {H : Hp} {Z L L' : Kn} {Pt Pf : Addr} {qual q2 : Str} (T : Tb L Pt qual) (F : Tb L Pf q2) (h : Has H (Z ++ L)) (ne : Pf ≠ Pt) (kp : ∀ z ∈ L, z.1 ≠ Pt → z ∈ L') : Tb L' Pf q2 := by
  obtain ⟨ps, m, tr, hp⟩ := F.ex
  exact ⟨ps, kp _ m ne, tr, fun pos => (hp pos).imp id fun ⟨c', oc, vs, t, a, b, c, d⟩ => ⟨c', oc, vs, t, a, kp _ b (Tb.ne T h b (fun _ e => nomatch e)), c, d⟩⟩

def sp_lawT (K : PySem.W.Frag) (Pt : Addr) : Sp := fun vs H Q _ => ∃ (a : Addr) (ns : List Int), vs = [.ref a] ∧ SqL K H a (ns.map V.int) ∧ ns.length ≤ 63 ∧ H Pt = some (.tbl #[]) ∧ ∀ H', Q (.bl true) H'
theorem law_binds {K : PySem.W.Frag} {mg : Str → Option Value} {t : Adr} (T : Txt K mg t) (s : Shared) (u : Value) : BindsTo s t.d_law ⟨[u], []⟩ [("_law_script", u)] := by
  obtain ⟨oc, od, kV, doc, pm, an, cdv, ct, osl, e, lk, hcd⟩ := T.F_law.ex
  rw [e, T.e_law]
  exact .of_eq rfl
theorem law_startT {K : PySem.W.Frag} {H : Hp} {a Pt : Addr} {ns : List Int} (hl : ns.length ≤ 63) (hT : H Pt = some (.tbl #[])) (hS : SqL K H a (ns.map V.int)) {E : XK} : sp_lawT K Pt [.ref a] H (fun v _ => v = .bl true) E := ⟨a, ns, rfl, hS, hl, hT, fun _ => rfl⟩

theorem _root_.L2.Has.mid1 {H : Hp} {a x : Addr × HO} {Q R : Kn} (h : Has H (a :: (Q ++ x :: R))) : Has H (a :: x :: (Q ++ R)) := h.perm (.cons _ List.perm_middle)
theorem _root_.L2.Has.mid2 {H : Hp} {a b x : Addr × HO} {Q R : Kn} (h : Has H (a :: b :: (Q ++ x :: R))) : Has H (a :: b :: x :: (Q ++ R)) := h.perm (.cons _ (.cons _ List.perm_middle))
theorem Rw.okSm {nm nc nr k ns : Nat} {x : Rw} (h : x.ok nm nc nr k ns) (h1 : nm ≤ 1000) (h2 : nc ≤ 1000) (h3 : nr ≤ 1000) (h4 : ns ≤ 1000) : SmR x := by
  intro n hn
  cases x <;> simp only [Rw.ns, List.mem_cons, List.not_mem_nil, or_false] at hn <;> simp only [Rw.ok] at h
  case bell => omega
  case set => omega
  case ask => omega
  case bump => omega
  case go => omega
  case call => omega
def Cd (i : Nat) : Prop := i = 2 ∨ i = 3 ∨ i = 14 ∨ i = 15 ∨ i = 16 ∨ i = 17 ∨ i = 18 ∨ i = 20
theorem fst1_mem {l : List (Option Nat)} {i : Nat} (e : fst1 l = some i) : some i ∈ l := by
  induction l with
  | nil => cases e
  | cons o r ih =>
    cases o with
    | some j => cases e; exact List.mem_cons_self
    | none => exact List.mem_cons_of_mem _ (ih e)
theorem un_cd {p : Prop} [Decidable p] {c i : Nat} (h : some i = un p c) : i = c := by
  unfold un at h
  split at h
  · cases h
  · exact Option.some.inj h
theorem Rw.cd {nm nc nr k ns : Nat} {x : Rw} {i : Nat} (h : x.flt nm nc nr k ns = some i) : Cd i := by
  have := fst1_mem h
  cases x <;> simp only [Rw.fs, List.mem_cons, List.not_mem_nil, or_false] at this <;> unfold Cd
  case bell => have := un_cd this; omega
  case set => rcases this with h | h <;> have := un_cd h <;> omega
  case ask => rcases this with h | h | h <;> have := un_cd h <;> omega
  case bump => rcases this with h | h <;> have := un_cd h <;> omega
  case go => have := un_cd this; omega
  case call => have := un_cd this; omega
theorem stF_cd {nm nc k ns : Nat} {rs : List (Addr × Rw)} {i : Nat} (h : stF nm nc k ns rs = some i) : Cd i := by
  have c20 : Cd 20 := by unfold Cd; omega
  unfold stF at h
  split at h
  · cases h; exact c20
  · split at h
    · next j hj =>
      cases h
      obtain ⟨y, _, hy⟩ := List.mem_map.mp (fst1_mem hj)
      exact Rw.cd hy
    · split at h
      · cases h
      · cases h; exact c20
theorem fault_cd {ms ws : List Int} {ss : Ss} {i : Nat} (h : fault ms ws ss = some i) : Cd i := by
  unfold fault at h
  split at h
  · next j hj =>
    cases h
    unfold bgF at hj
    split at hj
    · next j hj2 =>
      cases hj
      obtain ⟨y, _, hy⟩ := List.mem_map.mp (fst1_mem hj2)
      have := un_cd hy.symm
      unfold Cd; omega
    · split at hj
      · next j hj2 =>
        cases hj
        obtain ⟨y, _, hy⟩ := List.mem_map.mp (fst1_mem hj2)
        have := un_cd hy.symm
        unfold Cd; omega
      · split at hj
        · cases hj; unfold Cd; omega
        · cases hj
  · have := fst1_mem h
    unfold stsF at this
    obtain ⟨y, _, hy⟩ := List.mem_map.mp this
    exact stF_cd hy
theorem Cd.lt {i : Nat} (h : Cd i) : i < 22 := by unfold Cd at h; omega
theorem Cd.exc {K : PySem.W.Frag} {mg : Str → Option Value} {t : Adr} (T : Txt K mg t) {i : Nat} (h : Cd i) : excAll K (clsOf t i) t.c_RailError (dsOf t i) = true := by
  rcases h with rfl | rfl | rfl | rfl | rfl | rfl | rfl | rfl
  · exact T.x_NoSide
  · exact T.x_NoNote
  · exact T.x_NoStretch
  · exact T.x_NoRow
  · exact T.x_NoMark
  · exact T.x_NoCounter
  · exact T.x_NoWidth
  · exact T.x_FallsOut
theorem ref_both {K : PySem.W.Frag} {t : Adr} {spD : Hp → VK → XK → Prop} {H8 : Hp} {Qk : VK} {L8 : Kn} (o : Option Nat) (ho : ∀ i, o = some i → i < 22) (h8 : Has H8 L8)
    (hd : ∀ H1 W Q1 E1, Has H1 (L8 ++ W) → (o = none → ∀ v H2 G, Has H2 (G ++ (L8 ++ W)) → Q1 v H2) → (∀ i, o = some i → ∀ C a H2 G, excAll K C t.c_RailError (dsOf t i) = true → Has H2 (G ++ (L8 ++ W)) → E1 (.ref C) (some a) H2) → spD H1 Q1 E1)
    (k : ∀ r H2 G, Has H2 ((r, .lst ((dueN o).map V.str)) :: (G ++ L8)) → Qk (.ref r) H2) : refSp K t spD H8 Qk := by
  refine ⟨L8, [], fun _ N => o = none ∧ ∃ G, N = G ++ L8, fun i N => o = some i ∧ ∃ G, N = G ++ L8, by rw [List.append_nil]; exact h8, fun H1 W Q1 E1 s1 hV hX => ?_, ?_, ?_⟩
  · refine hd H1 W Q1 E1 s1 (fun e v H2 G h2 => hV v (G ++ L8) H2 ⟨e, G, rfl⟩ (by rw [List.append_assoc]; exact h2)) (fun i e C a H2 G hc h2 => hX C a i (G ++ L8) H2 ⟨e, G, rfl⟩ (ho i e) hc (by rw [List.append_assoc]; exact h2))
  · rintro v N r H2 ⟨rfl, G, rfl⟩ s2
    rw [List.append_nil] at s2
    exact k r H2 G s2
  · rintro i N r H2 ⟨rfl, G, rfl⟩ _ s2
    rw [List.append_nil] at s2
    exact k r H2 G s2
section
variable {P : Program} {w : World} {K : PySem.W.Frag} {mg : Str → Option Value} {base : Heap} {t : Adr}
theorem scLa : FnScope ["_law_script", "_law_d", "_law_count", "_law_marks", "_law_widths", "_law_parts_here", "_law_turn", "_law_handed", "_law_sides", "_law_rooms"] ["_law_script"] (defScope s_law) := ⟨rfl, rfl, rfl, by decide +kernel, rfl, by decide +kernel, by decide +kernel⟩
theorem ok_law (T : Txt K mg t) (kb : K.In base) (hbm : BM base mg) : FnOk P w K mg base CX0 12 t.f_law t.d_law ["_law_script"] (sp_lawT K t.p_law) := by
  refine T.F_law.okC scLa (fun vs H Q E h => ?_) (fun cdv A outer s H vs Q E hcdv hr h => ?_)
  · obtain ⟨_, _, rfl, _⟩ := h
    rfl
  · obtain ⟨a, ns, rfl, hS, hns, hT, q⟩ := h
    obtain ⟨cc, ecd, hch⟩ := T.tb_law
    have ecdv : cdv = .ref cc := hcdv.symm.trans ecd
    subst ecdv
    have hCH : PySem.W.CodeHd base cc t.p_law := PySem.W.codeHd_of_K kb hch
    have h0 : Has H [(t.p_law, .tbl #[])] := ⟨by simp, by simp [hT]⟩
    refine ⟨_, (pss_cons (ps_set (i := 1) scLa.nd rfl (Or.inl rfl) (pe_call (ok_draws T) (hr.mono (by decide)) (by rfl) T.m_draws T.F_draws.kp (b_draws T) .nil pass0 (pa_cons (pv 0) (pa_cons pe_int pa_nil))))
      (pss_cons (ps_set (i := 2) scLa.nd rfl (Or.inl rfl) (pe_op op_mod (pe_ix ix_list (pv 1) pe_int (fun _ _ => rfl)) pe_int))
      (pss_cons (ps_asg (pe_call (ok_program T) (hr.mono (by decide)) (by rfl) T.m_program T.F_program.kp (b_program T) .nil pass0 (pa_cons (pe_slice sl_list (pv 1) (po_some pe_int) po_none) pa_nil)) (pg_tup rfl (pgs_cons (pg_name (i := 3) scLa.nd rfl (Or.inl rfl)) (pgs_cons (pg_name (i := 4) scLa.nd rfl (Or.inl rfl)) (pgs_cons (pg_name (i := 5) scLa.nd rfl (Or.inl rfl)) pgs_nil)))))
      (pss_cons (ps_for PassesOwn.never rfl (pi_range1 (by rfl) T.z_range (pa_cons (pe_callB (call_min2 rfl) (by rfl) T.z_min (by rfl) (pa_cons (pv 2) (pa_cons pe_int pa_nil))) pa_nil)) (pg_name (i := 6) scLa.nd rfl (Or.inl rfl))
        (pss_one (ps_expr (pe_call (ok_spoilt T) (hr.mono (by decide)) (by rfl) T.m_spoilt T.F_spoilt.kp (b_spoilt T) .nil pass0 (pa_cons (pv 1) (pa_cons (pe_op op_add pe_int (pe_op op_mul pe_int (pv 6))) (pa_cons (pv 3) (pa_cons (pv 4) (pa_cons (pv 5) pa_nil)))))))))
      (pss_cons (ps_set (i := 7) scLa.nd rfl (Or.inr rfl) (pe_call (ok_copied T) (hr.mono (by decide)) (by rfl) T.m_copied T.F_copied.kp (b_copied T) .nil pass0 (pa_cons (pv 5) pa_nil)))
      (pss_cons (ps_set (i := 8) scLa.nd rfl (Or.inr rfl) (pe_callTy call_list_of (by rfl) T.z_list (by rfl) (pa_cons (pv 3) pa_nil)))
      (pss_cons (ps_set (i := 9) scLa.nd rfl (Or.inr rfl) (pe_callTy call_list_of (by rfl) T.z_list (by rfl) (pa_cons (pv 4) pa_nil)))
      (pss_cons (ps_if (pt_cmpR (op_neD hr.units) (pe_refuse (kd := 7) (N' := ["_law_sides", "_law_rooms", "_law_handed"]) [8, 9, 7] (ok_refused T) (hr.mono (by decide)) (by rfl) T.m_refused T.F_refused.kp rfl hCH hbm (fun _ => rfl) rfl rfl rfl rfl rfl (by decide +kernel) (esc := defScope s_law) rfl (by decide +kernel) (by decide +kernel) (by rfl) (fun _ _ _ _ _ => rfl) (fun _ _ _ _ _ _ _ _ hr1 => by exact (pe_make T.mk_Program (okB_Program_init T) (hr1.mono (by decide)) (by rfl) T.m_Program (b_Program_init T) .nil passL (pa_cons (pv 0) (pa_cons (pv 1) (pa_cons (pv 2) pa_nil)))))) (pe_call (ok_fault T) (hr.mono (by decide)) (by rfl) T.m_fault T.F_fault.kp (b_fault T) .nil pass0 (pa_cons (pv 3) (pa_cons (pv 4) (pa_cons (pv 5) pa_nil)))) (nomark _))
        (pss_one (ps_ret pe_bl))
        pss_nil)
      (pss_one (ps_ret (pe_and (pe_cmpR (op_eqD hr.units) (pv 8) (pv 3) (nomark _)) (pe_and (pe_cmpR (op_eqD hr.units) (pv 9) (pv 4) (nomark _)) (pe_one (pe_cmpR (op_eqD hr.units) (pv 7) (pv 5) (nomark _))))))))))))))), ?_⟩
    rw [show L2.start ["_law_script", "_law_d", "_law_count", "_law_marks", "_law_widths", "_law_parts_here", "_law_turn", "_law_handed", "_law_sides", "_law_rooms"] [V.ref a] = ([some (V.ref a), none, none, none, none, none, none, none, none, none] : St) from rfl]
    refine ⟨_, rfl, a, ns, 365, _, rfl, hS, hns, by decide, by decide, h0, fun H1 d ds h1 hds hdr => ?_⟩
    dsimp only [List.set]
    have hds : ds.length = 365 := hds
    refine ⟨_, rfl, d, _, _, _, rfl, rfl, SqL.of (h1.get 0 rfl), dgI 0 (by decide) (by omega), _, _, rfl, rfl, (show (0 : Int) < 5 by decide), ?_⟩
    dsimp only [List.set]
    obtain ⟨cnt, ecnt⟩ : ∃ cnt : Nat, ds.getD (0 : Int).toNat 0 % 5 = cnt := Int.eq_ofNat_of_zero_le (by omega)
    have cb : cnt < 5 := by omega
    rw [ecnt]
    clear ecnt
    have ecut : cutV (ds.map V.int) (some 16) none = (ds.drop 16).map V.int := by
      simp [cutV, HT.sIx, hds]
      exact List.take_of_length_le (by rw [List.length_drop, List.length_map]; omega)
    refine ⟨_, rfl, _, rfl, d, _, rfl, SqL.of (h1.get 0 rfl), fun sl hsl => ?_⟩
    rw [ecut]
    have h2 := h1.alloc hsl (.lst ((ds.drop 16).map V.int))
    refine ⟨sl, ds.drop 16, _, rfl, h2, List.mem_cons_self, by rw [List.length_drop]; omega, fun H3 tp m wl pl ms ws ss N i1 i2 i3 i4 i5 i6 hgood hlim i7 i8 h3 => ?_⟩
    refine ⟨tp, _, rfl, SqT.of (h3.get 0 rfl), rfl, _, _, rfl, _, _, rfl, _, _, rfl, rfl, ?_⟩
    dsimp only [List.set]
    obtain ⟨Lr, eLr⟩ : ∃ Lr : Kn, [(d, HO.lst (ds.map V.int)), (t.p_law, .tbl #[])] = Lr := ⟨_, rfl⟩
    have md : (d, HO.lst (ds.map V.int)) ∈ Lr := by rw [← eLr]; simp
    have mpt : (t.p_law, HO.tbl #[]) ∈ Lr := by rw [← eLr]; simp
    have hS0 : S34 H3 m wl pl ms ws ss (N ++ [(sl, .lst ((ds.drop 16).map V.int))]) Lr := by
      refine ⟨?_, fun z hz => List.mem_append_left _ (i7 z hz), fun z hz x hx => List.mem_append_left _ (i8 z hz x hx), hlim.2, ⟨by omega, fun n hn => by have := i1 n hn; omega⟩, ⟨by omega, fun n hn => by have := i2 n hn; omega⟩, ⟨i6, fun z hz => ⟨hlim.1 z hz, fun x hx => ?_⟩⟩⟩
      · have := h3.tail.mid1.mid2
        rw [← eLr]
        simpa [List.append_assoc] using this
      · obtain ⟨k, hk⟩ := List.getElem?_of_mem hz
        exact Rw.okSm ((hgood k z hk).1 x hx) (by omega) (by omega) (hlim.1 z hz) i6
    clear h3 h2 hsl ecut i1 i2 i3 i4 i5 i6 hgood hlim i7 i8
    have dsb : ∀ x ∈ ds, 0 ≤ x ∧ x < 10 ^ 18 := hdr
    refine ⟨_, rfl, _, _, rfl, _, rfl, by omega, by omega, for_range (fun i σ H' => ∃ (o6 : Option V) (ms ws : List Int) (ss : Ss) (N : Kn), σ = [some (.ref a), some (.ref d), some (.int cnt), some (.ref m), some (.ref wl), some (.ref pl), o6, none, none, none] ∧ S34 H' m wl pl ms ws ss N Lr) ⟨_, _, _, _, _, rfl, hS0⟩ ?_ ?_⟩
    · clear hS0
      rintro i σ H4 hi ⟨o6, ms, ws, ss, N, rfl, hS⟩
      have hi : i < 5 := by omega
      rw [Int.zero_add]
      refine ⟨_, rfl, _, rfl, _, _, rfl, rfl, .inl ⟨by decide, by decide⟩, _, _, rfl, rfl, _, rfl, _, rfl, _, rfl, d, m, wl, pl, ds, 1 + 5 * (i : Int), ms, ws, ss, N, Lr, rfl, hS, md, dsb, by omega, by omega, fun H5 ms' ws' ss' N' hS' => ⟨_, _, _, _, _, rfl, hS'⟩⟩
    clear hS0
    rintro σ H4 ⟨o6, ms, ws, ss, N, rfl, hS⟩
    have inP : ∀ {z : Addr × HO}, z ∈ N → z ∈ (pl, HO.lst (ssV ss)) :: (wl, .lst (ws.map V.int)) :: (m, .lst (ms.map V.int)) :: (N ++ Lr) := fun hz => List.mem_cons_of_mem _ (List.mem_cons_of_mem _ (List.mem_cons_of_mem _ (List.mem_append_left _ hz)))
    refine ⟨_, rfl, pl, ss, _, rfl, hS.has, List.mem_cons_self, fun z hz => inP (hS.l z hz), hS.sS.1, fun H5 D s1 N1 es1 mN1 h5 => ?_⟩
    dsimp only [List.set]
    obtain ⟨L2, eL2⟩ : ∃ L2 : Kn, (pl, HO.lst (ssV ss)) :: (wl, .lst (ws.map V.int)) :: (m, .lst (ms.map V.int)) :: (N ++ Lr) = L2 := ⟨_, rfl⟩
    have mpl : (pl, HO.lst (ssV ss)) ∈ L2 := by rw [← eL2]; simp
    have mwl : (wl, HO.lst (ws.map V.int)) ∈ L2 := by rw [← eL2]; simp
    have mml : (m, HO.lst (ms.map V.int)) ∈ L2 := by rw [← eL2]; simp
    have mN : ∀ {z : Addr × HO}, z ∈ N → z ∈ L2 := fun hz => by rw [← eL2]; exact inP hz
    have mp2 : (t.p_law, HO.tbl #[]) ∈ L2 := by rw [← eL2]; simp [mpt]
    rw [eL2] at h5
    have inL2 : ∀ {H' : Hp} {X : Kn} {z : Addr × HO}, Has H' (X ++ L2) → z ∈ L2 → H' z.1 = some z.2 := fun h mz => h.at_ _ (List.mem_append_right _ mz)
    have sS := hS.sS
    have sm := hS.sm
    have sw := hS.sw
    have ml7 : ∀ z ∈ ss, (z.1, HO.lst (rwV z.2)) ∈ L2 := fun z hz => mN (hS.l z hz)
    have mr7 : ∀ z ∈ ss, ∀ x ∈ z.2, (x.1, HO.tup x.2.v) ∈ L2 := fun z hz x hx => mN (hS.r z hz x hx)
    clear hS eL2 inP
    refine ⟨_, rfl, m, _, rfl, .inl (SqL.of (inL2 (X := (D, HO.lst (ssV s1)) :: N1) h5 mml)), fun sd hsd => ?_⟩
    dsimp only [List.set]
    have h6 := h5.alloc hsd (.lst (ms.map V.int))
    refine ⟨_, rfl, wl, _, rfl, .inl (SqL.of (inL2 (X := (sd, HO.lst (ms.map V.int)) :: (D, HO.lst (ssV s1)) :: N1) h6 mwl)), fun rm hrm => ?_⟩
    dsimp only [List.set]
    have h7 := h6.alloc hrm (.lst (ws.map V.int))
    have s1row : ∀ z ∈ s1, ∀ x ∈ z.2, (x.1, HO.tup x.2.v) ∈ L2 := by
      intro z hz x hx
      have : z.2 ∈ ss.map (·.2) := by rw [← es1]; exact List.mem_map_of_mem hz
      obtain ⟨z', e1, e2⟩ := List.mem_map.mp this
      exact mr7 z' e1 x (by rw [e2]; exact hx)
    have sS1 : SmS s1 := by
      refine ⟨by have : s1.length = ss.length := by simpa using congrArg List.length es1
                 have := sS.1
                 omega, fun z hz => ?_⟩
      have : z.2 ∈ ss.map (·.2) := by rw [← es1]; exact List.mem_map_of_mem hz
      obtain ⟨z', e1, e2⟩ := List.mem_map.mp this
      rw [← e2]
      exact sS.2 z' e1
    show tSeq _ _ _ _ _
    dsimp only [List.set]
    have mp7 : (t.p_law, HO.tbl #[]) ∈ (rm, HO.lst (ws.map V.int)) :: (sd, HO.lst (ms.map V.int)) :: (D, HO.lst (ssV s1)) :: (N1 ++ L2) := by simp [mp2]
    refine ref_tb (Z := []) h7 (Tb.new mp7) (fun H8 L8 h8 tb8 kp8 => ?_)
    have keep : ∀ {z : Addr × HO}, z ∈ (rm, HO.lst (ws.map V.int)) :: (sd, HO.lst (ms.map V.int)) :: (D, HO.lst (ssV s1)) :: (N1 ++ L2) → NT z → z ∈ L8 := fun {z} hz nt => kp8 z hz (Tb.ne (Z := []) (Tb.new (qual := "") mp7) h7 hz nt)
    have k2 : ∀ {z : Addr × HO}, z ∈ L2 → NT z → z ∈ L8 := fun hz nt => keep (by simp [hz]) nt
    have m_rm : (rm, HO.lst (ws.map V.int)) ∈ L8 := keep (by simp) (fun _ e => nomatch e)
    have m_sd : (sd, HO.lst (ms.map V.int)) ∈ L8 := keep (by simp) (fun _ e => nomatch e)
    have m_D : (D, HO.lst (ssV s1)) ∈ L8 := keep (by simp) (fun _ e => nomatch e)
    have m_N1 : ∀ z ∈ s1, (z.1, HO.lst (rwV z.2)) ∈ L8 := fun z hz => keep (by simp [mN1 z hz]) (fun _ e => nomatch e)
    have m_r1 : ∀ z ∈ s1, ∀ x ∈ z.2, (x.1, HO.tup x.2.v) ∈ L8 := fun z hz x hx => k2 (s1row z hz x hx) (fun _ e => nomatch e)
    have m_m := k2 mml (fun _ e => nomatch e)
    have m_w := k2 mwl (fun _ e => nomatch e)
    have m_p := k2 mpl (fun _ e => nomatch e)
    have m_l : ∀ z ∈ ss, (z.1, HO.lst (rwV z.2)) ∈ L8 := fun z hz => k2 (ml7 z hz) (fun _ e => nomatch e)
    have m_r : ∀ z ∈ ss, ∀ x ∈ z.2, (x.1, HO.tup x.2.v) ∈ L8 := fun z hz x hx => k2 (mr7 z hz x hx) (fun _ e => nomatch e)
    have h8 : Has H8 L8 := h8
    clear h7 h6 h5 keep k2 kp8 tb8
    have ho : ∀ i, fault ms ws ss = some i → i < 22 := fun i e => (fault_cd e).lt
    refine ref_both (fault ms ws ss) ho h8 (fun H9 W Q1 E1 h9 hV hX => ?_) (fun r H9 G h9 => ?_)
    · refine ⟨_, rfl, _, rfl, _, rfl, ?_⟩
      intro p dx hp hdx hne
      have h10 := (h9.alloc hdx (.own p)).alloc (by rw [upd_ne (Ne.symm hne)]; exact hp) (.ins t.c_Program dx [])
      have ml : ∀ {z : Addr × HO}, z ∈ L8 → z ∈ L8 ++ W := fun hz => List.mem_append_left _ hz
      refine ⟨p, dx, sd, rm, D, ms, ws, s1, L8 ++ W, rfl, h10, ml m_sd, ml m_rm, ml m_D, fun z hz => ml (m_N1 z hz), fun z hz x hx => ml (m_r1 z hz x hx), sm, sw, sS1, fun ok H11 G h11 => ⟨rfl, ?_⟩, fun i hi H11 G a h11 => ?_⟩
      · rw [fault_tr es1] at ok
        exact hV ok _ H11 G h11
      · rw [fault_tr es1] at hi
        exact hX i hi _ a H11 G ((fault_cd hi).exc T) h11
    have mg8 : ∀ {z : Addr × HO}, z ∈ L8 → z ∈ (r, HO.lst ((dueN (fault ms ws ss)).map V.str)) :: (G ++ L8) := fun hz => List.mem_cons_of_mem _ (List.mem_append_right _ hz)
    refine ⟨_, rfl, _, rfl, _, rfl, m, wl, pl, ms, ws, ss, _, rfl, h9, mg8 m_m, mg8 m_w, mg8 m_p, fun z hz => mg8 (m_l z hz), fun z hz x hx => mg8 (m_r z hz x hx), fun H10 r2 N2 h10 => ?_⟩
    have g8 : ∀ {z : Addr × HO}, z ∈ L8 → H10 z.1 = some z.2 := fun hz => h10.at_ _ (List.mem_cons_of_mem _ (List.mem_append_right _ (mg8 hz)))
    refine ⟨strsD (dueN (fault ms ws ss)), strsD (dueN (fault ms ws ss)), strsD_dv (h10.at_ (r, _) (List.mem_cons_of_mem _ (List.mem_append_right _ List.mem_cons_self))), strsD_dv (h10.get 0 rfl), dueSh _ ho, dueSh _ ho, ?_⟩
    rw [eqvR _ (dueLay _ ho)]
    refine ⟨_, rfl, iteF ?_⟩
    refine ⟨_, rfl, _, rfl, intsD ms, intsD ms, intsD_dv (g8 m_sd), intsD_dv (g8 m_m), intsD_sh _, intsD_sh _, ?_⟩
    rw [eqvR _ (intsD_lay _)]
    refine ⟨_, rfl, iteT ?_⟩
    refine ⟨_, rfl, _, rfl, intsD ws, intsD ws, intsD_dv (g8 m_rm), intsD_dv (g8 m_w), intsD_sh _, intsD_sh _, ?_⟩
    rw [eqvR _ (intsD_lay _)]
    refine ⟨_, rfl, iteT ?_⟩
    refine ⟨_, rfl, _, rfl, ssD s1, ssD ss, ssD_dv (g8 m_D) (fun z hz => g8 (m_N1 z hz)) (fun z hz x hx => g8 (m_r1 z hz x hx)), ssD_dv (g8 m_p) (fun z hz => g8 (m_l z hz)) (fun z hz x hx => g8 (m_r z hz x hx)), ssD_sh _, ssD_sh _, ?_⟩
    rw [ssD_tr es1, eqvR _ (ssD_lay _)]
    exact q _
end
theorem finF {P : Program} {w : World} {K : PySem.W.Frag} {mg : Str → Option Value} {fa Pt : Addr} (hmg : mg "law" = some (.ref fa)) (h : ∃ t, Txt K mg t ∧ t.p_law = Pt) :
    ∃ (fd : FuncData) (c : Addr), K.lookup Pt = none ∧ PySem.W.codeHdIn K c Pt = true ∧ (∀ (s : Shared) (u : Value), BindsTo s fd ⟨[u], []⟩ [("_law_script", u)]) ∧
      ∀ base : Heap, K.In base → base.Ns mainGlobals mg → BM base mg → FnOk P w K mg base CX0 12 fa fd ["_law_script"] (sp_lawT K Pt) := by
  obtain ⟨t, T, rfl⟩ := h
  have e0 := hmg.symm.trans T.m_law
  cases e0
  obtain ⟨c, ec, hc⟩ := T.tb_law
  exact ⟨_, c, T.tn_law, hc, fun s u => law_binds T s u, fun base kb nb hbm => ok_law T kb hbm⟩


end P


set_option Elab.async false
set_option linter.all false
set_option maxRecDepth 100000
set_option maxHeartbeats 4000000
namespace P
open PySem L2

theorem txt_mk {K : PySem.W.Frag} {h : Heap} {mg : Str → Option Value} (KX : K.In h) (G : h.Ns mainGlobals mg)
    {z0 : Addr} {z1 z2 : Option Addr} {z3 : Array (Option Value)} {z4 z5 z6 z7 z8 z9 za : Value}
    {zb : Addr} {zc zd : Option Addr} {ze : Array (Option Value)} {zf zg zh zi zj zk zl : Value}
    {zm : Addr} {zn zo : Option Addr} {zp : Array (Option Value)} {zq zr zs zt zu zv zw : Value}
    {zx : Addr} {zy zz : Option Addr} {z10 : Array (Option Value)} {z11 z12 z13 z14 z15 z16 z17 : Value}
    {z18 : Addr} {z19 z1a : Option Addr} {z1b : Array (Option Value)} {z1c z1d z1e z1f z1g z1h z1i : Value}
    {z1j : Addr} {z1k z1l : Option Addr} {z1m : Array (Option Value)} {z1n z1o z1p z1q z1r z1s z1t : Value}
    {z1u : Addr} {z1v z1w : Option Addr} {z1x : Array (Option Value)} {z1y z1z z20 z21 z22 z23 z24 : Value}
    {z25 : Addr} {z26 z27 : Option Addr} {z28 : Array (Option Value)} {z29 z2a z2b z2c z2d z2e z2f : Value}
    {z2g : Addr} {z2h z2i : Option Addr} {z2j : Array (Option Value)} {z2k z2l z2m z2n z2o z2p z2q : Value}
    {z2r : Addr} {z2s z2t : Option Addr} {z2u : Array (Option Value)} {z2v z2w z2x z2y z2z z30 z31 : Value}
    {z32 : Addr} {z33 z34 : Option Addr} {z35 : Array (Option Value)} {z36 z37 z38 z39 z3a z3b z3c : Value}
    {z3d : Addr} {z3e z3f : Option Addr} {z3g : Array (Option Value)} {z3h z3i z3j z3k z3l z3m z3n : Value}
    {z3o : Addr} {z3p z3q : Option Addr} {z3r : Array (Option Value)} {z3s z3t z3u z3v z3w z3x z3y : Value}
    {z3z : Addr} {z40 z41 : Option Addr} {z42 : Array (Option Value)} {z43 z44 z45 z46 z47 z48 z49 : Value}
    {z4a : Addr} {z4b z4c : Option Addr} {z4d : Array (Option Value)} {z4e z4f z4g z4h z4i z4j z4k : Value}
    {z4l : Addr} {z4m z4n : Option Addr} {z4o : Array (Option Value)} {z4p z4q z4r z4s z4t z4u z4v : Value}
    {z4w : Addr} {z4x z4y : Option Addr} {z4z : Array (Option Value)} {z50 z51 z52 z53 z54 z55 z56 : Value}
    {z57 : Addr} {z58 z59 : Option Addr} {z5a : Array (Option Value)} {z5b z5c z5d z5e z5f z5g z5h : Value}
    {z5i : Addr} {z5j z5k : Option Addr} {z5l : Array (Option Value)} {z5m z5n z5o z5p z5q z5r z5s : Value}
    {z5t : Addr} {z5u z5v : Option Addr} {z5w : Array (Option Value)} {z5x z5y z5z z60 z61 z62 z63 : Value}
    {z64 : Addr} {z65 z66 : Option Addr} {z67 : Array (Option Value)} {z68 z69 z6a z6b z6c z6d z6e : Value}
    {z6f : Addr} {z6g z6h : Option Addr} {z6i : Array (Option Value)} {z6j z6k z6l z6m z6n z6o z6p : Value}
    {z6q : Addr} {z6r z6s : Option Addr} {z6t : Array (Option Value)} {z6u z6v z6w z6x z6y z6z z70 : Value}
    {z71 : Addr} {z72 z73 : Option Addr} {z74 : Array (Option Value)} {z75 z76 z77 z78 z79 z7a z7b : Value}
    {z7c : Addr} {z7d z7e : Option Addr} {z7f : Array (Option Value)} {z7g z7h z7i z7j z7k z7l z7m : Value}
    {z7n : Addr}
    {z7o : Addr}
    {z7p : Addr}
    {z7q : Addr}
    {z7r : Addr}
    {z7s : Addr}
    {z7t : Addr}
    {z7u : Addr}
    {z7v : Addr}
    {z7w : Addr}
    {z7x : Addr}
    {z7y : Addr}
    {z7z : Addr}
    {z80 : Addr}
    {z81 : Addr}
    {z82 : Addr}
    {z83 : Addr}
    {z84 : Addr}
    {z85 : Addr}
    {z86 : Addr}
    {z87 : Addr}
    {z88 : Addr}
    {z89 : Addr}
    {z8a : Addr}
    {z8b z8c : Addr}
    {z8d : Value}
    {z8e : Value}
    {z8f : Value}
    {z8g : Value}
    {z8h : Addr} {z8i : Option Addr} {z8j : Array Value} {z8k : Nat} {z8l : Array (Option Value)}
    (z8m : PySem.W.nsIn K mainGlobals "Program" = some (some (.ref z7n)))
    (z8n : PySem.W.nsIn K mainGlobals "law" = some (some (.ref z0)))
    (z8o : K.lookup z0 = some ⟨z4, z1, .func (PySem.W.fnOf "law" "law" (defArgs s_law) (defBody s_law) (defScope s_law) z5 z6 z7 z8 z2 z9 za), z3⟩)
    (z8p : PySem.W.codeIn K z9 "law" = true)
    (z8q : PySem.W.keepIn K (.ref z0) = true)
    (z8r : z5 = .none)
    (z8s : PySem.W.nsIn K mainGlobals "_law_draws" = some (some (.ref zb)))
    (z8t : K.lookup zb = some ⟨zf, zc, .func (PySem.W.fnOf "_law_draws" "_law_draws" (defArgs s_draws) (defBody s_draws) (defScope s_draws) zg zh zi zj zd zk zl), ze⟩)
    (z8u : PySem.W.codeIn K zk "_law_draws" = true)
    (z8v : PySem.W.keepIn K (.ref zb) = true)
    (z8w : zg = .none)
    (z8x : PySem.W.nsIn K mainGlobals "_law_program" = some (some (.ref zm)))
    (z8y : K.lookup zm = some ⟨zq, zn, .func (PySem.W.fnOf "_law_program" "_law_program" (defArgs s_program) (defBody s_program) (defScope s_program) zr zs zt zu zo zv zw), zp⟩)
    (z8z : PySem.W.codeIn K zv "_law_program" = true)
    (z90 : PySem.W.keepIn K (.ref zm) = true)
    (z91 : zr = .none)
    (z92 : PySem.W.nsIn K mainGlobals "_law_parts" = some (some (.ref zx)))
    (z93 : K.lookup zx = some ⟨z11, zy, .func (PySem.W.fnOf "_law_parts" "_law_parts" (defArgs s_parts) (defBody s_parts) (defScope s_parts) z12 z13 z14 z15 zz z16 z17), z10⟩)
    (z94 : PySem.W.codeIn K z16 "_law_parts" = true)
    (z95 : PySem.W.keepIn K (.ref zx) = true)
    (z96 : z12 = .none)
    (z97 : PySem.W.nsIn K mainGlobals "_law_row" = some (some (.ref z18)))
    (z98 : K.lookup z18 = some ⟨z1c, z19, .func (PySem.W.fnOf "_law_row" "_law_row" (defArgs s_row) (defBody s_row) (defScope s_row) z1d z1e z1f z1g z1a z1h z1i), z1b⟩)
    (z99 : PySem.W.codeIn K z1h "_law_row" = true)
    (z9a : PySem.W.keepIn K (.ref z18) = true)
    (z9b : z1d = .none)
    (z9c : PySem.W.nsIn K mainGlobals "_law_copied" = some (some (.ref z1j)))
    (z9d : K.lookup z1j = some ⟨z1n, z1k, .func (PySem.W.fnOf "_law_copied" "_law_copied" (defArgs s_copied) (defBody s_copied) (defScope s_copied) z1o z1p z1q z1r z1l z1s z1t), z1m⟩)
    (z9e : PySem.W.codeIn K z1s "_law_copied" = true)
    (z9f : PySem.W.keepIn K (.ref z1j) = true)
    (z9g : z1o = .none)
    (z9h : PySem.W.nsIn K mainGlobals "_law_spoilt" = some (some (.ref z1u)))
    (z9i : K.lookup z1u = some ⟨z1y, z1v, .func (PySem.W.fnOf "_law_spoilt" "_law_spoilt" (defArgs s_spoilt) (defBody s_spoilt) (defScope s_spoilt) z1z z20 z21 z22 z1w z23 z24), z1x⟩)
    (z9j : PySem.W.codeIn K z23 "_law_spoilt" = true)
    (z9k : PySem.W.keepIn K (.ref z1u) = true)
    (z9l : z1z = .none)
    (z9m : PySem.W.nsIn K mainGlobals "_law_number" = some (some (.ref z25)))
    (z9n : K.lookup z25 = some ⟨z29, z26, .func (PySem.W.fnOf "_law_number" "_law_number" (defArgs s_number) (defBody s_number) (defScope s_number) z2a z2b z2c z2d z27 z2e z2f), z28⟩)
    (z9o : PySem.W.codeIn K z2e "_law_number" = true)
    (z9p : PySem.W.keepIn K (.ref z25) = true)
    (z9q : z2a = .none)
    (z9r : PySem.W.nsIn K mainGlobals "_law_refused" = some (some (.ref z2g)))
    (z9s : K.lookup z2g = some ⟨z2k, z2h, .func (PySem.W.fnOf "_law_refused" "_law_refused" (defArgs s_refused) (defBody s_refused) (defScope s_refused) z2l z2m z2n z2o z2i z2p z2q), z2j⟩)
    (z9t : PySem.W.codeIn K z2p "_law_refused" = true)
    (z9u : PySem.W.keepIn K (.ref z2g) = true)
    (z9v : z2l = .none)
    (z9w : PySem.W.nsIn K mainGlobals "_law_names" = some (some (.ref z2r)))
    (z9x : K.lookup z2r = some ⟨z2v, z2s, .func (PySem.W.fnOf "_law_names" "_law_names" (defArgs s_names) (defBody s_names) (defScope s_names) z2w z2x z2y z2z z2t z30 z31), z2u⟩)
    (z9y : PySem.W.codeIn K z30 "_law_names" = true)
    (z9z : PySem.W.keepIn K (.ref z2r) = true)
    (za0 : z2w = .none)
    (za1 : PySem.W.nsIn K mainGlobals "_law_fault" = some (some (.ref z32)))
    (za2 : K.lookup z32 = some ⟨z36, z33, .func (PySem.W.fnOf "_law_fault" "_law_fault" (defArgs s_fault) (defBody s_fault) (defScope s_fault) z37 z38 z39 z3a z34 z3b z3c), z35⟩)
    (za3 : PySem.W.codeIn K z3b "_law_fault" = true)
    (za4 : PySem.W.keepIn K (.ref z32) = true)
    (za5 : z37 = .none)
    (za6 : PySem.W.nsIn K mainGlobals "_law_row_fault" = some (some (.ref z3d)))
    (za7 : K.lookup z3d = some ⟨z3h, z3e, .func (PySem.W.fnOf "_law_row_fault" "_law_row_fault" (defArgs s_row_fault) (defBody s_row_fault) (defScope s_row_fault) z3i z3j z3k z3l z3f z3m z3n), z3g⟩)
    (za8 : PySem.W.codeIn K z3m "_law_row_fault" = true)
    (za9 : PySem.W.keepIn K (.ref z3d) = true)
    (zaa : z3i = .none)
    (zab : PySem.W.nsIn K mainGlobals "check_side" = some (some (.ref z3o)))
    (zac : K.lookup z3o = some ⟨z3s, z3p, .func (PySem.W.fnOf "check_side" "check_side" (defArgs s_check_side) (defBody s_check_side) (defScope s_check_side) z3t z3u z3v z3w z3q z3x z3y), z3r⟩)
    (zad : PySem.W.codeIn K z3x "check_side" = true)
    (zae : PySem.W.keepIn K (.ref z3o) = true)
    (zaf : z3t = .none)
    (zag : PySem.W.nsIn K mainGlobals "check_width" = some (some (.ref z3z)))
    (zah : K.lookup z3z = some ⟨z43, z40, .func (PySem.W.fnOf "check_width" "check_width" (defArgs s_check_width) (defBody s_check_width) (defScope s_check_width) z44 z45 z46 z47 z41 z48 z49), z42⟩)
    (zai : PySem.W.codeIn K z48 "check_width" = true)
    (zaj : PySem.W.keepIn K (.ref z3z) = true)
    (zak : z44 = .none)
    (zal : PySem.W.nsIn K mainGlobals "check_note" = some (some (.ref z4a)))
    (zam : K.lookup z4a = some ⟨z4e, z4b, .func (PySem.W.fnOf "check_note" "check_note" (defArgs s_check_note) (defBody s_check_note) (defScope s_check_note) z4f z4g z4h z4i z4c z4j z4k), z4d⟩)
    (zan : PySem.W.codeIn K z4j "check_note" = true)
    (zao : PySem.W.keepIn K (.ref z4a) = true)
    (zap : z4f = .none)
    (zaq : PySem.W.nsIn K mainGlobals "check_mark" = some (some (.ref z4l)))
    (zar : K.lookup z4l = some ⟨z4p, z4m, .func (PySem.W.fnOf "check_mark" "check_mark" (defArgs s_check_mark) (defBody s_check_mark) (defScope s_check_mark) z4q z4r z4s z4t z4n z4u z4v), z4o⟩)
    (zas : PySem.W.codeIn K z4u "check_mark" = true)
    (zat : PySem.W.keepIn K (.ref z4l) = true)
    (zau : z4q = .none)
    (zav : PySem.W.nsIn K mainGlobals "check_counter" = some (some (.ref z4w)))
    (zaw : K.lookup z4w = some ⟨z50, z4x, .func (PySem.W.fnOf "check_counter" "check_counter" (defArgs s_check_counter) (defBody s_check_counter) (defScope s_check_counter) z51 z52 z53 z54 z4y z55 z56), z4z⟩)
    (zax : PySem.W.codeIn K z55 "check_counter" = true)
    (zay : PySem.W.keepIn K (.ref z4w) = true)
    (zaz : z51 = .none)
    (zb0 : PySem.W.nsIn K mainGlobals "check_row" = some (some (.ref z57)))
    (zb1 : K.lookup z57 = some ⟨z5b, z58, .func (PySem.W.fnOf "check_row" "check_row" (defArgs s_check_row) (defBody s_check_row) (defScope s_check_row) z5c z5d z5e z5f z59 z5g z5h), z5a⟩)
    (zb2 : PySem.W.codeIn K z5g "check_row" = true)
    (zb3 : PySem.W.keepIn K (.ref z57) = true)
    (zb4 : z5c = .none)
    (zb5 : PySem.W.nsIn K mainGlobals "check_stretch" = some (some (.ref z5i)))
    (zb6 : K.lookup z5i = some ⟨z5m, z5j, .func (PySem.W.fnOf "check_stretch" "check_stretch" (defArgs s_check_stretch) (defBody s_check_stretch) (defScope s_check_stretch) z5n z5o z5p z5q z5k z5r z5s), z5l⟩)
    (zb7 : PySem.W.codeIn K z5r "check_stretch" = true)
    (zb8 : PySem.W.keepIn K (.ref z5i) = true)
    (zb9 : z5n = .none)
    (zba : PySem.W.findIn K (.ref z7n) "__init__" = some (some (.ref z5t)))
    (zbb : PySem.W.isFn K (.ref z5t) = true)
    (zbc : K.lookup z5t = some ⟨z5x, z5u, .func (PySem.W.fnOf "__init__" "Program.__init__" (defArgs s_Program_init) (defBody s_Program_init) (defScope s_Program_init) z5y z5z z60 z61 z5v z62 z63), z5w⟩)
    (zbd : PySem.W.codeIn K z62 "Program.__init__" = true)
    (zbe : PySem.W.keepIn K (.ref z5t) = true)
    (zbf : z5y = .none)
    (zbg : PySem.W.findIn K (.ref z7n) "check_beginning" = some (some (.ref z64)))
    (zbh : PySem.W.isFn K (.ref z64) = true)
    (zbi : K.lookup z64 = some ⟨z68, z65, .func (PySem.W.fnOf "check_beginning" "Program.check_beginning" (defArgs s_Program_check_beginning) (defBody s_Program_check_beginning) (defScope s_Program_check_beginning) z69 z6a z6b z6c z66 z6d z6e), z67⟩)
    (zbj : PySem.W.codeIn K z6d "Program.check_beginning" = true)
    (zbk : PySem.W.keepIn K (.ref z64) = true)
    (zbl : z69 = .none)
    (zbm : PySem.W.findIn K (.ref z7n) "many" = some (some (.ref z6f)))
    (zbn : PySem.W.isFn K (.ref z6f) = true)
    (zbo : K.lookup z6f = some ⟨z6j, z6g, .func (PySem.W.fnOf "many" "Program.many" (defArgs s_Program_many) (defBody s_Program_many) (defScope s_Program_many) z6k z6l z6m z6n z6h z6o z6p), z6i⟩)
    (zbp : PySem.W.codeIn K z6o "Program.many" = true)
    (zbq : PySem.W.keepIn K (.ref z6f) = true)
    (zbr : z6k = .none)
    (zbs : PySem.W.findIn K (.ref z7n) "check_rows" = some (some (.ref z6q)))
    (zbt : PySem.W.isFn K (.ref z6q) = true)
    (zbu : K.lookup z6q = some ⟨z6u, z6r, .func (PySem.W.fnOf "check_rows" "Program.check_rows" (defArgs s_Program_check_rows) (defBody s_Program_check_rows) (defScope s_Program_check_rows) z6v z6w z6x z6y z6s z6z z70), z6t⟩)
    (zbv : PySem.W.codeIn K z6z "Program.check_rows" = true)
    (zbw : PySem.W.keepIn K (.ref z6q) = true)
    (zbx : z6v = .none)
    (zby : PySem.W.findIn K (.ref z7n) "check_part" = some (some (.ref z71)))
    (zbz : PySem.W.isFn K (.ref z71) = true)
    (zc0 : K.lookup z71 = some ⟨z75, z72, .func (PySem.W.fnOf "check_part" "Program.check_part" (defArgs s_Program_check_part) (defBody s_Program_check_part) (defScope s_Program_check_part) z76 z77 z78 z79 z73 z7a z7b), z74⟩)
    (zc1 : PySem.W.codeIn K z7a "Program.check_part" = true)
    (zc2 : PySem.W.keepIn K (.ref z71) = true)
    (zc3 : z76 = .none)
    (zc4 : PySem.W.findIn K (.ref z7n) "check_called" = some (some (.ref z7c)))
    (zc5 : PySem.W.isFn K (.ref z7c) = true)
    (zc6 : K.lookup z7c = some ⟨z7g, z7d, .func (PySem.W.fnOf "check_called" "Program.check_called" (defArgs s_Program_check_called) (defBody s_Program_check_called) (defScope s_Program_check_called) z7h z7i z7j z7k z7e z7l z7m), z7f⟩)
    (zc7 : PySem.W.codeIn K z7l "Program.check_called" = true)
    (zc8 : PySem.W.keepIn K (.ref z7c) = true)
    (zc9 : z7h = .none)
    (zca : PySem.W.plainGet K z7n Str.empty = true)
    (zcb : PySem.W.hasDictIn K z7n = true)
    (zcc : PySem.W.plainOver K z7n = true)
    (zcd : PySem.W.findIn K (.ref z7n) "__setattr__" = some (some (.builtin "object.__setattr__")))
    (zce : PySem.W.makesIn K z7n = true)
    (zcf : PySem.W.keepIn K (.ref z7n) = true)
    (zcg : PySem.W.findIn K (.ref z7n) "mark_sides" = some none)
    (zch : PySem.W.findIn K (.ref z7n) "counter_widths" = some none)
    (zci : PySem.W.findIn K (.ref z7n) "stretches" = some none)
    (zcj : PySem.W.nsIn K mainGlobals "RailError" = some (some (.ref z7o)))
    (zck : PySem.W.nsIn K mainGlobals "NoKind" = some (some (.ref z7p)))
    (zcl : PySem.W.nsIn K mainGlobals "NoEnd" = some (some (.ref z7q)))
    (zcm : PySem.W.nsIn K mainGlobals "NoSide" = some (some (.ref z7r)))
    (zcn : PySem.W.nsIn K mainGlobals "NoNote" = some (some (.ref z7s)))
    (zco : PySem.W.nsIn K mainGlobals "NoPiece" = some (some (.ref z7t)))
    (zcp : PySem.W.nsIn K mainGlobals "NoRod" = some (some (.ref z7u)))
    (zcq : PySem.W.nsIn K mainGlobals "NoPoint" = some (some (.ref z7v)))
    (zcr : PySem.W.nsIn K mainGlobals "NoBell" = some (some (.ref z7w)))
    (zcs : PySem.W.nsIn K mainGlobals "SameEnd" = some (some (.ref z7x)))
    (zct : PySem.W.nsIn K mainGlobals "Linked" = some (some (.ref z7y)))
    (zcu : PySem.W.nsIn K mainGlobals "NotLinked" = some (some (.ref z7z)))
    (zcv : PySem.W.nsIn K mainGlobals "Occupied" = some (some (.ref z80)))
    (zcw : PySem.W.nsIn K mainGlobals "NoStand" = some (some (.ref z81)))
    (zcx : PySem.W.nsIn K mainGlobals "NoMany" = some (some (.ref z82)))
    (zcy : PySem.W.nsIn K mainGlobals "NoStretch" = some (some (.ref z83)))
    (zcz : PySem.W.nsIn K mainGlobals "NoRow" = some (some (.ref z84)))
    (zd0 : PySem.W.nsIn K mainGlobals "NoMark" = some (some (.ref z85)))
    (zd1 : PySem.W.nsIn K mainGlobals "NoCounter" = some (some (.ref z86)))
    (zd2 : PySem.W.nsIn K mainGlobals "NoWidth" = some (some (.ref z87)))
    (zd3 : PySem.W.nsIn K mainGlobals "NoValue" = some (some (.ref z88)))
    (zd4 : PySem.W.nsIn K mainGlobals "FallsOut" = some (some (.ref z89)))
    (zd5 : PySem.W.nsIn K mainGlobals "NoText" = some (some (.ref z8a)))
    (zd6 : excAll K z7r z7o [(z7p, false), (z7q, false), (z7r, true), (z7s, false), (z7t, false), (z7u, false), (z7v, false), (z7w, false), (z7x, false), (z7y, false), (z7z, false), (z80, false), (z81, false), (z82, false), (z83, false), (z84, false), (z85, false), (z86, false), (z87, false), (z88, false), (z89, false), (z8a, false)] = true)
    (zd7 : excAll K z7s z7o [(z7p, false), (z7q, false), (z7r, false), (z7s, true), (z7t, false), (z7u, false), (z7v, false), (z7w, false), (z7x, false), (z7y, false), (z7z, false), (z80, false), (z81, false), (z82, false), (z83, false), (z84, false), (z85, false), (z86, false), (z87, false), (z88, false), (z89, false), (z8a, false)] = true)
    (zd8 : excAll K z85 z7o [(z7p, false), (z7q, false), (z7r, false), (z7s, false), (z7t, false), (z7u, false), (z7v, false), (z7w, false), (z7x, false), (z7y, false), (z7z, false), (z80, false), (z81, false), (z82, false), (z83, false), (z84, false), (z85, true), (z86, false), (z87, false), (z88, false), (z89, false), (z8a, false)] = true)
    (zd9 : excAll K z86 z7o [(z7p, false), (z7q, false), (z7r, false), (z7s, false), (z7t, false), (z7u, false), (z7v, false), (z7w, false), (z7x, false), (z7y, false), (z7z, false), (z80, false), (z81, false), (z82, false), (z83, false), (z84, false), (z85, false), (z86, true), (z87, false), (z88, false), (z89, false), (z8a, false)] = true)
    (zda : excAll K z87 z7o [(z7p, false), (z7q, false), (z7r, false), (z7s, false), (z7t, false), (z7u, false), (z7v, false), (z7w, false), (z7x, false), (z7y, false), (z7z, false), (z80, false), (z81, false), (z82, false), (z83, false), (z84, false), (z85, false), (z86, false), (z87, true), (z88, false), (z89, false), (z8a, false)] = true)
    (zdb : excAll K z83 z7o [(z7p, false), (z7q, false), (z7r, false), (z7s, false), (z7t, false), (z7u, false), (z7v, false), (z7w, false), (z7x, false), (z7y, false), (z7z, false), (z80, false), (z81, false), (z82, false), (z83, true), (z84, false), (z85, false), (z86, false), (z87, false), (z88, false), (z89, false), (z8a, false)] = true)
    (zdc : excAll K z84 z7o [(z7p, false), (z7q, false), (z7r, false), (z7s, false), (z7t, false), (z7u, false), (z7v, false), (z7w, false), (z7x, false), (z7y, false), (z7z, false), (z80, false), (z81, false), (z82, false), (z83, false), (z84, true), (z85, false), (z86, false), (z87, false), (z88, false), (z89, false), (z8a, false)] = true)
    (zdd : excAll K z89 z7o [(z7p, false), (z7q, false), (z7r, false), (z7s, false), (z7t, false), (z7u, false), (z7v, false), (z7w, false), (z7x, false), (z7y, false), (z7z, false), (z80, false), (z81, false), (z82, false), (z83, false), (z84, false), (z85, false), (z86, false), (z87, false), (z88, false), (z89, true), (z8a, false)] = true)
    (zde : z9 = .ref z8c)
    (zdf : PySem.W.codeHdIn K z8c z8b = true)
    (zdg : K.lookup z8b = none)
    (zdh : PySem.W.nsIn K mainGlobals "ValueError" = some none)
    (zdi : PySem.W.nsIn K mainGlobals "abs" = some none)
    (zdj : PySem.W.nsIn K mainGlobals "enumerate" = some none)
    (zdk : PySem.W.nsIn K mainGlobals "int" = some none)
    (zdl : PySem.W.nsIn K mainGlobals "isinstance" = some none)
    (zdm : PySem.W.nsIn K mainGlobals "len" = some none)
    (zdn : PySem.W.nsIn K mainGlobals "list" = some none)
    (zdo : PySem.W.nsIn K mainGlobals "min" = some none)
    (zdp : PySem.W.nsIn K mainGlobals "range" = some none)
    (zdq : PySem.W.nsIn K mainGlobals "tuple" = some none)
    (zdr : PySem.W.nsIn K mainGlobals "zip" = some none)
    (zds : PySem.W.nsIn K mainGlobals "LAST_NOTE" = some (some z8d))
    (zdt : RelV (.int 9999) z8d)
    (zdu : PySem.W.nsIn K mainGlobals "LAST_WORDS" = some (some z8e))
    (zdv : z8e = .ref z8h)
    (zdw : K.lookup z8h = some ⟨.type "tuple", z8i, .seq z8j z8k, z8l⟩)
    (zdx : z8j.size ≤ sizeLine)
    (zdy : Vals [.str "ask", .str "go", .str "end"] z8j.toList)
    (zdz : PySem.W.nsIn K mainGlobals "PARTS" = some (some z8f))
    (ze0 : ∃ a, z8f = .ref a ∧ TabT K a [("bell", ["note"]), ("set", ["mark", "side"]), ("ask", ["mark", "row", "row"]), ("bump", ["counter", "row"]), ("go", ["row"]), ("call", ["stretch"]), ("end", [])])
    (ze1 : PySem.W.nsIn K mainGlobals "WIDEST" = some (some z8g))
    (ze2 : RelV (.int 8) z8g) :
    Txt K mg ⟨z0, PySem.W.fnOf "law" "law" (defArgs s_law) (defBody s_law) (defScope s_law) z5 z6 z7 z8 z2 z9 za, z5, zb, PySem.W.fnOf "_law_draws" "_law_draws" (defArgs s_draws) (defBody s_draws) (defScope s_draws) zg zh zi zj zd zk zl, zg, zm, PySem.W.fnOf "_law_program" "_law_program" (defArgs s_program) (defBody s_program) (defScope s_program) zr zs zt zu zo zv zw, zr, zx, PySem.W.fnOf "_law_parts" "_law_parts" (defArgs s_parts) (defBody s_parts) (defScope s_parts) z12 z13 z14 z15 zz z16 z17, z12, z18, PySem.W.fnOf "_law_row" "_law_row" (defArgs s_row) (defBody s_row) (defScope s_row) z1d z1e z1f z1g z1a z1h z1i, z1d, z1j, PySem.W.fnOf "_law_copied" "_law_copied" (defArgs s_copied) (defBody s_copied) (defScope s_copied) z1o z1p z1q z1r z1l z1s z1t, z1o, z1u, PySem.W.fnOf "_law_spoilt" "_law_spoilt" (defArgs s_spoilt) (defBody s_spoilt) (defScope s_spoilt) z1z z20 z21 z22 z1w z23 z24, z1z, z25, PySem.W.fnOf "_law_number" "_law_number" (defArgs s_number) (defBody s_number) (defScope s_number) z2a z2b z2c z2d z27 z2e z2f, z2a, z2g, PySem.W.fnOf "_law_refused" "_law_refused" (defArgs s_refused) (defBody s_refused) (defScope s_refused) z2l z2m z2n z2o z2i z2p z2q, z2l, z2r, PySem.W.fnOf "_law_names" "_law_names" (defArgs s_names) (defBody s_names) (defScope s_names) z2w z2x z2y z2z z2t z30 z31, z2w, z32, PySem.W.fnOf "_law_fault" "_law_fault" (defArgs s_fault) (defBody s_fault) (defScope s_fault) z37 z38 z39 z3a z34 z3b z3c, z37, z3d, PySem.W.fnOf "_law_row_fault" "_law_row_fault" (defArgs s_row_fault) (defBody s_row_fault) (defScope s_row_fault) z3i z3j z3k z3l z3f z3m z3n, z3i, z3o, PySem.W.fnOf "check_side" "check_side" (defArgs s_check_side) (defBody s_check_side) (defScope s_check_side) z3t z3u z3v z3w z3q z3x z3y, z3t, z3z, PySem.W.fnOf "check_width" "check_width" (defArgs s_check_width) (defBody s_check_width) (defScope s_check_width) z44 z45 z46 z47 z41 z48 z49, z44, z4a, PySem.W.fnOf "check_note" "check_note" (defArgs s_check_note) (defBody s_check_note) (defScope s_check_note) z4f z4g z4h z4i z4c z4j z4k, z4f, z4l, PySem.W.fnOf "check_mark" "check_mark" (defArgs s_check_mark) (defBody s_check_mark) (defScope s_check_mark) z4q z4r z4s z4t z4n z4u z4v, z4q, z4w, PySem.W.fnOf "check_counter" "check_counter" (defArgs s_check_counter) (defBody s_check_counter) (defScope s_check_counter) z51 z52 z53 z54 z4y z55 z56, z51, z57, PySem.W.fnOf "check_row" "check_row" (defArgs s_check_row) (defBody s_check_row) (defScope s_check_row) z5c z5d z5e z5f z59 z5g z5h, z5c, z5i, PySem.W.fnOf "check_stretch" "check_stretch" (defArgs s_check_stretch) (defBody s_check_stretch) (defScope s_check_stretch) z5n z5o z5p z5q z5k z5r z5s, z5n, z5t, PySem.W.fnOf "__init__" "Program.__init__" (defArgs s_Program_init) (defBody s_Program_init) (defScope s_Program_init) z5y z5z z60 z61 z5v z62 z63, z5y, z64, PySem.W.fnOf "check_beginning" "Program.check_beginning" (defArgs s_Program_check_beginning) (defBody s_Program_check_beginning) (defScope s_Program_check_beginning) z69 z6a z6b z6c z66 z6d z6e, z69, z6f, PySem.W.fnOf "many" "Program.many" (defArgs s_Program_many) (defBody s_Program_many) (defScope s_Program_many) z6k z6l z6m z6n z6h z6o z6p, z6k, z6q, PySem.W.fnOf "check_rows" "Program.check_rows" (defArgs s_Program_check_rows) (defBody s_Program_check_rows) (defScope s_Program_check_rows) z6v z6w z6x z6y z6s z6z z70, z6v, z71, PySem.W.fnOf "check_part" "Program.check_part" (defArgs s_Program_check_part) (defBody s_Program_check_part) (defScope s_Program_check_part) z76 z77 z78 z79 z73 z7a z7b, z76, z7c, PySem.W.fnOf "check_called" "Program.check_called" (defArgs s_Program_check_called) (defBody s_Program_check_called) (defScope s_Program_check_called) z7h z7i z7j z7k z7e z7l z7m, z7h, z7n, z7o, z7p, z7q, z7r, z7s, z7t, z7u, z7v, z7w, z7x, z7y, z7z, z80, z81, z82, z83, z84, z85, z86, z87, z88, z89, z8a, z8b, z8d, z8e, z8f, z8g⟩ where
  F_law := funG_mk z8o z8p z8q
  F_draws := funG_mk z8t z8u z8v
  F_program := funG_mk z8y z8z z90
  F_parts := funG_mk z93 z94 z95
  F_row := funG_mk z98 z99 z9a
  F_copied := funG_mk z9d z9e z9f
  F_spoilt := funG_mk z9i z9j z9k
  F_number := funG_mk z9n z9o z9p
  F_refused := funG_mk z9s z9t z9u
  F_names := funG_mk z9x z9y z9z
  F_fault := funG_mk za2 za3 za4
  F_row_fault := funG_mk za7 za8 za9
  F_check_side := funG_mk zac zad zae
  F_check_width := funG_mk zah zai zaj
  F_check_note := funG_mk zam zan zao
  F_check_mark := funG_mk zar zas zat
  F_check_counter := funG_mk zaw zax zay
  F_check_row := funG_mk zb1 zb2 zb3
  F_check_stretch := funG_mk zb6 zb7 zb8
  F_Program_init := funG_mk zbc zbd zbe
  F_Program_check_beginning := funG_mk zbi zbj zbk
  F_Program_many := funG_mk zbo zbp zbq
  F_Program_check_rows := funG_mk zbu zbv zbw
  F_Program_check_part := funG_mk zc0 zc1 zc2
  F_Program_check_called := funG_mk zc6 zc7 zc8
  m_law := PySem.W.mg_of KX G z8n
  e_law := z8r
  m_draws := PySem.W.mg_of KX G z8s
  e_draws := z8w
  m_program := PySem.W.mg_of KX G z8x
  e_program := z91
  m_parts := PySem.W.mg_of KX G z92
  e_parts := z96
  m_row := PySem.W.mg_of KX G z97
  e_row := z9b
  m_copied := PySem.W.mg_of KX G z9c
  e_copied := z9g
  m_spoilt := PySem.W.mg_of KX G z9h
  e_spoilt := z9l
  m_number := PySem.W.mg_of KX G z9m
  e_number := z9q
  m_refused := PySem.W.mg_of KX G z9r
  e_refused := z9v
  m_names := PySem.W.mg_of KX G z9w
  e_names := za0
  m_fault := PySem.W.mg_of KX G za1
  e_fault := za5
  m_row_fault := PySem.W.mg_of KX G za6
  e_row_fault := zaa
  m_check_side := PySem.W.mg_of KX G zab
  e_check_side := zaf
  m_check_width := PySem.W.mg_of KX G zag
  e_check_width := zak
  m_check_note := PySem.W.mg_of KX G zal
  e_check_note := zap
  m_check_mark := PySem.W.mg_of KX G zaq
  e_check_mark := zau
  m_check_counter := PySem.W.mg_of KX G zav
  e_check_counter := zaz
  m_check_row := PySem.W.mg_of KX G zb0
  e_check_row := zb4
  m_check_stretch := PySem.W.mg_of KX G zb5
  e_check_stretch := zb9
  e_Program_init := zbf
  M_Program_check_beginning := ⟨zbg, zbh, zbk⟩
  e_Program_check_beginning := zbl
  M_Program_many := ⟨zbm, zbn, zbq⟩
  e_Program_many := zbr
  M_Program_check_rows := ⟨zbs, zbt, zbw⟩
  e_Program_check_rows := zbx
  M_Program_check_part := ⟨zby, zbz, zc2⟩
  e_Program_check_part := zc3
  M_Program_check_called := ⟨zc4, zc5, zc8⟩
  e_Program_check_called := zc9
  cl_Program := ⟨zca, zcb, zcc, zcd⟩
  m_Program := PySem.W.mg_of KX G z8m
  mk_Program := ⟨zce, zba, zbb, zcf⟩
  n_Program_mark_sides := zcg
  n_Program_counter_widths := zch
  n_Program_stretches := zci
  m_RailError := PySem.W.mg_of KX G zcj
  m_NoKind := PySem.W.mg_of KX G zck
  m_NoEnd := PySem.W.mg_of KX G zcl
  m_NoSide := PySem.W.mg_of KX G zcm
  m_NoNote := PySem.W.mg_of KX G zcn
  m_NoPiece := PySem.W.mg_of KX G zco
  m_NoRod := PySem.W.mg_of KX G zcp
  m_NoPoint := PySem.W.mg_of KX G zcq
  m_NoBell := PySem.W.mg_of KX G zcr
  m_SameEnd := PySem.W.mg_of KX G zcs
  m_Linked := PySem.W.mg_of KX G zct
  m_NotLinked := PySem.W.mg_of KX G zcu
  m_Occupied := PySem.W.mg_of KX G zcv
  m_NoStand := PySem.W.mg_of KX G zcw
  m_NoMany := PySem.W.mg_of KX G zcx
  m_NoStretch := PySem.W.mg_of KX G zcy
  m_NoRow := PySem.W.mg_of KX G zcz
  m_NoMark := PySem.W.mg_of KX G zd0
  m_NoCounter := PySem.W.mg_of KX G zd1
  m_NoWidth := PySem.W.mg_of KX G zd2
  m_NoValue := PySem.W.mg_of KX G zd3
  m_FallsOut := PySem.W.mg_of KX G zd4
  m_NoText := PySem.W.mg_of KX G zd5
  x_NoSide := zd6
  x_NoNote := zd7
  x_NoMark := zd8
  x_NoCounter := zd9
  x_NoWidth := zda
  x_NoStretch := zdb
  x_NoRow := zdc
  x_FallsOut := zdd
  tb_law := ⟨z8c, zde, zdf⟩
  tn_law := zdg
  z_ValueError := PySem.W.mg_none_of KX G zdh
  z_abs := PySem.W.mg_none_of KX G zdi
  z_enumerate := PySem.W.mg_none_of KX G zdj
  z_int := PySem.W.mg_none_of KX G zdk
  z_isinstance := PySem.W.mg_none_of KX G zdl
  z_len := PySem.W.mg_none_of KX G zdm
  z_list := PySem.W.mg_none_of KX G zdn
  z_min := PySem.W.mg_none_of KX G zdo
  z_range := PySem.W.mg_none_of KX G zdp
  z_tuple := PySem.W.mg_none_of KX G zdq
  z_zip := PySem.W.mg_none_of KX G zdr
  g_LAST_NOTE := PySem.W.mg_of KX G zds
  r_LAST_NOTE := zdt
  g_LAST_WORDS := PySem.W.mg_of KX G zdu
  x_LAST_WORDS := ⟨z8h, _, z8j, z8k, zdv, zdw, rfl, rfl, zdx, zdy⟩
  g_PARTS := PySem.W.mg_of KX G zdz
  x_PARTS := ze0
  g_WIDEST := PySem.W.mg_of KX G ze1
  r_WIDEST := ze2
end P
def PySem.W.Fast.tw4788971536809029693 : Unit := ()
def PySem.W.Fast.tw12940381967242264012 : Unit := ()
def PySem.W.Fast.tw16257858681030345963 : Unit := ()
def PySem.W.Fast.tw5505327760289292912 : Unit := ()
def PySem.W.Fast.tw15869270015037852006 : Unit := ()
def PySem.W.Fast.tw15645592310783606062 : Unit := ()
def PySem.W.Fast.tw7977502510434716437 : Unit := ()
def PySem.W.Fast.tw15922883702157198260 : Unit := ()
def PySem.W.Fast.tw1782707115675518820 : Unit := ()
def PySem.W.Fast.tw2078999362970180887 : Unit := ()
def PySem.W.Fast.tw6070451223153216555 : Unit := ()
def PySem.W.Fast.tw11657855413479683788 : Unit := ()
def PySem.W.Fast.tw13137288180814460995 : Unit := ()
def PySem.W.Fast.tw18269128306555071679 : Unit := ()
def PySem.W.Fast.tw15217451416922273708 : Unit := ()
def PySem.W.Fast.tw10554029803060259854 : Unit := ()
def PySem.W.Fast.tw1299315970073221885 : Unit := ()
def PySem.W.Fast.tw2169278736573950131 : Unit := ()
def PySem.W.Fast.tw65550477496807483 : Unit := ()
def PySem.W.Fast.tw7051252868406891835 : Unit := ()
def PySem.W.Fast.tw2540091169964702249 : Unit := ()
def PySem.W.Fast.tw12266825206823935792 : Unit := ()
def PySem.W.Fast.tw10803938995846323892 : Unit := ()
def PySem.W.Fast.tw18445075750691882780 : Unit := ()
def PySem.W.Fast.tw12736185419398327276 : Unit := ()
def PySem.W.Fast.tw15452058731426463414 : Unit := ()
def PySem.W.Fast.tw8327086526170595312 : Unit := ()
def PySem.W.Fast.tw3634528392303104265 : Unit := ()
def PySem.W.Fast.tw15487401887285107977 : Unit := ()
def PySem.W.Fast.tw14204213314838489767 : Unit := ()
def PySem.W.Fast.tw1895148414488986437 : Unit := ()
def PySem.W.Fast.tw5982628387495496052 : Unit := ()
def PySem.W.Fast.tw8691627116357466485 : Unit := ()
def PySem.W.Fast.tw13322985913801738619 : Unit := ()
def PySem.W.Fast.tw12673434527753702550 : Unit := ()
def PySem.W.Fast.tw16409106992191999328 : Unit := ()
def PySem.W.Fast.tw15822199654514078759 : Unit := ()
def PySem.W.Fast.tw2906093300639979110 : Unit := ()
def PySem.W.Fast.tw15458247375665133978 : Unit := ()
def PySem.W.Fast.tw10791995347715312082 : Unit := ()
def PySem.W.Fast.tw2861247819589888142 : Unit := ()
def PySem.W.Fast.tw5376311197648795883 : Unit := ()
def PySem.W.Fast.tw2881289054895824169 : Unit := ()
def PySem.W.Fast.tw13206328577445299161 : Unit := ()
def PySem.W.Fast.tw7385262647311798310 : Unit := ()
def PySem.W.Fast.tw13592644606879741512 : Unit := ()
def PySem.W.Fast.tw1133893380593179249 : Unit := ()
def PySem.W.Fast.tw12108394483946565322 : Unit := ()
def PySem.W.Fast.tw2025436883423939388 : Unit := ()
def PySem.W.Fast.tw7708674442953992478 : Unit := ()
def PySem.W.Fast.tw15501296324713875733 : Unit := ()
def PySem.W.Fast.tw14782416615070655032 : Unit := ()
def PySem.W.Fast.tw7245605200103439955 : Unit := ()
def PySem.W.Fast.tw10319179332694291580 : Unit := ()
def PySem.W.Fast.tw11940266994473461057 : Unit := ()
def PySem.W.Fast.tw7946338407977342228 : Unit := ()
def PySem.W.Fast.tw10606730588618785795 : Unit := ()
def PySem.W.Fast.tw6206786837146295839 : Unit := ()
def PySem.W.Fast.tw8096474251826191607 : Unit := ()
def PySem.W.Fast.tw8304253962319311035 : Unit := ()
def PySem.W.Fast.tw1024566233701209976 : Unit := ()
def PySem.W.Fast.tw14200646983766264480 : Unit := ()
def PySem.W.Fast.tw6586783701264936902 : Unit := ()
def PySem.W.Fast.tw5600055630601316916 : Unit := ()
def PySem.W.Fast.tw12491028732158982026 : Unit := ()
def PySem.W.Fast.tw6828713150755207894 : Unit := ()
def PySem.W.Fast.tw12288662120532028946 : Unit := ()
def PySem.W.Fast.tw6593288627618757446 : Unit := ()
def PySem.W.Fast.tw9456422144418476796 : Unit := ()
def PySem.W.Fast.tw8605575232621329902 : Unit := ()
def PySem.W.Fast.tw7161027169097463855 : Unit := ()
def PySem.W.Fast.tw11981467081099020842 : Unit := ()
def PySem.W.Fast.tw17701916598499061269 : Unit := ()
def PySem.W.Fast.tw17478700001661963862 : Unit := ()
def PySem.W.Fast.tw7014192156845566510 : Unit := ()
def PySem.W.Fast.tw7695750222580659529 : Unit := ()
def PySem.W.Fast.tw1172264794293168428 : Unit := ()
def PySem.W.Fast.tw1940229334616017561 : Unit := ()
def PySem.W.Fast.tw16044752507912383859 : Unit := ()
def PySem.W.Fast.tw16938246334356758648 : Unit := ()
def PySem.W.Fast.tw7748960966295192951 : Unit := ()
def PySem.W.Fast.tw17124671486254669213 : Unit := ()
def PySem.W.Fast.tw6352317267789791119 : Unit := ()
def PySem.W.Fast.tw10495997418017234343 : Unit := ()
def PySem.W.Fast.tw15226151813232017155 : Unit := ()
def PySem.W.Fast.tw8364234875161876387 : Unit := ()
def PySem.W.Fast.tw14619668593723952643 : Unit := ()
def PySem.W.Fast.tw10748375357742688214 : Unit := ()
def PySem.W.Fast.tw16068971877767671548 : Unit := ()
def PySem.W.Fast.tw13041696080877221643 : Unit := ()
def PySem.W.Fast.tw6864316711696137031 : Unit := ()
def PySem.W.Fast.tw223227929304830340 : Unit := ()
def PySem.W.Fast.tw4294904325533289733 : Unit := ()
def PySem.W.Fast.tw3780003889466299892 : Unit := ()
def PySem.W.Fast.tw15411265644484670340 : Unit := ()
def PySem.W.Fast.tw8460979784229054590 : Unit := ()
def PySem.W.Fast.tw13670844865698675567 : Unit := ()
def PySem.W.Fast.tw3763373482051247908 : Unit := ()
def PySem.W.Fast.tw9568641724441874700 : Unit := ()
def PySem.W.Fast.tw3237869170331314565 : Unit := ()
def PySem.W.Fast.tw10006707418314084650 : Unit := ()
def PySem.W.Fast.tw4150321469584568801 : Unit := ()
def PySem.W.Fast.tw17667659210714816916 : Unit := ()
def PySem.W.Fast.tw17798139912709827920 : Unit := ()
def PySem.W.Fast.tw10108635596006223714 : Unit := ()
def PySem.W.Fast.tw9171557301308078685 : Unit := ()
def PySem.W.Fast.tw2215000611134816063 : Unit := ()
def PySem.W.Fast.tw5222112221412176144 : Unit := ()
def PySem.W.Fast.tw13247196015573820047 : Unit := ()
def PySem.W.Fast.tw3102092758974338270 : Unit := ()
def PySem.W.Fast.tw12158374021571963106 : Unit := ()
def PySem.W.Fast.tw8137879287654811913 : Unit := ()
def PySem.W.Fast.tw10212897794366618229 : Unit := ()
def PySem.W.Fast.tw1046094927437997808 : Unit := ()
def PySem.W.Fast.tw10772598723981068734 : Unit := ()
def PySem.W.Fast.tw11501707899668685606 : Unit := ()
def PySem.W.Fast.tw9237963880475764031 : Unit := ()
def PySem.W.Fast.tw10446552517885981826 : Unit := ()
def PySem.W.Fast.tw2220644665872791895 : Unit := ()
def PySem.W.Fast.tw17921842706292295808 : Unit := ()

open PySem PySem.W PyProof.Rows
set_option maxRecDepth 100000 in
set_option maxHeartbeats 0 in
theorem PySem.Challenge.cw_lazyrails_k34_programs_refused_holds : PySem.Challenge.rw_lazyrails_k34_programs_refused.Holds := by
  w_on; o_law; k_head; (case hw => w_witness2)
  k_fill
  refine L2.walk_ofT (l := PySem.Challenge.rw_lazyrails_k34_programs_refused) (n := 63) (k := 12) (x := "_law_script") (sp := P.sp_lawT) rfl (by decide) rfl ⟨rfl, by decide, by decide, rfl⟩ (fun w h Y => ⟨PySem.W.km_in_of Y, PySem.W.km_tabs_of Y _ (List.Mem.head _)⟩) ?F ?S
  case F =>
    intro w mg fa h KX G hmg
    refine P.finF hmg ?_
    refine' ⟨_, P.txt_mk KX G ?z8m ?z8n ?z8o ?z8p ?z8q ?z8r ?z8s ?z8t ?z8u ?z8v ?z8w ?z8x ?z8y ?z8z ?z90 ?z91 ?z92 ?z93 ?z94 ?z95 ?z96 ?z97 ?z98 ?z99 ?z9a ?z9b ?z9c ?z9d ?z9e ?z9f ?z9g ?z9h ?z9i ?z9j ?z9k ?z9l ?z9m ?z9n ?z9o ?z9p ?z9q ?z9r ?z9s ?z9t ?z9u ?z9v ?z9w ?z9x ?z9y ?z9z ?za0 ?za1 ?za2 ?za3 ?za4 ?za5 ?za6 ?za7 ?za8 ?za9 ?zaa ?zab ?zac ?zad ?zae ?zaf ?zag ?zah ?zai ?zaj ?zak ?zal ?zam ?zan ?zao ?zap ?zaq ?zar ?zas ?zat ?zau ?zav ?zaw ?zax ?zay ?zaz ?zb0 ?zb1 ?zb2 ?zb3 ?zb4 ?zb5 ?zb6 ?zb7 ?zb8 ?zb9 ?zba ?zbb ?zbc ?zbd ?zbe ?zbf ?zbg ?zbh ?zbi ?zbj ?zbk ?zbl ?zbm ?zbn ?zbo ?zbp ?zbq ?zbr ?zbs ?zbt ?zbu ?zbv ?zbw ?zbx ?zby ?zbz ?zc0 ?zc1 ?zc2 ?zc3 ?zc4 ?zc5 ?zc6 ?zc7 ?zc8 ?zc9 ?zca ?zcb ?zcc ?zcd ?zce ?zcf ?zcg ?zch ?zci ?zcj ?zck ?zcl ?zcm ?zcn ?zco ?zcp ?zcq ?zcr ?zcs ?zct ?zcu ?zcv ?zcw ?zcx ?zcy ?zcz ?zd0 ?zd1 ?zd2 ?zd3 ?zd4 ?zd5 ?zd6 ?zd7 ?zd8 ?zd9 ?zda ?zdb ?zdc ?zdd ?zde ?zdf ?zdg ?zdh ?zdi ?zdj ?zdk ?zdl ?zdm ?zdn ?zdo ?zdp ?zdq ?zdr ?zds ?zdt ?zdu ?zdv ?zdw ?zdx ?zdy ?zdz ?ze0 ?ze1 ?ze2, rfl⟩
    (case z8m => k_is)
    (case z8n => k_is)
    (case z8o => k_is)
    (case z8p => k_is)
    (case z8q => k_is)
    (case z8r => exact rfl)
    (case z8s => k_is)
    (case z8t => k_is)
    (case z8u => k_is)
    (case z8v => k_is)
    (case z8w => exact rfl)
    (case z8x => k_is)
    (case z8y => k_is)
    (case z8z => k_is)
    (case z90 => k_is)
    (case z91 => exact rfl)
    (case z92 => k_is)
    (case z93 => k_is)
    (case z94 => k_is)
    (case z95 => k_is)
    (case z96 => exact rfl)
    (case z97 => k_is)
    (case z98 => k_is)
    (case z99 => k_is)
    (case z9a => k_is)
    (case z9b => exact rfl)
    (case z9c => k_is)
    (case z9d => k_is)
    (case z9e => k_is)
    (case z9f => k_is)
    (case z9g => exact rfl)
    (case z9h => k_is)
    (case z9i => k_is)
    (case z9j => k_is)
    (case z9k => k_is)
    (case z9l => exact rfl)
    (case z9m => k_is)
    (case z9n => k_is)
    (case z9o => k_is)
    (case z9p => k_is)
    (case z9q => exact rfl)
    (case z9r => k_is)
    (case z9s => k_is)
    (case z9t => k_is)
    (case z9u => k_is)
    (case z9v => exact rfl)
    (case z9w => k_is)
    (case z9x => k_is)
    (case z9y => k_is)
    (case z9z => k_is)
    (case za0 => exact rfl)
    (case za1 => k_is)
    (case za2 => k_is)
    (case za3 => k_is)
    (case za4 => k_is)
    (case za5 => exact rfl)
    (case za6 => k_is)
    (case za7 => k_is)
    (case za8 => k_is)
    (case za9 => k_is)
    (case zaa => exact rfl)
    (case zab => k_is)
    (case zac => k_is)
    (case zad => k_is)
    (case zae => k_is)
    (case zaf => exact rfl)
    (case zag => k_is)
    (case zah => k_is)
    (case zai => k_is)
    (case zaj => k_is)
    (case zak => exact rfl)
    (case zal => k_is)
    (case zam => k_is)
    (case zan => k_is)
    (case zao => k_is)
    (case zap => exact rfl)
    (case zaq => k_is)
    (case zar => k_is)
    (case zas => k_is)
    (case zat => k_is)
    (case zau => exact rfl)
    (case zav => k_is)
    (case zaw => k_is)
    (case zax => k_is)
    (case zay => k_is)
    (case zaz => exact rfl)
    (case zb0 => k_is)
    (case zb1 => k_is)
    (case zb2 => k_is)
    (case zb3 => k_is)
    (case zb4 => exact rfl)
    (case zb5 => k_is)
    (case zb6 => k_is)
    (case zb7 => k_is)
    (case zb8 => k_is)
    (case zb9 => exact rfl)
    (case zba => k_is)
    (case zbb => k_is)
    (case zbc => k_is)
    (case zbd => k_is)
    (case zbe => k_is)
    (case zbf => exact rfl)
    (case zbg => k_is)
    (case zbh => k_is)
    (case zbi => k_is)
    (case zbj => k_is)
    (case zbk => k_is)
    (case zbl => exact rfl)
    (case zbm => k_is)
    (case zbn => k_is)
    (case zbo => k_is)
    (case zbp => k_is)
    (case zbq => k_is)
    (case zbr => exact rfl)
    (case zbs => k_is)
    (case zbt => k_is)
    (case zbu => k_is)
    (case zbv => k_is)
    (case zbw => k_is)
    (case zbx => exact rfl)
    (case zby => k_is)
    (case zbz => k_is)
    (case zc0 => k_is)
    (case zc1 => k_is)
    (case zc2 => k_is)
    (case zc3 => exact rfl)
    (case zc4 => k_is)
    (case zc5 => k_is)
    (case zc6 => k_is)
    (case zc7 => k_is)
    (case zc8 => k_is)
    (case zc9 => exact rfl)
    (case zca => k_is)
    (case zcb => k_is)
    (case zcc => k_is)
    (case zcd => k_is)
    (case zce => k_is)
    (case zcf => k_is)
    (case zcg => k_is)
    (case zch => k_is)
    (case zci => k_is)
    (case zcj => k_is)
    (case zck => k_is)
    (case zcl => k_is)
    (case zcm => k_is)
    (case zcn => k_is)
    (case zco => k_is)
    (case zcp => k_is)
    (case zcq => k_is)
    (case zcr => k_is)
    (case zcs => k_is)
    (case zct => k_is)
    (case zcu => k_is)
    (case zcv => k_is)
    (case zcw => k_is)
    (case zcx => k_is)
    (case zcy => k_is)
    (case zcz => k_is)
    (case zd0 => k_is)
    (case zd1 => k_is)
    (case zd2 => k_is)
    (case zd3 => k_is)
    (case zd4 => k_is)
    (case zd5 => k_is)
    (case zd6 => kernel_rfl)
    (case zd7 => kernel_rfl)
    (case zd8 => kernel_rfl)
    (case zd9 => kernel_rfl)
    (case zda => kernel_rfl)
    (case zdb => kernel_rfl)
    (case zdc => kernel_rfl)
    (case zdd => kernel_rfl)
    (case zde => exact rfl)
    (case zdf => kernel_rfl)
    (case zdg => kernel_rfl)
    (case zdh => k_is)
    (case zdi => k_is)
    (case zdj => k_is)
    (case zdk => k_is)
    (case zdl => k_is)
    (case zdm => k_is)
    (case zdn => k_is)
    (case zdo => k_is)
    (case zdp => k_is)
    (case zdq => k_is)
    (case zdr => k_is)
    (case zds => k_is)
    (case zdt => exact ⟨_, rfl⟩)
    (case zdu => k_is)
    (case zdv => exact rfl)
    (case zdw => k_is)
    (case zdx => exact (show 3 ≤ PySem.sizeLine by decide))
    (case zdy => exact .cons ⟨_, rfl⟩ (.cons ⟨_, rfl⟩ (.cons ⟨_, rfl⟩ (.nil))))
    (case zdz => k_is)
    (case ze0 => exact ⟨_, rfl, by kernel_rfl⟩)
    (case ze1 => k_is)
    (case ze2 => exact ⟨_, rfl⟩)
  case S => exact fun K H a ns hl hT hS => P.law_startT hl hT hS
