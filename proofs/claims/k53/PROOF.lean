import PyProof.Rows.All
import Wide.All
import OpenK.AllK
import Wide.FinOn
import Lean
import PyProof.EqAt
import PyProof.EqKinds
import PyProof.TupleCall
import PyProof.ZipIter
import PyProof.EnumMake
import PyProof.ListRange
import KE.KDictList
import KE.LcSums
import KE.KTabLook
import PyProof.P3In
import KE.KIntText
import PyProof.StrLoop
import PyProof.StrWalks
import PyProof.StrCalls2
import PyProof.StrLawsTight
import PyProof.StrLawsChain
import PySem.Challenge.RW_lazyrails_k53_programs_written_and_read
set_option Elab.async false
set_option linter.all false
set_option maxRecDepth 100000
namespace L2
open PySem PySem.Spec PyProof.Rows

abbrev Key := Sum Int Str
def keyIs : Key → Value → Bool
  | .inl k, v => Value.isInt k v
  | .inr x, v => Value.isStrOf x v
def keyH (w : World) : Key → Int
  | .inl k => hashInt k
  | .inr x => hashStr w x
theorem keyIs_shape : ∀ {k : Key} {v : Value}, keyIs k v = true → (∃ i t, k = Sum.inl i ∧ v = Value.int i t) ∨ (∃ x t, k = Sum.inr x ∧ v = Value.str x t)
  | .inl i, v, h => by
    obtain ⟨t, e⟩ := Value.isInt_shape (k := i) (v := v) h
    exact .inl ⟨i, t, rfl, e⟩
  | .inr x, v, h => by
    obtain ⟨t, e⟩ := Value.isStrOf_shape (x := x) (v := v) h
    exact .inr ⟨x, t, rfl, e⟩
theorem key_ll (a b : Int) : decide ((Sum.inl a : Key) = Sum.inl b) = (a == b) := by
  by_cases e : a = b
  · subst e; simp
  · have h : ¬ (Sum.inl a : Key) = Sum.inl b := fun q => e (Sum.inl.inj q)
    rw [decide_eq_false h]
    exact (beq_eq_false_iff_ne.mpr e).symm
theorem key_rr (a b : Str) : decide ((Sum.inr a : Key) = Sum.inr b) = decide (a = b) := by
  by_cases e : a = b
  · subst e; simp
  · have h : ¬ (Sum.inr a : Key) = Sum.inr b := fun q => e (Sum.inr.inj q)
    rw [decide_eq_false h, decide_eq_false e]
theorem key_lr (a : Int) (b : Str) : decide ((Sum.inl a : Key) = Sum.inr b) = false := decide_eq_false (fun q => nomatch q)
theorem key_rl (a : Str) (b : Int) : decide ((Sum.inr a : Key) = Sum.inl b) = false := decide_eq_false (fun q => nomatch q)

def mixKind (prog : Program) (w : World) : PySem.KeyKind prog w Key where
  is := keyIs
  hash := keyH w
  inj := fun v a b ha hb => by
    rcases keyIs_shape ha with ⟨i, t, rfl, rfl⟩ | ⟨x, t, rfl, rfl⟩
    · rcases keyIs_shape hb with ⟨j, u, rfl, e⟩ | ⟨y, u, rfl, e⟩
      · injection e with e1 _; rw [e1]
      · exact nomatch e
    · rcases keyIs_shape hb with ⟨j, u, rfl, e⟩ | ⟨y, u, rfl, e⟩
      · exact nomatch e
      · injection e with e1 _; rw [e1]
  byValue := fun k v h => by
    rcases keyIs_shape h with ⟨i, t, rfl, rfl⟩ | ⟨x, t, rfl, rfl⟩ <;> rfl
  pyHash := fun hv h => by
    rcases keyIs_shape hv with ⟨i, t, rfl, rfl⟩ | ⟨x, t, rfl, rfl⟩
    · exact wpAny_pyHash_int h
    · exact wpAny_pyHash_str h
  eqBool := fun hu hv h => by
    rcases keyIs_shape hu with ⟨i, t, rfl, rfl⟩ | ⟨x, t, rfl, rfl⟩
    · rcases keyIs_shape hv with ⟨j, u, rfl, rfl⟩ | ⟨y, u, rfl, rfl⟩
      · rw [key_ll] at h; exact wpAny_eqBool_int h
      · rw [key_lr] at h; exact SeqAt.EqAt.int_str i t y u _ _ _ _ h
    · rcases keyIs_shape hv with ⟨j, u, rfl, rfl⟩ | ⟨y, u, rfl, rfl⟩
      · rw [key_rl] at h; exact SeqAt.EqAt.str_int x t j u _ _ _ _ h
      · rw [key_rr] at h; exact wpAny_eqBool_str h
  «strs» := fun k x t v h => by
    rcases keyIs_shape h with ⟨i, u, rfl, e⟩ | ⟨y, u, rfl, e⟩
    · exact nomatch e
    · injection e with e1 _
      subst e1
      cases v <;> rfl

end L2

namespace L2
open PySem PySem.Spec PyProof.Rows

inductive V where
  | non | bl (b : Bool) | int (i : Int) | str (x : Str) | byt (b : Array UInt8) | flt (b : UInt64) | ref (a : Addr) | ty (n : String)
  deriving DecidableEq

def RelV : V → Value → Prop
  | .non, u => u = Value.none
  | .bl b, u => u = Value.bool b
  | .int i, u => ∃ t, u = Value.int i t
  | .str x, u => ∃ t, u = Value.str x t
  | .byt b, u => ∃ t, u = Value.bytes b t
  | .flt b, u => ∃ t, u = Value.float b t
  | .ref a, u => u = Value.ref a
  | .ty n, u => u = Value.type n

abbrev Vals : List V → List Value → Prop := Paired RelV
theorem Vals.length {xs : List V} {us : List Value} (r : Vals xs us) : xs.length = us.length := Paired.length r
theorem Vals.get : ∀ {xs : List V} {us : List Value} {i : Nat} {x : V}, Vals xs us → xs[i]? = some x → ∃ u, us[i]? = some u ∧ RelV x u
  | _, _, _, _, .nil, e => by simp at e
  | _, _, 0, _, .cons r _, e => by simp at e; subst e; exact ⟨_, rfl, r⟩
  | _, _, i + 1, x, .cons _ t, e => by
    obtain ⟨u, h1, h2⟩ := Vals.get (i := i) (x := x) t (by simpa using e)
    exact ⟨u, by simpa using h1, h2⟩
theorem Vals.set {x : V} {u : Value} (r : RelV x u) : ∀ {xs : List V} {us : List Value} (i : Nat), Vals xs us → Vals (xs.set i x) (us.set i u)
  | _, _, _, .nil => .nil
  | _, _, 0, .cons _ t => .cons r t
  | _, _, i + 1, .cons q t => .cons q (Vals.set r i t)
theorem Vals.append : ∀ {xs ys : List V} {us ws : List Value}, Vals xs us → Vals ys ws → Vals (xs ++ ys) (us ++ ws)
  | _, _, _, _, .nil, s => s
  | _, _, _, _, .cons r t, s => .cons r (Vals.append t s)
theorem Vals.take : ∀ {xs : List V} {us : List Value} (n : Nat), Vals xs us → Vals (xs.take n) (us.take n)
  | _, _, 0, _ => .nil
  | _, _, _ + 1, .nil => .nil
  | _, _, n + 1, .cons r t => .cons r (Vals.take n t)
theorem Vals.drop : ∀ {xs : List V} {us : List Value} (n : Nat), Vals xs us → Vals (xs.drop n) (us.drop n)
  | _, _, 0, r => r
  | _, _, _ + 1, .nil => .nil
  | _, _, n + 1, .cons _ t => Vals.drop n t
theorem Vals.none_of : ∀ {xs : List V} {us : List Value} {i : Nat}, Vals xs us → xs[i]? = none → us[i]? = none := fun {xs us i} r e => by
  have h1 := r.length
  have h2 : xs.length ≤ i := List.getElem?_eq_none_iff.mp e
  exact List.getElem?_eq_none_iff.mpr (by omega)

def RelO : Option V → Option Value → Prop
  | some v, some u => RelV v u
  | none, none => True
  | _, _ => False
def KV {κ : Type} : List (κ × V) → List (κ × Value) → Prop := Paired fun (p : κ × V) (q : κ × Value) => p.1 = q.1 ∧ RelV p.2 q.2

def kV : Key → V
  | .inl i => .int i
  | .inr x => .str x

inductive HO where
    | lst (xs : List V)
    | tup (xs : List V)
    | dK (kvs : List (Key × V)) | dT (kvs : List (List Key × V))
    | set (S : Int → Bool) (n : Nat)
    | ins (C dx : Addr) (fs : List (Str × V))
    | own (x : Addr)
    | xd (fs : List (Str × V))
    | met (f x : Addr)
    | rng (lo hi : Int)
    | frz (o : Obj) (u : HO)
    | tbl (ps : Array Value)
    | ext (φ : Heap → Prop)

abbrev Hp := Addr → Option HO
def upd (H : Hp) (a : Addr) (o : HO) : Hp := fun b => if b = a then some o else H b
theorem upd_same {H : Hp} {a : Addr} {o : HO} : upd H a o a = some o := by unfold upd; rw [if_pos rfl]
theorem upd_ne {H : Hp} {a b : Addr} {o : HO} (h : b ≠ a) : upd H a o b = H b := by unfold upd; rw [if_neg h]
theorem ne_of_none {H : Hp} {a b : Addr} {o : HO} (h : H a = some o) (h' : H b = none) : a ≠ b := by
  intro e; subst e; rw [h] at h'; cases h'

section
variable (P : Program) (w : World)
def ObjOk (H : Hp) (h : Heap) (a : Addr) : HO → Prop
  | .lst xs => xs.length ≤ sizeLine ∧ ∃ (its : List Value) (n : Nat), Vals xs its ∧ h.get? a = some { cls := .type "list", data := .seq its.toArray n }
  | .tup xs => xs.length ≤ sizeLine ∧ ∃ its : List Value, Vals xs its ∧ IsTup h a its.toArray
  | .dK kvs => kvs.length ≤ sizeLine ∧ (a == sysModules) = false ∧ ∃ vs, KV kvs vs ∧ h.DictOf (mixKind P w) a vs
  | .dT kvs => kvs.length ≤ sizeLine ∧ (a == sysModules) = false ∧ ∃ xs : List (List Key × Addr × Value),
      Paired (fun (p : List Key × V) (q : List Key × Addr × Value) => p.1 = q.1 ∧ H q.2.1 = some (.tup (p.1.map kV)) ∧ RelV p.2 q.2.2) kvs xs ∧
      ∃ o es ep, h.get? a = some o ∧ o.ExactDict ∧ o.data = .dict es ep ∧ es.toList = xs.map (entryOfKey (tupleKind (mixKind P w))) ∧ (xs.map (·.1)).Nodup
  | .set S n => h.SetOf (intKind P w) a S n
  | .ins C dx fs => H dx = some (.own a) ∧ fs.length ≤ 1000 ∧ dx ≠ a ∧ h.get? a = some (PySem.W.instObj C dx) ∧
      ∃ mA, h.Ns1 dx mA ∧ (∀ f, RelO (fs.lookup f) (mA f)) ∧ PySem.Within mA (fs.map (·.1))
  | .own _ => ∃ o, h.get? a = some o
  | .xd fs => ∃ mA, h.Ns1 a mA ∧ ∀ f, RelO (fs.lookup f) (mA f)
  | .rng lo hi => ∃ t u v, h.get? a = some { cls := .type "range", data := .fields #[.int lo t, .int hi u, .int 1 v] }
  | .frz o u => h.get? a = some o ∧ ObjOk H h a u
  | .tbl ps => h.get? a = some { cls := .none, data := .fields ps }
  | .met f x => h.get? a = some (PySem.W.methodObj (.ref f) (.ref x))
  | .ext φ => φ h ∧ (∃ o, h.get? a = some o) ∧ ∀ h1 h2 : Heap, φ h1 → (∀ o, h1.get? a = some o → h2.get? a = some o) → φ h2
def HOk (H : Hp) (h : Heap) : Prop := ∀ a o, H a = some o → ObjOk P w H h a o
end

section
variable {P : Program} {w : World} {H H' : Hp} {h h' : Heap} {a : Addr} {o : HO}
theorem ObjOk.lt (x : ObjOk P w H h a o) : a < h.objs.size := by
  cases o with
  | lst xs => obtain ⟨_, _, _, _, e⟩ := x; exact Heap.lt_size e
  | tup xs => obtain ⟨_, _, _, p⟩ := x; exact p.lt
  | dK kvs => obtain ⟨_, _, _, _, o, _, _, e, _⟩ := x; exact Heap.lt_size e
  | dT kvs => obtain ⟨_, _, _, _, o, _, _, e, _⟩ := x; exact Heap.lt_size e
  | set S n => obtain ⟨o, _, _, _, e, _⟩ := x; exact Heap.lt_size e
  | ins C dx fs => obtain ⟨_, _, _, e, _⟩ := x; exact Heap.lt_size e
  | own y => obtain ⟨_, e⟩ := x; exact Heap.lt_size e
  | xd fs => obtain ⟨_, ⟨_, _, _, e, _⟩, _⟩ := x; exact Heap.lt_size e
  | rng lo hi => obtain ⟨_, _, _, e⟩ := x; exact Heap.lt_size e
  | frz ob u => obtain ⟨e, _⟩ := x; exact Heap.lt_size e
  | tbl ps => exact Heap.lt_size (show h.get? a = some _ from x)
  | met f y => exact Heap.lt_size (show h.get? a = some _ from x)
  | ext φ => obtain ⟨_, ⟨_, e⟩, _⟩ := x; exact Heap.lt_size e
theorem Paired.mapP {α β : Type} {F G : α → β → Prop} : ∀ {l₁ : List α} {l₂ : List β}, Paired F l₁ l₂ → (∀ a b, F a b → G a b) → Paired G l₁ l₂
  | _, _, .nil, _ => .nil
  | _, _, .cons r t, f => .cons (f _ _ r) (Paired.mapP t f)
theorem ObjOk.stay (x : ObjOk P w H h a o) (k : ∀ b u, (b = a ∨ H b = some (.own a)) → h.get? b = some u → h'.get? b = some u)
    (ho : ∀ b, H b = some (.own a) → H' b = some (.own a)) (ht : ∀ b xs, H b = some (.tup xs) → H' b = some (.tup xs)) : ObjOk P w H' h' a o := by
  induction o with
  | lst xs => obtain ⟨z, its, n, r, e⟩ := x; exact ⟨z, its, n, r, k _ _ (.inl rfl) e⟩
  | tup xs => obtain ⟨z, its, r, ob, e, c⟩ := x; exact ⟨z, its, r, ob, k _ _ (.inl rfl) e, c⟩
  | dK kvs => obtain ⟨z, y, vs, r, ob, es, ep, e, c⟩ := x; exact ⟨z, y, vs, r, ob, es, ep, k _ _ (.inl rfl) e, c⟩
  | dT kvs =>
    obtain ⟨z, y, xs, r, ob, es, ep, e, c⟩ := x
    exact ⟨z, y, xs, Paired.mapP r fun p q z => ⟨z.1, ht _ _ z.2.1, z.2.2⟩, ob, es, ep, k _ _ (.inl rfl) e, c⟩
  | set S n => obtain ⟨ob, es, ep, t, e, c⟩ := x; exact ⟨ob, es, ep, t, k _ _ (.inl rfl) e, c⟩
  | ins C dx fs =>
    obtain ⟨d, z, ne, e, mA, ⟨od, es, ep, e2, c⟩, r⟩ := x
    exact ⟨ho _ d, z, ne, k _ _ (.inl rfl) e, mA, ⟨od, es, ep, k _ _ (.inr d) e2, c⟩, r⟩
  | own y => obtain ⟨ob, e⟩ := x; exact ⟨ob, k _ _ (.inl rfl) e⟩
  | xd fs => obtain ⟨mA, ⟨od, es, ep, e, c⟩, r⟩ := x; exact ⟨mA, ⟨od, es, ep, k _ _ (.inl rfl) e, c⟩, r⟩
  | rng lo hi => obtain ⟨t, u, v, e⟩ := x; exact ⟨t, u, v, k _ _ (.inl rfl) e⟩
  | frz ob u ih => obtain ⟨e, q⟩ := x; exact ⟨k _ _ (.inl rfl) e, ih q⟩
  | tbl ps =>
    have e : h.get? a = some { cls := .none, data := .fields ps } := x
    show h'.get? a = some { cls := .none, data := .fields ps }
    exact k a _ (.inl rfl) e
  | met f y =>
    have e : h.get? a = some (PySem.W.methodObj (.ref f) (.ref y)) := x
    show h'.get? a = some (PySem.W.methodObj (.ref f) (.ref y))
    exact k a _ (.inl rfl) e
  | ext φ => obtain ⟨p, ⟨o, e⟩, st⟩ := x; exact ⟨st _ _ p fun o q => k _ _ (.inl rfl) q, ⟨o, k _ _ (.inl rfl) e⟩, st⟩
theorem HOk.lt (x : HOk P w H h) (e : H a = some o) : a < h.objs.size := (x a o e).lt
theorem HOk.fresh (x : HOk P w H h) (e : h.objs.size ≤ a) : H a = none := by
  cases q : H a with
  | none => rfl
  | some u => exact absurd (Nat.lt_of_lt_of_le (x.lt q) e) (Nat.lt_irrefl _)
theorem HOk.kept (x : HOk P w H h) (k : ∀ b u, h.get? b = some u → h'.get? b = some u) : HOk P w H h' := fun a o e =>
  (x a o e).stay (fun b u _ q => k b u q) (fun _ q => q) fun _ _ q => q
theorem HOk.laid (x : HOk P w H h) (k : ∀ b u, h.get? b = some u → h'.get? b = some u) (hp : h.objs.size ≤ a) (new : ObjOk P w (upd H a o) h' a o) : HOk P w (upd H a o) h' := fun b u e => by
  have hn := x.fresh hp
  by_cases hb : b = a
  · subst hb; rw [upd_same] at e; cases e; exact new
  · rw [upd_ne hb] at e
    exact (x b u e).stay (fun c v _ q => k c v q) (fun c q => by rw [upd_ne (ne_of_none q hn)]; exact q) fun c xs q => by rw [upd_ne (ne_of_none q hn)]; exact q
end

def Rd (H : Hp) (a : Addr) (u : HO) : Prop := H a = some u ∨ ∃ o, H a = some (.frz o u)
theorem Rd.of {H : Hp} {a : Addr} {u : HO} (h : H a = some u) : Rd H a u := .inl h
theorem Rd.ok {P : Program} {w : World} {H : Hp} {h : Heap} {a : Addr} {u : HO} (r : Rd H a u) (x : HOk P w H h) : ObjOk P w H h a u := by
  rcases r with r | ⟨o, r⟩
  · exact x a u r
  · obtain ⟨_, q⟩ := x a _ r
    exact q
def Mut : Option HO → Prop
  | some (.lst _) => True
  | some (.dK _) => True
  | some (.dT _) => True
  | some (.set _ _) => True
  | some (.ins _ _ _) => True
  | some (.ext _) => True
  | _ => False
section
variable {P : Program} {w : World} {H : Hp} {h h' : Heap} {x e : Addr} {o' : HO}
theorem HOk.write (ok : HOk P w H h) (mu : Mut (H x)) (he : e = x ∨ H e = some (.own x)) (k : ∀ b u, b ≠ e → h.get? b = some u → h'.get? b = some u) (heo : ∃ u, h'.get? e = some u)
    (new : ObjOk P w (upd H x o') h' x o') : HOk P w (upd H x o') h' := fun b u q => by
  have nown : ∀ c y, H c = some (.own y) → c ≠ x := fun c y r z => by subst z; rw [r] at mu; exact mu
  have ntup : ∀ c xs, H c = some (.tup xs) → c ≠ x := fun c xs r z => by subst z; rw [r] at mu; exact mu
  by_cases hb : b = x
  · subst hb; rw [upd_same] at q; cases q; exact new
  · rw [upd_ne hb] at q
    by_cases hbe : b = e
    · have q' : H b = some (.own x) := by
        rcases he with z | z
        · exact absurd (hbe.trans z) hb
        · rw [hbe]; exact z
      rw [q] at q'; cases q'
      obtain ⟨v, hv⟩ := heo
      exact ⟨v, by rw [hbe]; exact hv⟩
    · refine (ok b u q).stay (fun c v hc r => k c v ?_ r) (fun c r => by rw [upd_ne (nown c b r)]; exact r) fun c xs r => by rw [upd_ne (ntup c xs r)]; exact r
      rcases hc with rfl | hc
      · exact hbe
      · rintro rfl
        rcases he with z | z
        · exact nown c b hc z
        · rw [hc] at z; cases z; exact hb rfl
end

structure Un (fs ex : List Addr) (H H' : Hp) (h h' : Heap) : Prop where
  keep : ∀ b o, h.get? b = some o → H b = none → b ∉ fs → b ∉ ex → h'.get? b = some o
  slot : ∀ b o, h.get? b = some o → H b = none → b ∈ fs → b ∉ ex → ∃ sl, h'.get? b = some { o with slots := sl }
  free : ∀ b o, h.get? b = some o → H b = none → b ∉ ex → H' b = none
  there : ∀ b o, h.get? b = some o → b ∉ ex → ∃ o', h'.get? b = some o'
  tups : ∀ b xs, H b = some (.tup xs) → H' b = some (.tup xs)
  frzs : ∀ b o u, H b = some (.frz o u) → H' b = some (.frz o u)
  tbls : ∀ b ps, H b = some (.tbl ps) → ∃ more, H' b = some (.tbl (ps ++ more))
section
variable {fs fs' ex ex' : List Addr} {H H1 H2 : Hp} {h h1 h2 h' : Heap} {a x e : Addr} {o : HO}
theorem Un.any (u : Un fs ex H H1 h h1) {b : Addr} {ob : Obj} (q : h.get? b = some ob) (n : H b = none) (hx : b ∉ ex) : ∃ sl, h1.get? b = some { ob with slots := sl } := by
  by_cases hb : b ∈ fs
  · exact u.slot b ob q n hb hx
  · exact ⟨ob.slots, u.keep b ob q n hb hx⟩
theorem Un.trans (a : Un fs ex H H1 h h1) (b : Un fs ex H1 H2 h1 h2) : Un fs ex H H2 h h2 where
  keep := fun c ob q n hc hx => b.keep c ob (a.keep c ob q n hc hx) (a.free c ob q n hx) hc hx
  slot := fun c ob q n hc hx => by
    obtain ⟨sl, e1⟩ := a.slot c ob q n hc hx
    obtain ⟨sl', e2⟩ := b.slot c _ e1 (a.free c ob q n hx) hc hx
    exact ⟨sl', e2⟩
  free := fun c ob q n hx => by
    obtain ⟨o', e1⟩ := a.there c ob q hx
    exact b.free c o' e1 (a.free c ob q n hx) hx
  there := fun c ob q hx => by
    obtain ⟨o', e1⟩ := a.there c ob q hx
    exact b.there c o' e1 hx
  tups := fun c xs q => b.tups c xs (a.tups c xs q)
  frzs := fun c ob xs q => b.frzs c ob xs (a.frzs c ob xs q)
  tbls := fun c ps q => by
    obtain ⟨m1, e1⟩ := a.tbls c ps q
    obtain ⟨m2, e2⟩ := b.tbls c _ e1
    exact ⟨m1 ++ m2, by rw [e2, Array.append_assoc]⟩
theorem Un.kept (k : ∀ b u, h.get? b = some u → h'.get? b = some u) : Un fs ex H H h h' :=
  ⟨fun b ob q _ _ _ => k b ob q, fun b ob q _ _ _ => ⟨ob.slots, k b ob q⟩, fun _ _ _ n _ => n, fun b ob q _ => ⟨ob, k b ob q⟩, fun _ _ q => q, fun _ _ _ q => q, fun _ ps q => ⟨#[], by rw [q]; simp⟩⟩
theorem Un.refl : Un fs ex H H h h := Un.kept fun _ _ q => q
theorem Un.laid (k : ∀ b u, h.get? b = some u → h'.get? b = some u) (hp : h.objs.size ≤ a) (hn : H a = none) : Un fs ex H (upd H a o) h h' where
  keep := fun b u q _ _ _ => k b u q
  slot := fun b u q _ _ _ => ⟨u.slots, k b u q⟩
  free := fun b u q n _ => by rw [upd_ne (Nat.ne_of_lt (Nat.lt_of_lt_of_le (Heap.lt_size q) hp))]; exact n
  there := fun b u q _ => ⟨u, k b u q⟩
  tups := fun b xs q => by rw [upd_ne (ne_of_none q hn)]; exact q
  frzs := fun b u xs q => by rw [upd_ne (ne_of_none q hn)]; exact q
  tbls := fun b ps q => ⟨#[], by rw [upd_ne (ne_of_none q hn), q]; simp⟩
theorem Un.write (mu : Mut (H x)) (he : e = x ∨ H e = some (.own x)) (k : ∀ b u, b ≠ e → h.get? b = some u → h'.get? b = some u) (heo : ∃ u, h'.get? e = some u) : Un fs ex H (upd H x o) h h' := by
  have hx : ∀ b, H b = none → b ≠ x := fun b n z => by subst z; rw [n] at mu; exact mu
  have hb : ∀ b, H b = none → b ≠ e := fun b n z => by
    subst z
    rcases he with r | r
    · exact hx b n r
    · rw [n] at r; cases r
  have hm : ∀ b u, H b = some u → ¬ Mut (some u) → b ≠ x := fun b u q nm z => by subst z; rw [q] at mu; exact nm mu
  refine ⟨fun b u q n _ _ => k b u (hb b n) q, fun b u q n _ _ => ⟨u.slots, k b u (hb b n) q⟩, fun b u q n _ => by rw [upd_ne (hx b n)]; exact n, fun b u q _ => ?_,
    fun b xs q => by rw [upd_ne (hm b _ q fun z => z)]; exact q, fun b u xs q => by rw [upd_ne (hm b _ q fun z => z)]; exact q, fun b ps q => ⟨#[], by rw [upd_ne (hm b _ q fun z => z), q]; simp⟩⟩
  by_cases hbe : b = e
  · subst hbe; exact heo
  · exact ⟨u, k b u hbe q⟩
theorem Un.mono (u : Un fs ex H H1 h h1) (hs : ∀ b ∈ fs, b ∈ fs') (hx : ∀ b ∈ ex, b ∈ ex') : Un fs' ex' H H1 h h1 :=
  ⟨fun b ob q n hb he => u.keep b ob q n (fun z => hb (hs b z)) fun z => he (hx b z), fun _ _ q n _ he => u.any q n fun z => he (hx _ z), fun b ob q n he => u.free b ob q n fun z => he (hx b z), fun b ob q he => u.there b ob q fun z => he (hx b z), u.tups, u.frzs, u.tbls⟩
end

def trk (h : Heap) (H : Hp) : List Addr := (List.range h.objs.size).filter fun a => (H a).isSome
def hidT (h : Heap) (H : Hp) : Heap := PySem.W.hideAll h (trk h H)
theorem hidT_size (h : Heap) (H : Hp) : (hidT h H).objs.size = h.objs.size := PySem.W.hideAll_size _ _
theorem hidT_get {h : Heap} {H : Hp} {b : Addr} {o : Obj} (e : h.get? b = some o) (n : H b = none) : (hidT h H).get? b = some o :=
  PySem.W.hideAll_get _ e fun hm => by
    have q : (H b).isSome = true := (List.mem_filter.mp hm).2
    rw [n] at q; simp at q
theorem of_hidT {h : Heap} {H : Hp} {b : Addr} {o : Obj} (e : (hidT h H).get? b = some o) : h.get? b = some o ∧ H b = none := by
  have e' : h.get? b = some o := PySem.W.of_hideAll (trk h H) e
  refine ⟨e', ?_⟩
  cases q : H b with
  | none => rfl
  | some x =>
    have hm : b ∈ trk h H := List.mem_filter.mpr ⟨List.mem_range.mpr (Heap.lt_size e'), by simp [q]⟩
    have z : (hidT h H).get? b = none := PySem.W.hideAll_none (trk h H) hm
    rw [z] at e; cases e

def allNews (g h : Heap) (L : Addr) : List (Addr × Obj) := (List.range h.objs.size).filterMap fun a => if a = L ∨ (g.get? a).isSome = true then none else (h.get? a).map fun o => (a, o)
def rest (g h : Heap) (L d : Addr) : List (Addr × Obj) := (allNews g h L).filter fun p => decide (p.1 ≠ d)
end L2

namespace L2
open PySem PySem.Spec PyProof.Rows

structure Mod (K : PySem.W.Frag) (mg : Str → Option Value) (base : Heap) : Prop where
  kin : K.In base
  glob : base.Ns mainGlobals mg
  blt : ∃ mb, base.Ns builtinsNs mb ∧ ∀ x : Str, x ≠ "__name__" → mb x = bootBuiltins x
  nolimit : base.NoLimit

structure Cx where
  prog : Program
  w : World
  K : PySem.W.Frag
  mg : Str → Option Value
  base : Heap
  A : Around
  N : List Str
  s₀ : Shared
  H₀ : Hp
  env : Env
  outer : List Env
  stack : List Env
  ex : List Addr
  fn : Str → Bool
  calm : Bool
  pn : List (Addr × Obj)
  xe : Value → Shared → Prop
def frs (l : List Env) : List Addr := l.filterMap (·.frame)
abbrev Cx.fs (X : Cx) : List Addr := frs X.outer

def Vis (sc : Scope) (x : Str) : Prop := sc.names.lookup x = some .local ∨ sc.names.lookup x = some .cell ∨ sc.names.lookup x = some .free
def Loc (sc : Scope) (x : Str) : Prop := sc.names.lookup x = some .local ∨ sc.names.lookup x = some .cell
def Look (env : Env) (h : Heap) (m : Str → Option Value) (x : Str) (u : Value) : Prop :=
  (env.kindOf x = some .local ∧ m x = some u) ∨ ((env.kindOf x = some .cell ∨ env.kindOf x = some .free) ∧ ∃ c, env.cells.lookup x = some c ∧ h.IsCell c (some u))

structure Cx.Ok (X : Cx) : Prop where
  mod : Mod X.K X.mg X.base
  kind : X.env.scope.kind = .function
  glob : X.env.globals = mainGlobals
  blt : X.env.builtins = builtinsNs
  above : X.s₀.heap.objs.size ≤ X.env.locals
  inj : ∀ x y c, X.env.cells.lookup x = some c → X.env.cells.lookup y = some c → x = y
  has : ∀ x, (X.env.kindOf x = some .cell ∨ X.env.kindOf x = some .free) → ∃ c, X.env.cells.lookup x = some c
  cab : ∀ x c, X.fn x = true → X.env.cells.lookup x = some c → X.s₀.heap.objs.size ≤ c
  hd : X.calm = true → X.A.handled = none
  frames : X.A.frames = some X.stack
  stk : X.stack = X.outer ∨ (X.stack = X.env :: X.outer ∧ X.env.frame = some X.env.locals)
  exf : ∀ b ∈ X.ex, b ≠ X.env.locals ∧ ∀ x c, X.env.cells.lookup x = some c → c ≠ b
  bs : ∀ b o, X.base.get? b = some o → X.s₀.heap.get? b = some o ∧ X.H₀ b = none
  bsz : X.base.objs.size ≤ X.s₀.heap.objs.size
  noex : ∀ b o, X.base.get? b = some o → b ∉ X.ex
  exfs : ∀ b ∈ X.ex, b ∉ X.fs
  funs : X.s₀.heap.FunFrames X.base X.outer
  frf : ∀ b ∈ X.fs, X.H₀ b = none

structure Inv (X : Cx) (pins : List (Addr × Obj)) (σ : List (Option V)) (H : Hp) (s : Shared) : Prop where
  ok : X.Ok
  os : s.os = X.s₀.os
  bare : AllBare s.gens
  base : Un X.fs X.ex X.H₀ H X.s₀.heap s.heap
  loc : ∃ m, s.heap.Ns X.env.locals m ∧ ∀ (i : Nat) (x : Str) (v : V), X.N[i]? = some x → σ[i]? = some (some v) → Vis X.env.scope x → ∃ u, RelV v u ∧ Look X.env s.heap m x u
  cell : ∀ x c, X.env.cells.lookup x = some c → ∃ v, s.heap.IsCell c v
  free : H X.env.locals = none
  freeC : ∀ x c, X.env.cells.lookup x = some c → H c = none
  pin : ∀ p ∈ X.pn ++ pins, s.heap.get? p.1 = some p.2 ∧ H p.1 = none ∧ p.1 ≠ X.env.locals ∧ p.1 ∉ X.fs ∧ ∀ v, p.2.data ≠ .cell v
  hok : HOk X.prog X.w H s.heap
  len : σ.length = X.N.length

section
variable {X : Cx} {pins : List (Addr × Obj)} {σ : List (Option V)} {H H' : Hp} {s : Shared} {h' : Heap}

theorem Cx.Ok.nofr (ok : X.Ok) {b : Addr} {o : Obj} (e : X.base.get? b = some o) : b ∉ X.fs := fun hb => by
  have := (ok.funs.mem hb).1
  rw [e] at this; cases this
theorem Inv.bs (I : Inv X pins σ H s) : ∀ b o, X.base.get? b = some o → s.heap.get? b = some o ∧ H b = none := fun b o e =>
  ⟨I.base.keep b o (I.ok.bs b o e).1 (I.ok.bs b o e).2 (I.ok.nofr e) (I.ok.noex b o e), I.base.free b o (I.ok.bs b o e).1 (I.ok.bs b o e).2 (I.ok.noex b o e)⟩
theorem Inv.bk (I : Inv X pins σ H s) : ∀ b o, X.base.get? b = some o → s.heap.get? b = some o := fun b o e => (I.bs b o e).1
theorem Inv.mod (I : Inv X pins σ H s) : Mod X.K X.mg X.base := I.ok.mod
theorem Inv.kIn (I : Inv X pins σ H s) : X.K.In s.heap := I.ok.mod.kin.keeps I.bk
theorem Inv.nolimit (I : Inv X pins σ H s) : s.heap.NoLimit := I.ok.mod.nolimit.keeps I.bk
theorem Inv.fr (I : Inv X pins σ H s) : ∃ m, Fr X.base X.env.locals s.heap m :=
  let ⟨m, hn, _⟩ := I.loc
  ⟨m, hn, I.bk, Nat.le_trans I.ok.bsz I.ok.above⟩
theorem Inv.lt (I : Inv X pins σ H s) : X.env.locals < s.heap.objs.size := let ⟨_, hn, _⟩ := I.loc; hn.lt
theorem Inv.sz (I : Inv X pins σ H s) : X.s₀.heap.objs.size ≤ s.heap.objs.size := Nat.le_trans I.ok.above (Nat.le_of_lt I.lt)
theorem Inv.nofs (I : Inv X pins σ H s) {a : Addr} (h : s.heap.objs.size ≤ a) : a ∉ X.fs := fun hb => by
  obtain ⟨_, o, ho, _⟩ := I.ok.funs.mem hb
  exact absurd (Nat.lt_of_lt_of_le (Heap.lt_size ho) (Nat.le_trans I.sz h)) (Nat.lt_irrefl _)
theorem Inv.cne (I : Inv X pins σ H s) : ∀ x c, X.env.cells.lookup x = some c → c ≠ X.env.locals := fun x c e z => by
  obtain ⟨v, o, ho, hd⟩ := I.cell x c e
  obtain ⟨m, ⟨o', es, ep, ho', hd', _⟩, _⟩ := I.loc
  rw [z, ho'] at ho; cases ho; rw [hd'] at hd; cases hd
theorem Inv.funs (I : Inv X pins σ H s) : s.heap.FunFrames X.base X.outer := by
  have all : ∀ (l : List Env), (∀ b ∈ frs l, b ∈ X.fs) → X.s₀.heap.FunFrames X.base l → s.heap.FunFrames X.base l := by
    intro l
    induction l with
    | nil => intro _ _; trivial
    | cons env r ih =>
      intro hs hl
      obtain ⟨hk, ⟨L, o, hf, hn, ho, hd⟩, hr⟩ := hl
      have hL : L ∈ X.fs := hs L (by unfold frs; rw [List.filterMap_cons, hf]; exact List.mem_cons_self)
      obtain ⟨sl, e⟩ := I.base.slot L o ho (I.ok.frf L hL) hL fun z => I.ok.exfs L z hL
      exact ⟨hk, ⟨L, _, hf, hn, e, hd⟩, ih (fun b hb => hs b (by unfold frs; rw [List.filterMap_cons, hf]; exact List.mem_cons_of_mem _ hb)) hr⟩
  exact all X.outer (fun _ hb => hb) I.ok.funs

theorem Inv.stack (I : Inv X pins σ H s) : s.heap.FunFrames X.base X.stack := by
  rcases I.ok.stk with e | ⟨e, hf⟩
  · rw [e]; exact I.funs
  · rw [e]
    obtain ⟨m, hn, _⟩ := I.loc
    refine .cons (by rw [I.ok.kind]; decide) hf hn ?_ I.funs
    exact Heap.get?_none_of_le (Nat.le_trans I.ok.bsz I.ok.above)
theorem Inv.stkSub (I : Inv X pins σ H s) : ∀ b ∈ frs X.stack, b ∈ X.env.locals :: X.fs := fun b hb => by
  rcases I.ok.stk with e | ⟨e, hf⟩
  · rw [e] at hb; exact List.mem_cons_of_mem _ hb
  · rw [e] at hb
    unfold frs at hb
    rw [List.filterMap_cons, hf] at hb
    exact hb
theorem Inv.stkFree (I : Inv X pins σ H s) : ∀ b ∈ frs X.stack, H b = none := fun b hb => by
  rcases List.mem_cons.mp (I.stkSub b hb) with e | hb
  · rw [e]; exact I.free
  · obtain ⟨_, o, ho, _⟩ := I.ok.funs.mem hb
    exact I.base.free b o ho (I.ok.frf b hb) fun z => I.ok.exfs b z hb

theorem Inv.step {g' : Array GenState} {t' : Nat} {d' : Drawn} {ch : List Addr} (I : Inv X pins σ H s)
    (hch : ∀ b ∈ ch, (b ∈ X.ex ∨ X.s₀.heap.objs.size ≤ b) ∧ b ≠ X.env.locals ∧ (∀ x c, X.env.cells.lookup x = some c → c ≠ b) ∧ ∀ p ∈ X.pn ++ pins, p.1 ≠ b)
    (keep : ∀ b o, b ≠ X.env.locals → b ∉ X.fs → b ∉ ch → s.heap.get? b = some o → H b = none → h'.get? b = some o)
    (slot : ∀ b o, b ≠ X.env.locals → b ∈ X.fs → b ∉ ch → s.heap.get? b = some o → H b = none → ∃ sl, h'.get? b = some { o with slots := sl }) (free : ∀ b o, b ∉ ch → s.heap.get? b = some o → H b = none → H' b = none)
    (there : ∀ b o, b ∉ ch → s.heap.get? b = some o → ∃ o', h'.get? b = some o')
    (tups : ∀ b xs, H b = some (.tup xs) → H' b = some (.tup xs)) (frzs : ∀ b o u, H b = some (.frz o u) → H' b = some (.frz o u)) (tbls : ∀ b ps, H b = some (.tbl ps) → ∃ more, H' b = some (.tbl (ps ++ more)))
    (ns : ∀ m, s.heap.Ns X.env.locals m → h'.Ns X.env.locals m) (hok : HOk X.prog X.w H' h') (hg : AllBare g') :
    Inv X pins σ H' { s with heap := h', gens := g', drawn := d', toks := t' } := by
  have neL : ∀ b o, X.s₀.heap.get? b = some o → b ≠ X.env.locals := fun b o e => Nat.ne_of_lt (Nat.lt_of_lt_of_le (Heap.lt_size e) I.ok.above)
  have neC : ∀ b o, X.s₀.heap.get? b = some o → b ∉ X.ex → b ∉ ch := fun b o e hx hb => by
    rcases (hch b hb).1 with z | z
    · exact hx z
    · exact absurd (Nat.lt_of_lt_of_le (Heap.lt_size e) z) (Nat.lt_irrefl _)
  have cellK : ∀ x c, X.env.cells.lookup x = some c → ∀ v, s.heap.IsCell c v → h'.IsCell c v := fun x c e v ⟨o, ho, hd⟩ => by
    have nch : c ∉ ch := fun z => (hch c z).2.2.1 x c e rfl
    by_cases hc : c ∈ X.fs
    · obtain ⟨sl, q⟩ := slot c o (I.cne x c e) hc nch ho (I.freeC x c e)
      exact ⟨_, q, hd⟩
    · exact ⟨o, keep c o (I.cne x c e) hc nch ho (I.freeC x c e), hd⟩
  refine ⟨I.ok, I.os, hg, ⟨fun b o e n hb hx => ?_, fun b o e n hb hx => ?_, fun b o e n hx => ?_, fun b o e hx => ?_, fun b xs e => tups b xs (I.base.tups b xs e), fun b o xs e => frzs b o xs (I.base.frzs b o xs e), fun b ps e => ?_⟩, ?_, fun x c e => ?_, ?_, fun x c e => ?_, fun p hp => ?_, hok, I.len⟩
  · exact keep b o (neL b o e) hb (neC b o e hx) (I.base.keep b o e n hb hx) (I.base.free b o e n hx)
  · obtain ⟨sl, e1⟩ := I.base.slot b o e n hb hx
    obtain ⟨sl', e2⟩ := slot b _ (neL b o e) hb (neC b o e hx) e1 (I.base.free b o e n hx)
    exact ⟨sl', e2⟩
  · obtain ⟨o', e1⟩ := I.base.there b o e hx
    exact free b o' (neC b o e hx) e1 (I.base.free b o e n hx)
  · obtain ⟨o', e1⟩ := I.base.there b o e hx
    exact there b o' (neC b o e hx) e1
  · obtain ⟨m1, e1⟩ := I.base.tbls b ps e
    obtain ⟨m2, e2⟩ := tbls b _ e1
    exact ⟨m1 ++ m2, by rw [e2, Array.append_assoc]⟩
  · obtain ⟨m, hn, hl⟩ := I.loc
    refine ⟨m, ns m hn, fun i x v e1 e2 e3 => ?_⟩
    obtain ⟨u, r, l⟩ := hl i x v e1 e2 e3
    refine ⟨u, r, ?_⟩
    rcases l with l | ⟨k, c, e, z⟩
    · exact .inl l
    · exact .inr ⟨k, c, e, cellK x c e _ z⟩
  · obtain ⟨v, z⟩ := I.cell x c e
    exact ⟨v, cellK x c e v z⟩
  · obtain ⟨m, ⟨o, _, _, ho, _⟩, _⟩ := I.loc
    exact free _ o (fun z => (hch _ z).2.1 rfl) ho I.free
  · obtain ⟨v, o, ho, hd⟩ := I.cell x c e
    exact free c o (fun z => (hch c z).2.2.1 x c e rfl) ho (I.freeC x c e)
  · obtain ⟨e, n, ne, nf, d⟩ := I.pin p hp
    have nch : p.1 ∉ ch := fun z => (hch p.1 z).2.2.2 p hp rfl
    exact ⟨keep p.1 p.2 ne nf nch e n, free p.1 p.2 nch e n, ne, nf, d⟩
theorem Inv.un {t' : Nat} (I : Inv X pins σ H s) (u : Un X.fs [] H H' s.heap h') (hok : HOk X.prog X.w H' h') : Inv X pins σ H' { s with heap := h', toks := t' } := by
  obtain ⟨m, ⟨o, es, ep, ho, r⟩, _⟩ := id I.loc
  obtain ⟨sl, hL⟩ := u.any ho I.free (by simp)
  exact I.step (g' := s.gens) (d' := s.drawn) (ch := []) (fun _ z => nomatch z) (fun b o _ hb _ e n => u.keep b o e n hb (by simp)) (fun b o _ hb _ e n => u.slot b o e n hb (by simp)) (fun b o _ e n => u.free b o e n (by simp)) (fun b o _ e => u.there b o e (by simp)) u.tups u.frzs u.tbls (fun m' hm => by
    obtain ⟨o', es', ep', ho', r'⟩ := hm
    rw [ho] at ho'; cases ho'
    exact ⟨_, es', ep', hL, r'⟩) hok I.bare
theorem Inv.call {g' : Array GenState} {t' : Nat} {d' : Drawn} {ch : List Addr} (I : Inv X pins σ H s) (u : Un (frs X.stack) ch H H' s.heap h') (hok : HOk X.prog X.w H' h') (hg : AllBare g')
    (hch : ∀ b ∈ ch, (b ∈ X.ex ∨ X.s₀.heap.objs.size ≤ b) ∧ b ≠ X.env.locals ∧ (∀ x c, X.env.cells.lookup x = some c → c ≠ b) ∧ ∀ p ∈ X.pn ++ pins, p.1 ≠ b) :
    Inv X pins σ H' { s with heap := h', gens := g', drawn := d', toks := t' } := by
  obtain ⟨m, ⟨o, es, ep, ho, r⟩, _⟩ := id I.loc
  obtain ⟨sl, hL⟩ := u.any ho I.free fun z => (hch _ z).2.1 rfl
  exact I.step (ch := ch) hch (fun b o hL hb hc e n => u.keep b o e n (fun z => (List.mem_cons.mp (I.stkSub b z)).elim hL hb) hc) (fun b o _ _ hc e n => u.any e n hc) (fun b o hc e n => u.free b o e n hc) (fun b o hc e => u.there b o e hc) u.tups u.frzs u.tbls (fun m' hm => by
    obtain ⟨o', es', ep', ho', r'⟩ := hm
    rw [ho] at ho'; cases ho'
    exact ⟨_, es', ep', hL, r'⟩) hok hg
theorem Inv.turned {t' : Nat} {it : Addr} (I : Inv X pins σ H s) (k : ∀ b o, b ≠ it → s.heap.get? b = some o → h'.get? b = some o) (hn : H it = none) (hL : it ≠ X.env.locals)
    (h1 : it ∈ X.ex ∨ X.s₀.heap.objs.size ≤ it) (h2 : ∀ x c, X.env.cells.lookup x = some c → c ≠ it) (h3 : ∀ p ∈ X.pn ++ pins, p.1 ≠ it) : Inv X pins σ H { s with heap := h', toks := t' } := by
  have nit : ∀ b u, H b = some u → b ≠ it := fun b u e z => by rw [z, hn] at e; cases e
  refine I.step (g' := s.gens) (d' := s.drawn) (ch := [it]) (fun b hb => ?_) (fun b o _ _ hc e _ => k b o (fun z => hc (by simp [z])) e) (fun b o _ _ hc e _ => ⟨o.slots, k b o (fun z => hc (by simp [z])) e⟩) (fun _ _ _ _ n => n)
    (fun b o hc e => ⟨o, k b o (fun z => hc (by simp [z])) e⟩) (fun _ _ e => e) (fun _ _ _ e => e) (fun b ps e => ⟨#[], by rw [e]; simp⟩) (fun m hm => ?_) (fun b u e => ?_) I.bare
  · have e : b = it := by simpa using hb
    subst e
    exact ⟨h1, hL, h2, h3⟩
  · obtain ⟨o, es, ep, ho, r⟩ := hm
    exact ⟨o, es, ep, k _ o (Ne.symm hL) ho, r⟩
  · refine (I.hok b u e).stay (fun c v hc q => k c v ?_ q) (fun _ q => q) fun _ _ q => q
    rcases hc with z | z
    · rw [z]; exact nit b u e
    · exact nit c _ z
theorem Inv.tok (I : Inv X pins σ H s) (t : Nat) : Inv X pins σ H { s with toks := t } := I.un (h' := s.heap) (t' := t) Un.refl I.hok
theorem Inv.kept {t' : Nat} (I : Inv X pins σ H s) (k : ∀ b u, s.heap.get? b = some u → h'.get? b = some u) : Inv X pins σ H { s with heap := h', toks := t' } := I.un (Un.kept k) (I.hok.kept k)
theorem Inv.laid {a : Addr} {o : HO} {t' : Nat} (I : Inv X pins σ H s) (k : ∀ b u, s.heap.get? b = some u → h'.get? b = some u) (hp : s.heap.objs.size ≤ a) (new : ObjOk X.prog X.w (upd H a o) h' a o) :
    Inv X pins σ (upd H a o) { s with heap := h', toks := t' } := I.un (Un.laid k hp (I.hok.fresh hp)) (I.hok.laid k hp new)
theorem Inv.write {x e : Addr} {o : HO} {t' : Nat} (I : Inv X pins σ H s) (mu : Mut (H x)) (he : e = x ∨ H e = some (.own x)) (k : ∀ b u, b ≠ e → s.heap.get? b = some u → h'.get? b = some u) (heo : ∃ u, h'.get? e = some u)
    (new : ObjOk X.prog X.w (upd H x o) h' x o) : Inv X pins σ (upd H x o) { s with heap := h', toks := t' } := I.un (Un.write mu he k heo) (I.hok.write mu he k heo new)
theorem Inv.weak {σ' : List (Option V)} (I : Inv X pins σ H s) (hl : σ'.length = σ.length) (w : ∀ (i : Nat) v, σ'[i]? = some (some v) → σ[i]? = some (some v)) : Inv X pins σ' H s :=
  ⟨I.ok, I.os, I.bare, I.base, let ⟨m, hn, hl'⟩ := I.loc; ⟨m, hn, fun i x v e1 e2 e3 => hl' i x v e1 (w i v e2) e3⟩, I.cell, I.free, I.freeC, I.pin, I.hok, hl.trans I.len⟩
theorem Inv.pins_of {pins' : List (Addr × Obj)} (I : Inv X pins σ H s) (h : ∀ p ∈ pins', s.heap.get? p.1 = some p.2 ∧ H p.1 = none ∧ p.1 ≠ X.env.locals ∧ p.1 ∉ X.fs ∧ ∀ v, p.2.data ≠ .cell v) : Inv X pins' σ H s :=
  ⟨I.ok, I.os, I.bare, I.base, I.loc, I.cell, I.free, I.freeC, fun p hp => (List.mem_append.mp hp).elim (fun z => I.pin p (List.mem_append_left _ z)) (h p), I.hok, I.len⟩

theorem nodup_ix {N : List Str} (hN : N.Nodup) {i j : Nat} {x : Str} (a : N[i]? = some x) (b : N[j]? = some x) : i = j := by
  obtain ⟨h1, e1⟩ := List.getElem?_eq_some_iff.mp a
  obtain ⟨h2, e2⟩ := List.getElem?_eq_some_iff.mp b
  exact (List.getElem_inj hN).mp (e1.trans e2.symm)

theorem store_ok2 {M : Model} {A : Around} {E : Value → Shared → Prop} {i : Nat} {x : Str} {v : V} {u : Value} {Q : Unit → Shared → Prop} (I : Inv X pins σ H s) (hN : X.N.Nodup) (hi : X.N[i]? = some x) (hx : Loc X.env.scope x) (r : RelV v u)
    (h : ∀ s', Inv X pins (σ.set i (some v)) H s' → (∃ a, Heap.SameBut a s.heap s'.heap ∧ (a = X.env.locals ∨ X.env.cells.lookup x = some a)) → Q () s') (hf : X.fn x = true ∨ X.env.scope.names.lookup x = some .local := by first | exact .inl rfl | exact .inr rfl | assumption) : wpAny M A (storeName X.env x u) Q E s := by
  obtain ⟨m, hn, hl⟩ := id I.loc
  have hcls : (X.env.scope.kind == .class || (X.env.scope.kind == .module && X.env.locals != X.env.globals)) = false := by rw [I.ok.kind]; rfl
  have hiσ : i < σ.length := by rw [I.len]; exact (List.getElem?_eq_some_iff.mp hi).1
  have cne := I.cne
  have tracked : ∀ {a : Addr} {h' : Heap}, (∃ o, s.heap.get? a = some o ∧ H a = none) → Heap.SameBut a s.heap h' → HOk X.prog X.w H h' := fun {a h'} ha hs b ob e => by
    obtain ⟨_, _, hfree⟩ := ha
    refine (I.hok b ob e).stay (fun c w' hc q => (hs.2 c ?_).trans q) (fun _ q => q) fun _ _ q => q
    rintro rfl
    rcases hc with rfl | hc
    · rw [hfree] at e; cases e
    · rw [hfree] at hc; cases hc
  rcases hx with hk | hk
  · refine wpAny_storeName_local hk hn (fun h' hn' hs => ?_) hcls
    obtain ⟨oL, _, _, hoL, _⟩ := id hn
    refine h _ ⟨I.ok, I.os, I.bare, ⟨fun b o e n hb hx => ?_, fun b o e n hb hx => ?_, I.base.free, fun b o e hx => ?_, I.base.tups, I.base.frzs, I.base.tbls⟩, ⟨_, hn', fun j y v' e1 e2 e3 => ?_⟩, fun y c e => ?_, I.free, I.freeC, fun p hp => ?_, tracked ⟨oL, hoL, I.free⟩ hs, by simpa using I.len⟩ ⟨_, hs, .inl rfl⟩
    · exact (hs.2 b (Nat.ne_of_lt (Nat.lt_of_lt_of_le (Heap.lt_size e) I.ok.above))).trans (I.base.keep b o e n hb hx)
    · obtain ⟨sl, e1⟩ := I.base.slot b o e n hb hx
      exact ⟨sl, (hs.2 b (Nat.ne_of_lt (Nat.lt_of_lt_of_le (Heap.lt_size e) I.ok.above))).trans e1⟩
    · obtain ⟨o', e1⟩ := I.base.there b o e hx
      exact ⟨o', (hs.2 b (Nat.ne_of_lt (Nat.lt_of_lt_of_le (Heap.lt_size e) I.ok.above))).trans e1⟩
    · by_cases hj : j = i
      · subst hj
        rw [hi] at e1; cases e1
        rw [List.getElem?_set_self hiσ] at e2
        cases e2
        exact ⟨u, r, .inl ⟨hk, by simp⟩⟩
      · rw [List.getElem?_set_ne (Ne.symm hj)] at e2
        obtain ⟨u', r', q⟩ := hl j y v' e1 e2 e3
        refine ⟨u', r', ?_⟩
        rcases q with ⟨k, e⟩ | ⟨k, c, e, z⟩
        · refine .inl ⟨k, ?_⟩
          have : y ≠ x := fun e => hj (nodup_ix hN e1 (e ▸ hi))
          simp [this, e]
        · exact .inr ⟨k, c, e, z.sameBut hs (cne y c e)⟩
    · obtain ⟨w', z⟩ := I.cell y c e
      exact ⟨w', z.sameBut hs (cne y c e)⟩
    · obtain ⟨e, n, ne, nf, d⟩ := I.pin p hp
      exact ⟨(hs.2 p.1 ne).trans e, n, ne, nf, d⟩
  · have hfn : X.fn x = true := by
      rcases hf with z | z
      · exact z
      · rw [z] at hk; cases hk
    obtain ⟨c, hc⟩ := I.ok.has x (.inl hk)
    obtain ⟨w', z⟩ := I.cell x c hc
    refine wpAny_storeName_cell I.ok.kind hk hc z (fun h' hc' hs => ?_)
    obtain ⟨oc, hoc, hocd⟩ := id z
    refine h { s with heap := h' } ⟨I.ok, I.os, I.bare, ⟨fun b o e n hb hx => ?_, fun b o e n hb hx => ?_, I.base.free, fun b o e hx => ?_, I.base.tups, I.base.frzs, I.base.tbls⟩, ⟨m, hn.sameBut hs (Ne.symm (cne x c hc)), fun j y v' e1 e2 e3 => ?_⟩, fun y c' e => ?_, I.free, I.freeC, fun p hp => ?_, tracked ⟨oc, hoc, I.freeC x c hc⟩ hs, by simpa using I.len⟩ ⟨c, hs, .inr hc⟩
    · exact (hs.2 b (Nat.ne_of_lt (Nat.lt_of_lt_of_le (Heap.lt_size e) (I.ok.cab x c hfn hc)))).trans (I.base.keep b o e n hb hx)
    · obtain ⟨sl, e1⟩ := I.base.slot b o e n hb hx
      exact ⟨sl, (hs.2 b (Nat.ne_of_lt (Nat.lt_of_lt_of_le (Heap.lt_size e) (I.ok.cab x c hfn hc)))).trans e1⟩
    · obtain ⟨o', e1⟩ := I.base.there b o e hx
      exact ⟨o', (hs.2 b (Nat.ne_of_lt (Nat.lt_of_lt_of_le (Heap.lt_size e) (I.ok.cab x c hfn hc)))).trans e1⟩
    · by_cases hj : j = i
      · subst hj
        rw [hi] at e1; cases e1
        rw [List.getElem?_set_self hiσ] at e2
        cases e2
        exact ⟨u, r, .inr ⟨.inl hk, c, hc, hc'⟩⟩
      · rw [List.getElem?_set_ne (Ne.symm hj)] at e2
        obtain ⟨u', r', q⟩ := hl j y v' e1 e2 e3
        refine ⟨u', r', ?_⟩
        rcases q with q | ⟨k, c', e, z'⟩
        · exact .inl q
        · refine .inr ⟨k, c', e, z'.sameBut hs ?_⟩
          rintro rfl
          exact hj (nodup_ix hN e1 (I.ok.inj _ _ _ e hc ▸ hi))
    · by_cases hcc : c' = c
      · subst hcc; exact ⟨_, hc'⟩
      · obtain ⟨w2, z2⟩ := I.cell y c' e
        exact ⟨w2, z2.sameBut hs hcc⟩
    · obtain ⟨e, n, ne, nf, d⟩ := I.pin p hp
      refine ⟨(hs.2 p.1 ?_).trans e, n, ne, nf, d⟩
      intro q
      rw [q, hoc] at e
      have q' : oc = p.2 := Option.some.inj e
      exact d w' (by rw [← q']; exact hocd)
theorem store_ok {M : Model} {A : Around} {E : Value → Shared → Prop} {i : Nat} {x : Str} {v : V} {u : Value} {Q : Unit → Shared → Prop} (I : Inv X pins σ H s) (hN : X.N.Nodup) (hi : X.N[i]? = some x) (hx : Loc X.env.scope x) (r : RelV v u)
    (h : ∀ s', Inv X pins (σ.set i (some v)) H s' → Q () s') (hf : X.fn x = true ∨ X.env.scope.names.lookup x = some .local := by first | exact .inl rfl | exact .inr rfl | assumption) : wpAny M A (storeName X.env x u) Q E s :=
  store_ok2 I hN hi hx r (fun s' I' _ => h s' I') hf
theorem Inv.call' {s' : Shared} {ch : List Addr} (I : Inv X pins σ H s) (ho : s'.os = s.os) (u : Un (frs X.stack) ch H H' s.heap s'.heap) (hok : HOk X.prog X.w H' s'.heap) (hg : AllBare s'.gens)
    (hch : ∀ b ∈ ch, (b ∈ X.ex ∨ X.s₀.heap.objs.size ≤ b) ∧ b ≠ X.env.locals ∧ (∀ x c, X.env.cells.lookup x = some c → c ≠ b) ∧ ∀ p ∈ X.pn ++ pins, p.1 ≠ b) : Inv X pins σ H' s' := by
  obtain ⟨h', g', d', t', o'⟩ := s'
  have e : o' = s.os := ho
  subst e
  exact I.call (g' := g') (t' := t') (d' := d') u hok hg hch
end

abbrev XK := Value → Option Addr → Hp → Prop
abbrev St := List (Option V)
abbrev VK := V → Hp → Prop
abbrev TE := St → Hp → VK → Prop
abbrev TT := St → Hp → (Bool → Hp → Prop) → Prop
abbrev TA := St → Hp → (List V → Hp → Prop) → Prop
structure Ends where
  nx : St → Hp → Prop
  rt : VK
  bk : St → Hp → Prop := fun _ _ => False
  ct : St → Hp → Prop := fun _ _ => False
abbrev TS := Ends → St → Hp → Prop

def EP (X : Cx) (pins : List (Addr × Obj)) (σ : St) (Q : VK) (u : Value) (s' : Shared) : Prop := ∃ v H', Inv X pins σ H' s' ∧ RelV v u ∧ Q v H'
def TP (X : Cx) (pins : List (Addr × Obj)) (σ : St) (Q : Bool → Hp → Prop) (b : Bool) (s' : Shared) : Prop := ∃ H', Inv X pins σ H' s' ∧ Q b H'
def AP (X : Cx) (pins : List (Addr × Obj)) (σ : St) (Q : List V → Hp → Prop) (us : List Value) (s' : Shared) : Prop := ∃ vs H', Inv X pins σ H' s' ∧ Vals vs us ∧ Q vs H'
def SP (X : Cx) (pins : List (Addr × Obj)) (D : Ends) (f : Flow) (s' : Shared) : Prop :=
  match f with
  | .next => ∃ σ' H', Inv X pins σ' H' s' ∧ D.nx σ' H'
  | .brk => ∃ σ' H', Inv X pins σ' H' s' ∧ D.bk σ' H'
  | .cont => ∃ σ' H', Inv X pins σ' H' s' ∧ D.ct σ' H'
  | .ret u => ∃ v σ' H', Inv X pins σ' H' s' ∧ RelV v u ∧ D.rt v H'

def PE (X : Cx) (e : Expr) (t : TE) : Prop :=
  ∀ (pins : List (Addr × Obj)) (s : Shared) (σ : St) (H : Hp) (Q : VK), Inv X pins σ H s → t σ H Q → wpAny (model X.prog X.w) X.A (eval e X.env) (EP X pins σ Q) X.xe s
def PT (X : Cx) (e : Expr) (t : TT) : Prop :=
  ∀ (pins : List (Addr × Obj)) (s : Shared) (σ : St) (H : Hp) (Q : Bool → Hp → Prop), Inv X pins σ H s → t σ H Q → wpAny (model X.prog X.w) X.A (isTrue e X.env (eval e X.env)) (TP X pins σ Q) X.xe s
def PW (X : Cx) (e : Expr) (t : TT) : Prop :=
  ∀ (whole : Sem Value) (pins : List (Addr × Obj)) (s : Shared) (σ : St) (H : Hp) (Q : Bool → Hp → Prop), Inv X pins σ H s → t σ H Q → wpAny (model X.prog X.w) X.A (isTrue e X.env whole) (TP X pins σ Q) X.xe s
theorem PW.pt {X : Cx} {e : Expr} {t : TT} (h : PW X e t) : PT X e t := h _
def PA (X : Cx) (es : List Expr) (t : TA) : Prop :=
  ∀ (pos : Pos) (pins : List (Addr × Obj)) (s : Shared) (σ : St) (H : Hp) (Q : List V → Hp → Prop), Inv X pins σ H s → t σ H Q → wpAny (model X.prog X.w) X.A (spliced (backTo pos (starEach es X.env))) (AP X pins σ Q) X.xe s
def PS (X : Cx) (st : Stmt) (t : TS) : Prop :=
  ∀ (pins : List (Addr × Obj)) (s : Shared) (σ : St) (H : Hp) (D : Ends), Inv X pins σ H s → t D σ H → wpAny (model X.prog X.w) X.A (exec st X.env) (SP X pins D) X.xe s
def PSs (X : Cx) (st : List Stmt) (t : TS) : Prop :=
  ∀ (pins : List (Addr × Obj)) (s : Shared) (σ : St) (H : Hp) (D : Ends), Inv X pins σ H s → t D σ H → wpAny (model X.prog X.w) X.A (execs st X.env) (SP X pins D) X.xe s
theorem thn {α : Type} {t : Sem α} {Q Q' : α → Shared → Prop} {M : Model} {A : Around} {E : Value → Shared → Prop} {s : Shared} (h : wpAny M A t Q E s) (hQ : ∀ a s, Q a s → Q' a s) : wpAny M A t Q' E s := wpAny_mono h hQ fun _ _ x => x
end L2

namespace L2
open PySem PySem.Spec PyProof.Rows
section
variable {X : Cx}

def tVar (i : Nat) : TE := fun σ H Q => ∃ v, σ[i]? = some (some v) ∧ Q v H
def tC (v : V) : TE := fun _ H Q => Q v H
theorem pe_var {i : Nat} {x : Str} {pos : Pos} (hN : X.N[i]? = some x) (hv : Vis X.env.scope x) (hd : (x == ("__debug__" : Str)) = false := by decide) (hcd : (x == ("__classdict__" : Str)) = false := by decide) : PE X (.Name x pos) (tVar i) := by
  intro pins s σ H Q I h
  obtain ⟨v, e, h⟩ := h
  obtain ⟨m, hn, hl⟩ := I.loc
  obtain ⟨u, r, l⟩ := hl i x v hN e hv
  have fin : EP X pins σ Q u s := ⟨v, H, I, r, h⟩
  rcases l with ⟨hk, hm⟩ | ⟨hk, c, hc, hcell⟩
  · exact wpAny_Name (wpAny_loadName_local I.ok.kind hk hn hm fin) hd
  · rcases hk with hk | hk
    · exact wpAny_Name (wpAny_loadName_cell I.ok.kind hk hc hcell fin) hd
    · exact wpAny_Name (wpAny_loadName_free I.ok.kind hk hc hcell fin hcd) hd
theorem pe_int {i j pos} : PE X (.Constant (.int i) j pos) (tC (.int i)) := fun _ _ _ H _ I h => wpAny_Constant_int ⟨.int i, H, I.tok _, ⟨_, rfl⟩, h⟩
theorem pe_bl {b j pos} : PE X (.Constant (.bool b) j pos) (tC (.bl b)) := fun _ _ _ H _ I h => Constant_bool ⟨.bl b, H, I, rfl, h⟩
theorem pe_str {x j pos} : PE X (.Constant (.str x) j pos) (tC (.str x)) := fun _ _ _ H _ I h => Calls.Constant_str ⟨.str x, H, I.tok _, ⟨_, rfl⟩, h⟩

def Gl (X : Cx) (x : Str) : Prop := X.env.kindOf x = some .globalImplicit
theorem ld_glob {E : Value → Shared → Prop} {pins : List (Addr × Obj)} {s : Shared} {σ : St} {H : Hp} {x : Str} {u : Value} {pos : Pos} {Q : Value → Shared → Prop} (I : Inv X pins σ H s) (hg : Gl X x) (hm : X.mg x = some u) (h : Q u s)
    (hd : (x == ("__debug__" : Str)) = false := by decide) : wpAny (model X.prog X.w) X.A (eval (.Name x pos) X.env) Q E s :=
  Calls.Name_function_global I.ok.kind hg (Calls.loadGlobal_global (by rw [I.ok.glob]; exact I.mod.glob.keeps I.bk) hm h) hd
theorem ld_blt {E : Value → Shared → Prop} {pins : List (Addr × Obj)} {s : Shared} {σ : St} {H : Hp} {x : Str} {u : Value} {pos : Pos} {Q : Value → Shared → Prop} (I : Inv X pins σ H s) (hg : Gl X x) (hm : X.mg x = none) (hv : bootBuiltins x = some u) (h : Q u s)
    (hn : x ≠ "__name__" := by decide) (hd : (x == ("__debug__" : Str)) = false := by decide) : wpAny (model X.prog X.w) X.A (eval (.Name x pos) X.env) Q E s := by
  obtain ⟨mb, h1, h2⟩ := I.mod.blt
  exact Calls.Name_function_global I.ok.kind hg (Calls.loadGlobal_builtin (by rw [I.ok.glob]; exact I.mod.glob.keeps I.bk) hm (by rw [I.ok.blt]; exact h1.keeps I.bk) ((h2 x hn).trans hv) h) hd
theorem pe_glob {x : Str} {v : V} {u : Value} {pos : Pos} (hg : Gl X x) (hm : X.mg x = some u) (r : RelV v u) (hd : (x == ("__debug__" : Str)) = false := by decide) : PE X (.Name x pos) (tC v) :=
  fun _ _ _ H _ I h => ld_glob I hg hm ⟨v, H, I, r, h⟩ hd
theorem pe_bltn {x : Str} {v : V} {u : Value} {pos : Pos} (hg : Gl X x) (hm : X.mg x = none) (hv : bootBuiltins x = some u) (r : RelV v u) (hn : x ≠ "__name__" := by decide) (hd : (x == ("__debug__" : Str)) = false := by decide) : PE X (.Name x pos) (tC v) :=
  fun _ _ _ H _ I h => ld_blt I hg hm hv ⟨v, H, I, r, h⟩ hn hd

variable {a b : Expr} {ta tb : TE} {pos : Pos}
def tB (t : TE) : TT := fun σ H Q => t σ H fun x H1 => ∃ c, x = .bl c ∧ Q c H1
theorem pt_val {e : Expr} {t : TE} (h : PE X e t) (he : ∀ whole, isTrue e X.env whole = (do let v ← whole; standAt e.pos; holding [v] (truthy v)) := by intro _; rfl) : PT X e (tB t) := by
  intro pins s σ H Q I hw
  refine isTrue_plain (thn (h pins s σ H _ I hw) fun v s1 ⟨x, H1, I1, r1, q1⟩ => ?_) (he _)
  obtain ⟨d, rfl, q⟩ := q1
  cases r1
  exact wpAny_truthy_bool ⟨H1, I1, q⟩

variable {tA tB' : TT} {rest : List Expr}
def tAnd (t u : TT) : TT := fun σ H Q => t σ H fun c H1 => if c = true then u σ H1 Q else Q false H1
def tOr (t u : TT) : TT := fun σ H Q => t σ H fun c H1 => if c = true then Q true H1 else u σ H1 Q
def tNot (t : TT) : TT := fun σ H Q => t σ H fun c H1 => Q (!c) H1
theorem pw_and1 (ha : PT X a tA) : PW X (.BoolOp .And [a] pos) tA := by
  intro wh pins s σ H Q I h
  refine isTrue_and (thn (ha pins s σ H Q I h) fun c s1 e => ?_)
  cases c with
  | true => exact isTrue_and_nil e
  | false => exact e
theorem pw_or1 (ha : PT X a tA) : PW X (.BoolOp .Or [a] pos) tA := by
  intro wh pins s σ H Q I h
  refine isTrue_or (thn (ha pins s σ H Q I h) fun c s1 e => ?_)
  cases c with
  | false => exact isTrue_or_nil e
  | true => exact e
theorem pw_and (ha : PT X a tA) (hb : PW X (.BoolOp .And (b :: rest) pos) tB') : PW X (.BoolOp .And (a :: b :: rest) pos) (tAnd tA tB') := by
  intro wh pins s σ H Q I h
  refine isTrue_and (thn (ha pins s σ H _ I h) fun c s1 ⟨H1, I1, q1⟩ => ?_)
  cases c with
  | true => exact hb wh pins s1 σ H1 Q I1 q1
  | false => exact ⟨H1, I1, q1⟩
theorem pw_or (ha : PT X a tA) (hb : PW X (.BoolOp .Or (b :: rest) pos) tB') : PW X (.BoolOp .Or (a :: b :: rest) pos) (tOr tA tB') := by
  intro wh pins s σ H Q I h
  refine isTrue_or (thn (ha pins s σ H _ I h) fun c s1 ⟨H1, I1, q1⟩ => ?_)
  cases c with
  | true => exact ⟨H1, I1, q1⟩
  | false => exact hb wh pins s1 σ H1 Q I1 q1
theorem pt_not (ha : PT X a tA) : PT X (.UnaryOp .Not a pos) (tNot tA) := by
  intro pins s σ H Q I h
  exact isTrue_not (ha pins s σ H (fun c H1 => Q (!c) H1) I h)
def tAndV (ta tb : TE) : TE := fun σ H Q => ta σ H fun x H1 => ∃ c, x = .bl c ∧ if c = true then tb σ H1 Q else Q (.bl false) H1
def tOrV (ta tb : TE) : TE := fun σ H Q => ta σ H fun x H1 => ∃ c, x = .bl c ∧ if c = true then Q (.bl true) H1 else tb σ H1 Q
def tNotV (ta : TE) : TE := fun σ H Q => ta σ H fun x H1 => ∃ c, x = .bl c ∧ Q (.bl (!c)) H1
theorem pe_one {op} {t : TE} (h : PE X a t) : PE X (.BoolOp op [a] pos) t := fun pins s σ H Q I hw => BoolOp_one (h pins s σ H Q I hw)
theorem pe_and (ha : PE X a ta) (hb : PE X (.BoolOp .And (b :: rest) pos) tb) : PE X (.BoolOp .And (a :: b :: rest) pos) (tAndV ta tb) := by
  intro pins s σ H Q I h
  refine BoolOp_and (thn (ha pins s σ H _ I h) fun v s1 ⟨x, H1, I1, r1, q1⟩ => ?_)
  obtain ⟨c, rfl, q1⟩ := q1
  cases r1
  refine wpAny_truthy_bool ?_
  cases c with
  | true => exact hb pins s1 σ H1 Q I1 q1
  | false => exact ⟨.bl false, H1, I1, rfl, q1⟩
theorem pe_or (ha : PE X a ta) (hb : PE X (.BoolOp .Or (b :: rest) pos) tb) : PE X (.BoolOp .Or (a :: b :: rest) pos) (tOrV ta tb) := by
  intro pins s σ H Q I h
  refine BoolOp_or (thn (ha pins s σ H _ I h) fun v s1 ⟨x, H1, I1, r1, q1⟩ => ?_)
  obtain ⟨c, rfl, q1⟩ := q1
  cases r1
  refine wpAny_truthy_bool ?_
  cases c with
  | false => exact hb pins s1 σ H1 Q I1 q1
  | true => exact ⟨.bl true, H1, I1, rfl, q1⟩
theorem pe_not (ha : PE X a ta) : PE X (.UnaryOp .Not a pos) (tNotV ta) := by
  intro pins s σ H Q I h
  refine UnaryOp_ (thn (ha pins s σ H _ I h) fun v s1 ⟨x, H1, I1, r1, q1⟩ => ?_)
  obtain ⟨c, rfl, q1⟩ := q1
  cases r1
  exact not_of (wpAny_truthy_bool ⟨.bl (!c), H1, I1, rfl, q1⟩)
end
end L2

namespace L2
open PySem PySem.Spec PyProof.Rows

def SqL (K : PySem.W.Frag) (H : Hp) (a : Addr) (xs : List V) : Prop :=
  Rd H a (.lst xs) ∨
    ∃ (o : Obj) (its : Array Value) (n : Nat), K.lookup a = some o ∧ o.cls = .type "list" ∧ o.dict = none ∧ o.data = .seq its n ∧ its.size ≤ sizeLine ∧ Vals xs its.toList
def SqT (K : PySem.W.Frag) (H : Hp) (a : Addr) (xs : List V) : Prop :=
  Rd H a (.tup xs) ∨
    ∃ (o : Obj) (its : Array Value) (n : Nat), K.lookup a = some o ∧ o.cls = .type "tuple" ∧ o.data = .seq its n ∧ its.size ≤ sizeLine ∧ Vals xs its.toList
def absV : Value → Option V
  | .none => some .non
  | .bool b => some (.bl b)
  | .int i _ => some (.int i)
  | .str x _ => some (.str x)
  | .bytes b _ => some (.byt b)
  | .float b _ => some (.flt b)
  | .ref a => some (.ref a)
  | .type n => some (.ty n)
  | _ => none
theorem RelV.abs {x : V} {u : Value} (r : RelV x u) : absV u = some x := by
  cases x with
  | non => cases r; rfl
  | bl _ => cases r; rfl
  | int _ => obtain ⟨t, rfl⟩ := r; rfl
  | str _ => obtain ⟨t, rfl⟩ := r; rfl
  | byt _ => obtain ⟨t, rfl⟩ := r; rfl
  | flt _ => obtain ⟨t, rfl⟩ := r; rfl
  | ref _ => cases r; rfl
  | ty _ => cases r; rfl
theorem RelV.inj {x y : V} {u : Value} (r : RelV x u) (q : RelV y u) : x = y := Option.some.inj (r.abs.symm.trans q.abs)
theorem Vals.inj : ∀ {xs ys : List V} {us : List Value}, Vals xs us → Vals ys us → xs = ys
  | _, _, _, .nil, .nil => rfl
  | _, _, _, .cons r t, .cons r' t' => by rw [r.inj r', Vals.inj t t']
section
variable {X : Cx} {pins : List (Addr × Obj)} {σ : St} {H : Hp} {s : Shared} {a : Addr} {xs ys : List V}
theorem SqL.of {K : PySem.W.Frag} (h : H a = some (.lst xs)) : SqL K H a xs := .inl (.inl h)
theorem SqT.of {K : PySem.W.Frag} (h : H a = some (.tup xs)) : SqT K H a xs := .inl (.inl h)
theorem Inv.list (I : Inv X pins σ H s) (h : SqL X.K H a xs) : ∃ its : List Value, Vals xs its ∧ PlainL s.heap a its.toArray ∧ xs.length ≤ sizeLine := by
  rcases h with h | ⟨o, its, n, hk, hc, hd, hs, hz, r⟩
  · obtain ⟨z, its, n, r, e⟩ := h.ok I.hok
    exact ⟨its, r, ⟨_, n, e, rfl, rfl, rfl⟩, z⟩
  · refine ⟨its.toList, r, ⟨o, n, I.kIn a o hk, hc, hd, by simpa using hs⟩, ?_⟩
    have e := r.length
    simp only [Array.length_toList] at e
    omega
theorem Inv.tuple (I : Inv X pins σ H s) (h : SqT X.K H a xs) : ∃ its : List Value, Vals xs its ∧ IsTup s.heap a its.toArray ∧ xs.length ≤ sizeLine := by
  rcases h with h | ⟨o, its, n, hk, hc, hs, hz, r⟩
  · obtain ⟨z, its, r, p⟩ := h.ok I.hok
    exact ⟨its, r, p, z⟩
  · refine ⟨its.toList, r, ⟨o, I.kIn a o hk, hc, n, by simpa using hs⟩, ?_⟩
    have e := r.length
    simp only [Array.length_toList] at e
    omega
theorem Inv.list_inj (I : Inv X pins σ H s) (h : SqL X.K H a xs) (h' : SqL X.K H a ys) : xs = ys := by
  obtain ⟨its, r, ⟨o, n, e, _, _, d⟩, _⟩ := I.list h
  obtain ⟨its', r', ⟨o', n', e', _, _, d'⟩, _⟩ := I.list h'
  rw [e] at e'; cases e'
  rw [d] at d'
  injection d' with d1 _
  have : its = its' := by simpa using congrArg Array.toList d1
  subst this
  exact r.inj r'
theorem Inv.tuple_inj (I : Inv X pins σ H s) (h : SqT X.K H a xs) (h' : SqT X.K H a ys) : xs = ys := by
  obtain ⟨its, r, ⟨o, e, _, n, d⟩, _⟩ := I.tuple h
  obtain ⟨its', r', ⟨o', e', _, n', d'⟩, _⟩ := I.tuple h'
  rw [e] at e'; cases e'
  rw [d] at d'
  injection d' with d1 _
  have : its = its' := by simpa using congrArg Array.toList d1
  subst this
  exact r.inj r'
end

abbrev Cx.wish (X : Cx) (E : Value → Shared → Prop) : Cx := { X with xe := E }
abbrev Cx.nox (X : Cx) : Cx := X.wish fun _ _ => False
theorem Cx.Ok.wish {X : Cx} (ok : X.Ok) (E : Value → Shared → Prop) : (X.wish E).Ok :=
  ⟨ok.mod, ok.kind, ok.glob, ok.blt, ok.above, ok.inj, ok.has, ok.cab, ok.hd, ok.frames, ok.stk, ok.exf, ok.bs, ok.bsz, ok.noex, ok.exfs, ok.funs, ok.frf⟩
theorem Cx.Ok.unwish {X : Cx} {E : Value → Shared → Prop} (ok : (X.wish E).Ok) : X.Ok :=
  ⟨ok.mod, ok.kind, ok.glob, ok.blt, ok.above, ok.inj, ok.has, ok.cab, ok.hd, ok.frames, ok.stk, ok.exf, ok.bs, ok.bsz, ok.noex, ok.exfs, ok.funs, ok.frf⟩
section
variable {X : Cx} {pins : List (Addr × Obj)} {σ : St} {H : Hp} {s : Shared} {E : Value → Shared → Prop}
theorem Inv.wish (I : Inv X pins σ H s) (E : Value → Shared → Prop) : Inv (X.wish E) pins σ H s := ⟨I.ok.wish E, I.os, I.bare, I.base, I.loc, I.cell, I.free, I.freeC, I.pin, I.hok, I.len⟩
theorem Inv.unwish (I : Inv (X.wish E) pins σ H s) : Inv X pins σ H s := ⟨I.ok.unwish, I.os, I.bare, I.base, I.loc, I.cell, I.free, I.freeC, I.pin, I.hok, I.len⟩
theorem SP.unwish {D : Ends} {f : Flow} {s' : Shared} (h : SP (X.wish E) pins D f s') : SP X pins D f s' := by
  cases f with
  | next => obtain ⟨σ', H', I, q⟩ := h; exact ⟨σ', H', I.unwish, q⟩
  | brk => obtain ⟨σ', H', I, q⟩ := h; exact ⟨σ', H', I.unwish, q⟩
  | cont => obtain ⟨σ', H', I, q⟩ := h; exact ⟨σ', H', I.unwish, q⟩
  | ret u => obtain ⟨v, σ', H', I, r, q⟩ := h; exact ⟨v, σ', H', I.unwish, r, q⟩
theorem PE.nox {e : Expr} {t : TE} (h : PE X.nox e t) : PE X e t := fun pins s σ H Q I hw =>
  wpAny_mono (h pins s σ H Q (I.wish _) hw) (fun _ _ ⟨v, H', I', r, q⟩ => ⟨v, H', I'.unwish, r, q⟩) fun _ _ z => False.elim z
theorem PT.nox {e : Expr} {t : TT} (h : PT X.nox e t) : PT X e t := fun pins s σ H Q I hw =>
  wpAny_mono (h pins s σ H Q (I.wish _) hw) (fun _ _ ⟨H', I', q⟩ => ⟨H', I'.unwish, q⟩) fun _ _ z => False.elim z
theorem PSs.nox {st : List Stmt} {t : TS} (h : PSs X.nox st t) : PSs X st t := fun pins s σ H D I hw =>
  wpAny_mono (h pins s σ H D (I.wish _) hw) (fun _ _ q => q.unwish) fun _ _ z => False.elim z
end

section
variable {X : Cx} {st : Stmt} {rest : List Stmt} {t u : TS} {e : Expr} {te : TE} {pos : Pos}
def tNext : TS := fun D σ H => D.nx σ H
def tSeq (t u : TS) : TS := fun D σ H => t { D with nx := u D } σ H
theorem pss_nil : PSs X [] tNext := fun _ _ σ H _ I h => wpAny_execs_nil ⟨σ, H, I, h⟩
theorem pss_cons (h1 : PS X st t) (h2 : PSs X rest u) : PSs X (st :: rest) (tSeq t u) := by
  intro pins s σ H D I h
  refine wpAny_execs_cons (thn (h1 pins s σ H { D with nx := u D } I h) fun f s1 q => ?_)
  cases f with
  | next =>
    obtain ⟨σ', H', I', q⟩ := q
    exact h2 pins s1 σ' H' D I' q
  | ret v => exact q
  | brk => exact q
  | cont => exact q
theorem pss_one (h1 : PS X st t) : PSs X [st] t := by
  intro pins s σ H D I h
  refine wpAny_execs_cons (thn (h1 pins s σ H D I h) fun f s1 q => ?_)
  cases f with
  | next => exact wpAny_execs_nil q
  | ret v => exact q
  | brk => exact q
  | cont => exact q
theorem Inv.quiet {pins : List (Addr × Obj)} {σ : St} {H : Hp} {s : Shared} (I : Inv X pins σ H s) : interactive X.env = false := by simp [interactive, I.ok.kind]
def tDrop (te : TE) : TS := fun D σ H => te σ H fun _ H1 => D.nx σ H1
theorem ps_expr (he : PE X e te) (hs : swapsWith e none pos.line X.env = pure false := by rfl) : PS X (.Expr e pos) (tDrop te) := by
  intro pins s σ H D I h
  exact wpAny_Expr_any (thn (he pins s σ H _ I h) fun v s1 ⟨x, H1, I1, r1, q1⟩ => ⟨σ, H1, I1, q1⟩) I.quiet hs
def tRet (te : TE) : TS := fun D σ H => te σ H D.rt
theorem ps_ret (he : PE X e te) : PS X (.Return (some e) pos) (tRet te) := by
  intro pins s σ H D I h
  exact wpAny_Return_some (thn (he pins s σ H _ I h) fun v s1 ⟨x, H1, I1, r1, q1⟩ => ⟨x, σ, H1, I1, r1, q1⟩)
def tIfS (c : TT) (t u : TS) : TS := fun D σ H => c σ H fun b H1 => if b = true then t D σ H1 else u D σ H1
theorem ps_if {c : Expr} {a b : List Stmt} {tc : TT} (hc : PT X c tc) (ha : PSs X a t) (hb : PSs X b u) : PS X (.If c a b pos) (tIfS tc t u) := by
  intro pins s σ H D I h
  refine wpAny_If (thn (hc pins s σ H _ I h) fun d s1 ⟨H1, I1, q1⟩ => ?_)
  cases d with
  | true => exact ha pins s1 σ H1 D I1 q1
  | false => exact hb pins s1 σ H1 D I1 q1
def tNever : TS := fun _ _ _ => False
theorem ps_never : PS X st tNever := fun _ _ _ _ _ _ h => h.elim
end

abbrev TG := V → St → Hp → (St → Hp → Prop) → Prop
abbrev TGs := List V → St → Hp → (St → Hp → Prop) → Prop
def PG (X : Cx) (target : Expr) (t : TG) : Prop :=
  ∀ (pins : List (Addr × Obj)) (s : Shared) (σ : St) (H : Hp) (v : V) (u : Value) (Q : St → Hp → Prop), Inv X pins σ H s → RelV v u → t v σ H Q →
    wpAny (model X.prog X.w) X.A (assign target X.env u) (fun _ s' => ∃ σ' H', Inv X pins σ' H' s' ∧ Q σ' H') X.xe s
def PGs (X : Cx) (ts : List Expr) (t : TGs) : Prop :=
  ∀ (pins : List (Addr × Obj)) (s : Shared) (σ : St) (H : Hp) (vs : List V) (us : List Value) (Q : St → Hp → Prop), Inv X pins σ H s → Vals vs us → t vs σ H Q →
    wpAny (model X.prog X.w) X.A (assignInOrder ((assignEach ts X.env).map (·.2)) us) (fun _ s' => ∃ σ' H', Inv X pins σ' H' s' ∧ Q σ' H') X.xe s
abbrev TSet := V → V → V → Hp → (Hp → Prop) → Prop
def PSet (X : Cx) (t : TSet) : Prop :=
  ∀ (pins : List (Addr × Obj)) (s : Shared) (σ : St) (H : Hp) (o i v : V) (ov iv u : Value) (Q : Hp → Prop), Inv X pins σ H s → RelV o ov → RelV i iv → RelV v u → t o i v H Q →
    wpAny (model X.prog X.w) X.A (setItem ov iv u) (fun _ s' => ∃ H', Inv X pins σ H' s' ∧ Q H') X.xe s
section
variable {X : Cx} {pos : Pos}
def gName (i : Nat) : TG := fun v σ H Q => Q (σ.set i (some v)) H
theorem pg_name {i : Nat} {x : Str} (hN : X.N.Nodup) (hi : X.N[i]? = some x) (hx : Loc X.env.scope x) (hf : X.fn x = true ∨ X.env.scope.names.lookup x = some .local := by first | exact .inl rfl | exact .inr rfl | assumption) : PG X (.Name x pos) (gName i) := by
  intro pins s σ H v u Q I r h
  exact wpAny_assign_Name (store_ok I hN hi hx r (fun s' I' => ⟨_, H, I', h⟩) hf)
def gNil : TGs := fun vs σ H Q => vs = [] ∧ Q σ H
def gCons (t : TG) (u : TGs) : TGs := fun vs σ H Q => ∃ v r, vs = v :: r ∧ t v σ H fun σ' H' => u r σ' H' Q
theorem pgs_nil : PGs X [] gNil := by
  intro pins s σ H vs us Q I r h
  obtain ⟨e, h⟩ := h
  subst e
  cases r
  exact assignInOrder_nil ⟨σ, H, I, h⟩
theorem pgs_cons {e : Expr} {es : List Expr} {t : TG} {u : TGs} (h1 : PG X e t) (h2 : PGs X es u)
    (hs : (assignEach (e :: es) X.env).map (·.2) = assign e X.env :: (assignEach es X.env).map (·.2) := by rfl) : PGs X (e :: es) (gCons t u) := by
  intro pins s σ H vs us Q I r h
  obtain ⟨v, vr, e1, h⟩ := h
  subst e1
  cases r with
  | cons r rr =>
    rw [hs]
    refine assignInOrder_cons (thn (h1 pins s σ H _ _ _ I r h) fun _ s1 ⟨σ1, H1, I1, q1⟩ => ?_)
    exact h2 pins s1 σ1 H1 _ _ Q I1 rr q1
def gTup (K : PySem.W.Frag) (n : Nat) (t : TGs) : TG := fun v σ H Q => ∃ a xs, v = .ref a ∧ SqT K H a xs ∧ xs.length = n ∧ t xs σ H Q
theorem pg_tup {es : List Expr} {k : Nat} {t : TGs} {n : Nat} (hc : X.calm = true) (h : PGs X es t)
    (hn : (assignEach es X.env).length = n := by rfl) (hst : (assignEach es X.env).findIdx? (·.1) = none := by rfl) : PG X (.Tuple es k pos) (gTup X.K n t) := by
  intro pins s σ H v u Q I r hw
  obtain ⟨a, xs, e1, hq, hl, hw⟩ := hw
  subst e1
  cases r
  obtain ⟨its, rv, ht, hz⟩ := I.tuple hq
  refine assign_Tuple_tuple (I.ok.hd hc) ht (by simp [hn, ← hl, rv.length]) hst fun h' hx => ?_
  have I1 : Inv X pins σ H { s with heap := h' } := I.kept (t' := s.toks) fun b o e => hx b o (Nat.ne_of_lt (Heap.lt_size e)) e
  exact h pins _ σ H xs _ Q I1 (by simpa using rv) hw
def gSub (to ti : TE) (t : TSet) : TG := fun v σ H Q => to σ H fun o H1 => ti σ H1 fun i H2 => t o i v H2 fun H3 => Q σ H3
theorem pg_sub {o i : Expr} {to ti : TE} {t : TSet} (ho : PE X o to) (hi : PE X i ti) (hs : PSet X t)
    (ha : ∀ v, assign (.Subscript o i pos) X.env v = (do
      let ov ← holding [v] (eval o X.env)
      let iv ← holding [v, ov] (eval i X.env)
      standAt pos
      holding [v, ov, iv] (setItem ov iv v)
      release [v, ov, iv] []) := by intro _; rfl) : PG X (.Subscript o i pos) (gSub to ti t) := by
  intro pins s σ H v u Q I r h
  rw [ha]
  refine wpAny_bind (wpAny_holding (thn (ho pins s σ H _ I h) fun ov s1 ⟨x, H1, I1, r1, q1⟩ => ?_))
  refine wpAny_bind (wpAny_holding (thn (hi pins s1 σ H1 _ I1 q1) fun iv s2 ⟨y, H2, I2, r2, q2⟩ => ?_))
  refine wpAny_bind (wpAny_standAt (wpAny_bind (wpAny_holding (thn (hs pins s2 σ H2 x y v ov iv u _ I2 r1 r2 r q2) fun _ s3 ⟨H3, I3, q3⟩ => ?_))))
  exact wpAny_release ⟨σ, H3, I3, q3⟩
def tAsg (te : TE) (g : TG) : TS := fun D σ H => te σ H fun x H1 => g x σ H1 D.nx
theorem ps_asg {tg e : Expr} {te : TE} {g : TG} (he : PE X e te) (hg : PG X tg g) (hs : swapsWithSole [tg] e pos.line X.env = pure false := by rfl) (hw : swappedStores [tg] e X.env = pure none := by rfl)
    (h1 : (assignEach [tg] X.env).map (·.2) = [assign tg X.env] := by rfl) : PS X (.Assign [tg] e pos) (tAsg te g) := by
  intro pins s σ H D I h
  refine wpAny_Assign_stores (thn (he pins s σ H _ I h) fun v s1 ⟨x, H1, I1, r1, q1⟩ => ?_) hs hw
  rw [h1]
  exact thn (hg pins s1 σ H1 x v _ I1 r1 q1) fun _ s2 q => q
theorem ps_set {i : Nat} {x : Str} {e : Expr} {te : TE} {pos' : Pos} (hN : X.N.Nodup) (hi : X.N[i]? = some x) (hx : Loc X.env.scope x) (he : PE X e te) (hs : swapsWith e (some (.Name x pos')) pos.line X.env = pure false := by rfl) (hf : X.fn x = true ∨ X.env.scope.names.lookup x = some .local := by first | exact .inl rfl | exact .inr rfl | assumption) :
    PS X (.Assign [.Name x pos'] e pos) (tAsg te (gName i)) := by
  intro pins s σ H D I h
  refine wpAny_Assign_Name (thn (he pins s σ H _ I h) fun v s1 ⟨y, H1, I1, r1, q1⟩ => ?_) hs
  exact store_ok I1 hN hi hx r1 (fun s2 I2 => ⟨_, H1, I2, q1⟩) hf
end

section
variable {X : Cx} {pos : Pos}
def tWhile (c : TT) (tb : TS) : TS := fun D σ H => ∃ W : Nat → St → Hp → Prop, (∃ m, W m σ H) ∧ ∀ m σ H, W m σ H →
  c σ H fun b H1 => if b = true then ∃ N : St → Hp → Prop, (∀ σ' H', N σ' H' → ∃ m', m' < m ∧ W m' σ' H') ∧ tb { D with nx := N, ct := N, bk := D.nx } σ H1 else D.nx σ H1
theorem ps_while {c : Expr} {body : List Stmt} {tc : TT} {tb : TS} (hp : PassesOwn (model X.prog X.w) X.A X.env X.xe) (hc : PT X c tc) (hb : PSs X body tb) : PS X (.While c body [] pos) (tWhile tc tb) := by
  intro pins s σ H D I h
  obtain ⟨W, ⟨m0, w0⟩, turn⟩ := h
  refine wpAny_While (codeAny_whileLoop (fun n s' => ∃ σ' H', Inv X pins σ' H' s' ∧ W n σ' H') ?_ m0 ⟨σ, H, I, w0⟩)
  rintro n s1 ⟨σ1, H1, I1, w1⟩
  refine wpAny_passesOwn hp (thn (hc pins s1 σ1 H1 _ I1 (turn n σ1 H1 w1)) fun b s2 ⟨H2, I2, q2⟩ => ?_)
  cases b with
  | true =>
    obtain ⟨N, hN, q2⟩ := q2
    rw [if_pos rfl]
    refine wpAny_passesOwn hp (thn (hb pins s2 σ1 H2 _ I2 q2) fun f s3 q3 => ?_)
    cases f with
    | next =>
      obtain ⟨σ3, H3, I3, n3⟩ := q3
      obtain ⟨m', hm, w3⟩ := hN σ3 H3 n3
      exact ⟨m', hm, σ3, H3, I3, w3⟩
    | cont =>
      obtain ⟨σ3, H3, I3, n3⟩ := q3
      obtain ⟨m', hm, w3⟩ := hN σ3 H3 n3
      exact ⟨m', hm, σ3, H3, I3, w3⟩
    | brk => exact q3
    | ret v => exact q3
  | false =>
    rw [if_neg Bool.false_ne_true]
    exact wpAny_execs_nil ⟨σ1, H2, I2, q2⟩
end

structure It where
  go : Nat → Hp → Prop
  yld : Nat → Hp → V → Hp → Prop
  stop : Nat → Hp → Prop
def FpOk (X : Cx) (pins : List (Addr × Obj)) (H : Hp) (b : Addr) : Prop :=
  H b = none ∧ b ≠ X.env.locals ∧ b ∉ X.fs ∧ (b ∈ X.ex ∨ X.s₀.heap.objs.size ≤ b) ∧ (∀ x c, X.env.cells.lookup x = some c → c ≠ b) ∧ ∀ p ∈ X.pn ++ pins, p.1 ≠ b
theorem Inv.fpOk {X : Cx} {pins : List (Addr × Obj)} {σ : St} {H H' : Hp} {s : Shared} {b : Addr} (I : Inv X pins σ H s) (hb : s.heap.objs.size ≤ b) (hn : H' b = none) : FpOk X pins H' b := by
  refine ⟨hn, Nat.ne_of_gt (Nat.lt_of_lt_of_le I.lt hb), I.nofs hb, .inr (Nat.le_trans I.sz hb), fun x c e z => ?_, fun p hp z => ?_⟩
  · obtain ⟨v, q⟩ := I.cell x c e
    exact absurd (Nat.lt_of_lt_of_le q.lt (by rw [z]; exact hb)) (Nat.lt_irrefl _)
  · exact absurd (Nat.lt_of_lt_of_le (Heap.lt_size (I.pin p hp).1) (by rw [z]; exact hb)) (Nat.lt_irrefl _)
structure Turn (P : Program) (w : World) (K : PySem.W.Frag) (tg : Expr) (J : It) (fp : List Addr) (it : Addr) (tn : Nat → Heap → Prop) : Prop where
  mem : it ∈ fp
  obj : ∀ i h, tn i h → ∀ b ∈ fp, ∃ o, h.get? b = some o ∧ ∀ v, o.data ≠ .cell v
  keep : ∀ i h h', tn i h → (∀ b ∈ fp, ∀ o, h.get? b = some o → h'.get? b = some o) → tn i h'
  item : ∀ (X : Cx), X.prog = P → X.w = w → X.K = K → X.calm = true → ∀ (i : Nat) (pins : List (Addr × Obj)) (s : Shared) (σ : St) (H : Hp) (E : Value → Shared → Prop), Inv X pins σ H s → (∀ b ∈ fp, FpOk X pins H b) → tn i s.heap → J.go i H →
    wpAny (model P w) X.A (pyNext (.ref it)) (fun r s1 => ∃ u, r = some u ∧
      wpAny (model P w) X.A (letOwnedTupleGo tg (.ref it) u) (fun _ s2 => ∃ x H', Inv X pins σ H' s2 ∧ RelV x u ∧ J.yld i H x H' ∧ tn (i + 1) s2.heap ∧ ∀ b ∈ fp, H' b = none) E s1) E s
  done : ∀ (X : Cx), X.prog = P → X.w = w → X.K = K → X.calm = true → ∀ (i : Nat) (pins : List (Addr × Obj)) (s : Shared) (σ : St) (H : Hp) (E : Value → Shared → Prop), Inv X pins σ H s → (∀ b ∈ fp, FpOk X pins H b) → tn i s.heap → J.stop i H →
    wpAny (model P w) X.A (pyNext (.ref it)) (fun r s1 => r = none ∧ Inv X pins σ H s1) E s
  self : ∀ (A : Around) (i : Nat) (s : Shared) (Q : Value → Shared → Prop) (E : Value → Shared → Prop), tn i s.heap → Q (.ref it) s → wpAny (model P w) A (pyIter (.ref it)) Q E s
abbrev TI := St → Hp → (It → Hp → Prop) → Prop
def PIE (X : Cx) (pins : List (Addr × Obj)) (σ : St) (tg : Expr) (R : It → Hp → Prop) (itv : Value) (s2 : Shared) : Prop :=
  ∃ (it : Addr) (fp : List Addr) (tn : Nat → Heap → Prop) (J : It) (H' : Hp), itv = .ref it ∧ Inv X pins σ H' s2 ∧ Turn X.prog X.w X.K tg J fp it tn ∧ tn 0 s2.heap ∧ (∀ b ∈ fp, FpOk X pins H' b) ∧ R J H'
def PI (X : Cx) (tg iter : Expr) (wi : TI) : Prop :=
  ∀ (pins : List (Addr × Obj)) (s : Shared) (σ : St) (H : Hp) (R : It → Hp → Prop), Inv X pins σ H s → wi σ H R →
    wpAny (model X.prog X.w) X.A (eval iter X.env) (fun v s1 => wpAny (model X.prog X.w) X.A (pyIter v) (PIE X pins σ tg R) X.xe s1) X.xe s

theorem go_of {M : Model} {A : Around} {E : Value → Shared → Prop} {s : Shared} {tg : Expr} {it : Addr} {u : Value} {o : Obj} {n : String} {vs : Array Value} {Q : Unit → Shared → Prop} (ho : s.heap.get? it = some o) (hc : o.cls = .type n) (hd : o.data = .fields vs)
    (hn : ["enumerate", "zip", "dict_itemiterator", "dict_reverseitemiterator", "odict_iterator", "itertools.zip_longest", "itertools.pairwise"].contains n = false) (hQ : Q () s) : wpAny M A (letOwnedTupleGo tg (.ref it) u) Q E s := by
  unfold letOwnedTupleGo
  cases tg <;> first
    | exact wpAny_pure hQ
    | (cases u <;> first
        | exact wpAny_pure hQ
        | (refine wpAny_bind (wpAny_load ho ?_)
           rw [hc, hd]
           show wpAny M A (if (["enumerate", "zip", "dict_itemiterator", "dict_reverseitemiterator", "odict_iterator", "itertools.zip_longest", "itertools.pairwise"].contains n && vs[0]? == some (rawInt _)) = true then _ else _) Q E s
           rw [if_neg (by intro h; rw [hn, Bool.false_and] at h; cases h)]
           exact wpAny_pure hQ))

def Itl (K : PySem.W.Frag) (a : Addr) : It :=
  ⟨fun i H => ∃ xs x, SqL K H a xs ∧ xs[i]? = some x, fun i H x H' => H' = H ∧ ∀ xs, SqL K H a xs → xs[i]? = some x, fun i H => ∃ xs, SqL K H a xs ∧ xs.length ≤ i⟩
def Itt (K : PySem.W.Frag) (a : Addr) : It :=
  ⟨fun i H => ∃ xs x, SqT K H a xs ∧ xs[i]? = some x, fun i H x H' => H' = H ∧ ∀ xs, SqT K H a xs → xs[i]? = some x, fun i H => ∃ xs, SqT K H a xs ∧ xs.length ≤ i⟩
def Itr (lo : Int) (n : Nat) : It := ⟨fun i _ => i < n, fun i H x H' => H' = H ∧ x = .int (lo + i), fun i _ => n ≤ i⟩
theorem turn_list {P : Program} {w : World} {K : PySem.W.Frag} {tg : Expr} (a it : Addr) : Turn P w K tg (Itl K a) [it] it (fun i h => h.IsListIter it a i) where
  mem := by simp
  obj := fun i h st b hb => by
    have e : b = it := by simpa using hb
    subst e
    obtain ⟨o, e, c, d⟩ := st
    exact ⟨o, e, fun v z => by rw [d] at z; cases z⟩
  keep := fun i h h' st k => st.at fun o e => k it (by simp) o e
  item := by
    intro X hP hw hK hc i pins s σ H E I hf st hg
    subst hP hw hK
    obtain ⟨xs, x, hq, hx⟩ := hg
    obtain ⟨its, rv, p, hz⟩ := I.list hq
    obtain ⟨u, hu, ru⟩ := rv.get hx
    obtain ⟨f0, f1, f2, f3, f4, f5⟩ := hf it (by simp)
    refine wpAny_pyNext_list_item st p.isList (x := u) (by simpa using hu) fun h' st' sb => ?_
    have I1 : Inv X pins σ H { s with heap := h' } := I.turned (t' := s.toks) (fun b o hb e => (sb.2 b hb).trans e) f0 f1 f3 f4 f5
    obtain ⟨o, e, c, d⟩ := id st'
    exact ⟨u, rfl, go_of (s := { s with heap := h' }) e c d (by decide) ⟨x, H, I1, ru, ⟨rfl, fun ys hy => by rw [I.list_inj hy hq]; exact hx⟩, st', fun b hb => (hf b hb).1⟩⟩
  done := by
    intro X hP hw hK hc i pins s σ H E I hf st hg
    subst hP hw hK
    obtain ⟨xs, hq, hx⟩ := hg
    obtain ⟨its, rv, p, hz⟩ := I.list hq
    obtain ⟨f0, f1, f2, f3, f4, f5⟩ := hf it (by simp)
    have hl := rv.length
    exact wpAny_pyNext_list_end (I.ok.hd hc) st p.isList (by simp; omega) fun h' eb => ⟨rfl, I.turned (t' := s.toks) (fun b o hb e => eb b o hb e) f0 f1 f3 f4 f5⟩
  self := fun _ _ _ _ _ st h => wpAny_pyIter_listiter st h
theorem turn_tuple {P : Program} {w : World} {K : PySem.W.Frag} {tg : Expr} (a it : Addr) : Turn P w K tg (Itt K a) [it] it (fun i h => h.IsTupleIter it a i) where
  mem := by simp
  obj := fun i h st b hb => by
    have e : b = it := by simpa using hb
    subst e
    obtain ⟨o, e, c, d⟩ := st
    exact ⟨o, e, fun v z => by rw [d] at z; cases z⟩
  keep := fun i h h' st k => st.at fun o e => k it (by simp) o e
  item := by
    intro X hP hw hK hc i pins s σ H E I hf st hg
    subst hP hw hK
    obtain ⟨xs, x, hq, hx⟩ := hg
    obtain ⟨its, rv, p, hz⟩ := I.tuple hq
    obtain ⟨u, hu, ru⟩ := rv.get hx
    obtain ⟨f0, f1, f2, f3, f4, f5⟩ := hf it (by simp)
    refine wpAny_pyNext_tuple_item st (show s.heap.IsTuple a its.toArray from p) (x := u) (by simpa using hu) fun h' st' sb => ?_
    have I1 : Inv X pins σ H { s with heap := h' } := I.turned (t' := s.toks) (fun b o hb e => (sb.2 b hb).trans e) f0 f1 f3 f4 f5
    obtain ⟨o, e, c, d⟩ := id st'
    exact ⟨u, rfl, go_of (s := { s with heap := h' }) e c d (by decide) ⟨x, H, I1, ru, ⟨rfl, fun ys hy => by rw [I.tuple_inj hy hq]; exact hx⟩, st', fun b hb => (hf b hb).1⟩⟩
  done := by
    intro X hP hw hK hc i pins s σ H E I hf st hg
    subst hP hw hK
    obtain ⟨xs, hq, hx⟩ := hg
    obtain ⟨its, rv, p, hz⟩ := I.tuple hq
    obtain ⟨f0, f1, f2, f3, f4, f5⟩ := hf it (by simp)
    have hl := rv.length
    exact wpAny_pyNext_tuple_end (I.ok.hd hc) st (show s.heap.IsTuple a its.toArray from p) (by simp; omega) fun h' eb => ⟨rfl, I.turned (t' := s.toks) (fun b o hb e => eb b o hb e) f0 f1 f3 f4 f5⟩
  self := fun _ _ _ _ _ st h => wpAny_pyIter_tupleiter st h
theorem turn_range {P : Program} {w : World} {K : PySem.W.Frag} {tg : Expr} (it : Addr) (lo : Int) (n : Nat) : Turn P w K tg (Itr lo n) [it] it (fun i h => IsRangeIter h it (lo + (i : Nat) * 1) ((n : Int) - (i : Nat)) 1) where
  mem := by simp
  obj := fun i h st b hb => by
    have e : b = it := by simpa using hb
    subst e
    exact ⟨_, st, fun v z => by
      have z' : Data.fields _ = Data.cell v := z
      cases z'⟩
  keep := fun i h h' st k => k it (by simp) _ st
  item := by
    intro X hP hw hK hc i pins s σ H E I hf st hg
    subst hP hw hK
    obtain ⟨f0, f1, f2, f3, f4, f5⟩ := hf it (by simp)
    have W := Walks.range (prog := X.prog) (w := X.w) (I.ok.hd hc) it lo 1 n
    refine W.item i s _ _ hg st fun v h' tk hv st' kk => ?_
    obtain ⟨t, rfl⟩ := hv
    have I1 : Inv X pins σ H { s with heap := h', toks := tk } := I.turned (fun b o hb e => kk b o (by simpa using hb) e) f0 f1 f3 f4 f5
    refine ⟨_, rfl, go_of (s := { s with heap := h', toks := tk }) (n := "range_iterator") st' rfl rfl (by decide) ⟨.int (lo + i), H, I1, ⟨t, ?_⟩, ⟨rfl, rfl⟩, st', fun b hb => (hf b hb).1⟩⟩
    rw [Int.mul_one]
  done := by
    intro X hP hw hK hc i pins s σ H E I hf st hg
    subst hP hw hK
    obtain ⟨f0, f1, f2, f3, f4, f5⟩ := hf it (by simp)
    exact wpAny_pyNext_range_end (I.ok.hd hc) st (by have : n ≤ i := hg; omega) fun h' eb => ⟨rfl, I.turned (t' := s.toks) (fun b o hb e => eb b o hb e) f0 f1 f3 f4 f5⟩
  self := fun _ _ _ _ _ st h => wpAny_pyIter_rangeiter st h
end L2

namespace L2
open PySem PySem.Spec PyProof.Rows
section
variable {X : Cx} {tg : Expr}
def iList (K : PySem.W.Frag) (tl : TE) : TI := fun σ H R => tl σ H fun x H1 => ∃ a, x = .ref a ∧ (∃ xs, SqL K H1 a xs) ∧ R (Itl K a) H1
def iTup (K : PySem.W.Frag) (tl : TE) : TI := fun σ H R => tl σ H fun x H1 => ∃ a, x = .ref a ∧ (∃ xs, SqT K H1 a xs) ∧ R (Itt K a) H1
theorem pi_list {l : Expr} {tl : TE} (hl : PE X l tl) : PI X tg l (iList X.K tl) := by
  intro pins s σ H R I h
  refine thn (hl pins s σ H _ I h) fun v s1 ⟨x, H1, I1, r1, q1⟩ => ?_
  obtain ⟨a, e, ⟨xs, hq⟩, q⟩ := q1
  subst e
  cases r1
  obtain ⟨its, rv, p, hz⟩ := I1.list hq
  refine wpAny_pyIter_list p.isList ?_
  refine ⟨s1.heap.objs.size, [s1.heap.objs.size], _, _, H1, rfl, I1.kept (t' := s1.toks) fun b o e => Heap.get?_push_of_some _ e, turn_list a _, ⟨_, Heap.get?_push_size _ rfl, rfl, rfl⟩, fun b hb => ?_, q⟩
  have e : b = s1.heap.objs.size := by simpa using hb
  subst e
  exact I1.fpOk (Nat.le_refl _) (I1.hok.fresh (Nat.le_refl _))
theorem pi_tup {l : Expr} {tl : TE} (hl : PE X l tl) : PI X tg l (iTup X.K tl) := by
  intro pins s σ H R I h
  refine thn (hl pins s σ H _ I h) fun v s1 ⟨x, H1, I1, r1, q1⟩ => ?_
  obtain ⟨a, e, ⟨xs, hq⟩, q⟩ := q1
  subst e
  cases r1
  obtain ⟨its, rv, p, hz⟩ := I1.tuple hq
  refine wpAny_pyIter_tuple (show s1.heap.IsTuple a its.toArray from p) ?_
  refine ⟨s1.heap.objs.size, [s1.heap.objs.size], _, _, H1, rfl, I1.kept (t' := s1.toks) fun b o e => Heap.get?_push_of_some _ e, turn_tuple a _, ⟨_, Heap.get?_push_size _ rfl, rfl, rfl⟩, fun b hb => ?_, q⟩
  have e : b = s1.heap.objs.size := by simpa using hb
  subst e
  exact I1.fpOk (Nat.le_refl _) (I1.hok.fresh (Nat.le_refl _))
theorem range_it {pins : List (Addr × Obj)} {σ : St} {H : Hp} {s : Shared} {R : It → Hp → Prop} {E : Value → Shared → Prop} {lo hi : Int} {t u v : Tok} {tk : Nat} (I : Inv X pins σ H s) (h1 : -(2 ^ 62) ≤ lo) (h2 : lo < 2 ^ 62) (h3 : -(2 ^ 62) ≤ hi) (h4 : hi < 2 ^ 62)
    (q : R (Itr lo (hi - lo).toNat) H) : wpAny (model X.prog X.w) X.A (pyIter (.ref s.heap.objs.size)) (PIE X pins σ tg R) E { s with heap := s.heap.push { cls := .type "range", data := .fields #[.int lo t, .int hi u, .int 1 v] }, toks := tk } := by
  refine wpAny_pyIter_range (IsRange.new ..) (small_one h1 h2 h3 h4) ?_
  have I1 : Inv X pins σ H { s with heap := s.heap.push { cls := .type "range", data := .fields #[.int lo t, .int hi u, .int 1 v] }, toks := tk } := I.kept fun b o e => Heap.get?_push_of_some _ e
  refine ⟨(s.heap.push { cls := .type "range", data := .fields #[.int lo t, .int hi u, .int 1 v] }).objs.size, [(s.heap.push { cls := .type "range", data := .fields #[.int lo t, .int hi u, .int 1 v] }).objs.size], _, _, H, rfl,
    I1.kept (t' := tk) fun b o e => Heap.get?_push_of_some _ e, turn_range _ lo (hi - lo).toNat, ?_, fun b hb => ?_, q⟩
  · have e1 : lo + ((0 : Nat) : Int) * 1 = lo := by simp
    have e2 : (((hi - lo).toNat : Nat) : Int) - ((0 : Nat) : Int) = Builtin.Range.rangeSize lo hi 1 := by rw [rangeSize_one]; split <;> omega
    show IsRangeIter _ _ (lo + ((0 : Nat) : Int) * 1) ((((hi - lo).toNat : Nat) : Int) - ((0 : Nat) : Int)) 1
    rw [e1, e2]
    exact Heap.get?_push_size _ rfl
  · have e : b = (s.heap.push { cls := .type "range", data := .fields #[.int lo t, .int hi u, .int 1 v] }).objs.size := by simpa using hb
    subst e
    exact I1.fpOk (Nat.le_refl _) (I1.hok.fresh (Nat.le_refl _))
def iRng1 (ta : TA) : TI := fun σ H R => ta σ H fun vs H1 => ∃ j : Int, vs = [.int j] ∧ -(2 ^ 62) ≤ j ∧ j < 2 ^ 62 ∧ R (Itr 0 j.toNat) H1
theorem pi_range1 {a : Expr} {ta : TA} {p pos : Pos} (hg : Gl X "range") (hm : X.mg "range" = none) (ha : PA X [a] ta) (hs : starEach [a] X.env = [(false, eval a X.env)] := by rfl) : PI X tg (.Call (.Name "range" p) [a] [] pos) (iRng1 ta) := by
  intro pins s σ H R I h
  refine Call_ (ld_blt I hg hm boot_range (PyProof.Rows.callWith_type1 (thn (ha pos pins s σ H _ I h) fun us s1 ⟨vs, H1, I1, r1, q1⟩ => ?_) hs rfl))
  obtain ⟨j, e, q1, q2, q⟩ := q1
  subst e
  cases r1 with
  | cons r rr =>
    cases rr
    obtain ⟨t, rfl⟩ := r
    exact call_range_1 (range_it I1 (by omega) (by omega) q1 q2 (by simpa using q))
def tFor (wi : TI) (g : TG) (tb : TS) : TS := fun D σ H => wi σ H fun J H1 => ∃ W : Nat → Nat → St → Hp → Prop, (∃ m, W 0 m σ H1) ∧ ∀ i m σ H, W i m σ H →
  (J.stop i H ∧ D.nx σ H) ∨ (J.go i H ∧ ∃ N : St → Hp → Prop, (∀ σ' H', N σ' H' → ∃ m', m' < m ∧ W (i + 1) m' σ' H') ∧ ∀ x H', J.yld i H x H' → g x σ H' fun σ2 H2 => tb { D with nx := N, ct := N, bk := D.nx } σ2 H2)
def pinsAt (fp : List Addr) (h : Heap) : List (Addr × Obj) := fp.filterMap fun b => (h.get? b).map fun o => (b, o)
theorem mem_pinsAt {fp : List Addr} {h : Heap} {b : Addr} {o : Obj} (hb : b ∈ fp) (e : h.get? b = some o) : (b, o) ∈ pinsAt fp h := List.mem_filterMap.mpr ⟨b, hb, by rw [e]; rfl⟩
theorem of_pinsAt {fp : List Addr} {h : Heap} {p : Addr × Obj} (hp : p ∈ pinsAt fp h) : p.1 ∈ fp ∧ h.get? p.1 = some p.2 := by
  obtain ⟨b, hb, e⟩ := List.mem_filterMap.mp hp
  cases q : h.get? b with
  | none => rw [q] at e; cases e
  | some o =>
    rw [q] at e
    have e' : (b, o) = p := Option.some.inj e
    subst e'
    exact ⟨hb, q⟩
theorem Inv.pinned {pins : List (Addr × Obj)} {σ : St} {H : Hp} {s : Shared} {fp : List Addr} (I : Inv X pins σ H s) (hf : ∀ b ∈ fp, FpOk X pins H b) (ho : ∀ b ∈ fp, ∃ o, s.heap.get? b = some o ∧ ∀ v, o.data ≠ .cell v) : Inv X (pins ++ pinsAt fp s.heap) σ H s :=
  I.pins_of fun p hp => (List.mem_append.mp hp).elim (fun z => I.pin p (List.mem_append_right _ z)) fun z => by
    obtain ⟨hb, e⟩ := of_pinsAt z
    obtain ⟨f0, f1, f2, _⟩ := hf p.1 hb
    obtain ⟨o, e', d⟩ := ho p.1 hb
    rw [e] at e'; cases e'
    exact ⟨e, f0, f1, f2, d⟩
theorem Inv.unpinned {pins pl : List (Addr × Obj)} {σ : St} {H : Hp} {s : Shared} (I : Inv X (pins ++ pl) σ H s) : Inv X pins σ H s := I.pins_of fun p hp => I.pin p (List.mem_append_right _ (List.mem_append_left _ hp))
theorem ps_for {iter : Expr} {body : List Stmt} {wi : TI} {g : TG} {tb : TS} {pos : Pos} (hp : PassesOwn (model X.prog X.w) X.A X.env X.xe) (hc : X.calm = true) (hi : PI X tg iter wi) (hg : PG X tg g) (hb : PSs X body tb)
    (hs : ∀ x, foldedSetIterable iter X.env x = pure x := by intro _; rfl) : PS X (.For tg iter body [] pos) (tFor wi g tb) := by
  intro pins s σ H D I h
  refine wpAny_For (thn (hi pins s σ H _ I h) fun v s1 h1 => thn h1 fun itv s2 h2 => ?_) hs
  obtain ⟨it, fp, tn, J, H2, e, I2, T, st2, f2, W, ⟨m0, w0⟩, turn⟩ := h2
  subst e
  have stat : ∀ {H' : Hp}, (∀ b ∈ fp, H' b = none) → ∀ b ∈ fp, FpOk X pins H' b := fun hn b hb => ⟨hn b hb, (f2 b hb).2⟩
  refine codeAny_forLoop_any (fun n s' => ∃ i σ' H', Inv X pins σ' H' s' ∧ tn i s'.heap ∧ (∀ b ∈ fp, H' b = none) ∧ W i n σ' H') ?_ m0 ⟨0, σ, H2, I2, st2, fun b hb => (f2 b hb).1, w0⟩
  rintro n s3 ⟨i, σ3, H3, I3, st3, fr3, w3⟩
  rcases turn i n σ3 H3 w3 with ⟨stop, qn⟩ | ⟨go, N, hN, step⟩
  · refine wpAny_passesOwn hp (thn (T.done X rfl rfl rfl hc i pins s3 σ3 H3 X.xe I3 (stat fr3) st3 stop) fun r s4 ⟨hr, I4⟩ => ?_)
    subst hr
    exact wpAny_execs_nil ⟨σ3, H3, I4, qn⟩
  · refine wpAny_passesOwn hp (thn (T.item X rfl rfl rfl hc i pins s3 σ3 H3 X.xe I3 (stat fr3) st3 go) fun r s4 ⟨u, hr, h4⟩ => ?_)
    subst hr
    refine wpAny_passesOwn hp (thn h4 fun _ s5 ⟨x, H5, I5, r5, y5, st5, fr5⟩ => ?_)
    have I5' := I5.pinned (stat fr5) (T.obj _ _ st5)
    refine wpAny_passesOwn hp (thn (hg _ s5 σ3 H5 x u _ I5' r5 (step x H5 y5)) fun _ s6 ⟨σ6, H6, I6, q6⟩ => ?_)
    refine wpAny_passesOwn hp (thn (hb _ s6 σ6 H6 _ I6 q6) fun f s7 q7 => ?_)
    have again : ∀ {σ7 : St} {H7 : Hp}, Inv X (pins ++ pinsAt fp s5.heap) σ7 H7 s7 → N σ7 H7 → ∃ m, m < n ∧ ∃ i σ' H', Inv X pins σ' H' s7 ∧ tn i s7.heap ∧ (∀ b ∈ fp, H' b = none) ∧ W i m σ' H' := fun {σ7 H7} I7 n7 => by
      obtain ⟨m', hm, w7⟩ := hN σ7 H7 n7
      refine ⟨m', hm, i + 1, σ7, H7, I7.unpinned, T.keep _ _ _ st5 fun b hb o e => (I7.pin (b, o) (List.mem_append_right _ (List.mem_append_right _ (mem_pinsAt hb e)))).1, fun b hb => ?_, w7⟩
      obtain ⟨o, e, d⟩ := T.obj _ _ st5 b hb
      exact (I7.pin (b, o) (List.mem_append_right _ (List.mem_append_right _ (mem_pinsAt hb e)))).2.1
    cases f with
    | next => obtain ⟨σ7, H7, I7, n7⟩ := q7; exact again I7 n7
    | cont => obtain ⟨σ7, H7, I7, n7⟩ := q7; exact again I7 n7
    | brk => obtain ⟨σ7, H7, I7, q7⟩ := q7; exact ⟨σ7, H7, I7.unpinned, q7⟩
    | ret v => obtain ⟨x7, σ7, H7, I7, r7, q7⟩ := q7; exact ⟨x7, σ7, H7, I7.unpinned, r7, q7⟩
end

theorem for_list {K : PySem.W.Frag} {a : Addr} {xs : List V} {g : TG} {tb : TS} {D : Ends} {σ : St} {H : Hp} (Pv : Nat → St → Hp → Prop) (h0 : Pv 0 σ H) (hl : ∀ i σ H, i ≤ xs.length → Pv i σ H → SqL K H a xs)
    (hs : ∀ i x σ H, xs[i]? = some x → Pv i σ H → g x σ H fun σ2 H2 => tb { D with nx := Pv (i + 1), ct := Pv (i + 1), bk := D.nx } σ2 H2) (hd : ∀ σ H, Pv xs.length σ H → D.nx σ H) :
    ∃ W : Nat → Nat → St → Hp → Prop, (∃ m, W 0 m σ H) ∧ ∀ i m σ H, W i m σ H →
      ((Itl K a).stop i H ∧ D.nx σ H) ∨ ((Itl K a).go i H ∧ ∃ N : St → Hp → Prop, (∀ σ' H', N σ' H' → ∃ m', m' < m ∧ W (i + 1) m' σ' H') ∧ ∀ x H', (Itl K a).yld i H x H' → g x σ H' fun σ2 H2 => tb { D with nx := N, ct := N, bk := D.nx } σ2 H2) := by
  refine ⟨fun i m σ H => m = xs.length - i ∧ i ≤ xs.length ∧ Pv i σ H, ⟨xs.length, by simp, Nat.zero_le _, h0⟩, ?_⟩
  rintro i m σ H ⟨rfl, hi, p⟩
  have q := hl i σ H hi p
  by_cases hlt : i < xs.length
  · refine .inr ⟨⟨xs, xs[i], q, by simp [hlt]⟩, Pv (i + 1), fun σ' H' p' => ⟨xs.length - (i + 1), by omega, rfl, hlt, p'⟩, fun x H' y => ?_⟩
    obtain ⟨e, y⟩ := y
    subst e
    exact hs i x σ _ (y xs q) p
  · have e : i = xs.length := by omega
    subst e
    exact .inl ⟨⟨xs, q, Nat.le_refl _⟩, hd σ H p⟩
theorem for_range {lo : Int} {n : Nat} {g : TG} {tb : TS} {D : Ends} {σ : St} {H : Hp} (Pv : Nat → St → Hp → Prop) (h0 : Pv 0 σ H)
    (hs : ∀ i σ H, i < n → Pv i σ H → g (.int (lo + i)) σ H fun σ2 H2 => tb { D with nx := Pv (i + 1), ct := Pv (i + 1), bk := D.nx } σ2 H2) (hd : ∀ σ H, Pv n σ H → D.nx σ H) :
    ∃ W : Nat → Nat → St → Hp → Prop, (∃ m, W 0 m σ H) ∧ ∀ i m σ H, W i m σ H →
      ((Itr lo n).stop i H ∧ D.nx σ H) ∨ ((Itr lo n).go i H ∧ ∃ N : St → Hp → Prop, (∀ σ' H', N σ' H' → ∃ m', m' < m ∧ W (i + 1) m' σ' H') ∧ ∀ x H', (Itr lo n).yld i H x H' → g x σ H' fun σ2 H2 => tb { D with nx := N, ct := N, bk := D.nx } σ2 H2) := by
  refine ⟨fun i m σ H => m = n - i ∧ i ≤ n ∧ Pv i σ H, ⟨n, by simp, Nat.zero_le _, h0⟩, ?_⟩
  rintro i m σ H ⟨rfl, hi, p⟩
  by_cases hlt : i < n
  · refine .inr ⟨hlt, Pv (i + 1), fun σ' H' p' => ⟨n - (i + 1), by omega, rfl, hlt, p'⟩, fun x H' y => ?_⟩
    obtain ⟨e, y⟩ := y
    subst e y
    exact hs i σ _ hlt p
  · have e : i = n := by omega
    subst e
    exact .inl ⟨Nat.le_refl _, hd σ H p⟩
theorem while_by {c : TT} {tb : TS} {D : Ends} {σ : St} {H : Hp} (Pv : St → Hp → Prop) (μ : St → Hp → Nat) (h0 : Pv σ H)
    (hs : ∀ σ H, Pv σ H → c σ H fun b H1 => if b = true then tb { D with nx := fun σ' H' => Pv σ' H' ∧ μ σ' H' < μ σ H, ct := fun σ' H' => Pv σ' H' ∧ μ σ' H' < μ σ H, bk := D.nx } σ H1 else D.nx σ H1)
    (mono : ∀ σ H Q Q', (∀ b H1, Q b H1 → Q' b H1) → c σ H Q → c σ H Q') : tWhile c tb D σ H := by
  refine ⟨fun m σ H => m = μ σ H ∧ Pv σ H, ⟨_, rfl, h0⟩, ?_⟩
  rintro m σ H ⟨rfl, p⟩
  refine mono σ H _ _ (fun b H1 q => ?_) (hs σ H p)
  cases b with
  | true => exact ⟨_, fun σ' H' ⟨p', l⟩ => ⟨_, l, rfl, p'⟩, q⟩
  | false => exact q
end L2

namespace L2
open PySem PySem.Spec PyProof.Rows

abbrev R2 := V → V → Hp → VK → Prop
def OpR (X : Cx) (f : Value → Value → Sem Value) (r : R2) : Prop :=
  ∀ (pins : List (Addr × Obj)) (s : Shared) (σ : St) (H : Hp) (x y : V) (v u : Value) (Q : VK), Inv X pins σ H s → RelV x v → RelV y u → r x y H Q →
    wpAny (model X.prog X.w) X.A (f v u) (EP X pins σ Q) X.xe s
def UnR (X : Cx) (f : Value → Sem Value) (r : V → Hp → VK → Prop) : Prop :=
  ∀ (pins : List (Addr × Obj)) (s : Shared) (σ : St) (H : Hp) (x : V) (v : Value) (Q : VK), Inv X pins σ H s → RelV x v → r x H Q →
    wpAny (model X.prog X.w) X.A (f v) (EP X pins σ Q) X.xe s
def CallR (X : Cx) (f : Value) (r : List V → Hp → VK → Prop) : Prop :=
  ∀ (pins : List (Addr × Obj)) (s : Shared) (σ : St) (H : Hp) (xs : List V) (us : List Value) (Q : VK), Inv X pins σ H s → Vals xs us → r xs H Q →
    wpAny (model X.prog X.w) X.A (call f us) (EP X pins σ Q) X.xe s
def TruR (X : Cx) (r : V → Hp → (Bool → Hp → Prop) → Prop) : Prop :=
  ∀ (pins : List (Addr × Obj)) (s : Shared) (σ : St) (H : Hp) (x : V) (v : Value) (Q : Bool → Hp → Prop), Inv X pins σ H s → RelV x v → r x H Q →
    wpAny (model X.prog X.w) X.A (truthy v) (TP X pins σ Q) X.xe s

def tOp (r : R2) (ta tb : TE) : TE := fun σ H Q => ta σ H fun x H1 => tb σ H1 fun y H2 => r x y H2 Q
def tUn (r : V → Hp → VK → Prop) (ta : TE) : TE := fun σ H Q => ta σ H fun x H1 => r x H1 Q
def rI (C : Int → Int → Prop) (g : Int → Int → V) : R2 := fun x y H Q => ∃ i j, x = .int i ∧ y = .int j ∧ C i j ∧ Q (g i j) H
def rI0 (g : Int → Int → V) : R2 := fun x y H Q => ∃ i j, x = .int i ∧ y = .int j ∧ Q (g i j) H
def rU (g : Int → V) : V → Hp → VK → Prop := fun x H Q => ∃ i, x = .int i ∧ Q (g i) H

section
variable {X : Cx} {a b c : Expr} {ta tb tc : TE} {pos : Pos}

theorem binT (ha : PE X a ta) (hb : PE X b tb) {pins : List (Addr × Obj)} {s : Shared} {σ : St} {H : Hp} {R : V → V → Hp → Prop} (I : Inv X pins σ H s)
    (h : ta σ H fun x H1 => tb σ H1 fun y H2 => R x y H2) {Q : Value → Shared → Prop} {f : Value → Value → Sem Value}
    (hf : ∀ v u s2 x y H2, Inv X pins σ H2 s2 → RelV x v → RelV y u → R x y H2 → wpAny (model X.prog X.w) X.A (f v u) Q X.xe s2) :
    wpAny (model X.prog X.w) X.A (eval a X.env) (fun v s₁ => wpAny (model X.prog X.w) X.A (eval b X.env) (fun u s₂ => wpAny (model X.prog X.w) X.A (f v u) Q X.xe s₂) X.xe s₁) X.xe s := by
  refine thn (ha pins s σ H _ I h) fun v s1 ⟨x, H1, I1, r1, q1⟩ => ?_
  refine thn (hb pins s1 σ H1 _ I1 q1) fun u s2 ⟨y, H2, I2, r2, q2⟩ => ?_
  exact hf v u s2 x y H2 I2 r1 r2 q2

theorem pe_op {op : Operator} {r : R2} (ho : OpR X (binaryOp op) r) (ha : PE X a ta) (hb : PE X b tb) : PE X (.BinOp a op b pos) (tOp r ta tb) := by
  intro pins s σ H Q I h
  exact wpAny_BinOp (binT ha hb I h fun v u s2 x y H2 I2 rx ry q => ho pins s2 σ H2 x y v u Q I2 rx ry q)
theorem pe_un {op : UnaryOp} {r : V → Hp → VK → Prop} (ho : UnR X (unaryOp op) r) (ha : PE X a ta) : PE X (.UnaryOp op a pos) (tUn r ta) := by
  intro pins s σ H Q I h
  exact UnaryOp_ (thn (ha pins s σ H _ I h) fun v s1 ⟨x, H1, I1, r1, q1⟩ => ho pins s1 σ H1 x v Q I1 r1 q1)
theorem opI {f : Value → Value → Sem Value} {C : Int → Int → Prop} {g : Int → Int → Int}
    (rule : ∀ (i j : Int) (t u : Tok) (s : Shared) (Q : Value → Shared → Prop) (E : Value → Shared → Prop), C i j → Q (.int (g i j) s.toks) { s with toks := s.toks + 1 } → wpAny (model X.prog X.w) X.A (f (.int i t) (.int j u)) Q E s) :
    OpR X f (rI C fun i j => .int (g i j)) := by
  intro pins s σ H x y v u Q I rx ry h
  obtain ⟨i, j, rfl, rfl, hc, q⟩ := h
  obtain ⟨t, rfl⟩ := rx
  obtain ⟨t', rfl⟩ := ry
  exact rule i j t t' s _ _ hc ⟨.int (g i j), H, I.tok _, ⟨_, rfl⟩, q⟩
theorem opI0 {f : Value → Value → Sem Value} {g : Int → Int → Int}
    (rule : ∀ (i j : Int) (t u : Tok) (s : Shared) (Q : Value → Shared → Prop) (E : Value → Shared → Prop), Q (.int (g i j) s.toks) { s with toks := s.toks + 1 } → wpAny (model X.prog X.w) X.A (f (.int i t) (.int j u)) Q E s) :
    OpR X f (rI0 fun i j => .int (g i j)) := by
  intro pins s σ H x y v u Q I rx ry h
  obtain ⟨i, j, rfl, rfl, q⟩ := h
  obtain ⟨t, rfl⟩ := rx
  obtain ⟨t', rfl⟩ := ry
  exact rule i j t t' s _ _ ⟨.int (g i j), H, I.tok _, ⟨_, rfl⟩, q⟩
theorem opB0 {f : Value → Value → Sem Value} {g : Int → Int → Bool}
    (rule : ∀ (i j : Int) (t u : Tok) (s : Shared) (Q : Value → Shared → Prop) (E : Value → Shared → Prop), Q (.bool (g i j)) s → wpAny (model X.prog X.w) X.A (f (.int i t) (.int j u)) Q E s) :
    OpR X f (rI0 fun i j => .bl (g i j)) := by
  intro pins s σ H x y v u Q I rx ry h
  obtain ⟨i, j, rfl, rfl, q⟩ := h
  obtain ⟨t, rfl⟩ := rx
  obtain ⟨t', rfl⟩ := ry
  exact rule i j t t' s _ _ ⟨.bl (g i j), H, I, rfl, q⟩

def CDiv (i j : Int) : Prop := 0 < j ∧ j < 1073741824
def CPow (i j : Int) : Prop := 0 ≤ j ∧ j ≤ 1000000 ∧ i.natAbs < 2 ^ 64
def CMul (i j : Int) : Prop := (-(2 ^ 64) < i ∧ i < 2 ^ 64) ∨ (-(2 ^ 64) < j ∧ j < 2 ^ 64)
theorem CMul.ok {i j : Int} (h : CMul i j) : IntMulOk i j := by
  rcases h with ⟨h1, h2⟩ | ⟨h1, h2⟩
  · exact .of_left (intBits_le_64 h1 h2)
  · exact .of_right (intBits_le_64 h1 h2)
theorem op_add : OpR X (binaryOp .Add) (rI0 fun i j => .int (i + j)) := opI0 fun _ _ _ _ _ _ _ q => add_int q
theorem op_mul : OpR X (binaryOp .Mult) (rI CMul fun i j => .int (i * j)) := opI fun _ _ _ _ _ _ _ hc q => mul_int q hc.ok
theorem op_fdiv : OpR X (binaryOp .FloorDiv) (rI CDiv fun i j => .int (i / j)) := opI fun i j _ _ _ _ _ hc q => by
  have h1 : (0 : Int) < j := hc.1
  have h2 : j < 1073741824 := hc.2
  exact floordiv_int (by omega) (by rw [Int.fdiv_eq_ediv_of_nonneg i (by omega)]; exact q) (.inl (PyProof.noPylong_small (by omega)))
theorem op_mod : OpR X (binaryOp .Mod) (rI (fun _ j => 0 < j) fun i j => .int (i % j)) := opI fun i j _ _ _ _ _ hc q => by
  have h1 : (0 : Int) < j := hc
  exact mod_int' (by omega) (by rw [Int.fmod_eq_emod_of_nonneg i (by omega)]; exact q)
theorem op_pow : OpR X (binaryOp .Pow) (rI CPow fun i j => .int (i ^ j.toNat)) := opI fun _ _ _ _ _ _ _ hc q => pow_int_small hc.1 hc.2.1 hc.2.2 q
theorem unI {f : Value → Sem Value} {g : Int → Int}
    (rule : ∀ (i : Int) (t : Tok) (s : Shared) (Q : Value → Shared → Prop) (E : Value → Shared → Prop), Q (.int (g i) s.toks) { s with toks := s.toks + 1 } → wpAny (model X.prog X.w) X.A (f (.int i t)) Q E s) :
    UnR X f (rU fun i => .int (g i)) := by
  intro pins s σ H x v Q I rx h
  obtain ⟨i, rfl, q⟩ := h
  obtain ⟨t, rfl⟩ := rx
  exact rule i t s _ _ ⟨.int (g i), H, I.tok _, ⟨_, rfl⟩, q⟩
theorem un_neg : UnR X (unaryOp .USub) (rU fun i => .int (-i)) := unI fun _ _ _ _ _ q => neg_int q
end

def scal : V → V → Bool
  | .non, .non => true | .non, .int _ => true | .int _, .non => true | .non, .bl _ => true | .bl _, .non => true | .non, .str _ => true | .str _, .non => true
  | .int _, .int _ => true | .bl _, .bl _ => true | .str _, .str _ => true | .byt _, .byt _ => true
  | .int _, .str _ => true | .str _, .int _ => true | .bl _, .str _ => true | .str _, .bl _ => true
  | _, _ => false
def rEq : R2 := fun x y H Q => scal x y = true ∧ Q (.bl (decide (x = y))) H
def rNe : R2 := fun x y H Q => scal x y = true ∧ Q (.bl (!decide (x = y))) H

theorem dec_int {i j : Int} : decide (V.int i = V.int j) = (i == j) := by
  rw [Bool.eq_iff_iff]
  simp
theorem dec_bl {i j : Bool} : decide (V.bl i = V.bl j) = (i == j) := by
  rw [Bool.eq_iff_iff]
  simp
theorem dec_str {i j : Str} : decide (V.str i = V.str j) = (i == j) := by
  rw [Bool.eq_iff_iff]
  simp
theorem dec_byt {i j : Array UInt8} : decide (V.byt i = V.byt j) = (i.toList == j.toList) := by
  rw [Bool.eq_iff_iff]
  cases i
  cases j
  simp

section
variable {X : Cx} {a b c : Expr} {ta tb tc : TE} {pos : Pos}
theorem fin_bl {pins : List (Addr × Obj)} {σ : St} {H : Hp} {s : Shared} {Q : VK} {k k' : Bool} (I : Inv X pins σ H s) (q : Q (.bl k) H) (e : k = k') : EP X pins σ Q (.bool k') s := by
  subst e
  exact ⟨.bl k, H, I, rfl, q⟩
theorem op_eq : OpR X (compareOp .Eq) rEq := by
  intro pins s σ H x y v u Q I rx ry h
  obtain ⟨hs, q⟩ := h
  cases x with
  | non =>
    cases rx
    cases y with
    | non => cases ry; exact PySem.EqNone.eq_none_none (fin_bl I q (by simp))
    | bl j => cases ry; exact PySem.EqNone.eq_none_bool (fin_bl I q (by simp))
    | int j => obtain ⟨t', rfl⟩ := ry; exact PySem.EqNone.eq_none_int (fin_bl I q (by simp))
    | str j => obtain ⟨t', rfl⟩ := ry; exact PySem.EqNone.eq_none_str (fin_bl I q (by simp))
    | _ => exact absurd (show false = true from hs) Bool.false_ne_true
  | bl i =>
    cases rx
    cases y with
    | non => cases ry; exact PySem.EqNone.eq_bool_none (fin_bl I q (by simp))
    | bl j => cases ry; exact eq_bool (fin_bl I q dec_bl)
    | str j => obtain ⟨t', rfl⟩ := ry; exact PySem.EqMixed.eq_bool_str (fin_bl I q (by simp))
    | _ => exact absurd (show false = true from hs) Bool.false_ne_true
  | int i =>
    obtain ⟨t, rfl⟩ := rx
    cases y with
    | non => cases ry; exact PySem.EqNone.eq_int_none (fin_bl I q (by simp))
    | int j => obtain ⟨t', rfl⟩ := ry; exact eq_int (fin_bl I q dec_int)
    | str j => obtain ⟨t', rfl⟩ := ry; exact PySem.EqMixed.eq_int_str (fin_bl I q (by simp))
    | _ => exact absurd (show false = true from hs) Bool.false_ne_true
  | str i =>
    obtain ⟨t, rfl⟩ := rx
    cases y with
    | non => cases ry; exact PySem.EqNone.eq_str_none (fin_bl I q (by simp))
    | bl j => cases ry; exact PySem.EqMixed.eq_str_bool (fin_bl I q (by simp))
    | int j => obtain ⟨t', rfl⟩ := ry; exact PySem.EqMixed.eq_str_int (fin_bl I q (by simp))
    | str j => obtain ⟨t', rfl⟩ := ry; exact eq_str (fin_bl I q dec_str)
    | _ => exact absurd (show false = true from hs) Bool.false_ne_true
  | byt i =>
    obtain ⟨t, rfl⟩ := rx
    cases y with
    | byt j => obtain ⟨t', rfl⟩ := ry; exact PySem.W.eq_bytes (fin_bl I q dec_byt)
    | _ => exact absurd (show false = true from hs) Bool.false_ne_true
  | _ => cases y <;> exact absurd (show false = true from hs) Bool.false_ne_true
theorem op_ne : OpR X (compareOp .NotEq) rNe := by
  intro pins s σ H x y v u Q I rx ry h
  obtain ⟨hs, q⟩ := h
  cases x with
  | non =>
    cases rx
    cases y with
    | non => cases ry; exact PySem.EqNone.ne_none_none (fin_bl I q (by simp))
    | bl j => cases ry; exact PySem.EqNone.ne_none_bool (fin_bl I q (by simp))
    | int j => obtain ⟨t', rfl⟩ := ry; exact PySem.EqNone.ne_none_int (fin_bl I q (by simp))
    | str j => obtain ⟨t', rfl⟩ := ry; exact PySem.EqNone.ne_none_str (fin_bl I q (by simp))
    | _ => exact absurd (show false = true from hs) Bool.false_ne_true
  | bl i =>
    cases rx
    cases y with
    | non => cases ry; exact PySem.EqNone.ne_bool_none (fin_bl I q (by simp))
    | bl j => cases ry; exact ne_bool (fin_bl I q (congrArg not dec_bl))
    | str j => obtain ⟨t', rfl⟩ := ry; exact PySem.EqMixed.ne_bool_str (fin_bl I q (by simp))
    | _ => exact absurd (show false = true from hs) Bool.false_ne_true
  | int i =>
    obtain ⟨t, rfl⟩ := rx
    cases y with
    | non => cases ry; exact PySem.EqNone.ne_int_none (fin_bl I q (by simp))
    | int j => obtain ⟨t', rfl⟩ := ry; exact ne_int (fin_bl I q (congrArg not dec_int))
    | str j => obtain ⟨t', rfl⟩ := ry; exact PySem.EqMixed.ne_int_str (fin_bl I q (by simp))
    | _ => exact absurd (show false = true from hs) Bool.false_ne_true
  | str i =>
    obtain ⟨t, rfl⟩ := rx
    cases y with
    | non => cases ry; exact PySem.EqNone.ne_str_none (fin_bl I q (by simp))
    | bl j => cases ry; exact PySem.EqMixed.ne_str_bool (fin_bl I q (by simp))
    | int j => obtain ⟨t', rfl⟩ := ry; exact PySem.EqMixed.ne_str_int (fin_bl I q (by simp))
    | str j => obtain ⟨t', rfl⟩ := ry; exact ne_str (fin_bl I q (congrArg not dec_str))
    | _ => exact absurd (show false = true from hs) Bool.false_ne_true
  | byt i =>
    obtain ⟨t, rfl⟩ := rx
    cases y with
    | byt j => obtain ⟨t', rfl⟩ := ry; exact PySem.W.ne_bytes (fin_bl I q (congrArg not dec_byt))
    | _ => exact absurd (show false = true from hs) Bool.false_ne_true
  | _ => cases y <;> exact absurd (show false = true from hs) Bool.false_ne_true

theorem op_lt : OpR X (compareOp .Lt) (rI0 fun i j => .bl (decide (i < j))) := opB0 fun _ _ _ _ _ _ _ q => lt_int q
theorem op_le : OpR X (compareOp .LtE) (rI0 fun i j => .bl (decide (i ≤ j))) := opB0 fun _ _ _ _ _ _ _ q => le_int q
theorem op_gt : OpR X (compareOp .Gt) (rI0 fun i j => .bl (decide (j < i))) := opB0 fun _ _ _ _ _ _ _ q => gt_int q
theorem op_ge : OpR X (compareOp .GtE) (rI0 fun i j => .bl (decide (j ≤ i))) := opB0 fun _ _ _ _ _ _ _ q => ge_int q
theorem OpR.or {f : Value → Value → Sem Value} {r r' : R2} (h : OpR X f r) (h' : OpR X f r') : OpR X f (fun x y H Q => r x y H Q ∨ r' x y H Q) := by
  intro pins s σ H x y v u Q I rx ry q
  rcases q with q | q
  · exact h pins s σ H x y v u Q I rx ry q
  · exact h' pins s σ H x y v u Q I rx ry q

theorem nomark (b : Expr) {op : CmpOp} (h : op ≠ .In := by decide) (h2 : op ≠ .NotIn := by decide) : behindInMarks op b = false := by
  have e1 : (op == CmpOp.In) = false := by cases op <;> first | rfl | exact absurd rfl h
  have e2 : (op == CmpOp.NotIn) = false := by cases op <;> first | rfl | exact absurd rfl h2
  cases b <;> simp [behindInMarks, e1, e2]
theorem pe_cmpR {op : CmpOp} {r : R2} (ho : OpR X (compareOp op) r) (ha : PE X a ta) (hb : PE X b tb) (hm : behindInMarks op b = false) : PE X (.Compare a [op] [b] pos) (tOp r ta tb) := by
  intro pins s σ H Q I h
  exact wpAny_Compare1 (binT ha hb I h fun v u s2 x y H2 I2 rx ry q => ho pins s2 σ H2 x y v u Q I2 rx ry q) hm
def tTest (t : TE) : TT := fun σ H Q => t σ H fun x H' => ∃ k, x = .bl k ∧ Q k H'
theorem pt_cmpR {op : CmpOp} {r : R2} (ho : OpR X (compareOp op) r) (ha : PE X a ta) (hb : PE X b tb) (hm : behindInMarks op b = false) : PT X (.Compare a [op] [b] pos) (tTest (tOp r ta tb)) := by
  intro pins s σ H Q I h
  refine wpAny_isTrue_Compare1 (thn (ha pins s σ H _ I h) fun v s1 ⟨x, H1, I1, r1, q1⟩ => thn (hb pins s1 σ H1 _ I1 q1) fun u s2 ⟨y, H2, I2, r2, q2⟩ =>
    thn (ho pins s2 σ H2 x y v u _ I2 r1 r2 q2) fun c s3 ⟨z, H3, I3, r3, k, e, q3⟩ => ?_) hm
  subst e
  cases r3
  exact wpAny_truthy_bool ⟨H3, I3, q3⟩
def TruV (K : PySem.W.Frag) (x : V) (H : Hp) (k : Bool) : Prop :=
  match x with
  | .non => k = false
  | .bl b => k = b
  | .int i => k = (i != 0)
  | .str y => y.length ≤ sizeLine ∧ k = ((y.length : Int) != 0)
  | .byt y => y.size ≤ sizeLine ∧ k = ((y.size : Int) != 0)
  | .ref p => (∃ xs, SqL K H p xs ∧ k = !xs.isEmpty) ∨ (∃ xs, SqT K H p xs ∧ k = !xs.isEmpty) ∨ ∃ kvs, H p = some (.dK kvs) ∧ k = !kvs.isEmpty
  | _ => False
theorem isEmpty_kv {κ : Type} {kvs : List (κ × V)} {vs : List (κ × Value)} (r : KV kvs vs) : (!vs.isEmpty) = !kvs.isEmpty := by
  cases r <;> rfl
theorem isEmpty_of {xs : List V} {its : List Value} (r : Vals xs its) : (!its.toArray.isEmpty) = !xs.isEmpty := by
  cases r <;> simp
theorem line63 : (sizeLine : Nat) < 2 ^ 63 := by rw [sizeLine_eq]; decide
theorem tru_ok : TruR X (fun x H Q => ∃ k, TruV X.K x H k ∧ Q k H) := by
  intro pins s σ H x v Q I rx h
  obtain ⟨k, e, q⟩ := h
  have hl := line63
  have hs : sizeLine = 16777216 := sizeLine_eq
  cases x with
  | non =>
    cases rx
    have e' : k = false := e
    subst e'
    exact truthy_none ⟨H, I, q⟩
  | bl b =>
    cases rx
    have e' : k = b := e
    subst e'
    exact wpAny_truthy_bool ⟨H, I, q⟩
  | int i =>
    obtain ⟨t, rfl⟩ := rx
    have e' : k = (i != 0) := e
    subst e'
    exact PySem.P.truthy_int ⟨H, I, q⟩
  | str y =>
    obtain ⟨t, rfl⟩ := rx
    obtain ⟨hy, e'⟩ : y.length ≤ sizeLine ∧ k = ((y.length : Int) != 0) := e
    subst e'
    exact PySem.P.truthy_str (by omega) ⟨H, I.tok _, q⟩
  | byt y =>
    obtain ⟨t, rfl⟩ := rx
    obtain ⟨hy, e'⟩ : y.size ≤ sizeLine ∧ k = ((y.size : Int) != 0) := e
    subst e'
    exact PySem.W.truthy_bytes (by omega) ⟨H, I.tok _, q⟩
  | ref p =>
    cases rx
    have e' : (∃ xs, SqL X.K H p xs ∧ k = !xs.isEmpty) ∨ (∃ xs, SqT X.K H p xs ∧ k = !xs.isEmpty) ∨ ∃ kvs, H p = some (.dK kvs) ∧ k = !kvs.isEmpty := e
    rcases e' with ⟨xs, hx, e'⟩ | ⟨xs, hx, e'⟩ | ⟨kvs, hx, e'⟩
    · subst e'
      obtain ⟨its, r, pl, hz⟩ := I.list hx
      have hlen := r.length
      exact wpAny_truthy_list pl.isList (by simp only [List.size_toArray]; omega) ⟨H, I.tok _, by rw [isEmpty_of r]; exact q⟩
    · subst e'
      obtain ⟨its, r, pl, hz⟩ := I.tuple hx
      have hlen := r.length
      exact truthy_tuple pl (by simp only [List.size_toArray]; omega) ⟨H, I.tok _, by rw [isEmpty_of r]; exact q⟩
    · subst e'
      obtain ⟨hz, hS, vs, r, m⟩ : kvs.length ≤ sizeLine ∧ (p == sysModules) = false ∧ ∃ vs, KV kvs vs ∧ s.heap.DictOf (mixKind X.prog X.w) p vs := I.hok p _ hx
      have hlen : kvs.length = vs.length := Paired.length r
      exact wpAny_truthy_dict hS m (by omega) ⟨H, I.tok _, by rw [isEmpty_kv r]; exact q⟩
  | _ => exact (show False from e).elim
theorem pt_truth (ha : PE X a ta) (he : ∀ whole, isTrue a X.env whole = (do let v ← whole; standAt a.pos; holding [v] (truthy v))) :
    PT X a (fun σ H Q => ta σ H fun x H' => ∃ k, TruV X.K x H' k ∧ Q k H') := by
  intro pins s σ H Q I h
  exact isTrue_plain (thn (ha pins s σ H _ I h) fun v s1 ⟨x, H1, I1, r1, q1⟩ => tru_ok pins s1 σ H1 x v Q I1 r1 q1) (he _)

theorem vals1 {x : V} {us : List Value} (r : Vals [x] us) : ∃ u, us = [u] ∧ RelV x u := by
  cases r with
  | cons r1 r2 => cases r2; exact ⟨_, rfl, r1⟩
theorem vals2 {x y : V} {us : List Value} (r : Vals [x, y] us) : ∃ u w', us = [u, w'] ∧ RelV x u ∧ RelV y w' := by
  cases r with
  | cons r1 r2 =>
    cases r2 with
    | cons r3 r4 => cases r4; exact ⟨_, _, rfl, r1, r3⟩
theorem call_abs : CallR X (.builtin "abs") (fun xs H Q => ∃ i, xs = [.int i] ∧ Q (.int (if i < 0 then -i else i)) H) := by
  intro pins s σ H xs us Q I r h
  obtain ⟨i, rfl, q⟩ := h
  obtain ⟨u, rfl, t, rfl⟩ := vals1 r
  exact call_abs_int fun u tk => ⟨.int (if i < 0 then -i else i), H, I.tok _, ⟨_, rfl⟩, q⟩
theorem call_int1 : CallR X (.type "int") (fun xs H Q => (∃ i, xs = [.int i] ∧ Q (.int i) H) ∨ ∃ k, xs = [.bl k] ∧ Q (.int (if k then 1 else 0)) H) := by
  intro pins s σ H xs us Q I r h
  rcases h with ⟨i, rfl, q⟩ | ⟨k, rfl, q⟩
  · obtain ⟨u, rfl, t, rfl⟩ := vals1 r
    exact call_int_int ⟨.int i, H, I, ⟨_, rfl⟩, q⟩
  · obtain ⟨u, rfl, r1⟩ := vals1 r
    cases r1
    exact call_int_bool ⟨.int (if k then 1 else 0), H, I.tok _, ⟨_, rfl⟩, q⟩
theorem call_str_int : CallR X (.type "str") (fun xs H Q => ∃ i, xs = [.int i] ∧ i.natAbs.log2 < 1920 ∧ Q (.str (toString i)) H) := by
  intro pins s σ H xs us Q I r h
  obtain ⟨i, rfl, hz, q⟩ := h
  obtain ⟨u, rfl, t, rfl⟩ := vals1 r
  exact PySem.P.str_of_int hz ⟨.str _, H, I.tok _, ⟨_, rfl⟩, q⟩
end
end L2

namespace L2
open PySem PySem.Spec PyProof.Rows

structure ObjM (h : Heap) (x dx C : Addr) (mA : Str → Option Value) : Prop where
  obj : h.get? x = some (PySem.W.instObj C dx)
  ns : h.Ns1 dx mA
  ne : dx ≠ x

theorem lookIn_ns {h : Heap} {dx : Addr} {mA : Str → Option Value} (n : h.Ns1 dx mA) : ∃ od, h.get? dx = some od ∧ ∀ name, PySem.W.lookIn name od = some (mA name) := by
  obtain ⟨o, es, ep, ho, hd, hk, _, hm⟩ := n
  refine ⟨o, ho, fun name => ?_⟩
  have e := hm name
  unfold nsFind findBy at e
  rw [← Array.find?_toList] at e
  unfold PySem.W.lookIn
  rw [hd]
  dsimp only
  split
  · rename_i y q
    rw [q] at e
    exact congrArg some e
  · rename_i q
    rw [q] at e
    have a : es.toList.any (·.refKey) = false := by
      rw [List.any_eq_false]
      intro y hy
      obtain ⟨z, t, hkey⟩ := hk y (Array.mem_toList_iff.mp hy)
      simp [DictEntry.refKey, hkey]
    have a' : ¬ es.toList.any (·.refKey) = true := by rw [a]; exact Bool.false_ne_true
    rw [if_neg a']
    exact congrArg some e

theorem ObjM.look {h : Heap} {x dx C : Addr} {mA : Str → Option Value} (I : ObjM h x dx C mA) : ∃ od, PySem.W.InstAt h x (PySem.W.instObj C dx) C (some od) ∧ ∀ name, PySem.W.lookIn name od = some (mA name) :=
  let ⟨od, ho, hl⟩ := lookIn_ns I.ns
  ⟨od, ⟨I.obj, rfl, rfl, ho⟩, hl⟩

section
variable {prog : Program} {w : World} {A : Around} {E : Value → Shared → Prop} {s : Shared} {K : PySem.W.Frag} {x dx C f : Addr} {mA : Str → Option Value} {name : Str} {v : Value}

theorem get_map {expr : Bool} {Q : Value → Shared → Prop} (X : K.In s.heap) (I : ObjM s.heap x dx C mA) (hg : PySem.W.plainGet K C name = true) (hh : PySem.W.hasDictIn K C = true)
    (ha : PySem.W.findIn K (.ref C) name = some none) (hv : mA name = some v) (hv' : PySem.W.handedIn v = true) (h : Q v { s with toks := s.toks + 1 }) :
    wpAny (model prog w) A (getAttr (.ref x) name expr) Q E s := by
  obtain ⟨od, J, hl⟩ := I.look
  exact PySem.W.get_value X J (PySem.W.plainGet_of hg).1 (PySem.W.findObj_own hh ha rfl (by rw [hl, hv])) hv' h

theorem get_meth {pl : Sem Bool} {Q : Value × List Value → Shared → Prop} (X : K.In s.heap) (I : ObjM s.heap x dx C mA) (hg : PySem.W.plainGet K C name = true)
    (hf : PySem.W.findIn K (.ref C) name = some (some (.ref f))) (ht : PySem.W.isFn K (.ref f) = true) (hv : mA name = none) (h : Q (.ref f, [.ref x]) s) :
    wpAny (model prog w) A (getMethod (.ref x) name pl) Q E s := by
  obtain ⟨od, J, hl⟩ := I.look
  exact PySem.W.method_fn X J (PySem.W.plainGet_of hg).1 (PySem.W.plainGet_of hg).2 hf (beq_iff_eq.mp ht) (by show (PySem.W.lookIn name od).map (·.isSome) = some false; rw [hl, hv]; rfl) h

theorem set_map {ns : List Str} {Q : Unit → Shared → Prop} (X : K.In s.heap) (I : ObjM s.heap x dx C mA)
    (hs : PySem.W.findIn K (.ref C) "__setattr__" = some (some (.builtin "object.__setattr__"))) (hp : PySem.W.plainOver K C = true) (ht : PySem.W.takerIn K C name = some none) (hh : PySem.W.hasDictIn K C = true)
    (hw : PySem.Within mA ns) (hsz : ns.length ≤ sizeLine)
    (h : ∀ h', ObjM h' x dx C (fun y => if y = name then some v else mA y) → Heap.SameBut dx s.heap h' → Q () { s with heap := h', toks := s.toks + 2 }) :
    wpAny (model prog w) A (setAttr (.ref x) name v) Q E s := by
  obtain ⟨od, J, hl⟩ := I.look
  refine PySem.W.set_plain X J hs (PySem.W.osa_open (s := { s with toks := s.toks + 1 }) (r := none) X J hp ht fun b => ?_)
  obtain ⟨cd, hc, hd'⟩ := PySem.W.any_some hh
  have hx : s.heap.get? x = some ⟨.ref C, some dx, .plain, #[]⟩ := I.obj
  refine wpAny_bind (wpAny_pure (wpAny_bind (wpAny_bind (wpAny_loadPart hx (wpAny_bind (PySem.W.Looks.here (s := { s with toks := s.toks + 1 }) (PySem.W.looks_clsIn X hc) ?_))))))
  rw [hd']
  refine wpAny_pure (a := some dx) (wpAny_bind (wpAny_pure (wpAny_bind ?_)))
  refine wpAny_nsSet1 (s := { s with toks := s.toks + 1 }) I.ns fun h' hn2 hs2 => ?_
  obtain ⟨oD, esD, epD, hoD, hdD, hcD⟩ := hn2.count (PySem.Within.cons name v hw)
  refine wpAny_bind (wpAny_lookBehind hoD (by rw [hdD]; exact pastItsLine_dict (Nat.le_trans hcD (by rw [List.length_cons]; omega))) ?_)
  exact wpAny_pure (h _ ⟨(hs2.2 _ (Ne.symm I.ne)).trans I.obj, hn2, I.ne⟩ hs2)

theorem make_map {R : Result → Shared → Prop} {vs : List Value} {kw : List (Str × Value)} (X : K.In s.heap) (hm : PySem.W.makesIn K C = true)
    (hi : PySem.W.findIn K (.ref C) "__init__" = some (some (.ref f))) (hf : PySem.W.typeIn K (.ref f) = some (.type "function"))
    (h : codeAny (model prog w) (A.under (.builtin "type.__call__" ⟨.ref C :: vs, kw⟩)) (.call (.ref f) ⟨.ref (s.heap.objs.size + 1) :: vs, kw⟩) (PySem.W.InitBack (s.heap.objs.size + 1) R)
      { s with heap := (s.heap.push PySem.W.emptyDict).push (PySem.W.instObj C s.heap.objs.size) }) :
    codeAny (model prog w) A (.call (.ref C) ⟨vs, kw⟩) R s := by
  obtain ⟨hh, g, d, t, os⟩ := s
  exact PySem.W.make_core (PySem.W.makes_of X hm) (PySem.W.looks_findIn X hi) (fun self => PySem.W.bind_fn X self hf) (.inl rfl) h
end

def putF (f : Str) (v : V) : List (Str × V) → List (Str × V)
  | [] => [(f, v)]
  | (g, x) :: r => if g = f then (g, v) :: r else (g, x) :: putF f v r
theorem lookup_putF (f g : Str) (v : V) : ∀ fs : List (Str × V), (putF f v fs).lookup g = if g = f then some v else fs.lookup g
  | [] => by
    show List.lookup g [(f, v)] = _
    by_cases h : g = f
    · have hb : (g == f) = true := beq_iff_eq.mpr h
      simp only [List.lookup, hb, if_pos h]
    · have hb : (g == f) = false := beq_eq_false_iff_ne.mpr h
      simp only [List.lookup, hb, if_neg h]
  | (k, x) :: r => by
    have ih := lookup_putF f g v r
    rw [show putF f v ((k, x) :: r) = (if k = f then (k, v) :: r else (k, x) :: putF f v r) from rfl]
    by_cases hk : k = f
    · rw [if_pos hk]
      by_cases h : g = k
      · have hb : (g == k) = true := beq_iff_eq.mpr h
        simp only [List.lookup, hb, if_pos (h.trans hk)]
      · have hb : (g == k) = false := beq_eq_false_iff_ne.mpr h
        simp only [List.lookup, hb, if_neg (fun e : g = f => h (e.trans hk.symm))]
    · rw [if_neg hk]
      by_cases h : g = k
      · have hb : (g == k) = true := beq_iff_eq.mpr h
        simp only [List.lookup, hb, if_neg (fun e : g = f => hk (h.symm.trans e))]
      · have hb : (g == k) = false := beq_eq_false_iff_ne.mpr h
        simp only [List.lookup, hb]
        exact ih
theorem keys_putF (f : Str) (v : V) : ∀ fs : List (Str × V), f ∈ (putF f v fs).map (·.1) ∧ ∀ g, g ∈ fs.map (·.1) → g ∈ (putF f v fs).map (·.1)
  | [] => ⟨by simp [putF], fun g h => by simp at h⟩
  | (k, x) :: r => by
    obtain ⟨i1, i2⟩ := keys_putF f v r
    rw [show putF f v ((k, x) :: r) = (if k = f then (k, v) :: r else (k, x) :: putF f v r) from rfl]
    by_cases hk : k = f
    · rw [if_pos hk]
      subst hk
      exact ⟨by simp, fun g h => by simpa using h⟩
    · rw [if_neg hk]
      refine ⟨?_, fun g h => ?_⟩
      · rw [List.map_cons]
        exact List.mem_cons_of_mem _ i1
      · rw [List.map_cons] at h ⊢
        rcases List.mem_cons.mp h with e | e
        · exact List.mem_cons.mpr (.inl e)
        · exact List.mem_cons_of_mem _ (i2 g e)
theorem length_putF (f : Str) (v : V) : ∀ fs : List (Str × V), (putF f v fs).length ≤ fs.length + 1
  | [] => by simp [putF]
  | (k, x) :: r => by
    have ih := length_putF f v r
    rw [show putF f v ((k, x) :: r) = (if k = f then (k, v) :: r else (k, x) :: putF f v r) from rfl]
    by_cases hk : k = f
    · rw [if_pos hk, List.length_cons, List.length_cons]; omega
    · rw [if_neg hk, List.length_cons, List.length_cons]; omega

theorem RelO.some_of {v : V} {o : Option Value} (r : RelO (some v) o) : ∃ u, o = some u ∧ RelV v u := by
  cases o with
  | none => exact (show False from r).elim
  | some u => exact ⟨u, rfl, r⟩
theorem RelO.none_of {o : Option Value} (r : RelO none o) : o = none := by
  cases o with
  | none => rfl
  | some u => exact (show False from r).elim
theorem handed_of {v : V} {u : Value} (r : RelV v u) : PySem.W.handedIn u = true := by
  cases v with
  | non => cases (show u = Value.none from r); rfl
  | bl b => cases (show u = Value.bool b from r); rfl
  | int i => obtain ⟨t, e⟩ := (show ∃ t, u = Value.int i t from r); cases e; rfl
  | str x => obtain ⟨t, e⟩ := (show ∃ t, u = Value.str x t from r); cases e; rfl
  | byt b => obtain ⟨t, e⟩ := (show ∃ t, u = Value.bytes b t from r); cases e; rfl
  | flt b => obtain ⟨t, e⟩ := (show ∃ t, u = Value.float b t from r); cases e; rfl
  | ref a => cases (show u = Value.ref a from r); rfl
  | ty n => cases (show u = Value.type n from r); rfl

section
variable {P : Program} {w : World} {H H' : Hp} {h h' : Heap} {a C dx : Addr} {fs fs' : List (Str × V)}
theorem ins_get (hok : HOk P w H h) (e : H a = some (.ins C dx fs)) : ∃ mA, ObjM h a dx C mA ∧ (∀ f, RelO (fs.lookup f) (mA f)) ∧ PySem.Within mA (fs.map (·.1)) ∧ fs.length ≤ 1000 ∧ H dx = some (.own a) := by
  obtain ⟨d, z, ne, ob, mA, n, r, q⟩ := (show ObjOk P w H h a (.ins C dx fs) from hok a _ e)
  exact ⟨mA, ⟨ob, n, ne⟩, r, q, z, d⟩
end

structure Cls (K : PySem.W.Frag) (C : Addr) : Prop where
  pg : PySem.W.plainGet K C Str.empty = true
  hd : PySem.W.hasDictIn K C = true
  po : PySem.W.plainOver K C = true
  sa : PySem.W.findIn K (.ref C) "__setattr__" = some (some (.builtin "object.__setattr__"))
theorem Cls.get {K : PySem.W.Frag} {C : Addr} (c : Cls K C) (f : Str) : PySem.W.plainGet K C f = true := c.pg
def NoAttr (K : PySem.W.Frag) (C : Addr) (f : Str) : Prop := PySem.W.findIn K (.ref C) f = some none
theorem NoAttr.taker {K : PySem.W.Frag} {C : Addr} {f : Str} (n : NoAttr K C f) : PySem.W.takerIn K C f = some none := by
  unfold PySem.W.takerIn
  rw [show PySem.W.findIn K (.ref C) f = some none from n]
  rfl
structure Con (K : PySem.W.Frag) (C : Addr) (f : Str) (v : V) (u : Value) : Prop where
  at_ : PySem.W.findIn K (.ref C) f = some (some u)
  rel : RelV v u
  get : PySem.W.specialIn K u "__get__" = some none
  cp : PySem.W.copiedNames.contains f = false
structure Meth (K : PySem.W.Frag) (C : Addr) (m : Str) (f : Addr) : Prop where
  at_ : PySem.W.findIn K (.ref C) m = some (some (.ref f))
  fn : PySem.W.isFn K (.ref f) = true
  kp : PySem.W.keepIn K (.ref f) = true

section
variable {X : Cx} {pins : List (Addr × Obj)} {σ : St} {H : Hp} {s : Shared} {a C dx : Addr} {fs : List (Str × V)} {f : Str} {v : V} {A : Around} {E : Value → Shared → Prop}

theorem getattr_ok {b : Bool} {Q : Value → Shared → Prop} (I : Inv X pins σ H s) (e : H a = some (.ins C dx fs)) (c : Cls X.K C) (n : NoAttr X.K C f) (l : fs.lookup f = some v)
    (h : ∀ u s', Inv X pins σ H s' → RelV v u → Q u s') : wpAny (model X.prog X.w) A (getAttr (.ref a) f b) Q E s := by
  obtain ⟨mA, O, r, _, _, _⟩ := ins_get I.hok e
  obtain ⟨u, hu, ru⟩ := RelO.some_of (v := v) (o := mA f) (by rw [← l]; exact r f)
  exact get_map I.kIn O (c.get f) c.hd n hu (handed_of ru) (h u _ (I.tok _) ru)

theorem getmeth_ok {m : Str} {g : Addr} {pl : Sem Bool} {Q : Value × List Value → Shared → Prop} (I : Inv X pins σ H s) (e : H a = some (.ins C dx fs)) (c : Cls X.K C) (k : Meth X.K C m g) (l : fs.lookup m = none)
    (h : Q (.ref g, [.ref a]) s) : wpAny (model X.prog X.w) A (getMethod (.ref a) m pl) Q E s := by
  obtain ⟨mA, O, r, _, _, _⟩ := ins_get I.hok e
  have hn : mA m = none := RelO.none_of (by rw [← l]; exact r m)
  exact get_meth I.kIn O (c.get m) k.at_ k.fn hn h

theorem setattr_ok {y : V} {u : Value} {Q : Unit → Shared → Prop} (I : Inv X pins σ H s) (e : H a = some (.ins C dx fs)) (c : Cls X.K C) (n : NoAttr X.K C f) (hl : fs.length < 1000) (ry : RelV y u)
    (h : ∀ s', Inv X pins σ (upd H a (.ins C dx (putF f y fs))) s' → Q () s') : wpAny (model X.prog X.w) A (setAttr (.ref a) f u) Q E s := by
  obtain ⟨mA, O, r, wi, _, ho⟩ := ins_get I.hok e
  have hz : (fs.map (·.1)).length ≤ sizeLine := by rw [List.length_map, sizeLine_eq]; omega
  refine set_map I.kIn O c.sa c.po n.taker c.hd wi hz fun h' O' sb => h _ ?_
  have hd : ∃ o, h'.get? dx = some o := let ⟨o, _, _, e', _⟩ := O'.ns; ⟨o, e'⟩
  refine I.write (x := a) (e := dx) (by rw [e]; exact True.intro) (.inr ho) (fun b q hb z => (sb.2 b hb).trans z) hd ?_
  refine ⟨by rw [upd_ne O.ne]; exact ho, ?_, O.ne, O'.obj, _, O'.ns, fun g => ?_, fun g hg => ?_⟩
  · have := length_putF f y fs; omega
  · show RelO ((putF f y fs).lookup g) (if g = f then some u else mA g)
    rw [lookup_putF]
    by_cases q : g = f
    · rw [if_pos q, if_pos q]; exact ry
    · rw [if_neg q, if_neg q]; exact r g
  · by_cases q : g = f
    · rw [q]; exact (keys_putF f y fs).1
    · refine (keys_putF f y fs).2 g (wi g fun z => hg ?_)
      show (if g = f then some u else mA g) = none
      rw [if_neg q]; exact z

theorem Inv.made (I : Inv X pins σ H s) : Inv X pins σ (upd (upd H s.heap.objs.size (.own (s.heap.objs.size + 1))) (s.heap.objs.size + 1) (.ins C s.heap.objs.size []))
    { s with heap := (s.heap.push PySem.W.emptyDict).push (PySem.W.instObj C s.heap.objs.size) } := by
  have e1 : (s.heap.push PySem.W.emptyDict).get? s.heap.objs.size = some PySem.W.emptyDict := Heap.get?_push_size s.heap rfl
  have e2 : ((s.heap.push PySem.W.emptyDict).push (PySem.W.instObj C s.heap.objs.size)).get? (s.heap.objs.size + 1) = some (PySem.W.instObj C s.heap.objs.size) := by
    have := Heap.get?_push_size (s.heap.push PySem.W.emptyDict) (o := PySem.W.instObj C s.heap.objs.size) rfl
    rwa [Heap.size_push] at this
  have e3 : (s.heap.push PySem.W.emptyDict).Ns s.heap.objs.size (fun _ => none) := ⟨PySem.W.emptyDict, #[], _, e1, rfl, (fun e he => absurd he (by simp)), fun _ => rfl⟩
  have I1 := I.laid (a := s.heap.objs.size) (o := .own (s.heap.objs.size + 1)) (h' := s.heap.push PySem.W.emptyDict) (t' := s.toks) (fun b u q => Heap.get?_push_of_some _ q) (Nat.le_refl _) ⟨_, e1⟩
  refine I1.laid (a := s.heap.objs.size + 1) (o := .ins C s.heap.objs.size []) (t' := s.toks) (fun b u q => Heap.get?_push_of_some _ q) (Nat.le_of_eq (Heap.size_push _ _)) ?_
  have ne : s.heap.objs.size ≠ s.heap.objs.size + 1 := Nat.ne_of_lt (Nat.lt_succ_self _)
  refine ⟨by rw [upd_ne ne, upd_same], Nat.zero_le _, ne, e2, fun _ => none, (Heap.Ns1.of_empty e3).at fun o q => Heap.get?_push_of_some _ q, fun _ => True.intro, fun y hy => absurd rfl hy⟩

theorem attr_of {prog : Program} {w : World} {env : Env} {e : Expr} {f : Str} {pos : Pos} {s : Shared} {Q : Value → Shared → Prop} (hb : attributeBase e f env (eval e env) = eval e env)
    (h : wpAny (model prog w) A (eval e env) (fun o s₁ => wpAny (model prog w) A (getAttr o f true) Q E s₁) E s) : wpAny (model prog w) A (eval (.Attribute e f pos) env) Q E s :=
  Attribute_any_ h (by rw [arm_eval_Attribute, hb])
end

def tFld (K : PySem.W.Frag) (ta : TE) (f : Str) : TE := fun σ H Q => ta σ H fun x H1 => ∃ a C dx fs v, x = .ref a ∧ H1 a = some (.ins C dx fs) ∧ Cls K C ∧ NoAttr K C f ∧ fs.lookup f = some v ∧ Q v H1
def sFld (K : PySem.W.Frag) (ta tv : TE) (f : Str) : TS := fun D σ H => tv σ H fun y H1 => ta σ H1 fun x H2 => ∃ a C dx fs, x = .ref a ∧ H2 a = some (.ins C dx fs) ∧ Cls K C ∧ NoAttr K C f ∧ fs.length < 1000 ∧
  D.nx σ (upd H2 a (.ins C dx (putF f y fs)))
section
variable {X : Cx} {o e value : Expr} {f : Str} {pos pos' tpos : Pos} {ta tv : TE}
theorem pe_fld (he : PE X e ta) (hb : attributeBase e f X.env (eval e X.env) = eval e X.env) : PE X (.Attribute e f pos) (tFld X.K ta f) := by
  intro pins s σ H Q I h
  refine attr_of hb (thn (he pins s σ H _ I h) fun u s1 ⟨x, H1, I1, rx, a, C, dx, fs, v, ex, ea, c, n, l, q⟩ => ?_)
  subst ex
  obtain rfl : u = Value.ref a := rx
  exact getattr_ok I1 ea c n l fun u' s2 I2 ru => ⟨v, H1, I2, ru, q⟩
theorem ps_fld (ha : PE X o ta) (hv : PE X value tv) (hs : swapsWith value (some (.Attribute o f pos')) pos.line X.env = pure false) : PS X (.Assign [.Attribute o f pos'] value pos) (sFld X.K ta tv f) := by
  intro pins s σ H D I h
  refine plainObj_wpAny_Assign_Attribute (thn (hv pins s σ H _ I h) fun u s1 ⟨y, H1, I1, ry, q⟩ => thn (ha pins s1 σ H1 _ I1 q) fun ov s2 ⟨x, H2, I2, rx, a, C, dx, fs, ex, ea, c, n, l, q2⟩ => ?_) hs
  subst ex
  obtain rfl : ov = Value.ref a := rx
  exact setattr_ok I2 ea c n l ry fun s3 I3 => ⟨σ, _, I3, q2⟩
end

section
variable {X : Cx} {pins : List (Addr × Obj)} {σ : St} {H : Hp} {s : Shared} {A : Around} {E : Value → Shared → Prop} {Q : Value → Shared → Prop} {c : Value} {b : Bool}
inductive TyOf (K : PySem.W.Frag) (H : Hp) : V → Value → Prop where
  | non : TyOf K H .non (.type "NoneType")
  | bl (x : Bool) : TyOf K H (.bl x) (.type "bool")
  | int (i : Int) : TyOf K H (.int i) (.type "int")
  | str (x : Str) : TyOf K H (.str x) (.type "str")
  | flt (x : UInt64) : TyOf K H (.flt x) (.type "float")
  | lst {a : Addr} {xs : List V} (e : H a = some (.lst xs)) : TyOf K H (.ref a) (.type "list")
  | frz {a : Addr} {o : Obj} {xs : List V} (e : H a = some (.frz o (.lst xs))) : TyOf K H (.ref a) (.type "list")
  | tup {a : Addr} {xs : List V} (e : H a = some (.tup xs)) : TyOf K H (.ref a) (.type "tuple")
  | dK {a : Addr} {kvs : List (Key × V)} (e : H a = some (.dK kvs)) : TyOf K H (.ref a) (.type "dict")
  | dT {a : Addr} {kvs : List (List Key × V)} (e : H a = some (.dT kvs)) : TyOf K H (.ref a) (.type "dict")
  | ins {a C dx : Addr} {fs : List (Str × V)} (e : H a = some (.ins C dx fs)) (cl : Cls K C) (ha : PySem.W.findIn K (.ref C) "__class__" = some (some (.builtin "object.__class__")))
      (hn : PySem.W.specialIn K (.builtin "object.__class__") "__get__" = some (some (.builtin "getset_descriptor.__get__"))) (htk : PySem.W.takesIn K (.builtin "object.__class__") = some true)
      (hm : PySem.W.mroIn K C (.type "object") = some true) : TyOf K H (.ref a) (.ref C)
theorem isinst_ok {x : V} {u t : Value} (I : Inv X pins σ H s) (rx : RelV x u) (ty : TyOf X.K H x t) (e : PySem.W.kitOne X.K t c = some b) (h : ∀ tk, Q (.bool b) { s with toks := tk }) :
    wpAny (model X.prog X.w) A (call (.builtin "isinstance") [u, c]) Q E s := by
  cases ty with
  | non => cases (show u = Value.none from rx); exact PySem.W.kia_one PySem.W.kitx_none I.kIn True.intro e (fun z => nomatch z) h
  | bl y => cases (show u = Value.bool y from rx); exact PySem.W.kia_one PySem.W.kitx_bool I.kIn True.intro e (fun z => nomatch z) h
  | int i => obtain ⟨t, q⟩ := (show ∃ t, u = Value.int i t from rx); cases q; exact PySem.W.kia_one PySem.W.kitx_int I.kIn True.intro e (fun z => nomatch z) h
  | str y => obtain ⟨t, q⟩ := (show ∃ t, u = Value.str y t from rx); cases q; exact PySem.W.kia_one PySem.W.kitx_str I.kIn True.intro e (fun z => nomatch z) h
  | flt y => obtain ⟨t, q⟩ := (show ∃ t, u = Value.float y t from rx); cases q; exact PySem.W.kia_one PySem.W.kitx_float I.kIn True.intro e (fun z => nomatch z) h
  | @lst a xs ea =>
    cases (show u = Value.ref a from rx)
    obtain ⟨_, _, n, _, h1⟩ := (show ObjOk X.prog X.w H s.heap a (.lst xs) from I.hok a _ ea)
    exact PySem.W.kia_one PySem.W.kitx_list I.kIn ⟨_, h1, rfl⟩ e (fun z => nomatch z) h
  | @frz a ob xs ea =>
    cases (show u = Value.ref a from rx)
    obtain ⟨_, _, _, n, _, h1⟩ := (show ObjOk X.prog X.w H s.heap a (.frz ob (.lst xs)) from I.hok a _ ea)
    exact PySem.W.kia_one PySem.W.kitx_list I.kIn ⟨_, h1, rfl⟩ e (fun z => nomatch z) h
  | @tup a xs ea =>
    cases (show u = Value.ref a from rx)
    obtain ⟨_, _, _, p⟩ := (show ObjOk X.prog X.w H s.heap a (.tup xs) from I.hok a _ ea)
    obtain ⟨o, h1, h2, _⟩ := p
    exact PySem.W.kia_one PySem.W.kitx_tuple I.kIn ⟨o, h1, h2⟩ e (fun z => nomatch z) h
  | @dK a kvs ea =>
    cases (show u = Value.ref a from rx)
    obtain ⟨_, _, vs, _, p⟩ := (show ObjOk X.prog X.w H s.heap a (.dK kvs) from I.hok a _ ea)
    obtain ⟨o, es, ep, h1, h2, _⟩ := p
    exact PySem.W.kia_one PySem.W.kitx_dict I.kIn ⟨o, h1, h2.1⟩ e (fun z => nomatch z) h
  | @dT a kvs ea =>
    cases (show u = Value.ref a from rx)
    obtain ⟨_, _, xs, _, o, es, ep, h1, h2, _⟩ := (show ObjOk X.prog X.w H s.heap a (.dT kvs) from I.hok a _ ea)
    exact PySem.W.kia_one PySem.W.kitx_dict I.kIn ⟨o, h1, h2.1⟩ e (fun z => nomatch z) h
  | @ins a C dx fs ea cl ha hn htk hm =>
    cases (show u = Value.ref a from rx)
    obtain ⟨mA, O, _⟩ := ins_get I.hok ea
    obtain ⟨od, J, _⟩ := O.look
    exact PySem.W.kia_one (PySem.W.kitx_own (cl.get _) cl.hd ha hn htk hm) I.kIn J e (fun z => nomatch z) h
end
end L2

namespace L2
open PySem PySem.Spec PyProof.Rows

structure Room (k : Nat) (A : Around) : Prop where
  hd : A.handled = none
  dp : A.depth + 3 * k + 5 < recursionLimit
  un : A.units + 16 * k + 200 < cLine
  gd : A.guards = some []
theorem Room.mono {j k : Nat} {A : Around} (r : Room k A) (h : j ≤ k) : Room j A := ⟨r.hd, by have := r.dp; omega, by have := r.un; omega, r.gd⟩
theorem Room.deeper {k : Nat} {A : Around} (r : Room (k + 1) A) (env : Env) : Room k (A.deeper env) :=
  ⟨r.hd, by have := r.dp; show A.depth + 1 + 3 * k + 5 < _; omega, by have := r.un; show A.units + 3 + 16 * k + 200 < _; omega, r.gd⟩
theorem Room.in1 {k : Nat} {A : Around} (r : Room (k + 1) A) : Room k A.in1 :=
  ⟨r.hd, by have := r.dp; show A.depth + 3 * k + 5 < _; omega, by have := r.un; show A.units + 1 + 16 * k + 200 < _; omega, r.gd⟩
theorem make_depth {A : Around} {C : Addr} {us : List Value} {kw : List (Str × Value)} : (A.under (.builtin "type.__call__" ⟨.ref C :: us, kw⟩)).depth = A.depth + 1 := by
  first | rfl | simp [Around.under, Code.weight, Code.isCreation, Code.isGuard, Code.isCaller, Code.frames, Code.isFrame, guardIds]
theorem make_units {A : Around} {C : Addr} {us : List Value} {kw : List (Str × Value)} : (A.under (.builtin "type.__call__" ⟨.ref C :: us, kw⟩)).units = A.units + 1 := by
  first | rfl | simp [Around.under, Code.cUnits, Code.frames, Code.isFrame]
theorem make_guards {A : Around} {C : Addr} {us : List Value} {kw : List (Str × Value)} : (A.under (.builtin "type.__call__" ⟨.ref C :: us, kw⟩)).guards = A.guards := by
  cases h : A.guards with
  | none => simp [Around.under, Code.guards, Code.isGuard, guardIds, pushGuards, h]
  | some l => simp [Around.under, Code.guards, Code.isGuard, guardIds, pushGuards, h]
theorem Room.make {k : Nat} {A : Around} (r : Room (k + 1) A) (C : Addr) (us : List Value) (kw : List (Str × Value)) : Room k (A.under (.builtin "type.__call__" ⟨.ref C :: us, kw⟩)) :=
  ⟨r.hd, by have := r.dp; rw [make_depth]; omega, by have := r.un; rw [make_units]; omega, by rw [make_guards]; exact r.gd⟩
theorem Room.depth {k : Nat} {A : Around} (r : Room k A) : A.depth < recursionLimit := by have := r.dp; omega
theorem Room.units {k : Nat} {A : Around} (r : Room k A) : A.units + 64 < cLine := by have := r.un; omega
def tNil : TA := fun _ H Q => Q [] H
def tCons (ta : TE) (tr : TA) : TA := fun σ H Q => ta σ H fun x H1 => tr σ H1 fun xs H2 => Q (x :: xs) H2
section
variable {X : Cx} {e : Expr} {es : List Expr} {te : TE} {t : TA} {pos : Pos}
theorem pa_nil : PA X [] tNil := fun _ _ _ _ H Q I h => Calls.spliced_nil ⟨[], H, I, .nil, h⟩
theorem pa_cons (ha : PE X e te) (hr : PA X es t) (hs : starEach (e :: es) X.env = (false, eval e X.env) :: starEach es X.env := by rfl) : PA X (e :: es) (tCons te t) := by
  intro pos pins s σ H Q I h
  rw [hs]
  show wpAny _ _ (spliced ((false, eval e X.env) :: backTo pos (starEach es X.env))) _ _ s
  refine Calls.spliced_cons (thn (ha pins s σ H _ I h) fun u s1 ⟨x, H1, I1, r1, q1⟩ => ?_)
  exact thn (hr pos pins s1 σ H1 _ I1 q1) fun us s2 ⟨xs, H2, I2, r2, q2⟩ => ⟨x :: xs, H2, I2, .cons r1 r2, q2⟩

def tTup (t : TA) : TE := fun σ H Q => t σ H fun xs H1 => xs.length ≤ sizeLine ∧ ∀ p, H1 p = none → Q (.ref p) (upd H1 p (.tup xs))
def tLst (t : TA) : TE := fun σ H Q => t σ H fun xs H1 => xs.length ≤ sizeLine ∧ ∀ p, H1 p = none → Q (.ref p) (upd H1 p (.lst xs))
theorem pe_tup {x1} (h : PA X es t) : PE X (.Tuple es x1 pos) (tTup t) := by
  intro pins s σ H Q I hq
  refine wpAny_Tuple_spliced (thn (h pos pins s σ H _ I hq) fun us s1 ⟨xs, H1, I1, r, z, q⟩ => ⟨by rw [← r.length]; exact z, ?_⟩)
  have hf : H1 s1.heap.objs.size = none := I1.hok.fresh (Nat.le_refl _)
  refine ⟨.ref s1.heap.objs.size, upd H1 s1.heap.objs.size (.tup xs), I1.laid (t' := s1.toks) (fun b u e => Heap.get?_push_of_some _ e) (Nat.le_refl _) ?_, rfl, q _ hf⟩
  exact ⟨z, us, r, ⟨_, Heap.get?_push_size _ rfl, rfl, _, rfl⟩⟩
theorem pe_lst (h : PA X es t) : PE X (.List es pos) (tLst t) := by
  intro pins s σ H Q I hq
  refine wpAny_List_spliced (thn (h pos pins s σ H _ I hq) fun us s1 ⟨xs, H1, I1, r, z, q⟩ => ⟨by rw [← r.length]; exact z, ?_⟩)
  have hf : H1 s1.heap.objs.size = none := I1.hok.fresh (Nat.le_refl _)
  refine ⟨.ref s1.heap.objs.size, upd H1 s1.heap.objs.size (.lst xs), I1.laid (t' := s1.toks) (fun b u e => Heap.get?_push_of_some _ e) (Nat.le_refl _) ?_, rfl, q _ hf⟩
  exact ⟨z, us, 0, r, Heap.get?_push_size _ rfl⟩
end

abbrev Sp := List V → Hp → VK → XK → Prop
abbrev CXT := List Env → Hp → Shared → XK → Value → Shared → Prop

structure Env0 (P : Program) (w : World) (K : PySem.W.Frag) (mg : Str → Option Value) (base : Heap) (A : Around) (outer : List Env) (s : Shared) (H : Hp) : Prop where
  frames : A.frames = some outer
  mod : Mod K mg base
  bs : ∀ b o, base.get? b = some o → s.heap.get? b = some o ∧ H b = none
  bsz : base.objs.size ≤ s.heap.objs.size
  funs : s.heap.FunFrames base outer
  frf : ∀ b ∈ frs outer, H b = none
  hok : HOk P w H s.heap
  bare : AllBare s.gens
def CE (outer : List Env) (P : Program) (w : World) (H : Hp) (s : Shared) (Q : VK) (u : Value) (s' : Shared) : Prop :=
  ∃ v H', s'.os = s.os ∧ AllBare s'.gens ∧ Un (frs outer) [] H H' s.heap s'.heap ∧ HOk P w H' s'.heap ∧ RelV v u ∧ Q v H'
def CR (CX : CXT) (outer : List Env) (P : Program) (w : World) (H : Hp) (s : Shared) (Q : VK) (E : XK) (r : Result) (s' : Shared) : Prop :=
  match r with
  | .ok (.ret u) => CE outer P w H s Q u s'
  | .ok _ => False
  | .error e => CX outer H s E e s'
structure FnOk (P : Program) (w : World) (K : PySem.W.Frag) (mg : Str → Option Value) (base : Heap) (CX : CXT) (k : Nat) (f : Addr) (fd : FuncData) (ps : List Str) (sp : Sp) : Prop where
  len : ∀ vs H Q E, sp vs H Q E → vs.length = ps.length
  run : ∀ (A : Around) (outer : List Env) (s : Shared) (H : Hp) (args : Args) (us : List Value) (vs : List V) (Q : VK) (E : XK), Room k A → Env0 P w K mg base A outer s H → BindsTo s fd args (ps.zip us) → Vals vs us → sp vs H Q E →
    codeAny (model P w) A (.call (.ref f) args) (CR CX outer P w H s Q E) s
theorem FnOk.mono {P : Program} {w : World} {K : PySem.W.Frag} {mg : Str → Option Value} {base : Heap} {CX : CXT} {j k : Nat} {f : Addr} {fd : FuncData} {ps : List Str} {sp : Sp} (F : FnOk P w K mg base CX j f fd ps sp) (h : j ≤ k) :
    FnOk P w K mg base CX k f fd ps sp := ⟨F.len, fun A outer s H args us vs Q E hr => F.run A outer s H args us vs Q E (hr.mono h)⟩
theorem FnOk.imp {P : Program} {w : World} {K : PySem.W.Frag} {mg : Str → Option Value} {base : Heap} {CX : CXT} {k : Nat} {f : Addr} {fd : FuncData} {ps : List Str} {sp sp' : Sp} (F : FnOk P w K mg base CX k f fd ps sp)
    (h : ∀ vs H Q E, sp' vs H Q E → sp vs H Q E) : FnOk P w K mg base CX k f fd ps sp' :=
  ⟨fun vs H Q E q => F.len vs H Q E (h _ _ _ _ q), fun A outer s H args us vs Q E hr he hb hv hs => F.run A outer s H args us vs Q E hr he hb hv (h _ _ _ _ hs)⟩

theorem Env0.make {P : Program} {w : World} {K : PySem.W.Frag} {mg : Str → Option Value} {base : Heap} {A : Around} {outer : List Env} {s : Shared} {H : Hp} (e : Env0 P w K mg base A outer s H) (C : Addr) (us : List Value) (kw : List (Str × Value)) :
    Env0 P w K mg base (A.under (.builtin "type.__call__" ⟨.ref C :: us, kw⟩)) outer s H := ⟨by first | exact e.frames | (simpa [Around.under, Code.envs, Code.isFrame, pushEnvs] using e.frames), e.mod, e.bs, e.bsz, e.funs, e.frf, e.hok, e.bare⟩
theorem Env0.in1 {P : Program} {w : World} {K : PySem.W.Frag} {mg : Str → Option Value} {base : Heap} {A : Around} {outer : List Env} {s : Shared} {H : Hp} (e : Env0 P w K mg base A outer s H) :
    Env0 P w K mg base A.in1 outer s H := ⟨e.frames, e.mod, e.bs, e.bsz, e.funs, e.frf, e.hok, e.bare⟩

section
variable {X : Cx} {pins : List (Addr × Obj)} {σ : St} {H : Hp} {s s' : Shared}
theorem Inv.env0 (I : Inv X pins σ H s) : Env0 X.prog X.w X.K X.mg X.base X.A X.stack s H :=
  ⟨I.ok.frames, I.ok.mod, I.bs, Nat.le_trans I.ok.bsz I.sz, I.stack, I.stkFree, I.hok, I.bare⟩
theorem Inv.after {Q : VK} {u : Value} (I : Inv X pins σ H s) (h : CE X.stack X.prog X.w H s Q u s') : EP X pins σ Q u s' := by
  obtain ⟨v, H', os, bare, un, hok, r, q⟩ := h
  obtain ⟨hh, g, d, t, os'⟩ := s'
  obtain rfl : os' = s.os := os
  exact ⟨v, H', I.call (h' := hh) (g' := g) (d' := d) (t' := t) (ch := []) un hok bare (fun b z => absurd z (by simp)), r, q⟩
end

def tCall (sp : Sp) (dvs : List V) (E : XK) (t : TA) : TE := fun σ H Q => t σ H fun vs H1 => sp (vs ++ dvs) H1 Q E
def tMeth (C : Addr) (m : Str) (sp : Sp) (dvs : List V) (E : XK) (ta : TE) (t : TA) : TE := fun σ H Q => ta σ H fun x H1 => ∃ a dx fs, x = .ref a ∧ H1 a = some (.ins C dx fs) ∧ fs.lookup m = none ∧
  t σ H1 fun vs H2 => sp (x :: (vs ++ dvs)) H2 Q E
def tMake (C : Addr) (sp : Sp) (dvs : List V) (E : XK) (t : TA) : TE := fun σ H Q => t σ H fun vs H1 => ∀ x dx, H1 x = none → H1 dx = none → dx ≠ x →
  sp (.ref x :: (vs ++ dvs)) (upd (upd H1 dx (.own x)) x (.ins C dx [])) (fun v H2 => v = .non ∧ Q (.ref x) H2) E

def Binds (K : PySem.W.Frag) (fd : FuncData) (ps : List Str) (ds : List Value) : Prop :=
  ∀ (s : Shared) (us : List Value), K.In s.heap → (us ++ ds).length = ps.length → BindsTo s fd ⟨us, []⟩ (ps.zip (us ++ ds))
theorem Binds.all {K : PySem.W.Frag} {fd : FuncData} {ps : List Str} (h : ∀ us : List Value, us.length = ps.length → bindArgs fd ⟨us, []⟩ = pure (ps.zip us)) : Binds K fd ps [] := fun s us _ hl => by
  rw [List.append_nil] at hl ⊢
  exact .of_eq (h us hl)

def Passes (CX : CXT) (X : Cx) (E : XK) : Prop := ∀ (pins : List (Addr × Obj)) (σ : St) (H : Hp) (s : Shared) (e : Value) (s' : Shared), Inv X pins σ H s → CX X.stack H s E e s' → X.xe e s'

section
variable {X : Cx} {CX : CXT} {k : Nat} {f C : Addr} {fd : FuncData} {ps : List Str} {sp : Sp} {dvs : List V} {ds : List Value} {E : XK} {x m : Str} {p pos apos : Pos} {e o : Expr} {es : List Expr} {ta : TE} {t : TA}

theorem run_fn {pins : List (Addr × Obj)} {σ : St} {H : Hp} {s : Shared} {Q : VK} {us : List Value} {vs : List V} (F : FnOk X.prog X.w X.K X.mg X.base CX k f fd ps sp) (hr : Room k X.A) (hb : Binds X.K fd ps ds) (hd : Vals dvs ds) (hx : Passes CX X E)
    (I : Inv X pins σ H s) (r : Vals vs us) (h : sp (vs ++ dvs) H Q E) : wpAny (model X.prog X.w) X.A (call (.ref f) us) (EP X pins σ Q) X.xe s := by
  have r2 : Vals (vs ++ dvs) (us ++ ds) := r.append hd
  have hl : (us ++ ds).length = ps.length := by rw [← r2.length]; exact F.len _ _ _ _ h
  refine wpAny_call (codeAny_mono (F.run X.A X.stack s H ⟨us, []⟩ (us ++ ds) (vs ++ dvs) Q E hr I.env0 (hb s us I.kIn hl) r2 h) fun r s' hq => ?_)
  cases r with
  | error e => exact hx pins σ H s e s' I hq
  | ok fl =>
    cases fl with
    | ret u => exact I.after hq
    | next => exact False.elim hq
    | brk => exact False.elim hq
    | cont => exact False.elim hq

theorem pe_call (F : FnOk X.prog X.w X.K X.mg X.base CX k f fd ps sp) (hr : Room k X.A) (hg : Gl X x) (hm : X.mg x = some (.ref f)) (hk : PySem.W.keepIn X.K (.ref f) = true) (hb : Binds X.K fd ps ds) (hd : Vals dvs ds) (hx : Passes CX X E)
    (ha : PA X (e :: es) t) (hdb : (x == ("__debug__" : Str)) = false := by decide) (he : starEach (e :: es) X.env = (false, eval e X.env) :: starEach es X.env := by rfl) (hpl : (backTo pos (starEach es X.env)).any (·.1) = false := by rfl) :
    PE X (.Call (.Name x p) (e :: es) [] pos) (tCall sp dvs E t) := by
  intro pins s σ H Q I h
  refine wpAny_Call_Name_kw (ld_glob I hg hm ?_ hdb)
  refine PySem.W.callWith_K (h₀ := X.base) I.ok.mod.kin hk (thn (ha pos pins s σ H _ I h) fun us s1 ⟨vs, H1, I1, r, q⟩ => ⟨I1.kIn, ?_⟩) he hpl
  exact run_fn F hr hb hd hx I1 r q
theorem pe_meth {pl : Sem Bool} (he : PE X o ta) (c : Cls X.K C) (hm : Meth X.K C m f) (F : FnOk X.prog X.w X.K X.mg X.base CX k f fd ps sp) (hr : Room k X.A) (hb : Binds X.K fd ps ds) (hd : Vals dvs ds) (hx : Passes CX X E) (ha : PA X (e :: es) t)
    (hst : starEach (e :: es) X.env = (false, eval e X.env) :: starEach es X.env := by rfl) (hpl : (backTo pos (starEach es X.env)).any (·.1) = false := by rfl)
    (ht : eval (.Call (.Attribute o m apos) (e :: es) [] pos) X.env = (do
      let ov ← eval o X.env
      standAt apos.atName
      let (f, first) ← holding [ov] (getMethod ov m pl)
      callWith pos f first (backTo pos (starEach (e :: es) X.env)) (backToKw pos (keywordEach [] X.env))) := by rfl) :
    PE X (.Call (.Attribute o m apos) (e :: es) [] pos) (tMeth C m sp dvs E ta t) := by
  intro pins s σ H Q I h
  refine PySem.W.methodCall_KW (pl := pl) (thn (he pins s σ H _ I h) fun u s1 ⟨x, H1, I1, rx, a, dx, fs, ex, ea, l, q⟩ => ?_) ht
  subst ex
  obtain rfl : u = Value.ref a := rx
  refine getmeth_ok I1 ea c hm l ?_
  refine PySem.W.callWith_K (first := [.ref a]) (h₀ := X.base) I.ok.mod.kin hm.kp (thn (ha pos pins s1 σ H1 _ I1 q) fun us s2 ⟨vs, H2, I2, r, q2⟩ => ⟨I2.kIn, ?_⟩) hst hpl
  exact run_fn (us := .ref a :: us) (vs := .ref a :: vs) F hr hb hd hx I2 (.cons rfl r) q2
theorem pe_meth0 {pl : Sem Bool} (he : PE X o ta) (c : Cls X.K C) (hm : Meth X.K C m f) (F : FnOk X.prog X.w X.K X.mg X.base CX k f fd ps sp) (hr : Room k X.A) (hb : Binds X.K fd ps ds) (hd : Vals dvs ds) (hx : Passes CX X E)
    (ht : eval (.Call (.Attribute o m apos) [] [] pos) X.env = (do
      let ov ← eval o X.env
      standAt apos.atName
      let (f, first) ← holding [ov] (getMethod ov m pl)
      callWith pos f first (backTo pos (starEach [] X.env)) (backToKw pos (keywordEach [] X.env))) := by rfl) :
    PE X (.Call (.Attribute o m apos) [] [] pos) (tMeth C m sp dvs E ta tNil) := by
  intro pins s σ H Q I h
  refine PySem.W.methodCall_KW (pl := pl) (thn (he pins s σ H _ I h) fun u s1 ⟨x, H1, I1, rx, a, dx, fs, ex, ea, l, q⟩ => ?_) ht
  subst ex
  obtain rfl : u = Value.ref a := rx
  refine getmeth_ok I1 ea c hm l ?_
  exact PySem.W.callWith_K0 (first := [.ref a]) I1.kIn hm.kp (run_fn (us := [.ref a]) (vs := [.ref a]) F hr hb hd hx I1 (.cons rfl .nil) q)

structure Mk (K : PySem.W.Frag) (C f : Addr) : Prop where
  makes : PySem.W.makesIn K C = true
  init : PySem.W.findIn K (.ref C) "__init__" = some (some (.ref f))
  fn : PySem.W.isFn K (.ref f) = true
  kp : PySem.W.keepIn K (.ref C) = true

theorem run_make {pins : List (Addr × Obj)} {σ : St} {H : Hp} {s : Shared} {Q : VK} {us : List Value} {vs : List V} (M : Mk X.K C f) (F : FnOk X.prog X.w X.K X.mg X.base CX k f fd ps sp) (hr : Room (k + 1) X.A) (hb : Binds X.K fd ps ds) (hd : Vals dvs ds)
    (hx : Passes CX X E) (I : Inv X pins σ H s) (r : Vals vs us)
    (h : ∀ x dx, H x = none → H dx = none → dx ≠ x → sp (.ref x :: (vs ++ dvs)) (upd (upd H dx (.own x)) x (.ins C dx [])) (fun v H2 => v = .non ∧ Q (.ref x) H2) E) :
    wpAny (model X.prog X.w) X.A (call (.ref C) us) (EP X pins σ Q) X.xe s := by
  have hq := h (s.heap.objs.size + 1) s.heap.objs.size (I.hok.fresh (Nat.le_succ _)) (I.hok.fresh (Nat.le_refl _)) (Nat.ne_of_lt (Nat.lt_succ_self _))
  have I2 := Inv.made (C := C) I
  have r2 : Vals (V.ref (s.heap.objs.size + 1) :: (vs ++ dvs)) (Value.ref (s.heap.objs.size + 1) :: (us ++ ds)) := .cons rfl (r.append hd)
  have hl : (Value.ref (s.heap.objs.size + 1) :: us ++ ds).length = ps.length := by
    have e := r2.length
    rw [F.len _ _ _ _ hq] at e
    exact e.symm
  refine wpAny_call (make_map (f := f) I.kIn M.makes M.init (beq_iff_eq.mp M.fn) (codeAny_mono (F.run _ X.stack _ _ ⟨Value.ref (s.heap.objs.size + 1) :: us, []⟩ (Value.ref (s.heap.objs.size + 1) :: (us ++ ds)) _ _ E (hr.make C us [])
    (I2.env0.make C us []) (hb _ (Value.ref (s.heap.objs.size + 1) :: us) I2.kIn hl) r2 hq) fun r s' hq' => ?_))
  cases r with
  | error e => exact hx pins σ _ _ e s' I2 hq'
  | ok fl =>
    cases fl with
    | ret u =>
      obtain ⟨v, H', I3, rv, ev, q3⟩ := I2.after hq'
      subst ev
      exact ⟨rv, ⟨V.ref (s.heap.objs.size + 1), H', I3, rfl, q3⟩⟩
    | next => exact False.elim hq'
    | brk => exact False.elim hq'
    | cont => exact False.elim hq'
theorem pe_make (M : Mk X.K C f) (F : FnOk X.prog X.w X.K X.mg X.base CX k f fd ps sp) (hr : Room (k + 1) X.A) (hg : Gl X x) (hm : X.mg x = some (.ref C)) (hb : Binds X.K fd ps ds) (hd : Vals dvs ds) (hx : Passes CX X E)
    (ha : PA X (e :: es) t) (hdb : (x == ("__debug__" : Str)) = false := by decide) (he : starEach (e :: es) X.env = (false, eval e X.env) :: starEach es X.env := by rfl) (hpl : (backTo pos (starEach es X.env)).any (·.1) = false := by rfl) :
    PE X (.Call (.Name x p) (e :: es) [] pos) (tMake C sp dvs E t) := by
  intro pins s σ H Q I h
  refine wpAny_Call_Name_kw (ld_glob I hg hm ?_ hdb)
  refine PySem.W.callWith_K (h₀ := X.base) I.ok.mod.kin M.kp (thn (ha pos pins s σ H _ I h) fun us s1 ⟨vs, H1, I1, r, q⟩ => ⟨I1.kIn, ?_⟩) he hpl
  exact run_make M F hr hb hd hx I1 r q
end

section
variable {X : Cx} {CX : CXT} {k : Nat} {f C : Addr} {fd : FuncData} {ps ks : List Str} {sp : Sp} {E : XK} {x m : Str} {p pos apos kpos : Pos} {e o : Expr} {es : List Expr} {kws : List Keyword} {te ta : TE} {t tk : TA} {nm : Option Str}
structure KBinds (K : PySem.W.Frag) (fd : FuncData) (ps ks : List Str) (g : List Value → List Value → List Value) (gV : List V → List V → List V) : Prop where
  to : ∀ (s : Shared) (us ws : List Value), K.In s.heap → (g us ws).length = ps.length → BindsTo s fd ⟨us, ks.zip ws⟩ (ps.zip (g us ws))
  rel : ∀ {vs : List V} {us : List Value} {zs : List V} {ws : List Value}, Vals vs us → Vals zs ws → Vals (gV vs zs) (g us ws)
variable {g : List Value → List Value → List Value} {gV : List V → List V → List V}
end

structure FnScope (N P : List Str) (sc : Scope) : Prop where
  kind : sc.kind = .function
  co : sc.isCoroutine = false
  gen : sc.isGenerator = false
  nd : N.Nodup
  pre : N.take P.length = P
  par : ∀ x ∈ P, sc.names.lookup x = some .local ∨ sc.names.lookup x = some .cell
  nofree : ∀ y ∈ sc.names, y.2 ≠ .free

theorem bindL_out {kindOf : Str → Option NameKind} {x : Str} : ∀ {binds : List (Str × Value)} {m : Str → Option Value}, (∀ v, (x, v) ∉ binds) → bindL kindOf binds m x = m x
  | [], _, _ => rfl
  | (n, v) :: r, m, h => by
    unfold bindL
    rw [bindL_out fun w hw => h w (List.mem_cons_of_mem _ hw)]
    split
    · have : x ≠ n := by rintro rfl; exact h v List.mem_cons_self
      simp [this]
    · rfl
theorem bindC_out {kindOf : Str → Option NameKind} {x : Str} : ∀ {binds : List (Str × Value)} {m : Str → Option Value}, (∀ v, (x, v) ∉ binds) → bindC kindOf binds m x = m x
  | [], _, _ => rfl
  | (n, v) :: r, m, h => by
    unfold bindC
    rw [bindC_out fun w hw => h w (List.mem_cons_of_mem _ hw)]
    split
    · rfl
    · have : x ≠ n := by rintro rfl; exact h v List.mem_cons_self
      simp [this]
theorem bindL_get {kindOf : Str → Option NameKind} {x : Str} {v : Value} : ∀ {P : List Str} {vs : List Value} {i : Nat} {m : Str → Option Value}, P.Nodup → P[i]? = some x → vs[i]? = some v → kindOf x = some .local →
    bindL kindOf (P.zip vs) m x = some v
  | [], _, _, _, _, h, _, _ => by simp at h
  | _ :: _, [], _, _, _, _, h, _ => by simp at h
  | p :: P, w :: vs, 0, m, nd, h1, h2, hk => by
    simp at h1 h2; subst h1; subst h2
    show bindL kindOf ((p, w) :: P.zip vs) m p = _
    unfold bindL
    rw [bindL_out fun v hv => (List.nodup_cons.mp nd).1 (List.of_mem_zip hv).1, if_pos hk]
    simp
  | p :: P, w :: vs, i + 1, m, nd, h1, h2, hk => by
    show bindL kindOf ((p, w) :: P.zip vs) m x = _
    unfold bindL
    exact bindL_get (i := i) (List.nodup_cons.mp nd).2 (by simpa using h1) (by simpa using h2) hk
theorem bindC_get {kindOf : Str → Option NameKind} {x : Str} {v : Value} : ∀ {P : List Str} {vs : List Value} {i : Nat} {m : Str → Option Value}, P.Nodup → P[i]? = some x → vs[i]? = some v → kindOf x ≠ some .local →
    bindC kindOf (P.zip vs) m x = some v
  | [], _, _, _, _, h, _, _ => by simp at h
  | _ :: _, [], _, _, _, _, h, _ => by simp at h
  | p :: P, w :: vs, 0, m, nd, h1, h2, hk => by
    simp at h1 h2; subst h1; subst h2
    show bindC kindOf ((p, w) :: P.zip vs) m p = _
    unfold bindC
    rw [bindC_out fun v hv => (List.nodup_cons.mp nd).1 (List.of_mem_zip hv).1, if_neg hk]
    simp
  | p :: P, w :: vs, i + 1, m, nd, h1, h2, hk => by
    show bindC kindOf ((p, w) :: P.zip vs) m x = _
    unfold bindC
    exact bindC_get (i := i) (List.nodup_cons.mp nd).2 (by simpa using h1) (by simpa using h2) hk

def start (N : List Str) (vs : List V) : St := vs.map some ++ List.replicate (N.length - vs.length) none

def cxOf (CX : CXT) (P : Program) (w : World) (K : PySem.W.Frag) (mg : Str → Option Value) (base : Heap) (N : List Str) (qual : Str) (scope : Scope) (f : Addr) (cd : Value) (A : Around) (outer : List Env) (s : Shared) (H : Hp) (E : XK) : Cx where
  prog := P
  w := w
  K := K
  mg := mg
  base := base
  A := A.deeper (envOfC qual scope s.heap.objs.size f cd)
  N := N
  s₀ := s
  H₀ := H
  env := envOfC qual scope s.heap.objs.size f cd
  outer := outer
  stack := envOfC qual scope s.heap.objs.size f cd :: outer
  ex := []
  calm := true
  fn := fun _ => true
  pn := []
  xe := fun e s' => wpAny (model P w) (A.deeper (envOfC qual scope s.heap.objs.size f cd)) (leaving (envOfC qual scope s.heap.objs.size f cd) e) (fun _ s'' => CX outer H s E e s'') (fun e' s'' => CX outer H s E e' s'') s'

theorem cell_has {sc : Scope} {n : Nat} {x : Str} (h : sc.names.lookup x = some .cell) : ∃ c, (cellsFrom n sc.names []).lookup x = some c := by
  have q := PySem.W.cellsFrom_some sc.names n [] (.inl h)
  exact Option.isSome_iff_exists.mp q

theorem inv_start {CX : CXT} {P : Program} {w : World} {K : PySem.W.Frag} {mg : Str → Option Value} {base : Heap} {N ps : List Str} {qual : Str} {scope : Scope} {f : Addr} {cd : Value} {A : Around} {outer : List Env} {s s1 : Shared} {H : Hp} {E : XK} {us : List Value} {vs : List V}
    (S : FnScope N ps scope) (hd : A.handled = none) (e0 : Env0 P w K mg base A outer s H) (hl : vs.length = ps.length) (r : Vals vs us)
    (x : InCallC s s.heap.objs.size (bindL (envOfC qual scope s.heap.objs.size f cd).kindOf (ps.zip us) fun _ => none) (cellsFrom (s.heap.objs.size + 1) scope.names []) (bindC (envOfC qual scope s.heap.objs.size f cd).kindOf (ps.zip us) fun _ => none) s1) :
    Inv (cxOf CX P w K mg base N qual scope f cd A outer s H E) [] (start N vs) H s1 := by
  have hpl : ps.length ≤ N.length := by have := congrArg List.length S.pre; rw [List.length_take] at this; omega
  obtain ⟨h1, tk, rfl, hk⟩ := x.done
  have noA : ∀ b : Addr, b ∉ (cxOf CX P w K mg base N qual scope f cd A outer s H E).ex := fun b z => absurd (show b ∈ ([] : List Addr) from z) (by simp)
  refine ⟨⟨e0.mod, S.kind, rfl, rfl, Nat.le_refl _, fun y z c h1 h2 => ?_, fun y hy => ?_, fun y c _ h => ?_, fun _ => hd, Around.frames_deeper e0.frames, .inr ⟨rfl, rfl⟩, fun b z => absurd z (noA b), e0.bs, e0.bsz, fun b _ _ => noA b, fun b z => absurd z (noA b), e0.funs, e0.frf⟩,
    rfl, e0.bare, Un.kept hk, ⟨_, x.toInCall.ns, fun i y v h1 h2 h3 => ?_⟩, fun y c h => ⟨_, x.cell y c h⟩, e0.hok.fresh (Nat.le_refl _), fun y c h => ?_, fun p hp => absurd (show p ∈ ([] : List (Addr × Obj)) from hp) (by simp), e0.hok.kept hk, ?_⟩
  · exact name_of_addr x.apart (PySem.mem_of_lookup h1) (PySem.mem_of_lookup h2)
  · have hy : scope.names.lookup y = some .cell ∨ scope.names.lookup y = some .free := hy
    rcases hy with hy | hy
    · exact cell_has hy
    · exact absurd rfl (S.nofree _ (PySem.mem_of_lookup hy))
  · exact Nat.le_of_lt (x.above y c (PySem.mem_of_lookup h))
  · have hi : i < vs.length := by
      unfold start at h2
      by_cases hi : i < vs.length
      · exact hi
      · rw [List.getElem?_append_right (by simpa using hi)] at h2
        rw [List.getElem?_replicate] at h2
        split at h2 <;> cases h2
    have ha : vs[i]? = some v := by
      unfold start at h2
      rw [List.getElem?_append_left (by simpa using hi), List.getElem?_map] at h2
      cases e : vs[i]? with
      | none => rw [e] at h2; cases h2
      | some a => rw [e] at h2; cases h2; rfl
    obtain ⟨u, hu, rv⟩ := r.get ha
    have hp : ps[i]? = some y := by
      rw [← S.pre, List.getElem?_take_of_lt (by omega)]; exact h1
    have ndP : ps.Nodup := by rw [← S.pre]; exact S.nd.sublist (List.take_sublist _ _)
    refine ⟨u, rv, ?_⟩
    rcases S.par y (List.mem_of_getElem? hp) with k | k
    · exact .inl ⟨k, bindL_get ndP hp hu k⟩
    · obtain ⟨c, e⟩ := cell_has (n := s.heap.objs.size + 1) k
      refine .inr ⟨.inl k, c, e, ?_⟩
      have q := x.cell y c e
      rw [bindC_get ndP hp hu (by show scope.names.lookup y ≠ _; rw [k]; decide)] at q
      exact q
  · exact e0.hok.fresh (Nat.le_of_lt (x.above y c (PySem.mem_of_lookup h)))
  · unfold start
    show _ = N.length
    rw [List.length_append, List.length_map, List.length_replicate]
    omega

theorem fn_of {CX : CXT} {P : Program} {w : World} {K : PySem.W.Frag} {mg : Str → Option Value} {base : Heap} {k : Nat} {f : Addr} {name qual : Str} {params : Arguments} {body : List Stmt} {scope : Scope} {dV kV doc pm cdv ct oc : Value} {an od : Option Addr}
    {osl : Array (Option Value)} {N ps : List Str} {sp : Sp} (lk : K.lookup f = some ⟨oc, od, .func (PySem.W.fnOf name qual params body scope dV kV doc pm an cdv ct), osl⟩) (hcd : PySem.W.codeIn K cdv qual = true) (S : FnScope N ps scope)
    (len : ∀ vs H Q E, sp vs H Q E → vs.length = ps.length)
    (hbody : ∀ (A : Around) (outer : List Env) (s : Shared) (H : Hp) (vs : List V) (Q : VK) (E : XK), Room k (A.deeper (envOfC qual scope s.heap.objs.size f cdv)) → sp vs H Q E →
      ∃ t, PSs (cxOf CX P w K mg base N qual scope f cdv A outer s H E) body t ∧ t { nx := fun _ H' => Q .non H', rt := Q } (start N vs) H) :
    FnOk P w K mg base CX (k + 1) f (PySem.W.fnOf name qual params body scope dV kV doc pm an cdv ct) ps sp := by
  refine ⟨len, fun A outer s H args us vs Q E hr e0 hb r hsp => ?_⟩
  have hl := len _ _ _ _ hsp
  have KX : K.In s.heap := e0.mod.kin.keeps fun b o e => (e0.bs b o e).1
  have lim : s.heap.NoLimit := e0.mod.nolimit.keeps fun b o e => (e0.bs b o e).1
  have hkind : ∀ y ∈ ps.zip us, scope.names.lookup y.1 = some .local ∨ (scope.names.lookup y.1 = some .cell ∧ ((cellsFrom (s.heap.objs.size + 1) scope.names []).lookup y.1).isSome = true) := fun ⟨n, v⟩ hy => by
    rcases S.par n (List.of_mem_zip hy).1 with q | q
    · exact .inl q
    · exact .inr ⟨q, PySem.W.cellsFrom_some _ _ _ (.inl q)⟩
  refine codeAny_call_function hr.depth (KX _ _ lk) rfl S.co S.gen rfl (PySem.W.codeRec_of KX hcd) (hb _ _ _ _ ?_)
  refine wpAny_newFunctionEnv_cells S.kind hkind fun env he s1 x => ?_
  subst he
  refine ⟨lim.keeps x.toInCall.keep, codeAny_func ?_⟩
  obtain ⟨t, ht, hq⟩ := hbody A outer s H vs Q E (hr.deeper _) hsp
  have I : Inv (cxOf CX P w K mg base N qual scope f cdv A outer s H E) [] (start N vs) H s1 := inv_start S hr.hd e0 hl r x
  refine wpAny_mono (ht [] s1 (start N vs) H _ I hq) (fun fl s' hs => ?_) fun e s' hs => hs
  have fin : ∀ {σ' : St} {H' : Hp} {v : V} {u : Value}, Inv (cxOf CX P w K mg base N qual scope f cdv A outer s H E) [] σ' H' s' → RelV v u → Q v H' → CE outer P w H s Q u s' :=
    fun {σ' H' v u} J rv q => ⟨v, H', J.os, J.bare, J.base, J.hok, rv, q⟩
  cases fl with
  | ret u =>
    obtain ⟨v, σ', H', J, rv, q⟩ := hs
    exact fin J rv q
  | next =>
    obtain ⟨σ', H', J, q⟩ := hs
    exact fin (v := V.non) (u := Value.none) J rfl q
  | brk =>
    obtain ⟨_, _, _, q⟩ := hs
    exact False.elim q
  | cont =>
    obtain ⟨_, _, _, q⟩ := hs
    exact False.elim q
end L2

namespace L2
open PySem PySem.Spec PyProof.Rows
section
variable {X : Cx} {x : Str} {p pos : Pos} {e : Expr} {es : List Expr} {t : TA} {id T : String} {r : List V → Hp → VK → Prop}

def tCB (r : List V → Hp → VK → Prop) (t : TA) : TE := fun σ H Q => t σ H fun vs H1 => r vs H1 Q
theorem pe_callB (hc : CallR X (.builtin id) r) (hg : Gl X x) (hm : X.mg x = none) (hv : bootBuiltins x = some (.builtin id)) (ha : PA X (e :: es) t) (hn : x ≠ "__name__" := by decide) (hdb : (x == ("__debug__" : Str)) = false := by decide)
    (he : starEach (e :: es) X.env = (false, eval e X.env) :: starEach es X.env := by rfl) (hpl : (backTo pos (starEach es X.env)).any (·.1) = false := by rfl) : PE X (.Call (.Name x p) (e :: es) [] pos) (tCB r t) := by
  intro pins s σ H Q I h
  refine wpAny_Call_Name_kw (ld_blt I hg hm hv ?_ hn hdb)
  exact PyProof.Rows.callWith_builtin1 (thn (ha pos pins s σ H _ I h) fun us s1 ⟨vs, H1, I1, r1, q1⟩ => hc pins s1 σ H1 vs us Q I1 r1 q1) he hpl
theorem pe_callTy (hc : CallR X (.type T) r) (hg : Gl X x) (hm : X.mg x = none) (hv : bootBuiltins x = some (.type T)) (ha : PA X (e :: es) t) (hn : x ≠ "__name__" := by decide) (hdb : (x == ("__debug__" : Str)) = false := by decide)
    (he : starEach (e :: es) X.env = (false, eval e X.env) :: starEach es X.env := by rfl) (hpl : (backTo pos (starEach es X.env)).any (·.1) = false := by rfl) : PE X (.Call (.Name x p) (e :: es) [] pos) (tCB r t) := by
  intro pins s σ H Q I h
  refine wpAny_Call_Name_kw (ld_blt I hg hm hv ?_ hn hdb)
  exact PyProof.Rows.callWith_type1 (thn (ha pos pins s σ H _ I h) fun us s1 ⟨vs, H1, I1, r1, q1⟩ => hc pins s1 σ H1 vs us Q I1 r1 q1) he hpl
end
end L2

namespace L2
open PySem PySem.Spec PyProof.Rows

section
variable {κ : Type} [DecidableEq κ]
def valV (kvs : List (κ × V)) (k : κ) : Option V := (kvs.find? fun kv => decide (kv.1 = k)).map (·.2)
def putK (kvs : List (κ × V)) (k : κ) (v : V) : List (κ × V) :=
  if (kvs.any fun kv => decide (kv.1 = k)) = true then kvs.map (fun kv => if kv.1 = k then (kv.1, v) else kv) else kvs ++ [(k, v)]
def dropK (kvs : List (κ × V)) (k : κ) : List (κ × V) := kvs.filter fun kv => decide (kv.1 ≠ k)

theorem RelO.getD {o : Option V} {u : Option Value} {d : V} {d' : Value} (r : RelO o u) (rd : RelV d d') : RelV (o.getD d) (u.getD d') := by
  cases o with
  | none => cases u with
    | none => exact rd
    | some _ => exact (show False from r).elim
  | some _ => cases u with
    | none => exact (show False from r).elim
    | some _ => exact r

theorem KV.any {kvs : List (κ × V)} {vs : List (κ × Value)} (r : KV kvs vs) (k : κ) : (kvs.any fun kv => decide (kv.1 = k)) = vs.any fun kv => decide (kv.1 = k) := by
  unfold KV at r
  induction r with
  | nil => rfl
  | cons h t ih => rw [List.any_cons, List.any_cons, ih, h.1]
theorem KV.drop {kvs : List (κ × V)} {vs : List (κ × Value)} (r : KV kvs vs) (k : κ) : KV (dropK kvs k) (without vs k) := by
  unfold KV at r ⊢
  unfold dropK without
  induction r with
  | nil => exact .nil
  | @cons p q ps qs h t ih =>
    obtain ⟨h1, h2⟩ := h
    rw [List.filter_cons, List.filter_cons]
    by_cases e : p.1 = k
    · have a : ¬ decide (p.1 ≠ k) = true := by simp [e]
      have b : ¬ decide (q.1 ≠ k) = true := by simp [h1.symm.trans e]
      rw [if_neg a, if_neg b]; exact ih
    · have e' : ¬ q.1 = k := fun z => e (h1.trans z)
      have a : decide (p.1 ≠ k) = true := by simp [e]
      have b : decide (q.1 ≠ k) = true := by simp [e']
      rw [if_pos a, if_pos b]; exact .cons ⟨h1, h2⟩ ih
theorem KV.keys {kvs : List (κ × V)} {vs : List (κ × Value)} (r : KV kvs vs) : kvs.map (·.1) = vs.map (·.1) := by
  unfold KV at r
  induction r with
  | nil => rfl
  | cons h t ih => rw [List.map_cons, List.map_cons, ih, h.1]
theorem KV.length {kvs : List (κ × V)} {vs : List (κ × Value)} (r : KV kvs vs) : kvs.length = vs.length := Paired.length r
end


abbrev KT (H : Hp) : List (List Key × V) → List (List Key × Addr × Value) → Prop := Paired fun p q => p.1 = q.1 ∧ H q.2.1 = some (.tup (p.1.map kV)) ∧ RelV p.2 q.2.2
theorem KT.keeps {H H' : Hp} {kvs : List (List Key × V)} {xs : List (List Key × Addr × Value)} (r : KT H kvs xs) (ht : ∀ b ys, H b = some (.tup ys) → H' b = some (.tup ys)) : KT H' kvs xs :=
  Paired.mapP r fun _ _ z => ⟨z.1, ht _ _ z.2.1, z.2.2⟩

section
variable {P : Program} {w : World} {H : Hp} {h : Heap} {a : Addr}
end

def DGet (H : Hp) (a : Addr) (y : V) (r : Option V) : Prop :=
  (∃ kvs k, Rd H a (.dK kvs) ∧ y = kV k ∧ r = valV kvs k) ∨ ∃ kvs k b, Rd H a (.dT kvs) ∧ y = .ref b ∧ H b = some (.tup (k.map kV)) ∧ r = valV kvs k
def DPut (H : Hp) (a : Addr) (y v : V) (H' : Hp) : Prop :=
  (∃ kvs k, H a = some (.dK kvs) ∧ y = kV k ∧ kvs.length < sizeLine ∧ H' = upd H a (.dK (putK kvs k v))) ∨
  ∃ kvs k b, H a = some (.dT kvs) ∧ y = .ref b ∧ H b = some (.tup (k.map kV)) ∧ kvs.length < sizeLine ∧ H' = upd H a (.dT (putK kvs k v))
theorem DGet.k {H : Hp} {a : Addr} {kvs : List (Key × V)} {k : Key} (e : H a = some (.dK kvs)) : DGet H a (kV k) (valV kvs k) := .inl ⟨kvs, k, .inl e, rfl, rfl⟩
theorem DGet.t {H : Hp} {a b : Addr} {kvs : List (List Key × V)} {k : List Key} (e : H a = some (.dT kvs)) (eb : H b = some (.tup (k.map kV))) : DGet H a (.ref b) (valV kvs k) := .inr ⟨kvs, k, b, .inl e, rfl, eb, rfl⟩
theorem DPut.k {H : Hp} {a : Addr} {kvs : List (Key × V)} {k : Key} {v : V} (e : H a = some (.dK kvs)) (hl : kvs.length < sizeLine) : DPut H a (kV k) v (upd H a (.dK (putK kvs k v))) := .inl ⟨kvs, k, e, rfl, hl, rfl⟩
theorem DPut.t {H : Hp} {a b : Addr} {kvs : List (List Key × V)} {k : List Key} {v : V} (e : H a = some (.dT kvs)) (eb : H b = some (.tup (k.map kV))) (hl : kvs.length < sizeLine) :
    DPut H a (.ref b) v (upd H a (.dT (putK kvs k v))) := .inr ⟨kvs, k, b, e, rfl, eb, hl, rfl⟩


section
variable {X : Cx} {pins : List (Addr × Obj)} {σ : St} {H : Hp} {s : Shared} {a : Addr} {y v : V} {u r : Value} {o : Option V} {A : Around} {E : Value → Shared → Prop}

end

section
variable {X : Cx} {pins : List (Addr × Obj)} {σ : St} {H : Hp} {s : Shared} {a : Addr} {kvs : List (Key × V)} {k : Key} {u : Value} {A : Around} {E : Value → Shared → Prop}
end


def NoSl (i : Expr) : Prop := ∀ ov iv, subscripted i false ov iv = operate [ov, iv] (getItem ov iv)
theorem subD_of {prog : Program} {w : World} {A : Around} {E : Value → Shared → Prop} {s : Shared} {env : Env} {value slice : Expr} {pos : Pos} {T id : String} {Q : Value → Shared → Prop}
    (hl : typeLookup (.type T) "__getitem__" = pure (some (.builtin id))) (hs : NoSl slice)
    (h : wpAny (model prog w) A (eval value env) (fun o s₁ => wpAny (model prog w) A (eval slice env) (fun i s₂ => s₂.TypeIs o T ∧ wpAny (model prog w) A (getItem o i) Q E s₂) E s₁) E s) :
    wpAny (model prog w) A (eval (.Subscript value slice pos) env) Q E s := by
  refine Subscript_ (wpAny_mono h (fun o s₁ h₁ => wpAny_mono h₁ (fun i s₂ h₂ => ?_) fun _ _ x => x) fun _ _ x => x)
  obtain ⟨hT, h₂⟩ := h₂
  unfold subscriptTail
  refine wpAny_bind ?_
  rw [getitemInPython_of_ne hT.not_modules]
  refine wpAny_bind (wpAny_specialOf hT hl ?_)
  have fin : wpAny (model prog w) A (subscripted slice false o i) (fun r s₃ => wpAny (model prog w) A (letTemporaryGo value o r >>= fun _ => pure r) Q E s₃) E s₂ := by
    rw [hs o i]
    exact wpAny_operating (wpAny_mono h₂ (fun r s₃ h₃ => wpAny_bind (wpAny_letTemporaryGo (wpAny_pure h₃))) fun _ _ x => x)
  first
    | exact wpAny_pure (wpAny_bind fin)
    | exact wpAny_bind (wpAny_pure (wpAny_bind fin))
    | exact wpAny_bind fin

section
variable {X : Cx} {o i e value : Expr} {pos pos' tpos : Pos} {td ty tv : TE}
end


section
variable {X : Cx} {pos : Pos}
end

structure M1 (X : Cx) (o : Expr) (m : Str) (apos : Pos) (e : Expr) (cpos : Pos) : Prop where
  base : attributeBase o m X.env (eval o X.env) = eval o X.env
  few : ((backTo cpos (starEach [e] X.env)).all (fun x => !x.1) && (backToKw cpos (keywordEach [] X.env)).all (fun x => x.1.isSome)
    && decide (([e] : List Expr).length + ([] : List Keyword).length + (if ([] : List Keyword).isEmpty then 0 else 1) < 30)) = true
  line : (apos.endLine == cpos.line) = true
  trees : backTo cpos (starEach [e] X.env) = [(false, eval e X.env)]
structure M2 (X : Cx) (o : Expr) (m : Str) (apos : Pos) (e f : Expr) (cpos : Pos) : Prop where
  base : attributeBase o m X.env (eval o X.env) = eval o X.env
  few : ((backTo cpos (starEach [e, f] X.env)).all (fun x => !x.1) && (backToKw cpos (keywordEach [] X.env)).all (fun x => x.1.isSome)
    && decide (([e, f] : List Expr).length + ([] : List Keyword).length + (if ([] : List Keyword).isEmpty then 0 else 1) < 30)) = true
  line : (apos.endLine == cpos.line) = true
  trees : backTo cpos (starEach [e, f] X.env) = [(false, eval e X.env), (false, eval f X.env)]

section
variable {X : Cx} {pins : List (Addr × Obj)} {σ : St} {H : Hp} {s : Shared} {a : Addr} {y d : V} {u r : Value} {o : Option V} {A : Around} {E : Value → Shared → Prop}
end

section
variable {X : Cx} {o e f : Expr} {apos cpos : Pos} {td ty tx : TE}
end

section
variable {X : Cx} {pins : List (Addr × Obj)} {σ : St} {H : Hp} {s : Shared} {a : Addr} {kvs : List (Key × V)} {A : Around} {E : Value → Shared → Prop}
end


section
variable {X : Cx} {pins : List (Addr × Obj)} {σ : St} {H : Hp} {s : Shared} {a : Addr} {y : V} {u : Value} {A : Around} {E : Value → Shared → Prop}
end
end L2

namespace HT
open PySem PyProof.Rows

section
open PySem.SeqAt
open PySem.AutoSeq1 (wpAny_loadPart')
open PySem.MeetsSeq PySem.MeetsSeq2 PySem.MeetsSeq3

end

section
variable {prog : Program} {w : World} {A : Around} {E : Value → Shared → Prop} {s : Shared}

def sIx (n d : Nat) : Option Int → Nat
  | none => d
  | some v => if v < 0 then (v + (n : Int)).toNat else min v.toNat n
theorem sIx_le (n d : Nat) (hd : d ≤ n) (o : Option Int) : sIx n d o ≤ n := by
  cases o with
  | none => exact hd
  | some v =>
    show (if v < 0 then (v + (n : Int)).toNat else min v.toNat n) ≤ n
    by_cases hv : v < 0
    · rw [if_pos hv]; omega
    · rw [if_neg hv]; exact Nat.min_le_right _ _
theorem clip_eq (v : Int) (n d : Nat) : (if v < 0 then max (v + (n : Int)) 0 else min v (n : Int)) = ((sIx n d (some v) : Nat) : Int) := by
  show (if v < 0 then max (v + (n : Int)) 0 else min v (n : Int)) = (((if v < 0 then (v + (n : Int)).toNat else min v.toNat n) : Nat) : Int)
  by_cases hv : v < 0
  · simp only [if_pos hv]; omega
  · simp only [if_neg hv]; omega
theorem adjust_gen (lo hi : Option Int) (n : Nat) : Builtin.Slice.sliceAdjust lo hi 1 (n : Int) = (((sIx n 0 lo : Nat) : Int), ((sIx n n hi : Nat) : Int)) := by
  have h1 : ¬ ((1 : Int) < 0) := by omega
  unfold Builtin.Slice.sliceAdjust
  simp only [h1, if_false]
  refine Prod.ext ?_ ?_
  · cases lo with
    | none => rfl
    | some v => exact clip_eq v n 0
  · cases hi with
    | none => rfl
    | some v => exact clip_eq v n n
theorem places_gen (i j : Nat) : Builtin.Slice.slicePlaces (i : Int) (j : Int) 1 = j - i := by
  unfold Builtin.Slice.slicePlaces
  have h1 : (1 : Int) > 0 := by omega
  simp only [h1, if_true, Int.ediv_one]
  split <;> omega
theorem slicePart_ {v : Value} {o : Option Int} {Q : Option Int → Shared → Prop} (p : IsPart v o) (h : Q o s) : wpAny (model prog w) A (Builtin.Slice.slicePartIndex v) Q E s := by
  cases p with
  | none => exact slicePart_none h
  | int i t => exact slicePart_int h
theorem sliceApplied_gen {sl : Addr} {vl vu : Value} {lo hi : Option Int} {n : Nat} {Q : Int × Int × Nat → Shared → Prop} (hs : s.heap.IsSliceOf sl vl vu .none) (pl : IsPart vl lo) (pu : IsPart vu hi)
    (h : Q (((sIx n 0 lo : Nat) : Int), 1, sIx n n hi - sIx n 0 lo) s) : wpAny (model prog w) A (Builtin.Slice.sliceApplied (.ref sl) (pure (n : Int))) Q E s := by
  obtain ⟨os, hos, hcs, hds⟩ := id hs
  unfold Builtin.Slice.sliceApplied Builtin.Slice.sliceFields
  refine wpAny_bind (wpAny_bind (wpAny_field hos hds (x := vl) rfl (wpAny_bind (wpAny_field hos hds (x := vu) rfl (wpAny_bind (wpAny_field hos hds (x := .none) rfl (wpAny_pure ?_)))))))
  refine wpAny_bind (slicePart_none ?_)
  show wpAny _ _ (if ((1 : Int) == 0) = true then _ else _) _ _ s
  rw [if_neg (by decide)]
  refine wpAny_bind (slicePart_ pl (wpAny_bind (slicePart_ pu (wpAny_bind (wpAny_pure ?_)))))
  show wpAny _ _ (match Builtin.Slice.sliceAdjust lo hi 1 (n : Int) with | (lo, hi) => pure (lo, (1 : Int), Builtin.Slice.slicePlaces lo hi 1)) _ _ s
  rw [adjust_gen lo hi n]
  show wpAny _ _ (pure (((sIx n 0 lo : Nat) : Int), (1 : Int), Builtin.Slice.slicePlaces ((sIx n 0 lo : Nat) : Int) ((sIx n n hi : Nat) : Int) 1)) _ _ s
  rw [places_gen]
  exact wpAny_pure h
theorem pick_gen (xs : Array Value) (i k : Nat) : ((List.range k).filterMap fun (m : Nat) => xs[((i : Int) + (m : Int) * 1).toNat]?).toArray = ((xs.toList.drop i).take k).toArray := by
  have e : (fun (m : Nat) => xs[((i : Int) + (m : Int) * 1).toNat]?) = fun m => xs[i + m]? := by
    funext m
    have : ((i : Int) + (m : Int) * 1).toNat = i + m := by omega
    rw [this]
  rw [e]
  have := pick_run xs i k
  rw [List.filterMap_map] at this
  have e2 : ((fun x => xs[x]?) ∘ fun x => i + x) = fun m => xs[i + m]? := rfl
  rw [e2] at this
  rw [this]

theorem getItem_tuple_cut {t sl : Addr} {items : Array Value} {vl vu : Value} {lo hi : Option Int} {Q : Value → Shared → Prop} (ht : IsTup s.heap t items) (hs : s.heap.IsSliceOf sl vl vu .none) (pl : IsPart vl lo) (pu : IsPart vu hi)
    (hw : ¬ (sIx items.size 0 lo = 0 ∧ sIx items.size items.size hi = items.size))
    (h : Q (.ref s.heap.objs.size) { s with heap := s.heap.push { cls := .type "tuple", data := .seq ((items.toList.drop (sIx items.size 0 lo)).take (sIx items.size items.size hi - sIx items.size 0 lo)).toArray } })
    (hsz : items.size ≤ sizeLine) : wpAny (model prog w) A (getItem (.ref t) (.ref sl)) Q E s := by
  have htake : sizeOk (.seq ((items.toList.drop (sIx items.size 0 lo)).take (sIx items.size items.size hi - sIx items.size 0 lo)).toArray) := by
    show ((items.toList.drop (sIx items.size 0 lo)).take (sIx items.size items.size hi - sIx items.size 0 lo)).toArray.size ≤ sizeLine
    rw [List.size_toArray, List.length_take, List.length_drop, Array.length_toList]
    omega
  have hj : sIx items.size items.size hi ≤ items.size := sIx_le _ _ (Nat.le_refl _) hi
  obtain ⟨os, hos, hcs, hds⟩ := id hs
  have hTs : s.TypeIs (.ref sl) "slice" := ⟨os, hos, hcs⟩
  unfold getItem
  try with_reducible refine wpAny_holding ?_
  first | refine wpAny_bind (wpAny_pure ?_) | skip
  refine wpAny_bind (wpAny_sequenceKey ht.typeIs (by decide) ?_)
  refine wpAny_bind (wpAny_callSpecial?_slot (name := Str.ofString "__getitem__") ht.typeIs PyProof.Rows.slot_tuple_getitem
    (wpAny_call_entry PyProof.Rows.slot_tuple_getitem ht.typeIs entry_tuple_getitem ?_ (args_tuple_getitem _ _)))
  show wpAny _ _ (Builtin.Tuple.tupleItemsOf (.ref t) >>= _) _ _ s
  refine wpAny_bind (tupleItemsOf_ ht ?_)
  refine wpAny_bind (wpAny_typeOf hTs ?_)
  rw [if_pos (by decide)]
  refine wpAny_bind (sliceApplied_gen hs pl pu ?_)
  have hno : ¬ ((((sIx items.size 0 lo : Nat) : Int) == 0 && (1 : Int) == 1 && (sIx items.size items.size hi - sIx items.size 0 lo) == items.size) = true) := by
    intro q
    rw [Bool.and_eq_true, Bool.and_eq_true] at q
    have q1 : ((sIx items.size 0 lo : Nat) : Int) = 0 := eq_of_beq q.1.1
    have q2 : sIx items.size items.size hi - sIx items.size 0 lo = items.size := eq_of_beq q.2
    exact hw ⟨by omega, by omega⟩
  show wpAny _ _ (if (((sIx items.size 0 lo : Nat) : Int) == 0 && (1 : Int) == 1 && (sIx items.size items.size hi - sIx items.size 0 lo) == items.size) = true then _ else _) _ _ s
  rw [if_neg hno, pick_gen]
  first
    | exact wpAny_bind (m := Builtin.Tuple.tupleExact _) (wpAny_newObj_type (wpAny_pure ⟨_, rfl, wpAny_pure h⟩) htake)
    | exact wpAny_bind (m := Builtin.Tuple.tupleExact _) (wpAny_newObj_type (wpAny_bind (wpAny_pure (wpAny_pure ⟨_, rfl, wpAny_pure h⟩))) htake)
    | exact wpAny_bind (wpAny_bind (m := Builtin.Tuple.tupleExact _) (wpAny_newObj_type (wpAny_pure (wpAny_pure ⟨_, rfl, wpAny_pure h⟩)) htake))
    | exact wpAny_bind (wpAny_bind (m := Builtin.Tuple.tupleExact _) (wpAny_newObj_type (wpAny_pure ⟨_, rfl, wpAny_pure h⟩) htake))
end
end HT

namespace L2
open PySem PySem.Spec PyProof.Rows

abbrev TO := St → Hp → (Option Int → Hp → Prop) → Prop
def PO (X : Cx) (e : Option Expr) (t : TO) : Prop :=
  ∀ (pins : List (Addr × Obj)) (s : Shared) (σ : St) (H : Hp) (Q : Option Int → Hp → Prop), Inv X pins σ H s → t σ H Q →
    wpAny (model X.prog X.w) X.A (evalPart e X.env) (fun u s' => ∃ o H', Inv X pins σ H' s' ∧ IsPart u o ∧ Q o H') X.xe s
def tNoPart : TO := fun _ H Q => Q none H
def tPart (t : TE) : TO := fun σ H Q => t σ H fun x H1 => ∃ i, x = .int i ∧ Q (some i) H1

section
variable {X : Cx} {e : Expr} {te : TE} {lo hi : Option Expr} {tl th : TO} {pos p2 : Pos}

theorem po_none : PO X none tNoPart := by
  intro pins s σ H Q I h
  rw [evalPart_none]
  exact wpAny_pure ⟨none, H, I, .none, h⟩
theorem po_some (h : PE X e te) : PO X (some e) (tPart te) := by
  intro pins s σ H Q I hw
  rw [evalPart_some]
  refine thn (h pins s σ H _ I hw) fun u s1 ⟨x, H1, I1, r1, q1⟩ => ?_
  obtain ⟨i, rfl, q⟩ := q1
  obtain ⟨t, rfl⟩ := r1
  exact ⟨some i, H1, I1, .int i t, q⟩

def SlR (X : Cx) (r : V → Option Int → Option Int → Hp → VK → Prop) : Prop :=
  ∀ (pins : List (Addr × Obj)) (s : Shared) (σ : St) (H : Hp) (x : V) (v vl vu : Value) (lo hi : Option Int) (sl : Addr) (Q : VK), Inv X pins σ H s → RelV x v → s.heap.IsSliceOf sl vl vu .none → IsPart vl lo → IsPart vu hi → r x lo hi H Q →
    ∃ T id, typeLookup (.type T) "__getitem__" = pure (some (.builtin id)) ∧ s.TypeIs v T ∧ wpAny (model X.prog X.w) X.A (getItem v (.ref sl)) (EP X pins σ Q) X.xe s
theorem SlR.or {r r' : V → Option Int → Option Int → Hp → VK → Prop} (h : SlR X r) (h' : SlR X r') : SlR X (fun x lo hi H Q => r x lo hi H Q ∨ r' x lo hi H Q) := by
  intro pins s σ H x v vl vu lo hi sl Q I rx hs pl pu q
  rcases q with q | q
  · exact h pins s σ H x v vl vu lo hi sl Q I rx hs pl pu q
  · exact h' pins s σ H x v vl vu lo hi sl Q I rx hs pl pu q
def tSl (r : V → Option Int → Option Int → Hp → VK → Prop) (te : TE) (tl th : TO) : TE := fun σ H Q => te σ H fun x H1 => tl σ H1 fun l H2 => th σ H2 fun u H3 => r x l u H3 Q
theorem pe_slice {r : V → Option Int → Option Int → Hp → VK → Prop} (hr : SlR X r) (he : PE X e te) (hl : PO X lo tl) (hu : PO X hi th) : PE X (.Subscript e (.Slice lo hi none p2) pos) (tSl r te tl th) := by
  intro pins s σ H Q I h
  refine Subscript_ (thn (he pins s σ H _ I h) fun v s1 ⟨x, H1, I1, r1, q1⟩ => ?_)
  refine wpAny_Slice (thn (hl pins s1 σ H1 _ I1 q1) fun vl s2 ⟨l, H2, I2, pl, q2⟩ => thn (hu pins s2 σ H2 _ I2 q2) fun vu s3 ⟨u, H3, I3, pu, q3⟩ => ?_)
  rw [evalPart_none]
  refine wpAny_pure ?_
  have I4 : Inv X pins σ H3 { s3 with heap := s3.heap.push { cls := .type "slice", data := .fields #[vl, vu, .none] } } := I3.kept (t' := s3.toks) fun b ob q => Heap.get?_push_of_some _ q
  obtain ⟨T, id, hT, ht, hg⟩ := hr pins { s3 with heap := s3.heap.push { cls := .type "slice", data := .fields #[vl, vu, .none] } } σ H3 x v vl vu l u s3.heap.objs.size Q I4 r1 (Heap.IsSliceOf.new ..) pl pu q3
  show wpAny (model X.prog X.w) X.A (subscriptTail e (.Slice lo hi none p2) v (.ref s3.heap.objs.size)) (EP X pins σ Q) X.xe { s3 with heap := s3.heap.push { cls := .type "slice", data := .fields #[vl, vu, .none] } }
  exact tail_any (ops := [.ref s3.heap.objs.size, v]) ht hT hg (by with_unfolding_all rfl)

def cutV (xs : List V) (lo hi : Option Int) : List V := (xs.drop (HT.sIx xs.length 0 lo)).take (HT.sIx xs.length xs.length hi - HT.sIx xs.length 0 lo)
theorem cutV_length (xs : List V) (lo hi : Option Int) : (cutV xs lo hi).length ≤ xs.length := by
  unfold cutV
  rw [List.length_take, List.length_drop]
  omega
def rSlT (K : PySem.W.Frag) : V → Option Int → Option Int → Hp → VK → Prop := fun x lo hi H Q => ∃ a xs, x = .ref a ∧ SqT K H a xs ∧
  ¬ (HT.sIx xs.length 0 lo = 0 ∧ HT.sIx xs.length xs.length hi = xs.length) ∧ ∀ p, H p = none → Q (.ref p) (upd H p (.tup (cutV xs lo hi)))
theorem sl_tup : SlR X (rSlT X.K) := by
  intro pins s σ H x v vl vu lo hi sl Q I rx hs pl pu h
  obtain ⟨a, xs, rfl, hx, hw, q⟩ := h
  cases rx
  obtain ⟨its, r, ht, hz⟩ := I.tuple hx
  have hlen : its.toArray.size = xs.length := by rw [List.size_toArray]; exact r.length.symm
  refine ⟨"tuple", _, PyProof.Rows.slot_tuple_getitem.lookup, ht.typeIs, ?_⟩
  refine HT.getItem_tuple_cut ht hs pl pu (by rw [hlen]; exact hw) ?_ (by rw [hlen]; exact hz)
  rw [hlen]
  refine ⟨.ref s.heap.objs.size, _, I.laid (t' := s.toks) (o := .tup (cutV xs lo hi)) (fun b ob q => Heap.get?_push_of_some _ q) (Nat.le_refl _) ?_, rfl, q _ (I.hok.fresh (Nat.le_refl _))⟩
  exact ⟨Nat.le_trans (cutV_length xs lo hi) hz, _, (r.drop (HT.sIx xs.length 0 lo)).take (HT.sIx xs.length xs.length hi - HT.sIx xs.length 0 lo), IsTup.new _ _⟩

end
end L2

namespace L2
open PySem PySem.Spec PyProof.Rows

def ixN (n : Nat) (i : Int) : Option Nat := if 0 ≤ i then (if i < n then some i.toNat else none) else if -(n : Int) ≤ i then some (i + n).toNat else none
def atI {α : Type} (xs : List α) (i : Int) : Option α := (ixN xs.length i).bind fun j => xs[j]?
theorem ixN_seq {n : Nat} {i : Int} {j : Nat} (h : ixN n i = some j) : seqIndex? i n = some j ∧ j < n ∧ -(n : Int) ≤ i ∧ i < n := by
  unfold ixN at h
  by_cases h0 : 0 ≤ i
  · rw [if_pos h0] at h
    by_cases h1 : i < n
    · rw [if_pos h1] at h
      have e : i.toNat = j := Option.some.inj h
      exact ⟨by rw [seqIndex_of h0 h1, e], by omega, by omega, h1⟩
    · rw [if_neg h1] at h; cases h
  · rw [if_neg h0] at h
    by_cases h1 : -(n : Int) ≤ i
    · rw [if_pos h1] at h
      have e : (i + n).toNat = j := Option.some.inj h
      exact ⟨by rw [seqIndex_neg (by omega) h1, e], by omega, h1, by omega⟩
    · rw [if_neg h1] at h; cases h
theorem atI_get {α : Type} {xs : List α} {i : Int} {v : α} (h : atI xs i = some v) : ∃ j, seqIndex? i xs.length = some j ∧ xs[j]? = some v ∧ j < xs.length ∧ -(xs.length : Int) ≤ i ∧ i < xs.length := by
  unfold atI at h
  cases e : ixN xs.length i with
  | none => rw [e] at h; cases h
  | some j =>
    rw [e] at h
    obtain ⟨h1, h2, h3, h4⟩ := ixN_seq e
    exact ⟨j, h1, h, h2, h3, h4⟩
theorem atI_nat {α : Type} {xs : List α} {j : Nat} {v : α} (h : xs[j]? = some v) : atI xs (j : Int) = some v := by
  have hj : j < xs.length := (List.getElem?_eq_some_iff.mp h).1
  have e : ixN xs.length (j : Int) = some j := by
    unfold ixN
    rw [if_pos (by omega), if_pos (by omega)]; simp
  unfold atI; rw [e]; exact h
theorem atI_last {α : Type} (xs : List α) (v : α) : atI (xs ++ [v]) (-1) = some v := by
  have hl : (xs ++ [v]).length = xs.length + 1 := by simp
  have e : ixN (xs ++ [v]).length (-1) = some xs.length := by
    unfold ixN
    rw [hl, if_neg (by decide), if_pos (by omega)]
    congr 1
    omega
  unfold atI
  rw [e]
  show (xs ++ [v])[xs.length]? = some v
  simp

def PlainIx (b : Expr) : Prop := ∀ o i, subscripted b false o i = operate [o, i] (getItem o i)
def IxR (X : Cx) (r : R2) : Prop :=
  ∀ (value slice : Expr) (pins : List (Addr × Obj)) (s : Shared) (σ : St) (H : Hp) (x y : V) (v u : Value) (Q : VK), Inv X pins σ H s → RelV x v → RelV y u → r x y H Q →
    subscripted slice false v u = operate [v, u] (getItem v u) → wpAny (model X.prog X.w) X.A (subscriptTail value slice v u) (EP X pins σ Q) X.xe s
def MtR (X : Cx) (id : String) (r : V → List V → Hp → VK → Prop) : Prop :=
  ∀ (pins : List (Addr × Obj)) (s : Shared) (σ : St) (H : Hp) (x : V) (xs : List V) (v : Value) (us : List Value) (Q : VK), Inv X pins σ H s → RelV x v → Vals xs us → r x xs H Q →
    wpAny (model X.prog X.w) X.A (call (.builtin id) (v :: us)) (EP X pins σ Q) X.xe s
section
variable {X : Cx} {a b : Expr} {ta tb : TE} {pos : Pos}
theorem IxR.or {r r' : R2} (h : IxR X r) (h' : IxR X r') : IxR X (fun x y H Q => r x y H Q ∨ r' x y H Q) := by
  intro value slice pins s σ H x y v u Q I rx ry q hs
  rcases q with q | q
  · exact h value slice pins s σ H x y v u Q I rx ry q hs
  · exact h' value slice pins s σ H x y v u Q I rx ry q hs
theorem MtR.or {id : String} {r r' : V → List V → Hp → VK → Prop} (h : MtR X id r) (h' : MtR X id r') : MtR X id (fun x xs H Q => r x xs H Q ∨ r' x xs H Q) := by
  intro pins s σ H x xs v us Q I rx rs q
  rcases q with q | q
  · exact h pins s σ H x xs v us Q I rx rs q
  · exact h' pins s σ H x xs v us Q I rx rs q
theorem pe_ix {r : R2} (hr : IxR X r) (ha : PE X a ta) (hb : PE X b tb) (hs : PlainIx b) : PE X (.Subscript a b pos) (tOp r ta tb) := by
  intro pins s σ H Q I h
  exact Subscript_ (binT ha hb I h fun v u s2 x y H2 I2 rx ry q => hr a b pins s2 σ H2 x y v u Q I2 rx ry q (hs _ _))

def rIxL (K : PySem.W.Frag) : R2 := fun x y H Q => ∃ p xs i v, x = .ref p ∧ y = .int i ∧ SqL K H p xs ∧ atI xs i = some v ∧ Q v H
def rIxT (K : PySem.W.Frag) : R2 := fun x y H Q => ∃ p xs i v, x = .ref p ∧ y = .int i ∧ SqT K H p xs ∧ atI xs i = some v ∧ Q v H
def rIxS : R2 := fun x y H Q => ∃ z i c, x = .str z ∧ y = .int i ∧ z.length ≤ sizeLine ∧ atI z.cps.toList i = some c ∧ Q (.str ⟨#[c]⟩) H
theorem ix_list : IxR X (rIxL X.K) := by
  intro value slice pins s σ H x y v u Q I rx ry h hs
  obtain ⟨p, xs, i, z, rfl, rfl, hq, he, q⟩ := h
  cases rx
  obtain ⟨t, rfl⟩ := ry
  obtain ⟨its, r, pl, hz⟩ := I.list hq
  obtain ⟨j, h1, h2, h3, h4, h5⟩ := atI_get he
  obtain ⟨w, ew, rw'⟩ := r.get h2
  have hl := r.length
  have hn := line63
  have fin : EP X pins σ Q w s := ⟨z, H, I, rw', q⟩
  by_cases h0 : 0 ≤ i
  · have hj : i.toNat = j := by
      rw [seqIndex_of h0 h5] at h1
      exact Option.some.inj h1
    exact item_listR pl.isList h0 (by omega) (by rw [hj]; simpa using ew) fin hs
  · have hj : (i + (its.toArray.size : Int)).toNat = j := by
      rw [seqIndex_neg (by omega) h4] at h1
      rw [List.size_toArray, ← hl]
      exact Option.some.inj h1
    exact subscriptTail_builtinR (x := w) pl.isList.typeIs slot_list_getitem.lookup
      (wpAny_getItem_list_neg (Q := fun r s' => r = w ∧ EP X pins σ Q r s') pl.isList (by omega) (by rw [List.size_toArray] <;> omega) (by omega) (by rw [hj]; simpa using ew) ⟨rfl, fin⟩) hs
theorem ix_tup : IxR X (rIxT X.K) := by
  intro value slice pins s σ H x y v u Q I rx ry h hs
  obtain ⟨p, xs, i, z, rfl, rfl, hq, he, q⟩ := h
  cases rx
  obtain ⟨t, rfl⟩ := ry
  obtain ⟨its, r, pl, hz⟩ := I.tuple hq
  obtain ⟨j, h1, h2, h3, h4, h5⟩ := atI_get he
  obtain ⟨w, ew, rw'⟩ := r.get h2
  have hl := r.length
  have hn := line63
  have fin : EP X pins σ Q w s := ⟨z, H, I, rw', q⟩
  exact subscriptTail_builtinR (x := w) pl.typeIs slot_tuple_getitem.lookup
    (getItem_tuple (j := j) (Q := fun r s' => r = w ∧ EP X pins σ Q r s') pl (by omega) (by omega) (by rw [List.size_toArray, ← hl]; exact h1) (by simpa using ew) ⟨rfl, fin⟩) hs
theorem ix_str : IxR X rIxS := by
  intro value slice pins s σ H x y v u Q I rx ry h hs
  obtain ⟨z, i, c, rfl, rfl, hz, he, q⟩ := h
  obtain ⟨t, rfl⟩ := rx
  obtain ⟨t', rfl⟩ := ry
  obtain ⟨j, h1, h2, h3, h4, h5⟩ := atI_get he
  have hl : z.cps.toList.length = z.length := by simp [Str.length]
  rw [hl] at h1 h4 h5
  have hn := line63
  exact tail_any (typeIs_str s z t) slot_str_getitem.lookup (getItem_str (c := c) (by
    have e1 : decide (i < -(2 ^ 63 : Int)) = false := decide_eq_false (by omega)
    have e2 : decide (i ≥ 2 ^ 63) = false := decide_eq_false (by omega)
    rw [e1, e2, Bool.or_false]) (by rw [h1]; simpa using h2) ⟨.str ⟨#[c]⟩, H, I.tok _, ⟨_, rfl⟩, q⟩) hs
theorem mapSeq_set (its : List Value) (n j : Nat) (u : Value) : Obj.mapSeq (·.setIfInBounds j u) { cls := .type "list", data := .seq its.toArray n } = { cls := .type "list", data := .seq (its.set j u).toArray n } := by
  simp [Obj.mapSeq]
theorem Inv.lst {pins : List (Addr × Obj)} {σ : St} {H : Hp} {s : Shared} {p : Addr} {xs : List V} (I : Inv X pins σ H s) (h : H p = some (.lst xs)) :
    ∃ (its : List Value) (n : Nat), Vals xs its ∧ s.heap.get? p = some { cls := .type "list", data := .seq its.toArray n } ∧ xs.length ≤ sizeLine := by
  obtain ⟨z, its, n, r, e⟩ := I.hok p _ h
  exact ⟨its, n, r, e, z⟩
theorem Inv.lstUpd {pins : List (Addr × Obj)} {σ : St} {H : Hp} {s : Shared} {p : Addr} {xs ys : List V} {its its' : List Value} {n n' : Nat} {f : Obj → Obj} (I : Inv X pins σ H s) (h : H p = some (.lst xs))
    (ho : s.heap.get? p = some { cls := .type "list", data := .seq its.toArray n }) (hf : f { cls := .type "list", data := .seq its.toArray n } = { cls := .type "list", data := .seq its'.toArray n' }) (r : Vals ys its') (hz : ys.length ≤ sizeLine) (t : Nat) :
    Inv X pins σ (upd H p (.lst ys)) { s with heap := s.heap.update p f, toks := t } := by
  have e : (s.heap.update p f).get? p = some { cls := .type "list", data := .seq its'.toArray n' } := by
    rw [Heap.get?_update_self f ho (by rw [hf] <;> rfl), hf]
  refine I.write (x := p) (e := p) (by rw [h]; trivial) (.inl rfl) (fun b u hb q => (Heap.get?_update_other _ _ (Ne.symm hb)).trans q) ⟨_, e⟩ ?_
  exact ⟨hz, its', n', r, e⟩
def rSetL : V → V → V → Hp → (Hp → Prop) → Prop := fun o i v H Q => ∃ p xs k j, o = .ref p ∧ i = .int k ∧ H p = some (.lst xs) ∧ ixN xs.length k = some j ∧ Q (upd H p (.lst (xs.set j v)))
theorem set_list : PSet X rSetL := by
  intro pins s σ H o i v ov iv u Q I ro ri rv h
  obtain ⟨p, xs, k, j, rfl, rfl, hp, hj, q⟩ := h
  cases ro
  obtain ⟨t, rfl⟩ := ri
  obtain ⟨its, n, r, ho, hz⟩ := I.lst hp
  obtain ⟨h1, h2, h3, h4⟩ := ixN_seq hj
  have hl := r.length
  have hn := line63
  have I' : Inv X pins σ (upd H p (.lst (xs.set j v))) { s with heap := s.heap.update p (Obj.mapSeq (·.setIfInBounds j u)) } :=
    I.lstUpd hp ho (mapSeq_set its n j u) (r.set rv j) (by rw [List.length_set]; exact hz) s.toks
  by_cases h0 : 0 ≤ k
  · have hk : k.toNat = j := by
      rw [seqIndex_of h0 h4] at h1
      exact Option.some.inj h1
    exact PySem.W.ki_setAt ho h0 (by omega) (by rw [List.size_toArray, ← hl]; exact h4) (by rw [hk]; exact ⟨_, I', q⟩)
  · have hk : (k + (its.toArray.size : Int)).toNat = j := by
      rw [seqIndex_neg (by omega) h3] at h1
      rw [List.size_toArray, ← hl]
      exact Option.some.inj h1
    exact PySem.W.ki_setBack ho (by omega) (by rw [List.size_toArray, ← hl]; exact h3) (by omega) (by rw [hk]; exact ⟨_, I', q⟩)

theorem slice_bounds (lo hi : Option Int) (n : Nat) : (sliceBounds lo hi none n).1 = ((HT.sIx n 0 lo : Nat) : Int) ∧ (sliceBounds lo hi none n).2.1 = ((HT.sIx n n hi : Nat) : Int) ∧ (sliceBounds lo hi none n).2.2 = 1 := by
  refine ⟨?_, ?_, rfl⟩
  · cases lo with
    | none => simp [sliceBounds, HT.sIx]
    | some i =>
      simp only [sliceBounds, HT.sIx, Option.getD_none, show (1 : Int) > 0 by decide, if_true]
      by_cases h : i < 0
      · simp only [h, if_true] <;> omega
      · simp only [h, if_false] <;> omega
  · cases hi with
    | none => simp [sliceBounds, HT.sIx]
    | some i =>
      simp only [sliceBounds, HT.sIx, Option.getD_none, show (1 : Int) > 0 by decide, if_true]
      by_cases h : i < 0
      · simp only [h, if_true] <;> omega
      · simp only [h, if_false] <;> omega
theorem slicePick_cut (its : List Value) (lo hi : Option Int) : slicePick its.toArray lo hi none = ((its.drop (HT.sIx its.length 0 lo)).take (HT.sIx its.length its.length hi - HT.sIx its.length 0 lo)).toArray := by
  obtain ⟨h1, h2, h3⟩ := slice_bounds lo hi its.toArray.size
  unfold slicePick
  rw [h1, h2, h3]
  simp only [sliceRange_one, pick_run, List.size_toArray] <;> rfl
def rSlL (K : PySem.W.Frag) : V → Option Int → Option Int → Hp → VK → Prop := fun x lo hi H Q => ∃ a xs, x = .ref a ∧ SqL K H a xs ∧ ∀ p, H p = none → Q (.ref p) (upd H p (.lst (cutV xs lo hi)))
theorem sl_list : SlR X (rSlL X.K) := by
  intro pins s σ H x v vl vu lo hi sl Q I rx hs pl pu h
  obtain ⟨a, xs, rfl, hx, q⟩ := h
  cases rx
  obtain ⟨its, r, ht, hz⟩ := I.list hx
  have hlen := r.length
  refine ⟨"list", _, slot_list_getitem.lookup, ht.isList.typeIs, ?_⟩
  refine wpAny_getItem_list_slice ht.isList hs pl pu .none (by simp) ?_ (by rw [List.size_toArray] <;> omega)
  rw [slicePick_cut, ← hlen]
  refine ⟨.ref s.heap.objs.size, _, I.laid (t' := s.toks) (o := .lst (cutV xs lo hi)) (fun b ob q => Heap.get?_push_of_some _ q) (Nat.le_refl _) ?_, rfl, q _ (I.hok.fresh (Nat.le_refl _))⟩
  exact ⟨Nat.le_trans (cutV_length xs lo hi) hz, _, 0, (r.drop (HT.sIx xs.length 0 lo)).take (HT.sIx xs.length xs.length hi - HT.sIx xs.length 0 lo), Heap.get?_push_size _ rfl⟩

def flatV : V → Bool
  | .non => true
  | .bl _ => true
  | .int _ => true
  | .str _ => true
  | _ => false
def eqV : V → V → Bool
  | .non, .non => true
  | .bl a, .bl b => a == b
  | .bl a, .int b => (if a then 1 else 0) == b
  | .int a, .bl b => a == (if b then 1 else 0)
  | .int a, .int b => a == b
  | .str a, .str b => a == b
  | _, _ => false
theorem eqAt_V {A : Around} {s : Shared} {y x : V} {u v : Value} (ry : RelV y u) (rx : RelV x v) (fy : flatV y = true) (fx : flatV x = true) : SeqAt.EqAt A s u v (eqV y x) := by
  cases y with
  | non =>
    cases ry
    cases x with
    | non => cases rx; exact SeqAt.EqAt.same _
    | bl b => cases rx; exact SeqAt.EqAt.none_bool b
    | int b => obtain ⟨t, rfl⟩ := rx; exact SeqAt.EqAt.none_int b t
    | str b => obtain ⟨t, rfl⟩ := rx; exact SeqAt.EqAt.none_str b t
    | _ => exact absurd (show false = true from fx) Bool.false_ne_true
  | bl a =>
    cases ry
    cases x with
    | non => cases rx; exact SeqAt.EqAt.bool_none a
    | bl b => cases rx; exact SeqAt.EqAt.bool_bool a b
    | int b => obtain ⟨t, rfl⟩ := rx; exact SeqAt.EqAt.bool_int a b t
    | str b => obtain ⟨t, rfl⟩ := rx; exact SeqAt.EqAt.bool_str a b t
    | _ => exact absurd (show false = true from fx) Bool.false_ne_true
  | int a =>
    obtain ⟨t', rfl⟩ := ry
    cases x with
    | non => cases rx; exact SeqAt.EqAt.int_none a t'
    | bl b => cases rx; exact SeqAt.EqAt.int_bool a t' b
    | int b => obtain ⟨t, rfl⟩ := rx; exact SeqAt.EqAt.int_int a t' b t
    | str b => obtain ⟨t, rfl⟩ := rx; exact SeqAt.EqAt.int_str a t' b t
    | _ => exact absurd (show false = true from fx) Bool.false_ne_true
  | str a =>
    obtain ⟨t', rfl⟩ := ry
    cases x with
    | non => cases rx; exact SeqAt.EqAt.str_none a t'
    | bl b => cases rx; exact SeqAt.EqAt.str_bool a t' b
    | int b => obtain ⟨t, rfl⟩ := rx; exact SeqAt.EqAt.str_int a t' b t
    | str b => obtain ⟨t, rfl⟩ := rx; exact SeqAt.EqAt.str_str a t' b t
    | _ => exact absurd (show false = true from fx) Bool.false_ne_true
  | _ => exact absurd (show false = true from fy) Bool.false_ne_true
def eqU (x : V) (u : Value) : Bool := match u with
  | .none => eqV .non x
  | .bool b => eqV (.bl b) x
  | .int i _ => eqV (.int i) x
  | .str z _ => eqV (.str z) x
  | _ => false
theorem eqU_of {x y : V} {u : Value} (r : RelV y u) (f : flatV y = true) : eqU x u = eqV y x := by
  cases y with
  | non => cases r; rfl
  | bl b => cases r; rfl
  | int i => obtain ⟨t, rfl⟩ := r; rfl
  | str z => obtain ⟨t, rfl⟩ := r; rfl
  | _ => exact absurd (show false = true from f) Bool.false_ne_true
theorem any_eqU {x : V} : ∀ {xs : List V} {us : List Value}, Vals xs us → xs.all flatV = true → us.any (eqU x) = xs.any fun y => eqV y x
  | _, _, .nil, _ => rfl
  | y :: xs, u :: us, .cons r t, f => by
    rw [List.all_cons, Bool.and_eq_true] at f
    rw [List.any_cons, List.any_cons, eqU_of r f.1, any_eqU t f.2]
theorem mem_eqAt {A : Around} {s : Shared} {x : V} {v : Value} (rx : RelV x v) (fx : flatV x = true) : ∀ {xs : List V} {us : List Value}, Vals xs us → xs.all flatV = true → ∀ u ∈ us, SeqAt.EqAt A s u v (eqU x u)
  | _, _, .nil, _ => fun u hu => by cases hu
  | y :: xs, u :: us, .cons r t, f => fun u' hu => by
    rw [List.all_cons, Bool.and_eq_true] at f
    rcases List.mem_cons.mp hu with rfl | hu
    · rw [eqU_of r f.1]; exact eqAt_V r rx f.1 fx
    · exact mem_eqAt rx fx t f.2 u' hu
def inV (x : V) (xs : List V) : Bool := xs.any fun y => eqV y x
def rIn (K : PySem.W.Frag) (neg : Bool) : R2 := fun x y H Q => ∃ p xs, y = .ref p ∧ (SqL K H p xs ∨ SqT K H p xs) ∧ flatV x = true ∧ xs.all flatV = true ∧ Q (.bl (if neg then !inV x xs else inV x xs)) H
theorem op_notIn_seq : OpR X (compareOp .NotIn) (rIn X.K true) := by
  intro pins s σ H x y v u Q I rx ry h
  obtain ⟨p, xs, rfl, hq, fx, fs, q⟩ := h
  cases ry
  rcases hq with hq | hq
  · obtain ⟨its, r, pl, hz⟩ := I.list hq
    refine SeqAt.notIn_listAt (eqU x) pl.isList (fun w hw => mem_eqAt rx fx r fs w (by simpa using hw)) ⟨.bl _, H, I, rfl, ?_⟩
    rw [show its.toArray.any (eqU x) = its.any (eqU x) by simp, any_eqU r fs]
    exact q
  · obtain ⟨its, r, pl, hz⟩ := I.tuple hq
    refine SeqAt.notIn_tupleAt (eqU x) pl (fun w hw => mem_eqAt rx fx r fs w (by simpa using hw)) ⟨.bl _, H, I, rfl, ?_⟩
    rw [show its.toArray.any (eqU x) = its.any (eqU x) by simp, any_eqU r fs]
    exact q
theorem op_notIn_str : OpR X (compareOp .NotIn) (fun x y H Q => ∃ i j, x = .str i ∧ y = .str j ∧ Q (.bl (!(!(Builtin.Str.occurrences j i 0 j.length 1).isEmpty))) H) := by
  intro pins s σ H x y v u Q I rx ry h
  obtain ⟨i, j, rfl, rfl, q⟩ := h
  obtain ⟨t, rfl⟩ := rx
  obtain ⟨t', rfl⟩ := ry
  exact notIn_str ⟨.bl _, H, I, rfl, q⟩

theorem call_len_seq : CallR X (.builtin "len") (fun xs H Q => ∃ p ys, xs = [.ref p] ∧ (SqL X.K H p ys ∨ SqT X.K H p ys) ∧ Q (.int ys.length) H) := by
  intro pins s σ H xs us Q I r h
  obtain ⟨p, ys, rfl, hq, q⟩ := h
  obtain ⟨u, rfl, rx⟩ := vals1 r
  cases rx
  have hn := line63
  rcases hq with hq | hq
  · obtain ⟨its, r', pl, hz⟩ := I.list hq
    have hlen := r'.length
    exact Calls.call_len_list pl.isList (by simp only [List.size_toArray] <;> omega) ⟨.int ys.length, H, I.tok _, ⟨s.toks + 1, by rw [List.size_toArray, hlen]⟩, q⟩
  · obtain ⟨its, r', pl, hz⟩ := I.tuple hq
    have hlen := r'.length
    exact len_tuple pl (by simp only [List.size_toArray] <;> omega) ⟨.int ys.length, H, I.tok _, ⟨s.toks + 1, by rw [List.size_toArray, hlen]⟩, q⟩
theorem CallR.or {f : Value} {r r' : List V → Hp → VK → Prop} (h : CallR X f r) (h' : CallR X f r') : CallR X f (fun xs H Q => r xs H Q ∨ r' xs H Q) := by
  intro pins s σ H xs us Q I rs q
  rcases q with q | q
  · exact h pins s σ H xs us Q I rs q
  · exact h' pins s σ H xs us Q I rs q
theorem call_list_of : CallR X (.type "list") (fun xs H Q => ∃ p ys, xs = [.ref p] ∧ (SqL X.K H p ys ∨ SqT X.K H p ys) ∧ ∀ l, H l = none → Q (.ref l) (upd H l (.lst ys))) := by
  intro pins s σ H xs us Q I r h
  obtain ⟨p, ys, rfl, hq, q⟩ := h
  obtain ⟨u, rfl, rx⟩ := vals1 r
  cases rx
  have fin : ∀ (its : List Value), Vals ys its → ys.length ≤ sizeLine → ∀ (h' : Heap) (c' : Nat), (∀ b o', s.heap.get? b = some o' → h'.get? b = some o') →
      h'.get? s.heap.objs.size = some { cls := .type "list", dict := none, data := .seq its.toArray c', slots := #[] } → EP X pins σ Q (.ref s.heap.objs.size) { s with heap := h' } := fun its r' hz h' c' kp e =>
    ⟨.ref s.heap.objs.size, _, I.laid (t' := s.toks) kp (Nat.le_refl _) (show ObjOk X.prog X.w _ h' _ (.lst ys) from ⟨hz, its, c', r', e⟩), rfl, q _ (I.hok.fresh (Nat.le_refl _))⟩
  rcases hq with hq | hq
  · obtain ⟨its, r', pl, hz⟩ := I.list hq
    have hlen := r'.length
    obtain ⟨o, ho, hc, n, hd⟩ := pl.isList
    exact call_list_seq p (.inl rfl) ho hc hd (fun h' c' kp e => fin its r' hz h' c' kp e) (by simp only [List.size_toArray] <;> omega)
  · obtain ⟨its, r', pl, hz⟩ := I.tuple hq
    have hlen := r'.length
    obtain ⟨o, ho, hc, n, hd⟩ := pl
    exact call_list_seq p (.inr rfl) ho hc hd (fun h' c' kp e => fin its r' hz h' c' kp e) (by simp only [List.size_toArray] <;> omega)
theorem call_tuple_of : CallR X (.type "tuple") (fun xs H Q => ∃ p ys, xs = [.ref p] ∧ ((SqL X.K H p ys ∧ ∀ l, H l = none → Q (.ref l) (upd H l (.tup ys))) ∨ (SqT X.K H p ys ∧ Q (.ref p) H))) := by
  intro pins s σ H xs us Q I r h
  obtain ⟨p, ys, rfl, h⟩ := h
  obtain ⟨u, rfl, rx⟩ := vals1 r
  cases rx
  rcases h with ⟨hq, q⟩ | ⟨hq, q⟩
  · obtain ⟨its, r', pl, hz⟩ := I.list hq
    have hlen := r'.length
    refine call_tuple_list pl.isList (fun h' kp => ?_) (by simp only [List.size_toArray] <;> omega)
    have I1 : Inv X pins σ H { s with heap := h' } := I.kept (t' := s.toks) kp
    have I2 : Inv X pins σ (upd H h'.objs.size (.tup ys)) { s with heap := h'.push { cls := .type "tuple", data := .seq its.toArray } } :=
      I1.laid (t' := s.toks) (fun b o e => Heap.get?_push_of_some _ e) (Nat.le_refl _) (show ObjOk X.prog X.w _ _ _ (.tup ys) from ⟨hz, its, r', IsTup.new _ _⟩)
    exact ⟨.ref h'.objs.size, _, I2, rfl, q _ (I1.hok.fresh (Nat.le_refl _))⟩
  · obtain ⟨its, r', pl, hz⟩ := I.tuple hq
    exact call_tuple_same pl ⟨.ref p, H, I, rfl, q⟩

def tyV (K : PySem.W.Frag) (T : String) (x : V) (H : Hp) : Prop := match x with
  | .str _ => T = "str"
  | .int _ => T = "int"
  | .ref p => (T = "list" ∧ ∃ xs, SqL K H p xs) ∨ (T = "tuple" ∧ ∃ o, K.lookup p = some o ∧ o.cls = .type "tuple" ∧ o.dict = none) ∨
      (T = "dict" ∧ ((∃ kvs, H p = some (.dK kvs)) ∨ ∃ kvs, H p = some (.dT kvs))) ∨ (T = "set" ∧ ∃ S n, H p = some (.set S n))
  | _ => False
theorem tyV_is {pins : List (Addr × Obj)} {σ : St} {H : Hp} {s : Shared} {T : String} {x : V} {v : Value} (I : Inv X pins σ H s) (r : RelV x v) (ty : tyV X.K T x H) :
    s.TypeIs v T ∧ ∀ a, v = .ref a → ∃ ob, s.heap.get? a = some ob ∧ ob.dict = none := by
  cases x with
  | str z =>
    obtain ⟨t, rfl⟩ := r
    cases (show T = "str" from ty)
    exact ⟨typeIs_str s z t, fun _ e => nomatch e⟩
  | int i =>
    obtain ⟨t, rfl⟩ := r
    cases (show T = "int" from ty)
    exact ⟨typeIs_int s i t, fun _ e => nomatch e⟩
  | ref p =>
    cases r
    rcases ty with ⟨rfl, xs, hq⟩ | ⟨rfl, o, hk, hc, hd⟩ | ⟨rfl, hk⟩ | ⟨rfl, S, n, hk⟩
    · obtain ⟨its, _, pl, _⟩ := I.list hq
      refine ⟨pl.isList.typeIs, fun a e => ?_⟩
      cases e
      obtain ⟨o, n, e, c, hd, _⟩ := pl
      exact ⟨o, e, hd⟩
    · refine ⟨⟨o, I.kIn p o hk, hc⟩, fun a e => ?_⟩
      cases e
      exact ⟨o, I.kIn _ o hk, hd⟩
    · have z : ∃ o, s.heap.get? p = some o ∧ o.ExactDict := by
        rcases hk with ⟨kvs, hk⟩ | ⟨kvs, hk⟩
        · obtain ⟨_, _, _, _, o, _, _, e, ex, _⟩ := I.hok p _ hk
          exact ⟨o, e, ex⟩
        · obtain ⟨_, _, _, _, o, _, _, e, ex, _⟩ := I.hok p _ hk
          exact ⟨o, e, ex⟩
      obtain ⟨o, e, ex⟩ := z
      refine ⟨⟨o, e, ex.1⟩, fun a e2 => ?_⟩
      cases e2
      exact ⟨o, e, ex.2.1⟩
    · obtain ⟨o, _, _, _, e, ex, _⟩ := I.hok p _ hk
      refine ⟨⟨o, e, ex.1⟩, fun a e2 => ?_⟩
      cases e2
      exact ⟨o, e, ex.2.1⟩
  | _ => exact False.elim ty
def tBM (K : PySem.W.Frag) (T : String) (r : V → List V → Hp → VK → Prop) (to : TE) (t : TA) : TE := fun σ H Q => to σ H fun x H1 => tyV K T x H1 ∧ t σ H1 fun xs H2 => r x xs H2 Q
variable {o e : Expr} {es : List Expr} {to : TE} {t : TA} {name : Str} {apos cpos : Pos} {T id : String} {r : V → List V → Hp → VK → Prop}
theorem pe_bm (pa : PlainAttrs T) (slot : Slot T name id) (hty : typeOf (.builtin id) = pure (.type "method_descriptor")) (hm : MtR X id r) (ho : PE X o to) (ha : PA X (e :: es) t)
    (hbase : attributeBase o name X.env (eval o X.env) = eval o X.env := by rfl)
    (hfew : ((backTo cpos (starEach (e :: es) X.env)).all (fun x => !x.1) && (backToKw cpos (keywordEach [] X.env)).all (fun x => x.1.isSome)
      && decide ((e :: es).length + ([] : List Keyword).length + (if ([] : List Keyword).isEmpty then 0 else 1) < 30)) = true := by rfl)
    (hline : (apos.endLine == cpos.line) = true := by rfl) (hs : starEach (e :: es) X.env = (false, eval e X.env) :: starEach es X.env := by rfl) (hplain : (backTo cpos (starEach es X.env)).any (·.1) = false := by rfl) :
    PE X (.Call (.Attribute o name apos) (e :: es) [] cpos) (tBM X.K T r to t) := by
  intro pins s σ H Q I h
  refine wpAny_Call_method_late hbase hfew hline rfl (thn (ho pins s σ H _ I h) fun v s1 ⟨x, H1, I1, r1, ty, q1⟩ => ?_)
  obtain ⟨h1, h2⟩ := tyV_is I1 r1 ty
  refine ⟨T, id, pa, slot, hty, h1, h2, ?_⟩
  have hA := ha cpos pins s1 σ H1 _ I1 q1
  rw [hs] at hA ⊢
  refine Calls.callWith_builtin (by show (false || (backTo cpos (starEach es X.env)).any (·.1)) = false; rw [hplain] <;> rfl) (Calls.evalArgs_plain ?_)
  exact thn hA fun us s2 ⟨vs, H2, I2, r2, q2⟩ => hm pins s2 σ H2 x vs v us Q I2 r1 r2 q2
/- xs.append(e), list.index on a module's tuple .. are MtR facts of 06m -/
end
end L2

namespace L2
open PySem PySem.Spec PyProof.Rows

def MtM (X : Cx) (id : String) (r : V → List V → Hp → VK → Prop) : Prop :=
  ∀ (pins : List (Addr × Obj)) (s : Shared) (σ : St) (H : Hp) (x : V) (xs : List V) (v : Value) (us : List Value) (Q : VK), Inv X pins σ H s → RelV x v → Vals xs us → r x xs H Q →
    wpAny (model X.prog X.w) X.A (call (.builtin id) (v :: us)) (EP X pins σ Q) X.xe s

theorem Vals.one : ∀ {x : V} {us : List Value}, Vals [x] us → ∃ u, us = [u] ∧ RelV x u
  | _, _, .cons r .nil => ⟨_, rfl, r⟩
theorem Vals.two : ∀ {x y : V} {us : List Value}, Vals [x, y] us → ∃ u v, us = [u, v] ∧ RelV x u ∧ RelV y v
  | _, _, _, .cons r (.cons q .nil) => ⟨_, _, rfl, r, q⟩
theorem Vals.zero : ∀ {us : List Value}, Vals [] us → us = []
  | _, .nil => rfl
theorem Vals.dropLast {xs : List V} {us : List Value} (h : Vals xs us) : Vals xs.dropLast us.dropLast := by
  induction h with
  | nil => exact .nil
  | cons r t ih =>
    cases t with
    | nil => exact .nil
    | cons q t' => exact .cons r ih
theorem Vals.eraseIdx : ∀ {xs : List V} {us : List Value} (i : Nat), Vals xs us → Vals (xs.eraseIdx i) (us.eraseIdx i)
  | _, _, _, .nil => .nil
  | _, _, 0, .cons _ t => t
  | _, _, i + 1, .cons r t => .cons r (Vals.eraseIdx i t)
section
variable {X : Cx} {pins : List (Addr × Obj)} {σ : St} {H : Hp} {s : Shared} {l b : Addr} {xs ys zs : List V}

theorem Inv.lset {its its' : List Value} {n : Nat} {f : Array Value → Array Value} {t' : Nat} (I : Inv X pins σ H s) (hH : H l = some (.lst xs))
    (e : s.heap.get? l = some { cls := .type "list", data := .seq its.toArray n }) (hf : f its.toArray = its'.toArray) (hv : Vals ys its') (hz : ys.length ≤ sizeLine) :
    Inv X pins σ (upd H l (.lst ys)) { s with heap := s.heap.update l (Obj.mapSeq f), toks := t' } := by
  have q := PySem.IsL.update e f
  rw [hf] at q
  refine I.write (x := l) (e := l) (by rw [hH]; exact trivial) (.inl rfl) (fun b' u hb hu => (Heap.get?_update_other s.heap (Obj.mapSeq f) (Ne.symm hb)).trans hu) ⟨_, q⟩ ?_
  exact ⟨hz, its', _, hv, q⟩
theorem Inv.fresh (I : Inv X pins σ H s) : H s.heap.objs.size = none := I.hok.fresh (Nat.le_refl _)
theorem Inv.lstM (I : Inv X pins σ H s) (hH : H l = some (.lst xs)) : xs.length ≤ sizeLine ∧ ∃ (its : List Value) (n : Nat), Vals xs its ∧ xs.length = its.length ∧ s.heap.get? l = some { cls := .type "list", data := .seq its.toArray n } := by
  obtain ⟨z, its, n, r, e⟩ := I.hok l _ hH
  exact ⟨z, its, n, r, r.length, e⟩

end

section
variable {X : Cx}

def rAppend : V → List V → Hp → VK → Prop := fun x vs H Q => ∃ l xs y, x = .ref l ∧ vs = [y] ∧ H l = some (.lst xs) ∧ xs.length < sizeLine ∧ Q .non (upd H l (.lst (xs ++ [y])))
theorem mt_append : MtM X "list.append" rAppend := by
  intro pins s σ H x vs v us Q I rx rv h
  obtain ⟨l, xs, y, rfl, rfl, hH, hz, q⟩ := h
  cases rx
  obtain ⟨u, rfl, ru⟩ := rv.one
  obtain ⟨z, its, n, r, hl, e⟩ := I.lstM hH
  refine call_meets F.slot_list_append ⟨_, e, rfl⟩ F.entry_list_append (F.args_list_append_2 _ _) (PySem.list_append l its.toArray n u (by rw [List.size_toArray]; omega)) ⟨e, ?_⟩
  refine ⟨.non, _, I.lset (its' := its ++ [u]) hH e (by simp) (r.append (.cons ru .nil)) ?_, rfl, q⟩
  rw [List.length_append, List.length_singleton]
  omega

end

section
variable {prog : Program} {w : World} {A : Around} {E : Value → Shared → Prop} {s : Shared}
end

section
variable {X : Cx}
end
end L2

namespace Att
open PySem PySem.W PySem.Calls PyProof.Rows

theorem ints_of_wellAll {P : Params} {h : Heap} : ∀ (ns : List Int) (vs : List Value), WellAll P h vs (ns.map WData.int) → IntsAre vs ns := by
  intro ns
  induction ns with
  | nil =>
    intro vs w
    rw [List.map_nil] at w
    cases w
    exact .nil
  | cons n ns ih =>
    intro vs w
    rw [List.map_cons] at w
    cases w with
    | cons a b =>
      cases a
      exact .cons _ _ (ih _ b)

theorem script_of {l : OpenLaw} {n : Nat} (hn : l.most = some n) {P : Params} {h : Heap} {args : List WData} {vals : List Value}
    (hpre : l.row.toRowW.claim.pre args = true) (hwl : WellAll P h vals args) :
    ∃ a vs ns, vals = [Value.ref a] ∧ args = [WData.list (ns.map WData.int)] ∧ h.get? a = some { cls := .type "list", data := .seq vs.toArray } ∧ IntsAre vs ns ∧ ns.length ≤ n := by
  have hsh : WShape.hasAll [] args [.list .int] = true := (pre_splitW hpre).1
  have hc : l.pre.holds [] { args := args } = true := (pre_splitW hpre).2
  obtain ⟨d, r, rfl, h1, h2⟩ := hasAllW_cons hsh
  obtain rfl := hasAllW_nil h2
  obtain ⟨xs, rfl, h3⟩ := hasW_list h1
  obtain ⟨ns, rfl⟩ := items_int h3
  have hlen : ns.length ≤ n := by
    unfold OpenLaw.pre at hc
    have h4 : (WTm.not (.lt (.lit (.int (n : Int))) (.len (.arg 0)))).holds [] { args := [.list (ns.map .int)] } = true := by
      have h4 := (holds_andW hc).1
      rw [hn] at h4
      exact h4
    have h5 := condW_of h4 (w_not (w_lt w_lit (w_len_list (w_arg rfl))))
    rw [List.length_map] at h5
    refine Nat.le_of_not_lt fun q => ?_
    have q' : (n : Int) < ((ns.length : Nat) : Int) := by omega
    first
      | (rw [decide_eq_true q'] at h5; exact absurd h5 (by decide))
      | (simp at h5; omega)
  cases hwl with
  | cons w1 w2 =>
    cases w2
    cases w1 with
    | list ho hall => exact ⟨_, _, ns, rfl, rfl, ho, ints_of_wellAll ns _ hall, hlen⟩

theorem post_true (l : OpenLaw) (args : List WData) : l.row.toRowW.claim.post args (.bool true) args = true :=
  postW_of (r := l.row.toRowW) (X := (true == true))
    (show WShape.has [] (.bool true) .bool = true by first | rfl | decide | simp [WShape.has, WShape.arms, WShape.armsAll])
    (show (WTm.eq .res (.lit (.bool true))).value [] { args := args, res := some (.bool true), after := args } = some (.bool (true == true)) from w_eq_bool (w_res rfl) w_lit) rfl

theorem attach_call {l : OpenLaw} {n : Nat} {q : Program} {loose : List Str} {XP : (Str → Option Value) → Heap → Prop} {YP : World → Heap → Prop} {d : DefRec}
    (hn : l.most = some n) (hdf : d.params.defaults = [])
    (call : ∀ (w : World) (s₀ s₁ : Shared) (mg mb : Str → Option Value) (fa : Addr) (o : Obj) (pm cd doc : Value) (a : Addr) (vs : List Value) (ns : List Int),
      Ground q loose [] XP w s₀ mg mb s₁.heap → YP w s₁.heap →
      s₁.heap.get? fa = some o → o.data = .func (docDef d.name d.params d.body d.scope pm cd doc) → s₁.heap.CodeRec cd d.name → mg d.name = some (.ref fa) →
      s₁.heap.get? a = some { cls := .type "list", data := .seq vs.toArray } → IntsAre vs ns → ns.length ≤ n → s₁.gens = #[] →
      codeAny (model l.prog w) callerA (.call (.ref fa) ⟨[.ref a], []⟩) (fun r s' => r = .ok (.ret (.bool true)) ∧ OldK s₁.heap s'.heap ∧ s'.os = s₁.os ∧ AllBare s'.gens) s₁) :
    WalkO q loose XP YP l.row.toRowW d [] (fun f vs => PySem.call f vs) := by
  intro w s₀ s₁ mg mb G Y fa o pm cd doc dV kV ho hd hcd hD hmg hg args vals as hpre hlay hrd hwl hlo
  obtain rfl : dV = .none := Dflts.none hD hdf
  obtain rfl : kV = .none := Dflts.noKw hD
  obtain ⟨a, vs, ns, rfl, rfl, hobj, hints, hlen⟩ := script_of hn hpre hwl
  refine enter_call (codeAny_mono (call w s₀ s₁ mg mb fa o pm cd doc a vs ns G Y ho (fd_plain hd) hcd hmg hobj hints hlen hg) fun r s' hq => ?_)
  obtain ⟨rfl, h2, h3, h4⟩ := hq
  exact ⟨.inl ⟨.bool true, .bool true, [], rfl, fun _ => rfl, .bool true, post_true l _, fun _ => ⟨List.Pairwise.nil, fun _ hm => (nomatch hm)⟩⟩, h2, h3, h4⟩

section
variable {prog : Program} {w : World} {A : Around} {E : Value → Shared → Prop} {s : Shared} {K : Frag}

def ledger (h : Heap) (L d : Addr) : List (Addr × Obj) := (List.range h.objs.size).filterMap fun a => if a = L ∨ a = d then none else (h.get? a).map fun o => (a, o)
end
end Att

namespace L2
open PySem PySem.Spec PyProof.Rows

theorem vals_ints : ∀ {vs : List Value} {ns : List Int}, IntsAre vs ns → Vals (ns.map V.int) vs
  | _, _, .nil => .nil
  | _, _, .cons n t h => .cons ⟨t, rfl⟩ (vals_ints h)

def Only (H : Hp) : Prop := ∀ b, H b = none ∨ ∃ o xs, H b = some (.frz o (.lst xs))

theorem law_call {P : Program} {w : World} {K : PySem.W.Frag} {mg mb : Str → Option Value} {CX : CXT} {k : Nat} {fa a : Addr} {fd : FuncData} {x : Str} {sp : Sp} {s₁ : Shared} {vs : List Value} {ns : List Int}
    (KX : K.In s₁.heap) (hns : s₁.heap.Ns mainGlobals mg) (hb : s₁.heap.Ns builtinsNs mb) (hbb : ∀ x : Str, x ≠ "__name__" → mb x = bootBuiltins x) (hlim : s₁.heap.NoLimit) (hg : s₁.gens = #[])
    (ha : s₁.heap.get? a = some { cls := .type "list", data := .seq vs.toArray }) (hi : IntsAre vs ns) (hl : ns.length ≤ sizeLine) (hr : Room k callerA)
    (F : ∀ base : Heap, K.In base → base.Ns mainGlobals mg → FnOk P w K mg base CX k fa fd [x] sp) (hbind : ∀ (s : Shared) (u : Value), BindsTo s fd ⟨[u], []⟩ [(x, u)])
    (hsp : ∀ H : Hp, Only H → SqL K H a (ns.map V.int) → sp [.ref a] H (fun v _ => v = .bl true) fun _ _ _ => False)
    (hCX : ∀ H e s', CX [] H s₁ (fun _ _ _ => False) e s' → False) :
    codeAny (model P w) callerA (.call (.ref fa) ⟨[.ref a], []⟩) (fun r s' => r = .ok (.ret (.bool true)) ∧ OldK s₁.heap s'.heap ∧ s'.os = s₁.os ∧ AllBare s'.gens) s₁ := by
  have rv := vals_ints hi
  have lenV := hi.length
  have core : ∀ H : Hp, Only H → SqL K H a (ns.map V.int) → HOk P w H s₁.heap → (∀ b, H b ≠ none → b = a) → (H a ≠ none → K.lookup a = none) →
      codeAny (model P w) callerA (.call (.ref fa) ⟨[.ref a], []⟩) (fun r s' => r = .ok (.ret (.bool true)) ∧ OldK s₁.heap s'.heap ∧ s'.os = s₁.os ∧ AllBare s'.gens) s₁ := by
    intro H hO hS hok hA hK
    have base_of : ∀ {b : Addr} {o : Obj}, s₁.heap.get? b = some o → H b = none → (hidT s₁.heap H).get? b = some o := fun e n => hidT_get e n
    have noA : ∀ {b : Addr} {o : Obj} {es : Array DictEntry} {ep : Nat}, s₁.heap.get? b = some o → o.data = .dict es ep → H b = none := fun {b o es ep} e d => by
      cases q : H b with
      | none => rfl
      | some u =>
        have e' : b = a := hA b (by rw [q]; simp)
        subst e'
        rw [ha] at e; cases e
        have d' : Data.seq vs.toArray _ = Data.dict es ep := d
        cases d'
    have nsK : ∀ {b : Addr} {m : Str → Option Value}, s₁.heap.Ns b m → (hidT s₁.heap H).Ns b m := fun {b m} ⟨o, es, ep, e, d, r⟩ => ⟨o, es, ep, base_of e (noA e d), d, r⟩
    have hKb : K.In (hidT s₁.heap H) := fun b o e => base_of (KX b o e) (by
      cases q : H b with
      | none => rfl
      | some u =>
        have e' : b = a := hA b (by rw [q]; simp)
        subst e'
        rw [hK (by rw [q]; simp)] at e; cases e)
    have hM : Mod K mg (hidT s₁.heap H) := ⟨hKb, nsK hns, ⟨mb, nsK hb, hbb⟩, let ⟨mc, h1, h2⟩ := hlim; ⟨mc, nsK h1, h2⟩⟩
    have e0 : Env0 P w K mg (hidT s₁.heap H) callerA [] s₁ H := ⟨rfl, hM, fun b o e => of_hidT e, Nat.le_of_eq (hidT_size _ _), trivial, fun b hb => absurd (show b ∈ ([] : List Addr) from hb) (by simp), hok, .of_eq hg⟩
    refine codeAny_mono ((F _ hKb (nsK hns)).run callerA [] s₁ H ⟨[.ref a], []⟩ [.ref a] [.ref a] _ _ hr e0 (hbind s₁ (.ref a)) (.cons rfl .nil) (hsp H hO hS)) fun r s' h => ?_
    cases r with
    | error e => exact (hCX H e s' h).elim
    | ok fl =>
      cases fl with
      | next => exact False.elim h
      | brk => exact False.elim h
      | cont => exact False.elim h
      | ret u =>
        obtain ⟨v, H', os, bare, un, hok', r', q⟩ := h
        have q' : v = .bl true := q
        subst q'
        obtain rfl : u = Value.bool true := r'
        refine ⟨rfl, OldK.of_keep fun b o e => ?_, os, bare⟩
        cases q : H b with
        | none => exact un.keep b o e q (by intro z; exact absurd (show b ∈ ([] : List Addr) from z) (by simp)) (by simp)
        | some u =>
          rcases hO b with z | ⟨ob, xs, z⟩
          · rw [q] at z; cases z
          · have z2 := un.frzs b ob _ z
            obtain ⟨e1, _⟩ := hok b _ z
            obtain ⟨e2, _⟩ := hok' b _ z2
            rw [e] at e1; cases e1
            exact e2
  cases hk : K.lookup a with
  | some o =>
    have e := KX a o hk
    rw [ha] at e
    cases e
    refine core (fun _ => none) (fun _ => .inl rfl) (.inr ⟨_, vs.toArray, _, hk, rfl, rfl, rfl, by rw [List.size_toArray, lenV]; exact hl, by simpa using rv⟩) (fun b u z => by have z' : (none : Option HO) = some u := z; cases z') (fun b z => absurd rfl z) fun z => absurd rfl z
  | none =>
    refine core (fun b => if b = a then some (.frz { cls := .type "list", data := .seq vs.toArray } (.lst (ns.map V.int))) else none) (fun b => ?_) (.inl (.inr ⟨{ cls := .type "list", data := .seq vs.toArray }, if_pos rfl⟩)) (fun b u z => ?_) (fun b z => ?_) fun _ => hk
    · by_cases hb : b = a
      · exact .inr ⟨_, _, if_pos hb⟩
      · exact .inl (if_neg hb)
    · by_cases hb : b = a
      · have z' := (if_pos hb).symm.trans z
        cases z'
        subst hb
        exact ⟨ha, by rw [List.length_map]; exact hl, vs, _, rv, ha⟩
      · have z' := (if_neg hb).symm.trans z
        cases z'
    · by_cases hb : b = a
      · exact hb
      · exact absurd (if_neg hb) z
end L2

namespace L2
open PySem PySem.Spec PyProof.Rows

abbrev KOf {K : PySem.W.Frag} {h : Heap} (_ : K.In h) : PySem.W.Frag := K

theorem walk_of {l : PySem.W.OpenLaw} {n k : Nat} {q : Program} {loose : List Str} {XP : (Str → Option Value) → Heap → Prop} {YP : World → Heap → Prop} {d : DefRec} {K : Params → PySem.W.Frag} {CX : World → CXT} {sp : World → Sp} {x : Str}
    (hn : l.most = some n) (hn2 : n ≤ sizeLine) (hdf : d.params.defaults = []) (hr : Room k callerA)
    (hY : ∀ (w : World) (h : Heap), YP w h → (K w.params).In h)
    (F : ∀ (w : World) (mg : Str → Option Value) (fa : Addr) (h : Heap), (K w.params).In h → h.Ns mainGlobals mg → mg d.name = some (.ref fa) →
      ∃ fd : FuncData, (∀ (s : Shared) (u : Value), BindsTo s fd ⟨[u], []⟩ [(x, u)]) ∧
        ∀ base : Heap, (K w.params).In base → base.Ns mainGlobals mg → FnOk l.prog w (K w.params) mg base (CX w) k fa fd [x] (sp w))
    (hsp : ∀ (w : World) (H : Hp) (a : Addr) (ns : List Int), ns.length ≤ n → Only H → SqL (K w.params) H a (ns.map V.int) → sp w [.ref a] H (fun v _ => v = .bl true) fun _ _ _ => False)
    (hCX : ∀ (w : World) (H : Hp) (s : Shared) (e : Value) (s' : Shared), CX w [] H s (fun _ _ _ => False) e s' → False) :
    PySem.W.WalkO q loose XP YP l.row.toRowW d [] (fun f vs => PySem.call f vs) := by
  refine Att.attach_call hn hdf fun w s₀ s₁ mg mb fa o pm cd doc a vs ns G Y ho hd hcd hmg hobj hints hlen hg => ?_
  have KX := hY w _ Y
  obtain ⟨fd, hb, hF⟩ := F w mg fa _ KX G.T.g hmg
  exact law_call KX G.T.g G.T.b G.T.builtins G.T.nolimit hg hobj hints (Nat.le_trans hlen hn2) hr hF hb (fun H hO hS => hsp w H a ns hlen hO hS) fun H e s' => hCX w H s₁ e s'
theorem walk_ofK {l : PySem.W.OpenLaw} {n k : Nat} {q : Program} {loose : List Str} {XP : (Str → Option Value) → Heap → Prop} {YP : World → Heap → Prop} {d : DefRec} {K : Params → PySem.W.Frag} {CX : CXT} {sp : PySem.W.Frag → Sp} {x : Str}
    (hn : l.most = some n) (hn2 : n ≤ sizeLine) (hdf : d.params.defaults = []) (hr : Room k callerA)
    (hY : ∀ (w : World) (h : Heap), YP w h → (K w.params).In h)
    (F : ∀ (w : World) (mg : Str → Option Value) (fa : Addr) (h : Heap), (K w.params).In h → h.Ns mainGlobals mg → mg d.name = some (.ref fa) →
      ∃ fd : FuncData, (∀ (s : Shared) (u : Value), BindsTo s fd ⟨[u], []⟩ [(x, u)]) ∧
        ∀ base : Heap, (K w.params).In base → base.Ns mainGlobals mg → FnOk l.prog w (K w.params) mg base CX k fa fd [x] (sp (K w.params)))
    (hsp : ∀ (K : PySem.W.Frag) (H : Hp) (a : Addr) (ns : List Int), ns.length ≤ n → Only H → SqL K H a (ns.map V.int) → sp K [.ref a] H (fun v _ => v = .bl true) fun _ _ _ => False)
    (hCX : ∀ (H : Hp) (s : Shared) (e : Value) (s' : Shared), CX [] H s (fun _ _ _ => False) e s' → False) :
    PySem.W.WalkO q loose XP YP l.row.toRowW d [] (fun f vs => PySem.call f vs) :=
  walk_of (K := K) (CX := fun _ => CX) (sp := fun w => sp (K w.params)) hn hn2 hdf hr hY F (fun w H a ns h1 h2 h3 => hsp (K w.params) H a ns h1 h2 h3) fun _ H s e s' => hCX H s e s'
end L2


namespace L2
open PySem PySem.Spec PyProof.Rows

def inClass (s : Stmt) (j : Nat) : Stmt := match s with
  | .ClassDef _ _ _ body _ _ _ _ _ _ _ => body.getD j (.Pass ⟨0, 0, 0, 0⟩)
  | _ => .Pass ⟨0, 0, 0, 0⟩
def defArgs (s : Stmt) : Arguments := match s with
  | .FunctionDef _ a _ _ _ _ _ _ _ _ => a
  | _ => { posonlyargs := [], args := [], vararg := none, kwonlyargs := [], kw_defaults := [], kwarg := none, defaults := [] }
def defBody (s : Stmt) : List Stmt := match s with
  | .FunctionDef _ _ b _ _ _ _ _ _ _ => b
  | _ => []
def defScope (s : Stmt) : Scope := match s with
  | .FunctionDef _ _ _ _ _ _ sc _ _ _ => sc
  | _ => { kind := .function, names := [], isGenerator := false, isCoroutine := false }

abbrev CX0 : CXT := fun _ _ _ _ _ _ => False
abbrev E0 : XK := fun _ _ _ => False
theorem pass0 {X : Cx} : Passes CX0 X E0 := fun _ _ _ _ _ _ _ h => h.elim

structure Fun (K : PySem.W.Frag) (x qual : Str) (st : Stmt) (f : Addr) (fd : FuncData) : Prop where
  ex : ∃ (oc : Value) (od : Option Addr) (kV doc pm : Value) (an : Option Addr) (cdv ct : Value) (osl : Array (Option Value)),
    fd = PySem.W.fnOf x qual (defArgs st) (defBody st) (defScope st) .none kV doc pm an cdv ct ∧ K.lookup f = some ⟨oc, od, .func fd, osl⟩ ∧ PySem.W.codeIn K cdv qual = true
  kp : PySem.W.keepIn K (.ref f) = true
section
variable {P : Program} {w : World} {K : PySem.W.Frag} {mg : Str → Option Value} {base : Heap}
theorem Fun.ok {x qual : Str} {st : Stmt} {f : Addr} {fd : FuncData} {N ps : List Str} {k : Nat} {sp : Sp} (F : Fun K x qual st f fd) (S : FnScope N ps (defScope st)) (len : ∀ vs H Q E, sp vs H Q E → vs.length = ps.length)
    (hbody : ∀ (cdv : Value) (A : Around) (outer : List Env) (s : Shared) (H : Hp) (vs : List V) (Q : VK) (E : XK), Room k (A.deeper (envOfC qual (defScope st) s.heap.objs.size f cdv)) → sp vs H Q E →
      ∃ t, PSs (cxOf CX0 P w K mg base N qual (defScope st) f cdv A outer s H E).nox (defBody st) t ∧ t { nx := fun _ H' => Q .non H', rt := Q } (start N vs) H) : FnOk P w K mg base CX0 (k + 1) f fd ps sp := by
  obtain ⟨oc, od, kV, doc, pm, an, cdv, ct, osl, rfl, lk, hcd⟩ := F.ex
  refine fn_of lk hcd S len fun A outer s H vs Q E hr hsp => ?_
  obtain ⟨t, h, q⟩ := hbody cdv A outer s H vs Q E hr hsp
  exact ⟨t, h.nox, q⟩
theorem Fun.binds {x qual : Str} {st : Stmt} {f : Addr} {fd : FuncData} {ps : List Str} (F : Fun K x qual st f fd)
    (h : ∀ (kV doc pm : Value) (an : Option Addr) (cdv ct : Value) (us : List Value), us.length = ps.length → bindArgs (PySem.W.fnOf x qual (defArgs st) (defBody st) (defScope st) .none kV doc pm an cdv ct) ⟨us, []⟩ = pure (ps.zip us)) : Binds K fd ps [] := by
  obtain ⟨oc, od, kV, doc, pm, an, cdv, ct, osl, rfl, lk, hcd⟩ := F.ex
  exact .all (h kV doc pm an cdv ct)
end
section
variable {X : Cx}
theorem pv (i : Nat) {x : Str} {pos : Pos} (hN : X.N[i]? = some x := by rfl) (hv : Vis X.env.scope x := by first | exact Or.inl rfl | exact Or.inr (Or.inl rfl) | exact Or.inr (Or.inr rfl)) (hd : (x == ("__debug__" : Str)) = false := by decide)
    (hcd : (x == ("__classdict__" : Str)) = false := by decide) : PE X (.Name x pos) (tVar i) := pe_var hN hv hd hcd
end

theorem iteF {A B : Prop} (h : B) : if false = true then A else B := by
  rw [if_neg Bool.false_ne_true]
  exact h
theorem iteT {A B : Prop} (h : A) : if true = true then A else B := by
  rw [if_pos rfl]
  exact h
theorem ite2 {c A B : Prop} [Decidable c] (h1 : c → A) (h2 : ¬ c → B) : if c then A else B := by
  by_cases h : c
  · rw [if_pos h]
    exact h1 h
  · rw [if_neg h]
    exact h2 h
def Same (H H' : Hp) : Prop := ∀ b o, H b = some o → H' b = some o
theorem Same.refl (H : Hp) : Same H H := fun _ _ h => h
theorem Same.trans {H H1 H2 : Hp} (a : Same H H1) (b : Same H1 H2) : Same H H2 := fun c o h => b c o (a c o h)
theorem Same.free {H H' : Hp} (e : Same H H') {l : Addr} (h : H' l = Option.none) : H l = Option.none := by
  cases q : H l with
  | none => rfl
  | some o =>
    rw [e l o q] at h
    cases h
theorem Same.seq {K : PySem.W.Frag} {H H' : Hp} {a : Addr} {xs : List V} (e : Same H H') (h : SqL K H a xs) : SqL K H' a xs := by
  rcases h with (h | ⟨o, h⟩) | h
  · exact .inl (.inl (e _ _ h))
  · exact .inl (.inr ⟨o, e _ _ h⟩)
  · exact .inr h

section
variable {κ : Type} [DecidableEq κ]
end
end L2

set_option Elab.async false
set_option linter.all false
set_option maxRecDepth 100000
namespace L2
open PySem PySem.Spec PyProof.Rows

abbrev Kn := List (Addr × HO)
structure Has (H : Hp) (L : Kn) : Prop where
  nd : (L.map (·.1)).Nodup
  at_ : ∀ x ∈ L, H x.1 = some x.2
namespace Has
variable {H H' : Hp} {L L' X Y R : Kn} {a p : Addr} {o o' : HO} {x y : Addr × HO}
theorem nil : Has H [] := ⟨List.nodup_nil, fun _ h => nomatch h⟩
theorem get (h : Has H L) (i : Nat) (e : L[i]? = some (a, o)) : H a = some o := h.at_ (a, o) (List.mem_of_getElem? e)
theorem alloc (h : Has H L) (hp : H p = none) (o : HO) : Has (upd H p o) ((p, o) :: L) := by
  have ne : ∀ x ∈ L, x.1 ≠ p := fun x hx e => by
    have := h.at_ x hx
    rw [e, hp] at this; cases this
  refine ⟨?_, fun x hx => ?_⟩
  · rw [List.map_cons, List.nodup_cons]
    refine ⟨fun m => ?_, h.nd⟩
    obtain ⟨x, hx, e⟩ := List.mem_map.mp m
    exact ne x hx e
  · rcases List.mem_cons.mp hx with rfl | hx
    · exact upd_same
    · rw [upd_ne (ne x hx)]; exact h.at_ x hx
theorem same (h : Has H L) (s : Same H H') : Has H' L := ⟨h.nd, fun x hx => s _ _ (h.at_ x hx)⟩
theorem sub (h : Has H L) (s : L'.Sublist L) : Has H L' := ⟨h.nd.sublist (s.map _), fun x hx => h.at_ x (s.subset hx)⟩
theorem perm (h : Has H L) (s : L.Perm L') : Has H L' := ⟨(s.map _).nodup_iff.mp h.nd, fun x hx => h.at_ x (s.mem_iff.mpr hx)⟩
theorem tail (h : Has H (x :: L)) : Has H L := h.sub (List.sublist_cons_self _ _)
theorem right (h : Has H (X ++ R)) : Has H R := h.sub (List.sublist_append_right _ _)
theorem left (h : Has H (X ++ R)) : Has H X := h.sub (List.sublist_append_left _ _)
theorem swap2 (h : Has H (x :: y :: L)) : Has H (y :: x :: L) := h.perm (List.Perm.swap _ _ _)
theorem comm (h : Has H (X ++ (Y ++ R))) : Has H (Y ++ (X ++ R)) := h.perm (by rw [← List.append_assoc, ← List.append_assoc]; exact List.perm_append_comm.append_right R)
theorem out (h : Has H (Y ++ (x :: R))) : Has H (x :: (Y ++ R)) := h.perm List.perm_middle
theorem map_set_fst : ∀ (L : Kn) (i : Nat), L[i]? = some (a, o) → (L.set i (a, o')).map (·.1) = L.map (·.1)
  | [], i, e => by simp at e
  | x :: L, 0, e => by simp at e; subst e; rfl
  | x :: L, i + 1, e => by
    simp only [List.set_cons_succ, List.map_cons]
    rw [map_set_fst L i (by simpa using e)]
theorem puti (h : Has H L) (i : Nat) (e : L[i]? = some (a, o)) (o' : HO) : Has (upd H a o') (L.set i (a, o')) := by
  have hi : i < L.length := (List.getElem?_eq_some_iff.mp e).1
  refine ⟨by rw [map_set_fst (o' := o') L i e]; exact h.nd, fun x hx => ?_⟩
  obtain ⟨j, hj⟩ := List.getElem?_of_mem hx
  by_cases hij : j = i
  · subst hij
    rw [List.getElem?_set_self hi] at hj
    cases hj
    exact upd_same
  · rw [List.getElem?_set_ne (Ne.symm hij)] at hj
    have hx' : x ∈ L := List.mem_of_getElem? hj
    have : x.1 ≠ a := fun z => by
      have e1 : (L.map (·.1))[i]? = some a := by rw [List.getElem?_map, e]; rfl
      have e2 : (L.map (·.1))[j]? = some a := by rw [List.getElem?_map, hj, ← z]; rfl
      obtain ⟨l1, q1⟩ := List.getElem?_eq_some_iff.mp e1
      obtain ⟨l2, q2⟩ := List.getElem?_eq_some_iff.mp e2
      exact hij ((List.getElem_inj h.nd).mp (q2.trans q1.symm))
    rw [upd_ne this]
    exact h.at_ x hx'
theorem ne (h : Has H L) (i j : Nat) {b : Addr} {u : HO} (e : L[i]? = some (a, o)) (e' : L[j]? = some (b, u)) (hij : i ≠ j) : a ≠ b := fun z => by
  have e1 : (L.map (·.1))[i]? = some a := by rw [List.getElem?_map, e]; rfl
  have e2 : (L.map (·.1))[j]? = some a := by rw [List.getElem?_map, e', ← z]; rfl
  obtain ⟨l1, q1⟩ := List.getElem?_eq_some_iff.mp e1
  obtain ⟨l2, q2⟩ := List.getElem?_eq_some_iff.mp e2
  exact hij ((List.getElem_inj h.nd).mp (q1.trans q2.symm))
end Has

section
variable {X : Cx}
theorem call_isi : CallR X (.builtin "isinstance") (fun xs H Q => ∃ x T t b, xs = [x, .ty T] ∧ TyOf X.K H x t ∧ PySem.W.kitOne X.K t (.type T) = some b ∧ Q (.bl b) H) := by
  intro pins s σ H xs us Q I r h
  obtain ⟨x, T, t, b, rfl, ty, e, q⟩ := h
  obtain ⟨u1, u2, rfl, r1, r2⟩ := vals2 r
  cases (show u2 = Value.type T from r2)
  exact isinst_ok I r1 ty e fun tk => ⟨.bl b, H, I.tok _, rfl, q⟩
end
end L2
namespace L2
open PySem PySem.Spec PyProof.Rows
theorem SqL.alloc {K : PySem.W.Frag} {H : Hp} {a p : Addr} {xs : List V} {o : HO} (h : SqL K H a xs) (hp : H p = none) : SqL K (upd H p o) a xs :=
  Same.seq (fun b u e => by rw [upd_ne (ne_of_none e hp)]; exact e) h
theorem cut_take (xs : List V) (n : Int) (h0 : 0 ≤ n) : cutV xs none (some n) = xs.take n.toNat := by
  show ((xs.drop 0).take ((if n < 0 then (n + (xs.length : Int)).toNat else min n.toNat xs.length) - 0)) = _
  rw [if_neg (by omega), List.drop_zero, Nat.sub_zero]
  by_cases hl : n.toNat ≤ xs.length
  · rw [Nat.min_eq_left hl]
  · rw [Nat.min_eq_right (by omega), List.take_of_length_le (Nat.le_refl _), List.take_of_length_le (by omega)]
end L2
namespace L2
open PySem PySem.Spec PyProof.Rows
theorem sizeOk {n : Nat} (h : n ≤ 1000000) : n < sizeLine := Nat.lt_of_le_of_lt h (by decide)
end L2
namespace L2
theorem ifF {b : Bool} {A B : Prop} (e : b = false) (h : B) : if b = true then A else B := by subst e; exact iteF h
theorem ifT {b : Bool} {A B : Prop} (e : b = true) (h : A) : if b = true then A else B := by subst e; exact iteT h
theorem if2 {b : Bool} {A B : Prop} (h1 : b = true → A) (h2 : b = false → B) : if b = true then A else B := by
  cases b
  · exact iteF (h2 rfl)
  · exact iteT (h1 rfl)
theorem ifd {c : Prop} [Decidable c] {A B : Prop} (h1 : c → A) (h2 : ¬ c → B) : if decide c = true then A else B := by
  by_cases h : c
  · exact ifT (decide_eq_true h) (h1 h)
  · exact ifF (decide_eq_false h) (h2 h)
theorem ifdn {c : Prop} [Decidable c] {A B : Prop} (h1 : ¬ c → A) (h2 : c → B) : if (!decide c) = true then A else B := by
  by_cases h : c
  · exact ifF (by simp [h]) (h2 h)
  · exact ifT (by simp [h]) (h1 h)
end L2

set_option Elab.async false
set_option linter.all false
set_option maxRecDepth 100000
namespace L2
open PySem PySem.Spec PyProof.Rows

def clOf (cells : List (Str × Addr)) : List (Str × NameKind) → List (Str × Addr) → List (Str × Addr)
  | [], acc => acc
  | (n, k) :: r, acc => if k == .free then clOf cells r ((n, (cells.lookup n).getD 0) :: acc) else clOf cells r acc
theorem closure_eq (scope : Scope) (env : Env) (h : ∀ y ∈ scope.names, y.2 = .free → ∃ c, env.cells.lookup y.1 = some c) : closureFor scope env = pure (clOf env.cells scope.names []) := by
  unfold closureFor
  have all : ∀ (l : List (Str × NameKind)) (acc : List (Str × Addr)), (∀ y ∈ l, y.2 = .free → ∃ c, env.cells.lookup y.1 = some c) →
      (forIn l acc fun x r => match x with
        | (name, kind) => if (kind == .free) = true then do let a ← cellOf env name; pure (ForInStep.yield ((name, a) :: r)) else pure (ForInStep.yield r)) = (pure (clOf env.cells l acc) : Sem _) := by
    intro l
    induction l with
    | nil => intro acc _; rfl
    | cons y l ih =>
      obtain ⟨n, k⟩ := y
      intro acc hl
      rw [List.forIn_cons]
      by_cases hk : (k == NameKind.free) = true
      · obtain ⟨c, hc⟩ := hl (n, k) List.mem_cons_self (by simpa using hk)
        have e : cellOf env n = pure c := by unfold cellOf; rw [hc]
        simp only [hk, if_true, e, pure_bind, clOf, hc, Option.getD_some]
        exact ih _ fun y hy => hl y (List.mem_cons_of_mem _ hy)
      · simp only [hk, if_false, pure_bind, clOf]
        exact ih _ fun y hy => hl y (List.mem_cons_of_mem _ hy)
  have := all scope.names [] h
  simp only [this, pure_bind]
theorem clOf_sub {cells : List (Str × Addr)} {x : Str} {c : Addr} : ∀ (l : List (Str × NameKind)) (acc : List (Str × Addr)), (∀ y ∈ l, y.2 = .free → ∃ c, cells.lookup y.1 = some c) →
    (∀ y d, acc.lookup y = some d → cells.lookup y = some d) → (clOf cells l acc).lookup x = some c → cells.lookup x = some c
  | [], acc, _, ha, h => ha x c h
  | (n, k) :: r, acc, hl, ha, h => by
    unfold clOf at h
    split at h
    · rename_i hk
      obtain ⟨d, hd⟩ := hl (n, k) List.mem_cons_self (by simpa using hk)
      refine clOf_sub r _ (fun y hy => hl y (List.mem_cons_of_mem _ hy)) (fun y e he => ?_) h
      rw [List.lookup_cons] at he
      split at he
      · rename_i hyn
        have : y = n := by simpa using hyn
        subst this
        cases he
        rw [hd]; rfl
      · exact ha y e he
    · exact clOf_sub r _ (fun y hy => hl y (List.mem_cons_of_mem _ hy)) ha h
theorem clOf_acc {cells : List (Str × Addr)} {x : Str} : ∀ (l : List (Str × NameKind)) (acc : List (Str × Addr)), (∃ c, acc.lookup x = some c) → ∃ c, (clOf cells l acc).lookup x = some c
  | [], acc, h => h
  | (n, k) :: r, acc, h => by
    unfold clOf
    split
    · refine clOf_acc r _ ?_
      rw [List.lookup_cons]
      split
      · exact ⟨_, rfl⟩
      · exact h
    · exact clOf_acc r _ h
theorem clOf_has {cells : List (Str × Addr)} {x : Str} : ∀ (l : List (Str × NameKind)) (acc : List (Str × Addr)), (x, NameKind.free) ∈ l → ∃ c, (clOf cells l acc).lookup x = some c
  | [], _, h => nomatch h
  | (n, k) :: r, acc, h => by
    unfold clOf
    rcases List.mem_cons.mp h with e | h
    · cases e
      rw [if_pos (by rfl)]
      exact clOf_acc r _ ⟨(cells.lookup x).getD 0, by rw [List.lookup_cons]; simp⟩
    · split
      · exact clOf_has r _ h
      · exact clOf_has r _ h
theorem relabel_cf {env : Env} {x : Str} : ∀ (l : List (Str × NameKind)), (∀ y ∈ l, y.2 ≠ .cell) →
    ((l.map fun (n, k) => if (k == NameKind.free && env.scope.kind == .function && env.kindOf n == some .cell) then (n, NameKind.cell) else (n, k)).lookup x = some .cell ∨
     (l.map fun (n, k) => if (k == NameKind.free && env.scope.kind == .function && env.kindOf n == some .cell) then (n, NameKind.cell) else (n, k)).lookup x = some .free) → (x, NameKind.free) ∈ l
  | [], _, h => by simp at h
  | (n, k) :: r, hl, h => by
    have ih := relabel_cf (env := env) (x := x) r fun y hy => hl y (List.mem_cons_of_mem _ hy)
    by_cases hc : (k == NameKind.free && env.scope.kind == .function && env.kindOf n == some .cell) = true
    · have hkf : k = .free := by
        rw [Bool.and_eq_true, Bool.and_eq_true] at hc
        simpa using hc.1.1
      subst hkf
      simp only [List.map_cons, hc, if_true, List.lookup_cons] at h
      cases hx : x == n with
      | true =>
        have : x = n := by simpa using hx
        subst this
        exact List.mem_cons_self
      | false =>
        simp only [hx] at h
        exact List.mem_cons_of_mem _ (ih h)
    · simp only [List.map_cons, if_neg hc, List.lookup_cons] at h
      cases hx : x == n with
      | true =>
        have : x = n := by simpa using hx
        subst this
        simp only [hx] at h
        rcases h with h | h
        · cases h
          exact absurd rfl (hl (x, .cell) List.mem_cons_self)
        · cases h
          exact List.mem_cons_self
      | false =>
        simp only [hx] at h
        exact List.mem_cons_of_mem _ (ih h)

def PTs (X : Cx) (ifs : List Expr) (t : TT) : Prop :=
  ∀ (pins : List (Addr × Obj)) (s : Shared) (σ : St) (H : Hp) (Q : Bool → Hp → Prop), Inv X pins σ H s → t σ H Q →
    wpAny (model X.prog X.w) X.A (forIn ifs true fun c r => if r = true then do let ok ← isTrue c X.env (eval c X.env); pure (ForInStep.yield ok) else pure (ForInStep.yield r)) (TP X pins σ Q) X.xe s
def tTrue : TT := fun _ H Q => Q true H
theorem pts_nil {X : Cx} : PTs X [] tTrue := fun _ _ _ H _ I h => wpAny_tests_nil ⟨H, I, h⟩
theorem compLoop_go {prog : Program} {w : World} {A : Around} {R : Result → Shared → Prop} {s : Shared} {elt target iter : Expr} {ifs : List Expr} {scope : Scope} {pos : Pos} {it acc : Value} {env : Env} (I : Nat → Shared → Prop)
    (turn : ∀ n s, I n s → wpAny (model prog w) A (pyNext it) (fun r s₁ => match r with
      | none => R (.ok .next) s₁
      | some v => wpAny (model prog w) A (letOwnedTupleGo target it v) (fun _ s₀ => wpAny (model prog w) A (assign target env v) (fun _ s₂ =>
          wpAny (model prog w) A (forIn ifs true fun c r => if r = true then do let ok ← isTrue c env (eval c env); pure (ForInStep.yield ok) else pure (ForInStep.yield r)) (fun ok s₃ =>
            if ok = true then wpAny (model prog w) A (eval elt env) (fun x s₄ =>
              wpAny (model prog w) A (call (.builtin "list.append") [acc, x]) (fun _ s₅ => ∃ m, m < n ∧ I m s₅) (fun _ _ => False) s₄) (fun _ _ => False) s₃
            else ∃ m, m < n ∧ I m s₃) (fun _ _ => False) s₂) (fun _ _ => False) s₀) (fun _ _ => False) s₁) (fun _ _ => False) s)
    (n : Nat) (h : I n s) :
    codeAny (model prog w) A (.compLoop (.ListComp elt [⟨target, iter, ifs, 0⟩] scope pos) 0 it acc env) R s := by
  have no : ∀ {α : Type} {t : Sem α} {Q : α → Shared → Prop} {s : Shared} {E : Value → Shared → Prop}, wpAny (model prog w) A t Q (fun _ _ => False) s → wpAny (model prog w) A t Q E s := fun h => wpAny_mono h (fun _ _ q => q) fun _ _ z => False.elim z
  refine codeAny_loop rfl I (fun n s hI => ?_) n h
  show wpAny _ A ((compTurn (.ListComp elt [⟨target, iter, ifs, 0⟩] scope pos) 0 it acc env).onRaise (fun x => do noteFrame x env; theTreesLotGoes x)) _ _ s
  refine wpAny_noted ?_
  rw [compTurn_list]
  refine wpAny_bind (wpAny_standAt (wpAny_bind (wpAny_mono (no (turn n s hI)) (fun r s₁ h₁ => ?_) fun _ _ h' => h')))
  cases r with
  | none => exact wpAny_pure h₁
  | some v =>
    refine wpAny_bind (wpAny_mono (no h₁) (fun _ s₀ h₀ => ?_) fun _ _ h' => h')
    refine wpAny_bind (wpAny_mono (no h₀) (fun _ s₂ h₂ => wpAny_bind (wpAny_mono (no h₂) (fun ok s₃ h₃ => ?_) fun _ _ h' => h')) fun _ _ h' => h')
    cases ok with
    | false => exact wpAny_pure ⟨rfl, h₃⟩
    | true =>
      exact wpAny_bind (wpAny_bind (wpAny_mono (no h₃) (fun x s₄ h₄ => wpAny_bind (wpAny_mono (no h₄) (fun _ s₅ h₅ => wpAny_pure (wpAny_pure ⟨rfl, h₅⟩)) fun _ _ h' => h')) fun _ _ h' => h'))
end L2

set_option Elab.async false
set_option linter.all false
set_option maxRecDepth 100000
namespace L2
open PySem PySem.Spec PyProof.Rows

abbrev blk (X : Cx) (scope : Scope) (N' : List Str) (C : Addr) (s₀ : Shared) (H₀ : Hp) (fp : List Addr) (pins : List (Addr × Obj)) : Cx :=
  { X with N := N', s₀ := s₀, H₀ := H₀, env := compEnvC scope (clOf X.env.cells scope.names []) C X.env, outer := X.stack, stack := X.stack, ex := fp, fn := fun _ => false, pn := X.pn ++ pins, xe := fun _ _ => False }

def tLC (wi : TI) (k : Nat) (g : TG) (tc : TT) (te : TE) : TE := fun σ H Q => wi σ H fun J H1 => ∀ D, H1 D = none → ∃ W : Nat → Nat → List V → Hp → Prop, (∃ m, W 0 m [] (upd H1 D (.lst []))) ∧ ∀ i m ys H, W i m ys H → H D = some (.lst ys) ∧
  ((J.stop i H ∧ Q (.ref D) H) ∨ (J.go i H ∧ ∀ x H', J.yld i H x H' → g x (List.replicate k none ++ σ) H' fun σ2 H2 => σ2.drop k = σ ∧ tc σ2 H2 fun b H3 =>
    if b = true then te σ2 H3 fun y H4 => ys.length < sizeLine ∧ H4 D = some (.lst ys) ∧ ∃ m', m' < m ∧ W (i + 1) m' (ys ++ [y]) (upd H4 D (.lst (ys ++ [y]))) else ∃ m', m' < m ∧ W (i + 1) m' ys H3))

section
variable {X : Cx}
theorem pe_lc {elt tg iter : Expr} {ifs : List Expr} {scope : Scope} {pos : Pos} {wi : TI} {k : Nat} {g : TG} {tc : TT} {te : TE} (N' : List Str) (hc : X.calm = true) (hi : PI X tg iter wi)
    (hg : ∀ C s₀ H₀ fp pins, PG (blk X scope N' C s₀ H₀ fp pins) tg g) (ht : ∀ C s₀ H₀ fp pins, PTs (blk X scope N' C s₀ H₀ fp pins) ifs tc) (he : ∀ C s₀ H₀ fp pins, PE (blk X scope N' C s₀ H₀ fp pins) elt te)
    (hk : scope.kind = .function) (hcell : ∀ y ∈ scope.names, y.2 ≠ .cell) (hnames : ∀ y ∈ scope.names, y.2 = .local → scope.names.lookup y.1 = some .local)
    {esc : Scope} (hsc : X.env.scope = esc) (hfr' : ∀ y ∈ scope.names, y.2 = .free → esc.names.lookup y.1 = some .cell ∨ esc.names.lookup y.1 = some .free)
    (hlen : N'.length = k + X.N.length)
    (hN : ∀ (i : Nat) (x : Str), N'[i + k]? = some x → (x, NameKind.free) ∈ scope.names → X.N[i]? = some x)
    (hN2 : ∀ x ∈ N'.drop k, scope.names.lookup x ≠ some .local)
    (hs : ∀ x, foldedSetIterable iter X.env x = pure x := by intro _; rfl) :
    PE X (.ListComp elt [⟨tg, iter, ifs, 0⟩] scope pos) (tLC wi k g tc te) := by
  intro pins s σ H Q I h
  have hfr : ∀ y ∈ scope.names, y.2 = .free → X.env.kindOf y.1 = some .cell ∨ X.env.kindOf y.1 = some .free := fun y hy hf => by
    show X.env.scope.names.lookup y.1 = _ ∨ X.env.scope.names.lookup y.1 = _
    rw [hsc]; exact hfr' y hy hf
  have hcells : ∀ y ∈ scope.names, y.2 = .free → ∃ c, X.env.cells.lookup y.1 = some c := fun y hy hf => I.ok.has y.1 (hfr y hy hf)
  have hclos := closure_eq scope X.env hcells
  rw [eval_ListComp]
  refine wpAny_comprehension_free (use := none) rfl hs hclos hk hnames (thn (hi pins s σ H _ I h) fun v s1 h1 => thn h1 fun itv s2 h2 => ?_)
  obtain ⟨it, fp, tn, J, H2, e, I2, T, st2, f2, R⟩ := h2
  subst e
  refine wpAny_newObj_type ?_
  have hD : H2 s2.heap.objs.size = none := I2.hok.fresh (Nat.le_refl _)
  obtain ⟨W, ⟨m0, w0⟩, turn⟩ := R _ hD
  generalize eD : s2.heap.objs.size = D at *
  have I3 : Inv X pins σ (upd H2 D (.lst [])) { s2 with heap := s2.heap.push { cls := .type "list", dict := none, data := .seq ([] : List Value).toArray } } :=
    I2.laid (a := D) (o := .lst []) (t' := s2.toks) (fun b u e => Heap.get?_push_of_some _ e) (Nat.le_of_eq eD) ⟨Nat.zero_le _, [], 0, .nil, by rw [← eD]; exact Heap.get?_push_size _ rfl⟩
  generalize e3 : ({ s2 with heap := s2.heap.push { cls := .type "list", dict := none, data := .seq ([] : List Value).toArray } } : Shared) = s3 at *
  have st3 : tn 0 s3.heap := T.keep _ _ _ st2 fun b _ o e => by rw [← e3]; exact Heap.get?_push_of_some _ e
  have lt2 : ∀ b ∈ fp, b < s2.heap.objs.size := fun b hb => by
    obtain ⟨o, e, _⟩ := T.obj _ _ st2 b hb
    exact Heap.lt_size e
  have neD : ∀ b ∈ fp, b ≠ D := fun b hb => by
    have := lt2 b hb
    rw [eD] at this
    exact Nat.ne_of_lt this
  have f3 : ∀ b ∈ fp, FpOk X pins (upd H2 D (.lst [])) b := fun b hb => ⟨by rw [upd_ne (neD b hb)]; exact (f2 b hb).1, (f2 b hb).2⟩
  generalize upd H2 D (.lst []) = H3 at *
  refine wpAny_newFunctionEnv hcell (by intro y hy; simp at hy) (fun h₁ hns₁ hsb₁ => ?_) hk
  try dsimp only at hns₁ hsb₁ ⊢
  have lt3 : ∀ b ∈ fp, b < s3.heap.objs.size := fun b hb => by
    obtain ⟨o, e, _⟩ := T.obj _ _ st3 b hb
    exact Heap.lt_size e
  generalize eC : s3.heap.objs.size = C at *
  have kp : ∀ b o, s3.heap.get? b = some o → h₁.get? b = some o := fun b o e => (hsb₁.2 b (by rw [← eC]; exact Nat.ne_of_lt (Heap.lt_size e))).trans (Heap.get?_push_of_some _ e)
  have subC : ∀ x c, (clOf X.env.cells scope.names []).lookup x = some c → X.env.cells.lookup x = some c := fun x c e => clOf_sub scope.names [] hcells (fun y d z => by simp at z) e
  have hCnone : H3 C = none := I3.hok.fresh (Nat.le_of_eq eC)
  have ok' : (blk X scope N' C s3 H3 fp pins).Ok := {
    mod := I3.ok.mod
    kind := hk
    glob := I3.ok.glob
    blt := I3.ok.blt
    above := Nat.le_of_eq eC
    inj := fun x y c a b => I3.ok.inj x y c (subC x c a) (subC y c b)
    has := fun x hx => clOf_has scope.names [] (relabel_cf scope.names hcell hx)
    cab := fun x c a _ => absurd a Bool.false_ne_true
    hd := I3.ok.hd
    frames := I3.ok.frames
    stk := .inl rfl
    exf := fun b hb => ⟨by have := lt3 b hb; exact Nat.ne_of_lt this, fun x c e => (f3 b hb).2.2.2.2.1 x c (subC x c e)⟩
    bs := I3.bs
    bsz := Nat.le_trans I3.ok.bsz I3.sz
    noex := fun b o e hb => by
      rcases (f3 b hb).2.2.2.1 with z | z
      · exact I3.ok.noex b o e z
      · exact absurd (Nat.lt_of_lt_of_le (Heap.lt_size e) (Nat.le_trans I3.ok.bsz z)) (Nat.lt_irrefl _)
    exfs := fun b hb z => by
      rcases List.mem_cons.mp (I3.stkSub b z) with e | e
      · exact (f3 b hb).2.1 e
      · exact (f3 b hb).2.2.1 e
    funs := I3.stack
    frf := I3.stkFree }
  have s4os : ({ s3 with heap := h₁, toks := s3.toks + ([] : List (Str × Value)).length } : Shared).os = s3.os := rfl
  generalize e4 : ({ s3 with heap := h₁, toks := s3.toks + ([] : List (Str × Value)).length } : Shared) = s4 at *
  have h4 : s4.heap = h₁ := by rw [← e4]
  have J4 : Inv (blk X scope N' C s3 H3 fp pins) [] (List.replicate k none ++ σ) H3 s4 := by
    refine ⟨ok', s4os, by rw [← e4]; exact I3.bare, ?_, ⟨_, by rw [h4]; exact hns₁, fun i x v e1 e2 e5 => ?_⟩, fun x c e => ?_, hCnone, fun x c e => I3.freeC x c (subC x c e), fun p hp => ?_, ?_, ?_⟩
    · rw [h4]; exact Un.kept kp
    · have hik : ¬ i < k := fun hlt => by
        rw [List.getElem?_append_left (by rw [List.length_replicate]; exact hlt), List.getElem?_replicate] at e2
        split at e2 <;> cases e2
      obtain ⟨j, rfl⟩ : ∃ j, i = j + k := ⟨i - k, by omega⟩
      have e2' : σ[j]? = some (some v) := by
        rw [List.getElem?_append_right (by rw [List.length_replicate]; omega), List.length_replicate] at e2
        have : j + k - k = j := by omega
        rw [this] at e2; exact e2
      have nl : (relabel scope X.env).names.lookup x ≠ some .local := fun z => by
        have q : ∀ (l : List (Str × NameKind)), (l.map fun (n, k) => if (k == NameKind.free && X.env.scope.kind == .function && X.env.kindOf n == some .cell) then (n, NameKind.cell) else (n, k)).lookup x = some .local → l.lookup x = some .local := by
          intro l
          induction l with
          | nil => intro z; simp at z
          | cons y l ih =>
            obtain ⟨n, kk⟩ := y
            intro z
            by_cases hcc : (kk == NameKind.free && X.env.scope.kind == .function && X.env.kindOf n == some .cell) = true
            · simp only [List.map_cons, if_pos hcc, List.lookup_cons] at z ⊢
              cases hx : x == n with
              | true => simp only [hx] at z; cases z
              | false => simp only [hx] at z ⊢; exact ih z
            · simp only [List.map_cons, if_neg hcc, List.lookup_cons] at z ⊢
              cases hx : x == n with
              | true => simp only [hx] at z ⊢; exact z
              | false => simp only [hx] at z ⊢; exact ih z
        exact hN2 x (List.mem_of_getElem? (i := j) (by rw [List.getElem?_drop, Nat.add_comm]; exact e1)) (q _ z)
      have hcf : (relabel scope X.env).names.lookup x = some .cell ∨ (relabel scope X.env).names.lookup x = some .free := by
        rcases e5 with z | z | z
        · exact absurd z nl
        · exact .inl z
        · exact .inr z
      have hmem : (x, NameKind.free) ∈ scope.names := relabel_cf scope.names hcell hcf
      have hx := hN j x e1 hmem
      obtain ⟨mo, _, hl⟩ := I3.loc
      have hkx := hfr (x, .free) hmem rfl
      obtain ⟨u, ru, lk⟩ := hl j x v hx e2' (by
        rcases hkx with z | z
        · exact .inr (.inl z)
        · exact .inr (.inr z))
      refine ⟨u, ru, .inr ⟨hcf, ?_⟩⟩
      rcases lk with ⟨z, _⟩ | ⟨_, c, hc1, hc2⟩
      · rcases hkx with q | q
        · rw [q] at z; cases z
        · rw [q] at z; cases z
      · obtain ⟨c', hc'⟩ := clOf_has (cells := X.env.cells) scope.names [] hmem
        have := subC x c' hc'
        rw [hc1] at this; cases this
        obtain ⟨oc, h5, h6⟩ := hc2
        exact ⟨c, hc', oc, by rw [h4]; exact kp _ _ h5, h6⟩
    · obtain ⟨v, oc, h5, h6⟩ := I3.cell x c (subC x c e)
      exact ⟨v, oc, by rw [h4]; exact kp _ _ h5, h6⟩
    · have hp' : p ∈ X.pn ++ pins := by simpa using hp
      obtain ⟨a1, a2, a3, a4, a5⟩ := I3.pin p hp'
      refine ⟨by rw [h4]; exact kp _ _ a1, a2, ?_, fun z => ?_, a5⟩
      · have := Heap.lt_size a1
        rw [eC] at this
        exact Nat.ne_of_lt this
      · rcases List.mem_cons.mp (I3.stkSub p.1 z) with q | q
        · exact a3 q
        · exact a4 q
    · rw [h4]; exact I3.hok.kept kp
    · rw [List.length_append, List.length_replicate, I3.len]; exact hlen.symm
  have stat : ∀ {H' : Hp}, (∀ b ∈ fp, H' b = none) → ∀ b ∈ fp, FpOk (blk X scope N' C s3 H3 fp pins) [] H' b := fun hn b hb =>
    ⟨hn b hb, (ok'.exf b hb).1, ok'.exfs b hb, .inl hb, fun x c e => (ok'.exf b hb).2 x c e, fun p hp => (f3 b hb).2.2.2.2.2 p (by simpa using hp)⟩
  have fr4 : ∀ b ∈ fp, H3 b = none := fun b hb => (f3 b hb).1
  have st4 : tn 0 s4.heap := T.keep _ _ _ st3 fun b _ o e => by rw [h4]; exact kp _ _ e
  have loop : codeAny (model X.prog X.w) X.A (.compLoop (.ListComp elt [⟨tg, iter, ifs, 0⟩] scope pos) 0 (.ref it) (.ref D) (compEnvC scope (clOf X.env.cells scope.names []) C X.env))
      (compPost (model X.prog X.w) X.A X.xe none (EP X pins σ Q) (.ref D) C) s4 := by
    refine compLoop_go (fun n s' => ∃ i ys H', Inv (blk X scope N' C s3 H3 fp pins) [] (List.replicate k none ++ σ) H' s' ∧ tn i s'.heap ∧ (∀ b ∈ fp, H' b = none) ∧ W i n ys H') ?_ m0 ⟨0, [], H3, J4, st4, fr4, w0⟩
    rintro n s5 ⟨i, ys, H5, I5, st5, fr5, w5⟩
    obtain ⟨hDl, stp⟩ := turn i n ys H5 w5
    rcases stp with ⟨stop, qn⟩ | ⟨go, step⟩
    · refine thn (T.done (blk X scope N' C s3 H3 fp pins) rfl rfl rfl hc i [] s5 _ H5 (fun _ _ => False) I5 (stat fr5) st5 stop) fun r s6 ⟨hr, I6⟩ => ?_
      subst hr
      obtain ⟨m6, ns6, _⟩ := id I6.loc
      refine ⟨m6, ns6, fun h' hsb => ⟨.ref D, H5, ?_, rfl, qn⟩⟩
      have hC5 : H5 C = none := I6.free
      have un6 : Un (frs X.stack) fp H3 H5 s3.heap s6.heap := I6.base
      have neC : ∀ b o, s3.heap.get? b = some o → b ≠ C := fun b o e => by
        have := Heap.lt_size e
        rw [eC] at this
        exact Nat.ne_of_lt this
      refine I3.call' (s' := { s6 with heap := h' }) (ch := fp) I6.os ⟨fun b o e a1 a2 a3 => ?_, fun b o e a1 a2 a3 => ?_, un6.free, fun b o e a3 => ?_, un6.tups, un6.frzs, un6.tbls⟩ ?_ I6.bare (fun b hb => ?_)
      · exact (hsb.2 b (neC b o e)).trans (un6.keep b o e a1 a2 a3)
      · obtain ⟨sl, z⟩ := un6.slot b o e a1 a2 a3
        exact ⟨sl, (hsb.2 b (neC b o e)).trans z⟩
      · obtain ⟨o', z⟩ := un6.there b o e a3
        exact ⟨o', (hsb.2 b (neC b o e)).trans z⟩
      · intro b u e
        refine (I6.hok b u e).stay (fun c w' hcc q => (hsb.2 c ?_).trans q) (fun _ q => q) fun _ _ q => q
        rintro rfl
        rcases hcc with z | z
        · rw [z, e] at hC5; cases hC5
        · rw [z] at hC5; cases hC5
      · exact ⟨(f3 b hb).2.2.2.1, (f3 b hb).2.1, (f3 b hb).2.2.2.2.1, (f3 b hb).2.2.2.2.2⟩
    · refine thn (T.item (blk X scope N' C s3 H3 fp pins) rfl rfl rfl hc i [] s5 _ H5 (fun _ _ => False) I5 (stat fr5) st5 go) fun r s6 ⟨u, hr, h6⟩ => ?_
      subst hr
      refine thn h6 fun _ s7 ⟨x, H7, I7, r7, y7, st7, fr7⟩ => ?_
      have I7' := I7.pinned (stat fr7) (T.obj _ _ st7)
      refine thn (hg C s3 H3 fp pins _ s7 _ H7 x u _ I7' r7 (step x H7 y7)) fun _ s8 ⟨σ8, H8, I8, d8, q8⟩ => ?_
      refine thn (ht C s3 H3 fp pins _ s8 σ8 H8 _ I8 q8) fun b s9 ⟨H9, I9, q9⟩ => ?_
      have kz : ∀ (j : Nat) v, (List.replicate k none ++ σ)[j]? = some (some v) → σ8[j]? = some (some v) := fun j v e => by
        have hik : ¬ j < k := fun hlt => by
          rw [List.getElem?_append_left (by rw [List.length_replicate]; exact hlt), List.getElem?_replicate] at e
          split at e <;> cases e
        rw [List.getElem?_append_right (by rw [List.length_replicate]; omega), List.length_replicate, ← d8, List.getElem?_drop] at e
        have : k + (j - k) = j := by omega
        rw [this] at e; exact e
      have again : ∀ {Hz : Hp} {sz : Shared} {zs : List V} {m' : Nat}, Inv (blk X scope N' C s3 H3 fp pins) ([] ++ pinsAt fp s7.heap) σ8 Hz sz → m' < n → W (i + 1) m' zs Hz →
          ∃ m, m < n ∧ ∃ i ys H', Inv (blk X scope N' C s3 H3 fp pins) [] (List.replicate k none ++ σ) H' sz ∧ tn i sz.heap ∧ (∀ b ∈ fp, H' b = none) ∧ W i m ys H' := fun {Hz sz zs m'} Iz hm wz => by
        refine ⟨m', hm, i + 1, zs, Hz, (Iz.unpinned).weak ?_ kz, T.keep _ _ _ st7 fun b hb o e => (Iz.pin (b, o) (List.mem_append_right _ (List.mem_append_right _ (mem_pinsAt hb e)))).1, fun b hb => ?_, wz⟩
        · rw [Iz.len]; exact I5.len
        · obtain ⟨o, e, d⟩ := T.obj _ _ st7 b hb
          exact (Iz.pin (b, o) (List.mem_append_right _ (List.mem_append_right _ (mem_pinsAt hb e)))).2.1
      cases b with
      | false =>
        obtain ⟨m', hm, w9⟩ := (show ∃ m', m' < n ∧ W (i + 1) m' ys H9 by simpa using q9)
        rw [if_neg Bool.false_ne_true]
        exact again I9 hm w9
      | true =>
        rw [if_pos rfl] at q9 ⊢
        refine thn (he C s3 H3 fp pins _ s9 σ8 H9 _ I9 q9) fun u9 s10 ⟨y, H10, I10, r10, hz, hD10, m', hm, w10⟩ => ?_
        refine thn (mt_append (X := blk X scope N' C s3 H3 fp pins) _ s10 σ8 H10 (.ref D) [y] (.ref D) [u9] (fun _ H' => H' = upd H10 D (.lst (ys ++ [y]))) I10 rfl (.cons r10 .nil) ⟨D, ys, y, rfl, rfl, hD10, hz, rfl⟩) fun _ s11 ⟨_, H11, I11, _, e11⟩ => ?_
        subst e11
        exact again I11 hm w10
  exact codeAny_compStart_list loop (T.self _ 0 _ _ _ st4 loop)
end
end L2

set_option Elab.async false
set_option linter.all false
set_option maxRecDepth 100000
namespace L2
open PySem PySem.Spec PyProof.Rows

section
variable {X : Cx} {pins : List (Addr × Obj)} {σ : St} {H : Hp} {s : Shared} {h' : Heap}
theorem Inv.turnedL {t' : Nat} {fp : List Addr} (I : Inv X pins σ H s) (k : ∀ b o, b ∉ fp → s.heap.get? b = some o → h'.get? b = some o) (hf : ∀ b ∈ fp, FpOk X pins H b) : Inv X pins σ H { s with heap := h', toks := t' } := by
  have nit : ∀ b u, H b = some u → b ∉ fp := fun b u e z => by rw [(hf b z).1] at e; cases e
  refine I.step (g' := s.gens) (d' := s.drawn) (ch := fp) (fun b hb => ⟨(hf b hb).2.2.2.1, (hf b hb).2.1, (hf b hb).2.2.2.2.1, (hf b hb).2.2.2.2.2⟩) (fun b o _ _ hc e _ => k b o hc e) (fun b o _ _ hc e _ => ⟨o.slots, k b o hc e⟩) (fun _ _ _ _ n => n)
    (fun b o hc e => ⟨o, k b o hc e⟩) (fun _ _ e => e) (fun _ _ _ e => e) (fun b ps e => ⟨#[], by rw [e]; simp⟩) (fun m hm => ?_) (fun b u e => ?_) I.bare
  · obtain ⟨o, es, ep, ho, r⟩ := hm
    exact ⟨o, es, ep, k _ o (fun z => (hf _ z).2.1 rfl) ho, r⟩
  · refine (I.hok b u e).stay (fun c v hc q => k c v ?_ q) (fun _ q => q) fun _ _ q => q
    rcases hc with z | z
    · rw [z]; exact nit b u e
    · exact nit c _ z
theorem Inv.track {p : Addr} {o : HO} (I : Inv X pins σ H s) (hp : X.s₀.heap.objs.size ≤ p) (hL : p ≠ X.env.locals) (hc : ∀ x c, X.env.cells.lookup x = some c → c ≠ p) (hpin : ∀ q ∈ X.pn ++ pins, q.1 ≠ p) (hn : H p = none)
    (new : ObjOk X.prog X.w (upd H p o) s.heap p o) : Inv X pins σ (upd H p o) s := by
  refine ⟨I.ok, I.os, I.bare, ⟨I.base.keep, I.base.slot, fun b ob e n hx => ?_, I.base.there, fun b xs e => ?_, fun b ob u e => ?_, fun b ps e => ?_⟩, I.loc, I.cell, by rw [upd_ne (Ne.symm hL)]; exact I.free, fun x c e => by rw [upd_ne (hc x c e)]; exact I.freeC x c e, fun q hq => ?_, fun b u e => ?_, I.len⟩
  · rw [upd_ne (Nat.ne_of_lt (Nat.lt_of_lt_of_le (Heap.lt_size e) hp))]; exact I.base.free b ob e n hx
  · have := I.base.tups b xs e
    rw [upd_ne (ne_of_none this hn)]; exact this
  · have := I.base.frzs b ob u e
    rw [upd_ne (ne_of_none this hn)]; exact this
  · obtain ⟨more, e2⟩ := I.base.tbls b ps e
    exact ⟨more, by rw [upd_ne (ne_of_none e2 hn)]; exact e2⟩
  · obtain ⟨a1, a2, a3, a4, a5⟩ := I.pin q hq
    exact ⟨a1, by rw [upd_ne (hpin q hq)]; exact a2, a3, a4, a5⟩
  · by_cases hb : b = p
    · subst hb; rw [upd_same] at e; cases e; exact new
    · rw [upd_ne hb] at e
      exact (I.hok b u e).stay (fun _ _ _ q => q) (fun c q => by rw [upd_ne (ne_of_none q hn)]; exact q) fun c xs q => by rw [upd_ne (ne_of_none q hn)]; exact q
end

def Itz (K : PySem.W.Frag) (a b : Addr) : It :=
  ⟨fun i H => ∃ xs x ys y, SqL K H a xs ∧ xs[i]? = some x ∧ SqL K H b ys ∧ ys[i]? = some y,
   fun i H v H' => ∃ p x y, v = .ref p ∧ H p = none ∧ H' = upd H p (.tup [x, y]) ∧ (∀ xs, SqL K H a xs → xs[i]? = some x) ∧ ∀ ys, SqL K H b ys → ys[i]? = some y,
   fun i H => ∃ xs ys, SqL K H a xs ∧ SqL K H b ys ∧ (xs.length ≤ i ∨ ys.length ≤ i)⟩
theorem turn_zip {P : Program} {w : World} {K : PySem.W.Frag} {es : List Expr} {x1} {pos : Pos} (a b z TI TO i1 i2 : Addr) : Turn P w K (.Tuple es x1 pos) (Itz K a b) [z, TI, TO, i1, i2] z
    (fun i h => IsZip h z TI TO .none ∧ IsPair h TI (.ref i1) (.ref i2) ∧ (∃ u v, IsPair h TO u v) ∧ h.IsListIter i1 a i ∧ h.IsListIter i2 b i ∧ TI ≠ TO ∧ i1 ≠ i2) where
  mem := by simp
  obj := fun i h ⟨hz, hTI, ⟨u, v, hTO⟩, h1, h2, _⟩ c hc => by
    simp only [List.mem_cons, List.not_mem_nil, or_false] at hc
    rcases hc with rfl | rfl | rfl | rfl | rfl
    · exact ⟨_, hz, fun v q => by cases (show Data.fields _ = Data.cell v from q)⟩
    · exact ⟨_, hTI, fun v q => by cases (show Data.seq _ _ = Data.cell v from q)⟩
    · exact ⟨_, hTO, fun v q => by cases (show Data.seq _ _ = Data.cell v from q)⟩
    · obtain ⟨o, e, _, d⟩ := h1
      exact ⟨o, e, fun v q => by rw [d] at q; cases q⟩
    · obtain ⟨o, e, _, d⟩ := h2
      exact ⟨o, e, fun v q => by rw [d] at q; cases q⟩
  keep := fun i h h' ⟨hz, hTI, ⟨u, v, hTO⟩, h1, h2, n1, n2⟩ k => ⟨k z (by simp) _ hz, k TI (by simp) _ hTI, ⟨u, v, k TO (by simp) _ hTO⟩, h1.at fun o e => k i1 (by simp) o e, h2.at fun o e => k i2 (by simp) o e, n1, n2⟩
  item := by
    intro X hP hw hK hc i pins s σ H E I hf ⟨hz, hTI, ⟨u, v, hTO⟩, h1, h2, n1, n2⟩ hg
    subst hP hw hK
    obtain ⟨xs, x, ys, y, hqa, hx, hqb, hy⟩ := hg
    obtain ⟨its, rv, p, hsz⟩ := I.list hqa
    obtain ⟨jts, rw', p', hsz'⟩ := I.list hqb
    obtain ⟨ux, hux, rux⟩ := rv.get hx
    obtain ⟨uy, huy, ruy⟩ := rw'.get hy
    have D : ZipApart z TI TO i1 i2 a b := by
      obtain ⟨oa, ea, ca, _, _⟩ := p.isList
      obtain ⟨ob, eb, cb, _, _⟩ := p'.isList
      obtain ⟨o1, e1, c1, _⟩ := h1
      obtain ⟨o2, e2, c2, _⟩ := h2
      have dz : ∀ {c : Addr} {o : Obj} {T : String}, s.heap.get? c = some o → o.cls = .type T → T ≠ "zip" → c ≠ z := fun e q n r => by
        rw [r, hz] at e; cases e; cases q; exact n rfl
      have dT : ∀ {c d : Addr} {o q : Obj} {T U : String}, s.heap.get? c = some o → o.cls = .type T → s.heap.get? d = some q → q.cls = .type U → T ≠ U → c ≠ d := fun e1 c1 e2 c2 n r => by
        subst r; rw [e1] at e2; cases e2; rw [c1] at c2; cases c2; exact n rfl
      exact ⟨dz hTI rfl (by decide), dz hTO rfl (by decide), dz e1 c1 (by decide), dz e2 c2 (by decide), n1, dT hTI rfl e1 c1 (by decide), dT hTI rfl e2 c2 (by decide), dT hTO rfl e1 c1 (by decide), dT hTO rfl e2 c2 (by decide), n2,
        dz ea ca (by decide), dT ea ca hTO rfl (by decide), dT ea ca e1 c1 (by decide), dT ea ca e2 c2 (by decide), dz eb cb (by decide), dT eb cb hTO rfl (by decide), dT eb cb e1 c1 (by decide), dT eb cb e2 c2 (by decide)⟩
    refine wpAny_pyNext_zip_item D hz hTI hTO h1 h2 p.isList p'.isList (x := ux) (y := uy) (by simpa using hux) (by simpa using huy) fun h' a1 a2 a3 a4 a5 a6 hk => ?_
    refine ⟨_, rfl, ?_⟩
    refine wpAny_letOwnedTupleGo_zip (s := { s with heap := h' }) a1 fun h2' hz' hs' => ?_
    have lt : ∀ b ∈ [z, TI, TO, i1, i2], b < s.heap.objs.size := fun c hcm => by
      simp only [List.mem_cons, List.not_mem_nil, or_false] at hcm
      rcases hcm with rfl | rfl | rfl | rfl | rfl
      · exact Heap.lt_size hz
      · exact Heap.lt_size hTI
      · exact Heap.lt_size hTO
      · obtain ⟨o, e, _⟩ := h1; exact Heap.lt_size e
      · obtain ⟨o, e, _⟩ := h2; exact Heap.lt_size e
    have hTI2 : IsPair h2' TI (.ref i1) (.ref i2) := hs'.extBut _ _ D.TIz (hk _ _ D.TIz D.TITO D.TIi1 D.TIi2 hTI)
    have hTO2 : IsPair h2' TO ux uy := hs'.extBut _ _ D.TOz a2
    have h12 : h2'.IsListIter i1 a (i + 1) := a3.extBut hs'.extBut D.i1z
    have h22 : h2'.IsListIter i2 b (i + 1) := a4.extBut hs'.extBut D.i2z
    have pz : s.heap.objs.size ≠ z := Nat.ne_of_gt (Heap.lt_size hz)
    have hp2 : IsPair h2' s.heap.objs.size ux uy := hs'.extBut _ _ pz a5
    have kk : ∀ c o, c ∉ [z, TI, TO, i1, i2] → s.heap.get? c = some o → h2'.get? c = some o := fun c o hcm e => by
      simp only [List.mem_cons, List.not_mem_nil, or_false, not_or] at hcm
      exact hs'.extBut _ _ hcm.1 (hk c o hcm.1 hcm.2.2.1 hcm.2.2.2.1 hcm.2.2.2.2 e)
    have I1 : Inv X pins σ H { s with heap := h2', toks := s.toks } := I.turnedL kk hf
    have fP : FpOk X pins H s.heap.objs.size := I.fpOk (Nat.le_refl _) (I.hok.fresh (Nat.le_refl _))
    have I2 : Inv X pins σ (upd H s.heap.objs.size (.tup [x, y])) { s with heap := h2', toks := s.toks } := by
      refine I1.track I.sz (fP.2.1) fP.2.2.2.2.1 fP.2.2.2.2.2 fP.1 ?_
      exact ⟨(show 2 ≤ sizeLine by decide), [ux, uy], .cons rux (.cons ruy .nil), ⟨_, hp2, rfl, _, rfl⟩⟩
    refine ⟨.ref s.heap.objs.size, _, I2, rfl, ⟨_, x, y, rfl, fP.1, rfl, fun zs hzs => by rw [I.list_inj hzs hqa]; exact hx, fun zs hzs => by rw [I.list_inj hzs hqb]; exact hy⟩, ⟨hz', hTI2, ⟨_, _, hTO2⟩, h12, h22, n1, n2⟩, fun c hcm => ?_⟩
    rw [upd_ne (Nat.ne_of_lt (lt c hcm))]
    exact (hf c hcm).1
  done := by
    intro X hP hw hK hc i pins s σ H E I hf ⟨hz, hTI, ⟨u, v, hTO⟩, h1, h2, n1, n2⟩ hg
    subst hP hw hK
    obtain ⟨xs, ys, hqa, hqb, hend⟩ := hg
    obtain ⟨its, rv, p, hsz⟩ := I.list hqa
    obtain ⟨jts, rw', p', hsz'⟩ := I.list hqb
    have D : ZipApart z TI TO i1 i2 a b := by
      obtain ⟨oa, ea, ca, _, _⟩ := p.isList
      obtain ⟨ob, eb, cb, _, _⟩ := p'.isList
      obtain ⟨o1, e1, c1, _⟩ := h1
      obtain ⟨o2, e2, c2, _⟩ := h2
      have dz : ∀ {c : Addr} {o : Obj} {T : String}, s.heap.get? c = some o → o.cls = .type T → T ≠ "zip" → c ≠ z := fun e q n r => by
        rw [r, hz] at e; cases e; cases q; exact n rfl
      have dT : ∀ {c d : Addr} {o q : Obj} {T U : String}, s.heap.get? c = some o → o.cls = .type T → s.heap.get? d = some q → q.cls = .type U → T ≠ U → c ≠ d := fun e1 c1 e2 c2 n r => by
        subst r; rw [e1] at e2; cases e2; rw [c1] at c2; cases c2; exact n rfl
      exact ⟨dz hTI rfl (by decide), dz hTO rfl (by decide), dz e1 c1 (by decide), dz e2 c2 (by decide), n1, dT hTI rfl e1 c1 (by decide), dT hTI rfl e2 c2 (by decide), dT hTO rfl e1 c1 (by decide), dT hTO rfl e2 c2 (by decide), n2,
        dz ea ca (by decide), dT ea ca hTO rfl (by decide), dT ea ca e1 c1 (by decide), dT ea ca e2 c2 (by decide), dz eb cb (by decide), dT eb cb hTO rfl (by decide), dT eb cb e1 c1 (by decide), dT eb cb e2 c2 (by decide)⟩
    have e1 := rv.length
    have e2 := rw'.length
    refine wpAny_pyNext_zip_end (I.ok.hd hc) D hz hTI hTO h1 h2 p.isList p'.isList (k1 := i) (k2 := i) (by
      rcases hend with h | h
      · left; simp; omega
      · right; simp; omega) fun h' hk => ⟨rfl, ?_⟩
    exact I.turnedL (t' := s.toks) (fun c o hcm e => by
      simp only [List.mem_cons, List.not_mem_nil, or_false, not_or] at hcm
      exact hk c o hcm.1 hcm.2.2.1 hcm.2.2.2.1 hcm.2.2.2.2 e) hf
  self := fun _ _ _ _ _ st h => wpAny_pyIter_zip st.1 h
section
variable {X : Cx}
def iZip (K : PySem.W.Frag) (ta : TA) : TI := fun σ H R => ta σ H fun vs H1 => ∃ a b, vs = [.ref a, .ref b] ∧ (∃ xs, SqL K H1 a xs) ∧ (∃ ys, SqL K H1 b ys) ∧ R (Itz K a b) H1
theorem pi_zip {es : List Expr} {x1} {tpos : Pos} {e1 e2 : Expr} {ta : TA} {p pos : Pos} (hg : Gl X "zip") (hm : X.mg "zip" = none) (ha : PA X [e1, e2] ta) (hs : starEach [e1, e2] X.env = [(false, eval e1 X.env), (false, eval e2 X.env)] := by rfl) (hs2 : starEach [e2] X.env = [(false, eval e2 X.env)] := by rfl) :
    PI X (.Tuple es x1 tpos) (.Call (.Name "zip" p) [e1, e2] [] pos) (iZip X.K ta) := by
  intro pins s σ H R I h
  refine Call_ (ld_blt I hg hm (by rfl) (PyProof.Rows.callWith_type1 (thn (ha pos pins s σ H _ I h) fun us s1 ⟨vs, H1, I1, r1, q1⟩ => ?_) (by rw [hs, hs2]) (by rw [hs2]; rfl)))
  obtain ⟨a, b, rfl, ⟨xs, hqa⟩, ⟨ys, hqb⟩, q⟩ := q1
  obtain ⟨u1, u2, rfl, ru1, ru2⟩ := vals2 r1
  cases (show u1 = Value.ref a from ru1)
  cases (show u2 = Value.ref b from ru2)
  obtain ⟨its, rv, pa, hsz⟩ := I1.list hqa
  obtain ⟨jts, rw', pb, hsz'⟩ := I1.list hqb
  refine call_zip_2 pa.isList pb.isList fun h' hz hTI hTO h1 h2 hsize hk => ?_
  refine wpAny_pyIter_zip (s := { s1 with heap := h' }) hz ?_
  refine ⟨_, _, _, _, H1, rfl, I1.kept (t' := s1.toks) hk, turn_zip a b (s1.heap.objs.size + 4) (s1.heap.objs.size + 2) (s1.heap.objs.size + 3) s1.heap.objs.size (s1.heap.objs.size + 1), ⟨hz, hTI, ⟨_, _, hTO⟩, h1, h2, (fun z => by have : s1.heap.objs.size + 2 = s1.heap.objs.size + 3 := z; omega), (fun z => by have : s1.heap.objs.size = s1.heap.objs.size + 1 := z; omega)⟩, fun c hc => ?_, q⟩
  have hge : s1.heap.objs.size ≤ c := by
    simp only [List.mem_cons, List.not_mem_nil, or_false] at hc
    rcases hc with h | h | h | h | h <;> (rw [h]; omega)
  exact I1.fpOk hge (I1.hok.fresh hge)
end

def Ite (K : PySem.W.Frag) (a : Addr) : It :=
  ⟨fun i H => ∃ xs x, SqL K H a xs ∧ xs[i]? = some x,
   fun i H v H' => ∃ p x, v = .ref p ∧ H p = none ∧ H' = upd H p (.tup [.int i, x]) ∧ ∀ xs, SqL K H a xs → xs[i]? = some x,
   fun i H => ∃ xs, SqL K H a xs ∧ xs.length ≤ i⟩
theorem turn_enum {P : Program} {w : World} {K : PySem.W.Frag} {es : List Expr} {x1} {pos : Pos} (a e it : Addr) : Turn P w K (.Tuple es x1 pos) (Ite K a) [e, it] e
    (fun i h => (∃ old, IsEnum h e it i old) ∧ h.IsListIter it a i) where
  mem := by simp
  obj := fun i h ⟨⟨old, he⟩, h1⟩ c hc => by
    simp only [List.mem_cons, List.not_mem_nil, or_false] at hc
    rcases hc with rfl | rfl
    · exact ⟨_, he, fun v q => by cases (show Data.fields _ = Data.cell v from q)⟩
    · obtain ⟨o, e, _, d⟩ := h1
      exact ⟨o, e, fun v q => by rw [d] at q; cases q⟩
  keep := fun i h h' ⟨⟨old, he⟩, h1⟩ k => ⟨⟨old, k e (by simp) _ he⟩, h1.at fun o q => k it (by simp) o q⟩
  item := by
    intro X hP hw hK hc i pins s σ H E I hf ⟨⟨old, he⟩, h1⟩ hg
    subst hP hw hK
    obtain ⟨xs, x, hqa, hx⟩ := hg
    obtain ⟨its, rv, p, hsz⟩ := I.list hqa
    obtain ⟨ux, hux, rux⟩ := rv.get hx
    have hne : e ≠ it := fun z => by
      obtain ⟨o1, e1, c1, _⟩ := h1
      rw [← z, he] at e1; cases e1
      exact absurd (show Value.type "enumerate" = Value.type "list_iterator" from c1) (by decide)
    refine wpAny_pyNext_enum_item he h1 p.isList (x := ux) (by simpa using hux) hne fun h' a1 a3 a5 a6 hk => ?_
    refine ⟨_, rfl, ?_⟩
    refine wpAny_letOwnedTupleGo_enum (s := { s with heap := h', toks := s.toks + 1 }) a1 fun h2' hz' hs' => ?_
    have lt : ∀ b ∈ [e, it], b < s.heap.objs.size := fun c hcm => by
      simp only [List.mem_cons, List.not_mem_nil, or_false] at hcm
      rcases hcm with rfl | rfl
      · exact Heap.lt_size he
      · obtain ⟨o, q, _⟩ := h1; exact Heap.lt_size q
    have h12 : h2'.IsListIter it a (i + 1) := a3.extBut hs'.extBut (Ne.symm hne)
    have pz : s.heap.objs.size ≠ e := Nat.ne_of_gt (Heap.lt_size he)
    have hp2 : h2'.get? s.heap.objs.size = some { cls := .type "tuple", data := .seq #[.int i s.toks, ux] } := hs'.extBut _ _ pz a5
    have kk : ∀ c o, c ∉ [e, it] → s.heap.get? c = some o → h2'.get? c = some o := fun c o hcm q => by
      simp only [List.mem_cons, List.not_mem_nil, or_false, not_or] at hcm
      exact hs'.extBut _ _ hcm.1 (hk c o hcm.1 hcm.2 q)
    have I1 : Inv X pins σ H { s with heap := h2', toks := s.toks + 1 } := I.turnedL kk hf
    have fP : FpOk X pins H s.heap.objs.size := I.fpOk (Nat.le_refl _) (I.hok.fresh (Nat.le_refl _))
    have I2 : Inv X pins σ (upd H s.heap.objs.size (.tup [.int i, x])) { s with heap := h2', toks := s.toks + 1 } := by
      refine I1.track I.sz (fP.2.1) fP.2.2.2.2.1 fP.2.2.2.2.2 fP.1 ?_
      exact ⟨(show 2 ≤ sizeLine by decide), [.int i s.toks, ux], .cons ⟨_, rfl⟩ (.cons rux .nil), ⟨_, hp2, rfl, _, rfl⟩⟩
    refine ⟨.ref s.heap.objs.size, _, I2, rfl, ⟨_, x, rfl, fP.1, rfl, fun zs hzs => by rw [I.list_inj hzs hqa]; exact hx⟩, ⟨⟨_, hz'⟩, h12⟩, fun c hcm => ?_⟩
    rw [upd_ne (Nat.ne_of_lt (lt c hcm))]
    exact (hf c hcm).1
  done := by
    intro X hP hw hK hc i pins s σ H E I hf ⟨⟨old, he⟩, h1⟩ hg
    subst hP hw hK
    obtain ⟨xs, hqa, hend⟩ := hg
    obtain ⟨its, rv, p, hsz⟩ := I.list hqa
    have e1 := rv.length
    refine wpAny_pyNext_enum_end (I.ok.hd hc) he h1 p.isList (i := i) (by simp; omega) fun h' hk => ⟨rfl, ?_⟩
    exact I.turnedL (t' := s.toks) (fun c o hcm q => by
      simp only [List.mem_cons, List.not_mem_nil, or_false, not_or] at hcm
      exact hk c o hcm.2 q) hf
  self := fun _ _ _ _ _ ⟨⟨_, st⟩, _⟩ h => wpAny_pyIter_enum st h
section
variable {X : Cx}
def iEnum (K : PySem.W.Frag) (ta : TA) : TI := fun σ H R => ta σ H fun vs H1 => ∃ a, vs = [.ref a] ∧ (∃ xs, SqL K H1 a xs) ∧ R (Ite K a) H1
theorem pi_enum {es : List Expr} {x1} {tpos : Pos} {e1 : Expr} {ta : TA} {p pos : Pos} (hg : Gl X "enumerate") (hm : X.mg "enumerate" = none) (ha : PA X [e1] ta) (hs : starEach [e1] X.env = [(false, eval e1 X.env)] := by rfl) :
    PI X (.Tuple es x1 tpos) (.Call (.Name "enumerate" p) [e1] [] pos) (iEnum X.K ta) := by
  intro pins s σ H R I h
  refine Call_ (ld_blt I hg hm (by rfl) (PyProof.Rows.callWith_type1 (thn (ha pos pins s σ H _ I h) fun us s1 ⟨vs, H1, I1, r1, q1⟩ => ?_) hs rfl))
  obtain ⟨a, rfl, ⟨xs, hqa⟩, q⟩ := q1
  obtain ⟨u1, rfl, ru1⟩ := vals1 r1
  cases (show u1 = Value.ref a from ru1)
  obtain ⟨its, rv, pa, hsz⟩ := I1.list hqa
  refine call_enumerate_list pa.isList fun h' hz h1 hsize hk => ?_
  refine wpAny_pyIter_enum (s := { s1 with heap := h' }) hz ?_
  refine ⟨_, _, _, _, H1, rfl, I1.kept (t' := s1.toks) hk, turn_enum a (s1.heap.objs.size + 1) s1.heap.objs.size, ⟨⟨_, hz⟩, h1⟩, fun c hc => ?_, q⟩
  have hge : s1.heap.objs.size ≤ c := by
    simp only [List.mem_cons, List.not_mem_nil, or_false] at hc
    rcases hc with h | h <;> (rw [h]; omega)
  exact I1.fpOk hge (I1.hok.fresh hge)
end
end L2

set_option Elab.async false
set_option linter.all false
set_option maxRecDepth 100000
namespace L2
open PySem PySem.Spec PyProof.Rows

theorem vals_of_items {P : Nat → Value → Prop} {acc : List Value} {xs : List V} (hl : acc.length = xs.length) (h : ∀ (j : Nat) (v : Value), acc[j]? = some v → P j v) (hP : ∀ (j : Nat) v x, P j v → xs[j]? = some x → RelV x v) : Vals xs acc := by
  induction xs generalizing acc P with
  | nil =>
    cases acc with
    | nil => exact .nil
    | cons _ _ => simp at hl
  | cons x xs ih =>
    cases acc with
    | nil => simp at hl
    | cons u acc =>
      refine .cons (hP 0 u x (h 0 u rfl) rfl) (ih (P := fun j => P (j + 1)) (by simpa using hl) (fun j v e => h (j + 1) v (by simpa using e)) fun j v y p e => hP (j + 1) v y p (by simpa using e))

section
variable {X : Cx}
theorem bools_of : ∀ {bs : List Bool} {us : List Value}, Vals (bs.map V.bl) us → LSm.BoolsAre us bs
  | [], _, .nil => .nil
  | b :: bs, _, .cons r t => by
    obtain rfl := (show _ = Value.bool b from r)
    exact .cons b (bools_of t)
theorem call_all (hc : X.calm = true) : CallR X (.builtin "all") (fun xs H Q => ∃ (a : Addr) (bs : List Bool), xs = [V.ref a] ∧ SqL X.K H a (bs.map V.bl) ∧ Q (.bl (bs.all id)) H) := by
  intro pins s σ H xs us Q I r h
  obtain ⟨a, bs, rfl, hq, q⟩ := h
  obtain ⟨u, rfl, ru⟩ := vals1 r
  cases (show u = Value.ref a from ru)
  obtain ⟨its, rv, p, hz⟩ := I.list hq
  obtain ⟨m, F⟩ := I.fr
  have hlt : a < s.heap.objs.size := by obtain ⟨_, e, _⟩ := p.isList; exact Heap.lt_size e
  have hb := bools_of rv
  refine call_all_walk (wpAny_pyIter_list p.isList ?_)
  refine ⟨s.heap.objs.size, [s.heap.objs.size, a], [s.heap.objs.size], its.toArray.size, _, _, fun i => (bs[i]?).getD true, rfl, Walks.list (A := X.A.in1) (I.ok.hd hc) _ a (Nat.ne_of_lt hlt) its.toArray,
    ⟨⟨_, Heap.get?_push_size _ rfl, rfl, rfl⟩, p.isList.push _⟩, fun i v s' Q' E' hP hQ => ?_, fun h' tk hk => ?_⟩
  · obtain ⟨b, e, rfl⟩ := hb.get i v (by simpa using hP)
    simp only [e, Option.getD_some] at hQ
    exact wpAny_truthy_bool hQ
  · have e : ((List.range its.toArray.size).all fun i => (bs[i]?).getD true) = bs.all id := by
      rw [List.size_toArray, hb.length]; exact LSm.range_all bs
    rw [e]
    exact ⟨.bl (bs.all id), H, I.kept (LSm.kept_iter hk), rfl, q⟩
end
end L2

set_option Elab.async false
set_option linter.all false
set_option maxRecDepth 100000
namespace L2
open PySem PySem.Spec PyProof.Rows

section
variable {X : Cx}
end
end L2

set_option Elab.async false
set_option linter.all false
set_option maxRecDepth 100000
namespace L2
open PySem PySem.Spec PyProof.Rows
structure FunG (K : PySem.W.Frag) (x qual : Str) (st : Stmt) (dV : Value) (f : Addr) (fd : FuncData) : Prop where
  ex : ∃ (oc : Value) (od : Option Addr) (kV doc pm : Value) (an : Option Addr) (cdv ct : Value) (osl : Array (Option Value)),
    fd = PySem.W.fnOf x qual (defArgs st) (defBody st) (defScope st) dV kV doc pm an cdv ct ∧ K.lookup f = some ⟨oc, od, .func fd, osl⟩ ∧ PySem.W.codeIn K cdv qual = true
  kp : PySem.W.keepIn K (.ref f) = true
section
variable {P : Program} {w : World} {K : PySem.W.Frag} {mg : Str → Option Value} {base : Heap}
theorem FunG.ok {x qual : Str} {st : Stmt} {dV : Value} {f : Addr} {fd : FuncData} {N ps : List Str} {k : Nat} {sp : Sp} (F : FunG K x qual st dV f fd) (S : FnScope N ps (defScope st)) (len : ∀ vs H Q E, sp vs H Q E → vs.length = ps.length)
    (hbody : ∀ (cdv : Value) (A : Around) (outer : List Env) (s : Shared) (H : Hp) (vs : List V) (Q : VK) (E : XK), Room k (A.deeper (envOfC qual (defScope st) s.heap.objs.size f cdv)) → sp vs H Q E →
      ∃ t, PSs (cxOf CX0 P w K mg base N qual (defScope st) f cdv A outer s H E).nox (defBody st) t ∧ t { nx := fun _ H' => Q .non H', rt := Q } (start N vs) H) : FnOk P w K mg base CX0 (k + 1) f fd ps sp := by
  obtain ⟨oc, od, kV, doc, pm, an, cdv, ct, osl, rfl, lk, hcd⟩ := F.ex
  refine fn_of lk hcd S len fun A outer s H vs Q E hr hsp => ?_
  obtain ⟨t, h, q⟩ := hbody cdv A outer s H vs Q E hr hsp
  exact ⟨t, h.nox, q⟩
theorem FunG.binds {x qual : Str} {st : Stmt} {dV : Value} {f : Addr} {fd : FuncData} {ps : List Str} (F : FunG K x qual st dV f fd)
    (h : ∀ (kV doc pm : Value) (an : Option Addr) (cdv ct : Value) (us : List Value), us.length = ps.length → bindArgs (PySem.W.fnOf x qual (defArgs st) (defBody st) (defScope st) dV kV doc pm an cdv ct) ⟨us, []⟩ = pure (ps.zip us)) : Binds K fd ps [] := by
  obtain ⟨oc, od, kV, doc, pm, an, cdv, ct, osl, rfl, lk, hcd⟩ := F.ex
  exact .all (h kV doc pm an cdv ct)
theorem funG_mk {x qual : Str} {st : Stmt} {f : Addr} {oc : Value} {od an : Option Addr} {osl : Array (Option Value)} {dV kV doc pm cdv ct : Value} (l : K.lookup f = some ⟨oc, od, .func (PySem.W.fnOf x qual (defArgs st) (defBody st) (defScope st) dV kV doc pm an cdv ct), osl⟩)
    (c : PySem.W.codeIn K cdv qual = true) (k : PySem.W.keepIn K (.ref f) = true) : FunG K x qual st dV f (PySem.W.fnOf x qual (defArgs st) (defBody st) (defScope st) dV kV doc pm an cdv ct) := ⟨⟨oc, od, kV, doc, pm, an, cdv, ct, osl, rfl, l, c⟩, k⟩
end
end L2

set_option Elab.async false
set_option linter.all false
set_option maxRecDepth 100000
namespace L2
open PySem PySem.Spec PyProof.Rows
section
variable {X : Cx} {K : PySem.W.Frag}
theorem pg_tupK (hK : X.K = K) {es : List Expr} {k : Nat} {t : TGs} {n : Nat} {pos : Pos} (hc : X.calm = true) (h : PGs X es t)
    (hn : (assignEach es X.env).length = n := by rfl) (hst : (assignEach es X.env).findIdx? (·.1) = none := by rfl) : PG X (.Tuple es k pos) (gTup K n t) := by
  subst hK; exact pg_tup hc h hn hst
theorem ix_listK (hK : X.K = K) : IxR X (rIxL K) := by subst hK; exact ix_list
end
end L2
namespace L2
theorem tTrueT {σ : St} {H : Hp} {A B : Hp → Prop} (h : A H) : tTrue σ H (fun b H3 => if b = true then A H3 else B H3) := (iteT h : if true = true then A H else B H)
end L2
namespace L2
open PySem PySem.Spec PyProof.Rows
section
variable {X : Cx} {CX : CXT} {k : Nat} {f C : Addr} {fd : FuncData} {ps ks : List Str} {sp : Sp} {E : XK} {x m : Str} {p pos apos kpos : Pos} {e o : Expr} {es : List Expr} {kws : List Keyword} {te ta : TE} {t tk : TA}
  {g : List Value → List Value → List Value} {gV : List V → List V → List V}
end
end L2
namespace L2
end L2

set_option Elab.async false
set_option linter.all false
set_option maxRecDepth 100000
namespace L2
open PySem PySem.Spec PyProof.Rows
section
variable {prog : Program} {w : World} {K : Type} [DecidableEq K] {knd : HeapKind prog w K} {A : Around} {E : Value → Shared → Prop} {s : Shared} {d a : Addr} {k : K} {xs : List (K × Addr × Value)}
end
end L2
namespace L2
open PySem PySem.Spec PyProof.Rows
theorem KT.drop {H : Hp} {kvs : List (List Key × V)} {xs : List (List Key × Addr × Value)} (r : KT H kvs xs) (k : List Key) : KT H (dropK kvs k) (xs.filter fun x => decide (x.1 ≠ k)) := by
  unfold dropK
  induction r with
  | nil => exact .nil
  | @cons p q ps qs hq t ih =>
    rw [List.filter_cons, List.filter_cons]
    have e : p.1 = q.1 := hq.1
    by_cases c : q.1 = k
    · rw [if_neg (by simpa using e.trans c), if_neg (by simpa using c)]; exact ih
    · rw [if_pos (by simpa using fun z => c (e.symm.trans z)), if_pos (by simpa using c)]; exact .cons hq ih
section
variable {X : Cx} {pins : List (Addr × Obj)} {σ : St} {H : Hp} {s : Shared} {a b : Addr} {kvs : List (List Key × V)} {k : List Key} {u : Value} {A : Around} {E : Value → Shared → Prop}
end
section
variable {X : Cx} {o i e : Expr} {td ty : TE} {tpos pos apos cpos : Pos}
theorem op_addL : OpR X (binaryOp .Add) (fun x y H Q => ∃ a b xs ys, x = .ref a ∧ y = .ref b ∧ SqL X.K H a xs ∧ SqL X.K H b ys ∧ xs.length + ys.length ≤ sizeLine ∧ ∀ l, H l = none → Q (.ref l) (upd H l (.lst (xs ++ ys)))) := by
  intro pins s σ H x y u v Q I rx ry h
  obtain ⟨a, b, xs, ys, rfl, rfl, ha, hb, hz, q⟩ := h
  cases (show u = Value.ref a from rx)
  cases (show v = Value.ref b from ry)
  obtain ⟨ia, ra, ⟨⟨cls, dd, data, sl⟩, n, ho, hc, _, hd⟩, _⟩ := I.list ha
  obtain ⟨ib, rb, ⟨⟨cls2, dd2, data2, sl2⟩, n2, ho2, hc2, _, hd2⟩, _⟩ := I.list hb
  simp only at hc hd hc2 hd2
  subst hc hd hc2 hd2
  have e : ia.toArray ++ ib.toArray = (ia ++ ib).toArray := by simp
  have e1 := ra.length
  have e2 := rb.length
  refine concat_meets ⟨_, ho, rfl⟩ ⟨_, ho2, rfl⟩ noFill_list_add seq_list_add PySem.F.slot_list_add PySem.F.entry_list_add (PySem.F.args_list_add_2 _ _) (list_addW a b ia.toArray ib.toArray n n2 dd dd2 sl sl2 (by simp; omega)) ⟨ho, ho2, ?_⟩
  rw [e]
  refine ⟨.ref s.heap.objs.size, _, I.laid (a := s.heap.objs.size) (o := .lst (xs ++ ys)) (t' := s.toks) (fun _ _ q => Heap.get?_push_of_some _ q) (Nat.le_refl _) ⟨by simpa using hz, ia ++ ib, 0, ra.append rb, Heap.get?_push_size _ rfl⟩, rfl, q _ (I.hok.fresh (Nat.le_refl _))⟩
end
end L2
namespace L2
open PySem PySem.Spec PyProof.Rows
end L2

set_option Elab.async false
set_option linter.all false
set_option maxRecDepth 100000
namespace L2
open PySem PySem.Spec PyProof.Rows
section
variable {prog : Program} {w : World} {A : Around} {E : Value → Shared → Prop} {s : Shared}
end
section
variable {X : Cx} {pins : List (Addr × Obj)} {σ : St} {H : Hp} {s : Shared} {a : Addr} {y v : V} {u r : Value} {o : Option V} {A : Around} {E : Value → Shared → Prop}
end
end L2

set_option Elab.async false
set_option linter.all false
set_option maxRecDepth 100000
namespace L2
open PySem PySem.Spec PyProof.Rows
section
variable {X : Cx}
theorem ps_setC {ix : Nat} {nm : Str} {pos' spos : Pos} {elt tg iter : Expr} {ifs : List Expr} {scope : Scope} {pos : Pos} {wi : TI} {k : Nat} {g : TG} {tc : TT} {te : TE} (hNd : X.N.Nodup) (hix : X.N[ix]? = some nm) (hLx : Loc X.env.scope nm) (N' : List Str) (hc : X.calm = true) (hi : PI X tg iter wi)
    (hg : ∀ C s₀ H₀ fp pins, PG (blk X scope N' C s₀ H₀ fp pins) tg g) (ht : ∀ C s₀ H₀ fp pins, PTs (blk X scope N' C s₀ H₀ fp pins) ifs tc) (he : ∀ C s₀ H₀ fp pins, PE (blk X scope N' C s₀ H₀ fp pins) elt te)
    (hk : scope.kind = .function) (hcell : ∀ y ∈ scope.names, y.2 ≠ .cell) (hnames : ∀ y ∈ scope.names, y.2 = .local → scope.names.lookup y.1 = some .local)
    {esc : Scope} (hsc : X.env.scope = esc) (hfr' : ∀ y ∈ scope.names, y.2 = .free → esc.names.lookup y.1 = some .cell ∨ esc.names.lookup y.1 = some .free)
    (hlen : N'.length = k + X.N.length)
    (hN : ∀ (i : Nat) (x : Str), N'[i + k]? = some x → (x, NameKind.free) ∈ scope.names → X.N[i]? = some x)
    (hN2 : ∀ x ∈ N'.drop k, scope.names.lookup x ≠ some .local)
    (hs : ∀ x, foldedSetIterable iter X.env x = pure x := by intro _; rfl)
    (hsw : swapsWith (.ListComp elt [⟨tg, iter, ifs, 0⟩] scope pos) (some (.Name nm pos')) spos.line X.env = pure true := by rfl)
    (hf : X.fn nm = true ∨ X.env.scope.names.lookup nm = some .local := by first | exact .inl rfl | exact .inr rfl | assumption) :
    PS X (.Assign [.Name nm pos'] (.ListComp elt [⟨tg, iter, ifs, 0⟩] scope pos) spos) (tAsg (tLC wi k g tc te) (gName ix)) := by
  intro pins s σ H Dn I h
  have hfr : ∀ y ∈ scope.names, y.2 = .free → X.env.kindOf y.1 = some .cell ∨ X.env.kindOf y.1 = some .free := fun y hy hf => by
    show X.env.scope.names.lookup y.1 = _ ∨ X.env.scope.names.lookup y.1 = _
    rw [hsc]; exact hfr' y hy hf
  have hcells : ∀ y ∈ scope.names, y.2 = .free → ∃ c, X.env.cells.lookup y.1 = some c := fun y hy hf => I.ok.has y.1 (hfr y hy hf)
  have hclos := closure_eq scope X.env hcells
  rw [exec_Assign_Name_used _ _ _ _ hsw]
  refine wpAny_bind (wpAny_standAt (wpAny_bind ?_))
  show wpAny _ X.A (do let _ ← comprehension (.ListComp elt [⟨tg, iter, ifs, 0⟩] scope pos) scope X.env _ (newList []) false (eval iter X.env) (some (assign (.Name nm pos') X.env))) _ _ s
  refine wpAny_bind (wpAny_mono (wpAny_comprehension_free (Q := fun _ s' => SP X pins Dn .next s') (use := some (assign (.Name nm pos') X.env)) rfl hs hclos hk hnames ?_) (fun _ s' hq => wpAny_pure (wpAny_pure hq)) fun _ _ e => e)
  refine (thn (hi pins s σ H _ I h) fun v s1 h1 => thn h1 fun itv s2 h2 => ?_)
  obtain ⟨it, fp, tn, J, H2, e, I2, T, st2, f2, R⟩ := h2
  subst e
  refine wpAny_newObj_type ?_
  have hD : H2 s2.heap.objs.size = none := I2.hok.fresh (Nat.le_refl _)
  obtain ⟨W, ⟨m0, w0⟩, turn⟩ := R _ hD
  generalize eD : s2.heap.objs.size = D at *
  have I3 : Inv X pins σ (upd H2 D (.lst [])) { s2 with heap := s2.heap.push { cls := .type "list", dict := none, data := .seq ([] : List Value).toArray } } :=
    I2.laid (a := D) (o := .lst []) (t' := s2.toks) (fun b u e => Heap.get?_push_of_some _ e) (Nat.le_of_eq eD) ⟨Nat.zero_le _, [], 0, .nil, by rw [← eD]; exact Heap.get?_push_size _ rfl⟩
  generalize e3 : ({ s2 with heap := s2.heap.push { cls := .type "list", dict := none, data := .seq ([] : List Value).toArray } } : Shared) = s3 at *
  have st3 : tn 0 s3.heap := T.keep _ _ _ st2 fun b _ o e => by rw [← e3]; exact Heap.get?_push_of_some _ e
  have lt2 : ∀ b ∈ fp, b < s2.heap.objs.size := fun b hb => by
    obtain ⟨o, e, _⟩ := T.obj _ _ st2 b hb
    exact Heap.lt_size e
  have neD : ∀ b ∈ fp, b ≠ D := fun b hb => by
    have := lt2 b hb
    rw [eD] at this
    exact Nat.ne_of_lt this
  have f3 : ∀ b ∈ fp, FpOk X pins (upd H2 D (.lst [])) b := fun b hb => ⟨by rw [upd_ne (neD b hb)]; exact (f2 b hb).1, (f2 b hb).2⟩
  generalize upd H2 D (.lst []) = H3 at *
  refine wpAny_newFunctionEnv hcell (by intro y hy; simp at hy) (fun h₁ hns₁ hsb₁ => ?_) hk
  try dsimp only at hns₁ hsb₁ ⊢
  have lt3 : ∀ b ∈ fp, b < s3.heap.objs.size := fun b hb => by
    obtain ⟨o, e, _⟩ := T.obj _ _ st3 b hb
    exact Heap.lt_size e
  generalize eC : s3.heap.objs.size = C at *
  have kp : ∀ b o, s3.heap.get? b = some o → h₁.get? b = some o := fun b o e => (hsb₁.2 b (by rw [← eC]; exact Nat.ne_of_lt (Heap.lt_size e))).trans (Heap.get?_push_of_some _ e)
  have subC : ∀ x c, (clOf X.env.cells scope.names []).lookup x = some c → X.env.cells.lookup x = some c := fun x c e => clOf_sub scope.names [] hcells (fun y d z => by simp at z) e
  have hCnone : H3 C = none := I3.hok.fresh (Nat.le_of_eq eC)
  have ok' : (blk X scope N' C s3 H3 fp pins).Ok := {
    mod := I3.ok.mod
    kind := hk
    glob := I3.ok.glob
    blt := I3.ok.blt
    above := Nat.le_of_eq eC
    inj := fun x y c a b => I3.ok.inj x y c (subC x c a) (subC y c b)
    has := fun x hx => clOf_has scope.names [] (relabel_cf scope.names hcell hx)
    cab := fun x c a _ => absurd a Bool.false_ne_true
    hd := I3.ok.hd
    frames := I3.ok.frames
    stk := .inl rfl
    exf := fun b hb => ⟨by have := lt3 b hb; exact Nat.ne_of_lt this, fun x c e => (f3 b hb).2.2.2.2.1 x c (subC x c e)⟩
    bs := I3.bs
    bsz := Nat.le_trans I3.ok.bsz I3.sz
    noex := fun b o e hb => by
      rcases (f3 b hb).2.2.2.1 with z | z
      · exact I3.ok.noex b o e z
      · exact absurd (Nat.lt_of_lt_of_le (Heap.lt_size e) (Nat.le_trans I3.ok.bsz z)) (Nat.lt_irrefl _)
    exfs := fun b hb z => by
      rcases List.mem_cons.mp (I3.stkSub b z) with e | e
      · exact (f3 b hb).2.1 e
      · exact (f3 b hb).2.2.1 e
    funs := I3.stack
    frf := I3.stkFree }
  have s4os : ({ s3 with heap := h₁, toks := s3.toks + ([] : List (Str × Value)).length } : Shared).os = s3.os := rfl
  generalize e4 : ({ s3 with heap := h₁, toks := s3.toks + ([] : List (Str × Value)).length } : Shared) = s4 at *
  have h4 : s4.heap = h₁ := by rw [← e4]
  have J4 : Inv (blk X scope N' C s3 H3 fp pins) [] (List.replicate k none ++ σ) H3 s4 := by
    refine ⟨ok', s4os, by rw [← e4]; exact I3.bare, ?_, ⟨_, by rw [h4]; exact hns₁, fun i x v e1 e2 e5 => ?_⟩, fun x c e => ?_, hCnone, fun x c e => I3.freeC x c (subC x c e), fun p hp => ?_, ?_, ?_⟩
    · rw [h4]; exact Un.kept kp
    · have hik : ¬ i < k := fun hlt => by
        rw [List.getElem?_append_left (by rw [List.length_replicate]; exact hlt), List.getElem?_replicate] at e2
        split at e2 <;> cases e2
      obtain ⟨j, rfl⟩ : ∃ j, i = j + k := ⟨i - k, by omega⟩
      have e2' : σ[j]? = some (some v) := by
        rw [List.getElem?_append_right (by rw [List.length_replicate]; omega), List.length_replicate] at e2
        have : j + k - k = j := by omega
        rw [this] at e2; exact e2
      have nl : (relabel scope X.env).names.lookup x ≠ some .local := fun z => by
        have q : ∀ (l : List (Str × NameKind)), (l.map fun (n, k) => if (k == NameKind.free && X.env.scope.kind == .function && X.env.kindOf n == some .cell) then (n, NameKind.cell) else (n, k)).lookup x = some .local → l.lookup x = some .local := by
          intro l
          induction l with
          | nil => intro z; simp at z
          | cons y l ih =>
            obtain ⟨n, kk⟩ := y
            intro z
            by_cases hcc : (kk == NameKind.free && X.env.scope.kind == .function && X.env.kindOf n == some .cell) = true
            · simp only [List.map_cons, if_pos hcc, List.lookup_cons] at z ⊢
              cases hx : x == n with
              | true => simp only [hx] at z; cases z
              | false => simp only [hx] at z ⊢; exact ih z
            · simp only [List.map_cons, if_neg hcc, List.lookup_cons] at z ⊢
              cases hx : x == n with
              | true => simp only [hx] at z ⊢; exact z
              | false => simp only [hx] at z ⊢; exact ih z
        exact hN2 x (List.mem_of_getElem? (i := j) (by rw [List.getElem?_drop, Nat.add_comm]; exact e1)) (q _ z)
      have hcf : (relabel scope X.env).names.lookup x = some .cell ∨ (relabel scope X.env).names.lookup x = some .free := by
        rcases e5 with z | z | z
        · exact absurd z nl
        · exact .inl z
        · exact .inr z
      have hmem : (x, NameKind.free) ∈ scope.names := relabel_cf scope.names hcell hcf
      have hx := hN j x e1 hmem
      obtain ⟨mo, _, hl⟩ := I3.loc
      have hkx := hfr (x, .free) hmem rfl
      obtain ⟨u, ru, lk⟩ := hl j x v hx e2' (by
        rcases hkx with z | z
        · exact .inr (.inl z)
        · exact .inr (.inr z))
      refine ⟨u, ru, .inr ⟨hcf, ?_⟩⟩
      rcases lk with ⟨z, _⟩ | ⟨_, c, hc1, hc2⟩
      · rcases hkx with q | q
        · rw [q] at z; cases z
        · rw [q] at z; cases z
      · obtain ⟨c', hc'⟩ := clOf_has (cells := X.env.cells) scope.names [] hmem
        have := subC x c' hc'
        rw [hc1] at this; cases this
        obtain ⟨oc, h5, h6⟩ := hc2
        exact ⟨c, hc', oc, by rw [h4]; exact kp _ _ h5, h6⟩
    · obtain ⟨v, oc, h5, h6⟩ := I3.cell x c (subC x c e)
      exact ⟨v, oc, by rw [h4]; exact kp _ _ h5, h6⟩
    · have hp' : p ∈ X.pn ++ pins := by simpa using hp
      obtain ⟨a1, a2, a3, a4, a5⟩ := I3.pin p hp'
      refine ⟨by rw [h4]; exact kp _ _ a1, a2, ?_, fun z => ?_, a5⟩
      · have := Heap.lt_size a1
        rw [eC] at this
        exact Nat.ne_of_lt this
      · rcases List.mem_cons.mp (I3.stkSub p.1 z) with q | q
        · exact a3 q
        · exact a4 q
    · rw [h4]; exact I3.hok.kept kp
    · rw [List.length_append, List.length_replicate, I3.len]; exact hlen.symm
  have stat : ∀ {H' : Hp}, (∀ b ∈ fp, H' b = none) → ∀ b ∈ fp, FpOk (blk X scope N' C s3 H3 fp pins) [] H' b := fun hn b hb =>
    ⟨hn b hb, (ok'.exf b hb).1, ok'.exfs b hb, .inl hb, fun x c e => (ok'.exf b hb).2 x c e, fun p hp => (f3 b hb).2.2.2.2.2 p (by simpa using hp)⟩
  have fr4 : ∀ b ∈ fp, H3 b = none := fun b hb => (f3 b hb).1
  have st4 : tn 0 s4.heap := T.keep _ _ _ st3 fun b _ o e => by rw [h4]; exact kp _ _ e
  have loop : codeAny (model X.prog X.w) X.A (.compLoop (.ListComp elt [⟨tg, iter, ifs, 0⟩] scope pos) 0 (.ref it) (.ref D) (compEnvC scope (clOf X.env.cells scope.names []) C X.env))
      (compPost (model X.prog X.w) X.A X.xe (some (assign (.Name nm pos') X.env)) (fun _ s' => SP X pins Dn .next s') (.ref D) C) s4 := by
    refine compLoop_go (fun n s' => ∃ i ys H', Inv (blk X scope N' C s3 H3 fp pins) [] (List.replicate k none ++ σ) H' s' ∧ tn i s'.heap ∧ (∀ b ∈ fp, H' b = none) ∧ W i n ys H') ?_ m0 ⟨0, [], H3, J4, st4, fr4, w0⟩
    rintro n s5 ⟨i, ys, H5, I5, st5, fr5, w5⟩
    obtain ⟨hDl, stp⟩ := turn i n ys H5 w5
    rcases stp with ⟨stop, qn⟩ | ⟨go, step⟩
    · refine thn (T.done (blk X scope N' C s3 H3 fp pins) rfl rfl rfl hc i [] s5 _ H5 (fun _ _ => False) I5 (stat fr5) st5 stop) fun r s6 ⟨hr, I6⟩ => ?_
      subst hr
      obtain ⟨m6, ns6, _⟩ := id I6.loc
      have hC5 : H5 C = none := I6.free
      have un6 : Un (frs X.stack) fp H3 H5 s3.heap s6.heap := I6.base
      have IX : Inv X pins σ H5 s6 := by
        refine I3.call' (s' := s6) (ch := fp) I6.os un6 I6.hok I6.bare (fun b hb => ?_)
        exact ⟨(f3 b hb).2.2.2.1, (f3 b hb).2.1, (f3 b hb).2.2.2.2.1, (f3 b hb).2.2.2.2.2⟩
      have fpC : FpOk X pins H5 C := I3.fpOk (Nat.le_of_eq eC) hC5
      obtain ⟨oC, esC, epC, gC, dC, rC⟩ := ns6
      have IXp := IX.pinned (fp := [C]) (fun b hb => by rw [List.mem_singleton.mp hb]; exact fpC) (fun b hb => by rw [List.mem_singleton.mp hb]; exact ⟨oC, gC, fun v z => by rw [dC] at z; cases z⟩)
      have sto := pg_name (pos := pos') hNd hix hLx hf _ s6 σ H5 (.ref D) (.ref D) (fun σ' H' => σ' = σ.set ix (some (.ref D)) ∧ H' = H5) IXp rfl ⟨rfl, rfl⟩
      show wpAny _ _ (assign (.Name nm pos') X.env (.ref D)) _ _ s6
      refine thn sto fun _ s7 ⟨σ7, H7, I7, e7, e7'⟩ => ?_
      subst e7 e7'
      have gC7 : s7.heap.get? C = some oC := (I7.pin (C, oC) (List.mem_append_right _ (List.mem_append_right _ (mem_pinsAt (List.mem_singleton.mpr rfl) gC)))).1
      refine ⟨_, ⟨oC, esC, epC, gC7, dC, rC⟩, fun h' hsb => ⟨σ.set ix (some (.ref D)), _, ?_, qn⟩⟩
      refine (I7.unpinned).call' (s' := { s7 with heap := h' }) (ch := [C]) rfl ⟨fun b o e a1 a2 a3 => ?_, fun b o e a1 a2 a3 => ?_, fun _ _ _ n _ => n, fun b o e a3 => ?_, fun _ _ q => q, fun _ _ _ q => q, fun _ ps q => ⟨#[], by rw [q]; simp⟩⟩ ?_ I7.bare (fun b hb => ?_)
      · exact (hsb.2 b (fun z => a3 (List.mem_singleton.mpr z))).trans e
      · exact ⟨o.slots, (hsb.2 b (fun z => a3 (List.mem_singleton.mpr z))).trans e⟩
      · exact ⟨o, (hsb.2 b (fun z => a3 (List.mem_singleton.mpr z))).trans e⟩
      · intro b u e
        refine (I7.hok b u e).stay (fun c w' hcc q => (hsb.2 c ?_).trans q) (fun _ q => q) fun _ _ q => q
        rintro rfl
        rcases hcc with z | z
        · rw [z, e] at hC5; cases hC5
        · rw [z] at hC5; cases hC5
      · rw [List.mem_singleton.mp hb]
        exact ⟨fpC.2.2.2.1, fpC.2.1, fpC.2.2.2.2.1, fpC.2.2.2.2.2⟩
    · refine thn (T.item (blk X scope N' C s3 H3 fp pins) rfl rfl rfl hc i [] s5 _ H5 (fun _ _ => False) I5 (stat fr5) st5 go) fun r s6 ⟨u, hr, h6⟩ => ?_
      subst hr
      refine thn h6 fun _ s7 ⟨x, H7, I7, r7, y7, st7, fr7⟩ => ?_
      have I7' := I7.pinned (stat fr7) (T.obj _ _ st7)
      refine thn (hg C s3 H3 fp pins _ s7 _ H7 x u _ I7' r7 (step x H7 y7)) fun _ s8 ⟨σ8, H8, I8, d8, q8⟩ => ?_
      refine thn (ht C s3 H3 fp pins _ s8 σ8 H8 _ I8 q8) fun b s9 ⟨H9, I9, q9⟩ => ?_
      have kz : ∀ (j : Nat) v, (List.replicate k none ++ σ)[j]? = some (some v) → σ8[j]? = some (some v) := fun j v e => by
        have hik : ¬ j < k := fun hlt => by
          rw [List.getElem?_append_left (by rw [List.length_replicate]; exact hlt), List.getElem?_replicate] at e
          split at e <;> cases e
        rw [List.getElem?_append_right (by rw [List.length_replicate]; omega), List.length_replicate, ← d8, List.getElem?_drop] at e
        have : k + (j - k) = j := by omega
        rw [this] at e; exact e
      have again : ∀ {Hz : Hp} {sz : Shared} {zs : List V} {m' : Nat}, Inv (blk X scope N' C s3 H3 fp pins) ([] ++ pinsAt fp s7.heap) σ8 Hz sz → m' < n → W (i + 1) m' zs Hz →
          ∃ m, m < n ∧ ∃ i ys H', Inv (blk X scope N' C s3 H3 fp pins) [] (List.replicate k none ++ σ) H' sz ∧ tn i sz.heap ∧ (∀ b ∈ fp, H' b = none) ∧ W i m ys H' := fun {Hz sz zs m'} Iz hm wz => by
        refine ⟨m', hm, i + 1, zs, Hz, (Iz.unpinned).weak ?_ kz, T.keep _ _ _ st7 fun b hb o e => (Iz.pin (b, o) (List.mem_append_right _ (List.mem_append_right _ (mem_pinsAt hb e)))).1, fun b hb => ?_, wz⟩
        · rw [Iz.len]; exact I5.len
        · obtain ⟨o, e, d⟩ := T.obj _ _ st7 b hb
          exact (Iz.pin (b, o) (List.mem_append_right _ (List.mem_append_right _ (mem_pinsAt hb e)))).2.1
      cases b with
      | false =>
        obtain ⟨m', hm, w9⟩ := (show ∃ m', m' < n ∧ W (i + 1) m' ys H9 by simpa using q9)
        rw [if_neg Bool.false_ne_true]
        exact again I9 hm w9
      | true =>
        rw [if_pos rfl] at q9 ⊢
        refine thn (he C s3 H3 fp pins _ s9 σ8 H9 _ I9 q9) fun u9 s10 ⟨y, H10, I10, r10, hz, hD10, m', hm, w10⟩ => ?_
        refine thn (mt_append (X := blk X scope N' C s3 H3 fp pins) _ s10 σ8 H10 (.ref D) [y] (.ref D) [u9] (fun _ H' => H' = upd H10 D (.lst (ys ++ [y]))) I10 rfl (.cons r10 .nil) ⟨D, ys, y, rfl, rfl, hD10, hz, rfl⟩) fun _ s11 ⟨_, H11, I11, _, e11⟩ => ?_
        subst e11
        exact again I11 hm w10
  exact codeAny_compStart_list loop (T.self _ 0 _ _ _ st4 loop)
end
end L2

set_option Elab.async false
set_option linter.all false
set_option maxRecDepth 100000
namespace L2
open PySem PySem.Spec PyProof.Rows
section
variable {X : Cx}
end
section
variable {prog : Program} {w : World} {A : Around} {E : Value → Shared → Prop} {s : Shared} {K : Type} [DecidableEq K] {knd : PySem.KeyKind prog w K}
end

section
variable {X : Cx}
end
end L2

set_option Elab.async false
set_option linter.all false
set_option maxRecDepth 100000
namespace L2
open PySem PySem.Spec PyProof.Rows
section
variable {X : Cx}
end
end L2

set_option Elab.async false
set_option linter.all false
set_option maxRecDepth 100000
namespace L2
open PySem PySem.Spec PyProof.Rows
section
variable {prog : Program} {w : World} {A : Around} {E : Value → Shared → Prop} {s : Shared}
theorem nextOf_tuple_item {it l : Addr} {i : Nat} {items : Array Value} {x : Value} {Q : Value → Shared → Prop} (h1 : s.heap.IsTupleIter it l i) (h2 : s.heap.IsTuple l items) (h3 : items[i]? = some x)
    (h : ∀ h', h'.IsTupleIter it l (i + 1) → Heap.SameBut it s.heap h' → Q x { s with heap := h' }) : wpAny (model prog w) A (Builtin.SmallTypes.nextOf (.ref it)) Q E s := by
  obtain ⟨o, e, c, d⟩ := h1
  obtain ⟨ol, el, cl, n, dl⟩ := h2
  unfold Builtin.SmallTypes.nextOf
  refine wpAny_bind (wpAny_callSpecial?_slot (T := "tuple_iterator") ⟨o, e, c⟩ F.slot_tuple_iterator_next (wpAny_call_entry F.slot_tuple_iterator_next ⟨o, e, c⟩ F.entry_tuple_iterator_next ?_ (F.args_tuple_iterator_next_1 _)))
  unfold Builtin.«tuple_iterator.__next__»
  refine wpAny_bind (wpAny_of_eq (a := (Value.ref it, [])) rfl ?_)
  refine wpAny_bind (wpAny_field (x := .ref l) e d rfl ?_)
  rw [if_neg (show ¬ ((Value.ref l == Value.none) = true) from by simp)]
  refine wpAny_bind (wpAny_field (x := .int (i : Int) 0) e d rfl ?_)
  refine wpAny_bind (wpAny_seqItems el dl ?_)
  dsimp only
  rw [Int.toNat_natCast, h3]
  refine wpAny_bind (wpAny_setField e d (by simp) ?_)
  refine wpAny_pure ⟨x, rfl, wpAny_pure (h _ ⟨_, Heap.get?_update_self _ e (Obj.isFreed_of_fields (Obj.data_mapFields d _)), (Obj.cls_mapFields _ _).trans c, Obj.data_mapFields d _⟩ (Heap.SameBut.update _ _ _))⟩
theorem nextOf_tuple_end {it l : Addr} {i : Nat} {items : Array Value} {Q : Value → Shared → Prop} (hh : A.handled = none) (h1 : s.heap.IsTupleIter it l i) (h2 : s.heap.IsTuple l items) (h3 : items[i]? = none)
    (h : ∀ h' e, Heap.ExtBut it s.heap h' → (∃ o, h'.get? e = some o ∧ o.cls = .type "StopIteration") → E (.ref e) { s with heap := h' }) : wpAny (model prog w) A (Builtin.SmallTypes.nextOf (.ref it)) Q E s := by
  obtain ⟨o, e, c, d⟩ := h1
  obtain ⟨ol, el, cl, n, dl⟩ := h2
  unfold Builtin.SmallTypes.nextOf
  refine wpAny_bind (wpAny_callSpecial?_slot (T := "tuple_iterator") ⟨o, e, c⟩ F.slot_tuple_iterator_next (wpAny_call_entry F.slot_tuple_iterator_next ⟨o, e, c⟩ F.entry_tuple_iterator_next ?_ (F.args_tuple_iterator_next_1 _)))
  unfold Builtin.«tuple_iterator.__next__»
  refine wpAny_bind (wpAny_of_eq (a := (Value.ref it, [])) rfl ?_)
  refine wpAny_bind (wpAny_field (x := .ref l) e d rfl ?_)
  rw [if_neg (show ¬ ((Value.ref l == Value.none) = true) from by simp)]
  refine wpAny_bind (wpAny_field (x := .int (i : Int) 0) e d rfl ?_)
  refine wpAny_bind (wpAny_seqItems el dl ?_)
  dsimp only
  rw [Int.toNat_natCast, h3]
  refine wpAny_bind (wpAny_rule ?_)
  refine wpAny_bind (wpAny_setField e d (by simp) ?_)
  unfold Builtin.SmallTypes.stopIteration
  refine wpAny_bind ?_
  unfold newExc
  refine wpAny_bind (wpAny_newTuple ?_ (by simp))
  refine wpAny_bind (wpAny_bind (wpAny_pure (wpAny_pure ?_)))
  refine wpAny_newObj_type ?_ (sizeOk_excFields _ _ _ _ _ _ _ _)
  unfold raiseNew
  refine wpAny_bind (wpAny_handled ?_)
  rw [show A.in1.handled = none from hh]
  refine wpAny_throw (h _ _ (fun b o hb eb => ?_) ⟨_, Heap.get?_push_size _ rfl, rfl⟩)
  exact Heap.get?_push_of_some _ (Heap.get?_push_of_some _ (((Heap.SameBut.update s.heap it _).2 b hb).trans eb))
theorem tupAt {h h' : Heap} {a l : Addr} {xs : Array Value} (p : h.IsTuple l xs) (sb : Heap.SameBut a h h') (ne : l ≠ a) : h'.IsTuple l xs := by
  obtain ⟨o, e, r⟩ := p
  exact ⟨o, (sb.2 l ne).trans e, r⟩
theorem zipT_next_item {z TI TO i1 i2 l1 l2 : Addr} {k1 k2 : Nat} {xs ys : Array Value} {x y a b : Value} {Q : Value → Shared → Prop} (D : ZipApart z TI TO i1 i2 l1 l2) (hz : IsZip s.heap z TI TO .none) (hTI : IsPair s.heap TI (.ref i1) (.ref i2)) (hTO : IsPair s.heap TO a b)
    (h1 : s.heap.IsTupleIter i1 l1 k1) (h2 : s.heap.IsTupleIter i2 l2 k2) (p1 : s.heap.IsTuple l1 xs) (p2 : s.heap.IsTuple l2 ys) (hx : xs[k1]? = some x) (hy : ys[k2]? = some y)
    (h : ∀ h', IsZip h' z TI TO (rawInt s.heap.objs.size) → IsPair h' TO x y → h'.IsTupleIter i1 l1 (k1 + 1) → h'.IsTupleIter i2 l2 (k2 + 1) → IsPair h' s.heap.objs.size x y → h'.objs.size = s.heap.objs.size + 1 →
      (∀ c o, c ≠ z → c ≠ TO → c ≠ i1 → c ≠ i2 → s.heap.get? c = some o → h'.get? c = some o) → Q (.ref s.heap.objs.size) { s with heap := h' }) :
    wpAny (model prog w) A (Builtin.«zip.__next__» { pos := [.ref z] }) (fun fin s' => ∃ v, fin = Fin.done (.ret v) ∧ Q v s') E s := by
  unfold Builtin.«zip.__next__»
  refine wpAny_bind (wpAny_of_eq (a := (Value.ref z, [])) rfl ?_)
  dsimp only
  refine wpAny_bind (wpAny_field (x := .bool false) hz rfl rfl ?_)
  refine wpAny_bind (wpAny_field (x := .ref TI) hz rfl rfl ?_)
  refine wpAny_bind (wpAny_seqItems hTI rfl ?_)
  dsimp only
  rw [if_neg (by simp)]
  refine wpAny_bind ?_
  unfold Builtin.SmallTypes.ownedTupleIsFree
  refine wpAny_bind (wpAny_field (x := .none) hz rfl rfl (wpAny_pure ?_))
  rw [if_pos rfl]
  refine wpAny_bind (wpAny_rule ?_)
  refine wpAny_bind (wpAny_field (x := .ref TO) hz rfl rfl ?_)
  refine wpAny_bind (wpAny_setField_rec hz (by simp) fun h₁ hz₁ hs₁ => ?_)
  refine wpAny_bind ?_
  show wpAny _ _ (forIn [(Value.ref i1, 0), (Value.ref i2, 1)] (none, ()) _) _ _ _
  rw [List.forIn_cons]
  refine wpAny_bind ?_
  refine wpAny_bind (wpAny_onRaise ?_)
  have ne1 : (Value.bool false == Value.bool true) = true → False := by decide
  refine wpAny_bind (nextOf_tuple_item (h1.extBut hs₁.extBut D.i1z) (tupAt p1 hs₁ D.l1z) hx fun h₂ g1 sb2 => ?_)
  refine wpAny_pure ?_
  have hTO2 : IsPair h₂ TO a b := (sb2.2 _ D.TOi1).trans ((hs₁.2 _ D.TOz).trans hTO)
  refine wpAny_bind (wpAny_seqItems hTO2 rfl ?_)
  refine wpAny_bind (wpAny_updateSeq_pair hTO2 fun h₃ e3 sb3 => ?_)
  refine wpAny_bind (wpAny_letGo ?_)
  refine wpAny_pure ?_
  dsimp only
  have hTO3 : IsPair h₃ TO x b := e3
  rw [List.forIn_cons]
  refine wpAny_bind ?_
  refine wpAny_bind (wpAny_onRaise ?_)
  have h2b : h₃.IsTupleIter i2 l2 k2 := ((h2.extBut hs₁.extBut D.i2z).extBut sb2.extBut D.i12.symm).extBut sb3.extBut D.TOi2.symm
  refine wpAny_bind (nextOf_tuple_item h2b (tupAt (tupAt (tupAt p2 hs₁ D.l2z) sb2 D.l2i1) sb3 D.l2TO) hy fun h₄ g2 sb4 => ?_)
  refine wpAny_pure ?_
  have hTO4 : IsPair h₄ TO x b := (sb4.2 _ D.TOi2).trans hTO3
  refine wpAny_bind (wpAny_seqItems hTO4 rfl ?_)
  refine wpAny_bind (wpAny_updateSeq_pair hTO4 fun h₅ e5 sb5 => ?_)
  refine wpAny_bind (wpAny_letGo ?_)
  refine wpAny_pure ?_
  dsimp only
  have hTO5 : IsPair h₅ TO x y := e5
  rw [List.forIn_nil]
  refine wpAny_pure ?_
  dsimp only
  refine wpAny_bind (wpAny_seqItems hTO5 rfl ?_)
  dsimp only
  refine wpAny_bind (wpAny_newTuple ?_ (by simp [sizeLine_eq]))
  have sz : h₅.objs.size = s.heap.objs.size := sb5.1.trans (sb4.1.trans (sb3.1.trans (sb2.1.trans hs₁.1)))
  have hz5 : h₅.get? z = some { cls := .type "zip", data := .fields #[Value.ellipsis, .bool false, .bool false, .ref TI, .ref TO] } :=
    (sb5.2 _ D.TOz.symm).trans ((sb4.2 _ D.i2z.symm).trans ((sb3.2 _ D.TOz.symm).trans ((sb2.2 _ D.i1z.symm).trans hz₁)))
  have hz6 : (h₅.push { cls := .type "tuple", data := .seq #[x, y] }).get? z = some { cls := .type "zip", data := .fields #[Value.ellipsis, .bool false, .bool false, .ref TI, .ref TO] } := Heap.get?_push_of_some _ hz5
  unfold Builtin.SmallTypes.ownedTupleHandOut
  refine wpAny_bind (wpAny_bind (wpAny_setField_rec hz6 (by simp) fun h₇ e7 sb7 => ?_))
  refine wpAny_setField_rec (k := 1) e7 (by simp) fun h₈ e8 sb8 => ?_
  refine wpAny_pure ⟨_, rfl, ?_⟩
  have szz : z < s.heap.objs.size := Heap.lt_size hz
  have nz : s.heap.objs.size ≠ z := Nat.ne_of_gt szz
  have pz : ∀ c, c ≠ z → h₈.get? c = (h₅.push { cls := .type "tuple", data := .seq #[x, y] }).get? c := fun c hc => (sb8.2 c hc).trans (sb7.2 c hc)
  have old : ∀ c o, c ≠ z → h₅.get? c = some o → h₈.get? c = some o := fun c o hc e => (pz c hc).trans (Heap.get?_push_of_some _ e)
  rw [show ({ s with heap := h₅ } : Shared).heap.objs.size = s.heap.objs.size from sz] at e8 ⊢
  refine h h₈ ?_ (old _ _ D.TOz hTO5) ?_ ?_ ?_ ?_ ?_
  · exact e8
  · exact (g1.at fun o e => old _ _ D.i1z ((sb5.2 _ D.TOi1.symm).trans ((sb4.2 _ D.i12).trans ((sb3.2 _ D.TOi1.symm).trans e))))
  · exact (g2.at fun o e => old _ _ D.i2z ((sb5.2 _ D.TOi2.symm).trans e))
  · have e9 : (h₅.push { cls := .type "tuple", data := .seq #[x, y] }).get? h₅.objs.size = some { cls := .type "tuple", data := .seq #[x, y] } := Heap.get?_push_size _ rfl
    have sz' : h₅.objs.size = s.heap.objs.size := sz
    rw [sz'] at e9
    exact (pz _ nz).trans e9
  · rw [sb8.1, sb7.1, Heap.size_push]
    exact congrArg (· + 1) (show h₅.objs.size = s.heap.objs.size from sz)
  · intro c o c1 c2 c3 c4 e
    exact old c o c1 ((sb5.2 c c2).trans ((sb4.2 c c4).trans ((sb3.2 c c2).trans ((sb2.2 c c3).trans ((hs₁.2 c c1).trans e)))))
theorem pyNext_zipT_item {z TI TO i1 i2 l1 l2 : Addr} {k1 k2 : Nat} {xs ys : Array Value} {x y a b : Value} {Q : Option Value → Shared → Prop} (D : ZipApart z TI TO i1 i2 l1 l2) (hz : IsZip s.heap z TI TO .none) (hTI : IsPair s.heap TI (.ref i1) (.ref i2)) (hTO : IsPair s.heap TO a b)
    (h1 : s.heap.IsTupleIter i1 l1 k1) (h2 : s.heap.IsTupleIter i2 l2 k2) (p1 : s.heap.IsTuple l1 xs) (p2 : s.heap.IsTuple l2 ys) (hx : xs[k1]? = some x) (hy : ys[k2]? = some y)
    (h : ∀ h', IsZip h' z TI TO (rawInt s.heap.objs.size) → IsPair h' TO x y → h'.IsTupleIter i1 l1 (k1 + 1) → h'.IsTupleIter i2 l2 (k2 + 1) → IsPair h' s.heap.objs.size x y → h'.objs.size = s.heap.objs.size + 1 →
      (∀ c o, c ≠ z → c ≠ TO → c ≠ i1 → c ≠ i2 → s.heap.get? c = some o → h'.get? c = some o) → Q (some (.ref s.heap.objs.size)) { s with heap := h' }) :
    wpAny (model prog w) A (pyNext (.ref z)) Q E s := by
  have tz : Shared.TypeIs s (.ref z) "zip" := ⟨_, hz, rfl⟩
  unfold pyNext
  refine wpAny_bind (wpAny_attempt (wpAny_callSpecial?_slot tz F.slot_zip_next (wpAny_call_entry F.slot_zip_next tz F.entry_zip_next ?_ (F.args_zip_next_1 _))))
  refine zipT_next_item D hz hTI hTO h1 h2 p1 p2 hx hy fun h' a1 a2 a3 a4 a5 a6 a7 => ?_
  exact wpAny_pure (h h' a1 a2 a3 a4 a5 a6 a7)
theorem zipT_next_end {z TI TO i1 i2 l1 l2 : Addr} {k1 k2 : Nat} {xs ys : Array Value} {a b : Value} {Q : PySem.Fin → Shared → Prop} (hh : A.handled = none) (D : ZipApart z TI TO i1 i2 l1 l2) (hz : IsZip s.heap z TI TO .none) (hTI : IsPair s.heap TI (.ref i1) (.ref i2)) (hTO : IsPair s.heap TO a b)
    (h1 : s.heap.IsTupleIter i1 l1 k1) (h2 : s.heap.IsTupleIter i2 l2 k2) (p1 : s.heap.IsTuple l1 xs) (p2 : s.heap.IsTuple l2 ys) (hxy : xs[k1]? = none ∨ ys[k2]? = none)
    (h : ∀ h' e, (∀ c o, c ≠ z → c ≠ TO → c ≠ i1 → c ≠ i2 → s.heap.get? c = some o → h'.get? c = some o) → (∃ o, h'.get? e = some o ∧ o.cls = .type "StopIteration") → E (.ref e) { s with heap := h' }) :
    wpAny (model prog w) A (Builtin.«zip.__next__» { pos := [.ref z] }) Q E s := by
  unfold Builtin.«zip.__next__»
  refine wpAny_bind (wpAny_of_eq (a := (Value.ref z, [])) rfl ?_)
  dsimp only
  refine wpAny_bind (wpAny_field (x := .bool false) hz rfl rfl ?_)
  refine wpAny_bind (wpAny_field (x := .ref TI) hz rfl rfl ?_)
  refine wpAny_bind (wpAny_seqItems hTI rfl ?_)
  dsimp only
  rw [if_neg (by simp)]
  refine wpAny_bind ?_
  unfold Builtin.SmallTypes.ownedTupleIsFree
  refine wpAny_bind (wpAny_field (x := .none) hz rfl rfl (wpAny_pure ?_))
  rw [if_pos rfl]
  refine wpAny_bind (wpAny_rule ?_)
  refine wpAny_bind (wpAny_field (x := .ref TO) hz rfl rfl ?_)
  refine wpAny_bind (wpAny_setField_rec hz (by simp) fun h₁ hz₁ hs₁ => ?_)
  refine wpAny_bind ?_
  show wpAny _ _ (forIn [(Value.ref i1, 0), (Value.ref i2, 1)] (none, ()) _) _ _ _
  rw [List.forIn_cons]
  refine wpAny_bind ?_
  refine wpAny_bind (wpAny_onRaise ?_)
  have fin : ∀ (g g' : Heap) (e : Addr) (f0 : Value), Heap.get? g z = some { cls := .type "zip", data := .fields #[f0, .bool false, .bool false, .ref TI, .ref TO] } → (∀ c o, c ≠ z → c ≠ TO → c ≠ i1 → c ≠ i2 → s.heap.get? c = some o → g.get? c = some o) → (∃ o, g.get? e = some o ∧ o.cls = .type "StopIteration") →
      wpAny (model prog w) A (setField (.ref z) 0 .none) (fun _ s'' => E (.ref e) s'') E { s with heap := g } := fun g g' e f0 ez kk he => by
    refine wpAny_setField_rec ez (by simp) fun g2 e2 sb2 => h g2 e (fun c o c1 c2 c3 c4 eo => (sb2.2 c c1).trans (kk c o c1 c2 c3 c4 eo)) ?_
    obtain ⟨o, eo, ec⟩ := he
    exact ⟨o, (sb2.2 e (fun z' => by rw [z', ez] at eo; cases eo; exact absurd (show Value.type "zip" = Value.type "StopIteration" from ec) (by decide +kernel))).trans eo, ec⟩
  cases hx : xs[k1]? with
  | none =>
    refine wpAny_bind (nextOf_tuple_end hh (h1.extBut hs₁.extBut D.i1z) (tupAt p1 hs₁ D.l1z) hx fun h₂ e sb2 he => ?_)
    exact fin h₂ h₂ e _ (sb2 _ _ D.i1z.symm hz₁) (fun c o c1 c2 c3 c4 eo => sb2 _ _ c3 ((hs₁.2 c c1).trans eo)) he
  | some x =>
    have hy : ys[k2]? = none := hxy.resolve_left (fun q => by rw [hx] at q; cases q)
    refine wpAny_bind (nextOf_tuple_item (h1.extBut hs₁.extBut D.i1z) (tupAt p1 hs₁ D.l1z) hx fun h₂ g1 sb2 => ?_)
    refine wpAny_pure ?_
    have hTO2 : IsPair h₂ TO a b := (sb2.2 _ D.TOi1).trans ((hs₁.2 _ D.TOz).trans hTO)
    refine wpAny_bind (wpAny_seqItems hTO2 rfl ?_)
    refine wpAny_bind (wpAny_updateSeq_pair hTO2 fun h₃ e3 sb3 => ?_)
    refine wpAny_bind (wpAny_letGo ?_)
    refine wpAny_pure ?_
    dsimp only
    rw [List.forIn_cons]
    refine wpAny_bind ?_
    refine wpAny_bind (wpAny_onRaise ?_)
    have h2b : h₃.IsTupleIter i2 l2 k2 := ((h2.extBut hs₁.extBut D.i2z).extBut sb2.extBut D.i12.symm).extBut sb3.extBut D.TOi2.symm
    refine wpAny_bind (nextOf_tuple_end hh h2b (tupAt (tupAt (tupAt p2 hs₁ D.l2z) sb2 D.l2i1) sb3 D.l2TO) hy fun h₄ e sb4 he => ?_)
    refine fin h₄ h₄ e _ (sb4 _ _ D.i2z.symm ((sb3.2 _ D.TOz.symm).trans ((sb2.2 _ D.i1z.symm).trans hz₁))) (fun c o c1 c2 c3 c4 eo => sb4 _ _ c4 ((sb3.2 c c2).trans ((sb2.2 c c3).trans ((hs₁.2 c c1).trans eo)))) he
theorem pyNext_zipT_end {z TI TO i1 i2 l1 l2 : Addr} {k1 k2 : Nat} {xs ys : Array Value} {a b : Value} {Q : Option Value → Shared → Prop} (hh : A.handled = none) (D : ZipApart z TI TO i1 i2 l1 l2) (hz : IsZip s.heap z TI TO .none) (hTI : IsPair s.heap TI (.ref i1) (.ref i2)) (hTO : IsPair s.heap TO a b)
    (h1 : s.heap.IsTupleIter i1 l1 k1) (h2 : s.heap.IsTupleIter i2 l2 k2) (p1 : s.heap.IsTuple l1 xs) (p2 : s.heap.IsTuple l2 ys) (hxy : xs[k1]? = none ∨ ys[k2]? = none)
    (h : ∀ h', (∀ c o, c ≠ z → c ≠ TO → c ≠ i1 → c ≠ i2 → s.heap.get? c = some o → h'.get? c = some o) → Q none { s with heap := h' }) :
    wpAny (model prog w) A (pyNext (.ref z)) Q E s := by
  have tz : Shared.TypeIs s (.ref z) "zip" := ⟨_, hz, rfl⟩
  unfold pyNext
  refine wpAny_bind (wpAny_attempt (wpAny_callSpecial?_slot tz F.slot_zip_next (wpAny_call_entry F.slot_zip_next tz F.entry_zip_next ?_ (F.args_zip_next_1 _))))
  refine zipT_next_end hh D hz hTI hTO h1 h2 p1 p2 hxy fun h' e kk he => ?_
  obtain ⟨o, eo, ec⟩ := he
  refine wpAny_bind (wpAny_isInstance (T := "StopIteration") ⟨o, eo, ec⟩ isSubtype_stop ?_)
  rw [if_pos rfl]
  exact wpAny_pure (h h' kk)
theorem call_zipT {l1 l2 : Addr} {xs ys : Array Value} {Q : Value → Shared → Prop} (p1 : s.heap.IsTuple l1 xs) (p2 : s.heap.IsTuple l2 ys)
    (h : ∀ h', IsZip h' (s.heap.objs.size + 4) (s.heap.objs.size + 2) (s.heap.objs.size + 3) .none → IsPair h' (s.heap.objs.size + 2) (.ref s.heap.objs.size) (.ref (s.heap.objs.size + 1)) → IsPair h' (s.heap.objs.size + 3) .none .none →
      h'.IsTupleIter s.heap.objs.size l1 0 → h'.IsTupleIter (s.heap.objs.size + 1) l2 0 → h'.objs.size = s.heap.objs.size + 5 → (∀ c o, s.heap.get? c = some o → h'.get? c = some o) → Q (.ref (s.heap.objs.size + 4)) { s with heap := h' }) :
    wpAny (model prog w) A (call (.type "zip") [.ref l1, .ref l2]) Q E s := by
  have hM : Meets (Builtin.«zip.__new__» { pos := [.type "zip", .ref l1, .ref l2] }) (fun _ R s => s.heap.IsTuple l1 xs ∧ s.heap.IsTuple l2 ys ∧
      ∀ h', IsZip h' (s.heap.objs.size + 4) (s.heap.objs.size + 2) (s.heap.objs.size + 3) .none → IsPair h' (s.heap.objs.size + 2) (.ref s.heap.objs.size) (.ref (s.heap.objs.size + 1)) → IsPair h' (s.heap.objs.size + 3) .none .none →
      h'.IsTupleIter s.heap.objs.size l1 0 → h'.IsTupleIter (s.heap.objs.size + 1) l2 0 → h'.objs.size = s.heap.objs.size + 5 → (∀ c o, s.heap.get? c = some o → h'.get? c = some o) → R (.ok (.ret (.ref (s.heap.objs.size + 4)))) { s with heap := h' }) :=
    .of_wp fun prog w A R s ⟨q1, q2, hq⟩ => by
      unfold Builtin.«zip.__new__»
      refine wpAny_bind ?_
      unfold Builtin.SmallTypes.newClass
      refine wpAny_bind (wpAny_of_eq (a := true) rfl ?_)
      rw [if_neg (by decide)]
      refine wpAny_bind (wpAny_of_eq (a := true) sub_zip ?_)
      rw [if_neg (by decide)]
      refine wpAny_pure ?_
      dsimp only
      rw [if_neg (by decide)]
      refine wpAny_bind ?_
      unfold Builtin.SmallTypes.iterAll
      refine wpAny_bind ?_
      rw [List.forIn_cons]
      refine wpAny_bind (wpAny_bind (wpAny_holding (wpAny_pyIter_tuple q1 (wpAny_pure ?_))))
      dsimp only
      rw [List.forIn_cons]
      have q2' : (s.heap.push { cls := .type "tuple_iterator", data := .fields #[.ref l1, .int 0 0] }).IsTuple l2 ys := by
        obtain ⟨o, e, r⟩ := q2
        exact ⟨o, Heap.get?_push_of_some _ e, r⟩
      refine wpAny_bind (wpAny_bind (wpAny_holding (wpAny_pyIter_tuple q2' (wpAny_pure ?_))))
      dsimp only
      rw [List.forIn_nil]
      refine wpAny_pure (wpAny_pure ?_)
      refine wpAny_bind (wpAny_newTuple ?_ (by simp [sizeLine_eq]))
      refine wpAny_bind (wpAny_newTuple ?_ (by simp [sizeLine_eq]))
      refine wpAny_bind ?_
      unfold Builtin.SmallTypes.newRecord
      refine wpAny_newObj_type ?_ (by simp [PySem.sizeOk, Builtin.SmallTypes.ownedTupleFields, sizeLine_eq])
      refine wpAny_pure ⟨_, rfl, ?_⟩
      have n1 : (s.heap.push { cls := .type "tuple_iterator", data := .fields #[.ref l1, .int 0 0] }).objs.size = s.heap.objs.size + 1 := Heap.size_push _ _
      have n2 : ((s.heap.push { cls := .type "tuple_iterator", data := .fields #[.ref l1, .int 0 0] }).push { cls := .type "tuple_iterator", data := .fields #[.ref l2, .int 0 0] }).objs.size = s.heap.objs.size + 2 := by rw [Heap.size_push, n1]
      generalize hg1 : s.heap.push { cls := .type "tuple_iterator", data := .fields #[.ref l1, .int 0 0] } = g1 at *
      generalize hg2 : g1.push { cls := .type "tuple_iterator", data := .fields #[.ref l2, .int 0 0] } = g2 at *
      show R (.ok (.ret (.ref ((g2.push { cls := .type "tuple", data := .seq #[.ref s.heap.objs.size, .ref g1.objs.size] }).push { cls := .type "tuple", data := .seq #[.none, .none] }).objs.size))) { s with heap := ((g2.push { cls := .type "tuple", data := .seq #[.ref s.heap.objs.size, .ref g1.objs.size] }).push { cls := .type "tuple", data := .seq #[.none, .none] }).push { cls := .type "zip", data := .fields #[.none, .bool false, .bool false, .ref g2.objs.size, .ref (g2.push { cls := .type "tuple", data := .seq #[.ref s.heap.objs.size, .ref g1.objs.size] }).objs.size] } }
      have n3 : (g2.push { cls := .type "tuple", data := .seq #[.ref s.heap.objs.size, .ref g1.objs.size] }).objs.size = s.heap.objs.size + 3 := by rw [Heap.size_push, n2]
      have i1 : g1.get? s.heap.objs.size = some { cls := .type "tuple_iterator", data := .fields #[.ref l1, .int 0 0] } := by rw [← hg1]; exact Heap.get?_push_size _ rfl
      have i2 : g2.get? (s.heap.objs.size + 1) = some { cls := .type "tuple_iterator", data := .fields #[.ref l2, .int 0 0] } := by rw [← hg2, ← n1]; exact Heap.get?_push_size _ rfl
      have i1' : g2.get? s.heap.objs.size = some { cls := .type "tuple_iterator", data := .fields #[.ref l1, .int 0 0] } := by rw [← hg2]; exact Heap.get?_push_of_some _ i1
      have k2 : ∀ c o, s.heap.get? c = some o → g2.get? c = some o := fun c o e => by rw [← hg2, ← hg1]; exact Heap.get?_push_of_some _ (Heap.get?_push_of_some _ e)
      rw [n1]
      rw [n1] at n3
      generalize hg3 : g2.push { cls := .type "tuple", data := .seq #[.ref s.heap.objs.size, .ref (s.heap.objs.size + 1)] } = g3 at *
      have i3 : g3.get? (s.heap.objs.size + 2) = some { cls := .type "tuple", data := .seq #[.ref s.heap.objs.size, .ref (s.heap.objs.size + 1)] } := by rw [← hg3, ← n2]; exact Heap.get?_push_size _ rfl
      have k3 : ∀ c o, g2.get? c = some o → g3.get? c = some o := fun c o e => by rw [← hg3]; exact Heap.get?_push_of_some _ e
      have n4 : (g3.push { cls := .type "tuple", data := .seq #[.none, .none] }).objs.size = s.heap.objs.size + 4 := by rw [Heap.size_push, n3]
      generalize hg4 : g3.push { cls := .type "tuple", data := .seq #[.none, .none] } = g4 at *
      have i4 : g4.get? (s.heap.objs.size + 3) = some { cls := .type "tuple", data := .seq #[.none, .none] } := by rw [← hg4, ← n3]; exact Heap.get?_push_size _ rfl
      have k4 : ∀ c o, g3.get? c = some o → g4.get? c = some o := fun c o e => by rw [← hg4]; exact Heap.get?_push_of_some _ e
      rw [n2, n3, n4]
      have k5 : ∀ c o, g4.get? c = some o → (g4.push { cls := .type "zip", data := .fields #[.none, .bool false, .bool false, .ref (s.heap.objs.size + 2), .ref (s.heap.objs.size + 3)] }).get? c = some o := fun c o e => Heap.get?_push_of_some _ e
      refine hq _ ?_ (k5 _ _ (k4 _ _ i3)) (k5 _ _ i4) ⟨_, k5 _ _ (k4 _ _ (k3 _ _ i1')), rfl, rfl⟩ ⟨_, k5 _ _ (k4 _ _ (k3 _ _ i2)), rfl, rfl⟩ ?_ (fun c o e => k5 _ _ (k4 _ _ (k3 _ _ (k2 _ _ e))))
      · show Heap.get? _ (s.heap.objs.size + 4) = _
        rw [← n4]; exact Heap.get?_push_size _ rfl
      · rw [Heap.size_push, n4]
  refine callType_new F.called_zip (by decide) (F.typeCall_zip_2 _ _) (F.newCall_zip_2 _ _) (fun obj => F.args_object_init_3 _ _ _) F.entry_zip_new hM ⟨p1, p2, fun h' a1 a2 a3 a4 a5 a6 a7 => ?_⟩
  exact ⟨⟨_, a1, rfl⟩, h h' a1 a2 a3 a4 a5 a6 a7⟩
end
end L2
namespace L2
open PySem PySem.Spec PyProof.Rows
theorem sq_ne {X : Cx} {pins : List (Addr × Obj)} {σ : St} {H : Hp} {s : Shared} {a b : Addr} {xs : List V} (I : Inv X pins σ H s) (f : FpOk X pins H b) (q : SqT X.K H a xs) : a ≠ b := fun e => by
  subst e
  rcases q with (q | ⟨o, q⟩) | ⟨o, its, n, hk, _⟩
  · rw [f.1] at q; cases q
  · rw [f.1] at q; cases q
  · have hb := I.ok.mod.kin a o hk
    rcases f.2.2.2.1 with hx | hx
    · exact I.ok.noex a o hb hx
    · exact absurd (Nat.lt_of_lt_of_le (Heap.lt_size hb) (Nat.le_trans I.ok.bsz hx)) (Nat.lt_irrefl _)
def ItzT (K : PySem.W.Frag) (a b : Addr) : It :=
  ⟨fun i H => ∃ xs x ys y, SqT K H a xs ∧ xs[i]? = some x ∧ SqT K H b ys ∧ ys[i]? = some y,
   fun i H v H' => ∃ p x y, v = .ref p ∧ H p = none ∧ H' = upd H p (.tup [x, y]) ∧ (∀ xs, SqT K H a xs → xs[i]? = some x) ∧ ∀ ys, SqT K H b ys → ys[i]? = some y,
   fun i H => ∃ xs ys, SqT K H a xs ∧ SqT K H b ys ∧ (xs.length ≤ i ∨ ys.length ≤ i)⟩
theorem turn_zipT {P : Program} {w : World} {K : PySem.W.Frag} {es : List Expr} {x1} {pos : Pos} (a b z TI TO i1 i2 : Addr) : Turn P w K (.Tuple es x1 pos) (ItzT K a b) [z, TI, TO, i1, i2] z
    (fun i h => IsZip h z TI TO .none ∧ IsPair h TI (.ref i1) (.ref i2) ∧ (∃ u v, IsPair h TO u v) ∧ h.IsTupleIter i1 a i ∧ h.IsTupleIter i2 b i ∧ TI ≠ TO ∧ i1 ≠ i2) where
  mem := by simp
  obj := fun i h ⟨hz, hTI, ⟨u, v, hTO⟩, h1, h2, _⟩ c hc => by
    simp only [List.mem_cons, List.not_mem_nil, or_false] at hc
    rcases hc with rfl | rfl | rfl | rfl | rfl
    · exact ⟨_, hz, fun v q => by cases (show Data.fields _ = Data.cell v from q)⟩
    · exact ⟨_, hTI, fun v q => by cases (show Data.seq _ _ = Data.cell v from q)⟩
    · exact ⟨_, hTO, fun v q => by cases (show Data.seq _ _ = Data.cell v from q)⟩
    · obtain ⟨o, e, _, d⟩ := h1
      exact ⟨o, e, fun v q => by rw [d] at q; cases q⟩
    · obtain ⟨o, e, _, d⟩ := h2
      exact ⟨o, e, fun v q => by rw [d] at q; cases q⟩
  keep := fun i h h' ⟨hz, hTI, ⟨u, v, hTO⟩, h1, h2, n1, n2⟩ k => ⟨k z (by simp) _ hz, k TI (by simp) _ hTI, ⟨u, v, k TO (by simp) _ hTO⟩, h1.at fun o e => k i1 (by simp) o e, h2.at fun o e => k i2 (by simp) o e, n1, n2⟩
  item := by
    intro X hP hw hK hc i pins s σ H E I hf ⟨hz, hTI, ⟨u, v, hTO⟩, h1, h2, n1, n2⟩ hg
    subst hP hw hK
    obtain ⟨xs, x, ys, y, hqa, hx, hqb, hy⟩ := hg
    obtain ⟨its, rv, p, hsz⟩ := I.tuple hqa
    obtain ⟨jts, rw', p', hsz'⟩ := I.tuple hqb
    obtain ⟨ux, hux, rux⟩ := rv.get hx
    obtain ⟨uy, huy, ruy⟩ := rw'.get hy
    have D : ZipApart z TI TO i1 i2 a b := by
      obtain ⟨oa, ea, ca, _, _⟩ := p
      obtain ⟨ob, eb, cb, _, _⟩ := p'
      obtain ⟨o1, e1, c1, _⟩ := h1
      obtain ⟨o2, e2, c2, _⟩ := h2
      have dz : ∀ {c : Addr} {o : Obj} {T : String}, s.heap.get? c = some o → o.cls = .type T → T ≠ "zip" → c ≠ z := fun e q n r => by
        rw [r, hz] at e; cases e; cases q; exact n rfl
      have dT : ∀ {c d : Addr} {o q : Obj} {T U : String}, s.heap.get? c = some o → o.cls = .type T → s.heap.get? d = some q → q.cls = .type U → T ≠ U → c ≠ d := fun e1 c1 e2 c2 n r => by
        subst r; rw [e1] at e2; cases e2; rw [c1] at c2; cases c2; exact n rfl
      exact ⟨dz hTI rfl (by decide), dz hTO rfl (by decide), dz e1 c1 (by decide), dz e2 c2 (by decide), n1, dT hTI rfl e1 c1 (by decide), dT hTI rfl e2 c2 (by decide), dT hTO rfl e1 c1 (by decide), dT hTO rfl e2 c2 (by decide), n2,
        dz ea ca (by decide), sq_ne I (hf TO (by simp)) hqa, dT ea ca e1 c1 (by decide), dT ea ca e2 c2 (by decide), dz eb cb (by decide), sq_ne I (hf TO (by simp)) hqb, dT eb cb e1 c1 (by decide), dT eb cb e2 c2 (by decide)⟩
    refine pyNext_zipT_item D hz hTI hTO h1 h2 (show s.heap.IsTuple a its.toArray from p) (show s.heap.IsTuple b jts.toArray from p') (x := ux) (y := uy) (by simpa using hux) (by simpa using huy) fun h' a1 a2 a3 a4 a5 a6 hk => ?_
    refine ⟨_, rfl, ?_⟩
    refine wpAny_letOwnedTupleGo_zip (s := { s with heap := h' }) a1 fun h2' hz' hs' => ?_
    have lt : ∀ b ∈ [z, TI, TO, i1, i2], b < s.heap.objs.size := fun c hcm => by
      simp only [List.mem_cons, List.not_mem_nil, or_false] at hcm
      rcases hcm with rfl | rfl | rfl | rfl | rfl
      · exact Heap.lt_size hz
      · exact Heap.lt_size hTI
      · exact Heap.lt_size hTO
      · obtain ⟨o, e, _⟩ := h1; exact Heap.lt_size e
      · obtain ⟨o, e, _⟩ := h2; exact Heap.lt_size e
    have hTI2 : IsPair h2' TI (.ref i1) (.ref i2) := hs'.extBut _ _ D.TIz (hk _ _ D.TIz D.TITO D.TIi1 D.TIi2 hTI)
    have hTO2 : IsPair h2' TO ux uy := hs'.extBut _ _ D.TOz a2
    have h12 : h2'.IsTupleIter i1 a (i + 1) := a3.extBut hs'.extBut D.i1z
    have h22 : h2'.IsTupleIter i2 b (i + 1) := a4.extBut hs'.extBut D.i2z
    have pz : s.heap.objs.size ≠ z := Nat.ne_of_gt (Heap.lt_size hz)
    have hp2 : IsPair h2' s.heap.objs.size ux uy := hs'.extBut _ _ pz a5
    have kk : ∀ c o, c ∉ [z, TI, TO, i1, i2] → s.heap.get? c = some o → h2'.get? c = some o := fun c o hcm e => by
      simp only [List.mem_cons, List.not_mem_nil, or_false, not_or] at hcm
      exact hs'.extBut _ _ hcm.1 (hk c o hcm.1 hcm.2.2.1 hcm.2.2.2.1 hcm.2.2.2.2 e)
    have I1 : Inv X pins σ H { s with heap := h2', toks := s.toks } := I.turnedL kk hf
    have fP : FpOk X pins H s.heap.objs.size := I.fpOk (Nat.le_refl _) (I.hok.fresh (Nat.le_refl _))
    have I2 : Inv X pins σ (upd H s.heap.objs.size (.tup [x, y])) { s with heap := h2', toks := s.toks } := by
      refine I1.track I.sz (fP.2.1) fP.2.2.2.2.1 fP.2.2.2.2.2 fP.1 ?_
      exact ⟨(show 2 ≤ sizeLine by decide), [ux, uy], .cons rux (.cons ruy .nil), ⟨_, hp2, rfl, _, rfl⟩⟩
    refine ⟨.ref s.heap.objs.size, _, I2, rfl, ⟨_, x, y, rfl, fP.1, rfl, fun zs hzs => by rw [I.tuple_inj hzs hqa]; exact hx, fun zs hzs => by rw [I.tuple_inj hzs hqb]; exact hy⟩, ⟨hz', hTI2, ⟨_, _, hTO2⟩, h12, h22, n1, n2⟩, fun c hcm => ?_⟩
    rw [upd_ne (Nat.ne_of_lt (lt c hcm))]
    exact (hf c hcm).1
  done := by
    intro X hP hw hK hc i pins s σ H E I hf ⟨hz, hTI, ⟨u, v, hTO⟩, h1, h2, n1, n2⟩ hg
    subst hP hw hK
    obtain ⟨xs, ys, hqa, hqb, hend⟩ := hg
    obtain ⟨its, rv, p, hsz⟩ := I.tuple hqa
    obtain ⟨jts, rw', p', hsz'⟩ := I.tuple hqb
    have D : ZipApart z TI TO i1 i2 a b := by
      obtain ⟨oa, ea, ca, _, _⟩ := p
      obtain ⟨ob, eb, cb, _, _⟩ := p'
      obtain ⟨o1, e1, c1, _⟩ := h1
      obtain ⟨o2, e2, c2, _⟩ := h2
      have dz : ∀ {c : Addr} {o : Obj} {T : String}, s.heap.get? c = some o → o.cls = .type T → T ≠ "zip" → c ≠ z := fun e q n r => by
        rw [r, hz] at e; cases e; cases q; exact n rfl
      have dT : ∀ {c d : Addr} {o q : Obj} {T U : String}, s.heap.get? c = some o → o.cls = .type T → s.heap.get? d = some q → q.cls = .type U → T ≠ U → c ≠ d := fun e1 c1 e2 c2 n r => by
        subst r; rw [e1] at e2; cases e2; rw [c1] at c2; cases c2; exact n rfl
      exact ⟨dz hTI rfl (by decide), dz hTO rfl (by decide), dz e1 c1 (by decide), dz e2 c2 (by decide), n1, dT hTI rfl e1 c1 (by decide), dT hTI rfl e2 c2 (by decide), dT hTO rfl e1 c1 (by decide), dT hTO rfl e2 c2 (by decide), n2,
        dz ea ca (by decide), sq_ne I (hf TO (by simp)) hqa, dT ea ca e1 c1 (by decide), dT ea ca e2 c2 (by decide), dz eb cb (by decide), sq_ne I (hf TO (by simp)) hqb, dT eb cb e1 c1 (by decide), dT eb cb e2 c2 (by decide)⟩
    have e1 := rv.length
    have e2 := rw'.length
    refine pyNext_zipT_end (I.ok.hd hc) D hz hTI hTO h1 h2 (show s.heap.IsTuple a its.toArray from p) (show s.heap.IsTuple b jts.toArray from p') (k1 := i) (k2 := i) (by
      rcases hend with h | h
      · left; simp; omega
      · right; simp; omega) fun h' hk => ⟨rfl, ?_⟩
    exact I.turnedL (t' := s.toks) (fun c o hcm e => by
      simp only [List.mem_cons, List.not_mem_nil, or_false, not_or] at hcm
      exact hk c o hcm.1 hcm.2.2.1 hcm.2.2.2.1 hcm.2.2.2.2 e) hf
  self := fun _ _ _ _ _ st h => wpAny_pyIter_zip st.1 h
section
variable {X : Cx}
def iZipT (K : PySem.W.Frag) (ta : TA) : TI := fun σ H R => ta σ H fun vs H1 => ∃ a b, vs = [.ref a, .ref b] ∧ (∃ xs, SqT K H1 a xs) ∧ (∃ ys, SqT K H1 b ys) ∧ R (ItzT K a b) H1
theorem pi_zipTT {es : List Expr} {x1} {tpos : Pos} {e1 e2 : Expr} {ta : TA} {p pos : Pos} (hg : Gl X "zip") (hm : X.mg "zip" = none) (ha : PA X [e1, e2] ta) (hs : starEach [e1, e2] X.env = [(false, eval e1 X.env), (false, eval e2 X.env)] := by rfl) (hs2 : starEach [e2] X.env = [(false, eval e2 X.env)] := by rfl) :
    PI X (.Tuple es x1 tpos) (.Call (.Name "zip" p) [e1, e2] [] pos) (iZipT X.K ta) := by
  intro pins s σ H R I h
  refine Call_ (ld_blt I hg hm (by rfl) (PyProof.Rows.callWith_type1 (thn (ha pos pins s σ H _ I h) fun us s1 ⟨vs, H1, I1, r1, q1⟩ => ?_) (by rw [hs, hs2]) (by rw [hs2]; rfl)))
  obtain ⟨a, b, rfl, ⟨xs, hqa⟩, ⟨ys, hqb⟩, q⟩ := q1
  obtain ⟨u1, u2, rfl, ru1, ru2⟩ := vals2 r1
  cases (show u1 = Value.ref a from ru1)
  cases (show u2 = Value.ref b from ru2)
  obtain ⟨its, rv, pa, hsz⟩ := I1.tuple hqa
  obtain ⟨jts, rw', pb, hsz'⟩ := I1.tuple hqb
  refine call_zipT (show s1.heap.IsTuple a its.toArray from pa) (show s1.heap.IsTuple b jts.toArray from pb) fun h' hz hTI hTO h1 h2 hsize hk => ?_
  refine wpAny_pyIter_zip (s := { s1 with heap := h' }) hz ?_
  refine ⟨_, _, _, _, H1, rfl, I1.kept (t' := s1.toks) hk, turn_zipT a b (s1.heap.objs.size + 4) (s1.heap.objs.size + 2) (s1.heap.objs.size + 3) s1.heap.objs.size (s1.heap.objs.size + 1), ⟨hz, hTI, ⟨_, _, hTO⟩, h1, h2, (fun z => by have : s1.heap.objs.size + 2 = s1.heap.objs.size + 3 := z; omega), (fun z => by have : s1.heap.objs.size = s1.heap.objs.size + 1 := z; omega)⟩, fun c hc => ?_, q⟩
  have hge : s1.heap.objs.size ≤ c := by
    simp only [List.mem_cons, List.not_mem_nil, or_false] at hc
    rcases hc with h | h | h | h | h <;> (rw [h]; omega)
  exact I1.fpOk hge (I1.hok.fresh hge)
end
end L2

set_option Elab.async false
set_option linter.all false
set_option maxRecDepth 100000
namespace L2
open PySem PySem.Spec PyProof.Rows
def strsL : List Value → List Str → Bool
  | [], [] => true
  | .str x _ :: vs, y :: ys => (x == y) && strsL vs ys
  | _, _ => false
def tupLooks (get : Addr → Option Obj) (ss : List Str) (v : Value) : Bool :=
  match v with
  | .ref b => (match get b with
    | some o => (o.cls == .type "tuple") && (match o.data with | .seq its _ => strsL its.toList ss | _ => false)
    | none => false)
  | _ => false
abbrev TabT (K : PySem.W.Frag) (a : Addr) (D : List (Str × List Str)) : Prop := KTD.tabLook (tupLooks fun b => K.lookup b) (fun b => K.lookup b) a D = true
theorem strsL_flats : ∀ {vs : List Value} {ss : List Str}, strsL vs ss = true → KTD.Flats vs (ss.map PyData.str)
  | [], [], _ => .nil
  | .str x t :: vs, y :: ys, h => by
    have h : ((x == y) && strsL vs ys) = true := h
    rw [Bool.and_eq_true] at h
    have e : x = y := by simpa using h.1
    subst e
    exact .cons (.str x t) (strsL_flats h.2)
theorem flats_vals : ∀ {vs : List Value} {ss : List Str}, KTD.Flats vs (ss.map PyData.str) → Vals (ss.map V.str) vs
  | _, [], h => by cases h; exact .nil
  | _, y :: ys, h => by
    cases h with
    | cons f r => exact .cons (PyProof.V.Flat.str_inv f) (flats_vals r)
theorem flats_len : ∀ {vs : List Value} {ds : List PyData}, KTD.Flats vs ds → vs.length = ds.length
  | _, _, .nil => rfl
  | _, _, .cons _ r => by rw [List.length_cons, List.length_cons, flats_len r]
section
variable {X : Cx} {pins : List (Addr × Obj)} {σ : St} {H : Hp} {s : Shared}
def onlyK (K : PySem.W.Frag) (h : Heap) : Heap := PySem.W.hideAll h ((List.range h.objs.size).filter fun b => (K.lookup b).isNone)
theorem onlyK_get (kin : ∀ a o, X.K.lookup a = some o → s.heap.get? a = some o) {a : Addr} {o : Obj} (h : X.K.lookup a = some o) : (onlyK X.K s.heap).get? a = some o :=
  PySem.W.hideAll_get _ (kin a o h) fun hm => by
    have := (List.mem_filter.mp hm).2
    rw [h] at this; cases this
theorem onlyK_of {a : Addr} {o : Obj} (kin : ∀ a o, X.K.lookup a = some o → s.heap.get? a = some o) (h : (onlyK X.K s.heap).get? a = some o) : X.K.lookup a = some o := by
  have h1 : s.heap.get? a = some o := PySem.W.of_hideAll _ h
  cases hk : X.K.lookup a with
  | some o' => rw [kin a o' hk] at h1; exact h1
  | none =>
    have : (onlyK X.K s.heap).get? a = none := PySem.W.hideAll_none _ (List.mem_filter.mpr ⟨List.mem_range.mpr (Heap.lt_size h1), by rw [hk]; rfl⟩)
    rw [h] at this; cases this
theorem looks_at (kin : ∀ a o, X.K.lookup a = some o → s.heap.get? a = some o) (ss : List Str) (v : Value) (h : tupLooks (fun b => X.K.lookup b) ss v = true) : KTD.Dat.At (onlyK X.K s.heap) (.tup (ss.map PyData.str)) v := by
  unfold tupLooks at h
  split at h
  · rename_i b
    split at h
    · rename_i o ho
      rw [Bool.and_eq_true] at h
      obtain ⟨h1, h2⟩ := h
      split at h2
      · rename_i its n hd
        exact ⟨b, its.toList, rfl, ⟨o, onlyK_get kin ho, by simpa using h1, n, by simpa using hd⟩, strsL_flats h2⟩
      · cases h2
    · cases h
  · cases h
theorem tabT_here (I : Inv X pins σ H s) {a : Addr} {D : List (Str × List Str)} (T : TabT X.K a D) : KTD.Here (onlyK X.K s.heap) s.heap a (D.map fun p => (p.1, KTD.Dat.tup (p.2.map PyData.str))) := by
  have kin : ∀ a o, X.K.lookup a = some o → s.heap.get? a = some o := fun b o e => I.kIn b o e
  obtain ⟨h1, o, es, ep, h2, h3, h4, h5⟩ := KTD.tab_of_look (h := onlyK X.K s.heap) (R := fun (d : List Str) v => KTD.Dat.At (onlyK X.K s.heap) (.tup (d.map PyData.str)) v) (fun d v h => looks_at kin d v h) (fun b o e => onlyK_get kin e) T
  exact ⟨⟨h1, o, es, ep, h2, h3, h4, h5.mono (f := fun d : List Str => KTD.Dat.tup (d.map PyData.str)) (fun d v h => h)⟩, fun b o e => PySem.W.of_hideAll _ e⟩
theorem datumAt_T (k : Str) : ∀ D : List (Str × List Str), KTD.datumAt k (D.map fun p => (p.1, KTD.Dat.tup (p.2.map PyData.str))) = (D.lookup k).map fun ss => KTD.Dat.tup (ss.map PyData.str)
  | [] => rfl
  | (x, d) :: D => by
    rw [List.map_cons, KTD.datumAt, List.lookup_cons, datumAt_T k D]
    by_cases hk : k = x
    · subst hk; simp
    · have : (k == x) = false := beq_eq_false_iff_ne.mpr hk
      simp [hk, this]
def tIxT (td ty : TE) (K : PySem.W.Frag) : TE := fun σ H Q => td σ H fun x H1 => ty σ H1 fun y H2 => ∃ k a D ss, x = V.ref a ∧ y = V.str k ∧ TabT K a D ∧ D.lookup k = some ss ∧ ss.length ≤ 1000 ∧ ∀ b, (∀ H3, SqT K H3 b (ss.map V.str)) → Q (.ref b) H2
theorem pe_ixT {o i : Expr} {pos : Pos} {td ty : TE} (ho : PE X o td) (hi : PE X i ty) (hs : NoSl i) : PE X (.Subscript o i pos) (tIxT td ty X.K) := by
  intro pins s σ H Q I h
  refine subD_of PySem.F.slot_dict_getitem.lookup hs (thn (ho pins s σ H _ I h) fun u s1 ⟨x, H1, I1, rx, q1⟩ => thn (hi pins s1 σ H1 _ I1 q1) fun iv s2 ⟨y, H2, I2, ry, k, a, D, ss, ex, ey, T, l, sb, q2⟩ => ?_)
  subst ex ey
  obtain rfl : u = Value.ref a := rx
  obtain ⟨t, rfl⟩ := (show ∃ t, iv = Value.str k t from ry)
  have hT := tabT_here I2 T
  refine ⟨hT.typeIs, ?_⟩
  have hat : KTD.datumAt k (D.map fun p => (p.1, KTD.Dat.tup (p.2.map PyData.str))) = some (KTD.Dat.tup (ss.map PyData.str)) := by rw [datumAt_T, l]; rfl
  have hmem : KTD.inKeys k (D.map fun p => (p.1, KTD.Dat.tup (p.2.map PyData.str))) = true := by rw [← KTD.isSome_datumAt, hat]; rfl
  unfold getItem
  try with_reducible refine wpAny_holding ?_
  refine wpAny_bind (wpAny_sequenceKey hT.typeIs (by decide) ?_)
  refine wpAny_bind (wpAny_callSpecial?_slot (name := Str.ofString "__getitem__") hT.typeIs slot_dict_getitem
    (wpAny_call_entry slot_dict_getitem hT.typeIs entry_dict_getitem ?_ (args_dict_getitem _ _)))
  show wpAny _ _ (dictGet a (.str k t) >>= _) _ _ s2
  refine wpAny_bind (KTD.dictGet_text hT (fun d v ha hv => wpAny_pure ⟨v, rfl, wpAny_pure ?_⟩) fun hn => absurd hn (KTD.at_of_mem hmem))
  rw [hat] at ha
  cases ha
  obtain ⟨b, vs, rfl, ⟨ob, e1, e2, n, e3⟩, fl⟩ := hv
  have lv : vs.length = ss.length := by have := flats_len fl; rw [List.length_map] at this; exact this
  exact ⟨.ref b, H2, I2.tok _, rfl, q2 b fun _ => (.inr ⟨ob, vs.toArray, n, onlyK_of (fun b o e => I2.kIn b o e) e1, e2, e3, by rw [List.size_toArray, lv]; exact Nat.le_of_lt (sizeOk (by omega)), by simpa using flats_vals fl⟩)⟩
theorem for_zipT {K : PySem.W.Frag} {a b : Addr} {xs ys : List V} {g : TG} {tb : TS} {D : Ends} {σ : St} {H : Hp} (hl : xs.length = ys.length) (Pv : Nat → St → Hp → Prop) (h0 : Pv 0 σ H) (ha : ∀ i σ H, i ≤ xs.length → Pv i σ H → SqT K H a xs ∧ SqT K H b ys)
    (hs : ∀ i x y σ H p, xs[i]? = some x → ys[i]? = some y → Pv i σ H → H p = none → g (.ref p) σ (upd H p (.tup [x, y])) fun σ2 H2 => tb { D with nx := Pv (i + 1), ct := Pv (i + 1), bk := D.nx } σ2 H2) (hd : ∀ σ H, Pv xs.length σ H → D.nx σ H) :
    ∃ W : Nat → Nat → St → Hp → Prop, (∃ m, W 0 m σ H) ∧ ∀ i m σ H, W i m σ H →
      ((ItzT K a b).stop i H ∧ D.nx σ H) ∨ ((ItzT K a b).go i H ∧ ∃ N : St → Hp → Prop, (∀ σ' H', N σ' H' → ∃ m', m' < m ∧ W (i + 1) m' σ' H') ∧ ∀ x H', (ItzT K a b).yld i H x H' → g x σ H' fun σ2 H2 => tb { D with nx := N, ct := N, bk := D.nx } σ2 H2) := by
  refine ⟨fun i m σ H => m = xs.length - i ∧ i ≤ xs.length ∧ Pv i σ H, ⟨_, rfl, Nat.zero_le _, h0⟩, ?_⟩
  rintro i m σ H ⟨rfl, hi, hp⟩
  obtain ⟨qa, qb⟩ := ha i σ H hi hp
  by_cases c : i < xs.length
  · refine .inr ⟨⟨xs, xs[i], ys, ys[i]'(by omega), qa, List.getElem?_eq_getElem c, qb, List.getElem?_eq_getElem (by omega)⟩, Pv (i + 1), fun σ' H' h' => ⟨_, by omega, rfl, by omega, h'⟩, ?_⟩
    rintro v H' ⟨p, x, y, rfl, hpn, rfl, hx, hy⟩
    exact hs i x y σ H p (hx _ qa) (hy _ qb) hp hpn
  · have e : i = xs.length := by omega
    subst e
    exact .inl ⟨⟨xs, ys, qa, qb, .inl (Nat.le_refl _)⟩, hd σ H hp⟩
end
end L2

set_option Elab.async false
set_option linter.all false
set_option maxRecDepth 100000
namespace L2
open PySem PySem.Spec PyProof.Rows
section
variable {X : Cx}
theorem call_range2 : CallR X (.type "range") (fun xs H Q => ∃ i j : Int, xs = [.int i, .int j] ∧ ∀ p, H p = none → Q (.ref p) (upd H p (.rng i j))) := by
  intro pins s σ H xs us Q I r h
  obtain ⟨i, j, rfl, q⟩ := h
  obtain ⟨u, u', rfl, ⟨t, rfl⟩, ⟨t', rfl⟩⟩ := vals2 r
  refine call_range_2 ⟨.ref s.heap.objs.size, _, I.laid (fun b o e => Heap.get?_push_of_some _ e) (Nat.le_refl _) ?_, rfl, q _ (I.hok.fresh (Nat.le_refl _))⟩
  exact ⟨_, _, _, Heap.get?_push_size _ rfl⟩
def intsF (lo : Int) (n : Nat) : List V := (List.range n).map fun (i : Nat) => V.int (lo + (i : Int))
theorem intsF_length (lo : Int) (n : Nat) : (intsF lo n).length = n := by simp [intsF]
theorem intsF_get {lo : Int} {n i : Nat} (h : i < n) : (intsF lo n)[i]? = some (.int (lo + (i : Int))) := by simp [intsF, h]
theorem call_list_rng2 (hc : X.calm = true) : CallR X (.type "list") (fun xs H Q => ∃ p i j, xs = [.ref p] ∧ H p = some (.rng i j) ∧ 0 ≤ i ∧ i ≤ 2 ^ 24 ∧ 0 ≤ j ∧ j ≤ 2 ^ 24 ∧ ∀ l, H l = none → Q (.ref l) (upd H l (.lst (intsF i (j - i).toNat)))) := by
  intro pins s σ H xs us Q I r h
  obtain ⟨p, i0, j, rfl, hp, h2, h3, h0, h1, q⟩ := h
  obtain ⟨u, rfl, ru⟩ := vals1 r
  cases (show u = Value.ref p from ru)
  obtain ⟨t, u, v, e⟩ := (show ObjOk X.prog X.w H s.heap p (.rng i0 j) from I.hok p _ hp)
  have sz : ((j - i0).toNat : Nat) ≤ sizeLine := by rw [sizeLine_eq]; omega
  refine call_list_range (n := (j - i0).toNat) (I.ok.hd hc) e (small_one (by omega) (by omega) (by omega) (by omega)) (by rw [rangeSize_one]; split <;> omega) (by omega) fun h' tk acc c hk hS hi => ?_
  refine ⟨.ref s.heap.objs.size, _, I.laid hk (Nat.le_refl _) ?_, rfl, q _ (I.hok.fresh (Nat.le_refl _))⟩
  refine ⟨by rw [intsF_length]; exact sz, acc.toList, c, vals_of_items (P := fun i v => ∃ t, v = .int (i0 + i * 1) t) (by rw [intsF_length, Array.length_toList]; exact hi.1) (fun i v e => hi.2 i v (by simpa using e)) (fun i v x ⟨t, e⟩ ex => ?_), by simpa using hS⟩
  subst e
  have hlt : i < (j - i0).toNat := by
    have := (List.getElem?_eq_some_iff.mp ex).1
    rw [intsF_length] at this; exact this
  rw [intsF_get hlt] at ex
  cases ex
  exact ⟨t, by congr 1; omega⟩
end
end L2

set_option Elab.async false
set_option linter.all false
set_option maxRecDepth 100000
namespace L2
open PySem PySem.Spec PyProof.Rows
mutual
def DV (K : PySem.W.Frag) (H : Hp) : PyData → V → Prop
  | .none, v => v = .non
  | .bool b, v => v = .bl b
  | .int i, v => v = .int i
  | .str x, v => v = .str x
  | .list ds, v => ∃ (a : Addr) (xs : List V), v = .ref a ∧ SqL K H a xs ∧ DVs K H ds xs
  | .tuple ds, v => ∃ (a : Addr) (xs : List V), v = .ref a ∧ SqT K H a xs ∧ DVs K H ds xs
  | .dict _, _ => False
def DVs (K : PySem.W.Frag) (H : Hp) : List PyData → List V → Prop
  | [], xs => xs = []
  | d :: ds, xs => ∃ v r, xs = v :: r ∧ DV K H d v ∧ DVs K H ds r
end
section
variable {X : Cx} {pins : List (Addr × Obj)} {s : Shared} {σ : St} {H : Hp}
mutual
theorem DV.reads (I : Inv X pins σ H s) : ∀ (d : PyData) (v : V) (u : Value), DV X.K H d v → RelV v u → ∃ as, Reads s.heap u d as
  | .none, v, u, h, r => by
    unfold DV at h; subst h; cases (show u = Value.none from r); exact ⟨[], .none⟩
  | .bool b, v, u, h, r => by
    unfold DV at h; subst h; cases (show u = Value.bool b from r); exact ⟨[], .bool b⟩
  | .int i, v, u, h, r => by
    unfold DV at h; subst h; obtain ⟨t, e⟩ := (show ∃ t, u = Value.int i t from r); subst e; exact ⟨[], .int i t⟩
  | .str x, v, u, h, r => by
    unfold DV at h; subst h; obtain ⟨t, e⟩ := (show ∃ t, u = Value.str x t from r); subst e; exact ⟨[], .str x t⟩
  | .list ds, v, u, h, r => by
    unfold DV at h
    obtain ⟨a, xs, rfl, hs, hd⟩ := h
    cases (show u = Value.ref a from r)
    obtain ⟨its, r2, ⟨o, n, e, c, d, dd⟩, hz⟩ := I.list hs
    obtain ⟨as, ra⟩ := DVs.reads I ds xs its hd r2
    exact ⟨a :: as, .list e c dd (by simpa using ra)⟩
  | .tuple ds, v, u, h, r => by
    unfold DV at h
    obtain ⟨a, xs, rfl, hs, hd⟩ := h
    cases (show u = Value.ref a from r)
    obtain ⟨its, r2, ⟨o, e, c, n, dd⟩, hz⟩ := I.tuple hs
    obtain ⟨as, ra⟩ := DVs.reads I ds xs its hd r2
    exact ⟨as, .tuple e c dd (by simpa using ra)⟩
  | .dict _, v, u, h, r => by unfold DV at h; exact h.elim
theorem DVs.reads (I : Inv X pins σ H s) : ∀ (ds : List PyData) (xs : List V) (us : List Value), DVs X.K H ds xs → Vals xs us → ∃ as, ReadsAll s.heap us ds as
  | [], xs, us, h, r => by
    unfold DVs at h; subst h; cases r; exact ⟨[], .nil⟩
  | d :: ds, xs, us, h, r => by
    unfold DVs at h
    obtain ⟨v, r', rfl, h1, h2⟩ := h
    cases r with
    | cons ru rs =>
      obtain ⟨as, ra⟩ := DV.reads I d v _ h1 ru
      obtain ⟨bs, rb⟩ := DVs.reads I ds r' _ h2 rs
      exact ⟨as ++ bs, .cons ra rb⟩
end
def rDat (K : PySem.W.Frag) (neg : Bool) : R2 := fun x y H Q => ∃ (d e : PyData), DV K H d x ∧ DV K H e y ∧ SeqAt.shaped d = true ∧ SeqAt.shaped e = true ∧ Q (.bl (if neg then !PyData.eqv d e else PyData.eqv d e)) H
theorem op_eqD {X : Cx} (hu : X.A.units + 64 < cLine) : OpR X (compareOp .Eq) (rDat X.K false) := by
  intro pins s σ H x y u v Q I rx ry h
  obtain ⟨d, e, hd, he, sd, se, q⟩ := h
  obtain ⟨as, ra⟩ := DV.reads I d x u hd rx
  obtain ⟨bs, rb⟩ := DV.reads I e y v he ry
  exact eq_dataH ra rb sd se hu (fin_bl I q (by simp))
theorem op_neD {X : Cx} (hu : X.A.units + 64 < cLine) : OpR X (compareOp .NotEq) (rDat X.K true) := by
  intro pins s σ H x y u v Q I rx ry h
  obtain ⟨d, e, hd, he, sd, se, q⟩ := h
  obtain ⟨as, ra⟩ := DV.reads I d x u hd rx
  obtain ⟨bs, rb⟩ := DV.reads I e y v he ry
  exact ne_dataH ra rb sd se hu (fin_bl I q (by simp))
end
theorem canLayAll_map {α : Type} (f : α → PyData) : ∀ (l : List α), (∀ x ∈ l, (f x).canLay0 = true) → PyData.canLayAll0 (l.map f) = true
  | [], _ => rfl
  | x :: l, h => by
    rw [List.map_cons, PyData.canLayAll0, h x List.mem_cons_self, canLayAll_map f l fun y hy => h y (List.mem_cons_of_mem _ hy)]; rfl
theorem depthAll_map {α : Type} (f : α → PyData) (n : Nat) : ∀ (l : List α), (∀ x ∈ l, (f x).depth ≤ n) → PyData.depthAll (l.map f) ≤ n
  | [], _ => Nat.zero_le _
  | x :: l, h => by
    rw [List.map_cons, PyData.depthAll]
    exact Nat.max_le.mpr ⟨h x List.mem_cons_self, depthAll_map f n l fun y hy => h y (List.mem_cons_of_mem _ hy)⟩
theorem DVs.map {α : Type} {K : PySem.W.Frag} {H : Hp} (f : α → PyData) (g : α → V) : ∀ (l : List α), (∀ x ∈ l, DV K H (f x) (g x)) → DVs K H (l.map f) (l.map g)
  | [], _ => by show DVs K H [] []; unfold DVs; rfl
  | x :: l, h => by
    show DVs K H (f x :: l.map f) (g x :: l.map g)
    unfold DVs
    exact ⟨_, _, rfl, h x List.mem_cons_self, DVs.map f g l fun y hy => h y (List.mem_cons_of_mem _ hy)⟩
theorem shaped_of {d : PyData} (h1 : d.canLay0 = true) (h2 : d.depth ≤ 64) : SeqAt.shaped d = true := by unfold SeqAt.shaped; rw [h1, decide_eq_true h2]; rfl
section
variable {X : Cx}
end
end L2

set_option Elab.async false
set_option linter.all false
set_option maxRecDepth 100000
namespace L2
open PySem PySem.Spec PyProof.Rows
def CXr (P : Program) (w : World) : CXT := fun outer H s E e s' => ∃ (a : Addr) (C a0 : Value) (H' : Hp) (B : Heap), e = .ref a ∧ Heap.FlyingW B outer a C a0 s'.heap ∧ s'.os = s.os ∧ AllBare s'.gens ∧ Un (frs outer) [] H H' s.heap s'.heap ∧
  (∀ b o, s.heap.get? b = some o → H b = none → b ∉ frs outer → B.get? b = some o) ∧ (∀ b o, s.heap.get? b = some o → b ∉ frs outer → ∃ o', B.get? b = some o') ∧ HOk P w H' B ∧ E C (some a) H'
section
variable {P : Program} {w : World} {K : PySem.W.Frag} {mg : Str → Option Value} {base : Heap} {N : List Str} {qual : Str} {scope : Scope} {f : Addr} {cd : Value} {A : Around} {outer : List Env} {s₀ : Shared} {H₀ : Hp} {E : XK}
end
end L2
namespace L2
open PySem PySem.Spec PyProof.Rows
section
variable {X : Cx} {E : XK} {C : Addr} {x : Str} {np cpos pos : Pos} {e₀ : Expr} {t : TE}
end
section
variable {P : Program} {w : World} {K : PySem.W.Frag} {mg : Str → Option Value} {base : Heap}
end
end L2
namespace L2
open PySem PySem.Spec PyProof.Rows
abbrev TJ := Str → St → Hp → VK → Prop
section
variable {X : Cx} {e v1 v2 : Expr} {es : List Expr} {te : TE} {tr : TJ} {pos : Pos}
end
end L2

set_option Elab.async false
set_option linter.all false
set_option maxRecDepth 100000
namespace L2
open PySem PySem.Spec PyProof.Rows PySem.Calls
def ExcAt (x D : Addr) (h : Heap) : Prop := ∃ o vs, h.get? x = some o ∧ o.cls = .ref D ∧ o.data = .fields vs
theorem ExcAt.ty {M : Model} {x D : Addr} {h : Heap} (p : ExcAt x D h) : PySem.W.Looks M h (typeOf (.ref x)) (.ref D) := by
  obtain ⟨o, vs, h1, h2, _⟩ := p
  exact h2 ▸ (PySem.W.Looks.ld h1).andThen .now
structure ExcCls (K : PySem.W.Frag) (D : Addr) : Prop where
  ga : PySem.W.findIn K (.ref D) "__getattribute__" = some (some (.builtin "BaseException.__getattribute__"))
  gh : PySem.W.findIn K (.ref D) "__getattr__" = some none
  be : PySem.W.mroIn K D (.type "BaseException") = some true
  hd : PySem.W.hasDictIn K D = true
  at_ : PySem.W.findIn K (.ref D) "__class__" = some (some (.builtin "object.__class__"))
  gt : PySem.W.specialIn K (.builtin "object.__class__") "__get__" = some (some (.builtin "getset_descriptor.__get__"))
  tk : PySem.W.takesIn K (.builtin "object.__class__") = some true
  ob : PySem.W.mroIn K D (.type "object") = some true
section
variable {K : PySem.W.Frag} {x D : Addr}
open PySem.W Builtin Builtin.ObjectAttr in
open PySem.W Builtin Builtin.ObjectAttr Builtin.Getset_descriptor in
open PySem.W Builtin Builtin.ObjectAttr in
open PySem.W Builtin Builtin.ObjectAttr in
open PySem.W Builtin Builtin.ObjectAttr in
end
end L2

set_option Elab.async false
set_option linter.all false
set_option maxRecDepth 100000
namespace L2
open PySem PySem.Spec PyProof.Rows
section
variable {P : Program} {w : World} {K : PySem.W.Frag} {mg : Str → Option Value} {base : Heap} {CX : CXT} {k : Nat} {f : Addr} {fd : FuncData} {ps : List Str} {sp sp' : Sp}
theorem FnOk.or (F : FnOk P w K mg base CX k f fd ps sp) (G : FnOk P w K mg base CX k f fd ps sp') : FnOk P w K mg base CX k f fd ps (fun vs H Q E => sp vs H Q E ∨ sp' vs H Q E) :=
  ⟨fun vs H Q E h => h.elim (F.len vs H Q E) (G.len vs H Q E), fun A outer s H args us vs Q E hr he hb hv hs => hs.elim (F.run A outer s H args us vs Q E hr he hb hv) (G.run A outer s H args us vs Q E hr he hb hv)⟩
end
structure Flt (P : Program) (w : World) (outer : List Env) (H : Hp) (s : Shared) (H' : Hp) (B h : Heap) : Prop where
  stays : B.StaysIn h
  frames : h.FunFrames B outer
  slot : ∀ b o, s.heap.get? b = some o → H b = none → b ∈ frs outer → ∃ sl, h.get? b = some { o with slots := sl }
  free : ∀ b o, s.heap.get? b = some o → H b = none → H' b = none
  tups : ∀ b xs, H b = some (.tup xs) → H' b = some (.tup xs)
  frzs : ∀ b o u, H b = some (.frz o u) → H' b = some (.frz o u)
  tbls : ∀ b ps, H b = some (.tbl ps) → ∃ more, H' b = some (.tbl (ps ++ more))
  kb : ∀ b o, s.heap.get? b = some o → H b = none → b ∉ frs outer → B.get? b = some o
  tb : ∀ b o, s.heap.get? b = some o → b ∉ frs outer → ∃ o', B.get? b = some o'
  hok : HOk P w H' B
section
variable {P : Program} {w : World} {outer : List Env} {H H' : Hp} {s : Shared} {B h h' : Heap}
theorem Flt.un (f : Flt P w outer H s H' B h) : Un (frs outer) [] H H' s.heap h where
  keep := fun b o q n hb _ => f.stays b o (f.kb b o q n hb)
  slot := fun b o q n hb _ => f.slot b o q n hb
  free := fun b o q n _ => f.free b o q n
  there := fun b o q _ => by
    by_cases hb : b ∈ frs outer
    · obtain ⟨_, o2, ho2, _⟩ := f.frames.mem hb
      exact ⟨o2, ho2⟩
    · obtain ⟨o2, e2⟩ := f.tb b o q hb
      exact ⟨o2, f.stays b o2 e2⟩
  tups := f.tups
  frzs := f.frzs
  tbls := f.tbls
theorem Flt.ok (f : Flt P w outer H s H' B h) : HOk P w H' h := f.hok.kept f.stays
theorem Flt.next (f : Flt P w outer H s H' B h) (st : B.StaysIn h') (fr : h'.FunFrames B outer) (u : h.UpToSlots h') : Flt P w outer H s H' B h' :=
  ⟨st, fr, fun b o q n hb => by
    obtain ⟨sl, e1⟩ := f.slot b o q n hb
    obtain ⟨_, o2, ho2, hnf⟩ := f.frames.mem hb
    rw [e1] at ho2
    cases ho2
    obtain ⟨sl2, e2⟩ := u b _ e1 hnf
    exact ⟨sl2, e2⟩, f.free, f.tups, f.frzs, f.tbls, f.kb, f.tb, f.hok⟩
theorem ObjOk.there {H : Hp} {a : Addr} {o : HO} (x : ObjOk P w H h a o) : ∃ ob, h.get? a = some ob := by
  cases o with
  | lst xs => obtain ⟨_, _, _, _, e⟩ := x; exact ⟨_, e⟩
  | tup xs => obtain ⟨_, _, _, o, e, _⟩ := x; exact ⟨o, e⟩
  | dK kvs => obtain ⟨_, _, _, _, o, _, _, e, _⟩ := x; exact ⟨o, e⟩
  | dT kvs => obtain ⟨_, _, _, _, o, _, _, e, _⟩ := x; exact ⟨o, e⟩
  | set S n => obtain ⟨o, _, _, _, e, _⟩ := x; exact ⟨o, e⟩
  | ins C dx fs => obtain ⟨_, _, _, e, _⟩ := x; exact ⟨_, e⟩
  | own y => exact x
  | xd fs => obtain ⟨_, ⟨o, _, _, e, _⟩, _⟩ := x; exact ⟨o, e⟩
  | rng lo hi => obtain ⟨_, _, _, e⟩ := x; exact ⟨_, e⟩
  | frz ob u => obtain ⟨e, _⟩ := x; exact ⟨_, e⟩
  | tbl ps => exact ⟨_, show h.get? a = some _ from x⟩
  | met f y => exact ⟨_, show h.get? a = some _ from x⟩
  | ext φ => obtain ⟨_, e, _⟩ := x; exact e
end
section
variable {X : Cx} {pins : List (Addr × Obj)} {σ : St} {H : Hp} {s : Shared}
theorem Inv.tracked {a : Addr} {u : HO} (I : Inv X pins σ H s) (hn : H a = none) (new : X.s₀.heap.get? a = none) (hL : a ≠ X.env.locals) (hc : ∀ x c, X.env.cells.lookup x = some c → c ≠ a) (hp : ∀ p ∈ X.pn ++ pins, p.1 ≠ a)
    (ok : ObjOk X.prog X.w (upd H a u) s.heap a u) : Inv X pins σ (upd H a u) s := by
  have ne : ∀ b o, H b = some o → b ≠ a := fun b o e z => by rw [z, hn] at e; cases e
  have nw : ∀ b o, X.s₀.heap.get? b = some o → b ≠ a := fun b o e z => by rw [z, new] at e; cases e
  refine ⟨I.ok, I.os, I.bare, ⟨I.base.keep, I.base.slot, fun b o q n hx => ?_, I.base.there, fun b xs q => ?_, fun b o v q => ?_, fun b ps q => ?_⟩, I.loc, I.cell, ?_, fun x c e => ?_, fun p h => ?_, fun b o e => ?_, I.len⟩
  · rw [upd_ne (nw b o q)]; exact I.base.free b o q n hx
  · have e := I.base.tups b xs q; rw [upd_ne (ne b _ e)]; exact e
  · have e := I.base.frzs b o v q; rw [upd_ne (ne b _ e)]; exact e
  · obtain ⟨m, e⟩ := I.base.tbls b ps q; exact ⟨m, by rw [upd_ne (ne b _ e)]; exact e⟩
  · rw [upd_ne (Ne.symm hL)]; exact I.free
  · rw [upd_ne (hc x c e)]; exact I.freeC x c e
  · obtain ⟨e1, e2, e3⟩ := I.pin p h
    exact ⟨e1, by rw [upd_ne (hp p h)]; exact e2, e3⟩
  · by_cases hb : b = a
    · subst hb; rw [upd_same] at e; cases e; exact ok
    · rw [upd_ne hb] at e
      exact (I.hok b o e).stay (fun _ _ _ q => q) (fun c q => by rw [upd_ne (ne c _ q)]; exact q) fun c xs q => by rw [upd_ne (ne c _ q)]; exact q
end
abbrev Cx.marked (X : Cx) (e : Addr) : Cx := { X with A := X.A.mark (some (.ref e)), calm := false, xe := fun _ _ => False }
theorem Inv.mark {X : Cx} {pins : List (Addr × Obj)} {σ : St} {H : Hp} {s : Shared} (I : Inv X pins σ H s) (e : Addr) : Inv (X.marked e) pins σ H s :=
  ⟨⟨I.ok.mod, I.ok.kind, I.ok.glob, I.ok.blt, I.ok.above, I.ok.inj, I.ok.has, I.ok.cab, fun z => Bool.noConfusion z, I.ok.frames, I.ok.stk, I.ok.exf, I.ok.bs, I.ok.bsz, I.ok.noex, I.ok.exfs, I.ok.funs, I.ok.frf⟩, I.os, I.bare, I.base, I.loc, I.cell, I.free, I.freeC, I.pin, I.hok, I.len⟩
structure RoomQ (k : Nat) (A : Around) : Prop where
  dp : A.depth + 3 * k + 5 < recursionLimit
  un : A.units + 16 * k + 200 < cLine
theorem Room.q {k : Nat} {A : Around} (r : Room k A) : RoomQ k A := ⟨r.dp, r.un⟩
theorem RoomQ.mono {j k : Nat} {A : Around} (r : RoomQ k A) (h : j ≤ k) : RoomQ j A := ⟨by have := r.dp; omega, by have := r.un; omega⟩
theorem RoomQ.deeper {k : Nat} {A : Around} (r : RoomQ (k + 1) A) (env : Env) : RoomQ k (A.deeper env) :=
  ⟨by have := r.dp; show A.depth + 1 + 3 * k + 5 < _; omega, by have := r.un; show A.units + 3 + 16 * k + 200 < _; omega⟩
structure FnOkQ (P : Program) (w : World) (K : PySem.W.Frag) (mg : Str → Option Value) (base : Heap) (k : Nat) (f : Addr) (fd : FuncData) (ps : List Str) (sp : Sp) : Prop where
  len : ∀ vs H Q E, sp vs H Q E → vs.length = ps.length
  run : ∀ (A : Around) (outer : List Env) (s : Shared) (H : Hp) (args : Args) (us : List Value) (vs : List V) (Q : VK) (E : XK), RoomQ k A → Env0 P w K mg base A outer s H → BindsTo s fd args (ps.zip us) → Vals vs us → sp vs H Q E →
    codeAny (model P w) A (.call (.ref f) args) (CR CX0 outer P w H s Q E) s
section
variable {X : Cx} {k : Nat} {f : Addr} {fd : FuncData} {ps : List Str} {sp : Sp} {x : Str} {p pos : Pos} {e : Expr} {es : List Expr} {t : TA}
end
end L2

set_option Elab.async false
set_option linter.all false
set_option maxRecDepth 100000
namespace L2
open PySem PySem.Spec PyProof.Rows
structure Deed (P : Program) (w : World) (K : PySem.W.Frag) (mg : Str → Option Value) (base : Heap) (k : Nat) (s : Shared) (H : Hp) (outer : List Env) (g : Addr) (sp : Hp → VK → XK → Prop) : Prop where
  fn : PySem.W.FnAt g s.heap
  un : H g = none
  nf : g ∉ frs outer
  run : ∀ (A' : Around) (outer' : List Env) (s' : Shared) (H' : Hp) (Q : VK) (E : XK), Room k A' → Env0 P w K mg base A' outer' s' H' →
    (∀ b o, s.heap.get? b = some o → H b = none → b ∉ frs outer → s'.heap.get? b = some o ∧ H' b = none) → (∀ b o u, H b = some (.frz o u) → H' b = some (.frz o u)) → sp H' Q E → codeAny (model P w) A' (.call (.ref g) ⟨[], []⟩) (CR (CXr P w) outer' P w H' s' Q E) s'
end L2

set_option Elab.async false
set_option linter.all false
set_option maxRecDepth 100000
namespace L2
open PySem PySem.Spec PyProof.Rows
structure LamAt (h : Heap) (H : Hp) (fs : List Addr) (N : List Str) (σ : St) (qual : Str) (params : Arguments) (body : Expr) (scope : Scope) (cl : List (Str × Addr)) (g c' : Addr) : Prop where
  fn : ∃ pm ctv, h.get? g = some (PySem.W.kla_obj "<lambda>" qual params body scope cl pm c' ctv)
  gn : H g = none ∧ g ∉ fs
  code : ∃ o vs t, H c' = some (.frz o (.own 0)) ∧ o.data = .fields vs ∧ vs[1]? = some (.str qual t)
  cells : ∀ x c, cl.lookup x = some c → (∃ v, h.IsCell c v) ∧ H c = none ∧ c ∉ fs
  vals : ∀ (i : Nat) (x : Str) (v : V), N[i]? = some x → σ[i]? = some (some v) → ∃ u c, RelV v u ∧ cl.lookup x = some c ∧ h.IsCell c (some u)
end L2

set_option Elab.async false
set_option linter.all false
set_option maxRecDepth 100000
namespace L2
open PySem PySem.Spec PyProof.Rows
structure RefOk (P : Program) (w : World) (K : PySem.W.Frag) (mg : Str → Option Value) (base : Heap) (k kd : Nat) (f : Addr) (rs : (Hp → VK → XK → Prop) → Hp → VK → Prop) : Prop where
  run : ∀ (A : Around) (outer : List Env) (s : Shared) (H : Hp) (g : Addr) (spD : Hp → VK → XK → Prop) (Q : VK), Room k A → Env0 P w K mg base A outer s H → Deed P w K mg base kd s H outer g spD → rs spD H Q →
    codeAny (model P w) A (.call (.ref f) ⟨[.ref g], []⟩) (CR CX0 outer P w H s Q E0) s
section
variable {X : Cx} {pins : List (Addr × Obj)} {σ : St} {H : Hp} {s : Shared} {c Pt : Addr} {ps : Array Value} {params : Arguments} {body : Expr} {scope : Scope} {lpos : Pos} {clos : List (Str × Addr)} {Q : Value → Shared → Prop} {E : Value → Shared → Prop}
end
section
variable {X : Cx} {k kd : Nat} {f c Pt : Addr} {rs : (Hp → VK → XK → Prop) → Hp → VK → Prop} {x : Str} {p pos lpos : Pos} {params : Arguments} {body : Expr} {scope : Scope} {N' : List Str} {tb : XK → TE}
end
end L2

set_option Elab.async false
set_option linter.all false
set_option maxRecDepth 100000
namespace L2
open PySem PySem.Spec PyProof.Rows
section
variable {P : Program} {w : World} {K : PySem.W.Frag} {mg : Str → Option Value} {base : Heap}
end
end L2

set_option Elab.async false
set_option linter.all false
set_option maxRecDepth 100000
namespace L2
open PySem PySem.Spec PyProof.Rows
section
variable {K : PySem.W.Frag} {C R : Addr} {Ds : List (Addr × Bool)}
end
def Small (i : Int) : Prop := i.natAbs.log2 < 1920
theorem small_of {i : Int} (h : i.natAbs < 2 ^ 1000) : Small i := by
  unfold Small
  by_cases h0 : i.natAbs = 0
  · rw [h0]; decide
  · have := (Nat.log2_lt h0).mpr (show i.natAbs < 2 ^ 1000 from h)
    omega
section
variable {E : XK} {C : Addr} {D : Ends} {σ : St} {H : Hp} {x y : Str} {i j : Nat} {m n : Int}
end
end L2

set_option Elab.async false
set_option linter.all false
set_option maxRecDepth 100000
namespace L2
open PySem PySem.Spec PyProof.Rows
def Asc (n : Nat) (y : Str) : Prop := y.length ≤ n ∧ ∀ c ∈ y.cps.toList, c < 128
theorem Asc.mono {n m : Nat} {y : Str} (h : Asc n y) (hm : n ≤ m) : Asc m y := ⟨Nat.le_trans h.1 hm, h.2⟩
theorem slice_mem {x : Str} {l u : Option Int} {c : Nat} (h : c ∈ (Txt.slice x l u).cps.toList) : c ∈ x.cps.toList := by
  unfold Txt.slice at h
  split at h
  · exact h
  · have h2 : c ∈ (Builtin.Str.strSliceIndices l u 1 x.length).filterMap (x.cps[·]?) := by simpa using h
    obtain ⟨i, _, e⟩ := List.mem_filterMap.mp h2
    exact Array.mem_toList_iff.mpr (Array.mem_of_getElem? e)
theorem Asc.slice {n : Nat} {y : Str} (h : Asc n y) (l u : Option Int) : Asc n (Txt.slice y l u) := ⟨Nat.le_trans (Txt.slice_le y l u) h.1, fun c hc => h.2 c (slice_mem hc)⟩
section
variable {X : Cx}
theorem fitOf {n : Nat} (h : n ≤ sizeLine) : Builtin.Str.tooLong n = false := by unfold Builtin.Str.tooLong; exact decide_eq_false (by omega)
theorem strVals : ∀ {ys : List Str} {us : List Value}, Vals (ys.map V.str) us → ∃ l : List (Str × Tok), us = strValues l ∧ l.map (·.1) = ys
  | [], _, .nil => ⟨[], rfl, rfl⟩
  | y :: ys, _, .cons r t => by
    obtain ⟨k, e⟩ := (show ∃ k, _ = Value.str y k from r)
    subst e
    obtain ⟨l, rfl, rfl⟩ := strVals t
    exact ⟨(y, k) :: l, rfl, rfl⟩
def rJoin (K : PySem.W.Frag) : V → List V → Hp → VK → Prop := fun x vs H Q => ∃ (z : Str) (a : Addr) (ys : List Str), x = .str z ∧ vs = [.ref a] ∧ SqL K H a (ys.map V.str) ∧ JoinOk z ys = true ∧ Q (.str (Txt.join z ys)) H
theorem mt_join : MtM X "str.join" (rJoin X.K) := by
  intro pins s σ H x vs v us Q I rx rv h
  obtain ⟨z, a, ys, rfl, rfl, ha, hok, q⟩ := h
  obtain ⟨t, rfl⟩ := rx
  obtain ⟨u, rfl, ru⟩ := rv.one
  cases ru
  obtain ⟨its, r2, pl, hz⟩ := I.list ha
  obtain ⟨l, rfl, rfl⟩ := strVals r2
  exact SC.join (l := l) pl.isList rfl hok fun t' k => ⟨.str (Txt.join z (l.map (·.1))), H, I.tok _, ⟨t', rfl⟩, q⟩
end
theorem foldLen (k M : Nat) : ∀ (l : List Str) (acc : Nat), (∀ y ∈ l, y.length ≤ M) → l.foldl (fun a y => a + y.length + k) acc ≤ acc + l.length * (M + k)
  | [], acc, _ => by simp
  | y :: l, acc, h => by
    have h1 := h y List.mem_cons_self
    have h2 := foldLen k M l (acc + y.length + k) fun z hz => h z (List.mem_cons_of_mem _ hz)
    rw [List.foldl_cons, List.length_cons, Nat.succ_mul]
    omega
theorem joinOk {sep : Str} {ys : List Str} {M : Nat} (h : ∀ y ∈ ys, y.length ≤ M) (hs : ys.length * (M + sep.length) ≤ sizeLine) : JoinOk sep ys = true := by
  unfold JoinOk
  rw [List.foldl_toArray]
  have := foldLen sep.length M ys 0 h
  rw [fitOf (by omega)]
  rfl
end L2

set_option Elab.async false
set_option linter.all false
set_option maxRecDepth 100000
namespace L2
open PySem PySem.Spec PyProof.Rows
section
variable {E : XK} {C : Addr} {D : Ends} {σ : St} {H : Hp} {x x1 y : Str} {i j : Nat} {m n : Int}
end
end L2

set_option Elab.async false
set_option linter.all false
set_option maxRecDepth 100000
namespace L2
open PySem PySem.Spec PyProof.Rows
structure Tb (L : Kn) (Pt : Addr) (qual : Str) : Prop where
  ex : ∃ ps : Array Value, (Pt, HO.tbl ps) ∈ L ∧ TriplesOk ps.toList ∧ ∀ pos, codeAmong pos ps.toList = none ∨ ∃ (c' : Addr) (oc : Obj) (vs : Array Value) (t : Tok), codeAmong pos ps.toList = some (.ref c') ∧ (c', HO.frz oc (.own 0)) ∈ L ∧ oc.data = .fields vs ∧ vs[1]? = some (.str qual t)
theorem Tb.mono {L L' : Kn} {Pt : Addr} {qual : Str} (T : Tb L Pt qual) (h : ∀ z ∈ L, z ∈ L') : Tb L' Pt qual := by
  obtain ⟨ps, m, tr, hp⟩ := T.ex
  exact ⟨ps, h _ m, tr, fun pos => (hp pos).imp id fun ⟨c', oc, vs, t, a, b, c, d⟩ => ⟨c', oc, vs, t, a, h _ b, c, d⟩⟩
theorem Tb.new {L : Kn} {Pt : Addr} {qual : Str} (h : (Pt, HO.tbl #[]) ∈ L) : Tb L Pt qual := ⟨#[], h, trivial, fun _ => .inl rfl⟩
section
variable {X : Cx} {e : Expr} {te : TE} {pos : Pos}
end
section
variable {E : XK} {C : Addr} {D : Ends} {σ : St} {H : Hp} {x x1 x2 : Str} {i j : Nat} {m n : Int} {a : Addr}
end
end L2

set_option Elab.async false
set_option linter.all false
set_option maxRecDepth 100000
namespace L2
open PySem PySem.Spec PyProof.Rows
section
variable {X : Cx} {K : PySem.W.Frag}
theorem op_eqDK (hK : X.K = K) (hu : X.A.units + 64 < cLine) : OpR X (compareOp .Eq) (rDat K false) := by subst hK; exact op_eqD hu
end
end L2

namespace L2
open PySem PySem.Spec PyProof.Rows
section
variable {X : Cx}
def rSplit : V → List V → Hp → VK → Prop := fun x vs H Q => ∃ (z y : Str), x = .str z ∧ vs = [.str y] ∧ (y.length == 0) = false ∧ z.length ≤ sizeLine ∧ (Txt.split z y).length ≤ sizeLine ∧ ∀ l, H l = none → Q (.ref l) (upd H l (.lst ((Txt.split z y).map V.str)))
theorem valsStr : ∀ (l : List (Str × Tok)), Vals ((l.map (·.1)).map V.str) (strValues l)
  | [] => .nil
  | (_, k) :: l => .cons ⟨k, rfl⟩ (valsStr l)
theorem mt_split : MtM X "str.split" rSplit := by
  intro pins s σ H x vs v us Q I rx rv h
  obtain ⟨z, y, rfl, rfl, hy, hz, hn, q⟩ := h
  obtain ⟨t, rfl⟩ := rx
  obtain ⟨u, rfl, ru⟩ := rv.one
  obtain ⟨u, rfl⟩ := ru
  have fin : ∀ (l : List (Str × Tok)) (k : Nat), s.toks ≤ k → l.map (·.1) = Txt.split z y → EP X pins σ Q (.ref s.heap.objs.size) { s with toks := k, heap := s.heap.push { cls := .type "list", data := .seq (strValues l).toArray } } := fun l k hk e => by
    rw [← e] at hn q
    exact ⟨.ref s.heap.objs.size, _, I.laid (t' := k) (fun b o e => Heap.get?_push_of_some _ e) (Nat.le_refl _) (show ObjOk X.prog X.w _ _ _ (.lst ((l.map (·.1)).map V.str)) from ⟨by rw [List.length_map]; exact hn, strValues l, 0, valsStr l, Heap.get?_push_size _ rfl⟩), rfl, q _ (I.hok.fresh (Nat.le_refl _))⟩
  cases h1 : (decide (z.length < y.length) || decide (Builtin.Str.strKind z < Builtin.Str.strKind y))
  · cases hf : (Builtin.Str.occurrences z y 0 z.length (z.length + 1)).isEmpty
    · have e : Txt.split z y = Builtin.Str.partsBetween z (Builtin.Str.occurrences z y 0 z.length (z.length + 1)) y.length := (if_neg (ne_true_of_eq_false h1)).trans (if_neg (ne_true_of_eq_false hf))
      refine call_meets F.slot_str_split (typeIs_str _ _ _) F.entry_str_split (F.args_str_split_2 _ _) (meets_str_split_sep z y t u h1 hy hf hz (by rw [← e]; exact hn)) ?_
      rw [strsFrom_eq]
      exact fin (numbered s.toks _) _ (Nat.le_add_right _ _) ((numbered_texts _ _).trans e.symm)
    · exact call_meets F.slot_str_split (typeIs_str _ _ _) F.entry_str_split (F.args_str_split_2 _ _) (meets_str_split_not_found z y t u h1 hy hf)
        (fin [(z, t)] s.toks (Nat.le_refl _) ((if_neg (ne_true_of_eq_false h1)).trans (if_pos hf)).symm)
  · exact call_meets F.slot_str_split (typeIs_str _ _ _) F.entry_str_split (F.args_str_split_2 _ _) (meets_str_split_cannot_occur z y t u h1)
      (fin [(z, t)] s.toks (Nat.le_refl _) (if_pos h1).symm)
theorem call_int_num : CallR X (.type "int") (fun xs H Q => ∃ n : Int, xs = [.str (toString n)] ∧ 0 ≤ n ∧ n < 10 ^ 10 ∧ Q (.int n) H) := by
  intro pins s σ H xs us Q I r h
  obtain ⟨n, rfl, h0, h1, q⟩ := h
  obtain ⟨u, rfl, t, rfl⟩ := vals1 r
  exact PySem.W.KIN.call_num h0 h1 ⟨.int n, H, I.tok _, ⟨_, rfl⟩, q⟩
end
def Its (z : Str) : It := ⟨fun i _ => i < z.cps.size, fun i H x H' => H' = H ∧ ∃ c, z.cps[i]? = some c ∧ x = .str ⟨#[c]⟩, fun i _ => z.cps.size ≤ i⟩
theorem turn_str {P : Program} {w : World} {K : PySem.W.Frag} {tg : Expr} (it : Addr) (z : Str) (t : Tok) : Turn P w K tg (Its z) [it] it (fun i h => h.IsStrIter it "str_ascii_iterator" z t i) where
  mem := by simp
  obj := fun i h st b hb => by
    have e : b = it := by simpa using hb
    subst e
    obtain ⟨o, e, c, d⟩ := st
    exact ⟨o, e, fun v z => by rw [d] at z; cases z⟩
  keep := fun i h h' st k => by obtain ⟨o, e, r⟩ := st; exact ⟨o, k it (by simp) o e, r⟩
  item := by
    intro X hP hw hK hc i pins s σ H E I hf st hg
    subst hP hw hK
    obtain ⟨f0, f1, f2, f3, f4, f5⟩ := hf it (by simp)
    have hx : z.cps[i]? = some (z.cps[i]'hg) := Array.getElem?_eq_getElem hg
    refine wpAny_pyNext_ascii_item st hx fun h' st' sb => ?_
    have I1 : Inv X pins σ H { s with heap := h', toks := s.toks + 1 } := I.turned (t' := s.toks + 1) (fun b o hb e => (sb.2 b hb).trans e) f0 f1 f3 f4 f5
    obtain ⟨o, e, c, d⟩ := id st'
    exact ⟨_, rfl, go_of (s := { s with heap := h', toks := s.toks + 1 }) e c d (by decide) ⟨.str _, H, I1, ⟨_, rfl⟩, ⟨rfl, _, hx, rfl⟩, st', fun b hb => (hf b hb).1⟩⟩
  done := by
    intro X hP hw hK hc i pins s σ H E I hf st hg
    subst hP hw hK
    obtain ⟨f0, f1, f2, f3, f4, f5⟩ := hf it (by simp)
    exact wpAny_pyNext_ascii_end (I.ok.hd hc) st (Array.getElem?_eq_none hg) fun h' eb => ⟨rfl, I.turned (t' := s.toks) (fun b o hb e => eb b o hb e) f0 f1 f3 f4 f5⟩
  self := fun _ _ _ _ _ st h => wpAny_pyIter_striter_ascii st h
def iStr (tl : TE) : TI := fun σ H R => tl σ H fun x H1 => ∃ z, x = .str z ∧ z.cps.all (· < 128) = true ∧ R (Its z) H1
theorem pi_str {X : Cx} {tg : Expr} {l : Expr} {tl : TE} (hl : PE X l tl) : PI X tg l (iStr tl) := by
  intro pins s σ H R I h
  refine thn (hl pins s σ H _ I h) fun v s1 ⟨x, H1, I1, r1, q1⟩ => ?_
  obtain ⟨z, rfl, ha, q⟩ := q1
  obtain ⟨t, rfl⟩ := r1
  refine wpAny_pyIter_ascii ha ?_
  refine ⟨s1.heap.objs.size, [s1.heap.objs.size], _, _, H1, rfl, I1.kept (t' := s1.toks) fun b o e => Heap.get?_push_of_some _ e, turn_str _ z t, ⟨_, Heap.get?_push_size _ rfl, rfl, rfl⟩, fun b hb => ?_, q⟩
  have e : b = s1.heap.objs.size := by simpa using hb
  subst e
  exact I1.fpOk (Nat.le_refl _) (I1.hok.fresh (Nat.le_refl _))
theorem for_str {z : Str} {g : TG} {tb : TS} {D : Ends} {σ : St} {H : Hp} (Pv : Nat → St → Hp → Prop) (h0 : Pv 0 σ H)
    (hs : ∀ i c σ H, z.cps[i]? = some c → Pv i σ H → g (.str ⟨#[c]⟩) σ H fun σ2 H2 => tb { D with nx := Pv (i + 1), ct := Pv (i + 1), bk := D.nx } σ2 H2) (hd : ∀ σ H, Pv z.cps.size σ H → D.nx σ H) :
    ∃ W : Nat → Nat → St → Hp → Prop, (∃ m, W 0 m σ H) ∧ ∀ i m σ H, W i m σ H →
      ((Its z).stop i H ∧ D.nx σ H) ∨ ((Its z).go i H ∧ ∃ N : St → Hp → Prop, (∀ σ' H', N σ' H' → ∃ m', m' < m ∧ W (i + 1) m' σ' H') ∧ ∀ x H', (Its z).yld i H x H' → g x σ H' fun σ2 H2 => tb { D with nx := N, ct := N, bk := D.nx } σ2 H2) := by
  refine ⟨fun i m σ H => m = z.cps.size - i ∧ i ≤ z.cps.size ∧ Pv i σ H, ⟨_, rfl, Nat.zero_le _, h0⟩, ?_⟩
  rintro i m σ H ⟨rfl, hi, p⟩
  by_cases hlt : i < z.cps.size
  · refine .inr ⟨hlt, Pv (i + 1), fun σ' H' p' => ⟨z.cps.size - (i + 1), by omega, rfl, hlt, p'⟩, fun x H' y => ?_⟩
    obtain ⟨rfl, c, hc, rfl⟩ := y
    exact hs i c σ H' hc p
  · have e : i = z.cps.size := by omega
    subst e
    exact .inl ⟨Nat.le_refl _, hd σ H p⟩
end L2
namespace L2
open PySem PySem.Spec PyProof.Rows
theorem cut_uniq {c : Nat} : ∀ {l1 l2 r1 r2 : List Nat}, c ∉ l1 → c ∉ l2 → l1 ++ c :: r1 = l2 ++ c :: r2 → l1 = l2 ∧ r1 = r2
  | [], [], _, _, _, _, e => ⟨rfl, (List.cons.inj e).2⟩
  | [], b :: _, _, _, _, h2, e => absurd (List.mem_cons.mpr (.inl (List.cons.inj e).1)) h2
  | a :: _, [], _, _, h1, _, e => absurd (List.mem_cons.mpr (.inl (List.cons.inj e).1.symm)) h1
  | a :: l1, b :: l2, r1, r2, h1, h2, e => by
    have e1 := (List.cons.inj e).1
    have := cut_uniq (fun m => h1 (List.mem_cons_of_mem _ m)) (fun m => h2 (List.mem_cons_of_mem _ m)) (List.cons.inj e).2
    exact ⟨by rw [e1, this.1], this.2⟩
theorem Str.appL (x y : Str) : (x ++ y).cps.toList = x.cps.toList ++ y.cps.toList := by
  show (x.cps ++ y.cps).toList = _
  simp
theorem str_eq {x y : Str} (h : x.cps.toList = y.cps.toList) : x = y := Str.ext' (Array.toList_inj.mp h)
theorem join_inj {c : Nat} : ∀ {as bs : List Str}, as ≠ [] → bs ≠ [] → (∀ a ∈ as, c ∉ a.cps.toList) → (∀ b ∈ bs, c ∉ b.cps.toList) → Str.join ⟨#[c]⟩ as = Str.join ⟨#[c]⟩ bs → as = bs
  | [], _, h, _, _, _, _ => absurd rfl h
  | _, [], _, h, _, _, _ => absurd rfl h
  | [a], [b], _, _, _, _, e => by
    have e : a = b := e
    rw [e]
  | [a], b :: b' :: r, _, _, ha, _, e => by
    have e : a = b ++ ⟨#[c]⟩ ++ Str.join ⟨#[c]⟩ (b' :: r) := e
    refine absurd ?_ (ha a List.mem_cons_self)
    rw [e, Str.appL, Str.appL]
    simp
  | a :: a' :: r, [b], _, _, _, hb, e => by
    have e : a ++ ⟨#[c]⟩ ++ Str.join ⟨#[c]⟩ (a' :: r) = b := e
    refine absurd ?_ (hb b List.mem_cons_self)
    rw [← e, Str.appL, Str.appL]
    simp
  | a :: a' :: r, b :: b' :: r', _, _, ha, hb, e => by
    have e : a ++ ⟨#[c]⟩ ++ Str.join ⟨#[c]⟩ (a' :: r) = b ++ ⟨#[c]⟩ ++ Str.join ⟨#[c]⟩ (b' :: r') := e
    have e2 := congrArg (fun x : Str => x.cps.toList) e
    rw [Str.appL, Str.appL, Str.appL, Str.appL] at e2
    have e3 : a.cps.toList ++ c :: (Str.join ⟨#[c]⟩ (a' :: r)).cps.toList = b.cps.toList ++ c :: (Str.join ⟨#[c]⟩ (b' :: r')).cps.toList := by simpa using e2
    obtain ⟨h1, h2⟩ := cut_uniq (ha a List.mem_cons_self) (hb b List.mem_cons_self) e3
    rw [str_eq h1, join_inj (as := a' :: r) (bs := b' :: r') (by simp) (by simp) (fun x hx => ha x (List.mem_cons_of_mem _ hx)) (fun x hx => hb x (List.mem_cons_of_mem _ hx)) (str_eq h2)]
theorem split_ne (x y : Str) : Txt.split x y ≠ [] := by
  unfold Txt.split
  split
  · simp
  · split
    · simp
    · rw [StrLaws.partsBetween_eq]
      cases Builtin.Str.occurrences x y 0 x.length (x.length + 1) <;> simp [StrLaws.partsFrom]
theorem split_join {c : Nat} {ys : List Str} (hne : ys ≠ []) (hf : ∀ y ∈ ys, c ∉ y.cps.toList) : Txt.split (Str.join ⟨#[c]⟩ ys) ⟨#[c]⟩ = ys :=
  join_inj (split_ne _ _) hne (StrLaws.split_free _ c) hf (StrLaws.join_split _ _)
end L2
namespace L2
open PySem PySem.Spec PyProof.Rows
def SqB (b : Bool) (K : PySem.W.Frag) (H : Hp) (a : Addr) (xs : List V) : Prop := match b with | true => SqL K H a xs | false => SqT K H a xs
def ItB (b : Bool) (K : PySem.W.Frag) (a : Addr) : It := match b with | true => Itl K a | false => Itt K a
theorem ItB.go {b : Bool} {K : PySem.W.Frag} {H : Hp} {a : Addr} {xs : List V} {i : Nat} {x : V} (h : SqB b K H a xs) (e : xs[i]? = some x) : (ItB b K a).go i H := by
  cases b <;> exact ⟨xs, x, h, e⟩
theorem ItB.yld {b : Bool} {K : PySem.W.Frag} {H H' : Hp} {a : Addr} {xs : List V} {i : Nat} {x : V} (y : (ItB b K a).yld i H x H') (h : SqB b K H a xs) : H' = H ∧ xs[i]? = some x := by
  cases b <;> exact ⟨y.1, y.2 xs h⟩
theorem ItB.stop {b : Bool} {K : PySem.W.Frag} {H : Hp} {a : Addr} {xs : List V} {i : Nat} (h : SqB b K H a xs) (e : xs.length ≤ i) : (ItB b K a).stop i H := by
  cases b <;> exact ⟨xs, h, e⟩
def iSeq (K : PySem.W.Frag) (tl : TE) : TI := fun σ H R => tl σ H fun x H1 => ∃ a b, x = .ref a ∧ (∃ xs, SqB b K H1 a xs) ∧ R (ItB b K a) H1
theorem pi_seq {X : Cx} {tg : Expr} {l : Expr} {tl : TE} (hl : PE X l tl) : PI X tg l (iSeq X.K tl) := by
  intro pins s σ H R I h
  refine thn (hl pins s σ H _ I h) fun v s1 ⟨x, H1, I1, r1, q1⟩ => ?_
  obtain ⟨a, b, e, ⟨xs, hq⟩, q⟩ := q1
  subst e
  cases r1
  cases b with
  | true =>
    obtain ⟨its, rv, p, hz⟩ := I1.list hq
    refine wpAny_pyIter_list p.isList ?_
    refine ⟨s1.heap.objs.size, [s1.heap.objs.size], _, _, H1, rfl, I1.kept (t' := s1.toks) fun b o e => Heap.get?_push_of_some _ e, turn_list a _, ⟨_, Heap.get?_push_size _ rfl, rfl, rfl⟩, fun b hb => ?_, q⟩
    have e : b = s1.heap.objs.size := by simpa using hb
    subst e
    exact I1.fpOk (Nat.le_refl _) (I1.hok.fresh (Nat.le_refl _))
  | false =>
    obtain ⟨its, rv, p, hz⟩ := I1.tuple hq
    refine wpAny_pyIter_tuple (show s1.heap.IsTuple a its.toArray from p) ?_
    refine ⟨s1.heap.objs.size, [s1.heap.objs.size], _, _, H1, rfl, I1.kept (t' := s1.toks) fun b o e => Heap.get?_push_of_some _ e, turn_tuple a _, ⟨_, Heap.get?_push_size _ rfl, rfl, rfl⟩, fun b hb => ?_, q⟩
    have e : b = s1.heap.objs.size := by simpa using hb
    subst e
    exact I1.fpOk (Nat.le_refl _) (I1.hok.fresh (Nat.le_refl _))
end L2
namespace L2
open PySem PySem.Spec PyProof.Rows
def nT (n : Int) : Str := Str.ofString (toString n)
theorem nT_signs (m : Nat) : (nT (m : Int)).cps.toList = (Nat.toDigits 10 m).map Char.toNat := PySem.W.KIN.signs_num m
theorem nT_digits (m : Nat) : ∀ c ∈ (nT (m : Int)).cps.toList, 48 ≤ c ∧ c ≤ 57 := fun c hc => by
  rw [nT_signs] at hc
  obtain ⟨ch, hch, e⟩ := List.mem_map.mp hc
  have r := digit_range (Nat.isDigit_of_mem_toDigits (by decide) (by decide) hch)
  rw [← e]
  exact r
theorem dig_ne (m : Nat) : Nat.toDigits 10 m ≠ [] := fun e => by
  have h := toDigits_len_ge 10 m
  rw [e] at h
  exact absurd h (by decide)
theorem nT_ne (m : Nat) : (nT (m : Int)).cps.toList ≠ [] := fun e => by
  rw [nT_signs] at e
  exact dig_ne m (List.map_eq_nil_iff.mp e)
theorem dig_head (m : Nat) : (Nat.toDigits 10 m).head?.map Char.toNat = some 48 → m = 0 := by
  induction m using Nat.strongRecOn with
  | _ m ih =>
    intro e
    by_cases h : m < 10
    · rw [Nat.toDigits_of_lt_base h] at e
      have : ∀ d : Nat, d < 10 → ([Nat.digitChar d].head?.map Char.toNat = some 48) → d = 0 := by decide
      exact this m h e
    · have hm : m % 10 < 10 := Nat.mod_lt m (by decide)
      have t : Nat.toDigits 10 (m / 10) ++ Nat.toDigits 10 (m % 10) = Nat.toDigits 10 (10 * (m / 10) + m % 10) := Nat.toDigits_append_toDigits (by decide) (by omega) hm
      rw [Nat.div_add_mod] at t
      rw [← t, List.head?_append, show ∀ (a b : Option Char), a.isSome = true → a.or b = a from fun a b h => by cases a <;> first | rfl | cases h] at e
      rotate_left
      · rw [List.isSome_head?]; exact dig_ne _
      have := ih (m / 10) (by omega) e
      omega
theorem nT_head {m : Nat} {c : Nat} (h : (nT (m : Int)).cps.toList[0]? = some c) (hc : c = 48) : m = 0 := by
  subst hc
  rw [nT_signs, ← List.head?_eq_getElem?, List.head?_map] at h
  exact dig_head m h
theorem nT_len {n : Int} (h0 : 0 ≤ n) (h1 : n < 10 ^ 10) : (nT n).length ≤ 10 := PySem.W.KT.len_num h0 h1
end L2


set_option Elab.async false
set_option linter.all false
set_option maxRecDepth 100000
set_option maxHeartbeats 4000000
namespace P
open PySem L2

def top (i : Nat) : Stmt := PySem.Challenge.pw_lazyrails_k53_programs_written_and_read.main.body.getD i (.Pass ⟨0, 0, 0, 0⟩)
abbrev s_law : Stmt := top 48
abbrev s_draws : Stmt := top 37
abbrev s_program : Stmt := top 44
abbrev s_parts : Stmt := top 43
abbrev s_row : Stmt := top 42
abbrev s_program_text : Stmt := top 46
abbrev s_write_program : Stmt := top 33
abbrev s_write_line : Stmt := top 17
abbrev s_read_program : Stmt := top 34
abbrev s_read_line : Stmt := top 16
abbrev s_read_number : Stmt := top 15
abbrev s_is_plain : Stmt := top 14
abbrev s_row_of : Stmt := top 35
abbrev s_copied : Stmt := top 45
abbrev s_told : Stmt := top 47
abbrev s_is : Stmt := top 39
abbrev s_whole : Stmt := top 38
abbrev s_is_row : Stmt := top 41
abbrev s_check_side : Stmt := top 20
abbrev s_check_width : Stmt := top 28
abbrev s_check_note : Stmt := top 21
abbrev s_check_mark : Stmt := top 26
abbrev s_check_counter : Stmt := top 27
abbrev s_check_row : Stmt := top 30
abbrev s_check_stretch : Stmt := top 29
abbrev s_Program_init : Stmt := inClass (top 31) 0
abbrev s_Program_check_beginning : Stmt := inClass (top 31) 6
abbrev s_Program_many : Stmt := inClass (top 31) 3
abbrev s_Program_check_rows : Stmt := inClass (top 31) 7
abbrev s_Program_check_part : Stmt := inClass (top 31) 8
abbrev s_Program_check_called : Stmt := inClass (top 31) 9
abbrev s_Program_rows : Stmt := inClass (top 31) 4
abbrev s_Program_marks : Stmt := inClass (top 31) 1
abbrev s_Program_widths : Stmt := inClass (top 31) 2
structure Adr where
  f_law : Addr
  d_law : FuncData
  v_law : Value
  f_draws : Addr
  d_draws : FuncData
  v_draws : Value
  f_program : Addr
  d_program : FuncData
  v_program : Value
  f_parts : Addr
  d_parts : FuncData
  v_parts : Value
  f_row : Addr
  d_row : FuncData
  v_row : Value
  f_program_text : Addr
  d_program_text : FuncData
  v_program_text : Value
  f_write_program : Addr
  d_write_program : FuncData
  v_write_program : Value
  f_write_line : Addr
  d_write_line : FuncData
  v_write_line : Value
  f_read_program : Addr
  d_read_program : FuncData
  v_read_program : Value
  f_read_line : Addr
  d_read_line : FuncData
  v_read_line : Value
  f_read_number : Addr
  d_read_number : FuncData
  v_read_number : Value
  f_is_plain : Addr
  d_is_plain : FuncData
  v_is_plain : Value
  f_row_of : Addr
  d_row_of : FuncData
  v_row_of : Value
  f_copied : Addr
  d_copied : FuncData
  v_copied : Value
  f_told : Addr
  d_told : FuncData
  v_told : Value
  f_is : Addr
  d_is : FuncData
  v_is : Value
  f_whole : Addr
  d_whole : FuncData
  v_whole : Value
  f_is_row : Addr
  d_is_row : FuncData
  v_is_row : Value
  f_check_side : Addr
  d_check_side : FuncData
  v_check_side : Value
  f_check_width : Addr
  d_check_width : FuncData
  v_check_width : Value
  f_check_note : Addr
  d_check_note : FuncData
  v_check_note : Value
  f_check_mark : Addr
  d_check_mark : FuncData
  v_check_mark : Value
  f_check_counter : Addr
  d_check_counter : FuncData
  v_check_counter : Value
  f_check_row : Addr
  d_check_row : FuncData
  v_check_row : Value
  f_check_stretch : Addr
  d_check_stretch : FuncData
  v_check_stretch : Value
  f_Program_init : Addr
  d_Program_init : FuncData
  v_Program_init : Value
  f_Program_check_beginning : Addr
  d_Program_check_beginning : FuncData
  v_Program_check_beginning : Value
  f_Program_many : Addr
  d_Program_many : FuncData
  v_Program_many : Value
  f_Program_check_rows : Addr
  d_Program_check_rows : FuncData
  v_Program_check_rows : Value
  f_Program_check_part : Addr
  d_Program_check_part : FuncData
  v_Program_check_part : Value
  f_Program_check_called : Addr
  d_Program_check_called : FuncData
  v_Program_check_called : Value
  f_Program_rows : Addr
  d_Program_rows : FuncData
  v_Program_rows : Value
  f_Program_marks : Addr
  d_Program_marks : FuncData
  v_Program_marks : Value
  f_Program_widths : Addr
  d_Program_widths : FuncData
  v_Program_widths : Value
  c_Program : Addr
  u_FIGURES : Value
  u_LAST_NOTE : Value
  u_LAST_WORDS : Value
  u_PARTS : Value
  u_WIDEST : Value
structure Txt (K : PySem.W.Frag) (mg : Str → Option Value) (t : Adr) : Prop where
  F_law : FunG K "law" "law" s_law t.v_law t.f_law t.d_law
  F_draws : FunG K "_law_draws" "_law_draws" s_draws t.v_draws t.f_draws t.d_draws
  F_program : FunG K "_law_program" "_law_program" s_program t.v_program t.f_program t.d_program
  F_parts : FunG K "_law_parts" "_law_parts" s_parts t.v_parts t.f_parts t.d_parts
  F_row : FunG K "_law_row" "_law_row" s_row t.v_row t.f_row t.d_row
  F_program_text : FunG K "_law_program_text" "_law_program_text" s_program_text t.v_program_text t.f_program_text t.d_program_text
  F_write_program : FunG K "write_program" "write_program" s_write_program t.v_write_program t.f_write_program t.d_write_program
  F_write_line : FunG K "write_line" "write_line" s_write_line t.v_write_line t.f_write_line t.d_write_line
  F_read_program : FunG K "read_program" "read_program" s_read_program t.v_read_program t.f_read_program t.d_read_program
  F_read_line : FunG K "read_line" "read_line" s_read_line t.v_read_line t.f_read_line t.d_read_line
  F_read_number : FunG K "read_number" "read_number" s_read_number t.v_read_number t.f_read_number t.d_read_number
  F_is_plain : FunG K "is_plain" "is_plain" s_is_plain t.v_is_plain t.f_is_plain t.d_is_plain
  F_row_of : FunG K "row_of" "row_of" s_row_of t.v_row_of t.f_row_of t.d_row_of
  F_copied : FunG K "_law_copied" "_law_copied" s_copied t.v_copied t.f_copied t.d_copied
  F_told : FunG K "_law_told" "_law_told" s_told t.v_told t.f_told t.d_told
  F_is : FunG K "_law_is" "_law_is" s_is t.v_is t.f_is t.d_is
  F_whole : FunG K "_law_whole" "_law_whole" s_whole t.v_whole t.f_whole t.d_whole
  F_is_row : FunG K "_law_is_row" "_law_is_row" s_is_row t.v_is_row t.f_is_row t.d_is_row
  F_check_side : FunG K "check_side" "check_side" s_check_side t.v_check_side t.f_check_side t.d_check_side
  F_check_width : FunG K "check_width" "check_width" s_check_width t.v_check_width t.f_check_width t.d_check_width
  F_check_note : FunG K "check_note" "check_note" s_check_note t.v_check_note t.f_check_note t.d_check_note
  F_check_mark : FunG K "check_mark" "check_mark" s_check_mark t.v_check_mark t.f_check_mark t.d_check_mark
  F_check_counter : FunG K "check_counter" "check_counter" s_check_counter t.v_check_counter t.f_check_counter t.d_check_counter
  F_check_row : FunG K "check_row" "check_row" s_check_row t.v_check_row t.f_check_row t.d_check_row
  F_check_stretch : FunG K "check_stretch" "check_stretch" s_check_stretch t.v_check_stretch t.f_check_stretch t.d_check_stretch
  F_Program_init : FunG K "__init__" "Program.__init__" s_Program_init t.v_Program_init t.f_Program_init t.d_Program_init
  F_Program_check_beginning : FunG K "check_beginning" "Program.check_beginning" s_Program_check_beginning t.v_Program_check_beginning t.f_Program_check_beginning t.d_Program_check_beginning
  F_Program_many : FunG K "many" "Program.many" s_Program_many t.v_Program_many t.f_Program_many t.d_Program_many
  F_Program_check_rows : FunG K "check_rows" "Program.check_rows" s_Program_check_rows t.v_Program_check_rows t.f_Program_check_rows t.d_Program_check_rows
  F_Program_check_part : FunG K "check_part" "Program.check_part" s_Program_check_part t.v_Program_check_part t.f_Program_check_part t.d_Program_check_part
  F_Program_check_called : FunG K "check_called" "Program.check_called" s_Program_check_called t.v_Program_check_called t.f_Program_check_called t.d_Program_check_called
  F_Program_rows : FunG K "rows" "Program.rows" s_Program_rows t.v_Program_rows t.f_Program_rows t.d_Program_rows
  F_Program_marks : FunG K "marks" "Program.marks" s_Program_marks t.v_Program_marks t.f_Program_marks t.d_Program_marks
  F_Program_widths : FunG K "widths" "Program.widths" s_Program_widths t.v_Program_widths t.f_Program_widths t.d_Program_widths
  m_law : mg "law" = some (.ref t.f_law)
  e_law : t.v_law = .none
  m_draws : mg "_law_draws" = some (.ref t.f_draws)
  e_draws : t.v_draws = .none
  m_program : mg "_law_program" = some (.ref t.f_program)
  e_program : t.v_program = .none
  m_parts : mg "_law_parts" = some (.ref t.f_parts)
  e_parts : t.v_parts = .none
  m_row : mg "_law_row" = some (.ref t.f_row)
  e_row : t.v_row = .none
  m_program_text : mg "_law_program_text" = some (.ref t.f_program_text)
  e_program_text : t.v_program_text = .none
  m_write_program : mg "write_program" = some (.ref t.f_write_program)
  e_write_program : t.v_write_program = .none
  m_write_line : mg "write_line" = some (.ref t.f_write_line)
  e_write_line : t.v_write_line = .none
  m_read_program : mg "read_program" = some (.ref t.f_read_program)
  e_read_program : t.v_read_program = .none
  m_read_line : mg "read_line" = some (.ref t.f_read_line)
  e_read_line : t.v_read_line = .none
  m_read_number : mg "read_number" = some (.ref t.f_read_number)
  e_read_number : t.v_read_number = .none
  m_is_plain : mg "is_plain" = some (.ref t.f_is_plain)
  e_is_plain : t.v_is_plain = .none
  m_row_of : mg "row_of" = some (.ref t.f_row_of)
  e_row_of : t.v_row_of = .none
  m_copied : mg "_law_copied" = some (.ref t.f_copied)
  e_copied : t.v_copied = .none
  m_told : mg "_law_told" = some (.ref t.f_told)
  e_told : t.v_told = .none
  m_is : mg "_law_is" = some (.ref t.f_is)
  e_is : t.v_is = .none
  m_whole : mg "_law_whole" = some (.ref t.f_whole)
  e_whole : t.v_whole = .none
  m_is_row : mg "_law_is_row" = some (.ref t.f_is_row)
  e_is_row : t.v_is_row = .none
  m_check_side : mg "check_side" = some (.ref t.f_check_side)
  e_check_side : t.v_check_side = .none
  m_check_width : mg "check_width" = some (.ref t.f_check_width)
  e_check_width : t.v_check_width = .none
  m_check_note : mg "check_note" = some (.ref t.f_check_note)
  e_check_note : t.v_check_note = .none
  m_check_mark : mg "check_mark" = some (.ref t.f_check_mark)
  e_check_mark : t.v_check_mark = .none
  m_check_counter : mg "check_counter" = some (.ref t.f_check_counter)
  e_check_counter : t.v_check_counter = .none
  m_check_row : mg "check_row" = some (.ref t.f_check_row)
  e_check_row : t.v_check_row = .none
  m_check_stretch : mg "check_stretch" = some (.ref t.f_check_stretch)
  e_check_stretch : t.v_check_stretch = .none
  e_Program_init : t.v_Program_init = .none
  M_Program_check_beginning : Meth K t.c_Program "check_beginning" t.f_Program_check_beginning
  e_Program_check_beginning : t.v_Program_check_beginning = .none
  M_Program_many : Meth K t.c_Program "many" t.f_Program_many
  e_Program_many : t.v_Program_many = .none
  M_Program_check_rows : Meth K t.c_Program "check_rows" t.f_Program_check_rows
  e_Program_check_rows : t.v_Program_check_rows = .none
  M_Program_check_part : Meth K t.c_Program "check_part" t.f_Program_check_part
  e_Program_check_part : t.v_Program_check_part = .none
  M_Program_check_called : Meth K t.c_Program "check_called" t.f_Program_check_called
  e_Program_check_called : t.v_Program_check_called = .none
  M_Program_rows : Meth K t.c_Program "rows" t.f_Program_rows
  e_Program_rows : t.v_Program_rows = .none
  M_Program_marks : Meth K t.c_Program "marks" t.f_Program_marks
  e_Program_marks : t.v_Program_marks = .none
  M_Program_widths : Meth K t.c_Program "widths" t.f_Program_widths
  e_Program_widths : t.v_Program_widths = .none
  cl_Program : Cls K t.c_Program
  m_Program : mg "Program" = some (.ref t.c_Program)
  mk_Program : Mk K t.c_Program t.f_Program_init
  n_Program_mark_sides : NoAttr K t.c_Program "mark_sides"
  n_Program_counter_widths : NoAttr K t.c_Program "counter_widths"
  n_Program_stretches : NoAttr K t.c_Program "stretches"
  z_abs : mg "abs" = none
  z_all : mg "all" = none
  z_bool : mg "bool" = none
  z_enumerate : mg "enumerate" = none
  z_int : mg "int" = none
  z_isinstance : mg "isinstance" = none
  z_len : mg "len" = none
  z_list : mg "list" = none
  z_range : mg "range" = none
  z_str : mg "str" = none
  z_tuple : mg "tuple" = none
  z_zip : mg "zip" = none
  g_FIGURES : mg "FIGURES" = some t.u_FIGURES
  r_FIGURES : RelV (.str "0123456789") t.u_FIGURES
  g_LAST_NOTE : mg "LAST_NOTE" = some t.u_LAST_NOTE
  r_LAST_NOTE : RelV (.int 9999) t.u_LAST_NOTE
  g_LAST_WORDS : mg "LAST_WORDS" = some t.u_LAST_WORDS
  x_LAST_WORDS : ∃ (a : Addr) (o : Obj) (its : Array Value) (n : Nat), t.u_LAST_WORDS = .ref a ∧ K.lookup a = some o ∧ o.cls = .type "tuple" ∧ o.data = .seq its n ∧ its.size ≤ sizeLine ∧ Vals [.str "ask", .str "go", .str "end"] its.toList
  g_PARTS : mg "PARTS" = some t.u_PARTS
  x_PARTS : ∃ a, t.u_PARTS = .ref a ∧ TabT K a [("bell", ["note"]), ("set", ["mark", "side"]), ("ask", ["mark", "row", "row"]), ("bump", ["counter", "row"]), ("go", ["row"]), ("call", ["stretch"]), ("end", [])]
  g_WIDEST : mg "WIDEST" = some t.u_WIDEST
  r_WIDEST : RelV (.int 8) t.u_WIDEST
section
variable {K : PySem.W.Frag} {mg : Str → Option Value} {t : Adr}
theorem b_draws (T : Txt K mg t) : Binds K t.d_draws ["_law_script", "_law_many"] [] := (T.e_draws ▸ T.F_draws).binds fun _ _ _ _ _ _ us hl => match us, hl with | [_, _], _ => rfl
theorem b_program (T : Txt K mg t) : Binds K t.d_program ["_law_d"] [] := (T.e_program ▸ T.F_program).binds fun _ _ _ _ _ _ us hl => match us, hl with | [_], _ => rfl
theorem b_parts (T : Txt K mg t) : Binds K t.d_parts ["_law_d", "_law_at", "_law_marks", "_law_counters"] [] := (T.e_parts ▸ T.F_parts).binds fun _ _ _ _ _ _ us hl => match us, hl with | [_, _, _, _], _ => rfl
theorem b_row (T : Txt K mg t) : Binds K t.d_row ["_law_d", "_law_k", "_law_more", "_law_many", "_law_marks", "_law_counters", "_law_later"] [] := (T.e_row ▸ T.F_row).binds fun _ _ _ _ _ _ us hl => match us, hl with | [_, _, _, _, _, _, _], _ => rfl
theorem b_program_text (T : Txt K mg t) : Binds K t.d_program_text ["_law_marks", "_law_widths", "_law_parts_here"] [] := (T.e_program_text ▸ T.F_program_text).binds fun _ _ _ _ _ _ us hl => match us, hl with | [_, _, _], _ => rfl
theorem b_write_program (T : Txt K mg t) : Binds K t.d_write_program ["program"] [] := (T.e_write_program ▸ T.F_write_program).binds fun _ _ _ _ _ _ us hl => match us, hl with | [_], _ => rfl
theorem b_write_line (T : Txt K mg t) : Binds K t.d_write_line ["word", "numbers"] [] := (T.e_write_line ▸ T.F_write_line).binds fun _ _ _ _ _ _ us hl => match us, hl with | [_, _], _ => rfl
theorem b_read_program (T : Txt K mg t) : Binds K t.d_read_program ["text"] [] := (T.e_read_program ▸ T.F_read_program).binds fun _ _ _ _ _ _ us hl => match us, hl with | [_], _ => rfl
theorem b_read_line (T : Txt K mg t) : Binds K t.d_read_line ["line"] [] := (T.e_read_line ▸ T.F_read_line).binds fun _ _ _ _ _ _ us hl => match us, hl with | [_], _ => rfl
theorem b_read_number (T : Txt K mg t) : Binds K t.d_read_number ["word"] [] := (T.e_read_number ▸ T.F_read_number).binds fun _ _ _ _ _ _ us hl => match us, hl with | [_], _ => rfl
theorem b_is_plain (T : Txt K mg t) : Binds K t.d_is_plain ["word"] [] := (T.e_is_plain ▸ T.F_is_plain).binds fun _ _ _ _ _ _ us hl => match us, hl with | [_], _ => rfl
theorem b_row_of (T : Txt K mg t) : Binds K t.d_row_of ["word", "numbers"] [] := (T.e_row_of ▸ T.F_row_of).binds fun _ _ _ _ _ _ us hl => match us, hl with | [_, _], _ => rfl
theorem b_copied (T : Txt K mg t) : Binds K t.d_copied ["_law_parts_here"] [] := (T.e_copied ▸ T.F_copied).binds fun _ _ _ _ _ _ us hl => match us, hl with | [_], _ => rfl
theorem b_told (T : Txt K mg t) : Binds K t.d_told ["_law_program_here", "_law_marks", "_law_widths", "_law_parts_here"] [] := (T.e_told ▸ T.F_told).binds fun _ _ _ _ _ _ us hl => match us, hl with | [_, _, _, _], _ => rfl
theorem b_is (T : Txt K mg t) : Binds K t.d_is ["_law_found", "_law_due"] [] := (T.e_is ▸ T.F_is).binds fun _ _ _ _ _ _ us hl => match us, hl with | [_, _], _ => rfl
theorem b_whole (T : Txt K mg t) : Binds K t.d_whole ["_law_found"] [] := (T.e_whole ▸ T.F_whole).binds fun _ _ _ _ _ _ us hl => match us, hl with | [_], _ => rfl
theorem b_is_row (T : Txt K mg t) : Binds K t.d_is_row ["_law_found", "_law_due"] [] := (T.e_is_row ▸ T.F_is_row).binds fun _ _ _ _ _ _ us hl => match us, hl with | [_, _], _ => rfl
theorem b_check_side (T : Txt K mg t) : Binds K t.d_check_side ["side"] [] := (T.e_check_side ▸ T.F_check_side).binds fun _ _ _ _ _ _ us hl => match us, hl with | [_], _ => rfl
theorem b_check_width (T : Txt K mg t) : Binds K t.d_check_width ["width"] [] := (T.e_check_width ▸ T.F_check_width).binds fun _ _ _ _ _ _ us hl => match us, hl with | [_], _ => rfl
theorem b_check_note (T : Txt K mg t) : Binds K t.d_check_note ["note"] [] := (T.e_check_note ▸ T.F_check_note).binds fun _ _ _ _ _ _ us hl => match us, hl with | [_], _ => rfl
theorem b_check_mark (T : Txt K mg t) : Binds K t.d_check_mark ["mark", "many"] [] := (T.e_check_mark ▸ T.F_check_mark).binds fun _ _ _ _ _ _ us hl => match us, hl with | [_, _], _ => rfl
theorem b_check_counter (T : Txt K mg t) : Binds K t.d_check_counter ["counter", "many"] [] := (T.e_check_counter ▸ T.F_check_counter).binds fun _ _ _ _ _ _ us hl => match us, hl with | [_, _], _ => rfl
theorem b_check_row (T : Txt K mg t) : Binds K t.d_check_row ["row", "many"] [] := (T.e_check_row ▸ T.F_check_row).binds fun _ _ _ _ _ _ us hl => match us, hl with | [_, _], _ => rfl
theorem b_check_stretch (T : Txt K mg t) : Binds K t.d_check_stretch ["stretch", "many"] [] := (T.e_check_stretch ▸ T.F_check_stretch).binds fun _ _ _ _ _ _ us hl => match us, hl with | [_, _], _ => rfl
theorem b_Program_init (T : Txt K mg t) : Binds K t.d_Program_init ["self", "marks", "widths", "stretches"] [] := (T.e_Program_init ▸ T.F_Program_init).binds fun _ _ _ _ _ _ us hl => match us, hl with | [_, _, _, _], _ => rfl
theorem b_Program_check_beginning (T : Txt K mg t) : Binds K t.d_Program_check_beginning ["self"] [] := (T.e_Program_check_beginning ▸ T.F_Program_check_beginning).binds fun _ _ _ _ _ _ us hl => match us, hl with | [_], _ => rfl
theorem b_Program_many (T : Txt K mg t) : Binds K t.d_Program_many ["self"] [] := (T.e_Program_many ▸ T.F_Program_many).binds fun _ _ _ _ _ _ us hl => match us, hl with | [_], _ => rfl
theorem b_Program_check_rows (T : Txt K mg t) : Binds K t.d_Program_check_rows ["self", "stretch"] [] := (T.e_Program_check_rows ▸ T.F_Program_check_rows).binds fun _ _ _ _ _ _ us hl => match us, hl with | [_, _], _ => rfl
theorem b_Program_check_part (T : Txt K mg t) : Binds K t.d_Program_check_part ["self", "part", "number", "stretch"] [] := (T.e_Program_check_part ▸ T.F_Program_check_part).binds fun _ _ _ _ _ _ us hl => match us, hl with | [_, _, _, _], _ => rfl
theorem b_Program_check_called (T : Txt K mg t) : Binds K t.d_Program_check_called ["self", "called", "stretch"] [] := (T.e_Program_check_called ▸ T.F_Program_check_called).binds fun _ _ _ _ _ _ us hl => match us, hl with | [_, _, _], _ => rfl
theorem b_Program_rows (T : Txt K mg t) : Binds K t.d_Program_rows ["self", "stretch"] [] := (T.e_Program_rows ▸ T.F_Program_rows).binds fun _ _ _ _ _ _ us hl => match us, hl with | [_, _], _ => rfl
theorem b_Program_marks (T : Txt K mg t) : Binds K t.d_Program_marks ["self"] [] := (T.e_Program_marks ▸ T.F_Program_marks).binds fun _ _ _ _ _ _ us hl => match us, hl with | [_], _ => rfl
theorem b_Program_widths (T : Txt K mg t) : Binds K t.d_Program_widths ["self"] [] := (T.e_Program_widths ▸ T.F_Program_widths).binds fun _ _ _ _ _ _ us hl => match us, hl with | [_], _ => rfl
end
def Dr (ds : List Int) : Prop := ∀ d ∈ ds, 0 ≤ d ∧ d < 10 ^ 18
def sp_draws (K : PySem.W.Frag) : Sp := fun vs H Q _ => ∃ (a : Addr) (ns : List Int) (n : Int) (L : Kn), vs = [.ref a, .int n] ∧ SqL K H a (ns.map V.int) ∧ ns.length ≤ 63 ∧ 0 ≤ n ∧ n ≤ 1000 ∧ Has H L ∧
  ∀ H' p ds, Has H' ((p, .lst (ds.map V.int)) :: L) → ds.length = n.toNat → Dr ds → Q (.ref p) H'
section
variable {P : Program} {w : World} {K : PySem.W.Frag} {mg : Str → Option Value} {base : Heap} {t : Adr}
theorem scD : FnScope ["_law_script", "_law_many", "_law_row_here", "_law_base", "_law_cell", "_law_left", "_law_turn"] ["_law_script", "_law_many"] (defScope s_draws) := ⟨rfl, rfl, rfl, by decide +kernel, rfl, by decide +kernel, by decide +kernel⟩
theorem Dr.snoc {ds : List Int} {d : Int} (h : Dr ds) (h0 : 0 ≤ d) (h1 : d < 10 ^ 18) : Dr (ds ++ [d]) := fun x hx => by
  rcases List.mem_append.mp hx with hx | hx
  · exact h x hx
  · have : x = d := by simpa using hx
    subst this; exact ⟨h0, h1⟩
theorem map_snoc (ds : List Int) (d : Int) : ds.map V.int ++ [V.int d] = (ds ++ [d]).map V.int := by simp
theorem ok_draws (T : Txt K mg t) : FnOk P w K mg base CX0 1 t.f_draws t.d_draws ["_law_script", "_law_many"] (sp_draws K) := by
  refine T.F_draws.ok scD (fun vs H Q E h => ?_) (fun cdv A outer s H vs Q E hr h => ?_)
  · obtain ⟨_, _, _, _, rfl, _⟩ := h
    rfl
  · obtain ⟨a, ns, n, L, rfl, hS, hns, hn0, hn1, hL, k⟩ := h
    refine ⟨_, (pss_cons (ps_set (i := 2) scD.nd rfl (Or.inl rfl) (pe_lst pa_nil))
      (pss_cons (ps_set (i := 3) scD.nd rfl (Or.inl rfl) pe_int)
      (pss_cons (ps_for PassesOwn.never rfl (pi_list (pe_slice sl_list (pv 0) po_none (po_some pe_int))) (pg_name (i := 4) scD.nd rfl (Or.inl rfl))
        (pss_cons (ps_set (i := 5) scD.nd rfl (Or.inl rfl) (pe_callB call_abs (by rfl) T.z_abs (by rfl) (pa_cons (pv 4) pa_nil)))
          (pss_cons (ps_set (i := 3) scD.nd rfl (Or.inl rfl) (pe_op op_mod (pe_op op_add (pe_op op_add (pe_op op_mul (pv 3) pe_int) (pv 5)) (pe_op op_mul pe_int (pe_callTy call_int1 (by rfl) T.z_int (by rfl) (pa_cons (pe_cmpR op_lt (pv 4) pe_int (nomark _)) pa_nil)))) pe_int))
          (pss_one (ps_if (pt_cmpR op_lt (pv 5) (pe_op op_pow pe_int pe_int) (nomark _))
            (pss_one (ps_expr (pe_bm PySem.F.plainAttrs_list PySem.F.slot_list_append PySem.F.type_list_append mt_append (pv 2) (pa_cons (pv 5) pa_nil))))
            (pss_one (ps_for PassesOwn.never rfl (pi_range1 (by rfl) T.z_range (pa_cons pe_int pa_nil)) (pg_name (i := 6) scD.nd rfl (Or.inl rfl))
                (pss_one (ps_if (pt_cmpR op_gt (pv 5) pe_int (nomark _))
                    (pss_cons (ps_expr (pe_bm PySem.F.plainAttrs_list PySem.F.slot_list_append PySem.F.type_list_append mt_append (pv 2) (pa_cons (pe_op op_mod (pv 5) pe_int) pa_nil)))
                      (pss_one (ps_set (i := 5) scD.nd rfl (Or.inl rfl) (pe_op op_fdiv (pv 5) pe_int))))
                    pss_nil)))))))))
      (pss_cons (ps_while PassesOwn.never (pt_cmpR op_lt (pe_callB call_len_seq (by rfl) T.z_len (by rfl) (pa_cons (pv 2) pa_nil)) (pv 1) (nomark _))
        (pss_cons (ps_set (i := 3) scD.nd rfl (Or.inl rfl) (pe_op op_mod (pe_op op_add (pe_op op_mul (pv 3) pe_int) pe_int) pe_int))
          (pss_one (ps_expr (pe_bm PySem.F.plainAttrs_list PySem.F.slot_list_append PySem.F.type_list_append mt_append (pv 2) (pa_cons (pe_op op_mod (pe_op op_fdiv (pe_op op_mul (pv 3) (pv 3)) pe_int) pe_int) pa_nil))))))
      (pss_one (ps_ret (pe_slice sl_list (pv 2) po_none (po_some (pv 1))))))))), ?_⟩
    refine ⟨by decide, fun r hr0 => ?_⟩
    have h1 := hL.alloc hr0 (.lst [])
    have hS1 : SqL K (upd H r (.lst [])) a (ns.map V.int) := hS.alloc hr0
    generalize upd H r (.lst []) = H1 at *
    refine ⟨_, rfl, _, rfl, a, _, rfl, hS1, fun sl hsl => ?_⟩
    have h2 := h1.alloc hsl (.lst (cutV (ns.map V.int) none (some 63)))
    generalize upd H1 sl (.lst (cutV (ns.map V.int) none (some 63))) = H2 at *
    refine ⟨sl, rfl, ⟨_, SqL.of (h2.get 0 rfl)⟩, ?_⟩
    refine for_list (K := K) (a := sl) (xs := cutV (ns.map V.int) none (some 63)) (fun i σ H' => ∃ (row : List Int) (b : Int) (c l t : Option V), σ = [some (.ref a), some (.int n), some (.ref r), some (.int b), c, l, t] ∧
      Has H' ((r, .lst (row.map V.int)) :: (sl, .lst (cutV (ns.map V.int) none (some 63))) :: L) ∧ row.length ≤ 60 * i ∧ Dr row ∧ 0 ≤ b ∧ b < 2147483647)
      ⟨[], 7, none, none, none, rfl, h2.swap2, Nat.zero_le _, (fun _ h => nomatch h), by decide, by decide⟩ (fun i σ H' _ ⟨row, b, c, l, t, _, h, _⟩ => SqL.of (h.get 1 rfl)) ?_ ?_
    · rintro i y σ H' hi ⟨row, b, c, l, t, rfl, h3, hlen, hd, b0, b1⟩
      have hi63 : i < 63 := by
        have h5 := (List.getElem?_eq_some_iff.mp hi).1
        rw [cut_take _ _ (by decide), List.length_take, List.length_map] at h5
        omega
      obtain ⟨z, rfl⟩ : ∃ z, y = V.int z := by
        rw [cut_take _ _ (by decide), List.getElem?_take_of_lt (by omega), List.getElem?_map] at hi
        cases e : ns[i]? with
        | none => rw [e] at hi; cases hi
        | some z => rw [e] at hi; exact ⟨z, (Option.some.inj hi).symm⟩
      refine ⟨_, rfl, _, rfl, ?_⟩
      have hab : 0 ≤ (if z < 0 then -z else z) := by split <;> omega
      generalize (if z < 0 then -z else z) = left at *
      refine ⟨_, rfl, _, _, rfl, rfl, .inl ⟨by omega, by omega⟩, _, rfl, _, _, rfl, rfl, _, rfl, _, _, rfl, rfl, .inr ⟨_, rfl, _, _, rfl, rfl, .inl ⟨by decide, by decide⟩, _, _, rfl, rfl, _, _, rfl, rfl, (show (0 : Int) < 2147483647 by decide), ?_⟩⟩
      have hb0 := Int.emod_nonneg (b * 48271 + left + 2 * (if decide (z < 0) = true then 1 else 0)) (show (2147483647 : Int) ≠ 0 by decide)
      have hb1 := Int.emod_lt_of_pos (b * 48271 + left + 2 * (if decide (z < 0) = true then 1 else 0)) (show (0 : Int) < 2147483647 by decide)
      refine ⟨_, rfl, _, _, rfl, rfl, ⟨by decide, by decide, by decide⟩, _, _, rfl, rfl, _, rfl, ?_⟩
      refine ite2 (fun hc => ?_) (fun hc => ?_)
      · have hc' : left < 10 ^ 18 := of_decide_eq_true hc
        refine ⟨_, rfl, .inl ⟨rfl, _, SqL.of (h3.get 0 rfl)⟩, _, rfl, r, _, _, rfl, rfl, h3.get 0 rfl, ?_, ?_⟩
        · rw [List.length_map]
          exact sizeOk (by omega)
        · refine ⟨row ++ [left], _, _, _, _, rfl, ?_, ?_, hd.snoc hab hc', hb0, hb1⟩
          · rw [← map_snoc]
            exact h3.puti 0 rfl _
          · rw [List.length_append, List.length_singleton]; omega
      · -- for turn in range(60)
        refine ⟨_, rfl, by decide, by decide, for_range (n := 60) (fun j σ H2 => ∃ (row2 : List Int) (l2 : Int) (t2 : Option V) (b2 : Int), 0 ≤ b2 ∧ b2 < 2147483647 ∧ σ = [some (.ref a), some (.int n), some (.ref r), some (.int b2), some (.int z), some (.int l2), t2] ∧
          Has H2 ((r, .lst (row2.map V.int)) :: (sl, .lst (cutV (ns.map V.int) none (some 63))) :: L) ∧ row2.length ≤ row.length + j ∧ Dr row2 ∧ 0 ≤ l2) ⟨row, _, _, _, hb0, hb1, rfl, h3, Nat.le_add_right _ _, hd, hab⟩ ?_ ?_⟩
        · rintro j σ H2 hj ⟨row2, l2, t2, b2, hb20, hb21, rfl, h4, hlen2, hd2, hl2⟩
          refine ⟨_, rfl, _, _, rfl, rfl, _, rfl, ?_⟩
          refine ite2 (fun hc2 => ?_) (fun hc2 => ?_)
          · refine ⟨_, rfl, .inl ⟨rfl, _, SqL.of (h4.get 0 rfl)⟩, _, rfl, _, _, rfl, rfl, (show (0 : Int) < 10007 by decide), r, _, _, rfl, rfl, h4.get 0 rfl, ?_, ?_⟩
            · rw [List.length_map]
              exact sizeOk (by omega)
            · refine ⟨_, rfl, _, _, rfl, rfl, ⟨by decide, by decide⟩, ?_⟩
              refine ⟨row2 ++ [l2 % 10007], _, _, _, hb20, hb21, rfl, ?_, ?_, hd2.snoc (Int.emod_nonneg _ (by decide)) (Int.lt_trans (Int.emod_lt_of_pos _ (by decide)) (by decide)), Int.ediv_nonneg hl2 (by decide)⟩
              · rw [← map_snoc]
                exact h4.puti 0 rfl _
              · rw [List.length_append, List.length_singleton]; omega
          · exact ⟨row2, l2, _, b2, hb20, hb21, rfl, h4, by omega, hd2, hl2⟩
        · rintro σ H2 ⟨row2, l2, t2, b2, hb20, hb21, rfl, h4, hlen2, hd2, hl2⟩
          exact ⟨row2, b2, _, _, _, rfl, h4, by omega, hd2, hb20, hb21⟩
    · rintro σ H' ⟨row, b, c, l, t, rfl, h3, hlen, hd, b0, b1⟩
      have hlx : (cutV (ns.map V.int) none (some 63)).length ≤ 63 := by
        rw [cut_take _ _ (by decide), List.length_take]; omega
      refine while_by (fun σ H' => ∃ (row : List Int) (b : Int) (c l t : Option V), σ = [some (.ref a), some (.int n), some (.ref r), some (.int b), c, l, t] ∧ Has H' ((r, .lst (row.map V.int)) :: L) ∧ row.length ≤ 4000 ∧ Dr row ∧ 0 ≤ b ∧ b < 2147483647)
        (fun σ H' => match H' r with | some (.lst xs) => n.toNat - xs.length | _ => 0) ⟨row, b, c, l, t, rfl, h3.swap2.tail, by omega, hd, b0, b1⟩ ?_ ?_
      · rintro σ H' ⟨row, b, c, l, t, rfl, h4, hlen, hd, b0, b1⟩
        refine ⟨_, rfl, r, _, rfl, .inl (SqL.of (h4.get 0 rfl)), _, rfl, _, _, rfl, rfl, _, rfl, ?_⟩
        rw [List.length_map]
        refine ite2 (fun hc => ?_) (fun hc => ?_)
        · have hc' : (row.length : Int) < n := of_decide_eq_true hc
          refine ⟨_, rfl, _, _, rfl, rfl, .inl ⟨by omega, by omega⟩, _, _, rfl, rfl, _, _, rfl, rfl, (show (0 : Int) < 2147483647 by decide), ?_⟩
          have hb0 := Int.emod_nonneg (b * 69621 + 12289) (show (2147483647 : Int) ≠ 0 by decide)
          have hb1 := Int.emod_lt_of_pos (b * 69621 + 12289) (show (0 : Int) < 2147483647 by decide)
          refine ⟨_, rfl, .inl ⟨rfl, _, SqL.of (h4.get 0 rfl)⟩, _, rfl, _, rfl, _, _, rfl, rfl, .inl ⟨?_, ?_⟩, _, _, rfl, rfl, ⟨by decide, by decide⟩, _, _, rfl, rfl, (show (0 : Int) < 10007 by decide), r, _, _, rfl, rfl, h4.get 0 rfl, ?_, ?_⟩
          · show -(2 ^ 64) < (b * 69621 + 12289) % 2147483647
            omega
          · show (b * 69621 + 12289) % 2147483647 < 2 ^ 64
            omega
          · rw [List.length_map]
            exact sizeOk (by omega)
          · have hq0 := Int.emod_nonneg ((b * 69621 + 12289) % 2147483647 * ((b * 69621 + 12289) % 2147483647) / 4099) (show (10007 : Int) ≠ 0 by decide)
            have hq1 := Int.emod_lt_of_pos ((b * 69621 + 12289) % 2147483647 * ((b * 69621 + 12289) % 2147483647) / 4099) (show (0 : Int) < 10007 by decide)
            refine ⟨⟨row ++ [(b * 69621 + 12289) % 2147483647 * ((b * 69621 + 12289) % 2147483647) / 4099 % 10007], _, _, _, _, rfl, ?_, ?_, hd.snoc hq0 (Int.lt_trans hq1 (by decide)), hb0, hb1⟩, ?_⟩
            · rw [← map_snoc]
              exact h4.puti 0 rfl _
            · rw [List.length_append, List.length_singleton]; omega
            · have e1 : H' r = some (.lst (row.map V.int)) := h4.get 0 rfl
              simp only [e1, upd_same, List.length_append, List.length_map, List.length_singleton]
              omega
        · have hc' : ¬ (row.length : Int) < n := fun z => hc (decide_eq_true z)
          refine ⟨_, rfl, _, rfl, _, rfl, r, _, rfl, SqL.of (h4.get 0 rfl), fun p hp => ?_⟩
          refine k _ p (row.take n.toNat) ?_ (by rw [List.length_take]; omega) (fun d hd' => hd d (List.mem_of_mem_take hd'))
          have h5 := (h4.tail).alloc hp (.lst (cutV (row.map V.int) none (some n)))
          rw [cut_take _ _ hn0, ← List.map_take] at h5 ⊢
          exact h5
      · rintro σ H' Q1 Q2 hQ ⟨v, e, p, ys, e2, h, w', e3, i, j, e4, e5, c, e6, q⟩
        exact ⟨v, e, p, ys, e2, h, w', e3, i, j, e4, e5, c, e6, hQ _ _ q⟩
end

def sp_whole : Sp := fun vs H Q _ => ∃ i : Int, vs = [.int i] ∧ Q (.bl true) H
def sp_is : Sp := fun vs H Q _ => ∃ i j : Int, vs = [.int i, .int j] ∧ Q (.bl (decide (i = j))) H
theorem kit_ii (K : PySem.W.Frag) : PySem.W.kitOne K (.type "int") (.type "int") = some true := by kernel_rfl
theorem kit_ib (K : PySem.W.Frag) : PySem.W.kitOne K (.type "int") (.type "bool") = some false := by kernel_rfl
theorem kit_ll (K : PySem.W.Frag) : PySem.W.kitOne K (.type "list") (.type "list") = some true := by kernel_rfl
section
variable {P : Program} {w : World} {K : PySem.W.Frag} {mg : Str → Option Value} {base : Heap} {t : Adr}
theorem scWh : FnScope ["_law_found"] ["_law_found"] (defScope s_whole) := ⟨rfl, rfl, rfl, by decide +kernel, rfl, by decide +kernel, by decide +kernel⟩
theorem ok_whole (T : Txt K mg t) : FnOk P w K mg base CX0 1 t.f_whole t.d_whole ["_law_found"] sp_whole := by
  refine T.F_whole.ok scWh (fun vs H Q E h => ?_) (fun cdv A outer s H vs Q E hr h => ?_)
  · obtain ⟨_, rfl, _⟩ := h
    rfl
  · obtain ⟨i, rfl, k⟩ := h
    refine ⟨_, (pss_one (ps_ret (pe_and (pe_callB call_isi (by rfl) T.z_isinstance (by rfl) (pa_cons (pv 0) (pa_cons (pe_bltn (v := .ty "int") (by rfl) T.z_int (by rfl) rfl) pa_nil))) (pe_one (pe_not (pe_callB call_isi (by rfl) T.z_isinstance (by rfl) (pa_cons (pv 0) (pa_cons (pe_bltn (v := .ty "bool") (by rfl) T.z_bool (by rfl) rfl) pa_nil)))))))), ?_⟩
    refine ⟨_, rfl, _, _, _, _, rfl, .int i, kit_ii K, _, rfl, iteT ?_⟩
    exact ⟨_, rfl, _, _, _, _, rfl, .int i, kit_ib K, _, rfl, k⟩
theorem scIs : FnScope ["_law_found", "_law_due"] ["_law_found", "_law_due"] (defScope s_is) := ⟨rfl, rfl, rfl, by decide +kernel, rfl, by decide +kernel, by decide +kernel⟩
theorem ok_is (T : Txt K mg t) : FnOk P w K mg base CX0 2 t.f_is t.d_is ["_law_found", "_law_due"] sp_is := by
  refine T.F_is.ok scIs (fun vs H Q E h => ?_) (fun cdv A outer s H vs Q E hr h => ?_)
  · obtain ⟨_, _, rfl, _⟩ := h
    rfl
  · obtain ⟨i, j, rfl, k⟩ := h
    refine ⟨_, (pss_one (ps_ret (pe_and (pe_call (ok_whole T) (hr.mono (by decide)) (by rfl) T.m_whole T.F_whole.kp (b_whole T) .nil pass0 (pa_cons (pv 0) pa_nil)) (pe_one (pe_cmpR op_eq (pv 0) (pv 1) (nomark _)))))), ?_⟩
    refine ⟨_, rfl, i, rfl, _, rfl, iteT ?_⟩
    refine ⟨_, rfl, _, rfl, rfl, ?_⟩
    have e : decide (V.int i = V.int j) = decide (i = j) := by by_cases h : i = j <;> simp [h]
    rw [e]
    exact k
end

def sp_check_side : Sp := fun vs H Q _ => ∃ s : Int, vs = [.int s] ∧ (s = 1 ∨ s = 2) ∧ Q .non H
section
variable {P : Program} {w : World} {K : PySem.W.Frag} {mg : Str → Option Value} {base : Heap} {t : Adr}
theorem decInt (i j : Int) : decide (V.int i = V.int j) = decide (i = j) := by by_cases h : i = j <;> simp [h]
theorem scCs : FnScope ["side"] ["side"] (defScope s_check_side) := ⟨rfl, rfl, rfl, by decide +kernel, rfl, by decide +kernel, by decide +kernel⟩
theorem ok_check_side (T : Txt K mg t) : FnOk P w K mg base CX0 1 t.f_check_side t.d_check_side ["side"] sp_check_side := by
  refine T.F_check_side.ok scCs (fun vs H Q E h => ?_) (fun cdv A outer s H vs Q E hr h => ?_)
  · obtain ⟨_, rfl, _⟩ := h
    rfl
  · obtain ⟨z, rfl, hz, q⟩ := h
    refine ⟨_, (pss_one (ps_if (PW.pt (pw_and (pt_cmpR op_ne (pv 0) pe_int (nomark _)) (pw_and1 (pt_cmpR op_ne (pv 0) pe_int (nomark _)))))
        (pss_one ps_never)
        pss_nil)), ?_⟩
    refine ⟨_, rfl, rfl, _, rfl, ?_⟩
    rw [decInt]
    refine ifdn (fun hc => ?_) (fun hc => iteF q)
    refine ⟨_, rfl, rfl, _, rfl, ?_⟩
    rw [decInt]
    exact ifF (by simp; omega) q
end

def sp_is_row : Sp := fun vs H Q _ => ∃ (a b : Addr) (xs ys : List Int) (i j : Nat) (L : Kn), vs = [.ref a, .ref b] ∧ Has H L ∧ L[i]? = some (a, .lst (xs.map V.int)) ∧ L[j]? = some (b, .lst (ys.map V.int)) ∧ xs.length ≤ 100000 ∧ ∀ H', Has H' L → Q (.bl (decide (xs = ys))) H'
theorem all_eq : ∀ {xs ys : List Int}, xs.length = ys.length → ((xs.zip ys).map fun p => decide (p.1 = p.2)).all id = decide (xs = ys)
  | [], [], _ => rfl
  | x :: xs, y :: ys, h => by
    have ih := all_eq (xs := xs) (ys := ys) (by simpa using h)
    rw [List.zip_cons_cons, List.map_cons, List.all_cons, ih]
    by_cases e : x = y
    · subst e; simp
    · simp [e]
section
variable {P : Program} {w : World} {K : PySem.W.Frag} {mg : Str → Option Value} {base : Heap} {t : Adr}
theorem scIr : FnScope ["_law_found", "_law_due"] ["_law_found", "_law_due"] (defScope s_is_row) := ⟨rfl, rfl, rfl, by decide +kernel, rfl, by decide +kernel, by decide +kernel⟩
theorem ok_is_row (T : Txt K mg t) : FnOk P w K mg base CX0 3 t.f_is_row t.d_is_row ["_law_found", "_law_due"] sp_is_row := by
  refine T.F_is_row.ok scIr (fun vs H Q E h => ?_) (fun cdv A outer s H vs Q E hr h => ?_)
  · obtain ⟨_, _, _, _, _, _, _, rfl, _⟩ := h
    rfl
  · obtain ⟨a, b, xs, ys, i, j, L, rfl, hH, hi, hj, hxl, q⟩ := h
    refine ⟨_, (pss_cons (ps_if (PW.pt (pw_or (pt_not (pt_val (pe_callB call_isi (by rfl) T.z_isinstance (by rfl) (pa_cons (pv 0) (pa_cons (pe_bltn (v := .ty "list") (by rfl) T.z_list (by rfl) rfl) pa_nil))))) (pw_or1 (pt_cmpR op_ne (pe_callB call_len_seq (by rfl) T.z_len (by rfl) (pa_cons (pv 0) pa_nil)) (pe_callB call_len_seq (by rfl) T.z_len (by rfl) (pa_cons (pv 1) pa_nil)) (nomark _)))))
        (pss_one (ps_ret pe_bl))
        pss_nil)
      (pss_one (ps_ret (pe_callB (call_all rfl) (by rfl) T.z_all (by rfl) (pa_cons (pe_lc (esc := defScope s_is_row) (k := 2) ["_law_one", "_law_other", "_law_found", "_law_due"] rfl (pi_zip (by rfl) T.z_zip (pa_cons (pv 0) (pa_cons (pv 1) pa_nil))) (fun _ _ _ _ _ => by exact (pg_tupK (K := K) (n := 2) rfl rfl (pgs_cons (pg_name (i := 0) (show List.Nodup (["_law_one", "_law_other", "_law_found", "_law_due"] : List Str) from by decide +kernel) rfl (Or.inl rfl)) (pgs_cons (pg_name (i := 1) (show List.Nodup (["_law_one", "_law_other", "_law_found", "_law_due"] : List Str) from by decide +kernel) rfl (Or.inl rfl)) pgs_nil)))) (fun _ _ _ _ _ => by exact pts_nil) (fun _ _ _ _ _ => by exact (pe_call (ok_is T) (hr.mono (by decide)) (by rfl) T.m_is T.F_is.kp (b_is T) .nil pass0 (pa_cons (pv 0) (pa_cons (pv 1) pa_nil)))) rfl (by decide +kernel) (by decide +kernel) rfl (by decide +kernel) (by rfl) (fun _ _ h _ => h) (by decide +kernel)) pa_nil))))), ?_⟩
    refine ⟨_, rfl, _, _, _, _, rfl, .lst (hH.get i hi), kit_ll K, _, rfl, iteF ?_⟩
    refine ⟨_, rfl, a, _, rfl, .inl (SqL.of (hH.get i hi)), _, rfl, b, _, rfl, .inl (SqL.of (hH.get j hj)), rfl, _, rfl, ?_⟩
    rw [List.length_map, List.length_map, decInt]
    refine ifdn (fun hc => ?_) (fun hc => ?_)
    · have e : decide (xs = ys) = false := decide_eq_false (fun z => hc (by rw [z]))
      rw [e] at q
      exact q _ hH
    · have hl : xs.length = ys.length := by omega
      refine ⟨_, rfl, _, rfl, a, b, rfl, ⟨_, SqL.of (hH.get i hi)⟩, ⟨_, SqL.of (hH.get j hj)⟩, fun D hD => ?_⟩
      refine ⟨fun n m zs H' => m = xs.length - n ∧ n ≤ xs.length ∧ zs = ((xs.zip ys).take n).map (fun p => V.bl (decide (p.1 = p.2))) ∧ Has H' ((D, .lst zs) :: L), ⟨xs.length, by simp, Nat.zero_le _, rfl, hH.alloc hD _⟩, ?_⟩
      rintro n m zs H' ⟨rfl, hn, rfl, h1⟩
      refine ⟨h1.get 0 rfl, ?_⟩
      have ga := h1.get (i + 1) (by simpa using hi)
      have gb := h1.get (j + 1) (by simpa using hj)
      by_cases hlt : n < xs.length
      · refine .inr ⟨⟨_, _, _, _, SqL.of ga, (by rw [List.getElem?_map, List.getElem?_eq_getElem hlt]; rfl), SqL.of gb, (by rw [List.getElem?_map, List.getElem?_eq_getElem (by omega)]; rfl)⟩, ?_⟩
        rintro x H2 ⟨p, x1, y1, rfl, hp, rfl, hx1, hy1⟩
        have hx2 := hx1 _ (SqL.of ga)
        have hy2 := hy1 _ (SqL.of gb)
        rw [List.getElem?_map, List.getElem?_eq_getElem hlt] at hx2
        rw [List.getElem?_map, List.getElem?_eq_getElem (by omega)] at hy2
        cases hx2
        cases hy2
        have h2 := h1.alloc hp (.tup [.int xs[n], .int (ys[n]'(by omega))])
        refine ⟨p, _, rfl, SqT.of (h2.get 0 rfl), rfl, _, _, rfl, _, _, rfl, rfl, rfl, ?_⟩
        refine tTrueT ?_
        refine ⟨_, rfl, _, rfl, _, _, rfl, ?_⟩
        refine ⟨?_, h2.get 1 rfl, xs.length - (n + 1), by omega, rfl, hlt, ?_, ?_⟩
        · rw [List.length_map, List.length_take]
          exact sizeOk (by omega)
        · rw [List.take_succ, List.map_append, List.getElem?_eq_getElem (by rw [List.length_zip]; omega), List.getElem_zip]
          rfl
        · exact (h2.puti 1 rfl _).tail
      · have en : n = xs.length := by omega
        refine .inl ⟨⟨_, _, SqL.of ga, SqL.of gb, .inl (by rw [List.length_map]; omega)⟩, ?_⟩
        refine ⟨D, ((xs.zip ys).map fun p => decide (p.1 = p.2)), rfl, ?_, ?_⟩
        · have e : ((xs.zip ys).take n).map (fun p => V.bl (decide (p.1 = p.2))) = ((xs.zip ys).map fun p => decide (p.1 = p.2)).map V.bl := by
            rw [List.take_of_length_le (by rw [List.length_zip]; omega), List.map_map]; rfl
          rw [← e]
          exact SqL.of (h1.get 0 rfl)
        · rw [all_eq hl]
          exact q _ h1.tail
end

structure PA where
  p : Addr
  dx : Addr
  m : Addr
  w : Addr
  s : Addr
def pfl (A : PA) : List (Str × V) := [("mark_sides", .ref A.m), ("counter_widths", .ref A.w), ("stretches", .ref A.s)]
theorem pfl_m (A : PA) : (pfl A).lookup ("mark_sides" : Str) = some (.ref A.m) := by kernel_rfl
theorem pfl_w (A : PA) : (pfl A).lookup ("counter_widths" : Str) = some (.ref A.w) := by kernel_rfl
theorem pfl_s (A : PA) : (pfl A).lookup ("stretches" : Str) = some (.ref A.s) := by kernel_rfl
theorem pfl_n (A : PA) : (pfl A).lookup ("many" : Str) = none ∧ (pfl A).lookup ("marks" : Str) = none ∧ (pfl A).lookup ("widths" : Str) = none ∧ (pfl A).lookup ("row_at" : Str) = none ∧ (pfl A).lookup ("check_beginning" : Str) = none ∧ (pfl A).lookup ("check_rows" : Str) = none ∧ (pfl A).lookup ("check_part" : Str) = none :=
  ⟨by kernel_rfl, by kernel_rfl, by kernel_rfl, by kernel_rfl, by kernel_rfl, by kernel_rfl, by kernel_rfl⟩
theorem pfl_cc (A : PA) : (pfl A).lookup ("check_called" : Str) = none := by kernel_rfl
inductive Rw where
  | bell (n : Int)
  | set (m s : Int)
  | ask (m a b : Int)
  | bump (c r : Int)
  | go (r : Int)
  | call (s : Int)
  | fin
def Rw.ws : Rw → Str
  | .bell _ => "bell"
  | .set _ _ => "set"
  | .ask _ _ _ => "ask"
  | .bump _ _ => "bump"
  | .go _ => "go"
  | .call _ => "call"
  | .fin => "end"
def Rw.ns : Rw → List Int
  | .bell n => [n]
  | .set m s => [m, s]
  | .ask m a b => [m, a, b]
  | .bump c r => [c, r]
  | .go r => [r]
  | .call s => [s]
  | .fin => []
def Rw.v (x : Rw) : List V := .str x.ws :: x.ns.map V.int
def Rw.ps : Rw → List Str
  | .bell _ => ["note"]
  | .set _ _ => ["mark", "side"]
  | .ask _ _ _ => ["mark", "row", "row"]
  | .bump _ _ => ["counter", "row"]
  | .go _ => ["row"]
  | .call _ => ["stretch"]
  | .fin => []
def Rw.last : Rw → Bool
  | .ask _ _ _ => true
  | .go _ => true
  | .fin => true
  | _ => false
def Rw.ok (nm nc nr k ns : Nat) : Rw → Prop
  | .bell n => 0 ≤ n ∧ n ≤ 9999
  | .set m s => 0 ≤ m ∧ m < nm ∧ (s = 1 ∨ s = 2)
  | .ask m a b => 0 ≤ m ∧ m < nm ∧ 0 ≤ a ∧ a < nr ∧ 0 ≤ b ∧ b < nr
  | .bump c r => 0 ≤ c ∧ c < nc ∧ 0 ≤ r ∧ r < nr
  | .go r => 0 ≤ r ∧ r < nr
  | .call s => (k : Int) < s ∧ s < ns
  | .fin => True
theorem Rw.len (x : Rw) : x.ps.length = x.ns.length := by cases x <;> rfl
theorem Rw.psl (x : Rw) : x.ps.length ≤ 1000 := by cases x <;> simp [Rw.ps]
theorem Rw.nsl (x : Rw) : x.ns.length + 1 ≤ 4 := by cases x <;> simp [Rw.ns]
theorem Rw.lastIn : ∀ (x : Rw), x.last = true → (!inV (.str x.ws) [.str "ask", .str "go", .str "end"]) = false
  | .ask _ _ _, _ => (by decide +kernel : (!inV (.str ("ask" : Str)) [.str "ask", .str "go", .str "end"]) = false)
  | .go _, _ => (by decide +kernel : (!inV (.str ("go" : Str)) [.str "ask", .str "go", .str "end"]) = false)
  | .fin, _ => (by decide +kernel : (!inV (.str ("end" : Str)) [.str "ask", .str "go", .str "end"]) = false)
  | .bell _, h => nomatch h
  | .set _ _, h => nomatch h
  | .bump _ _, h => nomatch h
  | .call _, h => nomatch h
theorem cutok {n : Nat} (h1 : 1 ≤ n) (h2 : n ≤ 4) : ¬ (HT.sIx n 0 (some 1) = 0 ∧ HT.sIx n n none = n) := by
  match n with
  | 1 => decide
  | 2 => decide
  | 3 => decide
  | 4 => decide
def partsD : List (Str × List Str) := [("bell", ["note"]), ("set", ["mark", "side"]), ("ask", ["mark", "row", "row"]), ("bump", ["counter", "row"]), ("go", ["row"]), ("call", ["stretch"]), ("end", [])]
theorem Rw.parts (x : Rw) : partsD.lookup x.ws = some x.ps := by cases x <;> rfl
def rwV (rs : List (Addr × Rw)) : List V := rs.map fun x => V.ref x.1
abbrev Ss := List (Addr × List (Addr × Rw))
def ssV (ss : Ss) : List V := ss.map fun z => V.ref z.1
def PartOk (nm nc nr k ns : Nat) (p : Str) (n : Int) : Prop :=
  (p = "note" ∧ 0 ≤ n ∧ n ≤ 9999) ∨ (p = "mark" ∧ 0 ≤ n ∧ n < nm) ∨ (p = "side" ∧ (n = 1 ∨ n = 2)) ∨ (p = "counter" ∧ 0 ≤ n ∧ n < nc) ∨ (p = "row" ∧ 0 ≤ n ∧ n < nr) ∨ (p = "stretch" ∧ (k : Int) < n ∧ n < ns)
theorem Rw.part {nm nc nr k ns : Nat} {x : Rw} (h : x.ok nm nc nr k ns) {i : Nat} {p : Str} {n : Int} (hp : x.ps[i]? = some p) (hn : x.ns[i]? = some n) : PartOk nm nc nr k ns p n := by
  cases x with
  | bell k =>
    match i with
    | 0 => cases hp; cases hn; exact .inl ⟨rfl, h⟩
    | i + 1 => cases hp
  | set m s =>
    match i with
    | 0 => cases hp; cases hn; exact .inr (.inl ⟨rfl, h.1, h.2.1⟩)
    | 1 => cases hp; cases hn; exact .inr (.inr (.inl ⟨rfl, h.2.2⟩))
    | i + 2 => cases hp
  | ask m a b =>
    match i with
    | 0 => cases hp; cases hn; exact .inr (.inl ⟨rfl, h.1, h.2.1⟩)
    | 1 => cases hp; cases hn; exact .inr (.inr (.inr (.inr (.inl ⟨rfl, h.2.2.1, h.2.2.2.1⟩))))
    | 2 => cases hp; cases hn; exact .inr (.inr (.inr (.inr (.inl ⟨rfl, h.2.2.2.2.1, h.2.2.2.2.2⟩))))
    | i + 3 => cases hp
  | bump c r =>
    match i with
    | 0 => cases hp; cases hn; exact .inr (.inr (.inr (.inl ⟨rfl, h.1, h.2.1⟩)))
    | 1 => cases hp; cases hn; exact .inr (.inr (.inr (.inr (.inl ⟨rfl, h.2.2.1, h.2.2.2⟩))))
    | i + 2 => cases hp
  | go r =>
    match i with
    | 0 => cases hp; cases hn; exact .inr (.inr (.inr (.inr (.inl ⟨rfl, h.1, h.2⟩))))
    | i + 1 => cases hp
  | call s =>
    match i with
    | 0 => cases hp; cases hn; exact .inr (.inr (.inr (.inr (.inr ⟨rfl, h.1, h.2⟩))))
    | i + 1 => cases hp
  | fin => cases hp
structure PIn (C : Addr) (A : PA) (ms ws : List Int) (ss : Ss) (L : Kn) : Prop where
  p : (A.p, HO.ins C A.dx (pfl A)) ∈ L
  m : (A.m, HO.lst (ms.map V.int)) ∈ L
  w : (A.w, HO.lst (ws.map V.int)) ∈ L
  s : (A.s, HO.lst (ssV ss)) ∈ L
  l : ∀ z ∈ ss, (z.1, HO.lst (rwV z.2)) ∈ L
  r : ∀ z ∈ ss, ∀ x ∈ z.2, (x.1, HO.tup x.2.v) ∈ L
structure PInN (C : Addr) (A : PA) (ms ws : List Int) (ss : Ss) (N : Kn) : Prop where
  p : (A.p, HO.ins C A.dx (pfl A)) ∈ N
  m : (A.m, HO.lst (ms.map V.int)) ∈ N
  w : (A.w, HO.lst (ws.map V.int)) ∈ N
  s : (A.s, HO.lst (ssV ss)) ∈ N
  l : ∀ z ∈ ss, (z.1, HO.lst (rwV z.2)) ∈ N
theorem PInN.pin {C : Addr} {A : PA} {ms ws : List Int} {ss : Ss} {N L : Kn} (h : PInN C A ms ws ss N) (hs : ∀ z ∈ N, z ∈ L) (hr : ∀ z ∈ ss, ∀ x ∈ z.2, (x.1, HO.tup x.2.v) ∈ L) : PIn C A ms ws ss L :=
  ⟨hs _ h.p, hs _ h.m, hs _ h.w, hs _ h.s, fun z hz => hs _ (h.l z hz), hr⟩
theorem PIn.mono {C : Addr} {A : PA} {ms ws : List Int} {ss : Ss} {L L' : Kn} (h : PIn C A ms ws ss L) (s : ∀ z ∈ L, z ∈ L') : PIn C A ms ws ss L' :=
  ⟨s _ h.p, s _ h.m, s _ h.w, s _ h.s, fun z hz => s _ (h.l z hz), fun z hz x hx => s _ (h.r z hz x hx)⟩
def Good (nm nc : Nat) (ss : Ss) : Prop := ∀ (k : Nat) z, ss[k]? = some z → (∀ x ∈ z.2, x.2.ok nm nc z.2.length k ss.length) ∧ ∃ a y, z.2.getLast? = some (a, y) ∧ y.last = true
theorem ssV_get {ss : Ss} {k : Nat} {z : Addr × List (Addr × Rw)} (h : ss[k]? = some z) : (ssV ss)[k]? = some (.ref z.1) := by unfold ssV; rw [List.getElem?_map, h]; rfl
theorem Good.tr {nm nc : Nat} {ss ss' : Ss} (e : ss'.map (·.2) = ss.map (·.2)) (h : Good nm nc ss) : Good nm nc ss' := by
  intro k z hz
  have hl : ss'.length = ss.length := by simpa using congrArg List.length e
  have e2 : (ss.map (·.2))[k]? = some z.2 := by rw [← e, List.getElem?_map, hz]; rfl
  rw [List.getElem?_map] at e2
  obtain ⟨z', h1, h2⟩ := Option.map_eq_some_iff.mp e2
  have := h k z' h1
  rw [h2] at this
  rw [hl]
  exact this
def sp_check_mark : Sp := fun vs H Q _ => ∃ (n : Int) (m : Nat), vs = [.int n, .int m] ∧ 0 ≤ n ∧ n < m ∧ Q .non H
def sp_check_width : Sp := fun vs H Q _ => ∃ (n : Int), vs = [.int n] ∧ 1 ≤ n ∧ n ≤ 8 ∧ Q .non H
def sp_many (C : Addr) : Sp := fun vs H Q _ => ∃ (A : PA) (st : List V), vs = [.ref A.p] ∧ H A.p = some (.ins C A.dx (pfl A)) ∧ H A.s = some (.lst st) ∧ Q (.int st.length) H
def sp_pmarks (C : Addr) : Sp := fun vs H Q _ => ∃ (A : PA) (ms : List V) (L : Kn), vs = [.ref A.p] ∧ Has H L ∧ (A.p, HO.ins C A.dx (pfl A)) ∈ L ∧ (A.m, HO.lst ms) ∈ L ∧ ∀ H' l, Has H' ((l, .lst ms) :: L) → Q (.ref l) H'
def sp_pwidths (C : Addr) : Sp := fun vs H Q _ => ∃ (A : PA) (ms : List V) (L : Kn), vs = [.ref A.p] ∧ Has H L ∧ (A.p, HO.ins C A.dx (pfl A)) ∈ L ∧ (A.w, HO.lst ms) ∈ L ∧ ∀ H' l, Has H' ((l, .lst ms) :: L) → Q (.ref l) H'
def sp_check_beginning (C : Addr) : Sp := fun vs H Q _ => ∃ (A : PA) (ms ws : List Int) (ss : Ss) (L : Kn), vs = [.ref A.p] ∧ Has H L ∧ PIn C A ms ws ss L ∧ (∀ x ∈ ms, x = 1 ∨ x = 2) ∧ (∀ x ∈ ws, 1 ≤ x ∧ x ≤ 8) ∧ ss ≠ [] ∧ Q .non H
def sp_check_called (C : Addr) : Sp := fun vs H Q _ => ∃ (A : PA) (ms ws : List Int) (ss : Ss) (L : Kn) (n : Int) (k : Nat), vs = [.ref A.p, .int n, .int k] ∧ Has H L ∧ PIn C A ms ws ss L ∧ (k : Int) < n ∧ n < ss.length ∧ Q .non H
def sp_check_part (C : Addr) : Sp := fun vs H Q _ => ∃ (A : PA) (ms ws : List Int) (ss : Ss) (L : Kn) (k : Nat) (p : Str) (n : Int) (z : Addr × List (Addr × Rw)), vs = [.ref A.p, .str p, .int n, .int k] ∧ Has H L ∧ PIn C A ms ws ss L ∧ ss[k]? = some z ∧ PartOk ms.length ws.length z.2.length k ss.length p n ∧ Q .non H
def sp_check_rows (C : Addr) : Sp := fun vs H Q _ => ∃ (A : PA) (ms ws : List Int) (ss : Ss) (L : Kn) (k : Nat) (z : Addr × List (Addr × Rw)), vs = [.ref A.p, .int k] ∧ Has H L ∧ PIn C A ms ws ss L ∧ ss[k]? = some z ∧ (∀ x ∈ z.2, x.2.ok ms.length ws.length z.2.length k ss.length) ∧ (∃ a y, z.2.getLast? = some (a, y) ∧ y.last = true) ∧ ∀ H', Has H' L → Q .non H'
def sp_Pinit (C : Addr) : Sp := fun vs H Q _ => ∃ (p dx m0 w0 s0 : Addr) (ms ws : List Int) (ss : Ss) (L : Kn), vs = [.ref p, .ref m0, .ref w0, .ref s0] ∧
  Has H ((p, .ins C dx []) :: (dx, .own p) :: L) ∧ (m0, HO.lst (ms.map V.int)) ∈ L ∧ (w0, HO.lst (ws.map V.int)) ∈ L ∧ (s0, HO.lst (ssV ss)) ∈ L ∧ (∀ z ∈ ss, (z.1, HO.lst (rwV z.2)) ∈ L) ∧ (∀ z ∈ ss, ∀ x ∈ z.2, (x.1, HO.tup x.2.v) ∈ L) ∧
  (∀ x ∈ ms, x = 1 ∨ x = 2) ∧ (∀ x ∈ ws, 1 ≤ x ∧ x ≤ 8) ∧ ss ≠ [] ∧ ss.length ≤ 1000 ∧ Good ms.length ws.length ss ∧
  ∀ H' A ss' N, A.p = p → ss'.map (·.2) = ss.map (·.2) → PInN C A ms ws ss' N → PIn C A ms ws ss' (N ++ L) → Has H' (N ++ L) → Q .non H'
section
variable {P : Program} {w : World} {K : PySem.W.Frag} {mg : Str → Option Value} {base : Heap} {t : Adr}
theorem scCm : FnScope ["mark", "many"] ["mark", "many"] (defScope s_check_mark) := ⟨rfl, rfl, rfl, by decide +kernel, rfl, by decide +kernel, by decide +kernel⟩
theorem ok_check_mark (T : Txt K mg t) : FnOk P w K mg base CX0 1 t.f_check_mark t.d_check_mark ["mark", "many"] sp_check_mark := by
  refine T.F_check_mark.ok scCm (fun vs H Q E h => ?_) (fun cdv A outer s H vs Q E hr h => ?_)
  · obtain ⟨_, _, rfl, _⟩ := h
    rfl
  · obtain ⟨n, m, rfl, n0, n1, q⟩ := h
    refine ⟨_, (pss_one (ps_if (PW.pt (pw_or (pt_cmpR op_lt (pv 0) pe_int (nomark _)) (pw_or1 (pt_cmpR op_ge (pv 0) (pv 1) (nomark _)))))
        (pss_one ps_never)
        pss_nil)), ?_⟩
    refine ⟨_, rfl, _, _, rfl, rfl, _, rfl, ifF (decide_eq_false (by omega)) ?_⟩
    exact ⟨_, rfl, _, rfl, _, _, rfl, rfl, _, rfl, ifF (decide_eq_false (by omega)) q⟩
theorem scCk : FnScope ["counter", "many"] ["counter", "many"] (defScope s_check_counter) := ⟨rfl, rfl, rfl, by decide +kernel, rfl, by decide +kernel, by decide +kernel⟩
theorem ok_check_counter (T : Txt K mg t) : FnOk P w K mg base CX0 1 t.f_check_counter t.d_check_counter ["counter", "many"] sp_check_mark := by
  refine T.F_check_counter.ok scCk (fun vs H Q E h => ?_) (fun cdv A outer s H vs Q E hr h => ?_)
  · obtain ⟨_, _, rfl, _⟩ := h
    rfl
  · obtain ⟨n, m, rfl, n0, n1, q⟩ := h
    refine ⟨_, (pss_one (ps_if (PW.pt (pw_or (pt_cmpR op_lt (pv 0) pe_int (nomark _)) (pw_or1 (pt_cmpR op_ge (pv 0) (pv 1) (nomark _)))))
        (pss_one ps_never)
        pss_nil)), ?_⟩
    refine ⟨_, rfl, _, _, rfl, rfl, _, rfl, ifF (decide_eq_false (by omega)) ?_⟩
    exact ⟨_, rfl, _, rfl, _, _, rfl, rfl, _, rfl, ifF (decide_eq_false (by omega)) q⟩
theorem scCw : FnScope ["row", "many"] ["row", "many"] (defScope s_check_row) := ⟨rfl, rfl, rfl, by decide +kernel, rfl, by decide +kernel, by decide +kernel⟩
theorem ok_check_row (T : Txt K mg t) : FnOk P w K mg base CX0 1 t.f_check_row t.d_check_row ["row", "many"] sp_check_mark := by
  refine T.F_check_row.ok scCw (fun vs H Q E h => ?_) (fun cdv A outer s H vs Q E hr h => ?_)
  · obtain ⟨_, _, rfl, _⟩ := h
    rfl
  · obtain ⟨n, m, rfl, n0, n1, q⟩ := h
    refine ⟨_, (pss_one (ps_if (PW.pt (pw_or (pt_cmpR op_lt (pv 0) pe_int (nomark _)) (pw_or1 (pt_cmpR op_ge (pv 0) (pv 1) (nomark _)))))
        (pss_one ps_never)
        pss_nil)), ?_⟩
    refine ⟨_, rfl, _, _, rfl, rfl, _, rfl, ifF (decide_eq_false (by omega)) ?_⟩
    exact ⟨_, rfl, _, rfl, _, _, rfl, rfl, _, rfl, ifF (decide_eq_false (by omega)) q⟩
theorem scCi : FnScope ["width"] ["width"] (defScope s_check_width) := ⟨rfl, rfl, rfl, by decide +kernel, rfl, by decide +kernel, by decide +kernel⟩
theorem ok_check_width (T : Txt K mg t) : FnOk P w K mg base CX0 1 t.f_check_width t.d_check_width ["width"] sp_check_width := by
  refine T.F_check_width.ok scCi (fun vs H Q E h => ?_) (fun cdv A outer s H vs Q E hr h => ?_)
  · obtain ⟨_, rfl, _⟩ := h
    rfl
  · obtain ⟨n, rfl, n0, n1, q⟩ := h
    refine ⟨_, (pss_one (ps_if (PW.pt (pw_or (pt_cmpR op_lt (pv 0) pe_int (nomark _)) (pw_or1 (pt_cmpR op_gt (pv 0) (pe_glob (by rfl) T.g_WIDEST T.r_WIDEST) (nomark _)))))
        (pss_one ps_never)
        pss_nil)), ?_⟩
    refine ⟨_, rfl, _, _, rfl, rfl, _, rfl, ifF (decide_eq_false (by omega)) ?_⟩
    exact ⟨_, rfl, _, _, rfl, rfl, _, rfl, ifF (decide_eq_false (by omega)) q⟩
theorem scNt : FnScope ["note"] ["note"] (defScope s_check_note) := ⟨rfl, rfl, rfl, by decide +kernel, rfl, by decide +kernel, by decide +kernel⟩
def sp_check_note : Sp := fun vs H Q _ => ∃ n : Int, vs = [.int n] ∧ 0 ≤ n ∧ n ≤ 9999 ∧ Q .non H
theorem ok_check_note (T : Txt K mg t) : FnOk P w K mg base CX0 1 t.f_check_note t.d_check_note ["note"] sp_check_note := by
  refine T.F_check_note.ok scNt (fun vs H Q E h => ?_) (fun cdv A outer s H vs Q E hr h => ?_)
  · obtain ⟨_, rfl, _⟩ := h
    rfl
  · obtain ⟨n, rfl, n0, n1, q⟩ := h
    refine ⟨_, (pss_one (ps_if (PW.pt (pw_or (pt_cmpR op_lt (pv 0) pe_int (nomark _)) (pw_or1 (pt_cmpR op_gt (pv 0) (pe_glob (by rfl) T.g_LAST_NOTE T.r_LAST_NOTE) (nomark _)))))
        (pss_one ps_never)
        pss_nil)), ?_⟩
    refine ⟨_, rfl, _, _, rfl, rfl, _, rfl, ifF (decide_eq_false (by omega)) ?_⟩
    refine ⟨_, rfl, _, _, rfl, rfl, _, rfl, ifF (decide_eq_false (by omega)) q⟩
theorem scCq : FnScope ["stretch", "many"] ["stretch", "many"] (defScope s_check_stretch) := ⟨rfl, rfl, rfl, by decide +kernel, rfl, by decide +kernel, by decide +kernel⟩
theorem ok_check_stretch (T : Txt K mg t) : FnOk P w K mg base CX0 1 t.f_check_stretch t.d_check_stretch ["stretch", "many"] sp_check_mark := by
  refine T.F_check_stretch.ok scCq (fun vs H Q E h => ?_) (fun cdv A outer s H vs Q E hr h => ?_)
  · obtain ⟨_, _, rfl, _⟩ := h
    rfl
  · obtain ⟨n, m, rfl, n0, n1, q⟩ := h
    refine ⟨_, (pss_one (ps_if (PW.pt (pw_or (pt_cmpR op_lt (pv 0) pe_int (nomark _)) (pw_or1 (pt_cmpR op_ge (pv 0) (pv 1) (nomark _)))))
        (pss_one ps_never)
        pss_nil)), ?_⟩
    refine ⟨_, rfl, _, _, rfl, rfl, _, rfl, ifF (decide_eq_false (by omega)) ?_⟩
    exact ⟨_, rfl, _, rfl, _, _, rfl, rfl, _, rfl, ifF (decide_eq_false (by omega)) q⟩
theorem scPm : FnScope ["self"] ["self"] (defScope s_Program_many) := ⟨rfl, rfl, rfl, by decide +kernel, rfl, by decide +kernel, by decide +kernel⟩
theorem ok_Program_many (T : Txt K mg t) : FnOk P w K mg base CX0 1 t.f_Program_many t.d_Program_many ["self"] (sp_many t.c_Program) := by
  refine T.F_Program_many.ok scPm (fun vs H Q E h => ?_) (fun cdv A outer s H vs Q E hr h => ?_)
  · obtain ⟨_, _, rfl, _⟩ := h
    rfl
  · obtain ⟨A, st, rfl, g1, g2, q⟩ := h
    refine ⟨_, (pss_one (ps_ret (pe_callB call_len_seq (by rfl) T.z_len (by rfl) (pa_cons (pe_fld (pv 0) rfl) pa_nil)))), ?_⟩
    exact ⟨_, rfl, A.p, _, A.dx, _, _, rfl, g1, T.cl_Program, T.n_Program_stretches, pfl_s _, A.s, _, rfl, .inl (SqL.of g2), q⟩
theorem scPk : FnScope ["self"] ["self"] (defScope s_Program_marks) := ⟨rfl, rfl, rfl, by decide +kernel, rfl, by decide +kernel, by decide +kernel⟩
theorem ok_Program_marks (T : Txt K mg t) : FnOk P w K mg base CX0 1 t.f_Program_marks t.d_Program_marks ["self"] (sp_pmarks t.c_Program) := by
  refine T.F_Program_marks.ok scPk (fun vs H Q E h => ?_) (fun cdv A outer s H vs Q E hr h => ?_)
  · obtain ⟨_, _, _, rfl, _⟩ := h
    rfl
  · obtain ⟨A, ms, L, rfl, hH, m1, m2, q⟩ := h
    refine ⟨_, (pss_one (ps_ret (pe_callTy call_list_of (by rfl) T.z_list (by rfl) (pa_cons (pe_fld (pv 0) rfl) pa_nil)))), ?_⟩
    exact ⟨_, rfl, A.p, _, A.dx, _, _, rfl, hH.at_ _ m1, T.cl_Program, T.n_Program_mark_sides, pfl_m _, A.m, _, rfl, .inl (SqL.of (hH.at_ _ m2)), fun l hl => q _ l (hH.alloc hl _)⟩
theorem scPw : FnScope ["self"] ["self"] (defScope s_Program_widths) := ⟨rfl, rfl, rfl, by decide +kernel, rfl, by decide +kernel, by decide +kernel⟩
theorem ok_Program_widths (T : Txt K mg t) : FnOk P w K mg base CX0 1 t.f_Program_widths t.d_Program_widths ["self"] (sp_pwidths t.c_Program) := by
  refine T.F_Program_widths.ok scPw (fun vs H Q E h => ?_) (fun cdv A outer s H vs Q E hr h => ?_)
  · obtain ⟨_, _, _, rfl, _⟩ := h
    rfl
  · obtain ⟨A, ms, L, rfl, hH, m1, m2, q⟩ := h
    refine ⟨_, (pss_one (ps_ret (pe_callTy call_list_of (by rfl) T.z_list (by rfl) (pa_cons (pe_fld (pv 0) rfl) pa_nil)))), ?_⟩
    exact ⟨_, rfl, A.p, _, A.dx, _, _, rfl, hH.at_ _ m1, T.cl_Program, T.n_Program_counter_widths, pfl_w _, A.w, _, rfl, .inl (SqL.of (hH.at_ _ m2)), fun l hl => q _ l (hH.alloc hl _)⟩
theorem scCb : FnScope ["self", "side", "width"] ["self"] (defScope s_Program_check_beginning) := ⟨rfl, rfl, rfl, by decide +kernel, rfl, by decide +kernel, by decide +kernel⟩
theorem ok_Program_check_beginning (T : Txt K mg t) : FnOk P w K mg base CX0 2 t.f_Program_check_beginning t.d_Program_check_beginning ["self"] (sp_check_beginning t.c_Program) := by
  refine T.F_Program_check_beginning.ok scCb (fun vs H Q E h => ?_) (fun cdv A outer s H vs Q E hr h => ?_)
  · obtain ⟨_, _, _, _, _, rfl, _⟩ := h
    rfl
  · obtain ⟨A, ms, ws, ss, L, rfl, hH, pin, hm, hw, hst, q⟩ := h
    have hL : ∀ {z : Addr × HO}, z ∈ L → H z.1 = some z.2 := fun m => hH.at_ _ m
    refine ⟨_, (pss_cons (ps_for PassesOwn.never rfl (pi_list (pe_fld (pv 0) rfl)) (pg_name (i := 1) scCb.nd rfl (Or.inl rfl))
        (pss_one (ps_expr (pe_call (ok_check_side T) (hr.mono (by decide)) (by rfl) T.m_check_side T.F_check_side.kp (b_check_side T) .nil pass0 (pa_cons (pv 1) pa_nil)))))
      (pss_cons (ps_for PassesOwn.never rfl (pi_list (pe_fld (pv 0) rfl)) (pg_name (i := 2) scCb.nd rfl (Or.inl rfl))
        (pss_one (ps_expr (pe_call (ok_check_width T) (hr.mono (by decide)) (by rfl) T.m_check_width T.F_check_width.kp (b_check_width T) .nil pass0 (pa_cons (pv 2) pa_nil)))))
      (pss_one (ps_if (pt_not (pt_truth (pe_fld (pv 0) rfl) (by intro _; rfl)))
        (pss_one ps_never)
        pss_nil)))), ?_⟩
    refine ⟨_, rfl, A.p, _, A.dx, _, _, rfl, hL pin.p, T.cl_Program, T.n_Program_mark_sides, pfl_m _, A.m, rfl, ⟨_, SqL.of (hL pin.m)⟩, for_list (xs := ms.map V.int) (fun i σ H' => ∃ (o1 o2 : Option V), σ = [some (.ref A.p), o1, o2] ∧ H' = H) ⟨_, _, rfl, rfl⟩ (fun i σ H' _ ⟨_, _, _, e⟩ => by rw [e]; exact SqL.of (hL pin.m)) ?_ ?_⟩
    · rintro i x σ H' hx ⟨o1, o2, rfl, rfl⟩
      rw [List.getElem?_map] at hx
      obtain ⟨n, hn, rfl⟩ := Option.map_eq_some_iff.mp hx
      exact ⟨_, rfl, n, rfl, hm n (List.mem_of_getElem? hn), _, _, rfl, rfl⟩
    · rintro σ H' ⟨o1, o2, rfl, rfl⟩
      refine ⟨_, rfl, A.p, _, A.dx, _, _, rfl, hL pin.p, T.cl_Program, T.n_Program_counter_widths, pfl_w _, A.w, rfl, ⟨_, SqL.of (hL pin.w)⟩, for_list (xs := ws.map V.int) (fun i σ H1 => ∃ (o1 o2 : Option V), σ = [some (.ref A.p), o1, o2] ∧ H1 = H') ⟨_, _, rfl, rfl⟩ (fun i σ H1 _ ⟨_, _, _, e⟩ => by rw [e]; exact SqL.of (hL pin.w)) ?_ ?_⟩
      · rintro i x σ H1 hx ⟨o1, o2, rfl, rfl⟩
        rw [List.getElem?_map] at hx
        obtain ⟨n, hn, rfl⟩ := Option.map_eq_some_iff.mp hx
        have := hw n (List.mem_of_getElem? hn)
        exact ⟨_, rfl, n, rfl, this.1, this.2, _, _, rfl, rfl⟩
      · rintro σ H1 ⟨o1, o2, rfl, rfl⟩
        refine ⟨_, rfl, A.p, _, A.dx, _, _, rfl, hL pin.p, T.cl_Program, T.n_Program_stretches, pfl_s _, true, .inl ⟨_, SqL.of (hL pin.s), ?_⟩, iteF q⟩
        cases ss with
        | nil => exact absurd rfl hst
        | cons a b => rfl
theorem scCc : FnScope ["self", "called", "stretch"] ["self", "called", "stretch"] (defScope s_Program_check_called) := ⟨rfl, rfl, rfl, by decide +kernel, rfl, by decide +kernel, by decide +kernel⟩
theorem ok_Program_check_called (T : Txt K mg t) : FnOk P w K mg base CX0 2 t.f_Program_check_called t.d_Program_check_called ["self", "called", "stretch"] (sp_check_called t.c_Program) := by
  refine T.F_Program_check_called.ok scCc (fun vs H Q E h => ?_) (fun cdv A outer s H vs Q E hr h => ?_)
  · obtain ⟨_, _, _, _, _, _, _, rfl, _⟩ := h
    rfl
  · obtain ⟨A, ms, ws, ss, L, n, k, rfl, hH, pin, h0, h1, q⟩ := h
    have hL : ∀ {z : Addr × HO}, z ∈ L → H z.1 = some z.2 := fun m => hH.at_ _ m
    refine ⟨_, (pss_cons (ps_expr (pe_call (ok_check_stretch T) (hr.mono (by decide)) (by rfl) T.m_check_stretch T.F_check_stretch.kp (b_check_stretch T) .nil pass0 (pa_cons (pv 1) (pa_cons (pe_meth0 (pv 0) T.cl_Program T.M_Program_many (ok_Program_many T) (hr.mono (by decide)) (b_Program_many T) .nil pass0) pa_nil))))
      (pss_one (ps_if (pt_cmpR op_le (pv 1) (pv 2) (nomark _))
        (pss_one ps_never)
        pss_nil))), ?_⟩
    refine ⟨_, rfl, _, rfl, A.p, A.dx, _, rfl, hL pin.p, (pfl_n _).1, A, _, rfl, hL pin.p, hL pin.s, n, _, rfl, by omega, (by unfold ssV; rw [List.length_map]; exact h1), ?_⟩
    exact ⟨_, rfl, _, rfl, _, _, rfl, rfl, _, rfl, ifF (decide_eq_false (by omega)) q⟩
end

end P


set_option Elab.async false
set_option linter.all false
set_option maxRecDepth 100000
set_option maxHeartbeats 4000000
namespace P
open PySem L2

theorem call_list_ofK {X : Cx} {K : PySem.W.Frag} (hK : X.K = K) : CallR X (.type "list") (fun xs H Q => ∃ p ys, xs = [.ref p] ∧ (SqL K H p ys ∨ SqT K H p ys) ∧ ∀ l, H l = none → Q (.ref l) (upd H l (.lst ys))) := by subst hK; exact call_list_of
section
variable {P : Program} {w : World} {K : PySem.W.Frag} {mg : Str → Option Value} {base : Heap} {t : Adr}
theorem scPt : FnScope ["self", "part", "number", "stretch"] ["self", "part", "number", "stretch"] (defScope s_Program_check_part) := ⟨rfl, rfl, rfl, by decide +kernel, rfl, by decide +kernel, by decide +kernel⟩
theorem ok_Program_check_part (T : Txt K mg t) : FnOk P w K mg base CX0 3 t.f_Program_check_part t.d_Program_check_part ["self", "part", "number", "stretch"] (sp_check_part t.c_Program) := by
  refine T.F_Program_check_part.ok scPt (fun vs H Q E h => ?_) (fun cdv A outer s H vs Q E hr h => ?_)
  · obtain ⟨_, _, _, _, _, _, _, _, _, rfl, _⟩ := h
    rfl
  · obtain ⟨A, ms, ws, ss, L, k, p, n, z, rfl, hH, pin, hz, hp, q⟩ := h
    have hL : ∀ {z : Addr × HO}, z ∈ L → H z.1 = some z.2 := fun m => hH.at_ _ m
    have hzm := List.mem_of_getElem? hz
    refine ⟨_, (pss_one (ps_if (pt_cmpR op_eq (pv 1) pe_str (nomark _))
        (pss_one (ps_expr (pe_call (ok_check_note T) (hr.mono (by decide)) (by rfl) T.m_check_note T.F_check_note.kp (b_check_note T) .nil pass0 (pa_cons (pv 2) pa_nil))))
        (pss_one (ps_if (pt_cmpR op_eq (pv 1) pe_str (nomark _))
            (pss_one (ps_expr (pe_call (ok_check_mark T) (hr.mono (by decide)) (by rfl) T.m_check_mark T.F_check_mark.kp (b_check_mark T) .nil pass0 (pa_cons (pv 2) (pa_cons (pe_callB call_len_seq (by rfl) T.z_len (by rfl) (pa_cons (pe_fld (pv 0) rfl) pa_nil)) pa_nil)))))
            (pss_one (ps_if (pt_cmpR op_eq (pv 1) pe_str (nomark _))
                (pss_one (ps_expr (pe_call (ok_check_side T) (hr.mono (by decide)) (by rfl) T.m_check_side T.F_check_side.kp (b_check_side T) .nil pass0 (pa_cons (pv 2) pa_nil))))
                (pss_one (ps_if (pt_cmpR op_eq (pv 1) pe_str (nomark _))
                    (pss_one (ps_expr (pe_call (ok_check_counter T) (hr.mono (by decide)) (by rfl) T.m_check_counter T.F_check_counter.kp (b_check_counter T) .nil pass0 (pa_cons (pv 2) (pa_cons (pe_callB call_len_seq (by rfl) T.z_len (by rfl) (pa_cons (pe_fld (pv 0) rfl) pa_nil)) pa_nil)))))
                    (pss_one (ps_if (pt_cmpR op_eq (pv 1) pe_str (nomark _))
                        (pss_one (ps_expr (pe_call (ok_check_row T) (hr.mono (by decide)) (by rfl) T.m_check_row T.F_check_row.kp (b_check_row T) .nil pass0 (pa_cons (pv 2) (pa_cons (pe_callB call_len_seq (by rfl) T.z_len (by rfl) (pa_cons (pe_ix ix_list (pe_fld (pv 0) rfl) (pv 3) (fun _ _ => rfl)) pa_nil)) pa_nil)))))
                        (pss_one (ps_expr (pe_meth (pv 0) T.cl_Program T.M_Program_check_called (ok_Program_check_called T) (hr.mono (by decide)) (b_Program_check_called T) .nil pass0 (pa_cons (pv 2) (pa_cons (pv 3) pa_nil))))))))))))))), ?_⟩
    rcases hp with ⟨rfl, h0, h1⟩ | ⟨rfl, h0, h1⟩ | ⟨rfl, h0⟩ | ⟨rfl, h0, h1⟩ | ⟨rfl, h0, h1⟩ | ⟨rfl, h0, h1⟩
    · refine ⟨_, rfl, rfl, _, rfl, ifT (by decide +kernel) ?_⟩
      exact ⟨_, rfl, n, rfl, h0, h1, q⟩
    · refine ⟨_, rfl, rfl, _, rfl, ifF (by decide +kernel) ?_⟩
      refine ⟨_, rfl, rfl, _, rfl, ifT (by decide +kernel) ?_⟩
      exact ⟨_, rfl, _, rfl, A.p, _, A.dx, _, _, rfl, hL pin.p, T.cl_Program, T.n_Program_mark_sides, pfl_m _, A.m, _, rfl, .inl (SqL.of (hL pin.m)), n, _, rfl, h0, (by rw [List.length_map]; exact h1), q⟩
    · refine ⟨_, rfl, rfl, _, rfl, ifF (by decide +kernel) ?_⟩
      refine ⟨_, rfl, rfl, _, rfl, ifF (by decide +kernel) ?_⟩
      refine ⟨_, rfl, rfl, _, rfl, ifT (by decide +kernel) ?_⟩
      exact ⟨_, rfl, n, rfl, h0, q⟩
    · refine ⟨_, rfl, rfl, _, rfl, ifF (by decide +kernel) ?_⟩
      refine ⟨_, rfl, rfl, _, rfl, ifF (by decide +kernel) ?_⟩
      refine ⟨_, rfl, rfl, _, rfl, ifF (by decide +kernel) ?_⟩
      refine ⟨_, rfl, rfl, _, rfl, ifT (by decide +kernel) ?_⟩
      exact ⟨_, rfl, _, rfl, A.p, _, A.dx, _, _, rfl, hL pin.p, T.cl_Program, T.n_Program_counter_widths, pfl_w _, A.w, _, rfl, .inl (SqL.of (hL pin.w)), n, _, rfl, h0, (by rw [List.length_map]; exact h1), q⟩
    · refine ⟨_, rfl, rfl, _, rfl, ifF (by decide +kernel) ?_⟩
      refine ⟨_, rfl, rfl, _, rfl, ifF (by decide +kernel) ?_⟩
      refine ⟨_, rfl, rfl, _, rfl, ifF (by decide +kernel) ?_⟩
      refine ⟨_, rfl, rfl, _, rfl, ifF (by decide +kernel) ?_⟩
      refine ⟨_, rfl, rfl, _, rfl, ifT (by decide +kernel) ?_⟩
      exact ⟨_, rfl, _, rfl, A.p, _, A.dx, _, _, rfl, hL pin.p, T.cl_Program, T.n_Program_stretches, pfl_s _, _, rfl, A.s, _, _, _, rfl, rfl, SqL.of (hL pin.s), atI_nat (ssV_get hz), z.1, _, rfl, .inl (SqL.of (hL (pin.l z hzm))), n, _, rfl, h0, (by unfold rwV; rw [List.length_map]; exact h1), q⟩
    · refine ⟨_, rfl, rfl, _, rfl, ifF (by decide +kernel) ?_⟩
      refine ⟨_, rfl, rfl, _, rfl, ifF (by decide +kernel) ?_⟩
      refine ⟨_, rfl, rfl, _, rfl, ifF (by decide +kernel) ?_⟩
      refine ⟨_, rfl, rfl, _, rfl, ifF (by decide +kernel) ?_⟩
      refine ⟨_, rfl, rfl, _, rfl, ifF (by decide +kernel) ?_⟩
      exact ⟨_, rfl, A.p, A.dx, _, rfl, hL pin.p, pfl_cc _, _, rfl, _, rfl, A, ms, ws, ss, L, n, k, rfl, hH, pin, h0, h1, q⟩
theorem scPr : FnScope ["self", "stretch", "rows", "row", "part", "number"] ["self", "stretch"] (defScope s_Program_check_rows) := ⟨rfl, rfl, rfl, by decide +kernel, rfl, by decide +kernel, by decide +kernel⟩
theorem ok_Program_check_rows (T : Txt K mg t) : FnOk P w K mg base CX0 4 t.f_Program_check_rows t.d_Program_check_rows ["self", "stretch"] (sp_check_rows t.c_Program) := by
  refine T.F_Program_check_rows.ok scPr (fun vs H Q E h => ?_) (fun cdv A outer s H vs Q E hr h => ?_)
  · obtain ⟨_, _, _, _, _, _, _, rfl, _⟩ := h
    rfl
  · obtain ⟨A, ms, ws, ss, L, k, z, rfl, hH, pin, hz, hok, ⟨la, ly, hla, hlast⟩, q⟩ := h
    obtain ⟨aE, eE, hE⟩ := T.x_PARTS
    have T_r_PARTS : RelV (.ref aE) t.u_PARTS := by rw [eE]; rfl
    obtain ⟨aP, oP, its, nn, eP, k1, k2, k3, k4, k5⟩ := T.x_LAST_WORDS
    have T_r_LAST_WORDS : RelV (.ref aP) t.u_LAST_WORDS := by rw [eP]; rfl
    have hzm := List.mem_of_getElem? hz
    refine ⟨_, (pss_cons (ps_set (i := 2) scPr.nd rfl (Or.inl rfl) (pe_ix ix_list (pe_fld (pv 0) rfl) (pv 1) (fun _ _ => rfl)))
      (pss_cons (ps_if (pt_not (pt_truth (pv 2) (by intro _; rfl)))
        (pss_one ps_never)
        pss_nil)
      (pss_cons (ps_for PassesOwn.never rfl (pi_list (pv 2)) (pg_name (i := 3) scPr.nd rfl (Or.inl rfl))
        (pss_one (ps_for PassesOwn.never rfl (pi_zipTT (by rfl) T.z_zip (pa_cons (pe_ixT (pe_glob (by rfl) T.g_PARTS T_r_PARTS) (pe_ix ix_tup (pv 3) pe_int (fun _ _ => rfl)) (fun _ _ => rfl)) (pa_cons (pe_slice sl_tup (pv 3) (po_some pe_int) po_none) pa_nil))) (pg_tup rfl (pgs_cons (pg_name (i := 4) scPr.nd rfl (Or.inl rfl)) (pgs_cons (pg_name (i := 5) scPr.nd rfl (Or.inl rfl)) pgs_nil)))
            (pss_one (ps_expr (pe_meth (pv 0) T.cl_Program T.M_Program_check_part (ok_Program_check_part T) (hr.mono (by decide)) (b_Program_check_part T) .nil pass0 (pa_cons (pv 4) (pa_cons (pv 5) (pa_cons (pv 1) pa_nil)))))))))
      (pss_one (ps_if (pt_cmpR op_notIn_seq (pe_ix ix_tup (pe_ix ix_list (pv 2) (pe_un un_neg pe_int) (fun _ _ => rfl)) pe_int (fun _ _ => rfl)) (pe_glob (by rfl) T.g_LAST_WORDS T_r_LAST_WORDS) (by rfl))
        (pss_one ps_never)
        pss_nil))))), ?_⟩
    have hL : ∀ {H' : Hp} {z : Addr × HO}, Has H' L → z ∈ L → H' z.1 = some z.2 := fun h m => h.at_ _ m
    have hne : rwV z.2 ≠ [] := by
      intro e
      have : z.2 = [] := by simpa [rwV] using e
      rw [this] at hla
      cases hla
    refine ⟨_, rfl, A.p, _, A.dx, _, _, rfl, hL hH pin.p, T.cl_Program, T.n_Program_stretches, pfl_s _, _, rfl, A.s, _, _, _, rfl, rfl, SqL.of (hL hH pin.s), atI_nat (ssV_get hz), ?_⟩
    refine ⟨_, rfl, true, .inl ⟨_, SqL.of (hL hH (pin.l z hzm)), ?_⟩, iteF ?_⟩
    · cases e : rwV z.2 with
      | nil => exact absurd e hne
      | cons a b => rfl
    refine ⟨_, rfl, z.1, rfl, ⟨_, SqL.of (hL hH (pin.l z hzm))⟩, for_list (xs := rwV z.2) (fun i σ H' => ∃ (o1 o2 o3 : Option V), σ = [some (.ref A.p), some (.int k), some (.ref z.1), o1, o2, o3] ∧ Has H' L) ⟨_, _, _, rfl, hH⟩ (fun i σ H' _ ⟨_, _, _, _, e⟩ => SqL.of (hL e (pin.l z hzm))) ?_ ?_⟩
    · rintro i x σ H' hx ⟨o1, o2, o3, rfl, h1⟩
      unfold rwV at hx
      rw [List.getElem?_map] at hx
      obtain ⟨n, hn, rfl⟩ := Option.map_eq_some_iff.mp hx
      have hnm := List.mem_of_getElem? hn
      have m2 := hok n hnm
      have g1 := hL h1 (pin.r z hzm n hnm)
      have hcut : cutV (.str n.2.ws :: n.2.ns.map V.int) (some 1) none = n.2.ns.map V.int := by cases n.2 <;> rfl
      refine ⟨_, rfl, n.1, _, _, _, rfl, rfl, SqT.of g1, atI_nat (j := 0) rfl, _, aE, _, n.2.ps, rfl, rfl, hE, n.2.parts, n.2.psl, fun b hb => ?_⟩
      refine ⟨_, rfl, _, rfl, n.1, _, rfl, SqT.of g1, ?_, fun p hp => ?_⟩
      · unfold Rw.v
        exact cutok (by rw [List.length_cons, List.length_map]; omega) (by rw [List.length_cons, List.length_map]; exact n.2.nsl)
      unfold Rw.v
      rw [hcut]
      have h2 := h1.alloc hp (.tup (n.2.ns.map V.int))
      refine ⟨b, p, rfl, ⟨_, hb _⟩, ⟨_, SqT.of (h2.get 0 rfl)⟩, for_zipT (xs := n.2.ps.map V.str) (ys := n.2.ns.map V.int) (by rw [List.length_map, List.length_map]; exact n.2.len) (fun i σ H' => ∃ (o2 o3 : Option V), σ = [some (.ref A.p), some (.int k), some (.ref z.1), some (.ref n.1), o2, o3] ∧ Has H' ((p, .tup (n.2.ns.map V.int)) :: L)) ⟨_, _, rfl, h2⟩ (fun i σ H' _ ⟨_, _, _, e⟩ => ⟨hb _, SqT.of (e.get 0 rfl)⟩) ?_ ?_⟩
      · rintro j x y σ H3 p3 hx hy ⟨o4, o5, rfl, h3⟩ hp3
        rw [List.getElem?_map] at hx hy
        obtain ⟨x, hx1, rfl⟩ := Option.map_eq_some_iff.mp hx
        obtain ⟨y, hy1, rfl⟩ := Option.map_eq_some_iff.mp hy
        have h4 := h3.alloc hp3 (.tup [.str x, .int y])
        refine ⟨p3, _, rfl, SqT.of (h4.get 0 rfl), rfl, _, _, rfl, _, _, rfl, rfl, ?_⟩
        exact ⟨_, rfl, A.p, A.dx, _, rfl, hL h4.tail.tail pin.p, (pfl_n _).2.2.2.2.2.2, _, rfl, _, rfl, _, rfl, A, ms, ws, ss, L, k, x, y, z, rfl, h4.tail.tail, pin, hz, Rw.part m2 hx1 hy1, _, _, rfl, h4.tail⟩
      · rintro σ H3 ⟨o4, o5, rfl, h3⟩
        exact ⟨_, _, _, rfl, h3.tail⟩
    · rintro σ H' ⟨o1, o2, o3, rfl, h1⟩
      obtain ⟨rs', ers⟩ := List.getLast?_eq_some_iff.mp hla
      have eV : rwV z.2 = rwV rs' ++ [.ref la] := by rw [ers]; unfold rwV; rw [List.map_append]; rfl
      have g1 := hL h1 (pin.l z hzm)
      have g2 := hL h1 (pin.r z hzm (la, ly) (by rw [ers]; simp))
      rw [eV] at g1
      exact ⟨_, rfl, 1, rfl, z.1, _, _, _, rfl, rfl, SqL.of g1, atI_last _ _, la, _, _, _, rfl, rfl, SqT.of g2, atI_nat (j := 0) rfl, aP, _, rfl, .inr (.inr ⟨oP, its, nn, k1, k2, k3, k4, k5⟩), rfl, rfl, _, rfl, ifF (ly.lastIn hlast) (q _ h1)⟩
theorem scPn : FnScope ["self", "marks", "widths", "stretches", "stretch"] ["self", "marks", "widths", "stretches"] (defScope s_Program_init) := ⟨rfl, rfl, rfl, by decide +kernel, rfl, by decide +kernel, by decide +kernel⟩
theorem ok_Program_init (T : Txt K mg t) : FnOk P w K mg base CX0 5 t.f_Program_init t.d_Program_init ["self", "marks", "widths", "stretches"] (sp_Pinit t.c_Program) := by
  refine T.F_Program_init.ok scPn (fun vs H Q E h => ?_) (fun cdv A outer s H vs Q E hr h => ?_)
  · obtain ⟨_, _, _, _, _, _, _, _, _, rfl, _⟩ := h
    rfl
  · obtain ⟨p, dx, m0, w0, s0, ms, ws, ss, L, rfl, hH, mm0, mw0, ms0, ml, mr, hms, hws, hne, hlen, hgood, q⟩ := h
    refine ⟨_, (pss_cons (ps_fld (pv 0) (pe_callTy call_list_of (by rfl) T.z_list (by rfl) (pa_cons (pv 1) pa_nil)) rfl)
      (pss_cons (ps_fld (pv 0) (pe_callTy call_list_of (by rfl) T.z_list (by rfl) (pa_cons (pv 2) pa_nil)) rfl)
      (pss_cons (ps_fld (pv 0) (pe_lc (esc := defScope s_Program_init) (k := 1) ["rows", "self", "marks", "widths", "stretches", "stretch"] rfl (pi_list (pv 3)) (fun _ _ _ _ _ => by exact (pg_name (i := 0) (show List.Nodup (["rows", "self", "marks", "widths", "stretches", "stretch"] : List Str) from by decide +kernel) rfl (Or.inl rfl))) (fun _ _ _ _ _ => by exact pts_nil) (fun _ _ _ _ _ => by exact (pe_callTy (call_list_ofK (K := K) rfl) (by rfl) T.z_list (by rfl) (pa_cons (pv 0) pa_nil))) rfl (by decide +kernel) (by decide +kernel) rfl (by decide +kernel) (by rfl) (fun _ _ h _ => h) (by decide +kernel)) rfl)
      (pss_cons (ps_expr (pe_meth0 (pv 0) T.cl_Program T.M_Program_check_beginning (ok_Program_check_beginning T) (hr.mono (by decide)) (b_Program_check_beginning T) .nil pass0))
      (pss_one (ps_for PassesOwn.never rfl (pi_range1 (by rfl) T.z_range (pa_cons (pe_meth0 (pv 0) T.cl_Program T.M_Program_many (ok_Program_many T) (hr.mono (by decide)) (b_Program_many T) .nil pass0) pa_nil)) (pg_name (i := 4) scPn.nd rfl (Or.inl rfl))
        (pss_one (ps_expr (pe_meth (pv 0) T.cl_Program T.M_Program_check_rows (ok_Program_check_rows T) (hr.mono (by decide)) (b_Program_check_rows T) .nil pass0 (pa_cons (pv 4) pa_nil)))))))))), ?_⟩
    refine ⟨_, rfl, m0, _, rfl, .inl (SqL.of (hH.tail.tail.at_ _ mm0)), fun a1 ha1 => ?_⟩
    have h1 := hH.alloc ha1 (.lst (ms.map V.int))
    refine ⟨_, rfl, p, _, dx, _, rfl, h1.get 1 rfl, T.cl_Program, T.n_Program_mark_sides, (show 0 < 1000 by decide), ?_⟩
    have h2 := h1.puti 1 rfl (.ins t.c_Program dx [("mark_sides", .ref a1)])
    refine ⟨_, rfl, w0, _, rfl, .inl (SqL.of (h2.tail.tail.tail.at_ _ mw0)), fun a2 ha2 => ?_⟩
    have h3 := h2.alloc ha2 (.lst (ws.map V.int))
    refine ⟨_, rfl, p, _, dx, _, rfl, h3.get 2 rfl, T.cl_Program, T.n_Program_counter_widths, (show 1 < 1000 by decide), ?_⟩
    have h4 := h3.puti 2 rfl (.ins t.c_Program dx [("mark_sides", .ref a1), ("counter_widths", .ref a2)])
    refine ⟨_, rfl, s0, rfl, ⟨_, SqL.of (h4.tail.tail.tail.tail.at_ _ ms0)⟩, fun D hD => ?_⟩
    have inL : ∀ {H' : Hp} {N : Kn} {z c1 c2 c3 c4 c5 : Addr × HO}, Has H' (c1 :: (N ++ (c2 :: c3 :: c4 :: c5 :: L))) → z ∈ L → H' z.1 = some z.2 := fun h m => h.at_ _ (List.mem_cons_of_mem _ (List.mem_append_right _ (by simp [m])))
    refine ⟨fun n m zs H' => ∃ (s1 : Ss) (N : Kn), m = ss.length - n ∧ n ≤ ss.length ∧ s1.map (·.2) = (ss.take n).map (·.2) ∧ zs = ssV s1 ∧ (∀ z ∈ s1, (z.1, HO.lst (rwV z.2)) ∈ N) ∧ Has H' ((D, .lst zs) :: (N ++ ((a2, .lst (ws.map V.int)) :: (a1, .lst (ms.map V.int)) :: (p, .ins t.c_Program dx [("mark_sides", .ref a1), ("counter_widths", .ref a2)]) :: (dx, .own p) :: L))), ⟨_, [], [], rfl, Nat.zero_le _, rfl, rfl, by simp, h4.alloc hD _⟩, ?_⟩
    rintro n m zs H5 ⟨s1, N, rfl, hn, es1, rfl, hN, h5⟩
    refine ⟨h5.get 0 rfl, ?_⟩
    have g0 := inL h5 ms0
    have ls1 : s1.length = n := by
      have := congrArg List.length es1
      simp at this
      omega
    by_cases hlt : n < ss.length
    · have hx0 : (ssV ss)[n]? = some (.ref ss[n].1) := ssV_get (List.getElem?_eq_getElem hlt)
      refine .inr ⟨⟨_, _, SqL.of g0, hx0⟩, ?_⟩
      rintro x H6 ⟨rfl, hx⟩
      have e1 := hx _ (SqL.of g0)
      rw [hx0] at e1
      cases e1
      refine ⟨rfl, tTrueT ?_⟩
      refine ⟨_, rfl, ss[n].1, _, rfl, .inl (SqL.of (inL h5 (ml _ (List.getElem_mem hlt)))), fun rl hrl => ?_⟩
      have h6 := h5.alloc hrl (.lst (rwV ss[n].2))
      refine ⟨sizeOk (by unfold ssV; rw [List.length_map]; omega), h6.get 1 rfl, ss.length - (n + 1), by omega, s1 ++ [(rl, ss[n].2)], (rl, .lst (rwV ss[n].2)) :: N, rfl, hlt, ?_, ?_, ?_, ?_⟩
      · rw [List.map_append, es1, List.take_succ, List.map_append, List.getElem?_eq_getElem hlt]
        rfl
      · unfold ssV
        rw [List.map_append]
        rfl
      · intro z hz
        rcases List.mem_append.mp hz with hz | hz
        · exact List.mem_cons_of_mem _ (hN z hz)
        · cases List.mem_singleton.mp hz
          exact List.mem_cons_self
      · exact (h6.puti 1 rfl _).swap2
    · have en : n = ss.length := by omega
      rw [en, List.take_length] at es1
      refine .inl ⟨⟨_, SqL.of g0, by unfold ssV; rw [List.length_map]; omega⟩, ?_⟩
      have h6 := Has.comm (X := (D, HO.lst (ssV s1)) :: N) (Y := [(a2, .lst (ws.map V.int)), (a1, .lst (ms.map V.int)), (p, .ins t.c_Program dx [("mark_sides", .ref a1), ("counter_widths", .ref a2)]), (dx, .own p)]) h5
      refine ⟨_, rfl, p, _, dx, _, rfl, h6.get 2 rfl, T.cl_Program, T.n_Program_stretches, (show 2 < 1000 by decide), ?_⟩
      have h7 := h6.puti 2 rfl (.ins t.c_Program dx (pfl ⟨p, dx, a1, a2, D⟩))
      have ef : putF "stretches" (.ref D) [("mark_sides", .ref a1), ("counter_widths", .ref a2)] = pfl ⟨p, dx, a1, a2, D⟩ := by kernel_rfl
      have h8 := h7
      rw [← ef] at h8
      rw [ef] at h8 ⊢
      obtain ⟨N2, eN2⟩ : ∃ N2 : Kn, [(a2, HO.lst (ws.map V.int)), (a1, .lst (ms.map V.int)), (p, .ins t.c_Program dx (pfl ⟨p, dx, a1, a2, D⟩)), (dx, .own p)] ++ ((D, HO.lst (ssV s1)) :: N) = N2 := ⟨_, rfl⟩
      have h9 : Has (upd H5 p (.ins t.c_Program dx (pfl ⟨p, dx, a1, a2, D⟩))) (N2 ++ L) := by rw [← eN2]; exact h7
      have pin : PIn t.c_Program ⟨p, dx, a1, a2, D⟩ ms ws s1 (N2 ++ L) := by
        rw [← eN2]
        refine ⟨by simp, by simp, by simp, by simp, fun z hz => ?_, fun z hz x hx => ?_⟩
        · exact List.mem_append_left _ (by simp [hN z hz])
        · have : z.2 ∈ ss.map (·.2) := by rw [← es1]; exact List.mem_map_of_mem hz
          obtain ⟨z', h1, h2⟩ := List.mem_map.mp this
          exact List.mem_append_right _ (mr z' h1 x (by rw [h2]; exact hx))
      have pinN : PInN t.c_Program ⟨p, dx, a1, a2, D⟩ ms ws s1 N2 := by
        rw [← eN2]
        exact ⟨by simp, by simp, by simp, by simp, fun z hz => by simp [hN z hz]⟩
      obtain ⟨A, hA⟩ : ∃ A : PA, (⟨p, dx, a1, a2, D⟩ : PA) = A := ⟨_, rfl⟩
      have hp : p = A.p := by rw [← hA]
      rw [hA] at pin pinN
      clear h7 h8 h6 h5
      generalize upd H5 p (.ins t.c_Program dx (pfl ⟨p, dx, a1, a2, D⟩)) = H6 at h9 ⊢
      clear hA eN2
      subst hp
      have hL : ∀ {H' : Hp} {z : Addr × HO}, Has H' (N2 ++ L) → z ∈ N2 ++ L → H' z.1 = some z.2 := fun h m => h.at_ _ m
      have lss : s1.length = ss.length := by rw [ls1, en]
      refine ⟨_, rfl, A.p, A.dx, _, rfl, hL h9 pin.p, (pfl_n _).2.2.2.2.1, A, ms, ws, s1, _, rfl, h9, pin, hms, hws, (by intro e; rw [e] at lss; exact hne (List.length_eq_zero_iff.mp lss.symm)), ?_⟩
      refine ⟨_, rfl, A.p, A.dx, _, rfl, hL h9 pin.p, (pfl_n _).1, A, _, rfl, hL h9 pin.p, hL h9 pin.s, _, rfl, (by omega), (by unfold ssV; rw [List.length_map]; omega), for_range (fun i σ H' => ∃ (o : Option V), σ = [some (.ref A.p), some (.ref m0), some (.ref w0), some (.ref s0), o] ∧ Has H' (N2 ++ L)) ⟨_, rfl, h9⟩ ?_ ?_⟩
      · rintro i σ H1 hi ⟨o, rfl, h8⟩
        have hi : i < s1.length := by
          have : i < ((ssV s1).length : Int).toNat := hi
          unfold ssV at this
          rw [List.length_map] at this
          omega
        have hz := List.getElem?_eq_getElem hi
        have hg := (hgood.tr es1) i _ hz
        rw [Int.zero_add]
        exact ⟨_, rfl, A.p, A.dx, _, rfl, hL h8 pin.p, (pfl_n _).2.2.2.2.2.1, _, rfl, A, ms, ws, s1, _, i, _, rfl, h8, pin, hz, hg.1, hg.2, fun H2 h9 => ⟨_, rfl, h9⟩⟩
      · rintro σ H1 ⟨o, rfl, h8⟩
        exact q _ A s1 N2 rfl es1 pinN pin h8
end

end P


set_option Elab.async false
set_option linter.all false
set_option maxRecDepth 100000
set_option maxHeartbeats 4000000
namespace P
open PySem L2

theorem bring_perm {α : Type} : ∀ (L : List α) (i : Nat) (hi : i < L.length), L.Perm (L[i] :: L.eraseIdx i)
  | x :: L, 0, _ => List.Perm.refl _
  | x :: L, i + 1, hi => by
    have := bring_perm L i (by simpa using hi)
    simp only [List.getElem_cons_succ, List.eraseIdx_cons_succ]
    exact (this.cons x).trans (List.Perm.swap _ _ _)
theorem bringH {H : Hp} {L : Kn} (h : Has H L) (i : Nat) {x : Addr × HO} (e : L[i]? = some x) : Has H (x :: L.eraseIdx i) := by
  obtain ⟨hi, rfl⟩ := List.getElem?_eq_some_iff.mp e
  exact h.perm (bring_perm L i hi)
theorem hcast {H : Hp} {L L' : Kn} (h : Has H L) (e : L = L') : Has H L' := e ▸ h
theorem sz {n : Nat} (h : n ≤ 1000000) : n ≤ sizeLine := Nat.le_of_lt (sizeOk h)

theorem and_if {p q : Prop} [Decidable p] [Decidable q] {A B U : Prop} (h : (if decide q = true then A else B) → U) (h1 : p → q → A) (h2 : ¬ (p ∧ q) → B) : if decide p = true then U else (if false = true then A else B) := by
  by_cases hp : p
  · refine ifT (decide_eq_true hp) (h ?_)
    by_cases hq : q
    · exact ifT (decide_eq_true hq) (h1 hp hq)
    · exact ifF (decide_eq_false hq) (h2 fun z => hq z.2)
  · exact ifF (decide_eq_false hp) (iteF (h2 fun z => hp z.1))
theorem and_if3 {p q r : Prop} [Decidable p] [Decidable q] [Decidable r] {A B U U' : Prop} (h : (if decide q = true then U' else (if false = true then A else B)) → U) (h' : (if decide r = true then A else B) → U') (h1 : p → q → r → A) (h2 : ¬ (p ∧ q ∧ r) → B) : if decide p = true then U else (if false = true then A else B) := by
  by_cases hp : p
  · exact ifT (decide_eq_true hp) (h (and_if h' (fun hq hr => h1 hp hq hr) (fun z => h2 fun w => z w.2)))
  · exact ifF (decide_eq_false hp) (iteF (h2 fun z => hp z.1))
theorem dgI {ds : List Int} (j : Int) (h0 : 0 ≤ j) (h1 : j < ds.length) : atI (ds.map V.int) j = some (.int (ds.getD j.toNat 0)) := by
  obtain ⟨i, rfl⟩ := Int.eq_ofNat_of_zero_le h0
  exact atI_nat (by
    rw [List.getElem?_map, List.getElem?_eq_getElem (show i < ds.length by omega)]
    simp [List.getD, List.getElem?_eq_getElem (show i < ds.length by omega)])
def sp_lrow : Sp := fun vs H Q _ => ∃ (d lt : Addr) (ds : List Int) (k more : Int) (many nm nc st ns : Nat) (L : Kn), vs = [.ref d, .int k, .int more, .int many, .int nm, .int nc, .ref lt] ∧ Has H L ∧ (d, HO.lst (ds.map V.int)) ∈ L ∧ (lt, HO.lst (intsF ((st : Int) + 1) (ns - (st + 1)))) ∈ L ∧ 0 ≤ k ∧ k + 3 < ds.length ∧ 1 ≤ many ∧
  ∀ H' a (y : Rw), y.ok nm nc many st ns → Has H' ((a, .tup y.v) :: L) → Q (.ref a) H'
def sp_copied : Sp := fun vs H Q _ => ∃ (s0 : Addr) (ss : Ss) (L : Kn), vs = [.ref s0] ∧ Has H L ∧ (s0, HO.lst (ssV ss)) ∈ L ∧ (∀ z ∈ ss, (z.1, HO.lst (rwV z.2)) ∈ L) ∧ ss.length ≤ 1000 ∧
  ∀ H' D (s1 : Ss) N, s1.map (·.2) = ss.map (·.2) → (∀ z ∈ s1, (z.1, HO.lst (rwV z.2)) ∈ N) → Has H' ((D, .lst (ssV s1)) :: (N ++ L)) → Q (.ref D) H'
section
variable {P : Program} {w : World} {K : PySem.W.Frag} {mg : Str → Option Value} {base : Heap} {t : Adr}
theorem scCy : FnScope ["_law_parts_here"] ["_law_parts_here"] (defScope s_copied) := ⟨rfl, rfl, rfl, by decide +kernel, rfl, by decide +kernel, by decide +kernel⟩
theorem ok_copied (T : Txt K mg t) : FnOk P w K mg base CX0 1 t.f_copied t.d_copied ["_law_parts_here"] sp_copied := by
  refine T.F_copied.ok scCy (fun vs H Q E h => ?_) (fun cdv A outer s H vs Q E hr h => ?_)
  · obtain ⟨_, _, _, rfl, _⟩ := h
    rfl
  · obtain ⟨s0, ss, L, rfl, hH, ms0, ml, hlen, q⟩ := h
    refine ⟨_, (pss_one (ps_ret (pe_lc (esc := defScope s_copied) (k := 1) ["_law_rows", "_law_parts_here"] rfl (pi_list (pv 0)) (fun _ _ _ _ _ => by exact (pg_name (i := 0) (show List.Nodup (["_law_rows", "_law_parts_here"] : List Str) from by decide +kernel) rfl (Or.inl rfl))) (fun _ _ _ _ _ => by exact pts_nil) (fun _ _ _ _ _ => by exact (pe_callTy (call_list_ofK (K := K) rfl) (by rfl) T.z_list (by rfl) (pa_cons (pv 0) pa_nil))) rfl (by decide +kernel) (by decide +kernel) rfl (by decide +kernel) (by rfl) (fun _ _ h _ => h) (by decide +kernel)))), ?_⟩
    refine ⟨_, rfl, s0, rfl, ⟨_, SqL.of (hH.at_ _ ms0)⟩, fun D hD => ?_⟩
    have inL : ∀ {H' : Hp} {N : Kn} {z c1 : Addr × HO}, Has H' (c1 :: (N ++ L)) → z ∈ L → H' z.1 = some z.2 := fun h m => h.at_ _ (List.mem_cons_of_mem _ (List.mem_append_right _ m))
    refine ⟨fun n m zs H' => ∃ (s1 : Ss) (N : Kn), m = ss.length - n ∧ n ≤ ss.length ∧ s1.map (·.2) = (ss.take n).map (·.2) ∧ zs = ssV s1 ∧ (∀ z ∈ s1, (z.1, HO.lst (rwV z.2)) ∈ N) ∧ Has H' ((D, .lst zs) :: (N ++ L)), ⟨_, [], [], rfl, Nat.zero_le _, rfl, rfl, by simp, hH.alloc hD _⟩, ?_⟩
    rintro n m zs H5 ⟨s1, N, rfl, hn, es1, rfl, hN, h5⟩
    refine ⟨h5.get 0 rfl, ?_⟩
    have g0 := inL h5 ms0
    have ls1 : s1.length = n := by
      have := congrArg List.length es1
      simp at this
      omega
    by_cases hlt : n < ss.length
    · have hx0 : (ssV ss)[n]? = some (.ref ss[n].1) := ssV_get (List.getElem?_eq_getElem hlt)
      refine .inr ⟨⟨_, _, SqL.of g0, hx0⟩, ?_⟩
      rintro x H6 ⟨rfl, hx⟩
      have e1 := hx _ (SqL.of g0)
      rw [hx0] at e1
      cases e1
      refine ⟨rfl, tTrueT ?_⟩
      refine ⟨_, rfl, ss[n].1, _, rfl, .inl (SqL.of (inL h5 (ml _ (List.getElem_mem hlt)))), fun rl hrl => ?_⟩
      have h6 := h5.alloc hrl (.lst (rwV ss[n].2))
      refine ⟨sizeOk (by unfold ssV; rw [List.length_map]; omega), h6.get 1 rfl, ss.length - (n + 1), by omega, s1 ++ [(rl, ss[n].2)], (rl, .lst (rwV ss[n].2)) :: N, rfl, hlt, ?_, ?_, ?_, ?_⟩
      · rw [List.map_append, es1, List.take_succ, List.map_append, List.getElem?_eq_getElem hlt]
        rfl
      · unfold ssV
        rw [List.map_append]
        rfl
      · intro z hz
        rcases List.mem_append.mp hz with hz | hz
        · exact List.mem_cons_of_mem _ (hN z hz)
        · cases List.mem_singleton.mp hz
          exact List.mem_cons_self
      · exact (h6.puti 1 rfl _).swap2
    · have en : n = ss.length := by omega
      rw [en, List.take_length] at es1
      exact .inl ⟨⟨_, SqL.of g0, by unfold ssV; rw [List.length_map]; omega⟩, q _ D s1 N es1 hN h5⟩
theorem scLr : FnScope ["_law_d", "_law_k", "_law_more", "_law_many", "_law_marks", "_law_counters", "_law_later", "_law_word", "_law_one", "_law_other"] ["_law_d", "_law_k", "_law_more", "_law_many", "_law_marks", "_law_counters", "_law_later"] (defScope s_row) := ⟨rfl, rfl, rfl, by decide +kernel, rfl, by decide +kernel, by decide +kernel⟩
theorem ok_row (T : Txt K mg t) : FnOk P w K mg base CX0 1 t.f_row t.d_row ["_law_d", "_law_k", "_law_more", "_law_many", "_law_marks", "_law_counters", "_law_later"] sp_lrow := by
  refine T.F_row.ok scLr (fun vs H Q E h => ?_) (fun cdv A outer s H vs Q E hr h => ?_)
  · obtain ⟨_, _, _, _, _, _, _, _, _, _, _, rfl, _⟩ := h
    rfl
  · obtain ⟨d, lt, ds, k, more, many, nm, nc, st, ns, L, rfl, hH, md, mlt, k0, k1, hmany, q⟩ := h
    have gd := hH.at_ _ md
    have gl := hH.at_ _ mlt
    dsimp only at gd gl
    refine ⟨_, (pss_cons (ps_set (i := 7) scLr.nd rfl (Or.inl rfl) (pe_op op_mod (pe_op op_add (pe_ix ix_list (pv 0) (pv 1) (fun _ _ => rfl)) (pv 2)) pe_int))
      (pss_cons (ps_set (i := 8) scLr.nd rfl (Or.inl rfl) (pe_op op_add (pe_ix ix_list (pv 0) (pe_op op_add (pv 1) pe_int) (fun _ _ => rfl)) (pe_op op_mul pe_int (pv 2))))
      (pss_cons (ps_set (i := 9) scLr.nd rfl (Or.inl rfl) (pe_op op_add (pe_ix ix_list (pv 0) (pe_op op_add (pv 1) pe_int) (fun _ _ => rfl)) (pe_op op_mul pe_int (pv 2))))
      (pss_cons (ps_if (PW.pt (pw_and (pt_cmpR op_eq (pv 7) pe_int (nomark _)) (pw_and1 (pt_cmpR op_gt (pv 4) pe_int (nomark _)))))
        (pss_one (ps_ret (pe_tup (pa_cons pe_str (pa_cons (pe_op op_mod (pv 8) (pv 4)) (pa_cons (pe_op op_add pe_int (pe_op op_mod (pv 9) pe_int)) pa_nil))))))
        pss_nil)
      (pss_cons (ps_if (PW.pt (pw_and (pt_cmpR op_lt (pv 7) pe_int (nomark _)) (pw_and (pt_cmpR op_gt (pv 7) pe_int (nomark _)) (pw_and1 (pt_cmpR op_gt (pv 4) pe_int (nomark _))))))
        (pss_one (ps_ret (pe_tup (pa_cons pe_str (pa_cons (pe_op op_mod (pv 8) (pv 4)) (pa_cons (pe_op op_mod (pv 9) (pv 3)) (pa_cons (pe_op op_mod (pe_ix ix_list (pv 0) (pe_op op_add (pv 1) pe_int) (fun _ _ => rfl)) (pv 3)) pa_nil)))))))
        pss_nil)
      (pss_cons (ps_if (PW.pt (pw_and (pt_cmpR op_lt (pv 7) pe_int (nomark _)) (pw_and (pt_cmpR op_gt (pv 7) pe_int (nomark _)) (pw_and1 (pt_cmpR op_gt (pv 5) pe_int (nomark _))))))
        (pss_one (ps_ret (pe_tup (pa_cons pe_str (pa_cons (pe_op op_mod (pv 8) (pv 5)) (pa_cons (pe_op op_mod (pv 9) (pv 3)) pa_nil))))))
        pss_nil)
      (pss_cons (ps_if (pt_cmpR op_eq (pv 7) pe_int (nomark _))
        (pss_one (ps_ret (pe_tup (pa_cons pe_str (pa_cons (pe_op op_mod (pv 8) (pv 3)) pa_nil)))))
        pss_nil)
      (pss_cons (ps_if (PW.pt (pw_and (pt_cmpR op_lt (pv 7) pe_int (nomark _)) (pw_and (pt_cmpR op_gt (pv 7) pe_int (nomark _)) (pw_and1 (pt_cmpR op_gt (pe_callB call_len_seq (by rfl) T.z_len (by rfl) (pa_cons (pv 6) pa_nil)) pe_int (nomark _))))))
        (pss_one (ps_ret (pe_tup (pa_cons pe_str (pa_cons (pe_ix ix_list (pv 6) (pe_op op_mod (pv 8) (pe_callB call_len_seq (by rfl) T.z_len (by rfl) (pa_cons (pv 6) pa_nil))) (fun _ _ => rfl)) pa_nil)))))
        pss_nil)
      (pss_cons (ps_if (pt_cmpR op_eq (pv 7) pe_int (nomark _))
        (pss_one (ps_ret (pe_tup (pa_cons pe_str pa_nil))))
        pss_nil)
      (pss_one (ps_ret (pe_tup (pa_cons pe_str (pa_cons (pe_op op_mod (pv 8) pe_int) pa_nil)))))))))))))), ?_⟩
    rw []
    refine ⟨_, rfl, _, rfl, d, _, _, _, rfl, rfl, SqL.of gd, dgI k k0 (by omega), _, rfl, _, _, rfl, rfl, _, _, rfl, rfl, (show (0 : Int) < 10 by decide), ?_⟩
    dsimp only [List.set]
    obtain ⟨wd, ewd⟩ : ∃ wd, (ds.getD k.toNat 0 + more) % 10 = wd := ⟨_, rfl⟩
    rw [ewd]
    refine ⟨_, rfl, _, rfl, _, _, rfl, rfl, d, _, _, _, rfl, rfl, SqL.of gd, dgI (k + 1) (by omega) (by omega), _, rfl, _, _, rfl, rfl, .inl ⟨by decide, by decide⟩, _, _, rfl, rfl, ?_⟩
    dsimp only [List.set]
    obtain ⟨one, eone⟩ : ∃ one, ds.getD (k + 1).toNat 0 + 7 * more = one := ⟨_, rfl⟩
    rw [eone]
    refine ⟨_, rfl, _, rfl, _, _, rfl, rfl, d, _, _, _, rfl, rfl, SqL.of gd, dgI (k + 2) (by omega) (by omega), _, rfl, _, _, rfl, rfl, .inl ⟨by decide, by decide⟩, _, _, rfl, rfl, ?_⟩
    dsimp only [List.set]
    obtain ⟨oth, eoth⟩ : ∃ oth, ds.getD (k + 2).toNat 0 + 5 * more = oth := ⟨_, rfl⟩
    rw [eoth]
    have em : ∀ (a b : Int), 0 < b → 0 ≤ a % b ∧ a % b < b := fun a b hb => ⟨Int.emod_nonneg _ (by omega), Int.emod_lt_of_pos _ hb⟩
    have hm0 : (0 : Int) < many := by omega
    refine ⟨_, rfl, rfl, _, rfl, ?_⟩
    rw [decInt]
    refine and_if (fun z => ⟨_, rfl, _, _, rfl, rfl, _, rfl, z⟩) (fun hw hp => ?_) (fun _ => ?_)
    · have hp : (0 : Int) < nm := by omega
      refine ⟨_, rfl, _, rfl, _, _, rfl, rfl, hp, _, rfl, _, _, rfl, rfl, (show (0 : Int) < 2 by decide), _, _, rfl, rfl, sz (show 3 ≤ 1000000 by decide), fun a ha => ?_⟩
      have := em one nm hp
      exact q _ a (.set (one % nm) (1 + oth % 2)) ⟨this.1, this.2, by omega⟩ (hH.alloc ha _)
    refine ⟨_, rfl, _, _, rfl, rfl, _, rfl, ?_⟩
    refine and_if3 (fun z => ⟨_, rfl, _, _, rfl, rfl, _, rfl, z⟩) (fun z => ⟨_, rfl, _, _, rfl, rfl, _, rfl, z⟩) (fun _ _ hp => ?_) (fun _ => ?_)
    · have hp : (0 : Int) < nm := by omega
      refine ⟨_, rfl, _, rfl, _, _, rfl, rfl, hp, _, rfl, _, rfl, _, _, rfl, rfl, hm0, _, rfl, _, rfl, _, _, rfl, rfl, d, _, _, _, rfl, rfl, SqL.of gd, dgI (k + 3) (by omega) (by omega), _, rfl, _, _, rfl, rfl, hm0, sz (show 4 ≤ 1000000 by decide), fun a ha => ?_⟩
      have e1 := em one nm hp
      have e2 := em oth many hm0
      have e3 := em (ds.getD (k + 3).toNat 0) many hm0
      exact q _ a (.ask (one % nm) (oth % many) (ds.getD (k + 3).toNat 0 % many)) ⟨e1.1, e1.2, e2.1, e2.2, e3.1, e3.2⟩ (hH.alloc ha _)
    refine ⟨_, rfl, _, _, rfl, rfl, _, rfl, ?_⟩
    refine and_if3 (fun z => ⟨_, rfl, _, _, rfl, rfl, _, rfl, z⟩) (fun z => ⟨_, rfl, _, _, rfl, rfl, _, rfl, z⟩) (fun _ _ hp => ?_) (fun _ => ?_)
    · have hp : (0 : Int) < nc := by omega
      refine ⟨_, rfl, _, rfl, _, _, rfl, rfl, hp, _, rfl, _, rfl, _, _, rfl, rfl, hm0, sz (show 3 ≤ 1000000 by decide), fun a ha => ?_⟩
      have e1 := em one nc hp
      have e2 := em oth many hm0
      exact q _ a (.bump (one % nc) (oth % many)) ⟨e1.1, e1.2, e2.1, e2.2⟩ (hH.alloc ha _)
    refine ⟨_, rfl, rfl, _, rfl, ?_⟩
    rw [decInt]
    refine ifd (fun _ => ?_) (fun _ => ?_)
    · refine ⟨_, rfl, _, rfl, _, _, rfl, rfl, hm0, sz (show 2 ≤ 1000000 by decide), fun a ha => ?_⟩
      have e1 := em one many hm0
      exact q _ a (.go (one % many)) e1 (hH.alloc ha _)
    refine ⟨_, rfl, _, _, rfl, rfl, _, rfl, ?_⟩
    refine and_if3 (fun z => ⟨_, rfl, _, _, rfl, rfl, _, rfl, z⟩) (fun z => ⟨_, rfl, lt, _, rfl, .inl (SqL.of gl), _, _, rfl, rfl, _, rfl, z⟩) (fun _ _ hp => ?_) (fun _ => ?_)
    · have hl : (intsF ((st : Int) + 1) (ns - (st + 1))).length = ns - (st + 1) := intsF_length _ _
      have hp : (0 : Int) < ((intsF ((st : Int) + 1) (ns - (st + 1))).length : Int) := by omega
      have e1 := em one _ hp
      obtain ⟨j, ej⟩ := Int.eq_ofNat_of_zero_le e1.1
      have hj : j < ns - (st + 1) := by omega
      refine ⟨_, rfl, _, rfl, _, rfl, lt, _, rfl, .inl (SqL.of gl), _, _, rfl, rfl, hp, lt, _, _, _, rfl, rfl, SqL.of gl, (by rw [ej]; exact atI_nat (intsF_get hj)), sz (show 2 ≤ 1000000 by decide), fun a ha => ?_⟩
      exact q _ a (.call ((st : Int) + 1 + (j : Int))) ⟨by omega, by omega⟩ (hH.alloc ha _)
    refine ⟨_, rfl, rfl, _, rfl, ?_⟩
    rw [decInt]
    refine ifd (fun _ => ?_) (fun _ => ?_)
    · refine ⟨sz (show 1 ≤ 1000000 by decide), fun a ha => ?_⟩
      exact q _ a .fin trivial (hH.alloc ha _)
    refine ⟨_, rfl, _, _, rfl, rfl, (show (0 : Int) < 10000 by decide), sz (show 2 ≤ 1000000 by decide), fun a ha => ?_⟩
    exact q _ a (.bell (one % 10000)) ⟨by omega, by omega⟩ (hH.alloc ha _)
end

end P


set_option Elab.async false
set_option linter.all false
set_option maxRecDepth 100000
set_option maxHeartbeats 4000000
namespace P
open PySem L2

theorem Rw.notLast : ∀ (x : Rw), x.last = false → (!inV (.str x.ws) [.str "ask", .str "go", .str "end"]) = true
  | .bell _, _ => (by decide +kernel : (!inV (.str ("bell" : Str)) [.str "ask", .str "go", .str "end"]) = true)
  | .set _ _, _ => (by decide +kernel : (!inV (.str ("set" : Str)) [.str "ask", .str "go", .str "end"]) = true)
  | .bump _ _, _ => (by decide +kernel : (!inV (.str ("bump" : Str)) [.str "ask", .str "go", .str "end"]) = true)
  | .call _, _ => (by decide +kernel : (!inV (.str ("call" : Str)) [.str "ask", .str "go", .str "end"]) = true)
  | .ask _ _ _, h => nomatch h
  | .go _, h => nomatch h
  | .fin, h => nomatch h
theorem ixN_last {n : Nat} (h : 1 ≤ n) : ixN n (-1) = some (n - 1) := by
  unfold ixN
  rw [if_neg (by omega), if_pos (by omega)]
  congr 1
  omega
theorem set_last {α : Type} (xs : List α) (a b : α) : (xs ++ [a]).set ((xs ++ [a]).length - 1) b = xs ++ [b] := by
  rw [List.length_append, List.length_singleton, Nat.add_sub_cancel, List.set_append_right _ _ (Nat.le_refl _), Nat.sub_self]
  rfl
def LimR (ss : Ss) : Prop := ∀ z ∈ ss, z.2.length ≤ 110
def GoodU (nm nc S : Nat) (ss : Ss) : Prop := ∀ (k : Nat) z, ss[k]? = some z → (∀ x ∈ z.2, x.2.ok nm nc z.2.length k S) ∧ (∃ a y, z.2.getLast? = some (a, y) ∧ y.last = true) ∧ z.2.length ≤ 110
def sp_parts : Sp := fun vs H Q _ => ∃ (d : Addr) (ds : List Int) (nm nc : Nat) (L : Kn), vs = [.ref d, .int 8, .int nm, .int nc] ∧ Has H L ∧ (d, HO.lst (ds.map V.int)) ∈ L ∧ 340 ≤ ds.length ∧
  ∀ H' pl ss N, ss ≠ [] → ss.length ≤ 40 → Good nm nc ss → LimR ss → (∀ z ∈ ss, (z.1, HO.lst (rwV z.2)) ∈ N) → (∀ z ∈ ss, ∀ x ∈ z.2, (x.1, HO.tup x.2.v) ∈ N) → Has H' ((pl, .lst (ssV ss)) :: (N ++ L)) → Q (.ref pl) H'
theorem GoodU.snoc {nm nc S : Nat} {ss : Ss} {z : Addr × List (Addr × Rw)} (h : GoodU nm nc S ss) (h1 : ∀ x ∈ z.2, x.2.ok nm nc z.2.length ss.length S) (h2 : ∃ a y, z.2.getLast? = some (a, y) ∧ y.last = true) (h3 : z.2.length ≤ 110) : GoodU nm nc S (ss ++ [z]) := by
  intro k y hy
  by_cases hk : k < ss.length
  · rw [List.getElem?_append_left hk] at hy
    exact h k y hy
  · rw [List.getElem?_append_right (by omega)] at hy
    cases hj : k - ss.length with
    | zero =>
      rw [hj] at hy
      cases hy
      have : k = ss.length := by omega
      subst this
      exact ⟨h1, h2, h3⟩
    | succ j => rw [hj] at hy; simp at hy
section
variable {P : Program} {w : World} {K : PySem.W.Frag} {mg : Str → Option Value} {base : Heap} {t : Adr}
theorem scLp : FnScope ["_law_d", "_law_at", "_law_marks", "_law_counters", "_law_stretches", "_law_low", "_law_size", "_law_parts_here", "_law_slot", "_law_stretch", "_law_many", "_law_rows", "_law_row_here", "_law_k"] ["_law_d", "_law_at", "_law_marks", "_law_counters"] (defScope s_parts) := ⟨rfl, rfl, rfl, by decide +kernel, rfl, by decide +kernel, by decide +kernel⟩
theorem ok_parts (T : Txt K mg t) : FnOk P w K mg base CX0 2 t.f_parts t.d_parts ["_law_d", "_law_at", "_law_marks", "_law_counters"] sp_parts := by
  refine T.F_parts.ok scLp (fun vs H Q E h => ?_) (fun cdv A outer s H vs Q E hr h => ?_)
  · obtain ⟨_, _, _, _, _, rfl, _⟩ := h
    rfl
  · obtain ⟨d, ds, nm, nc, L, rfl, hH, md, hds, q⟩ := h
    have gd := hH.at_ _ md
    dsimp only at gd
    refine ⟨_, (pss_cons (ps_asg (pe_ix ix_list (pe_lst (@pa_cons _ _ _ _ _ (pe_tup (pa_cons (pe_op op_add pe_int (pe_op op_mod (pe_ix ix_list (pv 0) (pv 1) (fun _ _ => rfl)) pe_int)) (pa_cons pe_int (pa_cons pe_int pa_nil)))) (@pa_cons _ _ _ _ _ (pe_tup (pa_cons pe_int (pa_cons pe_int (pa_cons pe_int pa_nil)))) (@pa_cons _ _ _ _ _ (pe_tup (pa_cons (pe_op op_add pe_int (pe_op op_mod (pe_ix ix_list (pv 0) (pv 1) (fun _ _ => rfl)) pe_int)) (pa_cons pe_int (pa_cons pe_int pa_nil)))) (@pa_cons _ _ _ _ _ (pe_tup (pa_cons pe_int (pa_cons pe_int (pa_cons pe_int pa_nil)))) (@pa_cons _ _ _ _ _ (pe_tup (pa_cons pe_int (pa_cons pe_int (pa_cons pe_int pa_nil)))) (@pa_cons _ _ _ _ _ (pe_tup (pa_cons (pe_op op_add pe_int (pe_op op_mod (pe_ix ix_list (pv 0) (pv 1) (fun _ _ => rfl)) pe_int)) (pa_cons pe_int (pa_cons pe_int pa_nil)))) (@pa_cons _ _ _ _ _ (pe_tup (pa_cons (pe_op op_add pe_int (pe_op op_mod (pe_ix ix_list (pv 0) (pv 1) (fun _ _ => rfl)) pe_int)) (pa_cons pe_int (pa_cons pe_int pa_nil)))) (@pa_cons _ _ _ _ _ (pe_tup (pa_cons (pe_op op_add pe_int (pe_op op_mod (pe_ix ix_list (pv 0) (pv 1) (fun _ _ => rfl)) pe_int)) (pa_cons pe_int (pa_cons pe_int pa_nil)))) pa_nil (by rfl)) (by rfl)) (by rfl)) (by rfl)) (by rfl)) (by rfl)) (by rfl)) (by rfl))) (pe_op op_mod (pe_op op_fdiv (pe_ix ix_list (pv 0) (pv 1) (fun _ _ => rfl)) pe_int) pe_int) (fun _ _ => rfl)) (pg_tup rfl (pgs_cons (pg_name (i := 4) scLp.nd rfl (Or.inl rfl)) (pgs_cons (pg_name (i := 5) scLp.nd rfl (Or.inl rfl)) (pgs_cons (pg_name (i := 6) scLp.nd rfl (Or.inl rfl)) pgs_nil)))))
      (pss_cons (ps_set (i := 7) scLp.nd rfl (Or.inl rfl) (pe_lst pa_nil))
      (pss_cons (ps_set (i := 8) scLp.nd rfl (Or.inl rfl) pe_int)
      (pss_cons (ps_for PassesOwn.never rfl (pi_range1 (by rfl) T.z_range (pa_cons (pv 4) pa_nil)) (pg_name (i := 9) scLp.nd rfl (Or.inl rfl))
        (pss_cons (ps_set (i := 10) scLp.nd rfl (Or.inl rfl) (pe_op op_add (pv 5) (pe_op op_mod (pe_op op_add (pe_ix ix_list (pv 0) (pe_op op_add (pe_op op_add (pv 1) pe_int) (pe_op op_mod (pv 9) pe_int)) (fun _ _ => rfl)) (pe_op op_fdiv (pv 9) pe_int)) (pv 6))))
          (pss_cons (ps_set (i := 11) scLp.nd rfl (Or.inl rfl) (pe_lst pa_nil))
          (pss_cons (ps_for PassesOwn.never rfl (pi_range1 (by rfl) T.z_range (pa_cons (pv 10) pa_nil)) (pg_name (i := 12) scLp.nd rfl (Or.inl rfl))
            (pss_cons (ps_set (i := 13) scLp.nd rfl (Or.inl rfl) (pe_op op_add (pe_op op_add (pv 1) pe_int) (pe_op op_mul pe_int (pe_op op_mod (pv 8) pe_int))))
              (pss_cons (ps_expr (pe_bm PySem.F.plainAttrs_list PySem.F.slot_list_append PySem.F.type_list_append mt_append (pv 11) (pa_cons (pe_call (ok_row T) (hr.mono (by decide)) (by rfl) T.m_row T.F_row.kp (b_row T) .nil pass0 (pa_cons (pv 0) (pa_cons (pv 13) (pa_cons (pe_op op_fdiv (pv 8) pe_int) (pa_cons (pv 10) (pa_cons (pv 2) (pa_cons (pv 3) (pa_cons (pe_callTy (call_list_rng2 rfl) (by rfl) T.z_list (by rfl) (pa_cons (pe_callTy call_range2 (by rfl) T.z_range (by rfl) (pa_cons (pe_op op_add (pv 9) pe_int) (pa_cons (pv 4) pa_nil))) pa_nil)) pa_nil)))))))) pa_nil)))
              (pss_one (ps_set (i := 8) scLp.nd rfl (Or.inl rfl) (pe_op op_add (pv 8) pe_int))))))
          (pss_cons (ps_if (pt_cmpR op_notIn_seq (pe_ix ix_tup (pe_ix ix_list (pv 11) (pe_un un_neg pe_int) (fun _ _ => rfl)) pe_int (fun _ _ => rfl)) (pe_tup (pa_cons pe_str (pa_cons pe_str (pa_cons pe_str pa_nil)))) (by rfl))
            (pss_one (ps_asg (pe_tup (pa_cons pe_str pa_nil)) (pg_sub (pv 11) (pe_un un_neg pe_int) set_list)))
            pss_nil)
          (pss_one (ps_expr (pe_bm PySem.F.plainAttrs_list PySem.F.slot_list_append PySem.F.type_list_append mt_append (pv 7) (pa_cons (pv 11) pa_nil)))))))))
      (pss_one (ps_ret (pv 7))))))), ?_⟩
    rw []
    have a8 : atI (ds.map V.int) 8 = some (.int (ds.getD (8 : Int).toNat 0)) := dgI 8 (by decide) (by omega)
    obtain ⟨x8, ex8⟩ : ∃ x8, ds.getD (8 : Int).toNat 0 = x8 := ⟨_, rfl⟩
    rw [ex8] at a8
    obtain ⟨v4, ev4⟩ : ∃ v : Nat, 1 + x8 % 4 = (v : Int) := Int.eq_ofNat_of_zero_le (by omega)
    obtain ⟨v3, ev3⟩ : ∃ v : Nat, 1 + x8 % 3 = (v : Int) := Int.eq_ofNat_of_zero_le (by omega)
    refine ⟨_, rfl, _, rfl, d, _, _, _, rfl, rfl, SqL.of gd, a8, _, _, rfl, rfl, (show (0 : Int) < 4 by decide), _, _, rfl, rfl, sz (show 3 ≤ 1000000 by decide), fun p1 hp1 => ?_⟩
    have h1 := hH.alloc hp1 (.tup [.int (1 + x8 % 4), .int 1, .int 6])
    refine ⟨sz (show 3 ≤ 1000000 by decide), fun p2 hp2 => ?_⟩
    have h2 := h1.alloc hp2 (.tup [.int 8, .int 1, .int 10])
    have gd2 : _ = _ := h2.at_ _ (List.mem_cons_of_mem _ (List.mem_cons_of_mem _ md))
    dsimp only at gd2
    refine ⟨_, rfl, _, rfl, d, _, _, _, rfl, rfl, SqL.of gd2, a8, _, _, rfl, rfl, (show (0 : Int) < 3 by decide), _, _, rfl, rfl, sz (show 3 ≤ 1000000 by decide), fun p3 hp3 => ?_⟩
    have h3 := h2.alloc hp3 (.tup [.int (1 + x8 % 3), .int 11, .int 30])
    refine ⟨sz (show 3 ≤ 1000000 by decide), fun p4 hp4 => ?_⟩
    have h4 := h3.alloc hp4 (.tup [.int 40, .int 1, .int 2])
    refine ⟨sz (show 3 ≤ 1000000 by decide), fun p5 hp5 => ?_⟩
    have h5 := h4.alloc hp5 (.tup [.int 1, .int 41, .int 60])
    have gd5 := h5.at_ _ (List.mem_cons_of_mem _ (List.mem_cons_of_mem _ (List.mem_cons_of_mem _ (List.mem_cons_of_mem _ (List.mem_cons_of_mem _ md)))))
    dsimp only at gd5
    refine ⟨_, rfl, _, rfl, d, _, _, _, rfl, rfl, SqL.of gd5, a8, _, _, rfl, rfl, (show (0 : Int) < 4 by decide), _, _, rfl, rfl, sz (show 3 ≤ 1000000 by decide), fun p6 hp6 => ?_⟩
    have h6 := h5.alloc hp6 (.tup [.int (1 + x8 % 4), .int 1, .int 6])
    have gd6 := h6.at_ _ (List.mem_cons_of_mem _ (List.mem_cons_of_mem _ (List.mem_cons_of_mem _ (List.mem_cons_of_mem _ (List.mem_cons_of_mem _ (List.mem_cons_of_mem _ md))))))
    dsimp only at gd6
    refine ⟨_, rfl, _, rfl, d, _, _, _, rfl, rfl, SqL.of gd6, a8, _, _, rfl, rfl, (show (0 : Int) < 4 by decide), _, _, rfl, rfl, sz (show 3 ≤ 1000000 by decide), fun p7 hp7 => ?_⟩
    have h7 := h6.alloc hp7 (.tup [.int (1 + x8 % 4), .int 1, .int 6])
    have gd7 := h7.at_ _ (List.mem_cons_of_mem _ (List.mem_cons_of_mem _ (List.mem_cons_of_mem _ (List.mem_cons_of_mem _ (List.mem_cons_of_mem _ (List.mem_cons_of_mem _ (List.mem_cons_of_mem _ md)))))))
    dsimp only at gd7
    refine ⟨_, rfl, _, rfl, d, _, _, _, rfl, rfl, SqL.of gd7, a8, _, _, rfl, rfl, (show (0 : Int) < 4 by decide), _, _, rfl, rfl, sz (show 3 ≤ 1000000 by decide), fun p8 hp8 => ?_⟩
    have h8 := h7.alloc hp8 (.tup [.int (1 + x8 % 4), .int 1, .int 6])
    refine ⟨sz (show 8 ≤ 1000000 by decide), fun lp hlp => ?_⟩
    have h9 := h8.alloc hlp (.lst [.ref p1, .ref p2, .ref p3, .ref p4, .ref p5, .ref p6, .ref p7, .ref p8])
    have h10 := h9.sub (List.sublist_append_right [(lp, HO.lst [.ref p1, .ref p2, .ref p3, .ref p4, .ref p5, .ref p6, .ref p7, .ref p8]), (p8, .tup [.int (1 + x8 % 4), .int 1, .int 6]), (p7, .tup [.int (1 + x8 % 4), .int 1, .int 6]), (p6, .tup [.int (1 + x8 % 4), .int 1, .int 6]), (p5, .tup [.int 1, .int 41, .int 60]), (p4, .tup [.int 40, .int 1, .int 2]), (p3, .tup [.int (1 + x8 % 3), .int 11, .int 30]), (p2, .tup [.int 8, .int 1, .int 10]), (p1, .tup [.int (1 + x8 % 4), .int 1, .int 6])] L)
    dsimp only [List.set] at h9 h10 ⊢
    have gd9 := h10.at_ _ md
    dsimp only at gd9
    obtain ⟨pi, S, lo, sz0, hat, hpi, hS1, hS2, hlo1, hlo2, hz1, hz2⟩ : ∃ (pi : Addr) (S lo sz0 : Nat), atI [V.ref p1, .ref p2, .ref p3, .ref p4, .ref p5, .ref p6, .ref p7, .ref p8] (x8 / 4 % 8) = some (.ref pi) ∧ (pi, HO.tup [.int S, .int lo, .int sz0]) ∈ [(lp, HO.lst [.ref p1, .ref p2, .ref p3, .ref p4, .ref p5, .ref p6, .ref p7, .ref p8]), (p8, .tup [.int (1 + x8 % 4), .int 1, .int 6]), (p7, .tup [.int (1 + x8 % 4), .int 1, .int 6]), (p6, .tup [.int (1 + x8 % 4), .int 1, .int 6]), (p5, .tup [.int 1, .int 41, .int 60]), (p4, .tup [.int 40, .int 1, .int 2]), (p3, .tup [.int (1 + x8 % 3), .int 11, .int 30]), (p2, .tup [.int 8, .int 1, .int 10]), (p1, .tup [.int (1 + x8 % 4), .int 1, .int 6])] ++ L ∧ 1 ≤ S ∧ S ≤ 40 ∧ 1 ≤ lo ∧ lo ≤ 41 ∧ 1 ≤ sz0 ∧ sz0 ≤ 60 := by
      rw [ev4, ev3]
      have c : x8 / 4 % 8 = 0 ∨ x8 / 4 % 8 = 1 ∨ x8 / 4 % 8 = 2 ∨ x8 / 4 % 8 = 3 ∨ x8 / 4 % 8 = 4 ∨ x8 / 4 % 8 = 5 ∨ x8 / 4 % 8 = 6 ∨ x8 / 4 % 8 = 7 := by omega
      rcases c with c | c | c | c | c | c | c | c <;> rw [c]
      · exact ⟨p1, v4, 1, 6, rfl, by simp, by omega, by omega, by omega, by omega, by omega, by omega⟩
      · exact ⟨p2, 8, 1, 10, rfl, by simp, by omega, by omega, by omega, by omega, by omega, by omega⟩
      · exact ⟨p3, v3, 11, 30, rfl, by simp, by omega, by omega, by omega, by omega, by omega, by omega⟩
      · exact ⟨p4, 40, 1, 2, rfl, by simp, by omega, by omega, by omega, by omega, by omega, by omega⟩
      · exact ⟨p5, 1, 41, 60, rfl, by simp, by omega, by omega, by omega, by omega, by omega, by omega⟩
      · exact ⟨p6, v4, 1, 6, rfl, by simp, by omega, by omega, by omega, by omega, by omega, by omega⟩
      · exact ⟨p7, v4, 1, 6, rfl, by simp, by omega, by omega, by omega, by omega, by omega, by omega⟩
      · exact ⟨p8, v4, 1, 6, rfl, by simp, by omega, by omega, by omega, by omega, by omega, by omega⟩
    refine ⟨_, rfl, _, rfl, d, _, _, _, rfl, rfl, SqL.of gd9, a8, _, _, rfl, rfl, ⟨by decide, by decide⟩, _, _, rfl, rfl, (show (0 : Int) < 8 by decide), lp, _, _, _, rfl, rfl, SqL.of (h9.get 0 rfl), hat, pi, _, rfl, SqT.of (h9.at_ _ hpi), rfl, _, _, rfl, _, _, rfl, _, _, rfl, rfl, ?_⟩
    refine ⟨sz (show 0 ≤ 1000000 by decide), fun pl hpl => ?_⟩
    have h11 := h10.alloc hpl (.lst [])
    clear h1 h2 h3 h4 h5 h6 h7 h8 h9 hpi hat gd2 gd5 gd6 gd7 gd9
    have em : ∀ (a b : Int), 0 < b → 0 ≤ a % b ∧ a % b < b := fun a b hb => ⟨Int.emod_nonneg _ (by omega), Int.emod_lt_of_pos _ hb⟩
    refine ⟨_, rfl, _, rfl, by omega, by omega, for_range (fun i σ H' => ∃ (o9 o10 o11 o12 o13 : Option V) (slot : Int) (ss : Ss) (N : Kn), σ = [some (.ref d), some (.int 8), some (.int nm), some (.int nc), some (.int S), some (.int lo), some (.int sz0), some (.ref pl), some (.int slot), o9, o10, o11, o12, o13] ∧ ss.length = i ∧ GoodU nm nc S ss ∧ (∀ z ∈ ss, (z.1, HO.lst (rwV z.2)) ∈ N) ∧ (∀ z ∈ ss, ∀ x ∈ z.2, (x.1, HO.tup x.2.v) ∈ N) ∧ Has H' ((pl, .lst (ssV ss)) :: (N ++ L))) ⟨none, none, none, none, none, 0, [], [], rfl, rfl, (fun k z hz => by simp at hz), by simp, by simp, h11⟩ ?_ ?_⟩
    · clear h11 h10
      rintro i σ H2 hi ⟨o9, o10, o11, o12, o13, slot, ss, N, rfl, hl, hg, hz, hx, h2⟩
      have hi : i < S := by omega
      rw [Int.zero_add]
      show tSeq _ _ _ _ _
      dsimp only [List.set]
      have inL : ∀ {H' : Hp} {z c1 : Addr × HO} {N : Kn}, Has H' (c1 :: (N ++ L)) → z ∈ L → H' z.1 = some z.2 := fun h m => h.at_ _ (List.mem_cons_of_mem _ (List.mem_append_right _ m))
      have g2 := inL h2 md
      dsimp only at g2
      have i8 := em (i : Int) 8 (by decide)
      refine ⟨_, rfl, _, rfl, _, rfl, _, _, rfl, rfl, _, rfl, _, _, rfl, rfl, (show (0 : Int) < 8 by decide), _, _, rfl, rfl, d, _, _, _, rfl, rfl, SqL.of g2, dgI (8 + 1 + (i : Int) % 8) (by omega) (by omega), _, rfl, _, _, rfl, rfl, ⟨by decide, by decide⟩, _, _, rfl, rfl, _, rfl, _, _, rfl, rfl, (show (0 : Int) < sz0 by omega), _, _, rfl, rfl, ?_⟩
      dsimp only [List.set]
      obtain ⟨many, emany⟩ : ∃ many : Nat, (lo : Int) + (ds.getD (8 + 1 + (i : Int) % 8).toNat 0 + (i : Int) / 8) % sz0 = (many : Int) := Int.eq_ofNat_of_zero_le (by have := em (ds.getD (8 + 1 + (i : Int) % 8).toNat 0 + (i : Int) / 8) sz0 (by omega); omega)
      have hmany : 1 ≤ many ∧ many ≤ 101 := by have := em (ds.getD (8 + 1 + (i : Int) % 8).toNat 0 + (i : Int) / 8) sz0 (by omega); omega
      rw [emany]
      refine ⟨sz (show 0 ≤ 1000000 by decide), fun rl hrl => ?_⟩
      dsimp only [List.set]
      have h3 := h2.alloc hrl (.lst [])
      refine ⟨_, rfl, _, rfl, by omega, by omega, for_range (fun j σ H' => ∃ (o12 o13 : Option V) (slot : Int) (rs : List (Addr × Rw)) (N' : Kn), σ = [some (.ref d), some (.int 8), some (.int nm), some (.int nc), some (.int S), some (.int lo), some (.int sz0), some (.ref pl), some (.int slot), some (.int i), some (.int many), some (.ref rl), o12, o13] ∧ rs.length = j ∧ (∀ x ∈ rs, x.2.ok nm nc many i S) ∧ (∀ x ∈ rs, (x.1, HO.tup x.2.v) ∈ N') ∧ Has H' ((rl, .lst (rwV rs)) :: (N' ++ ((pl, .lst (ssV ss)) :: (N ++ L))))) ⟨_, _, slot, [], [], rfl, rfl, by simp, by simp, h3⟩ ?_ ?_⟩
      · clear h3
        rintro j σ H3 hj ⟨o12, o13, slot, rs, N', rfl, hrl2, hok, hin, h3⟩
        have hj : j < many := by omega
        show tSeq _ _ _ _ _
        dsimp only [List.set]
        have s80 := em slot 80 (by decide)
        refine ⟨_, rfl, _, _, rfl, rfl, _, rfl, _, _, rfl, rfl, (show (0 : Int) < 80 by decide), _, _, rfl, rfl, .inl ⟨by decide, by decide⟩, _, _, rfl, rfl, ?_⟩
        dsimp only [List.set]
        refine ⟨_, rfl, .inl ⟨rfl, _, SqL.of (h3.get 0 rfl)⟩, _, rfl, _, rfl, _, rfl, _, _, rfl, rfl, ⟨by decide, by decide⟩, _, rfl, _, rfl, _, rfl, _, rfl, _, _, rfl, rfl, _, rfl, _, _, rfl, fun p hp => ?_⟩
        have h4 := h3.alloc hp (.rng ((i : Int) + 1) S)
        refine ⟨p, _, _, rfl, h4.get 0 rfl, by omega, by omega, by omega, by omega, fun lt hlt => ?_⟩
        have h5 := h4.alloc hlt (.lst (intsF ((i : Int) + 1) ((S : Int) - ((i : Int) + 1)).toNat))
        refine ⟨d, lt, ds, _, _, many, nm, nc, i, S, _, rfl, h5, List.mem_cons_of_mem _ (List.mem_cons_of_mem _ (List.mem_cons_of_mem _ (List.mem_append_right _ (List.mem_cons_of_mem _ (List.mem_append_right _ md))))), (by rw [show S - (i + 1) = ((S : Int) - ((i : Int) + 1)).toNat by omega]; exact List.mem_cons_self), (by omega), (by omega), hmany.1, fun H6 a y hy h6 => ?_⟩
        refine ⟨rl, _, _, rfl, rfl, h6.get 3 rfl, sizeOk (by unfold rwV; rw [List.length_map]; omega), ?_⟩
        have h7 := h6.puti 3 rfl (.lst (rwV rs ++ [.ref a]))
        have h8 := bringH h7 3 rfl
        refine ⟨_, rfl, _, _, rfl, rfl, ?_⟩
        dsimp only [List.set]
        refine ⟨_, _, slot + 1, rs ++ [(a, y)], (a, .tup y.v) :: (lt, .lst (intsF ((i : Int) + 1) ((S : Int) - ((i : Int) + 1)).toNat)) :: (p, .rng ((i : Int) + 1) S) :: N', rfl, by simp [hrl2], ?_, ?_, ?_⟩
        · intro x hx
          rcases List.mem_append.mp hx with hx | hx
          · exact hok x hx
          · cases List.mem_singleton.mp hx
            exact hy
        · intro x hx
          rcases List.mem_append.mp hx with hx | hx
          · exact List.mem_cons_of_mem _ (List.mem_cons_of_mem _ (List.mem_cons_of_mem _ (hin x hx)))
          · cases List.mem_singleton.mp hx
            exact List.mem_cons_self
        · have e : rwV (rs ++ [(a, y)]) = rwV rs ++ [.ref a] := by unfold rwV; rw [List.map_append]; rfl
          rw [e]
          exact h8
      · clear h3
        rintro σ H3 hP
        rw [Int.toNat_natCast] at hP
        obtain ⟨o12, o13, slot, rs, N', rfl, hrl2, hok, hin, h3⟩ := hP
        have fin : ∀ {H4 : Hp} (rs1 : List (Addr × Rw)) (N1 : Kn), rs1.length = many → (∀ x ∈ rs1, x.2.ok nm nc many i S) → (∀ x ∈ rs1, (x.1, HO.tup x.2.v) ∈ N1) → (∃ a y, rs1.getLast? = some (a, y) ∧ y.last = true) → Has H4 ((rl, .lst (rwV rs1)) :: (N1 ++ ((pl, .lst (ssV ss)) :: (N ++ L)))) →
            ∃ (N2 : Kn), (∀ z ∈ ss ++ [(rl, rs1)], (z.1, HO.lst (rwV z.2)) ∈ N2) ∧ (∀ z ∈ ss ++ [(rl, rs1)], ∀ x ∈ z.2, (x.1, HO.tup x.2.v) ∈ N2) ∧ GoodU nm nc S (ss ++ [(rl, rs1)]) ∧ H4 pl = some (.lst (ssV ss)) ∧ Has (upd H4 pl (.lst (ssV ss ++ [.ref rl]))) ((pl, .lst (ssV (ss ++ [(rl, rs1)]))) :: (N2 ++ L)) := by
          intro H4 rs1 N1 l1 ok1 in1 la1 h4
          have h5 := Has.comm (X := (rl, HO.lst (rwV rs1)) :: N1) (Y := [(pl, HO.lst (ssV ss))]) h4
          have h6 := h5.puti 0 rfl (.lst (ssV ss ++ [.ref rl]))
          refine ⟨((rl, HO.lst (rwV rs1)) :: N1) ++ N, ?_, ?_, hg.snoc (by rw [hl, l1]; exact ok1) la1 (by rw [l1]; omega), h5.get 0 rfl, ?_⟩
          · intro z hz1
            rcases List.mem_append.mp hz1 with hz1 | hz1
            · exact List.mem_append_right _ (hz z hz1)
            · cases List.mem_singleton.mp hz1
              exact List.mem_append_left _ List.mem_cons_self
          · intro z hz1 x hx1
            rcases List.mem_append.mp hz1 with hz1 | hz1
            · exact List.mem_append_right _ (hx z hz1 x hx1)
            · cases List.mem_singleton.mp hz1
              exact List.mem_append_left _ (List.mem_cons_of_mem _ (in1 x hx1))
          · have e : ssV (ss ++ [(rl, rs1)]) = ssV ss ++ [.ref rl] := by unfold ssV; rw [List.map_append]; rfl
            rw [e, List.append_assoc]
            exact h6
        obtain ⟨⟨la, ly⟩, hla⟩ : ∃ z, rs.getLast? = some z := by
          cases e : rs.getLast? with
          | none => rw [List.getLast?_eq_none_iff] at e; rw [e] at hrl2; simp at hrl2; omega
          | some z => exact ⟨z, rfl⟩
        obtain ⟨rs', ers⟩ := List.getLast?_eq_some_iff.mp hla
        have eV : rwV rs = rwV rs' ++ [.ref la] := by rw [ers]; unfold rwV; rw [List.map_append]; rfl
        have mla : (la, ly) ∈ rs := by rw [ers]; simp
        have g1 := h3.get 0 rfl
        rw [eV] at g1
        have g2 := h3.at_ (la, _) (List.mem_cons_of_mem _ (List.mem_append_left _ (hin _ mla)))
        dsimp only at g2
        have lss : (ssV ss).length ≤ 1000 := by unfold ssV; rw [List.length_map]; omega
        refine ⟨_, rfl, 1, rfl, rl, _, _, _, rfl, rfl, SqL.of g1, atI_last _ _, la, _, _, _, rfl, rfl, SqT.of g2, atI_nat (j := 0) rfl, sz (show 3 ≤ 1000000 by decide), fun wt hwt => ?_⟩
        have h4 := h3.alloc hwt (.tup [.str "ask", .str "go", .str "end"])
        refine ⟨wt, _, rfl, .inr (SqT.of (h4.get 0 rfl)), rfl, rfl, _, rfl, ?_⟩
        cases hlast : ly.last with
        | true =>
          refine ifF (ly.lastIn hlast) ?_
          obtain ⟨N2, f1, f2, f3, f4, f5⟩ := fin rs N' hrl2 hok hin ⟨la, ly, hla, hlast⟩ h4.tail
          exact ⟨_, rfl, .inl ⟨rfl, _, SqL.of f4⟩, _, rfl, pl, _, _, rfl, rfl, f4, sizeOk (by omega), _, _, _, _, _, slot, ss ++ [(rl, rs)], N2, rfl, by simp [hl], f3, f1, f2, f5⟩
        | false =>
          refine ifT (ly.notLast hlast) ?_
          refine ⟨sz (show 1 ≤ 1000000 by decide), fun e he => ?_⟩
          have h5 := h4.alloc he (.tup (Rw.fin).v)
          have lrs : (rwV rs).length = many := by unfold rwV; rw [List.length_map]; exact hrl2
          refine ⟨_, rfl, 1, rfl, rl, _, _, _, rfl, rfl, h5.get 2 rfl, ixN_last (by omega), ?_⟩
          have h6 := h5.puti 2 rfl (.lst ((rwV rs).set ((rwV rs).length - 1) (.ref e)))
          have eS : (rwV rs).set ((rwV rs).length - 1) (.ref e) = rwV (rs' ++ [(e, Rw.fin)]) := by
            rw [eV, set_last]
            unfold rwV
            rw [List.map_append]
            rfl
          rw [eS] at h6
          rw [eS]
          have h7 := bringH h6 2 rfl
          have l1 : (rs' ++ [(e, Rw.fin)]).length = many := by rw [← hrl2, ers]; simp
          obtain ⟨N2, f1, f2, f3, f4, f5⟩ := fin (rs' ++ [(e, Rw.fin)]) ((e, .tup (Rw.fin).v) :: (wt, .tup [.str "ask", .str "go", .str "end"]) :: N') l1 (by
            intro x hx
            rcases List.mem_append.mp hx with hx | hx
            · exact hok x (by rw [ers]; exact List.mem_append_left _ hx)
            · cases List.mem_singleton.mp hx
              trivial) (by
            intro x hx
            rcases List.mem_append.mp hx with hx | hx
            · exact List.mem_cons_of_mem _ (List.mem_cons_of_mem _ (hin x (by rw [ers]; exact List.mem_append_left _ hx)))
            · cases List.mem_singleton.mp hx
              exact List.mem_cons_self) ⟨e, .fin, by simp, rfl⟩ h7
          exact ⟨_, rfl, .inl ⟨rfl, _, SqL.of f4⟩, _, rfl, pl, _, _, rfl, rfl, f4, sizeOk (by omega), _, _, _, _, _, slot, ss ++ [(rl, rs' ++ [(e, Rw.fin)])], N2, rfl, by simp [hl], f3, f1, f2, f5⟩
    · rintro σ H2 hP
      rw [Int.toNat_natCast] at hP
      obtain ⟨o9, o10, o11, o12, o13, slot, ss, N, rfl, hl, hg, hz, hx, h2⟩ := hP
      exact ⟨_, rfl, q _ pl ss N (by intro e; rw [e] at hl; simp at hl; omega) (by omega) (fun k z hk => by rw [hl]; exact ⟨(hg k z hk).1, (hg k z hk).2.1⟩) (fun z hz => by obtain ⟨k, hk⟩ := List.getElem?_of_mem hz; exact (hg k z hk).2.2) hz hx h2⟩
end

end P


set_option Elab.async false
set_option linter.all false
set_option maxRecDepth 100000
set_option maxHeartbeats 4000000
namespace P
open PySem L2

def sp_program : Sp := fun vs H Q _ => ∃ (d : Addr) (ds : List Int) (L : Kn), vs = [.ref d] ∧ Has H L ∧ (d, HO.lst (ds.map V.int)) ∈ L ∧ 340 ≤ ds.length ∧
  ∀ H' tp m w pl (ms ws : List Int) (ss : Ss) (N : Kn), (∀ x ∈ ms, x = 1 ∨ x = 2) → (∀ x ∈ ws, 1 ≤ x ∧ x ≤ 8) → ms.length ≤ 30 → ws.length ≤ 30 → ss ≠ [] → ss.length ≤ 40 → Good ms.length ws.length ss → LimR ss → (∀ z ∈ ss, (z.1, HO.lst (rwV z.2)) ∈ N) → (∀ z ∈ ss, ∀ x ∈ z.2, (x.1, HO.tup x.2.v) ∈ N) →
    Has H' ((tp, .tup [.ref m, .ref w, .ref pl]) :: (pl, .lst (ssV ss)) :: (N ++ ((w, .lst (ws.map V.int)) :: (m, .lst (ms.map V.int)) :: L))) → Q (.ref tp) H'
theorem ifSet {c : Bool} {v : V} {i : Nat} {D : Ends} {σ : St} {H : Hp} (h : ∀ τ, (τ = σ.set i (some v) ∨ τ = σ) → D.nx τ H) : if c = true then tAsg (tC v) (gName i) D σ H else tNext D σ H := by
  cases c
  · exact iteF (h σ (.inr rfl))
  · exact iteT (h _ (.inl rfl))
section
variable {P : Program} {w : World} {K : PySem.W.Frag} {mg : Str → Option Value} {base : Heap} {t : Adr}
theorem scLg : FnScope ["_law_d", "_law_many", "_law_marks", "_law_widths", "_law_turn", "_law_width"] ["_law_d"] (defScope s_program) := ⟨rfl, rfl, rfl, by decide +kernel, rfl, by decide +kernel, by decide +kernel⟩
theorem ok_program (T : Txt K mg t) : FnOk P w K mg base CX0 3 t.f_program t.d_program ["_law_d"] sp_program := by
  refine T.F_program.ok scLg (fun vs H Q E h => ?_) (fun cdv A outer s H vs Q E hr h => ?_)
  · obtain ⟨_, _, _, rfl, _⟩ := h
    rfl
  · obtain ⟨d, ds, L, rfl, hH, md, hds, q⟩ := h
    have gd := hH.at_ _ md
    dsimp only at gd
    refine ⟨_, (pss_cons (ps_set (i := 1) scLg.nd rfl (Or.inl rfl) (pe_op op_mod (pe_ix ix_list (pv 0) pe_int (fun _ _ => rfl)) pe_int))
      (pss_cons (ps_if (pt_cmpR op_eq (pe_op op_mod (pe_op op_fdiv (pe_ix ix_list (pv 0) pe_int (fun _ _ => rfl)) pe_int) pe_int) pe_int (nomark _))
        (pss_one (ps_set (i := 1) scLg.nd rfl (Or.inl rfl) pe_int))
        pss_nil)
      (pss_cons (ps_setC (ix := 2) scLg.nd rfl (Or.inl rfl) (esc := defScope s_program) (k := 1) ["_law_turn", "_law_d", "_law_many", "_law_marks", "_law_widths", "_law_turn'", "_law_width"] rfl (pi_range1 (by rfl) T.z_range (pa_cons (pv 1) pa_nil)) (fun _ _ _ _ _ => by exact (pg_name (i := 0) (show List.Nodup (["_law_turn", "_law_d", "_law_many", "_law_marks", "_law_widths", "_law_turn'", "_law_width"] : List Str) from by decide +kernel) rfl (Or.inl rfl))) (fun _ _ _ _ _ => by exact pts_nil) (fun _ _ _ _ _ => by exact (pe_op op_add pe_int (pe_op op_mod (pe_ix (ix_listK (K := K) rfl) (pv 1) (pe_op op_add pe_int (pv 0)) (fun _ _ => rfl)) pe_int))) rfl (by decide +kernel) (by decide +kernel) rfl (by decide +kernel) (by rfl) (fun i y h hf => by
        by_cases c : i = 4
        · subst c; cases h; exact absurd hf (by decide +kernel)
        · have h2 : (List.set (["_law_d", "_law_many", "_law_marks", "_law_widths", "_law_turn", "_law_width"] : List Str) 4 "_law_turn'")[i]? = some y := h
          rw [List.getElem?_set_ne (fun z => c z.symm)] at h2; exact h2) (by decide +kernel))
      (pss_cons (ps_set (i := 3) scLg.nd rfl (Or.inl rfl) (pe_lst pa_nil))
      (pss_cons (ps_set (i := 1) scLg.nd rfl (Or.inl rfl) (pe_op op_mod (pe_ix ix_list (pv 0) pe_int (fun _ _ => rfl)) pe_int))
      (pss_cons (ps_if (pt_cmpR op_eq (pe_op op_mod (pe_op op_fdiv (pe_ix ix_list (pv 0) pe_int (fun _ _ => rfl)) pe_int) pe_int) pe_int (nomark _))
        (pss_one (ps_set (i := 1) scLg.nd rfl (Or.inl rfl) pe_int))
        pss_nil)
      (pss_cons (ps_for PassesOwn.never rfl (pi_range1 (by rfl) T.z_range (pa_cons (pv 1) pa_nil)) (pg_name (i := 4) scLg.nd rfl (Or.inl rfl))
        (pss_cons (ps_set (i := 5) scLg.nd rfl (Or.inl rfl) (pe_op op_add pe_int (pe_op op_mod (pe_ix ix_list (pv 0) (pe_op op_add pe_int (pv 4)) (fun _ _ => rfl)) pe_int)))
          (pss_cons (ps_if (pt_cmpR op_eq (pe_op op_mod (pe_op op_fdiv (pe_ix ix_list (pv 0) (pe_op op_add pe_int (pv 4)) (fun _ _ => rfl)) pe_int) pe_int) pe_int (nomark _))
            (pss_one (ps_set (i := 5) scLg.nd rfl (Or.inl rfl) (pe_op op_add pe_int (pe_op op_mod (pe_op op_fdiv (pe_ix ix_list (pv 0) (pe_op op_add pe_int (pv 4)) (fun _ _ => rfl)) pe_int) pe_int))))
            pss_nil)
          (pss_one (ps_expr (pe_bm PySem.F.plainAttrs_list PySem.F.slot_list_append PySem.F.type_list_append mt_append (pv 3) (pa_cons (pv 5) pa_nil)))))))
      (pss_one (ps_ret (pe_tup (pa_cons (pv 2) (pa_cons (pv 3) (pa_cons (pe_call (ok_parts T) (hr.mono (by decide)) (by rfl) T.m_parts T.F_parts.kp (b_parts T) .nil pass0 (pa_cons (pv 0) (pa_cons pe_int (pa_cons (pe_callB call_len_seq (by rfl) T.z_len (by rfl) (pa_cons (pv 2) pa_nil)) (pa_cons (pe_callB call_len_seq (by rfl) T.z_len (by rfl) (pa_cons (pv 3) pa_nil)) pa_nil))))) pa_nil))))))))))))), ?_⟩
    rw [show L2.start ["_law_d", "_law_many", "_law_marks", "_law_widths", "_law_turn", "_law_width"] [V.ref d] = ([some (V.ref d), none, none, none, none, none] : St) from rfl]
    have a0 : atI (ds.map V.int) 0 = some (.int (ds.getD (0 : Int).toNat 0)) := dgI 0 (by decide) (by omega)
    have a4 : atI (ds.map V.int) 4 = some (.int (ds.getD (4 : Int).toNat 0)) := dgI 4 (by decide) (by omega)
    obtain ⟨x0, ex0⟩ : ∃ x0, ds.getD (0 : Int).toNat 0 = x0 := ⟨_, rfl⟩
    obtain ⟨x4, ex4⟩ : ∃ x4, ds.getD (4 : Int).toNat 0 = x4 := ⟨_, rfl⟩
    rw [ex0] at a0
    rw [ex4] at a4
    refine ⟨_, rfl, d, _, _, _, rfl, rfl, SqL.of gd, a0, _, _, rfl, rfl, (show (0 : Int) < 4 by decide), ?_⟩
    dsimp only [List.set]
    refine ⟨_, rfl, d, _, _, _, rfl, rfl, SqL.of gd, a0, _, _, rfl, rfl, ⟨by decide, by decide⟩, _, _, rfl, rfl, (show (0 : Int) < 11 by decide), rfl, _, rfl, ?_⟩
    refine ifSet (fun τ hτ => ?_)
    obtain ⟨n, hn, rfl⟩ : ∃ n : Nat, n ≤ 30 ∧ τ = [some (.ref d), some (.int n), none, none, none, none] := by
      rcases hτ with rfl | rfl
      · exact ⟨30, Nat.le_refl _, rfl⟩
      · exact ⟨(x0 % 4).toNat, by omega, by rw [Int.toNat_of_nonneg (by omega)]; rfl⟩
    refine ⟨_, rfl, _, rfl, by omega, by omega, fun D hD => ?_⟩
    refine ⟨fun i m zs H' => m = n - i ∧ i ≤ n ∧ ∃ ms : List Int, zs = ms.map V.int ∧ ms.length = i ∧ (∀ x ∈ ms, x = 1 ∨ x = 2) ∧ Has H' ((D, .lst zs) :: L), ⟨_, rfl, Nat.zero_le _, [], rfl, rfl, by simp, hH.alloc hD _⟩, ?_⟩
    rintro i m zs H2 ⟨rfl, hi, ms, rfl, hml, hms, h2⟩
    refine ⟨h2.get 0 rfl, ?_⟩
    have g2 := h2.tail.at_ _ md
    dsimp only at g2
    by_cases hlt : i < n
    · refine .inr ⟨(show i < (n : Int).toNat by omega), ?_⟩
      rintro x H3 ⟨rfl, rfl⟩
      refine ⟨rfl, tTrueT ?_⟩
      refine ⟨_, rfl, _, rfl, _, _, rfl, rfl, d, _, _, _, rfl, rfl, SqL.of g2, dgI (1 + (0 + (i : Int))) (by omega) (by omega), _, _, rfl, rfl, (show (0 : Int) < 2 by decide), _, _, rfl, rfl, ?_⟩
      dsimp only
      obtain ⟨v, ev⟩ : ∃ v, 1 + ds.getD (1 + (0 + (i : Int))).toNat 0 % 2 = v := ⟨_, rfl⟩
      rw [ev]
      refine ⟨sizeOk (by rw [List.length_map]; omega), h2.get 0 rfl, n - (i + 1), by omega, rfl, hlt, ms ++ [v], by rw [List.map_append]; rfl, by simp [hml], ?_, h2.puti 0 rfl _⟩
      intro x hx
      rcases List.mem_append.mp hx with hx | hx
      · exact hms x hx
      · cases List.mem_singleton.mp hx
        omega
    · refine .inl ⟨(show (n : Int).toNat ≤ i by omega), ?_⟩
      dsimp only [List.set]
      refine ⟨sz (show 0 ≤ 1000000 by decide), fun wl hwl => ?_⟩
      have h3 := h2.alloc hwl (.lst [])
      have g3 := h3.tail.tail.at_ _ md
      dsimp only [List.set] at g3 ⊢
      refine ⟨_, rfl, d, _, _, _, rfl, rfl, SqL.of g3, a4, _, _, rfl, rfl, (show (0 : Int) < 4 by decide), ?_⟩
      dsimp only [List.set]
      refine ⟨_, rfl, d, _, _, _, rfl, rfl, SqL.of g3, a4, _, _, rfl, rfl, ⟨by decide, by decide⟩, _, _, rfl, rfl, (show (0 : Int) < 11 by decide), rfl, _, rfl, ?_⟩
      refine ifSet (fun τ hτ => ?_)
      obtain ⟨n2, hn2, rfl⟩ : ∃ n2 : Nat, n2 ≤ 30 ∧ τ = [some (.ref d), some (.int n2), some (.ref D), some (.ref wl), none, none] := by
        rcases hτ with rfl | rfl
        · exact ⟨30, Nat.le_refl _, rfl⟩
        · exact ⟨(x4 % 4).toNat, by omega, by rw [Int.toNat_of_nonneg (by omega)]; rfl⟩
      refine ⟨_, rfl, _, rfl, by omega, by omega, for_range (fun j σ H' => ∃ (o4 o5 : Option V) (ws : List Int), σ = [some (.ref d), some (.int n2), some (.ref D), some (.ref wl), o4, o5] ∧ ws.length = j ∧ (∀ x ∈ ws, 1 ≤ x ∧ x ≤ 8) ∧ Has H' ((wl, .lst (ws.map V.int)) :: (D, .lst (ms.map V.int)) :: L)) ⟨_, _, [], rfl, rfl, by simp, h3⟩ ?_ ?_⟩
      · clear h3
        rintro j σ H3 hj ⟨o4, o5, ws, rfl, hwl2, hws, h3⟩
        have hj : j < n2 := by omega
        have g3 := h3.tail.tail.at_ _ md
        dsimp only at g3
        rw [Int.zero_add]
        show tSeq _ _ _ _ _
        dsimp only [List.set]
        have a5 : atI (ds.map V.int) (5 + (j : Int)) = some (.int (ds.getD (5 + (j : Int)).toNat 0)) := dgI _ (by omega) (by omega)
        obtain ⟨x5, ex5⟩ : ∃ x5, ds.getD (5 + (j : Int)).toNat 0 = x5 := ⟨_, rfl⟩
        rw [ex5] at a5
        have fin : ∀ (v : Int) (o4 o5 : Option V), 1 ≤ v → v ≤ 8 → ∃ (o4' o5' : Option V) (ws' : List Int), [some (V.ref d), some (.int n2), some (.ref D), some (.ref wl), o4, o5] = [some (V.ref d), some (.int n2), some (.ref D), some (.ref wl), o4', o5'] ∧ ws'.length = j + 1 ∧ (∀ x ∈ ws', 1 ≤ x ∧ x ≤ 8) ∧ Has (upd H3 wl (.lst (ws.map V.int ++ [.int v]))) ((wl, .lst (ws'.map V.int)) :: (D, .lst (ms.map V.int)) :: L) := by
          intro v o4 o5 v1 v8
          refine ⟨o4, o5, ws ++ [v], rfl, by simp [hwl2], ?_, ?_⟩
          · intro x hx
            rcases List.mem_append.mp hx with hx | hx
            · exact hws x hx
            · cases List.mem_singleton.mp hx
              exact ⟨v1, v8⟩
          · rw [List.map_append]
            exact h3.puti 0 rfl _
        refine ⟨_, rfl, _, rfl, _, _, rfl, rfl, d, _, _, _, rfl, rfl, SqL.of g3, a5, _, _, rfl, rfl, (show (0 : Int) < 2 by decide), _, _, rfl, rfl, ?_⟩
        dsimp only [List.set]
        refine ⟨_, rfl, _, rfl, _, _, rfl, rfl, d, _, _, _, rfl, rfl, SqL.of g3, a5, _, _, rfl, rfl, ⟨by decide, by decide⟩, _, _, rfl, rfl, (show (0 : Int) < 4 by decide), rfl, _, rfl, ?_⟩
        refine if2 (fun _ => ?_) (fun _ => ?_)
        · refine ⟨_, rfl, _, rfl, _, _, rfl, rfl, d, _, _, _, rfl, rfl, SqL.of g3, a5, _, _, rfl, rfl, ⟨by decide, by decide⟩, _, _, rfl, rfl, (show (0 : Int) < 8 by decide), _, _, rfl, rfl, ?_⟩
          exact ⟨_, rfl, .inl ⟨rfl, _, SqL.of (h3.get 0 rfl)⟩, _, rfl, wl, _, _, rfl, rfl, h3.get 0 rfl, sizeOk (by rw [List.length_map]; omega), fin (1 + x5 / 8 % 8) _ _ (by omega) (by omega)⟩
        · exact ⟨_, rfl, .inl ⟨rfl, _, SqL.of (h3.get 0 rfl)⟩, _, rfl, wl, _, _, rfl, rfl, h3.get 0 rfl, sizeOk (by rw [List.length_map]; omega), fin (1 + x5 % 2) _ _ (by omega) (by omega)⟩
      · clear h3
        rintro σ H3 hP
        rw [Int.toNat_natCast] at hP
        obtain ⟨o4, o5, ws, rfl, hwl2, hws, h3⟩ := hP
        refine ⟨_, rfl, _, rfl, _, rfl, _, rfl, D, _, rfl, .inl (SqL.of (h3.get 1 rfl)), _, rfl, wl, _, rfl, .inl (SqL.of (h3.get 0 rfl)), d, ds, ms.length, ws.length, _, (by rw [List.length_map, List.length_map]; rfl), h3, List.mem_cons_of_mem _ (List.mem_cons_of_mem _ md), hds, fun H4 pl ss N k1 k2 k3 kL k4 k5 h4 => ?_⟩
        refine ⟨sz (show 3 ≤ 1000000 by decide), fun tp htp => ?_⟩
        exact q _ tp D wl pl ms ws ss N hms hws (by omega) (by omega) k1 k2 k3 kL k4 k5 (h4.alloc htp _)
end

end P


set_option Elab.async false
set_option linter.all false
set_option maxRecDepth 100000
set_option maxHeartbeats 4000000
namespace P
open PySem L2

def lnT (y : Str) (ns : List Int) : Str := Txt.join " " (y :: ns.map nT)
def Nums (ns : List Int) : Prop := ns.length ≤ 1000 ∧ ∀ n ∈ ns, 0 ≤ n ∧ n < 10 ^ 10
def sp_wl (K : PySem.W.Frag) : Sp := fun vs H Q _ => ∃ (y : Str) (a : Addr) (b : Bool) (ns : List Int) (L : Kn), vs = [.str y, .ref a] ∧ Has H L ∧ ((b = true ∧ (a, HO.lst (ns.map V.int)) ∈ L) ∨ (b = false ∧ (a, HO.tup (ns.map V.int)) ∈ L)) ∧ y.length ≤ 100 ∧ Nums ns ∧ ∀ H', Has H' L → Q (.str (lnT y ns)) H'
def sp_plain : Sp := fun vs H Q _ => ∃ n : Nat, vs = [.str (nT (n : Int))] ∧ n < 10 ^ 10 ∧ Q (.bl true) H
def sp_rnum : Sp := fun vs H Q _ => ∃ n : Int, vs = [.str (nT n)] ∧ 0 ≤ n ∧ n < 10 ^ 10 ∧ Q (.int n) H
theorem fig_in : ∀ c : Nat, 48 ≤ c → c ≤ 57 → (!(!(Builtin.Str.occurrences ("0123456789" : Str) ⟨#[c]⟩ 0 ("0123456789" : Str).length 1).isEmpty)) = false := by
  intro c h1 h2
  have : c = 48 ∨ c = 49 ∨ c = 50 ∨ c = 51 ∨ c = 52 ∨ c = 53 ∨ c = 54 ∨ c = 55 ∨ c = 56 ∨ c = 57 := by omega
  rcases this with rfl | rfl | rfl | rfl | rfl | rfl | rfl | rfl | rfl | rfl <;> decide +kernel
theorem nT_log {n : Int} (h0 : 0 ≤ n) (h1 : n < 10 ^ 10) : n.natAbs.log2 < 1920 := by
  exact small_of (Nat.lt_of_le_of_lt (show n.natAbs ≤ 10 ^ 10 by omega) (by decide))
def Free (c : Nat) (y : Str) : Prop := c ∉ y.cps.toList
theorem nT_free {n : Int} (h0 : 0 ≤ n) {c : Nat} (hc : c < 48) : Free c (nT n) := by
  obtain ⟨m, rfl⟩ := Int.eq_ofNat_of_zero_le h0
  intro h
  have := nT_digits m c h
  omega
theorem lnT_split {y : Str} {ns : List Int} (hy : Free 32 y) (hn : Nums ns) : Txt.split (lnT y ns) " " = y :: ns.map nT := by
  show Txt.split (Builtin.Str.glued " " (y :: ns.map nT)) _ = _
  rw [StrLaws.glued_eq_join]
  refine split_join (c := 32) (by simp) (fun x hx => ?_)
  rcases List.mem_cons.mp hx with rfl | hx
  · exact hy
  · obtain ⟨n, hn', rfl⟩ := List.mem_map.mp hx
    exact nT_free (hn.2 n hn').1 (by decide)
theorem joinLen {sep : Str} {ys : List Str} {M : Nat} (h : ∀ y ∈ ys, y.length ≤ M) : (Txt.join sep ys).length ≤ ys.length * (M + sep.length) := by
  show (Builtin.Str.glued sep ys).length ≤ _
  rw [StrLaws.glued_eq_join]
  refine Nat.le_trans (StrLaws.join_length_le sep ys) ?_
  have : (ys.map (·.length)).sum ≤ ys.length * M := by
    induction ys with
    | nil => simp
    | cons a r ih =>
      rw [List.map_cons, List.sum_cons, List.length_cons, Nat.succ_mul]
      have := h a List.mem_cons_self
      have := ih fun y hy => h y (List.mem_cons_of_mem _ hy)
      omega
  rw [Nat.mul_add]
  omega
theorem ln_items {y : Str} {ns : List Int} (hy : y.length ≤ 100) (hn : Nums ns) : ∀ x ∈ y :: ns.map nT, x.length ≤ 100 := fun x hx => by
  rcases List.mem_cons.mp hx with rfl | hx
  · exact hy
  · obtain ⟨n, hn', rfl⟩ := List.mem_map.mp hx
    exact Nat.le_trans (nT_len (hn.2 n hn').1 (hn.2 n hn').2) (by decide)
theorem lnT_len {y : Str} {ns : List Int} (hy : y.length ≤ 100) (hn : Nums ns) : (lnT y ns).length ≤ 1000000 := by
  refine Nat.le_trans (joinLen (ln_items hy hn)) ?_
  have := hn.1
  rw [List.length_cons, List.length_map, show (Str.ofString " ").length = 1 from rfl]
  omega
def sp_rl : Sp := fun vs H Q _ => ∃ (y : Str) (ns : List Int) (L : Kn), vs = [.str (lnT y ns)] ∧ Has H L ∧ Free 32 y ∧ y.length ≤ 100 ∧ Nums ns ∧ ∀ H' p l, Has H' ((p, .tup [.str y, .ref l]) :: (l, .lst (ns.map V.int)) :: L) → Q (.ref p) H'
section
variable {P : Program} {w : World} {K : PySem.W.Frag} {mg : Str → Option Value} {base : Heap} {t : Adr}
theorem scWl : FnScope ["word", "numbers"] ["word", "numbers"] (defScope s_write_line) := ⟨rfl, rfl, rfl, by decide +kernel, rfl, by decide +kernel, by decide +kernel⟩
theorem ok_write_line (T : Txt K mg t) : FnOk P w K mg base CX0 1 t.f_write_line t.d_write_line ["word", "numbers"] (sp_wl K) := by
  refine T.F_write_line.ok scWl (fun vs H Q E h => ?_) (fun cdv A outer s H vs Q E hr h => ?_)
  · obtain ⟨_, _, _, _, _, rfl, _⟩ := h
    rfl
  · obtain ⟨y, a, b, ns, L, rfl, hH, ha, hy, hns, q⟩ := h
    have sq : ∀ {H' : Hp} {X : Kn}, Has H' (X ++ L) → SqB b K H' a (ns.map V.int) := fun h => by
      rcases ha with ⟨rfl, m⟩ | ⟨rfl, m⟩
      · exact SqL.of (h.at_ _ (List.mem_append_right _ m))
      · exact SqT.of (h.at_ _ (List.mem_append_right _ m))
    refine ⟨_, (pss_one (ps_ret (pe_bm PySem.F.plainAttrs_str PySem.F.slot_str_join PySem.F.type_str_join mt_join pe_str (pa_cons (pe_op op_addL (pe_lst (pa_cons (pv 0) pa_nil)) (pe_lc (esc := defScope s_write_line) (k := 1) ["number", "word", "numbers"] rfl (pi_seq (pv 1)) (fun _ _ _ _ _ => by exact (pg_name (i := 0) (show List.Nodup (["number", "word", "numbers"] : List Str) from by decide +kernel) rfl (Or.inl rfl))) (fun _ _ _ _ _ => by exact pts_nil) (fun _ _ _ _ _ => by exact (pe_callTy call_str_int (by rfl) T.z_str (by rfl) (pa_cons (pv 0) pa_nil))) rfl (by decide +kernel) (by decide +kernel) rfl (by decide +kernel) (by rfl) (fun _ _ h _ => h) (by decide +kernel))) pa_nil)))), ?_⟩
    refine ⟨rfl, _, rfl, sz (show 1 ≤ 1000000 by decide), fun l1 hl1 => ?_⟩
    have h1 := hH.alloc hl1 (.lst [.str y])
    refine ⟨_, rfl, a, b, rfl, ⟨_, sq (X := [_]) h1⟩, fun D hD => ?_⟩
    refine ⟨fun n m zs H' => m = ns.length - n ∧ n ≤ ns.length ∧ zs = (ns.take n).map (fun x => V.str (nT x)) ∧ Has H' ((D, .lst zs) :: (l1, .lst [.str y]) :: L), ⟨_, rfl, Nat.zero_le _, rfl, h1.alloc hD _⟩, ?_⟩
    rintro n m zs H2 ⟨rfl, hn, ez, h2⟩
    refine ⟨h2.get 0 rfl, ?_⟩
    have g0 := sq (X := [_, _]) h2
    have lz : zs.length ≤ 1000 := by rw [ez, List.length_map, List.length_take]; have := hns.1; omega
    by_cases hlt : n < ns.length
    · have hx0 : (ns.map V.int)[n]? = some (.int ns[n]) := by rw [List.getElem?_map, List.getElem?_eq_getElem hlt]; rfl
      refine .inr ⟨ItB.go g0 hx0, ?_⟩
      intro x H3 hy3
      obtain ⟨rfl, hx⟩ := ItB.yld hy3 g0
      rw [hx0] at hx
      cases hx
      have nb := hns.2 ns[n] (List.getElem_mem hlt)
      refine ⟨rfl, tTrueT ?_⟩
      refine ⟨_, rfl, _, rfl, nT_log nb.1 nb.2, ?_⟩
      refine ⟨sizeOk (by omega), h2.get 0 rfl, ns.length - (n + 1), by omega, rfl, hlt, ?_, h2.puti 0 rfl _⟩
      rw [ez, List.take_succ, List.getElem?_eq_getElem hlt, List.map_append]
      rfl
    · refine .inl ⟨ItB.stop g0 (by rw [List.length_map]; omega), ?_⟩
      have en : n = ns.length := by omega
      rw [en, List.take_length] at ez
      refine ⟨l1, D, _, _, rfl, rfl, SqL.of (h2.get 1 rfl), SqL.of (h2.get 0 rfl), Nat.le_trans (show [V.str y].length + zs.length ≤ 1001 by simp; omega) (sz (show 1001 ≤ 1000000 by decide)), fun l hl => ?_⟩
      have h3 := h2.alloc hl (.lst ([.str y] ++ zs))
      have e3 : [V.str y] ++ zs = (y :: ns.map nT).map V.str := by rw [ez]; simp
      rw [e3] at h3 ⊢
      refine ⟨_, l, y :: ns.map nT, rfl, rfl, SqL.of (h3.get 0 rfl), joinOk (M := 100) (fun x hx => ?_) ?_, q _ h3.tail.tail.tail⟩
      · rcases List.mem_cons.mp hx with rfl | hx
        · exact hy
        · obtain ⟨n, hn, rfl⟩ := List.mem_map.mp hx
          exact Nat.le_trans (nT_len (hns.2 n hn).1 (hns.2 n hn).2) (by decide)
      · have := hns.1
        rw [List.length_cons, List.length_map, show (Str.ofString " ").length = 1 from rfl]
        exact Nat.le_trans (show (ns.length + 1) * (100 + 1) ≤ 1000000 by omega) (sz (Nat.le_refl _))
theorem scIp : FnScope ["word", "sign"] ["word"] (defScope s_is_plain) := ⟨rfl, rfl, rfl, by decide +kernel, rfl, by decide +kernel, by decide +kernel⟩
theorem ok_is_plain (T : Txt K mg t) : FnOk P w K mg base CX0 1 t.f_is_plain t.d_is_plain ["word"] sp_plain := by
  refine T.F_is_plain.ok scIp (fun vs H Q E h => ?_) (fun cdv A outer s H vs Q E hr h => ?_)
  · obtain ⟨_, rfl, _⟩ := h
    rfl
  · obtain ⟨n, rfl, hn, q⟩ := h
    refine ⟨_, (pss_cons (ps_for PassesOwn.never rfl (pi_str (pv 0)) (pg_name (i := 1) scIp.nd rfl (Or.inl rfl))
        (pss_one (ps_if (pt_cmpR op_notIn_str (pv 1) (pe_glob (by rfl) T.g_FIGURES T.r_FIGURES) (by rfl))
            (pss_one (ps_ret pe_bl))
            pss_nil)))
      (pss_one (ps_ret (pe_or (pe_cmpR op_eq (pv 0) pe_str (nomark _)) (pe_one (pe_and (pe_cmpR op_ne (pv 0) pe_str (nomark _)) (pe_one (pe_cmpR op_ne (pe_ix ix_str (pv 0) pe_int (fun _ _ => rfl)) pe_str (nomark _))))))))), ?_⟩
    obtain ⟨z, ez⟩ : ∃ z, nT (n : Int) = z := ⟨_, rfl⟩
    have hd := nT_digits n
    have hne := nT_ne n
    have hhd := @nT_head n
    have hz0 : n = 0 → z = "0" := fun e => by rw [← ez, e]; rfl
    rw [ez] at hd hne hhd ⊢
    have asc : z.cps.all (· < 128) = true := by
      rw [← Array.all_toList, List.all_eq_true]
      intro c hc
      have := hd c hc
      exact decide_eq_true (by omega)
    refine ⟨_, rfl, z, rfl, asc, for_str (fun i σ H' => ∃ o : Option V, σ = [some (.str z), o] ∧ H' = H) ⟨_, rfl, rfl⟩ ?_ ?_⟩
    · rintro i c σ H' hc ⟨o, rfl, rfl⟩
      have hm : c ∈ z.cps.toList := List.mem_of_getElem? (by rw [Array.getElem?_toList]; exact hc)
      have := hd c hm
      exact ⟨_, rfl, _, _, rfl, rfl, _, rfl, ifF (fig_in c this.1 this.2) ⟨_, rfl, rfl⟩⟩
    · rintro σ H' ⟨o, rfl, rfl⟩
      have decS : ∀ x y : Str, decide (V.str x = V.str y) = decide (x = y) := fun x y => by by_cases h : x = y <;> simp [h]
      refine ⟨_, rfl, rfl, _, rfl, ?_⟩
      rw [decS]
      refine ifd (fun e0 => ?_) (fun e0 => ?_)
      · exact q
      refine ⟨_, rfl, rfl, _, rfl, ?_⟩
      rw [decS]
      have e1 : z ≠ "" := fun e => hne (by rw [e]; rfl)
      refine ifT (by rw [decide_eq_false e1]; rfl) ?_
      obtain ⟨c, hc⟩ : ∃ c, z.cps.toList[0]? = some c := ⟨_, List.getElem?_eq_getElem (List.length_pos_iff.mpr hne)⟩
      have c48 : c ≠ 48 := fun e => e0 (hz0 (hhd hc e))
      have lz : z.length ≤ sizeLine := by
        rw [← ez]
        exact Nat.le_trans (nT_len (by omega) (by omega)) (sz (show 10 ≤ 1000000 by decide))
      refine ⟨_, rfl, z, 0, c, rfl, rfl, lz, atI_nat (j := 0) hc, rfl, ?_⟩
      rw [decS, decide_eq_false (fun e => c48 (by injection e with e; injection e with e; injection e))]
      exact q
theorem scRn : FnScope ["word"] ["word"] (defScope s_read_number) := ⟨rfl, rfl, rfl, by decide +kernel, rfl, by decide +kernel, by decide +kernel⟩
theorem ok_read_number (T : Txt K mg t) : FnOk P w K mg base CX0 2 t.f_read_number t.d_read_number ["word"] sp_rnum := by
  refine T.F_read_number.ok scRn (fun vs H Q E h => ?_) (fun cdv A outer s H vs Q E hr h => ?_)
  · obtain ⟨_, rfl, _⟩ := h
    rfl
  · obtain ⟨n, rfl, h0, h1, q⟩ := h
    refine ⟨_, (pss_cons (ps_if (pt_not (pt_val (pe_call (ok_is_plain T) (hr.mono (by decide)) (by rfl) T.m_is_plain T.F_is_plain.kp (b_is_plain T) .nil pass0 (pa_cons (pv 0) pa_nil))))
        (pss_one ps_never)
        pss_nil)
      (pss_one (ps_ret (pe_callTy call_int_num (by rfl) T.z_int (by rfl) (pa_cons (pv 0) pa_nil))))), ?_⟩
    obtain ⟨m, rfl⟩ := Int.eq_ofNat_of_zero_le h0
    refine ⟨_, rfl, m, rfl, by omega, _, rfl, iteF ?_⟩
    exact ⟨_, rfl, (m : Int), rfl, h0, h1, q⟩
theorem scRl : FnScope ["line", "words"] ["line"] (defScope s_read_line) := ⟨rfl, rfl, rfl, by decide +kernel, rfl, by decide +kernel, by decide +kernel⟩
theorem ok_read_line (T : Txt K mg t) : FnOk P w K mg base CX0 3 t.f_read_line t.d_read_line ["line"] sp_rl := by
  refine T.F_read_line.ok scRl (fun vs H Q E h => ?_) (fun cdv A outer s H vs Q E hr h => ?_)
  · obtain ⟨_, _, _, rfl, _⟩ := h
    rfl
  · obtain ⟨y, ns, L, rfl, hH, fy, hy, hns, q⟩ := h
    refine ⟨_, (pss_cons (ps_set (i := 1) scRl.nd rfl (Or.inl rfl) (pe_bm PySem.F.plainAttrs_str PySem.F.slot_str_split PySem.F.type_str_split mt_split (pv 0) (pa_cons pe_str pa_nil)))
      (pss_one (ps_ret (pe_tup (pa_cons (pe_ix ix_list (pv 1) pe_int (fun _ _ => rfl)) (pa_cons (pe_lc (esc := defScope s_read_line) (k := 1) ["word", "line", "words"] rfl (pi_list (pe_slice sl_list (pv 1) (po_some pe_int) po_none)) (fun _ _ _ _ _ => by exact (pg_name (i := 0) (show List.Nodup (["word", "line", "words"] : List Str) from by decide +kernel) rfl (Or.inl rfl))) (fun _ _ _ _ _ => by exact pts_nil) (fun _ _ _ _ _ => by exact (pe_call (ok_read_number T) (hr.mono (by decide)) (by rfl) T.m_read_number T.F_read_number.kp (b_read_number T) .nil pass0 (pa_cons (pv 0) pa_nil))) rfl (by decide +kernel) (by decide +kernel) rfl (by decide +kernel) (by rfl) (fun _ _ h _ => h) (by decide +kernel)) pa_nil)))))), ?_⟩
    have es := lnT_split fy hns
    refine ⟨_, rfl, rfl, lnT y ns, _, rfl, rfl, rfl, Nat.le_trans (lnT_len hy hns) (sz (Nat.le_refl _)), ?_, fun l hl => ?_⟩
    · rw [es, List.length_cons, List.length_map]
      have := hns.1
      exact sz (by omega)
    rw [es]
    have h1 := hH.alloc hl (.lst ((y :: ns.map nT).map V.str))
    refine ⟨_, rfl, l, _, _, _, rfl, rfl, SqL.of (h1.get 0 rfl), atI_nat (j := 0) rfl, ?_⟩
    refine ⟨_, rfl, _, rfl, l, _, rfl, SqL.of (h1.get 0 rfl), fun l2 hl2 => ?_⟩
    have ecut : cutV ((y :: ns.map nT).map V.str) (some 1) none = ns.map fun n => V.str (nT n) := by
      simp only [cutV, HT.sIx, List.map_cons, List.length_cons, List.length_map]
      simp
      rw [List.take_of_length_le (by simp)]
      rfl
    rw [ecut]
    have h2 := h1.alloc hl2 (.lst (ns.map fun n => V.str (nT n)))
    refine ⟨l2, rfl, ⟨_, SqL.of (h2.get 0 rfl)⟩, fun D hD => ?_⟩
    refine ⟨fun n m zs H' => m = ns.length - n ∧ n ≤ ns.length ∧ zs = (ns.take n).map V.int ∧ Has H' ((D, .lst zs) :: (l2, .lst (ns.map fun n => V.str (nT n))) :: (l, .lst ((y :: ns.map nT).map V.str)) :: L), ⟨_, rfl, Nat.zero_le _, rfl, h2.alloc hD _⟩, ?_⟩
    rintro n m zs H3 ⟨rfl, hn, ez, h3⟩
    refine ⟨h3.get 0 rfl, ?_⟩
    have lz : zs.length ≤ 1000 := by rw [ez, List.length_map, List.length_take]; have := hns.1; omega
    by_cases hlt : n < ns.length
    · have hx0 : (ns.map fun n => V.str (nT n))[n]? = some (.str (nT ns[n])) := by rw [List.getElem?_map, List.getElem?_eq_getElem hlt]; rfl
      refine .inr ⟨⟨_, _, SqL.of (h3.get 1 rfl), hx0⟩, ?_⟩
      rintro x H4 ⟨rfl, hx⟩
      have e1 := hx _ (SqL.of (h3.get 1 rfl))
      rw [hx0] at e1
      cases e1
      have nb := hns.2 ns[n] (List.getElem_mem hlt)
      refine ⟨rfl, tTrueT ?_⟩
      refine ⟨_, rfl, ns[n], rfl, nb.1, nb.2, ?_⟩
      refine ⟨sizeOk (by omega), h3.get 0 rfl, ns.length - (n + 1), by omega, rfl, hlt, ?_, h3.puti 0 rfl _⟩
      rw [ez, List.take_succ, List.getElem?_eq_getElem hlt, List.map_append]
      rfl
    · refine .inl ⟨⟨_, SqL.of (h3.get 1 rfl), by rw [List.length_map]; omega⟩, ?_⟩
      have en : n = ns.length := by omega
      rw [en, List.take_length] at ez
      subst ez
      refine ⟨sz (show 2 ≤ 1000000 by decide), fun p hp => ?_⟩
      have h4 := h3.alloc hp (.tup [.str y, .ref D])
      exact q _ p D (h4.sub (by
        refine .cons_cons _ (.cons_cons _ ?_)
        exact .cons _ (.cons _ (List.Sublist.refl _))))
end

end P

set_option Elab.async false
set_option linter.all false
set_option maxRecDepth 100000
namespace L2
open PySem PySem.Spec PyProof.Rows
theorem inKeys_mapT (k : Str) : ∀ D : List (Str × List Str), KTD.inKeys k (D.map fun p => (p.1, KTD.Dat.tup (p.2.map PyData.str))) = (D.any fun p => decide (k = p.1))
  | [] => rfl
  | p :: D => by rw [List.map_cons, List.any_cons, KTD.inKeys, inKeys_mapT k D]
theorem op_notInKT {X : Cx} : OpR X (compareOp .NotIn) (fun x y H Q => ∃ k a D, x = V.str k ∧ y = V.ref a ∧ TabT X.K a D ∧ Q (.bl (!(D.any fun p => decide (k = p.1)))) H) := by
  intro pins s σ H x y v u Q I rx ry h
  obtain ⟨k, a, D, rfl, rfl, T, q⟩ := h
  obtain ⟨t, rfl⟩ := (show ∃ t, v = Value.str k t from rx)
  cases (show u = Value.ref a from ry)
  refine KTD.notin_text (tabT_here I T) ⟨.bl (!KTD.inKeys k (D.map fun (p : Str × List Str) => (p.1, KTD.Dat.tup (p.2.map PyData.str)))), H, I.tok _, rfl, ?_⟩
  rw [inKeys_mapT]; exact q
end L2


set_option Elab.async false
set_option linter.all false
set_option maxRecDepth 100000
set_option maxHeartbeats 4000000
namespace P
open PySem L2

theorem decI (i j : Int) : decide (V.int i = V.int j) = decide (i = j) := by by_cases h : i = j <;> simp [h]
theorem any_look {k : Str} {ss : List Str} : ∀ {D : List (Str × List Str)}, D.lookup k = some ss → (!(D.any fun p => decide (k = p.1))) = false
  | [], h => by cases h
  | (x, d) :: D, h => by
    rw [List.lookup_cons] at h
    rw [List.any_cons]
    by_cases e : k = x
    · rw [decide_eq_true e]; rfl
    · rw [beq_eq_false_iff_ne.mpr e] at h
      rw [decide_eq_false e, Bool.false_or]
      exact any_look h
def sp_rowof : Sp := fun vs H Q _ => ∃ (y : Rw) (l : Addr) (L : Kn), vs = [.str y.ws, .ref l] ∧ Has H L ∧ (l, HO.lst (y.ns.map V.int)) ∈ L ∧ ∀ H' p, Has H' ((p, .tup y.v) :: L) → Q (.ref p) H'
section
variable {P : Program} {w : World} {K : PySem.W.Frag} {mg : Str → Option Value} {base : Heap} {t : Adr}
theorem scRo : FnScope ["word", "numbers"] ["word", "numbers"] (defScope s_row_of) := ⟨rfl, rfl, rfl, by decide +kernel, rfl, by decide +kernel, by decide +kernel⟩
theorem ok_row_of (T : Txt K mg t) : FnOk P w K mg base CX0 1 t.f_row_of t.d_row_of ["word", "numbers"] sp_rowof := by
  refine T.F_row_of.ok scRo (fun vs H Q E h => ?_) (fun cdv A outer s H vs Q E hr h => ?_)
  · obtain ⟨_, _, _, rfl, _⟩ := h
    rfl
  · obtain ⟨y, l, L, rfl, hH, ml, q⟩ := h
    obtain ⟨aE, eE, hE⟩ := T.x_PARTS
    have T_r_PARTS : RelV (.ref aE) t.u_PARTS := by rw [eE]; rfl
    refine ⟨_, (pss_cons (ps_if (PW.pt (pw_or (pt_cmpR op_notInKT (pv 0) (pe_glob (by rfl) T.g_PARTS T_r_PARTS) (by rfl)) (pw_or1 (pt_cmpR op_ne (pe_callB call_len_seq (by rfl) T.z_len (by rfl) (pa_cons (pv 1) pa_nil)) (pe_callB call_len_seq (by rfl) T.z_len (by rfl) (pa_cons (pe_ixT (pe_glob (by rfl) T.g_PARTS T_r_PARTS) (pv 0) (fun _ _ => rfl)) pa_nil)) (nomark _)))))
        (pss_one ps_never)
        pss_nil)
      (pss_one (ps_ret (pe_callTy call_tuple_of (by rfl) T.z_tuple (by rfl) (pa_cons (pe_op op_addL (pe_lst (pa_cons (pv 0) pa_nil)) (pv 1)) pa_nil))))), ?_⟩
    have gl : ∀ {H' : Hp} {X : Kn}, Has H' (X ++ L) → H' l = some (.lst (y.ns.map V.int)) := fun h => h.at_ (l, _) (List.mem_append_right _ ml)
    refine ⟨_, rfl, _, aE, _, rfl, rfl, hE, _, rfl, ifF ?_ ?_⟩
    · exact any_look y.parts
    refine ⟨_, rfl, l, _, rfl, .inl (SqL.of (gl (X := []) hH)), _, rfl, _, aE, _, y.ps, rfl, rfl, hE, y.parts, y.psl, fun b hb => ?_⟩
    refine ⟨b, _, rfl, .inr (hb _), rfl, _, rfl, ifF ?_ ?_⟩
    · rw [decI, List.length_map, List.length_map, y.len]
      simp
    refine ⟨_, rfl, sz (show 1 ≤ 1000000 by decide), fun l1 hl1 => ?_⟩
    have h1 := hH.alloc hl1 (.lst [.str y.ws])
    refine ⟨_, rfl, l1, l, _, _, rfl, rfl, SqL.of (h1.get 0 rfl), SqL.of (gl (X := [_]) h1), ?_, fun l2 hl2 => ?_⟩
    · rw [List.length_map]
      have := y.nsl
      exact sz (show [V.str y.ws].length + y.ns.length ≤ 1000000 by simp; omega)
    have h2 := h1.alloc hl2 (.lst ([.str y.ws] ++ y.ns.map V.int))
    refine ⟨l2, _, rfl, .inl ⟨SqL.of (h2.get 0 rfl), fun p hp => ?_⟩⟩
    have h3 := h2.alloc hp (.tup ([.str y.ws] ++ y.ns.map V.int))
    exact q _ p (h3.sub (.cons_cons _ (.cons _ (.cons _ (List.Sublist.refl _)))))
end

end P


set_option Elab.async false
set_option linter.all false
set_option maxRecDepth 100000
set_option maxHeartbeats 4000000
namespace P
open PySem L2

theorem pfl_rows (A : PA) : (pfl A).lookup ("rows" : Str) = none := by kernel_rfl
def sp_prows (C : Addr) : Sp := fun vs H Q _ => ∃ (A : PA) (ms ws : List Int) (ss : Ss) (L : Kn) (k : Nat) (z : Addr × List (Addr × Rw)), vs = [.ref A.p, .int k] ∧ Has H L ∧ PIn C A ms ws ss L ∧ ss[k]? = some z ∧ ∀ H' l, Has H' ((l, .lst (rwV z.2)) :: L) → Q (.ref l) H'
section
variable {P : Program} {w : World} {K : PySem.W.Frag} {mg : Str → Option Value} {base : Heap} {t : Adr}
theorem scPs : FnScope ["self", "stretch"] ["self", "stretch"] (defScope s_Program_rows) := ⟨rfl, rfl, rfl, by decide +kernel, rfl, by decide +kernel, by decide +kernel⟩
theorem ok_Program_rows (T : Txt K mg t) : FnOk P w K mg base CX0 2 t.f_Program_rows t.d_Program_rows ["self", "stretch"] (sp_prows t.c_Program) := by
  refine T.F_Program_rows.ok scPs (fun vs H Q E h => ?_) (fun cdv A outer s H vs Q E hr h => ?_)
  · obtain ⟨_, _, _, _, _, _, _, rfl, _⟩ := h
    rfl
  · obtain ⟨A, ms, ws, ss, L, k, z, rfl, hH, pin, hz, q⟩ := h
    have hL : ∀ {z : Addr × HO}, z ∈ L → H z.1 = some z.2 := fun m => hH.at_ _ m
    have hk : k < ss.length := (List.getElem?_eq_some_iff.mp hz).1
    refine ⟨_, (pss_cons (ps_expr (pe_call (ok_check_stretch T) (hr.mono (by decide)) (by rfl) T.m_check_stretch T.F_check_stretch.kp (b_check_stretch T) .nil pass0 (pa_cons (pv 1) (pa_cons (pe_meth0 (pv 0) T.cl_Program T.M_Program_many (ok_Program_many T) (hr.mono (by decide)) (b_Program_many T) .nil pass0) pa_nil))))
      (pss_one (ps_ret (pe_callTy call_list_of (by rfl) T.z_list (by rfl) (pa_cons (pe_ix ix_list (pe_fld (pv 0) rfl) (pv 1) (fun _ _ => rfl)) pa_nil))))), ?_⟩
    refine ⟨_, rfl, _, rfl, A.p, A.dx, _, rfl, hL pin.p, (pfl_n _).1, A, _, rfl, hL pin.p, hL pin.s, k, _, rfl, by omega, (by unfold ssV; rw [List.length_map]; omega), ?_⟩
    exact ⟨_, rfl, A.p, _, A.dx, _, _, rfl, hL pin.p, T.cl_Program, T.n_Program_stretches, pfl_s _, _, rfl, A.s, _, _, _, rfl, rfl, SqL.of (hL pin.s), atI_nat (ssV_get hz), z.1, _, rfl, .inl (SqL.of (hL (pin.l z (List.mem_of_getElem? hz)))), fun l hl => q _ l (hH.alloc hl _)⟩
end

def rwL (x : Rw) : Str := lnT x.ws x.ns
def stL (rs : List Rw) : List Str := "stretch" :: rs.map rwL
def prL (ms ws : List Int) (ss : List (List Rw)) : List Str := lnT "marks" ms :: lnT "widths" ws :: ss.flatMap stL
def prT (ms ws : List Int) (ss : List (List Rw)) : Str := Txt.join "\n" (prL ms ws ss)
def ssR (ss : Ss) : List (List Rw) := ss.map fun z => z.2.map (·.2)
structure Fit (ms ws : List Int) (ss : List (List Rw)) : Prop where
  m : Nums ms
  w : Nums ws
  r : ∀ rs ∈ ss, rs.length ≤ 110 ∧ ∀ x ∈ rs, Nums x.ns
  s : ss.length ≤ 40
theorem Rw.wsl : ∀ (x : Rw), x.ws.length ≤ 100
  | .bell _ => (by decide +kernel : ("bell" : Str).length ≤ 100)
  | .set _ _ => (by decide +kernel : ("set" : Str).length ≤ 100)
  | .ask _ _ _ => (by decide +kernel : ("ask" : Str).length ≤ 100)
  | .bump _ _ => (by decide +kernel : ("bump" : Str).length ≤ 100)
  | .go _ => (by decide +kernel : ("go" : Str).length ≤ 100)
  | .call _ => (by decide +kernel : ("call" : Str).length ≤ 100)
  | .fin => (by decide +kernel : ("end" : Str).length ≤ 100)
def sp_wp (t : Adr) : Sp := fun vs H Q _ => ∃ (A : PA) (ms ws : List Int) (ss : Ss) (L : Kn), vs = [.ref A.p] ∧ Has H L ∧ PIn t.c_Program A ms ws ss L ∧ Fit ms ws (ssR ss) ∧ JoinOk "\n" (prL ms ws (ssR ss)) = true ∧ ∀ H', Has H' L → Q (.str (prT ms ws (ssR ss))) H'
theorem prl_len {ms ws : List Int} {ss : List (List Rw)} (h : Fit ms ws ss) : ∀ n, ((ss.take n).flatMap stL).length ≤ n * 111 := by
  intro n
  induction n with
  | zero => simp
  | succ n ih =>
    rw [List.take_succ]
    cases e : ss[n]? with
    | none => rw [Option.toList_none, List.append_nil]; omega
    | some rs =>
      have := (h.r rs (List.mem_of_getElem? e)).1
      rw [List.flatMap_append, List.length_append]
      simp only [Option.toList, List.flatMap_cons, List.flatMap_nil, List.append_nil, stL, List.length_cons, List.length_map]
      omega
section
variable {P : Program} {w : World} {K : PySem.W.Frag} {mg : Str → Option Value} {base : Heap} {t : Adr}
theorem scWp : FnScope ["program", "lines", "stretch", "row"] ["program"] (defScope s_write_program) := ⟨rfl, rfl, rfl, by decide +kernel, rfl, by decide +kernel, by decide +kernel⟩
theorem ok_write_program (T : Txt K mg t) : FnOk P w K mg base CX0 3 t.f_write_program t.d_write_program ["program"] (sp_wp t) := by
  refine T.F_write_program.ok scWp (fun vs H Q E h => ?_) (fun cdv A outer s H vs Q E hr h => ?_)
  · obtain ⟨_, _, _, _, _, rfl, _⟩ := h
    rfl
  · obtain ⟨A, ms, ws, ss, L, rfl, hH, pin, fit, hok, q⟩ := h
    have hL : ∀ {H' : Hp} {X : Kn} {z : Addr × HO}, Has H' (X ++ L) → z ∈ L → H' z.1 = some z.2 := fun h m => h.at_ _ (List.mem_append_right _ m)
    have lsR : (ssR ss).length = ss.length := by unfold ssR; rw [List.length_map]
    refine ⟨_, (pss_cons (ps_set (i := 1) scWp.nd rfl (Or.inl rfl) (pe_lst (pa_cons (pe_call (ok_write_line T) (hr.mono (by decide)) (by rfl) T.m_write_line T.F_write_line.kp (b_write_line T) .nil pass0 (pa_cons pe_str (pa_cons (pe_meth0 (pv 0) T.cl_Program T.M_Program_marks (ok_Program_marks T) (hr.mono (by decide)) (b_Program_marks T) .nil pass0) pa_nil))) (pa_cons (pe_call (ok_write_line T) (hr.mono (by decide)) (by rfl) T.m_write_line T.F_write_line.kp (b_write_line T) .nil pass0 (pa_cons pe_str (pa_cons (pe_meth0 (pv 0) T.cl_Program T.M_Program_widths (ok_Program_widths T) (hr.mono (by decide)) (b_Program_widths T) .nil pass0) pa_nil))) pa_nil))))
      (pss_cons (ps_for PassesOwn.never rfl (pi_range1 (by rfl) T.z_range (pa_cons (pe_meth0 (pv 0) T.cl_Program T.M_Program_many (ok_Program_many T) (hr.mono (by decide)) (b_Program_many T) .nil pass0) pa_nil)) (pg_name (i := 2) scWp.nd rfl (Or.inl rfl))
        (pss_cons (ps_expr (pe_bm PySem.F.plainAttrs_list PySem.F.slot_list_append PySem.F.type_list_append mt_append (pv 1) (pa_cons pe_str pa_nil)))
          (pss_one (ps_for PassesOwn.never rfl (pi_list (pe_meth (pv 0) T.cl_Program T.M_Program_rows (ok_Program_rows T) (hr.mono (by decide)) (b_Program_rows T) .nil pass0 (pa_cons (pv 2) pa_nil))) (pg_name (i := 3) scWp.nd rfl (Or.inl rfl))
            (pss_one (ps_expr (pe_bm PySem.F.plainAttrs_list PySem.F.slot_list_append PySem.F.type_list_append mt_append (pv 1) (pa_cons (pe_call (ok_write_line T) (hr.mono (by decide)) (by rfl) T.m_write_line T.F_write_line.kp (b_write_line T) .nil pass0 (pa_cons (pe_ix ix_tup (pv 3) pe_int (fun _ _ => rfl)) (pa_cons (pe_slice sl_tup (pv 3) (po_some pe_int) po_none) pa_nil))) pa_nil))))))))
      (pss_one (ps_ret (pe_bm PySem.F.plainAttrs_str PySem.F.slot_str_join PySem.F.type_str_join mt_join pe_str (pa_cons (pv 1) pa_nil)))))), ?_⟩
    refine ⟨_, rfl, A.p, A.dx, _, rfl, hL (X := []) hH pin.p, (pfl_n _).2.1, A, _, L, rfl, hH, pin.p, pin.m, fun H1 l1 h1 => ?_⟩
    refine ⟨"marks", l1, true, ms, _, rfl, h1, .inl ⟨rfl, List.mem_cons_self⟩, by decide +kernel, fit.m, fun H2 h2 => ?_⟩
    refine ⟨_, rfl, A.p, A.dx, _, rfl, hL (X := []) h2.tail pin.p, (pfl_n _).2.2.1, A, _, L, rfl, h2.tail, pin.p, pin.w, fun H3 l3 h3 => ?_⟩
    refine ⟨"widths", l3, true, ws, _, rfl, h3, .inl ⟨rfl, List.mem_cons_self⟩, by decide +kernel, fit.w, fun H4 h4 => ?_⟩
    refine ⟨sz (show 2 ≤ 1000000 by decide), fun ll hll => ?_⟩
    have h5 := h4.tail.alloc hll (.lst ([lnT "marks" ms, lnT "widths" ws].map V.str))
    clear h1 h2 h3 h4
    refine ⟨_, rfl, A.p, A.dx, _, rfl, hL (X := [_]) h5 pin.p, (pfl_n _).1, A, _, rfl, hL (X := [_]) h5 pin.p, hL (X := [_]) h5 pin.s, _, rfl, (by omega), (by unfold ssV; rw [List.length_map]; have := fit.s; omega), for_range (fun i σ H' => ∃ (o2 o3 : Option V), σ = [some (.ref A.p), some (.ref ll), o2, o3] ∧ Has H' ((ll, .lst ((lnT "marks" ms :: lnT "widths" ws :: ((ssR ss).take i).flatMap stL).map V.str)) :: L)) ⟨_, _, rfl, h5⟩ ?_ ?_⟩
    · rintro i σ H6 hi ⟨o2, o3, rfl, h6⟩
      have hi : i < ss.length := by
        have : i < ((ssV ss).length : Int).toNat := hi
        unfold ssV at this
        rw [List.length_map] at this
        omega
      rw [Int.zero_add]
      obtain ⟨pre, epre⟩ : ∃ pre, lnT "marks" ms :: lnT "widths" ws :: ((ssR ss).take i).flatMap stL = pre := ⟨_, rfl⟩
      have lpre : pre.length ≤ 2 + i * 111 := by
        rw [← epre]
        have := prl_len fit i
        simp only [List.length_cons]
        omega
      rw [epre] at h6
      have hz := List.getElem?_eq_getElem hi
      have hzm := List.getElem_mem hi
      have hR : (ssR ss)[i]? = some (ss[i].2.map (·.2)) := by unfold ssR; rw [List.getElem?_map, hz]; rfl
      have hr := fit.r _ (List.mem_of_getElem? hR)
      have s40 := fit.s
      refine ⟨_, rfl, .inl ⟨rfl, _, SqL.of (h6.get 0 rfl)⟩, ll, _, _, rfl, rfl, h6.get 0 rfl, sizeOk (by rw [List.length_map]; omega), ?_⟩
      have h7 := h6.puti 0 rfl (.lst (pre.map V.str ++ [.str "stretch"]))
      refine ⟨_, rfl, A.p, A.dx, _, rfl, hL (X := [_]) h7 pin.p, pfl_rows _, _, rfl, A, ms, ws, ss, _, i, ss[i], rfl, h7, pin.mono (fun z hz => List.mem_cons_of_mem _ hz), hz, fun H8 rl h8 => ?_⟩
      refine ⟨rl, rfl, ⟨_, SqL.of (h8.get 0 rfl)⟩, for_list (xs := rwV ss[i].2) (fun j σ H' => ∃ (o3 : Option V), σ = [some (.ref A.p), some (.ref ll), some (.int i), o3] ∧ Has H' ((rl, .lst (rwV ss[i].2)) :: (ll, .lst ((pre ++ ("stretch" : Str) :: (((ss[i].2.map (·.2)).take j).map rwL)).map V.str)) :: L)) ⟨_, rfl, ?_⟩ (fun j σ H' _ ⟨_, _, e⟩ => SqL.of (e.get 0 rfl)) ?_ ?_⟩
      · rw [List.take_zero, List.map_nil, List.map_append]
        exact h8
      · rintro j x σ H9 hx ⟨o3, rfl, h9⟩
        unfold rwV at hx
        rw [List.getElem?_map] at hx
        obtain ⟨y, hy, rfl⟩ := Option.map_eq_some_iff.mp hx
        have hym := List.mem_of_getElem? hy
        have jl := (List.getElem?_eq_some_iff.mp hy).1
        have hyR : (ss[i].2.map (·.2))[j]? = some y.2 := by rw [List.getElem?_map, hy]; rfl
        rw [List.length_map] at hr
        have g := hL (X := [_, _]) h9 (pin.r _ hzm y hym)
        refine ⟨_, rfl, .inl ⟨rfl, _, SqL.of (h9.get 1 rfl)⟩, _, rfl, y.1, _, _, _, rfl, rfl, SqT.of g, atI_nat (j := 0) rfl, ?_⟩
        refine ⟨_, rfl, _, rfl, y.1, _, rfl, SqT.of g, ?_, fun tl htl => ?_⟩
        · unfold Rw.v
          exact cutok (by rw [List.length_cons, List.length_map]; omega) (by rw [List.length_cons, List.length_map]; exact y.2.nsl)
        have hcut : cutV y.2.v (some 1) none = y.2.ns.map V.int := by cases y.2 <;> rfl
        rw [hcut]
        have h10 := h9.alloc htl (.tup (y.2.ns.map V.int))
        refine ⟨y.2.ws, tl, false, y.2.ns, _, rfl, h10, .inr ⟨rfl, List.mem_cons_self⟩, y.2.wsl, hr.2 _ (List.mem_of_getElem? hyR), fun H11 h11 => ?_⟩
        have h11 := h11.tail
        refine ⟨ll, _, _, rfl, rfl, h11.get 1 rfl, sizeOk (by simp only [List.length_map, List.length_append, List.length_cons, List.length_take]; omega), ?_⟩
        refine ⟨_, rfl, ?_⟩
        have h12 := h11.puti 1 rfl (.lst ((pre ++ ("stretch" : Str) :: (((ss[i].2.map (·.2)).take j).map rwL)).map V.str ++ [.str (rwL y.2)]))
        have e12 : (pre ++ ("stretch" : Str) :: (((ss[i].2.map (·.2)).take j).map rwL)).map V.str ++ [.str (rwL y.2)] = (pre ++ ("stretch" : Str) :: (((ss[i].2.map (·.2)).take (j + 1)).map rwL)).map V.str := by
          rw [List.take_succ, hyR]
          simp [List.map_append]
        rw [e12] at h12
        rw [show V.str (lnT y.2.ws y.2.ns) = V.str (rwL y.2) from rfl, e12]
        exact h12
      · rintro σ H9 ⟨o3, rfl, h9⟩
        have lr : (rwV ss[i].2).length = (ss[i].2.map (·.2)).length := by unfold rwV; rw [List.length_map, List.length_map]
        rw [lr, List.take_length] at h9
        refine ⟨_, _, rfl, ?_⟩
        have e : lnT "marks" ms :: lnT "widths" ws :: ((ssR ss).take (i + 1)).flatMap stL = pre ++ ("stretch" : Str) :: ((ss[i].2.map (·.2)).map rwL) := by
          rw [List.take_succ, hR, List.flatMap_append, ← epre]
          simp [stL]
        rw [e]
        exact h9.tail
    · rintro σ H6 ⟨o2, o3, rfl, h6⟩
      have l0 : ((ssV ss).length : Int).toNat = (ssR ss).length := by unfold ssV; rw [List.length_map, lsR]; omega
      rw [l0, List.take_length] at h6
      exact ⟨rfl, _, rfl, _, ll, prL ms ws (ssR ss), rfl, rfl, SqL.of (h6.get 0 rfl), hok, q _ h6.tail⟩
end

end P


set_option Elab.async false
set_option linter.all false
set_option maxRecDepth 100000
set_option maxHeartbeats 4000000
namespace P
open PySem L2

def sp_pt : Sp := fun vs H Q _ => ∃ (m w0 pl : Addr) (ms ws : List Int) (ss : Ss) (L : Kn), vs = [.ref m, .ref w0, .ref pl] ∧ Has H L ∧ (m, HO.lst (ms.map V.int)) ∈ L ∧ (w0, HO.lst (ws.map V.int)) ∈ L ∧ (pl, HO.lst (ssV ss)) ∈ L ∧ (∀ z ∈ ss, (z.1, HO.lst (rwV z.2)) ∈ L) ∧ (∀ z ∈ ss, ∀ x ∈ z.2, (x.1, HO.tup x.2.v) ∈ L) ∧ Fit ms ws (ssR ss) ∧ JoinOk "\n" (prL ms ws (ssR ss)) = true ∧ ∀ H', Has H' L → Q (.str (prT ms ws (ssR ss))) H'
section
variable {P : Program} {w : World} {K : PySem.W.Frag} {mg : Str → Option Value} {base : Heap} {t : Adr}
theorem scPx : FnScope ["_law_marks", "_law_widths", "_law_parts_here", "_law_lines", "_law_rows", "_law_deed"] ["_law_marks", "_law_widths", "_law_parts_here"] (defScope s_program_text) := ⟨rfl, rfl, rfl, by decide +kernel, rfl, by decide +kernel, by decide +kernel⟩
theorem ok_program_text (T : Txt K mg t) : FnOk P w K mg base CX0 1 t.f_program_text t.d_program_text ["_law_marks", "_law_widths", "_law_parts_here"] sp_pt := by
  refine T.F_program_text.ok scPx (fun vs H Q E h => ?_) (fun cdv A outer s H vs Q E hr h => ?_)
  · obtain ⟨_, _, _, _, _, _, _, rfl, _⟩ := h
    rfl
  · obtain ⟨m, w0, pl, ms, ws, ss, L, rfl, hH, mm, mw, mp, mz, mr, fit, hok, q⟩ := h
    have hL : ∀ {H' : Hp} {X : Kn} {z : Addr × HO}, Has H' (X ++ L) → z ∈ L → H' z.1 = some z.2 := fun h m => h.at_ _ (List.mem_append_right _ m)
    have lsR : (ssR ss).length = ss.length := by unfold ssR; rw [List.length_map]
    refine ⟨_, (pss_cons (ps_set (i := 3) scPx.nd rfl (Or.inl rfl) (pe_lst (pa_cons (pe_bm PySem.F.plainAttrs_str PySem.F.slot_str_join PySem.F.type_str_join mt_join pe_str (pa_cons (pe_op op_addL (pe_lst (pa_cons pe_str pa_nil)) (pe_lc (esc := defScope s_program_text) (k := 1) ["_law_side", "_law_marks", "_law_widths", "_law_parts_here", "_law_lines", "_law_rows", "_law_deed"] rfl (pi_list (pv 0)) (fun _ _ _ _ _ => by exact (pg_name (i := 0) (show List.Nodup (["_law_side", "_law_marks", "_law_widths", "_law_parts_here", "_law_lines", "_law_rows", "_law_deed"] : List Str) from by decide +kernel) rfl (Or.inl rfl))) (fun _ _ _ _ _ => by exact pts_nil) (fun _ _ _ _ _ => by exact (pe_callTy call_str_int (by rfl) T.z_str (by rfl) (pa_cons (pv 0) pa_nil))) rfl (by decide +kernel) (by decide +kernel) rfl (by decide +kernel) (by rfl) (fun _ _ h _ => h) (by decide +kernel))) pa_nil)) pa_nil)))
      (pss_cons (ps_expr (pe_bm PySem.F.plainAttrs_list PySem.F.slot_list_append PySem.F.type_list_append mt_append (pv 3) (pa_cons (pe_bm PySem.F.plainAttrs_str PySem.F.slot_str_join PySem.F.type_str_join mt_join pe_str (pa_cons (pe_op op_addL (pe_lst (pa_cons pe_str pa_nil)) (pe_lc (esc := defScope s_program_text) (k := 1) ["_law_width", "_law_marks", "_law_widths", "_law_parts_here", "_law_lines", "_law_rows", "_law_deed"] rfl (pi_list (pv 1)) (fun _ _ _ _ _ => by exact (pg_name (i := 0) (show List.Nodup (["_law_width", "_law_marks", "_law_widths", "_law_parts_here", "_law_lines", "_law_rows", "_law_deed"] : List Str) from by decide +kernel) rfl (Or.inl rfl))) (fun _ _ _ _ _ => by exact pts_nil) (fun _ _ _ _ _ => by exact (pe_callTy call_str_int (by rfl) T.z_str (by rfl) (pa_cons (pv 0) pa_nil))) rfl (by decide +kernel) (by decide +kernel) rfl (by decide +kernel) (by rfl) (fun _ _ h _ => h) (by decide +kernel))) pa_nil)) pa_nil)))
      (pss_cons (ps_for PassesOwn.never rfl (pi_list (pv 2)) (pg_name (i := 4) scPx.nd rfl (Or.inl rfl))
        (pss_cons (ps_expr (pe_bm PySem.F.plainAttrs_list PySem.F.slot_list_append PySem.F.type_list_append mt_append (pv 3) (pa_cons pe_str pa_nil)))
          (pss_one (ps_for PassesOwn.never rfl (pi_list (pv 4)) (pg_name (i := 5) scPx.nd rfl (Or.inl rfl))
            (pss_one (ps_expr (pe_bm PySem.F.plainAttrs_list PySem.F.slot_list_append PySem.F.type_list_append mt_append (pv 3) (pa_cons (pe_bm PySem.F.plainAttrs_str PySem.F.slot_str_join PySem.F.type_str_join mt_join pe_str (pa_cons (pe_op op_addL (pe_lst (pa_cons (pe_ix ix_tup (pv 5) pe_int (fun _ _ => rfl)) pa_nil)) (pe_lc (esc := defScope s_program_text) (k := 1) ["_law_number", "_law_marks", "_law_widths", "_law_parts_here", "_law_lines", "_law_rows", "_law_deed"] rfl (pi_tup (pe_slice sl_tup (pv 5) (po_some pe_int) po_none)) (fun _ _ _ _ _ => by exact (pg_name (i := 0) (show List.Nodup (["_law_number", "_law_marks", "_law_widths", "_law_parts_here", "_law_lines", "_law_rows", "_law_deed"] : List Str) from by decide +kernel) rfl (Or.inl rfl))) (fun _ _ _ _ _ => by exact pts_nil) (fun _ _ _ _ _ => by exact (pe_callTy call_str_int (by rfl) T.z_str (by rfl) (pa_cons (pv 0) pa_nil))) rfl (by decide +kernel) (by decide +kernel) rfl (by decide +kernel) (by rfl) (fun _ _ h _ => h) (by decide +kernel))) pa_nil)) pa_nil))))))))
      (pss_one (ps_ret (pe_bm PySem.F.plainAttrs_str PySem.F.slot_str_join PySem.F.type_str_join mt_join pe_str (pa_cons (pv 3) pa_nil))))))), ?_⟩
    rw []
    refine ⟨rfl, sz (show 1 ≤ 1000000 by decide), fun l1 hl1 => ?_⟩
    have k1 : Has _ (((l1, HO.lst [.str ("marks" : Str)]) :: []) ++ L) := hH.alloc hl1 (.lst [.str ("marks" : Str)])
    refine ⟨_, rfl, m, rfl, ⟨_, SqL.of (hL k1 mm)⟩, fun D hD => ?_⟩
    refine ⟨fun n mm zs H' => mm = ms.length - n ∧ n ≤ ms.length ∧ zs = (ms.take n).map (fun x => V.str (nT x)) ∧ Has H' (((D, HO.lst zs) :: (l1, HO.lst [.str ("marks" : Str)]) :: []) ++ L), ⟨_, rfl, Nat.zero_le _, rfl, k1.alloc hD _⟩, ?_⟩
    rintro n mm zs H2 ⟨rfl, hn, ez, h2⟩
    refine ⟨h2.get 0 rfl, ?_⟩
    have lz : zs.length ≤ 1000 := by rw [ez, List.length_map, List.length_take]; have := fit.m.1; omega
    by_cases hlt : n < ms.length
    · have hx0 : (ms.map V.int)[n]? = some (.int ms[n]) := by rw [List.getElem?_map, List.getElem?_eq_getElem hlt]; rfl
      refine .inr ⟨⟨_, _, SqL.of (hL h2 mm), hx0⟩, ?_⟩
      rintro x H3 ⟨rfl, hx⟩
      have e1 := hx _ (SqL.of (hL h2 mm))
      rw [hx0] at e1
      cases e1
      have nb := fit.m.2 ms[n] (List.getElem_mem hlt)
      refine ⟨rfl, tTrueT ?_⟩
      refine ⟨_, rfl, _, rfl, nT_log nb.1 nb.2, ?_⟩
      refine ⟨sizeOk (by omega), h2.get 0 rfl, ms.length - (n + 1), by omega, rfl, hlt, ?_, h2.puti 0 rfl _⟩
      rw [ez, List.take_succ, List.getElem?_eq_getElem hlt, List.map_append]
      rfl
    refine .inl ⟨⟨_, SqL.of (hL h2 mm), by rw [List.length_map]; omega⟩, ?_⟩
    have en : n = ms.length := by omega
    rw [en, List.take_length] at ez
    refine ⟨l1, D, _, _, rfl, rfl, SqL.of (h2.get 1 rfl), SqL.of (h2.get 0 rfl), Nat.le_trans (show [V.str ("marks" : Str)].length + zs.length ≤ 1001 by simp; omega) (sz (show 1001 ≤ 1000000 by decide)), fun l hl => ?_⟩
    have h3 := h2.alloc hl (.lst ([.str ("marks" : Str)] ++ zs))
    have e3 : [V.str ("marks" : Str)] ++ zs = (("marks" : Str) :: ms.map nT).map V.str := by rw [ez]; simp
    rw [e3] at h3 ⊢
    refine ⟨_, l, ("marks" : Str) :: ms.map nT, rfl, rfl, SqL.of (h3.get 0 rfl), joinOk (M := 100) (ln_items (by decide +kernel) fit.m) (by
      have := fit.m.1
      rw [List.length_cons, List.length_map, show (Str.ofString " ").length = 1 from rfl]
      exact Nat.le_trans (show (ms.length + 1) * (100 + 1) ≤ 1000000 by omega) (sz (Nat.le_refl _))), ?_⟩
    refine ⟨sz (show 1 ≤ 1000000 by decide), fun ll hll => ?_⟩
    have h4 : Has _ ([(ll, HO.lst [.str (lnT "marks" ms)])] ++ L) := (h3.tail.tail.tail).alloc (o := .lst [.str (lnT "marks" ms)]) hll
    dsimp only [List.set]
    clear h3 h2 k1 e3 ez lz
    refine ⟨_, rfl, .inl ⟨rfl, _, SqL.of (h4.get 0 rfl)⟩, ?_⟩
    refine ⟨rfl, sz (show 1 ≤ 1000000 by decide), fun l1 hl1 => ?_⟩
    have k1 : Has _ (((l1, HO.lst [.str ("widths" : Str)]) :: [(ll, HO.lst [.str (lnT "marks" ms)])]) ++ L) := h4.alloc hl1 (.lst [.str ("widths" : Str)])
    refine ⟨_, rfl, w0, rfl, ⟨_, SqL.of (hL k1 mw)⟩, fun D hD => ?_⟩
    refine ⟨fun n mm zs H' => mm = ws.length - n ∧ n ≤ ws.length ∧ zs = (ws.take n).map (fun x => V.str (nT x)) ∧ Has H' (((D, HO.lst zs) :: (l1, HO.lst [.str ("widths" : Str)]) :: [(ll, HO.lst [.str (lnT "marks" ms)])]) ++ L), ⟨_, rfl, Nat.zero_le _, rfl, k1.alloc hD _⟩, ?_⟩
    rintro n mm zs H2 ⟨rfl, hn, ez, h2⟩
    refine ⟨h2.get 0 rfl, ?_⟩
    have lz : zs.length ≤ 1000 := by rw [ez, List.length_map, List.length_take]; have := fit.w.1; omega
    by_cases hlt : n < ws.length
    · have hx0 : (ws.map V.int)[n]? = some (.int ws[n]) := by rw [List.getElem?_map, List.getElem?_eq_getElem hlt]; rfl
      refine .inr ⟨⟨_, _, SqL.of (hL h2 mw), hx0⟩, ?_⟩
      rintro x H3 ⟨rfl, hx⟩
      have e1 := hx _ (SqL.of (hL h2 mw))
      rw [hx0] at e1
      cases e1
      have nb := fit.w.2 ws[n] (List.getElem_mem hlt)
      refine ⟨rfl, tTrueT ?_⟩
      refine ⟨_, rfl, _, rfl, nT_log nb.1 nb.2, ?_⟩
      refine ⟨sizeOk (by omega), h2.get 0 rfl, ws.length - (n + 1), by omega, rfl, hlt, ?_, h2.puti 0 rfl _⟩
      rw [ez, List.take_succ, List.getElem?_eq_getElem hlt, List.map_append]
      rfl
    refine .inl ⟨⟨_, SqL.of (hL h2 mw), by rw [List.length_map]; omega⟩, ?_⟩
    have en : n = ws.length := by omega
    rw [en, List.take_length] at ez
    refine ⟨l1, D, _, _, rfl, rfl, SqL.of (h2.get 1 rfl), SqL.of (h2.get 0 rfl), Nat.le_trans (show [V.str ("widths" : Str)].length + zs.length ≤ 1001 by simp; omega) (sz (show 1001 ≤ 1000000 by decide)), fun l hl => ?_⟩
    have h3 := h2.alloc hl (.lst ([.str ("widths" : Str)] ++ zs))
    have e3 : [V.str ("widths" : Str)] ++ zs = (("widths" : Str) :: ws.map nT).map V.str := by rw [ez]; simp
    rw [e3] at h3 ⊢
    refine ⟨_, l, ("widths" : Str) :: ws.map nT, rfl, rfl, SqL.of (h3.get 0 rfl), joinOk (M := 100) (ln_items (by decide +kernel) fit.w) (by
      have := fit.w.1
      rw [List.length_cons, List.length_map, show (Str.ofString " ").length = 1 from rfl]
      exact Nat.le_trans (show (ws.length + 1) * (100 + 1) ≤ 1000000 by omega) (sz (Nat.le_refl _))), ?_⟩
    have h5 := h3.tail.tail.tail
    refine ⟨ll, _, _, rfl, rfl, h5.get 0 rfl, sizeOk (show 1 ≤ 1000000 by decide), ?_⟩
    have h6 : Has _ ([(ll, HO.lst ([lnT "marks" ms, lnT "widths" ws].map V.str))] ++ L) := h5.puti 0 rfl (.lst ([lnT "marks" ms, lnT "widths" ws].map V.str))
    clear h5 h3 h2 k1 e3 ez lz h4
    refine ⟨_, rfl, pl, rfl, ⟨_, SqL.of (hL h6 mp)⟩, for_list (xs := ssV ss) (fun i σ H' => ∃ (o4 o5 : Option V), σ = [some (.ref m), some (.ref w0), some (.ref pl), some (.ref ll), o4, o5] ∧ Has H' ([(ll, HO.lst ((lnT "marks" ms :: lnT "widths" ws :: ((ssR ss).take i).flatMap stL).map V.str))] ++ L)) ⟨_, _, rfl, h6⟩ (fun i σ H' _ ⟨_, _, _, e⟩ => SqL.of (hL e mp)) ?_ ?_⟩
    · clear h6
      rintro i x σ H6 hx ⟨o4, o5, rfl, h6⟩
      unfold ssV at hx
      rw [List.getElem?_map] at hx
      obtain ⟨z, hz, rfl⟩ := Option.map_eq_some_iff.mp hx
      have hzm := List.mem_of_getElem? hz
      have hi := (List.getElem?_eq_some_iff.mp hz).1
      obtain ⟨pre, epre⟩ : ∃ pre, lnT "marks" ms :: lnT "widths" ws :: ((ssR ss).take i).flatMap stL = pre := ⟨_, rfl⟩
      have lpre : pre.length ≤ 2 + i * 111 := by
        rw [← epre]
        have := prl_len fit i
        simp only [List.length_cons]
        omega
      rw [epre] at h6
      have hR : (ssR ss)[i]? = some (z.2.map (·.2)) := by unfold ssR; rw [List.getElem?_map, hz]; rfl
      have hr := fit.r _ (List.mem_of_getElem? hR)
      rw [List.length_map] at hr
      have s40 := fit.s
      rw [lsR] at s40
      refine ⟨_, rfl, .inl ⟨rfl, _, SqL.of (h6.get 0 rfl)⟩, ll, _, _, rfl, rfl, h6.get 0 rfl, sizeOk (by rw [List.length_map]; omega), ?_⟩
      have h7 := h6.puti 0 rfl (.lst (pre.map V.str ++ [.str "stretch"]))
      refine ⟨_, rfl, z.1, rfl, ⟨_, SqL.of (hL (X := [_]) h7 (mz z hzm))⟩, for_list (xs := rwV z.2) (fun j σ H' => ∃ (o5 : Option V), σ = [some (.ref m), some (.ref w0), some (.ref pl), some (.ref ll), some (.ref z.1), o5] ∧ Has H' ([(ll, HO.lst ((pre ++ ("stretch" : Str) :: (((z.2.map (·.2)).take j).map rwL)).map V.str))] ++ L)) ⟨_, rfl, ?_⟩ (fun j σ H' _ ⟨_, _, e⟩ => SqL.of (hL e (mz z hzm))) ?_ ?_⟩
      · rw [List.take_zero, List.map_nil, List.map_append]
        exact h7
      · rintro j x σ H9 hx ⟨o5, rfl, h9⟩
        unfold rwV at hx
        rw [List.getElem?_map] at hx
        obtain ⟨y, hy, rfl⟩ := Option.map_eq_some_iff.mp hx
        have hym := List.mem_of_getElem? hy
        have jl := (List.getElem?_eq_some_iff.mp hy).1
        have hyR : (z.2.map (·.2))[j]? = some y.2 := by rw [List.getElem?_map, hy]; rfl
        have fy := hr.2 _ (List.mem_of_getElem? hyR)
        have lcur : (pre ++ ("stretch" : Str) :: (((z.2.map (·.2)).take j).map rwL)).length ≤ 10000 := by
          simp only [List.length_map, List.length_append, List.length_cons, List.length_take]
          omega
        have enext : (pre ++ ("stretch" : Str) :: (((z.2.map (·.2)).take j).map rwL)).map V.str ++ [.str (rwL y.2)] = (pre ++ ("stretch" : Str) :: (((z.2.map (·.2)).take (j + 1)).map rwL)).map V.str := by
          rw [List.take_succ, hyR]
          simp [List.map_append]
        obtain ⟨cur, ecur⟩ : ∃ cur, pre ++ ("stretch" : Str) :: (((z.2.map (·.2)).take j).map rwL) = cur := ⟨_, rfl⟩
        rw [ecur] at h9 lcur enext
        refine ⟨_, rfl, .inl ⟨rfl, _, SqL.of (h9.get 0 rfl)⟩, ?_⟩
        refine ⟨rfl, _, rfl, y.1, _, _, _, rfl, rfl, SqT.of (hL h9 (mr z hzm y hym)), atI_nat (j := 0) rfl, sz (show 1 ≤ 1000000 by decide), fun l1 hl1 => ?_⟩
        have k1 : Has _ (((l1, HO.lst [.str y.2.ws]) :: [(ll, HO.lst (cur.map V.str))]) ++ L) := h9.alloc hl1 (.lst [.str y.2.ws])
        refine ⟨_, rfl, _, rfl, y.1, _, rfl, SqT.of (hL k1 (mr z hzm y hym)), (by
          unfold Rw.v
          exact cutok (by rw [List.length_cons, List.length_map]; omega) (by rw [List.length_cons, List.length_map]; exact y.2.nsl)), fun tl htl => ?_⟩
        have hcut : cutV y.2.v (some 1) none = y.2.ns.map V.int := by cases y.2 <;> rfl
        rw [hcut]
        have k2 : Has _ (((tl, HO.tup (y.2.ns.map V.int)) :: (l1, HO.lst [.str y.2.ws]) :: [(ll, HO.lst (cur.map V.str))]) ++ L) := k1.alloc htl (.tup (y.2.ns.map V.int))
        refine ⟨tl, rfl, ⟨_, SqT.of (k2.get 0 rfl)⟩, fun D hD => ?_⟩
        refine ⟨fun n mm zs H' => mm = y.2.ns.length - n ∧ n ≤ y.2.ns.length ∧ zs = (y.2.ns.take n).map (fun x => V.str (nT x)) ∧ Has H' (((D, HO.lst zs) :: (tl, HO.tup (y.2.ns.map V.int)) :: (l1, HO.lst [.str y.2.ws]) :: [(ll, HO.lst (cur.map V.str))]) ++ L), ⟨_, rfl, Nat.zero_le _, rfl, k2.alloc hD _⟩, ?_⟩
        rintro n mm zs H2 ⟨rfl, hn, ez, h2⟩
        refine ⟨h2.get 0 rfl, ?_⟩
        have lz : zs.length ≤ 1000 := by rw [ez, List.length_map, List.length_take]; have := fy.1; omega
        by_cases hlt : n < y.2.ns.length
        · have hx0 : (y.2.ns.map V.int)[n]? = some (.int y.2.ns[n]) := by rw [List.getElem?_map, List.getElem?_eq_getElem hlt]; rfl
          refine .inr ⟨⟨_, _, SqT.of (h2.get 1 rfl), hx0⟩, ?_⟩
          rintro x H3 ⟨rfl, hx⟩
          have e1 := hx _ (SqT.of (h2.get 1 rfl))
          rw [hx0] at e1
          cases e1
          have nb := fy.2 y.2.ns[n] (List.getElem_mem hlt)
          refine ⟨rfl, tTrueT ?_⟩
          refine ⟨_, rfl, _, rfl, nT_log nb.1 nb.2, ?_⟩
          refine ⟨sizeOk (by omega), h2.get 0 rfl, y.2.ns.length - (n + 1), by omega, rfl, hlt, ?_, h2.puti 0 rfl _⟩
          rw [ez, List.take_succ, List.getElem?_eq_getElem hlt, List.map_append]
          rfl
        refine .inl ⟨⟨_, SqT.of (h2.get 1 rfl), by rw [List.length_map]; omega⟩, ?_⟩
        have en : n = y.2.ns.length := by omega
        rw [en, List.take_length] at ez
        refine ⟨l1, D, _, _, rfl, rfl, SqL.of (h2.get 2 rfl), SqL.of (h2.get 0 rfl), Nat.le_trans (show [V.str y.2.ws].length + zs.length ≤ 1001 by simp; omega) (sz (show 1001 ≤ 1000000 by decide)), fun l hl => ?_⟩
        have h3 := h2.alloc hl (.lst ([.str y.2.ws] ++ zs))
        have e3 : [V.str y.2.ws] ++ zs = (y.2.ws :: y.2.ns.map nT).map V.str := by rw [ez]; simp
        rw [e3] at h3 ⊢
        refine ⟨_, l, y.2.ws :: y.2.ns.map nT, rfl, rfl, SqL.of (h3.get 0 rfl), joinOk (M := 100) (ln_items y.2.wsl fy) (by
          have := fy.1
          rw [List.length_cons, List.length_map, show (Str.ofString " ").length = 1 from rfl]
          exact Nat.le_trans (show (y.2.ns.length + 1) * (100 + 1) ≤ 1000000 by omega) (sz (Nat.le_refl _))), ?_⟩
        have h10 := h3.tail.tail.tail.tail
        refine ⟨ll, _, _, rfl, rfl, h10.get 0 rfl, sizeOk (by rw [List.length_map]; omega), ?_⟩
        have h12 := h10.puti 0 rfl (.lst (cur.map V.str ++ [.str (rwL y.2)]))
        rw [enext] at h12
        refine ⟨_, rfl, ?_⟩
        rw [show V.str (Txt.join " " (y.2.ws :: y.2.ns.map nT)) = V.str (rwL y.2) from rfl, enext]
        exact h12
      · rintro σ H9 ⟨o5, rfl, h9⟩
        have lr : (rwV z.2).length = (z.2.map (·.2)).length := by unfold rwV; rw [List.length_map, List.length_map]
        rw [lr, List.take_length] at h9
        refine ⟨_, _, rfl, ?_⟩
        have e : lnT "marks" ms :: lnT "widths" ws :: ((ssR ss).take (i + 1)).flatMap stL = pre ++ ("stretch" : Str) :: ((z.2.map (·.2)).map rwL) := by
          rw [List.take_succ, hR, List.flatMap_append, ← epre]
          simp [stL]
        rw [e]
        exact h9
    · clear h6
      rintro σ H6 ⟨o4, o5, rfl, h6⟩
      have l0 : (ssV ss).length = (ssR ss).length := by unfold ssV; rw [List.length_map, lsR]
      rw [l0, List.take_length] at h6
      exact ⟨rfl, _, rfl, _, ll, prL ms ws (ssR ss), rfl, rfl, SqL.of (h6.get 0 rfl), hok, q _ h6.tail⟩
end

end P


set_option Elab.async false
set_option linter.all false
set_option maxRecDepth 100000
set_option maxHeartbeats 4000000
namespace P
open PySem L2

theorem Rw.wsl10 : ∀ (x : Rw), x.ws.length ≤ 10
  | .bell _ => (by decide +kernel : ("bell" : Str).length ≤ 10)
  | .set _ _ => (by decide +kernel : ("set" : Str).length ≤ 10)
  | .ask _ _ _ => (by decide +kernel : ("ask" : Str).length ≤ 10)
  | .bump _ _ => (by decide +kernel : ("bump" : Str).length ≤ 10)
  | .go _ => (by decide +kernel : ("go" : Str).length ≤ 10)
  | .call _ => (by decide +kernel : ("call" : Str).length ≤ 10)
  | .fin => (by decide +kernel : ("end" : Str).length ≤ 10)
theorem rwL_len (x : Rw) (h : Nums x.ns) : (rwL x).length ≤ 44 := by
  have h1 : ∀ y ∈ x.ws :: x.ns.map nT, y.length ≤ 10 := fun y hy => by
    rcases List.mem_cons.mp hy with rfl | hy
    · exact x.wsl10
    · obtain ⟨n, hn, rfl⟩ := List.mem_map.mp hy
      exact nT_len (h.2 n hn).1 (h.2 n hn).2
  refine Nat.le_trans (joinLen h1) ?_
  have := x.nsl
  rw [List.length_cons, List.length_map, show (Str.ofString " ").length = 1 from rfl]
  omega
theorem lnT_len2 {y : Str} {ns : List Int} (hy : y.length ≤ 100) (hn : Nums ns) : (lnT y ns).length ≤ 101101 := by
  refine Nat.le_trans (joinLen (ln_items hy hn)) ?_
  have := hn.1
  rw [List.length_cons, List.length_map, show (Str.ofString " ").length = 1 from rfl]
  omega
theorem prl_ok {ms ws : List Int} {ss : List (List Rw)} (h : Fit ms ws ss) : JoinOk "\n" (prL ms ws ss) = true := by
  have h1 := lnT_len2 (y := "marks") (by decide +kernel) h.m
  have h2 := lnT_len2 (y := "widths") (by decide +kernel) h.w
  have h3 : ∀ y ∈ ss.flatMap stL, y.length ≤ 44 := fun y hy => by
    obtain ⟨rs, hrs, hy⟩ := List.mem_flatMap.mp hy
    unfold stL at hy
    rcases List.mem_cons.mp hy with rfl | hy
    · decide +kernel
    · obtain ⟨x, hx, rfl⟩ := List.mem_map.mp hy
      exact rwL_len x ((h.r rs hrs).2 x hx)
  have h4 : (ss.flatMap stL).length ≤ 40 * 111 := by
    have := prl_len h ss.length
    rw [List.take_length] at this
    have := h.s
    omega
  have h5 := foldLen 1 44 (ss.flatMap stL) (0 + (lnT "marks" ms).length + 1 + (lnT "widths" ws).length + 1) h3
  unfold JoinOk
  rw [Bool.not_eq_true']
  refine fitOf ?_
  rw [show (Str.ofString "\n").length = 1 from rfl]
  rw [List.foldl_toArray]
  show (ss.flatMap stL).foldl (fun a y => a + y.length + 1) (0 + (lnT "marks" ms).length + 1 + (lnT "widths" ws).length + 1) ≤ sizeLine
  exact Nat.le_trans h5 (Nat.le_trans (show _ ≤ 1000000 by omega) (sz (Nat.le_refl _)))
theorem join_free {c : Nat} {sep : Str} (hs : Free c sep) : ∀ {ys : List Str}, (∀ y ∈ ys, Free c y) → Free c (Str.join sep ys)
  | [], _ => by
    show c ∉ (Str.join sep []).cps.toList
    intro h
    cases h
  | [y], h => h y List.mem_cons_self
  | y :: z :: r, h => by
    show c ∉ (y ++ sep ++ Str.join sep (z :: r)).cps.toList
    rw [Str.appL, Str.appL]
    intro m
    rcases List.mem_append.mp m with m | m
    · rcases List.mem_append.mp m with m | m
      · exact h y List.mem_cons_self m
      · exact hs m
    · exact join_free hs (fun x hx => h x (List.mem_cons_of_mem _ hx)) m
theorem lnT_free {y : Str} {ns : List Int} (hy : Free 10 y) (hn : Nums ns) : Free 10 (lnT y ns) := by
  show Free 10 (Builtin.Str.glued " " (y :: ns.map nT))
  rw [StrLaws.glued_eq_join]
  refine join_free (by unfold Free; decide +kernel) (fun x hx => ?_)
  rcases List.mem_cons.mp hx with rfl | hx
  · exact hy
  · obtain ⟨n, hn', rfl⟩ := List.mem_map.mp hx
    exact nT_free (hn.2 n hn').1 (by decide)
theorem Rw.free {c : Nat} (hc : c = 10 ∨ c = 32) : ∀ (x : Rw), Free c x.ws := by
  intro x
  have k : ∀ y ∈ (["bell", "set", "ask", "bump", "go", "call", "end"] : List Str), ∀ c ∈ [10, 32], ¬ c ∈ y.cps.toList := by decide +kernel
  have hc : c ∈ [10, 32] := by rcases hc with rfl | rfl <;> simp
  cases x <;> exact k _ (by simp [Rw.ws]) c hc
theorem prT_split {ms ws : List Int} {ss : List (List Rw)} (h : Fit ms ws ss) : Txt.split (prT ms ws ss) "\n" = prL ms ws ss := by
  show Txt.split (Builtin.Str.glued "\n" (prL ms ws ss)) _ = _
  rw [StrLaws.glued_eq_join]
  refine split_join (c := 10) (by unfold prL; simp) (fun x hx => ?_)
  unfold prL at hx
  rcases List.mem_cons.mp hx with rfl | hx
  · exact lnT_free (by unfold Free; decide +kernel) h.m
  rcases List.mem_cons.mp hx with rfl | hx
  · exact lnT_free (by unfold Free; decide +kernel) h.w
  obtain ⟨rs, hrs, hy⟩ := List.mem_flatMap.mp hx
  unfold stL at hy
  rcases List.mem_cons.mp hy with rfl | hy
  · decide +kernel
  · obtain ⟨y, hy', rfl⟩ := List.mem_map.mp hy
    exact lnT_free (Rw.free (.inl rfl) y) ((h.r rs hrs).2 y hy')

end P


set_option Elab.async false
set_option linter.all false
set_option maxRecDepth 100000
set_option maxHeartbeats 4000000
namespace P
open PySem L2

theorem eqvR (d : PyData) (h : d.canLay0 = true) : PyData.eqv d d = true := PySem.SeqAt.eqv_refl d h
def strsD (ns : List Str) : PyData := .list (ns.map PyData.str)
theorem strsD_dv {K : PySem.W.Frag} {H : Hp} {l : Addr} {ns : List Str} (h : H l = some (.lst (ns.map V.str))) : DV K H (strsD ns) (.ref l) := by
  unfold strsD DV
  exact ⟨l, _, rfl, SqL.of h, DVs.map _ _ _ fun x _ => by unfold DV; rfl⟩

def Rw.d (x : Rw) : PyData := .tuple (.str x.ws :: x.ns.map PyData.int)
def rwD (rs : List (Addr × Rw)) : PyData := .list (rs.map fun x => x.2.d)
theorem Rw.lay (x : Rw) : x.d.canLay0 = true := by
  cases x <;> simp [Rw.d, PyData.canLay0, PyData.canLayAll0, Rw.ns, Rw.ws] <;> decide +kernel
theorem Rw.dep (x : Rw) : x.d.depth ≤ 1 := by
  cases x <;> simp [Rw.d, PyData.depth, PyData.depthAll, Rw.ns]
theorem rwD_lay (rs : List (Addr × Rw)) : (rwD rs).canLay0 = true := by
  unfold rwD; rw [PyData.canLay0]; exact canLayAll_map _ _ fun x _ => x.2.lay
theorem rwD_dep (rs : List (Addr × Rw)) : (rwD rs).depth ≤ 2 := by
  unfold rwD; rw [PyData.depth]; exact Nat.add_le_add_right (depthAll_map _ 1 _ fun x _ => x.2.dep) 1
theorem rwD_sh (rs : List (Addr × Rw)) : SeqAt.shaped (rwD rs) = true := shaped_of (rwD_lay rs) (Nat.le_trans (rwD_dep rs) (by decide))
theorem DVints (K : PySem.W.Frag) (H : Hp) (ns : List Int) : DVs K H (ns.map PyData.int) (ns.map V.int) := DVs.map _ _ _ fun x _ => by unfold DV; rfl
theorem Rw.dv {K : PySem.W.Frag} {H : Hp} {a : Addr} {x : Rw} (h : H a = some (.tup x.v)) : DV K H x.d (.ref a) := by
  unfold Rw.d DV
  refine ⟨a, _, rfl, SqT.of h, ?_⟩
  unfold DVs Rw.v
  exact ⟨_, _, rfl, by unfold DV; rfl, DVints _ _ _⟩
theorem rwD_dv {K : PySem.W.Frag} {H : Hp} {l : Addr} {rs : List (Addr × Rw)} (h : H l = some (.lst (rwV rs))) (hr : ∀ x ∈ rs, H x.1 = some (.tup x.2.v)) : DV K H (rwD rs) (.ref l) := by
  unfold rwD DV
  refine ⟨l, _, rfl, SqL.of h, ?_⟩
  unfold rwV
  exact DVs.map _ _ _ fun x hx => Rw.dv (hr x hx)
theorem rwD_eq {rs rs' : List (Addr × Rw)} (e : rs'.map (·.2) = rs.map (·.2)) : rwD rs' = rwD rs := by
  unfold rwD
  rw [show (rs'.map fun x => x.2.d) = (rs'.map (·.2)).map Rw.d by rw [List.map_map]; rfl, e, List.map_map]
  rfl
inductive Tk where
  | st
  | rw (x : Rw)
def Tk.w : Tk → Str
  | .st => "stretch"
  | .rw x => x.ws
def Tk.n : Tk → List Int
  | .st => []
  | .rw x => x.ns
def tks (ss : List (List Rw)) : List Tk := ss.flatMap fun rs => Tk.st :: rs.map Tk.rw
def Tk.step (acc : List (List Rw)) : Tk → List (List Rw)
  | .st => acc ++ [[]]
  | .rw x => acc.dropLast ++ [(acc.getLast?.getD []) ++ [x]]
theorem step_rw (acc : List (List Rw)) (r : List Rw) (x : Rw) : Tk.step (acc ++ [r]) (.rw x) = acc ++ [r ++ [x]] := by
  simp [Tk.step]
theorem fold_rws : ∀ (rs : List Rw) (acc : List (List Rw)) (r : List Rw), (rs.map Tk.rw).foldl Tk.step (acc ++ [r]) = acc ++ [r ++ rs]
  | [], acc, r => by simp
  | x :: rs, acc, r => by
    rw [List.map_cons, List.foldl_cons, step_rw, fold_rws rs]
    simp
theorem fold_tks : ∀ (ss acc : List (List Rw)), (tks ss).foldl Tk.step acc = acc ++ ss
  | [], acc => by simp [tks]
  | rs :: ss, acc => by
    show ((Tk.st :: rs.map Tk.rw) ++ tks ss).foldl Tk.step acc = _
    rw [List.foldl_append, List.foldl_cons, show Tk.step acc .st = acc ++ [[]] from rfl, fold_rws, fold_tks ss]
    simp
theorem step_ne (acc : List (List Rw)) (t : Tk) : Tk.step acc t ≠ [] := by cases t <;> simp [Tk.step]
theorem fold_ne : ∀ (l : List Tk) (acc : List (List Rw)), acc ≠ [] → l.foldl Tk.step acc ≠ []
  | [], _, h => h
  | t :: l, acc, _ => by rw [List.foldl_cons]; exact fold_ne l _ (step_ne _ _)
theorem tks_ne {ss : List (List Rw)} {i : Nat} {x : Rw} (h : (tks ss)[i]? = some (.rw x)) : ((tks ss).take i).foldl Tk.step [] ≠ [] := by
  cases ss with
  | nil => simp [tks] at h
  | cons rs ss =>
    cases i with
    | zero => simp [tks] at h
    | succ i =>
      show ((Tk.st :: ((rs.map Tk.rw) ++ tks ss)).take (i + 1)).foldl Tk.step [] ≠ []
      rw [List.take_succ_cons, List.foldl_cons]
      exact fold_ne _ _ (step_ne _ _)
theorem prL_tks (ms ws : List Int) (ss : List (List Rw)) : prL ms ws ss = ((("marks" : Str), ms) :: (("widths" : Str), ws) :: (tks ss).map fun t => (t.w, t.n)).map fun (p : Str × List Int) => lnT p.1 p.2 := by
  unfold prL
  rw [List.map_cons, List.map_cons]
  congr 2
  rw [List.map_map]
  unfold tks
  rw [List.map_flatMap]
  congr 1
  funext rs
  unfold stL
  rw [List.map_cons, List.map_map]
  congr 1
theorem tks_mem {ms ws : List Int} {ss : List (List Rw)} (h : Fit ms ws ss) : ∀ t ∈ tks ss, Free 32 t.w ∧ t.w.length ≤ 100 ∧ Nums t.n := by
  intro t ht
  obtain ⟨rs, hrs, ht⟩ := List.mem_flatMap.mp ht
  rcases List.mem_cons.mp ht with rfl | ht
  · exact ⟨(by unfold Free; decide +kernel : Free 32 "stretch"), (by decide +kernel : ("stretch" : Str).length ≤ 100), ⟨Nat.zero_le _, fun n hn => by cases hn⟩⟩
  · obtain ⟨x, hx, rfl⟩ := List.mem_map.mp ht
    exact ⟨Rw.free (.inr rfl) x, x.wsl, (h.r rs hrs).2 x hx⟩
theorem tks_len {ms ws : List Int} {ss : List (List Rw)} (h : Fit ms ws ss) : (tks ss).length ≤ 4440 := by
  have h4 := prl_len h ss.length
  rw [List.take_length] at h4
  have e : (tks ss).length = (ss.flatMap stL).length := by
    unfold tks
    rw [List.length_flatMap, List.length_flatMap]
    congr 1
    exact List.map_congr_left fun x _ => by unfold stL; rw [List.length_cons, List.length_map, List.length_cons, List.length_map]
  have := h.s
  omega
theorem Good.trR {nm nc : Nat} {ss ss' : Ss} (e : ssR ss' = ssR ss) (h : Good nm nc ss) : Good nm nc ss' := by
  intro k z hz
  have hl : ss'.length = ss.length := by simpa [ssR] using congrArg List.length e
  have e2 : (ssR ss)[k]? = some (z.2.map (·.2)) := by rw [← e]; unfold ssR; rw [List.getElem?_map, hz]; rfl
  unfold ssR at e2
  rw [List.getElem?_map] at e2
  obtain ⟨z', h1, h2⟩ := Option.map_eq_some_iff.mp e2
  have g := h k z' h1
  have ln : z'.2.length = z.2.length := by simpa using congrArg List.length h2
  rw [hl, ← ln]
  refine ⟨fun x hx => ?_, ?_⟩
  · have : x.2 ∈ z'.2.map (·.2) := by rw [h2]; exact List.mem_map_of_mem hx
    obtain ⟨y, hy, ey⟩ := List.mem_map.mp this
    rw [← ey]
    exact g.1 y hy
  · obtain ⟨a, y, ha, hy⟩ := g.2
    have : (z.2.map (·.2)).getLast? = some y := by rw [← h2, List.getLast?_map, ha]; rfl
    rw [List.getLast?_map] at this
    obtain ⟨⟨b, y'⟩, hb, rfl⟩ := Option.map_eq_some_iff.mp this
    exact ⟨b, y', hb, hy⟩
structure LnA where
  p : Addr
  l : Addr
  w : Str
  n : List Int
structure LnIn (zs : List LnA) (L : Kn) : Prop where
  p : ∀ z ∈ zs, (z.p, HO.tup [.str z.w, .ref z.l]) ∈ L
  l : ∀ z ∈ zs, (z.l, HO.lst (z.n.map V.int)) ∈ L
theorem LnIn.mono {zs : List LnA} {L L' : Kn} (h : LnIn zs L) (s : ∀ z ∈ L, z ∈ L') : LnIn zs L' := ⟨fun z hz => s _ (h.p z hz), fun z hz => s _ (h.l z hz)⟩
theorem prT_len {ms ws : List Int} {ss : List (List Rw)} (h : Fit ms ws ss) : (prT ms ws ss).length ≤ sizeLine := by
  have h1 := lnT_len2 (y := "marks") (by decide +kernel) h.m
  have h2 := lnT_len2 (y := "widths") (by decide +kernel) h.w
  have h3 : ∀ y ∈ ss.flatMap stL, y.length ≤ 44 := fun y hy => by
    obtain ⟨rs, hrs, hy⟩ := List.mem_flatMap.mp hy
    unfold stL at hy
    rcases List.mem_cons.mp hy with rfl | hy
    · decide +kernel
    · obtain ⟨x, hx, rfl⟩ := List.mem_map.mp hy
      exact rwL_len x ((h.r rs hrs).2 x hx)
  have h4 : (ss.flatMap stL).length ≤ 40 * 111 := by
    have := prl_len h ss.length
    rw [List.take_length] at this
    have := h.s
    omega
  have h5 : ∀ ys : List Str, (∀ y ∈ ys, y.length ≤ 44) → (ys.map (·.length)).sum ≤ ys.length * 44 := by
    intro ys hy
    induction ys with
    | nil => simp
    | cons a r ih =>
      rw [List.map_cons, List.sum_cons, List.length_cons, Nat.succ_mul]
      have := hy a List.mem_cons_self
      have := ih fun y hy' => hy y (List.mem_cons_of_mem _ hy')
      omega
  have h6 := h5 _ h3
  refine Nat.le_trans (show (Builtin.Str.glued "\n" (prL ms ws ss)).length ≤ 1000000 from ?_) (sz (Nat.le_refl _))
  rw [StrLaws.glued_eq_join]
  refine Nat.le_trans (StrLaws.join_length_le _ _) ?_
  unfold prL
  rw [List.map_cons, List.map_cons, List.sum_cons, List.sum_cons, List.length_cons, List.length_cons, show (Str.ofString "\n").length = 1 from rfl]
  omega
def RdH (sl : Addr) (sd : Ss) (R : Kn) (H : Hp) : Prop := ∃ N, (∀ z ∈ sd, ∀ x ∈ z.2, (x.1, HO.tup x.2.v) ∈ N) ∧ ((sd = [] ∧ Has H ((sl, .lst []) :: (N ++ R))) ∨ (∃ s0 r rs, sd = s0 ++ [(r, rs)] ∧ (∀ z ∈ s0, (z.1, HO.lst (rwV z.2)) ∈ N) ∧ Has H ((sl, .lst (ssV s0 ++ [.ref r])) :: (r, .lst (rwV rs)) :: (N ++ R))))
theorem ssV_snoc (s0 : Ss) (r : Addr) (rs : List (Addr × Rw)) : ssV (s0 ++ [(r, rs)]) = ssV s0 ++ [.ref r] := by unfold ssV; rw [List.map_append]; rfl
theorem rwV_snoc (rs : List (Addr × Rw)) (x : Addr × Rw) : rwV (rs ++ [x]) = rwV rs ++ [.ref x.1] := by unfold rwV; rw [List.map_append]; rfl
theorem RdH.at_ {sl : Addr} {sd : Ss} {R : Kn} {H : Hp} (h : RdH sl sd R H) {z : Addr × HO} (m : z ∈ R) : H z.1 = some z.2 := by
  obtain ⟨N, _, h | ⟨s0, r, rs, _, _, h⟩⟩ := h
  · exact h.2.at_ _ (by simp [m])
  · exact h.at_ _ (by simp [m])
theorem RdH.sl {sl : Addr} {sd : Ss} {R : Kn} {H : Hp} (h : RdH sl sd R H) : H sl = some (.lst (ssV sd)) := by
  obtain ⟨N, _, h | ⟨s0, r, rs, e, _, h⟩⟩ := h
  · rw [h.1]; exact h.2.get 0 rfl
  · rw [e, ssV_snoc]; exact h.get 0 rfl
theorem RdH.st {sl : Addr} {sd : Ss} {R : Kn} {H : Hp} (h : RdH sl sd R H) {r2 : Addr} (hr : H r2 = none) : RdH sl (sd ++ [(r2, [])]) R (upd (upd H r2 (.lst [])) sl (.lst (ssV sd ++ [.ref r2]))) := by
  obtain ⟨N, hN, h | ⟨s0, r, rs, e, h0, h⟩⟩ := h
  · obtain ⟨rfl, h⟩ := h
    refine ⟨N, fun z hz => by cases List.mem_singleton.mp hz; simp, .inr ⟨[], r2, [], rfl, by simp, ?_⟩⟩
    exact ((h.alloc hr (.lst [])).puti 1 rfl (.lst [.ref r2])).swap2
  · refine ⟨(r, .lst (rwV rs)) :: N, fun z hz x hx => ?_, .inr ⟨sd, r2, [], rfl, fun z hz => ?_, ?_⟩⟩
    · rcases List.mem_append.mp hz with hz | hz
      · exact List.mem_cons_of_mem _ (hN z hz x hx)
      · cases List.mem_singleton.mp hz
        exact absurd hx (by simp)
    · rw [e] at hz
      rcases List.mem_append.mp hz with hz | hz
      · exact List.mem_cons_of_mem _ (h0 z hz)
      · cases List.mem_singleton.mp hz
        exact List.mem_cons_self
    · exact ((h.alloc hr (.lst [])).puti 1 rfl (.lst (ssV sd ++ [.ref r2]))).swap2
theorem RdH.row {sl : Addr} {s0 : Ss} {r : Addr} {rs : List (Addr × Rw)} {N R : Kn} {H : Hp} {p : Addr} {x : Rw} (hN : ∀ z ∈ s0 ++ [(r, rs)], ∀ x ∈ z.2, (x.1, HO.tup x.2.v) ∈ N) (h0 : ∀ z ∈ s0, (z.1, HO.lst (rwV z.2)) ∈ N)
    (h : Has H ((p, .tup x.v) :: (sl, .lst (ssV s0 ++ [.ref r])) :: (r, .lst (rwV rs)) :: (N ++ R))) : RdH sl (s0 ++ [(r, rs ++ [(p, x)])]) R (upd H r (.lst (rwV rs ++ [.ref p]))) := by
  refine ⟨(p, .tup x.v) :: N, fun z hz y hy => ?_, .inr ⟨s0, r, rs ++ [(p, x)], rfl, fun z hz => List.mem_cons_of_mem _ (h0 z hz), ?_⟩⟩
  · rcases List.mem_append.mp hz with hz | hz
    · exact List.mem_cons_of_mem _ (hN z (List.mem_append_left _ hz) y hy)
    · cases List.mem_singleton.mp hz
      rcases List.mem_append.mp hy with hy | hy
      · exact List.mem_cons_of_mem _ (hN _ (List.mem_append_right _ List.mem_cons_self) y hy)
      · cases List.mem_singleton.mp hy
        exact List.mem_cons_self
  · rw [rwV_snoc]
    have h1 := h.puti 2 rfl (.lst (rwV rs ++ [.ref p]))
    exact bringH (bringH h1 2 rfl) 2 rfl
theorem RdH.fin {sl : Addr} {sd : Ss} {R : Kn} {H : Hp} (h : RdH sl sd R H) : ∃ N, (∀ z ∈ sd, (z.1, HO.lst (rwV z.2)) ∈ N) ∧ (∀ z ∈ sd, ∀ x ∈ z.2, (x.1, HO.tup x.2.v) ∈ N) ∧ Has H ((sl, .lst (ssV sd)) :: (N ++ R)) := by
  obtain ⟨N, hN, h | ⟨s0, r, rs, e, h0, h⟩⟩ := h
  · obtain ⟨rfl, h⟩ := h
    exact ⟨N, by simp, hN, h⟩
  · subst e
    refine ⟨(r, .lst (rwV rs)) :: N, fun z hz => ?_, fun z hz x hx => List.mem_cons_of_mem _ (hN z hz x hx), by rw [ssV_snoc]; exact h⟩
    rcases List.mem_append.mp hz with hz | hz
    · exact List.mem_cons_of_mem _ (h0 z hz)
    · cases List.mem_singleton.mp hz
      exact List.mem_cons_self
theorem Rw.nst : ∀ (x : Rw), decide (V.str x.ws = V.str "stretch") = false
  | .bell _ => (by decide +kernel : decide (V.str ("bell" : Str) = V.str "stretch") = false)
  | .set _ _ => (by decide +kernel : decide (V.str ("set" : Str) = V.str "stretch") = false)
  | .ask _ _ _ => (by decide +kernel : decide (V.str ("ask" : Str) = V.str "stretch") = false)
  | .bump _ _ => (by decide +kernel : decide (V.str ("bump" : Str) = V.str "stretch") = false)
  | .go _ => (by decide +kernel : decide (V.str ("go" : Str) = V.str "stretch") = false)
  | .call _ => (by decide +kernel : decide (V.str ("call" : Str) = V.str "stretch") = false)
  | .fin => (by decide +kernel : decide (V.str ("end" : Str) = V.str "stretch") = false)
def sp_rp (C : Addr) : Sp := fun vs H Q _ => ∃ (ms ws : List Int) (ss : List (List Rw)) (L : Kn), vs = [.str (prT ms ws ss)] ∧ Has H L ∧ Fit ms ws ss ∧ (∀ x ∈ ms, x = 1 ∨ x = 2) ∧ (∀ x ∈ ws, 1 ≤ x ∧ x ≤ 8) ∧ ss ≠ [] ∧ (∀ sd : Ss, ssR sd = ss → Good ms.length ws.length sd) ∧
  ∀ H' A sd N, ssR sd = ss → PIn C A ms ws sd (N ++ L) → Has H' (N ++ L) → Q (.ref A.p) H'
section
variable {P : Program} {w : World} {K : PySem.W.Frag} {mg : Str → Option Value} {base : Heap} {t : Adr}
theorem scRp : FnScope ["text", "lines", "stretches", "word", "numbers"] ["text"] (defScope s_read_program) := ⟨rfl, rfl, rfl, by decide +kernel, rfl, by decide +kernel, by decide +kernel⟩
theorem ok_read_program (T : Txt K mg t) : FnOk P w K mg base CX0 7 t.f_read_program t.d_read_program ["text"] (sp_rp t.c_Program) := by
  refine T.F_read_program.ok scRp (fun vs H Q E h => ?_) (fun cdv A outer s H vs Q E hr h => ?_)
  · obtain ⟨_, _, _, _, rfl, _⟩ := h
    rfl
  · obtain ⟨ms, ws, ss, L, rfl, hH, fit, hms, hws, hne, hgood, q⟩ := h
    refine ⟨_, (pss_cons (ps_setC (ix := 1) scRp.nd rfl (Or.inl rfl) (esc := defScope s_read_program) (k := 1) ["line", "text", "lines", "stretches", "word", "numbers"] rfl (pi_list (pe_bm PySem.F.plainAttrs_str PySem.F.slot_str_split PySem.F.type_str_split mt_split (pv 0) (pa_cons pe_str pa_nil))) (fun _ _ _ _ _ => by exact (pg_name (i := 0) (show List.Nodup (["line", "text", "lines", "stretches", "word", "numbers"] : List Str) from by decide +kernel) rfl (Or.inl rfl))) (fun _ _ _ _ _ => by exact pts_nil) (fun _ _ _ _ _ => by exact (pe_call (ok_read_line T) (hr.mono (by decide)) (by rfl) T.m_read_line T.F_read_line.kp (b_read_line T) .nil pass0 (pa_cons (pv 0) pa_nil))) rfl (by decide +kernel) (by decide +kernel) rfl (by decide +kernel) (by rfl) (fun _ _ h _ => h) (by decide +kernel))
      (pss_cons (ps_if (pt_cmpR (op_neD hr.units) (pe_lc (esc := defScope s_read_program) (k := 2) ["word", "numbers", "text", "lines", "stretches", "word'", "numbers'"] rfl (pi_list (pe_slice sl_list (pv 1) po_none (po_some pe_int))) (fun _ _ _ _ _ => by exact (pg_tupK (K := K) (n := 2) rfl rfl (pgs_cons (pg_name (i := 0) (show List.Nodup (["word", "numbers", "text", "lines", "stretches", "word'", "numbers'"] : List Str) from by decide +kernel) rfl (Or.inl rfl)) (pgs_cons (pg_name (i := 1) (show List.Nodup (["word", "numbers", "text", "lines", "stretches", "word'", "numbers'"] : List Str) from by decide +kernel) rfl (Or.inl rfl)) pgs_nil)))) (fun _ _ _ _ _ => by exact pts_nil) (fun _ _ _ _ _ => by exact (pv 0)) rfl (by decide +kernel) (by decide +kernel) rfl (by decide +kernel) (by rfl) (fun i y h hf => by
        by_cases c : i = 3
        · subst c; cases h; exact absurd hf (by decide +kernel)
        · by_cases c2 : i = 4
          · subst c2; cases h; exact absurd hf (by decide +kernel)
          · have h2 : (List.set (List.set (["text", "lines", "stretches", "word", "numbers"] : List Str) 3 "word'") 4 "numbers'")[i]? = some y := h
            rw [List.getElem?_set_ne (fun z => c2 z.symm), List.getElem?_set_ne (fun z => c z.symm)] at h2; exact h2) (by decide +kernel)) (pe_lst (pa_cons pe_str (pa_cons pe_str pa_nil))) (nomark _))
        (pss_one ps_never)
        pss_nil)
      (pss_cons (ps_set (i := 2) scRp.nd rfl (Or.inl rfl) (pe_lst pa_nil))
      (pss_cons (ps_for PassesOwn.never rfl (pi_list (pe_slice sl_list (pv 1) (po_some pe_int) po_none)) (pg_tup rfl (pgs_cons (pg_name (i := 3) scRp.nd rfl (Or.inl rfl)) (pgs_cons (pg_name (i := 4) scRp.nd rfl (Or.inl rfl)) pgs_nil)))
        (pss_one (ps_if (PW.pt (pw_and (pt_cmpR op_eq (pv 3) pe_str (nomark _)) (pw_and1 (pt_not (pt_truth (pv 4) (by intro _; rfl))))))
            (pss_one (ps_expr (pe_bm PySem.F.plainAttrs_list PySem.F.slot_list_append PySem.F.type_list_append mt_append (pv 2) (pa_cons (pe_lst pa_nil) pa_nil))))
            (pss_one (ps_if (pt_truth (pv 2) (by intro _; rfl))
                (pss_one (ps_expr (pe_bm PySem.F.plainAttrs_list PySem.F.slot_list_append PySem.F.type_list_append mt_append (pe_ix ix_list (pv 2) (pe_un un_neg pe_int) (fun _ _ => rfl)) (pa_cons (pe_call (ok_row_of T) (hr.mono (by decide)) (by rfl) T.m_row_of T.F_row_of.kp (b_row_of T) .nil pass0 (pa_cons (pv 3) (pa_cons (pv 4) pa_nil))) pa_nil))))
                (pss_one ps_never))))))
      (pss_one (ps_ret (pe_make T.mk_Program (ok_Program_init T) (hr.mono (by decide)) (by rfl) T.m_Program (b_Program_init T) .nil pass0 (pa_cons (pe_ix ix_tup (pe_ix ix_list (pv 1) pe_int (fun _ _ => rfl)) pe_int (fun _ _ => rfl)) (pa_cons (pe_ix ix_tup (pe_ix ix_list (pv 1) pe_int (fun _ _ => rfl)) pe_int (fun _ _ => rfl)) (pa_cons (pv 2) pa_nil)))))))))), ?_⟩
    have es := prT_split fit
    have lt := tks_len fit
    refine ⟨_, rfl, rfl, prT ms ws ss, _, rfl, rfl, rfl, prT_len fit, ?_, fun l hl => ?_⟩
    · rw [es, prL_tks]
      simp only [List.length_map, List.length_cons]
      exact sz (by omega)
    rw [es]
    have h1 := hH.alloc hl (.lst ((prL ms ws ss).map V.str))
    obtain ⟨ls, els⟩ : ∃ ls : List (Str × List Int), (("marks" : Str), ms) :: (("widths" : Str), ws) :: (tks ss).map (fun t => (t.w, t.n)) = ls := ⟨_, rfl⟩
    have lls : ls.length ≤ 4442 := by rw [← els]; simp only [List.length_map, List.length_cons]; omega
    have hls : ∀ x ∈ ls, Free 32 x.1 ∧ x.1.length ≤ 100 ∧ Nums x.2 := by
      rw [← els]
      intro x hx
      rcases List.mem_cons.mp hx with rfl | hx
      · exact ⟨(by unfold Free; decide +kernel : Free 32 "marks"), (by decide +kernel : ("marks" : Str).length ≤ 100), fit.m⟩
      rcases List.mem_cons.mp hx with rfl | hx
      · exact ⟨(by unfold Free; decide +kernel : Free 32 "widths"), (by decide +kernel : ("widths" : Str).length ≤ 100), fit.w⟩
      obtain ⟨t, ht, rfl⟩ := List.mem_map.mp hx
      exact tks_mem fit t ht
    have epl : (prL ms ws ss).map V.str = ls.map fun p => V.str (lnT p.1 p.2) := by rw [prL_tks, els, List.map_map]; rfl
    rw [epl] at h1 ⊢
    refine ⟨l, rfl, ⟨_, SqL.of (h1.get 0 rfl)⟩, fun D hD => ?_⟩
    refine ⟨fun n m zs H' => ∃ (qs : List LnA) (N : Kn), m = ls.length - n ∧ n ≤ ls.length ∧ zs = qs.map (fun z => V.ref z.p) ∧ qs.map (fun z => (z.w, z.n)) = ls.take n ∧ LnIn qs N ∧ Has H' ((D, .lst zs) :: (N ++ ((l, .lst (ls.map fun p => V.str (lnT p.1 p.2))) :: L))), ⟨_, [], [], rfl, Nat.zero_le _, rfl, rfl, ⟨fun z hz => (by cases hz), fun z hz => (by cases hz)⟩, h1.alloc hD _⟩, ?_⟩
    rintro n m zs H2 ⟨qs, N, rfl, hn, rfl, eq1, lin, h2⟩
    refine ⟨h2.get 0 rfl, ?_⟩
    have lq : qs.length = n := by
      have := congrArg List.length eq1
      simp at this
      omega
    have g1 : H2 l = some (.lst (ls.map fun p => V.str (lnT p.1 p.2))) := h2.at_ (l, _) (List.mem_cons_of_mem _ (List.mem_append_right _ List.mem_cons_self))
    by_cases hlt : n < ls.length
    · have hx0 : (ls.map fun p => V.str (lnT p.1 p.2))[n]? = some (.str (lnT ls[n].1 ls[n].2)) := by rw [List.getElem?_map, List.getElem?_eq_getElem hlt]; rfl
      refine .inr ⟨⟨_, _, SqL.of g1, hx0⟩, ?_⟩
      rintro x H4 ⟨rfl, hx⟩
      have e1 := hx _ (SqL.of g1)
      rw [hx0] at e1
      cases e1
      have hb := hls _ (List.getElem_mem hlt)
      refine ⟨rfl, tTrueT ?_⟩
      refine ⟨_, rfl, ls[n].1, ls[n].2, _, rfl, h2, hb.1, hb.2.1, hb.2.2, fun H5 p k h5 => ?_⟩
      have h6 := bringH h5 2 rfl
      refine ⟨sizeOk (by rw [List.length_map]; omega), h6.get 0 rfl, ls.length - (n + 1), by omega, qs ++ [⟨p, k, ls[n].1, ls[n].2⟩], (p, .tup [.str ls[n].1, .ref k]) :: (k, .lst (ls[n].2.map V.int)) :: N, rfl, hlt, by rw [List.map_append]; rfl, ?_, ⟨fun z hz => ?_, fun z hz => ?_⟩, h6.puti 0 rfl _⟩
      · rw [List.map_append, eq1, List.take_succ, List.getElem?_eq_getElem hlt]
        rfl
      · rcases List.mem_append.mp hz with hz | hz
        · exact List.mem_cons_of_mem _ (List.mem_cons_of_mem _ (lin.p z hz))
        · cases List.mem_singleton.mp hz
          exact List.mem_cons_self
      · rcases List.mem_append.mp hz with hz | hz
        · exact List.mem_cons_of_mem _ (List.mem_cons_of_mem _ (lin.l z hz))
        · cases List.mem_singleton.mp hz
          exact List.mem_cons_of_mem _ List.mem_cons_self
    · refine .inl ⟨⟨_, SqL.of g1, by rw [List.length_map]; omega⟩, ?_⟩
      have en : n = ls.length := by omega
      rw [en, List.take_length] at eq1
      obtain ⟨M, eM⟩ : ∃ M : Kn, N ++ [(l, HO.lst (ls.map fun p => V.str (lnT p.1 p.2)))] = M := ⟨_, rfl⟩
      have h2 : Has H2 ((D, .lst (qs.map fun z => V.ref z.p)) :: (M ++ L)) := by rw [← eM, List.append_assoc]; exact h2
      have lin : LnIn qs M := lin.mono fun z hz => by rw [← eM]; exact List.mem_append_left _ hz
      rw [← els] at eq1
      clear eM g1 h1 hls epl
      obtain ⟨q0, q1, qr, rfl, w0, n0, w1, n1, eqr⟩ : ∃ q0 q1 qr, qs = q0 :: q1 :: qr ∧ q0.w = "marks" ∧ q0.n = ms ∧ q1.w = "widths" ∧ q1.n = ws ∧ qr.map (fun z => (z.w, z.n)) = (tks ss).map fun t => (t.w, t.n) := by
        clear lin h2 lq en
        match qs, eq1 with
        | [q0], e => injection e with _ e; cases e
        | q0 :: q1 :: qr, e =>
          rw [List.map_cons, List.map_cons] at e
          injection e with e1 e
          injection e with e2 e
          injection e1 with e11 e12
          injection e2 with e21 e22
          exact ⟨q0, q1, qr, rfl, e11, e12, e21, e22, e⟩
      have mp0 := lin.p q0 (by simp)
      have mp1 := lin.p q1 (by simp)
      have ml0 := lin.l q0 (by simp)
      have ml1 := lin.l q1 (by simp)
      have linr : LnIn qr M := ⟨fun z hz => lin.p z (by simp [hz]), fun z hz => lin.l z (by simp [hz])⟩
      rw [w0] at mp0
      rw [w1] at mp1
      rw [n0] at ml0
      rw [n1] at ml1
      have inM : ∀ {H' : Hp} {X : Kn} {z : Addr × HO}, Has H' (X ++ (M ++ L)) → z ∈ M → H' z.1 = some z.2 := fun h m => h.at_ _ (List.mem_append_right _ (List.mem_append_left _ m))
      rw [List.map_cons, List.map_cons] at h2
      obtain ⟨rv, erv⟩ : ∃ rv, qr.map (fun z => V.ref z.p) = rv := ⟨_, rfl⟩
      rw [erv] at h2
      have rvl : rv.length = (tks ss).length := by
        rw [← erv, List.length_map]
        simpa using congrArg List.length eqr
      refine ⟨_, rfl, _, rfl, D, _, rfl, SqL.of (h2.get 0 rfl), fun l2 hl2 => ?_⟩
      have h3 := h2.alloc hl2 (.lst (cutV (V.ref q0.p :: V.ref q1.p :: rv) none (some 2)))
      have ec : cutV (V.ref q0.p :: V.ref q1.p :: rv) none (some 2) = [V.ref q0.p, V.ref q1.p] := by
        simp only [cutV, HT.sIx, List.length_cons]
        simp
      rw [ec] at h3 ⊢
      refine ⟨l2, rfl, ⟨_, SqL.of (h3.get 0 rfl)⟩, fun D2 hD2 => ?_⟩
      refine ⟨fun n m zs H' => m = 2 - n ∧ n ≤ 2 ∧ zs = ([("marks" : Str), "widths"].take n).map V.str ∧ Has H' ((D2, .lst zs) :: (l2, .lst [V.ref q0.p, V.ref q1.p]) :: (D, .lst (V.ref q0.p :: V.ref q1.p :: rv)) :: (M ++ L)), ⟨_, rfl, Nat.zero_le _, rfl, h3.alloc hD2 _⟩, ?_⟩
      rintro n m zs H4 ⟨rfl, hn, rfl, h4⟩
      refine ⟨h4.get 0 rfl, ?_⟩
      have c : n = 0 ∨ n = 1 ∨ n = 2 := by omega
      rcases c with rfl | rfl | rfl
      · refine .inr ⟨⟨_, _, SqL.of (h4.get 1 rfl), rfl⟩, ?_⟩
        rintro x H5 ⟨rfl, hx⟩
        have e1 := hx _ (SqL.of (h4.get 1 rfl))
        cases e1
        refine ⟨q0.p, _, rfl, SqT.of (inM (X := [_, _, _]) h4 mp0), rfl, _, _, rfl, _, _, rfl, rfl, rfl, tTrueT ⟨_, rfl, ?_⟩⟩
        exact ⟨sizeOk (by decide), h4.get 0 rfl, 1, by omega, rfl, by omega, rfl, h4.puti 0 rfl _⟩
      · refine .inr ⟨⟨_, _, SqL.of (h4.get 1 rfl), rfl⟩, ?_⟩
        rintro x H5 ⟨rfl, hx⟩
        have e1 := hx _ (SqL.of (h4.get 1 rfl))
        cases e1
        refine ⟨q1.p, _, rfl, SqT.of (inM (X := [_, _, _]) h4 mp1), rfl, _, _, rfl, _, _, rfl, rfl, rfl, tTrueT ⟨_, rfl, ?_⟩⟩
        exact ⟨sizeOk (by decide), h4.get 0 rfl, 0, by omega, rfl, by omega, rfl, h4.puti 0 rfl _⟩
      refine .inl ⟨⟨_, SqL.of (h4.get 1 rfl), Nat.le_refl 2⟩, ?_⟩
      refine ⟨sz (show 2 ≤ 1000000 by decide), fun l4 hl4 => ?_⟩
      have h5 := h4.alloc hl4 (.lst ([("marks" : Str), "widths"].map V.str))
      refine ⟨strsD ["marks", "widths"], strsD ["marks", "widths"], strsD_dv (h5.get 1 rfl), strsD_dv (h5.get 0 rfl), shaped_of (by decide +kernel) (by decide), shaped_of (by decide +kernel) (by decide), ?_⟩
      rw [eqvR _ (by decide +kernel)]
      refine ⟨_, rfl, ifF rfl ?_⟩
      have h6 : Has _ ((D, .lst (V.ref q0.p :: V.ref q1.p :: rv)) :: (M ++ L)) := h5.tail.tail.tail
      refine ⟨sz (show 0 ≤ 1000000 by decide), fun sl hsl => ?_⟩
      have h7 := h6.alloc hsl (.lst [])
      clear h2 h3 h4 h5 h6
      refine ⟨_, rfl, _, rfl, D, _, rfl, SqL.of (h7.get 1 rfl), fun l3 hl3 => ?_⟩
      have h8 := h7.alloc hl3 (.lst (cutV (V.ref q0.p :: V.ref q1.p :: rv) (some 2) none))
      have ec2 : cutV (V.ref q0.p :: V.ref q1.p :: rv) (some 2) none = rv := by
        simp only [cutV, HT.sIx, List.length_cons]
        simp
      rw [ec2] at h8 ⊢
      clear h7
      obtain ⟨R, eR⟩ : ∃ R : Kn, (l3, HO.lst rv) :: (D, .lst (V.ref q0.p :: V.ref q1.p :: rv)) :: (M ++ L) = R := ⟨_, rfl⟩
      have h9 : RdH sl [] R _ := ⟨[], by simp, .inl ⟨rfl, by rw [← eR]; exact h8.swap2⟩⟩
      have ml3 : (l3, HO.lst rv) ∈ R := by rw [← eR]; simp
      have linR : LnIn qr R := linr.mono fun z hz => by rw [← eR]; simp [hz]
      refine ⟨l3, rfl, ⟨_, SqL.of (h8.get 0 rfl)⟩, for_list (xs := rv) (fun i σ H' => ∃ (o3 o4 : Option V) (sd : Ss), σ = [some (.str (prT ms ws ss)), some (.ref D), some (.ref sl), o3, o4] ∧ ssR sd = ((tks ss).take i).foldl Tk.step [] ∧ sd.length ≤ i ∧ (∀ z ∈ sd, z.2.length ≤ i) ∧ RdH sl sd R H') ⟨_, _, [], rfl, rfl, Nat.le_refl 0, by simp, h9⟩ (fun i σ H' _ ⟨_, _, _, _, _, _, _, e⟩ => SqL.of (e.at_ ml3)) ?_ ?_⟩
      · rintro i x σ H5 hx ⟨o3, o4, sd, rfl, esd, l1, l2, h5⟩
        rw [← erv, List.getElem?_map] at hx
        obtain ⟨z, hz, rfl⟩ := Option.map_eq_some_iff.mp hx
        have hzm := List.mem_of_getElem? hz
        obtain ⟨tk, htk, ez⟩ : ∃ tk, (tks ss)[i]? = some tk ∧ (tk.w, tk.n) = (z.w, z.n) := by
          have e2 : ((tks ss).map fun t => (t.w, t.n))[i]? = some (z.w, z.n) := by rw [← eqr, List.getElem?_map, hz]; rfl
          rw [List.getElem?_map] at e2
          exact Option.map_eq_some_iff.mp e2
        injection ez with ezw ezn
        have il : i < 4440 := Nat.lt_of_lt_of_le (List.getElem?_eq_some_iff.mp htk).1 lt
        have gp := h5.at_ (linR.p z hzm)
        have gl := h5.at_ (linR.l z hzm)
        rw [← ezw] at gp
        rw [← ezn] at gl
        refine ⟨z.p, _, rfl, SqT.of gp, rfl, _, _, rfl, _, _, rfl, rfl, ?_⟩
        have etake : ((tks ss).take (i + 1)).foldl Tk.step [] = Tk.step (ssR sd) tk := by
          rw [List.take_succ, htk, List.foldl_append, ← esd]
          rfl
        cases tk with
        | st =>
          refine ⟨_, rfl, rfl, _, rfl, ifT (by decide +kernel) ?_⟩
          refine ⟨_, rfl, false, .inl ⟨_, SqL.of gl, rfl⟩, iteT ?_⟩
          refine ⟨_, rfl, .inl ⟨rfl, _, SqL.of h5.sl⟩, sz (show 0 ≤ 1000000 by decide), fun r2 hr2 => ?_⟩
          have g5 : upd H5 r2 (.lst []) sl = some (.lst (ssV sd)) := by
            rw [upd_ne (fun e => by have := h5.sl; rw [e, hr2] at this; cases this)]
            exact h5.sl
          refine ⟨sl, _, _, rfl, rfl, g5, sizeOk (by unfold ssV; rw [List.length_map]; omega), _, _, sd ++ [(r2, [])], rfl, ?_, (by rw [List.length_append, List.length_singleton]; omega), fun z hz => ?_, h5.st hr2⟩
          · rw [etake]
            unfold ssR
            rw [List.map_append]
            rfl
          · rcases List.mem_append.mp hz with hz | hz
            · exact Nat.le_succ_of_le (l2 z hz)
            · cases List.mem_singleton.mp hz
              exact Nat.zero_le _
        | rw x =>
          refine ⟨_, rfl, rfl, _, rfl, ifF (Rw.nst x) ?_⟩
          have hne2 : sd ≠ [] := fun e => tks_ne htk (by rw [← esd, e]; rfl)
          have g5 := h5.sl
          obtain ⟨N5, hN, h5 | ⟨s0, r, rs, e, h0, h5⟩⟩ := h5
          · exact absurd h5.1 hne2
          subst e
          rw [ssV_snoc] at g5
          refine ⟨_, rfl, true, .inl ⟨_, SqL.of g5, ?_⟩, iteT ?_⟩
          · cases ssV s0 <;> rfl
          refine ⟨_, rfl, _, rfl, sl, _, _, _, rfl, rfl, SqL.of g5, atI_last _ _, .inl ⟨rfl, _, SqL.of (h5.get 1 rfl)⟩, _, rfl, _, rfl, x, z.l, _, ?_, h5, ?_, fun H6 p h6 => ?_⟩
          · rfl
          · have := linR.l z hzm
            rw [← ezn] at this
            exact List.mem_cons_of_mem _ (List.mem_cons_of_mem _ (List.mem_append_right _ this))
          have lrs : rs.length ≤ i := l2 (r, rs) (List.mem_append_right _ List.mem_cons_self)
          refine ⟨r, _, _, rfl, rfl, h6.get 2 rfl, sizeOk (by unfold rwV; rw [List.length_map]; omega), _, _, s0 ++ [(r, rs ++ [(p, x)])], rfl, ?_, ?_, fun z hz => ?_, RdH.row hN h0 h6⟩
          · rw [etake]
            unfold ssR
            rw [List.map_append, List.map_append]
            rw [show ([(r, rs)] : Ss).map (fun z => z.2.map (·.2)) = [rs.map (·.2)] from rfl, step_rw]
            simp
          · rw [List.length_append, List.length_singleton] at l1 ⊢
            omega
          · rcases List.mem_append.mp hz with hz | hz
            · exact Nat.le_succ_of_le (l2 z (List.mem_append_left _ hz))
            · cases List.mem_singleton.mp hz
              rw [List.length_append, List.length_singleton]
              exact Nat.succ_le_succ lrs
      · rintro σ H5 ⟨o3, o4, sd, rfl, esd, l1, l2, h5⟩
        rw [rvl, List.take_length, fold_tks, List.nil_append] at esd
        obtain ⟨N5, f1, f2, h5⟩ := h5.fin
        have lsd : sd.length = ss.length := by rw [← esd]; unfold ssR; rw [List.length_map]
        have mD : (D, HO.lst (V.ref q0.p :: V.ref q1.p :: rv)) ∈ R := by rw [← eR]; simp
        have mM : ∀ {z : Addr × HO}, z ∈ M → z ∈ R := fun m => by rw [← eR]; simp [m]
        have inR : ∀ {H' : Hp} {X : Kn} {z : Addr × HO}, Has H' (X ++ (N5 ++ R)) → z ∈ R → H' z.1 = some z.2 := fun h m => h.at_ _ (List.mem_append_right _ (List.mem_append_right _ m))
        have gD := inR (X := [_]) h5 mD
        have g0 := inR (X := [_]) h5 (mM mp0)
        have g1 := inR (X := [_]) h5 (mM mp1)
        refine ⟨_, rfl, D, _, _, _, rfl, rfl, SqL.of gD, atI_nat (j := 0) rfl, q0.p, _, _, _, rfl, rfl, SqT.of g0, atI_nat (j := 1) rfl, ?_⟩
        refine ⟨_, rfl, D, _, _, _, rfl, rfl, SqL.of gD, atI_nat (j := 1) rfl, q1.p, _, _, _, rfl, rfl, SqT.of g1, atI_nat (j := 1) rfl, _, rfl, ?_⟩
        intro p dx hp hdx hnd
        have h6 := (h5.alloc hdx (.own p)).alloc (by rw [upd_ne (Ne.symm hnd)]; exact hp) (.ins t.c_Program dx [])
        have mR : ∀ {z : Addr × HO}, z ∈ R → z ∈ (sl, HO.lst (ssV sd)) :: (N5 ++ R) := fun m => List.mem_cons_of_mem _ (List.mem_append_right _ m)
        have mN : ∀ {z : Addr × HO}, z ∈ N5 → z ∈ (sl, HO.lst (ssV sd)) :: (N5 ++ R) := fun m => List.mem_cons_of_mem _ (List.mem_append_left _ m)
        refine ⟨p, dx, q0.l, q1.l, sl, ms, ws, sd, (sl, HO.lst (ssV sd)) :: (N5 ++ R), rfl, h6, mR (mM ml0), mR (mM ml1), List.mem_cons_self, fun z hz => mN (f1 z hz), fun z hz x hx => mN (f2 z hz x hx), hms, hws, (by intro e; rw [e] at lsd; exact hne (List.length_eq_zero_iff.mp lsd.symm)), (by rw [lsd]; have := fit.s; omega), hgood sd esd, ?_⟩
        rintro H7 A7 sd7 N7 rfl e7 _ pin7 h7
        have esd7 : ssR sd7 = ss := by
          rw [← esd]
          unfold ssR
          rw [show (sd7.map fun z => z.2.map (·.2)) = (sd7.map (·.2)).map (List.map (·.2)) by rw [List.map_map]; rfl, e7, List.map_map]
          rfl
        rw [← eR] at pin7 h7
        have e8 : N7 ++ ((sl, HO.lst (ssV sd)) :: (N5 ++ ((l3, HO.lst rv) :: (D, HO.lst (V.ref q0.p :: V.ref q1.p :: rv)) :: (M ++ L)))) = (N7 ++ ((sl, HO.lst (ssV sd)) :: (N5 ++ ((l3, HO.lst rv) :: (D, HO.lst (V.ref q0.p :: V.ref q1.p :: rv)) :: M)))) ++ L := by simp
        rw [e8] at pin7 h7
        exact ⟨rfl, q _ A7 sd7 _ esd7 pin7 h7⟩
end

end P


set_option Elab.async false
set_option linter.all false
set_option maxRecDepth 100000
set_option maxHeartbeats 4000000
namespace P
open PySem L2

def sp_told (C : Addr) : Sp := fun vs H Q _ => ∃ (A : PA) (m w pl : Addr) (ms ws : List Int) (ss ss' : Ss) (L : Kn), vs = [.ref A.p, .ref m, .ref w, .ref pl] ∧ Has H L ∧ PIn C A ms ws ss' L ∧ (m, HO.lst (ms.map V.int)) ∈ L ∧ (w, HO.lst (ws.map V.int)) ∈ L ∧ (pl, HO.lst (ssV ss)) ∈ L ∧
  (∀ z ∈ ss, (z.1, HO.lst (rwV z.2)) ∈ L) ∧ (∀ z ∈ ss, ∀ x ∈ z.2, (x.1, HO.tup x.2.v) ∈ L) ∧ ssR ss' = ssR ss ∧ ss.length ≤ 1000 ∧ ms.length ≤ 1000 ∧ ws.length ≤ 1000 ∧ ∀ H', Has H' L → Q (.bl true) H'
section
variable {P : Program} {w : World} {K : PySem.W.Frag} {mg : Str → Option Value} {base : Heap} {t : Adr}
theorem scTo : FnScope ["_law_program_here", "_law_marks", "_law_widths", "_law_parts_here"] ["_law_program_here", "_law_marks", "_law_widths", "_law_parts_here"] (defScope s_told) := ⟨rfl, rfl, rfl, by decide +kernel, rfl, by decide +kernel, by decide +kernel⟩
theorem ok_told (T : Txt K mg t) : FnOk P w K mg base CX0 4 t.f_told t.d_told ["_law_program_here", "_law_marks", "_law_widths", "_law_parts_here"] (sp_told t.c_Program) := by
  refine T.F_told.ok scTo (fun vs H Q E h => ?_) (fun cdv A outer s H vs Q E hr h => ?_)
  · obtain ⟨_, _, _, _, _, _, _, _, _, rfl, _⟩ := h
    rfl
  · obtain ⟨A, m, w0, pl, ms, ws, ss, ss', L, rfl, hH, pin, mm, mw, mp, ml, mr, etr, hls, hlm, hlw, q⟩ := h
    refine ⟨_, (pss_cons (ps_if (PW.pt (pw_or (pt_not (pt_val (pe_call (ok_is_row T) (hr.mono (by decide)) (by rfl) T.m_is_row T.F_is_row.kp (b_is_row T) .nil pass0 (pa_cons (pe_meth0 (pv 0) T.cl_Program T.M_Program_marks (ok_Program_marks T) (hr.mono (by decide)) (b_Program_marks T) .nil pass0) (pa_cons (pv 1) pa_nil))))) (pw_or1 (pt_not (pt_val (pe_call (ok_is_row T) (hr.mono (by decide)) (by rfl) T.m_is_row T.F_is_row.kp (b_is_row T) .nil pass0 (pa_cons (pe_meth0 (pv 0) T.cl_Program T.M_Program_widths (ok_Program_widths T) (hr.mono (by decide)) (b_Program_widths T) .nil pass0) (pa_cons (pv 2) pa_nil))))))))
        (pss_one (ps_ret pe_bl))
        pss_nil)
      (pss_cons (ps_if (pt_not (pt_val (pe_call (ok_is T) (hr.mono (by decide)) (by rfl) T.m_is T.F_is.kp (b_is T) .nil pass0 (pa_cons (pe_meth0 (pv 0) T.cl_Program T.M_Program_many (ok_Program_many T) (hr.mono (by decide)) (b_Program_many T) .nil pass0) (pa_cons (pe_callB call_len_seq (by rfl) T.z_len (by rfl) (pa_cons (pv 3) pa_nil)) pa_nil)))))
        (pss_one (ps_ret pe_bl))
        pss_nil)
      (pss_one (ps_ret (pe_callB (call_all rfl) (by rfl) T.z_all (by rfl) (pa_cons (pe_lc (esc := defScope s_told) (k := 2) ["_law_stretch", "_law_rows", "_law_program_here", "_law_marks", "_law_widths", "_law_parts_here"] rfl (pi_enum (by rfl) T.z_enumerate (pa_cons (pv 3) pa_nil)) (fun _ _ _ _ _ => by exact (pg_tupK (K := K) (n := 2) rfl rfl (pgs_cons (pg_name (i := 0) (show List.Nodup (["_law_stretch", "_law_rows", "_law_program_here", "_law_marks", "_law_widths", "_law_parts_here"] : List Str) from by decide +kernel) rfl (Or.inl rfl)) (pgs_cons (pg_name (i := 1) (show List.Nodup (["_law_stretch", "_law_rows", "_law_program_here", "_law_marks", "_law_widths", "_law_parts_here"] : List Str) from by decide +kernel) rfl (Or.inl rfl)) pgs_nil)))) (fun _ _ _ _ _ => by exact pts_nil) (fun _ _ _ _ _ => by exact (pe_cmpR (op_eqDK (K := K) rfl hr.units) (pe_meth (pv 2) T.cl_Program T.M_Program_rows (ok_Program_rows T) (hr.mono (by decide)) (b_Program_rows T) .nil pass0 (pa_cons (pv 0) pa_nil)) (pv 1) (nomark _))) rfl (by decide +kernel) (by decide +kernel) rfl (by decide +kernel) (by rfl) (fun _ _ h _ => h) (by decide +kernel)) pa_nil)))))), ?_⟩
    have hL : ∀ {H' : Hp} {z : Addr × HO}, Has H' L → z ∈ L → H' z.1 = some z.2 := fun h m => h.at_ _ m
    obtain ⟨jm, ejm⟩ := List.getElem?_of_mem mm
    obtain ⟨jw, ejw⟩ := List.getElem?_of_mem mw
    have lss : ss'.length = ss.length := by simpa [ssR] using congrArg List.length etr
    refine ⟨_, rfl, A.p, A.dx, _, rfl, hL hH pin.p, (pfl_n _).2.1, A, _, L, rfl, hH, pin.p, pin.m, fun H1 l1 h1 => ?_⟩
    refine ⟨_, rfl, l1, m, ms, ms, 0, jm + 1, _, rfl, h1, rfl, by simpa using ejm, by omega, fun H2 h2 => ?_⟩
    refine ⟨_, rfl, ifF (by simp) ?_⟩
    refine ⟨_, rfl, A.p, A.dx, _, rfl, hL h2.tail pin.p, (pfl_n _).2.2.1, A, _, L, rfl, h2.tail, pin.p, pin.w, fun H3 l3 h3 => ?_⟩
    refine ⟨_, rfl, l3, w0, ws, ws, 0, jw + 1, _, rfl, h3, rfl, by simpa using ejw, by omega, fun H4 h4 => ?_⟩
    refine ⟨_, rfl, ifF (by simp) ?_⟩
    have h4 := h4.tail
    refine ⟨_, rfl, A.p, A.dx, _, rfl, hL h4 pin.p, (pfl_n _).1, A, _, rfl, hL h4 pin.p, hL h4 pin.s, _, rfl, pl, _, rfl, .inl (SqL.of (hL h4 mp)), _, _, rfl, ?_⟩
    refine ⟨_, rfl, ifF ?_ ?_⟩
    · rw [show ((ssV ss').length : Int) = ((ssV ss).length : Int) by unfold ssV; rw [List.length_map, List.length_map, lss]]
      simp
    refine ⟨_, rfl, pl, rfl, ⟨_, SqL.of (hL h4 mp)⟩, fun D hD => ?_⟩
    refine ⟨fun n m zs H' => m = ss.length - n ∧ n ≤ ss.length ∧ zs = (List.replicate n true).map V.bl ∧ Has H' ((D, .lst zs) :: L), ⟨_, rfl, Nat.zero_le _, rfl, h4.alloc hD _⟩, ?_⟩
    rintro n m' zs H5 ⟨rfl, hn, rfl, h5⟩
    refine ⟨h5.get 0 rfl, ?_⟩
    have g5 := hL h5.tail mp
    by_cases hlt : n < ss.length
    · have hz := List.getElem?_eq_getElem hlt
      have hx0 : (ssV ss)[n]? = some (.ref ss[n].1) := ssV_get hz
      refine .inr ⟨⟨_, _, SqL.of g5, hx0⟩, ?_⟩
      rintro x H6 ⟨p, y, rfl, hp, rfl, hy⟩
      have e1 := hy _ (SqL.of g5)
      rw [hx0] at e1
      cases e1
      have h6 := h5.alloc hp (.tup [.int n, .ref ss[n].1])
      have h6L := h6.tail.tail
      obtain ⟨z', hz', ez⟩ : ∃ z', ss'[n]? = some z' ∧ z'.2.map (·.2) = ss[n].2.map (·.2) := by
        have e2 : (ssR ss')[n]? = some (ss[n].2.map (·.2)) := by rw [etr]; unfold ssR; rw [List.getElem?_map, hz]; rfl
        unfold ssR at e2
        rw [List.getElem?_map] at e2
        exact Option.map_eq_some_iff.mp e2
      refine ⟨p, _, rfl, SqT.of (h6.get 0 rfl), rfl, _, _, rfl, _, _, rfl, rfl, rfl, tTrueT ?_⟩
      refine ⟨_, rfl, A.p, A.dx, _, rfl, hL h6L pin.p, pfl_rows _, _, rfl, A, ms, ws, ss', _, n, z', rfl, h6, pin.mono (fun z hz => by simp [hz]), hz', fun H7 l h7 => ?_⟩
      have h7L := h7.tail.tail.tail
      refine ⟨_, rfl, rwD z'.2, rwD ss[n].2, rwD_dv (h7.get 0 rfl) (fun x hx => hL h7L (pin.r z' (List.mem_of_getElem? hz') x hx)), rwD_dv (hL h7L (ml _ (List.getElem_mem hlt))) (fun x hx => hL h7L (mr _ (List.getElem_mem hlt) x hx)), rwD_sh _, rwD_sh _, ?_⟩
      rw [rwD_eq ez, eqvR _ (rwD_lay _)]
      have h8 := bringH h7 2 rfl
      refine ⟨sizeOk (by rw [List.length_map, List.length_replicate]; omega), h8.get 0 rfl, ss.length - (n + 1), by omega, rfl, hlt, ?_, ?_⟩
      · rw [List.replicate_succ', List.map_append]
        rfl
      · exact (h8.puti 0 rfl _).sub (.cons_cons _ (.cons _ (.cons _ (List.Sublist.refl _))))
    · refine .inl ⟨⟨_, SqL.of g5, by unfold ssV; rw [List.length_map]; omega⟩, ?_⟩
      refine ⟨D, List.replicate n true, rfl, SqL.of (h5.get 0 rfl), ?_⟩
      rw [show (List.replicate n true).all id = true by simp]
      exact q _ h5.tail
end

end P


set_option Elab.async false
set_option linter.all false
set_option maxRecDepth 100000
set_option maxHeartbeats 4000000
namespace P
open PySem L2

def sp_law (K : PySem.W.Frag) : Sp := fun vs H Q _ => ∃ (a : Addr) (ns : List Int), vs = [.ref a] ∧ SqL K H a (ns.map V.int) ∧ ns.length ≤ 63 ∧ ∀ H', Q (.bl true) H'
theorem law_binds {K : PySem.W.Frag} {mg : Str → Option Value} {t : Adr} (T : Txt K mg t) (s : Shared) (u : Value) : BindsTo s t.d_law ⟨[u], []⟩ [("_law_script", u)] := by
  obtain ⟨oc, od, kV, doc, pm, an, cdv, ct, osl, e, lk, hcd⟩ := T.F_law.ex
  rw [e, T.e_law]
  exact .of_eq rfl
theorem law_start {K : PySem.W.Frag} {H : Hp} {a : Addr} {ns : List Int} (hl : ns.length ≤ 63) (hS : SqL K H a (ns.map V.int)) {E : XK} : sp_law K [.ref a] H (fun v _ => v = .bl true) E := ⟨a, ns, rfl, hS, hl, fun _ => rfl⟩

section
variable {P : Program} {w : World} {K : PySem.W.Frag} {mg : Str → Option Value} {base : Heap} {t : Adr}
theorem Rw.okNums {nm nc nr k S : Nat} {x : Rw} (h : x.ok nm nc nr k S) (h1 : nm ≤ 10000) (h2 : nc ≤ 10000) (h3 : nr ≤ 10000) (h4 : S ≤ 10000) : Nums x.ns := by
  refine ⟨by have := x.nsl; omega, ?_⟩
  cases x <;> simp only [Rw.ok] at h <;> intro n hn <;> simp [Rw.ns] at hn
  · subst hn; omega
  · rcases hn with rfl | rfl <;> omega
  · rcases hn with rfl | rfl | rfl <;> omega
  · rcases hn with rfl | rfl <;> omega
  · subst hn; omega
  · subst hn; omega
theorem fit_of {ms ws : List Int} {ss : Ss} (h1 : ∀ x ∈ ms, x = 1 ∨ x = 2) (h2 : ∀ x ∈ ws, 1 ≤ x ∧ x ≤ 8) (h3 : ms.length ≤ 30) (h4 : ws.length ≤ 30) (h5 : ss.length ≤ 40) (hg : Good ms.length ws.length ss) (hl : LimR ss) : Fit ms ws (ssR ss) := by
  refine ⟨⟨by omega, fun n hn => ?_⟩, ⟨by omega, fun n hn => ?_⟩, fun rs hrs => ?_, by unfold ssR; rw [List.length_map]; exact h5⟩
  · rcases h1 n hn with rfl | rfl <;> omega
  · have := h2 n hn; omega
  · unfold ssR at hrs
    obtain ⟨z, hz, rfl⟩ := List.mem_map.mp hrs
    obtain ⟨k, hk⟩ := List.getElem?_of_mem hz
    have l := hl z hz
    refine ⟨by rw [List.length_map]; exact l, fun x hx => ?_⟩
    obtain ⟨y, hy, rfl⟩ := List.mem_map.mp hx
    exact Rw.okNums ((hg k z hk).1 y hy) (by omega) (by omega) (by omega) (by omega)
theorem ssR_of {ss ss' : Ss} (e : ss'.map (·.2) = ss.map (·.2)) : ssR ss' = ssR ss := by
  unfold ssR
  rw [show (ss'.map fun z => z.2.map (·.2)) = (ss'.map (·.2)).map (List.map (·.2)) by rw [List.map_map]; rfl, e, List.map_map]
  rfl
theorem scLa : FnScope ["_law_script", "_law_d", "_law_marks", "_law_widths", "_law_parts_here", "_law_program_here", "_law_due", "_law_found", "_law_other"] ["_law_script"] (defScope s_law) := ⟨rfl, rfl, rfl, by decide +kernel, rfl, by decide +kernel, by decide +kernel⟩
theorem ok_law (T : Txt K mg t) : FnOk P w K mg base CX0 12 t.f_law t.d_law ["_law_script"] (sp_law K) := by
  refine T.F_law.ok scLa (fun vs H Q E h => ?_) (fun cdv A outer s H vs Q E hr h => ?_)
  · obtain ⟨_, _, rfl, _⟩ := h
    rfl
  · obtain ⟨a, ns, rfl, hS, hns, q⟩ := h
    refine ⟨_, (pss_cons (ps_set (i := 1) scLa.nd rfl (Or.inl rfl) (pe_call (ok_draws T) (hr.mono (by decide)) (by rfl) T.m_draws T.F_draws.kp (b_draws T) .nil pass0 (pa_cons (pv 0) (pa_cons pe_int pa_nil))))
      (pss_cons (ps_asg (pe_call (ok_program T) (hr.mono (by decide)) (by rfl) T.m_program T.F_program.kp (b_program T) .nil pass0 (pa_cons (pv 1) pa_nil)) (pg_tup rfl (pgs_cons (pg_name (i := 2) scLa.nd rfl (Or.inl rfl)) (pgs_cons (pg_name (i := 3) scLa.nd rfl (Or.inl rfl)) (pgs_cons (pg_name (i := 4) scLa.nd rfl (Or.inl rfl)) pgs_nil)))))
      (pss_cons (ps_set (i := 5) scLa.nd rfl (Or.inl rfl) (pe_make T.mk_Program (ok_Program_init T) (hr.mono (by decide)) (by rfl) T.m_Program (b_Program_init T) .nil pass0 (pa_cons (pv 2) (pa_cons (pv 3) (pa_cons (pe_call (ok_copied T) (hr.mono (by decide)) (by rfl) T.m_copied T.F_copied.kp (b_copied T) .nil pass0 (pa_cons (pv 4) pa_nil)) pa_nil)))))
      (pss_cons (ps_set (i := 6) scLa.nd rfl (Or.inl rfl) (pe_call (ok_program_text T) (hr.mono (by decide)) (by rfl) T.m_program_text T.F_program_text.kp (b_program_text T) .nil pass0 (pa_cons (pv 2) (pa_cons (pv 3) (pa_cons (pv 4) pa_nil)))))
      (pss_cons (ps_set (i := 7) scLa.nd rfl (Or.inl rfl) (pe_call (ok_write_program T) (hr.mono (by decide)) (by rfl) T.m_write_program T.F_write_program.kp (b_write_program T) .nil pass0 (pa_cons (pv 5) pa_nil)))
      (pss_cons (ps_if (PW.pt (pw_or (pt_not (pt_val (pe_callB call_isi (by rfl) T.z_isinstance (by rfl) (pa_cons (pv 7) (pa_cons (pe_bltn (v := .ty "str") (by rfl) T.z_str (by rfl) rfl) pa_nil))))) (pw_or (pt_cmpR op_ne (pv 7) (pv 6) (nomark _)) (pw_or1 (pt_not (pt_val (pe_call (ok_told T) (hr.mono (by decide)) (by rfl) T.m_told T.F_told.kp (b_told T) .nil pass0 (pa_cons (pv 5) (pa_cons (pv 2) (pa_cons (pv 3) (pa_cons (pv 4) pa_nil)))))))))))
        (pss_one (ps_ret pe_bl))
        pss_nil)
      (pss_cons (ps_set (i := 8) scLa.nd rfl (Or.inl rfl) (pe_call (ok_read_program T) (hr.mono (by decide)) (by rfl) T.m_read_program T.F_read_program.kp (b_read_program T) .nil pass0 (pa_cons (pv 6) pa_nil)))
      (pss_one (ps_ret (pe_and (pe_call (ok_told T) (hr.mono (by decide)) (by rfl) T.m_told T.F_told.kp (b_told T) .nil pass0 (pa_cons (pv 8) (pa_cons (pv 2) (pa_cons (pv 3) (pa_cons (pv 4) pa_nil))))) (pe_one (pe_cmpR op_eq (pe_call (ok_write_program T) (hr.mono (by decide)) (by rfl) T.m_write_program T.F_write_program.kp (b_write_program T) .nil pass0 (pa_cons (pv 8) pa_nil)) (pv 6) (nomark _))))))))))))), ?_⟩
    rw [show L2.start ["_law_script", "_law_d", "_law_marks", "_law_widths", "_law_parts_here", "_law_program_here", "_law_due", "_law_found", "_law_other"] [V.ref a] = ([some (V.ref a), none, none, none, none, none, none, none, none] : St) from rfl]
    refine ⟨_, rfl, a, ns, 340, [], rfl, hS, hns, by decide, by decide, Has.nil, fun H1 d ds h1 hds hdr => ?_⟩
    dsimp only [List.set]
    have hds : ds.length = 340 := hds
    refine ⟨_, rfl, d, ds, _, rfl, h1, List.mem_cons_self, by omega, fun H3 tp m wl pl ms ws ss N i1 i2 i3 i4 i5 i6 hgood hlim i7 i8 h3 => ?_⟩
    refine ⟨tp, _, rfl, SqT.of (h3.get 0 rfl), rfl, _, _, rfl, _, _, rfl, _, _, rfl, rfl, ?_⟩
    dsimp only [List.set]
    have h3' := h3.tail
    obtain ⟨L2, eL2⟩ : ∃ L2 : Kn, (pl, HO.lst (ssV ss)) :: (N ++ [(wl, HO.lst (ws.map V.int)), (m, HO.lst (ms.map V.int)), (d, HO.lst (ds.map V.int))]) = L2 := ⟨_, rfl⟩
    have hL2 := hcast h3' eL2
    have mpl : (pl, HO.lst (ssV ss)) ∈ L2 := by rw [← eL2]; exact List.mem_cons_self
    have mN : ∀ z ∈ N, z ∈ L2 := fun z hz => by rw [← eL2]; exact List.mem_cons_of_mem _ (List.mem_append_left _ hz)
    have mwl : (wl, HO.lst (ws.map V.int)) ∈ L2 := by rw [← eL2]; simp
    have mm : (m, HO.lst (ms.map V.int)) ∈ L2 := by rw [← eL2]; simp
    clear eL2 h3' h3
    have fit := fit_of i1 i2 i3 i4 i6 hgood hlim
    have jok := prl_ok fit
    refine ⟨_, rfl, _, rfl, _, rfl, pl, ss, L2, rfl, hL2, mpl, fun z hz => mN _ (i7 z hz), by omega, fun H4 D s1 N1 es1 mN1 h4 => ?_⟩
    have h4 := h4
    intro p dx hp hdx hne
    have h7 := (h4.alloc hdx (.own p)).alloc (by rw [upd_ne (Ne.symm hne)]; exact hp) (.ins t.c_Program dx [])
    have s1row : ∀ z ∈ s1, ∀ x ∈ z.2, (x.1, HO.tup x.2.v) ∈ L2 := by
      intro z hz x hx
      have : z.2 ∈ ss.map (·.2) := by rw [← es1]; exact List.mem_map_of_mem hz
      obtain ⟨z', e1, e2⟩ := List.mem_map.mp this
      exact mN _ (i8 z' e1 x (by rw [e2]; exact hx))
    have lsl : s1.length = ss.length := by simpa using congrArg List.length es1
    have ne1 : s1 ≠ [] := by intro e; rw [e] at lsl; exact i5 (List.length_eq_zero_iff.mp lsl.symm)
    refine ⟨p, dx, m, wl, D, ms, ws, s1, _, rfl, h7, by simp [mm], by simp [mwl], by simp, fun z hz => by simp [mN1 z hz], fun z hz x hx => by simp [s1row z hz x hx], i1, i2, ne1, by omega, hgood.tr es1, fun H8 A ss' N2 eA es' pinN pin h8 => ⟨rfl, ?_⟩⟩
    dsimp only [List.set]
    subst eA
    clear h7 hp hdx hne pinN h4
    have eR' : ssR ss' = ssR ss := ssR_of (es'.trans es1)
    obtain ⟨L3, eL3⟩ : ∃ L3 : Kn, N2 ++ ((D, HO.lst (ssV s1)) :: (N1 ++ L2)) = L3 := ⟨_, rfl⟩
    rw [eL3] at pin h8
    have m3 : ∀ z ∈ L2, z ∈ L3 := fun z hz => by rw [← eL3]; simp [hz]
    clear eL3
    refine ⟨_, rfl, _, rfl, _, rfl, m, wl, pl, ms, ws, ss, L3, rfl, h8, m3 _ mm, m3 _ mwl, m3 _ mpl, fun z hz => m3 _ (mN _ (i7 z hz)), fun z hz x hx => m3 _ (mN _ (i8 z hz x hx)), fit, jok, fun H9 h9 => ?_⟩
    dsimp only [List.set]
    refine ⟨_, rfl, A, ms, ws, ss', L3, rfl, h9, pin, by rw [eR']; exact fit, by rw [eR']; exact jok, fun H10 h10 => ?_⟩
    rw [eR']
    dsimp only [List.set]
    refine ⟨_, rfl, _, _, _, _, rfl, TyOf.str _, rfl, _, rfl, ifF rfl ?_⟩
    refine ⟨_, rfl, _, rfl, rfl, _, rfl, ifF (by simp) ?_⟩
    refine ⟨_, rfl, _, rfl, _, rfl, _, rfl, A, m, wl, pl, ms, ws, ss, ss', L3, rfl, h10, pin, m3 _ mm, m3 _ mwl, m3 _ mpl, fun z hz => m3 _ (mN _ (i7 z hz)), fun z hz x hx => m3 _ (mN _ (i8 z hz x hx)), eR', by omega, by omega, by omega, fun H11 h11 => ?_⟩
    refine ⟨_, rfl, iteF ?_⟩
    refine ⟨_, rfl, ms, ws, ssR ss, L3, rfl, h11, fit, i1, i2, ?_, fun sd esd => hgood.trR esd, fun H12 A' sd N' esd pin' h12 => ?_⟩
    · intro e
      have := congrArg List.length e
      unfold ssR at this
      rw [List.length_map] at this
      exact i5 (List.length_eq_zero_iff.mp this)
    dsimp only [List.set]
    have m4 : ∀ z ∈ L2, z ∈ N' ++ L3 := fun z hz => List.mem_append_right _ (m3 z hz)
    refine ⟨_, rfl, _, rfl, _, rfl, _, rfl, A', m, wl, pl, ms, ws, ss, sd, _, rfl, h12, pin', m4 _ mm, m4 _ mwl, m4 _ mpl, fun z hz => m4 _ (mN _ (i7 z hz)), fun z hz x hx => m4 _ (mN _ (i8 z hz x hx)), esd, by omega, by omega, by omega, fun H13 h13 => ?_⟩
    refine ⟨_, rfl, iteT ?_⟩
    refine ⟨_, rfl, A', ms, ws, sd, _, rfl, h13, pin', by rw [esd]; exact fit, by rw [esd]; exact jok, fun H14 h14 => ?_⟩
    rw [esd]
    refine ⟨_, rfl, rfl, ?_⟩
    rw [decide_eq_true rfl]
    exact q _
end

end P


set_option Elab.async false
set_option linter.all false
set_option maxRecDepth 100000
set_option maxHeartbeats 4000000
namespace P
open PySem L2

theorem txt_mk {K : PySem.W.Frag} {h : Heap} {mg : Str → Option Value} (KX : K.In h) (G : h.Ns mainGlobals mg)
    {z0 : Addr} {z1 z2 : Option Addr} {z3 : Array (Option Value)} {z4 z5 z6 z7 z8 z9 za : Value}
    {zb : Addr} {zc zd : Option Addr} {ze : Array (Option Value)} {zf zg zh zi zj zk zl : Value}
    {zm : Addr} {zn zo : Option Addr} {zp : Array (Option Value)} {zq zr zs zt zu zv zw : Value}
    {zx : Addr} {zy zz : Option Addr} {z10 : Array (Option Value)} {z11 z12 z13 z14 z15 z16 z17 : Value}
    {z18 : Addr} {z19 z1a : Option Addr} {z1b : Array (Option Value)} {z1c z1d z1e z1f z1g z1h z1i : Value}
    {z1j : Addr} {z1k z1l : Option Addr} {z1m : Array (Option Value)} {z1n z1o z1p z1q z1r z1s z1t : Value}
    {z1u : Addr} {z1v z1w : Option Addr} {z1x : Array (Option Value)} {z1y z1z z20 z21 z22 z23 z24 : Value}
    {z25 : Addr} {z26 z27 : Option Addr} {z28 : Array (Option Value)} {z29 z2a z2b z2c z2d z2e z2f : Value}
    {z2g : Addr} {z2h z2i : Option Addr} {z2j : Array (Option Value)} {z2k z2l z2m z2n z2o z2p z2q : Value}
    {z2r : Addr} {z2s z2t : Option Addr} {z2u : Array (Option Value)} {z2v z2w z2x z2y z2z z30 z31 : Value}
    {z32 : Addr} {z33 z34 : Option Addr} {z35 : Array (Option Value)} {z36 z37 z38 z39 z3a z3b z3c : Value}
    {z3d : Addr} {z3e z3f : Option Addr} {z3g : Array (Option Value)} {z3h z3i z3j z3k z3l z3m z3n : Value}
    {z3o : Addr} {z3p z3q : Option Addr} {z3r : Array (Option Value)} {z3s z3t z3u z3v z3w z3x z3y : Value}
    {z3z : Addr} {z40 z41 : Option Addr} {z42 : Array (Option Value)} {z43 z44 z45 z46 z47 z48 z49 : Value}
    {z4a : Addr} {z4b z4c : Option Addr} {z4d : Array (Option Value)} {z4e z4f z4g z4h z4i z4j z4k : Value}
    {z4l : Addr} {z4m z4n : Option Addr} {z4o : Array (Option Value)} {z4p z4q z4r z4s z4t z4u z4v : Value}
    {z4w : Addr} {z4x z4y : Option Addr} {z4z : Array (Option Value)} {z50 z51 z52 z53 z54 z55 z56 : Value}
    {z57 : Addr} {z58 z59 : Option Addr} {z5a : Array (Option Value)} {z5b z5c z5d z5e z5f z5g z5h : Value}
    {z5i : Addr} {z5j z5k : Option Addr} {z5l : Array (Option Value)} {z5m z5n z5o z5p z5q z5r z5s : Value}
    {z5t : Addr} {z5u z5v : Option Addr} {z5w : Array (Option Value)} {z5x z5y z5z z60 z61 z62 z63 : Value}
    {z64 : Addr} {z65 z66 : Option Addr} {z67 : Array (Option Value)} {z68 z69 z6a z6b z6c z6d z6e : Value}
    {z6f : Addr} {z6g z6h : Option Addr} {z6i : Array (Option Value)} {z6j z6k z6l z6m z6n z6o z6p : Value}
    {z6q : Addr} {z6r z6s : Option Addr} {z6t : Array (Option Value)} {z6u z6v z6w z6x z6y z6z z70 : Value}
    {z71 : Addr} {z72 z73 : Option Addr} {z74 : Array (Option Value)} {z75 z76 z77 z78 z79 z7a z7b : Value}
    {z7c : Addr} {z7d z7e : Option Addr} {z7f : Array (Option Value)} {z7g z7h z7i z7j z7k z7l z7m : Value}
    {z7n : Addr} {z7o z7p : Option Addr} {z7q : Array (Option Value)} {z7r z7s z7t z7u z7v z7w z7x : Value}
    {z7y : Addr} {z7z z80 : Option Addr} {z81 : Array (Option Value)} {z82 z83 z84 z85 z86 z87 z88 : Value}
    {z89 : Addr} {z8a z8b : Option Addr} {z8c : Array (Option Value)} {z8d z8e z8f z8g z8h z8i z8j : Value}
    {z8k : Addr} {z8l z8m : Option Addr} {z8n : Array (Option Value)} {z8o z8p z8q z8r z8s z8t z8u : Value}
    {z8v : Addr} {z8w z8x : Option Addr} {z8y : Array (Option Value)} {z8z z90 z91 z92 z93 z94 z95 : Value}
    {z96 : Addr} {z97 z98 : Option Addr} {z99 : Array (Option Value)} {z9a z9b z9c z9d z9e z9f z9g : Value}
    {z9h : Addr} {z9i z9j : Option Addr} {z9k : Array (Option Value)} {z9l z9m z9n z9o z9p z9q z9r : Value}
    {z9s : Addr} {z9t z9u : Option Addr} {z9v : Array (Option Value)} {z9w z9x z9y z9z za0 za1 za2 : Value}
    {za3 : Addr} {za4 za5 : Option Addr} {za6 : Array (Option Value)} {za7 za8 za9 zaa zab zac zad : Value}
    {zae : Addr}
    {zaf : Value}
    {zag : Value}
    {zah : Value}
    {zai : Value}
    {zaj : Value}
    {zak : Addr} {zal : Option Addr} {zam : Array Value} {zan : Nat} {zao : Array (Option Value)}
    (zap : PySem.W.nsIn K mainGlobals "Program" = some (some (.ref zae)))
    (zaq : PySem.W.nsIn K mainGlobals "law" = some (some (.ref z0)))
    (zar : K.lookup z0 = some ⟨z4, z1, .func (PySem.W.fnOf "law" "law" (defArgs s_law) (defBody s_law) (defScope s_law) z5 z6 z7 z8 z2 z9 za), z3⟩)
    (zas : PySem.W.codeIn K z9 "law" = true)
    (zat : PySem.W.keepIn K (.ref z0) = true)
    (zau : z5 = .none)
    (zav : PySem.W.nsIn K mainGlobals "_law_draws" = some (some (.ref zb)))
    (zaw : K.lookup zb = some ⟨zf, zc, .func (PySem.W.fnOf "_law_draws" "_law_draws" (defArgs s_draws) (defBody s_draws) (defScope s_draws) zg zh zi zj zd zk zl), ze⟩)
    (zax : PySem.W.codeIn K zk "_law_draws" = true)
    (zay : PySem.W.keepIn K (.ref zb) = true)
    (zaz : zg = .none)
    (zb0 : PySem.W.nsIn K mainGlobals "_law_program" = some (some (.ref zm)))
    (zb1 : K.lookup zm = some ⟨zq, zn, .func (PySem.W.fnOf "_law_program" "_law_program" (defArgs s_program) (defBody s_program) (defScope s_program) zr zs zt zu zo zv zw), zp⟩)
    (zb2 : PySem.W.codeIn K zv "_law_program" = true)
    (zb3 : PySem.W.keepIn K (.ref zm) = true)
    (zb4 : zr = .none)
    (zb5 : PySem.W.nsIn K mainGlobals "_law_parts" = some (some (.ref zx)))
    (zb6 : K.lookup zx = some ⟨z11, zy, .func (PySem.W.fnOf "_law_parts" "_law_parts" (defArgs s_parts) (defBody s_parts) (defScope s_parts) z12 z13 z14 z15 zz z16 z17), z10⟩)
    (zb7 : PySem.W.codeIn K z16 "_law_parts" = true)
    (zb8 : PySem.W.keepIn K (.ref zx) = true)
    (zb9 : z12 = .none)
    (zba : PySem.W.nsIn K mainGlobals "_law_row" = some (some (.ref z18)))
    (zbb : K.lookup z18 = some ⟨z1c, z19, .func (PySem.W.fnOf "_law_row" "_law_row" (defArgs s_row) (defBody s_row) (defScope s_row) z1d z1e z1f z1g z1a z1h z1i), z1b⟩)
    (zbc : PySem.W.codeIn K z1h "_law_row" = true)
    (zbd : PySem.W.keepIn K (.ref z18) = true)
    (zbe : z1d = .none)
    (zbf : PySem.W.nsIn K mainGlobals "_law_program_text" = some (some (.ref z1j)))
    (zbg : K.lookup z1j = some ⟨z1n, z1k, .func (PySem.W.fnOf "_law_program_text" "_law_program_text" (defArgs s_program_text) (defBody s_program_text) (defScope s_program_text) z1o z1p z1q z1r z1l z1s z1t), z1m⟩)
    (zbh : PySem.W.codeIn K z1s "_law_program_text" = true)
    (zbi : PySem.W.keepIn K (.ref z1j) = true)
    (zbj : z1o = .none)
    (zbk : PySem.W.nsIn K mainGlobals "write_program" = some (some (.ref z1u)))
    (zbl : K.lookup z1u = some ⟨z1y, z1v, .func (PySem.W.fnOf "write_program" "write_program" (defArgs s_write_program) (defBody s_write_program) (defScope s_write_program) z1z z20 z21 z22 z1w z23 z24), z1x⟩)
    (zbm : PySem.W.codeIn K z23 "write_program" = true)
    (zbn : PySem.W.keepIn K (.ref z1u) = true)
    (zbo : z1z = .none)
    (zbp : PySem.W.nsIn K mainGlobals "write_line" = some (some (.ref z25)))
    (zbq : K.lookup z25 = some ⟨z29, z26, .func (PySem.W.fnOf "write_line" "write_line" (defArgs s_write_line) (defBody s_write_line) (defScope s_write_line) z2a z2b z2c z2d z27 z2e z2f), z28⟩)
    (zbr : PySem.W.codeIn K z2e "write_line" = true)
    (zbs : PySem.W.keepIn K (.ref z25) = true)
    (zbt : z2a = .none)
    (zbu : PySem.W.nsIn K mainGlobals "read_program" = some (some (.ref z2g)))
    (zbv : K.lookup z2g = some ⟨z2k, z2h, .func (PySem.W.fnOf "read_program" "read_program" (defArgs s_read_program) (defBody s_read_program) (defScope s_read_program) z2l z2m z2n z2o z2i z2p z2q), z2j⟩)
    (zbw : PySem.W.codeIn K z2p "read_program" = true)
    (zbx : PySem.W.keepIn K (.ref z2g) = true)
    (zby : z2l = .none)
    (zbz : PySem.W.nsIn K mainGlobals "read_line" = some (some (.ref z2r)))
    (zc0 : K.lookup z2r = some ⟨z2v, z2s, .func (PySem.W.fnOf "read_line" "read_line" (defArgs s_read_line) (defBody s_read_line) (defScope s_read_line) z2w z2x z2y z2z z2t z30 z31), z2u⟩)
    (zc1 : PySem.W.codeIn K z30 "read_line" = true)
    (zc2 : PySem.W.keepIn K (.ref z2r) = true)
    (zc3 : z2w = .none)
    (zc4 : PySem.W.nsIn K mainGlobals "read_number" = some (some (.ref z32)))
    (zc5 : K.lookup z32 = some ⟨z36, z33, .func (PySem.W.fnOf "read_number" "read_number" (defArgs s_read_number) (defBody s_read_number) (defScope s_read_number) z37 z38 z39 z3a z34 z3b z3c), z35⟩)
    (zc6 : PySem.W.codeIn K z3b "read_number" = true)
    (zc7 : PySem.W.keepIn K (.ref z32) = true)
    (zc8 : z37 = .none)
    (zc9 : PySem.W.nsIn K mainGlobals "is_plain" = some (some (.ref z3d)))
    (zca : K.lookup z3d = some ⟨z3h, z3e, .func (PySem.W.fnOf "is_plain" "is_plain" (defArgs s_is_plain) (defBody s_is_plain) (defScope s_is_plain) z3i z3j z3k z3l z3f z3m z3n), z3g⟩)
    (zcb : PySem.W.codeIn K z3m "is_plain" = true)
    (zcc : PySem.W.keepIn K (.ref z3d) = true)
    (zcd : z3i = .none)
    (zce : PySem.W.nsIn K mainGlobals "row_of" = some (some (.ref z3o)))
    (zcf : K.lookup z3o = some ⟨z3s, z3p, .func (PySem.W.fnOf "row_of" "row_of" (defArgs s_row_of) (defBody s_row_of) (defScope s_row_of) z3t z3u z3v z3w z3q z3x z3y), z3r⟩)
    (zcg : PySem.W.codeIn K z3x "row_of" = true)
    (zch : PySem.W.keepIn K (.ref z3o) = true)
    (zci : z3t = .none)
    (zcj : PySem.W.nsIn K mainGlobals "_law_copied" = some (some (.ref z3z)))
    (zck : K.lookup z3z = some ⟨z43, z40, .func (PySem.W.fnOf "_law_copied" "_law_copied" (defArgs s_copied) (defBody s_copied) (defScope s_copied) z44 z45 z46 z47 z41 z48 z49), z42⟩)
    (zcl : PySem.W.codeIn K z48 "_law_copied" = true)
    (zcm : PySem.W.keepIn K (.ref z3z) = true)
    (zcn : z44 = .none)
    (zco : PySem.W.nsIn K mainGlobals "_law_told" = some (some (.ref z4a)))
    (zcp : K.lookup z4a = some ⟨z4e, z4b, .func (PySem.W.fnOf "_law_told" "_law_told" (defArgs s_told) (defBody s_told) (defScope s_told) z4f z4g z4h z4i z4c z4j z4k), z4d⟩)
    (zcq : PySem.W.codeIn K z4j "_law_told" = true)
    (zcr : PySem.W.keepIn K (.ref z4a) = true)
    (zcs : z4f = .none)
    (zct : PySem.W.nsIn K mainGlobals "_law_is" = some (some (.ref z4l)))
    (zcu : K.lookup z4l = some ⟨z4p, z4m, .func (PySem.W.fnOf "_law_is" "_law_is" (defArgs s_is) (defBody s_is) (defScope s_is) z4q z4r z4s z4t z4n z4u z4v), z4o⟩)
    (zcv : PySem.W.codeIn K z4u "_law_is" = true)
    (zcw : PySem.W.keepIn K (.ref z4l) = true)
    (zcx : z4q = .none)
    (zcy : PySem.W.nsIn K mainGlobals "_law_whole" = some (some (.ref z4w)))
    (zcz : K.lookup z4w = some ⟨z50, z4x, .func (PySem.W.fnOf "_law_whole" "_law_whole" (defArgs s_whole) (defBody s_whole) (defScope s_whole) z51 z52 z53 z54 z4y z55 z56), z4z⟩)
    (zd0 : PySem.W.codeIn K z55 "_law_whole" = true)
    (zd1 : PySem.W.keepIn K (.ref z4w) = true)
    (zd2 : z51 = .none)
    (zd3 : PySem.W.nsIn K mainGlobals "_law_is_row" = some (some (.ref z57)))
    (zd4 : K.lookup z57 = some ⟨z5b, z58, .func (PySem.W.fnOf "_law_is_row" "_law_is_row" (defArgs s_is_row) (defBody s_is_row) (defScope s_is_row) z5c z5d z5e z5f z59 z5g z5h), z5a⟩)
    (zd5 : PySem.W.codeIn K z5g "_law_is_row" = true)
    (zd6 : PySem.W.keepIn K (.ref z57) = true)
    (zd7 : z5c = .none)
    (zd8 : PySem.W.nsIn K mainGlobals "check_side" = some (some (.ref z5i)))
    (zd9 : K.lookup z5i = some ⟨z5m, z5j, .func (PySem.W.fnOf "check_side" "check_side" (defArgs s_check_side) (defBody s_check_side) (defScope s_check_side) z5n z5o z5p z5q z5k z5r z5s), z5l⟩)
    (zda : PySem.W.codeIn K z5r "check_side" = true)
    (zdb : PySem.W.keepIn K (.ref z5i) = true)
    (zdc : z5n = .none)
    (zdd : PySem.W.nsIn K mainGlobals "check_width" = some (some (.ref z5t)))
    (zde : K.lookup z5t = some ⟨z5x, z5u, .func (PySem.W.fnOf "check_width" "check_width" (defArgs s_check_width) (defBody s_check_width) (defScope s_check_width) z5y z5z z60 z61 z5v z62 z63), z5w⟩)
    (zdf : PySem.W.codeIn K z62 "check_width" = true)
    (zdg : PySem.W.keepIn K (.ref z5t) = true)
    (zdh : z5y = .none)
    (zdi : PySem.W.nsIn K mainGlobals "check_note" = some (some (.ref z64)))
    (zdj : K.lookup z64 = some ⟨z68, z65, .func (PySem.W.fnOf "check_note" "check_note" (defArgs s_check_note) (defBody s_check_note) (defScope s_check_note) z69 z6a z6b z6c z66 z6d z6e), z67⟩)
    (zdk : PySem.W.codeIn K z6d "check_note" = true)
    (zdl : PySem.W.keepIn K (.ref z64) = true)
    (zdm : z69 = .none)
    (zdn : PySem.W.nsIn K mainGlobals "check_mark" = some (some (.ref z6f)))
    (zdo : K.lookup z6f = some ⟨z6j, z6g, .func (PySem.W.fnOf "check_mark" "check_mark" (defArgs s_check_mark) (defBody s_check_mark) (defScope s_check_mark) z6k z6l z6m z6n z6h z6o z6p), z6i⟩)
    (zdp : PySem.W.codeIn K z6o "check_mark" = true)
    (zdq : PySem.W.keepIn K (.ref z6f) = true)
    (zdr : z6k = .none)
    (zds : PySem.W.nsIn K mainGlobals "check_counter" = some (some (.ref z6q)))
    (zdt : K.lookup z6q = some ⟨z6u, z6r, .func (PySem.W.fnOf "check_counter" "check_counter" (defArgs s_check_counter) (defBody s_check_counter) (defScope s_check_counter) z6v z6w z6x z6y z6s z6z z70), z6t⟩)
    (zdu : PySem.W.codeIn K z6z "check_counter" = true)
    (zdv : PySem.W.keepIn K (.ref z6q) = true)
    (zdw : z6v = .none)
    (zdx : PySem.W.nsIn K mainGlobals "check_row" = some (some (.ref z71)))
    (zdy : K.lookup z71 = some ⟨z75, z72, .func (PySem.W.fnOf "check_row" "check_row" (defArgs s_check_row) (defBody s_check_row) (defScope s_check_row) z76 z77 z78 z79 z73 z7a z7b), z74⟩)
    (zdz : PySem.W.codeIn K z7a "check_row" = true)
    (ze0 : PySem.W.keepIn K (.ref z71) = true)
    (ze1 : z76 = .none)
    (ze2 : PySem.W.nsIn K mainGlobals "check_stretch" = some (some (.ref z7c)))
    (ze3 : K.lookup z7c = some ⟨z7g, z7d, .func (PySem.W.fnOf "check_stretch" "check_stretch" (defArgs s_check_stretch) (defBody s_check_stretch) (defScope s_check_stretch) z7h z7i z7j z7k z7e z7l z7m), z7f⟩)
    (ze4 : PySem.W.codeIn K z7l "check_stretch" = true)
    (ze5 : PySem.W.keepIn K (.ref z7c) = true)
    (ze6 : z7h = .none)
    (ze7 : PySem.W.findIn K (.ref zae) "__init__" = some (some (.ref z7n)))
    (ze8 : PySem.W.isFn K (.ref z7n) = true)
    (ze9 : K.lookup z7n = some ⟨z7r, z7o, .func (PySem.W.fnOf "__init__" "Program.__init__" (defArgs s_Program_init) (defBody s_Program_init) (defScope s_Program_init) z7s z7t z7u z7v z7p z7w z7x), z7q⟩)
    (zea : PySem.W.codeIn K z7w "Program.__init__" = true)
    (zeb : PySem.W.keepIn K (.ref z7n) = true)
    (zec : z7s = .none)
    (zed : PySem.W.findIn K (.ref zae) "check_beginning" = some (some (.ref z7y)))
    (zee : PySem.W.isFn K (.ref z7y) = true)
    (zef : K.lookup z7y = some ⟨z82, z7z, .func (PySem.W.fnOf "check_beginning" "Program.check_beginning" (defArgs s_Program_check_beginning) (defBody s_Program_check_beginning) (defScope s_Program_check_beginning) z83 z84 z85 z86 z80 z87 z88), z81⟩)
    (zeg : PySem.W.codeIn K z87 "Program.check_beginning" = true)
    (zeh : PySem.W.keepIn K (.ref z7y) = true)
    (zei : z83 = .none)
    (zej : PySem.W.findIn K (.ref zae) "many" = some (some (.ref z89)))
    (zek : PySem.W.isFn K (.ref z89) = true)
    (zel : K.lookup z89 = some ⟨z8d, z8a, .func (PySem.W.fnOf "many" "Program.many" (defArgs s_Program_many) (defBody s_Program_many) (defScope s_Program_many) z8e z8f z8g z8h z8b z8i z8j), z8c⟩)
    (zem : PySem.W.codeIn K z8i "Program.many" = true)
    (zen : PySem.W.keepIn K (.ref z89) = true)
    (zeo : z8e = .none)
    (zep : PySem.W.findIn K (.ref zae) "check_rows" = some (some (.ref z8k)))
    (zeq : PySem.W.isFn K (.ref z8k) = true)
    (zer : K.lookup z8k = some ⟨z8o, z8l, .func (PySem.W.fnOf "check_rows" "Program.check_rows" (defArgs s_Program_check_rows) (defBody s_Program_check_rows) (defScope s_Program_check_rows) z8p z8q z8r z8s z8m z8t z8u), z8n⟩)
    (zes : PySem.W.codeIn K z8t "Program.check_rows" = true)
    (zet : PySem.W.keepIn K (.ref z8k) = true)
    (zeu : z8p = .none)
    (zev : PySem.W.findIn K (.ref zae) "check_part" = some (some (.ref z8v)))
    (zew : PySem.W.isFn K (.ref z8v) = true)
    (zex : K.lookup z8v = some ⟨z8z, z8w, .func (PySem.W.fnOf "check_part" "Program.check_part" (defArgs s_Program_check_part) (defBody s_Program_check_part) (defScope s_Program_check_part) z90 z91 z92 z93 z8x z94 z95), z8y⟩)
    (zey : PySem.W.codeIn K z94 "Program.check_part" = true)
    (zez : PySem.W.keepIn K (.ref z8v) = true)
    (zf0 : z90 = .none)
    (zf1 : PySem.W.findIn K (.ref zae) "check_called" = some (some (.ref z96)))
    (zf2 : PySem.W.isFn K (.ref z96) = true)
    (zf3 : K.lookup z96 = some ⟨z9a, z97, .func (PySem.W.fnOf "check_called" "Program.check_called" (defArgs s_Program_check_called) (defBody s_Program_check_called) (defScope s_Program_check_called) z9b z9c z9d z9e z98 z9f z9g), z99⟩)
    (zf4 : PySem.W.codeIn K z9f "Program.check_called" = true)
    (zf5 : PySem.W.keepIn K (.ref z96) = true)
    (zf6 : z9b = .none)
    (zf7 : PySem.W.findIn K (.ref zae) "rows" = some (some (.ref z9h)))
    (zf8 : PySem.W.isFn K (.ref z9h) = true)
    (zf9 : K.lookup z9h = some ⟨z9l, z9i, .func (PySem.W.fnOf "rows" "Program.rows" (defArgs s_Program_rows) (defBody s_Program_rows) (defScope s_Program_rows) z9m z9n z9o z9p z9j z9q z9r), z9k⟩)
    (zfa : PySem.W.codeIn K z9q "Program.rows" = true)
    (zfb : PySem.W.keepIn K (.ref z9h) = true)
    (zfc : z9m = .none)
    (zfd : PySem.W.findIn K (.ref zae) "marks" = some (some (.ref z9s)))
    (zfe : PySem.W.isFn K (.ref z9s) = true)
    (zff : K.lookup z9s = some ⟨z9w, z9t, .func (PySem.W.fnOf "marks" "Program.marks" (defArgs s_Program_marks) (defBody s_Program_marks) (defScope s_Program_marks) z9x z9y z9z za0 z9u za1 za2), z9v⟩)
    (zfg : PySem.W.codeIn K za1 "Program.marks" = true)
    (zfh : PySem.W.keepIn K (.ref z9s) = true)
    (zfi : z9x = .none)
    (zfj : PySem.W.findIn K (.ref zae) "widths" = some (some (.ref za3)))
    (zfk : PySem.W.isFn K (.ref za3) = true)
    (zfl : K.lookup za3 = some ⟨za7, za4, .func (PySem.W.fnOf "widths" "Program.widths" (defArgs s_Program_widths) (defBody s_Program_widths) (defScope s_Program_widths) za8 za9 zaa zab za5 zac zad), za6⟩)
    (zfm : PySem.W.codeIn K zac "Program.widths" = true)
    (zfn : PySem.W.keepIn K (.ref za3) = true)
    (zfo : za8 = .none)
    (zfp : PySem.W.plainGet K zae Str.empty = true)
    (zfq : PySem.W.hasDictIn K zae = true)
    (zfr : PySem.W.plainOver K zae = true)
    (zfs : PySem.W.findIn K (.ref zae) "__setattr__" = some (some (.builtin "object.__setattr__")))
    (zft : PySem.W.makesIn K zae = true)
    (zfu : PySem.W.keepIn K (.ref zae) = true)
    (zfv : PySem.W.findIn K (.ref zae) "mark_sides" = some none)
    (zfw : PySem.W.findIn K (.ref zae) "counter_widths" = some none)
    (zfx : PySem.W.findIn K (.ref zae) "stretches" = some none)
    (zfy : PySem.W.nsIn K mainGlobals "abs" = some none)
    (zfz : PySem.W.nsIn K mainGlobals "all" = some none)
    (zg0 : PySem.W.nsIn K mainGlobals "bool" = some none)
    (zg1 : PySem.W.nsIn K mainGlobals "enumerate" = some none)
    (zg2 : PySem.W.nsIn K mainGlobals "int" = some none)
    (zg3 : PySem.W.nsIn K mainGlobals "isinstance" = some none)
    (zg4 : PySem.W.nsIn K mainGlobals "len" = some none)
    (zg5 : PySem.W.nsIn K mainGlobals "list" = some none)
    (zg6 : PySem.W.nsIn K mainGlobals "range" = some none)
    (zg7 : PySem.W.nsIn K mainGlobals "str" = some none)
    (zg8 : PySem.W.nsIn K mainGlobals "tuple" = some none)
    (zg9 : PySem.W.nsIn K mainGlobals "zip" = some none)
    (zga : PySem.W.nsIn K mainGlobals "FIGURES" = some (some zaf))
    (zgb : RelV (.str "0123456789") zaf)
    (zgc : PySem.W.nsIn K mainGlobals "LAST_NOTE" = some (some zag))
    (zgd : RelV (.int 9999) zag)
    (zge : PySem.W.nsIn K mainGlobals "LAST_WORDS" = some (some zah))
    (zgf : zah = .ref zak)
    (zgg : K.lookup zak = some ⟨.type "tuple", zal, .seq zam zan, zao⟩)
    (zgh : zam.size ≤ sizeLine)
    (zgi : Vals [.str "ask", .str "go", .str "end"] zam.toList)
    (zgj : PySem.W.nsIn K mainGlobals "PARTS" = some (some zai))
    (zgk : ∃ a, zai = .ref a ∧ TabT K a [("bell", ["note"]), ("set", ["mark", "side"]), ("ask", ["mark", "row", "row"]), ("bump", ["counter", "row"]), ("go", ["row"]), ("call", ["stretch"]), ("end", [])])
    (zgl : PySem.W.nsIn K mainGlobals "WIDEST" = some (some zaj))
    (zgm : RelV (.int 8) zaj) :
    Txt K mg ⟨z0, PySem.W.fnOf "law" "law" (defArgs s_law) (defBody s_law) (defScope s_law) z5 z6 z7 z8 z2 z9 za, z5, zb, PySem.W.fnOf "_law_draws" "_law_draws" (defArgs s_draws) (defBody s_draws) (defScope s_draws) zg zh zi zj zd zk zl, zg, zm, PySem.W.fnOf "_law_program" "_law_program" (defArgs s_program) (defBody s_program) (defScope s_program) zr zs zt zu zo zv zw, zr, zx, PySem.W.fnOf "_law_parts" "_law_parts" (defArgs s_parts) (defBody s_parts) (defScope s_parts) z12 z13 z14 z15 zz z16 z17, z12, z18, PySem.W.fnOf "_law_row" "_law_row" (defArgs s_row) (defBody s_row) (defScope s_row) z1d z1e z1f z1g z1a z1h z1i, z1d, z1j, PySem.W.fnOf "_law_program_text" "_law_program_text" (defArgs s_program_text) (defBody s_program_text) (defScope s_program_text) z1o z1p z1q z1r z1l z1s z1t, z1o, z1u, PySem.W.fnOf "write_program" "write_program" (defArgs s_write_program) (defBody s_write_program) (defScope s_write_program) z1z z20 z21 z22 z1w z23 z24, z1z, z25, PySem.W.fnOf "write_line" "write_line" (defArgs s_write_line) (defBody s_write_line) (defScope s_write_line) z2a z2b z2c z2d z27 z2e z2f, z2a, z2g, PySem.W.fnOf "read_program" "read_program" (defArgs s_read_program) (defBody s_read_program) (defScope s_read_program) z2l z2m z2n z2o z2i z2p z2q, z2l, z2r, PySem.W.fnOf "read_line" "read_line" (defArgs s_read_line) (defBody s_read_line) (defScope s_read_line) z2w z2x z2y z2z z2t z30 z31, z2w, z32, PySem.W.fnOf "read_number" "read_number" (defArgs s_read_number) (defBody s_read_number) (defScope s_read_number) z37 z38 z39 z3a z34 z3b z3c, z37, z3d, PySem.W.fnOf "is_plain" "is_plain" (defArgs s_is_plain) (defBody s_is_plain) (defScope s_is_plain) z3i z3j z3k z3l z3f z3m z3n, z3i, z3o, PySem.W.fnOf "row_of" "row_of" (defArgs s_row_of) (defBody s_row_of) (defScope s_row_of) z3t z3u z3v z3w z3q z3x z3y, z3t, z3z, PySem.W.fnOf "_law_copied" "_law_copied" (defArgs s_copied) (defBody s_copied) (defScope s_copied) z44 z45 z46 z47 z41 z48 z49, z44, z4a, PySem.W.fnOf "_law_told" "_law_told" (defArgs s_told) (defBody s_told) (defScope s_told) z4f z4g z4h z4i z4c z4j z4k, z4f, z4l, PySem.W.fnOf "_law_is" "_law_is" (defArgs s_is) (defBody s_is) (defScope s_is) z4q z4r z4s z4t z4n z4u z4v, z4q, z4w, PySem.W.fnOf "_law_whole" "_law_whole" (defArgs s_whole) (defBody s_whole) (defScope s_whole) z51 z52 z53 z54 z4y z55 z56, z51, z57, PySem.W.fnOf "_law_is_row" "_law_is_row" (defArgs s_is_row) (defBody s_is_row) (defScope s_is_row) z5c z5d z5e z5f z59 z5g z5h, z5c, z5i, PySem.W.fnOf "check_side" "check_side" (defArgs s_check_side) (defBody s_check_side) (defScope s_check_side) z5n z5o z5p z5q z5k z5r z5s, z5n, z5t, PySem.W.fnOf "check_width" "check_width" (defArgs s_check_width) (defBody s_check_width) (defScope s_check_width) z5y z5z z60 z61 z5v z62 z63, z5y, z64, PySem.W.fnOf "check_note" "check_note" (defArgs s_check_note) (defBody s_check_note) (defScope s_check_note) z69 z6a z6b z6c z66 z6d z6e, z69, z6f, PySem.W.fnOf "check_mark" "check_mark" (defArgs s_check_mark) (defBody s_check_mark) (defScope s_check_mark) z6k z6l z6m z6n z6h z6o z6p, z6k, z6q, PySem.W.fnOf "check_counter" "check_counter" (defArgs s_check_counter) (defBody s_check_counter) (defScope s_check_counter) z6v z6w z6x z6y z6s z6z z70, z6v, z71, PySem.W.fnOf "check_row" "check_row" (defArgs s_check_row) (defBody s_check_row) (defScope s_check_row) z76 z77 z78 z79 z73 z7a z7b, z76, z7c, PySem.W.fnOf "check_stretch" "check_stretch" (defArgs s_check_stretch) (defBody s_check_stretch) (defScope s_check_stretch) z7h z7i z7j z7k z7e z7l z7m, z7h, z7n, PySem.W.fnOf "__init__" "Program.__init__" (defArgs s_Program_init) (defBody s_Program_init) (defScope s_Program_init) z7s z7t z7u z7v z7p z7w z7x, z7s, z7y, PySem.W.fnOf "check_beginning" "Program.check_beginning" (defArgs s_Program_check_beginning) (defBody s_Program_check_beginning) (defScope s_Program_check_beginning) z83 z84 z85 z86 z80 z87 z88, z83, z89, PySem.W.fnOf "many" "Program.many" (defArgs s_Program_many) (defBody s_Program_many) (defScope s_Program_many) z8e z8f z8g z8h z8b z8i z8j, z8e, z8k, PySem.W.fnOf "check_rows" "Program.check_rows" (defArgs s_Program_check_rows) (defBody s_Program_check_rows) (defScope s_Program_check_rows) z8p z8q z8r z8s z8m z8t z8u, z8p, z8v, PySem.W.fnOf "check_part" "Program.check_part" (defArgs s_Program_check_part) (defBody s_Program_check_part) (defScope s_Program_check_part) z90 z91 z92 z93 z8x z94 z95, z90, z96, PySem.W.fnOf "check_called" "Program.check_called" (defArgs s_Program_check_called) (defBody s_Program_check_called) (defScope s_Program_check_called) z9b z9c z9d z9e z98 z9f z9g, z9b, z9h, PySem.W.fnOf "rows" "Program.rows" (defArgs s_Program_rows) (defBody s_Program_rows) (defScope s_Program_rows) z9m z9n z9o z9p z9j z9q z9r, z9m, z9s, PySem.W.fnOf "marks" "Program.marks" (defArgs s_Program_marks) (defBody s_Program_marks) (defScope s_Program_marks) z9x z9y z9z za0 z9u za1 za2, z9x, za3, PySem.W.fnOf "widths" "Program.widths" (defArgs s_Program_widths) (defBody s_Program_widths) (defScope s_Program_widths) za8 za9 zaa zab za5 zac zad, za8, zae, zaf, zag, zah, zai, zaj⟩ where
  F_law := funG_mk zar zas zat
  F_draws := funG_mk zaw zax zay
  F_program := funG_mk zb1 zb2 zb3
  F_parts := funG_mk zb6 zb7 zb8
  F_row := funG_mk zbb zbc zbd
  F_program_text := funG_mk zbg zbh zbi
  F_write_program := funG_mk zbl zbm zbn
  F_write_line := funG_mk zbq zbr zbs
  F_read_program := funG_mk zbv zbw zbx
  F_read_line := funG_mk zc0 zc1 zc2
  F_read_number := funG_mk zc5 zc6 zc7
  F_is_plain := funG_mk zca zcb zcc
  F_row_of := funG_mk zcf zcg zch
  F_copied := funG_mk zck zcl zcm
  F_told := funG_mk zcp zcq zcr
  F_is := funG_mk zcu zcv zcw
  F_whole := funG_mk zcz zd0 zd1
  F_is_row := funG_mk zd4 zd5 zd6
  F_check_side := funG_mk zd9 zda zdb
  F_check_width := funG_mk zde zdf zdg
  F_check_note := funG_mk zdj zdk zdl
  F_check_mark := funG_mk zdo zdp zdq
  F_check_counter := funG_mk zdt zdu zdv
  F_check_row := funG_mk zdy zdz ze0
  F_check_stretch := funG_mk ze3 ze4 ze5
  F_Program_init := funG_mk ze9 zea zeb
  F_Program_check_beginning := funG_mk zef zeg zeh
  F_Program_many := funG_mk zel zem zen
  F_Program_check_rows := funG_mk zer zes zet
  F_Program_check_part := funG_mk zex zey zez
  F_Program_check_called := funG_mk zf3 zf4 zf5
  F_Program_rows := funG_mk zf9 zfa zfb
  F_Program_marks := funG_mk zff zfg zfh
  F_Program_widths := funG_mk zfl zfm zfn
  m_law := PySem.W.mg_of KX G zaq
  e_law := zau
  m_draws := PySem.W.mg_of KX G zav
  e_draws := zaz
  m_program := PySem.W.mg_of KX G zb0
  e_program := zb4
  m_parts := PySem.W.mg_of KX G zb5
  e_parts := zb9
  m_row := PySem.W.mg_of KX G zba
  e_row := zbe
  m_program_text := PySem.W.mg_of KX G zbf
  e_program_text := zbj
  m_write_program := PySem.W.mg_of KX G zbk
  e_write_program := zbo
  m_write_line := PySem.W.mg_of KX G zbp
  e_write_line := zbt
  m_read_program := PySem.W.mg_of KX G zbu
  e_read_program := zby
  m_read_line := PySem.W.mg_of KX G zbz
  e_read_line := zc3
  m_read_number := PySem.W.mg_of KX G zc4
  e_read_number := zc8
  m_is_plain := PySem.W.mg_of KX G zc9
  e_is_plain := zcd
  m_row_of := PySem.W.mg_of KX G zce
  e_row_of := zci
  m_copied := PySem.W.mg_of KX G zcj
  e_copied := zcn
  m_told := PySem.W.mg_of KX G zco
  e_told := zcs
  m_is := PySem.W.mg_of KX G zct
  e_is := zcx
  m_whole := PySem.W.mg_of KX G zcy
  e_whole := zd2
  m_is_row := PySem.W.mg_of KX G zd3
  e_is_row := zd7
  m_check_side := PySem.W.mg_of KX G zd8
  e_check_side := zdc
  m_check_width := PySem.W.mg_of KX G zdd
  e_check_width := zdh
  m_check_note := PySem.W.mg_of KX G zdi
  e_check_note := zdm
  m_check_mark := PySem.W.mg_of KX G zdn
  e_check_mark := zdr
  m_check_counter := PySem.W.mg_of KX G zds
  e_check_counter := zdw
  m_check_row := PySem.W.mg_of KX G zdx
  e_check_row := ze1
  m_check_stretch := PySem.W.mg_of KX G ze2
  e_check_stretch := ze6
  e_Program_init := zec
  M_Program_check_beginning := ⟨zed, zee, zeh⟩
  e_Program_check_beginning := zei
  M_Program_many := ⟨zej, zek, zen⟩
  e_Program_many := zeo
  M_Program_check_rows := ⟨zep, zeq, zet⟩
  e_Program_check_rows := zeu
  M_Program_check_part := ⟨zev, zew, zez⟩
  e_Program_check_part := zf0
  M_Program_check_called := ⟨zf1, zf2, zf5⟩
  e_Program_check_called := zf6
  M_Program_rows := ⟨zf7, zf8, zfb⟩
  e_Program_rows := zfc
  M_Program_marks := ⟨zfd, zfe, zfh⟩
  e_Program_marks := zfi
  M_Program_widths := ⟨zfj, zfk, zfn⟩
  e_Program_widths := zfo
  cl_Program := ⟨zfp, zfq, zfr, zfs⟩
  m_Program := PySem.W.mg_of KX G zap
  mk_Program := ⟨zft, ze7, ze8, zfu⟩
  n_Program_mark_sides := zfv
  n_Program_counter_widths := zfw
  n_Program_stretches := zfx
  z_abs := PySem.W.mg_none_of KX G zfy
  z_all := PySem.W.mg_none_of KX G zfz
  z_bool := PySem.W.mg_none_of KX G zg0
  z_enumerate := PySem.W.mg_none_of KX G zg1
  z_int := PySem.W.mg_none_of KX G zg2
  z_isinstance := PySem.W.mg_none_of KX G zg3
  z_len := PySem.W.mg_none_of KX G zg4
  z_list := PySem.W.mg_none_of KX G zg5
  z_range := PySem.W.mg_none_of KX G zg6
  z_str := PySem.W.mg_none_of KX G zg7
  z_tuple := PySem.W.mg_none_of KX G zg8
  z_zip := PySem.W.mg_none_of KX G zg9
  g_FIGURES := PySem.W.mg_of KX G zga
  r_FIGURES := zgb
  g_LAST_NOTE := PySem.W.mg_of KX G zgc
  r_LAST_NOTE := zgd
  g_LAST_WORDS := PySem.W.mg_of KX G zge
  x_LAST_WORDS := ⟨zak, _, zam, zan, zgf, zgg, rfl, rfl, zgh, zgi⟩
  g_PARTS := PySem.W.mg_of KX G zgj
  x_PARTS := zgk
  g_WIDEST := PySem.W.mg_of KX G zgl
  r_WIDEST := zgm
end P
def PySem.W.Fast.tw4169874502460792496 : Unit := ()
def PySem.W.Fast.tw10325513235330033481 : Unit := ()
def PySem.W.Fast.tw9750092185666371886 : Unit := ()
def PySem.W.Fast.tw6464043077071944628 : Unit := ()
def PySem.W.Fast.tw10001700755921513828 : Unit := ()
def PySem.W.Fast.tw5648669446269136570 : Unit := ()
def PySem.W.Fast.tw7365367350930815242 : Unit := ()
def PySem.W.Fast.tw17918474382207382864 : Unit := ()
def PySem.W.Fast.tw15194319125348062428 : Unit := ()
def PySem.W.Fast.tw2360381617427380647 : Unit := ()
def PySem.W.Fast.tw455821961486430189 : Unit := ()
def PySem.W.Fast.tw4068385896050581030 : Unit := ()
def PySem.W.Fast.tw5983333190855533671 : Unit := ()
def PySem.W.Fast.tw11269804437085205801 : Unit := ()
def PySem.W.Fast.tw12802395649241938096 : Unit := ()
def PySem.W.Fast.tw2802053807588591039 : Unit := ()
def PySem.W.Fast.tw463410062314571200 : Unit := ()
def PySem.W.Fast.tw17207878022809410164 : Unit := ()
def PySem.W.Fast.tw16972654142723971337 : Unit := ()
def PySem.W.Fast.tw9696588799073734007 : Unit := ()
def PySem.W.Fast.tw1933601267583783001 : Unit := ()
def PySem.W.Fast.tw2292090167920266550 : Unit := ()
def PySem.W.Fast.tw1376614570833147394 : Unit := ()
def PySem.W.Fast.tw11149902267004762164 : Unit := ()
def PySem.W.Fast.tw13379444539859508912 : Unit := ()
def PySem.W.Fast.tw9392370412710968244 : Unit := ()
def PySem.W.Fast.tw11275330149359561691 : Unit := ()
def PySem.W.Fast.tw5819435363774613400 : Unit := ()
def PySem.W.Fast.tw8479363373513305985 : Unit := ()
def PySem.W.Fast.tw18314916075290719976 : Unit := ()
def PySem.W.Fast.tw12091537249074991263 : Unit := ()
def PySem.W.Fast.tw1460020005040621209 : Unit := ()
def PySem.W.Fast.tw11336091600081091140 : Unit := ()
def PySem.W.Fast.tw9314214993331065392 : Unit := ()
def PySem.W.Fast.tw18077752067936814392 : Unit := ()
def PySem.W.Fast.tw9321805927040399831 : Unit := ()
def PySem.W.Fast.tw3973761308330165727 : Unit := ()
def PySem.W.Fast.tw13908177135645805115 : Unit := ()
def PySem.W.Fast.tw17520466434954240042 : Unit := ()
def PySem.W.Fast.tw14258720383419843045 : Unit := ()
def PySem.W.Fast.tw13858127771000549430 : Unit := ()
def PySem.W.Fast.tw2848384885960680582 : Unit := ()
def PySem.W.Fast.tw13131064882208574595 : Unit := ()
def PySem.W.Fast.tw9692710978892299076 : Unit := ()
def PySem.W.Fast.tw12585197664682146731 : Unit := ()
def PySem.W.Fast.tw12735988459953107879 : Unit := ()
def PySem.W.Fast.tw9807201974753677487 : Unit := ()
def PySem.W.Fast.tw10612837052525990432 : Unit := ()
def PySem.W.Fast.tw1793700195265175905 : Unit := ()
def PySem.W.Fast.tw7989612659619818054 : Unit := ()
def PySem.W.Fast.tw10601277862127337282 : Unit := ()
def PySem.W.Fast.tw9984273383254222960 : Unit := ()
def PySem.W.Fast.tw11794911921821575412 : Unit := ()
def PySem.W.Fast.tw18111783830441518301 : Unit := ()
def PySem.W.Fast.tw3795487837785461536 : Unit := ()
def PySem.W.Fast.tw2122531244240355090 : Unit := ()
def PySem.W.Fast.tw1949203503284182353 : Unit := ()
def PySem.W.Fast.tw3993817373523866278 : Unit := ()
def PySem.W.Fast.tw11349868526653251221 : Unit := ()
def PySem.W.Fast.tw16546370768499715232 : Unit := ()
def PySem.W.Fast.tw11616071801119950198 : Unit := ()
def PySem.W.Fast.tw12867242017222027106 : Unit := ()
def PySem.W.Fast.tw9132473363832186047 : Unit := ()
def PySem.W.Fast.tw896205236787178308 : Unit := ()
def PySem.W.Fast.tw8158784900563124893 : Unit := ()
def PySem.W.Fast.tw7768895836527572359 : Unit := ()
def PySem.W.Fast.tw3518340481996742242 : Unit := ()
def PySem.W.Fast.tw9168803588285124234 : Unit := ()
def PySem.W.Fast.tw2347487025517066037 : Unit := ()
def PySem.W.Fast.tw9254309473451098261 : Unit := ()
def PySem.W.Fast.tw238616791884322220 : Unit := ()
def PySem.W.Fast.tw3604582331203051865 : Unit := ()
def PySem.W.Fast.tw749186752447216820 : Unit := ()
def PySem.W.Fast.tw4990811690711973116 : Unit := ()
def PySem.W.Fast.tw7899303689784090309 : Unit := ()
def PySem.W.Fast.tw11446817534183303022 : Unit := ()
def PySem.W.Fast.tw6396728747917690773 : Unit := ()
def PySem.W.Fast.tw4442612540669283124 : Unit := ()
def PySem.W.Fast.tw1652905345940713176 : Unit := ()
def PySem.W.Fast.tw3648839344146988298 : Unit := ()
def PySem.W.Fast.tw16820386764047271253 : Unit := ()
def PySem.W.Fast.tw17389728704187444000 : Unit := ()
def PySem.W.Fast.tw2254956032223982403 : Unit := ()
def PySem.W.Fast.tw16639796231416379552 : Unit := ()
def PySem.W.Fast.tw1789764040633628835 : Unit := ()
def PySem.W.Fast.tw7076747750166122729 : Unit := ()
def PySem.W.Fast.tw16854115546859171709 : Unit := ()
def PySem.W.Fast.tw12016612087779248276 : Unit := ()
def PySem.W.Fast.tw17355075883678961325 : Unit := ()
def PySem.W.Fast.tw14114470123568390211 : Unit := ()
def PySem.W.Fast.tw11110349170442074418 : Unit := ()
def PySem.W.Fast.tw206568730252070524 : Unit := ()
def PySem.W.Fast.tw12398720226041890335 : Unit := ()
def PySem.W.Fast.tw18148732370159669252 : Unit := ()
def PySem.W.Fast.tw10360936232584783404 : Unit := ()
def PySem.W.Fast.tw904136251534879773 : Unit := ()
def PySem.W.Fast.tw9367809053710323335 : Unit := ()
def PySem.W.Fast.tw17527763255339595360 : Unit := ()
def PySem.W.Fast.tw12152572784482653115 : Unit := ()
def PySem.W.Fast.tw451779359200394043 : Unit := ()
def PySem.W.Fast.tw12451119931545439037 : Unit := ()
def PySem.W.Fast.tw91608940521201158 : Unit := ()
def PySem.W.Fast.tw1661781169903968187 : Unit := ()
def PySem.W.Fast.tw15205663969262583916 : Unit := ()
def PySem.W.Fast.tw4531533397496621901 : Unit := ()
def PySem.W.Fast.tw3753227566030693698 : Unit := ()

open PySem PySem.W PyProof.Rows
set_option maxRecDepth 100000 in
set_option maxHeartbeats 0 in
theorem PySem.Challenge.cw_lazyrails_k53_programs_written_and_read_holds : PySem.Challenge.rw_lazyrails_k53_programs_written_and_read.Holds := by
  w_on; o_law; k_head; (case hw => w_witness2)
  k_fill
  refine L2.walk_ofK (l := PySem.Challenge.rw_lazyrails_k53_programs_written_and_read) (n := 63) (k := 12) (x := "_law_script") (CX := L2.CX0) (sp := P.sp_law) rfl (by decide) rfl ⟨rfl, by decide, by decide, rfl⟩ (fun w h Y => PySem.W.kIn_of Y) ?F ?S ?C
  case F =>
    intro w mg fa h KX G hmg
    have T : ∃ t, P.Txt (L2.KOf KX) mg t := by
      dsimp only [L2.KOf]
      refine' ⟨_, P.txt_mk KX G ?zap ?zaq ?zar ?zas ?zat ?zau ?zav ?zaw ?zax ?zay ?zaz ?zb0 ?zb1 ?zb2 ?zb3 ?zb4 ?zb5 ?zb6 ?zb7 ?zb8 ?zb9 ?zba ?zbb ?zbc ?zbd ?zbe ?zbf ?zbg ?zbh ?zbi ?zbj ?zbk ?zbl ?zbm ?zbn ?zbo ?zbp ?zbq ?zbr ?zbs ?zbt ?zbu ?zbv ?zbw ?zbx ?zby ?zbz ?zc0 ?zc1 ?zc2 ?zc3 ?zc4 ?zc5 ?zc6 ?zc7 ?zc8 ?zc9 ?zca ?zcb ?zcc ?zcd ?zce ?zcf ?zcg ?zch ?zci ?zcj ?zck ?zcl ?zcm ?zcn ?zco ?zcp ?zcq ?zcr ?zcs ?zct ?zcu ?zcv ?zcw ?zcx ?zcy ?zcz ?zd0 ?zd1 ?zd2 ?zd3 ?zd4 ?zd5 ?zd6 ?zd7 ?zd8 ?zd9 ?zda ?zdb ?zdc ?zdd ?zde ?zdf ?zdg ?zdh ?zdi ?zdj ?zdk ?zdl ?zdm ?zdn ?zdo ?zdp ?zdq ?zdr ?zds ?zdt ?zdu ?zdv ?zdw ?zdx ?zdy ?zdz ?ze0 ?ze1 ?ze2 ?ze3 ?ze4 ?ze5 ?ze6 ?ze7 ?ze8 ?ze9 ?zea ?zeb ?zec ?zed ?zee ?zef ?zeg ?zeh ?zei ?zej ?zek ?zel ?zem ?zen ?zeo ?zep ?zeq ?zer ?zes ?zet ?zeu ?zev ?zew ?zex ?zey ?zez ?zf0 ?zf1 ?zf2 ?zf3 ?zf4 ?zf5 ?zf6 ?zf7 ?zf8 ?zf9 ?zfa ?zfb ?zfc ?zfd ?zfe ?zff ?zfg ?zfh ?zfi ?zfj ?zfk ?zfl ?zfm ?zfn ?zfo ?zfp ?zfq ?zfr ?zfs ?zft ?zfu ?zfv ?zfw ?zfx ?zfy ?zfz ?zg0 ?zg1 ?zg2 ?zg3 ?zg4 ?zg5 ?zg6 ?zg7 ?zg8 ?zg9 ?zga ?zgb ?zgc ?zgd ?zge ?zgf ?zgg ?zgh ?zgi ?zgj ?zgk ?zgl ?zgm⟩
      (case zap => k_is)
      (case zaq => k_is)
      (case zar => k_is)
      (case zas => k_is)
      (case zat => k_is)
      (case zau => exact rfl)
      (case zav => k_is)
      (case zaw => k_is)
      (case zax => k_is)
      (case zay => k_is)
      (case zaz => exact rfl)
      (case zb0 => k_is)
      (case zb1 => k_is)
      (case zb2 => k_is)
      (case zb3 => k_is)
      (case zb4 => exact rfl)
      (case zb5 => k_is)
      (case zb6 => k_is)
      (case zb7 => k_is)
      (case zb8 => k_is)
      (case zb9 => exact rfl)
      (case zba => k_is)
      (case zbb => k_is)
      (case zbc => k_is)
      (case zbd => k_is)
      (case zbe => exact rfl)
      (case zbf => k_is)
      (case zbg => k_is)
      (case zbh => k_is)
      (case zbi => k_is)
      (case zbj => exact rfl)
      (case zbk => k_is)
      (case zbl => k_is)
      (case zbm => k_is)
      (case zbn => k_is)
      (case zbo => exact rfl)
      (case zbp => k_is)
      (case zbq => k_is)
      (case zbr => k_is)
      (case zbs => k_is)
      (case zbt => exact rfl)
      (case zbu => k_is)
      (case zbv => k_is)
      (case zbw => k_is)
      (case zbx => k_is)
      (case zby => exact rfl)
      (case zbz => k_is)
      (case zc0 => k_is)
      (case zc1 => k_is)
      (case zc2 => k_is)
      (case zc3 => exact rfl)
      (case zc4 => k_is)
      (case zc5 => k_is)
      (case zc6 => k_is)
      (case zc7 => k_is)
      (case zc8 => exact rfl)
      (case zc9 => k_is)
      (case zca => k_is)
      (case zcb => k_is)
      (case zcc => k_is)
      (case zcd => exact rfl)
      (case zce => k_is)
      (case zcf => k_is)
      (case zcg => k_is)
      (case zch => k_is)
      (case zci => exact rfl)
      (case zcj => k_is)
      (case zck => k_is)
      (case zcl => k_is)
      (case zcm => k_is)
      (case zcn => exact rfl)
      (case zco => k_is)
      (case zcp => k_is)
      (case zcq => k_is)
      (case zcr => k_is)
      (case zcs => exact rfl)
      (case zct => k_is)
      (case zcu => k_is)
      (case zcv => k_is)
      (case zcw => k_is)
      (case zcx => exact rfl)
      (case zcy => k_is)
      (case zcz => k_is)
      (case zd0 => k_is)
      (case zd1 => k_is)
      (case zd2 => exact rfl)
      (case zd3 => k_is)
      (case zd4 => k_is)
      (case zd5 => k_is)
      (case zd6 => k_is)
      (case zd7 => exact rfl)
      (case zd8 => k_is)
      (case zd9 => k_is)
      (case zda => k_is)
      (case zdb => k_is)
      (case zdc => exact rfl)
      (case zdd => k_is)
      (case zde => k_is)
      (case zdf => k_is)
      (case zdg => k_is)
      (case zdh => exact rfl)
      (case zdi => k_is)
      (case zdj => k_is)
      (case zdk => k_is)
      (case zdl => k_is)
      (case zdm => exact rfl)
      (case zdn => k_is)
      (case zdo => k_is)
      (case zdp => k_is)
      (case zdq => k_is)
      (case zdr => exact rfl)
      (case zds => k_is)
      (case zdt => k_is)
      (case zdu => k_is)
      (case zdv => k_is)
      (case zdw => exact rfl)
      (case zdx => k_is)
      (case zdy => k_is)
      (case zdz => k_is)
      (case ze0 => k_is)
      (case ze1 => exact rfl)
      (case ze2 => k_is)
      (case ze3 => k_is)
      (case ze4 => k_is)
      (case ze5 => k_is)
      (case ze6 => exact rfl)
      (case ze7 => k_is)
      (case ze8 => k_is)
      (case ze9 => k_is)
      (case zea => k_is)
      (case zeb => k_is)
      (case zec => exact rfl)
      (case zed => k_is)
      (case zee => k_is)
      (case zef => k_is)
      (case zeg => k_is)
      (case zeh => k_is)
      (case zei => exact rfl)
      (case zej => k_is)
      (case zek => k_is)
      (case zel => k_is)
      (case zem => k_is)
      (case zen => k_is)
      (case zeo => exact rfl)
      (case zep => k_is)
      (case zeq => k_is)
      (case zer => k_is)
      (case zes => k_is)
      (case zet => k_is)
      (case zeu => exact rfl)
      (case zev => k_is)
      (case zew => k_is)
      (case zex => k_is)
      (case zey => k_is)
      (case zez => k_is)
      (case zf0 => exact rfl)
      (case zf1 => k_is)
      (case zf2 => k_is)
      (case zf3 => k_is)
      (case zf4 => k_is)
      (case zf5 => k_is)
      (case zf6 => exact rfl)
      (case zf7 => k_is)
      (case zf8 => k_is)
      (case zf9 => k_is)
      (case zfa => k_is)
      (case zfb => k_is)
      (case zfc => exact rfl)
      (case zfd => k_is)
      (case zfe => k_is)
      (case zff => k_is)
      (case zfg => k_is)
      (case zfh => k_is)
      (case zfi => exact rfl)
      (case zfj => k_is)
      (case zfk => k_is)
      (case zfl => k_is)
      (case zfm => k_is)
      (case zfn => k_is)
      (case zfo => exact rfl)
      (case zfp => k_is)
      (case zfq => k_is)
      (case zfr => k_is)
      (case zfs => k_is)
      (case zft => k_is)
      (case zfu => k_is)
      (case zfv => k_is)
      (case zfw => k_is)
      (case zfx => k_is)
      (case zfy => k_is)
      (case zfz => k_is)
      (case zg0 => k_is)
      (case zg1 => k_is)
      (case zg2 => k_is)
      (case zg3 => k_is)
      (case zg4 => k_is)
      (case zg5 => k_is)
      (case zg6 => k_is)
      (case zg7 => k_is)
      (case zg8 => k_is)
      (case zg9 => k_is)
      (case zga => k_is)
      (case zgb => exact ⟨_, rfl⟩)
      (case zgc => k_is)
      (case zgd => exact ⟨_, rfl⟩)
      (case zge => k_is)
      (case zgf => exact rfl)
      (case zgg => k_is)
      (case zgh => exact (show 3 ≤ PySem.sizeLine by decide))
      (case zgi => exact .cons ⟨_, rfl⟩ (.cons ⟨_, rfl⟩ (.cons ⟨_, rfl⟩ (.nil))))
      (case zgj => k_is)
      (case zgk => exact ⟨_, rfl, by kernel_rfl⟩)
      (case zgl => k_is)
      (case zgm => exact ⟨_, rfl⟩)
    obtain ⟨t, T⟩ := T
    have e0 := hmg.symm.trans T.m_law
    cases e0
    exact ⟨_, fun s u => P.law_binds T s u, fun base kb nb => P.ok_law T⟩
  case S => exact fun K H a ns hl hO hS => P.law_start hl hS
  case C => exact fun H s e s' z => z
