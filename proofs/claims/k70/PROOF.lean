import PyProof.Rows.All
import Wide.All
import OpenK.AllK
import Wide.FinOn
import Lean
import PyProof.EqAt
import PyProof.EqKinds
import PyProof.TupleCall
import PyProof.NeKinds
import PySem.Challenge.RW_pressluck_k70_round_nought
set_option Elab.async false
set_option linter.all false
set_option maxRecDepth 100000
local macro_rules | `(tactic| omega) => `(tactic| lia)
/-! THE HAND LAYER, for ints, bools, texts, own classes, LISTS and tuples (index, slices, in, append, pop ..), calls, loops. Paste it whole ahead of your own text; what your proof does not reach may be deleted. -/
namespace L2
open PySem PySem.Spec PyProof.Rows

/-- a key: an int or a str -/
abbrev Key := Sum Int Str
noncomputable def keyIs : Key → Value → Bool
  | .inl k, v => Value.isInt k v
  | .inr x, v => Value.isStrOf x v
noncomputable def keyH (w : World) : Key → Int
  | .inl k => hashInt k
  | .inr x => hashStr w x
theorem keyIs_shape : ∀ {k : Key} {v : Value}, keyIs k v = true → (∃ i t, k = Sum.inl i ∧ v = Value.int i t) ∨ (∃ x t, k = Sum.inr x ∧ v = Value.str x t)
  | .inl i, v, h => by
    obtain ⟨t, e⟩ := Value.isInt_shape (k := i) (v := v) h
    exact .inl ⟨i, t, rfl, e⟩
  | .inr x, v, h => by
    obtain ⟨t, e⟩ := Value.isStrOf_shape (x := x) (v := v) h
    exact .inr ⟨x, t, rfl, e⟩
theorem keyIs_int (i : Int) (t : Tok) : keyIs (.inl i) (.int i t) = true := by simp [keyIs, Value.isInt]
theorem keyIs_str (x : Str) (t : Tok) : keyIs (.inr x) (.str x t) = true := by simp [keyIs, Value.isStrOf]
theorem key_ll (a b : Int) : decide ((Sum.inl a : Key) = Sum.inl b) = (a == b) := by
  by_cases e : a = b
  · subst e; simp
  · have h : ¬ (Sum.inl a : Key) = Sum.inl b := fun q => e (Sum.inl.inj q)
    rw [decide_eq_false h]
    exact (beq_eq_false_iff_ne.mpr e).symm
theorem key_rr (a b : Str) : decide ((Sum.inr a : Key) = Sum.inr b) = decide (a = b) := by
  by_cases e : a = b
  · subst e; simp
  · have h : ¬ (Sum.inr a : Key) = Sum.inr b := fun q => e (Sum.inr.inj q)
    rw [decide_eq_false h, decide_eq_false e]
theorem key_lr (a : Int) (b : Str) : decide ((Sum.inl a : Key) = Sum.inr b) = false := decide_eq_false (fun q => nomatch q)
theorem key_rl (a : Str) (b : Int) : decide ((Sum.inr a : Key) = Sum.inl b) = false := decide_eq_false (fun q => nomatch q)

noncomputable def mixKind (prog : Program) (w : World) : PySem.KeyKind prog w Key where
  is := keyIs
  hash := keyH w
  inj := fun v a b ha hb => by
    rcases keyIs_shape ha with ⟨i, t, rfl, rfl⟩ | ⟨x, t, rfl, rfl⟩
    · rcases keyIs_shape hb with ⟨j, u, rfl, e⟩ | ⟨y, u, rfl, e⟩
      · injection e with e1 _; rw [e1]
      · exact nomatch e
    · rcases keyIs_shape hb with ⟨j, u, rfl, e⟩ | ⟨y, u, rfl, e⟩
      · exact nomatch e
      · injection e with e1 _; rw [e1]
  byValue := fun k v h => by
    rcases keyIs_shape h with ⟨i, t, rfl, rfl⟩ | ⟨x, t, rfl, rfl⟩ <;> rfl
  pyHash := fun hv h => by
    rcases keyIs_shape hv with ⟨i, t, rfl, rfl⟩ | ⟨x, t, rfl, rfl⟩
    · exact wpAny_pyHash_int h
    · exact wpAny_pyHash_str h
  eqBool := fun hu hv h => by
    rcases keyIs_shape hu with ⟨i, t, rfl, rfl⟩ | ⟨x, t, rfl, rfl⟩
    · rcases keyIs_shape hv with ⟨j, u, rfl, rfl⟩ | ⟨y, u, rfl, rfl⟩
      · rw [key_ll] at h; exact wpAny_eqBool_int h
      · rw [key_lr] at h; exact SeqAt.EqAt.int_str i t y u _ _ _ _ h
    · rcases keyIs_shape hv with ⟨j, u, rfl, rfl⟩ | ⟨y, u, rfl, rfl⟩
      · rw [key_rl] at h; exact SeqAt.EqAt.str_int x t j u _ _ _ _ h
      · rw [key_rr] at h; exact wpAny_eqBool_str h
  «strs» := fun k x t v h => by
    rcases keyIs_shape h with ⟨i, u, rfl, e⟩ | ⟨y, u, rfl, e⟩
    · exact nomatch e
    · injection e with e1 _
      subst e1
      cases v <;> rfl

theorem mixKind_int (prog : Program) (w : World) (i : Int) (t : Tok) : (mixKind prog w).is (.inl i) (.int i t) = true := keyIs_int i t
theorem mixKind_str (prog : Program) (w : World) (x : Str) (t : Tok) : (mixKind prog w).is (.inr x) (.str x t) = true := keyIs_str x t
end L2

namespace L2
open PySem PySem.Spec PyProof.Rows

/-- a value, without the heap -/
inductive V where
  | non | bl (b : Bool) | int (i : Int) | str (x : Str) | byt (b : Array UInt8) | flt (b : UInt64) | ref (a : Addr) | ty (n : String)
  deriving DecidableEq

noncomputable def RelV : V → Value → Prop
  | .non, u => u = Value.none
  | .bl b, u => u = Value.bool b
  | .int i, u => ∃ t, u = Value.int i t
  | .str x, u => ∃ t, u = Value.str x t
  | .byt b, u => ∃ t, u = Value.bytes b t
  | .flt b, u => ∃ t, u = Value.float b t
  | .ref a, u => u = Value.ref a
  | .ty n, u => u = Value.type n

abbrev Vals : List V → List Value → Prop := Paired RelV
theorem Vals.length {xs : List V} {us : List Value} (r : Vals xs us) : xs.length = us.length := Paired.length r
theorem Vals.get : ∀ {xs : List V} {us : List Value} {i : Nat} {x : V}, Vals xs us → xs[i]? = some x → ∃ u, us[i]? = some u ∧ RelV x u
  | _, _, _, _, .nil, e => by simp at e
  | _, _, 0, _, .cons r _, e => by simp at e; subst e; exact ⟨_, rfl, r⟩
  | _, _, i + 1, x, .cons _ t, e => by
    obtain ⟨u, h1, h2⟩ := Vals.get (i := i) (x := x) t (by simpa using e)
    exact ⟨u, by simpa using h1, h2⟩
theorem Vals.set {x : V} {u : Value} (r : RelV x u) : ∀ {xs : List V} {us : List Value} (i : Nat), Vals xs us → Vals (xs.set i x) (us.set i u)
  | _, _, _, .nil => .nil
  | _, _, 0, .cons _ t => .cons r t
  | _, _, i + 1, .cons q t => .cons q (Vals.set r i t)
theorem Vals.append : ∀ {xs ys : List V} {us ws : List Value}, Vals xs us → Vals ys ws → Vals (xs ++ ys) (us ++ ws)
  | _, _, _, _, .nil, s => s
  | _, _, _, _, .cons r t, s => .cons r (Vals.append t s)
theorem Vals.take : ∀ {xs : List V} {us : List Value} (n : Nat), Vals xs us → Vals (xs.take n) (us.take n)
  | _, _, 0, _ => .nil
  | _, _, _ + 1, .nil => .nil
  | _, _, n + 1, .cons r t => .cons r (Vals.take n t)
theorem Vals.drop : ∀ {xs : List V} {us : List Value} (n : Nat), Vals xs us → Vals (xs.drop n) (us.drop n)
  | _, _, 0, r => r
  | _, _, _ + 1, .nil => .nil
  | _, _, n + 1, .cons _ t => Vals.drop n t
theorem Vals.none_of : ∀ {xs : List V} {us : List Value} {i : Nat}, Vals xs us → xs[i]? = none → us[i]? = none := fun {xs us i} r e => by
  have h1 := r.length
  have h2 : xs.length ≤ i := List.getElem?_eq_none_iff.mp e
  exact List.getElem?_eq_none_iff.mpr (by omega)

noncomputable def RelO : Option V → Option Value → Prop
  | some v, some u => RelV v u
  | none, none => True
  | _, _ => False
noncomputable def KV {κ : Type} : List (κ × V) → List (κ × Value) → Prop := Paired fun (p : κ × V) (q : κ × Value) => p.1 = q.1 ∧ RelV p.2 q.2

/-- a key of a dict (00_mix): an int or a text -/
noncomputable def kV : Key → V
  | .inl i => .int i
  | .inr x => .str x

/-- what stands at a tracked address -/
inductive HO where
  /-- a list -/
  | lst (xs : List V)
  /-- a tuple (never changes) -/
  | tup (xs : List V)
  /-- a dict whose keys are ints and texts; one whose keys are tuples of ints and texts (the empty one is both) -/
  | dK (kvs : List (Key × V)) | dT (kvs : List (List Key × V))
  /-- a set of ints: its members, its size -/
  | set (S : Int → Bool) (n : Nat)
  /-- an instance of the class at C, its dict at dx, its attributes -/
  | ins (C dx : Addr) (fs : List (Str × V))
  /-- the dict of the instance at x -/
  | own (x : Addr)
  /-- the dict of an exception -/
  | xd (fs : List (Str × V))
  /-- a bound method, f of x -/
  | met (f x : Addr)
  /-- a range object lo, lo + 1, .. below hi -/
  | rng (lo hi : Int)
  /-- a thing that is known to the object (the script; a dict while a loop walks it): read, never written while it is so -/
  | frz (o : Obj) (u : HO)
  /-- a code object's table -/
  | tbl (ps : Array Value)
  /-- any other thing, by what is true of its one object (a def of one's own: SetO a S n := HO.ext fun h => ..) -/
  | ext (φ : Heap → Prop)

abbrev Hp := Addr → Option HO
noncomputable def upd (H : Hp) (a : Addr) (o : HO) : Hp := fun b => if b = a then some o else H b
theorem upd_same {H : Hp} {a : Addr} {o : HO} : upd H a o a = some o := by unfold upd; rw [if_pos rfl]
theorem upd_ne {H : Hp} {a b : Addr} {o : HO} (h : b ≠ a) : upd H a o b = H b := by unfold upd; rw [if_neg h]
theorem upd_upd {H : Hp} {a : Addr} {o u : HO} : upd (upd H a o) a u = upd H a u := by
  funext b; unfold upd; split <;> rfl
/-- two objects of different content stand apart -/
theorem ne_of {H : Hp} {a b : Addr} {o u : HO} (h : H a = some o) (h' : H b = some u) (d : o ≠ u) : a ≠ b := by
  intro e; subst e; rw [h] at h'; exact d (Option.some.inj h')
theorem ne_of_none {H : Hp} {a b : Addr} {o : HO} (h : H a = some o) (h' : H b = none) : a ≠ b := by
  intro e; subst e; rw [h] at h'; cases h'

section
variable (P : Program) (w : World)
noncomputable def ObjOk (H : Hp) (h : Heap) (a : Addr) : HO → Prop
  | .lst xs => xs.length ≤ sizeLine ∧ ∃ (its : List Value) (n : Nat), Vals xs its ∧ h.get? a = some { cls := .type "list", data := .seq its.toArray n }
  | .tup xs => xs.length ≤ sizeLine ∧ ∃ its : List Value, Vals xs its ∧ IsTup h a its.toArray
  | .dK kvs => kvs.length ≤ sizeLine ∧ (a == sysModules) = false ∧ ∃ vs, KV kvs vs ∧ h.DictOf (mixKind P w) a vs
  | .dT kvs => kvs.length ≤ sizeLine ∧ (a == sysModules) = false ∧ ∃ xs : List (List Key × Addr × Value),
      Paired (fun (p : List Key × V) (q : List Key × Addr × Value) => p.1 = q.1 ∧ H q.2.1 = some (.tup (p.1.map kV)) ∧ RelV p.2 q.2.2) kvs xs ∧
      ∃ o es ep, h.get? a = some o ∧ o.ExactDict ∧ o.data = .dict es ep ∧ es.toList = xs.map (entryOfKey (tupleKind (mixKind P w))) ∧ (xs.map (·.1)).Nodup
  | .set S n => h.SetOf (intKind P w) a S n
  | .ins C dx fs => H dx = some (.own a) ∧ fs.length ≤ 1000 ∧ dx ≠ a ∧ h.get? a = some (PySem.W.instObj C dx) ∧
      ∃ mA, h.Ns1 dx mA ∧ (∀ f, RelO (fs.lookup f) (mA f)) ∧ PySem.Within mA (fs.map (·.1))
  | .own _ => ∃ o, h.get? a = some o
  | .xd fs => ∃ mA, h.Ns1 a mA ∧ ∀ f, RelO (fs.lookup f) (mA f)
  | .rng lo hi => ∃ t u v, h.get? a = some { cls := .type "range", data := .fields #[.int lo t, .int hi u, .int 1 v] }
  | .frz o u => h.get? a = some o ∧ ObjOk H h a u
  | .tbl ps => h.get? a = some { cls := .none, data := .fields ps }
  | .met f x => h.get? a = some (PySem.W.methodObj (.ref f) (.ref x))
  | .ext φ => φ h ∧ (∃ o, h.get? a = some o) ∧ ∀ h1 h2 : Heap, φ h1 → (∀ o, h1.get? a = some o → h2.get? a = some o) → φ h2
/-- the abstract heap is held -/
noncomputable def HOk (H : Hp) (h : Heap) : Prop := ∀ a o, H a = some o → ObjOk P w H h a o
end

section
variable {P : Program} {w : World} {H H' : Hp} {h h' : Heap} {a : Addr} {o : HO}
theorem ObjOk.lt (x : ObjOk P w H h a o) : a < h.objs.size := by
  cases o with
  | lst xs => obtain ⟨_, _, _, _, e⟩ := x; exact Heap.lt_size e
  | tup xs => obtain ⟨_, _, _, p⟩ := x; exact p.lt
  | dK kvs => obtain ⟨_, _, _, _, o, _, _, e, _⟩ := x; exact Heap.lt_size e
  | dT kvs => obtain ⟨_, _, _, _, o, _, _, e, _⟩ := x; exact Heap.lt_size e
  | set S n => obtain ⟨o, _, _, _, e, _⟩ := x; exact Heap.lt_size e
  | ins C dx fs => obtain ⟨_, _, _, e, _⟩ := x; exact Heap.lt_size e
  | own y => obtain ⟨_, e⟩ := x; exact Heap.lt_size e
  | xd fs => obtain ⟨_, ⟨_, _, _, e, _⟩, _⟩ := x; exact Heap.lt_size e
  | rng lo hi => obtain ⟨_, _, _, e⟩ := x; exact Heap.lt_size e
  | frz ob u => obtain ⟨e, _⟩ := x; exact Heap.lt_size e
  | tbl ps => exact Heap.lt_size (show h.get? a = some _ from x)
  | met f y => exact Heap.lt_size (show h.get? a = some _ from x)
  | ext φ => obtain ⟨_, ⟨_, e⟩, _⟩ := x; exact Heap.lt_size e
theorem Paired.mapP {α β : Type} {F G : α → β → Prop} : ∀ {l₁ : List α} {l₂ : List β}, Paired F l₁ l₂ → (∀ a b, F a b → G a b) → Paired G l₁ l₂
  | _, _, .nil, _ => .nil
  | _, _, .cons r t, f => .cons (f _ _ r) (Paired.mapP t f)
/-- what an object's description leans on: its own object, its own dict, the tuples -/
theorem ObjOk.stay (x : ObjOk P w H h a o) (k : ∀ b u, (b = a ∨ H b = some (.own a)) → h.get? b = some u → h'.get? b = some u)
    (ho : ∀ b, H b = some (.own a) → H' b = some (.own a)) (ht : ∀ b xs, H b = some (.tup xs) → H' b = some (.tup xs)) : ObjOk P w H' h' a o := by
  induction o with
  | lst xs => obtain ⟨z, its, n, r, e⟩ := x; exact ⟨z, its, n, r, k _ _ (.inl rfl) e⟩
  | tup xs => obtain ⟨z, its, r, ob, e, c⟩ := x; exact ⟨z, its, r, ob, k _ _ (.inl rfl) e, c⟩
  | dK kvs => obtain ⟨z, y, vs, r, ob, es, ep, e, c⟩ := x; exact ⟨z, y, vs, r, ob, es, ep, k _ _ (.inl rfl) e, c⟩
  | dT kvs =>
    obtain ⟨z, y, xs, r, ob, es, ep, e, c⟩ := x
    exact ⟨z, y, xs, Paired.mapP r fun p q z => ⟨z.1, ht _ _ z.2.1, z.2.2⟩, ob, es, ep, k _ _ (.inl rfl) e, c⟩
  | set S n => obtain ⟨ob, es, ep, t, e, c⟩ := x; exact ⟨ob, es, ep, t, k _ _ (.inl rfl) e, c⟩
  | ins C dx fs =>
    obtain ⟨d, z, ne, e, mA, ⟨od, es, ep, e2, c⟩, r⟩ := x
    exact ⟨ho _ d, z, ne, k _ _ (.inl rfl) e, mA, ⟨od, es, ep, k _ _ (.inr d) e2, c⟩, r⟩
  | own y => obtain ⟨ob, e⟩ := x; exact ⟨ob, k _ _ (.inl rfl) e⟩
  | xd fs => obtain ⟨mA, ⟨od, es, ep, e, c⟩, r⟩ := x; exact ⟨mA, ⟨od, es, ep, k _ _ (.inl rfl) e, c⟩, r⟩
  | rng lo hi => obtain ⟨t, u, v, e⟩ := x; exact ⟨t, u, v, k _ _ (.inl rfl) e⟩
  | frz ob u ih => obtain ⟨e, q⟩ := x; exact ⟨k _ _ (.inl rfl) e, ih q⟩
  | tbl ps =>
    have e : h.get? a = some { cls := .none, data := .fields ps } := x
    show h'.get? a = some { cls := .none, data := .fields ps }
    exact k a _ (.inl rfl) e
  | met f y =>
    have e : h.get? a = some (PySem.W.methodObj (.ref f) (.ref y)) := x
    show h'.get? a = some (PySem.W.methodObj (.ref f) (.ref y))
    exact k a _ (.inl rfl) e
  | ext φ => obtain ⟨p, ⟨o, e⟩, st⟩ := x; exact ⟨st _ _ p fun o q => k _ _ (.inl rfl) q, ⟨o, k _ _ (.inl rfl) e⟩, st⟩
theorem HOk.lt (x : HOk P w H h) (e : H a = some o) : a < h.objs.size := (x a o e).lt
theorem HOk.fresh (x : HOk P w H h) (e : h.objs.size ≤ a) : H a = none := by
  cases q : H a with
  | none => rfl
  | some u => exact absurd (Nat.lt_of_lt_of_le (x.lt q) e) (Nat.lt_irrefl _)
/-- every object of the heap is kept -/
theorem HOk.kept (x : HOk P w H h) (k : ∀ b u, h.get? b = some u → h'.get? b = some u) : HOk P w H h' := fun a o e =>
  (x a o e).stay (fun b u _ q => k b u q) (fun _ q => q) fun _ _ q => q
/-- a new object is laid and tracked -/
theorem HOk.laid (x : HOk P w H h) (k : ∀ b u, h.get? b = some u → h'.get? b = some u) (hp : h.objs.size ≤ a) (new : ObjOk P w (upd H a o) h' a o) : HOk P w (upd H a o) h' := fun b u e => by
  have hn := x.fresh hp
  by_cases hb : b = a
  · subst hb; rw [upd_same] at e; cases e; exact new
  · rw [upd_ne hb] at e
    exact (x b u e).stay (fun c v _ q => k c v q) (fun c q => by rw [upd_ne (ne_of_none q hn)]; exact q) fun c xs q => by rw [upd_ne (ne_of_none q hn)]; exact q
end

/-- what may be read as u: it is u, or a known u -/
noncomputable def Rd (H : Hp) (a : Addr) (u : HO) : Prop := H a = some u ∨ ∃ o, H a = some (.frz o u)
theorem Rd.of {H : Hp} {a : Addr} {u : HO} (h : H a = some u) : Rd H a u := .inl h
theorem Rd.ok {P : Program} {w : World} {H : Hp} {h : Heap} {a : Addr} {u : HO} (r : Rd H a u) (x : HOk P w H h) : ObjOk P w H h a u := by
  rcases r with r | ⟨o, r⟩
  · exact x a u r
  · obtain ⟨_, q⟩ := x a _ r
    exact q
/-- what may be written -/
noncomputable def Mut : Option HO → Prop
  | some (.lst _) => True
  | some (.dK _) => True
  | some (.dT _) => True
  | some (.set _ _) => True
  | some (.ins _ _ _) => True
  | some (.ext _) => True
  | _ => False
section
variable {P : Program} {w : World} {H : Hp} {h h' : Heap} {x e : Addr} {o' : HO}
/-- the object at e is changed: x itself, or the dict of the instance x -/
theorem HOk.write (ok : HOk P w H h) (mu : Mut (H x)) (he : e = x ∨ H e = some (.own x)) (k : ∀ b u, b ≠ e → h.get? b = some u → h'.get? b = some u) (heo : ∃ u, h'.get? e = some u)
    (new : ObjOk P w (upd H x o') h' x o') : HOk P w (upd H x o') h' := fun b u q => by
  have nown : ∀ c y, H c = some (.own y) → c ≠ x := fun c y r z => by subst z; rw [r] at mu; exact mu
  have ntup : ∀ c xs, H c = some (.tup xs) → c ≠ x := fun c xs r z => by subst z; rw [r] at mu; exact mu
  by_cases hb : b = x
  · subst hb; rw [upd_same] at q; cases q; exact new
  · rw [upd_ne hb] at q
    by_cases hbe : b = e
    · have q' : H b = some (.own x) := by
        rcases he with z | z
        · exact absurd (hbe.trans z) hb
        · rw [hbe]; exact z
      rw [q] at q'; cases q'
      obtain ⟨v, hv⟩ := heo
      exact ⟨v, by rw [hbe]; exact hv⟩
    · refine (ok b u q).stay (fun c v hc r => k c v ?_ r) (fun c r => by rw [upd_ne (nown c b r)]; exact r) fun c xs r => by rw [upd_ne (ntup c xs r)]; exact r
      rcases hc with rfl | hc
      · exact hbe
      · rintro rfl
        rcases he with z | z
        · exact nown c b hc z
        · rw [hc] at z; cases z; exact hb rfl
end

/-! ### kept unless tracked; of the frames at fs (the callers') the slots may change (an exception that passes writes there); of the records at ex (iterators) nothing is said -/
structure Un (fs ex : List Addr) (H H' : Hp) (h h' : Heap) : Prop where
  keep : ∀ b o, h.get? b = some o → H b = none → b ∉ fs → b ∉ ex → h'.get? b = some o
  slot : ∀ b o, h.get? b = some o → H b = none → b ∈ fs → b ∉ ex → ∃ sl, h'.get? b = some { o with slots := sl }
  free : ∀ b o, h.get? b = some o → H b = none → b ∉ ex → H' b = none
  there : ∀ b o, h.get? b = some o → b ∉ ex → ∃ o', h'.get? b = some o'
  tups : ∀ b xs, H b = some (.tup xs) → H' b = some (.tup xs)
  frzs : ∀ b o u, H b = some (.frz o u) → H' b = some (.frz o u)
  tbls : ∀ b ps, H b = some (.tbl ps) → ∃ more, H' b = some (.tbl (ps ++ more))
section
variable {fs fs' ex ex' : List Addr} {H H1 H2 : Hp} {h h1 h2 h' : Heap} {a x e : Addr} {o : HO}
theorem Un.any (u : Un fs ex H H1 h h1) {b : Addr} {ob : Obj} (q : h.get? b = some ob) (n : H b = none) (hx : b ∉ ex) : ∃ sl, h1.get? b = some { ob with slots := sl } := by
  by_cases hb : b ∈ fs
  · exact u.slot b ob q n hb hx
  · exact ⟨ob.slots, u.keep b ob q n hb hx⟩
theorem Un.trans (a : Un fs ex H H1 h h1) (b : Un fs ex H1 H2 h1 h2) : Un fs ex H H2 h h2 where
  keep := fun c ob q n hc hx => b.keep c ob (a.keep c ob q n hc hx) (a.free c ob q n hx) hc hx
  slot := fun c ob q n hc hx => by
    obtain ⟨sl, e1⟩ := a.slot c ob q n hc hx
    obtain ⟨sl', e2⟩ := b.slot c _ e1 (a.free c ob q n hx) hc hx
    exact ⟨sl', e2⟩
  free := fun c ob q n hx => by
    obtain ⟨o', e1⟩ := a.there c ob q hx
    exact b.free c o' e1 (a.free c ob q n hx) hx
  there := fun c ob q hx => by
    obtain ⟨o', e1⟩ := a.there c ob q hx
    exact b.there c o' e1 hx
  tups := fun c xs q => b.tups c xs (a.tups c xs q)
  frzs := fun c ob xs q => b.frzs c ob xs (a.frzs c ob xs q)
  tbls := fun c ps q => by
    obtain ⟨m1, e1⟩ := a.tbls c ps q
    obtain ⟨m2, e2⟩ := b.tbls c _ e1
    exact ⟨m1 ++ m2, by rw [e2, Array.append_assoc]⟩
theorem Un.kept (k : ∀ b u, h.get? b = some u → h'.get? b = some u) : Un fs ex H H h h' :=
  ⟨fun b ob q _ _ _ => k b ob q, fun b ob q _ _ _ => ⟨ob.slots, k b ob q⟩, fun _ _ _ n _ => n, fun b ob q _ => ⟨ob, k b ob q⟩, fun _ _ q => q, fun _ _ _ q => q, fun _ ps q => ⟨#[], by rw [q]; simp⟩⟩
theorem Un.refl : Un fs ex H H h h := Un.kept fun _ _ q => q
theorem Un.laid (k : ∀ b u, h.get? b = some u → h'.get? b = some u) (hp : h.objs.size ≤ a) (hn : H a = none) : Un fs ex H (upd H a o) h h' where
  keep := fun b u q _ _ _ => k b u q
  slot := fun b u q _ _ _ => ⟨u.slots, k b u q⟩
  free := fun b u q n _ => by rw [upd_ne (Nat.ne_of_lt (Nat.lt_of_lt_of_le (Heap.lt_size q) hp))]; exact n
  there := fun b u q _ => ⟨u, k b u q⟩
  tups := fun b xs q => by rw [upd_ne (ne_of_none q hn)]; exact q
  frzs := fun b u xs q => by rw [upd_ne (ne_of_none q hn)]; exact q
  tbls := fun b ps q => ⟨#[], by rw [upd_ne (ne_of_none q hn), q]; simp⟩
theorem Un.write (mu : Mut (H x)) (he : e = x ∨ H e = some (.own x)) (k : ∀ b u, b ≠ e → h.get? b = some u → h'.get? b = some u) (heo : ∃ u, h'.get? e = some u) : Un fs ex H (upd H x o) h h' := by
  have hx : ∀ b, H b = none → b ≠ x := fun b n z => by subst z; rw [n] at mu; exact mu
  have hb : ∀ b, H b = none → b ≠ e := fun b n z => by
    subst z
    rcases he with r | r
    · exact hx b n r
    · rw [n] at r; cases r
  have hm : ∀ b u, H b = some u → ¬ Mut (some u) → b ≠ x := fun b u q nm z => by subst z; rw [q] at mu; exact nm mu
  refine ⟨fun b u q n _ _ => k b u (hb b n) q, fun b u q n _ _ => ⟨u.slots, k b u (hb b n) q⟩, fun b u q n _ => by rw [upd_ne (hx b n)]; exact n, fun b u q _ => ?_,
    fun b xs q => by rw [upd_ne (hm b _ q fun z => z)]; exact q, fun b u xs q => by rw [upd_ne (hm b _ q fun z => z)]; exact q, fun b ps q => ⟨#[], by rw [upd_ne (hm b _ q fun z => z), q]; simp⟩⟩
  by_cases hbe : b = e
  · subst hbe; exact heo
  · exact ⟨u, k b u hbe q⟩
theorem Un.mono (u : Un fs ex H H1 h h1) (hs : ∀ b ∈ fs, b ∈ fs') (hx : ∀ b ∈ ex, b ∈ ex') : Un fs' ex' H H1 h h1 :=
  ⟨fun b ob q n hb he => u.keep b ob q n (fun z => hb (hs b z)) fun z => he (hx b z), fun _ _ q n _ he => u.any q n fun z => he (hx _ z), fun b ob q n he => u.free b ob q n fun z => he (hx b z), fun b ob q he => u.there b ob q fun z => he (hx b z), u.tups, u.frzs, u.tbls⟩
end

/-! ### the heap without what is tracked -/
noncomputable def trk (h : Heap) (H : Hp) : List Addr := (List.range h.objs.size).filter fun a => (H a).isSome
noncomputable def hidT (h : Heap) (H : Hp) : Heap := PySem.W.hideAll h (trk h H)
theorem hidT_size (h : Heap) (H : Hp) : (hidT h H).objs.size = h.objs.size := PySem.W.hideAll_size _ _
theorem hidT_get {h : Heap} {H : Hp} {b : Addr} {o : Obj} (e : h.get? b = some o) (n : H b = none) : (hidT h H).get? b = some o :=
  PySem.W.hideAll_get _ e fun hm => by
    have q : (H b).isSome = true := (List.mem_filter.mp hm).2
    rw [n] at q; simp at q
theorem of_hidT {h : Heap} {H : Hp} {b : Addr} {o : Obj} (e : (hidT h H).get? b = some o) : h.get? b = some o ∧ H b = none := by
  have e' : h.get? b = some o := PySem.W.of_hideAll (trk h H) e
  refine ⟨e', ?_⟩
  cases q : H b with
  | none => rfl
  | some x =>
    have hm : b ∈ trk h H := List.mem_filter.mpr ⟨List.mem_range.mpr (Heap.lt_size e'), by simp [q]⟩
    have z : (hidT h H).get? b = none := PySem.W.hideAll_none (trk h H) hm
    rw [z] at e; cases e

/-! ### OpenK's ledger, filled with every new object but one -/
noncomputable def allNews (g h : Heap) (L : Addr) : List (Addr × Obj) := (List.range h.objs.size).filterMap fun a => if a = L ∨ (g.get? a).isSome = true then none else (h.get? a).map fun o => (a, o)
noncomputable def rest (g h : Heap) (L d : Addr) : List (Addr × Obj) := (allNews g h L).filter fun p => decide (p.1 ≠ d)
end L2

namespace L2
open PySem PySem.Spec PyProof.Rows

/-- the module's facts, over the base: the heap at the law's entry without what is tracked there -/
structure Mod (K : PySem.W.Frag) (mg : Str → Option Value) (base : Heap) : Prop where
  kin : K.In base
  glob : base.Ns mainGlobals mg
  blt : ∃ mb, base.Ns builtinsNs mb ∧ ∀ x : Str, x ≠ "__name__" → mb x = bootBuiltins x
  nolimit : base.NoLimit

/-- the context: a def's body (or a comprehension's block) running. base: fixed through the whole law; s₀, H₀: the entry; outer: the frames whose slots others may change (a def's callers); stack: all frames that run;
   ex: iterators that were made ahead of the entry and are walked here (a comprehension's); fn: the names whose cells were made at the entry (a def: all; a comprehension's block: its own); calm: not within an except suite; pn: pins that every state bears; xe: what is wanted of an exception that leaves the code -/
structure Cx where
  prog : Program
  w : World
  K : PySem.W.Frag
  mg : Str → Option Value
  base : Heap
  A : Around
  N : List Str
  s₀ : Shared
  H₀ : Hp
  env : Env
  outer : List Env
  stack : List Env
  ex : List Addr
  fn : Str → Bool
  calm : Bool
  pn : List (Addr × Obj)
  xe : Value → Shared → Prop
/-- the callers' frames -/
def frs (l : List Env) : List Addr := l.filterMap (·.frame)
abbrev Cx.fs (X : Cx) : List Addr := frs X.outer

noncomputable def Vis (sc : Scope) (x : Str) : Prop := sc.names.lookup x = some .local ∨ sc.names.lookup x = some .cell ∨ sc.names.lookup x = some .free
noncomputable def Loc (sc : Scope) (x : Str) : Prop := sc.names.lookup x = some .local ∨ sc.names.lookup x = some .cell
noncomputable def Look (env : Env) (h : Heap) (m : Str → Option Value) (x : Str) (u : Value) : Prop :=
  (env.kindOf x = some .local ∧ m x = some u) ∨ ((env.kindOf x = some .cell ∨ env.kindOf x = some .free) ∧ ∃ c, env.cells.lookup x = some c ∧ h.IsCell c (some u))

structure Cx.Ok (X : Cx) : Prop where
  mod : Mod X.K X.mg X.base
  kind : X.env.scope.kind = .function
  glob : X.env.globals = mainGlobals
  blt : X.env.builtins = builtinsNs
  above : X.s₀.heap.objs.size ≤ X.env.locals
  inj : ∀ x y c, X.env.cells.lookup x = some c → X.env.cells.lookup y = some c → x = y
  has : ∀ x, (X.env.kindOf x = some .cell ∨ X.env.kindOf x = some .free) → ∃ c, X.env.cells.lookup x = some c
  cab : ∀ x c, X.fn x = true → X.env.cells.lookup x = some c → X.s₀.heap.objs.size ≤ c
  hd : X.calm = true → X.A.handled = none
  frames : X.A.frames = some X.stack
  stk : X.stack = X.outer ∨ (X.stack = X.env :: X.outer ∧ X.env.frame = some X.env.locals)
  exf : ∀ b ∈ X.ex, b ≠ X.env.locals ∧ ∀ x c, X.env.cells.lookup x = some c → c ≠ b
  bs : ∀ b o, X.base.get? b = some o → X.s₀.heap.get? b = some o ∧ X.H₀ b = none
  bsz : X.base.objs.size ≤ X.s₀.heap.objs.size
  noex : ∀ b o, X.base.get? b = some o → b ∉ X.ex
  exfs : ∀ b ∈ X.ex, b ∉ X.fs
  funs : X.s₀.heap.FunFrames X.base X.outer
  frf : ∀ b ∈ X.fs, X.H₀ b = none

structure Inv (X : Cx) (pins : List (Addr × Obj)) (σ : List (Option V)) (H : Hp) (s : Shared) : Prop where
  ok : X.Ok
  os : s.os = X.s₀.os
  bare : AllBare s.gens
  base : Un X.fs X.ex X.H₀ H X.s₀.heap s.heap
  loc : ∃ m, s.heap.Ns X.env.locals m ∧ ∀ (i : Nat) (x : Str) (v : V), X.N[i]? = some x → σ[i]? = some (some v) → Vis X.env.scope x → ∃ u, RelV v u ∧ Look X.env s.heap m x u
  cell : ∀ x c, X.env.cells.lookup x = some c → ∃ v, s.heap.IsCell c v
  free : H X.env.locals = none
  freeC : ∀ x c, X.env.cells.lookup x = some c → H c = none
  pin : ∀ p ∈ X.pn ++ pins, s.heap.get? p.1 = some p.2 ∧ H p.1 = none ∧ p.1 ≠ X.env.locals ∧ p.1 ∉ X.fs ∧ ∀ v, p.2.data ≠ .cell v
  hok : HOk X.prog X.w H s.heap
  len : σ.length = X.N.length

section
variable {X : Cx} {pins : List (Addr × Obj)} {σ : List (Option V)} {H H' : Hp} {s : Shared} {h' : Heap}

theorem Cx.Ok.nofr (ok : X.Ok) {b : Addr} {o : Obj} (e : X.base.get? b = some o) : b ∉ X.fs := fun hb => by
  have := (ok.funs.mem hb).1
  rw [e] at this; cases this
theorem Inv.bs (I : Inv X pins σ H s) : ∀ b o, X.base.get? b = some o → s.heap.get? b = some o ∧ H b = none := fun b o e =>
  ⟨I.base.keep b o (I.ok.bs b o e).1 (I.ok.bs b o e).2 (I.ok.nofr e) (I.ok.noex b o e), I.base.free b o (I.ok.bs b o e).1 (I.ok.bs b o e).2 (I.ok.noex b o e)⟩
theorem Inv.bk (I : Inv X pins σ H s) : ∀ b o, X.base.get? b = some o → s.heap.get? b = some o := fun b o e => (I.bs b o e).1
theorem Inv.mod (I : Inv X pins σ H s) : Mod X.K X.mg X.base := I.ok.mod
theorem Inv.kIn (I : Inv X pins σ H s) : X.K.In s.heap := I.ok.mod.kin.keeps I.bk
theorem Inv.nolimit (I : Inv X pins σ H s) : s.heap.NoLimit := I.ok.mod.nolimit.keeps I.bk
/-- the frame over the base: for OpenK's rules (K.In X.base is I.mod.kin) -/
theorem Inv.fr (I : Inv X pins σ H s) : ∃ m, Fr X.base X.env.locals s.heap m :=
  let ⟨m, hn, _⟩ := I.loc
  ⟨m, hn, I.bk, Nat.le_trans I.ok.bsz I.ok.above⟩
theorem Inv.lt (I : Inv X pins σ H s) : X.env.locals < s.heap.objs.size := let ⟨_, hn, _⟩ := I.loc; hn.lt
theorem Inv.sz (I : Inv X pins σ H s) : X.s₀.heap.objs.size ≤ s.heap.objs.size := Nat.le_trans I.ok.above (Nat.le_of_lt I.lt)
theorem Inv.nofs (I : Inv X pins σ H s) {a : Addr} (h : s.heap.objs.size ≤ a) : a ∉ X.fs := fun hb => by
  obtain ⟨_, o, ho, _⟩ := I.ok.funs.mem hb
  exact absurd (Nat.lt_of_lt_of_le (Heap.lt_size ho) (Nat.le_trans I.sz h)) (Nat.lt_irrefl _)
theorem Inv.cne (I : Inv X pins σ H s) : ∀ x c, X.env.cells.lookup x = some c → c ≠ X.env.locals := fun x c e z => by
  obtain ⟨v, o, ho, hd⟩ := I.cell x c e
  obtain ⟨m, ⟨o', es, ep, ho', hd', _⟩, _⟩ := I.loc
  rw [z, ho'] at ho; cases ho; rw [hd'] at hd; cases hd
theorem Inv.funs (I : Inv X pins σ H s) : s.heap.FunFrames X.base X.outer := by
  have all : ∀ (l : List Env), (∀ b ∈ frs l, b ∈ X.fs) → X.s₀.heap.FunFrames X.base l → s.heap.FunFrames X.base l := by
    intro l
    induction l with
    | nil => intro _ _; trivial
    | cons env r ih =>
      intro hs hl
      obtain ⟨hk, ⟨L, o, hf, hn, ho, hd⟩, hr⟩ := hl
      have hL : L ∈ X.fs := hs L (by unfold frs; rw [List.filterMap_cons, hf]; exact List.mem_cons_self)
      obtain ⟨sl, e⟩ := I.base.slot L o ho (I.ok.frf L hL) hL fun z => I.ok.exfs L z hL
      exact ⟨hk, ⟨L, _, hf, hn, e, hd⟩, ih (fun b hb => hs b (by unfold frs; rw [List.filterMap_cons, hf]; exact List.mem_cons_of_mem _ hb)) hr⟩
  exact all X.outer (fun _ hb => hb) I.ok.funs

/-- the frames that run, for a call -/
theorem Inv.stack (I : Inv X pins σ H s) : s.heap.FunFrames X.base X.stack := by
  rcases I.ok.stk with e | ⟨e, hf⟩
  · rw [e]; exact I.funs
  · rw [e]
    obtain ⟨m, hn, _⟩ := I.loc
    refine .cons (by rw [I.ok.kind]; decide) hf hn ?_ I.funs
    exact Heap.get?_none_of_le (Nat.le_trans I.ok.bsz I.ok.above)
theorem Inv.stkSub (I : Inv X pins σ H s) : ∀ b ∈ frs X.stack, b ∈ X.env.locals :: X.fs := fun b hb => by
  rcases I.ok.stk with e | ⟨e, hf⟩
  · rw [e] at hb; exact List.mem_cons_of_mem _ hb
  · rw [e] at hb
    unfold frs at hb
    rw [List.filterMap_cons, hf] at hb
    exact hb
theorem Inv.stkFree (I : Inv X pins σ H s) : ∀ b ∈ frs X.stack, H b = none := fun b hb => by
  rcases List.mem_cons.mp (I.stkSub b hb) with e | hb
  · rw [e]; exact I.free
  · obtain ⟨_, o, ho, _⟩ := I.ok.funs.mem hb
    exact I.base.free b o ho (I.ok.frf b hb) fun z => I.ok.exfs b z hb

/-- THE STEP: the untracked objects but the frame and the records at ch are kept (the callers' frames up to slots), the frame's map is kept, the new abstract heap is held -/
theorem Inv.step {g' : Array GenState} {t' : Nat} {d' : Drawn} {ch : List Addr} (I : Inv X pins σ H s)
    (hch : ∀ b ∈ ch, (b ∈ X.ex ∨ X.s₀.heap.objs.size ≤ b) ∧ b ≠ X.env.locals ∧ (∀ x c, X.env.cells.lookup x = some c → c ≠ b) ∧ ∀ p ∈ X.pn ++ pins, p.1 ≠ b)
    (keep : ∀ b o, b ≠ X.env.locals → b ∉ X.fs → b ∉ ch → s.heap.get? b = some o → H b = none → h'.get? b = some o)
    (slot : ∀ b o, b ≠ X.env.locals → b ∈ X.fs → b ∉ ch → s.heap.get? b = some o → H b = none → ∃ sl, h'.get? b = some { o with slots := sl }) (free : ∀ b o, b ∉ ch → s.heap.get? b = some o → H b = none → H' b = none)
    (there : ∀ b o, b ∉ ch → s.heap.get? b = some o → ∃ o', h'.get? b = some o')
    (tups : ∀ b xs, H b = some (.tup xs) → H' b = some (.tup xs)) (frzs : ∀ b o u, H b = some (.frz o u) → H' b = some (.frz o u)) (tbls : ∀ b ps, H b = some (.tbl ps) → ∃ more, H' b = some (.tbl (ps ++ more)))
    (ns : ∀ m, s.heap.Ns X.env.locals m → h'.Ns X.env.locals m) (hok : HOk X.prog X.w H' h') (hg : AllBare g') :
    Inv X pins σ H' { s with heap := h', gens := g', drawn := d', toks := t' } := by
  have neL : ∀ b o, X.s₀.heap.get? b = some o → b ≠ X.env.locals := fun b o e => Nat.ne_of_lt (Nat.lt_of_lt_of_le (Heap.lt_size e) I.ok.above)
  have neC : ∀ b o, X.s₀.heap.get? b = some o → b ∉ X.ex → b ∉ ch := fun b o e hx hb => by
    rcases (hch b hb).1 with z | z
    · exact hx z
    · exact absurd (Nat.lt_of_lt_of_le (Heap.lt_size e) z) (Nat.lt_irrefl _)
  have cellK : ∀ x c, X.env.cells.lookup x = some c → ∀ v, s.heap.IsCell c v → h'.IsCell c v := fun x c e v ⟨o, ho, hd⟩ => by
    have nch : c ∉ ch := fun z => (hch c z).2.2.1 x c e rfl
    by_cases hc : c ∈ X.fs
    · obtain ⟨sl, q⟩ := slot c o (I.cne x c e) hc nch ho (I.freeC x c e)
      exact ⟨_, q, hd⟩
    · exact ⟨o, keep c o (I.cne x c e) hc nch ho (I.freeC x c e), hd⟩
  refine ⟨I.ok, I.os, hg, ⟨fun b o e n hb hx => ?_, fun b o e n hb hx => ?_, fun b o e n hx => ?_, fun b o e hx => ?_, fun b xs e => tups b xs (I.base.tups b xs e), fun b o xs e => frzs b o xs (I.base.frzs b o xs e), fun b ps e => ?_⟩, ?_, fun x c e => ?_, ?_, fun x c e => ?_, fun p hp => ?_, hok, I.len⟩
  · exact keep b o (neL b o e) hb (neC b o e hx) (I.base.keep b o e n hb hx) (I.base.free b o e n hx)
  · obtain ⟨sl, e1⟩ := I.base.slot b o e n hb hx
    obtain ⟨sl', e2⟩ := slot b _ (neL b o e) hb (neC b o e hx) e1 (I.base.free b o e n hx)
    exact ⟨sl', e2⟩
  · obtain ⟨o', e1⟩ := I.base.there b o e hx
    exact free b o' (neC b o e hx) e1 (I.base.free b o e n hx)
  · obtain ⟨o', e1⟩ := I.base.there b o e hx
    exact there b o' (neC b o e hx) e1
  · obtain ⟨m1, e1⟩ := I.base.tbls b ps e
    obtain ⟨m2, e2⟩ := tbls b _ e1
    exact ⟨m1 ++ m2, by rw [e2, Array.append_assoc]⟩
  · obtain ⟨m, hn, hl⟩ := I.loc
    refine ⟨m, ns m hn, fun i x v e1 e2 e3 => ?_⟩
    obtain ⟨u, r, l⟩ := hl i x v e1 e2 e3
    refine ⟨u, r, ?_⟩
    rcases l with l | ⟨k, c, e, z⟩
    · exact .inl l
    · exact .inr ⟨k, c, e, cellK x c e _ z⟩
  · obtain ⟨v, z⟩ := I.cell x c e
    exact ⟨v, cellK x c e v z⟩
  · obtain ⟨m, ⟨o, _, _, ho, _⟩, _⟩ := I.loc
    exact free _ o (fun z => (hch _ z).2.1 rfl) ho I.free
  · obtain ⟨v, o, ho, hd⟩ := I.cell x c e
    exact free c o (fun z => (hch c z).2.2.1 x c e rfl) ho (I.freeC x c e)
  · obtain ⟨e, n, ne, nf, d⟩ := I.pin p hp
    have nch : p.1 ∉ ch := fun z => (hch p.1 z).2.2.2 p hp rfl
    exact ⟨keep p.1 p.2 ne nf nch e n, free p.1 p.2 nch e n, ne, nf, d⟩
/-- .. where the frame's own object is kept too -/
theorem Inv.un {t' : Nat} (I : Inv X pins σ H s) (u : Un X.fs [] H H' s.heap h') (hok : HOk X.prog X.w H' h') : Inv X pins σ H' { s with heap := h', toks := t' } := by
  obtain ⟨m, ⟨o, es, ep, ho, r⟩, _⟩ := id I.loc
  obtain ⟨sl, hL⟩ := u.any ho I.free (by simp)
  exact I.step (g' := s.gens) (d' := s.drawn) (ch := []) (fun _ z => nomatch z) (fun b o _ hb _ e n => u.keep b o e n hb (by simp)) (fun b o _ hb _ e n => u.slot b o e n hb (by simp)) (fun b o _ e n => u.free b o e n (by simp)) (fun b o _ e => u.there b o e (by simp)) u.tups u.frzs u.tbls (fun m' hm => by
    obtain ⟨o', es', ep', ho', r'⟩ := hm
    rw [ho] at ho'; cases ho'
    exact ⟨_, es', ep', hL, r'⟩) hok I.bare
/-- behind a call (or a comprehension's block): the slots of this frame may have changed too, the records at ch may have turned -/
theorem Inv.call {g' : Array GenState} {t' : Nat} {d' : Drawn} {ch : List Addr} (I : Inv X pins σ H s) (u : Un (frs X.stack) ch H H' s.heap h') (hok : HOk X.prog X.w H' h') (hg : AllBare g')
    (hch : ∀ b ∈ ch, (b ∈ X.ex ∨ X.s₀.heap.objs.size ≤ b) ∧ b ≠ X.env.locals ∧ (∀ x c, X.env.cells.lookup x = some c → c ≠ b) ∧ ∀ p ∈ X.pn ++ pins, p.1 ≠ b) :
    Inv X pins σ H' { s with heap := h', gens := g', drawn := d', toks := t' } := by
  obtain ⟨m, ⟨o, es, ep, ho, r⟩, _⟩ := id I.loc
  obtain ⟨sl, hL⟩ := u.any ho I.free fun z => (hch _ z).2.1 rfl
  exact I.step (ch := ch) hch (fun b o hL hb hc e n => u.keep b o e n (fun z => (List.mem_cons.mp (I.stkSub b z)).elim hL hb) hc) (fun b o _ _ hc e n => u.any e n hc) (fun b o hc e n => u.free b o e n hc) (fun b o hc e => u.there b o e hc) u.tups u.frzs u.tbls (fun m' hm => by
    obtain ⟨o', es', ep', ho', r'⟩ := hm
    rw [ho] at ho'; cases ho'
    exact ⟨_, es', ep', hL, r'⟩) hok hg
/-- an untracked record of ours (an iterator) has turned -/
theorem Inv.turned {t' : Nat} {it : Addr} (I : Inv X pins σ H s) (k : ∀ b o, b ≠ it → s.heap.get? b = some o → h'.get? b = some o) (hn : H it = none) (hL : it ≠ X.env.locals)
    (h1 : it ∈ X.ex ∨ X.s₀.heap.objs.size ≤ it) (h2 : ∀ x c, X.env.cells.lookup x = some c → c ≠ it) (h3 : ∀ p ∈ X.pn ++ pins, p.1 ≠ it) : Inv X pins σ H { s with heap := h', toks := t' } := by
  have nit : ∀ b u, H b = some u → b ≠ it := fun b u e z => by rw [z, hn] at e; cases e
  refine I.step (g' := s.gens) (d' := s.drawn) (ch := [it]) (fun b hb => ?_) (fun b o _ _ hc e _ => k b o (fun z => hc (by simp [z])) e) (fun b o _ _ hc e _ => ⟨o.slots, k b o (fun z => hc (by simp [z])) e⟩) (fun _ _ _ _ n => n)
    (fun b o hc e => ⟨o, k b o (fun z => hc (by simp [z])) e⟩) (fun _ _ e => e) (fun _ _ _ e => e) (fun b ps e => ⟨#[], by rw [e]; simp⟩) (fun m hm => ?_) (fun b u e => ?_) I.bare
  · have e : b = it := by simpa using hb
    subst e
    exact ⟨h1, hL, h2, h3⟩
  · obtain ⟨o, es, ep, ho, r⟩ := hm
    exact ⟨o, es, ep, k _ o (Ne.symm hL) ho, r⟩
  · refine (I.hok b u e).stay (fun c v hc q => k c v ?_ q) (fun _ q => q) fun _ _ q => q
    rcases hc with z | z
    · rw [z]; exact nit b u e
    · exact nit c _ z
theorem Inv.tok (I : Inv X pins σ H s) (t : Nat) : Inv X pins σ H { s with toks := t } := I.un (h' := s.heap) (t' := t) Un.refl I.hok
/-- all objects kept -/
theorem Inv.kept {t' : Nat} (I : Inv X pins σ H s) (k : ∀ b u, s.heap.get? b = some u → h'.get? b = some u) : Inv X pins σ H { s with heap := h', toks := t' } := I.un (Un.kept k) (I.hok.kept k)
/-- a new object laid and tracked -/
theorem Inv.laid {a : Addr} {o : HO} {t' : Nat} (I : Inv X pins σ H s) (k : ∀ b u, s.heap.get? b = some u → h'.get? b = some u) (hp : s.heap.objs.size ≤ a) (new : ObjOk X.prog X.w (upd H a o) h' a o) :
    Inv X pins σ (upd H a o) { s with heap := h', toks := t' } := I.un (Un.laid k hp (I.hok.fresh hp)) (I.hok.laid k hp new)
/-- an object written -/
theorem Inv.write {x e : Addr} {o : HO} {t' : Nat} (I : Inv X pins σ H s) (mu : Mut (H x)) (he : e = x ∨ H e = some (.own x)) (k : ∀ b u, b ≠ e → s.heap.get? b = some u → h'.get? b = some u) (heo : ∃ u, h'.get? e = some u)
    (new : ObjOk X.prog X.w (upd H x o) h' x o) : Inv X pins σ (upd H x o) { s with heap := h', toks := t' } := I.un (Un.write mu he k heo) (I.hok.write mu he k heo new)
theorem Inv.pins_of {pins' : List (Addr × Obj)} (I : Inv X pins σ H s) (h : ∀ p ∈ pins', s.heap.get? p.1 = some p.2 ∧ H p.1 = none ∧ p.1 ≠ X.env.locals ∧ p.1 ∉ X.fs ∧ ∀ v, p.2.data ≠ .cell v) : Inv X pins' σ H s :=
  ⟨I.ok, I.os, I.bare, I.base, I.loc, I.cell, I.free, I.freeC, fun p hp => (List.mem_append.mp hp).elim (fun z => I.pin p (List.mem_append_left _ z)) (h p), I.hok, I.len⟩

theorem nodup_ix {N : List Str} (hN : N.Nodup) {i j : Nat} {x : Str} (a : N[i]? = some x) (b : N[j]? = some x) : i = j := by
  obtain ⟨h1, e1⟩ := List.getElem?_eq_some_iff.mp a
  obtain ⟨h2, e2⟩ := List.getElem?_eq_some_iff.mp b
  exact (List.getElem_inj hN).mp (e1.trans e2.symm)

/-- a name is stored; what changed -/
theorem store_ok2 {M : Model} {A : Around} {E : Value → Shared → Prop} {i : Nat} {x : Str} {v : V} {u : Value} {Q : Unit → Shared → Prop} (I : Inv X pins σ H s) (hN : X.N.Nodup) (hi : X.N[i]? = some x) (hx : Loc X.env.scope x) (r : RelV v u)
    (h : ∀ s', Inv X pins (σ.set i (some v)) H s' → (∃ a, Heap.SameBut a s.heap s'.heap ∧ (a = X.env.locals ∨ X.env.cells.lookup x = some a)) → Q () s') (hf : X.fn x = true ∨ X.env.scope.names.lookup x = some .local := by first | exact .inl rfl | exact .inr rfl | assumption) : wpAny M A (storeName X.env x u) Q E s := by
  obtain ⟨m, hn, hl⟩ := id I.loc
  have hcls : (X.env.scope.kind == .class || (X.env.scope.kind == .module && X.env.locals != X.env.globals)) = false := by rw [I.ok.kind]; rfl
  have hiσ : i < σ.length := by rw [I.len]; exact (List.getElem?_eq_some_iff.mp hi).1
  have cne := I.cne
  have tracked : ∀ {a : Addr} {h' : Heap}, (∃ o, s.heap.get? a = some o ∧ H a = none) → Heap.SameBut a s.heap h' → HOk X.prog X.w H h' := fun {a h'} ha hs b ob e => by
    obtain ⟨_, _, hfree⟩ := ha
    refine (I.hok b ob e).stay (fun c w' hc q => (hs.2 c ?_).trans q) (fun _ q => q) fun _ _ q => q
    rintro rfl
    rcases hc with rfl | hc
    · rw [hfree] at e; cases e
    · rw [hfree] at hc; cases hc
  rcases hx with hk | hk
  · refine wpAny_storeName_local hk hn (fun h' hn' hs => ?_) hcls
    obtain ⟨oL, _, _, hoL, _⟩ := id hn
    refine h _ ⟨I.ok, I.os, I.bare, ⟨fun b o e n hb hx => ?_, fun b o e n hb hx => ?_, I.base.free, fun b o e hx => ?_, I.base.tups, I.base.frzs, I.base.tbls⟩, ⟨_, hn', fun j y v' e1 e2 e3 => ?_⟩, fun y c e => ?_, I.free, I.freeC, fun p hp => ?_, tracked ⟨oL, hoL, I.free⟩ hs, by simpa using I.len⟩ ⟨_, hs, .inl rfl⟩
    · exact (hs.2 b (Nat.ne_of_lt (Nat.lt_of_lt_of_le (Heap.lt_size e) I.ok.above))).trans (I.base.keep b o e n hb hx)
    · obtain ⟨sl, e1⟩ := I.base.slot b o e n hb hx
      exact ⟨sl, (hs.2 b (Nat.ne_of_lt (Nat.lt_of_lt_of_le (Heap.lt_size e) I.ok.above))).trans e1⟩
    · obtain ⟨o', e1⟩ := I.base.there b o e hx
      exact ⟨o', (hs.2 b (Nat.ne_of_lt (Nat.lt_of_lt_of_le (Heap.lt_size e) I.ok.above))).trans e1⟩
    · by_cases hj : j = i
      · subst hj
        rw [hi] at e1; cases e1
        rw [List.getElem?_set_self hiσ] at e2
        cases e2
        exact ⟨u, r, .inl ⟨hk, by simp⟩⟩
      · rw [List.getElem?_set_ne (Ne.symm hj)] at e2
        obtain ⟨u', r', q⟩ := hl j y v' e1 e2 e3
        refine ⟨u', r', ?_⟩
        rcases q with ⟨k, e⟩ | ⟨k, c, e, z⟩
        · refine .inl ⟨k, ?_⟩
          have : y ≠ x := fun e => hj (nodup_ix hN e1 (e ▸ hi))
          simp [this, e]
        · exact .inr ⟨k, c, e, z.sameBut hs (cne y c e)⟩
    · obtain ⟨w', z⟩ := I.cell y c e
      exact ⟨w', z.sameBut hs (cne y c e)⟩
    · obtain ⟨e, n, ne, nf, d⟩ := I.pin p hp
      exact ⟨(hs.2 p.1 ne).trans e, n, ne, nf, d⟩
  · have hfn : X.fn x = true := by
      rcases hf with z | z
      · exact z
      · rw [z] at hk; cases hk
    obtain ⟨c, hc⟩ := I.ok.has x (.inl hk)
    obtain ⟨w', z⟩ := I.cell x c hc
    refine wpAny_storeName_cell I.ok.kind hk hc z (fun h' hc' hs => ?_)
    obtain ⟨oc, hoc, hocd⟩ := id z
    refine h { s with heap := h' } ⟨I.ok, I.os, I.bare, ⟨fun b o e n hb hx => ?_, fun b o e n hb hx => ?_, I.base.free, fun b o e hx => ?_, I.base.tups, I.base.frzs, I.base.tbls⟩, ⟨m, hn.sameBut hs (Ne.symm (cne x c hc)), fun j y v' e1 e2 e3 => ?_⟩, fun y c' e => ?_, I.free, I.freeC, fun p hp => ?_, tracked ⟨oc, hoc, I.freeC x c hc⟩ hs, by simpa using I.len⟩ ⟨c, hs, .inr hc⟩
    · exact (hs.2 b (Nat.ne_of_lt (Nat.lt_of_lt_of_le (Heap.lt_size e) (I.ok.cab x c hfn hc)))).trans (I.base.keep b o e n hb hx)
    · obtain ⟨sl, e1⟩ := I.base.slot b o e n hb hx
      exact ⟨sl, (hs.2 b (Nat.ne_of_lt (Nat.lt_of_lt_of_le (Heap.lt_size e) (I.ok.cab x c hfn hc)))).trans e1⟩
    · obtain ⟨o', e1⟩ := I.base.there b o e hx
      exact ⟨o', (hs.2 b (Nat.ne_of_lt (Nat.lt_of_lt_of_le (Heap.lt_size e) (I.ok.cab x c hfn hc)))).trans e1⟩
    · by_cases hj : j = i
      · subst hj
        rw [hi] at e1; cases e1
        rw [List.getElem?_set_self hiσ] at e2
        cases e2
        exact ⟨u, r, .inr ⟨.inl hk, c, hc, hc'⟩⟩
      · rw [List.getElem?_set_ne (Ne.symm hj)] at e2
        obtain ⟨u', r', q⟩ := hl j y v' e1 e2 e3
        refine ⟨u', r', ?_⟩
        rcases q with q | ⟨k, c', e, z'⟩
        · exact .inl q
        · refine .inr ⟨k, c', e, z'.sameBut hs ?_⟩
          rintro rfl
          exact hj (nodup_ix hN e1 (I.ok.inj _ _ _ e hc ▸ hi))
    · by_cases hcc : c' = c
      · subst hcc; exact ⟨_, hc'⟩
      · obtain ⟨w2, z2⟩ := I.cell y c' e
        exact ⟨w2, z2.sameBut hs hcc⟩
    · obtain ⟨e, n, ne, nf, d⟩ := I.pin p hp
      refine ⟨(hs.2 p.1 ?_).trans e, n, ne, nf, d⟩
      intro q
      rw [q, hoc] at e
      have q' : oc = p.2 := Option.some.inj e
      exact d w' (by rw [← q']; exact hocd)
theorem store_ok {M : Model} {A : Around} {E : Value → Shared → Prop} {i : Nat} {x : Str} {v : V} {u : Value} {Q : Unit → Shared → Prop} (I : Inv X pins σ H s) (hN : X.N.Nodup) (hi : X.N[i]? = some x) (hx : Loc X.env.scope x) (r : RelV v u)
    (h : ∀ s', Inv X pins (σ.set i (some v)) H s' → Q () s') (hf : X.fn x = true ∨ X.env.scope.names.lookup x = some .local := by first | exact .inl rfl | exact .inr rfl | assumption) : wpAny M A (storeName X.env x u) Q E s :=
  store_ok2 I hN hi hx r (fun s' I' _ => h s' I') hf
/-- behind a call or a block, the state as it is -/
theorem Inv.call' {s' : Shared} {ch : List Addr} (I : Inv X pins σ H s) (ho : s'.os = s.os) (u : Un (frs X.stack) ch H H' s.heap s'.heap) (hok : HOk X.prog X.w H' s'.heap) (hg : AllBare s'.gens)
    (hch : ∀ b ∈ ch, (b ∈ X.ex ∨ X.s₀.heap.objs.size ≤ b) ∧ b ≠ X.env.locals ∧ (∀ x c, X.env.cells.lookup x = some c → c ≠ b) ∧ ∀ p ∈ X.pn ++ pins, p.1 ≠ b) : Inv X pins σ H' s' := by
  obtain ⟨h', g', d', t', o'⟩ := s'
  have e : o' = s.os := ho
  subst e
  exact I.call (g' := g') (t' := t') (d' := d') u hok hg hch
end

/-! ### the judgements -/
/-- an exception: its class, its own dict's address (where it has one), the abstract heap behind it -/
abbrev XK := Value → Option Addr → Hp → Prop
abbrev St := List (Option V)
abbrev VK := V → Hp → Prop
/-- an expression's reading; a test's; an argument list's -/
abbrev TE := St → Hp → VK → Prop
abbrev TT := St → Hp → (Bool → Hp → Prop) → Prop
abbrev TA := St → Hp → (List V → Hp → Prop) → Prop
/-- what is wanted behind a statement -/
structure Ends where
  nx : St → Hp → Prop
  rt : VK
  bk : St → Hp → Prop := fun _ _ => False
  ct : St → Hp → Prop := fun _ _ => False
abbrev TS := Ends → St → Hp → Prop

noncomputable def EP (X : Cx) (pins : List (Addr × Obj)) (σ : St) (Q : VK) (u : Value) (s' : Shared) : Prop := ∃ v H', Inv X pins σ H' s' ∧ RelV v u ∧ Q v H'
noncomputable def TP (X : Cx) (pins : List (Addr × Obj)) (σ : St) (Q : Bool → Hp → Prop) (b : Bool) (s' : Shared) : Prop := ∃ H', Inv X pins σ H' s' ∧ Q b H'
noncomputable def AP (X : Cx) (pins : List (Addr × Obj)) (σ : St) (Q : List V → Hp → Prop) (us : List Value) (s' : Shared) : Prop := ∃ vs H', Inv X pins σ H' s' ∧ Vals vs us ∧ Q vs H'
noncomputable def SP (X : Cx) (pins : List (Addr × Obj)) (D : Ends) (f : Flow) (s' : Shared) : Prop :=
  match f with
  | .next => ∃ σ' H', Inv X pins σ' H' s' ∧ D.nx σ' H'
  | .brk => ∃ σ' H', Inv X pins σ' H' s' ∧ D.bk σ' H'
  | .cont => ∃ σ' H', Inv X pins σ' H' s' ∧ D.ct σ' H'
  | .ret u => ∃ v σ' H', Inv X pins σ' H' s' ∧ RelV v u ∧ D.rt v H'

noncomputable def PE (X : Cx) (e : Expr) (t : TE) : Prop :=
  ∀ (pins : List (Addr × Obj)) (s : Shared) (σ : St) (H : Hp) (Q : VK), Inv X pins σ H s → t σ H Q → wpAny (model X.prog X.w) X.A (eval e X.env) (EP X pins σ Q) X.xe s
noncomputable def PT (X : Cx) (e : Expr) (t : TT) : Prop :=
  ∀ (pins : List (Addr × Obj)) (s : Shared) (σ : St) (H : Hp) (Q : Bool → Hp → Prop), Inv X pins σ H s → t σ H Q → wpAny (model X.prog X.w) X.A (isTrue e X.env (eval e X.env)) (TP X pins σ Q) X.xe s
/-- a test whatever its 'whole' is (and, or) -/
noncomputable def PW (X : Cx) (e : Expr) (t : TT) : Prop :=
  ∀ (whole : Sem Value) (pins : List (Addr × Obj)) (s : Shared) (σ : St) (H : Hp) (Q : Bool → Hp → Prop), Inv X pins σ H s → t σ H Q → wpAny (model X.prog X.w) X.A (isTrue e X.env whole) (TP X pins σ Q) X.xe s
theorem PW.pt {X : Cx} {e : Expr} {t : TT} (h : PW X e t) : PT X e t := h _
/-- an argument list (no star), from the left -/
noncomputable def PA (X : Cx) (es : List Expr) (t : TA) : Prop :=
  ∀ (pos : Pos) (pins : List (Addr × Obj)) (s : Shared) (σ : St) (H : Hp) (Q : List V → Hp → Prop), Inv X pins σ H s → t σ H Q → wpAny (model X.prog X.w) X.A (spliced (backTo pos (starEach es X.env))) (AP X pins σ Q) X.xe s
noncomputable def PS (X : Cx) (st : Stmt) (t : TS) : Prop :=
  ∀ (pins : List (Addr × Obj)) (s : Shared) (σ : St) (H : Hp) (D : Ends), Inv X pins σ H s → t D σ H → wpAny (model X.prog X.w) X.A (exec st X.env) (SP X pins D) X.xe s
noncomputable def PSs (X : Cx) (st : List Stmt) (t : TS) : Prop :=
  ∀ (pins : List (Addr × Obj)) (s : Shared) (σ : St) (H : Hp) (D : Ends), Inv X pins σ H s → t D σ H → wpAny (model X.prog X.w) X.A (execs st X.env) (SP X pins D) X.xe s
/-- weaken the end -/
theorem thn {α : Type} {t : Sem α} {Q Q' : α → Shared → Prop} {M : Model} {A : Around} {E : Value → Shared → Prop} {s : Shared} (h : wpAny M A t Q E s) (hQ : ∀ a s, Q a s → Q' a s) : wpAny M A t Q' E s := wpAny_mono h hQ fun _ _ x => x
end L2

namespace L2
open PySem PySem.Spec PyProof.Rows
section
variable {X : Cx}

/-- two expressions in a row -/
theorem bin {a b : Expr} {ta tb : TE} (ha : PE X a ta) (hb : PE X b tb) {pins : List (Addr × Obj)} {s : Shared} {σ : St} {H : Hp} {R : V → V → Hp → Prop} (I : Inv X pins σ H s) (h : ta σ H fun x H1 => tb σ H1 fun y H2 => R x y H2)
    {α : Type} {Q : α → Shared → Prop} {f : Value → Value → Sem α}
    (hf : ∀ v u s2 x y H2, Inv X pins σ H2 s2 → RelV x v → RelV y u → R x y H2 → wpAny (model X.prog X.w) X.A (f v u) Q X.xe s2) :
    wpAny (model X.prog X.w) X.A (eval a X.env) (fun v s₁ => wpAny (model X.prog X.w) X.A (eval b X.env) (fun u s₂ => wpAny (model X.prog X.w) X.A (f v u) Q X.xe s₂) X.xe s₁) X.xe s := by
  refine thn (ha pins s σ H _ I h) fun v s1 ⟨x, H1, I1, r1, q1⟩ => ?_
  refine thn (hb pins s1 σ H1 _ I1 q1) fun u s2 ⟨y, H2, I2, r2, q2⟩ => ?_
  exact hf v u s2 x y H2 I2 r1 r2 q2

/-! ### names and constants -/
noncomputable def tVar (i : Nat) : TE := fun σ H Q => ∃ v, σ[i]? = some (some v) ∧ Q v H
noncomputable def tC (v : V) : TE := fun _ H Q => Q v H
theorem pe_var {i : Nat} {x : Str} {pos : Pos} (hN : X.N[i]? = some x) (hv : Vis X.env.scope x) (hd : (x == ("__debug__" : Str)) = false := by decide) (hcd : (x == ("__classdict__" : Str)) = false := by decide) : PE X (.Name x pos) (tVar i) := by
  intro pins s σ H Q I h
  obtain ⟨v, e, h⟩ := h
  obtain ⟨m, hn, hl⟩ := I.loc
  obtain ⟨u, r, l⟩ := hl i x v hN e hv
  have fin : EP X pins σ Q u s := ⟨v, H, I, r, h⟩
  rcases l with ⟨hk, hm⟩ | ⟨hk, c, hc, hcell⟩
  · exact wpAny_Name (wpAny_loadName_local I.ok.kind hk hn hm fin) hd
  · rcases hk with hk | hk
    · exact wpAny_Name (wpAny_loadName_cell I.ok.kind hk hc hcell fin) hd
    · exact wpAny_Name (wpAny_loadName_free I.ok.kind hk hc hcell fin hcd) hd
theorem pe_int {i j pos} : PE X (.Constant (.int i) j pos) (tC (.int i)) := fun _ _ _ H _ I h => wpAny_Constant_int ⟨.int i, H, I.tok _, ⟨_, rfl⟩, h⟩
theorem pe_bl {b j pos} : PE X (.Constant (.bool b) j pos) (tC (.bl b)) := fun _ _ _ H _ I h => Constant_bool ⟨.bl b, H, I, rfl, h⟩
theorem pe_str {x j pos} : PE X (.Constant (.str x) j pos) (tC (.str x)) := fun _ _ _ H _ I h => Calls.Constant_str ⟨.str x, H, I.tok _, ⟨_, rfl⟩, h⟩

/-- a global name of the def -/
noncomputable def Gl (X : Cx) (x : Str) : Prop := X.env.kindOf x = some .globalImplicit
theorem ld_glob {E : Value → Shared → Prop} {pins : List (Addr × Obj)} {s : Shared} {σ : St} {H : Hp} {x : Str} {u : Value} {pos : Pos} {Q : Value → Shared → Prop} (I : Inv X pins σ H s) (hg : Gl X x) (hm : X.mg x = some u) (h : Q u s)
    (hd : (x == ("__debug__" : Str)) = false := by decide) : wpAny (model X.prog X.w) X.A (eval (.Name x pos) X.env) Q E s :=
  Calls.Name_function_global I.ok.kind hg (Calls.loadGlobal_global (by rw [I.ok.glob]; exact I.mod.glob.keeps I.bk) hm h) hd
theorem ld_blt {E : Value → Shared → Prop} {pins : List (Addr × Obj)} {s : Shared} {σ : St} {H : Hp} {x : Str} {u : Value} {pos : Pos} {Q : Value → Shared → Prop} (I : Inv X pins σ H s) (hg : Gl X x) (hm : X.mg x = none) (hv : bootBuiltins x = some u) (h : Q u s)
    (hn : x ≠ "__name__" := by decide) (hd : (x == ("__debug__" : Str)) = false := by decide) : wpAny (model X.prog X.w) X.A (eval (.Name x pos) X.env) Q E s := by
  obtain ⟨mb, h1, h2⟩ := I.mod.blt
  exact Calls.Name_function_global I.ok.kind hg (Calls.loadGlobal_builtin (by rw [I.ok.glob]; exact I.mod.glob.keeps I.bk) hm (by rw [I.ok.blt]; exact h1.keeps I.bk) ((h2 x hn).trans hv) h) hd
theorem pe_bltn {x : Str} {v : V} {u : Value} {pos : Pos} (hg : Gl X x) (hm : X.mg x = none) (hv : bootBuiltins x = some u) (r : RelV v u) (hn : x ≠ "__name__" := by decide) (hd : (x == ("__debug__" : Str)) = false := by decide) : PE X (.Name x pos) (tC v) :=
  fun _ _ _ H _ I h => ld_blt I hg hm hv ⟨v, H, I, r, h⟩ hn hd

/-! ### arithmetic -/
/-- two ints -/
noncomputable def t2I (ta tb : TE) (k : Int → Int → Hp → Prop) : St → Hp → Prop := fun σ H => ta σ H fun x H1 => tb σ H1 fun y H2 => ∃ i j, x = .int i ∧ y = .int j ∧ k i j H2
noncomputable def tAdd (ta tb : TE) : TE := fun σ H Q => t2I ta tb (fun i j H2 => Q (.int (i + j)) H2) σ H
noncomputable def tSub (ta tb : TE) : TE := fun σ H Q => t2I ta tb (fun i j H2 => Q (.int (i - j)) H2) σ H
/-- the left factor below 2^64 -/
noncomputable def tMul (ta tb : TE) : TE := fun σ H Q => t2I ta tb (fun i j H2 => (-(2 ^ 64) < i ∧ i < 2 ^ 64) ∧ Q (.int (i * j)) H2) σ H
variable {a b : Expr} {ta tb : TE} {pos : Pos}
/-! ### comparisons -/
noncomputable def PC (X : Cx) (op : CmpOp) (a b : Expr) (t : TE) : Prop :=
  ∀ (pins : List (Addr × Obj)) (s : Shared) (σ : St) (H : Hp) (Q : VK), Inv X pins σ H s → t σ H Q →
    wpAny (model X.prog X.w) X.A (eval a X.env) (fun v s₁ => wpAny (model X.prog X.w) X.A (eval b X.env) (fun u s₂ => wpAny (model X.prog X.w) X.A (compareOp op v u) (EP X pins σ Q) X.xe s₂) X.xe s₁) X.xe s
theorem nobehind (b : Expr) {op : CmpOp} (h : op ≠ .In) (h2 : op ≠ .NotIn) : behindInMarks op b = false := by
  have e1 : (op == CmpOp.In) = false := by cases op <;> first | rfl | exact absurd rfl h
  have e2 : (op == CmpOp.NotIn) = false := by cases op <;> first | rfl | exact absurd rfl h2
  cases b <;> simp [behindInMarks, e1, e2]
noncomputable def tCmp (p : Int → Int → Bool) (ta tb : TE) : TE := fun σ H Q => t2I ta tb (fun i j H2 => Q (.bl (p i j)) H2) σ H
abbrev tLt : TE → TE → TE := tCmp fun i j => decide (i < j)
abbrev tLe : TE → TE → TE := tCmp fun i j => decide (i ≤ j)
abbrev tGt : TE → TE → TE := tCmp fun i j => decide (j < i)
abbrev tGe : TE → TE → TE := tCmp fun i j => decide (j ≤ i)
abbrev tEqI : TE → TE → TE := tCmp fun i j => decide (i = j)
abbrev tNeI : TE → TE → TE := tCmp fun i j => !decide (i = j)
/-- is None -/
noncomputable def tIsN (ta : TE) : TE := fun σ H Q => ta σ H fun x H1 => Q (.bl (decide (x = .non))) H1
noncomputable def tNotN (ta : TE) : TE := fun σ H Q => ta σ H fun x H1 => Q (.bl (!decide (x = .non))) H1
/-- a comparison as a value, as a test -/
noncomputable def tB (t : TE) : TT := fun σ H Q => t σ H fun x H1 => ∃ c, x = .bl c ∧ Q c H1
theorem pt_cmp {op : CmpOp} {t : TE} (h : PC X op a b t) (h1 : behindInMarks op b = false := by first | exact nobehind _ (by decide) (by decide) | rfl) : PT X (.Compare a [op] [b] pos) (tB t) := by
  intro pins s σ H Q I hw
  refine wpAny_isTrue_Compare1 (thn (h pins s σ H _ I hw) fun v s1 h1 => thn h1 fun u s2 h2 => thn h2 fun c s3 ⟨x, H1, I1, r1, q1⟩ => ?_) h1
  obtain ⟨d, rfl, q⟩ := q1
  cases r1
  exact wpAny_truthy_bool ⟨H1, I1, q⟩
/-- an expression whose value is a bool, as a test -/
theorem pt_val {e : Expr} {t : TE} (h : PE X e t) (he : ∀ whole, isTrue e X.env whole = (do let v ← whole; standAt e.pos; holding [v] (truthy v)) := by intro _; rfl) : PT X e (tB t) := by
  intro pins s σ H Q I hw
  refine isTrue_plain (thn (h pins s σ H _ I hw) fun v s1 ⟨x, H1, I1, r1, q1⟩ => ?_) (he _)
  obtain ⟨d, rfl, q⟩ := q1
  cases r1
  exact wpAny_truthy_bool ⟨H1, I1, q⟩

/-! ### and, or, not -/
variable {tA tB' : TT} {rest : List Expr}
noncomputable def tAnd (t u : TT) : TT := fun σ H Q => t σ H fun c H1 => if c = true then u σ H1 Q else Q false H1
noncomputable def tOr (t u : TT) : TT := fun σ H Q => t σ H fun c H1 => if c = true then Q true H1 else u σ H1 Q
noncomputable def tNot (t : TT) : TT := fun σ H Q => t σ H fun c H1 => Q (!c) H1
theorem pw_or1 (ha : PT X a tA) : PW X (.BoolOp .Or [a] pos) tA := by
  intro wh pins s σ H Q I h
  refine isTrue_or (thn (ha pins s σ H Q I h) fun c s1 e => ?_)
  cases c with
  | false => exact isTrue_or_nil e
  | true => exact e
theorem pw_or (ha : PT X a tA) (hb : PW X (.BoolOp .Or (b :: rest) pos) tB') : PW X (.BoolOp .Or (a :: b :: rest) pos) (tOr tA tB') := by
  intro wh pins s σ H Q I h
  refine isTrue_or (thn (ha pins s σ H _ I h) fun c s1 ⟨H1, I1, q1⟩ => ?_)
  cases c with
  | true => exact ⟨H1, I1, q1⟩
  | false => exact hb wh pins s1 σ H1 Q I1 q1
theorem pt_not (ha : PT X a tA) : PT X (.UnaryOp .Not a pos) (tNot tA) := by
  intro pins s σ H Q I h
  exact isTrue_not (ha pins s σ H (fun c H1 => Q (!c) H1) I h)
/-- .. as values (bools) -/
noncomputable def tAndV (ta tb : TE) : TE := fun σ H Q => ta σ H fun x H1 => ∃ c, x = .bl c ∧ if c = true then tb σ H1 Q else Q (.bl false) H1
noncomputable def tOrV (ta tb : TE) : TE := fun σ H Q => ta σ H fun x H1 => ∃ c, x = .bl c ∧ if c = true then Q (.bl true) H1 else tb σ H1 Q
noncomputable def tNotV (ta : TE) : TE := fun σ H Q => ta σ H fun x H1 => ∃ c, x = .bl c ∧ Q (.bl (!c)) H1
/-- a if t else b -/
noncomputable def tIf (t : TT) (ta tb : TE) : TE := fun σ H Q => t σ H fun c H1 => if c = true then ta σ H1 Q else tb σ H1 Q
end
end L2

namespace L2
open PySem PySem.Spec PyProof.Rows

/-! ### a list, a tuple that is read: tracked, frozen, or an object of the module -/
noncomputable def SqL (K : PySem.W.Frag) (H : Hp) (a : Addr) (xs : List V) : Prop :=
  Rd H a (.lst xs) ∨
    ∃ (o : Obj) (its : Array Value) (n : Nat), K.lookup a = some o ∧ o.cls = .type "list" ∧ o.dict = none ∧ o.data = .seq its n ∧ its.size ≤ sizeLine ∧ Vals xs its.toList
noncomputable def SqT (K : PySem.W.Frag) (H : Hp) (a : Addr) (xs : List V) : Prop :=
  Rd H a (.tup xs) ∨
    ∃ (o : Obj) (its : Array Value) (n : Nat), K.lookup a = some o ∧ o.cls = .type "tuple" ∧ o.data = .seq its n ∧ its.size ≤ sizeLine ∧ Vals xs its.toList
noncomputable def absV : Value → Option V
  | .none => some .non
  | .bool b => some (.bl b)
  | .int i _ => some (.int i)
  | .str x _ => some (.str x)
  | .bytes b _ => some (.byt b)
  | .float b _ => some (.flt b)
  | .ref a => some (.ref a)
  | .type n => some (.ty n)
  | _ => none
theorem RelV.abs {x : V} {u : Value} (r : RelV x u) : absV u = some x := by
  cases x with
  | non => cases r; rfl
  | bl _ => cases r; rfl
  | int _ => obtain ⟨t, rfl⟩ := r; rfl
  | str _ => obtain ⟨t, rfl⟩ := r; rfl
  | byt _ => obtain ⟨t, rfl⟩ := r; rfl
  | flt _ => obtain ⟨t, rfl⟩ := r; rfl
  | ref _ => cases r; rfl
  | ty _ => cases r; rfl
theorem RelV.inj {x y : V} {u : Value} (r : RelV x u) (q : RelV y u) : x = y := Option.some.inj (r.abs.symm.trans q.abs)
theorem Vals.inj : ∀ {xs ys : List V} {us : List Value}, Vals xs us → Vals ys us → xs = ys
  | _, _, _, .nil, .nil => rfl
  | _, _, _, .cons r t, .cons r' t' => by rw [r.inj r', Vals.inj t t']
section
variable {X : Cx} {pins : List (Addr × Obj)} {σ : St} {H : Hp} {s : Shared} {a : Addr} {xs ys : List V}
theorem SqL.of {K : PySem.W.Frag} (h : H a = some (.lst xs)) : SqL K H a xs := .inl (.inl h)
theorem SqT.of {K : PySem.W.Frag} (h : H a = some (.tup xs)) : SqT K H a xs := .inl (.inl h)
theorem Inv.list (I : Inv X pins σ H s) (h : SqL X.K H a xs) : ∃ its : List Value, Vals xs its ∧ PlainL s.heap a its.toArray ∧ xs.length ≤ sizeLine := by
  rcases h with h | ⟨o, its, n, hk, hc, hd, hs, hz, r⟩
  · obtain ⟨z, its, n, r, e⟩ := h.ok I.hok
    exact ⟨its, r, ⟨_, n, e, rfl, rfl, rfl⟩, z⟩
  · refine ⟨its.toList, r, ⟨o, n, I.kIn a o hk, hc, hd, by simpa using hs⟩, ?_⟩
    have e := r.length
    simp only [Array.length_toList] at e
    omega
theorem Inv.tuple (I : Inv X pins σ H s) (h : SqT X.K H a xs) : ∃ its : List Value, Vals xs its ∧ IsTup s.heap a its.toArray ∧ xs.length ≤ sizeLine := by
  rcases h with h | ⟨o, its, n, hk, hc, hs, hz, r⟩
  · obtain ⟨z, its, r, p⟩ := h.ok I.hok
    exact ⟨its, r, p, z⟩
  · refine ⟨its.toList, r, ⟨o, I.kIn a o hk, hc, n, by simpa using hs⟩, ?_⟩
    have e := r.length
    simp only [Array.length_toList] at e
    omega
theorem Inv.list_inj (I : Inv X pins σ H s) (h : SqL X.K H a xs) (h' : SqL X.K H a ys) : xs = ys := by
  obtain ⟨its, r, ⟨o, n, e, _, _, d⟩, _⟩ := I.list h
  obtain ⟨its', r', ⟨o', n', e', _, _, d'⟩, _⟩ := I.list h'
  rw [e] at e'; cases e'
  rw [d] at d'
  injection d' with d1 _
  have : its = its' := by simpa using congrArg Array.toList d1
  subst this
  exact r.inj r'
end

/-! ### another wish about exceptions -/
abbrev Cx.wish (X : Cx) (E : Value → Shared → Prop) : Cx := { X with xe := E }
/-- no exception leaves -/
abbrev Cx.nox (X : Cx) : Cx := X.wish fun _ _ => False
theorem Cx.Ok.wish {X : Cx} (ok : X.Ok) (E : Value → Shared → Prop) : (X.wish E).Ok :=
  ⟨ok.mod, ok.kind, ok.glob, ok.blt, ok.above, ok.inj, ok.has, ok.cab, ok.hd, ok.frames, ok.stk, ok.exf, ok.bs, ok.bsz, ok.noex, ok.exfs, ok.funs, ok.frf⟩
theorem Cx.Ok.unwish {X : Cx} {E : Value → Shared → Prop} (ok : (X.wish E).Ok) : X.Ok :=
  ⟨ok.mod, ok.kind, ok.glob, ok.blt, ok.above, ok.inj, ok.has, ok.cab, ok.hd, ok.frames, ok.stk, ok.exf, ok.bs, ok.bsz, ok.noex, ok.exfs, ok.funs, ok.frf⟩
section
variable {X : Cx} {pins : List (Addr × Obj)} {σ : St} {H : Hp} {s : Shared} {E : Value → Shared → Prop}
theorem Inv.wish (I : Inv X pins σ H s) (E : Value → Shared → Prop) : Inv (X.wish E) pins σ H s := ⟨I.ok.wish E, I.os, I.bare, I.base, I.loc, I.cell, I.free, I.freeC, I.pin, I.hok, I.len⟩
theorem Inv.unwish (I : Inv (X.wish E) pins σ H s) : Inv X pins σ H s := ⟨I.ok.unwish, I.os, I.bare, I.base, I.loc, I.cell, I.free, I.freeC, I.pin, I.hok, I.len⟩
theorem SP.unwish {D : Ends} {f : Flow} {s' : Shared} (h : SP (X.wish E) pins D f s') : SP X pins D f s' := by
  cases f with
  | next => obtain ⟨σ', H', I, q⟩ := h; exact ⟨σ', H', I.unwish, q⟩
  | brk => obtain ⟨σ', H', I, q⟩ := h; exact ⟨σ', H', I.unwish, q⟩
  | cont => obtain ⟨σ', H', I, q⟩ := h; exact ⟨σ', H', I.unwish, q⟩
  | ret u => obtain ⟨v, σ', H', I, r, q⟩ := h; exact ⟨v, σ', H', I.unwish, r, q⟩
theorem PE.nox {e : Expr} {t : TE} (h : PE X.nox e t) : PE X e t := fun pins s σ H Q I hw =>
  wpAny_mono (h pins s σ H Q (I.wish _) hw) (fun _ _ ⟨v, H', I', r, q⟩ => ⟨v, H', I'.unwish, r, q⟩) fun _ _ z => False.elim z
theorem PT.nox {e : Expr} {t : TT} (h : PT X.nox e t) : PT X e t := fun pins s σ H Q I hw =>
  wpAny_mono (h pins s σ H Q (I.wish _) hw) (fun _ _ ⟨H', I', q⟩ => ⟨H', I'.unwish, q⟩) fun _ _ z => False.elim z
theorem PSs.nox {st : List Stmt} {t : TS} (h : PSs X.nox st t) : PSs X st t := fun pins s σ H D I hw =>
  wpAny_mono (h pins s σ H D (I.wish _) hw) (fun _ _ q => q.unwish) fun _ _ z => False.elim z
end

/-! ### blocks and small statements -/
section
variable {X : Cx} {st : Stmt} {rest : List Stmt} {t u : TS} {e : Expr} {te : TE} {pos : Pos}
noncomputable def tNext : TS := fun D σ H => D.nx σ H
noncomputable def tSeq (t u : TS) : TS := fun D σ H => t { D with nx := u D } σ H
theorem pss_nil : PSs X [] tNext := fun _ _ σ H _ I h => wpAny_execs_nil ⟨σ, H, I, h⟩
theorem pss_cons (h1 : PS X st t) (h2 : PSs X rest u) : PSs X (st :: rest) (tSeq t u) := by
  intro pins s σ H D I h
  refine wpAny_execs_cons (thn (h1 pins s σ H { D with nx := u D } I h) fun f s1 q => ?_)
  cases f with
  | next =>
    obtain ⟨σ', H', I', q⟩ := q
    exact h2 pins s1 σ' H' D I' q
  | ret v => exact q
  | brk => exact q
  | cont => exact q
theorem pss_one (h1 : PS X st t) : PSs X [st] t := by
  intro pins s σ H D I h
  refine wpAny_execs_cons (thn (h1 pins s σ H D I h) fun f s1 q => ?_)
  cases f with
  | next => exact wpAny_execs_nil q
  | ret v => exact q
  | brk => exact q
  | cont => exact q
noncomputable def tBreak : TS := fun D σ H => D.bk σ H
noncomputable def tCont : TS := fun D σ H => D.ct σ H
/-- in a def's body nothing is shown -/
theorem Inv.quiet {pins : List (Addr × Obj)} {σ : St} {H : Hp} {s : Shared} (I : Inv X pins σ H s) : interactive X.env = false := by simp [interactive, I.ok.kind]
/-- an expression whose value is dropped -/
noncomputable def tDrop (te : TE) : TS := fun D σ H => te σ H fun _ H1 => D.nx σ H1
theorem ps_expr (he : PE X e te) (hs : swapsWith e none pos.line X.env = pure false := by rfl) : PS X (.Expr e pos) (tDrop te) := by
  intro pins s σ H D I h
  exact wpAny_Expr_any (thn (he pins s σ H _ I h) fun v s1 ⟨x, H1, I1, r1, q1⟩ => ⟨σ, H1, I1, q1⟩) I.quiet hs
noncomputable def tRet (te : TE) : TS := fun D σ H => te σ H D.rt
theorem ps_ret (he : PE X e te) : PS X (.Return (some e) pos) (tRet te) := by
  intro pins s σ H D I h
  exact wpAny_Return_some (thn (he pins s σ H _ I h) fun v s1 ⟨x, H1, I1, r1, q1⟩ => ⟨x, σ, H1, I1, r1, q1⟩)
noncomputable def tRetN : TS := fun D _ H => D.rt .non H
noncomputable def tIfS (c : TT) (t u : TS) : TS := fun D σ H => c σ H fun b H1 => if b = true then t D σ H1 else u D σ H1
theorem ps_if {c : Expr} {a b : List Stmt} {tc : TT} (hc : PT X c tc) (ha : PSs X a t) (hb : PSs X b u) : PS X (.If c a b pos) (tIfS tc t u) := by
  intro pins s σ H D I h
  refine wpAny_If (thn (hc pins s σ H _ I h) fun d s1 ⟨H1, I1, q1⟩ => ?_)
  cases d with
  | true => exact ha pins s1 σ H1 D I1 q1
  | false => exact hb pins s1 σ H1 D I1 q1
/-- code that the proof never comes to -/
noncomputable def tNever : TS := fun _ _ _ => False
end

/-! ### targets -/
abbrev TG := V → St → Hp → (St → Hp → Prop) → Prop
abbrev TGs := List V → St → Hp → (St → Hp → Prop) → Prop
noncomputable def PG (X : Cx) (target : Expr) (t : TG) : Prop :=
  ∀ (pins : List (Addr × Obj)) (s : Shared) (σ : St) (H : Hp) (v : V) (u : Value) (Q : St → Hp → Prop), Inv X pins σ H s → RelV v u → t v σ H Q →
    wpAny (model X.prog X.w) X.A (assign target X.env u) (fun _ s' => ∃ σ' H', Inv X pins σ' H' s' ∧ Q σ' H') X.xe s
/-- several targets, one after another -/
noncomputable def PGs (X : Cx) (ts : List Expr) (t : TGs) : Prop :=
  ∀ (pins : List (Addr × Obj)) (s : Shared) (σ : St) (H : Hp) (vs : List V) (us : List Value) (Q : St → Hp → Prop), Inv X pins σ H s → Vals vs us → t vs σ H Q →
    wpAny (model X.prog X.w) X.A (assignInOrder ((assignEach ts X.env).map (·.2)) us) (fun _ s' => ∃ σ' H', Inv X pins σ' H' s' ∧ Q σ' H') X.xe s
/-- o[i] = v, by values -/
abbrev TSet := V → V → V → Hp → (Hp → Prop) → Prop
noncomputable def PSet (X : Cx) (t : TSet) : Prop :=
  ∀ (pins : List (Addr × Obj)) (s : Shared) (σ : St) (H : Hp) (o i v : V) (ov iv u : Value) (Q : Hp → Prop), Inv X pins σ H s → RelV o ov → RelV i iv → RelV v u → t o i v H Q →
    wpAny (model X.prog X.w) X.A (setItem ov iv u) (fun _ s' => ∃ H', Inv X pins σ H' s' ∧ Q H') X.xe s
/-- a op= b, by values -/
abbrev TIp := V → V → Hp → VK → Prop
noncomputable def PIp (X : Cx) (op : Operator) (t : TIp) : Prop :=
  ∀ (pins : List (Addr × Obj)) (s : Shared) (σ : St) (H : Hp) (x y : V) (v u : Value) (Q : VK), Inv X pins σ H s → RelV x v → RelV y u → t x y H Q →
    wpAny (model X.prog X.w) X.A (inplaceOp op v u) (EP X pins σ Q) X.xe s
section
variable {X : Cx} {pos : Pos}
noncomputable def gName (i : Nat) : TG := fun v σ H Q => Q (σ.set i (some v)) H
theorem pg_name {i : Nat} {x : Str} (hN : X.N.Nodup) (hi : X.N[i]? = some x) (hx : Loc X.env.scope x) (hf : X.fn x = true ∨ X.env.scope.names.lookup x = some .local := by first | exact .inl rfl | exact .inr rfl | assumption) : PG X (.Name x pos) (gName i) := by
  intro pins s σ H v u Q I r h
  exact wpAny_assign_Name (store_ok I hN hi hx r (fun s' I' => ⟨_, H, I', h⟩) hf)
noncomputable def gNil : TGs := fun vs σ H Q => vs = [] ∧ Q σ H
noncomputable def gCons (t : TG) (u : TGs) : TGs := fun vs σ H Q => ∃ v r, vs = v :: r ∧ t v σ H fun σ' H' => u r σ' H' Q
theorem pgs_nil : PGs X [] gNil := by
  intro pins s σ H vs us Q I r h
  obtain ⟨e, h⟩ := h
  subst e
  cases r
  exact assignInOrder_nil ⟨σ, H, I, h⟩
theorem pgs_cons {e : Expr} {es : List Expr} {t : TG} {u : TGs} (h1 : PG X e t) (h2 : PGs X es u)
    (hs : (assignEach (e :: es) X.env).map (·.2) = assign e X.env :: (assignEach es X.env).map (·.2) := by rfl) : PGs X (e :: es) (gCons t u) := by
  intro pins s σ H vs us Q I r h
  obtain ⟨v, vr, e1, h⟩ := h
  subst e1
  cases r with
  | cons r rr =>
    rw [hs]
    refine assignInOrder_cons (thn (h1 pins s σ H _ _ _ I r h) fun _ s1 ⟨σ1, H1, I1, q1⟩ => ?_)
    exact h2 pins s1 σ1 H1 _ _ Q I1 rr q1
/-- (a, b, ..) = a tuple of that length -/
noncomputable def gTup (K : PySem.W.Frag) (n : Nat) (t : TGs) : TG := fun v σ H Q => ∃ a xs, v = .ref a ∧ SqT K H a xs ∧ xs.length = n ∧ t xs σ H Q
theorem pg_tup {es : List Expr} {k : Nat} {t : TGs} {n : Nat} (hc : X.calm = true) (h : PGs X es t)
    (hn : (assignEach es X.env).length = n := by rfl) (hst : (assignEach es X.env).findIdx? (·.1) = none := by rfl) : PG X (.Tuple es k pos) (gTup X.K n t) := by
  intro pins s σ H v u Q I r hw
  obtain ⟨a, xs, e1, hq, hl, hw⟩ := hw
  subst e1
  cases r
  obtain ⟨its, rv, ht, hz⟩ := I.tuple hq
  refine assign_Tuple_tuple (I.ok.hd hc) ht (by simp [hn, ← hl, rv.length]) hst fun h' hx => ?_
  have I1 : Inv X pins σ H { s with heap := h' } := I.kept (t' := s.toks) fun b o e => hx b o (Nat.ne_of_lt (Heap.lt_size e)) e
  exact h pins _ σ H xs _ Q I1 (by simpa using rv) hw
/-- o[i] = .. -/
noncomputable def gSub (to ti : TE) (t : TSet) : TG := fun v σ H Q => to σ H fun o H1 => ti σ H1 fun i H2 => t o i v H2 fun H3 => Q σ H3
theorem pg_sub {o i : Expr} {to ti : TE} {t : TSet} (ho : PE X o to) (hi : PE X i ti) (hs : PSet X t)
    (ha : ∀ v, assign (.Subscript o i pos) X.env v = (do
      let ov ← holding [v] (eval o X.env)
      let iv ← holding [v, ov] (eval i X.env)
      standAt pos
      holding [v, ov, iv] (setItem ov iv v)
      release [v, ov, iv] []) := by intro _; rfl) : PG X (.Subscript o i pos) (gSub to ti t) := by
  intro pins s σ H v u Q I r h
  rw [ha]
  refine wpAny_bind (wpAny_holding (thn (ho pins s σ H _ I h) fun ov s1 ⟨x, H1, I1, r1, q1⟩ => ?_))
  refine wpAny_bind (wpAny_holding (thn (hi pins s1 σ H1 _ I1 q1) fun iv s2 ⟨y, H2, I2, r2, q2⟩ => ?_))
  refine wpAny_bind (wpAny_standAt (wpAny_bind (wpAny_holding (thn (hs pins s2 σ H2 x y v ov iv u _ I2 r1 r2 r q2) fun _ s3 ⟨H3, I3, q3⟩ => ?_))))
  exact wpAny_release ⟨σ, H3, I3, q3⟩
/-- target = value -/
noncomputable def tAsg (te : TE) (g : TG) : TS := fun D σ H => te σ H fun x H1 => g x σ H1 D.nx
theorem ps_asg {tg e : Expr} {te : TE} {g : TG} (he : PE X e te) (hg : PG X tg g) (hs : swapsWithSole [tg] e pos.line X.env = pure false := by rfl) (hw : swappedStores [tg] e X.env = pure none := by rfl)
    (h1 : (assignEach [tg] X.env).map (·.2) = [assign tg X.env] := by rfl) : PS X (.Assign [tg] e pos) (tAsg te g) := by
  intro pins s σ H D I h
  refine wpAny_Assign_stores (thn (he pins s σ H _ I h) fun v s1 ⟨x, H1, I1, r1, q1⟩ => ?_) hs hw
  rw [h1]
  exact thn (hg pins s1 σ H1 x v _ I1 r1 q1) fun _ s2 q => q
/-- name = value -/
theorem ps_set {i : Nat} {x : Str} {e : Expr} {te : TE} {pos' : Pos} (hN : X.N.Nodup) (hi : X.N[i]? = some x) (hx : Loc X.env.scope x) (he : PE X e te) (hs : swapsWith e (some (.Name x pos')) pos.line X.env = pure false := by rfl) (hf : X.fn x = true ∨ X.env.scope.names.lookup x = some .local := by first | exact .inl rfl | exact .inr rfl | assumption) :
    PS X (.Assign [.Name x pos'] e pos) (tAsg te (gName i)) := by
  intro pins s σ H D I h
  refine wpAny_Assign_Name (thn (he pins s σ H _ I h) fun v s1 ⟨y, H1, I1, r1, q1⟩ => ?_) hs
  exact store_ok I1 hN hi hx r1 (fun s2 I2 => ⟨_, H1, I2, q1⟩) hf
/-- a, b = x, y with plain local names: stored from the right; the pair itself is not tracked (the opening rows as in PyProof/Rows/TupAssign.lean:23) -/
noncomputable def tPar (i j : Nat) (ta : TA) : TS := fun D σ H => ta σ H fun vs H1 => ∃ v w, vs = [v, w] ∧ D.nx ((σ.set i (some v)).set j (some w)) H1
/-- name op= e -/
noncomputable def tAug (i : Nat) (te : TE) (ti : TIp) : TS := fun D σ H => ∃ x, σ[i]? = some (some x) ∧ te σ H fun y H1 => ti x y H1 fun z H2 => D.nx (σ.set i (some z)) H2
/-- o[i] op= e -/
noncomputable def tAugS (to ti te : TE) (tget : V → V → Hp → VK → Prop) (tip : TIp) (tset : TSet) : TS := fun D σ H => to σ H fun o H1 => ti σ H1 fun i H2 => tget o i H2 fun x H3 => te σ H3 fun y H4 => tip x y H4 fun z H5 => tset o i z H5 fun H6 => D.nx σ H6
/-- o[i], by values -/
noncomputable def PGet (X : Cx) (t : V → V → Hp → VK → Prop) : Prop :=
  ∀ (pins : List (Addr × Obj)) (s : Shared) (σ : St) (H : Hp) (o i : V) (ov iv : Value) (Q : VK), Inv X pins σ H s → RelV o ov → RelV i iv → t o i H Q →
    wpAny (model X.prog X.w) X.A (getItem ov iv) (EP X pins σ Q) X.xe s
/-- ints -/
noncomputable def ipI (f : Int → Int → Int) : TIp := fun x y H Q => ∃ i j, x = .int i ∧ y = .int j ∧ Q (.int (f i j)) H
end

/-! ### while -/
section
variable {X : Cx} {pos : Pos}
/-- the invariant W with its measure -/
noncomputable def tWhile (c : TT) (tb : TS) : TS := fun D σ H => ∃ W : Nat → St → Hp → Prop, (∃ m, W m σ H) ∧ ∀ m σ H, W m σ H →
  c σ H fun b H1 => if b = true then ∃ N : St → Hp → Prop, (∀ σ' H', N σ' H' → ∃ m', m' < m ∧ W m' σ' H') ∧ tb { D with nx := N, ct := N, bk := D.nx } σ H1 else D.nx σ H1
theorem ps_while {c : Expr} {body : List Stmt} {tc : TT} {tb : TS} (hp : PassesOwn (model X.prog X.w) X.A X.env X.xe) (hc : PT X c tc) (hb : PSs X body tb) : PS X (.While c body [] pos) (tWhile tc tb) := by
  intro pins s σ H D I h
  obtain ⟨W, ⟨m0, w0⟩, turn⟩ := h
  refine wpAny_While (codeAny_whileLoop (fun n s' => ∃ σ' H', Inv X pins σ' H' s' ∧ W n σ' H') ?_ m0 ⟨σ, H, I, w0⟩)
  rintro n s1 ⟨σ1, H1, I1, w1⟩
  refine wpAny_passesOwn hp (thn (hc pins s1 σ1 H1 _ I1 (turn n σ1 H1 w1)) fun b s2 ⟨H2, I2, q2⟩ => ?_)
  cases b with
  | true =>
    obtain ⟨N, hN, q2⟩ := q2
    rw [if_pos rfl]
    refine wpAny_passesOwn hp (thn (hb pins s2 σ1 H2 _ I2 q2) fun f s3 q3 => ?_)
    cases f with
    | next =>
      obtain ⟨σ3, H3, I3, n3⟩ := q3
      obtain ⟨m', hm, w3⟩ := hN σ3 H3 n3
      exact ⟨m', hm, σ3, H3, I3, w3⟩
    | cont =>
      obtain ⟨σ3, H3, I3, n3⟩ := q3
      obtain ⟨m', hm, w3⟩ := hN σ3 H3 n3
      exact ⟨m', hm, σ3, H3, I3, w3⟩
    | brk => exact q3
    | ret v => exact q3
  | false =>
    rw [if_neg Bool.false_ne_true]
    exact wpAny_execs_nil ⟨σ1, H2, I2, q2⟩
end

/-! ### what a loop or a comprehension walks -/
/-- at turn i: it yields x (the heap may grow), or it stops -/
structure It where
  go : Nat → Hp → Prop
  yld : Nat → Hp → V → Hp → Prop
  stop : Nat → Hp → Prop
/-- the iterator's own objects may turn: they are not the frame's, not pinned, younger than the entry (or a comprehension's own) -/
noncomputable def FpOk (X : Cx) (pins : List (Addr × Obj)) (H : Hp) (b : Addr) : Prop :=
  H b = none ∧ b ≠ X.env.locals ∧ b ∉ X.fs ∧ (b ∈ X.ex ∨ X.s₀.heap.objs.size ≤ b) ∧ (∀ x c, X.env.cells.lookup x = some c → c ≠ b) ∧ ∀ p ∈ X.pn ++ pins, p.1 ≠ b
theorem Inv.fpOk {X : Cx} {pins : List (Addr × Obj)} {σ : St} {H H' : Hp} {s : Shared} {b : Addr} (I : Inv X pins σ H s) (hb : s.heap.objs.size ≤ b) (hn : H' b = none) : FpOk X pins H' b := by
  refine ⟨hn, Nat.ne_of_gt (Nat.lt_of_lt_of_le I.lt hb), I.nofs hb, .inr (Nat.le_trans I.sz hb), fun x c e z => ?_, fun p hp z => ?_⟩
  · obtain ⟨v, q⟩ := I.cell x c e
    exact absurd (Nat.lt_of_lt_of_le q.lt (by rw [z]; exact hb)) (Nat.lt_irrefl _)
  · exact absurd (Nat.lt_of_lt_of_le (Heap.lt_size (I.pin p hp).1) (by rw [z]; exact hb)) (Nat.lt_irrefl _)
structure Turn (P : Program) (w : World) (K : PySem.W.Frag) (tg : Expr) (J : It) (fp : List Addr) (it : Addr) (tn : Nat → Heap → Prop) : Prop where
  mem : it ∈ fp
  obj : ∀ i h, tn i h → ∀ b ∈ fp, ∃ o, h.get? b = some o ∧ ∀ v, o.data ≠ .cell v
  keep : ∀ i h h', tn i h → (∀ b ∈ fp, ∀ o, h.get? b = some o → h'.get? b = some o) → tn i h'
  item : ∀ (X : Cx), X.prog = P → X.w = w → X.K = K → X.calm = true → ∀ (i : Nat) (pins : List (Addr × Obj)) (s : Shared) (σ : St) (H : Hp) (E : Value → Shared → Prop), Inv X pins σ H s → (∀ b ∈ fp, FpOk X pins H b) → tn i s.heap → J.go i H →
    wpAny (model P w) X.A (pyNext (.ref it)) (fun r s1 => ∃ u, r = some u ∧
      wpAny (model P w) X.A (letOwnedTupleGo tg (.ref it) u) (fun _ s2 => ∃ x H', Inv X pins σ H' s2 ∧ RelV x u ∧ J.yld i H x H' ∧ tn (i + 1) s2.heap ∧ ∀ b ∈ fp, H' b = none) E s1) E s
  done : ∀ (X : Cx), X.prog = P → X.w = w → X.K = K → X.calm = true → ∀ (i : Nat) (pins : List (Addr × Obj)) (s : Shared) (σ : St) (H : Hp) (E : Value → Shared → Prop), Inv X pins σ H s → (∀ b ∈ fp, FpOk X pins H b) → tn i s.heap → J.stop i H →
    wpAny (model P w) X.A (pyNext (.ref it)) (fun r s1 => r = none ∧ Inv X pins σ H s1) E s
  self : ∀ (A : Around) (i : Nat) (s : Shared) (Q : Value → Shared → Prop) (E : Value → Shared → Prop), tn i s.heap → Q (.ref it) s → wpAny (model P w) A (pyIter (.ref it)) Q E s
abbrev TI := St → Hp → (It → Hp → Prop) → Prop
/-- an iterator has come -/
noncomputable def PIE (X : Cx) (pins : List (Addr × Obj)) (σ : St) (tg : Expr) (R : It → Hp → Prop) (itv : Value) (s2 : Shared) : Prop :=
  ∃ (it : Addr) (fp : List Addr) (tn : Nat → Heap → Prop) (J : It) (H' : Hp), itv = .ref it ∧ Inv X pins σ H' s2 ∧ Turn X.prog X.w X.K tg J fp it tn ∧ tn 0 s2.heap ∧ (∀ b ∈ fp, FpOk X pins H' b) ∧ R J H'
noncomputable def PI (X : Cx) (tg iter : Expr) (wi : TI) : Prop :=
  ∀ (pins : List (Addr × Obj)) (s : Shared) (σ : St) (H : Hp) (R : It → Hp → Prop), Inv X pins σ H s → wi σ H R →
    wpAny (model X.prog X.w) X.A (eval iter X.env) (fun v s1 => wpAny (model X.prog X.w) X.A (pyIter v) (PIE X pins σ tg R) X.xe s1) X.xe s

/-- the step ahead of the store is nothing for an iterator that keeps no tuple -/
theorem go_of {M : Model} {A : Around} {E : Value → Shared → Prop} {s : Shared} {tg : Expr} {it : Addr} {u : Value} {o : Obj} {n : String} {vs : Array Value} {Q : Unit → Shared → Prop} (ho : s.heap.get? it = some o) (hc : o.cls = .type n) (hd : o.data = .fields vs)
    (hn : ["enumerate", "zip", "dict_itemiterator", "dict_reverseitemiterator", "odict_iterator", "itertools.zip_longest", "itertools.pairwise"].contains n = false) (hQ : Q () s) : wpAny M A (letOwnedTupleGo tg (.ref it) u) Q E s := by
  unfold letOwnedTupleGo
  cases tg <;> first
    | exact wpAny_pure hQ
    | (cases u <;> first
        | exact wpAny_pure hQ
        | (refine wpAny_bind (wpAny_load ho ?_)
           rw [hc, hd]
           show wpAny M A (if (["enumerate", "zip", "dict_itemiterator", "dict_reverseitemiterator", "odict_iterator", "itertools.zip_longest", "itertools.pairwise"].contains n && vs[0]? == some (rawInt _)) = true then _ else _) Q E s
           rw [if_neg (by intro h; rw [hn, Bool.false_and] at h; cases h)]
           exact wpAny_pure hQ))

/-- the list at a, as it stands at each turn (a loop may append to it) -/
noncomputable def Itl (K : PySem.W.Frag) (a : Addr) : It :=
  ⟨fun i H => ∃ xs x, SqL K H a xs ∧ xs[i]? = some x, fun i H x H' => H' = H ∧ ∀ xs, SqL K H a xs → xs[i]? = some x, fun i H => ∃ xs, SqL K H a xs ∧ xs.length ≤ i⟩
noncomputable def Itt (K : PySem.W.Frag) (a : Addr) : It :=
  ⟨fun i H => ∃ xs x, SqT K H a xs ∧ xs[i]? = some x, fun i H x H' => H' = H ∧ ∀ xs, SqT K H a xs → xs[i]? = some x, fun i H => ∃ xs, SqT K H a xs ∧ xs.length ≤ i⟩
/-- lo, lo + 1, .. (n of them) -/
noncomputable def Itr (lo : Int) (n : Nat) : It := ⟨fun i _ => i < n, fun i H x H' => H' = H ∧ x = .int (lo + i), fun i _ => n ≤ i⟩
theorem turn_list {P : Program} {w : World} {K : PySem.W.Frag} {tg : Expr} (a it : Addr) : Turn P w K tg (Itl K a) [it] it (fun i h => h.IsListIter it a i) where
  mem := by simp
  obj := fun i h st b hb => by
    have e : b = it := by simpa using hb
    subst e
    obtain ⟨o, e, c, d⟩ := st
    exact ⟨o, e, fun v z => by rw [d] at z; cases z⟩
  keep := fun i h h' st k => st.at fun o e => k it (by simp) o e
  item := by
    intro X hP hw hK hc i pins s σ H E I hf st hg
    subst hP hw hK
    obtain ⟨xs, x, hq, hx⟩ := hg
    obtain ⟨its, rv, p, hz⟩ := I.list hq
    obtain ⟨u, hu, ru⟩ := rv.get hx
    obtain ⟨f0, f1, f2, f3, f4, f5⟩ := hf it (by simp)
    refine wpAny_pyNext_list_item st p.isList (x := u) (by simpa using hu) fun h' st' sb => ?_
    have I1 : Inv X pins σ H { s with heap := h' } := I.turned (t' := s.toks) (fun b o hb e => (sb.2 b hb).trans e) f0 f1 f3 f4 f5
    obtain ⟨o, e, c, d⟩ := id st'
    exact ⟨u, rfl, go_of (s := { s with heap := h' }) e c d (by decide) ⟨x, H, I1, ru, ⟨rfl, fun ys hy => by rw [I.list_inj hy hq]; exact hx⟩, st', fun b hb => (hf b hb).1⟩⟩
  done := by
    intro X hP hw hK hc i pins s σ H E I hf st hg
    subst hP hw hK
    obtain ⟨xs, hq, hx⟩ := hg
    obtain ⟨its, rv, p, hz⟩ := I.list hq
    obtain ⟨f0, f1, f2, f3, f4, f5⟩ := hf it (by simp)
    have hl := rv.length
    exact wpAny_pyNext_list_end (I.ok.hd hc) st p.isList (by simp; omega) fun h' eb => ⟨rfl, I.turned (t' := s.toks) (fun b o hb e => eb b o hb e) f0 f1 f3 f4 f5⟩
  self := fun _ _ _ _ _ st h => wpAny_pyIter_listiter st h
theorem turn_range {P : Program} {w : World} {K : PySem.W.Frag} {tg : Expr} (it : Addr) (lo : Int) (n : Nat) : Turn P w K tg (Itr lo n) [it] it (fun i h => IsRangeIter h it (lo + (i : Nat) * 1) ((n : Int) - (i : Nat)) 1) where
  mem := by simp
  obj := fun i h st b hb => by
    have e : b = it := by simpa using hb
    subst e
    exact ⟨_, st, fun v z => by
      have z' : Data.fields _ = Data.cell v := z
      cases z'⟩
  keep := fun i h h' st k => k it (by simp) _ st
  item := by
    intro X hP hw hK hc i pins s σ H E I hf st hg
    subst hP hw hK
    obtain ⟨f0, f1, f2, f3, f4, f5⟩ := hf it (by simp)
    have W := Walks.range (prog := X.prog) (w := X.w) (I.ok.hd hc) it lo 1 n
    refine W.item i s _ _ hg st fun v h' tk hv st' kk => ?_
    obtain ⟨t, rfl⟩ := hv
    have I1 : Inv X pins σ H { s with heap := h', toks := tk } := I.turned (fun b o hb e => kk b o (by simpa using hb) e) f0 f1 f3 f4 f5
    refine ⟨_, rfl, go_of (s := { s with heap := h', toks := tk }) (n := "range_iterator") st' rfl rfl (by decide) ⟨.int (lo + i), H, I1, ⟨t, ?_⟩, ⟨rfl, rfl⟩, st', fun b hb => (hf b hb).1⟩⟩
    rw [Int.mul_one]
  done := by
    intro X hP hw hK hc i pins s σ H E I hf st hg
    subst hP hw hK
    obtain ⟨f0, f1, f2, f3, f4, f5⟩ := hf it (by simp)
    exact wpAny_pyNext_range_end (I.ok.hd hc) st (by have : n ≤ i := hg; omega) fun h' eb => ⟨rfl, I.turned (t' := s.toks) (fun b o hb e => eb b o hb e) f0 f1 f3 f4 f5⟩
  self := fun _ _ _ _ _ st h => wpAny_pyIter_rangeiter st h
end L2

namespace L2
open PySem PySem.Spec PyProof.Rows
section
variable {X : Cx} {tg : Expr}
noncomputable def iList (K : PySem.W.Frag) (tl : TE) : TI := fun σ H R => tl σ H fun x H1 => ∃ a, x = .ref a ∧ (∃ xs, SqL K H1 a xs) ∧ R (Itl K a) H1
noncomputable def iTup (K : PySem.W.Frag) (tl : TE) : TI := fun σ H R => tl σ H fun x H1 => ∃ a, x = .ref a ∧ (∃ xs, SqT K H1 a xs) ∧ R (Itt K a) H1
theorem pi_list {l : Expr} {tl : TE} (hl : PE X l tl) : PI X tg l (iList X.K tl) := by
  intro pins s σ H R I h
  refine thn (hl pins s σ H _ I h) fun v s1 ⟨x, H1, I1, r1, q1⟩ => ?_
  obtain ⟨a, e, ⟨xs, hq⟩, q⟩ := q1
  subst e
  cases r1
  obtain ⟨its, rv, p, hz⟩ := I1.list hq
  refine wpAny_pyIter_list p.isList ?_
  refine ⟨s1.heap.objs.size, [s1.heap.objs.size], _, _, H1, rfl, I1.kept (t' := s1.toks) fun b o e => Heap.get?_push_of_some _ e, turn_list a _, ⟨_, Heap.get?_push_size _ rfl, rfl, rfl⟩, fun b hb => ?_, q⟩
  have e : b = s1.heap.objs.size := by simpa using hb
  subst e
  exact I1.fpOk (Nat.le_refl _) (I1.hok.fresh (Nat.le_refl _))
/-- a range object just made, walked -/
theorem range_it {pins : List (Addr × Obj)} {σ : St} {H : Hp} {s : Shared} {R : It → Hp → Prop} {E : Value → Shared → Prop} {lo hi : Int} {t u v : Tok} {tk : Nat} (I : Inv X pins σ H s) (h1 : -(2 ^ 62) ≤ lo) (h2 : lo < 2 ^ 62) (h3 : -(2 ^ 62) ≤ hi) (h4 : hi < 2 ^ 62)
    (q : R (Itr lo (hi - lo).toNat) H) : wpAny (model X.prog X.w) X.A (pyIter (.ref s.heap.objs.size)) (PIE X pins σ tg R) E { s with heap := s.heap.push { cls := .type "range", data := .fields #[.int lo t, .int hi u, .int 1 v] }, toks := tk } := by
  refine wpAny_pyIter_range (IsRange.new ..) (small_one h1 h2 h3 h4) ?_
  have I1 : Inv X pins σ H { s with heap := s.heap.push { cls := .type "range", data := .fields #[.int lo t, .int hi u, .int 1 v] }, toks := tk } := I.kept fun b o e => Heap.get?_push_of_some _ e
  refine ⟨(s.heap.push { cls := .type "range", data := .fields #[.int lo t, .int hi u, .int 1 v] }).objs.size, [(s.heap.push { cls := .type "range", data := .fields #[.int lo t, .int hi u, .int 1 v] }).objs.size], _, _, H, rfl,
    I1.kept (t' := tk) fun b o e => Heap.get?_push_of_some _ e, turn_range _ lo (hi - lo).toNat, ?_, fun b hb => ?_, q⟩
  · have e1 : lo + ((0 : Nat) : Int) * 1 = lo := by simp
    have e2 : (((hi - lo).toNat : Nat) : Int) - ((0 : Nat) : Int) = Builtin.Range.rangeSize lo hi 1 := by rw [rangeSize_one]; split <;> omega
    show IsRangeIter _ _ (lo + ((0 : Nat) : Int) * 1) ((((hi - lo).toNat : Nat) : Int) - ((0 : Nat) : Int)) 1
    rw [e1, e2]
    exact Heap.get?_push_size _ rfl
  · have e : b = (s.heap.push { cls := .type "range", data := .fields #[.int lo t, .int hi u, .int 1 v] }).objs.size := by simpa using hb
    subst e
    exact I1.fpOk (Nat.le_refl _) (I1.hok.fresh (Nat.le_refl _))
noncomputable def iRng1 (ta : TA) : TI := fun σ H R => ta σ H fun vs H1 => ∃ j : Int, vs = [.int j] ∧ -(2 ^ 62) ≤ j ∧ j < 2 ^ 62 ∧ R (Itr 0 j.toNat) H1
noncomputable def iRng2 (ta : TA) : TI := fun σ H R => ta σ H fun vs H1 => ∃ i j : Int, vs = [.int i, .int j] ∧ (-(2 ^ 62) ≤ i ∧ i < 2 ^ 62 ∧ -(2 ^ 62) ≤ j ∧ j < 2 ^ 62) ∧ R (Itr i (j - i).toNat) H1
theorem pi_range1 {a : Expr} {ta : TA} {p pos : Pos} (hg : Gl X "range") (hm : X.mg "range" = none) (ha : PA X [a] ta) (hs : starEach [a] X.env = [(false, eval a X.env)] := by rfl) : PI X tg (.Call (.Name "range" p) [a] [] pos) (iRng1 ta) := by
  intro pins s σ H R I h
  refine Call_ (ld_blt I hg hm boot_range (PyProof.Rows.callWith_type1 (thn (ha pos pins s σ H _ I h) fun us s1 ⟨vs, H1, I1, r1, q1⟩ => ?_) hs rfl))
  obtain ⟨j, e, q1, q2, q⟩ := q1
  subst e
  cases r1 with
  | cons r rr =>
    cases rr
    obtain ⟨t, rfl⟩ := r
    exact call_range_1 (range_it I1 (by omega) (by omega) q1 q2 (by simpa using q))
/-! ### for -/
/-- W: the invariant by the turn and a measure; N: what the body is to reach -/
noncomputable def tFor (wi : TI) (g : TG) (tb : TS) : TS := fun D σ H => wi σ H fun J H1 => ∃ W : Nat → Nat → St → Hp → Prop, (∃ m, W 0 m σ H1) ∧ ∀ i m σ H, W i m σ H →
  (J.stop i H ∧ D.nx σ H) ∨ (J.go i H ∧ ∃ N : St → Hp → Prop, (∀ σ' H', N σ' H' → ∃ m', m' < m ∧ W (i + 1) m' σ' H') ∧ ∀ x H', J.yld i H x H' → g x σ H' fun σ2 H2 => tb { D with nx := N, ct := N, bk := D.nx } σ2 H2)
/-- the records at fp as they stand -/
noncomputable def pinsAt (fp : List Addr) (h : Heap) : List (Addr × Obj) := fp.filterMap fun b => (h.get? b).map fun o => (b, o)
theorem mem_pinsAt {fp : List Addr} {h : Heap} {b : Addr} {o : Obj} (hb : b ∈ fp) (e : h.get? b = some o) : (b, o) ∈ pinsAt fp h := List.mem_filterMap.mpr ⟨b, hb, by rw [e]; rfl⟩
theorem of_pinsAt {fp : List Addr} {h : Heap} {p : Addr × Obj} (hp : p ∈ pinsAt fp h) : p.1 ∈ fp ∧ h.get? p.1 = some p.2 := by
  obtain ⟨b, hb, e⟩ := List.mem_filterMap.mp hp
  cases q : h.get? b with
  | none => rw [q] at e; cases e
  | some o =>
    rw [q] at e
    have e' : (b, o) = p := Option.some.inj e
    subst e'
    exact ⟨hb, q⟩
theorem Inv.pinned {pins : List (Addr × Obj)} {σ : St} {H : Hp} {s : Shared} {fp : List Addr} (I : Inv X pins σ H s) (hf : ∀ b ∈ fp, FpOk X pins H b) (ho : ∀ b ∈ fp, ∃ o, s.heap.get? b = some o ∧ ∀ v, o.data ≠ .cell v) : Inv X (pins ++ pinsAt fp s.heap) σ H s :=
  I.pins_of fun p hp => (List.mem_append.mp hp).elim (fun z => I.pin p (List.mem_append_right _ z)) fun z => by
    obtain ⟨hb, e⟩ := of_pinsAt z
    obtain ⟨f0, f1, f2, _⟩ := hf p.1 hb
    obtain ⟨o, e', d⟩ := ho p.1 hb
    rw [e] at e'; cases e'
    exact ⟨e, f0, f1, f2, d⟩
theorem Inv.unpinned {pins pl : List (Addr × Obj)} {σ : St} {H : Hp} {s : Shared} (I : Inv X (pins ++ pl) σ H s) : Inv X pins σ H s := I.pins_of fun p hp => I.pin p (List.mem_append_right _ (List.mem_append_left _ hp))
theorem ps_for {iter : Expr} {body : List Stmt} {wi : TI} {g : TG} {tb : TS} {pos : Pos} (hp : PassesOwn (model X.prog X.w) X.A X.env X.xe) (hc : X.calm = true) (hi : PI X tg iter wi) (hg : PG X tg g) (hb : PSs X body tb)
    (hs : ∀ x, foldedSetIterable iter X.env x = pure x := by intro _; rfl) : PS X (.For tg iter body [] pos) (tFor wi g tb) := by
  intro pins s σ H D I h
  refine wpAny_For (thn (hi pins s σ H _ I h) fun v s1 h1 => thn h1 fun itv s2 h2 => ?_) hs
  obtain ⟨it, fp, tn, J, H2, e, I2, T, st2, f2, W, ⟨m0, w0⟩, turn⟩ := h2
  subst e
  -- what stays true of the iterator's objects through the loop
  have stat : ∀ {H' : Hp}, (∀ b ∈ fp, H' b = none) → ∀ b ∈ fp, FpOk X pins H' b := fun hn b hb => ⟨hn b hb, (f2 b hb).2⟩
  refine codeAny_forLoop_any (fun n s' => ∃ i σ' H', Inv X pins σ' H' s' ∧ tn i s'.heap ∧ (∀ b ∈ fp, H' b = none) ∧ W i n σ' H') ?_ m0 ⟨0, σ, H2, I2, st2, fun b hb => (f2 b hb).1, w0⟩
  rintro n s3 ⟨i, σ3, H3, I3, st3, fr3, w3⟩
  rcases turn i n σ3 H3 w3 with ⟨stop, qn⟩ | ⟨go, N, hN, step⟩
  · refine wpAny_passesOwn hp (thn (T.done X rfl rfl rfl hc i pins s3 σ3 H3 X.xe I3 (stat fr3) st3 stop) fun r s4 ⟨hr, I4⟩ => ?_)
    subst hr
    exact wpAny_execs_nil ⟨σ3, H3, I4, qn⟩
  · refine wpAny_passesOwn hp (thn (T.item X rfl rfl rfl hc i pins s3 σ3 H3 X.xe I3 (stat fr3) st3 go) fun r s4 ⟨u, hr, h4⟩ => ?_)
    subst hr
    refine wpAny_passesOwn hp (thn h4 fun _ s5 ⟨x, H5, I5, r5, y5, st5, fr5⟩ => ?_)
    have I5' := I5.pinned (stat fr5) (T.obj _ _ st5)
    refine wpAny_passesOwn hp (thn (hg _ s5 σ3 H5 x u _ I5' r5 (step x H5 y5)) fun _ s6 ⟨σ6, H6, I6, q6⟩ => ?_)
    refine wpAny_passesOwn hp (thn (hb _ s6 σ6 H6 _ I6 q6) fun f s7 q7 => ?_)
    have again : ∀ {σ7 : St} {H7 : Hp}, Inv X (pins ++ pinsAt fp s5.heap) σ7 H7 s7 → N σ7 H7 → ∃ m, m < n ∧ ∃ i σ' H', Inv X pins σ' H' s7 ∧ tn i s7.heap ∧ (∀ b ∈ fp, H' b = none) ∧ W i m σ' H' := fun {σ7 H7} I7 n7 => by
      obtain ⟨m', hm, w7⟩ := hN σ7 H7 n7
      refine ⟨m', hm, i + 1, σ7, H7, I7.unpinned, T.keep _ _ _ st5 fun b hb o e => (I7.pin (b, o) (List.mem_append_right _ (List.mem_append_right _ (mem_pinsAt hb e)))).1, fun b hb => ?_, w7⟩
      obtain ⟨o, e, d⟩ := T.obj _ _ st5 b hb
      exact (I7.pin (b, o) (List.mem_append_right _ (List.mem_append_right _ (mem_pinsAt hb e)))).2.1
    cases f with
    | next => obtain ⟨σ7, H7, I7, n7⟩ := q7; exact again I7 n7
    | cont => obtain ⟨σ7, H7, I7, n7⟩ := q7; exact again I7 n7
    | brk => obtain ⟨σ7, H7, I7, q7⟩ := q7; exact ⟨σ7, H7, I7.unpinned, q7⟩
    | ret v => obtain ⟨x7, σ7, H7, I7, r7, q7⟩ := q7; exact ⟨x7, σ7, H7, I7.unpinned, r7, q7⟩
end

/-! ### the forms one uses -/
/-- while, by a word and a measure of the state -/
theorem while_by {c : TT} {tb : TS} {D : Ends} {σ : St} {H : Hp} (Pv : St → Hp → Prop) (μ : St → Hp → Nat) (h0 : Pv σ H)
    (hs : ∀ σ H, Pv σ H → c σ H fun b H1 => if b = true then tb { D with nx := fun σ' H' => Pv σ' H' ∧ μ σ' H' < μ σ H, ct := fun σ' H' => Pv σ' H' ∧ μ σ' H' < μ σ H, bk := D.nx } σ H1 else D.nx σ H1)
    (mono : ∀ σ H Q Q', (∀ b H1, Q b H1 → Q' b H1) → c σ H Q → c σ H Q') : tWhile c tb D σ H := by
  refine ⟨fun m σ H => m = μ σ H ∧ Pv σ H, ⟨_, rfl, h0⟩, ?_⟩
  rintro m σ H ⟨rfl, p⟩
  refine mono σ H _ _ (fun b H1 q => ?_) (hs σ H p)
  cases b with
  | true => exact ⟨_, fun σ' H' ⟨p', l⟩ => ⟨_, l, rfl, p'⟩, q⟩
  | false => exact q
end L2

namespace L2
open PySem PySem.Spec PyProof.Rows

abbrev R2 := V → V → Hp → VK → Prop
/-- a two-place operation on values: f is binaryOp op, inplaceOp op or compareOp op -/
noncomputable def OpR (X : Cx) (f : Value → Value → Sem Value) (r : R2) : Prop :=
  ∀ (pins : List (Addr × Obj)) (s : Shared) (σ : St) (H : Hp) (x y : V) (v u : Value) (Q : VK), Inv X pins σ H s → RelV x v → RelV y u → r x y H Q →
    wpAny (model X.prog X.w) X.A (f v u) (EP X pins σ Q) X.xe s
/-- a one-place operation -/
noncomputable def UnR (X : Cx) (f : Value → Sem Value) (r : V → Hp → VK → Prop) : Prop :=
  ∀ (pins : List (Addr × Obj)) (s : Shared) (σ : St) (H : Hp) (x : V) (v : Value) (Q : VK), Inv X pins σ H s → RelV x v → r x H Q →
    wpAny (model X.prog X.w) X.A (f v) (EP X pins σ Q) X.xe s
/-- a call of a value that is known (a builtin, a type) with values -/
noncomputable def CallR (X : Cx) (f : Value) (r : List V → Hp → VK → Prop) : Prop :=
  ∀ (pins : List (Addr × Obj)) (s : Shared) (σ : St) (H : Hp) (xs : List V) (us : List Value) (Q : VK), Inv X pins σ H s → Vals xs us → r xs H Q →
    wpAny (model X.prog X.w) X.A (call f us) (EP X pins σ Q) X.xe s
/-- a value's truth -/
noncomputable def TruR (X : Cx) (r : V → Hp → (Bool → Hp → Prop) → Prop) : Prop :=
  ∀ (pins : List (Addr × Obj)) (s : Shared) (σ : St) (H : Hp) (x : V) (v : Value) (Q : Bool → Hp → Prop), Inv X pins σ H s → RelV x v → r x H Q →
    wpAny (model X.prog X.w) X.A (truthy v) (TP X pins σ Q) X.xe s

noncomputable def tOp (r : R2) (ta tb : TE) : TE := fun σ H Q => ta σ H fun x H1 => tb σ H1 fun y H2 => r x y H2 Q
noncomputable def tUn (r : V → Hp → VK → Prop) (ta : TE) : TE := fun σ H Q => ta σ H fun x H1 => r x H1 Q
/-- ints in, under C, and a value out -/
noncomputable def rI (C : Int → Int → Prop) (g : Int → Int → V) : R2 := fun x y H Q => ∃ i j, x = .int i ∧ y = .int j ∧ C i j ∧ Q (g i j) H
noncomputable def rI0 (g : Int → Int → V) : R2 := fun x y H Q => ∃ i j, x = .int i ∧ y = .int j ∧ Q (g i j) H
noncomputable def rU (g : Int → V) : V → Hp → VK → Prop := fun x H Q => ∃ i, x = .int i ∧ Q (g i) H

section
variable {X : Cx} {a b c : Expr} {ta tb tc : TE} {pos : Pos}

theorem binT (ha : PE X a ta) (hb : PE X b tb) {pins : List (Addr × Obj)} {s : Shared} {σ : St} {H : Hp} {R : V → V → Hp → Prop} (I : Inv X pins σ H s)
    (h : ta σ H fun x H1 => tb σ H1 fun y H2 => R x y H2) {Q : Value → Shared → Prop} {f : Value → Value → Sem Value}
    (hf : ∀ v u s2 x y H2, Inv X pins σ H2 s2 → RelV x v → RelV y u → R x y H2 → wpAny (model X.prog X.w) X.A (f v u) Q X.xe s2) :
    wpAny (model X.prog X.w) X.A (eval a X.env) (fun v s₁ => wpAny (model X.prog X.w) X.A (eval b X.env) (fun u s₂ => wpAny (model X.prog X.w) X.A (f v u) Q X.xe s₂) X.xe s₁) X.xe s := by
  refine thn (ha pins s σ H _ I h) fun v s1 ⟨x, H1, I1, r1, q1⟩ => ?_
  refine thn (hb pins s1 σ H1 _ I1 q1) fun u s2 ⟨y, H2, I2, r2, q2⟩ => ?_
  exact hf v u s2 x y H2 I2 r1 r2 q2

theorem pe_op {op : Operator} {r : R2} (ho : OpR X (binaryOp op) r) (ha : PE X a ta) (hb : PE X b tb) : PE X (.BinOp a op b pos) (tOp r ta tb) := by
  intro pins s σ H Q I h
  exact wpAny_BinOp (binT ha hb I h fun v u s2 x y H2 I2 rx ry q => ho pins s2 σ H2 x y v u Q I2 rx ry q)
theorem pe_un {op : UnaryOp} {r : V → Hp → VK → Prop} (ho : UnR X (unaryOp op) r) (ha : PE X a ta) : PE X (.UnaryOp op a pos) (tUn r ta) := by
  intro pins s σ H Q I h
  exact UnaryOp_ (thn (ha pins s σ H _ I h) fun v s1 ⟨x, H1, I1, r1, q1⟩ => ho pins s1 σ H1 x v Q I1 r1 q1)
/-! ### ints -/
theorem opI {f : Value → Value → Sem Value} {C : Int → Int → Prop} {g : Int → Int → Int}
    (rule : ∀ (i j : Int) (t u : Tok) (s : Shared) (Q : Value → Shared → Prop) (E : Value → Shared → Prop), C i j → Q (.int (g i j) s.toks) { s with toks := s.toks + 1 } → wpAny (model X.prog X.w) X.A (f (.int i t) (.int j u)) Q E s) :
    OpR X f (rI C fun i j => .int (g i j)) := by
  intro pins s σ H x y v u Q I rx ry h
  obtain ⟨i, j, rfl, rfl, hc, q⟩ := h
  obtain ⟨t, rfl⟩ := rx
  obtain ⟨t', rfl⟩ := ry
  exact rule i j t t' s _ _ hc ⟨.int (g i j), H, I.tok _, ⟨_, rfl⟩, q⟩
theorem opI0 {f : Value → Value → Sem Value} {g : Int → Int → Int}
    (rule : ∀ (i j : Int) (t u : Tok) (s : Shared) (Q : Value → Shared → Prop) (E : Value → Shared → Prop), Q (.int (g i j) s.toks) { s with toks := s.toks + 1 } → wpAny (model X.prog X.w) X.A (f (.int i t) (.int j u)) Q E s) :
    OpR X f (rI0 fun i j => .int (g i j)) := by
  intro pins s σ H x y v u Q I rx ry h
  obtain ⟨i, j, rfl, rfl, q⟩ := h
  obtain ⟨t, rfl⟩ := rx
  obtain ⟨t', rfl⟩ := ry
  exact rule i j t t' s _ _ ⟨.int (g i j), H, I.tok _, ⟨_, rfl⟩, q⟩
theorem opB0 {f : Value → Value → Sem Value} {g : Int → Int → Bool}
    (rule : ∀ (i j : Int) (t u : Tok) (s : Shared) (Q : Value → Shared → Prop) (E : Value → Shared → Prop), Q (.bool (g i j)) s → wpAny (model X.prog X.w) X.A (f (.int i t) (.int j u)) Q E s) :
    OpR X f (rI0 fun i j => .bl (g i j)) := by
  intro pins s σ H x y v u Q I rx ry h
  obtain ⟨i, j, rfl, rfl, q⟩ := h
  obtain ⟨t, rfl⟩ := rx
  obtain ⟨t', rfl⟩ := ry
  exact rule i j t t' s _ _ ⟨.bl (g i j), H, I, rfl, q⟩

noncomputable def CDiv (i j : Int) : Prop := 0 < j ∧ j < 1073741824
noncomputable def CDivN (i j : Int) : Prop := j ≠ 0 ∧ j.natAbs < 1073741824
noncomputable def CPow (i j : Int) : Prop := 0 ≤ j ∧ j ≤ 1000000 ∧ i.natAbs < 2 ^ 64
noncomputable def CMul (i j : Int) : Prop := (-(2 ^ 64) < i ∧ i < 2 ^ 64) ∨ (-(2 ^ 64) < j ∧ j < 2 ^ 64)
theorem CMul.ok {i j : Int} (h : CMul i j) : IntMulOk i j := by
  rcases h with ⟨h1, h2⟩ | ⟨h1, h2⟩
  · exact .of_left (intBits_le_64 h1 h2)
  · exact .of_right (intBits_le_64 h1 h2)
theorem op_add : OpR X (binaryOp .Add) (rI0 fun i j => .int (i + j)) := opI0 fun _ _ _ _ _ _ _ q => add_int q
theorem op_sub : OpR X (binaryOp .Sub) (rI0 fun i j => .int (i - j)) := opI0 fun _ _ _ _ _ _ _ q => sub_int q
/-- % by a positive divisor of any size -/
theorem op_mod : OpR X (binaryOp .Mod) (rI (fun _ j => 0 < j) fun i j => .int (i % j)) := opI fun i j _ _ _ _ _ hc q => by
  have h1 : (0 : Int) < j := hc
  exact mod_int' (by omega) (by rw [Int.fmod_eq_emod_of_nonneg i (by omega)]; exact q)
theorem op_pow : OpR X (binaryOp .Pow) (rI CPow fun i j => .int (i ^ j.toNat)) := opI fun _ _ _ _ _ _ _ hc q => pow_int_small hc.1 hc.2.1 hc.2.2 q
theorem unI {f : Value → Sem Value} {g : Int → Int}
    (rule : ∀ (i : Int) (t : Tok) (s : Shared) (Q : Value → Shared → Prop) (E : Value → Shared → Prop), Q (.int (g i) s.toks) { s with toks := s.toks + 1 } → wpAny (model X.prog X.w) X.A (f (.int i t)) Q E s) :
    UnR X f (rU fun i => .int (g i)) := by
  intro pins s σ H x v Q I rx h
  obtain ⟨i, rfl, q⟩ := h
  obtain ⟨t, rfl⟩ := rx
  exact rule i t s _ _ ⟨.int (g i), H, I.tok _, ⟨_, rfl⟩, q⟩
theorem un_neg : UnR X (unaryOp .USub) (rU fun i => .int (-i)) := unI fun _ _ _ _ _ q => neg_int q
/-! ### bools among ints: n += (a < b) -/
end

/-! ### comparisons -/
/-- the scalars that == tells apart as data does -/
noncomputable def scal : V → V → Bool
  | .non, .non => true | .non, .int _ => true | .int _, .non => true | .non, .bl _ => true | .bl _, .non => true | .non, .str _ => true | .str _, .non => true
  | .int _, .int _ => true | .bl _, .bl _ => true | .str _, .str _ => true | .byt _, .byt _ => true
  | .int _, .str _ => true | .str _, .int _ => true | .bl _, .str _ => true | .str _, .bl _ => true
  | _, _ => false
noncomputable def rEq : R2 := fun x y H Q => scal x y = true ∧ Q (.bl (decide (x = y))) H
noncomputable def rNe : R2 := fun x y H Q => scal x y = true ∧ Q (.bl (!decide (x = y))) H

theorem dec_int {i j : Int} : decide (V.int i = V.int j) = (i == j) := by
  rw [Bool.eq_iff_iff]
  simp
theorem dec_bl {i j : Bool} : decide (V.bl i = V.bl j) = (i == j) := by
  rw [Bool.eq_iff_iff]
  simp
theorem dec_str {i j : Str} : decide (V.str i = V.str j) = (i == j) := by
  rw [Bool.eq_iff_iff]
  simp
theorem dec_byt {i j : Array UInt8} : decide (V.byt i = V.byt j) = (i.toList == j.toList) := by
  rw [Bool.eq_iff_iff]
  cases i
  cases j
  simp

section
variable {X : Cx} {a b c : Expr} {ta tb tc : TE} {pos : Pos}
theorem fin_bl {pins : List (Addr × Obj)} {σ : St} {H : Hp} {s : Shared} {Q : VK} {k k' : Bool} (I : Inv X pins σ H s) (q : Q (.bl k) H) (e : k = k') : EP X pins σ Q (.bool k') s := by
  subst e
  exact ⟨.bl k, H, I, rfl, q⟩
theorem op_eq : OpR X (compareOp .Eq) rEq := by
  intro pins s σ H x y v u Q I rx ry h
  obtain ⟨hs, q⟩ := h
  cases x with
  | non =>
    cases rx
    cases y with
    | non => cases ry; exact PySem.EqNone.eq_none_none (fin_bl I q (by simp))
    | bl j => cases ry; exact PySem.EqNone.eq_none_bool (fin_bl I q (by simp))
    | int j => obtain ⟨t', rfl⟩ := ry; exact PySem.EqNone.eq_none_int (fin_bl I q (by simp))
    | str j => obtain ⟨t', rfl⟩ := ry; exact PySem.EqNone.eq_none_str (fin_bl I q (by simp))
    | _ => exact absurd (show false = true from hs) Bool.false_ne_true
  | bl i =>
    cases rx
    cases y with
    | non => cases ry; exact PySem.EqNone.eq_bool_none (fin_bl I q (by simp))
    | bl j => cases ry; exact eq_bool (fin_bl I q dec_bl)
    | str j => obtain ⟨t', rfl⟩ := ry; exact PySem.EqMixed.eq_bool_str (fin_bl I q (by simp))
    | _ => exact absurd (show false = true from hs) Bool.false_ne_true
  | int i =>
    obtain ⟨t, rfl⟩ := rx
    cases y with
    | non => cases ry; exact PySem.EqNone.eq_int_none (fin_bl I q (by simp))
    | int j => obtain ⟨t', rfl⟩ := ry; exact eq_int (fin_bl I q dec_int)
    | str j => obtain ⟨t', rfl⟩ := ry; exact PySem.EqMixed.eq_int_str (fin_bl I q (by simp))
    | _ => exact absurd (show false = true from hs) Bool.false_ne_true
  | str i =>
    obtain ⟨t, rfl⟩ := rx
    cases y with
    | non => cases ry; exact PySem.EqNone.eq_str_none (fin_bl I q (by simp))
    | bl j => cases ry; exact PySem.EqMixed.eq_str_bool (fin_bl I q (by simp))
    | int j => obtain ⟨t', rfl⟩ := ry; exact PySem.EqMixed.eq_str_int (fin_bl I q (by simp))
    | str j => obtain ⟨t', rfl⟩ := ry; exact eq_str (fin_bl I q dec_str)
    | _ => exact absurd (show false = true from hs) Bool.false_ne_true
  | byt i =>
    obtain ⟨t, rfl⟩ := rx
    cases y with
    | byt j => obtain ⟨t', rfl⟩ := ry; exact PySem.W.eq_bytes (fin_bl I q dec_byt)
    | _ => exact absurd (show false = true from hs) Bool.false_ne_true
  | _ => cases y <;> exact absurd (show false = true from hs) Bool.false_ne_true
theorem op_ne : OpR X (compareOp .NotEq) rNe := by
  intro pins s σ H x y v u Q I rx ry h
  obtain ⟨hs, q⟩ := h
  cases x with
  | non =>
    cases rx
    cases y with
    | non => cases ry; exact PySem.EqNone.ne_none_none (fin_bl I q (by simp))
    | bl j => cases ry; exact PySem.EqNone.ne_none_bool (fin_bl I q (by simp))
    | int j => obtain ⟨t', rfl⟩ := ry; exact PySem.EqNone.ne_none_int (fin_bl I q (by simp))
    | str j => obtain ⟨t', rfl⟩ := ry; exact PySem.EqNone.ne_none_str (fin_bl I q (by simp))
    | _ => exact absurd (show false = true from hs) Bool.false_ne_true
  | bl i =>
    cases rx
    cases y with
    | non => cases ry; exact PySem.EqNone.ne_bool_none (fin_bl I q (by simp))
    | bl j => cases ry; exact ne_bool (fin_bl I q (congrArg not dec_bl))
    | str j => obtain ⟨t', rfl⟩ := ry; exact PySem.EqMixed.ne_bool_str (fin_bl I q (by simp))
    | _ => exact absurd (show false = true from hs) Bool.false_ne_true
  | int i =>
    obtain ⟨t, rfl⟩ := rx
    cases y with
    | non => cases ry; exact PySem.EqNone.ne_int_none (fin_bl I q (by simp))
    | int j => obtain ⟨t', rfl⟩ := ry; exact ne_int (fin_bl I q (congrArg not dec_int))
    | str j => obtain ⟨t', rfl⟩ := ry; exact PySem.EqMixed.ne_int_str (fin_bl I q (by simp))
    | _ => exact absurd (show false = true from hs) Bool.false_ne_true
  | str i =>
    obtain ⟨t, rfl⟩ := rx
    cases y with
    | non => cases ry; exact PySem.EqNone.ne_str_none (fin_bl I q (by simp))
    | bl j => cases ry; exact PySem.EqMixed.ne_str_bool (fin_bl I q (by simp))
    | int j => obtain ⟨t', rfl⟩ := ry; exact PySem.EqMixed.ne_str_int (fin_bl I q (by simp))
    | str j => obtain ⟨t', rfl⟩ := ry; exact ne_str (fin_bl I q (congrArg not dec_str))
    | _ => exact absurd (show false = true from hs) Bool.false_ne_true
  | byt i =>
    obtain ⟨t, rfl⟩ := rx
    cases y with
    | byt j => obtain ⟨t', rfl⟩ := ry; exact PySem.W.ne_bytes (fin_bl I q (congrArg not dec_byt))
    | _ => exact absurd (show false = true from hs) Bool.false_ne_true
  | _ => cases y <;> exact absurd (show false = true from hs) Bool.false_ne_true

theorem op_lt : OpR X (compareOp .Lt) (rI0 fun i j => .bl (decide (i < j))) := opB0 fun _ _ _ _ _ _ _ q => lt_int q
theorem op_gt : OpR X (compareOp .Gt) (rI0 fun i j => .bl (decide (j < i))) := opB0 fun _ _ _ _ _ _ _ q => gt_int q
/-- is, is not of two objects that are tracked lists or instances -/
noncomputable def isObj : HO → Bool
  | .lst _ => true
  | .ins _ _ _ => true
  | _ => false
/-- two rules for one operation: by cases -/
theorem OpR.or {f : Value → Value → Sem Value} {r r' : R2} (h : OpR X f r) (h' : OpR X f r') : OpR X f (fun x y H Q => r x y H Q ∨ r' x y H Q) := by
  intro pins s σ H x y v u Q I rx ry q
  rcases q with q | q
  · exact h pins s σ H x y v u Q I rx ry q
  · exact h' pins s σ H x y v u Q I rx ry q

theorem nomark (b : Expr) {op : CmpOp} (h : op ≠ .In := by decide) (h2 : op ≠ .NotIn := by decide) : behindInMarks op b = false := by
  have e1 : (op == CmpOp.In) = false := by cases op <;> first | rfl | exact absurd rfl h
  have e2 : (op == CmpOp.NotIn) = false := by cases op <;> first | rfl | exact absurd rfl h2
  cases b <;> simp [behindInMarks, e1, e2]
/-- a comparison as a value; hm: nomark b, or (for in, not in) by with_unfolding_all rfl -/
theorem pe_cmpR {op : CmpOp} {r : R2} (ho : OpR X (compareOp op) r) (ha : PE X a ta) (hb : PE X b tb) (hm : behindInMarks op b = false) : PE X (.Compare a [op] [b] pos) (tOp r ta tb) := by
  intro pins s σ H Q I h
  exact wpAny_Compare1 (binT ha hb I h fun v u s2 x y H2 I2 rx ry q => ho pins s2 σ H2 x y v u Q I2 rx ry q) hm
/-- a reading of a value as a test -/
noncomputable def tTest (t : TE) : TT := fun σ H Q => t σ H fun x H' => ∃ k, x = .bl k ∧ Q k H'
theorem pt_cmpR {op : CmpOp} {r : R2} (ho : OpR X (compareOp op) r) (ha : PE X a ta) (hb : PE X b tb) (hm : behindInMarks op b = false) : PT X (.Compare a [op] [b] pos) (tTest (tOp r ta tb)) := by
  intro pins s σ H Q I h
  refine wpAny_isTrue_Compare1 (thn (ha pins s σ H _ I h) fun v s1 ⟨x, H1, I1, r1, q1⟩ => thn (hb pins s1 σ H1 _ I1 q1) fun u s2 ⟨y, H2, I2, r2, q2⟩ =>
    thn (ho pins s2 σ H2 x y v u _ I2 r1 r2 q2) fun c s3 ⟨z, H3, I3, r3, k, e, q3⟩ => ?_) hm
  subst e
  cases r3
  exact wpAny_truthy_bool ⟨H3, I3, q3⟩
/-- a op1 b op2 c -/
noncomputable def tChain (r r' : R2) (ta tb tc : TE) : TE := fun σ H Q => ta σ H fun x H1 => tb σ H1 fun y H2 => r x y H2 fun z H3 => ∃ k, z = .bl k ∧
  (if k = true then tc σ H3 fun w' H4 => r' y w' H4 Q else Q (.bl false) H3)
/-! ### truth -/
/-- a value's truth by the abstract heap -/
noncomputable def TruV (K : PySem.W.Frag) (x : V) (H : Hp) (k : Bool) : Prop :=
  match x with
  | .non => k = false
  | .bl b => k = b
  | .int i => k = (i != 0)
  | .str y => y.length ≤ sizeLine ∧ k = ((y.length : Int) != 0)
  | .byt y => y.size ≤ sizeLine ∧ k = ((y.size : Int) != 0)
  | .ref p => (∃ xs, SqL K H p xs ∧ k = !xs.isEmpty) ∨ (∃ xs, SqT K H p xs ∧ k = !xs.isEmpty) ∨ ∃ kvs, H p = some (.dK kvs) ∧ k = !kvs.isEmpty
  | _ => False
theorem line63 : (sizeLine : Nat) < 2 ^ 63 := by rw [sizeLine_eq]; decide
/-! ### strs and bytes -/
noncomputable def PlainIxT (b : Expr) : Prop := ∀ o i, subscripted b false o i = operate [o, i] (getItem o i)
/-! ### scalar builtins, by CallR -/
theorem vals1 {x : V} {us : List Value} (r : Vals [x] us) : ∃ u, us = [u] ∧ RelV x u := by
  cases r with
  | cons r1 r2 => cases r2; exact ⟨_, rfl, r1⟩
theorem vals2 {x y : V} {us : List Value} (r : Vals [x, y] us) : ∃ u w', us = [u, w'] ∧ RelV x u ∧ RelV y w' := by
  cases r with
  | cons r1 r2 =>
    cases r2 with
    | cons r3 r4 => cases r4; exact ⟨_, _, rfl, r1, r3⟩
theorem call_abs : CallR X (.builtin "abs") (fun xs H Q => ∃ i, xs = [.int i] ∧ Q (.int (if i < 0 then -i else i)) H) := by
  intro pins s σ H xs us Q I r h
  obtain ⟨i, rfl, q⟩ := h
  obtain ⟨u, rfl, t, rfl⟩ := vals1 r
  exact call_abs_int fun u tk => ⟨.int (if i < 0 then -i else i), H, I.tok _, ⟨_, rfl⟩, q⟩
/-- len of a str, a bytes, a list, a tuple -/
noncomputable def LenV (K : PySem.W.Frag) (x : V) (H : Hp) (n : Nat) : Prop :=
  match x with
  | .str y => y.length ≤ sizeLine ∧ n = y.length
  | .byt y => y.size ≤ sizeLine ∧ n = y.size
  | .ref p => (∃ xs, SqL K H p xs ∧ n = xs.length) ∨ ∃ xs, SqT K H p xs ∧ n = xs.length
  | _ => False
end
end L2

namespace L2
open PySem PySem.Spec PyProof.Rows

/-! ### an instance, its attributes a map -/
structure ObjM (h : Heap) (x dx C : Addr) (mA : Str → Option Value) : Prop where
  obj : h.get? x = some (PySem.W.instObj C dx)
  ns : h.Ns1 dx mA
  ne : dx ≠ x

theorem lookIn_ns {h : Heap} {dx : Addr} {mA : Str → Option Value} (n : h.Ns1 dx mA) : ∃ od, h.get? dx = some od ∧ ∀ name, PySem.W.lookIn name od = some (mA name) := by
  obtain ⟨o, es, ep, ho, hd, hk, _, hm⟩ := n
  refine ⟨o, ho, fun name => ?_⟩
  have e := hm name
  unfold nsFind findBy at e
  rw [← Array.find?_toList] at e
  unfold PySem.W.lookIn
  rw [hd]
  dsimp only
  split
  · rename_i y q
    rw [q] at e
    exact congrArg some e
  · rename_i q
    rw [q] at e
    have a : es.toList.any (·.refKey) = false := by
      rw [List.any_eq_false]
      intro y hy
      obtain ⟨z, t, hkey⟩ := hk y (Array.mem_toList_iff.mp hy)
      simp [DictEntry.refKey, hkey]
    have a' : ¬ es.toList.any (·.refKey) = true := by rw [a]; exact Bool.false_ne_true
    rw [if_neg a']
    exact congrArg some e

theorem ObjM.look {h : Heap} {x dx C : Addr} {mA : Str → Option Value} (I : ObjM h x dx C mA) : ∃ od, PySem.W.InstAt h x (PySem.W.instObj C dx) C (some od) ∧ ∀ name, PySem.W.lookIn name od = some (mA name) :=
  let ⟨od, ho, hl⟩ := lookIn_ns I.ns
  ⟨od, ⟨I.obj, rfl, rfl, ho⟩, hl⟩

section
variable {prog : Program} {w : World} {A : Around} {E : Value → Shared → Prop} {s : Shared} {K : PySem.W.Frag} {x dx C f : Addr} {mA : Str → Option Value} {name : Str} {v : Value}

end

/-! ### the attributes as a list of pairs -/
noncomputable def putF (f : Str) (v : V) : List (Str × V) → List (Str × V)
  | [] => [(f, v)]
  | (g, x) :: r => if g = f then (g, v) :: r else (g, x) :: putF f v r
theorem RelO.some_of {v : V} {o : Option Value} (r : RelO (some v) o) : ∃ u, o = some u ∧ RelV v u := by
  cases o with
  | none => exact (show False from r).elim
  | some u => exact ⟨u, rfl, r⟩
theorem RelO.none_of {o : Option Value} (r : RelO none o) : o = none := by
  cases o with
  | none => rfl
  | some u => exact (show False from r).elim
section
variable {P : Program} {w : World} {H H' : Hp} {h h' : Heap} {a C dx : Addr} {fs fs' : List (Str × V)}
theorem ins_get (hok : HOk P w H h) (e : H a = some (.ins C dx fs)) : ∃ mA, ObjM h a dx C mA ∧ (∀ f, RelO (fs.lookup f) (mA f)) ∧ PySem.Within mA (fs.map (·.1)) ∧ fs.length ≤ 1000 ∧ H dx = some (.own a) := by
  obtain ⟨d, z, ne, ob, mA, n, r, q⟩ := (show ObjOk P w H h a (.ins C dx fs) from hok a _ e)
  exact ⟨mA, ⟨ob, n, ne⟩, r, q, z, d⟩
end

/-! ### what of the text a class must have -/
structure Cls (K : PySem.W.Frag) (C : Addr) : Prop where
  pg : PySem.W.plainGet K C Str.empty = true
  hd : PySem.W.hasDictIn K C = true
  po : PySem.W.plainOver K C = true
  sa : PySem.W.findIn K (.ref C) "__setattr__" = some (some (.builtin "object.__setattr__"))
theorem Cls.get {K : PySem.W.Frag} {C : Addr} (c : Cls K C) (f : Str) : PySem.W.plainGet K C f = true := c.pg
/-- no class of it has the name -/
noncomputable def NoAttr (K : PySem.W.Frag) (C : Addr) (f : Str) : Prop := PySem.W.findIn K (.ref C) f = some none
/-- a constant of the class -/
structure Con (K : PySem.W.Frag) (C : Addr) (f : Str) (v : V) (u : Value) : Prop where
  at_ : PySem.W.findIn K (.ref C) f = some (some u)
  rel : RelV v u
  get : PySem.W.specialIn K u "__get__" = some none
  cp : PySem.W.copiedNames.contains f = false
/-- a method: a plain def of the class or of one above it -/
structure Meth (K : PySem.W.Frag) (C : Addr) (m : Str) (f : Addr) : Prop where
  at_ : PySem.W.findIn K (.ref C) m = some (some (.ref f))
  fn : PySem.W.isFn K (.ref f) = true
  kp : PySem.W.keepIn K (.ref f) = true

section
variable {X : Cx} {pins : List (Addr × Obj)} {σ : St} {H : Hp} {s : Shared} {a C dx : Addr} {fs : List (Str × V)} {f : Str} {v : V} {A : Around} {E : Value → Shared → Prop}

/-- a new instance, tracked, without attributes -/
theorem Inv.made (I : Inv X pins σ H s) : Inv X pins σ (upd (upd H s.heap.objs.size (.own (s.heap.objs.size + 1))) (s.heap.objs.size + 1) (.ins C s.heap.objs.size []))
    { s with heap := (s.heap.push PySem.W.emptyDict).push (PySem.W.instObj C s.heap.objs.size) } := by
  have e1 : (s.heap.push PySem.W.emptyDict).get? s.heap.objs.size = some PySem.W.emptyDict := Heap.get?_push_size s.heap rfl
  have e2 : ((s.heap.push PySem.W.emptyDict).push (PySem.W.instObj C s.heap.objs.size)).get? (s.heap.objs.size + 1) = some (PySem.W.instObj C s.heap.objs.size) := by
    have := Heap.get?_push_size (s.heap.push PySem.W.emptyDict) (o := PySem.W.instObj C s.heap.objs.size) rfl
    rwa [Heap.size_push] at this
  have e3 : (s.heap.push PySem.W.emptyDict).Ns s.heap.objs.size (fun _ => none) := ⟨PySem.W.emptyDict, #[], _, e1, rfl, (fun e he => absurd he (by simp)), fun _ => rfl⟩
  have I1 := I.laid (a := s.heap.objs.size) (o := .own (s.heap.objs.size + 1)) (h' := s.heap.push PySem.W.emptyDict) (t' := s.toks) (fun b u q => Heap.get?_push_of_some _ q) (Nat.le_refl _) ⟨_, e1⟩
  refine I1.laid (a := s.heap.objs.size + 1) (o := .ins C s.heap.objs.size []) (t' := s.toks) (fun b u q => Heap.get?_push_of_some _ q) (Nat.le_of_eq (Heap.size_push _ _)) ?_
  have ne : s.heap.objs.size ≠ s.heap.objs.size + 1 := Nat.ne_of_lt (Nat.lt_succ_self _)
  refine ⟨by rw [upd_ne ne, upd_same], Nat.zero_le _, ne, e2, fun _ => none, (Heap.Ns1.of_empty e3).at fun o q => Heap.get?_push_of_some _ q, fun _ => True.intro, fun y hy => absurd rfl hy⟩

end

/-! ### readings and rules -/
/-- e.f, an attribute of the instance -/
noncomputable def tFld (K : PySem.W.Frag) (ta : TE) (f : Str) : TE := fun σ H Q => ta σ H fun x H1 => ∃ a C dx fs v, x = .ref a ∧ H1 a = some (.ins C dx fs) ∧ Cls K C ∧ NoAttr K C f ∧ fs.lookup f = some v ∧ Q v H1
/-- e.f, a constant of the class -/
noncomputable def tCon (K : PySem.W.Frag) (ta : TE) (f : Str) : TE := fun σ H Q => ta σ H fun x H1 => ∃ a C dx fs v u, x = .ref a ∧ H1 a = some (.ins C dx fs) ∧ Cls K C ∧ Con K C f v u ∧ fs.lookup f = none ∧ Q v H1
/-- e.f = value -/
noncomputable def sFld (K : PySem.W.Frag) (ta tv : TE) (f : Str) : TS := fun D σ H => tv σ H fun y H1 => ta σ H1 fun x H2 => ∃ a C dx fs, x = .ref a ∧ H2 a = some (.ins C dx fs) ∧ Cls K C ∧ NoAttr K C f ∧ fs.length < 1000 ∧
  D.nx σ (upd H2 a (.ins C dx (putF f y fs)))
/-- an augmented operator on two values -/
noncomputable def InOp (X : Cx) (op : Operator) (rd : V → V → Hp → VK → Prop) : Prop :=
  ∀ (pins : List (Addr × Obj)) (s : Shared) (σ : St) (H : Hp) (x y : V) (u v : Value) (Q : VK), Inv X pins σ H s → RelV x u → RelV y v → rd x y H Q → wpAny (model X.prog X.w) X.A (inplaceOp op u v) (EP X pins σ Q) X.xe s
/-- e.f op= value -/
noncomputable def sFldAug (K : PySem.W.Frag) (ta tv : TE) (rd : V → V → Hp → VK → Prop) (f : Str) : TS := fun D σ H => ta σ H fun x H1 => ∃ a C dx fs v, x = .ref a ∧ H1 a = some (.ins C dx fs) ∧ Cls K C ∧ NoAttr K C f ∧ fs.lookup f = some v ∧
  tv σ H1 fun y H2 => rd v y H2 fun z H3 => ∃ dx' fs', H3 a = some (.ins C dx' fs') ∧ fs'.length < 1000 ∧ D.nx σ (upd H3 a (.ins C dx' (putF f z fs')))

section
variable {X : Cx} {o e value : Expr} {f : Str} {pos pos' tpos : Pos} {ta tv : TE}
noncomputable def rAdd : V → V → Hp → VK → Prop := fun x y H Q => ∃ i j, x = .int i ∧ y = .int j ∧ Q (.int (i + j)) H
noncomputable def rSub : V → V → Hp → VK → Prop := fun x y H Q => ∃ i j, x = .int i ∧ y = .int j ∧ Q (.int (i - j)) H
end

/-! ### isinstance -/
section
variable {X : Cx} {pins : List (Addr × Obj)} {σ : St} {H : Hp} {s : Shared} {A : Around} {E : Value → Shared → Prop} {Q : Value → Shared → Prop} {c : Value} {b : Bool}
/-- the type of a value, as the fragment's deciders take it; for an instance its class -/
inductive TyOf (K : PySem.W.Frag) (H : Hp) : V → Value → Prop where
  | non : TyOf K H .non (.type "NoneType")
  | bl (x : Bool) : TyOf K H (.bl x) (.type "bool")
  | int (i : Int) : TyOf K H (.int i) (.type "int")
  | str (x : Str) : TyOf K H (.str x) (.type "str")
  | flt (x : UInt64) : TyOf K H (.flt x) (.type "float")
  | lst {a : Addr} {xs : List V} (e : H a = some (.lst xs)) : TyOf K H (.ref a) (.type "list")
  | frz {a : Addr} {o : Obj} {xs : List V} (e : H a = some (.frz o (.lst xs))) : TyOf K H (.ref a) (.type "list")
  | tup {a : Addr} {xs : List V} (e : H a = some (.tup xs)) : TyOf K H (.ref a) (.type "tuple")
  | dK {a : Addr} {kvs : List (Key × V)} (e : H a = some (.dK kvs)) : TyOf K H (.ref a) (.type "dict")
  | dT {a : Addr} {kvs : List (List Key × V)} (e : H a = some (.dT kvs)) : TyOf K H (.ref a) (.type "dict")
  | ins {a C dx : Addr} {fs : List (Str × V)} (e : H a = some (.ins C dx fs)) (cl : Cls K C) (ha : PySem.W.findIn K (.ref C) "__class__" = some (some (.builtin "object.__class__")))
      (hn : PySem.W.specialIn K (.builtin "object.__class__") "__get__" = some (some (.builtin "getset_descriptor.__get__"))) (htk : PySem.W.takesIn K (.builtin "object.__class__") = some true)
      (hm : PySem.W.mroIn K C (.type "object") = some true) : TyOf K H (.ref a) (.ref C)
/-- isinstance(x, c) for one class c, a built-in or an own one: kitOne's answer -/
theorem isinst_ok {x : V} {u t : Value} (I : Inv X pins σ H s) (rx : RelV x u) (ty : TyOf X.K H x t) (e : PySem.W.kitOne X.K t c = some b) (h : ∀ tk, Q (.bool b) { s with toks := tk }) :
    wpAny (model X.prog X.w) A (call (.builtin "isinstance") [u, c]) Q E s := by
  cases ty with
  | non => cases (show u = Value.none from rx); exact PySem.W.kia_one PySem.W.kitx_none I.kIn True.intro e (fun z => nomatch z) h
  | bl y => cases (show u = Value.bool y from rx); exact PySem.W.kia_one PySem.W.kitx_bool I.kIn True.intro e (fun z => nomatch z) h
  | int i => obtain ⟨t, q⟩ := (show ∃ t, u = Value.int i t from rx); cases q; exact PySem.W.kia_one PySem.W.kitx_int I.kIn True.intro e (fun z => nomatch z) h
  | str y => obtain ⟨t, q⟩ := (show ∃ t, u = Value.str y t from rx); cases q; exact PySem.W.kia_one PySem.W.kitx_str I.kIn True.intro e (fun z => nomatch z) h
  | flt y => obtain ⟨t, q⟩ := (show ∃ t, u = Value.float y t from rx); cases q; exact PySem.W.kia_one PySem.W.kitx_float I.kIn True.intro e (fun z => nomatch z) h
  | @lst a xs ea =>
    cases (show u = Value.ref a from rx)
    obtain ⟨_, _, n, _, h1⟩ := (show ObjOk X.prog X.w H s.heap a (.lst xs) from I.hok a _ ea)
    exact PySem.W.kia_one PySem.W.kitx_list I.kIn ⟨_, h1, rfl⟩ e (fun z => nomatch z) h
  | @frz a ob xs ea =>
    cases (show u = Value.ref a from rx)
    obtain ⟨_, _, _, n, _, h1⟩ := (show ObjOk X.prog X.w H s.heap a (.frz ob (.lst xs)) from I.hok a _ ea)
    exact PySem.W.kia_one PySem.W.kitx_list I.kIn ⟨_, h1, rfl⟩ e (fun z => nomatch z) h
  | @tup a xs ea =>
    cases (show u = Value.ref a from rx)
    obtain ⟨_, _, _, p⟩ := (show ObjOk X.prog X.w H s.heap a (.tup xs) from I.hok a _ ea)
    obtain ⟨o, h1, h2, _⟩ := p
    exact PySem.W.kia_one PySem.W.kitx_tuple I.kIn ⟨o, h1, h2⟩ e (fun z => nomatch z) h
  | @dK a kvs ea =>
    cases (show u = Value.ref a from rx)
    obtain ⟨_, _, vs, _, p⟩ := (show ObjOk X.prog X.w H s.heap a (.dK kvs) from I.hok a _ ea)
    obtain ⟨o, es, ep, h1, h2, _⟩ := p
    exact PySem.W.kia_one PySem.W.kitx_dict I.kIn ⟨o, h1, h2.1⟩ e (fun z => nomatch z) h
  | @dT a kvs ea =>
    cases (show u = Value.ref a from rx)
    obtain ⟨_, _, xs, _, o, es, ep, h1, h2, _⟩ := (show ObjOk X.prog X.w H s.heap a (.dT kvs) from I.hok a _ ea)
    exact PySem.W.kia_one PySem.W.kitx_dict I.kIn ⟨o, h1, h2.1⟩ e (fun z => nomatch z) h
  | @ins a C dx fs ea cl ha hn htk hm =>
    cases (show u = Value.ref a from rx)
    obtain ⟨mA, O, _⟩ := ins_get I.hok ea
    obtain ⟨od, J, _⟩ := O.look
    exact PySem.W.kia_one (PySem.W.kitx_own (cl.get _) cl.hd ha hn htk hm) I.kIn J e (fun z => nomatch z) h
end
end L2

namespace L2
open PySem PySem.Spec PyProof.Rows

/-! ### room -/
structure Room (k : Nat) (A : Around) : Prop where
  hd : A.handled = none
  dp : A.depth + 3 * k + 5 < recursionLimit
  un : A.units + 16 * k + 200 < cLine
theorem Room.mono {j k : Nat} {A : Around} (r : Room k A) (h : j ≤ k) : Room j A := ⟨r.hd, by have := r.dp; omega, by have := r.un; omega⟩
theorem Room.deeper {k : Nat} {A : Around} (r : Room (k + 1) A) (env : Env) : Room k (A.deeper env) :=
  ⟨r.hd, by have := r.dp; show A.depth + 1 + 3 * k + 5 < _; omega, by have := r.un; show A.units + 3 + 16 * k + 200 < _; omega⟩
theorem Room.in1 {k : Nat} {A : Around} (r : Room (k + 1) A) : Room k A.in1 :=
  ⟨r.hd, by have := r.dp; show A.depth + 3 * k + 5 < _; omega, by have := r.un; show A.units + 1 + 16 * k + 200 < _; omega⟩
theorem make_depth {A : Around} {C : Addr} {us : List Value} {kw : List (Str × Value)} : (A.under (.builtin "type.__call__" ⟨.ref C :: us, kw⟩)).depth = A.depth + 1 := by
  first | rfl | simp [Around.under, Code.weight, Code.isCreation, Code.isGuard, Code.isCaller, Code.frames, Code.isFrame, guardIds]
theorem make_units {A : Around} {C : Addr} {us : List Value} {kw : List (Str × Value)} : (A.under (.builtin "type.__call__" ⟨.ref C :: us, kw⟩)).units = A.units + 1 := by
  first | rfl | simp [Around.under, Code.cUnits, Code.frames, Code.isFrame]
theorem Room.make {k : Nat} {A : Around} (r : Room (k + 1) A) (C : Addr) (us : List Value) (kw : List (Str × Value)) : Room k (A.under (.builtin "type.__call__" ⟨.ref C :: us, kw⟩)) :=
  ⟨r.hd, by have := r.dp; rw [make_depth]; omega, by have := r.un; rw [make_units]; omega⟩
theorem Room.depth {k : Nat} {A : Around} (r : Room k A) : A.depth < recursionLimit := by have := r.dp; omega
theorem Room.units {k : Nat} {A : Around} (r : Room k A) : A.units + 64 < cLine := by have := r.un; omega
/-! ### argument lists and displays -/
noncomputable def tNil : TA := fun _ H Q => Q [] H
noncomputable def tCons (ta : TE) (tr : TA) : TA := fun σ H Q => ta σ H fun x H1 => tr σ H1 fun xs H2 => Q (x :: xs) H2
section
variable {X : Cx} {e : Expr} {es : List Expr} {te : TE} {t : TA} {pos : Pos}
theorem pa_nil : PA X [] tNil := fun _ _ _ _ H Q I h => Calls.spliced_nil ⟨[], H, I, .nil, h⟩
theorem pa_cons (ha : PE X e te) (hr : PA X es t) (hs : starEach (e :: es) X.env = (false, eval e X.env) :: starEach es X.env := by rfl) : PA X (e :: es) (tCons te t) := by
  intro pos pins s σ H Q I h
  rw [hs]
  show wpAny _ _ (spliced ((false, eval e X.env) :: backTo pos (starEach es X.env))) _ _ s
  refine Calls.spliced_cons (thn (ha pins s σ H _ I h) fun u s1 ⟨x, H1, I1, r1, q1⟩ => ?_)
  exact thn (hr pos pins s1 σ H1 _ I1 q1) fun us s2 ⟨xs, H2, I2, r2, q2⟩ => ⟨x :: xs, H2, I2, .cons r1 r2, q2⟩

/-- a tuple, a list of written items -/
noncomputable def tTup (t : TA) : TE := fun σ H Q => t σ H fun xs H1 => xs.length ≤ sizeLine ∧ ∀ p, H1 p = none → Q (.ref p) (upd H1 p (.tup xs))
noncomputable def tLst (t : TA) : TE := fun σ H Q => t σ H fun xs H1 => xs.length ≤ sizeLine ∧ ∀ p, H1 p = none → Q (.ref p) (upd H1 p (.lst xs))
theorem pe_lst (h : PA X es t) : PE X (.List es pos) (tLst t) := by
  intro pins s σ H Q I hq
  refine wpAny_List_spliced (thn (h pos pins s σ H _ I hq) fun us s1 ⟨xs, H1, I1, r, z, q⟩ => ⟨by rw [← r.length]; exact z, ?_⟩)
  have hf : H1 s1.heap.objs.size = none := I1.hok.fresh (Nat.le_refl _)
  refine ⟨.ref s1.heap.objs.size, upd H1 s1.heap.objs.size (.lst xs), I1.laid (t' := s1.toks) (fun b u e => Heap.get?_push_of_some _ e) (Nat.le_refl _) ?_, rfl, q _ hf⟩
  exact ⟨z, us, 0, r, Heap.get?_push_size _ rfl⟩
end

/-! ### what a def promises -/
/-- a def's promise: the bound arguments in the parameters' order, the heap, the wanted end, the wanted exception -/
abbrev Sp := List V → Hp → VK → XK → Prop
/-- how an exception lies behind a call (file 08 gives it): the callers' frames, abstract heap and state ahead of the call, the wish, the exception, the state -/
abbrev CXT := List Env → Hp → Shared → XK → Value → Shared → Prop

/-- the state at a call -/
structure Env0 (P : Program) (w : World) (K : PySem.W.Frag) (mg : Str → Option Value) (base : Heap) (A : Around) (outer : List Env) (s : Shared) (H : Hp) : Prop where
  frames : A.frames = some outer
  mod : Mod K mg base
  bs : ∀ b o, base.get? b = some o → s.heap.get? b = some o ∧ H b = none
  bsz : base.objs.size ≤ s.heap.objs.size
  funs : s.heap.FunFrames base outer
  frf : ∀ b ∈ frs outer, H b = none
  hok : HOk P w H s.heap
  bare : AllBare s.gens
/-- a call's end -/
noncomputable def CE (outer : List Env) (P : Program) (w : World) (H : Hp) (s : Shared) (Q : VK) (u : Value) (s' : Shared) : Prop :=
  ∃ v H', s'.os = s.os ∧ AllBare s'.gens ∧ Un (frs outer) [] H H' s.heap s'.heap ∧ HOk P w H' s'.heap ∧ RelV v u ∧ Q v H'
noncomputable def CR (CX : CXT) (outer : List Env) (P : Program) (w : World) (H : Hp) (s : Shared) (Q : VK) (E : XK) (r : Result) (s' : Shared) : Prop :=
  match r with
  | .ok (.ret u) => CE outer P w H s Q u s'
  | .ok _ => False
  | .error e => CX outer H s E e s'
structure FnOk (P : Program) (w : World) (K : PySem.W.Frag) (mg : Str → Option Value) (base : Heap) (CX : CXT) (k : Nat) (f : Addr) (fd : FuncData) (ps : List Str) (sp : Sp) : Prop where
  len : ∀ vs H Q E, sp vs H Q E → vs.length = ps.length
  run : ∀ (A : Around) (outer : List Env) (s : Shared) (H : Hp) (args : Args) (us : List Value) (vs : List V) (Q : VK) (E : XK), Room k A → Env0 P w K mg base A outer s H → BindsTo s fd args (ps.zip us) → Vals vs us → sp vs H Q E →
    codeAny (model P w) A (.call (.ref f) args) (CR CX outer P w H s Q E) s
theorem FnOk.mono {P : Program} {w : World} {K : PySem.W.Frag} {mg : Str → Option Value} {base : Heap} {CX : CXT} {j k : Nat} {f : Addr} {fd : FuncData} {ps : List Str} {sp : Sp} (F : FnOk P w K mg base CX j f fd ps sp) (h : j ≤ k) :
    FnOk P w K mg base CX k f fd ps sp := ⟨F.len, fun A outer s H args us vs Q E hr => F.run A outer s H args us vs Q E (hr.mono h)⟩
/-- a weaker promise -/
theorem FnOk.imp {P : Program} {w : World} {K : PySem.W.Frag} {mg : Str → Option Value} {base : Heap} {CX : CXT} {k : Nat} {f : Addr} {fd : FuncData} {ps : List Str} {sp sp' : Sp} (F : FnOk P w K mg base CX k f fd ps sp)
    (h : ∀ vs H Q E, sp' vs H Q E → sp vs H Q E) : FnOk P w K mg base CX k f fd ps sp' :=
  ⟨fun vs H Q E q => F.len vs H Q E (h _ _ _ _ q), fun A outer s H args us vs Q E hr he hb hv hs => F.run A outer s H args us vs Q E hr he hb hv (h _ _ _ _ hs)⟩

theorem Env0.make {P : Program} {w : World} {K : PySem.W.Frag} {mg : Str → Option Value} {base : Heap} {A : Around} {outer : List Env} {s : Shared} {H : Hp} (e : Env0 P w K mg base A outer s H) (C : Addr) (us : List Value) (kw : List (Str × Value)) :
    Env0 P w K mg base (A.under (.builtin "type.__call__" ⟨.ref C :: us, kw⟩)) outer s H := ⟨by first | exact e.frames | (simpa [Around.under, Code.envs, Code.isFrame, pushEnvs] using e.frames), e.mod, e.bs, e.bsz, e.funs, e.frf, e.hok, e.bare⟩
theorem Env0.in1 {P : Program} {w : World} {K : PySem.W.Frag} {mg : Str → Option Value} {base : Heap} {A : Around} {outer : List Env} {s : Shared} {H : Hp} (e : Env0 P w K mg base A outer s H) :
    Env0 P w K mg base A.in1 outer s H := ⟨e.frames, e.mod, e.bs, e.bsz, e.funs, e.frf, e.hok, e.bare⟩

section
variable {X : Cx} {pins : List (Addr × Obj)} {σ : St} {H : Hp} {s s' : Shared}
/-- from a body: what a callee wants -/
theorem Inv.env0 (I : Inv X pins σ H s) : Env0 X.prog X.w X.K X.mg X.base X.A X.stack s H :=
  ⟨I.ok.frames, I.ok.mod, I.bs, Nat.le_trans I.ok.bsz I.sz, I.stack, I.stkFree, I.hok, I.bare⟩
/-- behind a call -/
theorem Inv.after {Q : VK} {u : Value} (I : Inv X pins σ H s) (h : CE X.stack X.prog X.w H s Q u s') : EP X pins σ Q u s' := by
  obtain ⟨v, H', os, bare, un, hok, r, q⟩ := h
  obtain ⟨hh, g, d, t, os'⟩ := s'
  obtain rfl : os' = s.os := os
  exact ⟨v, H', I.call (h' := hh) (g' := g) (d' := d) (t' := t) (ch := []) un hok bare (fun b z => absurd z (by simp)), r, q⟩
end

/-! ### calls -/
/-- f(..): the written arguments, then the defaults dvs; E: what is wanted of an exception -/
noncomputable def tCall (sp : Sp) (dvs : List V) (E : XK) (t : TA) : TE := fun σ H Q => t σ H fun vs H1 => sp (vs ++ dvs) H1 Q E
/-- o.m(..) of an instance of the class at C -/
noncomputable def tMeth (C : Addr) (m : Str) (sp : Sp) (dvs : List V) (E : XK) (ta : TE) (t : TA) : TE := fun σ H Q => ta σ H fun x H1 => ∃ a dx fs, x = .ref a ∧ H1 a = some (.ins C dx fs) ∧ fs.lookup m = none ∧
  t σ H1 fun vs H2 => sp (x :: (vs ++ dvs)) H2 Q E
/-- C(..): a new instance and its dict, then __init__ -/
noncomputable def tMake (C : Addr) (sp : Sp) (dvs : List V) (E : XK) (t : TA) : TE := fun σ H Q => t σ H fun vs H1 => ∀ x dx, H1 x = none → H1 dx = none → dx ≠ x →
  sp (.ref x :: (vs ++ dvs)) (upd (upd H1 dx (.own x)) x (.ins C dx [])) (fun v H2 => v = .non ∧ Q (.ref x) H2) E

/-- how the parameters are bound: us the positional arguments, kw the keywords' values by name, ds the defaults that fill up -/
noncomputable def Binds (K : PySem.W.Frag) (fd : FuncData) (ps : List Str) (ds : List Value) : Prop :=
  ∀ (s : Shared) (us : List Value), K.In s.heap → (us ++ ds).length = ps.length → BindsTo s fd ⟨us, []⟩ (ps.zip (us ++ ds))
/-- every parameter is given -/
theorem Binds.all {K : PySem.W.Frag} {fd : FuncData} {ps : List Str} (h : ∀ us : List Value, us.length = ps.length → bindArgs fd ⟨us, []⟩ = pure (ps.zip us)) : Binds K fd ps [] := fun s us _ hl => by
  rw [List.append_nil] at hl ⊢
  exact .of_eq (h us hl)

/-- an exception of a callee reaches what this body wants of exceptions -/
noncomputable def Passes (CX : CXT) (X : Cx) (E : XK) : Prop := ∀ (pins : List (Addr × Obj)) (σ : St) (H : Hp) (s : Shared) (e : Value) (s' : Shared), Inv X pins σ H s → CX X.stack H s E e s' → X.xe e s'

section
variable {X : Cx} {CX : CXT} {k : Nat} {f C : Addr} {fd : FuncData} {ps : List Str} {sp : Sp} {dvs : List V} {ds : List Value} {E : XK} {x m : Str} {p pos apos : Pos} {e o : Expr} {es : List Expr} {ta : TE} {t : TA}

/-- the callee runs -/
theorem run_fn {pins : List (Addr × Obj)} {σ : St} {H : Hp} {s : Shared} {Q : VK} {us : List Value} {vs : List V} (F : FnOk X.prog X.w X.K X.mg X.base CX k f fd ps sp) (hr : Room k X.A) (hb : Binds X.K fd ps ds) (hd : Vals dvs ds) (hx : Passes CX X E)
    (I : Inv X pins σ H s) (r : Vals vs us) (h : sp (vs ++ dvs) H Q E) : wpAny (model X.prog X.w) X.A (call (.ref f) us) (EP X pins σ Q) X.xe s := by
  have r2 : Vals (vs ++ dvs) (us ++ ds) := r.append hd
  have hl : (us ++ ds).length = ps.length := by rw [← r2.length]; exact F.len _ _ _ _ h
  refine wpAny_call (codeAny_mono (F.run X.A X.stack s H ⟨us, []⟩ (us ++ ds) (vs ++ dvs) Q E hr I.env0 (hb s us I.kIn hl) r2 h) fun r s' hq => ?_)
  cases r with
  | error e => exact hx pins σ H s e s' I hq
  | ok fl =>
    cases fl with
    | ret u => exact I.after hq
    | next => exact False.elim hq
    | brk => exact False.elim hq
    | cont => exact False.elim hq

theorem pe_call (F : FnOk X.prog X.w X.K X.mg X.base CX k f fd ps sp) (hr : Room k X.A) (hg : Gl X x) (hm : X.mg x = some (.ref f)) (hk : PySem.W.keepIn X.K (.ref f) = true) (hb : Binds X.K fd ps ds) (hd : Vals dvs ds) (hx : Passes CX X E)
    (ha : PA X (e :: es) t) (hdb : (x == ("__debug__" : Str)) = false := by decide) (he : starEach (e :: es) X.env = (false, eval e X.env) :: starEach es X.env := by rfl) (hpl : (backTo pos (starEach es X.env)).any (·.1) = false := by rfl) :
    PE X (.Call (.Name x p) (e :: es) [] pos) (tCall sp dvs E t) := by
  intro pins s σ H Q I h
  refine wpAny_Call_Name_kw (ld_glob I hg hm ?_ hdb)
  refine PySem.W.callWith_K (h₀ := X.base) I.ok.mod.kin hk (thn (ha pos pins s σ H _ I h) fun us s1 ⟨vs, H1, I1, r, q⟩ => ⟨I1.kIn, ?_⟩) he hpl
  exact run_fn F hr hb hd hx I1 r q
/-- what a class must have to be made -/
structure Mk (K : PySem.W.Frag) (C f : Addr) : Prop where
  makes : PySem.W.makesIn K C = true
  init : PySem.W.findIn K (.ref C) "__init__" = some (some (.ref f))
  fn : PySem.W.isFn K (.ref f) = true
  kp : PySem.W.keepIn K (.ref C) = true

end

/-! ### keywords -/
/-- the values of the keywords, from the left -/
noncomputable def PK (X : Cx) (kws : List Keyword) (t : TA) : Prop :=
  ∀ (pos : Pos) (pins : List (Addr × Obj)) (s : Shared) (σ : St) (H : Hp) (Q : List V → Hp → Prop), Inv X pins σ H s → t σ H Q → wpAny (model X.prog X.w) X.A (evalAll ((backToKw pos (keywordEach kws X.env)).map (·.2))) (AP X pins σ Q) X.xe s
section
variable {X : Cx} {CX : CXT} {k : Nat} {f C : Addr} {fd : FuncData} {ps ks : List Str} {sp : Sp} {E : XK} {x m : Str} {p pos apos kpos : Pos} {e o : Expr} {es : List Expr} {kws : List Keyword} {te ta : TE} {t tk : TA} {nm : Option Str}
/-- how a call with keywords binds: g puts the positional values us and the keywords' values ws (names ks) in the parameters' order, defaults among them -/
structure KBinds (K : PySem.W.Frag) (fd : FuncData) (ps ks : List Str) (g : List Value → List Value → List Value) (gV : List V → List V → List V) : Prop where
  to : ∀ (s : Shared) (us ws : List Value), K.In s.heap → (g us ws).length = ps.length → BindsTo s fd ⟨us, ks.zip ws⟩ (ps.zip (g us ws))
  rel : ∀ {vs : List V} {us : List Value} {zs : List V} {ws : List Value}, Vals vs us → Vals zs ws → Vals (gV vs zs) (g us ws)
noncomputable def tCallK (sp : Sp) (gV : List V → List V → List V) (E : XK) (t tk : TA) : TE := fun σ H Q => t σ H fun vs H1 => tk σ H1 fun zs H2 => sp (gV vs zs) H2 Q E
variable {g : List Value → List Value → List Value} {gV : List V → List V → List V}
end

/-! ### a def's body keeps its promise -/
/-- names: the parameters first -/
structure FnScope (N P : List Str) (sc : Scope) : Prop where
  kind : sc.kind = .function
  co : sc.isCoroutine = false
  gen : sc.isGenerator = false
  nd : N.Nodup
  pre : N.take P.length = P
  par : ∀ x ∈ P, sc.names.lookup x = some .local ∨ sc.names.lookup x = some .cell
  nofree : ∀ y ∈ sc.names, y.2 ≠ .free

theorem bindL_out {kindOf : Str → Option NameKind} {x : Str} : ∀ {binds : List (Str × Value)} {m : Str → Option Value}, (∀ v, (x, v) ∉ binds) → bindL kindOf binds m x = m x
  | [], _, _ => rfl
  | (n, v) :: r, m, h => by
    unfold bindL
    rw [bindL_out fun w hw => h w (List.mem_cons_of_mem _ hw)]
    split
    · have : x ≠ n := by rintro rfl; exact h v List.mem_cons_self
      simp [this]
    · rfl
theorem bindC_out {kindOf : Str → Option NameKind} {x : Str} : ∀ {binds : List (Str × Value)} {m : Str → Option Value}, (∀ v, (x, v) ∉ binds) → bindC kindOf binds m x = m x
  | [], _, _ => rfl
  | (n, v) :: r, m, h => by
    unfold bindC
    rw [bindC_out fun w hw => h w (List.mem_cons_of_mem _ hw)]
    split
    · rfl
    · have : x ≠ n := by rintro rfl; exact h v List.mem_cons_self
      simp [this]
theorem bindL_get {kindOf : Str → Option NameKind} {x : Str} {v : Value} : ∀ {P : List Str} {vs : List Value} {i : Nat} {m : Str → Option Value}, P.Nodup → P[i]? = some x → vs[i]? = some v → kindOf x = some .local →
    bindL kindOf (P.zip vs) m x = some v
  | [], _, _, _, _, h, _, _ => by simp at h
  | _ :: _, [], _, _, _, _, h, _ => by simp at h
  | p :: P, w :: vs, 0, m, nd, h1, h2, hk => by
    simp at h1 h2; subst h1; subst h2
    show bindL kindOf ((p, w) :: P.zip vs) m p = _
    unfold bindL
    rw [bindL_out fun v hv => (List.nodup_cons.mp nd).1 (List.of_mem_zip hv).1, if_pos hk]
    simp
  | p :: P, w :: vs, i + 1, m, nd, h1, h2, hk => by
    show bindL kindOf ((p, w) :: P.zip vs) m x = _
    unfold bindL
    exact bindL_get (i := i) (List.nodup_cons.mp nd).2 (by simpa using h1) (by simpa using h2) hk
theorem bindC_get {kindOf : Str → Option NameKind} {x : Str} {v : Value} : ∀ {P : List Str} {vs : List Value} {i : Nat} {m : Str → Option Value}, P.Nodup → P[i]? = some x → vs[i]? = some v → kindOf x ≠ some .local →
    bindC kindOf (P.zip vs) m x = some v
  | [], _, _, _, _, h, _, _ => by simp at h
  | _ :: _, [], _, _, _, _, h, _ => by simp at h
  | p :: P, w :: vs, 0, m, nd, h1, h2, hk => by
    simp at h1 h2; subst h1; subst h2
    show bindC kindOf ((p, w) :: P.zip vs) m p = _
    unfold bindC
    rw [bindC_out fun v hv => (List.nodup_cons.mp nd).1 (List.of_mem_zip hv).1, if_neg hk]
    simp
  | p :: P, w :: vs, i + 1, m, nd, h1, h2, hk => by
    show bindC kindOf ((p, w) :: P.zip vs) m x = _
    unfold bindC
    exact bindC_get (i := i) (List.nodup_cons.mp nd).2 (by simpa using h1) (by simpa using h2) hk

/-- the names' values at the entry -/
noncomputable def start (N : List Str) (vs : List V) : St := vs.map some ++ List.replicate (N.length - vs.length) none

/-- the context of a def's body, at its entry; an exception leaves the frame, then lies as CX says -/
noncomputable def cxOf (CX : CXT) (P : Program) (w : World) (K : PySem.W.Frag) (mg : Str → Option Value) (base : Heap) (N : List Str) (qual : Str) (scope : Scope) (f : Addr) (cd : Value) (A : Around) (outer : List Env) (s : Shared) (H : Hp) (E : XK) : Cx where
  prog := P
  w := w
  K := K
  mg := mg
  base := base
  A := A.deeper (envOfC qual scope s.heap.objs.size f cd)
  N := N
  s₀ := s
  H₀ := H
  env := envOfC qual scope s.heap.objs.size f cd
  outer := outer
  stack := envOfC qual scope s.heap.objs.size f cd :: outer
  ex := []
  calm := true
  fn := fun _ => true
  pn := []
  xe := fun e s' => wpAny (model P w) (A.deeper (envOfC qual scope s.heap.objs.size f cd)) (leaving (envOfC qual scope s.heap.objs.size f cd) e) (fun _ s'' => CX outer H s E e s'') (fun e' s'' => CX outer H s E e' s'') s'

theorem cell_has {sc : Scope} {n : Nat} {x : Str} (h : sc.names.lookup x = some .cell) : ∃ c, (cellsFrom n sc.names []).lookup x = some c := by
  have q := PySem.W.cellsFrom_some sc.names n [] (.inl h)
  exact Option.isSome_iff_exists.mp q

theorem inv_start {CX : CXT} {P : Program} {w : World} {K : PySem.W.Frag} {mg : Str → Option Value} {base : Heap} {N ps : List Str} {qual : Str} {scope : Scope} {f : Addr} {cd : Value} {A : Around} {outer : List Env} {s s1 : Shared} {H : Hp} {E : XK} {us : List Value} {vs : List V}
    (S : FnScope N ps scope) (hd : A.handled = none) (e0 : Env0 P w K mg base A outer s H) (hl : vs.length = ps.length) (r : Vals vs us)
    (x : InCallC s s.heap.objs.size (bindL (envOfC qual scope s.heap.objs.size f cd).kindOf (ps.zip us) fun _ => none) (cellsFrom (s.heap.objs.size + 1) scope.names []) (bindC (envOfC qual scope s.heap.objs.size f cd).kindOf (ps.zip us) fun _ => none) s1) :
    Inv (cxOf CX P w K mg base N qual scope f cd A outer s H E) [] (start N vs) H s1 := by
  have hpl : ps.length ≤ N.length := by have := congrArg List.length S.pre; rw [List.length_take] at this; omega
  obtain ⟨h1, tk, rfl, hk⟩ := x.done
  have noA : ∀ b : Addr, b ∉ (cxOf CX P w K mg base N qual scope f cd A outer s H E).ex := fun b z => absurd (show b ∈ ([] : List Addr) from z) (by simp)
  refine ⟨⟨e0.mod, S.kind, rfl, rfl, Nat.le_refl _, fun y z c h1 h2 => ?_, fun y hy => ?_, fun y c _ h => ?_, fun _ => hd, Around.frames_deeper e0.frames, .inr ⟨rfl, rfl⟩, fun b z => absurd z (noA b), e0.bs, e0.bsz, fun b _ _ => noA b, fun b z => absurd z (noA b), e0.funs, e0.frf⟩,
    rfl, e0.bare, Un.kept hk, ⟨_, x.toInCall.ns, fun i y v h1 h2 h3 => ?_⟩, fun y c h => ⟨_, x.cell y c h⟩, e0.hok.fresh (Nat.le_refl _), fun y c h => ?_, fun p hp => absurd (show p ∈ ([] : List (Addr × Obj)) from hp) (by simp), e0.hok.kept hk, ?_⟩
  · exact name_of_addr x.apart (PySem.mem_of_lookup h1) (PySem.mem_of_lookup h2)
  · have hy : scope.names.lookup y = some .cell ∨ scope.names.lookup y = some .free := hy
    rcases hy with hy | hy
    · exact cell_has hy
    · exact absurd rfl (S.nofree _ (PySem.mem_of_lookup hy))
  · exact Nat.le_of_lt (x.above y c (PySem.mem_of_lookup h))
  · have hi : i < vs.length := by
      unfold start at h2
      by_cases hi : i < vs.length
      · exact hi
      · rw [List.getElem?_append_right (by simpa using hi)] at h2
        rw [List.getElem?_replicate] at h2
        split at h2 <;> cases h2
    have ha : vs[i]? = some v := by
      unfold start at h2
      rw [List.getElem?_append_left (by simpa using hi), List.getElem?_map] at h2
      cases e : vs[i]? with
      | none => rw [e] at h2; cases h2
      | some a => rw [e] at h2; cases h2; rfl
    obtain ⟨u, hu, rv⟩ := r.get ha
    have hp : ps[i]? = some y := by
      rw [← S.pre, List.getElem?_take_of_lt (by omega)]; exact h1
    have ndP : ps.Nodup := by rw [← S.pre]; exact S.nd.sublist (List.take_sublist _ _)
    refine ⟨u, rv, ?_⟩
    rcases S.par y (List.mem_of_getElem? hp) with k | k
    · exact .inl ⟨k, bindL_get ndP hp hu k⟩
    · obtain ⟨c, e⟩ := cell_has (n := s.heap.objs.size + 1) k
      refine .inr ⟨.inl k, c, e, ?_⟩
      have q := x.cell y c e
      rw [bindC_get ndP hp hu (by show scope.names.lookup y ≠ _; rw [k]; decide)] at q
      exact q
  · exact e0.hok.fresh (Nat.le_of_lt (x.above y c (PySem.mem_of_lookup h)))
  · unfold start
    show _ = N.length
    rw [List.length_append, List.length_map, List.length_replicate]
    omega

/-- THE RULE: a def (or a method) of the text, by its body. The body's reading t is chosen for each entry; it is run at the parameters' values -/
theorem fn_of {CX : CXT} {P : Program} {w : World} {K : PySem.W.Frag} {mg : Str → Option Value} {base : Heap} {k : Nat} {f : Addr} {name qual : Str} {params : Arguments} {body : List Stmt} {scope : Scope} {dV kV doc pm cdv ct oc : Value} {an od : Option Addr}
    {osl : Array (Option Value)} {N ps : List Str} {sp : Sp} (lk : K.lookup f = some ⟨oc, od, .func (PySem.W.fnOf name qual params body scope dV kV doc pm an cdv ct), osl⟩) (hcd : PySem.W.codeIn K cdv qual = true) (S : FnScope N ps scope)
    (len : ∀ vs H Q E, sp vs H Q E → vs.length = ps.length)
    (hbody : ∀ (A : Around) (outer : List Env) (s : Shared) (H : Hp) (vs : List V) (Q : VK) (E : XK), Room k (A.deeper (envOfC qual scope s.heap.objs.size f cdv)) → sp vs H Q E →
      ∃ t, PSs (cxOf CX P w K mg base N qual scope f cdv A outer s H E) body t ∧ t { nx := fun _ H' => Q .non H', rt := Q } (start N vs) H) :
    FnOk P w K mg base CX (k + 1) f (PySem.W.fnOf name qual params body scope dV kV doc pm an cdv ct) ps sp := by
  refine ⟨len, fun A outer s H args us vs Q E hr e0 hb r hsp => ?_⟩
  have hl := len _ _ _ _ hsp
  have KX : K.In s.heap := e0.mod.kin.keeps fun b o e => (e0.bs b o e).1
  have lim : s.heap.NoLimit := e0.mod.nolimit.keeps fun b o e => (e0.bs b o e).1
  have hkind : ∀ y ∈ ps.zip us, scope.names.lookup y.1 = some .local ∨ (scope.names.lookup y.1 = some .cell ∧ ((cellsFrom (s.heap.objs.size + 1) scope.names []).lookup y.1).isSome = true) := fun ⟨n, v⟩ hy => by
    rcases S.par n (List.of_mem_zip hy).1 with q | q
    · exact .inl q
    · exact .inr ⟨q, PySem.W.cellsFrom_some _ _ _ (.inl q)⟩
  refine codeAny_call_function hr.depth (KX _ _ lk) rfl S.co S.gen rfl (PySem.W.codeRec_of KX hcd) (hb _ _ _ _ ?_)
  refine wpAny_newFunctionEnv_cells S.kind hkind fun env he s1 x => ?_
  subst he
  refine ⟨lim.keeps x.toInCall.keep, codeAny_func ?_⟩
  obtain ⟨t, ht, hq⟩ := hbody A outer s H vs Q E (hr.deeper _) hsp
  have I : Inv (cxOf CX P w K mg base N qual scope f cdv A outer s H E) [] (start N vs) H s1 := inv_start S hr.hd e0 hl r x
  refine wpAny_mono (ht [] s1 (start N vs) H _ I hq) (fun fl s' hs => ?_) fun e s' hs => hs
  have fin : ∀ {σ' : St} {H' : Hp} {v : V} {u : Value}, Inv (cxOf CX P w K mg base N qual scope f cdv A outer s H E) [] σ' H' s' → RelV v u → Q v H' → CE outer P w H s Q u s' :=
    fun {σ' H' v u} J rv q => ⟨v, H', J.os, J.bare, J.base, J.hok, rv, q⟩
  cases fl with
  | ret u =>
    obtain ⟨v, σ', H', J, rv, q⟩ := hs
    exact fin J rv q
  | next =>
    obtain ⟨σ', H', J, q⟩ := hs
    exact fin (v := V.non) (u := Value.none) J rfl q
  | brk =>
    obtain ⟨_, _, _, q⟩ := hs
    exact False.elim q
  | cont =>
    obtain ⟨_, _, _, q⟩ := hs
    exact False.elim q
end L2

namespace L2
open PySem PySem.Spec PyProof.Rows
section
variable {X : Cx} {x : Str} {p pos : Pos} {e : Expr} {es : List Expr} {t : TA} {id T : String} {r : List V → Hp → VK → Prop}

noncomputable def tCB (r : List V → Hp → VK → Prop) (t : TA) : TE := fun σ H Q => t σ H fun vs H1 => r vs H1 Q
/-- f(e, ..), f a built-in function -/
theorem pe_callB (hc : CallR X (.builtin id) r) (hg : Gl X x) (hm : X.mg x = none) (hv : bootBuiltins x = some (.builtin id)) (ha : PA X (e :: es) t) (hn : x ≠ "__name__" := by decide) (hdb : (x == ("__debug__" : Str)) = false := by decide)
    (he : starEach (e :: es) X.env = (false, eval e X.env) :: starEach es X.env := by rfl) (hpl : (backTo pos (starEach es X.env)).any (·.1) = false := by rfl) : PE X (.Call (.Name x p) (e :: es) [] pos) (tCB r t) := by
  intro pins s σ H Q I h
  refine wpAny_Call_Name_kw (ld_blt I hg hm hv ?_ hn hdb)
  exact PyProof.Rows.callWith_builtin1 (thn (ha pos pins s σ H _ I h) fun us s1 ⟨vs, H1, I1, r1, q1⟩ => hc pins s1 σ H1 vs us Q I1 r1 q1) he hpl
/-- T(e, ..), T a built-in type -/
theorem pe_callTy (hc : CallR X (.type T) r) (hg : Gl X x) (hm : X.mg x = none) (hv : bootBuiltins x = some (.type T)) (ha : PA X (e :: es) t) (hn : x ≠ "__name__" := by decide) (hdb : (x == ("__debug__" : Str)) = false := by decide)
    (he : starEach (e :: es) X.env = (false, eval e X.env) :: starEach es X.env := by rfl) (hpl : (backTo pos (starEach es X.env)).any (·.1) = false := by rfl) : PE X (.Call (.Name x p) (e :: es) [] pos) (tCB r t) := by
  intro pins s σ H Q I h
  refine wpAny_Call_Name_kw (ld_blt I hg hm hv ?_ hn hdb)
  exact PyProof.Rows.callWith_type1 (thn (ha pos pins s σ H _ I h) fun us s1 ⟨vs, H1, I1, r1, q1⟩ => hc pins s1 σ H1 vs us Q I1 r1 q1) he hpl
end
end L2

namespace HT
open PySem PyProof.Rows

/-- t < u of tuples of ints -/
noncomputable def lexLt : List Int → List Int → Bool
  | [], [] => false
  | [], _ :: _ => true
  | _ :: _, [] => false
  | x :: xs, y :: ys => if x = y then lexLt xs ys else decide (x < y)
section
open PySem.SeqAt
open PySem.AutoSeq1 (wpAny_loadPart')
open PySem.MeetsSeq PySem.MeetsSeq2 PySem.MeetsSeq3

end

section
variable {prog : Program} {w : World} {A : Around} {E : Value → Shared → Prop} {s : Shared}

/-- t + u, t not empty -/
theorem cat_tup {t b : Addr} {vs ws : List Value} {Q : Value → Shared → Prop} (ht : IsTup s.heap t vs.toArray) (hb : IsTup s.heap b ws.toArray) (hv : vs ≠ [])
    (h1 : ws = [] → Q (.ref t) s) (h2 : ws ≠ [] → Q (.ref s.heap.objs.size) { s with heap := s.heap.push { cls := .type "tuple", data := .seq (vs ++ ws).toArray } })
    (hsz : vs.length + ws.length ≤ sizeLine) : wpAny (model prog w) A (binaryOp .Add (.ref t) (.ref b)) Q E s := by
  obtain ⟨⟨cls, dd, data, sl⟩, ho, hc, n, hd⟩ := id ht
  obtain ⟨⟨cls2, dd2, data2, sl2⟩, ho2, hc2, n2, hd2⟩ := id hb
  simp only at hc hd hc2 hd2
  subst hc hd hc2 hd2
  have e : vs.toArray ++ ws.toArray = (vs ++ ws).toArray := by simp
  by_cases hw : ws = []
  · exact concat_meets ⟨_, ho, rfl⟩ ⟨_, ho2, rfl⟩ noFill_tuple_add seq_tuple_add PySem.F.slot_tuple_add PySem.F.entry_tuple_add (PySem.F.args_tuple_add_2 _ _)
      (tuple_addW1 t b vs.toArray ws.toArray n n2 dd dd2 sl sl2 (by simpa using hv) (by simp [hw])) ⟨ho, ho2, h1 hw⟩
  · refine concat_meets ⟨_, ho, rfl⟩ ⟨_, ho2, rfl⟩ noFill_tuple_add seq_tuple_add PySem.F.slot_tuple_add PySem.F.entry_tuple_add (PySem.F.args_tuple_add_2 _ _)
      (tuple_addW2 t b vs.toArray ws.toArray n n2 dd dd2 sl sl2 (by simpa using hv) (by simpa using hw) (by rw [List.size_toArray, List.size_toArray]; exact hsz)) ⟨ho, ho2, ?_⟩
    rw [e]
    exact h2 hw

/-! ### t[a:b], not the whole -/
/-- a slice's bound as a place among n (d where it is left out) -/
noncomputable def sIx (n d : Nat) : Option Int → Nat
  | none => d
  | some v => if v < 0 then (v + (n : Int)).toNat else min v.toNat n
theorem sIx_none (n d : Nat) : sIx n d none = d := rfl
theorem sIx_nat (n d k : Nat) : sIx n d (some (k : Int)) = min k n := by
  show (if (k : Int) < 0 then ((k : Int) + (n : Int)).toNat else min (k : Int).toNat n) = min k n
  rw [if_neg (by omega), Int.toNat_natCast]
theorem sIx_le (n d : Nat) (hd : d ≤ n) (o : Option Int) : sIx n d o ≤ n := by
  cases o with
  | none => exact hd
  | some v =>
    show (if v < 0 then (v + (n : Int)).toNat else min v.toNat n) ≤ n
    by_cases hv : v < 0
    · rw [if_pos hv]; omega
    · rw [if_neg hv]; exact Nat.min_le_right _ _
theorem clip_eq (v : Int) (n d : Nat) : (if v < 0 then max (v + (n : Int)) 0 else min v (n : Int)) = ((sIx n d (some v) : Nat) : Int) := by
  show (if v < 0 then max (v + (n : Int)) 0 else min v (n : Int)) = (((if v < 0 then (v + (n : Int)).toNat else min v.toNat n) : Nat) : Int)
  by_cases hv : v < 0
  · simp only [if_pos hv]; omega
  · simp only [if_neg hv]; omega
theorem adjust_gen (lo hi : Option Int) (n : Nat) : Builtin.Slice.sliceAdjust lo hi 1 (n : Int) = (((sIx n 0 lo : Nat) : Int), ((sIx n n hi : Nat) : Int)) := by
  have h1 : ¬ ((1 : Int) < 0) := by omega
  unfold Builtin.Slice.sliceAdjust
  simp only [h1, if_false]
  refine Prod.ext ?_ ?_
  · cases lo with
    | none => rfl
    | some v => exact clip_eq v n 0
  · cases hi with
    | none => rfl
    | some v => exact clip_eq v n n
theorem places_gen (i j : Nat) : Builtin.Slice.slicePlaces (i : Int) (j : Int) 1 = j - i := by
  unfold Builtin.Slice.slicePlaces
  have h1 : (1 : Int) > 0 := by omega
  simp only [h1, if_true, Int.ediv_one]
  split <;> omega
theorem slicePart_ {v : Value} {o : Option Int} {Q : Option Int → Shared → Prop} (p : IsPart v o) (h : Q o s) : wpAny (model prog w) A (Builtin.Slice.slicePartIndex v) Q E s := by
  cases p with
  | none => exact slicePart_none h
  | int i t => exact slicePart_int h
theorem sliceApplied_gen {sl : Addr} {vl vu : Value} {lo hi : Option Int} {n : Nat} {Q : Int × Int × Nat → Shared → Prop} (hs : s.heap.IsSliceOf sl vl vu .none) (pl : IsPart vl lo) (pu : IsPart vu hi)
    (h : Q (((sIx n 0 lo : Nat) : Int), 1, sIx n n hi - sIx n 0 lo) s) : wpAny (model prog w) A (Builtin.Slice.sliceApplied (.ref sl) (pure (n : Int))) Q E s := by
  obtain ⟨os, hos, hcs, hds⟩ := id hs
  unfold Builtin.Slice.sliceApplied Builtin.Slice.sliceFields
  refine wpAny_bind (wpAny_bind (wpAny_field hos hds (x := vl) rfl (wpAny_bind (wpAny_field hos hds (x := vu) rfl (wpAny_bind (wpAny_field hos hds (x := .none) rfl (wpAny_pure ?_)))))))
  refine wpAny_bind (slicePart_none ?_)
  show wpAny _ _ (if ((1 : Int) == 0) = true then _ else _) _ _ s
  rw [if_neg (by decide)]
  refine wpAny_bind (slicePart_ pl (wpAny_bind (slicePart_ pu (wpAny_bind (wpAny_pure ?_)))))
  show wpAny _ _ (match Builtin.Slice.sliceAdjust lo hi 1 (n : Int) with | (lo, hi) => pure (lo, (1 : Int), Builtin.Slice.slicePlaces lo hi 1)) _ _ s
  rw [adjust_gen lo hi n]
  show wpAny _ _ (pure (((sIx n 0 lo : Nat) : Int), (1 : Int), Builtin.Slice.slicePlaces ((sIx n 0 lo : Nat) : Int) ((sIx n n hi : Nat) : Int) 1)) _ _ s
  rw [places_gen]
  exact wpAny_pure h
theorem pick_gen (xs : Array Value) (i k : Nat) : ((List.range k).filterMap fun (m : Nat) => xs[((i : Int) + (m : Int) * 1).toNat]?).toArray = ((xs.toList.drop i).take k).toArray := by
  have e : (fun (m : Nat) => xs[((i : Int) + (m : Int) * 1).toNat]?) = fun m => xs[i + m]? := by
    funext m
    have : ((i : Int) + (m : Int) * 1).toNat = i + m := by omega
    rw [this]
  rw [e]
  have := pick_run xs i k
  rw [List.filterMap_map] at this
  have e2 : ((fun x => xs[x]?) ∘ fun x => i + x) = fun m => xs[i + m]? := rfl
  rw [e2] at this
  rw [this]

theorem getItem_tuple_cut {t sl : Addr} {items : Array Value} {vl vu : Value} {lo hi : Option Int} {Q : Value → Shared → Prop} (ht : IsTup s.heap t items) (hs : s.heap.IsSliceOf sl vl vu .none) (pl : IsPart vl lo) (pu : IsPart vu hi)
    (hw : ¬ (sIx items.size 0 lo = 0 ∧ sIx items.size items.size hi = items.size))
    (h : Q (.ref s.heap.objs.size) { s with heap := s.heap.push { cls := .type "tuple", data := .seq ((items.toList.drop (sIx items.size 0 lo)).take (sIx items.size items.size hi - sIx items.size 0 lo)).toArray } })
    (hsz : items.size ≤ sizeLine) : wpAny (model prog w) A (getItem (.ref t) (.ref sl)) Q E s := by
  have htake : sizeOk (.seq ((items.toList.drop (sIx items.size 0 lo)).take (sIx items.size items.size hi - sIx items.size 0 lo)).toArray) := by
    show ((items.toList.drop (sIx items.size 0 lo)).take (sIx items.size items.size hi - sIx items.size 0 lo)).toArray.size ≤ sizeLine
    rw [List.size_toArray, List.length_take, List.length_drop, Array.length_toList]
    omega
  have hj : sIx items.size items.size hi ≤ items.size := sIx_le _ _ (Nat.le_refl _) hi
  obtain ⟨os, hos, hcs, hds⟩ := id hs
  have hTs : s.TypeIs (.ref sl) "slice" := ⟨os, hos, hcs⟩
  unfold getItem
  try with_reducible refine wpAny_holding ?_
  first | refine wpAny_bind (wpAny_pure ?_) | skip
  refine wpAny_bind (wpAny_sequenceKey ht.typeIs (by decide) ?_)
  refine wpAny_bind (wpAny_callSpecial?_slot (name := Str.ofString "__getitem__") ht.typeIs PyProof.Rows.slot_tuple_getitem
    (wpAny_call_entry PyProof.Rows.slot_tuple_getitem ht.typeIs entry_tuple_getitem ?_ (args_tuple_getitem _ _)))
  show wpAny _ _ (Builtin.Tuple.tupleItemsOf (.ref t) >>= _) _ _ s
  refine wpAny_bind (tupleItemsOf_ ht ?_)
  refine wpAny_bind (wpAny_typeOf hTs ?_)
  rw [if_pos (by decide)]
  refine wpAny_bind (sliceApplied_gen hs pl pu ?_)
  have hno : ¬ ((((sIx items.size 0 lo : Nat) : Int) == 0 && (1 : Int) == 1 && (sIx items.size items.size hi - sIx items.size 0 lo) == items.size) = true) := by
    intro q
    rw [Bool.and_eq_true, Bool.and_eq_true] at q
    have q1 : ((sIx items.size 0 lo : Nat) : Int) = 0 := eq_of_beq q.1.1
    have q2 : sIx items.size items.size hi - sIx items.size 0 lo = items.size := eq_of_beq q.2
    exact hw ⟨by omega, by omega⟩
  show wpAny _ _ (if (((sIx items.size 0 lo : Nat) : Int) == 0 && (1 : Int) == 1 && (sIx items.size items.size hi - sIx items.size 0 lo) == items.size) = true then _ else _) _ _ s
  rw [if_neg hno, pick_gen]
  first
    | exact wpAny_bind (m := Builtin.Tuple.tupleExact _) (wpAny_newObj_type (wpAny_pure ⟨_, rfl, wpAny_pure h⟩) htake)
    | exact wpAny_bind (m := Builtin.Tuple.tupleExact _) (wpAny_newObj_type (wpAny_bind (wpAny_pure (wpAny_pure ⟨_, rfl, wpAny_pure h⟩))) htake)
    | exact wpAny_bind (wpAny_bind (m := Builtin.Tuple.tupleExact _) (wpAny_newObj_type (wpAny_pure (wpAny_pure ⟨_, rfl, wpAny_pure h⟩)) htake))
    | exact wpAny_bind (wpAny_bind (m := Builtin.Tuple.tupleExact _) (wpAny_newObj_type (wpAny_pure ⟨_, rfl, wpAny_pure h⟩) htake))
end
end HT

namespace L2
open PySem PySem.Spec PyProof.Rows

/-! ### the parts of a slice -/
abbrev TO := St → Hp → (Option Int → Hp → Prop) → Prop
/-- a slice's part (left out, or an int) -/
noncomputable def PO (X : Cx) (e : Option Expr) (t : TO) : Prop :=
  ∀ (pins : List (Addr × Obj)) (s : Shared) (σ : St) (H : Hp) (Q : Option Int → Hp → Prop), Inv X pins σ H s → t σ H Q →
    wpAny (model X.prog X.w) X.A (evalPart e X.env) (fun u s' => ∃ o H', Inv X pins σ H' s' ∧ IsPart u o ∧ Q o H') X.xe s
noncomputable def tNoPart : TO := fun _ H Q => Q none H
noncomputable def tPart (t : TE) : TO := fun σ H Q => t σ H fun x H1 => ∃ i, x = .int i ∧ Q (some i) H1

theorem intsAre_of {ns : List Int} : ∀ {us : List Value}, Vals (ns.map V.int) us → IntsAre us ns := by
  induction ns with
  | nil => intro us r; rw [List.map_nil] at r; cases r; exact .nil
  | cons n ns ih =>
    intro us r
    rw [List.map_cons] at r
    cases r with
    | cons r1 r2 =>
      obtain ⟨t, e⟩ := r1
      subst e
      exact .cons n t (ih r2)

section
variable {X : Cx} {e : Expr} {te : TE} {lo hi : Option Expr} {tl th : TO} {pos p2 : Pos}

theorem po_none : PO X none tNoPart := by
  intro pins s σ H Q I h
  rw [evalPart_none]
  exact wpAny_pure ⟨none, H, I, .none, h⟩
theorem po_some (h : PE X e te) : PO X (some e) (tPart te) := by
  intro pins s σ H Q I hw
  rw [evalPart_some]
  refine thn (h pins s σ H _ I hw) fun u s1 ⟨x, H1, I1, r1, q1⟩ => ?_
  obtain ⟨i, rfl, q⟩ := q1
  obtain ⟨t, rfl⟩ := r1
  exact ⟨some i, H1, I1, .int i t, q⟩

/-- what a slice of a value is, by values: the slice object stands at sl -/
noncomputable def SlR (X : Cx) (r : V → Option Int → Option Int → Hp → VK → Prop) : Prop :=
  ∀ (pins : List (Addr × Obj)) (s : Shared) (σ : St) (H : Hp) (x : V) (v vl vu : Value) (lo hi : Option Int) (sl : Addr) (Q : VK), Inv X pins σ H s → RelV x v → s.heap.IsSliceOf sl vl vu .none → IsPart vl lo → IsPart vu hi → r x lo hi H Q →
    ∃ T id, typeLookup (.type T) "__getitem__" = pure (some (.builtin id)) ∧ s.TypeIs v T ∧ wpAny (model X.prog X.w) X.A (getItem v (.ref sl)) (EP X pins σ Q) X.xe s
theorem SlR.or {r r' : V → Option Int → Option Int → Hp → VK → Prop} (h : SlR X r) (h' : SlR X r') : SlR X (fun x lo hi H Q => r x lo hi H Q ∨ r' x lo hi H Q) := by
  intro pins s σ H x v vl vu lo hi sl Q I rx hs pl pu q
  rcases q with q | q
  · exact h pins s σ H x v vl vu lo hi sl Q I rx hs pl pu q
  · exact h' pins s σ H x v vl vu lo hi sl Q I rx hs pl pu q
noncomputable def tSl (r : V → Option Int → Option Int → Hp → VK → Prop) (te : TE) (tl th : TO) : TE := fun σ H Q => te σ H fun x H1 => tl σ H1 fun l H2 => th σ H2 fun u H3 => r x l u H3 Q
/-- a[lo:hi], any a -/
theorem pe_slice {r : V → Option Int → Option Int → Hp → VK → Prop} (hr : SlR X r) (he : PE X e te) (hl : PO X lo tl) (hu : PO X hi th) : PE X (.Subscript e (.Slice lo hi none p2) pos) (tSl r te tl th) := by
  intro pins s σ H Q I h
  refine Subscript_ (thn (he pins s σ H _ I h) fun v s1 ⟨x, H1, I1, r1, q1⟩ => ?_)
  refine wpAny_Slice (thn (hl pins s1 σ H1 _ I1 q1) fun vl s2 ⟨l, H2, I2, pl, q2⟩ => thn (hu pins s2 σ H2 _ I2 q2) fun vu s3 ⟨u, H3, I3, pu, q3⟩ => ?_)
  rw [evalPart_none]
  refine wpAny_pure ?_
  have I4 : Inv X pins σ H3 { s3 with heap := s3.heap.push { cls := .type "slice", data := .fields #[vl, vu, .none] } } := I3.kept (t' := s3.toks) fun b ob q => Heap.get?_push_of_some _ q
  obtain ⟨T, id, hT, ht, hg⟩ := hr pins { s3 with heap := s3.heap.push { cls := .type "slice", data := .fields #[vl, vu, .none] } } σ H3 x v vl vu l u s3.heap.objs.size Q I4 r1 (Heap.IsSliceOf.new ..) pl pu q3
  show wpAny (model X.prog X.w) X.A (subscriptTail e (.Slice lo hi none p2) v (.ref s3.heap.objs.size)) (EP X pins σ Q) X.xe { s3 with heap := s3.heap.push { cls := .type "slice", data := .fields #[vl, vu, .none] } }
  exact tail_any (ops := [.ref s3.heap.objs.size, v]) ht hT hg (by with_unfolding_all rfl)

/-- the items of xs[lo:hi] -/
noncomputable def cutV (xs : List V) (lo hi : Option Int) : List V := (xs.drop (HT.sIx xs.length 0 lo)).take (HT.sIx xs.length xs.length hi - HT.sIx xs.length 0 lo)
theorem cutV_length (xs : List V) (lo hi : Option Int) : (cutV xs lo hi).length ≤ xs.length := by
  unfold cutV
  rw [List.length_take, List.length_drop]
  omega
/-- t[lo:hi], not the whole of it (the whole would be t itself) -/
noncomputable def rSlT (K : PySem.W.Frag) : V → Option Int → Option Int → Hp → VK → Prop := fun x lo hi H Q => ∃ a xs, x = .ref a ∧ SqT K H a xs ∧
  ¬ (HT.sIx xs.length 0 lo = 0 ∧ HT.sIx xs.length xs.length hi = xs.length) ∧ ∀ p, H p = none → Q (.ref p) (upd H p (.tup (cutV xs lo hi)))
theorem sl_tup : SlR X (rSlT X.K) := by
  intro pins s σ H x v vl vu lo hi sl Q I rx hs pl pu h
  obtain ⟨a, xs, rfl, hx, hw, q⟩ := h
  cases rx
  obtain ⟨its, r, ht, hz⟩ := I.tuple hx
  have hlen : its.toArray.size = xs.length := by rw [List.size_toArray]; exact r.length.symm
  refine ⟨"tuple", _, PyProof.Rows.slot_tuple_getitem.lookup, ht.typeIs, ?_⟩
  refine HT.getItem_tuple_cut ht hs pl pu (by rw [hlen]; exact hw) ?_ (by rw [hlen]; exact hz)
  rw [hlen]
  refine ⟨.ref s.heap.objs.size, _, I.laid (t' := s.toks) (o := .tup (cutV xs lo hi)) (fun b ob q => Heap.get?_push_of_some _ q) (Nat.le_refl _) ?_, rfl, q _ (I.hok.fresh (Nat.le_refl _))⟩
  exact ⟨Nat.le_trans (cutV_length xs lo hi) hz, _, (r.drop (HT.sIx xs.length 0 lo)).take (HT.sIx xs.length xs.length hi - HT.sIx xs.length 0 lo), IsTup.new _ _⟩

/-! ### t < u, t + u -/
noncomputable def rLtT (K : PySem.W.Frag) : R2 := fun x y H Q => ∃ a b ns ms, x = .ref a ∧ y = .ref b ∧ SqT K H a (ns.map V.int) ∧ SqT K H b (ms.map V.int) ∧ Q (.bl (HT.lexLt ns ms)) H
/-- t + u, t not empty: u empty gives t itself -/
noncomputable def rCatT (K : PySem.W.Frag) : R2 := fun x y H Q => ∃ a b xs ys, x = .ref a ∧ y = .ref b ∧ SqT K H a xs ∧ SqT K H b ys ∧ xs ≠ [] ∧ xs.length + ys.length ≤ sizeLine ∧
  (ys = [] → Q (.ref a) H) ∧ (ys ≠ [] → ∀ p, H p = none → Q (.ref p) (upd H p (.tup (xs ++ ys))))
theorem Vals.nil_iff {xs : List V} {us : List Value} (r : Vals xs us) : us = [] ↔ xs = [] := by
  cases r with
  | nil => simp
  | cons _ _ => simp
theorem op_catT : OpR X (binaryOp .Add) (rCatT X.K) := by
  intro pins s σ H x y v u Q I rx ry h
  obtain ⟨a, b, xs, ys, rfl, rfl, ha, hb, hx, hz, q1, q2⟩ := h
  cases rx
  cases ry
  obtain ⟨its, r1, p1, _⟩ := I.tuple ha
  obtain ⟨its2, r2, p2, _⟩ := I.tuple hb
  refine HT.cat_tup p1 p2 (fun z => hx (r1.nil_iff.mp z)) (fun z => ⟨.ref a, H, I, rfl, q1 (r2.nil_iff.mp z)⟩) (fun z => ?_) (by rw [← r1.length, ← r2.length]; exact hz)
  refine ⟨.ref s.heap.objs.size, _, I.laid (t' := s.toks) (o := .tup (xs ++ ys)) (fun b ob q => Heap.get?_push_of_some _ q) (Nat.le_refl _) ?_, rfl, q2 (fun w => z (r2.nil_iff.mpr w)) _ (I.hok.fresh (Nat.le_refl _))⟩
  exact ⟨by rw [List.length_append]; exact hz, _, r1.append r2, IsTup.new _ _⟩
end
end L2

namespace L2
open PySem PySem.Spec PyProof.Rows

/-! ### places -/
/-- the place that an index of any sign means -/
noncomputable def ixN (n : Nat) (i : Int) : Option Nat := if 0 ≤ i then (if i < n then some i.toNat else none) else if -(n : Int) ≤ i then some (i + n).toNat else none
noncomputable def atI {α : Type} (xs : List α) (i : Int) : Option α := (ixN xs.length i).bind fun j => xs[j]?
theorem ixN_seq {n : Nat} {i : Int} {j : Nat} (h : ixN n i = some j) : seqIndex? i n = some j ∧ j < n ∧ -(n : Int) ≤ i ∧ i < n := by
  unfold ixN at h
  by_cases h0 : 0 ≤ i
  · rw [if_pos h0] at h
    by_cases h1 : i < n
    · rw [if_pos h1] at h
      have e : i.toNat = j := Option.some.inj h
      exact ⟨by rw [seqIndex_of h0 h1, e], by omega, by omega, h1⟩
    · rw [if_neg h1] at h; cases h
  · rw [if_neg h0] at h
    by_cases h1 : -(n : Int) ≤ i
    · rw [if_pos h1] at h
      have e : (i + n).toNat = j := Option.some.inj h
      exact ⟨by rw [seqIndex_neg (by omega) h1, e], by omega, h1, by omega⟩
    · rw [if_neg h1] at h; cases h
theorem atI_get {α : Type} {xs : List α} {i : Int} {v : α} (h : atI xs i = some v) : ∃ j, seqIndex? i xs.length = some j ∧ xs[j]? = some v ∧ j < xs.length ∧ -(xs.length : Int) ≤ i ∧ i < xs.length := by
  unfold atI at h
  cases e : ixN xs.length i with
  | none => rw [e] at h; cases h
  | some j =>
    rw [e] at h
    obtain ⟨h1, h2, h3, h4⟩ := ixN_seq e
    exact ⟨j, h1, h, h2, h3, h4⟩
theorem atI_nat {α : Type} {xs : List α} {j : Nat} {v : α} (h : xs[j]? = some v) : atI xs (j : Int) = some v := by
  have hj : j < xs.length := (List.getElem?_eq_some_iff.mp h).1
  have e : ixN xs.length (j : Int) = some j := by
    unfold ixN
    rw [if_pos (by omega), if_pos (by omega)]; simp
  unfold atI; rw [e]; exact h
theorem atI_last {α : Type} (xs : List α) (v : α) : atI (xs ++ [v]) (-1) = some v := by
  have hl : (xs ++ [v]).length = xs.length + 1 := by simp
  have e : ixN (xs ++ [v]).length (-1) = some xs.length := by
    unfold ixN
    rw [hl, if_neg (by decide), if_pos (by omega)]
    congr 1
    omega
  unfold atI
  rw [e]
  show (xs ++ [v])[xs.length]? = some v
  simp

/-! ### what may be subscripted -/
/-- what stands as an index of a plain subscript -/
noncomputable def PlainIx (b : Expr) : Prop := ∀ o i, subscripted b false o i = operate [o, i] (getItem o i)
/-- a subscript by values -/
noncomputable def IxR (X : Cx) (r : R2) : Prop :=
  ∀ (value slice : Expr) (pins : List (Addr × Obj)) (s : Shared) (σ : St) (H : Hp) (x y : V) (v u : Value) (Q : VK), Inv X pins σ H s → RelV x v → RelV y u → r x y H Q →
    subscripted slice false v u = operate [v, u] (getItem v u) → wpAny (model X.prog X.w) X.A (subscriptTail value slice v u) (EP X pins σ Q) X.xe s
/-- a call of a builtin's method by values: the receiver, the arguments -/
noncomputable def MtR (X : Cx) (id : String) (r : V → List V → Hp → VK → Prop) : Prop :=
  ∀ (pins : List (Addr × Obj)) (s : Shared) (σ : St) (H : Hp) (x : V) (xs : List V) (v : Value) (us : List Value) (Q : VK), Inv X pins σ H s → RelV x v → Vals xs us → r x xs H Q →
    wpAny (model X.prog X.w) X.A (call (.builtin id) (v :: us)) (EP X pins σ Q) X.xe s
section
variable {X : Cx} {a b : Expr} {ta tb : TE} {pos : Pos}
theorem IxR.or {r r' : R2} (h : IxR X r) (h' : IxR X r') : IxR X (fun x y H Q => r x y H Q ∨ r' x y H Q) := by
  intro value slice pins s σ H x y v u Q I rx ry q hs
  rcases q with q | q
  · exact h value slice pins s σ H x y v u Q I rx ry q hs
  · exact h' value slice pins s σ H x y v u Q I rx ry q hs
theorem MtR.or {id : String} {r r' : V → List V → Hp → VK → Prop} (h : MtR X id r) (h' : MtR X id r') : MtR X id (fun x xs H Q => r x xs H Q ∨ r' x xs H Q) := by
  intro pins s σ H x xs v us Q I rx rs q
  rcases q with q | q
  · exact h pins s σ H x xs v us Q I rx rs q
  · exact h' pins s σ H x xs v us Q I rx rs q
/-- a[b] -/
theorem pe_ix {r : R2} (hr : IxR X r) (ha : PE X a ta) (hb : PE X b tb) (hs : PlainIx b) : PE X (.Subscript a b pos) (tOp r ta tb) := by
  intro pins s σ H Q I h
  exact Subscript_ (binT ha hb I h fun v u s2 x y H2 I2 rx ry q => hr a b pins s2 σ H2 x y v u Q I2 rx ry q (hs _ _))

noncomputable def rIxL (K : PySem.W.Frag) : R2 := fun x y H Q => ∃ p xs i v, x = .ref p ∧ y = .int i ∧ SqL K H p xs ∧ atI xs i = some v ∧ Q v H
noncomputable def rIxT (K : PySem.W.Frag) : R2 := fun x y H Q => ∃ p xs i v, x = .ref p ∧ y = .int i ∧ SqT K H p xs ∧ atI xs i = some v ∧ Q v H
noncomputable def rIxS : R2 := fun x y H Q => ∃ z i c, x = .str z ∧ y = .int i ∧ z.length ≤ sizeLine ∧ atI z.cps.toList i = some c ∧ Q (.str ⟨#[c]⟩) H
theorem ix_list : IxR X (rIxL X.K) := by
  intro value slice pins s σ H x y v u Q I rx ry h hs
  obtain ⟨p, xs, i, z, rfl, rfl, hq, he, q⟩ := h
  cases rx
  obtain ⟨t, rfl⟩ := ry
  obtain ⟨its, r, pl, hz⟩ := I.list hq
  obtain ⟨j, h1, h2, h3, h4, h5⟩ := atI_get he
  obtain ⟨w, ew, rw'⟩ := r.get h2
  have hl := r.length
  have hn := line63
  have fin : EP X pins σ Q w s := ⟨z, H, I, rw', q⟩
  by_cases h0 : 0 ≤ i
  · have hj : i.toNat = j := by
      rw [seqIndex_of h0 h5] at h1
      exact Option.some.inj h1
    exact item_listR pl.isList h0 (by omega) (by rw [hj]; simpa using ew) fin hs
  · have hj : (i + (its.toArray.size : Int)).toNat = j := by
      rw [seqIndex_neg (by omega) h4] at h1
      rw [List.size_toArray, ← hl]
      exact Option.some.inj h1
    exact subscriptTail_builtinR (x := w) pl.isList.typeIs slot_list_getitem.lookup
      (wpAny_getItem_list_neg (Q := fun r s' => r = w ∧ EP X pins σ Q r s') pl.isList (by omega) (by rw [List.size_toArray] <;> omega) (by omega) (by rw [hj]; simpa using ew) ⟨rfl, fin⟩) hs
theorem ix_tup : IxR X (rIxT X.K) := by
  intro value slice pins s σ H x y v u Q I rx ry h hs
  obtain ⟨p, xs, i, z, rfl, rfl, hq, he, q⟩ := h
  cases rx
  obtain ⟨t, rfl⟩ := ry
  obtain ⟨its, r, pl, hz⟩ := I.tuple hq
  obtain ⟨j, h1, h2, h3, h4, h5⟩ := atI_get he
  obtain ⟨w, ew, rw'⟩ := r.get h2
  have hl := r.length
  have hn := line63
  have fin : EP X pins σ Q w s := ⟨z, H, I, rw', q⟩
  exact subscriptTail_builtinR (x := w) pl.typeIs slot_tuple_getitem.lookup
    (getItem_tuple (j := j) (Q := fun r s' => r = w ∧ EP X pins σ Q r s') pl (by omega) (by omega) (by rw [List.size_toArray, ← hl]; exact h1) (by simpa using ew) ⟨rfl, fin⟩) hs
/-- list, tuple or str -/
noncomputable def rIx (K : PySem.W.Frag) : R2 := fun x y H Q => rIxL K x y H Q ∨ rIxT K x y H Q ∨ rIxS x y H Q
/-! ### xs[i] = v, any sign -/
/-- the list's object behind a store -/
theorem mapSeq_set (its : List Value) (n j : Nat) (u : Value) : Obj.mapSeq (·.setIfInBounds j u) { cls := .type "list", data := .seq its.toArray n } = { cls := .type "list", data := .seq (its.set j u).toArray n } := by
  simp [Obj.mapSeq]
theorem Inv.lst {pins : List (Addr × Obj)} {σ : St} {H : Hp} {s : Shared} {p : Addr} {xs : List V} (I : Inv X pins σ H s) (h : H p = some (.lst xs)) :
    ∃ (its : List Value) (n : Nat), Vals xs its ∧ s.heap.get? p = some { cls := .type "list", data := .seq its.toArray n } ∧ xs.length ≤ sizeLine := by
  obtain ⟨z, its, n, r, e⟩ := I.hok p _ h
  exact ⟨its, n, r, e, z⟩
/-- the list at p is written by an update of its object -/
theorem Inv.lstUpd {pins : List (Addr × Obj)} {σ : St} {H : Hp} {s : Shared} {p : Addr} {xs ys : List V} {its its' : List Value} {n n' : Nat} {f : Obj → Obj} (I : Inv X pins σ H s) (h : H p = some (.lst xs))
    (ho : s.heap.get? p = some { cls := .type "list", data := .seq its.toArray n }) (hf : f { cls := .type "list", data := .seq its.toArray n } = { cls := .type "list", data := .seq its'.toArray n' }) (r : Vals ys its') (hz : ys.length ≤ sizeLine) (t : Nat) :
    Inv X pins σ (upd H p (.lst ys)) { s with heap := s.heap.update p f, toks := t } := by
  have e : (s.heap.update p f).get? p = some { cls := .type "list", data := .seq its'.toArray n' } := by
    rw [Heap.get?_update_self f ho (by rw [hf] <;> rfl), hf]
  refine I.write (x := p) (e := p) (by rw [h]; trivial) (.inl rfl) (fun b u hb q => (Heap.get?_update_other _ _ (Ne.symm hb)).trans q) ⟨_, e⟩ ?_
  exact ⟨hz, its', n', r, e⟩
noncomputable def rSetL : V → V → V → Hp → (Hp → Prop) → Prop := fun o i v H Q => ∃ p xs k j, o = .ref p ∧ i = .int k ∧ H p = some (.lst xs) ∧ ixN xs.length k = some j ∧ Q (upd H p (.lst (xs.set j v)))
theorem set_list : PSet X rSetL := by
  intro pins s σ H o i v ov iv u Q I ro ri rv h
  obtain ⟨p, xs, k, j, rfl, rfl, hp, hj, q⟩ := h
  cases ro
  obtain ⟨t, rfl⟩ := ri
  obtain ⟨its, n, r, ho, hz⟩ := I.lst hp
  obtain ⟨h1, h2, h3, h4⟩ := ixN_seq hj
  have hl := r.length
  have hn := line63
  have I' : Inv X pins σ (upd H p (.lst (xs.set j v))) { s with heap := s.heap.update p (Obj.mapSeq (·.setIfInBounds j u)) } :=
    I.lstUpd hp ho (mapSeq_set its n j u) (r.set rv j) (by rw [List.length_set]; exact hz) s.toks
  by_cases h0 : 0 ≤ k
  · have hk : k.toNat = j := by
      rw [seqIndex_of h0 h4] at h1
      exact Option.some.inj h1
    exact PySem.W.ki_setAt ho h0 (by omega) (by rw [List.size_toArray, ← hl]; exact h4) (by rw [hk]; exact ⟨_, I', q⟩)
  · have hk : (k + (its.toArray.size : Int)).toNat = j := by
      rw [seqIndex_neg (by omega) h3] at h1
      rw [List.size_toArray, ← hl]
      exact Option.some.inj h1
    exact PySem.W.ki_setBack ho (by omega) (by rw [List.size_toArray, ← hl]; exact h3) (by omega) (by rw [hk]; exact ⟨_, I', q⟩)

/-! ### slices -/
theorem slice_bounds (lo hi : Option Int) (n : Nat) : (sliceBounds lo hi none n).1 = ((HT.sIx n 0 lo : Nat) : Int) ∧ (sliceBounds lo hi none n).2.1 = ((HT.sIx n n hi : Nat) : Int) ∧ (sliceBounds lo hi none n).2.2 = 1 := by
  refine ⟨?_, ?_, rfl⟩
  · cases lo with
    | none => simp [sliceBounds, HT.sIx]
    | some i =>
      simp only [sliceBounds, HT.sIx, Option.getD_none, show (1 : Int) > 0 by decide, if_true]
      by_cases h : i < 0
      · simp only [h, if_true] <;> omega
      · simp only [h, if_false] <;> omega
  · cases hi with
    | none => simp [sliceBounds, HT.sIx]
    | some i =>
      simp only [sliceBounds, HT.sIx, Option.getD_none, show (1 : Int) > 0 by decide, if_true]
      by_cases h : i < 0
      · simp only [h, if_true] <;> omega
      · simp only [h, if_false] <;> omega
theorem slicePick_cut (its : List Value) (lo hi : Option Int) : slicePick its.toArray lo hi none = ((its.drop (HT.sIx its.length 0 lo)).take (HT.sIx its.length its.length hi - HT.sIx its.length 0 lo)).toArray := by
  obtain ⟨h1, h2, h3⟩ := slice_bounds lo hi its.toArray.size
  unfold slicePick
  rw [h1, h2, h3]
  simp only [sliceRange_one, pick_run, List.size_toArray] <;> rfl
/-- xs[lo:hi] of a list: a new list -/
noncomputable def rSlL (K : PySem.W.Frag) : V → Option Int → Option Int → Hp → VK → Prop := fun x lo hi H Q => ∃ a xs, x = .ref a ∧ SqL K H a xs ∧ ∀ p, H p = none → Q (.ref p) (upd H p (.lst (cutV xs lo hi)))
theorem sl_list : SlR X (rSlL X.K) := by
  intro pins s σ H x v vl vu lo hi sl Q I rx hs pl pu h
  obtain ⟨a, xs, rfl, hx, q⟩ := h
  cases rx
  obtain ⟨its, r, ht, hz⟩ := I.list hx
  have hlen := r.length
  refine ⟨"list", _, slot_list_getitem.lookup, ht.isList.typeIs, ?_⟩
  refine wpAny_getItem_list_slice ht.isList hs pl pu .none (by simp) ?_ (by rw [List.size_toArray] <;> omega)
  rw [slicePick_cut, ← hlen]
  refine ⟨.ref s.heap.objs.size, _, I.laid (t' := s.toks) (o := .lst (cutV xs lo hi)) (fun b ob q => Heap.get?_push_of_some _ q) (Nat.le_refl _) ?_, rfl, q _ (I.hok.fresh (Nat.le_refl _))⟩
  exact ⟨Nat.le_trans (cutV_length xs lo hi) hz, _, 0, (r.drop (HT.sIx xs.length 0 lo)).take (HT.sIx xs.length xs.length hi - HT.sIx xs.length 0 lo), Heap.get?_push_size _ rfl⟩

/-! ### in, not in: flat items -/
noncomputable def flatV : V → Bool
  | .non => true
  | .bl _ => true
  | .int _ => true
  | .str _ => true
  | _ => false
/-- == of flat values -/
noncomputable def eqV : V → V → Bool
  | .non, .non => true
  | .bl a, .bl b => a == b
  | .bl a, .int b => (if a then 1 else 0) == b
  | .int a, .bl b => a == (if b then 1 else 0)
  | .int a, .int b => a == b
  | .str a, .str b => a == b
  | _, _ => false
/-- the items' answers, read off the values (a value's own answer does not lean on its token) -/
noncomputable def eqU (x : V) (u : Value) : Bool := match u with
  | .none => eqV .non x
  | .bool b => eqV (.bl b) x
  | .int i _ => eqV (.int i) x
  | .str z _ => eqV (.str z) x
  | _ => false
noncomputable def inV (x : V) (xs : List V) : Bool := xs.any fun y => eqV y x
/-- x in a list or tuple of flat items -/
noncomputable def rIn (K : PySem.W.Frag) (neg : Bool) : R2 := fun x y H Q => ∃ p xs, y = .ref p ∧ (SqL K H p xs ∨ SqT K H p xs) ∧ flatV x = true ∧ xs.all flatV = true ∧ Q (.bl (if neg then !inV x xs else inV x xs)) H
/-! ### len, list(x), tuple(x) of any list or tuple that is read -/
theorem call_len_seq : CallR X (.builtin "len") (fun xs H Q => ∃ p ys, xs = [.ref p] ∧ (SqL X.K H p ys ∨ SqT X.K H p ys) ∧ Q (.int ys.length) H) := by
  intro pins s σ H xs us Q I r h
  obtain ⟨p, ys, rfl, hq, q⟩ := h
  obtain ⟨u, rfl, rx⟩ := vals1 r
  cases rx
  have hn := line63
  rcases hq with hq | hq
  · obtain ⟨its, r', pl, hz⟩ := I.list hq
    have hlen := r'.length
    exact Calls.call_len_list pl.isList (by simp only [List.size_toArray] <;> omega) ⟨.int ys.length, H, I.tok _, ⟨s.toks + 1, by rw [List.size_toArray, hlen]⟩, q⟩
  · obtain ⟨its, r', pl, hz⟩ := I.tuple hq
    have hlen := r'.length
    exact len_tuple pl (by simp only [List.size_toArray] <;> omega) ⟨.int ys.length, H, I.tok _, ⟨s.toks + 1, by rw [List.size_toArray, hlen]⟩, q⟩
theorem CallR.or {f : Value} {r r' : List V → Hp → VK → Prop} (h : CallR X f r) (h' : CallR X f r') : CallR X f (fun xs H Q => r xs H Q ∨ r' xs H Q) := by
  intro pins s σ H xs us Q I rs q
  rcases q with q | q
  · exact h pins s σ H xs us Q I rs q
  · exact h' pins s σ H xs us Q I rs q
theorem call_list_of : CallR X (.type "list") (fun xs H Q => ∃ p ys, xs = [.ref p] ∧ (SqL X.K H p ys ∨ SqT X.K H p ys) ∧ ∀ l, H l = none → Q (.ref l) (upd H l (.lst ys))) := by
  intro pins s σ H xs us Q I r h
  obtain ⟨p, ys, rfl, hq, q⟩ := h
  obtain ⟨u, rfl, rx⟩ := vals1 r
  cases rx
  have fin : ∀ (its : List Value), Vals ys its → ys.length ≤ sizeLine → ∀ (h' : Heap) (c' : Nat), (∀ b o', s.heap.get? b = some o' → h'.get? b = some o') →
      h'.get? s.heap.objs.size = some { cls := .type "list", dict := none, data := .seq its.toArray c', slots := #[] } → EP X pins σ Q (.ref s.heap.objs.size) { s with heap := h' } := fun its r' hz h' c' kp e =>
    ⟨.ref s.heap.objs.size, _, I.laid (t' := s.toks) kp (Nat.le_refl _) (show ObjOk X.prog X.w _ h' _ (.lst ys) from ⟨hz, its, c', r', e⟩), rfl, q _ (I.hok.fresh (Nat.le_refl _))⟩
  rcases hq with hq | hq
  · obtain ⟨its, r', pl, hz⟩ := I.list hq
    have hlen := r'.length
    obtain ⟨o, ho, hc, n, hd⟩ := pl.isList
    exact call_list_seq p (.inl rfl) ho hc hd (fun h' c' kp e => fin its r' hz h' c' kp e) (by simp only [List.size_toArray] <;> omega)
  · obtain ⟨its, r', pl, hz⟩ := I.tuple hq
    have hlen := r'.length
    obtain ⟨o, ho, hc, n, hd⟩ := pl
    exact call_list_seq p (.inr rfl) ho hc hd (fun h' c' kp e => fin its r' hz h' c' kp e) (by simp only [List.size_toArray] <;> omega)
theorem call_tuple_of : CallR X (.type "tuple") (fun xs H Q => ∃ p ys, xs = [.ref p] ∧ ((SqL X.K H p ys ∧ ∀ l, H l = none → Q (.ref l) (upd H l (.tup ys))) ∨ (SqT X.K H p ys ∧ Q (.ref p) H))) := by
  intro pins s σ H xs us Q I r h
  obtain ⟨p, ys, rfl, h⟩ := h
  obtain ⟨u, rfl, rx⟩ := vals1 r
  cases rx
  rcases h with ⟨hq, q⟩ | ⟨hq, q⟩
  · obtain ⟨its, r', pl, hz⟩ := I.list hq
    have hlen := r'.length
    refine call_tuple_list pl.isList (fun h' kp => ?_) (by simp only [List.size_toArray] <;> omega)
    have I1 : Inv X pins σ H { s with heap := h' } := I.kept (t' := s.toks) kp
    have I2 : Inv X pins σ (upd H h'.objs.size (.tup ys)) { s with heap := h'.push { cls := .type "tuple", data := .seq its.toArray } } :=
      I1.laid (t' := s.toks) (fun b o e => Heap.get?_push_of_some _ e) (Nat.le_refl _) (show ObjOk X.prog X.w _ _ _ (.tup ys) from ⟨hz, its, r', IsTup.new _ _⟩)
    exact ⟨.ref h'.objs.size, _, I2, rfl, q _ (I1.hok.fresh (Nat.le_refl _))⟩
  · obtain ⟨its, r', pl, hz⟩ := I.tuple hq
    exact call_tuple_same pl ⟨.ref p, H, I, rfl, q⟩

/-! ### the call of a builtin's method: o.m(..) -/
/-- the value is of that builtin type -/
noncomputable def tyV (K : PySem.W.Frag) (T : String) (x : V) (H : Hp) : Prop := match x with
  | .str _ => T = "str"
  | .int _ => T = "int"
  | .ref p => (T = "list" ∧ ∃ xs, SqL K H p xs) ∨ (T = "tuple" ∧ ∃ o, K.lookup p = some o ∧ o.cls = .type "tuple" ∧ o.dict = none) ∨
      (T = "dict" ∧ ((∃ kvs, H p = some (.dK kvs)) ∨ ∃ kvs, H p = some (.dT kvs))) ∨ (T = "set" ∧ ∃ S n, H p = some (.set S n))
  | _ => False
theorem tyV_is {pins : List (Addr × Obj)} {σ : St} {H : Hp} {s : Shared} {T : String} {x : V} {v : Value} (I : Inv X pins σ H s) (r : RelV x v) (ty : tyV X.K T x H) :
    s.TypeIs v T ∧ ∀ a, v = .ref a → ∃ ob, s.heap.get? a = some ob ∧ ob.dict = none := by
  cases x with
  | str z =>
    obtain ⟨t, rfl⟩ := r
    cases (show T = "str" from ty)
    exact ⟨typeIs_str s z t, fun _ e => nomatch e⟩
  | int i =>
    obtain ⟨t, rfl⟩ := r
    cases (show T = "int" from ty)
    exact ⟨typeIs_int s i t, fun _ e => nomatch e⟩
  | ref p =>
    cases r
    rcases ty with ⟨rfl, xs, hq⟩ | ⟨rfl, o, hk, hc, hd⟩ | ⟨rfl, hk⟩ | ⟨rfl, S, n, hk⟩
    · obtain ⟨its, _, pl, _⟩ := I.list hq
      refine ⟨pl.isList.typeIs, fun a e => ?_⟩
      cases e
      obtain ⟨o, n, e, c, hd, _⟩ := pl
      exact ⟨o, e, hd⟩
    · refine ⟨⟨o, I.kIn p o hk, hc⟩, fun a e => ?_⟩
      cases e
      exact ⟨o, I.kIn _ o hk, hd⟩
    · have z : ∃ o, s.heap.get? p = some o ∧ o.ExactDict := by
        rcases hk with ⟨kvs, hk⟩ | ⟨kvs, hk⟩
        · obtain ⟨_, _, _, _, o, _, _, e, ex, _⟩ := I.hok p _ hk
          exact ⟨o, e, ex⟩
        · obtain ⟨_, _, _, _, o, _, _, e, ex, _⟩ := I.hok p _ hk
          exact ⟨o, e, ex⟩
      obtain ⟨o, e, ex⟩ := z
      refine ⟨⟨o, e, ex.1⟩, fun a e2 => ?_⟩
      cases e2
      exact ⟨o, e, ex.2.1⟩
    · obtain ⟨o, _, _, _, e, ex, _⟩ := I.hok p _ hk
      refine ⟨⟨o, e, ex.1⟩, fun a e2 => ?_⟩
      cases e2
      exact ⟨o, e, ex.2.1⟩
  | _ => exact False.elim ty
noncomputable def tBM0 (K : PySem.W.Frag) (T : String) (r : V → List V → Hp → VK → Prop) (to : TE) : TE := fun σ H Q => to σ H fun x H1 => tyV K T x H1 ∧ r x [] H1 Q
noncomputable def tBM (K : PySem.W.Frag) (T : String) (r : V → List V → Hp → VK → Prop) (to : TE) (t : TA) : TE := fun σ H Q => to σ H fun x H1 => tyV K T x H1 ∧ t σ H1 fun xs H2 => r x xs H2 Q
variable {o e : Expr} {es : List Expr} {to : TE} {t : TA} {name : Str} {apos cpos : Pos} {T id : String} {r : V → List V → Hp → VK → Prop}
theorem pe_bm (pa : PlainAttrs T) (slot : Slot T name id) (hty : typeOf (.builtin id) = pure (.type "method_descriptor")) (hm : MtR X id r) (ho : PE X o to) (ha : PA X (e :: es) t)
    (hbase : attributeBase o name X.env (eval o X.env) = eval o X.env := by rfl)
    (hfew : ((backTo cpos (starEach (e :: es) X.env)).all (fun x => !x.1) && (backToKw cpos (keywordEach [] X.env)).all (fun x => x.1.isSome)
      && decide ((e :: es).length + ([] : List Keyword).length + (if ([] : List Keyword).isEmpty then 0 else 1) < 30)) = true := by rfl)
    (hline : (apos.endLine == cpos.line) = true := by rfl) (hs : starEach (e :: es) X.env = (false, eval e X.env) :: starEach es X.env := by rfl) (hplain : (backTo cpos (starEach es X.env)).any (·.1) = false := by rfl) :
    PE X (.Call (.Attribute o name apos) (e :: es) [] cpos) (tBM X.K T r to t) := by
  intro pins s σ H Q I h
  refine wpAny_Call_method_late hbase hfew hline rfl (thn (ho pins s σ H _ I h) fun v s1 ⟨x, H1, I1, r1, ty, q1⟩ => ?_)
  obtain ⟨h1, h2⟩ := tyV_is I1 r1 ty
  refine ⟨T, id, pa, slot, hty, h1, h2, ?_⟩
  have hA := ha cpos pins s1 σ H1 _ I1 q1
  rw [hs] at hA ⊢
  refine Calls.callWith_builtin (by show (false || (backTo cpos (starEach es X.env)).any (·.1)) = false; rw [hplain] <;> rfl) (Calls.evalArgs_plain ?_)
  exact thn hA fun us s2 ⟨vs, H2, I2, r2, q2⟩ => hm pins s2 σ H2 x vs v us Q I2 r1 r2 q2
/- xs.append(e), list.index on a module's tuple .. are MtR facts of 06m -/
end
end L2

namespace L2
open PySem PySem.Spec PyProof.Rows

noncomputable def MtM (X : Cx) (id : String) (r : V → List V → Hp → VK → Prop) : Prop :=
  ∀ (pins : List (Addr × Obj)) (s : Shared) (σ : St) (H : Hp) (x : V) (xs : List V) (v : Value) (us : List Value) (Q : VK), Inv X pins σ H s → RelV x v → Vals xs us → r x xs H Q →
    wpAny (model X.prog X.w) X.A (call (.builtin id) (v :: us)) (EP X pins σ Q) X.xe s

/-! ### lists of values -/
theorem Vals.one : ∀ {x : V} {us : List Value}, Vals [x] us → ∃ u, us = [u] ∧ RelV x u
  | _, _, .cons r .nil => ⟨_, rfl, r⟩
theorem Vals.two : ∀ {x y : V} {us : List Value}, Vals [x, y] us → ∃ u v, us = [u, v] ∧ RelV x u ∧ RelV y v
  | _, _, _, .cons r (.cons q .nil) => ⟨_, _, rfl, r, q⟩
theorem Vals.zero : ∀ {us : List Value}, Vals [] us → us = []
  | _, .nil => rfl
theorem Vals.dropLast {xs : List V} {us : List Value} (h : Vals xs us) : Vals xs.dropLast us.dropLast := by
  induction h with
  | nil => exact .nil
  | cons r t ih =>
    cases t with
    | nil => exact .nil
    | cons q t' => exact .cons r ih
theorem Vals.eraseIdx : ∀ {xs : List V} {us : List Value} (i : Nat), Vals xs us → Vals (xs.eraseIdx i) (us.eraseIdx i)
  | _, _, _, .nil => .nil
  | _, _, 0, .cons _ t => t
  | _, _, i + 1, .cons r t => .cons r (Vals.eraseIdx i t)
theorem Vals.reverse {xs : List V} {us : List Value} (h : Vals xs us) : Vals xs.reverse us.reverse := by
  induction h with
  | nil => exact .nil
  | cons r t ih => rw [List.reverse_cons, List.reverse_cons]; exact Vals.append ih (.cons r .nil)
section
variable {X : Cx} {pins : List (Addr × Obj)} {σ : St} {H : Hp} {s : Shared} {l b : Addr} {xs ys zs : List V}

/-! ### the two steps: a tracked list is rewritten, a new list is laid -/
theorem Inv.lset {its its' : List Value} {n : Nat} {f : Array Value → Array Value} {t' : Nat} (I : Inv X pins σ H s) (hH : H l = some (.lst xs))
    (e : s.heap.get? l = some { cls := .type "list", data := .seq its.toArray n }) (hf : f its.toArray = its'.toArray) (hv : Vals ys its') (hz : ys.length ≤ sizeLine) :
    Inv X pins σ (upd H l (.lst ys)) { s with heap := s.heap.update l (Obj.mapSeq f), toks := t' } := by
  have q := PySem.IsL.update e f
  rw [hf] at q
  refine I.write (x := l) (e := l) (by rw [hH]; exact trivial) (.inl rfl) (fun b' u hb hu => (Heap.get?_update_other s.heap (Obj.mapSeq f) (Ne.symm hb)).trans hu) ⟨_, q⟩ ?_
  exact ⟨hz, its', _, hv, q⟩
theorem Inv.lnew {its : List Value} {t' : Nat} (I : Inv X pins σ H s) (hv : Vals ys its) (hz : ys.length ≤ sizeLine) :
    Inv X pins σ (upd H s.heap.objs.size (.lst ys)) { s with heap := s.heap.push { cls := .type "list", data := .seq its.toArray }, toks := t' } :=
  I.laid (fun _ _ q => Heap.get?_push_of_some _ q) (Nat.le_refl _) ⟨hz, its, 0, hv, Heap.get?_push_size _ rfl⟩
theorem Inv.fresh (I : Inv X pins σ H s) : H s.heap.objs.size = none := I.hok.fresh (Nat.le_refl _)
theorem Inv.lstM (I : Inv X pins σ H s) (hH : H l = some (.lst xs)) : xs.length ≤ sizeLine ∧ ∃ (its : List Value) (n : Nat), Vals xs its ∧ xs.length = its.length ∧ s.heap.get? l = some { cls := .type "list", data := .seq its.toArray n } := by
  obtain ⟨z, its, n, r, e⟩ := I.hok l _ hH
  exact ⟨z, its, n, r, r.length, e⟩

end

section
variable {X : Cx}

/-! ### methods -/
noncomputable def rAppend : V → List V → Hp → VK → Prop := fun x vs H Q => ∃ l xs y, x = .ref l ∧ vs = [y] ∧ H l = some (.lst xs) ∧ xs.length < sizeLine ∧ Q .non (upd H l (.lst (xs ++ [y])))
theorem mt_append : MtM X "list.append" rAppend := by
  intro pins s σ H x vs v us Q I rx rv h
  obtain ⟨l, xs, y, rfl, rfl, hH, hz, q⟩ := h
  cases rx
  obtain ⟨u, rfl, ru⟩ := rv.one
  obtain ⟨z, its, n, r, hl, e⟩ := I.lstM hH
  refine call_meets F.slot_list_append ⟨_, e, rfl⟩ F.entry_list_append (F.args_list_append_2 _ _) (PySem.list_append l its.toArray n u (by rw [List.size_toArray]; omega)) ⟨e, ?_⟩
  refine ⟨.non, _, I.lset (its' := its ++ [u]) hH e (by simp) (r.append (.cons ru .nil)) ?_, rfl, q⟩
  rw [List.length_append, List.length_singleton]
  omega

noncomputable def rExtend : V → List V → Hp → VK → Prop := fun x vs H Q => ∃ l b xs zs, x = .ref l ∧ vs = [.ref b] ∧ H l = some (.lst xs) ∧ H b = some (.lst zs) ∧ xs.length + zs.length ≤ sizeLine ∧ Q .non (upd H l (.lst (xs ++ zs)))
noncomputable def rPop : V → List V → Hp → VK → Prop := fun x vs H Q => ∃ l xs y, x = .ref l ∧ vs = [] ∧ H l = some (.lst xs) ∧ xs[xs.length - 1]? = some y ∧ Q y (upd H l (.lst xs.dropLast))
noncomputable def rPopAt : V → List V → Hp → VK → Prop := fun x vs H Q => ∃ l xs i k y, x = .ref l ∧ vs = [.int i] ∧ H l = some (.lst xs) ∧ -(2 ^ 63) ≤ i ∧ i < 2 ^ 63 ∧ seqIndex? i xs.length = some k ∧ xs[k]? = some y ∧ Q y (upd H l (.lst (xs.eraseIdx k)))
noncomputable def rReverse : V → List V → Hp → VK → Prop := fun x vs H Q => ∃ l xs, x = .ref l ∧ vs = [] ∧ H l = some (.lst xs) ∧ Q .non (upd H l (.lst xs.reverse))
noncomputable def rClear : V → List V → Hp → VK → Prop := fun x vs H Q => ∃ l xs, x = .ref l ∧ vs = [] ∧ H l = some (.lst xs) ∧ Q .non (upd H l (.lst []))
/-! ### list + list, list += list, list * int -/
noncomputable def rCat : R2 := fun x y H Q => ∃ l b xs zs, x = .ref l ∧ y = .ref b ∧ H l = some (.lst xs) ∧ H b = some (.lst zs) ∧ xs.length + zs.length ≤ sizeLine ∧ ∀ p, H p = none → Q (.ref p) (upd H p (.lst (xs ++ zs)))
theorem op_cat : OpR X (binaryOp .Add) rCat := by
  intro pins s σ H x y v u Q I rx ry h
  obtain ⟨l, b, xs, zs, rfl, rfl, hH, hB, hz, q⟩ := h
  cases rx
  cases ry
  obtain ⟨z, its, n, r, hl, e⟩ := I.lstM hH
  obtain ⟨z2, its2, n2, r2, hl2, e2⟩ := I.lstM hB
  refine PySem.P.add_list e e2 ?_ (by rw [List.size_toArray, List.size_toArray]; omega)
  have ea : its.toArray ++ its2.toArray = (its ++ its2).toArray := by simp
  rw [ea]
  exact ⟨.ref _, _, I.lnew (t' := s.toks) (r.append r2) (by rw [List.length_append]; omega), rfl, q _ I.fresh⟩
/-- a list times an int (a negative one is nothing) -/
noncomputable def rRep : R2 := fun x y H Q => ∃ l k xs, x = .ref l ∧ y = .int k ∧ H l = some (.lst xs) ∧ -(2 ^ 63) ≤ k ∧ k < 2 ^ 63 ∧ xs.length * k.toNat ≤ sizeLine ∧
  ∀ p, H p = none → Q (.ref p) (upd H p (.lst (List.replicate k.toNat xs).flatten))
/-! ### del xs[i] -/
end

/-! ### xs[a:b] = ys -/
section
variable {prog : Program} {w : World} {A : Around} {E : Value → Shared → Prop} {s : Shared}
end

section
variable {X : Cx}
end
end L2

namespace L2
open PySem PySem.Spec PyProof.Rows

/-! ### lists of pairs as tables -/
section
variable {κ : Type} [DecidableEq κ]
noncomputable def valV (kvs : List (κ × V)) (k : κ) : Option V := (kvs.find? fun kv => decide (kv.1 = k)).map (·.2)
/-- in its place, or at the end -/
noncomputable def putK (kvs : List (κ × V)) (k : κ) (v : V) : List (κ × V) :=
  if (kvs.any fun kv => decide (kv.1 = k)) = true then kvs.map (fun kv => if kv.1 = k then (kv.1, v) else kv) else kvs ++ [(k, v)]
noncomputable def dropK (kvs : List (κ × V)) (k : κ) : List (κ × V) := kvs.filter fun kv => decide (kv.1 ≠ k)

theorem valV_pos {p : κ × V} {r : List (κ × V)} {k : κ} (e : p.1 = k) : valV (p :: r) k = some p.2 := by simp [valV, List.find?_cons, e]
theorem valV_neg {p : κ × V} {r : List (κ × V)} {k : κ} (e : ¬ p.1 = k) : valV (p :: r) k = valV r k := by simp [valV, List.find?_cons, e]
theorem valV_any (k : κ) : ∀ kvs : List (κ × V), (kvs.any fun kv => decide (kv.1 = k)) = (valV kvs k).isSome
  | [] => rfl
  | p :: r => by
    rw [List.any_cons]
    by_cases e : p.1 = k
    · simp only [valV_pos e, decide_eq_true e, Bool.true_or, Option.isSome_some]
    · rw [valV_neg e, decide_eq_false e, Bool.false_or]; exact valV_any k r
theorem length_putK (kvs : List (κ × V)) (k : κ) (v : V) : (putK kvs k v).length ≤ kvs.length + 1 := by
  unfold putK
  split
  · rw [List.length_map]; omega
  · rw [List.length_append, List.length_cons, List.length_nil]; omega
theorem RelO.isSome_eq {o : Option V} {u : Option Value} (r : RelO o u) : o.isSome = u.isSome := by
  cases o with
  | none => cases u with
    | none => rfl
    | some _ => exact (show False from r).elim
  | some _ => cases u with
    | none => exact (show False from r).elim
    | some _ => rfl
theorem RelO.getD {o : Option V} {u : Option Value} {d : V} {d' : Value} (r : RelO o u) (rd : RelV d d') : RelV (o.getD d) (u.getD d') := by
  cases o with
  | none => cases u with
    | none => exact rd
    | some _ => exact (show False from r).elim
  | some _ => cases u with
    | none => exact (show False from r).elim
    | some _ => exact r

/-- raw tables of the same keys -/
theorem KV.val {kvs : List (κ × V)} {vs : List (κ × Value)} (r : KV kvs vs) (k : κ) : RelO (valV kvs k) (valueAt vs k) := by
  unfold KV at r
  induction r with
  | nil => exact True.intro
  | @cons p q ps qs h t ih =>
    obtain ⟨h1, h2⟩ := h
    by_cases e : p.1 = k
    · have e' : q.1 = k := h1.symm.trans e
      have b : valueAt (q :: qs) k = some q.2 := by simp [valueAt, List.find?_cons, e']
      rw [valV_pos e, b]; exact h2
    · have e' : ¬ q.1 = k := fun z => e (h1.trans z)
      have b : valueAt (q :: qs) k = valueAt qs k := by simp [valueAt, List.find?_cons, e']
      rw [valV_neg e, b]; exact ih
theorem KV.any {kvs : List (κ × V)} {vs : List (κ × Value)} (r : KV kvs vs) (k : κ) : (kvs.any fun kv => decide (kv.1 = k)) = vs.any fun kv => decide (kv.1 = k) := by
  unfold KV at r
  induction r with
  | nil => rfl
  | cons h t ih => rw [List.any_cons, List.any_cons, ih, h.1]
theorem KV.repl {kvs : List (κ × V)} {vs : List (κ × Value)} (r : KV kvs vs) (k : κ) {y : V} {u : Value} (ry : RelV y u) :
    KV (kvs.map fun kv => if kv.1 = k then (kv.1, y) else kv) (vs.map fun kv => if kv.1 = k then (kv.1, u) else kv) := by
  unfold KV at r ⊢
  induction r with
  | nil => exact .nil
  | @cons p q ps qs h t ih =>
    rw [List.map_cons, List.map_cons]
    refine .cons ?_ ih
    obtain ⟨h1, h2⟩ := h
    by_cases e : p.1 = k
    · rw [if_pos e, if_pos (h1.symm.trans e)]; exact ⟨h1, ry⟩
    · rw [if_neg e, if_neg (fun z => e (h1.trans z))]; exact ⟨h1, h2⟩
theorem KV.put {kvs : List (κ × V)} {vs : List (κ × Value)} (r : KV kvs vs) (k : κ) {y : V} {u : Value} (ry : RelV y u) : KV (putK kvs k y) (stored vs k u) := by
  unfold putK stored
  rw [r.any k]
  by_cases e : (vs.any fun kv => decide (kv.1 = k)) = true
  · rw [if_pos e, if_pos e]; exact r.repl k ry
  · rw [if_neg e, if_neg e]; exact Paired.snoc r ⟨rfl, ry⟩
theorem KV.drop {kvs : List (κ × V)} {vs : List (κ × Value)} (r : KV kvs vs) (k : κ) : KV (dropK kvs k) (without vs k) := by
  unfold KV at r ⊢
  unfold dropK without
  induction r with
  | nil => exact .nil
  | @cons p q ps qs h t ih =>
    obtain ⟨h1, h2⟩ := h
    rw [List.filter_cons, List.filter_cons]
    by_cases e : p.1 = k
    · have a : ¬ decide (p.1 ≠ k) = true := by simp [e]
      have b : ¬ decide (q.1 ≠ k) = true := by simp [h1.symm.trans e]
      rw [if_neg a, if_neg b]; exact ih
    · have e' : ¬ q.1 = k := fun z => e (h1.trans z)
      have a : decide (p.1 ≠ k) = true := by simp [e]
      have b : decide (q.1 ≠ k) = true := by simp [e']
      rw [if_pos a, if_pos b]; exact .cons ⟨h1, h2⟩ ih
theorem KV.keys {kvs : List (κ × V)} {vs : List (κ × Value)} (r : KV kvs vs) : kvs.map (·.1) = vs.map (·.1) := by
  unfold KV at r
  induction r with
  | nil => rfl
  | cons h t ih => rw [List.map_cons, List.map_cons, ih, h.1]
theorem KV.length {kvs : List (κ × V)} {vs : List (κ × Value)} (r : KV kvs vs) : kvs.length = vs.length := Paired.length r
end


/-! ### a tracked dict, its keys ints and texts or tuples of these -/
theorem kV_is {P : Program} {w : World} {k : Key} {u : Value} (r : RelV (kV k) u) : (mixKind P w).is k u = true := by
  cases k with
  | inl i => obtain ⟨t, e⟩ := (show ∃ t, u = Value.int i t from r); subst e; exact mixKind_int P w i t
  | inr x => obtain ⟨t, e⟩ := (show ∃ t, u = Value.str x t from r); subst e; exact mixKind_str P w x t
theorem items_are {P : Program} {w : World} : ∀ {ks : List Key} {us : List Value}, Vals (ks.map kV) us → ItemsAre (mixKind P w) ks us
  | [], _, r => by rw [List.map_nil] at r; cases r; exact .nil
  | k :: ks, _, r => by
    rw [List.map_cons] at r
    cases r with
    | cons h t => exact .cons (kV_is h) (items_are t)

/-- raw entries of a dict with tuple keys -/
abbrev KT (H : Hp) : List (List Key × V) → List (List Key × Addr × Value) → Prop := Paired fun p q => p.1 = q.1 ∧ H q.2.1 = some (.tup (p.1.map kV)) ∧ RelV p.2 q.2.2
theorem KT.val {H : Hp} {kvs : List (List Key × V)} {xs : List (List Key × Addr × Value)} (r : KT H kvs xs) (k : List Key) : RelO (valV kvs k) ((atKey xs k).map (·.2)) := by
  induction r with
  | nil => exact True.intro
  | @cons p q ps qs h t ih =>
    obtain ⟨h1, _, h2⟩ := h
    by_cases e : p.1 = k
    · have e' : q.1 = k := h1.symm.trans e
      have b : atKey (q :: qs) k = some q.2 := by simp [atKey, List.find?_cons, e']
      rw [valV_pos e, b]; exact h2
    · have e' : ¬ q.1 = k := fun z => e (h1.trans z)
      have b : atKey (q :: qs) k = atKey qs k := by simp [atKey, List.find?_cons, e']
      rw [valV_neg e, b]; exact ih
theorem KT.repl {H : Hp} {kvs : List (List Key × V)} {xs : List (List Key × Addr × Value)} (r : KT H kvs xs) (k : List Key) {y : V} {u : Value} (ry : RelV y u) :
    KT H (kvs.map fun kv => if kv.1 = k then (kv.1, y) else kv) (xs.map (putAt k u)) := by
  induction r with
  | nil => exact .nil
  | @cons p q ps qs h t ih =>
    rw [List.map_cons, List.map_cons]
    refine .cons ?_ ih
    obtain ⟨h1, h2, h3⟩ := h
    unfold putAt
    by_cases e : p.1 = k
    · rw [if_pos e, if_pos (h1.symm.trans e)]; exact ⟨h1, h2, ry⟩
    · rw [if_neg e, if_neg (fun z => e (h1.trans z))]; exact ⟨h1, h2, h3⟩
theorem KT.put {H : Hp} {kvs : List (List Key × V)} {xs : List (List Key × Addr × Value)} (r : KT H kvs xs) (k : List Key) {b : Addr} {y : V} {u : Value} (hb : H b = some (.tup (k.map kV))) (ry : RelV y u) :
    KT H (putK kvs k y) (storedH xs k b u) := by
  have e : (kvs.any fun kv => decide (kv.1 = k)) = (atKey xs k).isSome := by
    rw [valV_any, (r.val k).isSome_eq, Option.isSome_map]
  unfold putK storedH
  rw [e]
  by_cases q : (atKey xs k).isSome = true
  · rw [if_pos q, if_pos q]; exact r.repl k ry
  · rw [if_neg q, if_neg q]; exact Paired.snoc r ⟨rfl, hb, ry⟩
theorem KT.keeps {H H' : Hp} {kvs : List (List Key × V)} {xs : List (List Key × Addr × Value)} (r : KT H kvs xs) (ht : ∀ b ys, H b = some (.tup ys) → H' b = some (.tup ys)) : KT H' kvs xs :=
  Paired.mapP r fun _ _ z => ⟨z.1, ht _ _ z.2.1, z.2.2⟩

section
variable {P : Program} {w : World} {H : Hp} {h : Heap} {a : Addr}
theorem rd_of {u : HO} (ok : HOk P w H h) (e : Rd H a u) : ObjOk P w H h a u := e.ok ok
theorem dk_rd {kvs : List (Key × V)} (ok : HOk P w H h) (e : Rd H a (.dK kvs)) : kvs.length ≤ sizeLine ∧ (a == sysModules) = false ∧ ∃ vs, KV kvs vs ∧ h.DictOf (mixKind P w) a vs :=
  show ObjOk P w H h a (.dK kvs) from rd_of ok e
theorem dk_of {kvs : List (Key × V)} (ok : HOk P w H h) (e : H a = some (.dK kvs)) : kvs.length ≤ sizeLine ∧ (a == sysModules) = false ∧ ∃ vs, KV kvs vs ∧ h.DictOf (mixKind P w) a vs := dk_rd ok (.inl e)
/-- a tracked tuple of ints and texts is a key -/
theorem key_of {ks : List Key} (ok : HOk P w H h) (e : H a = some (.tup (ks.map kV))) : (tupleKind (mixKind P w)).is h ks a := by
  obtain ⟨_, its, r, o, h1, h2, n, h3⟩ := (show ObjOk P w H h a (.tup (ks.map kV)) from ok a _ e)
  exact ⟨o, its.toArray, n, h1, h2, h3, by simpa using items_are r⟩
theorem dt_rd {kvs : List (List Key × V)} (ok : HOk P w H h) (e : Rd H a (.dT kvs)) : kvs.length ≤ sizeLine ∧ (a == sysModules) = false ∧
    ∃ xs, KT H kvs xs ∧ h.DictOfH (tupleKind (mixKind P w)) a xs := by
  obtain ⟨z, y, xs, r, o, es, ep, h1, h2, h3, h4, h5⟩ := (show ObjOk P w H h a (.dT kvs) from rd_of ok e)
  refine ⟨z, y, xs, r, o, es, ep, h1, h2, h3, h4, fun x hx => ?_, h5⟩
  have all : ∀ {l : List (List Key × V)} {m : List (List Key × Addr × Value)}, KT H l m → ∀ x ∈ m, (tupleKind (mixKind P w)).is h x.1 x.2.1 := by
    intro l m q
    induction q with
    | nil => intro x hx; exact nomatch hx
    | @cons p q ps qs hq t ih =>
      intro x hx
      rcases List.mem_cons.mp hx with e | hx
      · subst e
        exact key_of ok (by rw [← hq.1]; exact hq.2.1)
      · exact ih x hx
  exact all r x hx
theorem dt_of {kvs : List (List Key × V)} (ok : HOk P w H h) (e : H a = some (.dT kvs)) : kvs.length ≤ sizeLine ∧ (a == sysModules) = false ∧
    ∃ xs, KT H kvs xs ∧ h.DictOfH (tupleKind (mixKind P w)) a xs := dt_rd ok (.inl e)
end

/-- what the dict at a holds at the key y -/
noncomputable def DGet (H : Hp) (a : Addr) (y : V) (r : Option V) : Prop :=
  (∃ kvs k, Rd H a (.dK kvs) ∧ y = kV k ∧ r = valV kvs k) ∨ ∃ kvs k b, Rd H a (.dT kvs) ∧ y = .ref b ∧ H b = some (.tup (k.map kV)) ∧ r = valV kvs k
/-- the heap behind a[y] = v -/
noncomputable def DPut (H : Hp) (a : Addr) (y v : V) (H' : Hp) : Prop :=
  (∃ kvs k, H a = some (.dK kvs) ∧ y = kV k ∧ kvs.length < sizeLine ∧ H' = upd H a (.dK (putK kvs k v))) ∨
  ∃ kvs k b, H a = some (.dT kvs) ∧ y = .ref b ∧ H b = some (.tup (k.map kV)) ∧ kvs.length < sizeLine ∧ H' = upd H a (.dT (putK kvs k v))
theorem DGet.k {H : Hp} {a : Addr} {kvs : List (Key × V)} {k : Key} (e : H a = some (.dK kvs)) : DGet H a (kV k) (valV kvs k) := .inl ⟨kvs, k, .inl e, rfl, rfl⟩
theorem DGet.t {H : Hp} {a b : Addr} {kvs : List (List Key × V)} {k : List Key} (e : H a = some (.dT kvs)) (eb : H b = some (.tup (k.map kV))) : DGet H a (.ref b) (valV kvs k) := .inr ⟨kvs, k, b, .inl e, rfl, eb, rfl⟩
theorem DPut.k {H : Hp} {a : Addr} {kvs : List (Key × V)} {k : Key} {v : V} (e : H a = some (.dK kvs)) (hl : kvs.length < sizeLine) : DPut H a (kV k) v (upd H a (.dK (putK kvs k v))) := .inl ⟨kvs, k, e, rfl, hl, rfl⟩
theorem DPut.t {H : Hp} {a b : Addr} {kvs : List (List Key × V)} {k : List Key} {v : V} (e : H a = some (.dT kvs)) (eb : H b = some (.tup (k.map kV))) (hl : kvs.length < sizeLine) :
    DPut H a (.ref b) v (upd H a (.dT (putK kvs k v))) := .inr ⟨kvs, k, b, e, rfl, eb, hl, rfl⟩


section
variable {X : Cx} {pins : List (Addr × Obj)} {σ : St} {H : Hp} {s : Shared} {a : Addr} {y v : V} {u r : Value} {o : Option V} {A : Around} {E : Value → Shared → Prop}

theorem Inv.big (I : Inv X pins σ H s) : sysModules < s.heap.objs.size := by
  have h : mainGlobals < s.heap.objs.size := (I.mod.glob.keeps I.bk).lt
  exact Nat.lt_trans (by decide) h

/-- d[y], there -/
theorem d_getItem {Q : Value → Shared → Prop} (hu : A.units + 1 < cLine) (I : Inv X pins σ H s) (g : DGet H a y (some v)) (ry : RelV y u) (h : ∀ w' s', Inv X pins σ H s' → RelV v w' → Q w' s') :
    wpAny (model X.prog X.w) A (getItem (.ref a) u) Q E s := by
  rcases g with ⟨kvs, k, e, ey, l⟩ | ⟨kvs, k, b, e, ey, eb, l⟩
  · subst ey
    obtain ⟨z, hd, vs, rel, dd⟩ := dk_rd I.hok e
    obtain ⟨w', hw, rw'⟩ := RelO.some_of (v := v) (o := valueAt vs k) (by rw [l]; exact rel.val k)
    exact wpAny_getItem_of (kV_is ry) dd.mapOf hw (h w' _ (I.tok _) rw')
  · subst ey
    cases (show u = Value.ref b from ry)
    obtain ⟨z, hd, xs, rel, dd⟩ := dt_rd I.hok e
    obtain ⟨w', hw, rw'⟩ := RelO.some_of (v := v) (o := (atKey xs k).map (·.2)) (by rw [l]; exact rel.val k)
    obtain ⟨p, hp, hp2⟩ := Option.map_eq_some_iff.mp hw
    refine wpAny_getItem_heap (tupleKind_room_in1 hu) (key_of I.hok eb) dd hp ?_
    rw [hp2]
    exact h w' _ (I.tok _) rw'
/-- a dict's object is replaced -/
theorem d_write {h' : Heap} {t' : Nat} {ob : HO} (I : Inv X pins σ H s) (mu : Mut (H a)) (hs : Heap.SameBut a s.heap h') (he : ∃ q, h'.get? a = some q) (new : ObjOk X.prog X.w (upd H a ob) h' a ob) :
    Inv X pins σ (upd H a ob) { s with heap := h', toks := t' } :=
  I.write (x := a) (e := a) mu (.inl rfl) (fun b q hb z => (hs.2 b hb).trans z) he new
theorem dk_new {P : Program} {w : World} {H' : Hp} {h' : Heap} {kvs : List (Key × V)} {vs : List (Key × Value)} (z : kvs.length ≤ sizeLine) (hd : (a == sysModules) = false) (rel : KV kvs vs) (dd : h'.DictOf (mixKind P w) a vs) :
    ObjOk P w H' h' a (.dK kvs) := ⟨z, hd, vs, rel, dd⟩
/-- d[y] = v -/
theorem d_setItem {H' : Hp} {Q : Unit → Shared → Prop} (hu : A.units + 1 < cLine) (I : Inv X pins σ H s) (g : DPut H a y v H') (ry : RelV y u) (rv : RelV v r) (h : ∀ s', Inv X pins σ H' s' → Q () s') :
    wpAny (model X.prog X.w) A (setItem (.ref a) u r) Q E s := by
  rcases g with ⟨kvs, k, e, ey, l, eH⟩ | ⟨kvs, k, b, e, ey, eb, l, eH⟩
  · subst ey eH
    obtain ⟨z, hd, vs, rel, dd⟩ := dk_of I.hok e
    have hz : vs.length ≤ sizeLine := by rw [← rel.length]; exact z
    have hl : (putK kvs k v).length ≤ sizeLine := by have := length_putK kvs k v; omega
    refine wpAny_setItem_pairs (hsz := hz) (kV_is ry) dd fun h' dd' hs => h _ ?_
    have he : ∃ q, h'.get? a = some q := let ⟨q, _, _, hq, _⟩ := dd'; ⟨q, hq⟩
    exact d_write I (by rw [e]; exact True.intro) hs he (dk_new hl hd (rel.put k rv) dd')
  · subst ey eH
    cases (show u = Value.ref b from ry)
    obtain ⟨z, hd, xs, rel, dd⟩ := dt_of I.hok e
    have hz : xs.length ≤ sizeLine := by rw [← Paired.length rel]; exact z
    have hl : (putK kvs k v).length ≤ sizeLine := by have := length_putK kvs k v; omega
    refine wpAny_setItem_heap (hsz := hz) (tupleKind_room_in1 hu) (key_of I.hok eb) dd fun h' dd' hs => h _ ?_
    obtain ⟨q, es, ep, hq, h2, h3, h4, _, h5⟩ := dd'
    refine d_write I (by rw [e]; exact True.intro) hs ⟨q, hq⟩ ⟨hl, hd, _, (rel.put k eb rv).keeps fun c ys ec => ?_, q, es, ep, hq, h2, h3, h4, h5⟩
    rw [upd_ne (ne_of ec e (fun z => nomatch z))]
    exact ec
end

section
variable {X : Cx} {pins : List (Addr × Obj)} {σ : St} {H : Hp} {s : Shared} {a : Addr} {kvs : List (Key × V)} {k : Key} {u : Value} {A : Around} {E : Value → Shared → Prop}
end


/-! ### readings and rules -/
/-- the element of a subscription, not a slice -/
noncomputable def NoSl (i : Expr) : Prop := ∀ ov iv, subscripted i false ov iv = operate [ov, iv] (getItem ov iv)
theorem subD_of {prog : Program} {w : World} {A : Around} {E : Value → Shared → Prop} {s : Shared} {env : Env} {value slice : Expr} {pos : Pos} {T id : String} {Q : Value → Shared → Prop}
    (hl : typeLookup (.type T) "__getitem__" = pure (some (.builtin id))) (hs : NoSl slice)
    (h : wpAny (model prog w) A (eval value env) (fun o s₁ => wpAny (model prog w) A (eval slice env) (fun i s₂ => s₂.TypeIs o T ∧ wpAny (model prog w) A (getItem o i) Q E s₂) E s₁) E s) :
    wpAny (model prog w) A (eval (.Subscript value slice pos) env) Q E s := by
  refine Subscript_ (wpAny_mono h (fun o s₁ h₁ => wpAny_mono h₁ (fun i s₂ h₂ => ?_) fun _ _ x => x) fun _ _ x => x)
  obtain ⟨hT, h₂⟩ := h₂
  unfold subscriptTail
  refine wpAny_bind ?_
  rw [getitemInPython_of_ne hT.not_modules]
  refine wpAny_bind (wpAny_specialOf hT hl ?_)
  have fin : wpAny (model prog w) A (subscripted slice false o i) (fun r s₃ => wpAny (model prog w) A (letTemporaryGo value o r >>= fun _ => pure r) Q E s₃) E s₂ := by
    rw [hs o i]
    exact wpAny_operating (wpAny_mono h₂ (fun r s₃ h₃ => wpAny_bind (wpAny_letTemporaryGo (wpAny_pure h₃))) fun _ _ x => x)
  first
    | exact wpAny_pure (wpAny_bind fin)
    | exact wpAny_bind (wpAny_pure (wpAny_bind fin))
    | exact wpAny_bind fin

theorem dict_typeIs {X : Cx} {pins : List (Addr × Obj)} {σ : St} {H : Hp} {s : Shared} {a : Addr} {y : V} {o : Option V} (I : Inv X pins σ H s) (g : DGet H a y o) : s.TypeIs (.ref a) "dict" := by
  rcases g with ⟨kvs, k, e, _, _⟩ | ⟨kvs, k, b, e, _, _, _⟩
  · obtain ⟨_, _, vs, _, dd⟩ := dk_rd I.hok e
    exact dd.typeIs
  · obtain ⟨_, _, xs, _, dd⟩ := dt_rd I.hok e
    exact dd.typeIs
/-- d[y] -/
noncomputable def tDGet (td ty : TE) : TE := fun σ H Q => td σ H fun x H1 => ty σ H1 fun y H2 => ∃ a v, x = .ref a ∧ DGet H2 a y (some v) ∧ Q v H2
/-- y in d, y not in d -/
noncomputable def tDIn (ty td : TE) : TE := fun σ H Q => ty σ H fun y H1 => td σ H1 fun x H2 => ∃ a o, x = .ref a ∧ DGet H2 a y o ∧ Q (.bl o.isSome) H2
noncomputable def tDNotIn (ty td : TE) : TE := fun σ H Q => ty σ H fun y H1 => td σ H1 fun x H2 => ∃ a o, x = .ref a ∧ DGet H2 a y o ∧ Q (.bl (!o.isSome)) H2
/-- d[y] = v -/
noncomputable def sDPut (td ty tv : TE) : TS := fun D σ H => tv σ H fun v H1 => td σ H1 fun x H2 => ty σ H2 fun y H3 => ∃ a H4, x = .ref a ∧ DPut H3 a y v H4 ∧ D.nx σ H4
/-- d[y] op= v -/
noncomputable def sDAug (td ty tv : TE) (rd : V → V → Hp → VK → Prop) : TS := fun D σ H => td σ H fun x H1 => ty σ H1 fun y H2 => ∃ a v, x = .ref a ∧ DGet H2 a y (some v) ∧
  tv σ H2 fun y2 H3 => rd v y2 H3 fun z H4 => ∃ H5, DPut H4 a y z H5 ∧ D.nx σ H5
/-- del d[y] -/
noncomputable def sDDel (td ty : TE) : TS := fun D σ H => td σ H fun x H1 => ty σ H1 fun y H2 => ∃ a kvs k, x = .ref a ∧ H2 a = some (.dK kvs) ∧ y = kV k ∧ (valV kvs k).isSome = true ∧ D.nx σ (upd H2 a (.dK (dropK kvs k)))

section
variable {X : Cx} {o i e value : Expr} {pos pos' tpos : Pos} {td ty tv : TE}
theorem pe_dget (hu : X.A.units + 1 < cLine) (ho : PE X o td) (hi : PE X i ty) (hs : NoSl i) : PE X (.Subscript o i pos) (tDGet td ty) := by
  intro pins s σ H Q I h
  refine subD_of PySem.F.slot_dict_getitem.lookup hs (thn (ho pins s σ H _ I h) fun u s1 ⟨x, H1, I1, rx, q1⟩ => thn (hi pins s1 σ H1 _ I1 q1) fun iv s2 ⟨y, H2, I2, ry, a, v, ex, g, q2⟩ => ?_)
  subst ex
  obtain rfl : u = Value.ref a := rx
  exact ⟨dict_typeIs I2 g, d_getItem hu I2 g ry fun w' s3 I3 rw' => ⟨v, H2, I3, rw', q2⟩⟩
theorem ps_dput (hu : X.A.units + 1 < cLine) (ho : PE X o td) (hi : PE X i ty) (hv : PE X value tv) (hs : swapsWith value (some (.Subscript o i pos')) pos.line X.env = pure false) :
    PS X (.Assign [.Subscript o i pos'] value pos) (sDPut td ty tv) := by
  intro pins s σ H D I h
  refine wpAny_Assign_Subscript (thn (hv pins s σ H _ I h) fun r s1 ⟨v, H1, I1, rv, q1⟩ => thn (ho pins s1 σ H1 _ I1 q1) fun u s2 ⟨x, H2, I2, rx, q2⟩ => thn (hi pins s2 σ H2 _ I2 q2) fun iv s3 ⟨y, H3, I3, ry, a, H4, ex, g, q3⟩ => ?_) hs
  subst ex
  obtain rfl : u = Value.ref a := rx
  exact d_setItem hu I3 g ry rv fun s4 I4 => ⟨σ, H4, I4, q3⟩
end


/-! ### displays -/
theorem dk_empty {P : Program} {w : World} {H : Hp} (h : Heap) (hb : sysModules < h.objs.size) : ObjOk P w H (h.push { cls := .type "dict", data := .dict #[] }) h.objs.size (.dK []) :=
  ⟨Nat.zero_le _, beq_eq_false_iff_ne.mpr (Ne.symm (Nat.ne_of_lt hb)), [], .nil, Heap.DictOf.new h⟩
/-- {}, to be a dict of the kind that is wanted -/
noncomputable def tDNewK : TE := fun _ H Q => ∀ p, H p = none → Q (.ref p) (upd H p (.dK []))
noncomputable def tDNewT : TE := fun _ H Q => ∀ p, H p = none → Q (.ref p) (upd H p (.dT []))
section
variable {X : Cx} {pos : Pos}
theorem pe_dnewK : PE X (.Dict [] [] pos) tDNewK := fun pins s σ H Q I h =>
  wpAny_Dict_empty ⟨.ref s.heap.objs.size, _, I.laid (a := s.heap.objs.size) (o := .dK []) (t' := s.toks) (fun _ _ q => Heap.get?_push_of_some _ q) (Nat.le_refl _) (dk_empty s.heap I.big), rfl, h _ (I.hok.fresh (Nat.le_refl _))⟩
end

/-- the pairs of a display, from the left -/
noncomputable def tPairs : List (TE × TE) → St → Hp → (List (V × V) → Hp → Prop) → Prop
  | [], _, H, Q => Q [] H
  | (tk, tv) :: r, σ, H, Q => tk σ H fun x H1 => tv σ H1 fun y H2 => tPairs r σ H2 fun ps H3 => Q ((x, y) :: ps) H3
abbrev VV : List (V × V) → List (Value × Value) → Prop := Paired fun p q => RelV p.1 q.1 ∧ RelV p.2 q.2
noncomputable def PPs (X : Cx) (pos : Pos) (keys : List (Option Expr)) (values : List Expr) (trs : List (TE × TE)) : Prop :=
  ∀ (pins : List (Addr × Obj)) (s : Shared) (σ : St) (H : Hp) (Q : List (V × V) → Hp → Prop), Inv X pins σ H s → tPairs trs σ H Q →
    wpAny (model X.prog X.w) X.A (evalPairs (pairTrees keys values X.env pos)) (fun vs s' => ∃ ps H', Inv X pins σ H' s' ∧ VV ps vs ∧ Q ps H') X.xe s
noncomputable def mergeK (kvs more : List (Key × V)) : List (Key × V) := more.foldl (fun acc kv => putK acc kv.1 kv.2) kvs
theorem KV.merge : ∀ {more : List (Key × V)} {rs : List (Key × Value)} {kvs : List (Key × V)} {vs : List (Key × Value)}, KV more rs → KV kvs vs → KV (mergeK kvs more) (merged vs rs) := by
  intro more rs kvs vs r
  unfold KV at r
  induction r generalizing kvs vs with
  | nil => intro q; exact q
  | @cons p q ps qs h t ih =>
    intro r0
    have e : KV (putK kvs p.1 p.2) (stored vs q.1 q.2) := by
      have := r0.put p.1 h.2
      rw [← h.1]; exact this
    exact ih e
/-- {k: v, ..} with keys ints and texts; the new dict stands empty while the pairs are made -/
noncomputable def tDisp (trs : List (TE × TE)) : TE := fun σ H Q => ∀ p, H p = none → tPairs trs σ (upd H p (.dK [])) fun ps H2 => H2 p = some (.dK []) ∧ ∃ kvs : List (Key × V), ps = kvs.map (fun kv => (kV kv.1, kv.2)) ∧ kvs.length ≤ 15 ∧ Q (.ref p) (upd H2 p (.dK (mergeK [] kvs)))
/-! ### methods -/
/-- a method call o.m(e) of a built-in, with one argument: what must be seen of the text -/
structure M1 (X : Cx) (o : Expr) (m : Str) (apos : Pos) (e : Expr) (cpos : Pos) : Prop where
  base : attributeBase o m X.env (eval o X.env) = eval o X.env
  few : ((backTo cpos (starEach [e] X.env)).all (fun x => !x.1) && (backToKw cpos (keywordEach [] X.env)).all (fun x => x.1.isSome)
    && decide (([e] : List Expr).length + ([] : List Keyword).length + (if ([] : List Keyword).isEmpty then 0 else 1) < 30)) = true
  line : (apos.endLine == cpos.line) = true
  trees : backTo cpos (starEach [e] X.env) = [(false, eval e X.env)]
structure M2 (X : Cx) (o : Expr) (m : Str) (apos : Pos) (e f : Expr) (cpos : Pos) : Prop where
  base : attributeBase o m X.env (eval o X.env) = eval o X.env
  few : ((backTo cpos (starEach [e, f] X.env)).all (fun x => !x.1) && (backToKw cpos (keywordEach [] X.env)).all (fun x => x.1.isSome)
    && decide (([e, f] : List Expr).length + ([] : List Keyword).length + (if ([] : List Keyword).isEmpty then 0 else 1) < 30)) = true
  line : (apos.endLine == cpos.line) = true
  trees : backTo cpos (starEach [e, f] X.env) = [(false, eval e X.env), (false, eval f X.env)]

/-- a is a dict, whatever its keys -/
noncomputable def IsD (H : Hp) (a : Addr) : Prop := (∃ kvs, Rd H a (.dK kvs)) ∨ ∃ kvs, Rd H a (.dT kvs)
theorem isD_at {X : Cx} {pins : List (Addr × Obj)} {σ : St} {H : Hp} {s : Shared} {a : Addr} (I : Inv X pins σ H s) (d : IsD H a) :
    s.TypeIs (.ref a) "dict" ∧ (∀ b, Value.ref a = .ref b → ∃ ob, s.heap.get? b = some ob ∧ ob.dict = none) ∧ (a == sysModules) = false := by
  rcases d with ⟨kvs, e⟩ | ⟨kvs, e⟩
  · obtain ⟨_, hd, vs, _, dd⟩ := dk_rd I.hok e
    refine ⟨dd.typeIs, fun b q => ?_, hd⟩
    cases q
    obtain ⟨ob, _, _, h1, h2, _⟩ := dd
    exact ⟨ob, h1, h2.2.1⟩
  · obtain ⟨_, hd, xs, _, dd⟩ := dt_rd I.hok e
    refine ⟨dd.typeIs, fun b q => ?_, hd⟩
    cases q
    obtain ⟨ob, _, _, h1, h2, _⟩ := dd
    exact ⟨ob, h1, h2.2.1⟩

section
variable {X : Cx} {pins : List (Addr × Obj)} {σ : St} {H : Hp} {s : Shared} {a : Addr} {y d : V} {u r : Value} {o : Option V} {A : Around} {E : Value → Shared → Prop}
/-- d.get(y, x) -/
theorem d_get2 {Q : Value → Shared → Prop} (hu : A.units + 1 < cLine) (I : Inv X pins σ H s) (g : DGet H a y o) (ry : RelV y u) (rd : RelV d r) (h : ∀ w' s', Inv X pins σ H s' → RelV (o.getD d) w' → Q w' s') :
    wpAny (model X.prog X.w) A (call (.builtin "dict.get") [.ref a, u, r]) Q E s := by
  rcases g with ⟨kvs, k, e, ey, l⟩ | ⟨kvs, k, b, e, ey, eb, l⟩
  · subst ey
    obtain ⟨z, hd, vs, rel, dd⟩ := dk_rd I.hok e
    refine call_meetsIn PySem.F.slot_dict_get dd.typeIs PySem.F.entry_dict_get (PySem.F.args_dict_get_3 _ _ _) (meets_dict_get_default (mixKind X.prog X.w) a (kV_is ry) hd r) ⟨_, dd.mapOf, h _ _ (I.tok _) ?_⟩
    rw [l]
    exact (rel.val k).getD rd
  · subst ey
    cases (show u = Value.ref b from ry)
    obtain ⟨z, hd, xs, rel, dd⟩ := dt_rd I.hok e
    refine call_meetsIn PySem.F.slot_dict_get dd.typeIs PySem.F.entry_dict_get (PySem.F.args_dict_get_3 _ _ _) (meetsH_dict_get_default (tupleKind (mixKind X.prog X.w)) a b hd r) ⟨tupleKind_room_in1 hu, k, xs, key_of I.hok eb, dd, h _ _ (I.tok _) ?_⟩
    rw [l]
    exact (rel.val k).getD rd
end

noncomputable def tDGet1 (td ty : TE) : TE := fun σ H Q => td σ H fun x H1 => ∃ a, x = .ref a ∧ IsD H1 a ∧ ty σ H1 fun y H2 => ∃ o, DGet H2 a y o ∧ Q (o.getD .non) H2
noncomputable def tDGet2 (td ty tx : TE) : TE := fun σ H Q => td σ H fun x H1 => ∃ a, x = .ref a ∧ IsD H1 a ∧ ty σ H1 fun y H2 => tx σ H2 fun z H3 => ∃ o, DGet H3 a y o ∧ Q (o.getD z) H3
/-- d.pop(k): there; d.pop(k, x): there or not -/
noncomputable def tDPop1 (td ty : TE) : TE := fun σ H Q => td σ H fun x H1 => ∃ a, x = .ref a ∧ IsD H1 a ∧ ty σ H1 fun y H2 => ∃ kvs k v, H2 a = some (.dK kvs) ∧ y = kV k ∧ valV kvs k = some v ∧ Q v (upd H2 a (.dK (dropK kvs k)))
noncomputable def tDPop2 (td ty tx : TE) : TE := fun σ H Q => td σ H fun x H1 => ∃ a, x = .ref a ∧ IsD H1 a ∧ ty σ H1 fun y H2 => tx σ H2 fun z H3 => ∃ kvs k, H3 a = some (.dK kvs) ∧ y = kV k ∧
  (∀ v, valV kvs k = some v → Q v (upd H3 a (.dK (dropK kvs k)))) ∧ (valV kvs k = none → Q z H3)
section
variable {X : Cx} {o e f : Expr} {apos cpos : Pos} {td ty tx : TE}
theorem pe_dget2 (hu : X.A.units + 1 < cLine) (ho : PE X o td) (he : PE X e ty) (hf : PE X f tx) (m : M2 X o "get" apos e f cpos) : PE X (.Call (.Attribute o "get" apos) [e, f] [] cpos) (tDGet2 td ty tx) := by
  intro pins s σ H Q I h
  refine wpAny_Call_method m.base m.few m.line PySem.F.plainAttrs_dict PySem.F.slot_dict_get PySem.F.type_dict_get (thn (ho pins s σ H _ I h) fun u s1 ⟨x, H1, I1, rx, a, ex, d, q1⟩ => ?_)
  subst ex
  obtain rfl : u = Value.ref a := rx
  obtain ⟨t1, t2, _⟩ := isD_at I1 d
  refine ⟨t1, t2, ?_⟩
  rw [m.trees]
  refine Calls.callWith_builtin rfl (Calls.evalArgs_plain (Calls.spliced_cons (thn (he pins s1 σ H1 _ I1 q1) fun iv s2 ⟨y, H2, I2, ry, q2⟩ =>
    Calls.spliced_cons (thn (hf pins s2 σ H2 _ I2 q2) fun fv s3 ⟨z, H3, I3, rz, ov, g, q3⟩ => Calls.spliced_nil ?_))))
  exact d_get2 hu I3 g ry rz fun w' s4 I4 rw' => ⟨_, H3, I4, rw', q3⟩
end

/-! ### dict(d): a copy -/
section
variable {X : Cx} {pins : List (Addr × Obj)} {σ : St} {H : Hp} {s : Shared} {a : Addr} {kvs : List (Key × V)} {A : Around} {E : Value → Shared → Prop}
end


section
variable {X : Cx} {pins : List (Addr × Obj)} {σ : St} {H : Hp} {s : Shared} {a : Addr} {y : V} {u : Value} {A : Around} {E : Value → Shared → Prop}
end
end L2

namespace Att
open PySem PySem.W PySem.Calls PyProof.Rows

/-! ### the script -/
theorem ints_of_wellAll {P : Params} {h : Heap} : ∀ (ns : List Int) (vs : List Value), WellAll P h vs (ns.map WData.int) → IntsAre vs ns := by
  intro ns
  induction ns with
  | nil =>
    intro vs w
    rw [List.map_nil] at w
    cases w
    exact .nil
  | cons n ns ih =>
    intro vs w
    rw [List.map_cons] at w
    cases w with
    | cons a b =>
      cases a
      exact .cons _ _ (ih _ b)

theorem script_of {l : OpenLaw} {n : Nat} (hn : l.most = some n) {P : Params} {h : Heap} {args : List WData} {vals : List Value}
    (hpre : l.row.toRowW.claim.pre args = true) (hwl : WellAll P h vals args) :
    ∃ a vs ns, vals = [Value.ref a] ∧ args = [WData.list (ns.map WData.int)] ∧ h.get? a = some { cls := .type "list", data := .seq vs.toArray } ∧ IntsAre vs ns ∧ ns.length ≤ n := by
  have hsh : WShape.hasAll [] args [.list .int] = true := (pre_splitW hpre).1
  have hc : l.pre.holds [] { args := args } = true := (pre_splitW hpre).2
  obtain ⟨d, r, rfl, h1, h2⟩ := hasAllW_cons hsh
  obtain rfl := hasAllW_nil h2
  obtain ⟨xs, rfl, h3⟩ := hasW_list h1
  obtain ⟨ns, rfl⟩ := items_int h3
  have hlen : ns.length ≤ n := by
    unfold OpenLaw.pre at hc
    have h4 : (WTm.not (.lt (.lit (.int (n : Int))) (.len (.arg 0)))).holds [] { args := [.list (ns.map .int)] } = true := by
      have h4 := (holds_andW hc).1
      rw [hn] at h4
      exact h4
    have h5 := condW_of h4 (w_not (w_lt w_lit (w_len_list (w_arg rfl))))
    rw [List.length_map] at h5
    refine Nat.le_of_not_lt fun q => ?_
    have q' : (n : Int) < ((ns.length : Nat) : Int) := by omega
    first
      | (rw [decide_eq_true q'] at h5; exact absurd h5 (by decide))
      | (simp at h5; omega)
  cases hwl with
  | cons w1 w2 =>
    cases w2
    cases w1 with
    | list ho hall => exact ⟨_, _, ns, rfl, rfl, ho, ints_of_wellAll ns _ hall, hlen⟩

theorem post_true (l : OpenLaw) (args : List WData) : l.row.toRowW.claim.post args (.bool true) args = true :=
  postW_of (r := l.row.toRowW) (X := (true == true))
    (show WShape.has [] (.bool true) .bool = true by first | rfl | decide | simp [WShape.has, WShape.arms, WShape.armsAll])
    (show (WTm.eq .res (.lit (.bool true))).value [] { args := args, res := some (.bool true), after := args } = some (.bool (true == true)) from w_eq_bool (w_res rfl) w_lit) rfl

/-! ### the attachment: holds_open's last premise (the goal 'hc' behind k_head) from a wpAny of the law's body -/
/-- the same from a codeAny of the CALL (for a layer whose function contracts speak of calls) -/
theorem attach_call {l : OpenLaw} {n : Nat} {q : Program} {loose : List Str} {XP : (Str → Option Value) → Heap → Prop} {YP : World → Heap → Prop} {d : DefRec}
    (hn : l.most = some n) (hdf : d.params.defaults = [])
    (call : ∀ (w : World) (s₀ s₁ : Shared) (mg mb : Str → Option Value) (fa : Addr) (o : Obj) (pm cd doc : Value) (a : Addr) (vs : List Value) (ns : List Int),
      Ground q loose [] XP w s₀ mg mb s₁.heap → YP w s₁.heap →
      s₁.heap.get? fa = some o → o.data = .func (docDef d.name d.params d.body d.scope pm cd doc) → s₁.heap.CodeRec cd d.name → mg d.name = some (.ref fa) →
      s₁.heap.get? a = some { cls := .type "list", data := .seq vs.toArray } → IntsAre vs ns → ns.length ≤ n → s₁.gens = #[] →
      codeAny (model l.prog w) callerA (.call (.ref fa) ⟨[.ref a], []⟩) (fun r s' => r = .ok (.ret (.bool true)) ∧ OldK s₁.heap s'.heap ∧ s'.os = s₁.os ∧ AllBare s'.gens) s₁) :
    WalkO q loose XP YP l.row.toRowW d [] (fun f vs => PySem.call f vs) := by
  intro w s₀ s₁ mg mb G Y fa o pm cd doc dV kV ho hd hcd hD hmg hg args vals as hpre hlay hrd hwl hlo
  obtain rfl : dV = .none := Dflts.none hD hdf
  obtain rfl : kV = .none := Dflts.noKw hD
  obtain ⟨a, vs, ns, rfl, rfl, hobj, hints, hlen⟩ := script_of hn hpre hwl
  refine enter_call (codeAny_mono (call w s₀ s₁ mg mb fa o pm cd doc a vs ns G Y ho (fd_plain hd) hcd hmg hobj hints hlen hg) fun r s' hq => ?_)
  obtain ⟨rfl, h2, h3, h4⟩ := hq
  exact ⟨.inl ⟨.bool true, .bool true, [], rfl, fun _ => rfl, .bool true, post_true l _, fun _ => ⟨List.Pairwise.nil, fun _ hm => (nomatch hm)⟩⟩, h2, h3, h4⟩

/-! ### rules over ANY heap (no ledger) from facts about the written part K: the library's own take a ledger (News) for what they write -/
section
variable {prog : Program} {w : World} {A : Around} {E : Value → Shared → Prop} {s : Shared} {K : Frag}

/-! the whole heap as the ledger: makes every rule that writes through a ledger a rule over any heap -/
noncomputable def noObjs (h : Heap) : Heap := { h with objs := #[] }
noncomputable def ledger (h : Heap) (L d : Addr) : List (Addr × Obj) := (List.range h.objs.size).filterMap fun a => if a = L ∨ a = d then none else (h.get? a).map fun o => (a, o)
end
end Att

namespace L2
open PySem PySem.Spec PyProof.Rows

theorem vals_ints : ∀ {vs : List Value} {ns : List Int}, IntsAre vs ns → Vals (ns.map V.int) vs
  | _, _, .nil => .nil
  | _, _, .cons n t h => .cons ⟨t, rfl⟩ (vals_ints h)

/-- nothing is tracked but the script, known to the object (or it is an object of the module) -/
noncomputable def Only (H : Hp) : Prop := ∀ b, H b = none ∨ ∃ o xs, H b = some (.frz o (.lst xs))

/-- THE HEAD: the law's promise, at the heap behind the top. F, the promise of the law's def, may use that base is part of the heap (so K.In base, base.Ns mainGlobals mg stand in Mod) -/
theorem law_call {P : Program} {w : World} {K : PySem.W.Frag} {mg mb : Str → Option Value} {CX : CXT} {k : Nat} {fa a : Addr} {fd : FuncData} {x : Str} {sp : Sp} {s₁ : Shared} {vs : List Value} {ns : List Int}
    (KX : K.In s₁.heap) (hns : s₁.heap.Ns mainGlobals mg) (hb : s₁.heap.Ns builtinsNs mb) (hbb : ∀ x : Str, x ≠ "__name__" → mb x = bootBuiltins x) (hlim : s₁.heap.NoLimit) (hg : s₁.gens = #[])
    (ha : s₁.heap.get? a = some { cls := .type "list", data := .seq vs.toArray }) (hi : IntsAre vs ns) (hl : ns.length ≤ sizeLine) (hr : Room k callerA)
    (F : ∀ base : Heap, K.In base → base.Ns mainGlobals mg → FnOk P w K mg base CX k fa fd [x] sp) (hbind : ∀ (s : Shared) (u : Value), BindsTo s fd ⟨[u], []⟩ [(x, u)])
    (hsp : ∀ H : Hp, Only H → SqL K H a (ns.map V.int) → sp [.ref a] H (fun v _ => v = .bl true) fun _ _ _ => False)
    (hCX : ∀ H e s', CX [] H s₁ (fun _ _ _ => False) e s' → False) :
    codeAny (model P w) callerA (.call (.ref fa) ⟨[.ref a], []⟩) (fun r s' => r = .ok (.ret (.bool true)) ∧ OldK s₁.heap s'.heap ∧ s'.os = s₁.os ∧ AllBare s'.gens) s₁ := by
  have rv := vals_ints hi
  have lenV := hi.length
  -- from an abstract heap in which nothing but the script may be tracked
  have core : ∀ H : Hp, Only H → SqL K H a (ns.map V.int) → HOk P w H s₁.heap → (∀ b, H b ≠ none → b = a) → (H a ≠ none → K.lookup a = none) →
      codeAny (model P w) callerA (.call (.ref fa) ⟨[.ref a], []⟩) (fun r s' => r = .ok (.ret (.bool true)) ∧ OldK s₁.heap s'.heap ∧ s'.os = s₁.os ∧ AllBare s'.gens) s₁ := by
    intro H hO hS hok hA hK
    have base_of : ∀ {b : Addr} {o : Obj}, s₁.heap.get? b = some o → H b = none → (hidT s₁.heap H).get? b = some o := fun e n => hidT_get e n
    have noA : ∀ {b : Addr} {o : Obj} {es : Array DictEntry} {ep : Nat}, s₁.heap.get? b = some o → o.data = .dict es ep → H b = none := fun {b o es ep} e d => by
      cases q : H b with
      | none => rfl
      | some u =>
        have e' : b = a := hA b (by rw [q]; simp)
        subst e'
        rw [ha] at e; cases e
        have d' : Data.seq vs.toArray _ = Data.dict es ep := d
        cases d'
    have nsK : ∀ {b : Addr} {m : Str → Option Value}, s₁.heap.Ns b m → (hidT s₁.heap H).Ns b m := fun {b m} ⟨o, es, ep, e, d, r⟩ => ⟨o, es, ep, base_of e (noA e d), d, r⟩
    have hKb : K.In (hidT s₁.heap H) := fun b o e => base_of (KX b o e) (by
      cases q : H b with
      | none => rfl
      | some u =>
        have e' : b = a := hA b (by rw [q]; simp)
        subst e'
        rw [hK (by rw [q]; simp)] at e; cases e)
    have hM : Mod K mg (hidT s₁.heap H) := ⟨hKb, nsK hns, ⟨mb, nsK hb, hbb⟩, let ⟨mc, h1, h2⟩ := hlim; ⟨mc, nsK h1, h2⟩⟩
    have e0 : Env0 P w K mg (hidT s₁.heap H) callerA [] s₁ H := ⟨rfl, hM, fun b o e => of_hidT e, Nat.le_of_eq (hidT_size _ _), trivial, fun b hb => absurd (show b ∈ ([] : List Addr) from hb) (by simp), hok, .of_eq hg⟩
    refine codeAny_mono ((F _ hKb (nsK hns)).run callerA [] s₁ H ⟨[.ref a], []⟩ [.ref a] [.ref a] _ _ hr e0 (hbind s₁ (.ref a)) (.cons rfl .nil) (hsp H hO hS)) fun r s' h => ?_
    cases r with
    | error e => exact (hCX H e s' h).elim
    | ok fl =>
      cases fl with
      | next => exact False.elim h
      | brk => exact False.elim h
      | cont => exact False.elim h
      | ret u =>
        obtain ⟨v, H', os, bare, un, hok', r', q⟩ := h
        have q' : v = .bl true := q
        subst q'
        obtain rfl : u = Value.bool true := r'
        refine ⟨rfl, OldK.of_keep fun b o e => ?_, os, bare⟩
        cases q : H b with
        | none => exact un.keep b o e q (by intro z; exact absurd (show b ∈ ([] : List Addr) from z) (by simp)) (by simp)
        | some u =>
          rcases hO b with z | ⟨ob, xs, z⟩
          · rw [q] at z; cases z
          · have z2 := un.frzs b ob _ z
            obtain ⟨e1, _⟩ := hok b _ z
            obtain ⟨e2, _⟩ := hok' b _ z2
            rw [e] at e1; cases e1
            exact e2
  cases hk : K.lookup a with
  | some o =>
    -- the script is one of the module's own objects
    have e := KX a o hk
    rw [ha] at e
    cases e
    refine core (fun _ => none) (fun _ => .inl rfl) (.inr ⟨_, vs.toArray, _, hk, rfl, rfl, rfl, by rw [List.size_toArray, lenV]; exact hl, by simpa using rv⟩) (fun b u z => by have z' : (none : Option HO) = some u := z; cases z') (fun b z => absurd rfl z) fun z => absurd rfl z
  | none =>
    refine core (fun b => if b = a then some (.frz { cls := .type "list", data := .seq vs.toArray } (.lst (ns.map V.int))) else none) (fun b => ?_) (.inl (.inr ⟨{ cls := .type "list", data := .seq vs.toArray }, if_pos rfl⟩)) (fun b u z => ?_) (fun b z => ?_) fun _ => hk
    · by_cases hb : b = a
      · exact .inr ⟨_, _, if_pos hb⟩
      · exact .inl (if_neg hb)
    · by_cases hb : b = a
      · have z' := (if_pos hb).symm.trans z
        cases z'
        subst hb
        exact ⟨ha, by rw [List.length_map]; exact hl, vs, _, rv, ha⟩
      · have z' := (if_neg hb).symm.trans z
        cases z'
    · by_cases hb : b = a
      · exact hb
      · exact absurd (if_neg hb) z
end L2

namespace L2
open PySem PySem.Spec PyProof.Rows

abbrev KOf {K : PySem.W.Frag} {h : Heap} (_ : K.In h) : PySem.W.Frag := K

/-- the goal that k_head leaves (case hc), from the law's promise. F gives the function object fd (K's own) once, then the promise over every base -/
theorem walk_of {l : PySem.W.OpenLaw} {n k : Nat} {q : Program} {loose : List Str} {XP : (Str → Option Value) → Heap → Prop} {YP : World → Heap → Prop} {d : DefRec} {K : Params → PySem.W.Frag} {CX : World → CXT} {sp : World → Sp} {x : Str}
    (hn : l.most = some n) (hn2 : n ≤ sizeLine) (hdf : d.params.defaults = []) (hr : Room k callerA)
    (hY : ∀ (w : World) (h : Heap), YP w h → (K w.params).In h)
    (F : ∀ (w : World) (mg : Str → Option Value) (fa : Addr) (h : Heap), (K w.params).In h → h.Ns mainGlobals mg → mg d.name = some (.ref fa) →
      ∃ fd : FuncData, (∀ (s : Shared) (u : Value), BindsTo s fd ⟨[u], []⟩ [(x, u)]) ∧
        ∀ base : Heap, (K w.params).In base → base.Ns mainGlobals mg → FnOk l.prog w (K w.params) mg base (CX w) k fa fd [x] (sp w))
    (hsp : ∀ (w : World) (H : Hp) (a : Addr) (ns : List Int), ns.length ≤ n → Only H → SqL (K w.params) H a (ns.map V.int) → sp w [.ref a] H (fun v _ => v = .bl true) fun _ _ _ => False)
    (hCX : ∀ (w : World) (H : Hp) (s : Shared) (e : Value) (s' : Shared), CX w [] H s (fun _ _ _ => False) e s' → False) :
    PySem.W.WalkO q loose XP YP l.row.toRowW d [] (fun f vs => PySem.call f vs) := by
  refine Att.attach_call hn hdf fun w s₀ s₁ mg mb fa o pm cd doc a vs ns G Y ho hd hcd hmg hobj hints hlen hg => ?_
  have KX := hY w _ Y
  obtain ⟨fd, hb, hF⟩ := F w mg fa _ KX G.T.g hmg
  exact law_call KX G.T.g G.T.b G.T.builtins G.T.nolimit hg hobj hints (Nat.le_trans hlen hn2) hr hF hb (fun H hO hS => hsp w H a ns hlen hO hS) fun H e s' => hCX w H s₁ e s'
end L2

/- THE LAST THEOREM (shape; LID, My.* are yours):
   My.Adr: a structure of the addresses that your layer names (classes, functions); My.Txt K t: a structure (Prop) of the equations over K;
   My.txt_mk : {K} {implicit addresses ..} (e1 : nsIn K mainGlobals "law" = some (some (.ref f))) (e2 : K.lookup f = some ⟨oc, od, .func (fnOf "law" "law" params body scope dV kV doc pm an cdv ct), sl⟩) (e3 : codeIn K cdv "law" = true) .. : ∃ t, My.Txt K t

set_option maxRecDepth 100000 in
set_option maxHeartbeats 0 in
theorem PySem.Challenge.cw_LID_holds : PySem.Challenge.rw_LID.Holds := by
  w_on; o_law; k_head; (case hw => w_witness2)
  k_fill
  refine L2.walk_of (l := PySem.Challenge.rw_LID) (n := 63) (k := 40) (x := "script") (CX := fun w => ..) (sp := fun _ => My.sp_law) rfl (by decide) rfl ⟨rfl, by decide, by decide⟩ (fun w h Y => PySem.W.kIn_of Y) ?F ?S ?C
  case F =>
    intro w mg fa h KX G hmg
    have T : ∃ t, My.Txt (L2.KOf KX) t := by
      dsimp only [L2.KOf]                          -- K must stand as «<heap const> w.params» for k_is
      refine' My.txt_mk ?e1 ?e2 ?e3 ..
      (case e1 => PySem.W.k_is)                    -- in the order: a name -> its address -> its object -> its parts
      (case e2 => PySem.W.k_is)
      ..
    obtain ⟨t, T⟩ := T
    have e0 := hmg.symm.trans (PySem.W.mg_of KX G T.law)
    cases e0                                       -- fa is the law's own address
    exact ⟨_, fun s u => .of_eq rfl, fun base kb nb => My.law_fn T kb nb⟩     -- if «.of_eq rfl» comes too early: refine' ⟨_, ?b, fun base kb nb => My.law_fn T kb nb⟩; exact fun s u => .of_eq rfl
  case S => exact fun w H a ns hl hO hS => ..
  case C => exact ..
(the tactic k_is has no namespace: write k_is) -/

/-! SHORT WORDS over the layer: a def of the text, its body, what a loop and a test want. -/
namespace L2
open PySem PySem.Spec PyProof.Rows

/-! ### the text by places -/
/-- the j-th statement of a class's body -/
noncomputable def inClass (s : Stmt) (j : Nat) : Stmt := match s with
  | .ClassDef _ _ _ body _ _ _ _ _ _ _ => body.getD j (.Pass ⟨0, 0, 0, 0⟩)
  | _ => .Pass ⟨0, 0, 0, 0⟩
noncomputable def defArgs (s : Stmt) : Arguments := match s with
  | .FunctionDef _ a _ _ _ _ _ _ _ _ => a
  | _ => { posonlyargs := [], args := [], vararg := none, kwonlyargs := [], kw_defaults := [], kwarg := none, defaults := [] }
noncomputable def defBody (s : Stmt) : List Stmt := match s with
  | .FunctionDef _ _ b _ _ _ _ _ _ _ => b
  | _ => []
noncomputable def defScope (s : Stmt) : Scope := match s with
  | .FunctionDef _ _ _ _ _ _ sc _ _ _ => sc
  | _ => { kind := .function, names := [], isGenerator := false, isCoroutine := false }

/-! ### no exception leaves a def -/
abbrev CX0 : CXT := fun _ _ _ _ _ _ => False
abbrev E0 : XK := fun _ _ _ => False
/-! ### a def (or method) of the text as it stands behind the top -/
structure Fun (K : PySem.W.Frag) (x qual : Str) (st : Stmt) (f : Addr) (fd : FuncData) : Prop where
  ex : ∃ (oc : Value) (od : Option Addr) (kV doc pm : Value) (an : Option Addr) (cdv ct : Value) (osl : Array (Option Value)),
    fd = PySem.W.fnOf x qual (defArgs st) (defBody st) (defScope st) .none kV doc pm an cdv ct ∧ K.lookup f = some ⟨oc, od, .func fd, osl⟩ ∧ PySem.W.codeIn K cdv qual = true
  kp : PySem.W.keepIn K (.ref f) = true
section
variable {P : Program} {w : World} {K : PySem.W.Frag} {mg : Str → Option Value} {base : Heap}
/-- THE RULE for a def: its body as a term of rules, and the reading of that term -/
theorem Fun.ok {x qual : Str} {st : Stmt} {f : Addr} {fd : FuncData} {N ps : List Str} {k : Nat} {sp : Sp} (F : Fun K x qual st f fd) (S : FnScope N ps (defScope st)) (len : ∀ vs H Q E, sp vs H Q E → vs.length = ps.length)
    (hbody : ∀ (cdv : Value) (A : Around) (outer : List Env) (s : Shared) (H : Hp) (vs : List V) (Q : VK) (E : XK), Room k (A.deeper (envOfC qual (defScope st) s.heap.objs.size f cdv)) → sp vs H Q E →
      ∃ t, PSs (cxOf CX0 P w K mg base N qual (defScope st) f cdv A outer s H E).nox (defBody st) t ∧ t { nx := fun _ H' => Q .non H', rt := Q } (start N vs) H) : FnOk P w K mg base CX0 (k + 1) f fd ps sp := by
  obtain ⟨oc, od, kV, doc, pm, an, cdv, ct, osl, rfl, lk, hcd⟩ := F.ex
  refine fn_of lk hcd S len fun A outer s H vs Q E hr hsp => ?_
  obtain ⟨t, h, q⟩ := hbody cdv A outer s H vs Q E hr hsp
  exact ⟨t, h.nox, q⟩
/-- how its arguments bind (no defaults): h is «fun _ _ _ _ _ _ us hl => match us, hl with | [_, _], _ => rfl», one _ a parameter -/
theorem Fun.binds {x qual : Str} {st : Stmt} {f : Addr} {fd : FuncData} {ps : List Str} (F : Fun K x qual st f fd)
    (h : ∀ (kV doc pm : Value) (an : Option Addr) (cdv ct : Value) (us : List Value), us.length = ps.length → bindArgs (PySem.W.fnOf x qual (defArgs st) (defBody st) (defScope st) .none kV doc pm an cdv ct) ⟨us, []⟩ = pure (ps.zip us)) : Binds K fd ps [] := by
  obtain ⟨oc, od, kV, doc, pm, an, cdv, ct, osl, rfl, lk, hcd⟩ := F.ex
  exact .all (h kV doc pm an cdv ct)
theorem fun_mk {x qual : Str} {st : Stmt} {f : Addr} {oc : Value} {od an : Option Addr} {osl : Array (Option Value)} {kV doc pm cdv ct : Value} (l : K.lookup f = some ⟨oc, od, .func (PySem.W.fnOf x qual (defArgs st) (defBody st) (defScope st) .none kV doc pm an cdv ct), osl⟩)
    (c : PySem.W.codeIn K cdv qual = true) (k : PySem.W.keepIn K (.ref f) = true) : Fun K x qual st f (PySem.W.fnOf x qual (defArgs st) (defBody st) (defScope st) .none kV doc pm an cdv ct) := ⟨⟨oc, od, kV, doc, pm, an, cdv, ct, osl, rfl, l, c⟩, k⟩
end
theorem hu_of {A : Around} {k : Nat} (hr : Room k A) : A.units + 1 < cLine := Nat.lt_of_le_of_lt (Nat.add_le_add_left (by decide : 1 ≤ 64) _) hr.units
/-! ### expressions in short: the name that stands in the i-th slot -/
section
variable {X : Cx}
theorem pv (i : Nat) {x : Str} {pos : Pos} (hN : X.N[i]? = some x := by rfl) (hv : Vis X.env.scope x := by first | exact Or.inl rfl | exact Or.inr (Or.inl rfl) | exact Or.inr (Or.inr rfl)) (hd : (x == ("__debug__" : Str)) = false := by decide)
    (hcd : (x == ("__classdict__" : Str)) = false := by decide) : PE X (.Name x pos) (tVar i) := pe_var hN hv hd hcd
end

/-! ### tests -/
theorem iteT {A B : Prop} (h : A) : if true = true then A else B := by
  rw [if_pos rfl]
  exact h
theorem ite2 {c A B : Prop} [Decidable c] (h1 : c → A) (h2 : ¬ c → B) : if c then A else B := by
  by_cases h : c
  · rw [if_pos h]
    exact h1 h
  · rw [if_neg h]
    exact h2 h
/-! ### heaps -/
/-- all that was tracked is as it was -/
noncomputable def Same (H H' : Hp) : Prop := ∀ b o, H b = some o → H' b = some o
theorem Same.refl (H : Hp) : Same H H := fun _ _ h => h
theorem Same.trans {H H1 H2 : Hp} (a : Same H H1) (b : Same H1 H2) : Same H H2 := fun c o h => b c o (a c o h)
theorem Same.free {H H' : Hp} (e : Same H H') {l : Addr} (h : H' l = Option.none) : H l = Option.none := by
  cases q : H l with
  | none => rfl
  | some o =>
    rw [e l o q] at h
    cases h
theorem Same.seq {K : PySem.W.Frag} {H H' : Hp} {a : Addr} {xs : List V} (e : Same H H') (h : SqL K H a xs) : SqL K H' a xs := by
  rcases h with (h | ⟨o, h⟩) | h
  · exact .inl (.inl (e _ _ h))
  · exact .inl (.inr ⟨o, e _ _ h⟩)
  · exact .inr h

end L2

namespace L2
open PySem PySem.Spec PyProof.Rows
section
variable {X : Cx}
end
/-! ### a dict's pairs: keys that differ -/
section
variable {κ : Type} [DecidableEq κ]
end
end L2

/-! OWN RULES over the layer. -/
namespace L2
open PySem PySem.Spec PyProof.Rows

/-! ### sizes of ints -/
noncomputable def Bt (n : Nat) (i : Int) : Prop := i.natAbs < 2 ^ n
theorem Bt.mono {m n : Nat} {i : Int} (h : Bt m i) (q : m ≤ n) : Bt n i := Nat.lt_of_lt_of_le h (Nat.pow_le_pow_right (by decide) q)
theorem Bt.add {n : Nat} {i j : Int} (h1 : Bt n i) (h2 : Bt n j) : Bt (n + 1) (i + j) := by
  unfold Bt at *
  rw [Nat.pow_succ]
  generalize 2 ^ n = p at *
  omega
theorem Bt.neg {n : Nat} {i : Int} (h1 : Bt n i) : Bt n (-i) := by
  unfold Bt at *
  omega
theorem Bt.sub {n : Nat} {i j : Int} (h1 : Bt n i) (h2 : Bt n j) : Bt (n + 1) (i - j) := by
  have h := Bt.add h1 h2.neg
  rw [← Int.sub_eq_add_neg] at h
  exact h
theorem Bt.le {n : Nat} {i j : Int} (h : Bt n j) (q : i.natAbs ≤ j.natAbs) : Bt n i := Nat.lt_of_le_of_lt q h
theorem Bt.of {n : Nat} {i : Int} (b : Nat) (h1 : -(b : Int) ≤ i) (h2 : i ≤ (b : Int)) (h : b < 2 ^ n := by decide +kernel) : Bt n i := by
  unfold Bt
  exact Nat.lt_of_le_of_lt (by omega) h
theorem Bt.log {n : Nat} {i : Int} (h : Bt n i) (q : n ≤ 9000 := by decide) : i.natAbs.log2 < 9000 := by
  by_cases z : i.natAbs = 0
  · rw [z]; decide
  · exact Nat.lt_of_lt_of_le ((Nat.log2_lt z).mpr h) q
theorem mulOkL {i j : Int} (h1 : -(2 ^ 64) < i := by decide) (h2 : i < 2 ^ 64 := by decide) : IntMulOk i j := .of_left (intBits_le_64 h1 h2)
theorem mulOkR {i j : Int} (h1 : -(2 ^ 64) < j := by decide) (h2 : j < 2 ^ 64 := by decide) : IntMulOk i j := .of_right (intBits_le_64 h1 h2)

section
variable {X : Cx}
theorem op_mulB : OpR X (binaryOp .Mult) (rI IntMulOk fun i j => .int (i * j)) := opI fun _ _ _ _ _ _ _ hc q => mul_int q hc
noncomputable def CDivB (_ j : Int) : Prop := 0 < j ∧ j.natAbs.log2 < 9000
theorem CDivB.of {i j : Int} {n : Nat} (h : 0 < j) (b : Bt n j) (q : n ≤ 9000 := by decide) : CDivB i j := ⟨h, b.log q⟩
theorem CDivB.lit {i j : Int} (h : 0 < j := by decide) (q : j.natAbs.log2 < 9000 := by decide) : CDivB i j := ⟨h, q⟩
theorem op_fdivB : OpR X (binaryOp .FloorDiv) (rI CDivB fun i j => .int (i / j)) := opI fun i j _ _ _ _ _ hc q => by
  have h1 : (0 : Int) < j := hc.1
  exact floordiv_int (by omega) (by rw [Int.fdiv_eq_ediv_of_nonneg i (by omega)]; exact q) (.inl (PyProof.noPylong_of_log2 hc.2))
noncomputable def CDivS (_ j : Int) : Prop := j ≠ 0 ∧ j.natAbs.log2 < 9000
theorem CDivS.of {i j : Int} {n : Nat} (h : j ≠ 0) (b : Bt n j) (q : n ≤ 9000 := by decide) : CDivS i j := ⟨h, b.log q⟩
theorem op_modB : OpR X (binaryOp .Mod) (rI (fun _ j => 0 < j) fun i j => .int (i % j)) := op_mod

/-! ### tuples: tracked ones; a new one among others -/
noncomputable def rIxTH : R2 := fun x y H Q => ∃ p xs i v, x = .ref p ∧ y = .int i ∧ H p = some (.tup xs) ∧ atI xs i = some v ∧ Q v H
theorem ix_tupH : IxR X rIxTH := fun value slice pins s σ H x y v u Q I rx ry ⟨p, xs, i, z, e1, e2, e3, e4, q⟩ hs =>
  ix_tup value slice pins s σ H x y v u Q I rx ry ⟨p, xs, i, z, e1, e2, SqT.of e3, e4, q⟩ hs
noncomputable def rIxLH : R2 := fun x y H Q => ∃ p xs i v, x = .ref p ∧ y = .int i ∧ H p = some (.lst xs) ∧ atI xs i = some v ∧ Q v H
theorem ix_listH : IxR X rIxLH := fun value slice pins s σ H x y v u Q I rx ry ⟨p, xs, i, z, e1, e2, e3, e4, q⟩ hs =>
  ix_list value slice pins s σ H x y v u Q I rx ry ⟨p, xs, i, z, e1, e2, SqL.of e3, e4, q⟩ hs
noncomputable def tTupS (t : TA) : TE := fun σ H Q => t σ H fun xs H1 => xs.length ≤ sizeLine ∧ ∀ p H2, Same H1 H2 → H1 p = none → H2 p = some (.tup xs) → Q (.ref p) H2
theorem same_upd {H : Hp} {p : Addr} {o : HO} (h : H p = none) : Same H (upd H p o) := fun b u e => by
  rw [upd_ne (ne_of_none e h)]
  exact e
theorem pe_tupS {es : List Expr} {t : TA} {x1} {pos : Pos} (h : PA X es t) : PE X (.Tuple es x1 pos) (tTupS t) := fun pins s σ H Q I hq =>
  thn (h := wpAny_Tuple_spliced (thn (h pos pins s σ H _ I hq) fun us s1 ⟨xs, H1, I1, r, z, q⟩ => ⟨by rw [← r.length]; exact z, by
    have hf : H1 s1.heap.objs.size = none := I1.hok.fresh (Nat.le_refl _)
    refine ⟨.ref s1.heap.objs.size, upd H1 s1.heap.objs.size (.tup xs), I1.laid (t' := s1.toks) (fun b u e => Heap.get?_push_of_some _ e) (Nat.le_refl _) ?_, rfl, q _ _ (same_upd hf) hf upd_same⟩
    exact ⟨z, us, r, ⟨_, Heap.get?_push_size _ rfl, rfl, _, rfl⟩⟩⟩)) fun _ _ z => z
theorem call_lenT : CallR X (.builtin "len") (fun xs H Q => ∃ p ys, xs = [.ref p] ∧ H p = some (.tup ys) ∧ Q (.int ys.length) H) := fun pins s σ H xs us Q I r ⟨p, ys, e, h, q⟩ =>
  call_len_seq pins s σ H xs us Q I r ⟨p, ys, e, .inr (SqT.of h), q⟩
theorem call_lenL : CallR X (.builtin "len") (fun xs H Q => ∃ p ys, xs = [.ref p] ∧ H p = some (.lst ys) ∧ Q (.int ys.length) H) := fun pins s σ H xs us Q I r ⟨p, ys, e, h, q⟩ =>
  call_len_seq pins s σ H xs us Q I r ⟨p, ys, e, .inl (SqL.of h), q⟩
/-- the script: len, an item -/
theorem call_lenQ : CallR X (.builtin "len") (fun xs H Q => ∃ p ns, xs = [.ref p] ∧ SqL X.K H p (List.map V.int ns) ∧ Q (.int (List.length ns : Nat)) H) := fun pins s σ H xs us Q I r ⟨p, ns, e, h, q⟩ =>
  call_len_seq pins s σ H xs us Q I r ⟨p, _, e, .inl h, by rw [List.length_map]; exact q⟩
noncomputable def rIxQ (K : PySem.W.Frag) : R2 := fun x y H Q => ∃ p ns i, x = .ref p ∧ y = .int i ∧ SqL K H p (List.map V.int ns) ∧ 0 ≤ i ∧ i < (List.length ns : Nat) ∧ Q (.int (ns.getD i.toNat 0)) H
theorem atI_ints {ns : List Int} {i : Int} (h0 : 0 ≤ i) (h1 : i < (ns.length : Nat)) : atI (ns.map V.int) i = some (.int (ns.getD i.toNat 0)) := by
  obtain ⟨j, rfl⟩ := Int.eq_ofNat_of_zero_le h0
  refine atI_nat ?_
  have hj : j < ns.length := by omega
  rw [List.getElem?_map, List.getElem?_eq_getElem hj]
  simp [List.getD_eq_getElem?_getD, List.getElem?_eq_getElem hj]
theorem ix_listS : IxR X (rIxQ X.K) := fun value slice pins s σ H x y v u Q I rx ry ⟨p, ns, i, e1, e2, e3, h0, h1, q⟩ hs =>
  ix_list value slice pins s σ H x y v u Q I rx ry ⟨p, _, i, _, e1, e2, e3, atI_ints h0 h1, q⟩ hs

/-! ### calls of the text's defs -/
structure Cal (P : Program) (w : World) (K : PySem.W.Frag) (mg : Str → Option Value) (base : Heap) (CX : CXT) (k : Nat) (x : Str) (ps : List Str) (sp : Sp) : Prop where
  ex : ∃ f fd, FnOk P w K mg base CX k f fd ps sp ∧ mg x = some (.ref f) ∧ PySem.W.keepIn K (.ref f) = true ∧ Binds K fd ps []
theorem pe_cal {CX : CXT} {k : Nat} {x : Str} {ps : List Str} {sp : Sp} {E : XK} {e : Expr} {es : List Expr} {t : TA} {p pos : Pos} (C : Cal X.prog X.w X.K X.mg X.base CX k x ps sp) (hr : Room k X.A) (hg : Gl X x) (hx : Passes CX X E) (ha : PA X (e :: es) t)
    (hdb : (x == ("__debug__" : Str)) = false := by decide) (he : starEach (e :: es) X.env = (false, eval e X.env) :: starEach es X.env := by rfl) (hpl : (backTo pos (starEach es X.env)).any (·.1) = false := by rfl) :
    PE X (.Call (.Name x p) (e :: es) [] pos) (tCall sp [] E t) := by
  obtain ⟨f, fd, F, hm, hk, hb⟩ := C.ex
  exact pe_call F hr hg hm hk hb .nil hx ha hdb he hpl
end

/-- no exception is wished: none comes -/
noncomputable def Strict (CX : CXT) : Prop := ∀ outer H s e s', ¬ CX outer H s (fun _ _ _ => False) e s'
theorem Strict.pass {CX : CXT} (h : Strict CX) {X : Cx} : Passes CX X E0 := fun _ _ H s e s' _ z => (h _ H s e s' z).elim

section
variable {P : Program} {w : World} {K : PySem.W.Frag} {mg : Str → Option Value} {base : Heap} {CX : CXT}
theorem Fun.okC {x qual : Str} {st : Stmt} {f : Addr} {fd : FuncData} {N ps : List Str} {k : Nat} {sp : Sp} (F : Fun K x qual st f fd) (S : FnScope N ps (defScope st)) (len : ∀ vs H Q E, sp vs H Q E → vs.length = ps.length)
    (hbody : ∀ (cdv : Value) (A : Around) (outer : List Env) (s : Shared) (H : Hp) (vs : List V) (Q : VK) (E : XK), Room k (A.deeper (envOfC qual (defScope st) s.heap.objs.size f cdv)) → sp vs H Q E →
      ∃ t, PSs (cxOf CX P w K mg base N qual (defScope st) f cdv A outer s H E).nox (defBody st) t ∧ t { nx := fun _ H' => Q .non H', rt := Q } (start N vs) H) : FnOk P w K mg base CX (k + 1) f fd ps sp := by
  obtain ⟨oc, od, kV, doc, pm, an, cdv, ct, osl, rfl, lk, hcd⟩ := F.ex
  refine fn_of lk hcd S len fun A outer s H vs Q E hr hsp => ?_
  obtain ⟨t, h, q⟩ := hbody cdv A outer s H vs Q E hr hsp
  exact ⟨t, h.nox, q⟩
/-- a def of the text, at its name -/
structure Dn (K : PySem.W.Frag) (mg : Str → Option Value) (x : Str) (st : Stmt) : Prop where
  ex : ∃ f fd, Fun K x x st f fd ∧ mg x = some (.ref f)
theorem Dn.cal {x : Str} {st : Stmt} {ps : List Str} {k : Nat} {sp : Sp} (D : Dn K mg x st)
    (hb : ∀ (kV doc pm : Value) (an : Option Addr) (cdv ct : Value) (us : List Value), us.length = ps.length → bindArgs (PySem.W.fnOf x x (defArgs st) (defBody st) (defScope st) .none kV doc pm an cdv ct) ⟨us, []⟩ = pure (ps.zip us))
    (h : ∀ f fd, Fun K x x st f fd → FnOk P w K mg base CX k f fd ps sp) : Cal P w K mg base CX k x ps sp := by
  obtain ⟨f, fd, F, hm⟩ := D.ex
  exact ⟨f, fd, h f fd F, hm, F.kp, F.binds hb⟩
end

/-! ### == of tuples of flat values; in a written tuple; isinstance of a built-in type -/
section
variable {X : Cx}
noncomputable def eqL (xs ys : List V) : Bool := (List.range (min xs.length ys.length)).all (fun j => eqV (xs.getD j .non) (ys.getD j .non)) && xs.length == ys.length
noncomputable def rEqT : R2 := fun x y H Q => ∃ p q xs ys, x = .ref p ∧ y = .ref q ∧ H p = some (.tup xs) ∧ H q = some (.tup ys) ∧ xs.all flatV = true ∧ ys.all flatV = true ∧ Q (.bl (eqL xs ys)) H
noncomputable def rInT : R2 := fun x y H Q => ∃ p xs, y = .ref p ∧ H p = some (.tup xs) ∧ flatV x = true ∧ xs.all flatV = true ∧ Q (.bl (inV x xs)) H
theorem call_isT : CallR X (.builtin "isinstance") (fun xs H Q => ∃ x c t b, xs = [x, .ty c] ∧ TyOf X.K H x t ∧ PySem.W.kitOne X.K t (.type c) = some b ∧ Q (.bl b) H) := by
  intro pins s σ H xs us Q I r h
  obtain ⟨x, c, t, b, rfl, ty, e, q⟩ := h
  obtain ⟨u, u', rfl, rx, rc⟩ := vals2 r
  cases rc
  exact isinst_ok I rx ty e fun tk => ⟨.bl b, H, I.tok tk, rfl, q⟩
end
theorem at0 {α : Type} {x : α} {l : List α} : atI (x :: l) 0 = some x := atI_nat (j := 0) rfl
theorem at1 {α : Type} {x y : α} {l : List α} : atI (x :: y :: l) 1 = some y := atI_nat (j := 1) rfl
theorem at2 {α : Type} {x y z : α} {l : List α} : atI (x :: y :: z :: l) 2 = some z := atI_nat (j := 2) rfl
noncomputable def Pr (a b : Int) : List V := [.int a, .int b]
theorem kit_ii {K : PySem.W.Frag} : PySem.W.kitOne K (.type "int") (.type "int") = some true := by unfold PySem.W.kitOne; rw [if_pos (by decide +kernel)]
theorem kit_ll {K : PySem.W.Frag} : PySem.W.kitOne K (.type "list") (.type "list") = some true := by unfold PySem.W.kitOne; rw [if_pos (by decide +kernel)]
theorem kit_off {K : PySem.W.Frag} {t c : String} {b : Bool} (h1 : (Value.type t == Value.type c) = false := by decide +kernel) (h2 : PySem.W.kitMeta c = true := by decide +kernel) (h3 : (PySem.fastBuiltinMro t).map (·.contains (Value.type c)) = some b := by decide +kernel) :
    PySem.W.kitOne K (.type t) (.type c) = some b := by
  unfold PySem.W.kitOne PySem.W.kitCls PySem.W.subIn
  rw [if_neg (by rw [h1]; decide)]
  dsimp only
  rw [if_pos h2]
  exact h3
theorem kit_ib {K : PySem.W.Frag} : PySem.W.kitOne K (.type "int") (.type "bool") = some false := kit_off
end L2
/-! Numbers: the greatest common divisor, lowest terms. -/
namespace Nm
noncomputable def g (a b : Int) : Int := (Int.gcd a b : Nat)
theorem g_dvd_l (a b : Int) : g a b ∣ a := Int.gcd_dvd_left ..
theorem g_dvd_r (a b : Int) : g a b ∣ b := Int.gcd_dvd_right ..
theorem g_comm (a b : Int) : g a b = g b a := by unfold g; rw [Int.gcd_comm]
theorem g_abs (a b : Int) : g (a.natAbs : Int) b = g a b := by
  unfold g Int.gcd
  rw [Int.natAbs_natCast]
theorem g_abs_r (a b : Int) : g a (b.natAbs : Int) = g a b := by
  rw [g_comm, g_abs, g_comm]
theorem g_step {a b : Int} (ha : 0 ≤ a) (_hb : 0 < b) : g b (a % b) = g a b := by
  unfold g Int.gcd
  rw [Int.natAbs_emod_of_nonneg ha, Nat.gcd_comm b.natAbs, ← Nat.gcd_rec, Nat.gcd_comm]
theorem g_zero {a : Int} (ha : 0 ≤ a) : g a 0 = a := by
  unfold g
  rw [Int.gcd_zero_right]
  omega
theorem back {a b c d p q x y : Int} (hq : 0 < q) (hd : 0 < d) (e : p * (b * d) = (a * d - c * b) * q) (f : x * (q * d) = (p * d + c * q) * y) : x * b = a * y := by
  have h : (x * b) * (q * d) = (a * y) * (q * d) := by grind
  exact Int.eq_of_mul_eq_mul_right (by have := Int.mul_pos hq hd; omega) h
end Nm
/-! EXCEPTIONS of own classes: raised, passed on, caught by name. -/
namespace L2
open PySem PySem.Spec PyProof.Rows PySem.W

theorem ObjOk.get {P : Program} {w : World} {H : Hp} {h : Heap} {a : Addr} : ∀ {o : HO}, ObjOk P w H h a o → ∃ ob, h.get? a = some ob
  | .lst _, x => let ⟨_, _, _, _, e⟩ := x; ⟨_, e⟩
  | .tup _, x => let ⟨_, _, _, o, e, _⟩ := x; ⟨o, e⟩
  | .dK _, x => let ⟨_, _, _, _, o, _, _, e, _⟩ := x; ⟨o, e⟩
  | .dT _, x => let ⟨_, _, _, _, o, _, _, e, _⟩ := x; ⟨o, e⟩
  | .set _ _, x => by
    obtain ⟨o, es, ep, t, e, _⟩ := x
    exact ⟨o, e⟩
  | .ins _ _ _, x => let ⟨_, _, _, e, _⟩ := x; ⟨_, e⟩
  | .own _, x => x
  | .xd _, x => by
    obtain ⟨mA, ⟨o, es, ep, e, _⟩, _⟩ := x
    exact ⟨o, e⟩
  | .rng _ _, x => let ⟨_, _, _, e⟩ := x; ⟨_, e⟩
  | .frz _ _, x => ⟨_, x.1⟩
  | .tbl _, x => ⟨_, x⟩
  | .met _ _, x => ⟨_, x⟩
  | .ext _, x => x.2.1
theorem HOk.inB {P : Program} {w : World} {H : Hp} {h h' B : Heap} (ok : HOk P w H h) (hB : ∀ b u o, H b = some u → h.get? b = some o → B.get? b = some o) (st : B.StaysIn h') : HOk P w H h' := fun a o e =>
  (ok a o e).stay (fun b u hb q => st b u (by
    rcases hb with rfl | hb
    · exact hB _ _ _ e q
    · exact hB _ _ _ hb q)) (fun _ r => r) fun _ _ r => r

/-- an exception flies: the frames l it will come to, the abstract heap and the state ahead of the call, the abstract heap behind it -/
structure Fly (P : Program) (w : World) (l : List Env) (H : Hp) (s : Shared) (H' : Hp) (ad : Addr) (cls : Value) (s' : Shared) : Prop where
  os : s'.os = s.os
  bare : AllBare s'.gens
  un : Un (frs l) [] H H' s.heap s'.heap
  hok : HOk P w H' s'.heap
  fl : ∃ B a0, Heap.FlyingW B l ad cls a0 s'.heap ∧ (∀ b o, s.heap.get? b = some o → H b = none → b ∉ frs l → B.get? b = some o) ∧ (∀ b o, s.heap.get? b = some o → b ∉ frs l → ∃ o', B.get? b = some o') ∧
    (∀ b u o, H' b = some u → s'.heap.get? b = some o → B.get? b = some o)
noncomputable def CX1 (P : Program) (w : World) : CXT := fun l H s E e s' => ∃ ad cls H', e = .ref ad ∧ Fly P w l H s H' ad cls s' ∧ E cls none H'
theorem strict1 (P : Program) (w : World) : Strict (CX1 P w) := fun _ _ _ _ _ ⟨_, _, _, _, _, h⟩ => h

section
variable {P : Program} {w : World} {K : PySem.W.Frag} {mg : Str → Option Value} {base : Heap} {N : List Str} {qual : Str} {scope : Scope} {f : Addr} {cdv : Value} {A : Around} {outer : List Env} {s0 : Shared} {H0 : Hp} {E : XK}
end
end L2
/-! raise of an own class; try with one call in it. -/
namespace L2
open PySem PySem.Spec PyProof.Rows PySem.W

abbrev bmVE : List Value := [.type "ValueError", .type "Exception", .type "BaseException", .type "object"]
abbrev newVE : String := "ValueError.__new__"
noncomputable def tRaise (C : Addr) (E : XK) (t : TA) : TS := fun _ σ H => t σ H fun vs H1 => vs.length ≤ sizeLine ∧ E (.ref C) none H1
section
variable {P : Program} {w : World} {K : PySem.W.Frag} {mg : Str → Option Value} {base : Heap} {N : List Str} {qual : Str} {scope : Scope} {f : Addr} {cdv : Value} {A : Around} {outer : List Env} {s0 : Shared} {H0 : Hp} {E : XK}
end

/-! ### catching -/
section
variable {X : Cx} {pins : List (Addr × Obj)} {σ : St} {H H' : Hp} {s s' : Shared}
/-- within an except suite -/
abbrev Cx.mark (X : Cx) (ad : Addr) : Cx := { X with A := X.A.mark (some (.ref ad)), calm := false, xe := fun _ _ => False }
theorem Inv.mark (I : Inv X pins σ H s) (ad : Addr) : Inv (X.mark ad) pins σ H s :=
  ⟨⟨I.ok.mod, I.ok.kind, I.ok.glob, I.ok.blt, I.ok.above, I.ok.inj, I.ok.has, I.ok.cab, fun z => (Bool.false_ne_true z).elim, I.ok.frames, I.ok.stk, I.ok.exf, I.ok.bs, I.ok.bsz, I.ok.noex, I.ok.exfs, I.ok.funs, I.ok.frf⟩,
    I.os, I.bare, I.base, I.loc, I.cell, I.free, I.freeC, I.pin, I.hok, I.len⟩
theorem Inv.unmark {ad : Addr} (ok : X.Ok) (I : Inv (X.mark ad) pins σ H s) : Inv X pins σ H s := ⟨ok, I.os, I.bare, I.base, I.loc, I.cell, I.free, I.freeC, I.pin, I.hok, I.len⟩
theorem name_goes {M : Model} {A : Around} {E : Value → Shared → Prop} {i : Nat} {n : Str} {pos : Pos} {Q : Unit → Shared → Prop} (I : Inv X pins σ H s) (hN : X.N.Nodup) (hi : X.N[i]? = some n) (hl : X.env.scope.names.lookup n = some .local)
    (h : ∀ s', Inv X pins (σ.set i none) H s' → Q () s') : wpAny M A (do bindName X.env n .none; unbindBehindTheSuite X.env n pos) Q E s := by
  have hiσ : i < σ.length := by rw [I.len]; exact (List.getElem?_eq_some_iff.mp hi).1
  refine wpAny_bind (wpAny_bindName (store_ok (v := .non) I hN hi (.inl hl) rfl (fun s1 I1 => ?_) (.inr hl)))
  obtain ⟨m, hn, hlk⟩ := id I1.loc
  have hmn : ∃ u, m n = some u := by
    obtain ⟨u, _, z⟩ := hlk i n .non hi (by rw [List.getElem?_set_self hiσ]) (.inl hl)
    rcases z with ⟨_, z⟩ | ⟨z, _⟩
    · exact ⟨u, z⟩
    · have hk : X.env.kindOf n = some .local := hl
      rw [hk] at z
      rcases z with z | z <;> cases z
  obtain ⟨u0, hu0⟩ := hmn
  unfold unbindBehindTheSuite
  refine wpAny_onRaise ?_
  unfold unbindName
  refine wpAny_bind (wpAny_point (wpAny_bind ?_))
  unfold deleteName
  have hk : X.env.kindOf n = some .local := hl
  have hcls : (X.env.scope.kind == .class || (X.env.scope.kind == .module && X.env.locals != X.env.globals)) = false := by rw [I.ok.kind]; rfl
  simp only [hk, hcls]
  rw [if_neg (by decide)]
  refine wpAny_bind (wpAny_nsDel_keeps hn fun h₂ v hn₂ hs₂ => ?_)
  rw [hu0]
  simp only [if_true, Option.isSome_some, Bool.not_true, Bool.false_eq_true, if_false]
  refine wpAny_pure (wpAny_point (h _ ?_))
  have hs : Heap.SameBut X.env.locals s1.heap h₂ := hs₂
  refine ⟨I1.ok, I1.os, I1.bare, ⟨fun b o e nn hb hx => ?_, fun b o e nn hb hx => ?_, I1.base.free, fun b o e hx => ?_, I1.base.tups, I1.base.frzs, I1.base.tbls⟩, ⟨_, hn₂, fun j y v' e1 e2 e3 => ?_⟩, fun y c e => ?_, I1.free, I1.freeC, fun p hp => ?_, fun b ob e => ?_, ?_⟩
  · exact (hs.2 b (Nat.ne_of_lt (Nat.lt_of_lt_of_le (Heap.lt_size e) I1.ok.above))).trans (I1.base.keep b o e nn hb hx)
  · obtain ⟨sl, e1⟩ := I1.base.slot b o e nn hb hx
    exact ⟨sl, (hs.2 b (Nat.ne_of_lt (Nat.lt_of_lt_of_le (Heap.lt_size e) I1.ok.above))).trans e1⟩
  · obtain ⟨o', e1⟩ := I1.base.there b o e hx
    exact ⟨o', (hs.2 b (Nat.ne_of_lt (Nat.lt_of_lt_of_le (Heap.lt_size e) I1.ok.above))).trans e1⟩
  · by_cases hj : j = i
    · subst hj
      rw [List.getElem?_set_self hiσ] at e2
      cases e2
    · rw [List.getElem?_set_ne (Ne.symm hj)] at e2
      obtain ⟨u', r', q⟩ := hlk j y v' e1 (by rw [List.getElem?_set_ne (Ne.symm hj)]; exact e2) e3
      refine ⟨u', r', ?_⟩
      rcases q with ⟨k, e⟩ | ⟨k, c, e, z⟩
      · refine .inl ⟨k, ?_⟩
        have : y ≠ n := fun e => hj (nodup_ix hN e1 (e ▸ hi))
        simp [this, e]
      · exact .inr ⟨k, c, e, z.sameBut hs (I1.cne y c e)⟩
  · obtain ⟨w', z⟩ := I1.cell y c e
    exact ⟨w', z.sameBut hs (I1.cne y c e)⟩
  · obtain ⟨e, nn, ne, nf, d⟩ := I1.pin p hp
    exact ⟨(hs.2 p.1 ne).trans e, nn, ne, nf, d⟩
  · refine (I1.hok b ob e).stay (fun c w' hc q => (hs.2 c ?_).trans q) (fun _ q => q) fun _ _ q => q
    rintro rfl
    have fr := I1.free
    rcases hc with rfl | hc
    · rw [fr] at e; cases e
    · rw [fr] at hc; cases hc
  · rw [List.length_set]
    exact I.len
/-- the caught exception's object -/
noncomputable def ExO (ad : Addr) (cls : Value) : HO := .ext fun h => ∃ o vs, h.get? ad = some o ∧ o.cls = cls ∧ o.data = .fields vs
theorem Fly.new {P : Program} {w : World} {l : List Env} {ad : Addr} {cls : Value} (F : Fly P w l H s H' ad cls s') : s.heap.get? ad = none := by
  obtain ⟨B, a0, fl, c0, c2, c1⟩ := F.fl
  cases q : s.heap.get? ad with
  | none => rfl
  | some o =>
    by_cases hb : ad ∈ frs l
    · obtain ⟨_, o1, q1, nf⟩ := fl.2.2.1.mem hb
      obtain ⟨oe, vs, he, _, hd, _⟩ := fl.first
      rw [q1] at he
      cases he
      exact absurd hd (nf _)
    · obtain ⟨o', q'⟩ := c2 ad o q hb
      rw [fl.2.1] at q'
      cases q'
theorem Fly.tracked {P : Program} {w : World} {l : List Env} {ad : Addr} {cls : Value} (F : Fly P w l H s H' ad cls s') : H' ad = none := by
  obtain ⟨B, a0, fl, c0, c2, c1⟩ := F.fl
  cases q : H' ad with
  | none => rfl
  | some u =>
    obtain ⟨o, e⟩ := (F.hok ad u q).get
    have := c1 ad u o q e
    rw [fl.2.1] at this
    cases this
/-- the exception has landed here -/
theorem Fly.inv {ad : Addr} {cls : Value} (F : Fly X.prog X.w X.stack H s H' ad cls s') (I : Inv X pins σ H s) {B h6 : Heap} {a0 : Value} (fl : Heap.FlyingW B X.stack ad cls a0 s'.heap)
    (c0 : ∀ b o, s.heap.get? b = some o → H b = none → b ∉ frs X.stack → B.get? b = some o) (c2 : ∀ b o, s.heap.get? b = some o → b ∉ frs X.stack → ∃ o', B.get? b = some o')
    (c1 : ∀ b u o, H' b = some u → s'.heap.get? b = some o → B.get? b = some o) (st : B.StaysIn h6) (up : s'.heap.UpToSlots h6) : Inv X pins σ H' { s' with heap := h6 } := by
  have fr : ∀ b ∈ frs X.stack, ∀ o, s'.heap.get? b = some o → ∃ sl, h6.get? b = some { o with slots := sl } := fun b hb o q => by
    obtain ⟨_, o1, q1, nf⟩ := fl.2.2.1.mem hb
    rw [q] at q1
    cases q1
    exact up b o q nf
  refine I.call' (s' := { s' with heap := h6 }) (ch := []) F.os ⟨fun b o q n hb _ => st b o (c0 b o q n hb), fun b o q n hb hx => ?_, F.un.free, fun b o q hx => ?_, F.un.tups, F.un.frzs, F.un.tbls⟩ (F.hok.inB c1 st) F.bare (fun b hb => absurd hb (by simp))
  · obtain ⟨sl, q1⟩ := F.un.slot b o q n hb hx
    obtain ⟨sl2, q2⟩ := fr b hb _ q1
    exact ⟨sl2, q2⟩
  · by_cases hb : b ∈ frs X.stack
    · obtain ⟨o2, q2⟩ := F.un.there b o q hx
      obtain ⟨sl2, q3⟩ := fr b hb _ q2
      exact ⟨_, q3⟩
    · obtain ⟨o2, q2⟩ := c2 b o q hb
      exact ⟨o2, st b o2 q2⟩
theorem Inv.adopt {ad : Addr} {φ : Heap → Prop} (I : Inv X pins σ H' s') (I0 : Inv X pins σ H s) (new : s.heap.get? ad = none) (hn : H' ad = none) (ho : ∃ o, s'.heap.get? ad = some o) (p : φ s'.heap)
    (hst : ∀ h1 h2 : Heap, φ h1 → (∀ o, h1.get? ad = some o → h2.get? ad = some o) → φ h2) : Inv X pins σ (upd H' ad (.ext φ)) s' := by
  have ne : ∀ b o, s.heap.get? b = some o → b ≠ ad := fun b o e z => by rw [z, new] at e; cases e
  have tk : ∀ b u, H' b = some u → b ≠ ad := fun b u e z => by rw [z, hn] at e; cases e
  have ne0 : ∀ b o, b ∉ X.ex → X.s₀.heap.get? b = some o → b ≠ ad := fun b o hx e => by
    obtain ⟨o', e'⟩ := I0.base.there b o e hx
    exact ne b o' e'
  refine ⟨I.ok, I.os, I.bare, ⟨I.base.keep, I.base.slot, fun b o e n hx => ?_, I.base.there, fun b xs e => ?_, fun b o u e => ?_, fun b ps e => ?_⟩, I.loc, I.cell, ?_, fun y c e => ?_, fun q hq => ?_, fun b u e => ?_, I.len⟩
  · rw [upd_ne (ne0 b o hx e)]
    exact I.base.free b o e n hx
  · rw [upd_ne (tk _ _ (I.base.tups b xs e))]
    exact I.base.tups b xs e
  · rw [upd_ne (tk _ _ (I.base.frzs b o u e))]
    exact I.base.frzs b o u e
  · obtain ⟨m, e1⟩ := I.base.tbls b ps e
    exact ⟨m, by rw [upd_ne (tk _ _ e1)]; exact e1⟩
  · obtain ⟨m, ⟨o, es, ep, hl, _⟩, _⟩ := I0.loc
    rw [upd_ne (ne _ _ hl)]
    exact I.free
  · obtain ⟨v, o, hc, _⟩ := I0.cell y c e
    rw [upd_ne (ne _ _ hc)]
    exact I.freeC y c e
  · obtain ⟨e, n, r⟩ := I.pin q hq
    refine ⟨e, ?_, r⟩
    rw [upd_ne (ne _ _ (I0.pin q hq).1)]
    exact n
  · by_cases hb : b = ad
    · subst hb
      rw [upd_same] at e
      cases e
      exact ⟨p, ho, hst⟩
    · rw [upd_ne hb] at e
      exact (I.hok b u e).stay (fun _ _ _ q => q) (fun c r => by rw [upd_ne (tk _ _ r)]; exact r) fun c xs r => by rw [upd_ne (tk _ _ r)]; exact r
theorem caught {ad : Addr} {cls : Value} {cx n : Str} {np hpos : Pos} {b₀ : Stmt} {suite : List Stmt} {i : Nat} {ts : TS} {C2 : Addr} {D : Ends} (I : Inv X pins σ H s) (F : Fly X.prog X.w X.stack H s H' ad cls s')
    (hst : X.stack = X.env :: X.outer) (hf : X.env.frame = some X.env.locals) (hg : Gl X cx) (hm : X.mg cx = some (.ref C2)) (hx : exmOne X.K cls (.ref C2) = some true) (hN : X.N.Nodup) (hi : X.N[i]? = some n)
    (hl : X.env.scope.names.lookup n = some .local) (hs : PSs (X.mark ad) (b₀ :: suite) ts)
    (h : ts { nx := fun σ' H2 => D.nx (σ'.set i none) H2, rt := D.rt, bk := fun σ' H2 => D.bk (σ'.set i none) H2, ct := fun σ' H2 => D.ct (σ'.set i none) H2 } (σ.set i (some (.ref ad))) (upd H' ad (ExO ad cls)))
    (hdb : (cx == ("__debug__" : Str)) = false := by decide) :
    wpAny (model X.prog X.w) X.A (noteFrame (.ref ad) X.env) (fun _ s₂ => wpAny (model X.prog X.w) X.A (setFlight (.ref ad) none)
      (fun _ s₃ => wpAny (model X.prog X.w) X.A (handleBy (.ref ad) X.env [.ExceptHandler (some (.Name cx np)) (some n) (b₀ :: suite) hpos]) (SP X pins D) X.xe s₃) X.xe s₂) X.xe s' := by
  obtain ⟨B, a0, fl, c0, c2, c1⟩ := F.fl
  have fl' := fl
  rw [hst] at fl'
  refine wpAny_looks_onW (I.ok.frames.trans (by rw [hst])) hf fl' fun h4 held4 up4 => ?_
  refine wpAny_landsW held4 fun h5 fl5 up5 => ?_
  have U5 : s'.heap.UpToSlots h5 := up4.trans up5
  have I5 : Inv X pins σ H' { s' with heap := h5 } := F.inv I fl c0 c2 c1 fl5.1 U5
  obtain ⟨ob, hob, hobc⟩ := fl5.there
  refine wpAny_handleBy_cons (codeAny_handlers_test (ld_glob (X := X.mark ad) (I5.mark ad) hg hm ?_ hdb)) (by intro q; cases q)
  have LT : Looks (model X.prog X.w) h5 (typeOf (.ref ad)) cls := by
    subst hobc
    exact (Looks.ld hob).andThen .now
  refine (exm_one I5.kIn LT hx).here ?_
  refine codeAny_handlers_suite_as ?_
  refine lands_againW fl5 fun h6 fl6 up6 => ?_
  have I6 : Inv X pins σ H' { s' with heap := h6 } := F.inv I fl c0 c2 c1 fl6.1 (U5.trans up6)
  obtain ⟨oe, vs, he, hec, hed, _⟩ := fl6.first
  have I7 : Inv X pins σ (upd H' ad (ExO ad cls)) { s' with heap := h6 } := I6.adopt I F.new F.tracked ⟨oe, he⟩ ⟨oe, vs, he, hec, hed⟩ fun h1 h2 ⟨o, ws, e1, e2, e3⟩ k => ⟨o, ws, k o e1, e2, e3⟩
  refine store_ok (X := X.mark ad) (I7.mark ad) hN hi (.inl hl) (v := .ref ad) rfl (fun s7 I8 => ?_) (.inr hl)
  refine wpAny_mono (hs pins s7 _ _ _ I8 h) (fun fw s8 hq => ?_) fun _ _ z => z.elim
  cases fw with
  | next =>
    obtain ⟨σ8, H8, I9, q8⟩ := hq
    exact name_goes (I9.unmark I.ok) hN hi hl fun s9 I10 => ⟨_, _, I10, q8⟩
  | brk =>
    obtain ⟨σ8, H8, I9, q8⟩ := hq
    exact name_goes (I9.unmark I.ok) hN hi hl fun s9 I10 => ⟨_, _, I10, q8⟩
  | cont =>
    obtain ⟨σ8, H8, I9, q8⟩ := hq
    exact name_goes (I9.unmark I.ok) hN hi hl fun s9 I10 => ⟨_, _, I10, q8⟩
  | ret u =>
    obtain ⟨v8, σ8, H8, I9, r8, q8⟩ := hq
    exact name_goes (I9.unmark I.ok) hN hi hl fun s9 I10 => ⟨v8, _, _, I10, r8, q8⟩
end

/-! ### one call within try -/
section
variable {X : Cx} {CX : CXT} {k : Nat} {x : Str} {ps : List Str} {sp : Sp} {E : XK} {e : Expr} {es : List Expr} {t : TA} {p pos : Pos}
/-- what is wanted of the exception: its class is caught, and the suite's reading -/
noncomputable def xTry (K : PySem.W.Frag) (C2 : Addr) (i : Nat) (ts : TS) (D : Ends) (σ : St) : XK := fun cls _ H2 => exmOne K cls (.ref C2) = some true ∧ ∀ ad, H2 ad = none →
  ts { nx := fun σ' H3 => D.nx (σ'.set i none) H3, rt := D.rt, bk := fun σ' H3 => D.bk (σ'.set i none) H3, ct := fun σ' H3 => D.ct (σ'.set i none) H3 } (σ.set i (some (.ref ad))) (upd H2 ad (ExO ad cls))
noncomputable def tTryE (K : PySem.W.Frag) (sp : Sp) (t : TA) (C2 : Addr) (i : Nat) (ts : TS) : TS := fun D σ H => t σ H fun vs H1 => sp vs H1 (fun _ H2 => D.nx σ H2) (xTry K C2 i ts D σ)
noncomputable def tTryA (K : PySem.W.Frag) (sp : Sp) (t : TA) (j : Nat) (C2 : Addr) (i : Nat) (ts : TS) : TS := fun D σ H => t σ H fun vs H1 => sp vs H1 (fun v H2 => D.nx (σ.set j (some v)) H2) (xTry K C2 i ts D σ)
variable {cx n : Str} {np hpos epos tpos : Pos} {b₀ : Stmt} {suite : List Stmt} {i : Nat} {ts : TS} {C2 : Addr}
end
end L2
/-! Numbers, further: a share of any bottom. -/
namespace Nm
noncomputable def st (a b : Int) : Int := if b < 0 then -(a / g a b) else a / g a b
noncomputable def sb (a b : Int) : Int := if b < 0 then -(b / g a b) else b / g a b
end Nm
/-! a def that may raise. -/
namespace L2
open PySem PySem.Spec PyProof.Rows
section
variable {P : Program} {w : World} {K : PySem.W.Frag} {mg : Str → Option Value} {base : Heap} {CX : CXT}
end
/-! ### argument lists without stars, by one lemma -/
noncomputable def noStar : Expr → Bool
  | .Starred _ _ => false
  | _ => true
theorem se {e : Expr} {es : List Expr} {env : Env} (h : noStar e = true) : starEach (e :: es) env = (false, eval e env) :: starEach es env := by
  cases e <;> first | rfl | exact absurd h Bool.false_ne_true
theorem na {env : Env} {pos : Pos} : ∀ {es : List Expr}, es.all noStar = true → (backTo pos (starEach es env)).any (·.1) = false
  | [], _ => rfl
  | e :: es, h => by
    rw [List.all_cons, Bool.and_eq_true] at h
    rw [se h.1]
    show (false || (backTo pos (starEach es env)).any (·.1)) = false
    rw [na h.2]
    rfl
end L2
/-! isinstance of a caught exception of an own class. -/
namespace L2
open PySem PySem.Spec PyProof.Rows PySem.W

/-- an own exception class, as isinstance asks it -/
structure ExcCls (K : PySem.W.Frag) (C : Addr) : Prop where
  cls : (clsIn K C).isSome = true
  ga : findIn K (.ref C) "__getattribute__" = some (some (.builtin "BaseException.__getattribute__"))
  gt : findIn K (.ref C) "__getattr__" = some none
  cl : findIn K (.ref C) "__class__" = some (some (.builtin "object.__class__"))
  be : mroIn K C (.type "BaseException") = some true
  ob : mroIn K C (.type "object") = some true

section
variable {prog : Program} {w : World} {A : Around} {E : Value → Shared → Prop} {K : PySem.W.Frag} {h : Heap} {g : Array GenState} {d : Drawn} {t : Nat} {os : OsState} {a C : Addr} {o : Obj}
end
noncomputable def ExcAt (a C : Addr) (h : Heap) : Prop := ∃ o, h.get? a = some o ∧ o.cls = .ref C
section
variable {X : Cx}
/-- a class as a value -/
noncomputable def clV : V → Option Value
  | .ref C => some (.ref C)
  | .ty T => some (.type T)
  | _ => none
end
end L2
/-! LIST COMPREHENSIONS (own text, over the layer's contexts). -/
namespace L2
open PySem PySem.Spec PyProof.Rows

/-! ### the closure -/
theorem closure_of {env : Env} : ∀ (names : List (Str × NameKind)) (cs : List (Str × Addr)), (∀ n, (n, NameKind.free) ∈ names → ∃ c, env.cells.lookup n = some c) → (∀ x c, cs.lookup x = some c → env.cells.lookup x = some c) →
    ∃ cl, (forIn names cs fun (x : Str × NameKind) (r : List (Str × Addr)) => (if (x.2 == NameKind.free) = true then do let c ← cellOf env x.1; pure (ForInStep.yield ((x.1, c) :: r)) else pure (ForInStep.yield r) : Sem (ForInStep (List (Str × Addr))))) = pure cl ∧
      (∀ x c, cl.lookup x = some c → env.cells.lookup x = some c) ∧ (∀ n, ((n, NameKind.free) ∈ names ∨ (cs.lookup n).isSome = true) → ∃ c, cl.lookup n = some c) ∧ (∀ x c, (x, c) ∈ cl → (env.cells.lookup x = some c ∧ (x, NameKind.free) ∈ names) ∨ (x, c) ∈ cs)
  | [], cs, _, h => ⟨cs, rfl, h, (fun n hn => by
      rcases hn with hn | hn
      · exact absurd hn (by simp)
      · exact Option.isSome_iff_exists.mp hn), fun x c m => .inr m⟩
  | (n, k) :: r, cs, hf, h => by
    by_cases hk : k = .free
    · subst hk
      obtain ⟨c, hc⟩ := hf n List.mem_cons_self
      obtain ⟨cl, e, h1, h2, h3⟩ := closure_of r ((n, c) :: cs) (fun m hm => hf m (List.mem_cons_of_mem _ hm)) (fun x c' hx => by
        rw [List.lookup_cons] at hx
        cases q : x == n with
        | true =>
          rw [q] at hx
          have e1 : x = n := by simpa using q
          cases hx
          rw [e1]; exact hc
        | false => rw [q] at hx; exact h x c' hx)
      refine ⟨cl, ?_, h1, fun m hm => h2 m ?_, fun x c' m => ?_⟩
      rotate_left 2
      · rcases h3 x c' m with ⟨q1, q2⟩ | m
        · exact .inl ⟨q1, List.mem_cons_of_mem _ q2⟩
        · rcases List.mem_cons.mp m with e | m
          · cases e
            exact .inl ⟨hc, List.mem_cons_self⟩
          · exact .inr m
      · rw [List.forIn_cons]
        have hco : cellOf env n = pure c := by unfold cellOf; rw [hc]
        simp only [beq_self_eq_true, if_true, hco, pure_bind]
        exact e
      · rcases hm with hm | hm
        · rcases List.mem_cons.mp hm with z | z
          · cases z
            right
            rw [List.lookup_cons]
            simp
          · exact .inl z
        · right
          rw [List.lookup_cons]
          cases q : m == n with
          | true => rfl
          | false => exact hm
    · obtain ⟨cl, e, h1, h2, h3⟩ := closure_of r cs (fun m hm => hf m (List.mem_cons_of_mem _ hm)) h
      refine ⟨cl, ?_, h1, fun m hm => h2 m ?_, fun x c' m => (h3 x c' m).imp (fun q => ⟨q.1, List.mem_cons_of_mem _ q.2⟩) id⟩
      · rw [List.forIn_cons]
        have : (k == NameKind.free) = false := by simpa using hk
        simp only [this, Bool.false_eq_true, if_false, pure_bind]
        exact e
      · rcases hm with hm | hm
        · rcases List.mem_cons.mp hm with z | z
          · cases z; exact absurd rfl hk
          · exact .inl z
        · exact .inr hm
theorem closureFor_of {env : Env} {scope : Scope} (hf : ∀ n, (n, NameKind.free) ∈ scope.names → ∃ c, env.cells.lookup n = some c) :
    ∃ cl, closureFor scope env = pure cl ∧ (∀ x c, cl.lookup x = some c → env.cells.lookup x = some c) ∧ (∀ n, (n, NameKind.free) ∈ scope.names → ∃ c, cl.lookup n = some c) ∧ (∀ x c, (x, c) ∈ cl → env.cells.lookup x = some c ∧ (x, NameKind.free) ∈ scope.names) := by
  obtain ⟨cl, e, h1, h2, h3⟩ := closure_of (env := env) scope.names [] hf (fun x c h => by simp at h)
  refine ⟨cl, ?_, h1, fun n hn => h2 n (.inl hn), fun x c m => (h3 x c m).elim id fun z => absurd z (by simp)⟩
  unfold closureFor
  simp only [bind_pure]
  exact e

/-! ### the names -/
/-- the outer names N with their scope; the block's names N' (k own ones first, then those from around at the places fr) with its scope -/
structure CompScope (N : List Str) (so : Scope) (N' : List Str) (scope : Scope) (k : Nat) (fr : List Nat) : Prop where
  kind : scope.kind = .function
  cels : ∀ y ∈ scope.names, y.2 = .cell → scope.names.lookup y.1 = some .cell ∧ (y.1, NameKind.free) ∉ scope.names
  locs : ∀ y ∈ scope.names, y.2 = .local → scope.names.lookup y.1 = some .local
  outer : ∀ y ∈ scope.names, y.2 = .free → (so.names.lookup y.1 = some .cell ∨ so.names.lookup y.1 = some .free)
  len : N'.length = k + fr.length
  at_ : ∀ t, t < fr.length → (fr[t]?).bind (fun j => N[j]?) = N'[k + t]?
  fre : ∀ x ∈ N'.drop k, scope.names.lookup x = some .free
noncomputable def stC (k : Nat) (fr : List Nat) (σ : St) : St := List.replicate k none ++ fr.map fun j => (σ[j]?).join

/-- the block's context -/
noncomputable def cxC (X : Cx) (N : List Str) (scope : Scope) (cl : List (Str × Addr)) (C : Addr) (s : Shared) (H : Hp) (ex : List Addr) : Cx where
  prog := X.prog
  w := X.w
  K := X.K
  mg := X.mg
  base := X.base
  A := X.A
  N := N
  s₀ := s
  H₀ := H
  env := compEnvC scope cl C X.env
  outer := X.stack
  stack := X.stack
  ex := ex
  calm := X.calm
  fn := fun x => scope.names.lookup x == some .cell
  pn := []
  xe := fun _ _ => False

theorem lookup_relabel_free {env : Env} : ∀ {names : List (Str × NameKind)} {x : Str}, names.lookup x = some .free →
    (names.map fun (n, k) => if (k == NameKind.free && env.scope.kind == .function && env.kindOf n == some .cell) then (n, NameKind.cell) else (n, k)).lookup x = some .cell ∨
    (names.map fun (n, k) => if (k == NameKind.free && env.scope.kind == .function && env.kindOf n == some .cell) then (n, NameKind.cell) else (n, k)).lookup x = some .free
  | [], _, h => by simp at h
  | (n, k) :: r, x, h => by
    have ih := @lookup_relabel_free env r x
    show List.lookup x ((if (k == NameKind.free && env.scope.kind == .function && env.kindOf n == some .cell) = true then (n, NameKind.cell) else (n, k)) :: _) = _ ∨ List.lookup x ((if (k == NameKind.free && env.scope.kind == .function && env.kindOf n == some .cell) = true then (n, NameKind.cell) else (n, k)) :: _) = _
    cases hx : x == n with
    | true =>
      simp only [List.lookup_cons, hx] at h
      cases h
      by_cases hc : (NameKind.free == NameKind.free && env.scope.kind == .function && env.kindOf n == some .cell) = true
      · rw [if_pos hc]; left; simp [List.lookup_cons, hx]
      · rw [if_neg hc]; right; simp [List.lookup_cons, hx]
    | false =>
      simp only [List.lookup_cons, hx] at h
      by_cases hc : (k == NameKind.free && env.scope.kind == .function && env.kindOf n == some .cell) = true
      · rw [if_pos hc]; simp only [List.lookup_cons, hx]; exact ih h
      · rw [if_neg hc]; simp only [List.lookup_cons, hx]; exact ih h
theorem relabel_back {env : Env} : ∀ {names : List (Str × NameKind)} {x : Str},
    ((names.map fun (n, k) => if (k == NameKind.free && env.scope.kind == .function && env.kindOf n == some .cell) then (n, NameKind.cell) else (n, k)).lookup x = some .cell ∨
    (names.map fun (n, k) => if (k == NameKind.free && env.scope.kind == .function && env.kindOf n == some .cell) then (n, NameKind.cell) else (n, k)).lookup x = some .free) → (x, NameKind.free) ∈ names ∨ (x, NameKind.cell) ∈ names
  | [], _, h => by simp at h
  | (n, k) :: r, x, h => by
    have ih := @relabel_back env r x
    have up : ((x, NameKind.free) ∈ r ∨ (x, NameKind.cell) ∈ r) → ((x, NameKind.free) ∈ (n, k) :: r ∨ (x, NameKind.cell) ∈ (n, k) :: r) := fun z => z.imp (List.mem_cons_of_mem _) (List.mem_cons_of_mem _)
    have h : List.lookup x ((if (k == NameKind.free && env.scope.kind == .function && env.kindOf n == some .cell) = true then (n, NameKind.cell) else (n, k)) :: _) = _ ∨ List.lookup x ((if (k == NameKind.free && env.scope.kind == .function && env.kindOf n == some .cell) = true then (n, NameKind.cell) else (n, k)) :: _) = _ := h
    cases hx : x == n with
    | true =>
      have e1 : x = n := by simpa using hx
      subst e1
      by_cases hc : (k == NameKind.free && env.scope.kind == .function && env.kindOf x == some .cell) = true
      · have : k = .free := by
          simp only [Bool.and_eq_true] at hc
          simpa using hc.1.1
        subst this
        exact .inl List.mem_cons_self
      · rw [if_neg hc] at h
        simp only [List.lookup_cons, hx] at h
        rcases h with h | h
        · cases h; exact .inr List.mem_cons_self
        · cases h; exact .inl List.mem_cons_self
    | false =>
      by_cases hc : (k == NameKind.free && env.scope.kind == .function && env.kindOf n == some .cell) = true
      · rw [if_pos hc] at h; simp only [List.lookup_cons, hx] at h; exact up (ih h)
      · rw [if_neg hc] at h; simp only [List.lookup_cons, hx] at h; exact up (ih h)
/-! ### cells of a block's own names -/
theorem cells_own : ∀ (names : List (Str × NameKind)) (h : Heap) (acc : List (Str × Addr)) (x : Str) (c : Addr), (x, c) ∈ cellsFrom h.objs.size names acc →
    (x, c) ∈ acc ∨ (h.objs.size ≤ c ∧ (pushCells h names).IsCell c none ∧ (x, NameKind.cell) ∈ names)
  | [], h, acc, x, c, m => .inl m
  | (n, k) :: r, h, acc, x, c, m => by
    unfold cellsFrom at m
    unfold pushCells
    by_cases hk : (k == NameKind.cell) = true
    · rw [if_pos hk] at m ⊢
      have ih := cells_own r (h.push { cls := .type "cell", data := .cell none }) ((n, h.objs.size) :: acc) x c
      rw [Heap.size_push] at ih
      rcases ih m with m | ⟨q1, q2, q3⟩
      · rcases List.mem_cons.mp m with e | m
        · cases e
          have hk : k = .cell := by simpa using hk
          subst hk
          refine .inr ⟨Nat.le_refl _, ?_, List.mem_cons_self⟩
          have q : (h.push { cls := .type "cell", data := .cell none }).IsCell h.objs.size none := ⟨_, Heap.get?_push_size _ rfl, rfl⟩
          exact q.keeps fun b o e => pushCells_keeps r _ b o e
        · exact .inl m
      · exact .inr ⟨by omega, q2, List.mem_cons_of_mem _ q3⟩
    · rw [if_neg hk] at m ⊢
      rcases cells_own r h acc x c m with m | ⟨q1, q2, q3⟩
      · exact .inl m
      · exact .inr ⟨q1, q2, List.mem_cons_of_mem _ q3⟩
theorem cells_inj : ∀ (names : List (Str × NameKind)) (n lo : Nat) (acc : List (Str × Addr)), (∀ x c, (x, c) ∈ acc → c < n) → (∀ x y c, lo ≤ c → (x, c) ∈ acc → (y, c) ∈ acc → x = y) →
    ∀ x y c, lo ≤ c → (x, c) ∈ cellsFrom n names acc → (y, c) ∈ cellsFrom n names acc → x = y
  | [], n, lo, acc, h1, h2, x, y, c, hl, m1, m2 => h2 x y c hl m1 m2
  | (z, k) :: r, n, lo, acc, h1, h2, x, y, c, hl, m1, m2 => by
    unfold cellsFrom at m1 m2
    by_cases hk : (k == NameKind.cell) = true
    · rw [if_pos hk] at m1 m2
      refine cells_inj r (n + 1) lo _ (fun x c m => ?_) (fun x y c hl m1 m2 => ?_) x y c hl m1 m2
      · rcases List.mem_cons.mp m with e | m
        · cases e; exact Nat.lt_succ_self _
        · exact Nat.lt_succ_of_lt (h1 x c m)
      · rcases List.mem_cons.mp m1 with e1 | m1 <;> rcases List.mem_cons.mp m2 with e2 | m2
        · cases e1; cases e2; rfl
        · cases e1; exact absurd (h1 _ _ m2) (Nat.lt_irrefl _)
        · cases e2; exact absurd (h1 _ _ m1) (Nat.lt_irrefl _)
        · exact h2 x y c hl m1 m2
    · rw [if_neg hk] at m1 m2
      exact cells_inj r n lo acc h1 h2 x y c hl m1 m2
theorem cells_skip : ∀ (names : List (Str × NameKind)) (n : Nat) (acc : List (Str × Addr)) (x : Str), (x, NameKind.cell) ∉ names → (cellsFrom n names acc).lookup x = acc.lookup x
  | [], n, acc, x, _ => rfl
  | (z, k) :: r, n, acc, x, h => by
    have hr : (x, NameKind.cell) ∉ r := fun m => h (List.mem_cons_of_mem _ m)
    unfold cellsFrom
    by_cases hk : (k == NameKind.cell) = true
    · rw [if_pos hk, cells_skip r _ _ x hr, List.lookup_cons]
      have hk : k = .cell := by simpa using hk
      subst hk
      have : (x == z) = false := by
        cases q : x == z with
        | false => rfl
        | true =>
          have e : x = z := by simpa using q
          subst e
          exact absurd List.mem_cons_self h
      rw [this]
    · rw [if_neg hk]
      exact cells_skip r n acc x hr
theorem cells_has : ∀ (names : List (Str × NameKind)) (n : Nat) (acc : List (Str × Addr)) (x : Str), ((x, NameKind.cell) ∈ names ∨ (acc.lookup x).isSome = true) → ((cellsFrom n names acc).lookup x).isSome = true
  | [], n, acc, x, h => by
    rcases h with h | h
    · simp at h
    · exact h
  | (z, k) :: r, n, acc, x, h => by
    unfold cellsFrom
    by_cases hk : (k == NameKind.cell) = true
    · rw [if_pos hk]
      refine cells_has r _ _ x ?_
      rcases h with h | h
      · rcases List.mem_cons.mp h with e | h
        · cases e
          right
          rw [List.lookup_cons]
          simp
        · exact .inl h
      · right
        rw [List.lookup_cons]
        cases q : x == z with
        | true => rfl
        | false => exact h
    · rw [if_neg hk]
      refine cells_has r _ _ x ?_
      rcases h with h | h
      · rcases List.mem_cons.mp h with e | h
        · cases e; exact absurd rfl hk
        · exact .inl h
      · exact .inr h
section
variable {M : Model} {A : Around} {E : Value → Shared → Prop} {s : Shared}
theorem wpAny_newEnv_comp {scope : Scope} {globals : Addr} {closure : List (Str × Addr)} {qual : Str} {func : Option Addr} {code : Value} {outer : Env} {Q : Env → Shared → Prop}
    (hQ : Q (newEnv scope s.heap.objs.size globals (cellsFrom (s.heap.objs.size + 1) scope.names closure) qual func code (some outer) builtinsNs)
      { s with heap := pushCells (s.heap.push { cls := .type "dict", data := .dict #[] }) scope.names }) :
    wpAny M A (newFunctionEnv scope globals closure [] qual func code (some outer)) Q E s := by
  simp only [newFunctionEnv, Option.isSome_some, if_true]
  refine wpAny_bind (wpAny_alloc ?_)
  refine wpAny_bind (wpAny_layCells _ (fun name kind cells => by cases hkc : kind == NameKind.cell <;> simp [hkc]) _ _ _ _ ?_)
  rw [show ({ s with heap := s.heap.push { cls := .type "dict", data := .dict #[] } } : Shared).heap.objs.size = s.heap.objs.size + 1 from Heap.size_push ..]
  refine wpAny_bind ?_
  rw [List.forIn_nil]
  exact wpAny_pure (wpAny_pure hQ)
end
/-- the cells that a block sees: those from around, and its own, which are new -/
structure BlkC (X : Cx) (scope : Scope) (cl : List (Str × Addr)) (lo : Nat) (C : Addr) (h1 : Heap) : Prop where
  old : ∀ x c, cl.lookup x = some c → X.env.cells.lookup x = some c ∨ (lo ≤ c ∧ C < c ∧ h1.IsCell c none)
  inj : ∀ x y c, C < c → cl.lookup x = some c → cl.lookup y = some c → x = y
  has : ∀ n, (n, NameKind.free) ∈ scope.names ∨ (n, NameKind.cell) ∈ scope.names → ∃ c, cl.lookup n = some c
  fre : ∀ n, scope.names.lookup n = some .free → ∀ c, cl.lookup n = some c → X.env.cells.lookup n = some c
  own : ∀ x c, scope.names.lookup x = some .cell → cl.lookup x = some c → lo ≤ c
section
variable {X : Cx} {pins : List (Addr × Obj)} {σ : St} {H : Hp} {s : Shared} {N' : List Str} {scope : Scope} {k : Nat} {fr : List Nat} {cl : List (Str × Addr)}
theorem compOk {C : Addr} {fp : List Addr} {h1 : Heap} (I : Inv X pins σ H s) (S : CompScope X.N X.env.scope N' scope k fr) (B : BlkC X scope cl s.heap.objs.size C h1)
    (hC : s.heap.objs.size ≤ C) (f2 : ∀ b ∈ fp, FpOk X pins H b) (lt : ∀ b ∈ fp, b < s.heap.objs.size) : (cxC X N' scope cl C s H fp).Ok where
  mod := I.ok.mod
  kind := S.kind
  glob := I.ok.glob
  blt := I.ok.blt
  above := hC
  inj := fun x y c h1 h2 => by
    rcases B.old _ _ h1 with o1 | o1 <;> rcases B.old _ _ h2 with o2 | o2
    · exact I.ok.inj x y c o1 o2
    · exact B.inj x y c o2.2.1 h1 h2
    · exact B.inj x y c o1.2.1 h1 h2
    · exact B.inj x y c o1.2.1 h1 h2
  has := fun x hx => B.has x (relabel_back hx)
  cab := fun x c z e => B.own x c (by
    have z : (scope.names.lookup x == some NameKind.cell) = true := z
    simpa using z) e
  hd := I.ok.hd
  frames := I.ok.frames
  stk := .inl rfl
  exf := fun b hb => ⟨Nat.ne_of_lt (Nat.lt_of_lt_of_le (lt b hb) hC), fun x c e => (B.old _ _ e).elim (fun o => (f2 b hb).2.2.2.2.1 x c o) fun o => Nat.ne_of_gt (Nat.lt_of_lt_of_le (lt b hb) o.1)⟩
  bs := I.bs
  bsz := Nat.le_trans I.ok.bsz I.sz
  noex := fun b o e hb => by
    rcases (f2 b hb).2.2.2.1 with z | z
    · exact I.ok.noex b o e z
    · exact absurd (Nat.lt_of_lt_of_le (Heap.lt_size e) (Nat.le_trans I.ok.bsz z)) (Nat.lt_irrefl _)
  exfs := fun b hb z => by
    rcases List.mem_cons.mp (I.stkSub b z) with q | q
    · exact (f2 b hb).2.1 q
    · exact (f2 b hb).2.2.1 q
  funs := I.stack
  frf := I.stkFree
theorem compInv {C : Addr} {fp : List Addr} {h1 : Heap} {tk : Nat} {m : Str → Option Value} (I : Inv X pins σ H s) (S : CompScope X.N X.env.scope N' scope k fr) (B : BlkC X scope cl s.heap.objs.size C h1)
    (hC : s.heap.objs.size ≤ C) (f2 : ∀ b ∈ fp, FpOk X pins H b) (lt : ∀ b ∈ fp, b < s.heap.objs.size) (old : ∀ b o, s.heap.get? b = some o → h1.get? b = some o) (hn : h1.Ns C m) :
    Inv (cxC X N' scope cl C s H fp) [] (stC k fr σ) H { s with heap := h1, toks := tk } := by
  refine ⟨compOk I S B hC f2 lt, rfl, I.bare, Un.kept old, ⟨m, hn, fun i x v e1 e2 e3 => ?_⟩, fun x c e => ?_, I.hok.fresh hC, fun x c e => (B.old _ _ e).elim (fun o => I.freeC x c o) fun o => I.hok.fresh o.1, fun p hp => absurd (show p ∈ ([] : List (Addr × Obj)) from hp) (by simp), I.hok.kept old, ?_⟩
  · have e1 : N'[i]? = some x := e1
    unfold stC at e2
    by_cases hi : i < k
    · rw [List.getElem?_append_left (by simpa using hi), List.getElem?_replicate, if_pos hi] at e2
      cases e2
    · rw [List.getElem?_append_right (by simpa using hi), List.length_replicate, List.getElem?_map] at e2
      cases q : fr[i - k]? with
      | none => rw [q] at e2; cases e2
      | some j =>
        rw [q] at e2
        have e2 : (σ[j]?).join = some v := Option.some.inj e2
        have ej : σ[j]? = some (some v) := by
          cases z : σ[j]? with
          | none => rw [z] at e2; cases e2
          | some o => rw [z] at e2; exact congrArg some e2
        have hlt : i - k < fr.length := (List.getElem?_eq_some_iff.mp q).1
        have hat := S.at_ (i - k) hlt
        rw [q, show k + (i - k) = i by omega, e1] at hat
        have hat : X.N[j]? = some x := hat
        have hxm : x ∈ N'.drop k := List.mem_iff_getElem?.mpr ⟨i - k, by rw [List.getElem?_drop, show k + (i - k) = i by omega]; exact e1⟩
        have hfr := S.fre x hxm
        have hmem : (x, NameKind.free) ∈ scope.names := PySem.mem_of_lookup hfr
        have hout := S.outer _ hmem rfl
        obtain ⟨m0, hn0, hl0⟩ := I.loc
        obtain ⟨u, r, l⟩ := hl0 j x v hat ej (.inr hout)
        refine ⟨u, r, .inr ⟨lookup_relabel_free hfr, ?_⟩⟩
        rcases l with ⟨kk, _⟩ | ⟨_, c, e, z⟩
        · have kk : X.env.scope.names.lookup x = some .local := kk
          rcases hout with q1 | q1
          · rw [kk] at q1; cases q1
          · rw [kk] at q1; cases q1
        · obtain ⟨c', e'⟩ := B.has x (.inl hmem)
          have ec := B.fre x hfr _ e'
          rw [e] at ec
          cases ec
          obtain ⟨ob, ho, hd⟩ := z
          exact ⟨c, e', ob, old _ _ ho, hd⟩
  · rcases B.old _ _ e with o | o
    · obtain ⟨v, ob, ho, hd⟩ := I.cell x c o
      exact ⟨v, ob, old _ _ ho, hd⟩
    · exact ⟨none, o.2.2⟩
  · unfold stC
    rw [List.length_append, List.length_replicate, List.length_map]
    exact S.len.symm
end

/-! ### one turn, with the step ahead of the store -/
section
variable {prog : Program} {w : World} {A : Around} {E : Value → Shared → Prop} {R : Result → Shared → Prop} {s : Shared}
theorem codeAny_compLoop_any {elt target iter : Expr} {ifs : List Expr} {scope : Scope} {pos : Pos} {it acc : Value} {env : Env} (I : Nat → Shared → Prop)
    (turn : ∀ n s, I n s → wpAny (model prog w) A (pyNext it) (fun r s₁ => match r with
      | none => R (.ok .next) s₁
      | some v => wpAny (model prog w) A (letOwnedTupleGo target it v) (fun _ s₁' => wpAny (model prog w) A (assign target env v) (fun _ s₂ =>
          wpAny (model prog w) A (forIn ifs true fun c r => if r = true then do let ok ← isTrue c env (eval c env); pure (ForInStep.yield ok) else pure (ForInStep.yield r)) (fun ok s₃ =>
            if ok = true then wpAny (model prog w) A (eval elt env) (fun x s₄ =>
              wpAny (model prog w) A (call (.builtin "list.append") [acc, x]) (fun _ s₅ => ∃ m, m < n ∧ I m s₅) (fun _ _ => False) s₄) (notedBy (model prog w) A env fun x s' => R (.error x) s') s₃
            else ∃ m, m < n ∧ I m s₃) (fun _ _ => False) s₂) (fun _ _ => False) s₁') (fun _ _ => False) s₁) (fun _ _ => False) s)
    (n : Nat) (h : I n s) :
    codeAny (model prog w) A (.compLoop (.ListComp elt [⟨target, iter, ifs, 0⟩] scope pos) 0 it acc env) R s := by
  refine codeAny_loop rfl I (fun n s hI => ?_) n h
  show wpAny _ A ((compTurn (.ListComp elt [⟨target, iter, ifs, 0⟩] scope pos) 0 it acc env).onRaise (fun x => do noteFrame x env; theTreesLotGoes x)) _ _ s
  refine wpAny_noted ?_
  rw [compTurn_list]
  refine wpAny_bind (wpAny_standAt (wpAny_bind (wpAny_mono (turn n s hI) (fun r s₁ h₁ => ?_) fun _ _ h' => h'.elim)))
  cases r with
  | none => exact wpAny_pure h₁
  | some v =>
    refine wpAny_bind (wpAny_mono h₁ (fun _ s₁' h₁' => ?_) fun _ _ h' => h'.elim)
    refine wpAny_bind (wpAny_mono h₁' (fun _ s₂ h₂ => wpAny_bind (wpAny_mono h₂ (fun ok s₃ h₃ => ?_) fun _ _ h' => h'.elim)) fun _ _ h' => h'.elim)
    cases ok with
    | false => exact wpAny_pure ⟨rfl, h₃⟩
    | true =>
      exact wpAny_bind (wpAny_bind (wpAny_mono h₃ (fun x s₄ h₄ => wpAny_bind (wpAny_mono h₄ (fun _ s₅ h₅ => wpAny_pure (wpAny_pure ⟨rfl, h₅⟩)) fun _ _ h' => h'.elim)) fun _ _ h' => h'))
end

/-! ### the tests of a clause -/
noncomputable def PTs (X : Cx) (ifs : List Expr) (t : TT) : Prop :=
  ∀ (pins : List (Addr × Obj)) (s : Shared) (σ : St) (H : Hp) (Q : Bool → Hp → Prop), Inv X pins σ H s → t σ H Q →
    wpAny (model X.prog X.w) X.A (forIn ifs true fun c r => if r = true then do let ok ← isTrue c X.env (eval c X.env); pure (ForInStep.yield ok) else pure (ForInStep.yield r)) (TP X pins σ Q) X.xe s
noncomputable def tYes : TT := fun _ H Q => Q true H
theorem pts_nil {X : Cx} : PTs X [] tYes := fun _ _ _ H _ I h => wpAny_tests_nil ⟨H, I, h⟩
/-! ### the block -/
section
variable {X : Cx}
/-- W: the invariant by the turn, a measure, the items so far, the block's names, the heap (the new list is not yet in it) -/
noncomputable def tBlock (J : It) (g : TG) (tc : TT) (te : TE) (σ0 : St) (H1 : Hp) (fin : List V → Hp → Prop) : Prop :=
  ∃ W : Nat → Nat → List V → St → Hp → Prop, (∃ m, W 0 m [] σ0 H1) ∧ ∀ i m ys σ2 H2, W i m ys σ2 H2 →
    (J.stop i H2 ∧ fin ys H2) ∨
    (J.go i H2 ∧ ∀ x H3, J.yld i H2 x H3 → g x σ2 H3 fun σ3 H4 => tc σ3 H4 fun b H5 => if b = true then te σ3 H5 fun y H6 => ys.length < sizeLine ∧ ∃ m', m' < m ∧ W (i + 1) m' (ys ++ [y]) σ3 H6 else ∃ m', m' < m ∧ W (i + 1) m' ys σ3 H5)
noncomputable def lstObj (its : List Value) (n : Nat) : Obj := { cls := .type "list", data := .seq its.toArray n }
theorem block_in {elt target iter : Expr} {ifs : List Expr} {scope : Scope} {pos : Pos} {g : TG} {tc : TT} {te : TE} {k : Nat} {fr : List Nat} {N' : List Str} {cl : List (Str × Addr)} {pins : List (Addr × Obj)} {σ : St} {H2 : Hp} {s2 : Shared}
    {it : Addr} {fp : List Addr} {tn : Nat → Heap → Prop} {J : It} {fin : List V → Hp → Prop} {R0 : Result → Shared → Prop} {XE : List (Str × Addr) → Addr → Shared → Hp → List Addr → Value → Shared → Prop}
    (hc : X.calm = true) (S : CompScope X.N X.env.scope N' scope k fr) (c1 : ∀ x c, cl.lookup x = some c → X.env.cells.lookup x = some c) (c2 : ∀ n, (n, NameKind.free) ∈ scope.names → ∃ c, cl.lookup n = some c) (cin : ∀ x c, (x, c) ∈ cl → ∃ y, X.env.cells.lookup y = some c) (cno : ∀ x, (x, NameKind.cell) ∈ scope.names → ∀ c, (x, c) ∉ cl)
    (hg : ∀ cl C s H ex, PG (cxC X N' scope cl C s H ex) target g) (ht : ∀ cl C s H ex, PTs (cxC X N' scope cl C s H ex) ifs tc) (he : ∀ cl C s H ex, PE ((cxC X N' scope cl C s H ex).wish (XE cl C s H ex)) elt te)
    (I2 : Inv X pins σ H2 s2) (T : Turn X.prog X.w X.K target J fp it tn) (st2 : tn 0 s2.heap) (f2 : ∀ b ∈ fp, FpOk X pins H2 b) (hb : tBlock J g tc te (stC k fr σ) H2 fin)
    (hR : ∀ (C : Addr), C = (s2.heap.push { cls := .type "list", dict := none, data := .seq ([] : List Value).toArray }).objs.size → ∀ (s' : Shared) (m : Str → Option Value) (ys : List V) (its : List Value) (n : Nat) (H' : Hp), s2.heap.objs.size < C → s'.heap.Ns C m → Vals ys its → ys.length ≤ sizeLine → s'.heap.get? s2.heap.objs.size = some (lstObj its n) → H' s2.heap.objs.size = none → H' C = none → fin ys H' →
      s'.os = s2.os → AllBare s'.gens → Un (frs X.stack) fp H2 H' s2.heap s'.heap → HOk X.prog X.w H' s'.heap → R0 (.ok .next) s')
    (hE : ∀ cl C x s', C = (s2.heap.push { cls := .type "list", dict := none, data := .seq ([] : List Value).toArray }).objs.size → s2.heap.objs.size < C → XE cl C s2 H2 fp x s' → notedBy (model X.prog X.w) X.A (compEnvC scope cl C X.env) (fun y s'' => R0 (.error y) s'') x s') :
    codeAny (model X.prog X.w) X.A (.compStart (.ListComp elt [⟨target, iter, ifs, 0⟩] scope pos) 0 (.ref it) (.ref s2.heap.objs.size) (compEnvC scope (cellsFrom ((s2.heap.push { cls := .type "list", dict := none, data := .seq ([] : List Value).toArray }).objs.size + 1) scope.names cl) (s2.heap.push { cls := .type "list", dict := none, data := .seq ([] : List Value).toArray }).objs.size X.env)) R0 { s2 with heap := pushCells ((s2.heap.push { cls := .type "list", dict := none, data := .seq ([] : List Value).toArray }).push { cls := .type "dict", data := .dict #[] }) scope.names } := by
  obtain ⟨W, ⟨m0, w0⟩, turn⟩ := hb
  have lt : ∀ b ∈ fp, b < s2.heap.objs.size := fun b hb => by
    obtain ⟨o, e, _⟩ := T.obj _ _ st2 b hb
    exact Heap.lt_size e
  generalize hH2 : s2.heap.push { cls := .type "list", dict := none, data := .seq ([] : List Value).toArray } = G2 at hR hE ⊢
  have hCs : G2.objs.size = s2.heap.objs.size + 1 := by rw [← hH2, Heap.size_push]
  have hDC : s2.heap.objs.size ≠ G2.objs.size := by rw [hCs]; exact Nat.ne_of_lt (Nat.lt_succ_self _)
  have hC : s2.heap.objs.size ≤ G2.objs.size := by rw [hCs]; exact Nat.le_succ _
  have old : ∀ b o, s2.heap.get? b = some o → (pushCells (G2.push { cls := .type "dict", data := .dict #[] }) scope.names).get? b = some o := fun b o e => by
    refine pushCells_keeps _ _ b o (Heap.get?_push_of_some _ ?_)
    rw [← hH2]
    exact Heap.get?_push_of_some _ e
  have hacc : (pushCells (G2.push { cls := .type "dict", data := .dict #[] }) scope.names).get? s2.heap.objs.size = some (lstObj [] 0) := by
    refine pushCells_keeps _ _ _ _ (Heap.get?_push_of_some _ ?_)
    rw [← hH2]
    exact Heap.get?_push_size _ rfl
  have hns₁ : (pushCells (G2.push { cls := .type "dict", data := .dict #[] }) scope.names).Ns G2.objs.size fun _ => none := (Heap.Ns.new G2 (.type "dict")).keeps (pushCells_keeps _ _)
  have cl0 : ∀ x c, (x, c) ∈ cl → c < G2.objs.size + 1 := fun x c m => by
    obtain ⟨y, hy⟩ := cin x c m
    obtain ⟨v, q⟩ := I2.cell y c hy
    rw [hCs]
    exact Nat.lt_succ_of_lt (Nat.lt_succ_of_lt q.lt)
  have B : BlkC X scope (cellsFrom (G2.objs.size + 1) scope.names cl) s2.heap.objs.size G2.objs.size (pushCells (G2.push { cls := .type "dict", data := .dict #[] }) scope.names) := by
    have own := cells_own scope.names (G2.push { cls := .type "dict", data := .dict #[] }) cl
    rw [Heap.size_push] at own
    refine ⟨fun x c e => ?_, fun x y c hc h1 h2 => ?_, fun n hn => ?_, fun n hn c e => ?_, fun x c hx e => ?_⟩
    · by_cases hx : (x, NameKind.cell) ∈ scope.names
      · rcases own x c (PySem.mem_of_lookup e) with m | ⟨q1, q2, _⟩
        · -- an outer name's cell cannot stand under a name of the block's own
          exfalso
          exact cno x hx c m
        · exact .inr ⟨Nat.le_trans hC (Nat.le_of_succ_le q1), q1, q2⟩
      · rw [cells_skip _ _ _ _ hx] at e
        exact .inl (c1 x c e)
    · exact cells_inj scope.names (G2.objs.size + 1) (G2.objs.size + 1) cl cl0 (fun x y c hl m1 _ => absurd (cl0 x c m1) (Nat.not_lt.mpr hl)) x y c hc (PySem.mem_of_lookup h1) (PySem.mem_of_lookup h2)
    · refine Option.isSome_iff_exists.mp (cells_has _ _ _ n ?_)
      rcases hn with hn | hn
      · obtain ⟨c, e⟩ := c2 n hn
        exact .inr (by rw [e]; rfl)
      · exact .inl hn
    · have hx : (n, NameKind.cell) ∉ scope.names := fun m => by
        have := (S.cels _ m rfl).1
        rw [hn] at this
        cases this
      rw [cells_skip _ _ _ _ hx] at e
      exact c1 n c e
    · have hx := PySem.mem_of_lookup hx
      rcases own x c (PySem.mem_of_lookup e) with m | ⟨q1, q2, _⟩
      · exact absurd m (cno x hx c)
      · exact Nat.le_trans hC (Nat.le_of_succ_le q1)
  generalize pushCells (G2.push { cls := .type "dict", data := .dict #[] }) scope.names = h₁ at *
  generalize cellsFrom (G2.objs.size + 1) scope.names cl = cl2 at *
  generalize hDd : s2.heap.objs.size = D at *
  generalize hCc : G2.objs.size = C at *
  have fD : H2 D = none := by rw [← hDd]; exact I2.hok.fresh (Nat.le_refl _)
  have cells : ∀ x c, cl2.lookup x = some c → c ≠ D := fun x c e => by
    rcases B.old _ _ e with o | o
    · obtain ⟨v, q⟩ := I2.cell x c o
      rw [← hDd]
      exact Nat.ne_of_lt q.lt
    · exact Nat.ne_of_gt (Nat.lt_trans (by rw [hCs]; exact Nat.lt_succ_self _) o.2.1)
  -- the loop's invariant
  have loop : ∀ (itv : Addr) (s3 : Shared), itv = it → (∃ tk, s3 = { s2 with heap := h₁, toks := tk }) →
      codeAny (model X.prog X.w) X.A (.compLoop (.ListComp elt [⟨target, iter, ifs, 0⟩] scope pos) 0 (.ref itv) (.ref D) (compEnvC scope cl2 C X.env)) R0 s3 := by
    rintro itv s3 rfl ⟨tk, rfl⟩
    have I3 : Inv (cxC X N' scope cl2 C s2 H2 fp) [] (stC k fr σ) H2 { s2 with heap := h₁, toks := tk } := compInv I2 S (by rw [hDd]; exact B) (by rw [hDd]; exact hC) f2 (by rw [hDd]; exact lt) old hns₁
    have stat : ∀ {H' : Hp} {o : Obj}, (∀ b ∈ fp, H' b = none) → ∀ b ∈ fp, FpOk (cxC X N' scope cl2 C s2 H2 fp) [(D, o)] H' b := fun {H' o} hn b hb =>
      ⟨hn b hb, Nat.ne_of_lt (Nat.lt_of_lt_of_le (lt b hb) hC), fun z => by
        rcases List.mem_cons.mp (I2.stkSub b z) with q | q
        · exact (f2 b hb).2.1 q
        · exact (f2 b hb).2.2.1 q, .inl hb, fun x c e => (B.old _ _ e).elim (fun o => (f2 b hb).2.2.2.2.1 x c o) (fun o => Nat.ne_of_gt (Nat.lt_of_lt_of_le (lt b hb) o.1)), fun p hp => by
        have e : p = (D, o) := by simpa [cxC] using hp
        rw [e]
        exact Nat.ne_of_gt (lt b hb)⟩
    have addD : ∀ {σ' : St} {H' : Hp} {s' : Shared} {o : Obj}, Inv (cxC X N' scope cl2 C s2 H2 fp) [] σ' H' s' → s'.heap.get? D = some o → H' D = none → (∀ v, o.data ≠ .cell v) → Inv (cxC X N' scope cl2 C s2 H2 fp) [(D, o)] σ' H' s' := fun {σ' H' s' o} I' e n hd =>
      I'.pins_of fun p hp => by
        have q : p = (D, o) := by simpa using hp
        subst q
        refine ⟨e, n, hDC, fun z => ?_, hd⟩
        obtain ⟨_, ob, ho, _⟩ := I2.stack.mem z
        exact absurd (Heap.lt_size ho) (by rw [hDd]; exact Nat.lt_irrefl _)
    have ndL : ∀ {its : List Value} {n : Nat} (v : Option Value), (lstObj its n).data ≠ .cell v := fun v z => by
      have z : Data.seq _ _ = Data.cell v := z
      cases z
    refine codeAny_compLoop_any (fun n s' => ∃ i ys σ' H' its cap, Inv (cxC X N' scope cl2 C s2 H2 fp) [] σ' H' s' ∧ tn i s'.heap ∧ (∀ b ∈ fp, H' b = none) ∧ s'.heap.get? D = some (lstObj its cap) ∧ H' D = none ∧ Vals ys its ∧ ys.length ≤ sizeLine ∧ W i n ys σ' H') ?_ m0
      ⟨0, [], _, H2, [], 0, I3, T.keep _ _ _ st2 (fun b _ o e => old b o e), fun b hb => (f2 b hb).1, hacc, fD, .nil, Nat.zero_le _, w0⟩
    rintro n s4 ⟨i, ys, σ4, H4, its, cap, I4, st4, fr4, hD4, nD4, vl4, sz4, w4⟩
    have I4' := addD I4 hD4 nD4 ndL
    rcases turn i n ys σ4 H4 w4 with ⟨stop, qf⟩ | ⟨go, step⟩
    · refine thn (T.done (cxC X N' scope cl2 C s2 H2 fp) rfl rfl rfl hc i _ s4 σ4 H4 _ I4' (stat fr4) st4 stop) fun r s5 ⟨hr, I5⟩ => ?_
      subst hr
      obtain ⟨m5, hn5, _⟩ := I5.loc
      exact hR C rfl s5 m5 ys its cap H4 (by rw [hCs]; exact Nat.lt_succ_self _) hn5 vl4 sz4 (I5.pin (D, lstObj its cap) (List.mem_append_right _ List.mem_cons_self)).1 nD4 I5.free qf I5.os I5.bare I5.base I5.hok
    · refine thn (T.item (cxC X N' scope cl2 C s2 H2 fp) rfl rfl rfl hc i _ s4 σ4 H4 _ I4' (stat fr4) st4 go) fun r s5 ⟨u, hr, h5⟩ => ?_
      subst hr
      refine thn h5 fun _ s6 ⟨x, H6, I6, r6, y6, st6, fr6⟩ => ?_
      have I6' := I6.pinned (stat fr6) (T.obj _ _ st6)
      refine thn (hg cl2 C s2 H2 fp _ s6 σ4 H6 x u _ I6' r6 (step x H6 y6)) fun _ s7 ⟨σ7, H7, I7, q7⟩ => ?_
      refine thn (ht cl2 C s2 H2 fp _ s7 σ7 H7 _ I7 q7) fun ok s8 ⟨H8, I8, q8⟩ => ?_
      -- what a pinned state tells of the iterator and of the list
      have back : ∀ {σ' : St} {H' : Hp} {s' : Shared}, Inv (cxC X N' scope cl2 C s2 H2 fp) ([(D, lstObj its cap)] ++ pinsAt fp s6.heap) σ' H' s' → tn (i + 1) s'.heap ∧ (∀ b ∈ fp, H' b = none) ∧ s'.heap.get? D = some (lstObj its cap) ∧ H' D = none := fun {σ' H' s'} I' => by
        have pD := I'.pin (D, lstObj its cap) (List.mem_append_right _ (List.mem_append_left _ (by simp)))
        refine ⟨T.keep _ _ _ st6 fun b hb o e => (I'.pin (b, o) (List.mem_append_right _ (List.mem_append_right _ (mem_pinsAt hb e)))).1, fun b hb => ?_, pD.1, pD.2.1⟩
        obtain ⟨o, e, d⟩ := T.obj _ _ st6 b hb
        exact (I'.pin (b, o) (List.mem_append_right _ (List.mem_append_right _ (mem_pinsAt hb e)))).2.1
      cases ok with
      | false =>
        rw [if_neg Bool.false_ne_true]
        rw [if_neg Bool.false_ne_true] at q8
        obtain ⟨m', hm, w8⟩ := q8
        obtain ⟨b1, b2, b3, b4⟩ := back I8
        exact ⟨m', hm, i + 1, ys, σ7, H8, its, cap, I8.pins_of (fun p hp => absurd hp (by simp)), b1, b2, b3, b4, vl4, sz4, w8⟩
      | true =>
        rw [if_pos rfl]
        rw [if_pos rfl] at q8
        refine wpAny_mono (he cl2 C s2 H2 fp _ s8 σ7 H8 _ (I8.wish _) q8) (fun y s9 ⟨z, H9, I9, r9, hlt, m', hm, w9⟩ => ?_) fun x s' hx => hE cl2 C x s' rfl (by rw [hCs]; exact Nat.lt_succ_self _) hx
        have I9 := I9.unwish
        obtain ⟨b1, b2, b3, b4⟩ := back I9
        have hl := vl4.length
        refine call_meets F.slot_list_append ⟨_, b3, rfl⟩ F.entry_list_append (F.args_list_append_2 _ _) (PySem.list_append D its.toArray cap y (by rw [List.size_toArray]; omega)) ⟨b3, ?_⟩
        obtain ⟨c', q⟩ : ∃ c', (s9.heap.update D (Obj.mapSeq fun x => x.push y)).get? D = some (lstObj (its ++ [y]) c') := by
          have q := PySem.IsL.update b3 (fun x => x.push y)
          rw [show its.toArray.push y = (its ++ [y]).toArray by simp] at q
          exact ⟨_, q⟩
        have I9' : Inv (cxC X N' scope cl2 C s2 H2 fp) [] σ7 H9 s9 := I9.pins_of (fun p hp => absurd hp (by simp))
        have kp : ∀ b o, b ≠ D → s9.heap.get? b = some o → (s9.heap.update D (Obj.mapSeq fun x => x.push y)).get? b = some o := fun b o hb e => (Heap.get?_update_other s9.heap (Obj.mapSeq fun x => x.push y) (Ne.symm hb)).trans e
        have I10 := I9'.turned (t' := s9.toks) (it := D) (h' := s9.heap.update D (Obj.mapSeq fun x => x.push y)) kp b4 hDC (.inr (by show s2.heap.objs.size ≤ D; rw [hDd]; exact Nat.le_refl _)) (fun x c e => cells x c e) (fun p hp => absurd hp (by simp [cxC]))
        refine ⟨m', hm, i + 1, ys ++ [z], σ7, H9, its ++ [y], c', I10, T.keep _ _ _ b1 (fun b hb o e => kp b o (Nat.ne_of_lt (lt b hb)) e), b2, q, b4, vl4.append (.cons r9 .nil), ?_, w9⟩
        · rw [List.length_append, List.length_singleton]
          omega
  exact codeAny_compStart_list (loop it _ rfl ⟨_, rfl⟩) (T.self _ 0 _ _ _ (T.keep _ _ _ st2 (fun b _ o e => old b o e)) (loop it _ rfl ⟨_, rfl⟩))

theorem block_run {elt target iter : Expr} {ifs : List Expr} {scope : Scope} {pos : Pos} {g : TG} {tc : TT} {te : TE} {k : Nat} {fr : List Nat} {N' : List Str} {cl : List (Str × Addr)} {pins : List (Addr × Obj)} {σ : St} {H2 : Hp} {s2 : Shared}
    {it : Addr} {fp : List Addr} {tn : Nat → Heap → Prop} {J : It} {E : Value → Shared → Prop} {fin : List V → Hp → Prop} {RR : Value → Addr → Result → Shared → Prop} {XE : List (Str × Addr) → Addr → Shared → Hp → List Addr → Value → Shared → Prop}
    (hc : X.calm = true) (S : CompScope X.N X.env.scope N' scope k fr) (c1 : ∀ x c, cl.lookup x = some c → X.env.cells.lookup x = some c) (c2 : ∀ n, (n, NameKind.free) ∈ scope.names → ∃ c, cl.lookup n = some c) (cin : ∀ x c, (x, c) ∈ cl → ∃ y, X.env.cells.lookup y = some c) (cno : ∀ x, (x, NameKind.cell) ∈ scope.names → ∀ c, (x, c) ∉ cl)
    (hg : ∀ cl C s H ex, PG (cxC X N' scope cl C s H ex) target g) (ht : ∀ cl C s H ex, PTs (cxC X N' scope cl C s H ex) ifs tc) (he : ∀ cl C s H ex, PE ((cxC X N' scope cl C s H ex).wish (XE cl C s H ex)) elt te)
    (I2 : Inv X pins σ H2 s2) (T : Turn X.prog X.w X.K target J fp it tn) (st2 : tn 0 s2.heap) (f2 : ∀ b ∈ fp, FpOk X pins H2 b) (hb : tBlock J g tc te (stC k fr σ) H2 fin)
    (hR : ∀ (C : Addr) (s' : Shared) (m : Str → Option Value) (ys : List V) (its : List Value) (n : Nat) (H' : Hp), s2.heap.objs.size < C → s'.heap.Ns C m → Vals ys its → ys.length ≤ sizeLine → s'.heap.get? s2.heap.objs.size = some (lstObj its n) → H' s2.heap.objs.size = none → H' C = none → fin ys H' →
      s'.os = s2.os → AllBare s'.gens → Un (frs X.stack) fp H2 H' s2.heap s'.heap → HOk X.prog X.w H' s'.heap → RR (.ref s2.heap.objs.size) C (.ok .next) s')
    (hE : ∀ cl C x s', s2.heap.objs.size < C → XE cl C s2 H2 fp x s' → notedBy (model X.prog X.w) X.A (compEnvC scope cl C X.env) (fun y s'' => RR (.ref s2.heap.objs.size) C (.error y) s'') x s') :
    wpAny (model X.prog X.w) X.A (newList []) (fun acc s₃ => wpAny (model X.prog X.w) X.A (newFunctionEnv scope X.env.globals cl [] X.env.qual none .none (some X.env)) (fun cenv s₄ =>
      codeAny (model X.prog X.w) X.A (.compStart (.ListComp elt [⟨target, iter, ifs, 0⟩] scope pos) 0 (.ref it) acc { cenv with scope := relabel scope X.env }) (RR acc cenv.locals) s₄) E s₃) E s2 := by
  refine wpAny_newObj_type (wpAny_newEnv_comp ?_)
  exact block_in (R0 := RR _ _) hc S c1 c2 cin cno hg ht he I2 T st2 f2 hb (fun C e => by subst e; exact hR _) (fun cl C x s' e => by subst e; exact hE cl _ x s')

/-- behind the block: the list is tracked -/
theorem comp_back {fp : List Addr} {pins : List (Addr × Obj)} {σ : St} {H2 H' : Hp} {s2 s' : Shared} {C : Addr} {ys : List V} {its : List Value} {n : Nat} {h' : Heap} (I2 : Inv X pins σ H2 s2) (f2 : ∀ b ∈ fp, FpOk X pins H2 b) (hC : s2.heap.objs.size < C)
    (vl : Vals ys its) (sz : ys.length ≤ sizeLine) (hD : s'.heap.get? s2.heap.objs.size = some (lstObj its n)) (nD : H' s2.heap.objs.size = none) (nC : H' C = none)
    (os : s'.os = s2.os) (bare : AllBare s'.gens) (un : Un (frs X.stack) fp H2 H' s2.heap s'.heap) (hok : HOk X.prog X.w H' s'.heap) (hs : Heap.SameBut C s'.heap h') :
    Inv X pins σ (upd H' s2.heap.objs.size (.lst ys)) { s' with heap := h' } := by
  have ltC : ∀ b o, s2.heap.get? b = some o → b ≠ C := fun b o e => Nat.ne_of_lt (Nat.lt_trans (Heap.lt_size e) hC)
  have ltD : ∀ b o, s2.heap.get? b = some o → b ≠ s2.heap.objs.size := fun b o e => Nat.ne_of_lt (Heap.lt_size e)
  have tk : ∀ b u, H' b = some u → b ≠ s2.heap.objs.size := fun b u e z => by rw [z, nD] at e; cases e
  have tC : ∀ b u, H' b = some u → b ≠ C := fun b u e z => by rw [z, nC] at e; cases e
  have fD : H2 s2.heap.objs.size = none := I2.hok.fresh (Nat.le_refl _)
  have t2 : ∀ b u, H2 b = some u → b ≠ s2.heap.objs.size := fun b u e z => by rw [z, fD] at e; cases e
  refine I2.call' (s' := { s' with heap := h' }) (ch := fp) os ⟨fun b o e m hb hx => ?_, fun b o e m hb hx => ?_, fun b o e m hx => ?_, fun b o e hx => ?_, fun b xs e => ?_, fun b o u e => ?_, fun b ps e => ?_⟩ (fun b u e => ?_) bare fun b hb => ?_
  · exact (hs.2 b (ltC b o e)).trans (un.keep b o e m hb hx)
  · obtain ⟨sl, q⟩ := un.slot b o e m hb hx
    exact ⟨sl, (hs.2 b (ltC b o e)).trans q⟩
  · rw [upd_ne (ltD b o e)]
    exact un.free b o e m hx
  · obtain ⟨o', q⟩ := un.there b o e hx
    exact ⟨o', (hs.2 b (ltC b o e)).trans q⟩
  · rw [upd_ne (t2 b _ e)]
    exact un.tups b xs e
  · rw [upd_ne (t2 b _ e)]
    exact un.frzs b o u e
  · obtain ⟨mo, q⟩ := un.tbls b ps e
    exact ⟨mo, by rw [upd_ne (t2 b _ e)]; exact q⟩
  · by_cases hb : b = s2.heap.objs.size
    · subst hb
      rw [upd_same] at e
      cases e
      exact ⟨sz, its, n, vl, (hs.2 _ (Nat.ne_of_lt hC)).trans hD⟩
    · rw [upd_ne hb] at e
      exact (hok b u e).stay (fun c v hc q => (hs.2 c (by
        rcases hc with rfl | hc
        · exact tC _ _ e
        · exact tC _ _ hc)).trans q) (fun c r => by rw [upd_ne (tk _ _ r)]; exact r) fun c xs r => by rw [upd_ne (tk _ _ r)]; exact r
  · exact ⟨(f2 b hb).2.2.2.1, (f2 b hb).2.1, (f2 b hb).2.2.2.2.1, (f2 b hb).2.2.2.2.2⟩

noncomputable def tComp (wi : TI) (g : TG) (tc : TT) (te : TE) (k : Nat) (fr : List Nat) : TE := fun σ H Q => wi σ H fun J H1 => tBlock J g tc te (stC k fr σ) H1 fun ys H2 => ∀ D, H1 D = none → H2 D = none → Q (.ref D) (upd H2 D (.lst ys))
theorem pe_comp {elt target iter : Expr} {ifs : List Expr} {scope so : Scope} {pos : Pos} {wi : TI} {g : TG} {tc : TT} {te : TE} {k : Nat} {fr : List Nat} {N N' : List Str} (hc : X.calm = true) (hN : X.N = N) (hso : X.env.scope = so) (S : CompScope N so N' scope k fr)
    (hi : PI X target iter wi) (hg : ∀ cl C s H ex, PG (cxC X N' scope cl C s H ex) target g) (ht : ∀ cl C s H ex, PTs (cxC X N' scope cl C s H ex) ifs tc) (he : ∀ cl C s H ex, PE (cxC X N' scope cl C s H ex) elt te)
    (hs : ∀ x, foldedSetIterable iter X.env x = pure x := by intro _; rfl) : PE X (.ListComp elt [⟨target, iter, ifs, 0⟩] scope pos) (tComp wi g tc te k fr) := by
  subst hN hso
  intro pins s σ H Q I h
  rw [eval_ListComp]
  obtain ⟨cl, hcl, c1, c2, c3⟩ := closureFor_of (env := X.env) (scope := scope) fun n hn => I.ok.has n (S.outer _ hn rfl)
  refine wpAny_comprehension_free (use := none) (cl := cl) rfl hs hcl S.kind S.locs ?_
  refine thn (hi pins s σ H _ I h) fun v s1 h1 => thn h1 fun itv s2 h2 => ?_
  obtain ⟨it, fp, tn, J, H2, rfl, I2, T, st2, f2, hb⟩ := h2
  refine block_run (RR := fun acc C => compPost (model X.prog X.w) X.A X.xe none (EP X pins σ Q) acc C) hc S c1 c2 (fun x c m => ⟨x, (c3 x c m).1⟩) (fun x hx c m => (S.cels _ hx rfl).2 (c3 x c m).2) (XE := fun _ _ _ _ _ _ _ => False) hg ht he I2 T st2 f2 hb ?_ (fun _ _ _ _ _ z => False.elim z)
  intro C s' m ys its n H' hC hn vl sz hD nD nC fin os bare un hok
  exact ⟨m, hn, fun h' hs' => ⟨.ref _, _, comp_back I2 f2 hC vl sz hD nD nC os bare un hok hs', rfl, fin _ (I2.hok.fresh (Nat.le_refl _)) nD⟩⟩
theorem relab_cell {env : Env} : ∀ {names : List (Str × NameKind)} {x : Str}, names.lookup x = some .cell →
    (names.map fun (n, k) => if (k == NameKind.free && env.scope.kind == .function && env.kindOf n == some .cell) then (n, NameKind.cell) else (n, k)).lookup x = some .cell
  | [], _, h => by simp at h
  | (n, k) :: r, x, h => by
    have ih := @relab_cell env r x
    show List.lookup x ((if (k == NameKind.free && env.scope.kind == .function && env.kindOf n == some .cell) = true then (n, NameKind.cell) else (n, k)) :: _) = _
    cases hx : x == n with
    | true =>
      simp only [List.lookup_cons, hx] at h
      cases h
      rw [if_neg (by simp)]
      simp [List.lookup_cons, hx]
    | false =>
      simp only [List.lookup_cons, hx] at h
      by_cases hc : (k == NameKind.free && env.scope.kind == .function && env.kindOf n == some .cell) = true
      · rw [if_pos hc]; simp only [List.lookup_cons, hx]; exact ih h
      · rw [if_neg hc]; simp only [List.lookup_cons, hx]; exact ih h
theorem CompScope.relab {N N' : List Str} {so scope : Scope} {k : Nat} {fr : List Nat} {env : Env} (S : CompScope N so N' scope k fr) : CompScope N (relabel so env) N' scope k fr :=
  ⟨S.kind, S.cels, S.locs, fun y hy e => (S.outer y hy e).elim (fun h => .inl (relab_cell h)) (fun h => lookup_relabel_free h), S.len, S.at_, S.fre⟩
/-- a comprehension within another one's block -/
theorem pe_compN {elt target iter : Expr} {ifs : List Expr} {scope so : Scope} {env0 : Env} {pos : Pos} {wi : TI} {g : TG} {tc : TT} {te : TE} {k : Nat} {fr : List Nat} {N N' : List Str} (hc : X.calm = true) (hN : X.N = N) (hso : X.env.scope = relabel so env0) (S : CompScope N so N' scope k fr)
    (hi : PI X target iter wi) (hg : ∀ cl C s H ex, PG (cxC X N' scope cl C s H ex) target g) (ht : ∀ cl C s H ex, PTs (cxC X N' scope cl C s H ex) ifs tc) (he : ∀ cl C s H ex, PE (cxC X N' scope cl C s H ex) elt te)
    (hs : ∀ x, foldedSetIterable iter X.env x = pure x := by intro _; rfl) : PE X (.ListComp elt [⟨target, iter, ifs, 0⟩] scope pos) (tComp wi g tc te k fr) := pe_comp hc hN hso S.relab hi hg ht he hs
/-- name = [ .. ]: the store comes ahead of the names' going -/
theorem ps_setC {elt target iter : Expr} {ifs : List Expr} {scope so : Scope} {pos spos py : Pos} {wi : TI} {g : TG} {tc : TT} {te : TE} {k : Nat} {fr : List Nat} {N N' : List Str} {y : Str} {i : Nat} (hc : X.calm = true) (hN : X.N.Nodup) (hy : X.N[i]? = some y) (hl : X.env.scope.names.lookup y = some .local)
    (hNN : X.N = N) (hso : X.env.scope = so) (S : CompScope N so N' scope k fr)
    (hi : PI X target iter wi) (hg : ∀ cl C s H ex, PG (cxC X N' scope cl C s H ex) target g) (ht : ∀ cl C s H ex, PTs (cxC X N' scope cl C s H ex) ifs tc) (he : ∀ cl C s H ex, PE (cxC X N' scope cl C s H ex) elt te)
    (hsw : swapsWith (.ListComp elt [⟨target, iter, ifs, 0⟩] scope pos) (some (.Name y py)) spos.line X.env = pure true := by rfl)
    (hs : ∀ x, foldedSetIterable iter X.env x = pure x := by intro _; rfl) : PS X (.Assign [.Name y py] (.ListComp elt [⟨target, iter, ifs, 0⟩] scope pos) spos) (tAsg (tComp wi g tc te k fr) (gName i)) := by
  subst hNN hso
  intro pins s σ H D I h
  rw [exec_Assign_Name_used _ _ _ _ hsw]
  obtain ⟨cl, hcl, c1, c2, c3⟩ := closureFor_of (env := X.env) (scope := scope) fun n hn => I.ok.has n (S.outer _ hn rfl)
  refine wpAny_bind (wpAny_standAt (wpAny_bind ?_))
  show wpAny _ X.A (do let _ ← comprehension (.ListComp elt [⟨target, iter, ifs, 0⟩] scope pos) scope X.env _ (newList []) false (eval iter X.env) (some (assign (.Name y py) X.env))) _ _ s
  refine wpAny_bind (wpAny_mono (wpAny_comprehension_free (use := some (assign (.Name y py) X.env)) (Q := fun _ s' => SP X pins D .next s') (cl := cl) rfl hs hcl S.kind S.locs ?_) (fun _ s' hq => wpAny_pure (wpAny_pure hq)) fun _ _ e => e)
  refine thn (hi pins s σ H _ I h) fun v s1 h1 => thn h1 fun itv s2 h2 => ?_
  obtain ⟨it, fp, tn, J, H2, rfl, I2, T, st2, f2, hb⟩ := h2
  refine block_run (RR := fun acc C => compPost (model X.prog X.w) X.A X.xe (some (assign (.Name y py) X.env)) (fun _ s' => SP X pins D .next s') acc C) hc S c1 c2 (fun x c m => ⟨x, (c3 x c m).1⟩) (fun x hx c m => (S.cels _ hx rfl).2 (c3 x c m).2) (XE := fun _ _ _ _ _ _ _ => False) hg ht he I2 T st2 f2 hb ?_ (fun _ _ _ _ _ z => False.elim z)
  intro C s' m ys its n H' hC hn vl sz hD nD nC fin os bare un hok
  have I3 : Inv X pins σ (upd H' s2.heap.objs.size (.lst ys)) s' := comp_back (h' := s'.heap) I2 f2 hC vl sz hD nD nC os bare un hok (.refl ..)
  refine wpAny_assign_Name (store_ok2 (v := .ref s2.heap.objs.size) I3 hN hy (.inl hl) rfl (fun s4 I4 ch => ?_) (.inr hl))
  have ltL : X.env.locals < s2.heap.objs.size := I2.lt
  obtain ⟨a, hsa, ha⟩ := ch
  have aC : a ≠ C := by
    rcases ha with rfl | ha
    · exact Nat.ne_of_lt (Nat.lt_trans ltL hC)
    · obtain ⟨v, q⟩ := I2.cell _ _ ha
      exact Nat.ne_of_lt (Nat.lt_trans q.lt hC)
  refine ⟨m, hn.sameBut hsa (Ne.symm aC), fun h' hs' => ⟨_, _, ?_, fin _ (I2.hok.fresh (Nat.le_refl _)) nD⟩⟩
  -- the block's names go
  have nC4 : (upd H' s2.heap.objs.size (.lst ys)) C = none := by rw [upd_ne (Nat.ne_of_gt hC)]; exact nC
  exact I4.turned (t' := s4.toks) (it := C) (h' := h') (fun b o hb e => (hs'.2 b hb).trans e) nC4 (Nat.ne_of_gt (Nat.lt_trans ltL hC)) (.inr (Nat.le_trans I2.sz (Nat.le_of_lt hC))) (fun x c e z => by
    obtain ⟨v, q⟩ := I2.cell x c e
    exact absurd (Nat.lt_trans q.lt hC) (by rw [z]; exact Nat.lt_irrefl _)) (fun p hp z => by
    have := Heap.lt_size (I2.pin p hp).1
    rw [z] at this
    exact absurd (Nat.lt_trans this hC) (Nat.lt_irrefl _))
end

/-! ### the forms one uses -/
/-- J walks n items, as long as Ok holds of the heap -/
structure Src (J : It) (Ok : Hp → Prop) (n : Nat) (Item : Nat → V → Hp → Hp → Prop) : Prop where
  go : ∀ i H, i < n → Ok H → J.go i H
  yld : ∀ i H x H3, i < n → Ok H → J.yld i H x H3 → Item i x H H3
  stop : ∀ H, Ok H → J.stop n H
theorem src_list {K : PySem.W.Frag} {a : Addr} {xs : List V} {Ok : Hp → Prop} (h : ∀ H, Ok H → SqL K H a xs) : Src (Itl K a) Ok xs.length (fun i x H H3 => H3 = H ∧ xs[i]? = some x) where
  go := fun i H hi ok => ⟨xs, xs[i], h H ok, by simp [hi]⟩
  yld := fun i H x H3 hi ok ⟨e, y⟩ => ⟨e, y xs (h H ok)⟩
  stop := fun H ok => ⟨xs, h H ok, Nat.le_refl _⟩
theorem src_range {lo : Int} {n : Nat} {Ok : Hp → Prop} : Src (Itr lo n) Ok n (fun i x H H3 => H3 = H ∧ x = .int (lo + i)) where
  go := fun _ _ hi _ => hi
  yld := fun _ _ _ _ _ _ y => y
  stop := fun _ _ => Nat.le_refl _
theorem block_src {J : It} {g : TG} {tc : TT} {te : TE} {σ0 : St} {H1 : Hp} {fin : List V → Hp → Prop} {n : Nat} {Item : Nat → V → Hp → Hp → Prop} (S : Src J (Same H1) n Item) (Own : St → Prop) (h0 : Own σ0) (P : Nat → List V → Hp → Prop) (p0 : P 0 [] H1) (hz : n ≤ sizeLine)
    (hs : ∀ i x σ H ys H3 (Q : St → V → Hp → Prop) (N : St → Hp → Prop), i < n → Same H1 H → P i ys H → ys.length ≤ i → Own σ → Item i x H H3 →
      (∀ σ3 y H6, Own σ3 → Same H1 H6 → P (i + 1) (ys ++ [y]) H6 → Q σ3 y H6) → (∀ σ3 H5, Own σ3 → Same H1 H5 → P (i + 1) ys H5 → N σ3 H5) →
      g x σ H3 fun σ3 H4 => tc σ3 H4 fun b H5 => if b = true then te σ3 H5 fun y H6 => Q σ3 y H6 else N σ3 H5)
    (hfin : ∀ ys H, Same H1 H → P n ys H → ys.length ≤ n → fin ys H) : tBlock J g tc te σ0 H1 fin := by
  refine ⟨fun i m ys σ H => m = n - i ∧ i ≤ n ∧ ys.length ≤ i ∧ Own σ ∧ Same H1 H ∧ P i ys H, ⟨n, by simp, Nat.zero_le _, Nat.le_refl _, h0, Same.refl _, p0⟩, ?_⟩
  rintro i m ys σ H ⟨rfl, hi, hl, ow, sm, p⟩
  by_cases hlt : i < n
  · refine .inr ⟨S.go i H hlt sm, fun x H3 y => hs i x σ H ys H3 (fun σ3 y H6 => ys.length < sizeLine ∧ ∃ m', m' < n - i ∧ m' = n - (i + 1) ∧ i + 1 ≤ n ∧ (ys ++ [y]).length ≤ i + 1 ∧ Own σ3 ∧ Same H1 H6 ∧ P (i + 1) (ys ++ [y]) H6)
      (fun σ3 H5 => ∃ m', m' < n - i ∧ m' = n - (i + 1) ∧ i + 1 ≤ n ∧ ys.length ≤ i + 1 ∧ Own σ3 ∧ Same H1 H5 ∧ P (i + 1) ys H5) hlt sm p hl ow (S.yld i H x H3 hlt sm y) (fun σ3 y H6 o s6 q => ?_) (fun σ3 H5 o s5 q => ?_)⟩
    · exact ⟨by omega, n - (i + 1), by omega, rfl, hlt, by rw [List.length_append, List.length_singleton]; omega, o, s6, q⟩
    · exact ⟨n - (i + 1), by omega, rfl, hlt, by omega, o, s5, q⟩
  · have e : i = n := by omega
    subst e
    exact .inl ⟨S.stop H sm, hfin ys H sm p hl⟩
/-- a plain map, one name: each item by itself -/
theorem comp_map {J : It} {te : TE} {tl : St} {H1 : Hp} {fin : List V → Hp → Prop} {n : Nat} {Item : Nat → V → Hp → Hp → Prop} (S : Src J (Same H1) n Item) (sub : ∀ i x H H3, Item i x H H3 → Same H H3) (hz : n ≤ sizeLine)
    (R : Nat → V → Hp → Prop) (mono : ∀ i y H H', Same H H' → R i y H → R i y H')
    (hs : ∀ i x w H H3 (Q : VK), i < n → Same H1 H → Item i x H H3 → (∀ y H6, Same H3 H6 → R i y H6 → Q y H6) → te ((w :: tl).set 0 (some x)) H3 Q)
    (hfin : ∀ ys H, Same H1 H → ys.length = n → (∀ i y, ys[i]? = some y → R i y H) → fin ys H) : tBlock J (gName 0) tYes te (none :: tl) H1 fin := by
  refine ⟨fun i m ys σ H => m = n - i ∧ i ≤ n ∧ ys.length = i ∧ (∃ w, σ = w :: tl) ∧ Same H1 H ∧ ∀ j y, ys[j]? = some y → R j y H, ⟨n, by simp, Nat.zero_le _, rfl, ⟨_, rfl⟩, Same.refl _, fun j y e => by simp at e⟩, ?_⟩
  rintro i m ys σ H ⟨rfl, hi, hl, ⟨w, rfl⟩, sm, p⟩
  by_cases hlt : i < n
  · refine .inr ⟨S.go i H hlt sm, fun x H3 y => ?_⟩
    have it := S.yld i H x H3 hlt sm y
    have s3 := sub i x H H3 it
    unfold gName tYes
    refine iteT ?_
    refine hs i x w H H3 _ hlt sm it fun y H6 s6 r => ⟨by omega, n - (i + 1), by omega, rfl, hlt, by rw [List.length_append, List.length_singleton]; omega, ⟨_, rfl⟩, sm.trans (s3.trans s6), fun j z e => ?_⟩
    by_cases hj : j < i
    · rw [List.getElem?_append_left (by omega)] at e
      exact mono j z _ _ (s3.trans s6) (p j z e)
    · rw [List.getElem?_append_right (by omega)] at e
      have e2 : j - ys.length = 0 := by
        by_cases q : j - ys.length = 0
        · exact q
        · rw [List.getElem?_eq_none (by simp; omega)] at e; cases e
      rw [e2] at e
      simp at e
      subst e
      have : j = i := by omega
      subst this
      exact r
  · have e : i = n := by omega
    subst e
    exact .inl ⟨S.stop H sm, hfin ys H sm hl p⟩
/-- a loop's body over what J walks -/
noncomputable def tForB (J : It) (g : TG) (tb : TS) (D : Ends) (σ : St) (H : Hp) : Prop :=
  ∃ W : Nat → Nat → St → Hp → Prop, (∃ m, W 0 m σ H) ∧ ∀ i m σ H, W i m σ H →
    (J.stop i H ∧ D.nx σ H) ∨ (J.go i H ∧ ∃ N : St → Hp → Prop, (∀ σ' H', N σ' H' → ∃ m', m' < m ∧ W (i + 1) m' σ' H') ∧ ∀ x H', J.yld i H x H' → g x σ H' fun σ2 H2 => tb { D with nx := N, ct := N, bk := D.nx } σ2 H2)
theorem tFor_eq {wi : TI} {g : TG} {tb : TS} {D : Ends} {σ : St} {H : Hp} : tFor wi g tb D σ H = wi σ H fun J H1 => tForB J g tb D σ H1 := rfl
theorem for_src {J : It} {g : TG} {tb : TS} {D : Ends} {σ : St} {H : Hp} {n : Nat} {Item : Nat → V → Hp → Hp → Prop} {Ok : Hp → Prop} (S : Src J Ok n Item) (Pv : Nat → St → Hp → Prop) (h0 : Pv 0 σ H) (hok : ∀ i σ H, i ≤ n → Pv i σ H → Ok H)
    (hs : ∀ i x σ H H3, i < n → Pv i σ H → Item i x H H3 → g x σ H3 fun σ2 H2 => tb { D with nx := Pv (i + 1), ct := Pv (i + 1), bk := D.nx } σ2 H2) (hd : ∀ σ H, Pv n σ H → D.nx σ H) : tForB J g tb D σ H := by
  refine ⟨fun i m σ H => m = n - i ∧ i ≤ n ∧ Pv i σ H, ⟨n, by simp, Nat.zero_le _, h0⟩, ?_⟩
  rintro i m σ H ⟨rfl, hi, p⟩
  by_cases hlt : i < n
  · exact .inr ⟨S.go i H hlt (hok i σ H hi p), Pv (i + 1), fun σ' H' p' => ⟨n - (i + 1), by omega, rfl, hlt, p'⟩, fun x H' y => hs i x σ H H' hlt p (S.yld i H x H' hlt (hok i σ H hi p) y)⟩
  · have e : i = n := by omega
    subst e
    exact .inl ⟨S.stop H (hok i σ H hi p), hd σ H p⟩
/-- a plain map over pairs, two names -/
theorem comp_map2 {K : PySem.W.Frag} {J : It} {te : TE} {tl : St} {H1 : Hp} {fin : List V → Hp → Prop} {n : Nat} {Item : Nat → V → Hp → Hp → Prop} (S : Src J (Same H1) n Item) (It2 : Nat → V → V → Hp → Prop)
    (tp : ∀ i x H H3, i < n → Same H1 H → Item i x H H3 → Same H H3 ∧ ∃ p a b, x = .ref p ∧ SqT K H3 p [a, b] ∧ It2 i a b H3) (hz : n ≤ sizeLine)
    (R : Nat → V → Hp → Prop) (mono : ∀ i y H H', Same H H' → R i y H → R i y H')
    (hs : ∀ i a b H3 (Q : VK), i < n → Same H1 H3 → It2 i a b H3 → (∀ y H6, Same H3 H6 → R i y H6 → Q y H6) → te (some a :: some b :: tl) H3 Q)
    (hfin : ∀ ys H, Same H1 H → ys.length = n → (∀ (i : Nat) y, ys[i]? = some y → R i y H) → fin ys H) : tBlock J (gTup K 2 (gCons (gName 0) (gCons (gName 1) gNil))) tYes te (none :: none :: tl) H1 fin := by
  refine ⟨fun i m ys σ H => m = n - i ∧ i ≤ n ∧ ys.length = i ∧ (∃ w w', σ = w :: w' :: tl) ∧ Same H1 H ∧ ∀ (j : Nat) y, ys[j]? = some y → R j y H, ⟨n, by simp, Nat.zero_le _, rfl, ⟨_, _, rfl⟩, Same.refl _, fun j y e => by simp at e⟩, ?_⟩
  rintro i m ys σ H ⟨rfl, hi, hl, ⟨w, w', rfl⟩, sm, p⟩
  by_cases hlt : i < n
  · refine .inr ⟨S.go i H hlt sm, fun x H3 y => ?_⟩
    obtain ⟨s3, q, a, b, rfl, sq, it⟩ := tp i x H H3 hlt sm (S.yld i H x H3 hlt sm y)
    refine ⟨q, _, rfl, sq, rfl, _, _, rfl, _, _, rfl, rfl, ?_⟩
    unfold tYes
    refine iteT ?_
    refine hs i a b H3 _ hlt (sm.trans s3) it fun y H6 s6 r => ⟨by omega, n - (i + 1), by omega, rfl, hlt, by rw [List.length_append, List.length_singleton]; omega, ⟨_, _, rfl⟩, sm.trans (s3.trans s6), fun j z e => ?_⟩
    by_cases hj : j < i
    · rw [List.getElem?_append_left (by omega)] at e
      exact mono j z _ _ (s3.trans s6) (p j z e)
    · rw [List.getElem?_append_right (by omega)] at e
      have e2 : j - ys.length = 0 := by
        by_cases q : j - ys.length = 0
        · exact q
        · rw [List.getElem?_eq_none (by simp; omega)] at e; cases e
      rw [e2] at e
      simp at e
      subst e
      have : j = i := by omega
      subst this
      exact r
  · have e : i = n := by omega
    subst e
    exact .inl ⟨S.stop H sm, hfin ys H sm hl p⟩
end L2
/-! WHAT ELSE IS WALKED: zip, enumerate; an untracked object is tracked; several records turn. -/
namespace L2
open PySem PySem.Spec PyProof.Rows

section
variable {X : Cx} {pins : List (Addr × Obj)} {σ : St} {H : Hp} {s : Shared}
/-- records of ours at ch have turned -/
theorem Inv.moved {h' : Heap} {t' : Nat} {ch : List Addr} (I : Inv X pins σ H s) (f : ∀ b ∈ ch, FpOk X pins H b) (k : ∀ b o, b ∉ ch → s.heap.get? b = some o → h'.get? b = some o) : Inv X pins σ H { s with heap := h', toks := t' } := by
  have nch : ∀ b u, H b = some u → b ∉ ch := fun b u e z => by rw [(f b z).1] at e; cases e
  refine I.step (g' := s.gens) (d' := s.drawn) (ch := ch) (fun b hb => ⟨(f b hb).2.2.2.1, (f b hb).2.1, (f b hb).2.2.2.2.1, (f b hb).2.2.2.2.2⟩) (fun b o _ _ hc e _ => k b o hc e) (fun b o _ _ hc e _ => ⟨o.slots, k b o hc e⟩) (fun _ _ _ _ n => n)
    (fun b o hc e => ⟨o, k b o hc e⟩) (fun _ _ e => e) (fun _ _ _ e => e) (fun b ps e => ⟨#[], by rw [e]; simp⟩) (fun m hm => ?_) (fun b u e => ?_) I.bare
  · obtain ⟨o, es, ep, ho, r⟩ := hm
    exact ⟨o, es, ep, k _ o (fun z => (f _ z).2.1 rfl) ho, r⟩
  · refine (I.hok b u e).stay (fun c v hc q => k c v ?_ q) (fun _ q => q) fun _ _ q => q
    rcases hc with z | z
    · rw [z]; exact nch b u e
    · exact nch c _ z
/-- an object that nobody tracks is tracked from now on -/
theorem Inv.take {ad : Addr} {o : HO} (I : Inv X pins σ H s) (f : FpOk X pins H ad) (new : X.s₀.heap.objs.size ≤ ad) (ok : ObjOk X.prog X.w (upd H ad o) s.heap ad o) : Inv X pins σ (upd H ad o) s := by
  obtain ⟨hn, nL, nf, _, nc, np⟩ := f
  have tk : ∀ b u, H b = some u → b ≠ ad := fun b u e z => by rw [z, hn] at e; cases e
  refine ⟨I.ok, I.os, I.bare, ⟨I.base.keep, I.base.slot, fun b ob e m hx => ?_, I.base.there, fun b xs e => ?_, fun b ob u e => ?_, fun b ps e => ?_⟩, I.loc, I.cell, ?_, fun x c e => ?_, fun p hp => ?_, fun b u e => ?_, I.len⟩
  · rw [upd_ne (Nat.ne_of_lt (Nat.lt_of_lt_of_le (Heap.lt_size e) new))]
    exact I.base.free b ob e m hx
  · have q := I.base.tups b xs e
    rw [upd_ne (tk b _ q)]; exact q
  · have q := I.base.frzs b ob u e
    rw [upd_ne (tk b _ q)]; exact q
  · obtain ⟨mo, q⟩ := I.base.tbls b ps e
    exact ⟨mo, by rw [upd_ne (tk b _ q)]; exact q⟩
  · rw [upd_ne (Ne.symm nL)]; exact I.free
  · rw [upd_ne (nc x c e)]; exact I.freeC x c e
  · obtain ⟨a, b, c⟩ := I.pin p hp
    exact ⟨a, by rw [upd_ne (np p hp)]; exact b, c⟩
  · by_cases hb : b = ad
    · subst hb
      rw [upd_same] at e
      cases e
      exact ok
    · rw [upd_ne hb] at e
      exact (I.hok b u e).stay (fun _ _ _ q => q) (fun c r => by rw [upd_ne (tk _ _ r)]; exact r) fun c xs r => by rw [upd_ne (tk _ _ r)]; exact r
end

/-! ### zip of two lists, in a loop whose target is a tuple -/
noncomputable def Itz (K : PySem.W.Frag) (a b : Addr) : It :=
  ⟨fun i H => ∃ xs ys x y, SqL K H a xs ∧ SqL K H b ys ∧ xs[i]? = some x ∧ ys[i]? = some y,
   fun i H v H' => ∃ p, H p = none ∧ v = .ref p ∧ ∃ x y, (∀ xs, SqL K H a xs → xs[i]? = some x) ∧ (∀ ys, SqL K H b ys → ys[i]? = some y) ∧ H' = upd H p (.tup [x, y]),
   fun i H => ∃ xs ys, SqL K H a xs ∧ SqL K H b ys ∧ (i = min xs.length ys.length)⟩
theorem turn_zip {P : Program} {w : World} {K : PySem.W.Frag} {elts : List Expr} {k : Nat} {pos : Pos} (z TI TO i1 i2 a b : Addr) (D : ZipApart z TI TO i1 i2 a b) :
    Turn P w K (.Tuple elts k pos) (Itz K a b) [z, TI, TO, i1, i2] z (fun i h => IsZip h z TI TO .none ∧ IsPair h TI (.ref i1) (.ref i2) ∧ (∃ x y, IsPair h TO x y) ∧ h.IsListIter i1 a i ∧ h.IsListIter i2 b i) where
  mem := by simp
  obj := fun i h st c hc => by
    obtain ⟨hz, hTI, ⟨x, y, hTO⟩, ⟨o1, e1, _, d1⟩, ⟨o2, e2, _, d2⟩⟩ := st
    simp only [List.mem_cons, List.not_mem_nil, or_false] at hc
    rcases hc with rfl | rfl | rfl | rfl | rfl
    · exact ⟨_, hz, fun v q => by cases q⟩
    · exact ⟨_, hTI, fun v q => by cases q⟩
    · exact ⟨_, hTO, fun v q => by cases q⟩
    · exact ⟨_, e1, fun v q => by rw [d1] at q; cases q⟩
    · exact ⟨_, e2, fun v q => by rw [d2] at q; cases q⟩
  keep := fun i h h' st kp => by
    obtain ⟨hz, hTI, ⟨x, y, hTO⟩, h1, h2⟩ := st
    exact ⟨kp z (by simp) _ hz, kp TI (by simp) _ hTI, ⟨x, y, kp TO (by simp) _ hTO⟩, h1.at fun o e => kp i1 (by simp) o e, h2.at fun o e => kp i2 (by simp) o e⟩
  item := by
    intro X hP hw hK hc i pins s σ H E I hf st hg
    subst hP hw hK
    obtain ⟨xs, ys, x, y, hq1, hq2, hx, hy⟩ := hg
    obtain ⟨its1, r1, p1, z1⟩ := I.list hq1
    obtain ⟨its2, r2, p2, z2⟩ := I.list hq2
    obtain ⟨u, eu, ru⟩ := r1.get hx
    obtain ⟨v, ev, rv⟩ := r2.get hy
    obtain ⟨hz, hTI, ⟨x0, y0, hTO⟩, h1, h2⟩ := st
    have W := WalksT.zip2 (prog := X.prog) (w := X.w) (I.ok.hd hc) z TI TO i1 i2 a b D its1.toArray its2.toArray
    have li : i < min its1.toArray.size its2.toArray.size := by
      have a1 := (List.getElem?_eq_some_iff.mp eu).1
      have a2 := (List.getElem?_eq_some_iff.mp ev).1
      simp only [List.size_toArray]
      omega
    refine W.item i s _ _ li ⟨hz, hTI, ⟨x0, y0, hTO⟩, h1, h2, p1.isList, p2.isList⟩ fun T vals h' tk hpt hT hI hm kk => ?_
    have sub : ∀ c ∈ [z, TO, i1, i2], c ∈ [z, TI, TO, i1, i2] := fun c hc => by simp at hc ⊢; rcases hc with rfl | rfl | rfl | rfl <;> simp
    have I1 : Inv X pins σ H { s with heap := h', toks := tk } := I.moved (ch := [z, TO, i1, i2]) (fun c hc => hf c (sub c hc)) kk
    have fT : FpOk X pins H T := I.fpOk hT (I.hok.fresh hT)
    refine ⟨_, rfl, W.go elts k pos i T _ _ _ hm fun h2' st2 kk2 => ?_⟩
    have I2 : Inv X pins σ H { s with heap := h2', toks := tk } := I1.moved (s := { s with heap := h', toks := tk }) (t' := tk) (ch := [z, TO, i1, i2]) (fun c hc => hf c (sub c hc)) kk2
    obtain ⟨x', y', ex, ey, rfl⟩ := hpt
    have ex' : its1[i]? = some x' := by simpa using ex
    have ey' : its2[i]? = some y' := by simpa using ey
    rw [eu] at ex'; cases ex'
    rw [ev] at ey'; cases ey'
    have apT := W.apart _ _ _ hm
    obtain ⟨oT, eT, cT, nT, dT⟩ := hI
    have hI2 : IsTup h2' T #[u, v] := ⟨oT, kk2 _ _ apT eT, cT, nT, dT⟩
    have I3 : Inv X pins σ (upd H T (.tup [x, y])) { s with heap := h2', toks := tk } :=
      I2.take fT (Nat.le_trans I.sz hT) ⟨by show 2 ≤ sizeLine; decide, [u, v], .cons ru (.cons rv .nil), hI2⟩
    obtain ⟨b1, b2, b3, b4, b5, _, _⟩ := st2
    refine ⟨.ref T, _, I3, rfl, ⟨T, fT.1, rfl, x, y, fun xs' q => ?_, fun ys' q => ?_, rfl⟩, ⟨b1, b2, b3, b4, b5⟩, fun c hc => ?_⟩
    · rw [I.list_inj q hq1]; exact hx
    · rw [I.list_inj q hq2]; exact hy
    · rw [upd_ne (fun q => ?_)]
      · exact (hf c hc).1
      · subst q
        obtain ⟨o, e, _⟩ : ∃ o, s.heap.get? c = some o ∧ True := by
          simp only [List.mem_cons, List.not_mem_nil, or_false] at hc
          obtain ⟨o1, e1, _⟩ := h1
          obtain ⟨o2, e2, _⟩ := h2
          rcases hc with rfl | rfl | rfl | rfl | rfl
          · exact ⟨_, hz, trivial⟩
          · exact ⟨_, hTI, trivial⟩
          · exact ⟨_, hTO, trivial⟩
          · exact ⟨_, e1, trivial⟩
          · exact ⟨_, e2, trivial⟩
        exact absurd (Heap.lt_size e) (Nat.not_lt.mpr hT)
  done := by
    intro X hP hw hK hc i pins s σ H E I hf st hg
    subst hP hw hK
    obtain ⟨xs, ys, hq1, hq2, hi⟩ := hg
    obtain ⟨its1, r1, p1, z1⟩ := I.list hq1
    obtain ⟨its2, r2, p2, z2⟩ := I.list hq2
    obtain ⟨hz, hTI, hTO, h1, h2⟩ := st
    have W := WalksT.zip2 (prog := X.prog) (w := X.w) (I.ok.hd hc) z TI TO i1 i2 a b D its1.toArray its2.toArray
    have l1 := r1.length
    have l2 := r2.length
    have e : i = min its1.toArray.size its2.toArray.size := by simp only [List.size_toArray]; omega
    subst e
    have sub : ∀ c ∈ [z, TO, i1, i2], c ∈ [z, TI, TO, i1, i2] := fun c hc => by simp at hc ⊢; rcases hc with rfl | rfl | rfl | rfl <;> simp
    exact W.done s _ _ ⟨hz, hTI, hTO, h1, h2, p1.isList, p2.isList⟩ fun h' tk kk => ⟨rfl, I.moved (ch := [z, TO, i1, i2]) (fun c hc => hf c (sub c hc)) kk⟩
  self := fun _ _ _ _ _ st h => wpAny_pyIter_zip st.1 h

/-! ### enumerate of a list -/
noncomputable def Ite (K : PySem.W.Frag) (a : Addr) : It :=
  ⟨fun i H => ∃ xs x, SqL K H a xs ∧ xs[i]? = some x,
   fun i H v H' => ∃ p, H p = none ∧ v = .ref p ∧ ∃ x, (∀ xs, SqL K H a xs → xs[i]? = some x) ∧ H' = upd H p (.tup [.int i, x]),
   fun i H => ∃ xs, SqL K H a xs ∧ xs.length = i⟩
section
variable {X : Cx} {elts : List Expr} {kk : Nat} {tpos : Pos}
noncomputable def iZip (K : PySem.W.Frag) (ta : TA) : TI := fun σ H R => ta σ H fun vs H1 => ∃ a b, vs = [.ref a, .ref b] ∧ (∃ xs, SqL K H1 a xs) ∧ (∃ ys, SqL K H1 b ys) ∧ R (Itz K a b) H1
theorem pi_zip {a b : Expr} {ta : TA} {p pos : Pos} (hg : Gl X "zip") (hm : X.mg "zip" = none) (ha : PA X [a, b] ta) (hs : starEach [a, b] X.env = [(false, eval a X.env), (false, eval b X.env)] := by rfl) (hs2 : starEach [b] X.env = [(false, eval b X.env)] := by rfl) :
    PI X (.Tuple elts kk tpos) (.Call (.Name "zip" p) [a, b] [] pos) (iZip X.K ta) := by
  intro pins s σ H R I h
  refine Call_ (ld_blt I hg hm rfl (PyProof.Rows.callWith_type1 (thn (ha pos pins s σ H _ I h) fun us s1 ⟨vs, H1, I1, r1, q1⟩ => ?_) (by rw [hs, hs2]) (by rw [hs2]; rfl)))
  obtain ⟨a, b, e, ⟨xs, q1⟩, ⟨ys, q2⟩, q⟩ := q1
  subst e
  obtain ⟨u, u', rfl, ra, rb⟩ := vals2 r1
  cases ra
  cases rb
  obtain ⟨its1, v1, p1, z1⟩ := I1.list q1
  obtain ⟨its2, v2, p2, z2⟩ := I1.list q2
  refine call_zip_2 p1.isList p2.isList fun h' b1 b2 b3 b4 b5 b6 kp => ?_
  refine wpAny_pyIter_zip b1 ?_
  have I2 : Inv X pins σ H1 { s1 with heap := h' } := I1.kept (t' := s1.toks) kp
  have la : a < s1.heap.objs.size := by obtain ⟨o, e, _⟩ := p1.isList; exact Heap.lt_size e
  have lb : b < s1.heap.objs.size := by obtain ⟨o, e, _⟩ := p2.isList; exact Heap.lt_size e
  refine ⟨s1.heap.objs.size + 4, [s1.heap.objs.size + 4, s1.heap.objs.size + 2, s1.heap.objs.size + 3, s1.heap.objs.size, s1.heap.objs.size + 1], _, _, H1, rfl, I2,
    turn_zip (s1.heap.objs.size + 4) (s1.heap.objs.size + 2) (s1.heap.objs.size + 3) s1.heap.objs.size (s1.heap.objs.size + 1) a b (by constructor <;> (first | exact Nat.ne_of_lt (by omega) | exact Nat.ne_of_gt (by omega) | exact Nat.ne_of_lt la | exact Nat.ne_of_lt lb | exact Nat.ne_of_lt (Nat.lt_of_lt_of_le la (Nat.le_add_right _ _)) | exact Nat.ne_of_lt (Nat.lt_of_lt_of_le lb (Nat.le_add_right _ _)))), ⟨b1, b2, ⟨_, _, b3⟩, b4, b5⟩, fun c hc => ?_, q⟩
  have hge : s1.heap.objs.size ≤ c := by
    simp only [List.mem_cons, List.not_mem_nil, or_false] at hc
    rcases hc with rfl | rfl | rfl | rfl | rfl <;> omega
  exact I1.fpOk hge (I1.hok.fresh hge)
noncomputable def iEnum (K : PySem.W.Frag) (ta : TA) : TI := fun σ H R => ta σ H fun vs H1 => ∃ a, vs = [.ref a] ∧ (∃ xs, SqL K H1 a xs) ∧ R (Ite K a) H1
end
theorem src_zip {K : PySem.W.Frag} {a b : Addr} {xs ys : List V} {Ok : Hp → Prop} (h1 : ∀ H, Ok H → SqL K H a xs) (h2 : ∀ H, Ok H → SqL K H b ys) :
    Src (Itz K a b) Ok (min xs.length ys.length) (fun i v H H3 => ∃ p x y, H p = none ∧ v = .ref p ∧ xs[i]? = some x ∧ ys[i]? = some y ∧ H3 = upd H p (.tup [x, y])) where
  go := fun i H hi ok => ⟨xs, ys, xs[i]'(by omega), ys[i]'(by omega), h1 H ok, h2 H ok, by simp, by simp⟩
  yld := fun i H x H3 hi ok ⟨p, n, e, u, v, e1, e2, e3⟩ => ⟨p, u, v, n, e, e1 xs (h1 H ok), e2 ys (h2 H ok), e3⟩
  stop := fun H ok => ⟨xs, ys, h1 H ok, h2 H ok, rfl⟩
end L2
/-! DATA: what a value stands for, through tuples and lists; == and != of things that stand for one datum. -/
namespace L2
open PySem PySem.Spec PyProof.Rows

inductive Dat where
  | non | bl (b : Bool) | int (i : Int) | str (x : Str) | tup (l : List Dat) | lst (l : List Dat)

mutual
noncomputable def Rep (H : Hp) : Dat → V → Prop
  | .non, v => v = .non
  | .bl b, v => v = .bl b
  | .int i, v => v = .int i
  | .str x, v => v = .str x
  | .tup ds, v => ∃ p vs, v = .ref p ∧ H p = some (.tup vs) ∧ RepL H ds vs
  | .lst ds, v => ∃ p vs, v = .ref p ∧ H p = some (.lst vs) ∧ RepL H ds vs
noncomputable def RepL (H : Hp) : List Dat → List V → Prop
  | [], vs => vs = []
  | d :: ds, vs => ∃ v r, vs = v :: r ∧ Rep H d v ∧ RepL H ds r
end
mutual
theorem Rep.mono {H H' : Hp} (s : Same H H') : ∀ {d : Dat} {v : V}, Rep H d v → Rep H' d v
  | .non, _, h => by rw [Rep] at *; exact h
  | .bl _, _, h => by rw [Rep] at *; exact h
  | .int _, _, h => by rw [Rep] at *; exact h
  | .str _, _, h => by rw [Rep] at *; exact h
  | .tup _, _, h => by
    rw [Rep] at *
    obtain ⟨p, vs, e, hp, r⟩ := h
    exact ⟨p, vs, e, s _ _ hp, RepL.mono s r⟩
  | .lst _, _, h => by
    rw [Rep] at *
    obtain ⟨p, vs, e, hp, r⟩ := h
    exact ⟨p, vs, e, s _ _ hp, RepL.mono s r⟩
theorem RepL.mono {H H' : Hp} (s : Same H H') : ∀ {ds : List Dat} {vs : List V}, RepL H ds vs → RepL H' ds vs
  | [], _, h => by rw [RepL] at *; exact h
  | _ :: _, _, h => by
    rw [RepL] at *
    obtain ⟨v, r, e, h1, h2⟩ := h
    exact ⟨v, r, e, Rep.mono s h1, RepL.mono s h2⟩
end
theorem RepL.length {H : Hp} : ∀ {ds : List Dat} {vs : List V}, RepL H ds vs → ds.length = vs.length
  | [], _, h => by rw [RepL] at h; subst h; rfl
  | _ :: _, _, h => by
    rw [RepL] at h
    obtain ⟨v, r, rfl, _, h2⟩ := h
    simp [h2.length]
theorem RepL.get {H : Hp} : ∀ {ds : List Dat} {vs : List V} {i : Nat} {v : V}, RepL H ds vs → vs[i]? = some v → ∃ d, ds[i]? = some d ∧ Rep H d v
  | [], _, i, v, h, e => by rw [RepL] at h; subst h; simp at e
  | d :: ds, _, i, v, h, e => by
    rw [RepL] at h
    obtain ⟨v', r, rfl, h1, h2⟩ := h
    cases i with
    | zero => simp at e; subst e; exact ⟨d, rfl, h1⟩
    | succ i => simp at e; obtain ⟨d', e', r'⟩ := h2.get e; exact ⟨d', by simpa using e', r'⟩
theorem RepL.at {H : Hp} : ∀ {ds : List Dat} {vs : List V} {i : Nat} {d : Dat}, RepL H ds vs → ds[i]? = some d → ∃ v, vs[i]? = some v ∧ Rep H d v
  | [], _, i, v, h, e => by simp at e
  | d :: ds, _, i, d', h, e => by
    rw [RepL] at h
    obtain ⟨v', r, rfl, h1, h2⟩ := h
    cases i with
    | zero => simp at e; subst e; exact ⟨v', rfl, h1⟩
    | succ i => simp at e; obtain ⟨v, e', r'⟩ := h2.at e; exact ⟨v, by simpa using e', r'⟩
theorem RepL.of {H : Hp} : ∀ {ds : List Dat} {vs : List V}, ds.length = vs.length → (∀ (i : Nat) d v, ds[i]? = some d → vs[i]? = some v → Rep H d v) → RepL H ds vs
  | [], [], _, _ => by rw [RepL]
  | [], _ :: _, h, _ => by simp at h
  | _ :: _, [], h, _ => by simp at h
  | d :: ds, v :: vs, h, k => by
    rw [RepL]
    exact ⟨v, vs, rfl, k 0 d v rfl rfl, RepL.of (by simpa using h) fun i d' v' e1 e2 => k (i + 1) d' v' (by simpa using e1) (by simpa using e2)⟩
theorem RepL.append {H : Hp} : ∀ {as bs : List Dat} {us vs : List V}, RepL H as us → RepL H bs vs → RepL H (as ++ bs) (us ++ vs)
  | [], _, _, _, h, k => by rw [RepL] at h; subst h; exact k
  | _ :: _, _, _, _, h, k => by
    rw [RepL] at h
    obtain ⟨v, r, rfl, h1, h2⟩ := h
    show RepL H (_ :: (_ ++ _)) (_ :: (_ ++ _))
    rw [RepL]
    exact ⟨_, _, rfl, h1, h2.append k⟩
theorem RepL.ints {H : Hp} : ∀ (ns : List Int), RepL H (ns.map Dat.int) (ns.map V.int)
  | [] => by simp only [List.map_nil]; rw [RepL]
  | n :: ns => by
    simp only [List.map_cons]
    rw [RepL]
    exact ⟨_, _, rfl, by rw [Rep], RepL.ints ns⟩
/-- two things of one datum are equal -/
noncomputable def depth : Dat → Nat
  | .tup l => 1 + dL l
  | .lst l => 1 + dL l
  | _ => 0
where dL : List Dat → Nat
  | [] => 0
  | d :: ds => max (depth d) (dL ds)
theorem depth_mem {d : Dat} : ∀ {ds : List Dat}, d ∈ ds → depth d ≤ depth.dL ds
  | e :: ds, h => by
    rw [depth.dL]
    rcases List.mem_cons.mp h with rfl | h
    · exact Nat.le_max_left _ _
    · exact Nat.le_trans (depth_mem h) (Nat.le_max_right _ _)
section
variable {X : Cx} {pins : List (Addr × Obj)} {σ : St} {H : Hp} {s : Shared}
theorem all_true (n : Nat) : ((List.range n).all fun _ => true) = true := by simp
theorem eqAt_D (I : Inv X pins σ H s) : ∀ (n : Nat) (d : Dat), depth d ≤ n → ∀ (v v' : V) (u u' : Value) (A : Around), Rep H d v → Rep H d v' → RelV v u → RelV v' u' → A.units + n < cLine → SeqAt.EqAt A s u u' true := by
  intro n
  induction n with
  | zero =>
    intro d hd v v' u u' A h h' r r' hu
    cases d with
    | non => rw [Rep] at h h'; subst h h'; cases r; cases r'; exact SeqAt.EqAt.same _
    | bl b => rw [Rep] at h h'; subst h h'; cases r; cases r'; exact SeqAt.EqAt.same _
    | int i => rw [Rep] at h h'; subst h h'; obtain ⟨t, rfl⟩ := r; obtain ⟨t', rfl⟩ := r'; have := SeqAt.EqAt.int_int (A := A) (s := s) i t i t'; simpa using this
    | str x => rw [Rep] at h h'; subst h h'; obtain ⟨t, rfl⟩ := r; obtain ⟨t', rfl⟩ := r'; have := SeqAt.EqAt.str_str (A := A) (s := s) x t x t'; simpa using this
    | tup l => rw [depth] at hd; omega
    | lst l => rw [depth] at hd; omega
  | succ n ih =>
    intro d hd v v' u u' A h h' r r' hu
    cases d with
    | non => rw [Rep] at h h'; subst h h'; cases r; cases r'; exact SeqAt.EqAt.same _
    | bl b => rw [Rep] at h h'; subst h h'; cases r; cases r'; exact SeqAt.EqAt.same _
    | int i => rw [Rep] at h h'; subst h h'; obtain ⟨t, rfl⟩ := r; obtain ⟨t', rfl⟩ := r'; have := SeqAt.EqAt.int_int (A := A) (s := s) i t i t'; simpa using this
    | str x => rw [Rep] at h h'; subst h h'; obtain ⟨t, rfl⟩ := r; obtain ⟨t', rfl⟩ := r'; have := SeqAt.EqAt.str_str (A := A) (s := s) x t x t'; simpa using this
    | tup l =>
      rw [Rep] at h h'
      obtain ⟨p, vs, rfl, hp, rl⟩ := h
      obtain ⟨p', vs', rfl, hp', rl'⟩ := h'
      cases r
      cases r'
      rw [depth] at hd
      by_cases hpp : p = p'
      · subst hpp; exact SeqAt.EqAt.same _
      obtain ⟨its, rv, pl, hz⟩ := I.tuple (SqT.of hp)
      obtain ⟨its', rv', pl', hz'⟩ := I.tuple (SqT.of hp')
      have e1 := rl.length
      have e2 := rl'.length
      have l1 := rv.length
      have l2 := rv'.length
      have R := SeqAt.RcAt.tuples (A := A) (e := fun _ => true) pl pl' (by omega) (fun j h1 h2 => ?_)
      · simp only [List.size_toArray, all_true, Bool.true_and] at R
        rw [show (its.length == its'.length) = true by simp; omega] at R
        exact .of_refs hpp R
      · rw [List.size_toArray] at h1 h2
        obtain ⟨d, ed⟩ : ∃ d, l[j]? = some d := ⟨l[j]'(by omega), by simp⟩
        obtain ⟨v1, f1, q1⟩ := rl.at ed
        obtain ⟨v2, f2, q2⟩ := rl'.at ed
        obtain ⟨u1, g1, w1⟩ := rv.get f1
        obtain ⟨u2, g2, w2⟩ := rv'.get f2
        have a1 : its.toArray[j] = u1 := by simpa [List.getElem?_eq_getElem h1] using g1
        have a2 : its'.toArray[j] = u2 := by simpa [List.getElem?_eq_getElem h2] using g2
        rw [a1, a2]
        have := depth_mem (List.mem_of_getElem? ed)
        exact ih d (by omega) v1 v2 u1 u2 A.in1 q1 q2 w1 w2 (by show A.units + 1 + n < cLine; omega)
    | lst l =>
      rw [Rep] at h h'
      obtain ⟨p, vs, rfl, hp, rl⟩ := h
      obtain ⟨p', vs', rfl, hp', rl'⟩ := h'
      cases r
      cases r'
      rw [depth] at hd
      by_cases hpp : p = p'
      · subst hpp; exact SeqAt.EqAt.same _
      obtain ⟨its, rv, pl, hz⟩ := I.list (SqL.of hp)
      obtain ⟨its', rv', pl', hz'⟩ := I.list (SqL.of hp')
      have e1 := rl.length
      have e2 := rl'.length
      have l1 := rv.length
      have l2 := rv'.length
      have R := SeqAt.RcAt.lists (A := A) (e := fun _ => true) pl.isList pl'.isList (by simp only [List.size_toArray]; omega) (by omega) (fun j h1 h2 => ?_)
      · rw [all_true] at R
        exact .of_refs hpp R
      · rw [List.size_toArray] at h1 h2
        obtain ⟨d, ed⟩ : ∃ d, l[j]? = some d := ⟨l[j]'(by omega), by simp⟩
        obtain ⟨v1, f1, q1⟩ := rl.at ed
        obtain ⟨v2, f2, q2⟩ := rl'.at ed
        obtain ⟨u1, g1, w1⟩ := rv.get f1
        obtain ⟨u2, g2, w2⟩ := rv'.get f2
        have a1 : its.toArray[j] = u1 := by simpa [List.getElem?_eq_getElem h1] using g1
        have a2 : its'.toArray[j] = u2 := by simpa [List.getElem?_eq_getElem h2] using g2
        rw [a1, a2]
        have := depth_mem (List.mem_of_getElem? ed)
        exact ih d (by omega) v1 v2 u1 u2 A.in1 q1 q2 w1 w2 (by show A.units + 1 + n < cLine; omega)
end
section
variable {X : Cx}
/-- x == y, where both stand for the tuple or list d -/
noncomputable def rEqD (b : Bool) : R2 := fun x y H Q => ∃ d, Rep H d x ∧ Rep H d y ∧ (∃ p, x = .ref p) ∧ depth d ≤ 40 ∧ Q (.bl b) H
theorem seqs_D {pins : List (Addr × Obj)} {σ : St} {H : Hp} {s : Shared} {d : Dat} {p p' : Addr} (I : Inv X pins σ H s) (hu : X.A.units + 64 < cLine) (h : Rep H d (.ref p)) (h' : Rep H d (.ref p')) (hd : depth d ≤ 40) :
    (∃ its its' : List Value, IsTup s.heap p its.toArray ∧ IsTup s.heap p' its'.toArray ∧ its.length = its'.length ∧ ∀ j (h1 : j < its.toArray.size) (h2 : j < its'.toArray.size), SeqAt.EqAt X.A.in1 s its.toArray[j] its'.toArray[j] true) ∨
    (∃ its its' : List Value, s.heap.IsList p its.toArray ∧ s.heap.IsList p' its'.toArray ∧ its.length = its'.length ∧ ∀ j (h1 : j < its.toArray.size) (h2 : j < its'.toArray.size), SeqAt.EqAt X.A.in1 s its.toArray[j] its'.toArray[j] true) := by
  cases d with
  | non => rw [Rep] at h; cases h
  | bl b => rw [Rep] at h; cases h
  | int i => rw [Rep] at h; cases h
  | str x => rw [Rep] at h; cases h
  | tup l =>
    left
    rw [Rep] at h h'
    obtain ⟨_, vs, e, hp, rl⟩ := h
    cases e
    obtain ⟨_, vs', e, hp', rl'⟩ := h'
    cases e
    rw [depth] at hd
    obtain ⟨its, rv, pl, hz⟩ := I.tuple (SqT.of hp)
    obtain ⟨its', rv', pl', hz'⟩ := I.tuple (SqT.of hp')
    have e1 := rl.length
    have e2 := rl'.length
    have l1 := rv.length
    have l2 := rv'.length
    refine ⟨its, its', pl, pl', by omega, fun j h1 h2 => ?_⟩
    rw [List.size_toArray] at h1 h2
    obtain ⟨d, ed⟩ : ∃ d, l[j]? = some d := ⟨l[j]'(by omega), by simp⟩
    obtain ⟨v1, f1, q1⟩ := rl.at ed
    obtain ⟨v2, f2, q2⟩ := rl'.at ed
    obtain ⟨u1, g1, w1⟩ := rv.get f1
    obtain ⟨u2, g2, w2⟩ := rv'.get f2
    have a1 : its.toArray[j] = u1 := by simpa [List.getElem?_eq_getElem h1] using g1
    have a2 : its'.toArray[j] = u2 := by simpa [List.getElem?_eq_getElem h2] using g2
    rw [a1, a2]
    have := depth_mem (List.mem_of_getElem? ed)
    exact eqAt_D I 40 d (by omega) v1 v2 u1 u2 X.A.in1 q1 q2 w1 w2 (by show X.A.units + 1 + 40 < cLine; omega)
  | lst l =>
    right
    rw [Rep] at h h'
    obtain ⟨_, vs, e, hp, rl⟩ := h
    cases e
    obtain ⟨_, vs', e, hp', rl'⟩ := h'
    cases e
    rw [depth] at hd
    obtain ⟨its, rv, pl, hz⟩ := I.list (SqL.of hp)
    obtain ⟨its', rv', pl', hz'⟩ := I.list (SqL.of hp')
    have e1 := rl.length
    have e2 := rl'.length
    have l1 := rv.length
    have l2 := rv'.length
    refine ⟨its, its', pl.isList, pl'.isList, by omega, fun j h1 h2 => ?_⟩
    rw [List.size_toArray] at h1 h2
    obtain ⟨d, ed⟩ : ∃ d, l[j]? = some d := ⟨l[j]'(by omega), by simp⟩
    obtain ⟨v1, f1, q1⟩ := rl.at ed
    obtain ⟨v2, f2, q2⟩ := rl'.at ed
    obtain ⟨u1, g1, w1⟩ := rv.get f1
    obtain ⟨u2, g2, w2⟩ := rv'.get f2
    have a1 : its.toArray[j] = u1 := by simpa [List.getElem?_eq_getElem h1] using g1
    have a2 : its'.toArray[j] = u2 := by simpa [List.getElem?_eq_getElem h2] using g2
    rw [a1, a2]
    have := depth_mem (List.mem_of_getElem? ed)
    exact eqAt_D I 40 d (by omega) v1 v2 u1 u2 X.A.in1 q1 q2 w1 w2 (by show X.A.units + 1 + 40 < cLine; omega)
theorem op_eqD (hu : X.A.units + 64 < cLine) : OpR X (compareOp .Eq) (rEqD true) := by
  intro pins s σ H x y v u Q I rx ry h
  obtain ⟨d, h1, h2, ⟨p, rfl⟩, hd, q⟩ := h
  obtain ⟨p', rfl⟩ : ∃ p', y = .ref p' := by
    cases d with
    | non => rw [Rep] at h1; cases h1
    | bl b => rw [Rep] at h1; cases h1
    | int i => rw [Rep] at h1; cases h1
    | str x => rw [Rep] at h1; cases h1
    | tup l => rw [Rep] at h2; obtain ⟨p', _, e, _⟩ := h2; exact ⟨p', e⟩
    | lst l => rw [Rep] at h2; obtain ⟨p', _, e, _⟩ := h2; exact ⟨p', e⟩
  cases rx
  cases ry
  rcases seqs_D I hu h1 h2 hd with ⟨its, its', a, b, e, k⟩ | ⟨its, its', a, b, e, k⟩
  · refine SeqAt.eq_tupleAt (e := fun _ => true) a b (by omega) k ⟨.bl true, H, I, ?_, q⟩
    show Value.bool _ = Value.bool true
    rw [all_true, List.size_toArray, List.size_toArray, e]
    simp
  · refine SeqAt.eq_listAt (e := fun _ => true) a b (by simp only [List.size_toArray]; exact e) (by omega) k ⟨.bl true, H, I, ?_, q⟩
    show Value.bool _ = Value.bool true
    rw [all_true]
theorem op_neD (hu : X.A.units + 64 < cLine) : OpR X (compareOp .NotEq) (rEqD false) := by
  intro pins s σ H x y v u Q I rx ry h
  obtain ⟨d, h1, h2, ⟨p, rfl⟩, hd, q⟩ := h
  obtain ⟨p', rfl⟩ : ∃ p', y = .ref p' := by
    cases d with
    | non => rw [Rep] at h1; cases h1
    | bl b => rw [Rep] at h1; cases h1
    | int i => rw [Rep] at h1; cases h1
    | str x => rw [Rep] at h1; cases h1
    | tup l => rw [Rep] at h2; obtain ⟨p', _, e, _⟩ := h2; exact ⟨p', e⟩
    | lst l => rw [Rep] at h2; obtain ⟨p', _, e, _⟩ := h2; exact ⟨p', e⟩
  cases rx
  cases ry
  rcases seqs_D I hu h1 h2 hd with ⟨its, its', a, b, e, k⟩ | ⟨its, its', a, b, e, k⟩
  · refine SeqAt.RcNeAt.tuples (A := X.A) (e := fun _ => true) a b (by omega) k X.prog X.w X.xe _ ⟨.bl false, H, I, ?_, q⟩
    show Value.bool _ = Value.bool false
    rw [all_true, List.size_toArray, List.size_toArray, e]
    simp
  · refine SeqAt.RcNeAt.lists (A := X.A) (e := fun _ => true) a b (by simp only [List.size_toArray]; exact e) (by omega) k X.prog X.w X.xe _ ⟨.bl false, H, I, ?_, q⟩
    show Value.bool _ = Value.bool false
    rw [all_true]
    rfl
/-- != of two tuples of flat values -/
noncomputable def rNeT : R2 := fun x y H Q => ∃ p q xs ys, x = .ref p ∧ y = .ref q ∧ H p = some (.tup xs) ∧ H q = some (.tup ys) ∧ xs.all flatV = true ∧ ys.all flatV = true ∧ Q (.bl (!eqL xs ys)) H
end
end L2
/-! Lists of ints in order. -/
namespace Nm
noncomputable def ins (x : Int) : List Int → List Int
  | [] => [x]
  | y :: r => if x ≤ y then x :: y :: r else y :: ins x r
noncomputable def srt : List Int → List Int
  | [] => []
  | x :: r => ins x (srt r)
theorem ins_perm (x : Int) : ∀ l, (ins x l).Perm (x :: l)
  | [] => .refl _
  | y :: r => by
    unfold ins
    split
    · exact .refl _
    · exact ((ins_perm x r).cons y).trans (.swap ..)
theorem srt_perm : ∀ l, (srt l).Perm l
  | [] => .refl _
  | x :: r => (ins_perm x _).trans ((srt_perm r).cons x)
theorem ins_ord (x : Int) : ∀ l : List Int, l.Pairwise (· ≤ ·) → (ins x l).Pairwise (· ≤ ·)
  | [], _ => by unfold ins; simp
  | y :: r, h => by
    unfold ins
    rw [List.pairwise_cons] at h
    split
    · rename_i c
      rw [List.pairwise_cons, List.pairwise_cons]
      refine ⟨fun z hz => ?_, h.1, h.2⟩
      rcases List.mem_cons.mp hz with rfl | hz
      · exact c
      · have := h.1 z hz; omega
    · rename_i c
      rw [List.pairwise_cons]
      refine ⟨fun z hz => ?_, ins_ord x r h.2⟩
      rcases List.mem_cons.mp ((ins_perm x r).mem_iff.mp hz) with rfl | hz
      · omega
      · exact h.1 z hz
theorem srt_ord : ∀ l : List Int, (srt l).Pairwise (· ≤ ·)
  | [] => by unfold srt; simp
  | x :: r => ins_ord x _ (srt_ord r)
theorem srt_length (l : List Int) : (srt l).length = l.length := (srt_perm l).length_eq
theorem ord_one : ∀ {a b : List Int}, a.Perm b → a.Pairwise (· ≤ ·) → b.Pairwise (· ≤ ·) → a = b
  | [], b, p, _, _ => by simpa using p.symm.eq_nil
  | x :: a, [], p, _, _ => by simpa using p.eq_nil
  | x :: a, y :: b, p, ha, hb => by
    rw [List.pairwise_cons] at ha hb
    have e : x = y := by
      have h1 : y ∈ x :: a := p.mem_iff.mpr List.mem_cons_self
      have h2 : x ∈ y :: b := p.mem_iff.mp List.mem_cons_self
      rcases List.mem_cons.mp h1 with h1 | h1
      · exact h1.symm
      · rcases List.mem_cons.mp h2 with h2 | h2
        · exact h2
        · have := ha.1 y h1
          have := hb.1 x h2
          omega
    subst e
    rw [ord_one ((List.perm_cons x).mp p) ha.2 hb.2]
theorem srt_one {a b : List Int} (p : a.Perm b) (o : a.Pairwise (· ≤ ·)) : a = srt b := ord_one (p.trans (srt_perm b).symm) o (srt_ord b)
theorem srt_mem {a : Int} {l : List Int} : a ∈ srt l ↔ a ∈ l := (srt_perm l).mem_iff
theorem srt_congr {a b : List Int} (p : a.Perm b) : srt a = srt b := srt_one ((srt_perm a).trans p) (srt_ord a)
end Nm
/-! sum, sorted; a dict's keys walked. -/
namespace L2
open PySem PySem.Spec PyProof.Rows PySem.W
section
variable {X : Cx}
theorem vals_ints_of {us : List Value} {ns : List Int} (h : IntsAre us ns) : Vals (ns.map V.int) us := by
  induction h with
  | nil => exact .nil
  | cons n t _ ih => exact .cons ⟨t, rfl⟩ ih
/-- the keys of a dict, all ints -/
noncomputable def keysI (kvs : List (Key × V)) : List Int := kvs.map fun p => match p.1 with | .inl i => i | .inr _ => 0
noncomputable def allI (kvs : List (Key × V)) : Prop := ∀ p ∈ kvs, ∃ i, p.1 = Sum.inl i
end

/-! ### a dict held still, and let go -/
section
variable {X : Cx} {pins : List (Addr × Obj)} {σ : St} {H : Hp} {s : Shared}
theorem Inv.swap {ad : Addr} {o o' : HO} (I : Inv X pins σ H s) (e : H ad = some o) (n1 : ∀ xs, o ≠ .tup xs) (n2 : ∀ x, o ≠ .own x) (n3 : ∀ a b, X.H₀ ad ≠ some (.frz a b)) (n4 : ∀ ps, o ≠ .tbl ps) (ok : ObjOk X.prog X.w (upd H ad o') s.heap ad o') : Inv X pins σ (upd H ad o') s := by
  have ne : ∀ b, H b = none → b ≠ ad := fun b h z => by rw [z, e] at h; cases h
  refine ⟨I.ok, I.os, I.bare, ⟨I.base.keep, I.base.slot, fun b ob q m hx => ?_, I.base.there, fun b xs q => ?_, fun b ob u q => ?_, fun b ps q => ?_⟩, I.loc, I.cell, ?_, fun x c q => ?_, fun p hp => ?_, fun b u q => ?_, I.len⟩
  · have z := I.base.free b ob q m hx
    rw [upd_ne (ne b z)]; exact z
  · have z := I.base.tups b xs q
    rw [upd_ne (fun y => by rw [y, e] at z; exact n1 xs (Option.some.inj z))]; exact z
  · have z := I.base.frzs b ob u q
    rw [upd_ne (fun y => by rw [y] at q; exact n3 _ _ q)]; exact z
  · obtain ⟨mo, z⟩ := I.base.tbls b ps q
    exact ⟨mo, by rw [upd_ne (fun y => by rw [y, e] at z; exact n4 _ (Option.some.inj z))]; exact z⟩
  · rw [upd_ne (ne _ I.free)]; exact I.free
  · rw [upd_ne (ne _ (I.freeC x c q))]; exact I.freeC x c q
  · obtain ⟨a, b, c⟩ := I.pin p hp
    exact ⟨a, by rw [upd_ne (ne _ b)]; exact b, c⟩
  · by_cases hb : b = ad
    · subst hb
      rw [upd_same] at q
      cases q
      exact ok
    · rw [upd_ne hb] at q
      exact (I.hok b u q).stay (fun _ _ _ z => z) (fun c r => by rw [upd_ne (fun y => by rw [y, e] at r; exact n2 _ (Option.some.inj r))]; exact r) fun c xs r => by rw [upd_ne (fun y => by rw [y, e] at r; exact n1 _ (Option.some.inj r))]; exact r
theorem Inv.noFrz {ad : Addr} {o : HO} (I : Inv X pins σ H s) (e : H ad = some o) (n : ∀ a b, o ≠ .frz a b) : ∀ a b, X.H₀ ad ≠ some (.frz a b) := fun a b q => by
  have z := I.base.frzs ad a b q
  rw [e] at z
  exact n _ _ (Option.some.inj z)
/-- let go -/
noncomputable def Thaw (H₀ : Hp) (q : Hp → Prop) (H : Hp) : Prop := ∃ d o kvs, H d = some (.frz o (.dK kvs)) ∧ (∀ a b, H₀ d ≠ some (.frz a b)) ∧ q (upd H d (.dK kvs))
theorem Inv.thaw {q : Hp → Prop} (I : Inv X pins σ H s) (h : Thaw X.H₀ q H) : ∃ H', Inv X pins σ H' s ∧ q H' := by
  obtain ⟨d, o, kvs, e, n, k⟩ := h
  refine ⟨_, I.swap e (fun xs z => nomatch z) (fun x z => nomatch z) n (fun ps z => nomatch z) ?_, k⟩
  obtain ⟨h1, h2⟩ := (show ObjOk X.prog X.w H s.heap d (.frz o (.dK kvs)) from I.hok d _ e)
  exact h2
theorem ps_thaw {st : Stmt} {t : TS} (h : PS X st t) : PS X st (fun D σ H => t { nx := fun σ' => Thaw X.H₀ (D.nx σ'), rt := fun v => Thaw X.H₀ (D.rt v), bk := fun σ' => Thaw X.H₀ (D.bk σ'), ct := fun σ' => Thaw X.H₀ (D.ct σ') } σ H) := by
  intro pins s σ H D I hw
  refine thn (h pins s σ H _ I hw) fun f s' q => ?_
  cases f with
  | next => obtain ⟨σ', H', I', q⟩ := q; obtain ⟨H2, I2, q2⟩ := I'.thaw q; exact ⟨σ', H2, I2, q2⟩
  | brk => obtain ⟨σ', H', I', q⟩ := q; obtain ⟨H2, I2, q2⟩ := I'.thaw q; exact ⟨σ', H2, I2, q2⟩
  | cont => obtain ⟨σ', H', I', q⟩ := q; obtain ⟨H2, I2, q2⟩ := I'.thaw q; exact ⟨σ', H2, I2, q2⟩
  | ret u => obtain ⟨v, σ', H', I', r, q⟩ := q; obtain ⟨H2, I2, q2⟩ := I'.thaw q; exact ⟨v, σ', H2, I2, r, q2⟩
end
noncomputable def Itd (d : Addr) (o : Obj) (kvs : List (Key × V)) : It :=
  ⟨fun i H => H d = some (.frz o (.dK kvs)) ∧ i < kvs.length, fun i H x H' => H' = H ∧ ∃ p, kvs[i]? = some p ∧ x = kV p.1, fun i H => H d = some (.frz o (.dK kvs)) ∧ i = kvs.length⟩
section
variable {X : Cx} {x : Str} {xpos : Pos}
noncomputable def iDict (tl : TE) : TI := fun σ H R => tl σ H fun v H1 => ∃ d kvs, v = .ref d ∧ H1 d = some (.dK kvs) ∧ ∀ o, R (Itd d o kvs) (upd H1 d (.frz o (.dK kvs)))
end
end L2
/-! THE SAME RULES, the fragment named apart (within a block or a suite the context is not a letter). -/
namespace L2
open PySem PySem.Spec PyProof.Rows PySem.W
section
variable {X : Cx} {K : PySem.W.Frag}
theorem pi_listK {tg l : Expr} {tl : TE} (hl : PE X l tl) (hK : X.K = K := by rfl) : PI X tg l (iList K tl) := by subst hK; exact pi_list hl
theorem pi_zipK {elts : List Expr} {kk : Nat} {tpos : Pos} {a b : Expr} {ta : TA} {p pos : Pos} (hg : Gl X "zip") (hm : X.mg "zip" = none) (ha : PA X [a, b] ta) (n1 : noStar a = true := by rfl) (n2 : noStar b = true := by rfl) (hK : X.K = K := by rfl) :
    PI X (.Tuple elts kk tpos) (.Call (.Name "zip" p) [a, b] [] pos) (iZip K ta) := by subst hK; exact pi_zip hg hm ha (by rw [se n1, se n2]; rfl) (by rw [se n2]; rfl)
theorem pg_tupK {es : List Expr} {k : Nat} {t : TGs} {n : Nat} {pos : Pos} (hc : X.calm = true) (h : PGs X es t) (hn : (assignEach es X.env).length = n := by rfl) (hst : (assignEach es X.env).findIdx? (·.1) = none := by rfl) (hK : X.K = K := by rfl) : PG X (.Tuple es k pos) (gTup K n t) := by
  subst hK; exact pg_tup hc h hn hst
theorem ix_listSK (hK : X.K = K := by rfl) : IxR X (rIxQ K) := by subst hK; exact ix_listS
theorem call_lenQK (hK : X.K = K := by rfl) : CallR X (.builtin "len") (fun xs H Q => ∃ p ns, xs = [.ref p] ∧ SqL K H p (List.map V.int ns) ∧ Q (.int (List.length ns : Nat)) H) := by subst hK; exact call_lenQ
theorem call_list_ofK (hK : X.K = K := by rfl) : CallR X (.type "list") (fun xs H Q => ∃ p ys, xs = [.ref p] ∧ (SqL K H p ys ∨ SqT K H p ys) ∧ ∀ l, H l = none → Q (.ref l) (upd H l (.lst ys))) := by subst hK; exact call_list_of
theorem call_tuple_ofK (hK : X.K = K := by rfl) : CallR X (.type "tuple") (fun xs H Q => ∃ p ys, xs = [.ref p] ∧ ((SqL K H p ys ∧ ∀ l, H l = none → Q (.ref l) (upd H l (.tup ys))) ∨ (SqT K H p ys ∧ Q (.ref p) H))) := by subst hK; exact call_tuple_of
theorem call_isTK (hK : X.K = K := by rfl) : CallR X (.builtin "isinstance") (fun xs H Q => ∃ x c t b, xs = [x, .ty c] ∧ TyOf K H x t ∧ PySem.W.kitOne K t (.type c) = some b ∧ Q (.bl b) H) := by subst hK; exact call_isT
theorem sl_listK (hK : X.K = K := by rfl) : SlR X (rSlL K) := by subst hK; exact sl_list
theorem MtM.r {id : String} {r : V → List V → Hp → VK → Prop} (h : MtM X id r) : MtR X id r := h
end
end L2
/-! Numbers by keys: sums of weights. -/
namespace Nm
abbrev Ws := List (Int × Int)
noncomputable def keys (ws : Ws) : List Int := ws.map (·.1)
noncomputable def look : Ws → Int → Int
  | [], _ => 0
  | p :: r, k => if p.1 = k then p.2 else look r k
noncomputable def put : Ws → Int → Int → Ws
  | [], k, v => [(k, v)]
  | p :: r, k, v => if p.1 = k then (k, v) :: r else p :: put r k v
noncomputable def tot (ws : Ws) : Int := (ws.map (·.2)).sum
noncomputable def addk (ws : Ws) (k x : Int) : Ws := put ws k (look ws k + x)
noncomputable def addAll (ws ps : Ws) : Ws := ps.foldl (fun acc p => addk acc p.1 p.2) ws
noncomputable def prs (as bs : Ws) : Ws := as.flatMap fun a => bs.map fun b => (a.1 + b.1, a.2 * b.2)
noncomputable def bothW (as bs : Ws) : Ws := addAll [] (prs as bs)
noncomputable def cnt (ps : Ws) (s : Int) : Int := (ps.map fun p => if p.1 = s then p.2 else 0).sum

theorem sum_mul {α : Type} (f : α → Int) (c : Int) : ∀ l : List α, (l.map fun x => f x * c).sum = (l.map f).sum * c
  | [] => by simp
  | x :: r => by simp only [List.map_cons, List.sum_cons, sum_mul f c r, Int.add_mul]
/-- one list of weights, over another bottom: the same keys in any order, the weights times T are the others times B -/
structure Over (as ws : Ws) (B T : Int) : Prop where
  nd : (keys ws).Nodup
  perm : (keys as).Perm (keys ws)
  val : ∀ k ∈ keys ws, look as k * T = look ws k * B
/-- the rows of a table: each value's share of the bottom -/
noncomputable def rowsOf (ws : Ws) (B : Int) : List (Int × Int × Int) := (srt (keys ws)).map fun v => (v, st (look ws v) B, sb (look ws v) B)
theorem Over.refl {ws : Ws} (h : (keys ws).Nodup) (B : Int) : Over ws ws B B := ⟨h, .refl _, fun _ _ => rfl⟩
/-- the weights that a table's rows stand for, over a bottom that all theirs divide -/
noncomputable def weigh (rows : List (Int × Int × Int)) (B : Int) : Ws := rows.map fun r => (r.1, r.2.1 * (B / r.2.2))
end Nm
/-! Weights by keys as a dict; rows of a table as data. -/
namespace L2
open PySem PySem.Spec PyProof.Rows
noncomputable def enc (ws : Nm.Ws) : List (Key × V) := ws.map fun p => (Sum.inl p.1, V.int p.2)
/-- rows (value, top, bottom) as tuples of a value and a share -/
noncomputable def rowD (r : Int × Int × Int) : Dat := .tup [.int r.1, .tup [.int r.2.1, .int r.2.2]]
noncomputable def rowsD (rows : List (Int × Int × Int)) : Dat := .lst (rows.map rowD)
noncomputable def wrowD (p : Int × Int) : Dat := .tup [.int p.1, .int p.2]
noncomputable def wrowsD (ws : Nm.Ws) : Dat := .lst (ws.map wrowD)
theorem rep_wrow {H : Hp} {r : Int × Int} {v : V} : Rep H (wrowD r) v ↔ ∃ p, v = .ref p ∧ H p = some (.tup [.int r.1, .int r.2]) := by
  unfold wrowD
  simp only [Rep, RepL]
  constructor
  · rintro ⟨p, vs, rfl, hp, a, b, rfl, rfl, c, d, rfl, rfl, rfl⟩
    exact ⟨p, rfl, hp⟩
  · rintro ⟨p, rfl, hp⟩
    exact ⟨p, _, rfl, hp, _, _, rfl, rfl, _, _, rfl, rfl, rfl⟩
theorem rep_lst {H : Hp} {ds : List Dat} {v : V} : Rep H (.lst ds) v ↔ ∃ p vs, v = .ref p ∧ H p = some (.lst vs) ∧ RepL H ds vs := by rw [Rep]
/-- lists and tuples stay -/
noncomputable def Sqs (H H' : Hp) : Prop := ∀ p xs, (H p = some (.tup xs) → H' p = some (.tup xs)) ∧ (H p = some (.lst xs) → H' p = some (.lst xs))
mutual
theorem Rep.sqs {H H' : Hp} (s : Sqs H H') : ∀ {d : Dat} {v : V}, Rep H d v → Rep H' d v
  | .non, _, h => by rw [Rep] at *; exact h
  | .bl _, _, h => by rw [Rep] at *; exact h
  | .int _, _, h => by rw [Rep] at *; exact h
  | .str _, _, h => by rw [Rep] at *; exact h
  | .tup _, _, h => by
    rw [Rep] at *
    obtain ⟨p, vs, e, hp, r⟩ := h
    exact ⟨p, vs, e, (s _ _).1 hp, RepL.sqs s r⟩
  | .lst _, _, h => by
    rw [Rep] at *
    obtain ⟨p, vs, e, hp, r⟩ := h
    exact ⟨p, vs, e, (s _ _).2 hp, RepL.sqs s r⟩
theorem RepL.sqs {H H' : Hp} (s : Sqs H H') : ∀ {ds : List Dat} {vs : List V}, RepL H ds vs → RepL H' ds vs
  | [], _, h => by rw [RepL] at *; exact h
  | _ :: _, _, h => by
    rw [RepL] at *
    obtain ⟨v, r, e, h1, h2⟩ := h
    exact ⟨v, r, e, Rep.sqs s h1, RepL.sqs s h2⟩
end
theorem none_of {H H' : Hp} (s : Same H H') {p : Addr} (h : H' p = none) : H p = none := by
  cases e : H p with
  | none => rfl
  | some o => rw [s p o e] at h; cases h
end L2
/-! Means and parts of weights; comprehensions that yield numbers and leave the heap. -/
namespace Nm
noncomputable def mom (ws : Ws) : Int := (ws.map fun p => p.1 * p.2).sum
noncomputable def abv (n : Int) (ws : Ws) : Int := (ws.map fun p => if n ≤ p.1 then p.2 else 0).sum
end Nm
namespace L2
open PySem PySem.Spec PyProof.Rows
/-- numbers, one name -/
theorem comp_ints {α : Type} {J : It} {tc : TT} {te : TE} {tl : St} {H1 : Hp} {fin : List V → Hp → Prop} {Item : Nat → V → Hp → Hp → Prop} (as : List α) (f : α → Option Int) (S : Src J (Same H1) as.length Item) (sub : ∀ i x H H3, Item i x H H3 → H3 = H) (hz : as.length ≤ sizeLine)
    (hs : ∀ i a x, as[i]? = some a → Item i x H1 H1 → ∀ (Y : VK) (N : Hp → Prop), (∀ z, f a = some z → Y (.int z) H1) → (f a = none → N H1) → tc (some x :: tl) H1 fun b H5 => if b = true then te (some x :: tl) H5 Y else N H5)
    (hfin : fin (List.map V.int (as.filterMap f)) H1) : tBlock J (gName 0) tc te (none :: tl) H1 fin := by
  refine block_src S (fun σ => ∃ w0, σ = w0 :: tl) ⟨_, rfl⟩ (fun i ys H => H = H1 ∧ ys = List.map V.int ((as.take i).filterMap f)) ⟨rfl, by simp⟩ hz ?_ ?_
  · rintro i x σ H ys H3 Q N hi sm ⟨rfl, rfl⟩ hl ⟨w0, rfl⟩ it kq kn
    obtain rfl := sub _ _ _ _ it
    have ea : as[i]? = some as[i] := List.getElem?_eq_getElem hi
    refine hs i _ x ea it _ _ (fun z e => kq _ _ _ ⟨_, rfl⟩ sm ⟨rfl, ?_⟩) (fun e => kn _ _ ⟨_, rfl⟩ sm ⟨rfl, ?_⟩)
    · rw [List.take_add_one, ea, List.filterMap_append, List.map_append]
      simp [e]
    · rw [List.take_add_one, ea, List.filterMap_append, List.map_append]
      simp [e]
  · rintro ys H sm ⟨rfl, rfl⟩ hl
    rw [List.take_of_length_le (Nat.le_refl _)]
    exact hfin
theorem fm_some {α β : Type} (f : α → β) (l : List α) : l.filterMap (fun a => some (f a)) = l.map f := by
  rw [← List.filterMap_eq_map]; rfl
end L2
/-! sum of a dict's values; all, any of truths. -/
namespace L2
open PySem PySem.Spec PyProof.Rows PySem.W
section
variable {X : Cx} {K : PySem.W.Frag}
/-! ### sum(d.values()) -/
theorem kv_val {as : List (Key × V)} {bs : List (Key × Value)} (r : KV as bs) : ∀ (j : Nat) {b}, bs[j]? = some b → ∃ a, as[j]? = some a ∧ RelV a.2 b.2 := by
  induction r with
  | nil => intro j b e; simp at e
  | cons r1 r2 ih =>
    intro j b e
    cases j with
    | zero => simp at e; subst e; exact ⟨_, rfl, r1.2⟩
    | succ j => simp at e; obtain ⟨a, e1, e2⟩ := ih j e; exact ⟨a, by simpa using e1, e2⟩
noncomputable def tSumV (to : TE) : TE := fun σ H Q => to σ H fun v H1 => ∃ d kvs ns, v = .ref d ∧ H1 d = some (.dK kvs) ∧ kvs.map (·.2) = List.map V.int ns ∧ Q (.int ns.sum) H1
/-- one statement, then the rest, the rest kept apart -/
theorem seq_gen {a b : TS} {D : Ends} {σ : St} {H : Hp} (C : St → Hp → Prop) (hb : ∀ σ' H', C σ' H' → b D σ' H') (ha : ∀ N : St → Hp → Prop, (∀ σ' H', C σ' H' → N σ' H') → a { D with nx := N } σ H) : tSeq a b D σ H := ha _ hb
end
end L2
namespace Nm
/-- the rows of some weight, and the weights by values that they come to -/
noncomputable def pos (ps : Ws) : Ws := ps.filter fun p => decide (0 < p.2)
noncomputable def wof (ps : Ws) : Ws := addAll [] (pos ps)
noncomputable def bad (ps : Ws) : Prop := (∃ p ∈ ps, p.2 < 0) ∨ pos ps = []
end Nm
/-! Texts: join, startswith, find, split, f-strings; in a module's dict. -/
namespace L2
open PySem PySem.Spec PyProof.Rows PySem.W
section
variable {X : Cx} {K : PySem.W.Frag}
noncomputable def rJoin (K : PySem.W.Frag) : V → List V → Hp → VK → Prop := fun x xs H Q => ∃ sep p ts, x = .str sep ∧ xs = [.ref p] ∧ SqL K H p (List.map V.str ts) ∧ JoinOk sep ts = true ∧ Q (.str (Txt.join sep ts)) H
/-! ### f-strings -/
abbrev TJ := Str → TE
noncomputable def PJ (X : Cx) (es : List Expr) (t : TJ) : Prop :=
  ∀ (pins : List (Addr × Obj)) (s : Shared) (σ : St) (H : Hp) (acc : Str) (Q : VK), Inv X pins σ H s → acc.length ≤ sizeLine → t acc σ H Q → wpAny (model X.prog X.w) X.A (joinParts acc (evalEach es X.env)) (EP X pins σ Q) X.xe s
noncomputable def jNil : TJ := fun acc _ H Q => Q (.str acc) H
noncomputable def jLit (x : Str) (t : TJ) : TJ := fun acc σ H Q => (acc ++ x).length ≤ sizeLine ∧ t (acc ++ x) σ H Q
noncomputable def jInt (te : TE) (t : TJ) : TJ := fun acc σ H Q => te σ H fun v H1 => ∃ i, v = .int i ∧ i.natAbs.log2 < 1920 ∧ (acc ++ toString i).length ≤ sizeLine ∧ t (acc ++ toString i) σ H1 Q
noncomputable def jStr (te : TE) (t : TJ) : TJ := fun acc σ H Q => te σ H fun v H1 => ∃ z, v = .str z ∧ z.length ≤ sizeLine ∧ (acc ++ z).length ≤ sizeLine ∧ t (acc ++ z) σ H1 Q
noncomputable def tJoined (t : TJ) : TE := fun σ H Q => t Str.empty σ H Q
/-! ### in a module's dict of texts -/
noncomputable def rInMod (K : PySem.W.Frag) (P : Params) : R2 := fun x y H Q => ∃ z a es n, x = .str z ∧ y = .ref a ∧ K.lookup a = some ⟨.type "dict", none, .dict es n, #[]⟩ ∧ KeysLit P es.toList ∧ (a == sysModules) = false ∧ Q (.bl (findBy Value.isStrOf es z).isSome) H
noncomputable def keyS (e : DictEntry) : Str := match e.key with | .str x _ => x | _ => Str.empty
/-- a module's dict with these texts as keys -/
noncomputable def MDict (K : PySem.W.Frag) (P : Params) (a : Addr) (ks : List Str) : Prop := ∃ es n, K.lookup a = some ⟨.type "dict", none, .dict es n, #[]⟩ ∧ KeysLit P es.toList ∧ (a == sysModules) = false ∧ es.toList.map keyS = ks
theorem keys_find {P : Params} (z : Str) : ∀ {l : List DictEntry}, KeysLit P l → (l.find? fun d => Value.isStrOf z d.key).isSome = (l.map keyS).any fun k => decide (k = z)
  | [], _ => rfl
  | e :: r, ⟨⟨x, t, e1, _⟩, h⟩ => by
    rw [List.find?_cons, List.map_cons, List.any_cons, ← keys_find z h]
    have k : keyS e = x := by unfold keyS; rw [e1]
    have i : Value.isStrOf z e.key = decide (keyS e = z) := by
      rw [k, e1]
      show (x == z) = decide (x = z)
      by_cases c : x = z
      · simp [c]
      · simp [c]
    rw [i]
    by_cases c : keyS e = z
    · simp [c]
    · simp [c]
theorem MDict.rd {P : Params} {a : Addr} {ks : List Str} (h : MDict K P a ks) {z : Str} {H : Hp} {Q : VK} (q : Q (.bl (ks.any fun k => decide (k = z))) H) : rInMod K P (.str z) (.ref a) H Q := by
  obtain ⟨es, n, hl, hk, lo, e⟩ := h
  refine ⟨z, a, es, n, rfl, rfl, hl, hk, lo, ?_⟩
  have f : (findBy Value.isStrOf es z).isSome = ks.any fun k => decide (k = z) := by
    rw [← e, ← keys_find z hk]
    unfold findBy
    obtain ⟨l⟩ := es
    rw [List.find?_toArray]
    cases l.find? fun d => Value.isStrOf z d.key <;> rfl
  rw [f]
  exact q
end
end L2
/-! BOARDS: places as data; what lies apart from a list that grows; slices of lists. -/
namespace L2
open PySem PySem.Spec PyProof.Rows PySem.W
inductive Pl where
  | fin (w : Int × Int) | thr (w : Int × Int) (ws : List (Int × Int)) | pck (who : Int) (to : List Int)
noncomputable def plD : Pl → Dat
  | .fin w => .tup [.str (Str.ofString "end"), wrowD w]
  | .thr w ws => .tup [.str (Str.ofString "throw"), wrowD w, .lst (ws.map wrowD)]
  | .pck who to => .tup [.str (Str.ofString "pick"), .int who, .lst (to.map .int)]
noncomputable def brD (b : List Pl) : Dat := .lst (b.map plD)
theorem repL_ints {H : Hp} : ∀ {ns : List Int} {vs : List V}, RepL H (ns.map Dat.int) vs ↔ vs = ns.map V.int
  | [], vs => by simp only [List.map_nil, RepL]
  | n :: ns, vs => by
    simp only [List.map_cons, RepL, Rep]
    constructor
    · rintro ⟨v, r, rfl, rfl, h⟩
      rw [repL_ints.mp h]
    · rintro rfl
      exact ⟨_, _, rfl, rfl, repL_ints.mpr rfl⟩
theorem rep_fin {H : Hp} {w : Int × Int} {v : V} : Rep H (plD (.fin w)) v ↔ ∃ p q, v = .ref p ∧ H p = some (.tup [.str (Str.ofString "end"), .ref q]) ∧ H q = some (.tup [.int w.1, .int w.2]) := by
  show Rep H (.tup [.str (Str.ofString "end"), wrowD w]) v ↔ _
  rw [Rep]
  simp only [RepL, rep_wrow]
  constructor
  · rintro ⟨p, vs, rfl, hp, _, _, rfl, e, _, _, rfl, ⟨q, rfl, hq⟩, rfl⟩
    rw [Rep] at e
    subst e
    exact ⟨p, q, rfl, hp, hq⟩
  · rintro ⟨p, q, rfl, hp, hq⟩
    exact ⟨p, _, rfl, hp, _, _, rfl, by rw [Rep], _, _, rfl, ⟨q, rfl, hq⟩, rfl⟩
theorem rep_thr {H : Hp} {w : Int × Int} {ws : List (Int × Int)} {v : V} : Rep H (plD (.thr w ws)) v ↔ ∃ p q l xs, v = .ref p ∧ H p = some (.tup [.str (Str.ofString "throw"), .ref q, .ref l]) ∧ H q = some (.tup [.int w.1, .int w.2]) ∧ H l = some (.lst xs) ∧ RepL H (ws.map wrowD) xs := by
  show Rep H (.tup [.str (Str.ofString "throw"), wrowD w, .lst (ws.map wrowD)]) v ↔ _
  rw [Rep]
  simp only [RepL, rep_wrow]
  constructor
  · rintro ⟨p, vs, rfl, hp, _, _, rfl, e, _, _, rfl, ⟨q, rfl, hq⟩, _, _, rfl, k, rfl⟩
    rw [Rep] at e
    subst e
    obtain ⟨l, xs, rfl, hl, r⟩ := rep_lst.mp k
    exact ⟨p, q, l, xs, rfl, hp, hq, hl, r⟩
  · rintro ⟨p, q, l, xs, rfl, hp, hq, hl, r⟩
    exact ⟨p, _, rfl, hp, _, _, rfl, by rw [Rep], _, _, rfl, ⟨q, rfl, hq⟩, _, _, rfl, rep_lst.mpr ⟨l, xs, rfl, hl, r⟩, rfl⟩
theorem rep_pck {H : Hp} {who : Int} {to : List Int} {v : V} : Rep H (plD (.pck who to)) v ↔ ∃ p l, v = .ref p ∧ H p = some (.tup [.str (Str.ofString "pick"), .int who, .ref l]) ∧ H l = some (.lst (to.map V.int)) := by
  show Rep H (.tup [.str (Str.ofString "pick"), .int who, .lst (to.map .int)]) v ↔ _
  rw [Rep]
  simp only [RepL]
  constructor
  · rintro ⟨p, vs, rfl, hp, _, _, rfl, e, _, _, rfl, e2, _, _, rfl, k, rfl⟩
    rw [Rep] at e
    rw [Rep] at e2
    subst e e2
    obtain ⟨l, xs, rfl, hl, r⟩ := rep_lst.mp k
    rw [repL_ints] at r
    subst r
    exact ⟨p, l, rfl, hp, hl⟩
  · rintro ⟨p, l, rfl, hp, hl⟩
    exact ⟨p, _, rfl, hp, _, _, rfl, by rw [Rep], _, _, rfl, by rw [Rep], _, _, rfl, rep_lst.mpr ⟨l, _, rfl, hl, repL_ints.mpr rfl⟩, rfl⟩
theorem depth_flat {ds : List Dat} {n : Nat} (h : ∀ d ∈ ds, depth d ≤ n) : depth.dL ds ≤ n := by
  induction ds with
  | nil => rw [depth.dL]; omega
  | cons d ds ih =>
    rw [depth.dL]
    have := h d List.mem_cons_self
    have := ih fun e he => h e (List.mem_cons_of_mem _ he)
    omega
theorem depth_wrow (p : Int × Int) : depth (wrowD p) = 1 := by simp [wrowD, depth, depth.dL]
theorem depth_pl (q : Pl) : depth (plD q) ≤ 3 := by
  cases q with
  | fin w => simp [plD, depth, depth.dL, depth_wrow]
  | thr w ws =>
    have := depth_flat (ds := ws.map wrowD) (n := 1) fun d hd => by obtain ⟨p, _, rfl⟩ := List.mem_map.mp hd; rw [depth_wrow]; exact Nat.le_refl _
    simp only [plD, depth, depth.dL, depth_wrow]
    omega
  | pck who to =>
    have := depth_flat (ds := to.map Dat.int) (n := 0) fun d hd => by obtain ⟨p, _, rfl⟩ := List.mem_map.mp hd; simp [depth]
    simp only [plD, depth, depth.dL]
    omega
theorem rep_br_get {H : Hp} {b : List Pl} {xs : List V} {i : Nat} {x : V} (h : RepL H (b.map plD) xs) (e : xs[i]? = some x) : ∃ q, b[i]? = some q ∧ Rep H (plD q) x := by
  obtain ⟨d, ed, rd⟩ := h.get e
  rw [List.getElem?_map] at ed
  obtain ⟨q, eq, rfl⟩ := Option.map_eq_some_iff.mp ed
  exact ⟨q, eq, rd⟩
theorem repL_map {α : Type} {H : Hp} {f : α → Dat} {as : List α} {ys : List V} (hl : ys.length = as.length) (h : ∀ (i : Nat) y, ys[i]? = some y → ∀ a, as[i]? = some a → Rep H (f a) y) : RepL H (as.map f) ys :=
  RepL.of (by rw [List.length_map, hl]) fun i d v e1 e2 => by
    rw [List.getElem?_map] at e1
    obtain ⟨a, ea, rfl⟩ := Option.map_eq_some_iff.mp e1
    exact h i v e2 a ea
/-- the heap without one object -/
noncomputable def hid (H : Hp) (p : Addr) : Hp := fun a => if a = p then none else H a
theorem hid_ne {H : Hp} {p a : Addr} (h : a ≠ p) : hid H p a = H a := if_neg h
theorem hid_upd {H : Hp} {p : Addr} {o : HO} : Same (hid H p) (upd H p o) := fun a u e => by
  unfold hid at e
  by_cases h : a = p
  · rw [if_pos h] at e; cases e
  · rw [if_neg h] at e; rw [upd_ne h]; exact e
theorem hid_sub {H : Hp} {p : Addr} : Same (hid H p) H := fun a u e => by
  unfold hid at e
  by_cases h : a = p
  · rw [if_pos h] at e; cases e
  · rw [if_neg h] at e; exact e
theorem same_hid {H0 H : Hp} {p : Addr} (s : Same H0 H) (n : H0 p = none) : Same H0 (hid H p) := fun a u e => by
  rw [hid_ne (fun z => by rw [z, n] at e; cases e)]
  exact s _ _ e
theorem hid_mono {H H' : Hp} {p : Addr} (s : Same H H') : Same (hid H p) (hid H' p) := fun a u e => by
  unfold hid at *
  by_cases h : a = p
  · rw [if_pos h] at e; cases e
  · rw [if_neg h] at e ⊢; exact s _ _ e
theorem same_upd_of {H0 H : Hp} {p : Addr} {o : HO} (s : Same H0 H) (n : H0 p = none) : Same H0 (upd H p o) := (same_hid s n).trans hid_upd
theorem cut_take {xs : List V} {k : Int} (h : 0 ≤ k) : cutV xs none (some k) = xs.take k.toNat := by
  unfold cutV
  obtain ⟨n, rfl⟩ := Int.eq_ofNat_of_zero_le h
  rw [HT.sIx_none, show ((n : Nat) : Int) = Int.ofNat n from rfl]
  rw [show HT.sIx xs.length xs.length (some (Int.ofNat n)) = min n xs.length from HT.sIx_nat _ _ n]
  rw [List.drop_zero, Nat.sub_zero]
  show xs.take (min n xs.length) = xs.take n
  by_cases h : n ≤ xs.length
  · rw [Nat.min_eq_left h]
  · rw [Nat.min_eq_right (by omega), List.take_of_length_le (Nat.le_refl _), List.take_of_length_le (by omega)]
theorem atI_pl {α β : Type} {f : α → β} {as : List α} {i : Nat} {a : α} (h : as[i]? = some a) : atI (as.map f) (i : Int) = some (f a) := atI_nat (by rw [List.getElem?_map, h]; rfl)
/-! ### while, by states; comprehensions whose blocks lay objects -/
/-! ### min, max of a list; lists of plain values compared -/
section
variable {X : Cx} {K : PySem.W.Frag}
theorem op_catTK (hK : X.K = K := by rfl) : OpR X (binaryOp .Add) (rCatT K) := by subst hK; exact op_catT
noncomputable def rEqF : R2 := fun x y H Q => ∃ p q xs ys, x = .ref p ∧ y = .ref q ∧ H p = some (.lst xs) ∧ H q = some (.lst ys) ∧ xs.all flatV = true ∧ ys.all flatV = true ∧ Q (.bl (eqL xs ys)) H
end
end L2
/-! LEVELS of a board, round by round. -/
namespace Lv
open L2
abbrev Fs := List (Option Int)
noncomputable def gls : Pl → List Int
  | .fin _ => []
  | .thr _ ws => ws.map (·.2)
  | .pck _ to => to
noncomputable def lk (fs : Fs) (g : Int) : Option Int := fs.getD g.toNat none
noncomputable def rdy (fs : Fs) (q : Pl) : Bool :=
  match q with
  | .thr _ ws => (ws.map (·.2)).any fun g => (lk fs g).isSome
  | .fin _ => true
  | .pck _ to => to.all fun g => (lk fs g).isSome
noncomputable def isRdy (b : List Pl) (fs : Fs) (i : Nat) : Bool := (fs.getD i none).isNone && (match b[i]? with | some q => rdy fs q | none => false)
noncomputable def fresh (b : List Pl) (fs : Fs) : List Nat := (List.range b.length).filter (isRdy b fs)
noncomputable def setAll (fs : Fs) (is : List Nat) (L : Int) : Fs := is.foldl (fun acc i => acc.set i (some L)) fs
noncomputable def run (b : List Pl) : Nat → Fs → Int → Fs
  | 0, fs, _ => fs
  | m + 1, fs, L => if fresh b fs = [] then fs else run b m (setAll fs (fresh b fs) L) (L + 1)
noncomputable def lv0 : Pl → Option Int
  | .fin _ => some 0
  | _ => none
noncomputable def fs0 (b : List Pl) : Fs := b.map lv0
noncomputable def lvs (b : List Pl) : Fs := run b b.length (fs0 b) 1
noncomputable def nones (fs : Fs) : Nat := fs.countP (·.isNone)
theorem set_len (fs : Fs) : ∀ (is : List Nat) (L : Int), (setAll fs is L).length = fs.length
  | is, L => by
    induction is generalizing fs with
    | nil => rfl
    | cons i is ih =>
      show (setAll (fs.set i (some L)) is L).length = _
      rw [ih, List.length_set]
theorem set_get (L : Int) : ∀ (is : List Nat) (fs : Fs) (k : Nat), (setAll fs is L)[k]? = if k ∈ is ∧ k < fs.length then some (some L) else fs[k]?
  | [], fs, k => by simp [setAll]
  | i :: is, fs, k => by
    show (setAll (fs.set i (some L)) is L)[k]? = _
    rw [set_get L is, List.length_set]
    by_cases h : k < fs.length
    · by_cases h1 : k ∈ is
      · rw [if_pos ⟨h1, h⟩, if_pos ⟨List.mem_cons_of_mem _ h1, h⟩]
      · rw [if_neg (fun z => h1 z.1)]
        by_cases h2 : k = i
        · subst h2
          rw [if_pos ⟨List.mem_cons_self, h⟩, List.getElem?_set_self h]
        · rw [if_neg (fun z => (List.mem_cons.mp z.1).elim h2 h1), List.getElem?_set_ne (Ne.symm h2)]
    · rw [if_neg (fun z => h z.2), if_neg (fun z => h z.2), List.getElem?_eq_none (by rw [List.length_set]; omega), List.getElem?_eq_none (by omega)]
theorem fresh_mem {b : List Pl} {fs : Fs} {i : Nat} : i ∈ fresh b fs ↔ i < b.length ∧ isRdy b fs i = true := by
  unfold fresh
  rw [List.mem_filter, List.mem_range]
theorem fresh_none {b : List Pl} {fs : Fs} (hl : fs.length = b.length) {i : Nat} (h : i ∈ fresh b fs) : fs[i]? = some none := by
  obtain ⟨h1, h2⟩ := fresh_mem.mp h
  unfold isRdy at h2
  rw [Bool.and_eq_true] at h2
  have e : fs[i]? = some fs[i] := List.getElem?_eq_getElem (by omega)
  rw [List.getD_eq_getElem?_getD, e] at h2
  rw [e]
  cases h : fs[i] with
  | none => rfl
  | some v => rw [h] at h2; simp at h2
/-- what a place's level is while rounds go on -/
noncomputable def At (fs : Fs) (L : Int) (i : Nat) : Pl → Prop
  | .fin _ => fs[i]? = some (some 0)
  | .thr _ ws => (fs[i]? = some none ∧ ∀ g ∈ ws.map (·.2), ∀ u, lk fs g = some u → u = L - 1) ∨
      ∃ v, fs[i]? = some (some v) ∧ 1 ≤ v ∧ (∃ g ∈ ws.map (·.2), lk fs g = some (v - 1)) ∧ ∀ g ∈ ws.map (·.2), ∀ u, lk fs g = some u → v - 1 ≤ u
  | .pck _ to => (fs[i]? = some none ∧ ((∀ g ∈ to, (lk fs g).isSome = true) → ∃ g ∈ to, lk fs g = some (L - 1))) ∨
      ∃ v, fs[i]? = some (some v) ∧ 1 ≤ v ∧ (∀ g ∈ to, ∃ u, lk fs g = some u ∧ u ≤ v - 1) ∧ ∃ g ∈ to, lk fs g = some (v - 1)
structure Good (b : List Pl) : Prop where
  rng : ∀ q ∈ b, ∀ g ∈ gls q, 0 ≤ g ∧ g < b.length
  pck : ∀ q ∈ b, ∀ w to, q = .pck w to → to ≠ []
structure Inv (b : List Pl) (fs : Fs) (L : Int) : Prop where
  len : fs.length = b.length
  lt : ∀ (i : Nat) (v : Int), fs[i]? = some (some v) → 0 ≤ v ∧ v < L
  at_ : ∀ (i : Nat) q, b[i]? = some q → At fs L i q
theorem inv0 {b : List Pl} (g : Good b) : Inv b (fs0 b) 1 := by
  have h0 : ∀ (i : Nat) (v : Int), (fs0 b)[i]? = some (some v) → v = 0 := fun i v e => by
    unfold fs0 at e
    rw [List.getElem?_map] at e
    obtain ⟨q, _, e⟩ := Option.map_eq_some_iff.mp e
    cases q <;> simp [lv0] at e
    exact e.symm
  have hk : ∀ (g u : Int), lk (fs0 b) g = some u → u = 0 := fun g u e => by
    unfold lk at e
    rw [List.getD_eq_getElem?_getD] at e
    cases h : (fs0 b)[g.toNat]? with
    | none => rw [h] at e; simp at e
    | some o => rw [h] at e; simp at e; subst e; exact h0 _ _ h
  refine ⟨by simp [fs0], fun i v e => by have := h0 i v e; omega, fun i q e => ?_⟩
  have e2 : (fs0 b)[i]? = some (lv0 q) := by unfold fs0; rw [List.getElem?_map, e]; rfl
  cases q with
  | fin w => exact e2
  | thr w ws => exact .inl ⟨e2, fun g _ u h => hk g u h⟩
  | pck w to =>
    refine .inl ⟨e2, fun h => ?_⟩
    cases to with
    | nil => exact absurd rfl (g.pck _ (List.mem_of_getElem? e) _ _ rfl)
    | cons x r =>
      refine ⟨x, List.mem_cons_self, ?_⟩
      have := h x List.mem_cons_self
      obtain ⟨u, hu⟩ := Option.isSome_iff_exists.mp this
      have := hk x u hu
      rw [hu, this]
      rfl
theorem lk_of {fs : Fs} {g : Int} {u : Int} : lk fs g = some u ↔ fs[g.toNat]? = some (some u) := by
  unfold lk
  rw [List.getD_eq_getElem?_getD]
  cases h : fs[g.toNat]? with
  | none => simp
  | some o => simp
theorem step {b : List Pl} (gb : Good b) {fs : Fs} {L : Int} (I : Inv b fs L) (L1 : 1 ≤ L) : Inv b (setAll fs (fresh b fs) L) (L + 1) := by
  have hl := I.len
  have get : ∀ (k : Nat), (setAll fs (fresh b fs) L)[k]? = if k ∈ fresh b fs ∧ k < fs.length then some (some L) else fs[k]? := set_get L _ _
  have old : ∀ (k : Nat) (v : Int), fs[k]? = some (some v) → (setAll fs (fresh b fs) L)[k]? = some (some v) := fun k v e => by
    rw [get, if_neg, e]
    intro z
    rw [fresh_none hl z.1] at e
    cases e
  have lold : ∀ (g u : Int), lk fs g = some u → lk (setAll fs (fresh b fs) L) g = some u := fun g u h => lk_of.mpr (old _ _ (lk_of.mp h))
  have lnew : ∀ (g u : Int), lk (setAll fs (fresh b fs) L) g = some u → lk fs g = some u ∨ u = L := fun g u h => by
    have h := lk_of.mp h
    rw [get] at h
    split at h
    · right; simpa using h.symm
    · exact .inl (lk_of.mpr h)
  refine ⟨by rw [set_len]; exact hl, fun i v e => ?_, fun i q e => ?_⟩
  · rw [get] at e
    split at e
    · simp at e; omega
    · have := I.lt i v e; omega
  · have hi : i < b.length := (List.getElem?_eq_some_iff.mp e).1
    have A := I.at_ i q e
    have rd : ∀ (q : Pl), b[i]? = some q → fs[i]? = some none → (i ∈ fresh b fs ↔ rdy fs q = true) := fun q e e2 => by
      rw [fresh_mem]
      unfold isRdy
      rw [List.getD_eq_getElem?_getD, e2, e]
      simp [hi]
    cases q with
    | fin w => exact old _ _ A
    | thr w ws =>
      rcases A with ⟨a1, a2⟩ | ⟨v, a1, a2, ⟨x, hx, a3⟩, a4⟩
      · by_cases c : i ∈ fresh b fs
        · right
          refine ⟨L, by rw [get, if_pos ⟨c, by omega⟩], L1, ?_, fun g hg u h => ?_⟩
          · have := (rd _ e a1).mp c
            have : (ws.map (·.2)).any (fun g => (lk fs g).isSome) = true := this
            obtain ⟨x, hx, h⟩ := List.any_eq_true.mp this
            obtain ⟨u, hu⟩ := Option.isSome_iff_exists.mp h
            have := a2 x hx u hu
            subst this
            exact ⟨x, hx, lold _ _ hu⟩
          · rcases lnew _ _ h with h | h
            · have := a2 g hg u h; omega
            · omega
        · left
          refine ⟨by rw [get, if_neg (fun z => c z.1)]; exact a1, fun g hg u h => ?_⟩
          rcases lnew _ _ h with h | h
          · exfalso
            refine c ((rd _ e a1).mpr ?_)
            show (ws.map (·.2)).any (fun g => (lk fs g).isSome) = true
            exact List.any_eq_true.mpr ⟨g, hg, by rw [h]; rfl⟩
          · omega
      · right
        refine ⟨v, old _ _ a1, a2, ⟨x, hx, lold _ _ a3⟩, fun g hg u h => ?_⟩
        rcases lnew _ _ h with h | h
        · exact a4 g hg u h
        · have := I.lt i v a1; omega
    | pck w to =>
      rcases A with ⟨a1, a2⟩ | ⟨v, a1, a2, a3, x, hx, a4⟩
      · by_cases c : i ∈ fresh b fs
        · right
          have r := (rd _ e a1).mp c
          have r : to.all (fun g => (lk fs g).isSome) = true := r
          have r := List.all_eq_true.mp r
          obtain ⟨x, hx, h⟩ := a2 r
          refine ⟨L, by rw [get, if_pos ⟨c, by omega⟩], L1, fun g hg => ?_, x, hx, lold _ _ h⟩
          obtain ⟨u, hu⟩ := Option.isSome_iff_exists.mp (r g hg)
          exact ⟨u, lold _ _ hu, by have := I.lt _ _ (lk_of.mp hu); omega⟩
        · left
          refine ⟨by rw [get, if_neg (fun z => c z.1)]; exact a1, fun h => ?_⟩
          have : ¬ ∀ g ∈ to, (lk fs g).isSome = true := fun z => c ((rd _ e a1).mpr (show to.all (fun g => (lk fs g).isSome) = true from List.all_eq_true.mpr z))
          have : ∃ g ∈ to, lk fs g = none := by
            apply Classical.byContradiction
            intro n
            apply this
            intro g hg
            cases h : lk fs g with
            | none => exact absurd ⟨g, hg, h⟩ n
            | some u => rfl
          obtain ⟨g, hg, hn⟩ := this
          obtain ⟨u, hu⟩ := Option.isSome_iff_exists.mp (h g hg)
          refine ⟨g, hg, ?_⟩
          rcases lnew _ _ hu with h | h
          · rw [hn] at h; cases h
          · rw [hu, h]; congr 1; omega
      · right
        refine ⟨v, old _ _ a1, a2, fun g hg => ?_, x, hx, lold _ _ a4⟩
        obtain ⟨u, h1, h2⟩ := a3 g hg
        exact ⟨u, lold _ _ h1, h2⟩
/-- what the levels are in the end -/
noncomputable def Ends (fs : Fs) (i : Nat) : Pl → Prop
  | .fin _ => fs[i]? = some (some 0)
  | .thr _ ws => (fs[i]? = some none ∧ ∀ g ∈ ws.map (·.2), lk fs g = none) ∨
      ∃ v, fs[i]? = some (some v) ∧ 1 ≤ v ∧ (∃ g ∈ ws.map (·.2), lk fs g = some (v - 1)) ∧ ∀ g ∈ ws.map (·.2), ∀ u, lk fs g = some u → v - 1 ≤ u
  | .pck _ to => (fs[i]? = some none ∧ ∃ g ∈ to, lk fs g = none) ∨
      ∃ v, fs[i]? = some (some v) ∧ 1 ≤ v ∧ (∀ g ∈ to, ∃ u, lk fs g = some u ∧ u ≤ v - 1) ∧ ∃ g ∈ to, lk fs g = some (v - 1)
end Lv
/-! PLACES REACHED, turn by turn: each with where it was found from and the way gone. -/
namespace Bf
open L2 Lv
abbrev En := Int × Option (Int × Nat) × List Nat
noncomputable def keys (es : List En) : List Int := es.map (·.1)
noncomputable def gAt (b : List Pl) (k : Int) : List Int := match b[k.toNat]? with | some q => gls q | none => []
noncomputable def addG (here : Int) (path : List Nat) : Nat → List Int → List En → List En
  | _, [], es => es
  | w, g :: gs, es => addG here path (w + 1) gs (if g ∈ keys es then es else es ++ [(g, some (here, w), path ++ [w])])
noncomputable def bfs (b : List Pl) : Nat → Nat → List En → List En
  | 0, _, es => es
  | m + 1, t, es => match es[t]? with | none => es | some e => bfs b m (t + 1) (addG e.1 e.2.2 0 (gAt b e.1) es)
noncomputable def steps (b : List Pl) (start : Int) : List En := bfs b (b.length + 1) 0 [(start, none, [])]
structure Core (b : List Pl) (start : Int) (es : List En) : Prop where
  nd : (keys es).Nodup
  rng : ∀ e ∈ es, 0 ≤ e.1 ∧ e.1 < b.length
  hd : es[0]? = some (start, none, [])
  par : ∀ (i : Nat) e, es[i]? = some e → 0 < i → ∃ (j : Nat) (ej : En) (w : Nat), j < i ∧ es[j]? = some ej ∧ e.2.1 = some (ej.1, w) ∧ (gAt b ej.1)[w]? = some e.1 ∧ e.2.2 = ej.2.2 ++ [w]
  mono : ∀ (i j : Nat) ei ej, i ≤ j → es[i]? = some ei → es[j]? = some ej → ei.2.2.length ≤ ej.2.2.length
/-- the turn's own goals, as far as they are gone through -/
structure Mid (b : List Pl) (start : Int) (t : Nat) (e : En) (k : Nat) (es : List En) : Prop extends Core b start es where
  at_ : es[t]? = some e
  top : ∀ (i : Nat) ei, es[i]? = some ei → ei.2.2.length ≤ e.2.2.length + 1
  old : ∀ (j : Nat) ej, j < t → es[j]? = some ej → ∀ g ∈ gAt b ej.1, ∃ (i : Nat) (ei : En), es[i]? = some ei ∧ ei.1 = g ∧ ei.2.2.length ≤ ej.2.2.length + 1
  now : ∀ g ∈ (gAt b e.1).take k, ∃ (i : Nat) (ei : En), es[i]? = some ei ∧ ei.1 = g ∧ ei.2.2.length ≤ e.2.2.length + 1
structure Inv (b : List Pl) (start : Int) (t : Nat) (es : List En) : Prop extends Core b start es where
  top : ∀ (i : Nat) ei et, es[i]? = some ei → es[t]? = some et → ei.2.2.length ≤ et.2.2.length + 1
  old : ∀ (j : Nat) ej, j < t → es[j]? = some ej → ∀ g ∈ gAt b ej.1, ∃ (i : Nat) (ei : En), es[i]? = some ei ∧ ei.1 = g ∧ ei.2.2.length ≤ ej.2.2.length + 1
theorem get_snoc {α : Type} {l : List α} {x y : α} {i : Nat} (h : (l ++ [x])[i]? = some y) : l[i]? = some y ∨ (i = l.length ∧ y = x) := by
  by_cases c : i < l.length
  · rw [List.getElem?_append_left c] at h
    exact .inl h
  · rw [List.getElem?_append_right (by omega)] at h
    have : i - l.length = 0 := by
      by_cases q : i - l.length = 0
      · exact q
      · rw [List.getElem?_eq_none (by simp; omega)] at h; cases h
    rw [this] at h
    simp at h
    exact .inr ⟨by omega, h.symm⟩
theorem up {α : Type} {l : List α} {x y : α} {i : Nat} (h : l[i]? = some y) : (l ++ [x])[i]? = some y := by
  rw [List.getElem?_append_left (List.getElem?_eq_some_iff.mp h).1]
  exact h
theorem one {b : List Pl} (gb : Good b) {start : Int} {t : Nat} {e : En} {k : Nat} {es : List En} {g : Int} (M : Mid b start t e k es) (hg : (gAt b e.1)[k]? = some g) :
    Mid b start t e (k + 1) (if g ∈ keys es then es else es ++ [(g, some (e.1, k), e.2.2 ++ [k])]) := by
  have tk : (gAt b e.1).take (k + 1) = (gAt b e.1).take k ++ [g] := by rw [List.take_add_one, hg]; rfl
  by_cases c : g ∈ keys es
  · rw [if_pos c]
    refine { M with now := fun x hx => ?_ }
    rw [tk] at hx
    rcases List.mem_append.mp hx with hx | hx
    · exact M.now x hx
    · have : x = g := by simpa using hx
      subst this
      obtain ⟨ei, hei, rfl⟩ := List.mem_map.mp c
      obtain ⟨i, hi⟩ := List.getElem?_of_mem hei
      exact ⟨i, ei, hi, rfl, M.top i ei hi⟩
  · rw [if_neg c]
    have rg : 0 ≤ g ∧ g < b.length := by
      unfold gAt at hg
      cases hb : b[e.1.toNat]? with
      | none => rw [hb] at hg; simp at hg
      | some q =>
        rw [hb] at hg
        exact gb.rng q (List.mem_of_getElem? hb) g (List.mem_of_getElem? hg)
    have tl : t < es.length := (List.getElem?_eq_some_iff.mp M.at_).1
    refine ⟨⟨?_, fun x hx => ?_, up M.hd, fun i x hx i0 => ?_, fun i j ei ej hij hi hj => ?_⟩, up M.at_, fun i ei hi => ?_, fun j ej hj hej x hx => ?_, fun x hx => ?_⟩
    · unfold keys at *
      rw [List.map_append]
      refine List.nodup_append.mpr ⟨M.nd, by simp, fun a ha b' hb' => ?_⟩
      have : b' = g := by simpa using hb'
      subst this
      intro z
      exact c (z ▸ ha)
    · rcases List.mem_append.mp hx with hx | hx
      · exact M.rng x hx
      · have : x = (g, some (e.1, k), e.2.2 ++ [k]) := by simpa using hx
        subst this
        exact rg
    · rcases get_snoc hx with hx | ⟨rfl, rfl⟩
      · obtain ⟨j, ej, w, a1, a2, a3⟩ := M.par i x hx i0
        exact ⟨j, ej, w, a1, up a2, a3⟩
      · exact ⟨t, e, k, tl, up M.at_, rfl, hg, rfl⟩
    · rcases get_snoc hi with hi | ⟨rfl, rfl⟩
      · rcases get_snoc hj with hj | ⟨rfl, rfl⟩
        · exact M.mono i j ei ej hij hi hj
        · have := M.top i ei hi
          simpa using this
      · rcases get_snoc hj with hj | ⟨rfl, rfl⟩
        · have := (List.getElem?_eq_some_iff.mp hj).1
          omega
        · exact Nat.le_refl _
    · rcases get_snoc hi with hi | ⟨rfl, rfl⟩
      · exact M.top i ei hi
      · simp
    · rcases get_snoc hej with hej | ⟨rfl, rfl⟩
      · obtain ⟨i, ei, a1, a2⟩ := M.old j ej hj hej x hx
        exact ⟨i, ei, up a1, a2⟩
      · omega
    · rw [tk] at hx
      rcases List.mem_append.mp hx with hx | hx
      · obtain ⟨i, ei, a1, a2⟩ := M.now x hx
        exact ⟨i, ei, up a1, a2⟩
      · have : x = g := by simpa using hx
        subst this
        exact ⟨es.length, (x, some (e.1, k), e.2.2 ++ [k]), by rw [List.getElem?_append_right (Nat.le_refl _)]; simp, rfl, by simp⟩
theorem addG_mid {b : List Pl} (gb : Good b) {start : Int} {t : Nat} {e : En} : ∀ (gs : List Int) (k : Nat) (es : List En), Mid b start t e k es → (∀ (i : Nat) g, gs[i]? = some g → (gAt b e.1)[k + i]? = some g) → Mid b start t e (k + gs.length) (addG e.1 e.2.2 k gs es)
  | [], k, es, M, _ => M
  | g :: gs, k, es, M, h => by
    have := addG_mid gb gs (k + 1) _ (one gb M (h 0 g rfl)) fun i x hx => by
      have := h (i + 1) x (by simpa using hx)
      rwa [show k + 1 + i = k + (i + 1) by omega]
    rw [List.length_cons, show k + (gs.length + 1) = k + 1 + gs.length by omega]
    exact this
theorem mid_of {b : List Pl} {start : Int} {t : Nat} {e : En} {es : List En} (I : Inv b start t es) (h : es[t]? = some e) : Mid b start t e 0 es :=
  { I with at_ := h, top := fun i ei hi => I.top i ei e hi h, now := fun g hg => by simp at hg }
theorem inv_of {b : List Pl} {start : Int} {t : Nat} {e : En} {es : List En} (M : Mid b start t e (gAt b e.1).length es) : Inv b start (t + 1) es := by
  refine { M with top := fun i ei et hi ht => ?_, old := fun j ej hj hej g hg => ?_ }
  · have h1 := M.top i ei hi
    have h2 := M.mono t (t + 1) e et (by omega) M.at_ ht
    omega
  · by_cases c : j < t
    · exact M.old j ej c hej g hg
    · have : j = t := by omega
      subst this
      rw [M.at_] at hej
      cases hej
      exact M.now g (by rw [List.take_of_length_le (Nat.le_refl _)]; exact hg)
theorem turn {b : List Pl} (gb : Good b) {start : Int} {t : Nat} {e : En} {es : List En} (I : Inv b start t es) (h : es[t]? = some e) : Inv b start (t + 1) (addG e.1 e.2.2 0 (gAt b e.1) es) := by
  have := addG_mid gb (gAt b e.1) 0 es (mid_of I h) fun i g hg => by rw [Nat.zero_add]; exact hg
  rw [Nat.zero_add] at this
  exact inv_of this
theorem inv0 {b : List Pl} {start : Int} (h0 : 0 ≤ start) (h1 : start < b.length) : Inv b start 0 [(start, none, [])] := by
  refine ⟨⟨by simp [keys], fun e he => ?_, rfl, fun i e he hi => ?_, fun i j ei ej _ hi hj => ?_⟩, fun i ei et hi ht => ?_, fun j ej hj => by omega⟩
  · have : e = (start, none, []) := by simpa using he
    subst this
    exact ⟨h0, h1⟩
  · rw [List.getElem?_eq_none (by simp; omega)] at he
    cases he
  · cases i with
    | zero => simp at hi; subst hi; simp
    | succ i => rw [List.getElem?_eq_none (by simp)] at hi; cases hi
  · cases i with
    | zero => simp at hi; subst hi; simp
    | succ i => rw [List.getElem?_eq_none (by simp)] at hi; cases hi
theorem few_nat : ∀ (n : Nat) (l : List Nat), l.Nodup → (∀ x ∈ l, x < n) → l.length ≤ n
  | 0, l, _, h => by
    cases l with
    | nil => exact Nat.le_refl _
    | cons x r => have := h x List.mem_cons_self; omega
  | n + 1, l, nd, h => by
    have := few_nat n (l.erase n) (nd.erase n) fun x hx => by
      have h1 := (nd.mem_erase_iff).mp hx
      have := h x h1.2
      have := h1.1
      omega
    have := List.length_erase (a := n) (l := l)
    split at this <;> omega
theorem few_of {n : Nat} {l : List Int} (nd : l.Nodup) (h : ∀ x ∈ l, 0 ≤ x ∧ x < (n : Int)) : l.length ≤ n := by
  have := few_nat n (l.map Int.toNat) (by
    unfold List.Nodup at *
    rw [List.pairwise_map]
    refine nd.imp_of_mem ?_
    intro a b ha hb hab z
    have := h a ha
    have := h b hb
    omega) fun x hx => by
      obtain ⟨y, hy, rfl⟩ := List.mem_map.mp hx
      have := h y hy
      omega
  rwa [List.length_map] at this
theorem Core.few {b : List Pl} {start : Int} {es : List En} (C : Core b start es) : es.length ≤ b.length := by
  have := few_of (n := b.length) C.nd fun x hx => by
    obtain ⟨e, he, rfl⟩ := List.mem_map.mp hx
    exact C.rng e he
  unfold keys at this
  rwa [List.length_map] at this
/-- going along a list of ways -/
noncomputable def go (b : List Pl) : Int → List Nat → Option Int
  | k, [] => some k
  | k, w :: ws => match (gAt b k)[w]? with | some g => go b g ws | none => none
end Bf
/-! list(reversed(x)), {k: v}, list of a dict. -/
namespace PySem
section
variable {prog : Program} {w : World} {A : Around} {E : Value → Shared → Prop} {s : Shared}
end
end PySem
namespace L2
open PySem PySem.Spec PyProof.Rows PySem.W
section
variable {X : Cx} {K : PySem.W.Frag}
noncomputable def tRev (K : PySem.W.Frag) (te : TE) : TE := fun σ H Q => te σ H fun v H1 => ∃ p xs, v = .ref p ∧ SqL K H1 p xs ∧ ∀ l, H1 l = none → Q (.ref l) (upd H1 l (.lst xs.reverse))
/-- {k: v} -/
noncomputable def tD1 (tk tv : TE) : TE := fun σ H Q => ∀ d, H d = none → tk σ (upd H d (.dK [])) fun x H1 => tv σ H1 fun v H2 => ∃ k, x = kV k ∧ H2 d = some (.dK []) ∧ Q (.ref d) (upd H2 d (.dK [(k, v)]))
end
end L2
/-! list of a dict: its keys. -/
namespace PySem
section
variable {prog : Program} {w : World} {A : Around} {E : Value → Shared → Prop} {s : Shared}
variable {κ : Type} [DecidableEq κ] {knd : KeyKind prog w κ}
end
end PySem
namespace L2
open PySem PySem.Spec PyProof.Rows PySem.W
section
variable {X : Cx}
end
end L2
/-! max of a list with a default, list of a range. -/
namespace PySem
section
variable {prog : Program} {w : World} {A : Around} {R : Result → Shared → Prop} {I : Addr} {fp wr : List Addr} {n : Nat} {P : Nat → Value → Prop} {St : Nat → Heap → Prop} {kw : List (Str × Value)}
end
section
variable {prog : Program} {w : World} {A : Around} {E : Value → Shared → Prop} {s : Shared}
end
end PySem
namespace L2
open PySem PySem.Spec PyProof.Rows PySem.W
section
variable {X : Cx} {K : PySem.W.Frag}
noncomputable def tMaxD (K : PySem.W.Frag) (te td : TE) : TE := fun σ H Q => te σ H fun v H1 => td σ H1 fun dv H2 => ∃ p ns, v = .ref p ∧ SqL K H2 p (List.map V.int ns) ∧ (ns = [] → Q dv H2) ∧ ∀ M, M ∈ ns → (∀ a ∈ ns, a ≤ M) → Q (.int M) H2
/-- list(range(n)) -/
noncomputable def tLR (te : TE) : TE := fun σ H Q => te σ H fun v H1 => ∃ n : Nat, v = .int (n : Int) ∧ n ≤ 1000000 ∧ ∀ l, H1 l = none → Q (.ref l) (upd H1 l (.lst ((List.range n).map fun i : Nat => V.int (i : Int))))
end
end L2
/-! SORTING by any answers: what is told is what was handed in, in another order. -/
namespace KS
open PySem PySem.W PyProof.Rows
/-- all asks are of places below n; what is told in the end is post -/
noncomputable def Bd {α : Type} (lt : Nat → Nat → Bool) (n : Nat) (post : α → Prop) : KasT α → Prop
  | .ret a => post a
  | .ask i j k => i < n ∧ j < n ∧ Bd lt n post (k (lt i j))
theorem Bd.bind {α β : Type} {lt : Nat → Nat → Bool} {n : Nat} {post : β → Prop} {f : α → KasT β} : ∀ {t : KasT α}, Bd lt n (fun a => Bd lt n post (f a)) t → Bd lt n post (t.bind f)
  | .ret _, h => h
  | .ask _ _ _, ⟨h1, h2, h3⟩ => ⟨h1, h2, Bd.bind h3⟩
theorem Bd.mono {α : Type} {lt : Nat → Nat → Bool} {n : Nat} {p q : α → Prop} (hpq : ∀ a, p a → q a) : ∀ {t : KasT α}, Bd lt n p t → Bd lt n q t
  | .ret _, h => hpq _ h
  | .ask _ _ _, ⟨h1, h2, h3⟩ => ⟨h1, h2, Bd.mono hpq h3⟩
noncomputable def Pm (n : Nat) (p : Array Nat) : Prop := p.Perm (List.range n).toArray
theorem Pm.lt {n : Nat} {p : Array Nat} (h : Pm n p) (hn : 0 < n) (i : Nat) : p.getD i 0 < n := by
  by_cases hi : i < p.size
  · have : p.getD i 0 = p[i] := by simp [Array.getD, hi]
    rw [this]
    have hm : p[i] ∈ p := Array.getElem_mem hi
    have := (Array.Perm.mem_iff h).mp hm
    simpa using this
  · have : p.getD i 0 = 0 := by simp [Array.getD, hi]
    omega
variable {lt : Nat → Nat → Bool} {n : Nat}
section
variable {prog : Program} {w : World} {A : Around} {E : Value → Shared → Prop} {s : Shared} {vs : List Value} {κ : SortKind}
/-- pairs of ints: the first ones, then the second ones -/
noncomputable def ltP (x y : Int × Int) : Bool := if x.1 = y.1 then decide (x.2 < y.2) else decide (x.1 < y.1)
end
end KS
namespace L2
open PySem PySem.Spec PyProof.Rows PySem.W
section
variable {X : Cx} {K : PySem.W.Frag}
/-- a list of pairs of ints -/
noncomputable def PairsL (H : Hp) (xs : List V) : Prop := ∀ x ∈ xs, ∃ t a b, x = .ref t ∧ H t = some (.tup [.int a, .int b])
end
end L2
/-! LEVELS: that the ends' rows say all; boards changed, boards numbered anew. -/
namespace Lv
open L2
noncomputable def EndsAll (b : List Pl) (fs : Fs) : Prop := fs.length = b.length ∧ ∀ (i : Nat) q, b[i]? = some q → Ends fs i q
theorem EndsAll.nn {b : List Pl} {fs : Fs} (E : EndsAll b fs) {i : Nat} {v : Int} (h : fs[i]? = some (some v)) : 0 ≤ v := by
  have hi : i < b.length := by rw [← E.1]; exact (List.getElem?_eq_some_iff.mp h).1
  have := E.2 i _ (List.getElem?_eq_getElem hi)
  cases hq : b[i] with
  | fin w =>
    rw [hq] at this
    have this : fs[i]? = some (some 0) := this
    rw [h] at this
    cases this
    decide
  | thr w ws =>
    rw [hq] at this
    rcases this with ⟨a, _⟩ | ⟨v', a, b1, _⟩
    · rw [h] at a; cases a
    · rw [h] at a; cases a; omega
  | pck w to =>
    rw [hq] at this
    rcases this with ⟨a, _⟩ | ⟨v', a, b1, _⟩
    · rw [h] at a; cases a
    · rw [h] at a; cases a; omega
/-- a place that is no harder to come to an end from -/
noncomputable def Ez (q : Pl) : Pl → Prop
  | .fin _ => True
  | .thr w' ws' => ∃ w ws, q = .thr w ws ∧ ∀ g ∈ gls q, g ∈ gls (.thr w' ws')
  | .pck _ to' => ∃ w to, q = .pck w to ∧ ∀ g ∈ to', g ∈ to
theorem Ez.refl (q : Pl) : Ez q q := by
  cases q with
  | fin w => trivial
  | thr w ws => exact ⟨w, ws, rfl, fun g hg => hg⟩
  | pck w to => exact ⟨w, to, rfl, fun g hg => hg⟩
/-- numbered anew -/
noncomputable def nm (s : List Nat) (g : Int) : Int := ((s.getD g.toNat 0 : Nat) : Int)
noncomputable def ren (s : List Nat) : Pl → Pl
  | .fin w => .fin w
  | .thr w ws => .thr w (ws.map fun p => (p.1, nm s p.2))
  | .pck w to => .pck w (to.map (nm s))
noncomputable def turn (s : List Nat) (b : List Pl) : List Pl := (List.range b.length).map fun j => ren s (b.getD (s.idxOf j) (.fin (0, 1)))
section
variable {s : List Nat} {n : Nat} (p : s.Perm (List.range n))
include p
end
end Lv
/-! TEXTS cut apart, gone through sign by sign, read as numbers. -/
namespace PySem
open Builtin Builtin.Str
section
variable {prog : Program} {w : World} {A : Around} {E : Value → Shared → Prop} {s : Shared} {x y : Str} {t u : Tok} {Q : Value → Shared → Prop}
end
end PySem
namespace L2
open PySem PySem.Spec PyProof.Rows PySem.W
section
variable {X : Cx} {K : PySem.W.Frag}
/-- the signs of a text -/
noncomputable def Its (z : Str) : It := ⟨fun i _ => i < z.cps.size, fun i H x H' => H' = H ∧ ∃ c, z.cps[i]? = some c ∧ x = .str ⟨#[c]⟩, fun i _ => z.cps.size ≤ i⟩
noncomputable def iStr (tl : TE) : TI := fun σ H R => tl σ H fun x H1 => ∃ z, x = .str z ∧ z.cps.all (· < 128) = true ∧ R (Its z) H1
/-- z[lo:hi] of a text -/
noncomputable def rSlS : V → Option Int → Option Int → Hp → VK → Prop := fun x lo hi H Q => ∃ z, x = .str z ∧ z.length ≤ sizeLine ∧ Q (.str (Txt.slice z lo hi)) H
end
end L2
namespace PySem
end PySem
/-! TEXTS cut apart by " + "; a module's dict of tuples read by []; tuples put together. -/
namespace PySem
open Builtin Builtin.Str StrLaws
abbrev PLUS : Str := ⟨#[32, 43, 32]⟩
end PySem
namespace L2
open PySem PySem.Spec PyProof.Rows PySem.W
section
variable {X : Cx} {K : PySem.W.Frag}
/-- D[z], D a module's dict, z one of its texts -/
noncomputable def tMGet (K : PySem.W.Frag) (P : Params) (td ty : TE) : TE := fun σ H Q => td σ H fun x H1 => ty σ H1 fun y H2 => ∃ z a p es n, x = .ref a ∧ y = .str z ∧ K.lookup a = some ⟨.type "dict", none, .dict es n, #[]⟩ ∧ KeysLit P es.toList ∧ PySem.W.nsIn K a z = some (some (.ref p)) ∧ Q (.ref p) H2
noncomputable def rNotMod (K : PySem.W.Frag) (P : Params) : R2 := fun x y H Q => ∃ z a es n, x = .str z ∧ y = .ref a ∧ K.lookup a = some ⟨.type "dict", none, .dict es n, #[]⟩ ∧ KeysLit P es.toList ∧ (a == sysModules) = false ∧ Q (.bl (!(findBy Value.isStrOf es z).isSome)) H
/-- one row of a module's dict of tuples of two numbers -/
noncomputable def MRow (K : PySem.W.Frag) (a : Addr) (z : Str) (i j : Int) : Prop := ∃ p, PySem.W.nsIn K a z = some (some (.ref p)) ∧ ∃ dd n sl t u, K.lookup p = some ⟨.type "tuple", dd, .seq #[.int i t, .int j u] n, sl⟩
theorem MRow.rd {P : Params} {a : Addr} {ks : List Str} {z : Str} {i j : Int} (r : MRow K a z i j) (h : MDict K P a ks) : ∃ p es n, K.lookup a = some ⟨.type "dict", none, .dict es n, #[]⟩ ∧ KeysLit P es.toList ∧ PySem.W.nsIn K a z = some (some (.ref p)) ∧ ∀ H, SqT K H p [.int i, .int j] := by
  obtain ⟨p, e, dd, n1, sl, t, u, hp⟩ := r
  obtain ⟨es, n, hl, hk, _, _⟩ := h
  exact ⟨p, es, n, hl, hk, e, fun H => .inr ⟨_, _, n1, hp, rfl, rfl, (show 2 ≤ sizeLine by decide), .cons ⟨t, rfl⟩ (.cons ⟨u, rfl⟩ .nil)⟩⟩
end
end L2
/-! EXCEPTIONS that come out of a comprehension's block. -/
namespace PySem
section
variable {M : Model} {A : Around} {E : Value → Shared → Prop} {s : Shared} {env : Env}
end
end PySem
namespace L2
open PySem PySem.Spec PyProof.Rows PySem.W
section
variable {M : Model} {A : Around} {E : Value → Shared → Prop} {s : Shared} {B : Heap} {l : List Env} {ad L : Addr} {cls a0 : Value}
end
section
variable {P : Program} {w : World} {K : PySem.W.Frag} {mg : Str → Option Value} {base : Heap} {N : List Str} {qual : Str} {scope : Scope} {f : Addr} {cdv : Value} {A : Around} {outer : List Env} {s0 : Shared} {H0 : Hp} {E : XK}
/-- what may leave the block: an exception of a call within it -/
noncomputable def xeC (X : Cx) (N' : List Str) (scp : Scope) (E : XK) : List (Str × Addr) → Addr → Shared → Hp → List Addr → Value → Shared → Prop := fun cl C s H ex e s' =>
  ∃ pins σ H4 s4, Inv (cxC X N' scp cl C s H ex) pins σ H4 s4 ∧ CX1 X.prog X.w X.stack H4 s4 E e s'
end
end L2
/-! ### list.insert -/
namespace L2
open PySem PySem.Spec PyProof.Rows PySem.W
section
variable {X : Cx}
noncomputable def rIns : V → List V → Hp → VK → Prop := fun x vs H Q => ∃ l xs i y, x = .ref l ∧ vs = [.int i, y] ∧ H l = some (.lst xs) ∧ 0 ≤ i ∧ i ≤ (xs.length : Nat) ∧ xs.length < sizeLine ∧ Q .non (upd H l (.lst (xs.take i.toNat ++ y :: xs.drop i.toNat)))
end
end L2
/-! ZIP OF THREE LISTS, all equally long. -/
namespace L2
open PySem PySem.Spec PyProof.Rows PySem.W
abbrev IsTri (h : Heap) (T : Addr) (a b c : Value) : Prop := h.get? T = some { cls := .type "tuple", data := .seq #[a, b, c] }
/-- the zip's own objects and the lists lie apart -/
structure Ap3 (z TI TO i1 i2 i3 a b c : Addr) : Prop where
  TIz : TI ≠ z
  TOz : TO ≠ z
  i1z : i1 ≠ z
  i2z : i2 ≠ z
  i3z : i3 ≠ z
  TITO : TI ≠ TO
  TI1 : TI ≠ i1
  TI2 : TI ≠ i2
  TI3 : TI ≠ i3
  TO1 : TO ≠ i1
  TO2 : TO ≠ i2
  TO3 : TO ≠ i3
  i12 : i1 ≠ i2
  i13 : i1 ≠ i3
  i23 : i2 ≠ i3
  az : a ≠ z
  bz : b ≠ z
  cz : c ≠ z
  bTO : b ≠ TO
  cTO : c ≠ TO
  b1 : b ≠ i1
  c1 : c ≠ i1
  c2 : c ≠ i2
section
variable {prog : Program} {w : World} {A : Around} {E : Value → Shared → Prop} {s : Shared}
end
abbrev z3a (h : Heap) (la : Addr) : Heap := h.push { cls := .type "list_iterator", data := .fields #[.ref la, .int 0 0] }
abbrev z3b (h : Heap) (la lb : Addr) : Heap := (z3a h la).push { cls := .type "list_iterator", data := .fields #[.ref lb, .int 0 0] }
abbrev z3c (h : Heap) (la lb lc : Addr) : Heap := (z3b h la lb).push { cls := .type "list_iterator", data := .fields #[.ref lc, .int 0 0] }
abbrev z3d (h : Heap) (la lb lc : Addr) : Heap := (z3c h la lb lc).push { cls := .type "tuple", data := .seq #[.ref h.objs.size, .ref (z3a h la).objs.size, .ref (z3b h la lb).objs.size] }
abbrev z3e (h : Heap) (la lb lc : Addr) : Heap := (z3d h la lb lc).push { cls := .type "tuple", data := .seq #[.none, .none, .none] }
abbrev z3f (h : Heap) (la lb lc : Addr) : Heap := (z3e h la lb lc).push { cls := .type "zip", data := .fields #[.none, .bool false, .bool false, .ref (z3c h la lb lc).objs.size, .ref (z3d h la lb lc).objs.size] }
section
variable {prog : Program} {w : World} {A : Around} {E : Value → Shared → Prop} {s : Shared}
end
noncomputable def It3 (K : PySem.W.Frag) (a b c : Addr) : It :=
  ⟨fun i H => ∃ xs ys zs x y z, SqL K H a xs ∧ SqL K H b ys ∧ SqL K H c zs ∧ xs[i]? = some x ∧ ys[i]? = some y ∧ zs[i]? = some z,
   fun i H v H' => ∃ p, H p = none ∧ v = .ref p ∧ ∃ x y z, (∀ xs, SqL K H a xs → xs[i]? = some x) ∧ (∀ ys, SqL K H b ys → ys[i]? = some y) ∧ (∀ zs, SqL K H c zs → zs[i]? = some z) ∧ H' = upd H p (.tup [x, y, z]),
   fun i H => ∃ xs, SqL K H a xs ∧ xs.length = i⟩
section
variable {X : Cx} {elts : List Expr} {kk : Nat} {tpos : Pos} {K : PySem.W.Frag}
noncomputable def iZip3 (K : PySem.W.Frag) (ta : TA) : TI := fun σ H R => ta σ H fun vs H1 => ∃ a b c, vs = [.ref a, .ref b, .ref c] ∧ (∃ xs, SqL K H1 a xs) ∧ (∃ ys, SqL K H1 b ys) ∧ (∃ zs, SqL K H1 c zs) ∧ R (It3 K a b c) H1
end
end L2
/-! CALLS WITHIN AN EXCEPT SUITE; a text's count, partition and index. -/
namespace L2
open PySem PySem.Spec PyProof.Rows PySem.W
/-- a def's promise, kept also while an exception is handled -/
structure FnOkM (P : Program) (w : World) (K : PySem.W.Frag) (mg : Str → Option Value) (base : Heap) (CX : CXT) (k : Nat) (f : Addr) (fd : FuncData) (ps : List Str) (sp : Sp) : Prop where
  len : ∀ vs H Q E, sp vs H Q E → vs.length = ps.length
  run : ∀ (A : Around) (ad : Addr) (outer : List Env) (s : Shared) (H : Hp) (args : Args) (us : List Value) (vs : List V) (Q : VK) (E : XK), Room k A → Env0 P w K mg base A outer s H → BindsTo s fd args (ps.zip us) → Vals vs us → sp vs H Q E →
    codeAny (model P w) (A.mark (some (.ref ad))) (.call (.ref f) args) (CR CX outer P w H s Q E) s
structure CalM (P : Program) (w : World) (K : PySem.W.Frag) (mg : Str → Option Value) (base : Heap) (CX : CXT) (k : Nat) (x : Str) (ps : List Str) (sp : Sp) : Prop where
  ex : ∃ f fd, FnOkM P w K mg base CX k f fd ps sp ∧ mg x = some (.ref f) ∧ PySem.W.keepIn K (.ref f) = true ∧ Binds K fd ps []
section
variable {P : Program} {w : World} {K : PySem.W.Frag} {mg : Str → Option Value} {base : Heap} {CX : CXT}
end
section
variable {X : Cx} {K : PySem.W.Frag}
end
end L2
namespace PySem
open Builtin Builtin.Str StrLaws
end PySem
/-! str() of a text or a number. -/
namespace L2
open PySem PySem.Spec PyProof.Rows PySem.W
/-- what str() makes of a text or a number -/
noncomputable def txV : V → Option Str
  | .str z => some z
  | .int i => if i.natAbs.log2 < 1920 then some (Str.ofString (toString i)) else none
  | _ => none
section
variable {X : Cx} {K : PySem.W.Frag}
end
end L2
/-! sorted(x, reverse=True) of ints; one >= other of lists of ints. -/
namespace L2
open PySem PySem.Spec PyProof.Rows PySem.W
section
variable {X : Cx} {K : PySem.W.Frag}
noncomputable def tSortR (K : PySem.W.Frag) (te : TE) : TE := fun σ H Q => te σ H fun v H1 => ∃ p ns, v = .ref p ∧ SqL K H1 p (List.map V.int ns) ∧ ns.length < 64 ∧ ∀ l, H1 l = none → Q (.ref l) (upd H1 l (.lst (List.map V.int (Nm.srt ns).reverse)))
end
end L2
namespace PySem.SeqAt
open AutoSeq1 (wpAny_loadPart')
open MeetsSeq MeetsSeq2 MeetsSeq3
noncomputable def RcGeAt (A : Around) (s : Shared) (y x : Value) (b : Bool) : Prop :=
  ∀ (prog : Program) (w : World) (E : Value → Shared → Prop) (Q : Value → Shared → Prop), Q (.bool b) s → wpAny (model prog w) A (richCompare .GtE y x) Q E s
noncomputable def geFrom (e g : Nat → Bool) (fin : Bool) : Nat → Nat → Bool
  | 0, _ => fin
  | k + 1, i => if e i = true then geFrom e g fin k (i + 1) else g i
end PySem.SeqAt
namespace L2
open PySem PySem.Spec PyProof.Rows PySem.W
noncomputable def lexGe : List Int → List Int → Bool
  | [], [] => true
  | [], _ :: _ => false
  | _ :: _, [] => true
  | a :: r, b :: q => if a = b then lexGe r q else decide (b ≤ a)
section
variable {X : Cx} {K : PySem.W.Frag}
noncomputable def rGeL : R2 := fun x y H Q => ∃ p q ns ms, x = .ref p ∧ y = .ref q ∧ H p = some (.lst (List.map V.int ns)) ∧ H q = some (.lst (List.map V.int ms)) ∧ Q (.bl (lexGe ns ms)) H
theorem int_at {ns : List Int} {us : List Value} (r : Vals (List.map V.int ns) us) {j : Nat} (h : j < us.toArray.size) : ∃ t, us.toArray[j] = .int (ns.getD j 0) t := by
  have hl := r.length
  rw [List.length_map] at hl
  rw [List.size_toArray] at h
  have e : (List.map V.int ns)[j]? = some (V.int (ns.getD j 0)) := by
    rw [List.getElem?_map, List.getElem?_eq_getElem (show j < ns.length by omega)]
    simp [List.getD, List.getElem?_eq_getElem (show j < ns.length by omega)]
  obtain ⟨u, g, t, w⟩ := r.get e
  refine ⟨t, ?_⟩
  have : us.toArray[j] = u := by simpa [List.getElem?_eq_getElem h] using g
  rw [this, w]
end
end L2
/-! a, b = [x, y]; x[::-1] of lists. -/
namespace PySem.UL
section
variable {prog : Program} {w : World} {A : Around} {E : Value → Shared → Prop} {s : Shared}
end
end PySem.UL
namespace L2
open PySem PySem.Spec PyProof.Rows PySem.W
section
variable {X : Cx} {K : PySem.W.Frag}
noncomputable def gLst (K : PySem.W.Frag) (n : Nat) (t : TGs) : TG := fun v σ H Q => ∃ a xs, v = .ref a ∧ SqL K H a xs ∧ xs.length = n ∧ t xs σ H Q
noncomputable def tSlR (K : PySem.W.Frag) (te ts : TE) : TE := fun σ H Q => te σ H fun x H1 => ts σ H1 fun y H2 => ∃ a xs, x = .ref a ∧ y = .int (-1) ∧ SqL K H2 a xs ∧ ∀ p, H2 p = none → Q (.ref p) (upd H2 p (.lst xs.reverse))
end
end L2
/-! sorting 64 and more numbers: gallop, merges, runs. -/
namespace PySem.Tim
open PySem PyProof.Rows
noncomputable def IsI (x : Keyed) : Prop := ∃ n t, x.1 = .int n t
abbrev kn (x : Keyed) : Int := numOf x.1
noncomputable def gallop' : Bool → Keyed → Array Keyed → Nat → Nat → Nat → StateT SortSt Sem (Option Nat) := sortPriv% PySem.Builtin.gallop
noncomputable def byd (left : Bool) (key : Keyed) (arr : Array Keyed) (base i : Nat) : StateT SortSt Sem (Option Bool) := do
  let x ← elem' arr (base + i)
  if left then lt' x key else return (← lt' key x).map (!·)
noncomputable def gbin (left : Bool) (key : Keyed) (arr : Array Keyed) (base n lo0 hi0 : Nat) : StateT SortSt Sem (Option Nat) := do
  let mut lo := lo0
  let mut hi := hi0
  for _ in [0:n] do
    if lo ≥ hi then break
    let m := lo + (hi - lo) / 2
    let some more ← byd left key arr base m | return none
    if more then lo := m + 1 else hi := m
  return some hi
theorem gallop'_eq (left : Bool) (key : Keyed) (arr : Array Keyed) (base n hint : Nat) : gallop' left key arr base n hint = (do
  let some right ← byd left key arr base hint | return none
  if right then
    let mut lastofs := 0
    let mut ofs := 1
    for _ in [0:n] do
      if ofs ≥ n - hint then break
      let some more ← byd left key arr base (hint + ofs) | return none
      if !more then break
      lastofs := ofs
      ofs := 2 * ofs + 1
    gbin left key arr base n (hint + lastofs + 1) (hint + min ofs (n - hint))
  else
    let mut lastofs := 0
    let mut ofs := 1
    for _ in [0:n] do
      if ofs ≥ hint + 1 then break
      let some found ← byd left key arr base (hint - ofs) | return none
      if found then break
      lastofs := ofs
      ofs := 2 * ofs + 1
    gbin left key arr base n (hint + 1 - min ofs (hint + 1)) (hint - lastofs)) := rfl
section
variable {prog : Program} {w : World} {A : Around} {E : Value → Shared → Prop} {s : Shared}
theorem wpS_lt {st : SortSt} {x y : Keyed} {Q : Option Bool → SortSt → Prop} (hk : kindOf st = oneType') (hx : IsI x) (hy : IsI y) (h : Q (some (decide (kn x < kn y))) st) : wpS (model prog w) A E s (lt' x y) Q st := by
  obtain ⟨a, t, ea⟩ := hx
  obtain ⟨b, u, eb⟩ := hy
  unfold kn at h
  rw [ea, eb] at h
  rw [lt'_eq]
  refine wpS_bind (wpS_get ?_)
  rw [hk, keyLt'_oneType, ea, eb]
  refine wpS_bind (wpS_lift (wpAny_attempt (oneLt_int ⟨rfl, ?_⟩)))
  exact wpS_pure h
theorem wpS_elem {st : SortSt} {arr : Array Keyed} {i : Nat} {p : Keyed} {Q : Keyed → SortSt → Prop} (hp : arr[i]? = some p) (h : Q p st) : wpS (model prog w) A E s (elem' arr i) Q st := by
  rw [elem'_eq, hp]
  exact wpS_pure h
/-- what gallop asks -/
noncomputable def B (left : Bool) (key : Keyed) (arr : Array Keyed) (base i : Nat) : Bool := if left then decide (K arr (base + i) < kn key) else decide (K arr (base + i) ≤ kn key)
theorem wpS_byd {st : SortSt} {left : Bool} {key : Keyed} {arr : Array Keyed} {base i : Nat} {p : Keyed} {Q : Option Bool → SortSt → Prop} (hk : kindOf st = oneType') (hy : IsI key) (hp : arr[base + i]? = some p) (ip : IsI p)
    (h : Q (some (B left key arr base i)) st) : wpS (model prog w) A E s (byd left key arr base i) Q st := by
  have e : K arr (base + i) = kn p := by unfold K; rw [hp]
  unfold byd
  refine wpS_bind (wpS_elem hp ?_)
  unfold B at h
  rw [e] at h
  cases left with
  | true => exact wpS_lt hk ip hy h
  | false =>
    refine wpS_bind (wpS_lt hk hy ip (wpS_pure ?_))
    have e2 : (Option.map (fun x => !x) (some (decide (kn key < kn p)))) = some (decide (kn p ≤ kn key)) := by
      by_cases c : kn key < kn p
      · simp [c]
      · simp [c]; omega
    rw [e2]
    exact h
theorem wpS_gallop {st : SortSt} {left : Bool} {key : Keyed} {arr : Array Keyed} {base n hint : Nat} {Q : Option Nat → SortSt → Prop} (hk : kindOf st = oneType') (hy : IsI key) (hp : ∀ i, i < n → ∃ p, arr[base + i]? = some p ∧ IsI p)
    (hh : hint < n) (mono : ∀ i j, i ≤ j → j < n → K arr (base + i) ≤ K arr (base + j))
    (h : ∀ k, k ≤ n → (∀ i, i < k → B left key arr base i = true) → (∀ i, k ≤ i → i < n → B left key arr base i = false) → Q (some k) st) : wpS (model prog w) A E s (gallop' left key arr base n hint) Q st := by
  have dn : ∀ {i j}, i ≤ j → j < n → B left key arr base j = true → B left key arr base i = true := fun {i j} hij hj hb => by
    have := mono i j hij hj
    unfold B at *
    cases left with
    | true => simp at *; omega
    | false => simp at *; omega
  have ask : ∀ {i : Nat} {Q' : Option Bool → SortSt → Prop}, i < n → Q' (some (B left key arr base i)) st → wpS (model prog w) A E s (byd left key arr base i) Q' st := fun {i Q'} hi hq => by
    obtain ⟨p, e, ip⟩ := hp i hi
    exact wpS_byd hk hy e ip hq
  have bin : ∀ lo hi, lo ≤ hi → hi ≤ n → (∀ i, i < lo → B left key arr base i = true) → (∀ i, hi ≤ i → i < n → B left key arr base i = false) → wpS (model prog w) A E s (gbin left key arr base n lo hi) Q st := by
    intro lo hi l1 l2 b1 b2
    unfold gbin
    refine wpS_bind (wpS_mono (wpS_forRange (I := fun x c st' => st' = st ∧ ∃ lo hi, c = (none, lo, hi) ∧ lo ≤ hi ∧ hi ≤ n ∧ hi - lo ≤ n - x ∧ (∀ i, i < lo → B left key arr base i = true) ∧ (∀ i, hi ≤ i → i < n → B left key arr base i = false))
      (Q := fun c st' => st' = st ∧ ∃ hi, c = (none, hi, hi) ∧ hi ≤ n ∧ (∀ i, i < hi → B left key arr base i = true) ∧ (∀ i, hi ≤ i → i < n → B left key arr base i = false)) ?step ?fin ⟨rfl, lo, hi, rfl, l1, l2, by omega, b1, b2⟩) ?post)
    case fin =>
      rintro c st' ⟨rfl, lo, hi, rfl, l1, l2, l3, b1, b2⟩
      have : lo = hi := by omega
      subst this
      exact ⟨rfl, lo, rfl, l2, b1, b2⟩
    case step =>
      rintro x c st' _ hx ⟨rfl, lo, hi, rfl, l1, l2, l3, b1, b2⟩
      dsimp only
      by_cases c : lo ≥ hi
      · rw [if_pos c]
        have : lo = hi := by omega
        subst this
        exact wpS_pure ⟨rfl, lo, rfl, l2, b1, b2⟩
      · rw [if_neg c]
        have hm : lo + (hi - lo) / 2 < n := by omega
        refine wpS_bind (ask hm ?_)
        cases hb : B left key arr base (lo + (hi - lo) / 2) with
        | true =>
          dsimp only
          rw [if_pos rfl]
          refine wpS_pure ⟨rfl, _, _, rfl, by omega, l2, by omega, fun i hi' => dn (show i ≤ lo + (hi - lo) / 2 by omega) hm hb, b2⟩
        | false =>
          dsimp only
          rw [if_neg (by simp)]
          refine wpS_pure ⟨rfl, _, _, rfl, by omega, by omega, by omega, b1, fun i h1 h2 => ?_⟩
          cases hc : B left key arr base i with
          | false => rfl
          | true => rw [dn h1 h2 hc] at hb; cases hb
    case post =>
      rintro c st' ⟨rfl, hi, rfl, l2, b1, b2⟩
      exact wpS_pure (h hi l2 b1 b2)
  rw [gallop'_eq]
  refine wpS_bind (ask hh ?_)
  cases hr : B left key arr base hint with
  | true =>
    dsimp only
    rw [if_pos rfl]
    refine wpS_bind (wpS_mono (wpS_forRange (I := fun x c st' => st' = st ∧ ∃ lst ofs, c = (none, lst, ofs) ∧ lst < ofs ∧ x + 1 ≤ ofs ∧ hint + lst < n ∧ B left key arr base (hint + lst) = true)
      (Q := fun c st' => st' = st ∧ ∃ lst ofs, c = (none, lst, ofs) ∧ lst < ofs ∧ hint + lst < n ∧ B left key arr base (hint + lst) = true ∧ (ofs ≥ n - hint ∨ B left key arr base (hint + ofs) = false)) ?step ?fin ⟨rfl, 0, 1, rfl, by omega, by omega, by omega, hr⟩) ?post)
    case fin =>
      rintro c st' ⟨rfl, lst, ofs, rfl, l1, l2, l3, b1⟩
      exact ⟨rfl, lst, ofs, rfl, l1, l3, b1, .inl (by omega)⟩
    case step =>
      rintro x c st' _ hx ⟨rfl, lst, ofs, rfl, l1, l2, l3, b1⟩
      dsimp only
      by_cases c : ofs ≥ n - hint
      · rw [if_pos c]
        exact wpS_pure ⟨rfl, lst, ofs, rfl, l1, l3, b1, .inl c⟩
      · rw [if_neg c]
        refine wpS_bind (ask (by omega) ?_)
        cases hb : B left key arr base (hint + ofs) with
        | true =>
          dsimp only
          rw [if_neg (by simp)]
          exact wpS_pure ⟨rfl, ofs, 2 * ofs + 1, rfl, by omega, by omega, by omega, hb⟩
        | false =>
          dsimp only
          rw [if_pos (by simp)]
          exact wpS_pure ⟨rfl, lst, ofs, rfl, l1, l3, b1, .inr hb⟩
    case post =>
      rintro c st' ⟨rfl, lst, ofs, rfl, l1, l3, b1, b2⟩
      dsimp only
      refine bin _ _ (by omega) (by omega) (fun i hi => dn (show i ≤ hint + lst by omega) l3 b1) fun i h1 h2 => ?_
      rcases b2 with c | c
      · omega
      · cases hc : B left key arr base i with
        | false => rfl
        | true => rw [dn (show hint + ofs ≤ i by omega) h2 hc] at c; cases c
  | false =>
    dsimp only
    rw [if_neg (by simp)]
    refine wpS_bind (wpS_mono (wpS_forRange (I := fun x c st' => st' = st ∧ ∃ lst ofs, c = (none, lst, ofs) ∧ lst < ofs ∧ x + 1 ≤ ofs ∧ lst ≤ hint ∧ B left key arr base (hint - lst) = false)
      (Q := fun c st' => st' = st ∧ ∃ lst ofs, c = (none, lst, ofs) ∧ lst < ofs ∧ lst ≤ hint ∧ B left key arr base (hint - lst) = false ∧ (ofs ≥ hint + 1 ∨ B left key arr base (hint - ofs) = true)) ?step2 ?fin2 ⟨rfl, 0, 1, rfl, by omega, by omega, by omega, hr⟩) ?post2)
    case fin2 =>
      rintro c st' ⟨rfl, lst, ofs, rfl, l1, l2, l3, b1⟩
      exact ⟨rfl, lst, ofs, rfl, l1, l3, b1, .inl (by omega)⟩
    case step2 =>
      rintro x c st' _ hx ⟨rfl, lst, ofs, rfl, l1, l2, l3, b1⟩
      dsimp only
      by_cases c : ofs ≥ hint + 1
      · rw [if_pos c]
        exact wpS_pure ⟨rfl, lst, ofs, rfl, l1, l3, b1, .inl c⟩
      · rw [if_neg c]
        refine wpS_bind (ask (by omega) ?_)
        cases hb : B left key arr base (hint - ofs) with
        | false =>
          dsimp only
          rw [if_neg (by simp)]
          exact wpS_pure ⟨rfl, ofs, 2 * ofs + 1, rfl, by omega, by omega, by omega, hb⟩
        | true =>
          dsimp only
          rw [if_pos rfl]
          exact wpS_pure ⟨rfl, lst, ofs, rfl, l1, l3, b1, .inr hb⟩
    case post2 =>
      rintro c st' ⟨rfl, lst, ofs, rfl, l1, l3, b1, b2⟩
      dsimp only
      refine bin _ _ (by omega) (by omega) (fun i hi => ?_) fun i h1 h2 => ?_
      · rcases b2 with c | c
        · omega
        · exact dn (show i ≤ hint - ofs by omega) (by omega) c
      · cases hc : B left key arr base i with
        | false => rfl
        | true => rw [dn h1 h2 hc] at b1; cases b1
noncomputable def setG' (g : Nat) : StateT SortSt Sem Unit := (sortPriv% PySem.Builtin.setMinGallop) g
theorem setG'_eq (g : Nat) : setG' g = modify fun s => SortSt.mk' (kindOf s) (arrOf s) (pendingOf s) g (failedOf s) := rfl
noncomputable def mergeLo' : Array Keyed → Array Keyed → StateT SortSt Sem (Array Keyed) := sortPriv% PySem.Builtin.mergeLo
noncomputable def dn (a b out : Array Keyed) (ia ib : Nat) : Array Keyed := out ++ a.extract ia a.size ++ b.extract ib b.size
noncomputable def lA (a b out : Array Keyed) (ia ib : Nat) : Array Keyed := out ++ b.extract ib b.size ++ a.extract ia a.size
theorem mergeLo'_eq (a b : Array Keyed) : mergeLo' a b = (do
  rule "list.sort.merge-lo"
  let mut out : Array Keyed := #[← elem' b 0]
  let mut ia := 0
  let mut ib := 1
  if ib == b.size then return dn a b out ia ib
  if ia + 1 == a.size then return lA a b out ia ib
  let mut minGallop := gallopOf (← get)
  for _ in [0:a.size + b.size] do
    let mut acount := 0
    let mut bcount := 0
    for _ in [0:a.size + b.size] do
      let some bWins ← lt' (← elem' b ib) (← elem' a ia) | return dn a b out ia ib
      if bWins then
        out := out.push (← elem' b ib); ib := ib + 1; bcount := bcount + 1; acount := 0
        if ib == b.size then return dn a b out ia ib
        if bcount ≥ minGallop then break
      else
        out := out.push (← elem' a ia); ia := ia + 1; acount := acount + 1; bcount := 0
        if ia + 1 == a.size then return lA a b out ia ib
        if acount ≥ minGallop then break
    rule "list.sort.gallop"
    minGallop := minGallop + 1
    for _ in [0:a.size + b.size] do
      if minGallop > 1 then minGallop := minGallop - 1
      setG' minGallop
      let some k ← gallop' false (← elem' b ib) a ia (a.size - ia) 0 | return dn a b out ia ib
      acount := k
      if k > 0 then
        out := out ++ a.extract ia (ia + k); ia := ia + k
        if ia + 1 == a.size then return lA a b out ia ib
        if ia == a.size then return dn a b out ia ib
      out := out.push (← elem' b ib); ib := ib + 1
      if ib == b.size then return dn a b out ia ib
      let some k ← gallop' true (← elem' a ia) b ib (b.size - ib) 0 | return dn a b out ia ib
      bcount := k
      if k > 0 then
        out := out ++ b.extract ib (ib + k); ib := ib + k
        if ib == b.size then return dn a b out ia ib
      out := out.push (← elem' a ia); ia := ia + 1
      if ia + 1 == a.size then return lA a b out ia ib
      if acount < 7 && bcount < 7 then break
    minGallop := minGallop + 1
    setG' minGallop
  unsupported "internal:list.sort.merge-bound") := rfl
/-! ### what a merge keeps -/
noncomputable def Le (x y : Keyed) : Prop := kn x ≤ kn y
structure MI (a b out : List Keyed) (ia ib : Nat) : Prop where
  perm : out.Perm (a.take ia ++ b.take ib)
  srt : out.Pairwise Le
  le : ∀ x ∈ out, ∀ y, (y ∈ a.drop ia ∨ y ∈ b.drop ib) → kn x ≤ kn y
theorem take_one {l : List Keyed} {i : Nat} {x : Keyed} (e : l[i]? = some x) : l.take (i + 1) = l.take i ++ [x] := by rw [List.take_add_one, e]; rfl
theorem drop_one {l : List Keyed} {i : Nat} {x : Keyed} (e : l[i]? = some x) : l.drop i = x :: l.drop (i + 1) := by
  obtain ⟨h, rfl⟩ := List.getElem?_eq_some_iff.mp e
  exact List.drop_eq_getElem_cons h
theorem srt_drop {l : List Keyed} {i : Nat} {x : Keyed} (h : l.Pairwise Le) (e : l[i]? = some x) : ∀ y ∈ l.drop i, kn x ≤ kn y := by
  have := List.Pairwise.drop (i := i) h
  rw [drop_one e] at this ⊢
  intro y hy
  rcases List.mem_cons.mp hy with rfl | hy
  · exact Int.le_refl _
  · exact (List.pairwise_cons.mp this).1 y hy
theorem MI.pushB {a b out : List Keyed} {ia ib : Nat} {x : Keyed} (m : MI a b out ia ib) (hb : b.Pairwise Le) (e : b[ib]? = some x) (h : ∀ y ∈ a.drop ia, kn x ≤ kn y) : MI a b (out ++ [x]) ia (ib + 1) := by
  have xb : x ∈ b.drop ib := by rw [drop_one e]; simp
  have sub : ∀ y ∈ b.drop (ib + 1), y ∈ b.drop ib := fun y hy => by rw [drop_one e]; exact List.mem_cons_of_mem _ hy
  refine ⟨?_, ?_, ?_⟩
  · rw [take_one e, ← List.append_assoc]
    exact m.perm.append_right _
  · rw [List.pairwise_append]
    exact ⟨m.srt, by simp, fun u hu v hv => by rw [List.mem_singleton.mp hv]; exact m.le u hu x (.inr xb)⟩
  · intro u hu y hy
    rcases List.mem_append.mp hu with hu | hu
    · rcases hy with hy | hy
      · exact m.le u hu y (.inl hy)
      · exact m.le u hu y (.inr (sub y hy))
    · rw [List.mem_singleton.mp hu]
      rcases hy with hy | hy
      · exact h y hy
      · exact srt_drop hb e y (sub y hy)
theorem MI.pushA {a b out : List Keyed} {ia ib : Nat} {x : Keyed} (m : MI a b out ia ib) (ha : a.Pairwise Le) (e : a[ia]? = some x) (h : ∀ y ∈ b.drop ib, kn x ≤ kn y) : MI a b (out ++ [x]) (ia + 1) ib := by
  have xb : x ∈ a.drop ia := by rw [drop_one e]; simp
  have sub : ∀ y ∈ a.drop (ia + 1), y ∈ a.drop ia := fun y hy => by rw [drop_one e]; exact List.mem_cons_of_mem _ hy
  refine ⟨?_, ?_, ?_⟩
  · rw [take_one e, List.append_assoc]
    refine (m.perm.append_right [x]).trans ?_
    rw [List.append_assoc]
    exact List.perm_append_comm.append_left _
  · rw [List.pairwise_append]
    exact ⟨m.srt, by simp, fun u hu v hv => by rw [List.mem_singleton.mp hv]; exact m.le u hu x (.inl xb)⟩
  · intro u hu y hy
    rcases List.mem_append.mp hu with hu | hu
    · rcases hy with hy | hy
      · exact m.le u hu y (.inl (sub y hy))
      · exact m.le u hu y (.inr hy)
    · rw [List.mem_singleton.mp hu]
      rcases hy with hy | hy
      · exact srt_drop ha e y (sub y hy)
      · exact h y hy
theorem MI.appA {a b out : List Keyed} {ia ib : Nat} (m : MI a b out ia ib) (ha : a.Pairwise Le) : ∀ k, ia + k ≤ a.length → (∀ i x, i < k → a[ia + i]? = some x → ∀ y ∈ b.drop ib, kn x ≤ kn y) → MI a b (out ++ (a.drop ia).take k) (ia + k) ib
  | 0, _, _ => by simpa using m
  | k + 1, hk, h => by
    have e : a[ia + k]? = some (a[ia + k]'(by omega)) := List.getElem?_eq_getElem (by omega)
    have m1 := (m.appA ha k (by omega) fun i x hi => h i x (by omega)).pushA ha e (h k _ (by omega) e)
    have e2 : (a.drop ia).take (k + 1) = (a.drop ia).take k ++ [a[ia + k]'(by omega)] := take_one (by rw [List.getElem?_drop]; exact e)
    rw [e2, ← List.append_assoc]
    exact m1
theorem MI.appB {a b out : List Keyed} {ia ib : Nat} (m : MI a b out ia ib) (hb : b.Pairwise Le) : ∀ k, ib + k ≤ b.length → (∀ i x, i < k → b[ib + i]? = some x → ∀ y ∈ a.drop ia, kn x ≤ kn y) → MI a b (out ++ (b.drop ib).take k) ia (ib + k)
  | 0, _, _ => by simpa using m
  | k + 1, hk, h => by
    have e : b[ib + k]? = some (b[ib + k]'(by omega)) := List.getElem?_eq_getElem (by omega)
    have m1 := (m.appB hb k (by omega) fun i x hi => h i x (by omega)).pushB hb e (h k _ (by omega) e)
    have e2 : (b.drop ib).take (k + 1) = (b.drop ib).take k ++ [b[ib + k]'(by omega)] := take_one (by rw [List.getElem?_drop]; exact e)
    rw [e2, ← List.append_assoc]
    exact m1
noncomputable def Res (a b r : List Keyed) : Prop := r.Perm (a ++ b) ∧ r.Pairwise Le
theorem MI.doneB {a b out : List Keyed} {ia ib : Nat} (m : MI a b out ia ib) (ha : a.Pairwise Le) (h : b.length ≤ ib) : Res a b (out ++ a.drop ia ++ b.drop ib) := by
  have e : b.drop ib = [] := List.drop_of_length_le h
  have e2 : b.take ib = b := List.take_of_length_le h
  rw [e, List.append_nil]
  refine ⟨?_, ?_⟩
  · have := m.perm.append_right (a.drop ia)
    rw [e2, List.append_assoc] at this
    refine this.trans ((List.perm_append_comm (l₁ := b) (l₂ := a.drop ia)).append_left (a.take ia) |>.trans ?_)
    rw [← List.append_assoc, List.take_append_drop]
  · rw [List.pairwise_append]
    exact ⟨m.srt, ha.drop, fun u hu v hv => m.le u hu v (.inl hv)⟩
theorem MI.doneA {a b out : List Keyed} {ia ib : Nat} (m : MI a b out ia ib) (hb : b.Pairwise Le) (h : a.length ≤ ia) : Res a b (out ++ a.drop ia ++ b.drop ib) := by
  have e : a.drop ia = [] := List.drop_of_length_le h
  have e2 : a.take ia = a := List.take_of_length_le h
  rw [e, List.append_nil]
  refine ⟨?_, ?_⟩
  · have := m.perm.append_right (b.drop ib)
    rw [e2, List.append_assoc, List.take_append_drop] at this
    exact this
  · rw [List.pairwise_append]
    exact ⟨m.srt, hb.drop, fun u hu v hv => m.le u hu v (.inr hv)⟩
theorem MI.lastA {a b out : List Keyed} {ia ib : Nat} (m : MI a b out ia ib) (ha : a.Pairwise Le) (hb : b.Pairwise Le) (h : ia + 1 = a.length) (hl : ∀ x, a[ia]? = some x → ∀ y ∈ b, kn y ≤ kn x) : Res a b (out ++ b.drop ib ++ a.drop ia) := by
  have e : a[ia]? = some (a[ia]'(by omega)) := List.getElem?_eq_getElem (by omega)
  have e2 : a.drop ia = [a[ia]'(by omega)] := by rw [drop_one e, List.drop_of_length_le (by omega)]
  refine ⟨?_, ?_⟩
  · have h1 := (m.perm.append_right (b.drop ib)).append_right (a.drop ia)
    rw [List.append_assoc (a.take ia), List.take_append_drop] at h1
    refine h1.trans ?_
    rw [List.append_assoc]
    refine ((List.perm_append_comm (l₁ := b) (l₂ := a.drop ia)).append_left (a.take ia)).trans ?_
    rw [← List.append_assoc, List.take_append_drop]
  · rw [List.pairwise_append, List.pairwise_append]
    refine ⟨⟨m.srt, hb.drop, fun u hu v hv => m.le u hu v (.inr hv)⟩, ha.drop, fun u hu v hv => ?_⟩
    rcases List.mem_append.mp hu with hu | hu
    · exact m.le u hu v (.inl hv)
    · rw [e2] at hv
      rw [List.mem_singleton.mp hv]
      exact hl _ e u (List.mem_of_mem_drop hu)
theorem dn_list (a b out : Array Keyed) (ia ib : Nat) : (dn a b out ia ib).toList = out.toList ++ a.toList.drop ia ++ b.toList.drop ib := by
  unfold dn
  simp only [Array.toList_append, Array.toList_extract]
  simp
  rw [List.take_of_length_le (by simp), List.take_of_length_le (by simp)]
theorem lA_list (a b out : Array Keyed) (ia ib : Nat) : (lA a b out ia ib).toList = out.toList ++ b.toList.drop ib ++ a.toList.drop ia := by
  unfold lA
  simp only [Array.toList_append, Array.toList_extract]
  simp
  rw [List.take_of_length_le (by simp), List.take_of_length_le (by simp)]
noncomputable def SG (st st' : SortSt) : Prop := kindOf st' = kindOf st ∧ arrOf st' = arrOf st ∧ pendingOf st' = pendingOf st ∧ failedOf st' = failedOf st
theorem SG.refl (st : SortSt) : SG st st := ⟨rfl, rfl, rfl, rfl⟩
theorem wpS_setG {st st' : SortSt} {g : Nat} {Q : Unit → SortSt → Prop} (hs : SG st st') (h : ∀ st'', SG st st'' → Q () st'') : wpS (model prog w) A E s (setG' g) Q st' := by
  rw [setG'_eq]
  exact wpS_modify (h _ ⟨hs.1, hs.2.1, hs.2.2.1, hs.2.2.2⟩)
theorem K_get {a : Array Keyed} {i : Nat} {x : Keyed} (e : a.toList[i]? = some x) : K a i = kn x := by
  unfold K
  rw [← Array.getElem?_toList, e]
theorem ex_list (a : Array Keyed) (i k : Nat) : (a.extract i (i + k)).toList = (a.toList.drop i).take k := by
  rw [Array.toList_extract]
  simp
theorem arr_get {a : Array Keyed} {i : Nat} (h : i < a.size) : ∃ x, a.toList[i]? = some x ∧ a[i]? = some x := ⟨a[i], by rw [List.getElem?_eq_getElem (by simpa using h)]; rfl, by simp [h]⟩
abbrev LoT := Option (Array Keyed) × Array Keyed × Nat × Nat × Nat × Nat × Nat
noncomputable def loC (a b out : Array Keyed) (ia ib mg ac bc : Nat) : StateT SortSt Sem (ForInStep LoT) := do
  let v ← elem' a ia
  if ia + 1 + 1 == a.size then pure (.done (some (lA a b (out.push v) (ia + 1) ib), out.push v, ia + 1, ib, mg, ac, bc))
  else if ac < 7 && bc < 7 then pure (.done (none, out.push v, ia + 1, ib, mg, ac, bc)) else pure (.yield (none, out.push v, ia + 1, ib, mg, ac, bc))
noncomputable def loB (a b out : Array Keyed) (ia ib mg ac bc : Nat) : StateT SortSt Sem (ForInStep LoT) := do
  let u ← elem' b ib
  if ib + 1 == b.size then pure (.done (some (dn a b (out.push u) ia (ib + 1)), out.push u, ia, ib + 1, mg, ac, bc))
  else
    let v ← elem' a ia
    let x ← gallop' true v b (ib + 1) (b.size - (ib + 1)) 0
    match x with
    | some k =>
      if k > 0 then
        if ib + 1 + k == b.size then pure (.done (some (dn a b (out.push u ++ b.extract (ib + 1) (ib + 1 + k)) ia (ib + 1 + k)), out.push u ++ b.extract (ib + 1) (ib + 1 + k), ia, ib + 1 + k, mg, ac, k))
        else loC a b (out.push u ++ b.extract (ib + 1) (ib + 1 + k)) ia (ib + 1 + k) mg ac k
      else loC a b (out.push u) ia (ib + 1) mg ac k
    | _ => pure (.done (some (dn a b (out.push u) ia (ib + 1)), out.push u, ia, ib + 1, mg, ac, bc))
theorem K_mono {a : Array Keyed} (sA : a.toList.Pairwise Le) {i j : Nat} (h : i ≤ j) (hj : j < a.size) : K a i ≤ K a j := by
  obtain ⟨x, ex, _⟩ := arr_get (a := a) (i := i) (by omega)
  obtain ⟨y, ey, _⟩ := arr_get (a := a) hj
  rw [K_get ex, K_get ey]
  refine srt_drop sA ex y ?_
  have : (a.toList.drop i)[j - i]? = some y := by rw [List.getElem?_drop, show i + (j - i) = j by omega]; exact ey
  exact List.mem_of_getElem? this
/-- what both halves of a merge start from -/
structure MC (st : SortSt) (a b : Array Keyed) : Prop where
  hk : kindOf st = oneType'
  iA : ∀ x ∈ a.toList, IsI x
  iB : ∀ x ∈ b.toList, IsI x
  sA : a.toList.Pairwise Le
  sB : b.toList.Pairwise Le
  hl : ∀ x, a.toList[a.size - 1]? = some x → ∀ y ∈ b.toList, kn y ≤ kn x
theorem MC.rB {st : SortSt} {a b out : Array Keyed} {ia ib : Nat} (c : MC st a b) (m : MI a.toList b.toList out.toList ia ib) (e : ib = b.size) : Res a.toList b.toList (dn a b out ia ib).toList := by rw [dn_list]; exact m.doneB c.sA (by simp; omega)
theorem MC.rA {st : SortSt} {a b out : Array Keyed} {ia ib : Nat} (c : MC st a b) (m : MI a.toList b.toList out.toList ia ib) (e : ia = a.size) : Res a.toList b.toList (dn a b out ia ib).toList := by rw [dn_list]; exact m.doneA c.sB (by simp; omega)
theorem MC.rL {st : SortSt} {a b out : Array Keyed} {ia ib : Nat} (c : MC st a b) (m : MI a.toList b.toList out.toList ia ib) (e : ia + 1 = a.size) : Res a.toList b.toList (lA a b out ia ib).toList := by
  rw [lA_list]
  exact m.lastA c.sA c.sB (by simp; omega) fun x hx => c.hl x (by rw [show a.size - 1 = ia by omega]; exact hx)
theorem wpS_loC {st st' : SortSt} {a b out : Array Keyed} {ia ib mg ac bc : Nat} {v : Keyed} {P : ForInStep LoT → SortSt → Prop} (c : MC st a b) (sg : SG st st') (m : MI a.toList b.toList out.toList ia ib) (l1 : ia + 1 < a.size) (l2 : ib < b.size)
    (ev : a.toList[ia]? = some v) (hv : ∀ y ∈ b.toList.drop ib, kn v ≤ kn y) (hr : ∀ r z, Res a.toList b.toList r.toList → P (.done (some r, z)) st')
    (hn : ∀ out' ia' ib' ac' bc', MI a.toList b.toList out'.toList ia' ib' → ia' + 1 < a.size → ib' < b.size → ia + ib ≤ ia' + ib' → P (.done (none, out', ia', ib', mg, ac', bc')) st' ∧ P (.yield (none, out', ia', ib', mg, ac', bc')) st') :
    wpS (model prog w) A E s (loC a b out ia ib mg ac bc) P st' := by
  unfold loC
  have ev' : a[ia]? = some v := by rw [← Array.getElem?_toList]; exact ev
  have m2 := m.pushA c.sA ev hv
  rw [← Array.toList_push] at m2
  refine wpS_bind (wpS_elem ev' ?_)
  by_cases d : ia + 1 + 1 = a.size
  · rw [if_pos (by simpa using d)]
    exact wpS_pure (hr _ _ (c.rL m2 d))
  · rw [if_neg (by simpa using d)]
    obtain ⟨h1, h2⟩ := hn _ _ _ ac bc m2 (by omega) l2 (by omega)
    split
    · exact wpS_pure h1
    · exact wpS_pure h2
theorem wpS_loB {st st' : SortSt} {a b out : Array Keyed} {ia ib mg ac bc : Nat} {u : Keyed} {P : ForInStep LoT → SortSt → Prop} (c : MC st a b) (sg : SG st st') (m : MI a.toList b.toList out.toList ia ib) (l1 : ia + 1 < a.size) (l2 : ib < b.size)
    (eu : b.toList[ib]? = some u) (hu : ∀ y ∈ a.toList.drop ia, kn u ≤ kn y) (hr : ∀ r z, Res a.toList b.toList r.toList → P (.done (some r, z)) st')
    (hn : ∀ out' ia' ib' ac' bc', MI a.toList b.toList out'.toList ia' ib' → ia' + 1 < a.size → ib' < b.size → ia + ib ≤ ia' + ib' → P (.done (none, out', ia', ib', mg, ac', bc')) st' ∧ P (.yield (none, out', ia', ib', mg, ac', bc')) st') :
    wpS (model prog w) A E s (loB a b out ia ib mg ac bc) P st' := by
  unfold loB
  have eu' : b[ib]? = some u := by rw [← Array.getElem?_toList]; exact eu
  have m2 := m.pushB c.sB eu hu
  rw [← Array.toList_push] at m2
  refine wpS_bind (wpS_elem eu' ?_)
  by_cases d : ib + 1 = b.size
  · rw [if_pos (by simpa using d)]
    exact wpS_pure (hr _ _ (c.rB m2 d))
  rw [if_neg (by simpa using d)]
  obtain ⟨v, ev, ev'⟩ := arr_get (a := a) (i := ia) (by omega)
  refine wpS_bind (wpS_elem ev' (wpS_bind (wpS_gallop (sg.1.trans c.hk) (c.iA _ (List.mem_of_getElem? ev)) (fun i hi => ?_) (by omega) (fun i j hij hj => K_mono c.sB (by omega) (by omega)) fun k hk b1 b2 => ?_)))
  · obtain ⟨x, ex, ex'⟩ := arr_get (a := b) (i := ib + 1 + i) (by omega)
    exact ⟨x, ex', c.iB _ (List.mem_of_getElem? ex)⟩
  · dsimp only
    have lb : b.toList.length = b.size := by simp
    have up : ∀ i x, i < k → b.toList[ib + 1 + i]? = some x → ∀ y ∈ a.toList.drop ia, kn x ≤ kn y := fun i x hi ex y hy => by
      have h1 := b1 i hi
      unfold B at h1
      rw [K_get ex] at h1
      have h2 := srt_drop c.sA ev y hy
      simp at h1
      omega
    have dwn : ∀ y ∈ b.toList.drop (ib + 1 + k), kn v ≤ kn y := fun y hy => by
      obtain ⟨i, ei⟩ := List.getElem?_of_mem hy
      rw [List.getElem?_drop] at ei
      have hlt : ib + 1 + k + i < b.size := by have := (List.getElem?_eq_some_iff.mp ei).1; omega
      have h1 := b2 (k + i) (by omega) (by omega)
      unfold B at h1
      rw [K_get (by rw [show ib + 1 + (k + i) = ib + 1 + k + i by omega]; exact ei)] at h1
      simp at h1
      exact h1
    have m3 := m2.appB c.sB k (by omega) up
    rw [← ex_list, ← Array.toList_append] at m3
    by_cases k0 : k > 0
    · rw [if_pos k0]
      by_cases d2 : ib + 1 + k = b.size
      · rw [if_pos (by simpa using d2)]
        exact wpS_pure (hr _ _ (c.rB m3 d2))
      · rw [if_neg (by simpa using d2)]
        exact wpS_loC c sg m3 l1 (by omega) ev dwn hr fun o i j x y mm q1 q2 q3 => hn o i j x y mm q1 q2 (by omega)
    · rw [if_neg k0]
      have k00 : k = 0 := by omega
      subst k00
      exact wpS_loC c sg m2 l1 (by omega) ev (by simpa using dwn) hr fun o i j x y mm q1 q2 q3 => hn o i j x y mm q1 q2 (by omega)
theorem wpS_mergeLo {st : SortSt} {a b : Array Keyed} {Q : Array Keyed → SortSt → Prop} (hk : kindOf st = oneType') (iA : ∀ x ∈ a.toList, IsI x) (iB : ∀ x ∈ b.toList, IsI x) (sA : a.toList.Pairwise Le) (sB : b.toList.Pairwise Le) (a1 : 1 ≤ a.size) (b1 : 1 ≤ b.size)
    (hf : ∀ x y, b.toList[0]? = some x → a.toList[0]? = some y → kn x ≤ kn y) (hl : ∀ x, a.toList[a.size - 1]? = some x → ∀ y ∈ b.toList, kn y ≤ kn x)
    (h : ∀ r st', SG st st' → Res a.toList b.toList r.toList → Q r st') : wpS (model prog w) A E s (mergeLo' a b) Q st := by
  have la : a.toList.length = a.size := by simp
  have lb : b.toList.length = b.size := by simp
  have rB : ∀ {out : Array Keyed} {ia ib : Nat}, MI a.toList b.toList out.toList ia ib → ib = b.size → Res a.toList b.toList (dn a b out ia ib).toList := fun m e => by rw [dn_list]; exact m.doneB sA (by omega)
  have rA : ∀ {out : Array Keyed} {ia ib : Nat}, MI a.toList b.toList out.toList ia ib → ia = a.size → Res a.toList b.toList (dn a b out ia ib).toList := fun m e => by rw [dn_list]; exact m.doneA sB (by omega)
  have rL : ∀ {out : Array Keyed} {ia ib : Nat}, MI a.toList b.toList out.toList ia ib → ia + 1 = a.size → Res a.toList b.toList (lA a b out ia ib).toList := fun {out ia ib} m e => by
    rw [lA_list]
    exact m.lastA sA sB (by omega) fun x hx => hl x (by rw [show a.size - 1 = ia by omega]; exact hx)
  have mA : ∀ {i : Nat} {x : Keyed}, a.toList[i]? = some x → IsI x := fun e => iA _ (List.mem_of_getElem? e)
  have mB : ∀ {i : Nat} {x : Keyed}, b.toList[i]? = some x → IsI x := fun e => iB _ (List.mem_of_getElem? e)
  rw [mergeLo'_eq]
  refine wpS_bind (wpS_lift (wpAny_rule ⟨rfl, ?_⟩))
  obtain ⟨x0, ex0, ex0'⟩ := arr_get (a := b) (i := 0) (by omega)
  refine wpS_bind (wpS_elem ex0' ?_)
  obtain ⟨y0, ey0, ey0'⟩ := arr_get (a := a) (i := 0) (by omega)
  have m0 : MI a.toList b.toList (#[x0] : Array Keyed).toList 0 1 := by
    have : MI a.toList b.toList [] 0 0 := ⟨by simp, by simp, by simp⟩
    have := this.pushB sB ex0 fun y hy => by
      rw [List.drop_zero] at hy
      have h1 := hf _ _ ex0 ey0
      have h2 := srt_drop sA ey0 y (by rw [List.drop_zero]; exact hy)
      omega
    simpa using this
  dsimp only
  by_cases c1 : 1 = b.size
  · rw [if_pos (by simpa using c1)]
    exact wpS_pure (h _ _ (SG.refl _) (rB m0 c1))
  rw [if_neg (by simpa using c1)]
  by_cases c2 : 0 + 1 = a.size
  · rw [if_pos (by simpa using c2)]
    exact wpS_pure (h _ _ (SG.refl _) (rL m0 c2))
  rw [if_neg (by simpa using c2)]
  refine wpS_bind (wpS_get ?_)
  refine wpS_bind (wpS_mono (wpS_forRange
    (I := fun x c st' => SG st st' ∧ ∃ out ia ib mg, c = (none, out, ia, ib, mg) ∧ MI a.toList b.toList out.toList ia ib ∧ ia + 1 < a.size ∧ ib < b.size ∧ x + 1 ≤ ia + ib)
    (Q := fun c st' => SG st st' ∧ ∃ r z, c = (some r, z) ∧ Res a.toList b.toList r.toList) ?step ?fin ⟨SG.refl _, _, 0, 1, _, rfl, m0, by omega, by omega, by omega⟩) ?post)
  case fin =>
    rintro c st' ⟨sg, out, ia, ib, mg, rfl, m, l1, l2, l3⟩
    omega
  case post =>
    rintro c st' ⟨sg, r, z, rfl, rs⟩
    exact wpS_pure (h r st' sg rs)
  case step =>
    rintro x c st1 _ hx ⟨sg1, out, ia, ib, mg, rfl, m, l1, l2, l3⟩
    dsimp only
    refine wpS_bind (wpS_mono (wpS_forRange
      (I := fun y c st' => SG st st' ∧ ∃ out' ia' ib' ac bc, c = (none, out', ia', ib', ac, bc) ∧ MI a.toList b.toList out'.toList ia' ib' ∧ ia' + 1 < a.size ∧ ib' < b.size ∧ ia + ib + y ≤ ia' + ib')
      (Q := fun c st' => SG st st' ∧ ((∃ r z, c = (some r, z) ∧ Res a.toList b.toList r.toList) ∨ ∃ out' ia' ib' ac bc, c = (none, out', ia', ib', ac, bc) ∧ MI a.toList b.toList out'.toList ia' ib' ∧ ia' + 1 < a.size ∧ ib' < b.size ∧ ia + ib + 1 ≤ ia' + ib')) ?step1 ?fin1 ⟨sg1, out, ia, ib, 0, 0, rfl, m, l1, l2, by omega⟩) ?post1)
    case fin1 =>
      rintro c st' ⟨sg, out', ia', ib', ac, bc, rfl, m', k1, k2, k3⟩
      exact ⟨sg, .inr ⟨out', ia', ib', ac, bc, rfl, m', k1, k2, by omega⟩⟩
    case step1 =>
      rintro y c st2 _ hy ⟨sg, out', ia', ib', ac, bc, rfl, m', k1, k2, k3⟩
      dsimp only
      obtain ⟨u, eu, eu'⟩ := arr_get (a := b) k2
      obtain ⟨v, ev, ev'⟩ := arr_get (a := a) (i := ia') (by omega)
      refine wpS_bind (wpS_elem eu' (wpS_bind (wpS_elem ev' (wpS_bind (wpS_lt (sg.1.trans hk) (mB eu) (mA ev) ?_)))))
      by_cases c : kn u < kn v
      · simp only [c, decide_true, if_true]
        have m2 := m'.pushB sB eu fun z hz => by have := srt_drop sA ev z hz; omega
        rw [← Array.toList_push] at m2
        refine wpS_bind (wpS_elem eu' ?_)
        by_cases d : ib' + 1 = b.size
        · rw [if_pos (by simpa using d)]
          exact wpS_pure ⟨sg, .inl ⟨_, _, rfl, rB m2 d⟩⟩
        · rw [if_neg (by simpa using d)]
          split
          · exact wpS_pure ⟨sg, .inr ⟨_, _, _, _, _, rfl, m2, k1, by omega, by omega⟩⟩
          · exact wpS_pure ⟨sg, _, _, _, _, _, rfl, m2, k1, by omega, by omega⟩
      · simp only [c, decide_false, Bool.false_eq_true, if_false]
        have m2 := m'.pushA sA ev fun z hz => by have := srt_drop sB eu z hz; omega
        rw [← Array.toList_push] at m2
        refine wpS_bind (wpS_elem ev' ?_)
        by_cases d : ia' + 1 + 1 = a.size
        · rw [if_pos (by simpa using d)]
          exact wpS_pure ⟨sg, .inl ⟨_, _, rfl, rL m2 d⟩⟩
        · rw [if_neg (by simpa using d)]
          split
          · exact wpS_pure ⟨sg, .inr ⟨_, _, _, _, _, rfl, m2, by omega, k2, by omega⟩⟩
          · exact wpS_pure ⟨sg, _, _, _, _, _, rfl, m2, by omega, k2, by omega⟩
    case post1 =>
      rintro c st2 ⟨sg2, hc⟩
      rcases hc with ⟨r, z, rfl, rs⟩ | ⟨out', ia', ib', ac, bc, rfl, m', k1, k2, k3⟩
      · exact wpS_pure ⟨sg2, _, _, rfl, rs⟩
      dsimp only
      refine wpS_bind (wpS_lift (wpAny_rule ⟨rfl, ?_⟩))
      refine wpS_bind (wpS_mono (wpS_forRange
        (I := fun y c st' => SG st st' ∧ ∃ out'' ia'' ib'' mg ac bc, c = (none, out'', ia'', ib'', mg, ac, bc) ∧ MI a.toList b.toList out''.toList ia'' ib'' ∧ ia'' + 1 < a.size ∧ ib'' < b.size ∧ ia + ib + 1 ≤ ia'' + ib'')
        (Q := fun c st' => SG st st' ∧ ((∃ r z, c = (some r, z) ∧ Res a.toList b.toList r.toList) ∨ ∃ out'' ia'' ib'' mg ac bc, c = (none, out'', ia'', ib'', mg, ac, bc) ∧ MI a.toList b.toList out''.toList ia'' ib'' ∧ ia'' + 1 < a.size ∧ ib'' < b.size ∧ ia + ib + 1 ≤ ia'' + ib'')) ?step2 ?fin2 ⟨sg2, out', ia', ib', _, ac, bc, rfl, m', k1, k2, by omega⟩) ?post2)
      case fin2 =>
        rintro c st' ⟨sg, hc⟩
        exact ⟨sg, .inr hc⟩
      case post2 =>
        rintro c st3 ⟨sg3, hc⟩
        rcases hc with ⟨r, z, rfl, rs⟩ | ⟨o3, ia3, ib3, mg3, ac3, bc3, rfl, m3, q1, q2, q3⟩
        · exact wpS_pure ⟨sg3, _, _, rfl, rs⟩
        dsimp only
        refine wpS_bind (wpS_setG sg3 fun st4 sg4 => wpS_pure ⟨sg4, o3, ia3, ib3, _, rfl, m3, q1, q2, by omega⟩)
      case step2 =>
        rintro y c st3 _ hy ⟨sg3, o3, ia3, ib3, mg3, ac3, bc3, rfl, m3, q1, q2, q3⟩
        dsimp only
        have C : MC st a b := ⟨hk, iA, iB, sA, sB, hl⟩
        obtain ⟨u, eu, eu'⟩ := arr_get (a := b) q2
        have body : ∀ g : Nat, wpS (model prog w) A E s (do
            setG' g
            let u ← elem' b ib3
            let x ← gallop' false u a ia3 (a.size - ia3) 0
            match x with
            | some k =>
              if k > 0 then
                if ia3 + k + 1 == a.size then pure (ForInStep.done (some (lA a b (o3 ++ a.extract ia3 (ia3 + k)) (ia3 + k) ib3), o3 ++ a.extract ia3 (ia3 + k), ia3 + k, ib3, g, k, bc3))
                else if ia3 + k == a.size then pure (ForInStep.done (some (dn a b (o3 ++ a.extract ia3 (ia3 + k)) (ia3 + k) ib3), o3 ++ a.extract ia3 (ia3 + k), ia3 + k, ib3, g, k, bc3))
                else loB a b (o3 ++ a.extract ia3 (ia3 + k)) (ia3 + k) ib3 g k bc3
              else loB a b o3 ia3 ib3 g k bc3
            | _ => pure (ForInStep.done (some (dn a b o3 ia3 ib3), o3, ia3, ib3, g, ac3, bc3)))
          (fun r st' => match r with
            | .done c' => SG st st' ∧ ((∃ r z, c' = (some r, z) ∧ Res a.toList b.toList r.toList) ∨ ∃ out'' ia'' ib'' mg ac bc, c' = (none, out'', ia'', ib'', mg, ac, bc) ∧ MI a.toList b.toList out''.toList ia'' ib'' ∧ ia'' + 1 < a.size ∧ ib'' < b.size ∧ ia + ib + 1 ≤ ia'' + ib'')
            | .yield c' => SG st st' ∧ ∃ out'' ia'' ib'' mg ac bc, c' = (none, out'', ia'', ib'', mg, ac, bc) ∧ MI a.toList b.toList out''.toList ia'' ib'' ∧ ia'' + 1 < a.size ∧ ib'' < b.size ∧ ia + ib + 1 ≤ ia'' + ib'') st3 := by
          intro g
          refine wpS_bind (wpS_setG sg3 fun st4 sg4 => ?_)
          refine wpS_bind (wpS_elem eu' (wpS_bind (wpS_gallop (sg4.1.trans hk) (mB eu) (fun i hi => ?_) (by omega) (fun i j hij hj => K_mono sA (by omega) (by omega)) fun k hk b1 b2 => ?_)))
          · obtain ⟨x, ex, ex'⟩ := arr_get (a := a) (i := ia3 + i) (by omega)
            exact ⟨x, ex', mA ex⟩
          · dsimp only
            have up : ∀ i x, i < k → a.toList[ia3 + i]? = some x → ∀ y ∈ b.toList.drop ib3, kn x ≤ kn y := fun i x hi ex y hy => by
              have h1 := b1 i hi
              unfold B at h1
              rw [K_get ex] at h1
              have h2 := srt_drop sB eu y hy
              simp at h1
              omega
            have dwn : ∀ y ∈ a.toList.drop (ia3 + k), kn u ≤ kn y := fun y hy => by
              obtain ⟨i, ei⟩ := List.getElem?_of_mem hy
              rw [List.getElem?_drop] at ei
              have hlt : ia3 + k + i < a.size := by have := (List.getElem?_eq_some_iff.mp ei).1; omega
              have h1 := b2 (k + i) (by omega) (by omega)
              unfold B at h1
              rw [K_get (by rw [show ia3 + (k + i) = ia3 + k + i by omega]; exact ei)] at h1
              simp at h1
              omega
            have m4 := m3.appA sA k (by omega) up
            rw [← ex_list, ← Array.toList_append] at m4
            by_cases k0 : k > 0
            · rw [if_pos k0]
              by_cases d1 : ia3 + k + 1 = a.size
              · rw [if_pos (by simpa using d1)]
                exact wpS_pure ⟨sg4, .inl ⟨_, _, rfl, rL m4 d1⟩⟩
              rw [if_neg (by simpa using d1)]
              by_cases d2 : ia3 + k = a.size
              · rw [if_pos (by simpa using d2)]
                exact wpS_pure ⟨sg4, .inl ⟨_, _, rfl, rA m4 d2⟩⟩
              rw [if_neg (by simpa using d2)]
              exact wpS_loB C sg4 m4 (by omega) q2 eu dwn (fun r z rs => ⟨sg4, .inl ⟨_, _, rfl, rs⟩⟩) fun o i j x y mm p1 p2 p3 => ⟨⟨sg4, .inr ⟨o, i, j, _, x, y, rfl, mm, p1, p2, by omega⟩⟩, ⟨sg4, o, i, j, _, x, y, rfl, mm, p1, p2, by omega⟩⟩
            · rw [if_neg k0]
              have k00 : k = 0 := by omega
              subst k00
              exact wpS_loB C sg4 m3 q1 q2 eu (by simpa using dwn) (fun r z rs => ⟨sg4, .inl ⟨_, _, rfl, rs⟩⟩) fun o i j x y mm p1 p2 p3 => ⟨⟨sg4, .inr ⟨o, i, j, _, x, y, rfl, mm, p1, p2, by omega⟩⟩, ⟨sg4, o, i, j, _, x, y, rfl, mm, p1, p2, by omega⟩⟩
        by_cases c : mg3 > 1
        · rw [if_pos c]
          exact wpS_mono (body _) fun r st' hh => by cases r <;> exact hh
        · rw [if_neg c]
          exact wpS_mono (body _) fun r st' hh => by cases r <;> exact hh
/-! ### merging from the end -/
structure HI (a b o : List Keyed) (na nb : Nat) : Prop where
  perm : o.Perm (a.drop na ++ b.drop nb)
  srt : o.Pairwise Le
  le : ∀ x ∈ o, ∀ y, (y ∈ a.take na ∨ y ∈ b.take nb) → kn y ≤ kn x
theorem srt_take {l : List Keyed} {i : Nat} {x : Keyed} (h : l.Pairwise Le) (e : l[i]? = some x) : ∀ y ∈ l.take (i + 1), kn y ≤ kn x := by
  intro y hy
  have := List.Pairwise.take (i := i + 1) h
  rw [take_one e] at this hy
  rcases List.mem_append.mp hy with hy | hy
  · exact (List.pairwise_append.mp this).2.2 y hy x (by simp)
  · rw [List.mem_singleton.mp hy]; exact Int.le_refl _
theorem HI.pushA {a b o : List Keyed} {na nb : Nat} {x : Keyed} (m : HI a b o (na + 1) nb) (ha : a.Pairwise Le) (e : a[na]? = some x) (h : ∀ y ∈ b.take nb, kn y ≤ kn x) : HI a b (x :: o) na nb := by
  have xa : x ∈ a.take (na + 1) := by rw [take_one e]; simp
  have sub : ∀ y ∈ a.take na, y ∈ a.take (na + 1) := fun y hy => by rw [take_one e]; exact List.mem_append_left _ hy
  refine ⟨?_, ?_, ?_⟩
  · rw [drop_one e]
    exact m.perm.cons x
  · exact List.pairwise_cons.mpr ⟨fun u hu => m.le u hu x (.inl xa), m.srt⟩
  · intro u hu y hy
    rcases List.mem_cons.mp hu with rfl | hu
    · rcases hy with hy | hy
      · exact srt_take ha e y (sub y hy)
      · exact h y hy
    · rcases hy with hy | hy
      · exact m.le u hu y (.inl (sub y hy))
      · exact m.le u hu y (.inr hy)
theorem HI.pushB {a b o : List Keyed} {na nb : Nat} {x : Keyed} (m : HI a b o na (nb + 1)) (hb : b.Pairwise Le) (e : b[nb]? = some x) (h : ∀ y ∈ a.take na, kn y ≤ kn x) : HI a b (x :: o) na nb := by
  have xb : x ∈ b.take (nb + 1) := by rw [take_one e]; simp
  have sub : ∀ y ∈ b.take nb, y ∈ b.take (nb + 1) := fun y hy => by rw [take_one e]; exact List.mem_append_left _ hy
  refine ⟨?_, ?_, ?_⟩
  · rw [drop_one e]
    exact (m.perm.cons x).trans List.perm_middle.symm
  · exact List.pairwise_cons.mpr ⟨fun u hu => m.le u hu x (.inr xb), m.srt⟩
  · intro u hu y hy
    rcases List.mem_cons.mp hu with rfl | hu
    · rcases hy with hy | hy
      · exact h y hy
      · exact srt_take hb e y (sub y hy)
    · rcases hy with hy | hy
      · exact m.le u hu y (.inl hy)
      · exact m.le u hu y (.inr (sub y hy))
theorem HI.appA {a b o : List Keyed} {na nb : Nat} (m : HI a b o na nb) (ha : a.Pairwise Le) (hn : na ≤ a.length) : ∀ k, k ≤ na → (∀ i x, na - k ≤ i → i < na → a[i]? = some x → ∀ y ∈ b.take nb, kn y ≤ kn x) → HI a b ((a.drop (na - k)).take k ++ o) (na - k) nb
  | 0, _, _ => by simpa using m
  | k + 1, hk, h => by
    have e : a[na - (k + 1)]? = some (a[na - (k + 1)]'(by omega)) := List.getElem?_eq_getElem (by omega)
    have m0 := m.appA ha hn k (by omega) fun i x h1 h2 => h i x (by omega) h2
    rw [show na - k = na - (k + 1) + 1 by omega] at m0
    have m1 := m0.pushA ha e (h _ _ (Nat.le_refl _) (by omega) e)
    rw [drop_one e, List.take_succ_cons]
    exact m1
theorem HI.appB {a b o : List Keyed} {na nb : Nat} (m : HI a b o na nb) (hb : b.Pairwise Le) (hn : nb ≤ b.length) : ∀ k, k ≤ nb → (∀ i x, nb - k ≤ i → i < nb → b[i]? = some x → ∀ y ∈ a.take na, kn y ≤ kn x) → HI a b ((b.drop (nb - k)).take k ++ o) na (nb - k)
  | 0, _, _ => by simpa using m
  | k + 1, hk, h => by
    have e : b[nb - (k + 1)]? = some (b[nb - (k + 1)]'(by omega)) := List.getElem?_eq_getElem (by omega)
    have m0 := m.appB hb hn k (by omega) fun i x h1 h2 => h i x (by omega) h2
    rw [show nb - k = nb - (k + 1) + 1 by omega] at m0
    have m1 := m0.pushB hb e (h _ _ (Nat.le_refl _) (by omega) e)
    rw [drop_one e, List.take_succ_cons]
    exact m1
theorem HI.doneA {a b o : List Keyed} {nb : Nat} (m : HI a b o 0 nb) (hb : b.Pairwise Le) : Res a b (a.take 0 ++ b.take nb ++ o) := by
  rw [List.take_zero, List.nil_append]
  refine ⟨?_, ?_⟩
  · have := m.perm.append_left (b.take nb)
    rw [List.drop_zero, ← List.append_assoc] at this
    refine this.trans ((List.perm_append_comm (l₁ := b.take nb) (l₂ := a)).append_right (b.drop nb) |>.trans ?_)
    rw [List.append_assoc, List.take_append_drop]
  · rw [List.pairwise_append]
    exact ⟨hb.take, m.srt, fun u hu v hv => m.le v hv u (.inr hu)⟩
theorem HI.doneB {a b o : List Keyed} {na : Nat} (m : HI a b o na 0) (ha : a.Pairwise Le) : Res a b (a.take na ++ b.take 0 ++ o) := by
  rw [List.take_zero, List.append_nil]
  refine ⟨?_, ?_⟩
  · have := m.perm.append_left (a.take na)
    rw [List.drop_zero, ← List.append_assoc, List.take_append_drop] at this
    exact this
  · rw [List.pairwise_append]
    exact ⟨ha.take, m.srt, fun u hu v hv => m.le v hv u (.inl hu)⟩
theorem HI.firstB {a b o : List Keyed} {na : Nat} (m : HI a b o na 1) (ha : a.Pairwise Le) (hb : b.Pairwise Le) (hf : ∀ x, b[0]? = some x → ∀ y ∈ a, kn x ≤ kn y) : Res a b (b.take 1 ++ a.take na ++ o) := by
  refine ⟨?_, ?_⟩
  · have h1 := m.perm.append_left (b.take 1 ++ a.take na)
    refine h1.trans ?_
    have h2 := ((List.perm_append_comm (l₁ := b.take 1) (l₂ := a.take na)).append_right (a.drop na ++ b.drop 1))
    refine h2.trans ?_
    rw [List.append_assoc]
    refine (List.Perm.append_left (a.take na) (List.perm_append_comm_assoc (b.take 1) (a.drop na) (b.drop 1))).trans ?_
    rw [List.take_append_drop, ← List.append_assoc, List.take_append_drop]
  · rw [List.pairwise_append, List.pairwise_append]
    refine ⟨⟨hb.take, ha.take, fun u hu v hv => ?_⟩, m.srt, fun u hu v hv => ?_⟩
    · cases b with
      | nil => simp at hu
      | cons b0 br =>
        rw [List.take_succ_cons, List.take_zero, List.mem_singleton] at hu
        rw [hu]
        exact hf b0 rfl v (List.mem_of_mem_take hv)
    · rcases List.mem_append.mp hu with hu | hu
      · exact m.le v hv u (.inr hu)
      · exact m.le v hv u (.inl hu)
noncomputable def mergeHi' : Array Keyed → Array Keyed → StateT SortSt Sem (Array Keyed) := sortPriv% PySem.Builtin.mergeHi
noncomputable def dh (a b out : Array Keyed) (na nb : Nat) : Array Keyed := a.extract 0 na ++ b.extract 0 nb ++ out.reverse
noncomputable def fB (a b out : Array Keyed) (na nb : Nat) : Array Keyed := b.extract 0 nb ++ a.extract 0 na ++ out.reverse
theorem dh_list (a b out : Array Keyed) (na nb : Nat) : (dh a b out na nb).toList = a.toList.take na ++ b.toList.take nb ++ out.toList.reverse := by
  unfold dh
  simp [Array.toList_extract]
theorem fB_list (a b out : Array Keyed) (na nb : Nat) : (fB a b out na nb).toList = b.toList.take nb ++ a.toList.take na ++ out.toList.reverse := by
  unfold fB
  simp [Array.toList_extract]
theorem exr_list (a out : Array Keyed) (i n : Nat) : (out ++ (a.extract i n).reverse).toList.reverse = (a.toList.drop i).take (n - i) ++ out.toList.reverse := by
  simp [Array.toList_extract]
theorem mergeHi'_eq (a b : Array Keyed) : mergeHi' a b = (do
  rule "list.sort.merge-hi"
  let mut na := a.size - 1
  let mut nb := b.size
  let mut out : Array Keyed := #[← elem' a na]
  if na == 0 then return dh a b out na nb
  if nb == 1 then return fB a b out na nb
  let mut minGallop := gallopOf (← get)
  for _ in [0:a.size + b.size] do
    let mut acount := 0
    let mut bcount := 0
    for _ in [0:a.size + b.size] do
      let some aWins ← lt' (← elem' b (nb - 1)) (← elem' a (na - 1)) | return dh a b out na nb
      if aWins then
        na := na - 1; out := out.push (← elem' a na); acount := acount + 1; bcount := 0
        if na == 0 then return dh a b out na nb
        if acount ≥ minGallop then break
      else
        nb := nb - 1; out := out.push (← elem' b nb); bcount := bcount + 1; acount := 0
        if nb == 1 then return fB a b out na nb
        if bcount ≥ minGallop then break
    rule "list.sort.gallop"
    minGallop := minGallop + 1
    for _ in [0:a.size + b.size] do
      if minGallop > 1 then minGallop := minGallop - 1
      setG' minGallop
      let some at_ ← gallop' false (← elem' b (nb - 1)) a 0 na (na - 1) | return dh a b out na nb
      let k := na - at_
      acount := k
      if k > 0 then
        out := out ++ (a.extract at_ na).reverse; na := at_
        if na == 0 then return dh a b out na nb
      nb := nb - 1; out := out.push (← elem' b nb)
      if nb == 1 then return fB a b out na nb
      let some at_ ← gallop' true (← elem' a (na - 1)) b 0 nb (nb - 1) | return dh a b out na nb
      let k := nb - at_
      bcount := k
      if k > 0 then
        out := out ++ (b.extract at_ nb).reverse; nb := at_
        if nb == 1 then return fB a b out na nb
        if nb == 0 then return dh a b out na nb
      na := na - 1; out := out.push (← elem' a na)
      if na == 0 then return dh a b out na nb
      if acount < 7 && bcount < 7 then break
    minGallop := minGallop + 1
    setG' minGallop
  unsupported "internal:list.sort.merge-bound") := rfl
theorem push_rev (out : Array Keyed) (x : Keyed) : (out.push x).toList.reverse = x :: out.toList.reverse := by simp
abbrev HiT := Option (Array Keyed) × Nat × Nat × Array Keyed × Nat × Nat × Nat
noncomputable def hiC (a b : Array Keyed) (na nb : Nat) (out : Array Keyed) (mg ac bc : Nat) : StateT SortSt Sem (ForInStep HiT) := do
  let v ← elem' a (na - 1)
  if na - 1 == 0 then pure (.done (some (dh a b (out.push v) (na - 1) nb), na - 1, nb, out.push v, mg, ac, bc))
  else if ac < 7 && bc < 7 then pure (.done (none, na - 1, nb, out.push v, mg, ac, bc)) else pure (.yield (none, na - 1, nb, out.push v, mg, ac, bc))
noncomputable def hiB (a b : Array Keyed) (na nb : Nat) (out : Array Keyed) (mg ac bc : Nat) : StateT SortSt Sem (ForInStep HiT) := do
  let u ← elem' b (nb - 1)
  if nb - 1 == 1 then pure (.done (some (fB a b (out.push u) na (nb - 1)), na, nb - 1, out.push u, mg, ac, bc))
  else
    let v ← elem' a (na - 1)
    let x ← gallop' true v b 0 (nb - 1) (nb - 1 - 1)
    match x with
    | some at_ =>
      if nb - 1 - at_ > 0 then
        if at_ == 1 then pure (.done (some (fB a b (out.push u ++ (b.extract at_ (nb - 1)).reverse) na at_), na, at_, out.push u ++ (b.extract at_ (nb - 1)).reverse, mg, ac, nb - 1 - at_))
        else if at_ == 0 then pure (.done (some (dh a b (out.push u ++ (b.extract at_ (nb - 1)).reverse) na at_), na, at_, out.push u ++ (b.extract at_ (nb - 1)).reverse, mg, ac, nb - 1 - at_))
        else hiC a b na at_ (out.push u ++ (b.extract at_ (nb - 1)).reverse) mg ac (nb - 1 - at_)
      else hiC a b na (nb - 1) (out.push u) mg ac (nb - 1 - at_)
    | _ => pure (.done (some (dh a b (out.push u) na (nb - 1)), na, nb - 1, out.push u, mg, ac, bc))
/-- what both halves of a merge from the end start from -/
structure HC (st : SortSt) (a b : Array Keyed) : Prop where
  hk : kindOf st = oneType'
  iA : ∀ x ∈ a.toList, IsI x
  iB : ∀ x ∈ b.toList, IsI x
  sA : a.toList.Pairwise Le
  sB : b.toList.Pairwise Le
  hf : ∀ x, b.toList[0]? = some x → ∀ y ∈ a.toList, kn x ≤ kn y
theorem HC.rA {st : SortSt} {a b out : Array Keyed} {na nb : Nat} (c : HC st a b) (m : HI a.toList b.toList out.toList.reverse na nb) (e : na = 0) : Res a.toList b.toList (dh a b out na nb).toList := by subst e; rw [dh_list]; exact m.doneA c.sB
theorem HC.rB {st : SortSt} {a b out : Array Keyed} {na nb : Nat} (c : HC st a b) (m : HI a.toList b.toList out.toList.reverse na nb) (e : nb = 0) : Res a.toList b.toList (dh a b out na nb).toList := by subst e; rw [dh_list]; exact m.doneB c.sA
theorem HC.rF {st : SortSt} {a b out : Array Keyed} {na nb : Nat} (c : HC st a b) (m : HI a.toList b.toList out.toList.reverse na nb) (e : nb = 1) : Res a.toList b.toList (fB a b out na nb).toList := by subst e; rw [fB_list]; exact m.firstB c.sA c.sB c.hf
theorem wpS_hiC {st st' : SortSt} {a b out : Array Keyed} {na nb mg ac bc : Nat} {v : Keyed} {P : ForInStep HiT → SortSt → Prop} (c : HC st a b) (sg : SG st st') (m : HI a.toList b.toList out.toList.reverse na nb) (l1 : 1 ≤ na) (l2 : 2 ≤ nb)
    (ev : a.toList[na - 1]? = some v) (hv : ∀ y ∈ b.toList.take nb, kn y ≤ kn v) (hr : ∀ r z, Res a.toList b.toList r.toList → P (.done (some r, z)) st')
    (hn : ∀ na' nb' out' ac' bc', HI a.toList b.toList out'.toList.reverse na' nb' → 1 ≤ na' → 2 ≤ nb' → na' ≤ na → nb' ≤ nb → P (.done (none, na', nb', out', mg, ac', bc')) st' ∧ P (.yield (none, na', nb', out', mg, ac', bc')) st') :
    wpS (model prog w) A E s (hiC a b na nb out mg ac bc) P st' := by
  unfold hiC
  have ev' : a[na - 1]? = some v := by rw [← Array.getElem?_toList]; exact ev
  rw [show na = na - 1 + 1 by omega] at m
  have m2 := m.pushA c.sA ev hv
  rw [← push_rev] at m2
  refine wpS_bind (wpS_elem ev' ?_)
  by_cases d : na - 1 = 0
  · rw [if_pos (by simpa using d)]
    exact wpS_pure (hr _ _ (c.rA m2 d))
  · rw [if_neg (by simpa using d)]
    obtain ⟨h1, h2⟩ := hn _ _ _ ac bc m2 (by omega) l2 (by omega) (Nat.le_refl _)
    split
    · exact wpS_pure h1
    · exact wpS_pure h2
theorem wpS_hiB {st st' : SortSt} {a b out : Array Keyed} {na nb mg ac bc : Nat} {u : Keyed} {P : ForInStep HiT → SortSt → Prop} (c : HC st a b) (sg : SG st st') (m : HI a.toList b.toList out.toList.reverse na nb) (l1 : 1 ≤ na) (na1 : na ≤ a.size) (l2 : 2 ≤ nb) (nb1 : nb ≤ b.size)
    (eu : b.toList[nb - 1]? = some u) (hu : ∀ y ∈ a.toList.take na, kn y ≤ kn u) (hr : ∀ r z, Res a.toList b.toList r.toList → P (.done (some r, z)) st')
    (hn : ∀ na' nb' out' ac' bc', HI a.toList b.toList out'.toList.reverse na' nb' → 1 ≤ na' → 2 ≤ nb' → na' ≤ na → nb' ≤ nb → P (.done (none, na', nb', out', mg, ac', bc')) st' ∧ P (.yield (none, na', nb', out', mg, ac', bc')) st') :
    wpS (model prog w) A E s (hiB a b na nb out mg ac bc) P st' := by
  unfold hiB
  have la : a.toList.length = a.size := by simp
  have lb : b.toList.length = b.size := by simp
  have eu' : b[nb - 1]? = some u := by rw [← Array.getElem?_toList]; exact eu
  rw [show nb = nb - 1 + 1 by omega] at m
  have m2 := m.pushB c.sB eu hu
  rw [← push_rev] at m2
  refine wpS_bind (wpS_elem eu' ?_)
  by_cases d : nb - 1 = 1
  · rw [if_pos (by simpa using d)]
    exact wpS_pure (hr _ _ (c.rF m2 d))
  rw [if_neg (by simpa using d)]
  obtain ⟨v, ev, ev'⟩ := arr_get (a := a) (i := na - 1) (by omega)
  refine wpS_bind (wpS_elem ev' (wpS_bind (wpS_gallop (sg.1.trans c.hk) (c.iA _ (List.mem_of_getElem? ev)) (fun i hi => ?_) (by omega) (fun i j hij hj => K_mono c.sB (by omega) (by omega)) fun k hk b1 b2 => ?_)))
  · obtain ⟨x, ex, ex'⟩ := arr_get (a := b) (i := 0 + i) (by omega)
    exact ⟨x, ex', c.iB _ (List.mem_of_getElem? ex)⟩
  · dsimp only
    have up : ∀ i x, k ≤ i → i < nb - 1 → b.toList[i]? = some x → ∀ y ∈ a.toList.take na, kn y ≤ kn x := fun i x h1 h2 ex y hy => by
      have q := b2 i h1 h2
      unfold B at q
      rw [Nat.zero_add, K_get ex] at q
      have q2 := srt_take c.sA ev y (by rw [show na - 1 + 1 = na by omega]; exact hy)
      simp at q
      omega
    have dwn : ∀ y ∈ b.toList.take k, kn y ≤ kn v := fun y hy => by
      obtain ⟨i, ei⟩ := List.getElem?_of_mem hy
      have hik : i < k := by have := (List.getElem?_eq_some_iff.mp ei).1; rw [List.length_take] at this; omega
      rw [List.getElem?_take, if_pos hik] at ei
      have q := b1 i hik
      unfold B at q
      rw [Nat.zero_add, K_get ei] at q
      simp at q
      omega
    by_cases k0 : nb - 1 - k > 0
    · rw [if_pos k0]
      have m3 := m2.appB c.sB (by omega) (nb - 1 - k) (by omega) fun i x h1 h2 => up i x (by omega) h2
      rw [show nb - 1 - (nb - 1 - k) = k by omega, ← exr_list] at m3
      by_cases d1 : k = 1
      · rw [if_pos (by simpa using d1)]
        exact wpS_pure (hr _ _ (c.rF m3 d1))
      rw [if_neg (by simpa using d1)]
      by_cases d2 : k = 0
      · rw [if_pos (by simpa using d2)]
        exact wpS_pure (hr _ _ (c.rB m3 d2))
      rw [if_neg (by simpa using d2)]
      exact wpS_hiC c sg m3 l1 (by omega) ev dwn hr fun x y o p q mm q1 q2 q3 q4 => hn x y o p q mm q1 q2 q3 (by omega)
    · rw [if_neg k0]
      have kk : k = nb - 1 := by omega
      rw [kk] at dwn
      exact wpS_hiC c sg m2 l1 (by omega) ev dwn hr fun x y o p q mm q1 q2 q3 q4 => hn x y o p q mm q1 q2 q3 (by omega)
theorem wpS_mergeHi {st : SortSt} {a b : Array Keyed} {Q : Array Keyed → SortSt → Prop} (hk : kindOf st = oneType') (iA : ∀ x ∈ a.toList, IsI x) (iB : ∀ x ∈ b.toList, IsI x) (sA : a.toList.Pairwise Le) (sB : b.toList.Pairwise Le) (a1 : 1 ≤ a.size) (b1 : 1 ≤ b.size)
    (hf : ∀ x, b.toList[0]? = some x → ∀ y ∈ a.toList, kn x ≤ kn y) (hl : ∀ x, a.toList[a.size - 1]? = some x → ∀ y ∈ b.toList, kn y ≤ kn x)
    (h : ∀ r st', SG st st' → Res a.toList b.toList r.toList → Q r st') : wpS (model prog w) A E s (mergeHi' a b) Q st := by
  have la : a.toList.length = a.size := by simp
  have lb : b.toList.length = b.size := by simp
  have C : HC st a b := ⟨hk, iA, iB, sA, sB, hf⟩
  have mA : ∀ {i : Nat} {x : Keyed}, a.toList[i]? = some x → IsI x := fun e => iA _ (List.mem_of_getElem? e)
  have mB : ∀ {i : Nat} {x : Keyed}, b.toList[i]? = some x → IsI x := fun e => iB _ (List.mem_of_getElem? e)
  rw [mergeHi'_eq]
  refine wpS_bind (wpS_lift (wpAny_rule ⟨rfl, ?_⟩))
  obtain ⟨x0, ex0, ex0'⟩ := arr_get (a := a) (i := a.size - 1) (by omega)
  refine wpS_bind (wpS_elem ex0' ?_)
  have m0 : HI a.toList b.toList (#[x0] : Array Keyed).toList.reverse (a.size - 1) b.size := by
    have : HI a.toList b.toList [] (a.size - 1 + 1) b.size := ⟨by rw [List.drop_of_length_le (by omega), List.drop_of_length_le (by omega)]; simp, by simp, by simp⟩
    have := this.pushA sA ex0 fun y hy => hl x0 ex0 y (List.mem_of_mem_take hy)
    simpa using this
  dsimp only
  by_cases c1 : a.size - 1 = 0
  · rw [if_pos (by simpa using c1)]
    exact wpS_pure (h _ _ (SG.refl _) (C.rA m0 c1))
  rw [if_neg (by simpa using c1)]
  by_cases c2 : b.size = 1
  · rw [if_pos (by simpa using c2)]
    exact wpS_pure (h _ _ (SG.refl _) (C.rF m0 c2))
  rw [if_neg (by simpa using c2)]
  refine wpS_bind (wpS_get ?_)
  refine wpS_bind (wpS_mono (wpS_forRange
    (I := fun x c st' => SG st st' ∧ ∃ na nb out mg, c = (none, na, nb, out, mg) ∧ HI a.toList b.toList out.toList.reverse na nb ∧ 1 ≤ na ∧ na ≤ a.size ∧ 2 ≤ nb ∧ nb ≤ b.size ∧ x + na + nb + 1 ≤ a.size + b.size)
    (Q := fun c st' => SG st st' ∧ ∃ r z, c = (some r, z) ∧ Res a.toList b.toList r.toList) ?step ?fin ⟨SG.refl _, _, _, _, _, rfl, m0, by omega, by omega, by omega, by omega, by omega⟩) ?post)
  case fin =>
    rintro c st' ⟨sg, na, nb, out, mg, rfl, m, l1, l2, l3, l4, l5⟩
    omega
  case post =>
    rintro c st' ⟨sg, r, z, rfl, rs⟩
    exact wpS_pure (h r st' sg rs)
  case step =>
    rintro x c st1 _ hx ⟨sg1, na, nb, out, mg, rfl, m, l1, l2, l3, l4, l5⟩
    dsimp only
    refine wpS_bind (wpS_mono (wpS_forRange
      (I := fun y c st' => SG st st' ∧ ∃ na' nb' out' ac bc, c = (none, na', nb', out', ac, bc) ∧ HI a.toList b.toList out'.toList.reverse na' nb' ∧ 1 ≤ na' ∧ na' ≤ a.size ∧ 2 ≤ nb' ∧ nb' ≤ b.size ∧ na' + nb' + y ≤ na + nb)
      (Q := fun c st' => SG st st' ∧ ((∃ r z, c = (some r, z) ∧ Res a.toList b.toList r.toList) ∨ ∃ na' nb' out' ac bc, c = (none, na', nb', out', ac, bc) ∧ HI a.toList b.toList out'.toList.reverse na' nb' ∧ 1 ≤ na' ∧ na' ≤ a.size ∧ 2 ≤ nb' ∧ nb' ≤ b.size ∧ na' + nb' + 1 ≤ na + nb)) ?step1 ?fin1 ⟨sg1, na, nb, out, 0, 0, rfl, m, l1, l2, l3, l4, by omega⟩) ?post1)
    case fin1 =>
      rintro c st' ⟨sg, na', nb', out', ac, bc, rfl, m', k1, k2, k3, k4, k5⟩
      exact ⟨sg, .inr ⟨na', nb', out', ac, bc, rfl, m', k1, k2, k3, k4, by omega⟩⟩
    case step1 =>
      rintro y c st2 _ hy ⟨sg, na', nb', out', ac, bc, rfl, m', k1, k2, k3, k4, k5⟩
      dsimp only
      obtain ⟨u, eu, eu'⟩ := arr_get (a := b) (i := nb' - 1) (by omega)
      obtain ⟨v, ev, ev'⟩ := arr_get (a := a) (i := na' - 1) (by omega)
      refine wpS_bind (wpS_elem eu' (wpS_bind (wpS_elem ev' (wpS_bind (wpS_lt (sg.1.trans hk) (mB eu) (mA ev) ?_)))))
      by_cases c : kn u < kn v
      · simp only [c, decide_true, if_true]
        rw [show na' = na' - 1 + 1 by omega] at m'
        have m2 := m'.pushA sA ev fun z hz => by have := srt_take sB eu z (by rw [show nb' - 1 + 1 = nb' by omega]; exact hz); omega
        rw [← push_rev] at m2
        refine wpS_bind (wpS_elem ev' ?_)
        by_cases d : na' - 1 = 0
        · rw [if_pos (by simpa using d)]
          exact wpS_pure ⟨sg, .inl ⟨_, _, rfl, C.rA m2 d⟩⟩
        · rw [if_neg (by simpa using d)]
          split
          · exact wpS_pure ⟨sg, .inr ⟨_, _, _, _, _, rfl, m2, by omega, by omega, k3, k4, by omega⟩⟩
          · exact wpS_pure ⟨sg, _, _, _, _, _, rfl, m2, by omega, by omega, k3, k4, by omega⟩
      · simp only [c, decide_false, Bool.false_eq_true, if_false]
        rw [show nb' = nb' - 1 + 1 by omega] at m'
        have m2 := m'.pushB sB eu fun z hz => by have := srt_take sA ev z (by rw [show na' - 1 + 1 = na' by omega]; exact hz); omega
        rw [← push_rev] at m2
        refine wpS_bind (wpS_elem eu' ?_)
        by_cases d : nb' - 1 = 1
        · rw [if_pos (by simpa using d)]
          exact wpS_pure ⟨sg, .inl ⟨_, _, rfl, C.rF m2 d⟩⟩
        · rw [if_neg (by simpa using d)]
          split
          · exact wpS_pure ⟨sg, .inr ⟨_, _, _, _, _, rfl, m2, k1, k2, by omega, by omega, by omega⟩⟩
          · exact wpS_pure ⟨sg, _, _, _, _, _, rfl, m2, k1, k2, by omega, by omega, by omega⟩
    case post1 =>
      rintro c st2 ⟨sg2, hc⟩
      rcases hc with ⟨r, z, rfl, rs⟩ | ⟨na', nb', out', ac, bc, rfl, m', k1, k2, k3, k4, k5⟩
      · exact wpS_pure ⟨sg2, _, _, rfl, rs⟩
      dsimp only
      refine wpS_bind (wpS_lift (wpAny_rule ⟨rfl, ?_⟩))
      refine wpS_bind (wpS_mono (wpS_forRange
        (I := fun y c st' => SG st st' ∧ ∃ na'' nb'' out'' mg ac bc, c = (none, na'', nb'', out'', mg, ac, bc) ∧ HI a.toList b.toList out''.toList.reverse na'' nb'' ∧ 1 ≤ na'' ∧ na'' ≤ na' ∧ 2 ≤ nb'' ∧ nb'' ≤ nb')
        (Q := fun c st' => SG st st' ∧ ((∃ r z, c = (some r, z) ∧ Res a.toList b.toList r.toList) ∨ ∃ na'' nb'' out'' mg ac bc, c = (none, na'', nb'', out'', mg, ac, bc) ∧ HI a.toList b.toList out''.toList.reverse na'' nb'' ∧ 1 ≤ na'' ∧ na'' ≤ na' ∧ 2 ≤ nb'' ∧ nb'' ≤ nb')) ?step2 ?fin2 ⟨sg2, na', nb', out', _, ac, bc, rfl, m', k1, Nat.le_refl _, k3, Nat.le_refl _⟩) ?post2)
      case fin2 =>
        rintro c st' ⟨sg, hc⟩
        exact ⟨sg, .inr hc⟩
      case post2 =>
        rintro c st3 ⟨sg3, hc⟩
        rcases hc with ⟨r, z, rfl, rs⟩ | ⟨na3, nb3, o3, mg3, ac3, bc3, rfl, m3, q1, q2, q3, q4⟩
        · exact wpS_pure ⟨sg3, _, _, rfl, rs⟩
        dsimp only
        refine wpS_bind (wpS_setG sg3 fun st4 sg4 => wpS_pure ⟨sg4, na3, nb3, o3, _, rfl, m3, q1, by omega, q3, by omega, by omega⟩)
      case step2 =>
        rintro y c st3 _ hy ⟨sg3, na3, nb3, o3, mg3, ac3, bc3, rfl, m3, q1, q2, q3, q4⟩
        dsimp only
        obtain ⟨u, eu, eu'⟩ := arr_get (a := b) (i := nb3 - 1) (by omega)
        have body : ∀ g : Nat, wpS (model prog w) A E s (do
            setG' g
            let u ← elem' b (nb3 - 1)
            let x ← gallop' false u a 0 na3 (na3 - 1)
            match x with
            | some at_ =>
              if na3 - at_ > 0 then
                if at_ == 0 then pure (ForInStep.done (some (dh a b (o3 ++ (a.extract at_ na3).reverse) at_ nb3), at_, nb3, o3 ++ (a.extract at_ na3).reverse, g, na3 - at_, bc3))
                else hiB a b at_ nb3 (o3 ++ (a.extract at_ na3).reverse) g (na3 - at_) bc3
              else hiB a b na3 nb3 o3 g (na3 - at_) bc3
            | _ => pure (ForInStep.done (some (dh a b o3 na3 nb3), na3, nb3, o3, g, ac3, bc3)))
          (fun r st' => match r with
            | .done c' => SG st st' ∧ ((∃ r z, c' = (some r, z) ∧ Res a.toList b.toList r.toList) ∨ ∃ na'' nb'' out'' mg ac bc, c' = (none, na'', nb'', out'', mg, ac, bc) ∧ HI a.toList b.toList out''.toList.reverse na'' nb'' ∧ 1 ≤ na'' ∧ na'' ≤ na' ∧ 2 ≤ nb'' ∧ nb'' ≤ nb')
            | .yield c' => SG st st' ∧ ∃ na'' nb'' out'' mg ac bc, c' = (none, na'', nb'', out'', mg, ac, bc) ∧ HI a.toList b.toList out''.toList.reverse na'' nb'' ∧ 1 ≤ na'' ∧ na'' ≤ na' ∧ 2 ≤ nb'' ∧ nb'' ≤ nb') st3 := by
          intro g
          refine wpS_bind (wpS_setG sg3 fun st4 sg4 => ?_)
          refine wpS_bind (wpS_elem eu' (wpS_bind (wpS_gallop (sg4.1.trans hk) (mB eu) (fun i hi => ?_) (by omega) (fun i j hij hj => K_mono sA (by omega) (by omega)) fun k hk b1 b2 => ?_)))
          · obtain ⟨x, ex, ex'⟩ := arr_get (a := a) (i := 0 + i) (by omega)
            exact ⟨x, ex', mA ex⟩
          · dsimp only
            have up : ∀ i x, k ≤ i → i < na3 → a.toList[i]? = some x → ∀ y ∈ b.toList.take nb3, kn y ≤ kn x := fun i x h1 h2 ex y hy => by
              have q := b2 i h1 h2
              unfold B at q
              rw [Nat.zero_add, K_get ex] at q
              have q2 := srt_take sB eu y (by rw [show nb3 - 1 + 1 = nb3 by omega]; exact hy)
              simp at q
              omega
            have dwn : ∀ y ∈ a.toList.take k, kn y ≤ kn u := fun y hy => by
              obtain ⟨i, ei⟩ := List.getElem?_of_mem hy
              have hik : i < k := by have := (List.getElem?_eq_some_iff.mp ei).1; rw [List.length_take] at this; omega
              rw [List.getElem?_take, if_pos hik] at ei
              have q := b1 i hik
              unfold B at q
              rw [Nat.zero_add, K_get ei] at q
              simp at q
              omega
            by_cases k0 : na3 - k > 0
            · rw [if_pos k0]
              have m4 := m3.appA sA (by omega) (na3 - k) (by omega) fun i x h1 h2 => up i x (by omega) h2
              rw [show na3 - (na3 - k) = k by omega, ← exr_list] at m4
              by_cases d1 : k = 0
              · rw [if_pos (by simpa using d1)]
                exact wpS_pure ⟨sg4, .inl ⟨_, _, rfl, C.rA m4 d1⟩⟩
              rw [if_neg (by simpa using d1)]
              exact wpS_hiB C sg4 m4 (by omega) (by omega) q3 (by omega) eu dwn (fun r z rs => ⟨sg4, .inl ⟨_, _, rfl, rs⟩⟩) fun i j o x y mm p1 p2 p3 p4 => ⟨⟨sg4, .inr ⟨i, j, o, _, x, y, rfl, mm, p1, by omega, p2, by omega⟩⟩, ⟨sg4, i, j, o, _, x, y, rfl, mm, p1, by omega, p2, by omega⟩⟩
            · rw [if_neg k0]
              have kk : k = na3 := by omega
              rw [kk] at dwn
              exact wpS_hiB C sg4 m3 q1 (by omega) q3 (by omega) eu dwn (fun r z rs => ⟨sg4, .inl ⟨_, _, rfl, rs⟩⟩) fun i j o x y mm p1 p2 p3 p4 => ⟨⟨sg4, .inr ⟨i, j, o, _, x, y, rfl, mm, p1, by omega, p2, by omega⟩⟩, ⟨sg4, i, j, o, _, x, y, rfl, mm, p1, by omega, p2, by omega⟩⟩
        by_cases c : mg3 > 1
        · rw [if_pos c]
          exact wpS_mono (body _) fun r st' hh => by cases r <;> exact hh
        · rw [if_neg c]
          exact wpS_mono (body _) fun r st' hh => by cases r <;> exact hh
/-! ### two runs merged in place -/
noncomputable def wr (sa : Nat) (arr : Array Keyed) (l : List (Keyed × Nat)) : Array Keyed := l.foldl (fun a p => a.setIfInBounds (sa + p.2) p.1) arr
theorem wr_get (sa : Nat) : ∀ (l : List Keyed) (s : Nat) (arr : Array Keyed) (t : Nat), sa + s + l.length ≤ arr.size → (wr sa arr (l.zipIdx s))[t]? = if sa + s ≤ t ∧ t < sa + s + l.length then l[t - (sa + s)]? else arr[t]?
  | [], s, arr, t, _ => by
    rw [if_neg (by simp)]
    rfl
  | x :: l, s, arr, t, h => by
    rw [List.length_cons] at h
    rw [List.zipIdx_cons]
    show (wr sa (arr.setIfInBounds (sa + s) x) (l.zipIdx (s + 1)))[t]? = _
    rw [wr_get sa l (s + 1) _ t (by rw [Array.size_setIfInBounds]; omega), List.length_cons]
    by_cases c : sa + (s + 1) ≤ t ∧ t < sa + (s + 1) + l.length
    · rw [if_pos c, if_pos (by omega), show t - (sa + s) = t - (sa + (s + 1)) + 1 by omega, List.getElem?_cons_succ]
    · rw [if_neg c]
      by_cases d : t = sa + s
      · rw [if_pos (by omega), d, Nat.sub_self, List.getElem?_cons_zero, Array.getElem?_setIfInBounds_self_of_lt (by omega)]
      · rw [if_neg (by omega), Array.getElem?_setIfInBounds_ne (by omega)]
theorem wpS_set {st st1 : SortSt} {Q : PUnit → SortSt → Prop} (h : Q ⟨⟩ st1) : wpS (model prog w) A E s (set st1 : StateT SortSt Sem PUnit) Q st := by
  unfold wpS; rw [StateT.run_set]; exact wpAny_pure ⟨rfl, h⟩
noncomputable def SegS (arr : Array Keyed) (lo n : Nat) : Prop := ∀ i j, lo ≤ i → i ≤ j → j < lo + n → K arr i ≤ K arr j
theorem seg_list {arr : Array Keyed} {lo n : Nat} (h : SegS arr lo n) (hn : lo + n ≤ arr.size) : (arr.extract lo (lo + n)).toList.Pairwise Le := by
  rw [ex_list, List.pairwise_iff_getElem]
  intro i j hi hj hij
  have l : ((arr.toList.drop lo).take n).length ≤ n := by rw [List.length_take]; omega
  have e : ∀ (k : Nat) (hk : k < ((arr.toList.drop lo).take n).length), K arr (lo + k) = kn (((arr.toList.drop lo).take n)[k]) := fun k hk => by
    refine K_get ?_
    have : ((arr.toList.drop lo).take n)[k]? = some (((arr.toList.drop lo).take n)[k]) := List.getElem?_eq_getElem hk
    rw [List.getElem?_take, if_pos (by omega), List.getElem?_drop] at this
    exact this
  have := h (lo + i) (lo + j) (by omega) (by omega) (by omega)
  rw [e i hi, e j hj] at this
  exact this
theorem ex_mem {arr : Array Keyed} {lo n : Nat} {x : Keyed} (h : x ∈ (arr.extract lo (lo + n)).toList) : ∃ t, lo ≤ t ∧ t < lo + n ∧ arr.toList[t]? = some x := by
  rw [ex_list] at h
  obtain ⟨i, ei⟩ := List.getElem?_of_mem h
  have hi : i < n := by have := (List.getElem?_eq_some_iff.mp ei).1; rw [List.length_take] at this; omega
  rw [List.getElem?_take, if_pos hi, List.getElem?_drop] at ei
  exact ⟨lo + i, by omega, by omega, ei⟩
theorem ex_get {arr : Array Keyed} {lo n i : Nat} (hi : i < n) : (arr.extract lo (lo + n)).toList[i]? = arr.toList[lo + i]? := by
  rw [ex_list, List.getElem?_take, if_pos hi, List.getElem?_drop]
noncomputable def AllI (arr : Array Keyed) : Prop := ∀ x ∈ arr.toList, IsI x
theorem mergeAt'_eq (i : Nat) : mergeAt' i = (do
  let s ← get
  let (some (sa, na, power), some (sb, nb, _)) := ((pendingOf s)[i]?, (pendingOf s)[i + 1]?) | unsupported "internal:list.sort.pending"
  set (setPending s (((pendingOf s).setIfInBounds i (sa, na + nb, power)).eraseIdxIfInBounds (i + 1)))
  let some k ← gallop' false (← elem' (arrOf s) sb) (arrOf s) sa na 0 | return false
  let (sa, na) := (sa + k, na - k)
  if na == 0 then return true
  let some nb ← gallop' true (← elem' (arrOf s) (sa + na - 1)) (arrOf s) sb nb (nb - 1) | return false
  if nb == 0 then return true
  let x := (arrOf s).extract sa sb
  let y := (arrOf s).extract sb (sb + nb)
  let merged ← if na ≤ nb then mergeLo' x y else mergeHi' x y
  modify fun s => setArr s (merged.toList.zipIdx.foldl (fun a (p, j) => a.setIfInBounds (sa + j) p) (arrOf s))
  return (failedOf (← get)).isNone) := rfl
/-- the two runs at i, i + 1 of those that wait -/
theorem wpS_mergeAt {st : SortSt} {i sa na pw nb pw2 : Nat} {Q : Bool → SortSt → Prop} (hk : kindOf st = oneType') (hfl : failedOf st = none) (ai : AllI (arrOf st)) (p1 : (pendingOf st)[i]? = some (sa, na, pw)) (p2 : (pendingOf st)[i + 1]? = some (sa + na, nb, pw2))
    (a1 : 1 ≤ na) (b1 : 1 ≤ nb) (hz : sa + na + nb ≤ (arrOf st).size) (s1 : SegS (arrOf st) sa na) (s2 : SegS (arrOf st) (sa + na) nb)
    (h : ∀ st', kindOf st' = oneType' → failedOf st' = none → pendingOf st' = ((pendingOf st).setIfInBounds i (sa, na + nb, pw)).eraseIdxIfInBounds (i + 1) → (arrOf st').Perm (arrOf st) → SegS (arrOf st') sa (na + nb) →
      (∀ t, t < sa ∨ sa + na + nb ≤ t → (arrOf st')[t]? = (arrOf st)[t]?) → Q true st') : wpS (model prog w) A E s (mergeAt' i) Q st := by
  rw [mergeAt'_eq]
  refine wpS_bind (wpS_get ?_)
  rw [p1, p2]
  dsimp only
  refine wpS_bind (wpS_set ?_)
  generalize hst : setPending st (((pendingOf st).setIfInBounds i (sa, na + nb, pw)).eraseIdxIfInBounds (i + 1)) = st1
  have k1 : kindOf st1 = oneType' := by rw [← hst]; exact hk
  have f1 : failedOf st1 = none := by rw [← hst]; exact hfl
  have ar1 : arrOf st1 = arrOf st := by rw [← hst]
  have pn1 : pendingOf st1 = ((pendingOf st).setIfInBounds i (sa, na + nb, pw)).eraseIdxIfInBounds (i + 1) := by rw [← hst]
  generalize arrOf st = arr at *
  have gt : ∀ {t}, t < arr.size → ∃ p, arr.toList[t]? = some p ∧ arr[t]? = some p ∧ IsI p := fun ht => by
    obtain ⟨p, e1, e2⟩ := arr_get ht
    exact ⟨p, e1, e2, ai _ (List.mem_of_getElem? e1)⟩
  obtain ⟨u, eu, eu', iu⟩ := gt (t := sa + na) (by omega)
  refine wpS_bind (wpS_elem eu' (wpS_bind (wpS_gallop k1 iu (fun j hj => ?_) (by omega) (fun x y hxy hy => s1 _ _ (by omega) (by omega) (by omega)) fun k hkn b1' b2' => ?_)))
  · obtain ⟨p, e1, e2, e3⟩ := gt (t := sa + j) (by omega)
    exact ⟨p, e2, e3⟩
  dsimp only
  have F1 : ∀ t, sa ≤ t → t < sa + k → K arr t ≤ K arr (sa + na) := fun t h1 h2 => by
    have q := b1' (t - sa) (by omega)
    unfold B at q
    rw [show sa + (t - sa) = t by omega] at q
    rw [K_get eu]
    simpa using q
  have F2 : ∀ t, sa + k ≤ t → t < sa + na → K arr (sa + na) < K arr t := fun t h1 h2 => by
    have q := b2' (t - sa) (by omega) (by omega)
    unfold B at q
    rw [show sa + (t - sa) = t by omega] at q
    rw [K_get eu]
    simp at q
    omega
  by_cases c1 : na - k = 0
  · rw [if_pos (by simpa using c1)]
    refine wpS_pure (h st1 k1 f1 pn1 (by rw [ar1]) ?_ fun t _ => by rw [ar1])
    rw [ar1]
    intro x y h1 h2 h3
    by_cases cy : y < sa + na
    · exact s1 _ _ h1 h2 cy
    · by_cases cx : x < sa + na
      · have q1 := F1 x h1 (by omega)
        have q2 := s2 (sa + na) y (Nat.le_refl _) (by omega) (by omega)
        omega
      · exact s2 _ _ (by omega) h2 (by omega)
  rw [if_neg (by simpa using c1)]
  obtain ⟨v, ev, ev', iv⟩ := gt (t := sa + k + (na - k) - 1) (by omega)
  refine wpS_bind (wpS_elem ev' (wpS_bind (wpS_gallop k1 iv (fun j hj => ?_) (by omega) (fun x y hxy hy => s2 _ _ (by omega) (by omega) (by omega)) fun m hmn d1 d2 => ?_)))
  · obtain ⟨p, e1, e2, e3⟩ := gt (t := sa + na + j) (by omega)
    exact ⟨p, e2, e3⟩
  dsimp only
  rw [show sa + k + (na - k) - 1 = sa + na - 1 by omega] at ev
  have F3 : ∀ t, sa + na ≤ t → t < sa + na + m → K arr t < K arr (sa + na - 1) := fun t h1 h2 => by
    have q := d1 (t - (sa + na)) (by omega)
    unfold B at q
    rw [show sa + na + (t - (sa + na)) = t by omega] at q
    rw [K_get ev]
    simpa using q
  have F4 : ∀ t, sa + na + m ≤ t → t < sa + na + nb → K arr (sa + na - 1) ≤ K arr t := fun t h1 h2 => by
    have q := d2 (t - (sa + na)) (by omega) (by omega)
    unfold B at q
    rw [show sa + na + (t - (sa + na)) = t by omega] at q
    rw [K_get ev]
    simp at q
    omega
  by_cases c2 : m = 0
  · rw [if_pos (by simpa using c2)]
    refine wpS_pure (h st1 k1 f1 pn1 (by rw [ar1]) ?_ fun t _ => by rw [ar1])
    rw [ar1]
    intro x y h1 h2 h3
    by_cases cy : y < sa + na
    · exact s1 _ _ h1 h2 cy
    · by_cases cx : x < sa + na
      · have q1 := s1 x (sa + na - 1) h1 (by omega) (by omega)
        have q2 := F4 y (by omega) (by omega)
        omega
      · exact s2 _ _ (by omega) h2 (by omega)
  rw [if_neg (by simpa using c2)]
  have ex1 : arr.extract (sa + k) (sa + na) = arr.extract (sa + k) (sa + k + (na - k)) := by congr 1; omega
  rw [ex1]
  generalize hx : arr.extract (sa + k) (sa + k + (na - k)) = X
  generalize hy : arr.extract (sa + na) (sa + na + m) = Y
  have lX : X.size = na - k := by rw [← hx, Array.size_extract]; omega
  have lY : Y.size = m := by rw [← hy, Array.size_extract]; omega
  have mX : ∀ e ∈ X.toList, ∃ t, sa + k ≤ t ∧ t < sa + na ∧ arr.toList[t]? = some e := fun e he => by
    rw [← hx] at he
    obtain ⟨t, h1, h2, h3⟩ := ex_mem he
    exact ⟨t, h1, by omega, h3⟩
  have mY : ∀ e ∈ Y.toList, ∃ t, sa + na ≤ t ∧ t < sa + na + m ∧ arr.toList[t]? = some e := fun e he => by
    rw [← hy] at he
    exact ex_mem he
  have iX : ∀ e ∈ X.toList, IsI e := fun e he => by obtain ⟨t, _, _, h3⟩ := mX e he; exact ai _ (List.mem_of_getElem? h3)
  have iY : ∀ e ∈ Y.toList, IsI e := fun e he => by obtain ⟨t, _, _, h3⟩ := mY e he; exact ai _ (List.mem_of_getElem? h3)
  have sX : X.toList.Pairwise Le := by rw [← hx]; exact seg_list (fun i j h1 h2 h3 => s1 i j (by omega) h2 (by omega)) (by omega)
  have sY : Y.toList.Pairwise Le := by rw [← hy]; exact seg_list (fun i j h1 h2 h3 => s2 i j h1 h2 (by omega)) (by omega)
  have hf : ∀ x, Y.toList[0]? = some x → ∀ y ∈ X.toList, kn x ≤ kn y := fun x ex y hy' => by
    rw [← hy, ex_get (by omega), Nat.add_zero] at ex
    obtain ⟨t, h1, h2, h3⟩ := mX y hy'
    have q := F2 t h1 h2
    rw [K_get ex, K_get h3] at q
    omega
  have hl : ∀ x, X.toList[X.size - 1]? = some x → ∀ y ∈ Y.toList, kn y ≤ kn x := fun x ex y hy' => by
    rw [lX, ← hx, ex_get (by omega), show sa + k + (na - k - 1) = sa + na - 1 by omega] at ex
    obtain ⟨t, h1, h2, h3⟩ := mY y hy'
    have q := F3 t h1 h2
    rw [K_get ex, K_get h3] at q
    omega
  have fin : ∀ (r : Array Keyed) (st2 : SortSt), SG st1 st2 → Res X.toList Y.toList r.toList → wpS (model prog w) A E s (do
      modify fun s => setArr s (List.foldl (fun a (x : Keyed × Nat) => a.setIfInBounds (sa + k + x.snd) x.fst) (arrOf s) r.toList.zipIdx)
      let z ← get
      pure (failedOf z).isNone) Q st2 := by
    intro r st2 sg rs
    refine wpS_bind (wpS_modify (wpS_bind (wpS_get ?_)))
    have lrs : r.toList.length = r.size := by simp
    have lr : r.toList.length = na - k + m := by rw [rs.1.length_eq, List.length_append]; simp [lX, lY]
    have er : (failedOf (setArr st2 (List.foldl (fun a x => a.setIfInBounds (sa + k + x.snd) x.fst) (arrOf st2) r.toList.zipIdx))).isNone = true := by
      show (failedOf st2).isNone = true
      rw [sg.2.2.2, f1]
      rfl
    rw [er]
    have g : ∀ t, (wr (sa + k) arr (r.toList.zipIdx 0))[t]? = if sa + k ≤ t ∧ t < sa + na + m then r.toList[t - (sa + k)]? else arr[t]? := fun t => by
      rw [wr_get (sa + k) r.toList 0 arr t (by omega)]
      by_cases c : sa + k ≤ t ∧ t < sa + na + m
      · rw [if_pos c, if_pos (by omega), Nat.add_zero]
      · rw [if_neg c, if_neg (by omega)]
    have ea : arrOf (setArr st2 (List.foldl (fun a x => a.setIfInBounds (sa + k + x.snd) x.fst) (arrOf st2) r.toList.zipIdx)) = wr (sa + k) arr (r.toList.zipIdx 0) := by
      show List.foldl (fun a x => a.setIfInBounds (sa + k + x.snd) x.fst) (arrOf st2) r.toList.zipIdx = _
      rw [sg.2.1, ar1]
      rfl
    refine wpS_pure (h _ (sg.1.trans k1) (sg.2.2.2.trans f1) (sg.2.2.1.trans pn1) ?_ ?_ ?_)
    · rw [ea, Array.perm_iff_toList_perm]
      have e1 : (wr (sa + k) arr (r.toList.zipIdx 0)).toList = arr.toList.take (sa + k) ++ (r.toList ++ arr.toList.drop (sa + na + m)) := by
        apply List.ext_getElem?
        intro t
        rw [Array.getElem?_toList, g]
        have lt : (arr.toList.take (sa + k)).length = sa + k := by rw [List.length_take]; simp; omega
        by_cases c : t < sa + k
        · rw [if_neg (by omega), List.getElem?_append_left (by omega), List.getElem?_take, if_pos c, Array.getElem?_toList]
        · rw [List.getElem?_append_right (by omega), lt]
          by_cases c' : t < sa + na + m
          · rw [if_pos (by omega), List.getElem?_append_left (by omega)]
          · rw [if_neg (by omega), List.getElem?_append_right (by omega), List.getElem?_drop, lr, show sa + na + m + (t - (sa + k) - (na - k + m)) = t by omega, Array.getElem?_toList]
      have e2 : arr.toList = arr.toList.take (sa + k) ++ ((X.toList ++ Y.toList) ++ arr.toList.drop (sa + na + m)) := by
        rw [← hx, ← hy, ex_list, ex_list, List.append_assoc]
        have a1 : List.take m (List.drop (sa + na) arr.toList) ++ List.drop (sa + na + m) arr.toList = List.drop (sa + na) arr.toList := by
          have q := List.take_append_drop m (List.drop (sa + na) arr.toList)
          rw [List.drop_drop] at q
          exact q
        have a2 : List.take (na - k) (List.drop (sa + k) arr.toList) ++ List.drop (sa + na) arr.toList = List.drop (sa + k) arr.toList := by
          have q := List.take_append_drop (na - k) (List.drop (sa + k) arr.toList)
          rw [List.drop_drop, show sa + k + (na - k) = sa + na by omega] at q
          exact q
        rw [a1, a2, List.take_append_drop]
      rw [e1]
      conv => rhs; rw [e2]
      exact (rs.1.append_right _).append_left _
    · rw [ea]
      have Ko : ∀ t, ¬ (sa + k ≤ t ∧ t < sa + na + m) → K (wr (sa + k) arr (r.toList.zipIdx 0)) t = K arr t := fun t ht => K_congr (by rw [g, if_neg ht])
      have Ki : ∀ t, sa + k ≤ t → t < sa + na + m → K (wr (sa + k) arr (r.toList.zipIdx 0)) t = K r (t - (sa + k)) := fun t h1 h2 => K_congr (by rw [g, if_pos ⟨h1, h2⟩, Array.getElem?_toList])
      have Kb : ∀ t, sa + k ≤ t → t < sa + na + m → K arr (sa + na) ≤ K r (t - (sa + k)) ∧ K r (t - (sa + k)) ≤ K arr (sa + na - 1) := fun t h1 h2 => by
        obtain ⟨e, ee, _⟩ := arr_get (a := r) (i := t - (sa + k)) (by omega)
        rw [K_get ee]
        have hm := rs.1.mem_iff.mp (List.mem_of_getElem? ee)
        rcases List.mem_append.mp hm with hm | hm
        · obtain ⟨t', q1, q2, q3⟩ := mX e hm
          have w1 := F2 t' q1 q2
          have w2 := s1 t' (sa + na - 1) (by omega) (by omega) (by omega)
          rw [K_get q3] at w1 w2
          omega
        · obtain ⟨t', q1, q2, q3⟩ := mY e hm
          have w1 := F3 t' q1 q2
          have w2 := s2 (sa + na) t' (Nat.le_refl _) q1 (by omega)
          rw [K_get q3] at w1 w2
          omega
      intro x y h1 h2 h3
      by_cases cx : x < sa + k
      · rw [Ko x (by omega)]
        by_cases cy : y < sa + k
        · rw [Ko y (by omega)]
          exact s1 _ _ h1 h2 (by omega)
        · have w1 := F1 x h1 cx
          by_cases cy2 : y < sa + na + m
          · rw [Ki y (by omega) cy2]
            have := (Kb y (by omega) cy2).1
            omega
          · rw [Ko y (by omega)]
            have := s2 (sa + na) y (Nat.le_refl _) (by omega) (by omega)
            omega
      · by_cases cx2 : x < sa + na + m
        · rw [Ki x (by omega) cx2]
          by_cases cy2 : y < sa + na + m
          · rw [Ki y (by omega) cy2]
            exact K_mono rs.2 (by omega) (by omega)
          · rw [Ko y (by omega)]
            have w1 := (Kb x (by omega) cx2).2
            have w2 := F4 y (by omega) (by omega)
            omega
        · rw [Ko x (by omega), Ko y (by omega)]
          exact s2 _ _ (by omega) h2 (by omega)
    · intro t ht
      rw [ea, g, if_neg (by omega)]
  by_cases c3 : na - k ≤ m
  · rw [if_pos c3]
    exact wpS_bind (wpS_mergeLo k1 iX iY sX sY (by omega) (by omega) (fun x y ex ey => hf x ex y (List.mem_of_getElem? ey)) hl fin)
  · rw [if_neg c3]
    exact wpS_bind (wpS_mergeHi k1 iX iY sX sY (by omega) (by omega) hf hl fin)
end
end PySem.Tim
/-! sorting 64 and more numbers: the runs. -/
namespace PySem.Tim
open PySem PyProof.Rows
section
variable {prog : Program} {w : World} {A : Around} {E : Value → Shared → Prop} {s : Shared}
/-! ### runs from any place on -/
structure TB (a₀ : Array Keyed) (st : SortSt) : Prop where
  perm : (arrOf st).Perm a₀
  kind : kindOf st = oneType'
  failed : failedOf st = none
theorem TB.size {a₀ : Array Keyed} {st : SortSt} (h : TB a₀ st) : (arrOf st).size = a₀.size := h.perm.size_eq
theorem TB.all {a₀ : Array Keyed} {st : SortSt} (h : TB a₀ st) (h0 : AllI a₀) : AllI (arrOf st) := fun x hx => h0 x ((Array.perm_iff_toList_perm.mp h.perm).mem_iff.mp hx)
noncomputable def Dst (a₀ : Array Keyed) : Prop := (a₀.toList.map kn).Nodup
theorem TB.ne {a₀ : Array Keyed} {st : SortSt} (h : TB a₀ st) (hd : Dst a₀) {i j : Nat} (hij : i < j) (hj : j < a₀.size) : K (arrOf st) i ≠ K (arrOf st) j := by
  have hz := h.size
  obtain ⟨x, ex, _⟩ := arr_get (a := arrOf st) (i := i) (by omega)
  obtain ⟨y, ey, _⟩ := arr_get (a := arrOf st) (i := j) (by omega)
  have nd : ((arrOf st).toList.map kn).Nodup := (((Array.perm_iff_toList_perm.mp h.perm).map kn).nodup_iff).mpr hd
  rw [K_get ex, K_get ey]
  intro e
  rw [List.nodup_iff_pairwise_ne, List.pairwise_map] at nd
  obtain ⟨hx, rfl⟩ := List.getElem?_eq_some_iff.mp ex
  obtain ⟨hy, rfl⟩ := List.getElem?_eq_some_iff.mp ey
  exact List.pairwise_iff_getElem.mp nd i j hx hy hij e
theorem wpS_ltT {a₀ : Array Keyed} {st : SortSt} {i j : Nat} {Q : Option Bool → SortSt → Prop} (hB : TB a₀ st) (h0 : AllI a₀) (hi : i < a₀.size) (hj : j < a₀.size) (h : Q (some (decide (K (arrOf st) i < K (arrOf st) j))) st) : wpS (model prog w) A E s (ltAt' i j) Q st := by
  have hz := hB.size
  obtain ⟨x, ex, ex'⟩ := arr_get (a := arrOf st) (i := i) (by omega)
  obtain ⟨y, ey, ey'⟩ := arr_get (a := arrOf st) (i := j) (by omega)
  rw [K_get ex, K_get ey] at h
  rw [ltAt'_eq]
  refine wpS_bind (wpS_get ?_)
  exact wpS_bind (wpS_elem ex' (wpS_bind (wpS_elem ey' (wpS_lt hB.kind (hB.all h0 _ (List.mem_of_getElem? ex)) (hB.all h0 _ (List.mem_of_getElem? ey)) h))))
theorem seg_one (arr : Array Keyed) (lo : Nat) : SegS arr lo 1 := fun i j h1 h2 h3 => by
  have : i = j := by omega
  subst this
  exact Int.le_refl _
/-- the array changed from lo on -/
noncomputable def From (lo : Nat) (st st' : SortSt) : Prop := pendingOf st' = pendingOf st ∧ ∀ t, t < lo → (arrOf st')[t]? = (arrOf st)[t]?
theorem From.refl (lo : Nat) (st : SortSt) : From lo st st := ⟨rfl, fun _ _ => rfl⟩
theorem From.trans {lo : Nat} {a b c : SortSt} (h : From lo a b) (k : From lo b c) : From lo a c := ⟨k.1.trans h.1, fun t ht => (k.2 t ht).trans (h.2 t ht)⟩
theorem TB.setArr {a₀ : Array Keyed} {st : SortSt} (h : TB a₀ st) {xs : Array Keyed} (hp : xs.Perm (arrOf st)) : TB a₀ (setArr st xs) := ⟨hp.trans h.perm, h.kind, h.failed⟩
theorem wpS_binT {a₀ : Array Keyed} {st : SortSt} {lo n ok : Nat} {Q : Bool → SortSt → Prop} (h0 : AllI a₀) (hn : lo + n ≤ a₀.size) (hok : ok ≤ n) (hB : TB a₀ st) (hs : SegS (arrOf st) lo ok)
    (h : ∀ st', TB a₀ st' → From lo st st' → SegS (arrOf st') lo n → Q true st') : wpS (model prog w) A E s (binarySort' lo n ok) Q st := by
  rw [binarySort'_eq]
  refine wpS_bind (wpS_mono (wpS_forRange (I := fun k c st' => c = (none, ()) ∧ TB a₀ st' ∧ From lo st st' ∧ SegS (arrOf st') lo (min k n))
    (Q := fun c st' => c = (none, ()) ∧ TB a₀ st' ∧ From lo st st' ∧ SegS (arrOf st') lo n) ?step ?fin ?init) ?post)
  case post =>
    rintro c st' ⟨rfl, hB', fr, hs'⟩
    exact wpS_pure (h st' hB' fr hs')
  case init =>
    refine ⟨rfl, hB, From.refl _ _, fun i j h1 hij hj => ?_⟩
    by_cases h1 : ok = 0
    · have : i = j := by omega
      subst this; exact Int.le_refl _
    · exact hs i j (by omega) hij (by omega)
  case fin =>
    rintro c st' ⟨hc, hB', fr, hs'⟩
    refine ⟨hc, hB', fr, ?_⟩
    rwa [show min (max (max ok 1) n) n = n by omega] at hs'
  case step =>
    rintro k c st' hak hkn ⟨rfl, hB', fr, hs'⟩
    rw [show min k n = k by omega] at hs'
    have hk : lo + k < a₀.size := by omega
    refine wpS_bind (wpS_mono (wpS_forRange (I := fun x c st'' => st'' = st' ∧ ∃ l r, c = (none, l, r) ∧ l ≤ r ∧ r ≤ k ∧ r - l ≤ k - x ∧
        (∀ i, lo ≤ i → i < lo + l → K (arrOf st') i ≤ K (arrOf st') (lo + k)) ∧ (∀ i, lo + r ≤ i → i < lo + k → K (arrOf st') (lo + k) < K (arrOf st') i))
      (Q := fun c st'' => st'' = st' ∧ ∃ l r, c = (none, l, r) ∧ l ≤ k ∧
        (∀ i, lo ≤ i → i < lo + l → K (arrOf st') i ≤ K (arrOf st') (lo + k)) ∧ (∀ i, lo + l ≤ i → i < lo + k → K (arrOf st') (lo + k) < K (arrOf st') i)) ?istep ?ifin ?iinit) ?ipost)
    case iinit => exact ⟨rfl, 0, k, rfl, by omega, by omega, by omega, fun i hi h2 => by omega, fun i h1 h2 => by omega⟩
    case ifin =>
      rintro c st'' ⟨rfl, l, r, rfl, hlr, hrk, hm, hlo, hhi⟩
      have : l = r := by omega
      subst this
      exact ⟨rfl, l, l, rfl, hrk, hlo, hhi⟩
    case istep =>
      rintro x c st'' _ hxk ⟨rfl, l, r, rfl, hlr, hrk, hm, hlo, hhi⟩
      dsimp only
      by_cases hge : l ≥ r
      · rw [if_pos hge]
        have : l = r := by omega
        subst this
        exact wpS_pure ⟨rfl, l, l, rfl, hrk, hlo, hhi⟩
      · rw [if_neg hge]
        refine wpS_bind (wpS_ltT hB' h0 hk (by omega) ?_)
        by_cases hless : K (arrOf st'') (lo + k) < K (arrOf st'') (lo + (l + r) / 2)
        · simp only [hless, decide_true, if_true]
          refine wpS_pure ⟨rfl, l, (l + r) / 2, rfl, by omega, by omega, by omega, hlo, fun i h1 h2 => ?_⟩
          exact Int.lt_of_lt_of_le hless (hs' _ _ (by omega) h1 h2)
        · simp only [hless, decide_false, Bool.false_eq_true, if_false]
          refine wpS_pure ⟨rfl, (l + r) / 2 + 1, r, rfl, by omega, by omega, by omega, fun i h0' h1 => ?_, hhi⟩
          exact Int.le_trans (hs' i (lo + (l + r) / 2) h0' (by omega) (by omega)) (Int.not_lt.mp hless)
    case ipost =>
      rintro c st'' ⟨rfl, l, r, rfl, hlk, hlo, hhi⟩
      show wpS _ _ _ _ (do moveDown' (lo + k) (lo + l); pure (ForInStep.yield (none, ()))) _ _
      rw [moveDown'_eq]
      have hks : lo + k < (arrOf st'').size := by rw [hB'.size]; exact hk
      refine wpS_bind (wpS_modify (wpS_pure ⟨rfl, hB'.setArr (bubble_perm _ _ _), fr.trans ⟨rfl, fun t ht => ?_⟩, ?_⟩))
      · show (bubble (arrOf st'') (lo + k) (lo + k - (lo + l)))[t]? = _
        rw [getElem?_bubble hks _ (by omega), if_neg (by omega), if_neg (by omega)]
      rw [show min (k + 1) n = k + 1 by omega]
      intro i j h1 hij hj
      show K (bubble (arrOf st'') (lo + k) (lo + k - (lo + l))) i ≤ K (bubble (arrOf st'') (lo + k) (lo + k - (lo + l))) j
      rw [K_bubble hks (by omega), K_bubble hks (by omega), show lo + k - (lo + k - (lo + l)) = lo + l by omega]
      repeat' split
      all_goals first
        | (exfalso; omega)
        | exact Int.le_refl _
        | exact hlo _ (by omega) (by omega)
        | exact Int.le_of_lt (hhi _ (by omega) (by omega))
        | exact hs' _ _ (by omega) (by omega) (by omega)
theorem wpS_runT {a₀ : Array Keyed} {st : SortSt} {lo nrem : Nat} {Q : Option Nat → SortSt → Prop} (h0 : AllI a₀) (hd : Dst a₀) (hn : lo + nrem ≤ a₀.size) (h1 : 1 ≤ nrem) (hB : TB a₀ st)
    (h : ∀ m st', TB a₀ st' → From lo st st' → 1 ≤ m → m ≤ nrem → SegS (arrOf st') lo m → Q (some m) st') : wpS (model prog w) A E s (countRun' lo nrem) Q st := by
  rw [countRun'_eq]
  refine wpS_bind (wpS_mono (wpS_forRange (I := fun x c st' => st' = st ∧ c = (none, x) ∧ SegS (arrOf st) lo x)
    (Q := fun c st' => st' = st ∧ ∃ n, c = (none, n) ∧ 1 ≤ n ∧ n ≤ nrem ∧ SegS (arrOf st) lo n ∧ (n = nrem ∨ K (arrOf st) (lo + n) < K (arrOf st) (lo + n - 1))) ?step ?fin ⟨rfl, rfl, seg_one _ _⟩) ?post)
  case fin =>
    rintro c st' ⟨rfl, rfl, hs'⟩
    rw [show max 1 nrem = nrem by omega] at hs' ⊢
    exact ⟨rfl, nrem, rfl, h1, Nat.le_refl _, hs', .inl rfl⟩
  case step =>
    rintro x c st' hax hxn ⟨rfl, rfl, hs'⟩
    dsimp only
    refine wpS_bind (wpS_ltT hB h0 (by omega) (by omega) ?_)
    by_cases hless : K (arrOf st') (lo + x) < K (arrOf st') (lo + x - 1)
    · simp only [hless, decide_true, if_true]
      exact wpS_pure ⟨rfl, x, rfl, hax, by omega, hs', .inr hless⟩
    · simp only [hless, decide_false, Bool.false_eq_true, if_false]
      refine wpS_pure ⟨rfl, rfl, fun i j q1 hij hj => ?_⟩
      by_cases hjx : j < lo + x
      · exact hs' i j q1 hij hjx
      · have hj' : j = lo + x := by omega
        subst hj'
        by_cases hi' : i = lo + x
        · subst hi'; exact Int.le_refl _
        · exact Int.le_trans (hs' i (lo + x - 1) q1 (by omega) (by omega)) (Int.not_lt.mp hless)
  case post =>
    rintro c st' ⟨rfl, n, rfl, n1, n2, hs, hor⟩
    dsimp only
    by_cases nn : n = nrem
    · rw [if_pos (by simpa using nn)]
      exact wpS_pure (h n st' hB (From.refl _ _) n1 n2 hs)
    rw [if_neg (by simpa using nn)]
    have hlt := hor.resolve_left nn
    by_cases g1 : n > 1
    · rw [if_pos g1]
      refine wpS_bind (wpS_ltT hB h0 (by omega) (by omega) ?_)
      have q1 := hs lo (lo + n - 1) (Nat.le_refl _) (by omega) (by omega)
      have q2 := hB.ne hd (i := lo) (j := lo + n - 1) (by omega) (by omega)
      have q3 : K (arrOf st') lo < K (arrOf st') (lo + n - 1) := by omega
      simp only [q3, decide_true, if_true]
      exact wpS_pure (h n st' hB (From.refl _ _) n1 n2 hs)
    rw [if_neg g1]
    have e1 : n = 1 := by omega
    subst e1
    have ni : ∀ i j, lo ≤ i → i ≤ j → j < lo + (1 + 1) → K (arrOf st') j ≤ K (arrOf st') i := fun i j q1 q2 q3 => by
      by_cases ij : i = j
      · subst ij; exact Int.le_refl _
      · have e1 : i = lo := by omega
        have e2 : j = lo + 1 := by omega
        rw [e1, e2]
        rw [show lo + 1 - 1 = lo by omega] at hlt
        omega
    refine wpS_bind (wpS_lift (wpAny_rule ⟨rfl, ?_⟩))
    refine wpS_bind (wpS_mono (wpS_forRange (I := fun x c st2 => st2 = st' ∧ c = (none, x, 0) ∧ ∀ i j, lo ≤ i → i ≤ j → j < lo + x → K (arrOf st') j ≤ K (arrOf st') i)
      (Q := fun c st2 => st2 = st' ∧ ∃ m, c = (none, m, 0) ∧ 2 ≤ m ∧ m ≤ nrem ∧ ∀ i j, lo ≤ i → i ≤ j → j < lo + m → K (arrOf st') j ≤ K (arrOf st') i) ?step2 ?fin2 ⟨rfl, rfl, ni⟩) ?post2)
    case fin2 =>
      rintro c st2 ⟨rfl, rfl, hs'⟩
      rw [show max (1 + 1) nrem = nrem by omega] at hs' ⊢
      exact ⟨rfl, nrem, rfl, by omega, Nat.le_refl _, hs'⟩
    case step2 =>
      rintro x c st2 hax hxn ⟨rfl, rfl, hs'⟩
      dsimp only
      refine wpS_bind (wpS_ltT hB h0 (by omega) (by omega) ?_)
      by_cases hless : K (arrOf st2) (lo + x) < K (arrOf st2) (lo + x - 1)
      · simp only [hless, decide_true, if_true]
        rw [if_neg (by omega)]
        refine wpS_pure ⟨rfl, rfl, fun i j q1 q2 q3 => ?_⟩
        by_cases hjx : j < lo + x
        · exact hs' i j q1 q2 hjx
        · have hj' : j = lo + x := by omega
          subst hj'
          by_cases hi' : i = lo + x
          · subst hi'; exact Int.le_refl _
          · exact Int.le_trans (Int.le_of_lt hless) (hs' i (lo + x - 1) q1 (by omega) (by omega))
      · simp only [hless, decide_false, Bool.false_eq_true, if_false]
        refine wpS_bind (wpS_ltT hB h0 (by omega) (by omega) ?_)
        have q2 := hB.ne hd (i := lo + x - 1) (j := lo + x) (by omega) (by omega)
        have q3 : K (arrOf st2) (lo + x - 1) < K (arrOf st2) (lo + x) := by omega
        simp only [q3, decide_true, if_true]
        exact wpS_pure ⟨rfl, x, rfl, by omega, by omega, hs'⟩
    case post2 =>
      rintro c st2 ⟨rfl, m, rfl, m2, m3, hs'⟩
      dsimp only
      rw [if_neg (by omega)]
      have hz := hB.size
      refine wpS_bind (wpS_reverse ?_)
      have em : ∀ t, (mirror (arrOf st2) lo (lo + m) ((lo + m - lo) / 2))[t]? = if lo ≤ t ∧ t < lo + m then (arrOf st2)[lo + (lo + m) - 1 - t]? else (arrOf st2)[t]? := fun t => getElem?_mirror_all (by omega) t
      generalize hst : setArr st2 (mirror (arrOf st2) lo (lo + m) ((lo + m - lo) / 2)) = st3
      have B3 : TB a₀ st3 := by rw [← hst]; exact hB.setArr (mirror_perm _ _ _ _)
      have fr3 : From lo st2 st3 := by
        rw [← hst]
        refine ⟨rfl, fun t ht => ?_⟩
        show (mirror (arrOf st2) lo (lo + m) ((lo + m - lo) / 2))[t]? = _
        rw [em, if_neg (by omega)]
      have s3 : SegS (arrOf st3) lo m := by
        rw [← hst]
        intro i j q1 q2 q3
        show K (mirror (arrOf st2) lo (lo + m) ((lo + m - lo) / 2)) i ≤ K (mirror (arrOf st2) lo (lo + m) ((lo + m - lo) / 2)) j
        have w1 : K (mirror (arrOf st2) lo (lo + m) ((lo + m - lo) / 2)) i = K (arrOf st2) (lo + (lo + m) - 1 - i) := K_congr (by rw [em, if_pos (by omega)])
        have w2 : K (mirror (arrOf st2) lo (lo + m) ((lo + m - lo) / 2)) j = K (arrOf st2) (lo + (lo + m) - 1 - j) := K_congr (by rw [em, if_pos (by omega)])
        rw [w1, w2]
        exact hs' _ _ (by omega) (by omega) (by omega)
      clear hst em
      refine wpS_bind (wpS_mono (wpS_forRange (I := fun x c st4 => st4 = st3 ∧ c = (none, x) ∧ SegS (arrOf st3) lo x)
        (Q := fun c st4 => st4 = st3 ∧ ∃ k, c = (none, k) ∧ 1 ≤ k ∧ k ≤ nrem ∧ SegS (arrOf st3) lo k) ?step3 ?fin3 ⟨rfl, rfl, s3⟩) ?post3)
      case fin3 =>
        rintro c st4 ⟨rfl, rfl, hs4⟩
        rw [show max m nrem = nrem by omega] at hs4 ⊢
        exact ⟨rfl, nrem, rfl, h1, Nat.le_refl _, hs4⟩
      case step3 =>
        rintro x c st4 hax hxn ⟨rfl, rfl, hs4⟩
        dsimp only
        refine wpS_bind (wpS_ltT B3 h0 (by omega) (by omega) ?_)
        by_cases hless : K (arrOf st4) (lo + x) < K (arrOf st4) (lo + x - 1)
        · simp only [hless, decide_true, if_true]
          exact wpS_pure ⟨rfl, x, rfl, by omega, by omega, hs4⟩
        · simp only [hless, decide_false, Bool.false_eq_true, if_false]
          refine wpS_pure ⟨rfl, rfl, fun i j q1 hij hj => ?_⟩
          by_cases hjx : j < lo + x
          · exact hs4 i j q1 hij hjx
          · have hj' : j = lo + x := by omega
            subst hj'
            by_cases hi' : i = lo + x
            · subst hi'; exact Int.le_refl _
            · exact Int.le_trans (hs4 i (lo + x - 1) q1 (by omega) (by omega)) (Int.not_lt.mp hless)
      case post3 =>
        rintro c st4 ⟨rfl, k, rfl, k1, k2, hs4⟩
        exact wpS_pure (h k st4 B3 fr3 k1 k2 hs4)
/-! ### all runs -/
noncomputable def Runs (arr : Array Keyed) : Nat → List (Nat × Nat × Nat) → Nat → Prop
  | s, [], e => s = e
  | s, (a, n, _) :: r, e => a = s ∧ 1 ≤ n ∧ SegS arr s n ∧ Runs arr (s + n) r e
theorem seg_congr {arr arr' : Array Keyed} {lo n : Nat} (h : ∀ t, lo ≤ t → t < lo + n → arr'[t]? = arr[t]?) (k : SegS arr lo n) : SegS arr' lo n := fun i j h1 h2 h3 => by
  rw [K_congr (h i h1 (by omega)), K_congr (h j (by omega) h3)]
  exact k i j h1 h2 h3
theorem Runs.le {arr : Array Keyed} : ∀ {P : List (Nat × Nat × Nat)} {s e : Nat}, Runs arr s P e → s + P.length ≤ e
  | [], s, e, h => by have : s = e := h; simp; omega
  | (a, n, p) :: r, s, e, h => by
    have := Runs.le h.2.2.2
    have := h.2.1
    simp
    omega
theorem Runs.congr {arr arr' : Array Keyed} : ∀ {P : List (Nat × Nat × Nat)} {s e : Nat}, (∀ t, s ≤ t → t < e → arr'[t]? = arr[t]?) → Runs arr s P e → Runs arr' s P e
  | [], s, e, _, h => h
  | (a, n, p) :: r, s, e, k, h => by
    have := Runs.le h.2.2.2
    exact ⟨h.1, h.2.1, seg_congr (fun t h1 h2 => k t h1 (by omega)) h.2.2.1, Runs.congr (fun t h1 h2 => k t (by omega) h2) h.2.2.2⟩
theorem Runs.push {arr : Array Keyed} {n : Nat} (n1 : 1 ≤ n) : ∀ {P : List (Nat × Nat × Nat)} {s e : Nat}, Runs arr s P e → SegS arr e n → Runs arr s (P ++ [(e, n, 0)]) (e + n)
  | [], s, e, h, k => by
    have : s = e := h
    subst this
    exact ⟨rfl, n1, k, rfl⟩
  | (a, m, p) :: r, s, e, h, k => ⟨h.1, h.2.1, h.2.2.1, Runs.push n1 h.2.2.2 k⟩
theorem Runs.at {arr : Array Keyed} : ∀ {P : List (Nat × Nat × Nat)} {s e i sa na pw sb nb pw2 : Nat}, Runs arr s P e → P[i]? = some (sa, na, pw) → P[i + 1]? = some (sb, nb, pw2) →
    s ≤ sa ∧ sb = sa + na ∧ 1 ≤ na ∧ 1 ≤ nb ∧ SegS arr sa na ∧ SegS arr sb nb ∧ sa + na + nb ≤ e ∧
      ∀ arr', (∀ t, t < sa ∨ sa + na + nb ≤ t → arr'[t]? = arr[t]?) → SegS arr' sa (na + nb) → Runs arr' s ((P.set i (sa, na + nb, pw)).eraseIdx (i + 1)) e
  | [], s, e, i, sa, na, pw, sb, nb, pw2, h, e1, e2 => by simp at e1
  | (a, n, p) :: r, s, e, 0, sa, na, pw, sb, nb, pw2, h, e1, e2 => by
    simp at e1
    obtain ⟨rfl, rfl, rfl⟩ := e1
    cases r with
    | nil => simp at e2
    | cons q r =>
      obtain ⟨b, m, p'⟩ := q
      simp at e2
      obtain ⟨rfl, rfl, rfl⟩ := e2
      obtain ⟨rfl, n1, s1, rfl, m1, s2, rest⟩ := h
      have := Runs.le rest
      refine ⟨Nat.le_refl _, rfl, n1, m1, s1, s2, by omega, fun arr' k sg => ?_⟩
      exact ⟨rfl, by omega, sg, by rw [← Nat.add_assoc]; exact Runs.congr (fun t h1 h2 => k t (.inr (by omega))) rest⟩
  | (a, n, p) :: r, s, e, i + 1, sa, na, pw, sb, nb, pw2, h, e1, e2 => by
    simp at e1 e2
    obtain ⟨rfl, n1, s1, rest⟩ := h
    obtain ⟨q1, q2, q3, q4, q5, q6, q7, q8⟩ := Runs.at rest e1 e2
    refine ⟨by omega, q2, q3, q4, q5, q6, q7, fun arr' k sg => ?_⟩
    exact ⟨rfl, n1, seg_congr (fun t h1 h2 => k t (.inl (by omega))) s1, q8 arr' k sg⟩
theorem Runs.power {arr : Array Keyed} {pw : Nat} : ∀ {P : List (Nat × Nat × Nat)} {s e : Nat}, Runs arr s P e → ∀ i, Runs arr s (P.modify i fun x => (x.1, x.2.1, pw)) e
  | [], s, e, h, i => by simpa using h
  | (a, n, p) :: r, s, e, h, 0 => by
    rw [List.modify_zero_cons]
    exact ⟨h.1, h.2.1, h.2.2.1, h.2.2.2⟩
  | (a, n, p) :: r, s, e, h, i + 1 => by
    rw [List.modify_succ_cons]
    exact ⟨h.1, h.2.1, h.2.2.1, Runs.power h.2.2.2 i⟩
theorem wpS_mergeT {a₀ : Array Keyed} {st : SortSt} {i e : Nat} {Q : Bool → SortSt → Prop} (h0 : AllI a₀) (hB : TB a₀ st) (r : Runs (arrOf st) 0 (pendingOf st).toList e) (he : e ≤ a₀.size) (hi : i + 1 < (pendingOf st).size)
    (h : ∀ st', TB a₀ st' → Runs (arrOf st') 0 (pendingOf st').toList e → (pendingOf st').size + 1 = (pendingOf st).size → (∀ t, e ≤ t → (arrOf st')[t]? = (arrOf st)[t]?) → Q true st') : wpS (model prog w) A E s (mergeAt' i) Q st := by
  have l : (pendingOf st).toList.length = (pendingOf st).size := by simp
  obtain ⟨⟨sa, na, pw⟩, e1⟩ : ∃ x, (pendingOf st).toList[i]? = some x := ⟨_, List.getElem?_eq_getElem (by omega)⟩
  obtain ⟨⟨sb, nb, pw2⟩, e2⟩ : ∃ x, (pendingOf st).toList[i + 1]? = some x := ⟨_, List.getElem?_eq_getElem (by omega)⟩
  obtain ⟨q1, q2, q3, q4, q5, q6, q7, q8⟩ := r.at e1 e2
  subst q2
  refine wpS_mergeAt hB.kind hB.failed (hB.all h0) (by rw [← Array.getElem?_toList]; exact e1) (by rw [← Array.getElem?_toList]; exact e2) q3 q4 (by rw [hB.size]; omega) q5 q6 fun st' k f pn pm sg out => ?_
  have tl : (pendingOf st').toList = ((pendingOf st).toList.set i (sa, na + nb, pw)).eraseIdx (i + 1) := by rw [pn]; simp
  refine h st' ⟨pm.trans hB.perm, k, f⟩ ?_ ?_ fun t ht => out t (.inr (by omega))
  · rw [tl]
    exact q8 _ out sg
  · have l' : (pendingOf st').toList.length = (pendingOf st').size := by simp
    rw [← l', tl, List.length_eraseIdx, List.length_set]
    rw [if_pos (by omega)]
    omega
theorem wpS_sortT {a₀ : Array Keyed} {st : SortSt} {Q : Unit → SortSt → Prop} (h0 : AllI a₀) (hd : Dst a₀) (hB : TB a₀ st) (hp : pendingOf st = #[]) (h2 : 1 ≤ a₀.size)
    (h : ∀ st', (arrOf st').Perm a₀ → failedOf st' = none → SortedTo (arrOf st') a₀.size → Q () st') : wpS (model prog w) A E s sortRuns' Q st := by
  rw [sortRuns'_eq]
  refine wpS_bind (wpS_get ?_)
  dsimp only
  simp only [hB.size]
  generalize minRun' a₀.size a₀.size 0 = mr
  refine wpS_bind (wpS_mono (wpS_forRange
    (I := fun x c st' => ∃ lo, c = (none, lo) ∧ TB a₀ st' ∧ Runs (arrOf st') 0 (pendingOf st').toList lo ∧ lo ≤ a₀.size ∧ (x ≤ lo ∨ lo = a₀.size))
    (Q := fun c st' => c = (none, a₀.size) ∧ TB a₀ st' ∧ Runs (arrOf st') 0 (pendingOf st').toList a₀.size) ?step ?fin ⟨0, rfl, hB, by rw [hp]; rfl, by omega, .inl (Nat.le_refl _)⟩) ?post)
  case fin =>
    rintro c st' ⟨lo, rfl, B, r, l1, l2⟩
    have : lo = a₀.size := by omega
    subst this
    exact ⟨rfl, B, r⟩
  case step =>
    rintro x c st1 _ hx ⟨lo, rfl, B1, r1, l1, l2⟩
    dsimp only
    by_cases c : lo ≥ a₀.size
    · rw [if_pos c]
      have : lo = a₀.size := by omega
      subst this
      exact wpS_pure ⟨rfl, B1, r1⟩
    rw [if_neg c]
    refine wpS_bind (wpS_runT h0 hd (by omega) (by omega) B1 fun m st2 B2 fr2 m1 m2 s2 => ?_)
    dsimp only
    have r2 : Runs (arrOf st2) 0 (pendingOf st2).toList lo := by
      rw [fr2.1]
      exact Runs.congr (fun t _ ht => fr2.2 t ht) r1
    have last : ∀ (n : Nat) (st2 : SortSt), 1 ≤ n → lo + n ≤ a₀.size → TB a₀ st2 → Runs (arrOf st2) 0 (pendingOf st2).toList lo → SegS (arrOf st2) lo n → wpS (model prog w) A E s (do
        modify fun s => setPending s ((pendingOf s).push (lo, n, 0))
        pure (ForInStep.yield ((none, lo + n) : Option Unit × Nat)))
        (fun r st' => match r with
          | .done c' => c' = (none, a₀.size) ∧ TB a₀ st' ∧ Runs (arrOf st') 0 (pendingOf st').toList a₀.size
          | .yield c' => ∃ lo, c' = (none, lo) ∧ TB a₀ st' ∧ Runs (arrOf st') 0 (pendingOf st').toList lo ∧ lo ≤ a₀.size ∧ (x + 1 ≤ lo ∨ lo = a₀.size)) st2 := fun n st2 n1 hn B2 r2 s2 => by
      refine wpS_bind (wpS_modify (wpS_pure ⟨lo + n, rfl, ⟨B2.perm, B2.kind, B2.failed⟩, ?_, hn, by omega⟩))
      show Runs (arrOf st2) 0 ((pendingOf st2).push (lo, n, 0)).toList (lo + n)
      rw [Array.toList_push]
      exact r2.push n1 s2
    by_cases c3 : m < mr
    · rw [if_pos c3]
      refine wpS_bind (wpS_lift (wpAny_rule ⟨rfl, ?_⟩))
      refine wpS_bind (wpS_binT h0 (by omega) (by omega) B2 s2 fun st3 B3 fr3 s3 => ?_)
      rw [if_neg (by simp)]
      have r3 : Runs (arrOf st3) 0 (pendingOf st3).toList lo := by
        rw [fr3.1]
        exact Runs.congr (fun t _ ht => fr3.2 t ht) r2
      refine wpS_bind (wpS_get ?_)
      cases hb : (pendingOf st3).back? with
      | none => exact wpS_mono (last (min (a₀.size - lo) mr) st3 (by omega) (by omega) B3 r3 s3) fun r st' hh => by cases r <;> exact hh
      | some y =>
        obtain ⟨s1, k1, p1⟩ := y
        dsimp only
        refine wpS_bind (wpS_mono (wpS_forRange (I := fun x c st2 => c = (none, ()) ∧ TB a₀ st2 ∧ Runs (arrOf st2) 0 (pendingOf st2).toList lo ∧ SegS (arrOf st2) lo (min (a₀.size - lo) mr))
          (Q := fun c st2 => c = (none, ()) ∧ TB a₀ st2 ∧ Runs (arrOf st2) 0 (pendingOf st2).toList lo ∧ SegS (arrOf st2) lo (min (a₀.size - lo) mr)) ?stepA ?finA ⟨rfl, B3, r3, s3⟩) ?postA)
        case finA => exact fun _ _ hh => hh
        case stepA =>
          rintro x' c' st4 _ hx' ⟨rfl, B4, r4, sg4⟩
          refine wpS_bind (wpS_get ?_)
          by_cases c1 : (pendingOf st4).size > 1
          · rw [if_pos c1]
            obtain ⟨⟨f1, f2, older⟩, e1⟩ : ∃ x, (pendingOf st4)[(pendingOf st4).size - 2]? = some x := ⟨_, getElem?_pos _ _ (by omega)⟩
            rw [e1]
            dsimp only
            by_cases c2 : older ≤ power' a₀.size (2 * s1 + k1) (2 * s1 + k1 + k1 + (min (a₀.size - lo) mr)) a₀.size
            · rw [if_pos c2]
              exact wpS_pure ⟨rfl, B4, r4, sg4⟩
            · rw [if_neg c2]
              refine wpS_bind (wpS_mergeT h0 B4 r4 (by omega) (by omega) fun st5 B5 r5 _ out => ?_)
              rw [if_neg (by simp)]
              exact wpS_pure ⟨rfl, B5, r5, seg_congr (fun t h1 _ => out t h1) sg4⟩
          · rw [if_neg c1]
            exact wpS_pure ⟨rfl, B4, r4, sg4⟩
        case postA =>
          rintro c' st4 ⟨rfl, B4, r4, sg4⟩
          dsimp only
          refine wpS_bind (wpS_modify ?_)
          refine wpS_mono (last (min (a₀.size - lo) mr) (setPending st4 ((pendingOf st4).modify ((pendingOf st4).size - 1) fun x => (x.fst, x.2.fst, power' a₀.size (2 * s1 + k1) (2 * s1 + k1 + k1 + (min (a₀.size - lo) mr)) a₀.size))) (by omega) (by omega) ⟨B4.perm, B4.kind, B4.failed⟩ ?_ sg4) fun r st' hh => by cases r <;> exact hh
          show Runs (arrOf st4) 0 ((pendingOf st4).modify ((pendingOf st4).size - 1) fun x => (x.fst, x.2.fst, power' a₀.size (2 * s1 + k1) (2 * s1 + k1 + k1 + (min (a₀.size - lo) mr)) a₀.size)).toList lo
          rw [Array.toList_modify]
          exact r4.power _
    · rw [if_neg c3]
      refine wpS_bind (wpS_get ?_)
      cases hb : (pendingOf st2).back? with
      | none => exact wpS_mono (last m st2 (by omega) (by omega) B2 r2 s2) fun r st' hh => by cases r <;> exact hh
      | some y =>
        obtain ⟨s1, k1, p1⟩ := y
        dsimp only
        refine wpS_bind (wpS_mono (wpS_forRange (I := fun x c st2 => c = (none, ()) ∧ TB a₀ st2 ∧ Runs (arrOf st2) 0 (pendingOf st2).toList lo ∧ SegS (arrOf st2) lo m)
          (Q := fun c st2 => c = (none, ()) ∧ TB a₀ st2 ∧ Runs (arrOf st2) 0 (pendingOf st2).toList lo ∧ SegS (arrOf st2) lo m) ?stepB ?finB ⟨rfl, B2, r2, s2⟩) ?postB)
        case finB => exact fun _ _ hh => hh
        case stepB =>
          rintro x' c' st4 _ hx' ⟨rfl, B4, r4, sg4⟩
          refine wpS_bind (wpS_get ?_)
          by_cases c1 : (pendingOf st4).size > 1
          · rw [if_pos c1]
            obtain ⟨⟨f1, f2, older⟩, e1⟩ : ∃ x, (pendingOf st4)[(pendingOf st4).size - 2]? = some x := ⟨_, getElem?_pos _ _ (by omega)⟩
            rw [e1]
            dsimp only
            by_cases c2 : older ≤ power' a₀.size (2 * s1 + k1) (2 * s1 + k1 + k1 + m) a₀.size
            · rw [if_pos c2]
              exact wpS_pure ⟨rfl, B4, r4, sg4⟩
            · rw [if_neg c2]
              refine wpS_bind (wpS_mergeT h0 B4 r4 (by omega) (by omega) fun st5 B5 r5 _ out => ?_)
              rw [if_neg (by simp)]
              exact wpS_pure ⟨rfl, B5, r5, seg_congr (fun t h1 _ => out t h1) sg4⟩
          · rw [if_neg c1]
            exact wpS_pure ⟨rfl, B4, r4, sg4⟩
        case postB =>
          rintro c' st4 ⟨rfl, B4, r4, sg4⟩
          dsimp only
          refine wpS_bind (wpS_modify ?_)
          refine wpS_mono (last m (setPending st4 ((pendingOf st4).modify ((pendingOf st4).size - 1) fun x => (x.fst, x.2.fst, power' a₀.size (2 * s1 + k1) (2 * s1 + k1 + k1 + m) a₀.size))) (by omega) (by omega) ⟨B4.perm, B4.kind, B4.failed⟩ ?_ sg4) fun r st' hh => by cases r <;> exact hh
          show Runs (arrOf st4) 0 ((pendingOf st4).modify ((pendingOf st4).size - 1) fun x => (x.fst, x.2.fst, power' a₀.size (2 * s1 + k1) (2 * s1 + k1 + k1 + m) a₀.size)).toList lo
          rw [Array.toList_modify]
          exact r4.power _
  case post =>
    rintro c st1 ⟨rfl, B1, r1⟩
    dsimp only
    have l1 : (pendingOf st1).toList.length = (pendingOf st1).size := by simp
    have ll := r1.le
    refine wpS_bind (wpS_mono (wpS_forRange (I := fun x c st2 => c = (none, ()) ∧ TB a₀ st2 ∧ Runs (arrOf st2) 0 (pendingOf st2).toList a₀.size ∧ (pendingOf st2).size + x ≤ a₀.size + 1)
      (Q := fun c st2 => c = (none, ()) ∧ TB a₀ st2 ∧ Runs (arrOf st2) 0 (pendingOf st2).toList a₀.size ∧ (pendingOf st2).size ≤ 1) ?step4 ?fin4 ⟨rfl, B1, r1, by omega⟩) ?post4)
    case fin4 =>
      rintro c st2 ⟨rfl, B2, r2, l2⟩
      exact ⟨rfl, B2, r2, by omega⟩
    case step4 =>
      rintro x c st2 _ hx ⟨rfl, B2, r2, l2⟩
      refine wpS_bind (wpS_get ?_)
      by_cases c1 : (pendingOf st2).size ≤ 1
      · rw [if_pos c1]
        exact wpS_pure ⟨rfl, B2, r2, c1⟩
      rw [if_neg c1]
      refine wpS_bind (wpS_mergeT h0 B2 r2 (Nat.le_refl _) ?_ fun st3 B3 r3 l3 _ => ?_)
      · have key : ∀ b : Bool, (if b = true then (pendingOf st2).size - 2 - 1 else (pendingOf st2).size - 2) + 1 < (pendingOf st2).size := fun b => by cases b <;> simp <;> omega
        exact key _
      · rw [if_neg (by simp)]
        exact wpS_pure ⟨rfl, B3, r3, by omega⟩
    case post4 =>
      rintro c st2 ⟨rfl, B2, r2, l2⟩
      refine wpS_pure (h _ B2.perm B2.failed ?_)
      have l3 : (pendingOf st2).toList.length = (pendingOf st2).size := by simp
      generalize (pendingOf st2).toList = P at *
      cases P with
      | nil =>
        have : 0 = a₀.size := r2
        omega
      | cons p P =>
        cases P with
        | nil =>
          obtain ⟨a, n, pw⟩ := p
          obtain ⟨_, _, sg, e⟩ := r2
          have e : 0 + n = a₀.size := e
          exact fun i j h1 h2 => sg i j (by omega) h1 (by omega)
        | cons q P => simp at l3; omega
end
end PySem.Tim
/-! sorted() of a dict's keys, as many as there are. -/
namespace PySem.Tim
open PySem PyProof.Rows
section
variable {prog : Program} {w : World} {A : Around} {E : Value → Shared → Prop} {s : Shared}
theorem ints_nums : ∀ {vs : List Value} {ns : List Int}, IntsAre vs ns → vs.map numOf = ns
  | _, _, .nil => rfl
  | _, _, .cons n t h => by rw [List.map_cons, ints_nums h]; rfl
theorem pairs_kn (vs : List Value) : (pairsOf vs).toList.map kn = vs.map numOf := by
  rw [pairsOf_toList]
  induction vs with
  | nil => rfl
  | cons v r ih => rw [List.zip_cons_cons, List.map_cons, ih, List.map_cons]
theorem sort_many {a : Addr} {vs : List Value} {ns : List Int} {n : Nat} {P : PySem.Fin → Shared → Prop} (ho : s.heap.get? a = some (seqObj "list" vs.toArray n)) (hI : IntsAre vs ns) (nd : ns.Nodup) (h2 : 2 ≤ vs.length) (hz : vs.length ≤ sizeLine)
    (h : ∀ (out : Array Value) (ns' : List Int), IntsAre out.toList ns' → ns'.Perm ns → ns'.Pairwise (· ≤ ·) → P (.done (.ret .none)) { s with heap := sortedHeap s.heap a vs out }) :
    wpAny (model prog w) A (Builtin.«list.sort» ⟨[.ref a], []⟩) P E s := by
  rw [list_sort_plain]
  have ha : a < s.heap.objs.size := Heap.lt_size ho
  have hv : vs.toArray.size = vs.length := by simp
  refine wpAny_bind (listItems_at ho rfl (wpAny_bind (listUpdate_at ho rfl ?_ (hsz := by rw [hv]; exact hz) (hsz2 := Nat.zero_le _))))
  obtain ⟨e1, ho1⟩ : ∃ e1, (s.heap.update a (Obj.mapSeq fun _ => #[])).get? a = some (seqObj "list" #[] e1) := ⟨_, get?_update_seq ho (fun _ => #[])⟩
  refine wpAny_bind (seqEpoch_at ho1 rfl (wpAny_bind (wpAny_newTuple (wpAny_bind (wpAny_newList (wpAny_holding ?_))) (by rw [List.toList_toArray]; exact hz))))
  show wpAny (model prog w) A _ P E { s with heap := ((s.heap.update a (Obj.mapSeq fun _ => #[])).push (seqObj "tuple" vs.toArray 0)).push (seqObj "list" #[] 0) }
  generalize hh : (((s.heap.update a (Obj.mapSeq fun _ => #[])).push (seqObj "tuple" vs.toArray 0)).push (seqObj "list" #[] 0)) = h6
  have ho6 : h6.get? a = some (seqObj "list" #[] e1) := by
    rw [← hh, Heap.get?_push_ne _ _ _ (by rw [size_push', Heap.size_update]; exact Nat.ne_of_lt (Nat.lt_succ_of_lt ha)), Heap.get?_push_ne _ _ _ (by rw [Heap.size_update]; exact Nat.ne_of_lt ha)]
    exact ho1
  dsimp only
  rw [if_neg (by omega), if_neg (by omega)]
  obtain ⟨v₁, v₂, rest, rfl⟩ : ∃ v₁ v₂ rest, vs = v₁ :: v₂ :: rest := by
    match vs, h2 with
    | [], h2 => simp at h2
    | [_], h2 => simp at h2
    | v₁ :: v₂ :: rest, _ => exact ⟨v₁, v₂, rest, rfl⟩
  rw [keyKind_ints hI]
  refine wpAny_bind (wpAny_pure ?_)
  have ds : Dst (pairsOf (v₁ :: v₂ :: rest)) := by unfold Dst; rw [pairs_kn, ints_nums hI]; exact nd
  have sr := wpS_sortT (prog := prog) (w := w) (A := A) (E := E) (s := { s with heap := h6 }) (a₀ := pairsOf (v₁ :: v₂ :: rest)) (st := SortSt.mk' oneType' ((v₁ :: v₂ :: rest).toArray.zip (v₁ :: v₂ :: rest).toArray) #[] 7 none)
    (Q := fun _ st' => (arrOf st').Perm (pairsOf (v₁ :: v₂ :: rest)) ∧ failedOf st' = none ∧ SortedTo (arrOf st') (pairsOf (v₁ :: v₂ :: rest)).size)
    hI.intKeys ds ⟨Array.Perm.refl _, rfl, rfl⟩ rfl (by rw [pairsOf_size]; simp) fun st' a1 a2 a3 => ⟨a1, a2, a3⟩
  refine wpAny_bind (wpAny_mono sr ?_ fun _ _ e => e)
  rintro ⟨⟨⟩, st'⟩ s' ⟨rfl, hp, hf, hs⟩
  dsimp only
  obtain ⟨ns', q1, q2, q3⟩ := sorted_out hI hp hs
  refine wpAny_bind (seqEpoch_at ho6 rfl (wpAny_bind (listUpdate_at ho6 rfl ?_ (hsz := Nat.zero_le _) (hsz2 := by
    refine Nat.le_trans (Nat.le_of_eq ((Array.size_map ..).trans (hp.size_eq.trans (pairsOf_size _)))) ?_
    omega))))
  rw [hf]
  simp only [bne_self_eq_false, Bool.false_eq_true, if_false]
  have fin := h ((arrOf st').map (·.2)) ns' q1 q2 q3
  unfold sortedHeap at fin
  rw [hh] at fin
  exact wpAny_pure fin
theorem sort_all {a : Addr} {vs : List Value} {ns : List Int} {n : Nat} {P : PySem.Fin → Shared → Prop} (ho : s.heap.get? a = some (seqObj "list" vs.toArray n)) (hI : IntsAre vs ns) (nd : ns.Nodup) (hz : vs.length ≤ sizeLine)
    (h : ∀ (out : Array Value) (ns' : List Int), IntsAre out.toList ns' → ns'.Perm ns → ns'.Pairwise (· ≤ ·) → P (.done (.ret .none)) { s with heap := sortedHeap s.heap a vs out }) :
    wpAny (model prog w) A (Builtin.«list.sort» ⟨[.ref a], []⟩) P E s := by
  by_cases c : vs.length < 64
  · exact list_sort_tree ho hI c h
  · exact sort_many ho hI nd (by omega) hz h
end
end PySem.Tim
namespace L2
open PySem PySem.Spec PyProof.Rows PySem.W
section
variable {X : Cx} {K : PySem.W.Frag}
theorem call_sorted_dN (hc : X.calm = true) : CallR X (.builtin "sorted") (fun xs H Q => ∃ d kvs, xs = [.ref d] ∧ Rd H d (.dK kvs) ∧ allI kvs ∧ (keysI kvs).Nodup ∧ kvs.length ≤ 10000 ∧ ∀ l, H l = none → Q (.ref l) (upd H l (.lst (List.map V.int (Nm.srt (keysI kvs)))))) := by
  intro pins s σ H xs us Q I r h
  obtain ⟨d, kvs, rfl, hd, hall, hnd, hn, q⟩ := h
  obtain ⟨u, rfl, rx⟩ := vals1 r
  cases rx
  obtain ⟨hz, lo, vs, kv, dd⟩ := dk_rd I.hok hd
  have hlen : kvs.length = vs.length := Paired.length kv
  obtain ⟨ep, hat⟩ := dd.dictAt
  refine Calls.call_function_entry kind_sorted plain_sorted entry_sorted (args_sorted1 _) ?_
  unfold Builtin.«sorted»
  refine wpAny_bind (m := checkCount "sorted" 1 1 _) (wpAny_pure ?_)
  refine wpAny_bind (kdu_collect (A := X.A.in1) (kdl_dict (kvs := vs) (ep := ep) lo) (I.ok.hd hc) hat (by rw [← hlen, sizeLine_eq]; omega) fun h' tk acc hk hacc => ?_)
  have hl : acc.toList.length = vs.length := by rw [Array.length_toList]; exact hacc.1
  have hI : IntsAre acc.toList (keysI kvs) := by
    have all : ∀ (j : Nat) v, acc.toList[j]? = some v → ∃ i t, v = Value.int i t ∧ (keysI kvs)[j]? = some i := fun j v e => by
      obtain ⟨k, x, hx, hk⟩ := hacc.2 j v (by rw [← Array.getElem?_toList]; exact e)
      obtain ⟨p, e1, e2⟩ : ∃ p, kvs[j]? = some p ∧ p.1 = k := by
        have : ∀ {as : List (Key × V)} {bs : List (Key × Value)} (j : Nat) {b}, KV as bs → bs[j]? = some b → ∃ a, as[j]? = some a ∧ a.1 = b.1 := by
          intro as bs j b r
          induction r generalizing j with
          | nil => intro e; simp at e
          | cons r1 r2 ih =>
            intro e
            cases j with
            | zero => simp at e; subst e; exact ⟨_, rfl, r1.1⟩
            | succ j => simp at e; obtain ⟨a, e1, e2⟩ := ih j e; exact ⟨a, by simpa using e1, e2⟩
        obtain ⟨a, e1, e2⟩ := this j kv hx
        exact ⟨a, e1, e2⟩
      obtain ⟨i, hi⟩ := hall p (List.mem_of_getElem? e1)
      rw [← e2, hi] at hk
      have hk : keyIs (.inl i) v = true := hk
      rcases keyIs_shape hk with ⟨i', t, e3, e4⟩ | ⟨x', t, e3, _⟩
      · cases e3
        refine ⟨i, t, e4, ?_⟩
        unfold keysI
        rw [List.getElem?_map, e1]
        simp [hi]
      · cases e3
    have go : ∀ (us : List Value) (ns : List Int), us.length = ns.length → (∀ (j : Nat) v, us[j]? = some v → ∃ i t, v = Value.int i t ∧ ns[j]? = some i) → IntsAre us ns := by
      intro us
      induction us with
      | nil => intro ns hl _; cases ns with | nil => exact .nil | cons _ _ => simp at hl
      | cons u us ih =>
        intro ns hl k
        cases ns with
        | nil => simp at hl
        | cons n ns =>
          obtain ⟨i, t, rfl, e⟩ := k 0 u rfl
          simp at e
          subst e
          exact .cons n t (ih ns (by simpa using hl) fun j v e => by
            obtain ⟨i, t, e1, e2⟩ := k (j + 1) v (by simpa using e)
            exact ⟨i, t, e1, by simpa using e2⟩)
    refine go _ _ ?_ all
    unfold keysI
    rw [List.length_map, hl, hlen]
  refine wpAny_bind (wpAny_newList ?_ (by rw [hl, ← hlen, sizeLine_eq]; omega))
  have hoL : (h'.push (seqObj "list" acc.toList.toArray 0)).get? h'.objs.size = some (seqObj "list" acc.toList.toArray 0) := Heap.get?_push_size _ rfl
  have I1 : Inv X pins σ H { s with heap := h', toks := tk } := I.kept (t' := tk) hk
  refine wpAny_bind (wpAny_holding (wpAny_call_entry slot_list_sort ⟨_, hoL, rfl⟩ entry_list_sort (PySem.Tim.sort_all hoL hI hnd (by rw [hl, ← hlen, sizeLine_eq]; omega) fun out ns' a1 a2 a3 => ⟨_, rfl, ?_⟩) (args_list_sort _)))
  obtain rfl := Nm.srt_one a2 a3
  obtain ⟨e, he⟩ := sortedHeap_at (out := out) hoL
  have fr := I1.hok.fresh (a := h'.objs.size) (Nat.le_refl _)
  refine wpAny_pure ⟨_, rfl, .ref h'.objs.size, _, I1.laid (t' := tk) (fun b o eb => ?_) (Nat.le_refl _) (o := .lst (List.map V.int (Nm.srt (keysI kvs)))) ⟨?_, out.toList, e, vals_ints_of a1, ?_⟩, rfl, q _ fr⟩
  · rw [sortedHeap_old (Nat.ne_of_lt (Heap.lt_size eb)) (by rw [Heap.size_push]; exact Nat.lt_succ_of_lt (Heap.lt_size eb))]
    exact Heap.get?_push_of_some _ eb
  · rw [List.length_map, Nm.srt_length, sizeLine_eq]
    unfold keysI
    rw [List.length_map]
    omega
  · exact he
theorem call_sorted_dNK (hc : X.calm = true := by rfl) : CallR X (.builtin "sorted") (fun xs H Q => ∃ d kvs, xs = [.ref d] ∧ Rd H d (.dK kvs) ∧ allI kvs ∧ (keysI kvs).Nodup ∧ kvs.length ≤ 10000 ∧ ∀ l, H l = none → Q (.ref l) (upd H l (.lst (List.map V.int (Nm.srt (keysI kvs)))))) := call_sorted_dN hc
end
end L2
/-! ### try: if .. one call, else another -/
namespace L2
open PySem PySem.Spec PyProof.Rows
section
variable {X : Cx} {k k2 : Nat} {x x2 : Str} {ps ps2 : List Str} {sp sp2 : Sp} {e e2 : Expr} {es es2 : List Expr} {t t2 : TA} {p pos p2 pos2 : Pos} {cx n : Str} {np hpos epos epos2 tpos ipos : Pos} {b₀ : Stmt} {suite : List Stmt} {i : Nat} {ts : TS} {C2 : Addr} {c : Expr} {tc : TT}
noncomputable def tTryI (K : PySem.W.Frag) (tc : TT) (sp : Sp) (t : TA) (sp2 : Sp) (t2 : TA) (j : Nat) (C2 : Addr) (i : Nat) (ts : TS) : TS := fun D σ H => tc σ H fun d H1 => if d = true then tTryA K sp t j C2 i ts D σ H1 else tTryA K sp2 t2 j C2 i ts D σ H1
end
end L2
/-! ### instances of a class of the text -/
namespace L2
open PySem PySem.Spec PyProof.Rows
structure MkCal (P : Program) (w : World) (K : PySem.W.Frag) (mg : Str → Option Value) (base : Heap) (CX : CXT) (k : Nat) (x : Str) (C : Addr) (ps : List Str) (sp : Sp) : Prop where
  ex : ∃ f fd, Mk K C f ∧ FnOk P w K mg base CX k f fd ps sp ∧ mg x = some (.ref C) ∧ Binds K fd ps []
section
variable {X : Cx}
end
structure DnI (K : PySem.W.Frag) (mg : Str → Option Value) (x qual : Str) (st : Stmt) (C : Addr) : Prop where
  ex : ∃ f fd, Fun K "__init__" qual st f fd ∧ Mk K C f ∧ mg x = some (.ref C)
theorem DnI.cal {P : Program} {w : World} {K : PySem.W.Frag} {mg : Str → Option Value} {base : Heap} {CX : CXT} {x qual : Str} {st : Stmt} {C : Addr} {ps : List Str} {k : Nat} {sp : Sp} (D : DnI K mg x qual st C)
    (hb : ∀ (kV doc pm : Value) (an : Option Addr) (cdv ct : Value) (us : List Value), us.length = ps.length → bindArgs (PySem.W.fnOf "__init__" qual (defArgs st) (defBody st) (defScope st) .none kV doc pm an cdv ct) ⟨us, []⟩ = pure (ps.zip us))
    (h : ∀ f fd, Fun K "__init__" qual st f fd → FnOk P w K mg base CX k f fd ps sp) : MkCal P w K mg base CX k x C ps sp := by
  obtain ⟨f, fd, F, m, hm⟩ := D.ex
  exact ⟨f, fd, m, h f fd F, hm, F.binds hb⟩
end L2
/-! ### dicts whose keys are tuples within tuples, of ints and texts -/
namespace L2
open PySem PySem.Spec PyProof.Rows
noncomputable instance decPyData : DecidableEq PyData := fun _ _ => Classical.propDecidable _
mutual
/-- what may be a key: ints, texts, tuples of such -/
noncomputable def hsh : PyData → Bool
  | .int _ => true
  | .str x => PyData.canLay0 (.str x)
  | .tuple xs => hshL xs
  | _ => false
noncomputable def hshL : List PyData → Bool
  | [] => true
  | x :: xs => hsh x && hshL xs
end
mutual
theorem hsh_lay : ∀ (d : PyData), hsh d = true → d.canLay0 = true
  | .none, h => by simp [hsh] at h
  | .bool _, h => by simp [hsh] at h
  | .int _, _ => by simp [PyData.canLay0]
  | .str x, h => by rw [hsh] at h; exact h
  | .list _, h => by simp [hsh] at h
  | .tuple xs, h => by rw [hsh] at h; rw [PyData.canLay0]; exact hshL_lay xs h
  | .dict _, h => by simp [hsh] at h
theorem hshL_lay : ∀ (xs : List PyData), hshL xs = true → PyData.canLayAll0 xs = true
  | [], _ => by simp [PyData.canLayAll0]
  | x :: xs, h => by
    rw [hshL, Bool.and_eq_true] at h
    rw [PyData.canLayAll0, Bool.and_eq_true]
    exact ⟨hsh_lay x h.1, hshL_lay xs h.2⟩
end
mutual
theorem eqv_is : ∀ (x y : PyData), hsh x = true → hsh y = true → PyData.eqv x y = decide (x = y)
  | .int i, y, _, hy => by
    cases y with
    | int j =>
      rw [PyData.eqv]
      by_cases c : i = j
      · subst c; simp
      · rw [decide_eq_false (fun e => c (by injection e))]
        simp [c]
    | str _ => simp [PyData.eqv]
    | tuple _ => simp [PyData.eqv]
    | _ => simp [hsh] at hy
  | .str a, y, _, hy => by
    cases y with
    | str b =>
      rw [PyData.eqv]
      by_cases c : a = b
      · subst c; simp
      · rw [decide_eq_false (fun e => c (by injection e))]
        simp [c]
    | int _ => simp [PyData.eqv]
    | tuple _ => simp [PyData.eqv]
    | _ => simp [hsh] at hy
  | .tuple xs, y, hx, hy => by
    cases y with
    | tuple ys =>
      rw [hsh] at hx hy
      rw [PyData.eqv, eqvL_is xs ys hx hy]
      by_cases c : xs = ys
      · subst c; simp
      · rw [decide_eq_false c, decide_eq_false (fun e => c (by injection e))]
    | int _ => simp [PyData.eqv]
    | str _ => simp [PyData.eqv]
    | _ => simp [hsh] at hy
  | .none, _, h, _ => by simp [hsh] at h
  | .bool _, _, h, _ => by simp [hsh] at h
  | .list _, _, h, _ => by simp [hsh] at h
  | .dict _, _, h, _ => by simp [hsh] at h
theorem eqvL_is : ∀ (xs ys : List PyData), hshL xs = true → hshL ys = true → PyData.eqvAll xs ys = decide (xs = ys)
  | [], [], _, _ => by simp [PyData.eqvAll]
  | [], _ :: _, _, _ => by simp [PyData.eqvAll]
  | _ :: _, [], _, _ => by simp [PyData.eqvAll]
  | x :: xs, y :: ys, hx, hy => by
    rw [hshL, Bool.and_eq_true] at hx hy
    rw [PyData.eqvAll, eqv_is x y hx.1 hy.1, eqvL_is xs ys hx.2 hy.2]
    by_cases c : x = y
    · subst c
      by_cases d : xs = ys
      · subst d; simp
      · rw [decide_eq_false d, decide_eq_false (fun e => d (List.cons.inj e).2)]; simp
    · rw [decide_eq_false c, decide_eq_false (fun e => c (List.cons.inj e).1)]; simp
end
mutual
/-- a key stays where a dict is changed -/
theorem reads_keep {h h' : Heap} {d : Addr} {o : Obj} {es ep} (ho : h.get? d = some o) (hd : o.data = .dict es ep) (hs : Heap.SameBut d h h') : ∀ (x : PyData) (v : Value) (as : List Addr), hsh x = true → Reads h v x as → Reads h' v x as
  | .int _, _, _, _, r => by cases r; exact .int _ _
  | .str _, _, _, _, r => by cases r; exact .str _ _
  | .tuple xs, _, _, hx, r => by
    rw [hsh] at hx
    cases r with
    | @tuple a o' vs n _ _ e c q t =>
      have ne : a ≠ d := fun z => by
        subst z
        rw [ho] at e
        cases e
        rw [hd] at q
        cases q
      exact .tuple ((hs.2 a ne).trans e) c q (readsL_keep ho hd hs xs _ _ hx t)
  | .none, _, _, h, _ => by simp [hsh] at h
  | .bool _, _, _, h, _ => by simp [hsh] at h
  | .list _, _, _, h, _ => by simp [hsh] at h
  | .dict _, _, _, h, _ => by simp [hsh] at h
theorem readsL_keep {h h' : Heap} {d : Addr} {o : Obj} {es ep} (ho : h.get? d = some o) (hd : o.data = .dict es ep) (hs : Heap.SameBut d h h') : ∀ (xs : List PyData) (vs : List Value) (as : List Addr), hshL xs = true → ReadsAll h vs xs as → ReadsAll h' vs xs as
  | [], _, _, _, r => by cases r; exact .nil
  | x :: xs, _, _, hx, r => by
    rw [hshL, Bool.and_eq_true] at hx
    cases r with
    | cons r1 r2 => exact .cons (reads_keep ho hd hs x _ _ hx.1 r1) (readsL_keep ho hd hs xs _ _ hx.2 r2)
end
mutual
noncomputable def hashP (w : World) : PyData → Int
  | .int i => keyH w (.inl i)
  | .str x => keyH w (.inr x)
  | .tuple xs => reduceHash (Builtin.Tuple.tupleHashOf (hashL w xs))
  | _ => 0
noncomputable def hashL (w : World) : List PyData → List Int
  | [] => []
  | x :: xs => hashP w x :: hashL w xs
end
mutual
noncomputable def drw : PyData → Nat
  | .tuple xs => drwL xs + 1
  | _ => 1
noncomputable def drwL : List PyData → Nat
  | [] => 0
  | x :: xs => drw x + drwL xs
end
section
variable {prog : Program} {w : World}
/-- how the hash of a value comes out -/
noncomputable def PH (prog : Program) (w : World) (m : Nat) (h : Heap) (d : PyData) (v : Value) : Prop := ∀ (A : Around) (E : Value → Shared → Prop) (s : Shared) (Q : Int → Shared → Prop), s.heap = h → A.units + m < cLine →
  Q (hashP w d) { s with toks := s.toks + drw d } → wpAny (model prog w) A (pyHash v) Q E s
inductive PHs (prog : Program) (w : World) (m : Nat) (h : Heap) : List PyData → List Value → Prop
  | nil : PHs prog w m h [] []
  | cons {d v ds vs} : PH prog w m h d v → PHs prog w m h ds vs → PHs prog w m h (d :: ds) (v :: vs)
theorem hashL_app (xs ys : List PyData) : hashL w (xs ++ ys) = hashL w xs ++ hashL w ys := by
  induction xs with
  | nil => simp [hashL]
  | cons x xs ih => simp [hashL, ih]
theorem drwL_app (xs ys : List PyData) : drwL (xs ++ ys) = drwL xs + drwL ys := by
  induction xs with
  | nil => simp [drwL]
  | cons x xs ih => simp [drwL, ih, Nat.add_assoc]
theorem ph_tuple {m : Nat} {h : Heap} {ds : List PyData} {a : Addr} {o : Obj} {items n} (ho : h.get? a = some o) (hc : o.cls = .type "tuple") (hd : o.data = .seq items n) (hi : PHs prog w m h ds items.toList) : PH prog w (m + 1) h (.tuple ds) (.ref a) := by
  intro A E s Q hh hu hq
  subst hh
  have hT : s.TypeIs (.ref a) "tuple" := ⟨o, ho, hc⟩
  have hu0 : A.units < cLine := by omega
  unfold pyHash
  first | unfold pyHashByItsType | skip
  first | refine wpAny_bind (wpAny_cRoomFor_or (.inr hu0) ?_) | skip
  refine wpAny_bind (wpAny_specialOf hT F.slot_tuple_hash.lookup ?_)
  show wpAny _ _ (if (some (Value.builtin "tuple.__hash__") == some Value.none) = true then _ else _) Q E s
  rw [if_neg (by rw [beq_builtin_none]; exact Bool.false_ne_true)]
  refine wpAny_bind (wpAny_specialOf hT F.slot_tuple_hash.lookup ?_)
  show wpAny _ _ (callSpecialIfBoundUnlessNone? (.ref a) "__hash__" _ >>= _) Q E s
  refine wpAny_bind (wpAny_callSpecialIfBoundUnlessNone?_slot hT F.slot_tuple_hash (wpAny_call_entry F.slot_tuple_hash hT F.entry_tuple_hash ?_ (F.args_tuple_hash_1 _)))
  show wpAny _ _ (Builtin.Tuple.tupleItemsOf (.ref a) >>= _) _ _ s
  refine wpAny_bind (wpAny_tupleItemsOf ho hd ?_)
  refine wpAny_bind ?_
  rw [← Array.forIn_toList]
  refine wpAny_forIn_list _
    (fun rest (b : Array Int) s' => ∃ done left, ds = done ++ left ∧ PHs prog w m s.heap left rest ∧ b.toList = hashL w done ∧ s' = { s with toks := s.toks + drwL done })
    _ ?_ ?_ _ _ ⟨[], ds, rfl, hi, rfl, rfl⟩
  · rintro x rest b s' ⟨done, left, rfl, hl, hb, rfl⟩
    cases hl with
    | @cons k _ ks' _ h1 hl' =>
      refine wpAny_bind (h1 _ _ _ _ rfl (by show A.units + 1 + m < cLine; omega) ?_)
      have e1 : (b.push (hashP w k)).toList = hashL w (done ++ [k]) := by rw [hashL_app]; simp [hb, hashL]
      have e2 : s.toks + drwL done + drw k = s.toks + drwL (done ++ [k]) := by rw [drwL_app]; simp [drwL, Nat.add_assoc]
      first
        | exact wpAny_pure ⟨done ++ [k], ks', by simp, hl', e1, by rw [← e2]⟩
        | exact wpAny_bind (wpAny_pure (wpAny_pure ⟨done ++ [k], ks', by simp, hl', e1, by rw [← e2]⟩))
  · rintro b s' ⟨done, left, rfl, hl, hb, rfl⟩
    cases hl
    rw [List.append_nil] at hq
    show wpAny _ _ (retInt (Builtin.Tuple.tupleHashOf b.toList)) _ _ _
    rw [hb]
    refine wpAny_ret_mkInt ?_
    show wpAny _ _ (if (decide (-(2 : Int) ^ 63 ≤ Builtin.Tuple.tupleHashOf (hashL w done)) && decide (Builtin.Tuple.tupleHashOf (hashL w done) < 2 ^ 63)) = true then _ else _) Q E _
    rw [hashP, drw] at hq
    unfold reduceHash at hq
    by_cases hr : (decide (-(2 : Int) ^ 63 ≤ Builtin.Tuple.tupleHashOf (hashL w done)) && decide (Builtin.Tuple.tupleHashOf (hashL w done) < 2 ^ 63)) = true
    · rw [if_pos hr]
      rw [if_pos hr] at hq
      exact wpAny_pure (by simpa [Nat.add_assoc] using hq)
    · rw [if_neg hr]
      rw [if_neg hr] at hq
      exact wpAny_bind (wpAny_rule (wpAny_pure (by simpa [Nat.add_assoc] using hq)))
mutual
theorem ph_all {h : Heap} : ∀ (d : PyData) (v : Value) (as : List Addr), hsh d = true → Reads h v d as → PH prog w d.depth h d v
  | .int i, _, _, _, r => by
    cases r with
    | int _ t =>
      intro A E s Q _ _ hq
      exact (mixKind prog w).pyHash (k := .inl i) (kV_is (k := .inl i) ⟨t, rfl⟩) hq
  | .str x, _, _, _, r => by
    cases r with
    | str _ t =>
      intro A E s Q _ _ hq
      exact (mixKind prog w).pyHash (k := .inr x) (kV_is (k := .inr x) ⟨t, rfl⟩) hq
  | .tuple xs, _, _, hx, r => by
    rw [hsh] at hx
    cases r with
    | tuple e c q t => exact ph_tuple e c q (phs_all xs _ _ hx t)
  | .none, _, _, h, _ => by simp [hsh] at h
  | .bool _, _, _, h, _ => by simp [hsh] at h
  | .list _, _, _, h, _ => by simp [hsh] at h
  | .dict _, _, _, h, _ => by simp [hsh] at h
theorem phs_all {h : Heap} : ∀ (ds : List PyData) (vs : List Value) (as : List Addr), hshL ds = true → ReadsAll h vs ds as → PHs prog w (PyData.depthAll ds) h ds vs
  | [], _, _, _, r => by cases r; exact .nil
  | x :: xs, _, _, hx, r => by
    rw [hshL, Bool.and_eq_true] at hx
    cases r with
    | cons r1 r2 =>
      have p1 := ph_all x _ _ hx.1 r1
      have p2 := phs_all xs _ _ hx.2 r2
      have up : ∀ {m m' : Nat} {ds : List PyData} {vs : List Value}, m ≤ m' → PHs prog w m h ds vs → PHs prog w m' h ds vs := fun l q => by
        induction q with
        | nil => exact .nil
        | cons p _ ih => exact .cons (fun A E s Q e u => p A E s Q e (by omega)) ih
      refine .cons (fun A E s Q e u => p1 A E s Q e ?_) (up ?_ p2)
      · rw [PyData.depthAll] at u
        omega
      · rw [PyData.depthAll]
        omega
end
theorem quiet_tuple {h : Heap} {k : Nat} {a : Addr} {o : Obj} {items n} (ho : h.get? a = some o) (hc : o.cls = .type "tuple") (hd : o.data = .seq items n) (hi : ∀ v ∈ items.toList, ∀ (A : Around) (E : Value → Shared → Prop) (s : Shared) (Q : Bool → Shared → Prop), s.heap = h → Q true s → wpAny (model prog w) A (eqIsQuiet k v) Q E s)
    (A : Around) (E : Value → Shared → Prop) (s : Shared) (Q : Bool → Shared → Prop) (hh : s.heap = h) (hq : Q true s) : wpAny (model prog w) A (eqIsQuiet (k + 1) (.ref a)) Q E s := by
  subst hh
  have hT : s.TypeIs (.ref a) "tuple" := ⟨o, ho, hc⟩
  unfold eqIsQuiet
  refine wpAny_bind (wpAny_specialOf hT F.slot_tuple_eq.lookup ?_)
  show wpAny _ _ (isInstance (.ref a) (.type "tuple") >>= _) _ _ s
  refine wpAny_bind (wpAny_isInstance hT isSubtype_tuple_tuple ?_)
  simp only [Bool.not_true, Bool.false_eq_true, if_false]
  refine wpAny_bind (wpAny_seqItems ho hd ?_)
  refine wpAny_bind ?_
  show wpAny _ _ (forIn items _ _) _ _ s
  rw [← Array.forIn_toList]
  refine wpAny_forIn_list _ (fun rest r s' => r.1 = none ∧ s' = s ∧ ∀ v ∈ rest, v ∈ items.toList) _ ?_ ?_ _ _ ⟨rfl, rfl, fun _ h => h⟩
  · rintro v rest r s' ⟨hr, rfl, hall⟩
    refine wpAny_bind (hi v (hall v List.mem_cons_self) _ _ _ _ rfl ?_)
    simp only [Bool.not_true, Bool.false_eq_true, if_false]
    exact wpAny_pure ⟨rfl, rfl, fun u hu' => hall u (List.mem_cons_of_mem _ hu')⟩
  · rintro ⟨r1, r2⟩ s' ⟨hr, rfl, _⟩
    simp only at hr
    subst hr
    exact wpAny_pure hq
mutual
theorem quiet_all {h : Heap} : ∀ (d : PyData) (v : Value) (as : List Addr) (k : Nat), hsh d = true → d.depth ≤ k → Reads h v d as → ∀ (A : Around) (E : Value → Shared → Prop) (s : Shared) (Q : Bool → Shared → Prop), s.heap = h → Q true s → wpAny (model prog w) A (eqIsQuiet k v) Q E s
  | .int _, _, _, _, _, _, r => by
    cases r
    intro A E s Q _ hq
    rw [eqIsQuiet_byValue _ rfl]
    exact wpAny_pure hq
  | .str _, _, _, _, _, _, r => by
    cases r
    intro A E s Q _ hq
    rw [eqIsQuiet_byValue _ rfl]
    exact wpAny_pure hq
  | .tuple xs, _, _, k, hx, hk, r => by
    rw [hsh] at hx
    rw [PyData.depth] at hk
    cases k with
    | zero => omega
    | succ k =>
      cases r with
      | tuple e c q t => exact quiet_tuple e c q (quietL_all xs _ _ k hx (by omega) t)
  | .none, _, _, _, h, _, _ => by simp [hsh] at h
  | .bool _, _, _, _, h, _, _ => by simp [hsh] at h
  | .list _, _, _, _, h, _, _ => by simp [hsh] at h
  | .dict _, _, _, _, h, _, _ => by simp [hsh] at h
theorem quietL_all {h : Heap} : ∀ (ds : List PyData) (vs : List Value) (as : List Addr) (k : Nat), hshL ds = true → PyData.depthAll ds ≤ k → ReadsAll h vs ds as → ∀ v ∈ vs, ∀ (A : Around) (E : Value → Shared → Prop) (s : Shared) (Q : Bool → Shared → Prop), s.heap = h → Q true s → wpAny (model prog w) A (eqIsQuiet k v) Q E s
  | [], _, _, _, _, _, r => by
    cases r
    intro v hv
    simp at hv
  | x :: xs, _, _, k, hx, hk, r => by
    rw [hshL, Bool.and_eq_true] at hx
    rw [PyData.depthAll] at hk
    cases r with
    | cons r1 r2 =>
      intro v hv
      rcases List.mem_cons.mp hv with rfl | hv
      · exact quiet_all x _ _ k hx.1 (by omega) r1
      · exact quietL_all xs _ _ k hx.2 (by omega) r2 v hv
end
/-- a tuple within tuples at an address -/
noncomputable def IsN (h : Heap) (k : PyData) (a : Addr) : Prop := hsh k = true ∧ k.depth ≤ 8 ∧ ∃ as, Reads h (.ref a) k as
noncomputable def nestKind (prog : Program) (w : World) : HeapKind prog w PyData where
  is := IsN
  hash := hashP w
  draws := drw
  room := fun A => A.units + 8 < cLine
  inj := fun ⟨hx, _, _, rx⟩ ⟨_, _, _, ry⟩ => SeqAt.Reads.unique _ _ _ _ _ (hsh_lay _ hx) rx ry
  keeps := fun ⟨hx, hd, as, r⟩ ho hdd hs => ⟨hx, hd, as, reads_keep ho hdd hs _ _ _ hx r⟩
  pyHash := fun hu ⟨hx, hd, _, r⟩ h => ph_all _ _ _ hx r _ _ _ _ rfl (by omega) h
  eqBool := fun {A E s x y a b Q} hu ⟨hx, dx, _, rx⟩ ⟨hy, dy, _, ry⟩ h => SeqAt.eqBoolOverData _ _ _ _ _ _ _ _ _ _ _ _ rx ry (hsh_lay _ hx) (hsh_lay _ hy) (by omega) (by rw [eqv_is _ _ hx hy]; exact h)
  quiet := fun ⟨hx, hd, _, r⟩ h => quiet_all _ _ _ 8 hx hd r _ _ _ _ rfl h
end
end L2
/-! ### the table of a set: its places rise -/
namespace PySem.Sts
open PySem PyProof.Rows
noncomputable def Rise (xs : Array Nat) : Prop := xs.toList.Pairwise (· < ·)
theorem Rise.lt {xs : Array Nat} (r : Rise xs) {i k x y : Nat} (h : i < k) (ex : xs[i]? = some x) (ey : xs[k]? = some y) : x < y := by
  rw [← Array.getElem?_toList] at ex ey
  obtain ⟨h1, rfl⟩ := List.getElem?_eq_some_iff.mp ex
  obtain ⟨h2, rfl⟩ := List.getElem?_eq_some_iff.mp ey
  exact List.pairwise_iff_getElem.mp r i k h1 h2 h
theorem go_spec {xs : Array Nat} (r : Rise xs) (j : Nat) : ∀ (f lo hi : Nat), hi - lo ≤ f → lo ≤ hi → hi ≤ xs.size → (∀ i x, xs[i]? = some x → i < lo → x < j) → (∀ i x, xs[i]? = some x → hi ≤ i → j ≤ x) →
    SetTable.below.go xs j f lo hi ≤ xs.size ∧ (∀ i x, xs[i]? = some x → i < SetTable.below.go xs j f lo hi → x < j) ∧ (∀ i x, xs[i]? = some x → SetTable.below.go xs j f lo hi ≤ i → j ≤ x)
  | 0, lo, hi, h1, h2, h3, h4, h5 => by
    have e : lo = hi := by omega
    subst e
    rw [SetTable.below.go]
    exact ⟨h3, h4, h5⟩
  | f + 1, lo, hi, h1, h2, h3, h4, h5 => by
    rw [SetTable.below.go]
    by_cases c : lo < hi
    · rw [if_pos c]
      have hm : (lo + hi) / 2 < xs.size := by omega
      have em : xs[(lo + hi) / 2]? = some xs[(lo + hi) / 2] := Array.getElem?_eq_getElem hm
      have eg : xs.getD ((lo + hi) / 2) j = xs[(lo + hi) / 2] := by rw [Array.getD_eq_getD_getElem?, em]; rfl
      dsimp only
      rw [eg]
      by_cases d : xs[(lo + hi) / 2] < j
      · rw [if_pos d]
        refine go_spec r j f _ _ (by omega) (by omega) h3 (fun i x ex hi' => ?_) h5
        by_cases q : i = (lo + hi) / 2
        · subst q
          rw [em] at ex
          cases ex
          exact d
        · exact Nat.lt_trans (r.lt (by omega) ex em) d
      · rw [if_neg d]
        refine go_spec r j f _ _ (by omega) (by omega) (by omega) h4 (fun i x ex hi' => ?_)
        by_cases q : i = (lo + hi) / 2
        · subst q
          rw [em] at ex
          cases ex
          omega
        · have := r.lt (show (lo + hi) / 2 < i by omega) em ex
          omega
    · rw [if_neg c]
      have e : lo = hi := by omega
      subst e
      exact ⟨h3, h4, h5⟩
theorem below_spec {xs : Array Nat} (r : Rise xs) (j : Nat) : SetTable.below xs j ≤ xs.size ∧ (∀ i x, xs[i]? = some x → i < SetTable.below xs j → x < j) ∧ (∀ i x, xs[i]? = some x → SetTable.below xs j ≤ i → j ≤ x) := by
  unfold SetTable.below
  exact go_spec r j _ _ _ (by omega) (by omega) (Nat.le_refl _) (fun _ _ _ h => absurd h (Nat.not_lt_zero _)) (fun i x ex hi => by
    have := (Array.getElem?_eq_some_iff.mp ex).1
    omega)
/-- where an element stands -/
theorem below_at {xs : Array Nat} (r : Rise xs) {i j : Nat} (h : xs[i]? = some j) : SetTable.below xs j = i := by
  obtain ⟨h1, h2, h3⟩ := below_spec r j
  have hi := (Array.getElem?_eq_some_iff.mp h).1
  by_cases c : i < SetTable.below xs j
  · exact absurd (h2 _ _ h c) (Nat.lt_irrefl _)
  · by_cases d : SetTable.below xs j = i
    · exact d
    · have e : xs[SetTable.below xs j]? = some xs[SetTable.below xs j] := Array.getElem?_eq_getElem (by omega)
      have := r.lt (show SetTable.below xs j < i by omega) e h
      have := h3 _ _ e (Nat.le_refl _)
      omega
/-- behind the i-th place comes the next -/
theorem below_next {xs : Array Nat} (r : Rise xs) {i j : Nat} (h : xs[i]? = some j) : SetTable.below xs (j + 1) = i + 1 := by
  obtain ⟨h1, h2, h3⟩ := below_spec r (j + 1)
  have hi := (Array.getElem?_eq_some_iff.mp h).1
  by_cases c : i < SetTable.below xs (j + 1)
  · by_cases d : SetTable.below xs (j + 1) = i + 1
    · exact d
    · have e : xs[i + 1]? = some xs[i + 1] := Array.getElem?_eq_getElem (by omega)
      have := h2 _ _ e (by omega)
      have := r.lt (Nat.lt_succ_self i) h e
      omega
  · have := h3 _ _ h (by omega)
    omega
theorem below_zero (xs : Array Nat) (r : Rise xs) : SetTable.below xs 0 = 0 := by
  obtain ⟨h1, h2, h3⟩ := below_spec r 0
  by_cases c : SetTable.below xs 0 = 0
  · exact c
  · have e : xs[0]? = some xs[0] := Array.getElem?_eq_getElem (by omega)
    have := h2 0 _ e (by omega)
    omega
theorem insert_rise {xs : Array Nat} (r : Rise xs) {j : Nat} (h : ∀ i : Nat, xs[i]? ≠ some j) : Rise (SetTable.insertAt xs (SetTable.below xs j) j) := by
  obtain ⟨h1, h2, h3⟩ := below_spec r j
  unfold Rise SetTable.insertAt
  generalize SetTable.below xs j = p at *
  have e1 : (xs.extract 0 p).toList = xs.toList.take p := by simp
  have e2 : (xs.extract p xs.size).toList = xs.toList.drop p := by
    simp only [Array.toList_extract, List.extract_eq_take_drop]
    exact List.take_of_length_le (by simp)
  rw [Array.toList_append, Array.toList_push, e1, e2, List.append_assoc]
  have at1 : ∀ x ∈ xs.toList.take p, x < j := fun x hx => by
    obtain ⟨i, hi⟩ := List.getElem?_of_mem hx
    rw [List.getElem?_take] at hi
    split at hi
    · exact h2 i x (by rw [← Array.getElem?_toList]; exact hi) (by assumption)
    · cases hi
  have at2 : ∀ x ∈ xs.toList.drop p, j < x := fun x hx => by
    obtain ⟨i, hi⟩ := List.getElem?_of_mem hx
    rw [List.getElem?_drop] at hi
    rw [Array.getElem?_toList] at hi
    have := h3 _ x hi (Nat.le_add_right _ _)
    have := h (p + i)
    have : x ≠ j := fun e => by subst e; exact this hi
    omega
  refine List.pairwise_append.mpr ⟨List.Pairwise.take r, List.pairwise_append.mpr ⟨List.pairwise_singleton _ _, List.Pairwise.drop r, fun x hx y hy => ?_⟩, fun x hx y hy => ?_⟩
  · rw [List.mem_singleton.mp hx]
    exact at2 y hy
  · rcases List.mem_append.mp hy with hy | hy
    · rw [List.mem_singleton.mp hy]
      exact at1 x hx
    · exact Nat.lt_trans (at1 x hx) (at2 y hy)
/-- a table that the roads keep: its places rise, and who leads it -/
noncomputable def TP (L : Bool) (t : SetTable) : Prop := Rise t.place ∧ t.led = L
theorem standIn_ok {L : Bool} {t : SetTable} (h : TP L t) (n : Nat) : TP L (t.standIn n) := by
  refine ⟨?_, h.2⟩
  unfold Rise SetTable.standIn
  dsimp only
  rw [Array.toList_range]
  exact List.pairwise_lt_range
theorem notlive {t : SetTable} (r : Rise t.place) {j : Nat} (h : ∀ i, t.slot j ≠ .live i) (i : Nat) : t.place[i]? ≠ some j := fun e => by
  have b := below_at r e
  refine h i ?_
  unfold SetTable.slot
  dsimp only
  rw [b, e]
  simp
theorem probe_ok {t : SetTable} {f : Nat → Int} {h : Int} : ∀ {n : Nat} {p : SetTable.Probe} {j : Nat} {d : Option Nat}, (∀ x, p.dummy = some x → t.slot x = .dummy) → SetTable.probe.go t f h n p = some (.empty j d) → t.slot j = .empty ∧ ∀ x, d = some x → t.slot x = .dummy
  | 0, p, j, d, _, e => by rw [SetTable.probe.go] at e; cases e
  | n + 1, p, j, d, hd, e => by
    rw [SetTable.probe.go] at e
    have adv : ∀ q : SetTable.Probe, (t.advance q).dummy = q.dummy := fun q => by
      unfold SetTable.advance
      split <;> rfl
    cases c : t.slot p.j with
    | empty =>
      rw [c] at e
      cases e
      exact ⟨c, hd⟩
    | dummy =>
      rw [c] at e
      exact probe_ok (fun x hx => by rw [adv] at hx; cases hx; exact c) e
    | live i =>
      rw [c] at e
      dsimp only at e
      split at e
      · cases e
      · exact probe_ok (fun x hx => hd x (by rw [adv] at hx; exact hx)) e
theorem layNew_ok {L : Bool} {t : SetTable} (h : TP L t) (es : Array (Int × Value)) (k : Int) (x : Value) : TP L (layNew t es k x).2.1 := by
  unfold layNew
  cases c : t.freeSlot k with
  | none => exact standIn_ok h _
  | some p =>
    obtain ⟨slot, wd⟩ := p
    have nl : ∀ i, t.slot slot ≠ .live i := by
      unfold SetTable.freeSlot at c
      cases q : t.probe (fun _ => k + 1) k (t.probeStart k) with
      | none => rw [q] at c; cases c
      | some m =>
        rw [q] at c
        cases m with
        | candidate a b d => cases c
        | empty j d =>
          have z := probe_ok (t := t) (p := t.probeStart k) (fun x hx => by cases hx) (show SetTable.probe.go t _ k _ _ = _ from q)
          dsimp only at c
          cases d with
          | none => cases c; intro i; rw [show t.slot (Option.getD none j) = .empty from z.1]; exact fun e => by cases e
          | some y => cases c; intro i; rw [show t.slot (Option.getD (some y) j) = .dummy from z.2 y rfl]; exact fun e => by cases e
    have hp : TP L (t.put slot).1 := ⟨insert_rise h.1 (notlive h.1 nl), h.2⟩
    show TP L ((t.put slot).1.orStandIn _)
    unfold SetTable.orStandIn
    split
    · exact hp
    · exact standIn_ok hp _
theorem relay_ok {L : Bool} {t : SetTable} (h : TP L t) (es : Array (Int × Value)) (n : Nat) : TP L (relayAll t es n).2.1 := by
  unfold relayAll
  cases c : t.relaid (es.map (·.1)) n with
  | none => exact standIn_ok h _
  | some p =>
    obtain ⟨t', order⟩ := p
    dsimp only
    split
    · unfold SetTable.relaid SetTable.laid at c
      cases q : SetTable.layClean (SetTable.sizeAbove n - 1) (es.map (·.1)) with
      | none => rw [q] at c; cases c
      | some owner =>
        rw [q] at c
        cases c
        refine ⟨?_, h.2⟩
        show List.Pairwise _ (List.map _ _)
        rw [List.pairwise_map]
        refine List.Pairwise.filterMap _ (fun a a' ha b hb b' hb' => ?_) List.pairwise_lt_range
        obtain ⟨_, _, rfl⟩ := Option.map_eq_some_iff.mp hb
        obtain ⟨_, _, rfl⟩ := Option.map_eq_some_iff.mp hb'
        exact ha
    · exact standIn_ok h _
theorem fresh_ok (L : Bool) : TP L (.fresh 0 0 L) := ⟨by unfold Rise SetTable.fresh; exact List.Pairwise.nil, rfl⟩
end PySem.Sts
/-! ### sets of ints made, their tables known -/
namespace PySem.Sts
open PySem PyProof.Rows
/-- the table of the set at a is one that the roads keep -/
noncomputable def Tb (L : Bool) (h : Heap) (a : Addr) : Prop := ∃ o es ep t, h.get? a = some o ∧ o.data = .set es ep t ∧ TP L t
theorem Tb.keep {L : Bool} {h h' : Heap} {a : Addr} (x : Tb L h a) (k : ∀ o, h.get? a = some o → h'.get? a = some o) : Tb L h' a := by
  obtain ⟨o, es, ep, t, e, r⟩ := x
  exact ⟨o, es, ep, t, k _ e, r⟩
section
variable {prog : Program} {w : World} {K : Type} [DecidableEq K] {knd : KeyKind prog w K} {A : Around} {E : Value → Shared → Prop} {s : Shared} {L : Bool}
theorem store_tb {h : Heap} {a : Addr} {o : Obj} {es : Array (Int × Value)} {ep : Nat} {t : SetTable} (ho : h.get? a = some o) (hd : o.data = .set es ep t) {es' : Array (Int × Value)} {t' : SetTable} (tp : TP L t') : Tb L (h.update a (Obj.putSet es' t')) a := by
  have := Heap.get?_update_self (Obj.putSet es' t') ho (by rw [putSet_of es' t' hd]; rfl)
  rw [putSet_of es' t' hd] at this
  exact ⟨_, es', ep + 1, t', this, rfl, tp⟩
theorem add_tail {g : Bool → Sem Unit} (hg : ∀ (b : Bool) (s₁ : Shared) (Q' : Unit → Shared → Prop), Q' () s₁ → wpAny (model prog w) A (g b) Q' E s₁)
    {a : Addr} {o : Obj} {es : Array (Int × Value)} {ep : Nat} {t : SetTable} (ho : s.heap.get? a = some o) (hex : o.ExactSet) (hd : o.data = .set es ep t)
    {es1 : Array (Int × Value)} {t2 : SetTable} {S' : K → Bool} (hel1 : ElemsOf knd es1.toList) (hmem1 : ∀ k', S' k' = true ↔ ∃ e ∈ es1.toList, knd.is k' e.2 = true)
    (hb1 : es1.size < scanBound) (hf2 : t2.fits es1.size = true) (tp2 : TP L t2) {wasDummy : Bool} {R : Option Bool → Shared → Prop}
    (h : ∀ h', Heap.SameBut a s.heap h' → h'.SetOf knd a S' es1.size → Tb L h' a → R (some true) { s with heap := h' }) :
    wpAny (model prog w) A (do
        storeSet a es1 t2
        if (!wasDummy && t2.tooFull) = true then do
            g (relayAll t2 es1 (SetTable.grown es1.size)).2.2
            storeSet a (relayAll t2 es1 (SetTable.grown es1.size)).1 (relayAll t2 es1 (SetTable.grown es1.size)).2.1
            pure (some true)
          else pure (some true)) R E s := by
  obtain ⟨ho1, hS1⟩ := SetOf_store (knd := knd) ho hex hd hel1 hmem1 hb1 hf2
  have hsb1 := Heap.SameBut.update s.heap a (Obj.putSet es1 t2)
  refine wpAny_bind (wpAny_storeSet_of ho hd ?_ (fits_of_scanBound hb1))
  split
  · have tp3 := relay_ok tp2 es1 (SetTable.grown es1.size)
    have hp := relayAll_perm t2 es1 (SetTable.grown es1.size)
    have hfr := relayAll_fits t2 es1 (SetTable.grown es1.size)
    generalize relayAll t2 es1 (SetTable.grown es1.size) = Rl at hp hfr tp3 ⊢
    obtain ⟨es2, t3, gave2⟩ := Rl
    dsimp only at hp hfr tp3 ⊢
    have hsz : es2.size = es1.size := by rw [← Array.length_toList, hp.length_eq, Array.length_toList]
    obtain ⟨_, hS2⟩ := SetOf_store (knd := knd) (S' := S') ho1 hex rfl (hel1.perm hp) (fun k' => (hmem1 k').trans ⟨fun ⟨e, he, q⟩ => ⟨e, hp.mem_iff.mpr he, q⟩, fun ⟨e, he, q⟩ => ⟨e, hp.mem_iff.mp he, q⟩⟩) (by rw [hsz]; exact hb1) hfr
    rw [hsz] at hS2
    exact wpAny_bind (hg _ _ _ (wpAny_bind (wpAny_storeSet_of ho1 rfl (wpAny_pure (h _ (hsb1.trans (Heap.SameBut.update _ a _)) hS2 (store_tb ho1 rfl tp3))) (fits_of_scanBound (by rw [hsz]; exact hb1)))))
  · exact wpAny_pure (h _ hsb1 hS1 (store_tb ho hd tp2))
theorem add_hashed {a : Addr} {S : K → Bool} {n : Nat} {k : K} {x : Value} {Q : Bool → Shared → Prop} (hkey : knd.is k x = true) (hsc : x.scannable = true) (hS : s.heap.SetOf knd a S n) (tb : Tb L s.heap a) (hroom : n + 1 < scanBound)
    (h : ∀ h', Heap.SameBut a s.heap h' → h'.SetOf knd a (fun k' => S k' || decide (k' = k)) (if S k then n else n + 1) → Tb L h' a → Q (!S k) { s with heap := h' }) :
    wpAny (model prog w) A (setAddHashed a x (knd.hash k)) Q E s := by
  obtain ⟨o, es, ep, t, ho, hex, hd, hel, hmem, hb, hf, hn⟩ := hS
  have tp : TP L t := by
    obtain ⟨o', es', ep', t', e1, e2, e3⟩ := tb
    rw [ho] at e1
    cases e1
    rw [hd] at e2
    cases e2
    exact e3
  unfold setAddHashed setAddHashedIn
  refine wpAny_holding (wpAny_bind (wpAny_setState_of ho hd hf ?_))
  dsimp only
  rw [byScan_of hsc hb hel]
  simp only [↓reduceIte]
  unfold setAddByScan
  refine wpAny_bind (wpAny_bind (wpAny_rule (wpAny_bind (wpAny_setScan_of hkey ho hd hf hel ?_))))
  cases hr : List.findIdx? (fun e => knd.is k e.2) es.toList with
  | some j =>
    dsimp only
    obtain ⟨hj, hpj, _⟩ := List.findIdx?_eq_some_iff_getElem.mp hr
    have hSk : S k = true := (hmem k).mpr ⟨es.toList[j], List.getElem_mem hj, hpj⟩
    have this := h s.heap (Heap.SameBut.refl a s.heap) ⟨o, es, ep, t, ho, hex, hd, hel, fun k' => by
      rw [Bool.or_eq_true, decide_eq_true_eq, ← hmem k']
      exact ⟨fun hk => hk.elim id (fun e => e ▸ hSk), .inl⟩, hb, hf, by rw [hSk]; exact hn⟩ tb
    rw [hSk] at this
    have e : s = { s with heap := s.heap } := by cases s; rfl
    rw [e]
    exact wpAny_pure (wpAny_pure this)
  | none =>
    dsimp only
    have hSk : S k = false := by
      cases hk : S k with
      | false => rfl
      | true =>
        obtain ⟨e, he, hp⟩ := (hmem k).mp hk
        have := List.findIdx?_eq_none_iff.mp hr e he
        rw [hp] at this
        cases this
    have hgw : ∀ (b : Bool) {s₁ : Shared} {Q' : Unit → Shared → Prop}, Q' () s₁ → wpAny (model prog w) A (match b with | true => rule "set.scan.the-table-gave-way" | false => pure ()) Q' E s₁ :=
      fun b s₁ Q' hq => by cases b <;> first | exact wpAny_pure hq | exact wpAny_rule hq
    have tp1 := layNew_ok tp es (knd.hash k) x
    have hperm := layNew_perm t es (knd.hash k) x
    have hfits := layNew_fits t es (knd.hash k) x
    generalize layNew t es (knd.hash k) x = W at hperm hfits tp1 ⊢
    obtain ⟨es1, t1, wasDummy, gave⟩ := W
    dsimp only at hperm hfits tp1 ⊢
    rw [Array.toList_push] at hperm
    have hsz1 : es1.size = n + 1 := by rw [← Array.length_toList, hperm.length_eq, List.length_append, Array.length_toList, hn]; rfl
    have hend : ∀ h', Heap.SameBut a s.heap h' → h'.SetOf knd a (fun k' => S k' || decide (k' = k)) es1.size → Tb L h' a → Q true { s with heap := h' } := fun h' hsb hS' tb' => by
      have := h h' hsb
      rw [hSk] at this
      rw [hsz1] at hS'
      exact this hS' tb'
    have hel1 := (hel.push hkey hsc).perm hperm
    have hmem1 := mem_push_iff hkey hmem hperm
    have hb1 : es1.size < scanBound := by rw [hsz1]; exact hroom
    refine wpAny_bind (hgw _ ?_)
    split
    · refine wpAny_bind ?_
      rw [hashByValue_scannable 8 hsc]
      refine wpAny_pure (add_tail (L := L) ?_ ho hex hd hel1 hmem1 hb1 ?_ ?_ ?_)
      · intro b s₁ Q' hq; cases b <;> first | exact wpAny_pure hq | exact wpAny_rule hq
      · split
        · exact hfits
        · exact SetTable.fits_plain_off hfits
      · split
        · exact tp1
        · exact ⟨tp1.1, tp1.2⟩
      · intro h' hsb hS' tb'; dsimp only; exact wpAny_pure (hend h' hsb hS' tb')
    · refine wpAny_bind (wpAny_pure ?_)
      simp only [↓reduceIte]
      refine add_tail (L := L) ?_ ho hex hd hel1 hmem1 hb1 hfits tp1 ?_
      · intro b s₁ Q' hq; cases b <;> first | exact wpAny_pure hq | exact wpAny_rule hq
      · intro h' hsb hS' tb'; dsimp only; exact wpAny_pure (hend h' hsb hS' tb')
end
end PySem.Sts
/-! ### set(xs) of a list of ints, the table known -/
namespace PySem.Sts
open PySem PyProof.Rows
section
variable {prog : Program} {w : World} {A : Around} {R : Result → Shared → Prop} {I : Addr} {fp wr : List Addr} {G : Array GenState → Array GenState → Prop} {n : Nat} {P : Nat → Value → Prop} {St : Nat → Shared → Prop} {L : Bool}
theorem upd_loop (W : WalksS prog w A.in1 I fp wr G n P St) (S : Addr) (hSf : S ∉ fp) (val : Nat → Int) (hval : ∀ i v, P i v → ∃ t, v = .int (val i) t) (hb : n + 1 < scanBound) :
    ∀ (k i : Nat) (s : Shared), n - i = k → i ≤ n → St i s → s.heap.SetOf (intKind prog w) S (fun k' => (firstMet val i).any (· == k')) (firstMet val i).length → Tb L s.heap S →
      (∀ s', Moved (S :: wr) G s s' → s'.heap.SetOf (intKind prog w) S (fun k' => (firstMet val n).any (· == k')) (firstMet val n).length → Tb L s'.heap S → R (.ok (.ret .none)) s') →
      codeAny (model prog w) A (.builtin "set.update.loop" ⟨[.ref S, .ref I], []⟩) R s := by
  have hSw : S ∉ wr := fun h => hSf (W.sub _ h)
  intro k
  induction k with
  | zero =>
    intro i s hk hi hst hS tb hR
    obtain rfl : i = n := by omega
    refine codeAny_builtin PyProof.Rows.F.entry_set_update_loop ?_
    rw [Around.under_plainId PyProof.Rows.F.plain_set_update_loop _]
    show wpAny _ A.in1 (pyNext (.ref I) >>= _) _ _ s
    refine wpAny_bind (W.done s _ _ hst fun s' hm => wpAny_pure (hR s' (hm.mono fun b hb => List.mem_cons_of_mem _ hb) ?_ (tb.keep fun o e => hm.heap S _ hSw e)))
    obtain ⟨o, es, ep, t, ho, rest⟩ := hS
    exact ⟨o, es, ep, t, hm.heap S _ hSw ho, rest⟩
  | succ k ih =>
    intro i s hk hi hst hS tb hR
    have hlt : i < n := by omega
    refine codeAny_builtin PyProof.Rows.F.entry_set_update_loop ?_
    rw [Around.under_plainId PyProof.Rows.F.plain_set_update_loop _]
    show wpAny _ A.in1 (pyNext (.ref I) >>= _) _ _ s
    refine wpAny_bind (W.item i s _ _ hlt hst fun v s' hP hst' hm => ?_)
    obtain ⟨t, rfl⟩ := hval i v hP
    have hS' : s'.heap.SetOf (intKind prog w) S (fun k' => (firstMet val i).any (· == k')) (firstMet val i).length := by
      obtain ⟨o, es, ep, tb, ho, rest⟩ := hS
      exact ⟨o, es, ep, tb, hm.heap S _ hSw ho, rest⟩
    have tb' := tb.keep fun o e => hm.heap S _ hSw e
    show wpAny _ A.in1 (holding [Value.int (val i) t] (setAdd S (.int (val i) t)) >>= _) _ _ s'
    refine wpAny_bind (wpAny_holding ?_)
    unfold setAdd
    refine wpAny_holding (wpAny_bind ((intKind prog w).pyHash (k := val i) (intKind_is _ _ _ _) ?_))
    have hroom : (firstMet val i).length + 1 < scanBound := by have := firstMet_length_le val i; omega
    refine add_hashed (knd := intKind prog w) (s := { s' with toks := s'.toks + 1 }) (L := L) (intKind_is _ _ _ _) rfl hS' tb' hroom fun h' hsb hS2 tb2 => ?_
    have hSi : h'.SetOf (intKind prog w) S (fun k' => (firstMet val (i + 1)).any (· == k')) (firstMet val (i + 1)).length :=
      SetOf_congr hS2 (fun k' => by rw [firstMet_succ, step_any]) (by rw [firstMet_succ, step_length])
    refine wpAny_pure ⟨plainId_quiet PyProof.Rows.F.plain_set_update_loop _, ih (i + 1) _ (by omega) hlt (W.frame _ s' _ _ hst' (Nat.le_succ _) fun b hb o e => ?_) hSi tb2 fun s'' hm'' hS'' tb'' => ?_⟩
    · rw [hsb.2 b (fun h : b = S => hSf (by rw [← h]; exact hb))]; exact e
    · refine hR s'' (Moved.trans W.gtrans ((hm.mono fun b hb => List.mem_cons_of_mem _ hb).then_heap (Nat.le_succ _) fun b o hb e => ?_) hm'') hS'' tb''
      rw [hsb.2 b (fun h : b = S => hb (by rw [h]; exact List.mem_cons_self))]; exact e
end
section
variable {prog : Program} {w : World} {A : Around} {E : Value → Shared → Prop} {s : Shared}
/-- who leads a set's table -/
noncomputable def ledBy (w : World) : Bool := !(w.params.followText "set-order")
/-- a set that is new -/
noncomputable def set0 (w : World) : Obj := { cls := .type "set", dict := none, data := .set #[] 0 (.fresh 0 0 (ledBy w)) }
theorem new_led (a : Value) {Q₁ : Value → Shared → Prop} (h : Q₁ (.ref s.heap.objs.size) { s with heap := s.heap.push (set0 w) }) :
    codeAny (model prog w) A (.call (.builtin "set.__new__") ⟨[.type "set", a], []⟩) (wants Q₁ E) s := by
  refine codeAny_of_tree ?_
  show wpAny _ A.in1 (do checkBuiltinCall "set.__new__" ⟨[.type "set", a], []⟩; again (.builtin "set.__new__" ⟨[.type "set", a], []⟩)) _ _ s
  refine wpAny_bind (wpAny_of_eq (PySem.F.newCall_set_1 a) (wpAny_pure ⟨plainId_quiet PySem.F.plain_set_new _, codeAny_builtin PySem.F.entry_set_new ?_⟩))
  rw [Around.under_plainId PySem.F.plain_set_new _]
  unfold Builtin.«set.__new__» Builtin.Frozenset.newClass
  have hsub := sub_set_self
  obtain ⟨hp, g, d, tk, os⟩ := s
  dsimp only
  wp_walk
  refine wpAny_askSetting (wpAny_pure ?_)
  dsimp only
  simp only [newObj]
  refine wpAny_bind (wpAny_alloc (wpAny_pure ?_))
  exact wpAny_pure h
end
end PySem.Sts
namespace PySem.Sts
open PySem PyProof.Rows
section
variable {prog : Program} {w : World} {A : Around} {E : Value → Shared → Prop} {s : Shared}
set_option maxHeartbeats 3200000 in
theorem call_set {l : Addr} {items : Array Value} {ns : List Int} {Q : Value → Shared → Prop} (hh : A.handled = none) (hl : s.heap.IsList l items) (hi : IntsAre items.toList ns) (hb : items.size + 1 < scanBound)
    (h : ∀ (h' : Heap) (tk : Nat), h'.SetOf (intKind prog w) s.heap.objs.size (fun k' => (firstMet (fun i => ns.getD i 0) items.size).any (· == k')) (firstMet (fun i => ns.getD i 0) items.size).length → Tb (ledBy w) h' s.heap.objs.size →
      (∀ b o, b < s.heap.objs.size → s.heap.get? b = some o → h'.get? b = some o) → Q (.ref s.heap.objs.size) { s with heap := h', toks := tk }) :
    wpAny (model prog w) A (call (.type "set") [.ref l]) Q E s := by
  obtain ⟨c, tl, hmro⟩ := PySem.F.called_set.mro
  have hmade := PySem.F.called_set.made
  have hsub := PySem.F.called_set.sub
  refine wpAny_call (codeAny_of_tree ?_)
  show wpAny _ _ (callAny (.type "set") _) _ _ _
  refine wpAny_pure ⟨Code.quiet_builtin _ (by decide +kernel), codeAny_builtin PySem.F.entry_type_call ?_⟩
  rw [Around.under_plain (weight_type_call_type "set" [.ref l] []) rfl]
  have h1 := PySem.F.called_set.notType
  have h2 := PySem.F.called_set.canCreate
  have hct := PySem.F.typeCall_set_1 (.ref l)
  repeat (any_goals (first | assumption | wp_step))
  refine codeAny_mono (new_led (.ref l) (E := E) (Q₁ := fun obj s₁ => obj = .ref s.heap.objs.size ∧ s₁ = { s with heap := s.heap.push (set0 w) }) ⟨rfl, rfl⟩) fun r s₁ hr => ?_
  cases r with
  | error e => exact hr
  | ok fl =>
    cases fl with
    | ret obj =>
      obtain ⟨rfl, rfl⟩ := hr
      have hS : (s.heap.push (set0 w)).get? s.heap.objs.size = some (set0 w) := Heap.get?_push_size _ rfl
      have hT : Shared.TypeIs { s with heap := s.heap.push (set0 w) } (.ref s.heap.objs.size) "set" := ⟨_, hS, rfl⟩
      have hli := PySem.F.called_set.init.lookup
      have hbi := PySem.F.called_set.init.bind (.ref s.heap.objs.size)
      repeat (any_goals (first | assumption | wp_step))
      refine codeAny_mono (codeAny_call_builtin (R := wants (fun r s₂ => r = .none ∧ ∃ h' tk, s₂ = { s with heap := h', toks := tk } ∧
          h'.SetOf (intKind prog w) s.heap.objs.size (fun k' => (firstMet (fun i => ns.getD i 0) items.size).any (· == k')) (firstMet (fun i => ns.getD i 0) items.size).length ∧ Tb (ledBy w) h' s.heap.objs.size ∧
          (∀ b o, b < s.heap.objs.size → s.heap.get? b = some o → h'.get? b = some o)) E) PySem.F.called_set.init.plain PySem.F.entry_set_init (check_set_init_1 hT ?_)) fun r₂ s₂ hr₂ => ?_
      · obtain ⟨ol, hol, hcl, nl, hdl⟩ := hl
        obtain ⟨ocls, odict, odata, oslots⟩ := ol
        simp only at hcl hdl
        subst hcl
        subst hdl
        unfold set0 at *
        have hol' : (s.heap.push { cls := .type "set", dict := none, data := .set #[] 0 (.fresh 0 0 (ledBy w)) }).get? l = some { cls := .type "list", dict := odict, data := .seq items nl, slots := oslots } := Heap.get?_push_of_some _ hol
        have hsls := PySem.F.sub_list_set
        have hslf := PySem.F.sub_list_frozenset
        have hne : (Value.type "list" == Value.type "dict") = false := by decide
        have hl1 : (s.heap.push { cls := .type "set", dict := none, data := .set #[] 0 (.fresh 0 0 (ledBy w)) }).IsList l items := ⟨_, hol', rfl, nl, rfl⟩
        unfold Builtin.«set.__init__» noKeywords Builtin.Frozenset.updateFrom
        generalize hPI : pyIter = PI
        wp_walk
        subst hPI
        refine wpAny_pyIter_list hl1 (wpAny_bind (wpAny_runValue ?_))
        have hlS : l < s.heap.objs.size := Heap.lt_size hol
        have hh3 : A.in1.in1.in1.handled = none := by simp [hh]
        have hneI : l ≠ (s.heap.push { cls := .type "set", dict := none, data := .set #[] 0 (.fresh 0 0 (ledBy w)) }).objs.size := by
          rw [Heap.size_push]; exact Nat.ne_of_lt (Nat.lt_succ_of_lt hlS)
        have hSf : s.heap.objs.size ∉ [(s.heap.push { cls := .type "set", dict := none, data := .set #[] 0 (.fresh 0 0 (ledBy w)) }).objs.size, l] := by
          rw [Heap.size_push]
          simp only [List.mem_cons, List.mem_singleton, List.not_mem_nil, or_false, not_or]
          exact ⟨Nat.ne_of_lt (Nat.lt_succ_self _), Nat.ne_of_gt hlS⟩
        have hget : ((s.heap.push { cls := .type "set", dict := none, data := .set #[] 0 (.fresh 0 0 (ledBy w)) }).push { cls := .type "list_iterator", data := .fields #[.ref l, .int 0 0] }).get? s.heap.objs.size
            = some { cls := .type "set", dict := none, data := .set #[] 0 (.fresh 0 0 (ledBy w)) } := Heap.get?_push_of_some _ hS
        refine upd_loop (L := ledBy w) ((Walks.list hh3 _ l hneI items).toS) s.heap.objs.size hSf (fun i => ns.getD i 0) (fun i v hv => IntsAre.int_at hi i v (by rw [Array.getElem?_toList]; exact hv)) hb (items.size - 0) 0 _ (by omega) (Nat.zero_le _)
          ⟨⟨_, Heap.get?_push_size _ rfl, rfl, rfl⟩, (hl1.push _)⟩ (SetOf_congr ((setObjOf_fresh (knd := intKind prog w) (ledBy w)).setOf hget (by unfold scanBound; omega)) (fun _ => rfl) rfl) ⟨_, _, _, _, hget, rfl, fresh_ok _⟩ fun s' hm hS' tb' => ?_
        obtain ⟨h', g', d', tk', os'⟩ := s'
        have eg : g' = s.gens := hm.gens
        have ed : d' = s.drawn := hm.drawn
        have eo : os' = s.os := hm.os
        subst eg
        subst ed
        subst eo
        show wpAny _ _ _ _ _ _
        refine wpAny_pure ?_
        show wpAny _ _ (ret Value.none) _ _ _
        refine wpAny_pure ⟨rfl, h', tk', rfl, hS', tb', fun b o hb e => ?_⟩
        have hb2 : b ≠ (s.heap.push { cls := .type "set", dict := none, data := .set #[] 0 (.fresh 0 0 (ledBy w)) }).objs.size := by
          rw [Heap.size_push]; exact Nat.ne_of_lt (Nat.lt_succ_of_lt hb)
        exact hm.heap b o (by simp only [List.mem_cons, List.mem_singleton, List.not_mem_nil, or_false, not_or]; exact ⟨Nat.ne_of_lt hb, hb2⟩) (Heap.get?_push_of_some _ (Heap.get?_push_of_some _ e))
      · cases r₂ with
        | error e => exact hr₂
        | ok fl₂ =>
          cases fl₂ with
          | ret r =>
            obtain ⟨rfl, h', tk, rfl, hS', tb', hk'⟩ := hr₂
            repeat (any_goals (first | assumption | wp_step))
            exact h _ _ hS' tb' hk'
          | _ => exact hr₂.elim
    | _ => exact hr.elim
end
end PySem.Sts
/-! ### a set walked -/
namespace PySem.Sts
open PySem PyProof.Rows
theorem slot_next : Slot "set_iterator" "__next__" "set_iterator.__next__" :=
  .of (owner := "set_iterator") (n := "__next__") (by rw [typeLookup_type, builtinLookup_eq_fast]; kernel_rfl) (by decide +kernel) (by decide +kernel) (by decide +kernel)
    (by first | exact .inl (by decide +kernel) | exact .inr (by decide +kernel)) (by rw [isSubtype_type]; kernel_rfl)
theorem entry_next : entryFor table "set_iterator.__next__" = some Builtin.«set_iterator.__next__» := entryFor_of_tree (by kernel_rfl)
theorem owner_it : Manifest.owners.lookup (String.ofList ['r', 'o', 't', 'a', 'r', 'e', 't', 'i', '_', 't', 'e', 's'].reverse) = some Manifest.sig_set_iterator := by kernel_rfl
theorem args_next (a : Value) : argsOk "set_iterator.__next__" ⟨[a], []⟩ := by
  unfold argsOk; rw [signature?_of (id := "set_iterator.__next__") (n := ['_', '_', 't', 'x', 'e', 'n', '_', '_']) (o := ['r', 'o', 't', 'a', 'r', 'e', 't', 'i', '_', 't', 'e', 's']) (by kernel_rfl) owner_it]; kernel_rfl
theorem entry_iter : entryFor table "set.__iter__" = some Builtin.«frozenset.__iter__» :=
  entryFor_alias (id' := "frozenset.__iter__") (by kernel_rfl) rfl (by decide +kernel) (by kernel_rfl)
theorem perm_erase {α : Type} : ∀ (xs : List α) (i : Nat) (h : i < xs.length), (xs[i] :: xs.eraseIdx i).Perm xs
  | x :: xs, 0, _ => by simp
  | x :: xs, i + 1, h => by
    have := perm_erase xs i (by simpa using h)
    simp only [List.getElem_cons_succ, List.eraseIdx_cons_succ]
    exact (List.Perm.swap _ _ _).trans (this.cons x)
theorem pick_go {α : Type} (next : Nat → Nat) : ∀ (f k : Nat) (left : List α) (out : Array α), left.length = f → (pickOrder.go next f k left out).toList.Perm (out.toList ++ left)
  | 0, k, left, out, h => by
    rw [pickOrder.go]
    have : left = [] := List.length_eq_zero_iff.mp h
    subst this
    simp
  | f + 1, k, left, out, h => by
    rw [pickOrder.go]
    have hi : next k % left.length < left.length := Nat.mod_lt _ (by omega)
    rw [List.getElem?_eq_getElem hi]
    dsimp only
    have ih := pick_go next f (k + 1) (left.eraseIdx (next k % left.length)) (out.push left[next k % left.length]) (by rw [List.length_eraseIdx]; split <;> omega)
    refine ih.trans ?_
    rw [Array.toList_push, List.append_assoc]
    exact (perm_erase left _ hi).append_left _
theorem pick_perm {α : Type} (next : Nat → Nat) (xs : Array α) : (pickOrder next xs).toList.Perm xs.toList := by
  unfold pickOrder
  simpa using pick_go next xs.size 0 xs.toList #[] (by simp)
section
variable {prog : Program} {w : World} {A : Around} {E : Value → Shared → Prop} {s : Shared}
theorem wp_choose {src : Source} {n : Nat} {Q : Nat → Shared → Prop} (hn : n ≠ 0) (h : Q (w.draws src (s.drawn.get src) % n) { s with drawn := s.drawn.bump src }) : wpAny (model prog w) A (choose src n) Q E s := fun _ _ _ => ⟨hn, h⟩
theorem draw_order {α : Type} : ∀ (xs : List α) (s : Shared) (Q : List α → Shared → Prop), (∀ ys d, ys.Perm xs → Q ys { s with drawn := d }) → wpAny (model prog w) A (drawOrder xs.length xs) Q E s := by
  have key : ∀ (n : Nat) (xs : List α) (s : Shared) (Q : List α → Shared → Prop), xs.length = n → (∀ ys d, ys.Perm xs → Q ys { s with drawn := d }) → wpAny (model prog w) A (drawOrder n xs) Q E s := by
    intro n
    induction n with
    | zero =>
      intro xs s Q hl h
      have : xs = [] := List.length_eq_zero_iff.mp hl
      subst this
      rw [drawOrder]
      exact wpAny_pure (h [] s.drawn (List.Perm.refl _))
    | succ n ih =>
      intro xs s Q hl h
      cases xs with
      | nil => simp at hl
      | cons x xs =>
        rw [drawOrder]
        · refine wpAny_bind (wp_choose (by simp) ?_)
          have hi : w.draws .order (s.drawn.get .order) % (x :: xs).length < (x :: xs).length := Nat.mod_lt _ (by simp)
          rw [List.getElem?_eq_getElem hi]
          dsimp only
          refine wpAny_bind (ih _ _ _ (by rw [List.length_eraseIdx, if_pos hi]; omega) fun ys d p => wpAny_pure (h _ d ?_))
          exact (p.cons _).trans (perm_erase _ _ hi)
        · intro e
          cases e
  intro xs s Q h
  exact key _ xs s Q rfl h
/-- an iterator of a set -/
noncomputable def IsIt (h : Heap) (it : Addr) (first : Value) (i : Nat) (a : Addr) (n ep : Nat) : Prop := ∃ o, h.get? it = some o ∧ o.cls = .type "set_iterator" ∧ o.data = .fields #[first, .int i 0, .ref a, .int n 0, .int ep 0]
theorem IsIt.typeIs {it a : Addr} {first : Value} {i n ep : Nat} (x : IsIt s.heap it first i a n ep) : s.TypeIs (.ref it) "set_iterator" := let ⟨o, ho, hc, _⟩ := x; ⟨o, ho, hc⟩
/-- a set's object -/
noncomputable def SetAt (h : Heap) (a : Addr) (es : Array (Int × Value)) (ep : Nat) (t : SetTable) : Prop := ∃ o, h.get? a = some o ∧ o.ExactSet ∧ o.data = .set es ep t
theorem SetAt.keep {h h' : Heap} {a : Addr} {es : Array (Int × Value)} {ep : Nat} {t : SetTable} (x : SetAt h a es ep t) (k : ∀ o, h.get? a = some o → h'.get? a = some o) : SetAt h' a es ep t := let ⟨o, e, r⟩ := x; ⟨o, k _ e, r⟩
theorem next_item {it a : Addr} {es : Array (Int × Value)} {ep : Nat} {t : SetTable} {i slot nx : Nat} {x : Value} {Q : Option Value → Shared → Prop} (hit : IsIt s.heap it (.int slot 0) i a es.size ep) (hS : SetAt s.heap a es ep t) (hf : t.fits es.size = true)
    (hn : ∀ (A : Around) (E : Value → Shared → Prop) (Q' : Option (Value × Nat) → Shared → Prop), Q' (some (x, nx)) s → wpAny (model prog w) A (setNext a slot i ep) Q' E s)
    (hQ : ∀ h', IsIt h' it (.int nx 0) (i + 1) a es.size ep → Heap.SameBut it s.heap h' → Q (some x) { s with heap := h' }) : wpAny (model prog w) A (pyNext (.ref it)) Q E s := by
  obtain ⟨o, ho, hc, hd⟩ := id hit
  obtain ⟨oS, hoS, _, hdS⟩ := id hS
  unfold pyNext
  refine wpAny_bind (wpAny_attempt (wpAny_callSpecial?_slot (name := Str.ofString "__next__") hit.typeIs slot_next (wpAny_call_entry slot_next hit.typeIs entry_next ?_ (args_next _))))
  unfold Builtin.«set_iterator.__next__»
  refine wpAny_bind (wpAny_pure ?_)
  refine wpAny_bind (wpAny_fieldsOf ho hd ?_)
  dsimp only
  refine wpAny_bind (wpAny_setEntries_of hoS hdS hf ?_)
  rw [if_neg (by simp)]
  simp only [Int.toNat_natCast]
  refine wpAny_bind (hn _ _ _ ?_)
  dsimp only
  refine wpAny_bind (wpAny_setField ho hd (by simp) ?_)
  have ho1 := Heap.get?_update_self (Obj.mapFields (·.setIfInBounds 0 (rawInt (nx : Int)))) ho (Obj.isFreed_of_fields (Obj.data_mapFields hd _))
  have hd1 := Obj.data_mapFields hd (·.setIfInBounds 0 (rawInt (nx : Int)))
  refine wpAny_bind (wpAny_setField ho1 hd1 (by simp) (wpAny_pure ⟨_, rfl, wpAny_pure (hQ _ ⟨_, Heap.get?_update_self _ ho1 (Obj.isFreed_of_fields (Obj.data_mapFields hd1 _)), ?_, ?_⟩ ((Heap.SameBut.update ..).trans (Heap.SameBut.update ..)))⟩))
  · exact (Obj.cls_mapFields ..).trans ((Obj.cls_mapFields ..).trans hc)
  · rw [Obj.data_mapFields hd1]
    simp [rawInt]
/-- how an iterator says that it is at its end -/
theorem stop_end {it : Addr} {o : Obj} {vs : Array Value} {Q : Option Value → Shared → Prop} {Q2 : Fin → Shared → Prop} (hh : A.handled = none) (ho : s.heap.get? it = some o) (hd : o.data = .fields vs) (hv : 2 < vs.size)
    (hQ : ∀ h', Heap.ExtBut it s.heap h' → Q none { s with heap := h' }) :
    wpAny (model prog w) A.in1 (do setField (.ref it) 2 .none; raiseNew (← newExc (.type "StopIteration") [])) Q2 (fun e s' => wpAny (model prog w) A (do let b ← isInstance e (.type "StopIteration"); if b = true then pure none else throw e) Q E s') s := by
  refine wpAny_bind (wpAny_setField ho hd hv ?_)
  show wpAny _ _ (newExc (.type "StopIteration") [] >>= _) _ _ _
  refine wpAny_bind ?_
  simp only [newExc, newTuple]
  refine wpAny_bind (wpAny_newObj_type ?_ (by size_fits))
  refine wpAny_bind (m := firstArgMember _ _) (wpAny_of_eq (a := Value.none) (by first | rfl | (simp only [firstArgMember]; rfl)) ?_)
  refine wpAny_newObj_type ?_ (by size_fits)
  simp only [raiseNew]
  refine wpAny_bind (wpAny_handled ?_)
  rw [show A.in1.handled = none from hh]
  refine wpAny_bind (wpAny_pure (wpAny_throw ?_))
  refine wpAny_bind (wpAny_isInstance (T := "StopIteration") (b := true) ⟨_, Heap.get?_push_size _ rfl, rfl⟩ isSubtype_stop ?_)
  exact wpAny_pure (hQ _ (((Heap.SameBut.update ..).extBut.push _).push _))
theorem next_end {it a : Addr} {es : Array (Int × Value)} {ep : Nat} {t : SetTable} {i slot : Nat} {Q : Option Value → Shared → Prop} (hh : A.handled = none) (hit : IsIt s.heap it (.int slot 0) i a es.size ep) (hS : SetAt s.heap a es ep t) (hf : t.fits es.size = true)
    (hn : ∀ (A : Around) (E : Value → Shared → Prop) (Q' : Option (Value × Nat) → Shared → Prop), Q' none s → wpAny (model prog w) A (setNext a slot i ep) Q' E s)
    (hQ : ∀ h', Heap.ExtBut it s.heap h' → Q none { s with heap := h' }) : wpAny (model prog w) A (pyNext (.ref it)) Q E s := by
  obtain ⟨o, ho, hc, hd⟩ := id hit
  obtain ⟨oS, hoS, _, hdS⟩ := id hS
  unfold pyNext
  refine wpAny_bind (wpAny_attempt (wpAny_callSpecial?_slot (name := Str.ofString "__next__") hit.typeIs slot_next (wpAny_call_entry slot_next hit.typeIs entry_next ?_ (args_next _))))
  unfold Builtin.«set_iterator.__next__»
  refine wpAny_bind (wpAny_pure ?_)
  refine wpAny_bind (wpAny_fieldsOf ho hd ?_)
  dsimp only
  refine wpAny_bind (wpAny_setEntries_of hoS hdS hf ?_)
  rw [if_neg (by simp)]
  simp only [Int.toNat_natCast]
  refine wpAny_bind (hn _ _ _ ?_)
  dsimp only
  exact stop_end hh ho hd (by simp) hQ
/-- the places that were drawn -/
noncomputable def Pls (h : Heap) (T : Addr) (ps : List Nat) : Prop := ∃ o n, h.get? T = some o ∧ o.data = .seq (ps.map fun i : Nat => rawInt (i : Int)).toArray n
theorem wpAny_seqItemsQ {a : Addr} {o : Obj} {xs : Array Value} {n : Nat} {Q : Option (Array Value) → Shared → Prop} (ho : s.heap.get? a = some o) (hd : o.data = .seq xs n) (h : Q (some xs) s) : wpAny (model prog w) A (seqItems? (.ref a)) Q E s := by
  unfold seqItems?
  refine wpAny_bind (wpAny_load ho ?_)
  rw [hd]
  exact wpAny_pure h
theorem nextD_item {it a T : Addr} {es : Array (Int × Value)} {ep : Nat} {t : SetTable} {i : Nat} {ps : List Nat} {p : Nat} {x : Int × Value} {Q : Option Value → Shared → Prop} (hit : IsIt s.heap it (.ref T) i a es.size ep) (hT : Pls s.heap T ps) (hS : SetAt s.heap a es ep t) (hf : t.fits es.size = true)
    (hp : ps[i]? = some p) (hx : es[p]? = some x)
    (hQ : ∀ h', IsIt h' it (.ref T) (i + 1) a es.size ep → Heap.SameBut it s.heap h' → Q (some x.2) { s with heap := h' }) : wpAny (model prog w) A (pyNext (.ref it)) Q E s := by
  obtain ⟨o, ho, hc, hd⟩ := id hit
  obtain ⟨oS, hoS, _, hdS⟩ := id hS
  obtain ⟨oT, nT, hoT, hdT⟩ := id hT
  unfold pyNext
  refine wpAny_bind (wpAny_attempt (wpAny_callSpecial?_slot (name := Str.ofString "__next__") hit.typeIs slot_next (wpAny_call_entry slot_next hit.typeIs entry_next ?_ (args_next _))))
  unfold Builtin.«set_iterator.__next__»
  refine wpAny_bind (wpAny_pure ?_)
  refine wpAny_bind (wpAny_fieldsOf ho hd ?_)
  dsimp only
  refine wpAny_bind (wpAny_setEntries_of hoS hdS hf ?_)
  rw [if_neg (by simp)]
  try dsimp only
  simp only [Int.toNat_natCast]
  refine wpAny_bind (wpAny_seqItemsQ hoT hdT ?_)
  dsimp only
  rw [show ((ps.map fun i : Nat => rawInt (i : Int)).toArray)[i]? = some (Value.int (p : Int) 0) by rw [List.getElem?_toArray, List.getElem?_map, hp]; rfl]
  dsimp only
  simp only [Int.toNat_natCast]
  unfold setNextDrawn
  refine wpAny_bind (wpAny_bind (wpAny_setState_of hoS hdS hf ?_))
  dsimp only
  rw [if_neg (by simp), hx]
  refine wpAny_pure (wpAny_bind (wpAny_setField ho hd (by simp) (wpAny_pure ⟨_, rfl, wpAny_pure (hQ _ ⟨_, Heap.get?_update_self _ ho (Obj.isFreed_of_fields (Obj.data_mapFields hd _)), (Obj.cls_mapFields ..).trans hc, ?_⟩ (Heap.SameBut.update ..))⟩)))
  rw [Obj.data_mapFields hd]
  simp [rawInt]
theorem nextD_end {it a T : Addr} {es : Array (Int × Value)} {ep : Nat} {t : SetTable} {i : Nat} {ps : List Nat} {Q : Option Value → Shared → Prop} (hh : A.handled = none) (hit : IsIt s.heap it (.ref T) i a es.size ep) (hT : Pls s.heap T ps) (hS : SetAt s.heap a es ep t) (hf : t.fits es.size = true)
    (hp : ps[i]? = none) (hQ : ∀ h', Heap.ExtBut it s.heap h' → Q none { s with heap := h' }) : wpAny (model prog w) A (pyNext (.ref it)) Q E s := by
  obtain ⟨o, ho, hc, hd⟩ := id hit
  obtain ⟨oS, hoS, _, hdS⟩ := id hS
  obtain ⟨oT, nT, hoT, hdT⟩ := id hT
  unfold pyNext
  refine wpAny_bind (wpAny_attempt (wpAny_callSpecial?_slot (name := Str.ofString "__next__") hit.typeIs slot_next (wpAny_call_entry slot_next hit.typeIs entry_next ?_ (args_next _))))
  unfold Builtin.«set_iterator.__next__»
  refine wpAny_bind (wpAny_pure ?_)
  refine wpAny_bind (wpAny_fieldsOf ho hd ?_)
  dsimp only
  refine wpAny_bind (wpAny_setEntries_of hoS hdS hf ?_)
  rw [if_neg (by simp)]
  try dsimp only
  simp only [Int.toNat_natCast]
  refine wpAny_bind (wpAny_seqItemsQ hoT hdT ?_)
  dsimp only
  rw [show ((ps.map fun i : Nat => rawInt (i : Int)).toArray)[i]? = none by rw [List.getElem?_toArray, List.getElem?_map, hp]; rfl]
  dsimp only
  refine wpAny_bind (wpAny_setField ho hd (by simp) ?_)
  have ho1 := Heap.get?_update_self (Obj.mapFields (·.setIfInBounds 0 (rawInt 0))) ho (Obj.isFreed_of_fields (Obj.data_mapFields hd _))
  have hd1 := Obj.data_mapFields hd (·.setIfInBounds 0 (rawInt 0))
  exact stop_end (s := { s with heap := s.heap.update it (Obj.mapFields (·.setIfInBounds 0 (rawInt 0))) }) hh ho1 hd1 (by simp) fun h' e => hQ h' fun b o hb eb => e b o hb ((Heap.SameBut.update ..).extBut b o hb eb)
end
section
variable {prog : Program} {w : World} {A : Around} {E : Value → Shared → Prop} {s : Shared}
/-- the order of the text -/
theorem next_text {a : Addr} {es : Array (Int × Value)} {ep : Nat} {t : SetTable} {slot i : Nat} {Q : Option (Value × Nat) → Shared → Prop} (hb : w.params.followText "set-order" = true) (hS : SetAt s.heap a es ep t) (hf : t.fits es.size = true)
    (h : Q (((pickOrder (w.params.setOrder a ep) es)[i]?).map fun e => (e.2, slot)) s) : wpAny (model prog w) A (setNext a slot i ep) Q E s := by
  obtain ⟨oS, hoS, _, hdS⟩ := hS
  unfold setNext setsByText
  refine wpAny_bind (wpAny_setState_of hoS hdS hf ?_)
  dsimp only
  refine wpAny_bind (wpAny_bind (wpAny_askSetting (wpAny_pure ?_)))
  rw [if_pos (show ((Setting.mk (model prog w).prog (model prog w).w.params).params.followText "set-order") = true from hb)]
  rw [if_neg (by simp)]
  unfold setWalk setsByText
  refine wpAny_bind (wpAny_bind (wpAny_setState_of hoS hdS hf ?_))
  dsimp only
  refine wpAny_bind (wpAny_bind (wpAny_askSetting (wpAny_pure ?_)))
  rw [if_pos (show ((Setting.mk (model prog w).prog (model prog w).w.params).params.followText "set-order") = true from hb)]
  refine wpAny_bind (wpAny_askSetting (wpAny_pure (wpAny_pure h)))
/-- the order of the table -/
theorem next_led {a : Addr} {es : Array (Int × Value)} {ep : Nat} {t : SetTable} {slot i : Nat} {Q : Option (Value × Nat) → Shared → Prop} (hb : w.params.followText "set-order" = false) (hl : t.led = true) (hd : t.plain = true ∨ es.size ≤ 1) (hS : SetAt s.heap a es ep t) (hf : t.fits es.size = true)
    (hi : SetTable.below t.place slot = i) (h : Q (match es[i]?, t.place[i]? with | some (_, x), some j => some (x, j + 1) | _, _ => none) s) : wpAny (model prog w) A (setNext a slot i ep) Q E s := by
  obtain ⟨oS, hoS, _, hdS⟩ := hS
  unfold setNext setsByText
  refine wpAny_bind (wpAny_setState_of hoS hdS hf ?_)
  dsimp only
  refine wpAny_bind (wpAny_bind (wpAny_askSetting (wpAny_pure ?_)))
  rw [if_neg (show ¬ ((Setting.mk (model prog w).prog (model prog w).w.params).params.followText "set-order") = true from by rw [show ((Setting.mk (model prog w).prog (model prog w).w.params).params.followText "set-order") = false from hb]; decide)]
  refine wpAny_ite_split (fun c => ?_) (fun _ => ?_)
  · have c : (!t.plain && decide (es.size > 1)) = true := c
    rcases hd with hd | hd
    · rw [hd] at c
      cases c
    · rw [decide_eq_false (by omega), Bool.and_false] at c
      cases c
  · refine wpAny_bind ?_
    show wpAny _ _ (if (!t.led && !es.isEmpty) = true then unsupported "set:maker-not-led" else pure ()) _ _ _
    rw [hl]
    rw [if_neg (by simp)]
    refine wpAny_pure (wpAny_pure ?_)
    rw [hi]
    exact h
end
end PySem.Sts
namespace PySem.Sts
open PySem PyProof.Rows
theorem slot_self : Slot "set_iterator" "__iter__" "set_iterator.__iter__" :=
  .of (owner := "set_iterator") (n := "__iter__") (by rw [typeLookup_type, builtinLookup_eq_fast]; kernel_rfl) (by decide +kernel) (by decide +kernel) (by decide +kernel)
    (by first | exact .inl (by decide +kernel) | exact .inr (by decide +kernel)) (by rw [isSubtype_type]; kernel_rfl)
theorem entry_self : entryFor table "set_iterator.__iter__" = some Builtin.«dict_keyiterator.__iter__» :=
  entryFor_alias (id' := "dict_keyiterator.__iter__") (by kernel_rfl) rfl (by decide +kernel) (by kernel_rfl)
theorem args_self (a : Value) : argsOk "set_iterator.__iter__" ⟨[a], []⟩ := by
  unfold argsOk; rw [signature?_of (id := "set_iterator.__iter__") (n := ['_', '_', 'r', 'e', 't', 'i', '_', '_']) (o := ['r', 'o', 't', 'a', 'r', 'e', 't', 'i', '_', 't', 'e', 's']) (by kernel_rfl) owner_it]; kernel_rfl
section
variable {prog : Program} {w : World} {A : Around} {E : Value → Shared → Prop} {s : Shared}
theorem iter_self {it a : Addr} {first : Value} {i n ep : Nat} {Q : Value → Shared → Prop} (hit : IsIt s.heap it first i a n ep) (h : Q (.ref it) s) : wpAny (model prog w) A (pyIter (.ref it)) Q E s := by
  refine wpAny_pyIter_slot hit.typeIs slot_self (wpAny_call_entry slot_self hit.typeIs entry_self ?_ (args_self _))
  show wpAny _ _ (ret (.ref it)) _ _ s
  exact wpAny_pure ⟨_, rfl, "set_iterator", _, hit.typeIs, slot_next.lookup, h⟩
theorem IsIt.keep {h h' : Heap} {it a : Addr} {first : Value} {i n ep : Nat} (x : IsIt h it first i a n ep) (k : ∀ o, h.get? it = some o → h'.get? it = some o) : IsIt h' it first i a n ep := let ⟨o, e, r⟩ := x; ⟨o, k _ e, r⟩
theorem Pls.keep {h h' : Heap} {T : Addr} {ps : List Nat} (x : Pls h T ps) (k : ∀ o, h.get? T = some o → h'.get? T = some o) : Pls h' T ps := let ⟨o, n, e, r⟩ := x; ⟨o, n, k _ e, r⟩
/-- the slot that the iterator looks at, by the table -/
noncomputable def slotAt (t : SetTable) (i : Nat) : Nat := if i = 0 then 0 else t.place.getD (i - 1) 0 + 1
theorem below_slot {t : SetTable} (r : Rise t.place) {i : Nat} (h : i ≤ t.place.size) : SetTable.below t.place (slotAt t i) = i := by
  unfold slotAt
  by_cases c : i = 0
  · rw [if_pos c, below_zero _ r, c]
  · rw [if_neg c]
    have e : t.place[i - 1]? = some t.place[i - 1] := Array.getElem?_eq_getElem (by omega)
    rw [Array.getD_eq_getD_getElem?, e]
    have := below_next r e
    rw [show (some t.place[i - 1]).getD 0 = t.place[i - 1] from rfl, this]
    omega
theorem fits_size {t : SetTable} {n : Nat} (h : t.fits n = true) : t.place.size = n := by
  unfold SetTable.fits at h
  simp at h
  exact h.1
theorem walk_led {I a : Addr} {es : Array (Int × Value)} {ep : Nat} {t : SetTable} (hh : A.handled = none) (hb : w.params.followText "set-order" = false) (hl : t.led = true) (hd : t.plain = true ∨ es.size ≤ 1) (hf : t.fits es.size = true) (r : Rise t.place) (hne : a ≠ I) :
    Walks prog w A I [I, a] [I] es.size (fun i v => ∃ e, es.toList[i]? = some e ∧ v = e.2) (fun i h => i ≤ es.size ∧ IsIt h I (.int (slotAt t i) 0) i a es.size ep ∧ SetAt h a es ep t) where
  sub := fun b hb => by simp at hb; simp [hb]
  frame := fun _ _ _ st hk => ⟨st.1, st.2.1.keep fun o e => hk I (by simp) o e, st.2.2.keep fun o e => hk a (by simp) o e⟩
  item := fun i s Q E hi st hQ => by
    have hp := fits_size hf
    have e1 : es[i]? = some es[i] := Array.getElem?_eq_getElem hi
    have e2 : t.place[i]? = some (t.place[i]'(by omega)) := Array.getElem?_eq_getElem (by omega)
    refine next_item (t := t) (x := es[i].2) (nx := slotAt t (i + 1)) st.2.1 st.2.2 hf (fun A E Q' hq => next_led hb hl hd st.2.2 hf (below_slot r (by omega)) ?_) fun h' hit' hs' => ?_
    · rw [e1, e2]
      have : slotAt t (i + 1) = t.place[i] + 1 := by
        unfold slotAt
        rw [if_neg (by omega), Nat.add_sub_cancel, Array.getD_eq_getD_getElem?, e2]
        rfl
      rw [this] at hq
      exact hq
    · exact hQ _ h' s.toks ⟨_, by rw [Array.getElem?_toList]; exact e1, rfl⟩ ⟨hi, hit', st.2.2.keep fun o e => hs'.extBut a o hne e⟩ fun b o hb e => hs'.extBut b o (fun h => hb (by simp [h])) e
  done := fun s Q E st hQ => by
    refine next_end (t := t) hh st.2.1 st.2.2 hf (fun A E Q' hq => next_led hb hl hd st.2.2 hf (below_slot r (by rw [fits_size hf]; exact Nat.le_refl _)) ?_) fun h' he' => hQ h' s.toks fun b o hb e => he' b o (fun h => hb (by simp [h])) e
    rw [Array.getElem?_eq_none (Nat.le_refl _)]
    exact hq
  self := fun _ _ _ _ st hQ => iter_self st.2.1 hQ
theorem walk_text {I a : Addr} {es : Array (Int × Value)} {ep : Nat} {t : SetTable} (hh : A.handled = none) (hb : w.params.followText "set-order" = true) (hf : t.fits es.size = true) (hne : a ≠ I) :
    Walks prog w A I [I, a] [I] es.size (fun i v => ∃ e, (pickOrder (w.params.setOrder a ep) es).toList[i]? = some e ∧ v = e.2) (fun i h => IsIt h I (.int (0 : Nat) 0) i a es.size ep ∧ SetAt h a es ep t) where
  sub := fun b hb => by simp at hb; simp [hb]
  frame := fun _ _ _ st hk => ⟨st.1.keep fun o e => hk I (by simp) o e, st.2.keep fun o e => hk a (by simp) o e⟩
  item := fun i s Q E hi st hQ => by
    have hz : (pickOrder (w.params.setOrder a ep) es).size = es.size := by
      have := (pick_perm (w.params.setOrder a ep) es).length_eq
      simpa using this
    have e1 : (pickOrder (w.params.setOrder a ep) es)[i]? = some ((pickOrder (w.params.setOrder a ep) es)[i]'(by omega)) := Array.getElem?_eq_getElem (by omega)
    refine next_item (t := t) (nx := 0) st.1 st.2 hf (fun A E Q' hq => next_text hb st.2 hf (by rw [e1]; exact hq)) fun h' hit' hs' => ?_
    exact hQ _ h' s.toks ⟨_, by rw [Array.getElem?_toList]; exact e1, rfl⟩ ⟨hit', st.2.keep fun o e => hs'.extBut a o hne e⟩ fun b o hb e => hs'.extBut b o (fun h => hb (by simp [h])) e
  done := fun s Q E st hQ => by
    have hz : (pickOrder (w.params.setOrder a ep) es).size = es.size := by
      have := (pick_perm (w.params.setOrder a ep) es).length_eq
      simpa using this
    exact next_end (t := t) hh st.1 st.2 hf (fun A E Q' hq => next_text hb st.2 hf (by rw [Array.getElem?_eq_none (by omega)]; exact hq)) fun h' he' => hQ h' s.toks fun b o hb e => he' b o (fun h => hb (by simp [h])) e
  self := fun _ _ _ _ st hQ => iter_self st.1 hQ
theorem walk_drawn {I a T : Addr} {es : Array (Int × Value)} {ep : Nat} {t : SetTable} {ps : List Nat} (hh : A.handled = none) (hp : ps.Perm (List.range es.size)) (hf : t.fits es.size = true) (hne : a ≠ I) (hnT : T ≠ I) :
    Walks prog w A I [I, a, T] [I] es.size (fun i v => ∃ e, (ps.filterMap (es[·]?))[i]? = some e ∧ v = e.2) (fun i h => IsIt h I (.ref T) i a es.size ep ∧ SetAt h a es ep t ∧ Pls h T ps) where
  sub := fun b hb => by simp at hb; simp [hb]
  frame := fun _ _ _ st hk => ⟨st.1.keep fun o e => hk I (by simp) o e, st.2.1.keep fun o e => hk a (by simp) o e, st.2.2.keep fun o e => hk T (by simp) o e⟩
  item := fun i s Q E hi st hQ => by
    have hl : ps.length = es.size := by simpa using hp.length_eq
    have e1 : ps[i]? = some (ps[i]'(by omega)) := List.getElem?_eq_getElem (by omega)
    have all : ∀ p ∈ ps, p < es.size := fun p h => by simpa using hp.mem_iff.mp h
    have e2 : es[ps[i]'(by omega)]? = some (es[ps[i]'(by omega)]'(all _ (List.getElem_mem _))) := Array.getElem?_eq_getElem (all _ (List.getElem_mem _))
    have e3 : (ps.filterMap (es[·]?))[i]? = es[ps[i]'(by omega)]? := by
      have : ∀ (ps : List Nat), (∀ p ∈ ps, p < es.size) → ∀ i (h : i < ps.length), (ps.filterMap (es[·]?))[i]? = es[ps[i]]? := by
        intro ps
        induction ps with
        | nil => intro _ i h; simp at h
        | cons p ps ih =>
          intro al i h
          have ep : es[p]? = some (es[p]'(al p List.mem_cons_self)) := Array.getElem?_eq_getElem (al p List.mem_cons_self)
          rw [List.filterMap_cons, ep]
          cases i with
          | zero => simp
          | succ i => simpa using ih (fun q hq => al q (List.mem_cons_of_mem _ hq)) i (by simpa using h)
      exact this ps all i (by omega)
    refine nextD_item (t := t) (ps := ps) st.1 st.2.2 st.2.1 hf e1 e2 fun h' hit' hs' => ?_
    exact hQ _ h' s.toks ⟨_, e3.trans e2, rfl⟩ ⟨hit', st.2.1.keep fun o e => hs'.extBut a o hne e, st.2.2.keep fun o e => hs'.extBut T o hnT e⟩ fun b o hb e => hs'.extBut b o (fun h => hb (by simp [h])) e
  done := fun s Q E st hQ => by
    have hl : ps.length = es.size := by simpa using hp.length_eq
    exact nextD_end (t := t) (ps := ps) hh st.1 st.2.2 st.2.1 hf (List.getElem?_eq_none (by omega)) fun h' he' => hQ h' s.toks fun b o hb e => he' b o (fun h => hb (by simp [h])) e
  self := fun _ _ _ _ st hQ => iter_self st.1 hQ
theorem range_pick {α : Type} (es : Array α) : ((List.range es.size).filterMap (es[·]?)) = es.toList := by
  refine List.ext_getElem? fun i => ?_
  have : ∀ (n : Nat), n ≤ es.size → ((List.range n).filterMap (es[·]?)) = es.toList.take n := by
    intro n
    induction n with
    | zero => intro _; simp
    | succ n ih =>
      intro h
      rw [List.range_succ, List.filterMap_append, ih (by omega), List.take_add_one]
      have e : es[n]? = some es[n] := Array.getElem?_eq_getElem (by omega)
      rw [Array.getElem?_toList, e]
      simp [e]
  rw [this _ (Nat.le_refl _), List.take_of_length_le (by simp)]
/-- iter() of a set -/
theorem set_iter {a : Addr} {es : Array (Int × Value)} {ep : Nat} {t : SetTable} {Q : Value → Shared → Prop} (hS : SetAt s.heap a es ep t) (hf : t.fits es.size = true) (tp : TP (ledBy w) t) (hz : es.size ≤ sizeLine)
    (h : ∀ (I : Addr) (h' : Heap) (d : Drawn) (fp : List Addr) (es' : List (Int × Value)) (St : Nat → Heap → Prop), es'.Perm es.toList → (∀ A' : Around, A'.handled = none → Walks prog w A' I fp [I] es.size (fun i v => ∃ e, es'[i]? = some e ∧ v = e.2) St) → St 0 h' →
      (∀ b o, s.heap.get? b = some o → h'.get? b = some o) → s.heap.objs.size ≤ I → (∀ b ∈ fp, b = a ∨ s.heap.objs.size ≤ b) → Q (.ref I) { s with heap := h', drawn := d }) : wpAny (model prog w) A (pyIter (.ref a)) Q E s := by
  obtain ⟨o, ho, hex, hd⟩ := id hS
  have hT : s.TypeIs (.ref a) "set" := ⟨o, ho, hex.1⟩
  have hlt : a < s.heap.objs.size := Heap.lt_size ho
  refine wpAny_pyIter_slot hT F.slot_set_iter (wpAny_call_entry F.slot_set_iter hT entry_iter ?_ (F.args_set_iter_1 _))
  unfold Builtin.«frozenset.__iter__» Builtin.Frozenset.slot0 Builtin.Frozenset.addrOf Builtin.Frozenset.sizeOf
  refine wpAny_bind (wpAny_bind (wpAny_pure (wpAny_pure ?_)))
  refine wpAny_bind (wpAny_bind (wpAny_setEntries_of ho hd hf (wpAny_pure ?_)))
  unfold setDrawn setsByText
  refine wpAny_bind (wpAny_bind (wpAny_setState_of ho hd hf ?_))
  dsimp only
  refine wpAny_bind (wpAny_bind (wpAny_askSetting (wpAny_pure (wpAny_pure ?_))))
  have big : ∀ {h : Heap} {x : Obj} {b : Addr} {y : Obj}, h.get? b = some y → (h.push x).get? b = some y := fun e => Heap.get?_push_of_some _ e
  refine wpAny_ite_split (fun c => ?_) (fun c => ?_)
  · refine wpAny_bind ?_
    have dr := draw_order (prog := prog) (w := w) (A := A.in1) (E := E) (List.range es.size) s
    rw [List.length_range] at dr
    refine dr _ fun ps d pp => ?_
    have lp : ps.length = es.size := by simpa using pp.length_eq
    refine wpAny_bind (wpAny_newObj_type ?_ (by
      show ((ps.map fun i : Nat => rawInt (i : Int)).toArray).size ≤ _
      simp only [List.size_toArray, List.length_map]
      omega))
    refine wpAny_bind (wpAny_setEpoch_of (s := { s with heap := s.heap.push _, drawn := d }) (big ho) hd hf ?_)
    refine wpAny_bind (wpAny_newObj_type ?_ (by size_fits))
    have hT2 : ∀ x : Obj, Shared.TypeIs { s with heap := (s.heap.push x).push { cls := .type "set_iterator", data := .fields [Value.ref s.heap.objs.size, rawInt 0, Value.ref a, rawInt (es.size : Int), rawInt (ep : Int)].toArray }, drawn := d } (.ref (s.heap.push x).objs.size) "set_iterator" := fun x => ⟨_, Heap.get?_push_size _ rfl, rfl⟩
    refine wpAny_pure ⟨_, rfl, "set_iterator", _, hT2 _, slot_next.lookup, ?_⟩
    refine h _ _ d [(s.heap.push { cls := .type "tuple", dict := none, data := .seq (ps.map fun i : Nat => rawInt (i : Int)).toArray }).objs.size, a, s.heap.objs.size] (ps.filterMap (es[·]?)) (fun i h => IsIt h (s.heap.push { cls := .type "tuple", dict := none, data := .seq (ps.map fun i : Nat => rawInt (i : Int)).toArray }).objs.size (.ref s.heap.objs.size) i a es.size ep ∧ SetAt h a es ep t ∧ Pls h s.heap.objs.size ps) ?_ (fun A' hA => walk_drawn hA pp hf ?_ ?_) ⟨⟨_, Heap.get?_push_size _ rfl, rfl, ?_⟩, hS.keep fun o e => big (big e), ⟨_, _, big (Heap.get?_push_size _ rfl), rfl⟩⟩ (fun b o e => big (big e)) ?_ ?_
    · rw [← range_pick es]
      exact pp.filterMap _
    · rw [Heap.size_push]
      exact Nat.ne_of_lt (Nat.lt_succ_of_lt hlt)
    · rw [Heap.size_push]
      exact Nat.ne_of_lt (Nat.lt_succ_self _)
    · rfl
    · rw [Heap.size_push]
      exact Nat.le_succ _
    · intro b hb
      simp only [List.mem_cons, List.not_mem_nil, or_false] at hb
      rcases hb with rfl | rfl | rfl
      · right
        rw [Heap.size_push]
        exact Nat.le_succ _
      · exact .inl rfl
      · exact .inr (Nat.le_refl _)
  · refine wpAny_bind (wpAny_pure (wpAny_bind (wpAny_setEpoch_of ho hd hf ?_)))
    refine wpAny_bind (wpAny_newObj_type ?_ (by size_fits))
    have hT2 : Shared.TypeIs { s with heap := s.heap.push { cls := .type "set_iterator", data := .fields [rawInt 0, rawInt 0, Value.ref a, rawInt (es.size : Int), rawInt (ep : Int)].toArray } } (.ref s.heap.objs.size) "set_iterator" := ⟨_, Heap.get?_push_size _ rfl, rfl⟩
    refine wpAny_pure ⟨_, rfl, "set_iterator", _, hT2, slot_next.lookup, ?_⟩
    have hfp : ∀ b ∈ [s.heap.objs.size, a], b = a ∨ s.heap.objs.size ≤ b := fun b hb => by
      simp only [List.mem_cons, List.not_mem_nil, or_false] at hb
      rcases hb with rfl | rfl
      · exact .inr (Nat.le_refl _)
      · exact .inl rfl
    by_cases hb : w.params.followText "set-order" = true
    · exact h _ _ s.drawn [s.heap.objs.size, a] (pickOrder (w.params.setOrder a ep) es).toList _ (pick_perm _ es) (fun A' hA => walk_text hA hb hf (Nat.ne_of_lt hlt)) ⟨⟨_, Heap.get?_push_size _ rfl, rfl, rfl⟩, hS.keep fun o e => big e⟩ (fun b o e => big e) (Nat.le_refl _) hfp
    · have hb' : w.params.followText "set-order" = false := by simpa using hb
      have hl : t.led = true := by
        rw [tp.2]
        unfold ledBy
        rw [hb']
        rfl
      have hdr : t.plain = true ∨ es.size ≤ 1 := by
        have c : ¬ (!(w.params.followText "set-order") && (!t.plain && decide (es.size > 1))) = true := c
        rw [hb'] at c
        cases hp : t.plain with
        | true => exact .inl rfl
        | false =>
          rw [hp] at c
          right
          simp at c
          exact c
      exact h _ _ s.drawn [s.heap.objs.size, a] es.toList _ (List.Perm.refl _) (fun A' hA => walk_led (t := t) hA hb' hl hdr hf tp.1 (Nat.ne_of_lt hlt)) ⟨Nat.zero_le _, ⟨_, Heap.get?_push_size _ rfl, rfl, rfl⟩, hS.keep fun o e => big e⟩ (fun b o e => big e) (Nat.le_refl _) hfp
end
end PySem.Sts
namespace PySem.Sts
open PySem PyProof.Rows
section
variable {prog : Program} {w : World} {A : Around} {E : Value → Shared → Prop} {s : Shared}
theorem hint_set {r : Addr} {Q : Bool → Shared → Prop} (hT : s.TypeIs (.ref r) "set") (h : Q false s) : wpAny (model prog w) A (Builtin.List.listLengthHint (.ref r)) Q E s := by
  unfold Builtin.List.listLengthHint
  refine wpAny_bind (wpAny_specialOf hT PySem.F.slot_set_len.lookup ?_)
  generalize hid : ("set.__len__" : String) = id0
  wp_delta
  rw [show splitId id0 = some ("set", "__len__") from by subst hid; decide +kernel]
  subst hid
  refine wpAny_bind (wpAny_isInstance (T := "set") (b := true) hT (by rw [isSubtype_type]; kernel_rfl) ?_)
  refine wpAny_ite_split (fun hab => absurd hab (by decide)) (fun _ => ?_)
  refine wpAny_ite_split (fun _ => ?_) (fun hab => absurd (by decide +kernel) hab)
  refine wpAny_bind (wpAny_typeOf hT ?_)
  exact wpAny_pure h
theorem SetAt.typeIs {a : Addr} {es : Array (Int × Value)} {ep : Nat} {t : SetTable} (x : SetAt s.heap a es ep t) : s.TypeIs (.ref a) "set" := let ⟨o, e, c, _⟩ := x; ⟨o, e, c.1⟩
theorem set_extend {R : Result → Shared → Prop} {a : Addr} {es : Array (Int × Value)} {ep : Nat} {t : SetTable} (hh : A.handled = none) (hS : SetAt s.heap a es ep t) (hf : t.fits es.size = true) (tp : TP (ledBy w) t) (hz : es.size ≤ sizeLine)
    (S : Addr) (hSa : S ≠ a) (res : Value) (c₀ : Nat) (hL : s.heap.get? S = some { cls := .type "list", data := .seq #[] c₀ })
    (hR : ∀ (h' : Heap) (tk : Nat) (d : Drawn) (acc' : Array Value) (c' : Nat) (es' : List (Int × Value)), es'.Perm es.toList → (∀ b o, b ≠ S → s.heap.get? b = some o → h'.get? b = some o) → h'.get? S = some { cls := .type "list", dict := none, data := .seq acc' c', slots := #[] } → ItemsOf (fun i v => ∃ e : Int × Value, es'[i]? = some e ∧ v = e.2) acc' es.size → R (.ok (.ret res)) { s with heap := h', toks := tk, drawn := d }) :
    wpAny (model prog w) A.in1 (Builtin.List.listExtendWith (.ref S) (.ref a) res)
      (fun fin s' => match fin with | .done f => R (.ok f) s' | .again c' => c'.quiet = true ∧ codeAny (model prog w) A c' R s') (fun e s' => R (.error e) s') s := by
  unfold Builtin.List.listExtendWith
  refine wpAny_bind (wpAny_typeOf (T := "set") hS.typeIs ?_)
  have h1 : Builtin.List.listSameRef (.ref S) (.ref a) = false := by simp [Builtin.List.listSameRef, hSa]
  have h2 : (Value.type "set" == Value.type "list") = false := by decide
  have h3 : (Value.type "set" == Value.type "tuple") = false := by decide
  simp only [h1, h2, h3, Bool.or_false, Bool.false_eq_true, if_false]
  refine wpAny_bind (set_iter hS hf tp hz fun I h1 d fp es' St pe W st hk hI hfp => ?_)
  have hSz : S < s.heap.objs.size := Heap.lt_size hL
  have hSI : S ≠ I := Nat.ne_of_lt (Nat.lt_of_lt_of_le hSz hI)
  have hSf : S ∉ fp := fun m => by
    rcases hfp S m with e | e
    · exact hSa e
    · exact absurd hSz (Nat.not_lt.mpr e)
  have key : ∀ (h : Heap) (c₁ tk : Nat), St 0 h → (∀ b o, b ≠ S → s.heap.get? b = some o → h.get? b = some o) →
      h.get? S = some { cls := .type "list", data := .seq #[] c₁ } → codeAny (model prog w) A (.builtin "list.extend.loop" ⟨[.ref S, .ref I, res], []⟩) R { s with heap := h, toks := tk, drawn := d } := by
    intro h c₁ tk hst hk1 hS₁
    refine codeAny_extend_loopS (W A.in1 hh).toS hz S hSf res es.size 0 _ #[] c₁ rfl (Nat.zero_le _) hst hS₁ (ItemsOf.nil _) fun s' acc' c' hm hS' hacc => ?_
    obtain ⟨h', g', d', tk', os'⟩ := s'
    have eg : g' = s.gens := hm.gens
    have ed : d' = d := hm.drawn
    have eo : os' = s.os := hm.os
    subst eg
    subst ed
    subst eo
    refine hR h' tk' d' acc' c' es' pe (fun b o hb e => hm.heap b o (fun hmem => ?_) (hk1 b o hb e)) hS' hacc
    rcases List.mem_cons.mp hmem with e' | hmem
    · exact hb e'
    · rw [List.mem_singleton.mp hmem] at e
      exact absurd (Heap.lt_size e) (Nat.not_lt.mpr hI)
  have hS₁ := hk _ _ hL
  have hS1 : SetAt h1 a es ep t := hS.keep fun o e => hk a o e
  refine wpAny_bind (wpAny_holding (hint_set (s := { s with heap := h1, drawn := d }) hS1.typeIs ?_))
  refine wpAny_ite_split (fun _ => ?_) (fun _ => wpAny_pure ⟨plainId_quiet PySem.F.plain_extend_loop _, key _ c₀ _ st (fun b o _ e => hk b o e) hS₁⟩)
  refine wpAny_bind (wpAny_rule ?_)
  refine wpAny_bind ?_
  show wpAny _ _ (updateSeq S (·.push .none) >>= fun _ => updateSeq S (·.pop)) _ _ _
  refine wpAny_bind (wpAny_updateSeq hS₁ rfl ?_)
  have hS₂ := Heap.get?_update_self (Obj.mapSeq (·.push Value.none)) hS₁ rfl
  refine wpAny_updateSeq (hz := by seq_fits) hS₂ rfl ?_
  have hS₃ := Heap.get?_update_self (Obj.mapSeq (·.pop)) hS₂ rfl
  refine wpAny_pure ⟨plainId_quiet PySem.F.plain_extend_loop _, key _ _ _ ?_ (fun b o hb e => ?_) hS₃⟩
  · refine (W A.in1 hh).frame 0 _ _ st fun b hb o e => ?_
    have hbS : b ≠ S := fun h => hSf (h ▸ hb)
    exact (Heap.get?_update_other _ _ (Ne.symm hbS)).trans ((Heap.get?_update_other _ _ (Ne.symm hbS)).trans e)
  · exact (Heap.get?_update_other _ _ (Ne.symm hb)).trans ((Heap.get?_update_other _ _ (Ne.symm hb)).trans (hk b o e))
theorem items_map {es' : List (Int × Value)} {acc : Array Value} {n : Nat} (h : ItemsOf (fun i v => ∃ e : Int × Value, es'[i]? = some e ∧ v = e.2) acc n) (hl : es'.length = n) : acc.toList = es'.map (·.2) := by
  refine List.ext_getElem? fun i => ?_
  rw [List.getElem?_map]
  by_cases c : i < n
  · have hz : i < acc.size := by rw [h.1]; exact c
    have e1 : acc.toList[i]? = some (acc[i]'hz) := by rw [Array.getElem?_toList]; exact Array.getElem?_eq_getElem hz
    obtain ⟨e, ee, ev⟩ := h.2 i _ (Array.getElem?_eq_getElem hz)
    rw [e1, ee, ev]
    rfl
  · rw [List.getElem?_eq_none (by rw [Array.length_toList, h.1]; omega), List.getElem?_eq_none (by omega)]
    rfl
theorem set_collect {R : List Value → Shared → Prop} {a : Addr} {es : Array (Int × Value)} {ep : Nat} {t : SetTable} (hh : A.handled = none) (hS : SetAt s.heap a es ep t) (hf : t.fits es.size = true) (tp : TP (ledBy w) t) (hz : es.size ≤ sizeLine)
    (h : ∀ (h' : Heap) (tk : Nat) (d : Drawn) (es' : List (Int × Value)), es'.Perm es.toList → (∀ b o, s.heap.get? b = some o → h'.get? b = some o) → R (es'.map (·.2)) { s with heap := h', toks := tk, drawn := d }) :
    wpAny (model prog w) A (collect (.ref a)) R E s := by
  have hlt : a < s.heap.objs.size := let ⟨_, e, _⟩ := hS; Heap.lt_size e
  unfold collect
  refine wpAny_bind (wpAny_runValue (codeAny_builtin PySem.F.entry_proto_collect ?_))
  rw [Around.under_plainId PySem.F.plain_proto_collect _]
  show wpAny _ A.in1 (newList [] >>= fun l => again (.builtin "list.__iadd__" ⟨[l, .ref a], []⟩)) _ _ s
  refine wpAny_bind (wpAny_newObj_type ?_)
  refine wpAny_pure ⟨plainId_quiet PySem.F.plain_list_iadd _, codeAny_builtin PySem.F.entry_list_iadd ?_⟩
  rw [Around.under_plainId PySem.F.plain_list_iadd _]
  have hS₁ : (s.heap.push { cls := .type "list", data := .seq ([] : List Value).toArray }).get? s.heap.objs.size = some { cls := .type "list", data := .seq #[] } := Heap.get?_push_size _ rfl
  show wpAny _ A.in1 (Builtin.List.listExtendWith (.ref s.heap.objs.size) (.ref a) (.ref s.heap.objs.size)) _ _ _
  have key := set_extend (A := A) (w := w) (prog := prog) (s := { s with heap := s.heap.push { cls := .type "list", data := .seq ([] : List Value).toArray } }) (es := es) (ep := ep) (t := t)
    (R := fun (q : Result) (s' : Shared) => ∃ (h' : Heap) (tk : Nat) (d : Drawn) (acc' : Array Value) (c' : Nat) (es' : List (Int × Value)), q = .ok (.ret (.ref s.heap.objs.size)) ∧ s' = { s with heap := h', toks := tk, drawn := d } ∧
      (∀ b o, s.heap.get? b = some o → h'.get? b = some o) ∧ h'.get? s.heap.objs.size = some { cls := .type "list", dict := none, data := .seq acc' c', slots := #[] } ∧ es'.Perm es.toList ∧ acc'.toList = es'.map (·.2))
    hh (hS.keep fun o e => Heap.get?_push_of_some _ e) hf tp hz s.heap.objs.size (Nat.ne_of_gt hlt) (.ref s.heap.objs.size) 0 hS₁
    (fun h' tk d acc' c' es' pe hk hS' hacc => ⟨h', tk, d, acc', c', es', rfl, rfl, fun b o e => hk b o (Nat.ne_of_lt (Heap.lt_size e)) (Heap.get?_push_of_some _ e), hS', pe, items_map hacc (by simpa using pe.length_eq)⟩)
  refine wpAny_mono key (fun fin s' x => ?_) fun e s' x => ?_
  · cases fin with
    | done f =>
      obtain ⟨h', tk, d, acc', c', es', e, rfl, hk, hS', pe, hacc⟩ := x
      cases e
      show wpAny _ A (load s.heap.objs.size >>= _) _ _ _
      refine wpAny_bind (wpAny_load hS' ?_)
      have := h h' tk d es' pe hk
      rw [← hacc] at this
      exact wpAny_pure this
    | again c₁ =>
      refine ⟨x.1, codeAny_mono x.2 fun q s₂ y => ?_⟩
      obtain ⟨h', tk, d, acc', c', es', rfl, rfl, hk, hS', pe, hacc⟩ := y
      show wpAny _ A (load s.heap.objs.size >>= _) _ _ _
      refine wpAny_bind (wpAny_load hS' ?_)
      have := h h' tk d es' pe hk
      rw [← hacc] at this
      exact wpAny_pure this
  · obtain ⟨_, _, _, _, _, _, e', _⟩ := x
    cases e'
end
end PySem.Sts
/-! ### rules: set(xs) of ints, its len, sorted of it -/
namespace L2
open PySem PySem.Spec PyProof.Rows PySem.W PySem.Sts
/-- each number once, where it first stands -/
noncomputable def ded (ns : List Int) : List Int := firstMet (fun i => ns.getD i 0) ns.length
theorem ded_eq (ns : List Int) : ded ns = ns.foldl step_dedup [] := by
  unfold ded firstMet
  congr 1
  refine List.ext_getElem? fun i => ?_
  rw [List.getElem?_map]
  by_cases c : i < ns.length
  · rw [List.getElem?_range c, List.getElem?_eq_getElem c]
    simp [List.getD_eq_getElem?_getD, List.getElem?_eq_getElem c]
  · rw [List.getElem?_eq_none (by simp; omega), List.getElem?_eq_none (by omega)]
    rfl
theorem ded_mem {ns : List Int} {x : Int} : x ∈ ded ns ↔ x ∈ ns := by
  have key : ∀ (ns a : List Int), x ∈ ns.foldl step_dedup a ↔ x ∈ a ∨ x ∈ ns := by
    intro ns
    induction ns with
    | nil => simp
    | cons n ns ih =>
      intro a
      rw [List.foldl_cons, ih]
      unfold step_dedup
      split
      · rename_i h
        obtain ⟨y, hy, e⟩ := List.any_eq_true.mp h
        have e : y = n := by simpa using e
        subst e
        constructor
        · rintro (q | q)
          · exact .inl q
          · exact .inr (List.mem_cons_of_mem _ q)
        · rintro (q | q)
          · exact .inl q
          · rcases List.mem_cons.mp q with rfl | q
            · exact .inl hy
            · exact .inr q
      · simp only [List.mem_append, List.mem_singleton, List.mem_cons, List.not_mem_nil, or_false]
        constructor
        · rintro ((q | q) | q)
          · exact .inl q
          · exact .inr (.inl q)
          · exact .inr (.inr q)
        · rintro (q | q | q)
          · exact .inl (.inl q)
          · exact .inl (.inr q)
          · exact .inr q
  rw [ded_eq, key]
  simp
theorem ded_nodup (ns : List Int) : (ded ns).Nodup := by
  have key : ∀ (ns a : List Int), a.Nodup → (ns.foldl step_dedup a).Nodup := by
    intro ns
    induction ns with
    | nil => intro a h; exact h
    | cons n ns ih =>
      intro a h
      rw [List.foldl_cons]
      refine ih _ ?_
      unfold step_dedup
      split
      · exact h
      · rename_i q
        refine List.nodup_append.mpr ⟨h, by simp, ?_⟩
        intro x hx y hy e
        rw [List.mem_singleton.mp hy] at e
        subst e
        exact q (List.any_eq_true.mpr ⟨x, hx, by simp⟩)
  rw [ded_eq]
  exact key ns [] List.nodup_nil
theorem ded_len_le (ns : List Int) : (ded ns).length ≤ ns.length := firstMet_length_le _ _
theorem nodup_sub : ∀ {l m : List Int}, l.Nodup → (∀ x ∈ l, x ∈ m) → ∃ r, m.Perm (l ++ r)
  | [], m, _, _ => ⟨m, List.Perm.refl _⟩
  | x :: l, m, nd, h => by
    obtain ⟨hx, nd'⟩ := List.nodup_cons.mp nd
    have mx := h x List.mem_cons_self
    obtain ⟨r, p⟩ := nodup_sub (m := m.erase x) nd' fun y hy => (List.mem_erase_of_ne (fun e => by subst e; exact hx hy)).mpr (h y (List.mem_cons_of_mem _ hy))
    exact ⟨r, (List.perm_cons_erase mx).trans (p.cons x)⟩
theorem int_shape {P : Program} {w : World} {k : Int} {v : Value} (h : (intKind P w).is k v = true) : ∃ t, v = .int k t := by
  cases v with
  | int j t =>
    have : j = k := by simpa [intKind, Value.isInt] using h
    subst this
    exact ⟨t, rfl⟩
  | _ => simp [intKind, Value.isInt] at h
/-- a set of ints, made of ns -/
noncomputable def stO (P : Program) (w : World) (a : Addr) (ns : List Int) : HO := .ext fun h => h.SetOf (intKind P w) a (fun k => (ded ns).any (· == k)) (ded ns).length ∧ Tb (ledBy w) h a
section
variable {X : Cx} {P : Program} {w : World} {K : PySem.W.Frag}
theorem Inv.drew {X : Cx} {pins : List (Addr × Obj)} {σ : St} {H : Hp} {s : Shared} (I : Inv X pins σ H s) (d : Drawn) : Inv X pins σ H { s with drawn := d } := ⟨I.ok, I.os, I.bare, I.base, I.loc, I.cell, I.free, I.freeC, I.pin, I.hok, I.len⟩
theorem stO_ok {H : Hp} {h : Heap} {a : Addr} {ns : List Int} (hS : h.SetOf (intKind P w) a (fun k => (ded ns).any (· == k)) (ded ns).length) (tb : Tb (ledBy w) h a) : ObjOk P w H h a (stO P w a ns) := by
  refine ⟨⟨hS, tb⟩, ?_, fun h1 h2 ⟨q, tb1⟩ k => ⟨?_, tb1.keep k⟩⟩
  · obtain ⟨o, _, _, _, e, _⟩ := hS
    exact ⟨o, e⟩
  · obtain ⟨o, es, ep, t, e, r⟩ := q
    exact ⟨o, es, ep, t, k _ e, r⟩
theorem call_set_l (hc : X.calm = true) : CallR X (.type "set") (fun xs H Q => ∃ p ns, xs = [.ref p] ∧ SqL X.K H p (List.map V.int ns) ∧ ns.length ≤ 4000 ∧ ∀ l, H l = none → Q (.ref l) (upd H l (stO X.prog X.w l ns))) := by
  intro pins s σ H xs us Q I r h
  obtain ⟨p, ns, rfl, hq, hn, q⟩ := h
  obtain ⟨u, rfl, rx⟩ := vals1 r
  cases rx
  obtain ⟨its, rv, pl, hz⟩ := I.list hq
  have hl := rv.length
  rw [List.length_map] at hl
  have fr := I.hok.fresh (a := s.heap.objs.size) (Nat.le_refl _)
  refine call_set (I.ok.hd hc) pl.isList (intsAre_of (by simpa using rv)) (by simp only [List.size_toArray]; unfold scanBound; omega) fun h' tk hS tb hk => ?_
  have e : (its.toArray).size = ns.length := by simp [hl]
  rw [e] at hS
  exact ⟨.ref s.heap.objs.size, _, I.laid (t' := tk) (fun b o eb => hk b o (Heap.lt_size eb) eb) (Nat.le_refl _) (o := stO X.prog X.w s.heap.objs.size ns) (stO_ok hS tb), rfl, q _ fr⟩
theorem st_of {pins : List (Addr × Obj)} {σ : St} {H : Hp} {s : Shared} {a : Addr} {ns : List Int} (I : Inv X pins σ H s) (e : H a = some (stO X.prog X.w a ns)) : s.heap.SetOf (intKind X.prog X.w) a (fun k => (ded ns).any (· == k)) (ded ns).length ∧ Tb (ledBy X.w) s.heap a :=
  (show ObjOk X.prog X.w H s.heap a (stO X.prog X.w a ns) from I.hok a _ e).1
theorem call_len_st : CallR X (.builtin "len") (fun xs H Q => ∃ a ns, xs = [.ref a] ∧ H a = some (stO X.prog X.w a ns) ∧ Q (.int (ded ns).length) H) := by
  intro pins s σ H xs us Q I r h
  obtain ⟨a, ns, rfl, ha, q⟩ := h
  obtain ⟨u, rfl, rx⟩ := vals1 r
  cases rx
  obtain ⟨⟨o, es, ep, t, ho, hex, hd, _, _, hb, hf, hn⟩, _⟩ := st_of I ha
  refine call_len_set ho hex hd hf (by unfold scanBound at hb; omega) ?_
  rw [hn]
  exact ⟨.int (ded ns).length, H, I.tok _, ⟨_, rfl⟩, q⟩
/-- the numbers of a set, in some order -/
theorem st_ints {h : Heap} {a : Addr} {ns : List Int} {o : Obj} {es : Array (Int × Value)} {ep : Nat} {t : SetTable} {es' : List (Int × Value)} (hS : h.SetOf (intKind P w) a (fun k => (ded ns).any (· == k)) (ded ns).length) (ho : h.get? a = some o) (hd : o.data = .set es ep t) (pe : es'.Perm es.toList) :
    ∃ ks : List Int, IntsAre (es'.map (·.2)) ks ∧ ks.Perm (ded ns) := by
  obtain ⟨o2, es2, ep2, t2, ho2, _, hd2, hel, hmem, _, _, hn⟩ := hS
  rw [ho] at ho2
  cases ho2
  rw [hd] at hd2
  cases hd2
  have all : ∀ e ∈ es', ∃ k t, e.2 = Value.int k t := fun e he => by
    obtain ⟨k, hk⟩ := ElemsOf.keys hel e (pe.mem_iff.mp he)
    obtain ⟨t, ht⟩ := int_shape hk
    exact ⟨k, t, ht⟩
  have mk : ∀ (l : List (Int × Value)), (∀ e ∈ l, ∃ k t, e.2 = Value.int k t) → ∃ ks : List Int, IntsAre (l.map (·.2)) ks ∧ ks.length = l.length ∧ ∀ k, k ∈ ks ↔ ∃ e ∈ l, ∃ t, e.2 = Value.int k t := by
    intro l
    induction l with
    | nil => intro _; exact ⟨[], .nil, rfl, by simp⟩
    | cons e l ih =>
      intro al
      obtain ⟨ks, h1, h2, h3⟩ := ih fun x hx => al x (List.mem_cons_of_mem _ hx)
      obtain ⟨k, t, et⟩ := al e List.mem_cons_self
      refine ⟨k :: ks, by rw [List.map_cons, et]; exact .cons k t h1, by simp [h2], fun j => ?_⟩
      rw [List.mem_cons, h3]
      constructor
      · rintro (rfl | ⟨x, hx, q⟩)
        · exact ⟨e, List.mem_cons_self, t, et⟩
        · exact ⟨x, List.mem_cons_of_mem _ hx, q⟩
      · rintro ⟨x, hx, t', q⟩
        rcases List.mem_cons.mp hx with rfl | hx
        · rw [et] at q
          cases q
          exact .inl rfl
        · exact .inr ⟨x, hx, t', q⟩
  obtain ⟨ks, h1, h2, h3⟩ := mk es' all
  have m : ∀ k, k ∈ ks ↔ k ∈ ded ns := fun k => by
    rw [h3]
    have : ((ded ns).any (· == k)) = true ↔ k ∈ ded ns := by simp
    rw [← this, hmem k]
    constructor
    · rintro ⟨e, he, t, et⟩
      exact ⟨e, pe.mem_iff.mp he, by rw [et]; exact intKind_is _ _ _ _⟩
    · rintro ⟨e, he, hk⟩
      obtain ⟨t, ht⟩ := int_shape hk
      exact ⟨e, pe.mem_iff.mpr he, t, ht⟩
  have ln : ks.length = (ded ns).length := by rw [h2, pe.length_eq, ← hn]; simp
  obtain ⟨r, p⟩ := nodup_sub (ded_nodup ns) fun x hx => (m x).mpr hx
  have : r = [] := by
    have := p.length_eq
    rw [List.length_append] at this
    exact List.length_eq_zero_iff.mp (by omega)
  subst this
  rw [List.append_nil] at p
  exact ⟨ks, h1, p⟩
theorem call_sorted_st (hc : X.calm = true) : CallR X (.builtin "sorted") (fun xs H Q => ∃ a ns, xs = [.ref a] ∧ H a = some (stO X.prog X.w a ns) ∧ ∀ l, H l = none → Q (.ref l) (upd H l (.lst (List.map V.int (Nm.srt (ded ns)))))) := by
  intro pins s σ H xs us Q I r h
  obtain ⟨a, ns, rfl, ha, q⟩ := h
  obtain ⟨u, rfl, rx⟩ := vals1 r
  cases rx
  obtain ⟨hS, tb⟩ := st_of I ha
  obtain ⟨o, es, ep, t, ho, hex, hd, _, _, hb, hf, hn⟩ := id hS
  have tp : PySem.Sts.TP (ledBy X.w) t := by
    obtain ⟨o', es', ep', t', e1, e2, e3⟩ := tb
    rw [ho] at e1
    cases e1
    rw [hd] at e2
    cases e2
    exact e3
  have hz : es.size ≤ sizeLine := fits_of_scanBound hb
  refine Calls.call_function_entry kind_sorted plain_sorted entry_sorted (args_sorted1 _) ?_
  unfold Builtin.«sorted»
  refine wpAny_bind (m := checkCount "sorted" 1 1 _) (wpAny_pure ?_)
  refine wpAny_bind (set_collect (A := X.A.in1) (I.ok.hd hc) ⟨o, ho, hex, hd⟩ hf tp hz fun h' tk d es' pe hk => ?_)
  obtain ⟨ks, hI, pk⟩ := st_ints hS ho hd pe
  have hl : (es'.map (·.2)).length = es.size := by rw [List.length_map, pe.length_eq]; simp
  have nd : ks.Nodup := pk.nodup_iff.mpr (ded_nodup ns)
  refine wpAny_bind (wpAny_newList ?_ (by rw [hl]; exact hz))
  have hoL : (h'.push (seqObj "list" (es'.map (·.2)).toArray 0)).get? h'.objs.size = some (seqObj "list" (es'.map (·.2)).toArray 0) := Heap.get?_push_size _ rfl
  have I1 : Inv X pins σ H { s with heap := h', toks := tk, drawn := d } := (I.kept (t' := tk) hk).drew d
  refine wpAny_bind (wpAny_holding (wpAny_call_entry slot_list_sort ⟨_, hoL, rfl⟩ entry_list_sort (PySem.Tim.sort_all hoL hI nd (by rw [hl]; exact hz) fun out ns' a1 a2 a3 => ⟨_, rfl, ?_⟩) (args_list_sort _)))
  obtain rfl := Nm.srt_one (a2.trans pk) a3
  obtain ⟨e, he⟩ := sortedHeap_at (out := out) hoL
  have fr := I1.hok.fresh (a := h'.objs.size) (Nat.le_refl _)
  refine wpAny_pure ⟨_, rfl, .ref h'.objs.size, _, I1.laid (t' := tk) (fun b o eb => ?_) (Nat.le_refl _) (o := .lst (List.map V.int (Nm.srt (ded ns)))) ⟨?_, out.toList, e, vals_ints_of a1, ?_⟩, rfl, q _ fr⟩
  · rw [sortedHeap_old (Nat.ne_of_lt (Heap.lt_size eb)) (by rw [Heap.size_push]; exact Nat.lt_succ_of_lt (Heap.lt_size eb))]
    exact Heap.get?_push_of_some _ eb
  · rw [List.length_map, Nm.srt_length, ← hn]
    exact hz
  · exact he
theorem call_setK (hc : X.calm = true := by rfl) (hK : X.K = K := by rfl) (hP : X.prog = P := by rfl) (hw : X.w = w := by rfl) : CallR X (.type "set") (fun xs H Q => ∃ p ns, xs = [.ref p] ∧ SqL K H p (List.map V.int ns) ∧ ns.length ≤ 4000 ∧ ∀ l, H l = none → Q (.ref l) (upd H l (stO P w l ns))) := by subst hK hP hw; exact call_set_l hc
theorem call_len_stK (hP : X.prog = P := by rfl) (hw : X.w = w := by rfl) : CallR X (.builtin "len") (fun xs H Q => ∃ a ns, xs = [.ref a] ∧ H a = some (stO P w a ns) ∧ Q (.int (ded ns).length) H) := by subst hP hw; exact call_len_st
theorem call_sorted_stK (hc : X.calm = true := by rfl) (hP : X.prog = P := by rfl) (hw : X.w = w := by rfl) : CallR X (.builtin "sorted") (fun xs H Q => ∃ a ns, xs = [.ref a] ∧ H a = some (stO P w a ns) ∧ ∀ l, H l = none → Q (.ref l) (upd H l (.lst (List.map V.int (Nm.srt (ded ns)))))) := by subst hP hw; exact call_sorted_st hc
end
end L2
/-! ### rules: a dict of numbers, its keys tuples within tuples -/
namespace L2
open PySem PySem.Spec PyProof.Rows
mutual
noncomputable def toP : Dat → PyData
  | .non => .none
  | .bl b => .bool b
  | .int i => .int i
  | .str x => .str x
  | .tup l => .tuple (toPL l)
  | .lst l => .list (toPL l)
noncomputable def toPL : List Dat → List PyData
  | [] => []
  | d :: ds => toP d :: toPL ds
end
section
variable {P : Program} {w : World} {H : Hp} {h : Heap}
mutual
theorem reads_of (ok : HOk P w H h) : ∀ (d : Dat) (v : V) (u : Value), Rep H d v → RelV v u → ∃ as, Reads h u (toP d) as
  | .non, v, u, r, q => by
    rw [Rep] at r
    subst r
    cases (show u = Value.none from q)
    exact ⟨_, .none⟩
  | .bl b, v, u, r, q => by
    rw [Rep] at r
    subst r
    cases (show u = Value.bool b from q)
    exact ⟨_, .bool b⟩
  | .int i, v, u, r, q => by
    rw [Rep] at r
    subst r
    obtain ⟨t, rfl⟩ := (show ∃ t, u = Value.int i t from q)
    exact ⟨_, .int i t⟩
  | .str x, v, u, r, q => by
    rw [Rep] at r
    subst r
    obtain ⟨t, rfl⟩ := (show ∃ t, u = Value.str x t from q)
    exact ⟨_, .str x t⟩
  | .tup l, v, u, r, q => by
    rw [Rep] at r
    obtain ⟨p, vs, rfl, hp, rl⟩ := r
    cases (show u = Value.ref p from q)
    obtain ⟨_, its, rv, o, h1, h2, n, h3⟩ := (show ObjOk P w H h p (.tup vs) from ok p _ hp)
    obtain ⟨as, ra⟩ := readsL_of ok l vs its rl rv
    exact ⟨as, .tuple h1 h2 h3 (by simpa using ra)⟩
  | .lst l, v, u, r, q => by
    rw [Rep] at r
    obtain ⟨p, vs, rfl, hp, rl⟩ := r
    cases (show u = Value.ref p from q)
    obtain ⟨_, its, n, rv, h1⟩ := (show ObjOk P w H h p (.lst vs) from ok p _ hp)
    obtain ⟨as, ra⟩ := readsL_of ok l vs its rl rv
    exact ⟨p :: as, .list h1 rfl rfl (by simpa using ra)⟩
theorem readsL_of (ok : HOk P w H h) : ∀ (ds : List Dat) (vs : List V) (us : List Value), RepL H ds vs → Vals vs us → ∃ as, ReadsAll h us (toPL ds) as
  | [], vs, us, r, q => by
    rw [RepL] at r
    subst r
    cases q
    exact ⟨_, .nil⟩
  | d :: ds, vs, us, r, q => by
    rw [RepL] at r
    obtain ⟨v, rest, rfl, r1, r2⟩ := r
    cases q with
    | cons q1 q2 =>
      obtain ⟨a1, h1⟩ := reads_of ok d v _ r1 q1
      obtain ⟨a2, h2⟩ := readsL_of ok ds rest _ r2 q2
      exact ⟨_, .cons h1 h2⟩
end
end
/-- a key stands at b -/
noncomputable def KeyN (H : Hp) (d : Dat) (b : Addr) : Prop := hsh (toP d) = true ∧ (toP d).depth ≤ 8 ∧ Rep H d (.ref b)
theorem KeyN.mono {H H' : Hp} {d : Dat} {b : Addr} (s : Same H H') (k : KeyN H d b) : KeyN H' d b := ⟨k.1, k.2.1, k.2.2.mono s⟩
theorem KeyN.is {P : Program} {w : World} {H : Hp} {h : Heap} {d : Dat} {b : Addr} (ok : HOk P w H h) (k : KeyN H d b) : (nestKind P w).is h (toP d) b := ⟨k.1, k.2.1, reads_of ok d _ _ k.2.2 rfl⟩
/-- a dict's rows: the key, where it stands, the number -/
abbrev Rows := List (Dat × Addr × Int)
noncomputable def AllN (H : Hp) (ks : Rows) : Prop := ∀ p ∈ ks, KeyN H p.1 p.2.1
theorem AllN.mono {H H' : Hp} {ks : Rows} (s : Same H H') (k : AllN H ks) : AllN H' ks := fun p hp => (k p hp).mono s
/-- what stands at a key -/
noncomputable def lookN (ks : Rows) (k : PyData) : Option Int := (ks.find? fun p => decide (toP p.1 = k)).map (·.2.2)
abbrev RwN : Rows → List (PyData × Addr × Value) → Prop := Paired fun p q => toP p.1 = q.1 ∧ p.2.1 = q.2.1 ∧ ∃ t, q.2.2 = Value.int p.2.2 t
noncomputable def dnO (P : Program) (w : World) (a : Addr) (ks : Rows) : HO := .ext fun h => ∃ o es ep xs, h.get? a = some o ∧ o.ExactDict ∧ o.data = .dict es ep ∧ es.toList = xs.map (entryOfKey (nestKind P w)) ∧ (xs.map (·.1)).Nodup ∧ RwN ks xs ∧ ks.length ≤ sizeLine ∧ (a == sysModules) = false
section
variable {P : Program} {w : World} {H : Hp} {h : Heap} {a : Addr}
theorem dnO_ok {ks : Rows} {xs : List (PyData × Addr × Value)} {o es ep} (h1 : h.get? a = some o) (h2 : o.ExactDict) (h3 : o.data = .dict es ep) (h4 : es.toList = xs.map (entryOfKey (nestKind P w))) (h5 : (xs.map (·.1)).Nodup) (h6 : RwN ks xs) (h7 : ks.length ≤ sizeLine) (h8 : (a == sysModules) = false) : ObjOk P w H h a (dnO P w a ks) :=
  ⟨⟨o, es, ep, xs, h1, h2, h3, h4, h5, h6, h7, h8⟩, ⟨o, h1⟩, fun _ _ ⟨o, es, ep, xs, g1, g⟩ k => ⟨o, es, ep, xs, k _ g1, g⟩⟩
theorem dn_of {ks : Rows} (ok : HOk P w H h) (e : H a = some (dnO P w a ks)) (al : AllN H ks) : ks.length ≤ sizeLine ∧ (a == sysModules) = false ∧ ∃ xs, RwN ks xs ∧ h.DictOfH (nestKind P w) a xs := by
  obtain ⟨⟨o, es, ep, xs, g1, g2, g3, g4, g5, g6, g7, g8⟩, _⟩ := (show ObjOk P w H h a (dnO P w a ks) from ok a _ e)
  refine ⟨g7, g8, xs, g6, o, es, ep, g1, g2, g3, g4, fun x hx => ?_, g5⟩
  have all : ∀ {l : Rows} {m : List (PyData × Addr × Value)}, RwN l m → AllN H l → ∀ x ∈ m, (nestKind P w).is h x.1 x.2.1 := by
    intro l m q
    induction q with
    | nil => intro _ x hx; exact nomatch hx
    | @cons p q ps qs hq t ih =>
      intro al x hx
      rcases List.mem_cons.mp hx with e | hx
      · subst e
        rw [← hq.1, ← hq.2.1]
        exact (al p List.mem_cons_self).is ok
      · exact ih (fun p hp => al p (List.mem_cons_of_mem _ hp)) x hx
  exact all g6 al x hx
theorem RwN.val {ks : Rows} {xs : List (PyData × Addr × Value)} (r : RwN ks xs) (k : PyData) : (lookN ks k = none ∧ atKey xs k = none) ∨ ∃ i t b, lookN ks k = some i ∧ atKey xs k = some (b, Value.int i t) := by
  induction r with
  | nil => exact .inl ⟨rfl, rfl⟩
  | @cons p q ps qs h t ih =>
    obtain ⟨h1, h2, tk, h3⟩ := h
    by_cases e : toP p.1 = k
    · have e' : q.1 = k := h1.symm.trans e
      refine .inr ⟨p.2.2, tk, q.2.1, ?_, ?_⟩
      · unfold lookN
        rw [List.find?_cons, decide_eq_true e]
        rfl
      · unfold atKey
        rw [List.find?_cons, decide_eq_true e', ← h3]
        rfl
    · have e' : ¬ q.1 = k := fun z => e (h1.trans z)
      have a1 : lookN (p :: ps) k = lookN ps k := by
        unfold lookN
        rw [List.find?_cons, decide_eq_false e]
      have a2 : atKey (q :: qs) k = atKey qs k := by
        unfold atKey
        rw [List.find?_cons, decide_eq_false e']
      rw [a1, a2]
      exact ih
end
/-- {}, to be a dict of numbers by tuples within tuples -/
noncomputable def tDNewN (P : Program) (w : World) : TE := fun _ H Q => ∀ p, H p = none → Q (.ref p) (upd H p (dnO P w p []))
noncomputable def NGet (P : Program) (w : World) (H : Hp) (x y : V) (o : Option Int) : Prop := ∃ a b d ks, x = .ref a ∧ y = .ref b ∧ H a = some (dnO P w a ks) ∧ AllN H ks ∧ KeyN H d b ∧ o = lookN ks (toP d)
noncomputable def tNGet (P : Program) (w : World) (td ty : TE) : TE := fun σ H Q => td σ H fun x H1 => ty σ H1 fun y H2 => ∃ i, NGet P w H2 x y (some i) ∧ Q (.int i) H2
noncomputable def tNNotIn (P : Program) (w : World) (ty td : TE) : TE := fun σ H Q => ty σ H fun y H1 => td σ H1 fun x H2 => ∃ o, NGet P w H2 x y o ∧ Q (.bl (!o.isSome)) H2
noncomputable def sNPut (P : Program) (w : World) (td ty tv : TE) : TS := fun D σ H => tv σ H fun v H1 => td σ H1 fun x H2 => ty σ H2 fun y H3 => ∃ a b d ks i, x = .ref a ∧ y = .ref b ∧ v = .int i ∧ H3 a = some (dnO P w a ks) ∧ AllN H3 ks ∧ KeyN H3 d b ∧ lookN ks (toP d) = none ∧ ks.length < sizeLine ∧ D.nx σ (upd H3 a (dnO P w a (ks ++ [(d, b, i)])))
section
variable {X : Cx} {P : Program} {w : World} {o i e value : Expr} {pos pos' tpos : Pos} {td ty tv : TE}
theorem pe_dnewN (hP : X.prog = P := by rfl) (hw : X.w = w := by rfl) : PE X (.Dict [] [] pos) (tDNewN P w) := fun pins s σ H Q I h => by
  subst hP hw
  exact wpAny_Dict_empty ⟨.ref s.heap.objs.size, _, I.laid (a := s.heap.objs.size) (o := dnO X.prog X.w s.heap.objs.size []) (t' := s.toks) (fun _ _ q => Heap.get?_push_of_some _ q) (Nat.le_refl _) (dnO_ok (xs := []) (Heap.get?_push_size _ rfl) ⟨rfl, rfl, rfl⟩ rfl rfl List.nodup_nil .nil (Nat.zero_le _) (beq_eq_false_iff_ne.mpr (Ne.symm (Nat.ne_of_lt I.big)))), rfl, h _ (I.hok.fresh (Nat.le_refl _))⟩
theorem nroom {A : Around} (hu : A.units + 64 < cLine) : (nestKind P w).room A.in1 := (by show A.units + 1 + 8 < cLine; omega)
theorem pe_nget (hu : X.A.units + 64 < cLine) (ho : PE X o td) (hi : PE X i ty) (hs : NoSl i) (hP : X.prog = P := by rfl) (hw : X.w = w := by rfl) : PE X (.Subscript o i pos) (tNGet P w td ty) := by
  subst hP hw
  intro pins s σ H Q I h
  refine subD_of PySem.F.slot_dict_getitem.lookup hs (thn (ho pins s σ H _ I h) fun u s1 ⟨x, H1, I1, rx, q1⟩ => thn (hi pins s1 σ H1 _ I1 q1) fun iv s2 ⟨y, H2, I2, ry, j, ⟨a, b, d, ks, ex, ey, ea, al, kn, lo⟩, q2⟩ => ?_)
  subst ex ey
  obtain rfl : u = Value.ref a := rx
  obtain rfl : iv = Value.ref b := ry
  obtain ⟨z, hd, xs, rel, dd⟩ := dn_of I2.hok ea al
  refine ⟨dd.typeIs, ?_⟩
  rcases rel.val (toP d) with ⟨l1, _⟩ | ⟨j', t, b', l1, l2⟩
  · rw [l1] at lo
    cases lo
  · rw [l1] at lo
    cases lo
    exact wpAny_getItem_heap (nroom hu) (kn.is I2.hok) dd l2 ⟨.int j, H2, I2.tok _, ⟨t, rfl⟩, q2⟩
theorem pc_nnotin (hu : X.A.units + 64 < cLine) (hi : PE X i ty) (ho : PE X o td) (hP : X.prog = P := by rfl) (hw : X.w = w := by rfl) : PC X .NotIn i o (tNNotIn P w ty td) := by
  subst hP hw
  intro pins s σ H Q I h
  refine thn (hi pins s σ H _ I h) fun iv s1 ⟨y, H1, I1, ry, q1⟩ => thn (ho pins s1 σ H1 _ I1 q1) fun u s2 ⟨x, H2, I2, rx, ov, ⟨a, b, d, ks, ex, ey, ea, al, kn, lo⟩, q2⟩ => ?_
  subst ex ey
  obtain rfl : u = Value.ref a := rx
  obtain rfl : iv = Value.ref b := ry
  obtain ⟨z, hd, xs, rel, dd⟩ := dn_of I2.hok ea al
  refine wpAny_notIn_heap (nroom hu) (kn.is I2.hok) hd dd ?_
  have : (atKey xs (toP d)).isSome = ov.isSome := by
    rcases rel.val (toP d) with ⟨l1, l2⟩ | ⟨j', t, b', l1, l2⟩
    · rw [lo, l1, l2]
      rfl
    · rw [lo, l1, l2]
      rfl
  rw [this]
  exact ⟨.bl (!ov.isSome), H2, I2.tok _, rfl, q2⟩
theorem ps_nput (hu : X.A.units + 64 < cLine) (ho : PE X o td) (hi : PE X i ty) (hv : PE X value tv) (hs : swapsWith value (some (.Subscript o i pos')) pos.line X.env = pure false) (hP : X.prog = P := by rfl) (hw : X.w = w := by rfl) :
    PS X (.Assign [.Subscript o i pos'] value pos) (sNPut P w td ty tv) := by
  subst hP hw
  intro pins s σ H D I h
  refine wpAny_Assign_Subscript (thn (hv pins s σ H _ I h) fun r s1 ⟨v, H1, I1, rv, q1⟩ => thn (ho pins s1 σ H1 _ I1 q1) fun u s2 ⟨x, H2, I2, rx, q2⟩ => thn (hi pins s2 σ H2 _ I2 q2) fun iv s3 ⟨y, H3, I3, ry, a, b, d, ks, j, ex, ey, ev, ea, al, kn, lo, ln, q3⟩ => ?_) hs
  subst ex ey ev
  obtain rfl : u = Value.ref a := rx
  obtain rfl : iv = Value.ref b := ry
  obtain ⟨t, rfl⟩ := (show ∃ t, r = Value.int j t from rv)
  obtain ⟨z, hd, xs, rel, dd⟩ := dn_of I3.hok ea al
  have hz : xs.length ≤ sizeLine := by rw [← Paired.length rel]; exact z
  have la : atKey xs (toP d) = none := by
    rcases rel.val (toP d) with ⟨l1, l2⟩ | ⟨j', t, b', l1, l2⟩
    · exact l2
    · rw [l1] at lo
      cases lo
  refine wpAny_setItem_heap (hsz := hz) (nroom hu) (kn.is I3.hok) dd fun h' dd' hs => ⟨σ, _, ?_, q3⟩
  rw [storedH_new la] at dd'
  obtain ⟨q, es, ep, hq, h2, h3, h4, _, h5⟩ := dd'
  exact d_write I3 (by rw [ea]; exact True.intro) hs ⟨q, hq⟩ (dnO_ok hq h2 h3 h4 h5 (Paired.snoc rel ⟨rfl, rfl, t, rfl⟩) (by rw [List.length_append]; exact ln) hd)
theorem len_dn {P : Program} {w : World} {K : Type} [DecidableEq K] {knd : HeapKind P w K} {A : Around} {E : Value → Shared → Prop} {s : Shared} {d : Addr} {xs : List (K × Addr × Value)} {Q : Value → Shared → Prop} (hd : (d == sysModules) = false) (hm : s.heap.DictOfH knd d xs) (hfit : (xs.length : Int) < 2 ^ 63)
    (h : Q (.int xs.length (s.toks + 1)) { s with toks := s.toks + 1 + 1 }) : wpAny (model P w) A (call (.builtin "len") [.ref d]) Q E s := by
  have hT := hm.typeIs
  obtain ⟨o, es, ep, ho, hc, hdat, he, _, _⟩ := hm
  have hz : es.size = xs.length := size_of_entries he
  have meets : MeetsIn P w (Builtin.«dict.__len__» ⟨[.ref d], []⟩) (fun _ R s' => s'.heap.get? d = some o ∧ R (.ok (.ret (.int xs.length s'.toks))) { s' with toks := s'.toks + 1 }) :=
    .of_wp fun A R s' ⟨ho', h'⟩ => by
      show wpAny _ _ (dictSize d >>= _) _ _ s'
      unfold dictSize
      refine wpAny_bind (wpAny_bind (wpAny_dictEntries ho' hdat (wpAny_pure ?_)))
      show wpAny _ _ (Builtin.Dict.pendingCount d >>= _) _ _ s'
      refine wpAny_bind (wpAny_pendingCount_other hd (wpAny_ret_mkInt ?_))
      rw [Nat.add_zero, hz]
      exact h'
  refine Calls.call_function_entry kind_len plain_len entry_len (args_len1 _) ?_
  unfold Builtin.«len»
  refine wpAny_bind (m := oneArg "len" _) (wpAny_pure ?_)
  refine wpAny_bind (m := callSpecial? (.ref d) (Str.ofString "__len__")) (wpAny_callSpecial?_slot (name := Str.ofString "__len__") hT F.slot_dict_len (call_meetsIn F.slot_dict_len hT F.entry_dict_len (F.args_dict_len_1 _) meets ⟨ho, ?_⟩))
  show wpAny _ _ _ _ _ { s with toks := s.toks + 1 }
  refine wpAny_bind (wpAny_holding (wpAny_pure (wpAny_bind (wpAny_letGo ?_))))
  show wpAny _ _ (if ((xs.length : Nat) : Int) < 0 then _ else _) _ _ _
  rw [if_neg (by omega)]
  show wpAny _ _ (if ((xs.length : Nat) : Int) ≥ 2 ^ 63 then _ else _) _ _ _
  rw [if_neg (by omega)]
  exact wpAny_bind (wpAny_mkInt (wpAny_pure ⟨_, rfl, h⟩))
theorem call_lenN (hP : X.prog = P := by rfl) (hw : X.w = w := by rfl) : CallR X (.builtin "len") (fun xs H Q => ∃ a ks, xs = [V.ref a] ∧ H a = some (dnO P w a ks) ∧ AllN H ks ∧ Q (.int ks.length) H) := by
  subst hP hw
  intro pins s σ H xs us Q I r h
  obtain ⟨a, ks, rfl, ha, al, q⟩ := h
  obtain ⟨u, rfl, ru⟩ := vals1 r
  cases ru
  obtain ⟨z, hd, xs, rel, dd⟩ := dn_of I.hok ha al
  refine len_dn hd dd (by rw [← Paired.length rel]; rw [sizeLine_eq] at z; omega) ?_
  rw [← Paired.length rel]
  exact ⟨.int ks.length, H, I.tok _, ⟨_, rfl⟩, q⟩
end
end L2
/-! ### for v in d.values(); is True, is False -/
namespace L2
open PySem PySem.Spec PyProof.Rows PySem.W
noncomputable def Itv (d : Addr) (o : Obj) (kvs : List (Key × V)) : It :=
  ⟨fun i H => H d = some (.frz o (.dK kvs)) ∧ i < kvs.length, fun i H x H' => H' = H ∧ ∃ p, kvs[i]? = some p ∧ x = p.2, fun i H => H d = some (.frz o (.dK kvs)) ∧ i = kvs.length⟩
theorem turn_vals {P : Program} {w : World} {K : PySem.W.Frag} {x : Str} {pos : Pos} (d it : Addr) (o : Obj) (kvs : List (Key × V)) (vs : List (Key × Value)) (ep : Nat) (hne : d ≠ it) (kv : KV kvs vs) (hO : ∀ h : Heap, h.get? d = some o → h.DictAt (mixKind P w) d vs ep) :
    Turn P w K (.Name x pos) (Itv d o kvs) [it] it (fun i h => h.IsValIter it d i vs.length ep) where
  mem := by simp
  obj := fun i h st b hb => by
    have e : b = it := by simpa using hb
    subst e
    obtain ⟨o, e, c, dd⟩ := st
    exact ⟨o, e, fun v z => by rw [dd] at z; cases z⟩
  keep := fun i h h' st k => st.at fun o e => k it (by simp) o e
  item := by
    intro X hP hw hK hc i pins s σ H E I hf st hg
    subst hP hw hK
    obtain ⟨e, hi⟩ := hg
    obtain ⟨f0, f1, f2, f3, f4, f5⟩ := hf it (by simp)
    have hd := hO s.heap (show ObjOk X.prog X.w H s.heap d (.frz o (.dK kvs)) from I.hok d _ e).1
    have hl : kvs.length = vs.length := Paired.length kv
    have W := Walks.dictValues (prog := X.prog) (w := X.w) (A := X.A) (knd := mixKind X.prog X.w) (I.ok.hd hc) it d hne vs ep
    refine W.item i s _ _ (by omega) ⟨st, hd⟩ fun v h' tk hv st' kk => ?_
    obtain ⟨k, e1⟩ := hv
    have I1 : Inv X pins σ H { s with heap := h', toks := tk } := I.turned (fun b o hb e => kk b o (by simpa using hb) e) f0 f1 f3 f4 f5
    obtain ⟨a, a1, a2⟩ := kv_val kv i e1
    exact ⟨_, rfl, wpAny_pure ⟨a.2, H, I1, a2, ⟨rfl, a, a1, rfl⟩, st'.1, fun b hb => (hf b hb).1⟩⟩
  done := by
    intro X hP hw hK hc i pins s σ H E I hf st hg
    subst hP hw hK
    obtain ⟨e, hi⟩ := hg
    obtain ⟨f0, f1, f2, f3, f4, f5⟩ := hf it (by simp)
    have hd := hO s.heap (show ObjOk X.prog X.w H s.heap d (.frz o (.dK kvs)) from I.hok d _ e).1
    have hl : kvs.length = vs.length := Paired.length kv
    have W := Walks.dictValues (prog := X.prog) (w := X.w) (A := X.A) (knd := mixKind X.prog X.w) (I.ok.hd hc) it d hne vs ep
    have hi : i = vs.length := by omega
    subst hi
    exact W.done s _ _ ⟨st, hd⟩ fun h' tk kk => ⟨rfl, I.turned (t' := tk) (fun b o hb e => kk b o (by simpa using hb) e) f0 f1 f3 f4 f5⟩
  self := fun _ _ _ _ _ st h => wpAny_pyIter_valiter st h
section
variable {X : Cx} {x : Str} {xpos : Pos}
noncomputable def iVals (tl : TE) : TI := fun σ H R => tl σ H fun v H1 => ∃ d kvs, v = .ref d ∧ H1 d = some (.dK kvs) ∧ ∀ o, R (Itv d o kvs) (upd H1 d (.frz o (.dK kvs)))
theorem pi_vals {o : Expr} {to : TE} {apos cpos : Pos} (ho : PE X o to) (hbase : attributeBase o "values" X.env (eval o X.env) = eval o X.env := by rfl) (hline : (apos.endLine == cpos.line) = true := by rfl) :
    PI X (.Name x xpos) (.Call (.Attribute o "values" apos) [] [] cpos) (iVals to) := by
  intro pins s σ H R I h
  refine wpAny_Call_method0_late hbase hline (thn (ho pins s σ H _ I h) fun v s1 ⟨y, H1, I1, r1, q1⟩ => ?_)
  obtain ⟨d, kvs, rfl, hd, q⟩ := q1
  obtain ⟨h1, h2⟩ := tyV_is (T := "dict") I1 r1 (.inr (.inr (.inl ⟨rfl, .inl ⟨_, hd⟩⟩)))
  cases r1
  obtain ⟨_, lo, _, _, dd0⟩ := dk_of I1.hok hd
  refine ⟨"dict", "dict.values", PySem.F.plainAttrs_dict, PySem.F.slot_dict_values, PySem.F.type_dict_values, h1, h2, Calls.callWith_builtin rfl (PySem.evalArgs_none ?_)⟩
  refine call_meetsIn PySem.F.slot_dict_values dd0.typeIs PySem.F.entry_dict_values (PySem.F.args_dict_values_1 _) (meets_dict_values _ d lo) ⟨⟨_, dd0⟩, ?_⟩
  have I1' : Inv X pins σ H1 { s1 with heap := s1.heap.push { cls := .type "dict_values", data := .fields #[.ref d] } } := I1.kept (t' := s1.toks) fun b o e => Heap.get?_push_of_some _ e
  obtain ⟨hz, lo, vs, kv, dd⟩ := dk_of I1'.hok hd
  obtain ⟨ep, hat⟩ := dd.dictAt
  obtain ⟨ob, es, hob, r⟩ := id hat
  refine wpAny_pyIter_values ⟨_, Heap.get?_push_size _ rfl, rfl, rfl⟩ hat ?_
  have I2 : Inv X pins σ (upd H1 d (.frz ob (.dK kvs))) { s1 with heap := s1.heap.push { cls := .type "dict_values", data := .fields #[.ref d] } } := I1'.swap hd (fun xs z => nomatch z) (fun x z => nomatch z) (I1'.noFrz hd fun a b z => nomatch z) (fun ps z => nomatch z)
    ⟨hob, ⟨hz, lo, vs, kv, dd⟩⟩
  refine ⟨(s1.heap.push { cls := .type "dict_values", data := .fields #[.ref d] }).objs.size, [(s1.heap.push { cls := .type "dict_values", data := .fields #[.ref d] }).objs.size], _, _, _, rfl, I2.kept (t' := s1.toks) fun b o e => Heap.get?_push_of_some _ e, turn_vals d _ ob kvs vs ep (Nat.ne_of_lt (Heap.lt_size hob)) kv (fun h e => ⟨ob, es, e, r⟩), ⟨_, Heap.get?_push_size _ rfl, rfl, rfl⟩, fun b hb => ?_, q ob⟩
  have e : b = (s1.heap.push { cls := .type "dict_values", data := .fields #[.ref d] }).objs.size := by simpa using hb
  subst e
  exact I2.fpOk (Nat.le_refl _) (I2.hok.fresh (Nat.le_refl _))
end
theorem src_vals {d : Addr} {o : Obj} {kvs : List (Key × V)} {Ok : Hp → Prop} (h : ∀ H, Ok H → H d = some (.frz o (.dK kvs))) : Src (Itv d o kvs) Ok kvs.length (fun i x H H3 => H3 = H ∧ ∃ p, kvs[i]? = some p ∧ x = p.2) where
  go := fun i H hi ok => ⟨h H ok, hi⟩
  yld := fun i H x H3 hi ok y => y
  stop := fun H ok => ⟨h H ok, rfl⟩
section
variable {prog : Program} {w : World} {A : Around} {E : Value → Shared → Prop} {s : Shared}
/-- the whole of a tuple is the tuple itself -/
theorem tuple_whole {t sl : Addr} {items : Array Value} {vl vu : Value} {lo hi : Option Int} {Q : Value → Shared → Prop} (ht : IsTup s.heap t items) (hs : s.heap.IsSliceOf sl vl vu .none) (pl : IsPart vl lo) (pu : IsPart vu hi)
    (h0 : HT.sIx items.size 0 lo = 0) (h1 : HT.sIx items.size items.size hi = items.size) (h : Q (.ref t) s) : wpAny (model prog w) A (getItem (.ref t) (.ref sl)) Q E s := by
  obtain ⟨os, hos, hcs, hds⟩ := id hs
  have hTs : s.TypeIs (.ref sl) "slice" := ⟨os, hos, hcs⟩
  unfold getItem
  try with_reducible refine wpAny_holding ?_
  first | refine wpAny_bind (wpAny_pure ?_) | skip
  refine wpAny_bind (wpAny_sequenceKey ht.typeIs (by decide) ?_)
  refine wpAny_bind (wpAny_callSpecial?_slot (name := Str.ofString "__getitem__") ht.typeIs PyProof.Rows.slot_tuple_getitem
    (wpAny_call_entry PyProof.Rows.slot_tuple_getitem ht.typeIs entry_tuple_getitem ?_ (args_tuple_getitem _ _)))
  show wpAny _ _ (Builtin.Tuple.tupleItemsOf (.ref t) >>= _) _ _ s
  refine wpAny_bind (tupleItemsOf_ ht ?_)
  refine wpAny_bind (wpAny_typeOf hTs ?_)
  rw [if_pos (by decide)]
  refine wpAny_bind (HT.sliceApplied_gen hs pl pu ?_)
  show wpAny _ _ (if (((HT.sIx items.size 0 lo : Nat) : Int) == 0 && (1 : Int) == 1 && (HT.sIx items.size items.size hi - HT.sIx items.size 0 lo) == items.size) = true then _ else _) _ _ s
  rw [h0, h1, if_pos (by simp)]
  unfold Builtin.Tuple.tupleIsExact
  refine wpAny_bind (wpAny_bind (wpAny_typeOf ht.typeIs (wpAny_pure ?_)))
  rw [if_pos (by decide)]
  first
    | exact wpAny_bind (wpAny_rule (wpAny_bind (wpAny_pure (wpAny_pure ⟨_, rfl, wpAny_pure h⟩))))
    | exact wpAny_bind (wpAny_rule (wpAny_pure ⟨_, rfl, wpAny_pure h⟩))
end
section
variable {X : Cx} {K : PySem.W.Frag}
/-- t[lo:hi], the whole of it or not -/
noncomputable def rSlA (K : PySem.W.Frag) : V → Option Int → Option Int → Hp → VK → Prop := fun x lo hi H Q => ∃ a xs, x = .ref a ∧ SqT K H a xs ∧
  ((HT.sIx xs.length 0 lo = 0 ∧ HT.sIx xs.length xs.length hi = xs.length) → Q (.ref a) H) ∧ (¬ (HT.sIx xs.length 0 lo = 0 ∧ HT.sIx xs.length xs.length hi = xs.length) → ∀ p, H p = none → Q (.ref p) (upd H p (.tup (cutV xs lo hi))))
theorem sl_tupA (hK : X.K = K := by rfl) : SlR X (rSlA K) := by
  subst hK
  intro pins s σ H x v vl vu lo hi sl Q I rx hs pl pu h
  obtain ⟨a, xs, rfl, hx, h1, h2⟩ := h
  by_cases c : HT.sIx xs.length 0 lo = 0 ∧ HT.sIx xs.length xs.length hi = xs.length
  · cases rx
    obtain ⟨its, r, ht, hz⟩ := I.tuple hx
    have hlen : its.toArray.size = xs.length := by rw [List.size_toArray]; exact r.length.symm
    exact ⟨"tuple", _, PyProof.Rows.slot_tuple_getitem.lookup, ht.typeIs, tuple_whole ht hs pl pu (by rw [hlen]; exact c.1) (by rw [hlen]; exact c.2) ⟨.ref a, H, I, rfl, h1 c⟩⟩
  · exact sl_tup pins s σ H _ v vl vu lo hi sl Q I rx hs pl pu ⟨a, xs, rfl, hx, c, h2 c⟩
noncomputable def rIsB (neg : Bool) : R2 := fun x y H Q => ∃ a b, x = .bl a ∧ y = .bl b ∧ Q (.bl (if neg then !(a == b) else (a == b))) H
end
end L2
/-! ### for x in reversed(l) -/
namespace L2
open PySem PySem.Spec PyProof.Rows PySem.W
noncomputable def Itrv (K : PySem.W.Frag) (a : Addr) (n : Nat) : It :=
  ⟨fun i H => ∃ xs x, SqL K H a xs ∧ xs.length = n ∧ xs.reverse[i]? = some x, fun i H x H' => H' = H ∧ ∀ xs, SqL K H a xs → xs.reverse[i]? = some x, fun i _ => i = n⟩
section
variable {X : Cx}
noncomputable def iRevd (K : PySem.W.Frag) (ta : TA) : TI := fun σ H R => ta σ H fun vs H1 => ∃ a xs, vs = [.ref a] ∧ SqL K H1 a xs ∧ R (Itrv K a xs.length) H1
end
end L2
/-! sorted() of triples of ints; list.index of ints. -/
namespace KS
open PySem PySem.W PyProof.Rows
section
variable {prog : Program} {w : World} {A : Around} {E : Value → Shared → Prop} {s : Shared}
noncomputable def ltQ (x y : Int × Int × Int) : Bool := if x.1 = y.1 then (if x.2.1 = y.2.1 then decide (x.2.2 < y.2.2) else decide (x.2.1 < y.2.1)) else decide (x.1 < y.1)
end
end KS
namespace L2
open PySem PySem.Spec PyProof.Rows PySem.W
section
variable {X : Cx} {K : PySem.W.Frag}
/-- a list of triples of ints -/
noncomputable def TripsL (H : Hp) (xs : List V) : Prop := ∀ x ∈ xs, ∃ t a b c, x = .ref t ∧ H t = some (.tup [.int a, .int b, .int c])
/-- where an int is first met in a list of ints -/
noncomputable def rLix (K : PySem.W.Frag) : V → List V → Hp → VK → Prop := fun x vs H Q => ∃ l ns k, x = .ref l ∧ vs = [.int k] ∧ SqL K H l (List.map V.int ns) ∧ k ∈ ns ∧ ns.length ≤ 1000 ∧ Q (.int (ns.idxOf k : Nat)) H
end
end L2
/-! != of two lists of flat values; two lists of ints are equal or not. -/
namespace L2
open PySem PySem.Spec PyProof.Rows PySem.W
section
variable {X : Cx} {K : PySem.W.Frag}
noncomputable def rNeF : R2 := fun x y H Q => ∃ p q xs ys, x = .ref p ∧ y = .ref q ∧ H p = some (.lst xs) ∧ H q = some (.lst ys) ∧ xs.all flatV = true ∧ ys.all flatV = true ∧ Q (.bl (!eqL xs ys)) H
end
end L2
/-! `x not in l` and l.index(x), where x and the items are tuples within tuples. -/
namespace L2
open PySem PySem.Spec PyProof.Rows PySem.W
section
variable {X : Cx} {K : PySem.W.Frag}
/-- a key's data -/
noncomputable def Kd (d : Dat) : Prop := hsh (toP d) = true ∧ (toP d).depth ≤ 8
theorem reads_get {P : Program} {w : World} {H : Hp} {h : Heap} (ok : HOk P w H h) {ds : List Dat} {xs : List V} {us : List Value} (r : RepL H ds xs) (v : Vals xs us) {i : Nat} {u : Value} (e : us[i]? = some u) : ∃ d as, ds[i]? = some d ∧ Reads h u (toP d) as := by
  have l1 := r.length
  have l2 := v.length
  have hi := (List.getElem?_eq_some_iff.mp e).1
  have ex : xs[i]? = some (xs[i]'(by omega)) := List.getElem?_eq_getElem (by omega)
  obtain ⟨u', e1, rv⟩ := v.get ex
  rw [e] at e1
  cases e1
  obtain ⟨d, ed, rd⟩ := r.get ex
  obtain ⟨as, ra⟩ := reads_of ok d _ _ rd rv
  exact ⟨d, as, ed, ra⟩
theorem eqAt_N {A : Around} {s : Shared} {a b : PyData} {u v : Value} {as bs : List Addr} (ra : Reads s.heap u a as) (rb : Reads s.heap v b bs) (ha : hsh a = true) (hb : hsh b = true) (da : a.depth ≤ 8) (db : b.depth ≤ 8) (hu : A.units + 8 < cLine) : SeqAt.EqAt A s u v (decide (a = b)) := fun prog w E Q h =>
  SeqAt.eqBoolOverData _ _ _ _ _ _ _ _ _ _ _ _ ra rb (hsh_lay _ ha) (hsh_lay _ hb) (by omega) (by rw [eqv_is _ _ ha hb]; exact h)
noncomputable def rNotInN : R2 := fun x y H Q => ∃ p xs ds d, y = .ref p ∧ H p = some (.lst xs) ∧ RepL H ds xs ∧ (∀ e ∈ ds, Kd e) ∧ Rep H d x ∧ Kd d ∧ Q (.bl (!decide (toP d ∈ ds.map toP))) H
theorem op_notinN (hu : X.A.units + 64 < cLine) : OpR X (compareOp .NotIn) rNotInN := by
  classical
  intro pins s σ H x y v u Q I rx ry h
  obtain ⟨p, xs, ds, d, rfl, hp, rd, hds, rdx, hd, q⟩ := h
  cases ry
  obtain ⟨its, r, pl, hz⟩ := I.list (SqL.of hp)
  obtain ⟨as, ra⟩ := reads_of I.hok d x v rdx rx
  have each : ∀ u ∈ its, ∃ e bs, e ∈ ds ∧ Reads s.heap u (toP e) bs := fun u hu => by
    obtain ⟨i, ei⟩ := List.getElem?_of_mem hu
    obtain ⟨e, bs, ed, re⟩ := reads_get I.hok rd r ei
    exact ⟨e, bs, List.mem_of_getElem? ed, re⟩
  have dec : ∀ {u e bs}, e ∈ ds → Reads s.heap u (toP e) bs → decide (∃ cs, Reads s.heap u (toP d) cs) = decide (toP e = toP d) := fun {u e bs} he re => by
    by_cases c : toP e = toP d
    · rw [decide_eq_true c, decide_eq_true ⟨bs, by rw [← c]; exact re⟩]
    · rw [decide_eq_false c, decide_eq_false]
      rintro ⟨cs, rc⟩
      exact c (SeqAt.Reads.unique _ _ _ _ _ (hsh_lay _ (hds e he).1) re rc)
  refine SeqAt.notIn_listAt (fun u => decide (∃ cs, Reads s.heap u (toP d) cs)) pl.isList (fun u hu' => ?_) ⟨.bl _, H, I, rfl, ?_⟩
  · obtain ⟨e, bs, he, re⟩ := each u (List.mem_toArray.mp hu')
    show SeqAt.EqAt _ _ _ _ (decide _)
    rw [dec he re]
    exact eqAt_N re ra (hds e he).1 hd.1 (hds e he).2 hd.2 (by show X.A.units + 1 + 8 < cLine; omega)
  · have e : its.toArray.any (fun u => decide (∃ cs, Reads s.heap u (toP d) cs)) = decide (toP d ∈ ds.map toP) := by
      rw [List.any_toArray]
      by_cases c : toP d ∈ ds.map toP
      · rw [decide_eq_true c, List.any_eq_true]
        obtain ⟨e, he, ee⟩ := List.mem_map.mp c
        obtain ⟨i, ei⟩ := List.getElem?_of_mem he
        have hi := (List.getElem?_eq_some_iff.mp ei).1
        have l1 := rd.length
        have l2 := r.length
        have eu : its[i]? = some (its[i]'(by omega)) := List.getElem?_eq_getElem (by omega)
        obtain ⟨e', bs, ed, re⟩ := reads_get I.hok rd r eu
        rw [ei] at ed
        cases ed
        exact ⟨_, List.mem_of_getElem? eu, by rw [dec he re, decide_eq_true ee]⟩
      · rw [decide_eq_false c, List.any_eq_false]
        intro u hu'
        obtain ⟨e, bs, he, re⟩ := each u hu'
        rw [dec he re, decide_eq_false fun z => c (List.mem_map.mpr ⟨e, he, z⟩)]
        decide
    rw [e]
    exact q
/-- where such a one is first met -/
noncomputable def rNix : V → List V → Hp → VK → Prop := fun x vs H Q => ∃ l xs ds v d i, x = .ref l ∧ vs = [v] ∧ H l = some (.lst xs) ∧ RepL H ds xs ∧ (∀ e ∈ ds, Kd e) ∧ Rep H d v ∧ Kd d ∧ (ds.map toP)[i]? = some (toP d) ∧ (∀ j, j < i → (ds.map toP)[j]? ≠ some (toP d)) ∧ i < 100000 ∧ Q (.int (i : Nat)) H
theorem mt_nindex (hu : X.A.units + 64 < cLine) : MtR X "list.index" rNix := by
  classical
  intro pins s σ H x vs v us Q I rx rv h
  obtain ⟨l, xs, ds, y, d, i, rfl, rfl, hp, rd, hds, rdx, hd, hi, hno, i6, q⟩ := h
  cases rx
  obtain ⟨u, rfl, ru⟩ := vals1 rv
  obtain ⟨its, r, pl, hz⟩ := I.list (SqL.of hp)
  obtain ⟨as, ra⟩ := reads_of I.hok d y u rdx ru
  have l1 := rd.length
  have l2 := r.length
  have dec : ∀ {u e bs}, e ∈ ds → Reads s.heap u (toP e) bs → decide (∃ cs, Reads s.heap u (toP d) cs) = decide (toP e = toP d) := fun {u e bs} he re => by
    by_cases c : toP e = toP d
    · rw [decide_eq_true c, decide_eq_true ⟨bs, by rw [← c]; exact re⟩]
    · rw [decide_eq_false c, decide_eq_false]
      rintro ⟨cs, rc⟩
      exact c (SeqAt.Reads.unique _ _ _ _ _ (hsh_lay _ (hds e he).1) re rc)
  have at_ : ∀ (j : Nat) (hj : j < its.length), ∃ e bs, ds[j]? = some e ∧ e ∈ ds ∧ Reads s.heap its[j] (toP e) bs := fun j hj => by
    obtain ⟨e, bs, ed, re⟩ := reads_get I.hok rd r (List.getElem?_eq_getElem hj)
    exact ⟨e, bs, ed, List.mem_of_getElem? ed, re⟩
  have hil : i < its.length := by
    have := (List.getElem?_eq_some_iff.mp hi).1
    rw [List.length_map] at this
    omega
  obtain ⟨⟨c1, d1, d2, sl⟩, ho, e1, m, e2⟩ := pl.isList
  cases e1
  cases e2
  have hit : decide (∃ cs, Reads s.heap its[i] (toP d) cs) = true := by
    obtain ⟨e, bs, ed, he, re⟩ := at_ i hil
    rw [dec he re]
    rw [List.getElem?_map, ed] at hi
    exact decide_eq_true (Option.some.inj hi)
  refine call_meets PySem.F.slot_list_index ⟨_, ho, rfl⟩ PySem.F.entry_list_index (PySem.F.args_list_index_2 _ _) (PySem.SeqAt.list_indexAt l its.toArray m d1 sl u (fun u => decide (∃ cs, Reads s.heap u (toP d) cs)) i (by rw [List.size_toArray]; omega) (by omega) hit (fun j hj hl => ?_)) ⟨ho, fun y hy => ?_, ⟨.int _, H, I.tok _, ⟨_, rfl⟩, q⟩⟩
  · rw [List.size_toArray] at hj
    obtain ⟨e, bs, ed, he, re⟩ := at_ j hj
    show decide (∃ cs, Reads s.heap its[j] (toP d) cs) = false
    rw [dec he re]
    refine decide_eq_false fun z => hno j hl ?_
    rw [List.getElem?_map, ed]
    exact congrArg some z
  · obtain ⟨j, ej⟩ := List.getElem?_of_mem (List.mem_toArray.mp hy)
    obtain ⟨e, bs, ed, re⟩ := reads_get I.hok rd r ej
    have he := List.mem_of_getElem? ed
    show SeqAt.EqAt _ _ _ _ (decide _)
    rw [dec he re]
    exact eqAt_N re ra (hds e he).1 hd.1 (hds e he).2 hd.2 (by show X.A.units + 1 + 8 < cLine; omega)
end
end L2
/-! numbers by marks: the rounds of alike, pure -/
namespace Ak
open PySem L2
mutual
theorem toP_inj : ∀ (a b : Dat), toP a = toP b → a = b
  | .non, b, e => by cases b <;> simp [toP] at e <;> rfl
  | .bl x, b, e => by cases b <;> simp [toP] at e; subst e; rfl
  | .int x, b, e => by cases b <;> simp [toP] at e; subst e; rfl
  | .str x, b, e => by cases b <;> simp [toP] at e; subst e; rfl
  | .tup l, b, e => by
    cases b with
    | tup m => rw [toP, toP] at e; injection e with e; rw [toPL_inj l m e]
    | _ => simp [toP] at e
  | .lst l, b, e => by
    cases b with
    | lst m => rw [toP, toP] at e; injection e with e; rw [toPL_inj l m e]
    | _ => simp [toP] at e
theorem toPL_inj : ∀ (a b : List Dat), toPL a = toPL b → a = b
  | [], [], _ => rfl
  | [], _ :: _, e => by simp [toPL] at e
  | _ :: _, [], e => by simp [toPL] at e
  | x :: xs, y :: ys, e => by
    rw [toPL, toPL] at e
    injection e with e1 e2
    rw [toP_inj x y e1, toPL_inj xs ys e2]
end
/-- a key's place in a list -/
noncomputable def lk : List PyData → PyData → Int → Option Int
  | [], _, _ => none
  | d :: D, k, n => if d = k then some n else lk D k (n + 1)
theorem lk_some : ∀ {D : List PyData} {k : PyData} {n i : Int}, lk D k n = some i → n ≤ i ∧ D[(i - n).toNat]? = some k
  | d :: D, k, n, i, h => by
    rw [lk] at h
    by_cases c : d = k
    · rw [if_pos c] at h
      cases h
      subst c
      simp
    · rw [if_neg c] at h
      obtain ⟨h1, h2⟩ := lk_some h
      refine ⟨by omega, ?_⟩
      rw [show (i - n).toNat = (i - (n + 1)).toNat + 1 by omega]
      simpa using h2
theorem lk_mem : ∀ {D : List PyData} {k : PyData} {n : Int}, k ∈ D → ∃ i, lk D k n = some i
  | d :: D, k, n, h => by
    rw [lk]
    by_cases c : d = k
    · exact ⟨n, if_pos c⟩
    · rw [if_neg c]
      exact lk_mem (by rcases List.mem_cons.mp h with e | h; exact absurd e.symm c; exact h)
theorem lk_none : ∀ {D : List PyData} {k : PyData} {n : Int}, k ∉ D → lk D k n = none
  | [], _, _, _ => rfl
  | d :: D, k, n, h => by
    rw [lk, if_neg (fun e => h (by rw [e]; exact List.mem_cons_self))]
    exact lk_none fun q => h (List.mem_cons_of_mem _ q)
/-- each key once, where it first stands -/
noncomputable def dd (a ks : List PyData) : List PyData := ks.foldl (fun a k => if k ∈ a then a else a ++ [k]) a
theorem dd_snoc (a ks : List PyData) (k : PyData) : dd a (ks ++ [k]) = if k ∈ dd a ks then dd a ks else dd a ks ++ [k] := by
  unfold dd
  rw [List.foldl_append]
  rfl
theorem dd_mem {k : PyData} : ∀ {ks a : List PyData}, k ∈ dd a ks ↔ k ∈ a ∨ k ∈ ks
  | [], a => by simp [dd]
  | x :: ks, a => by
    have ih := dd_mem (k := k) (ks := ks) (a := if x ∈ a then a else a ++ [x])
    show k ∈ dd (if x ∈ a then a else a ++ [x]) ks ↔ _
    rw [ih]
    by_cases c : x ∈ a
    · rw [if_pos c, List.mem_cons]
      constructor
      · rintro (h | h)
        · exact .inl h
        · exact .inr (.inr h)
      · rintro (h | h | h)
        · exact .inl h
        · subst h; exact .inl c
        · exact .inr h
    · rw [if_neg c, List.mem_append, List.mem_singleton, List.mem_cons, or_assoc]
theorem dd_len : ∀ {ks a : List PyData}, (dd a ks).length ≤ a.length + ks.length
  | [], a => by simp [dd]
  | x :: ks, a => by
    have ih := dd_len (ks := ks) (a := if x ∈ a then a else a ++ [x])
    show (dd (if x ∈ a then a else a ++ [x]) ks).length ≤ _
    by_cases c : x ∈ a
    · rw [if_pos c] at ih ⊢
      simp
      omega
    · rw [if_neg c] at ih ⊢
      simp at ih ⊢
      omega
/-- the numbers of marks -/
noncomputable def numb (ks : List PyData) : List Int := ks.map fun k => (lk (dd [] ks) k 0).getD 0
theorem numb_len (ks : List PyData) : (numb ks).length = ks.length := by simp [numb]
theorem numb_at {ks : List PyData} {i : Nat} {k : PyData} (h : ks[i]? = some k) : ∃ x : Int, (numb ks)[i]? = some x ∧ lk (dd [] ks) k 0 = some x ∧ 0 ≤ x := by
  obtain ⟨x, hx⟩ := lk_mem (n := 0) (dd_mem.mpr (.inr (List.mem_of_getElem? h)))
  exact ⟨x, by unfold numb; rw [List.getElem?_map, h]; simp [hx], hx, (lk_some hx).1⟩
/-- alike numbers, alike marks -/
theorem numb_eq {ks : List PyData} {i j : Nat} {a b : PyData} (hi : ks[i]? = some a) (hj : ks[j]? = some b) : (numb ks)[i]? = (numb ks)[j]? ↔ a = b := by
  obtain ⟨x, x1, x2, _⟩ := numb_at hi
  obtain ⟨y, y1, y2, _⟩ := numb_at hj
  rw [x1, y1]
  constructor
  · intro e
    cases e
    have h1 := (lk_some x2).2
    have h2 := (lk_some y2).2
    rw [h1] at h2
    exact Option.some.inj h2
  · intro e
    subst e
    rw [x2] at y2
    exact y2
/-- how many numbers there are -/
noncomputable def cnt (xs : List Int) : Nat := (ded xs).length
/-- a list of numbers that parts what another parts -/
noncomputable def Ref (xs ys : List Int) : Prop := ∀ i j : Nat, xs[i]? = xs[j]? → i < xs.length → j < xs.length → ys[i]? = ys[j]?
theorem cnt_le (xs : List Int) : cnt xs ≤ xs.length := ded_len_le xs
/-- one number of the finer list for each number of the coarser -/
theorem ref_inj {xs ys : List Int} (hl : xs.length = ys.length) (r : Ref xs ys) : ∃ f : Int → Int, (∀ y ∈ ded ys, ∃ k : Nat, k < ys.length ∧ ys[k]? = some y ∧ xs[k]? = some (f y)) ∧ ∃ rest, (ded xs).Perm ((ded ys).map f ++ rest) := by
  classical
  have ex : ∀ y ∈ ded ys, ∃ k : Nat, k < ys.length ∧ ys[k]? = some y := fun y hy => by
    obtain ⟨k, hk⟩ := List.getElem?_of_mem (ded_mem.mp hy)
    exact ⟨k, (List.getElem?_eq_some_iff.mp hk).1, hk⟩
  let f : Int → Int := fun y => if h : ∃ k : Nat, k < ys.length ∧ ys[k]? = some y then xs.getD (Classical.choose h) 0 else 0
  have fs : ∀ y ∈ ded ys, ∃ k : Nat, k < ys.length ∧ ys[k]? = some y ∧ xs[k]? = some (f y) := fun y hy => by
    have h := ex y hy
    refine ⟨Classical.choose h, (Classical.choose_spec h).1, (Classical.choose_spec h).2, ?_⟩
    have hk : Classical.choose h < xs.length := by rw [hl]; exact (Classical.choose_spec h).1
    show _ = some (if h : ∃ k : Nat, k < ys.length ∧ ys[k]? = some y then xs.getD (Classical.choose h) 0 else 0)
    rw [dif_pos h, List.getD_eq_getElem?_getD, List.getElem?_eq_getElem hk]
    rfl
  have nd : ((ded ys).map f).Nodup := by
    rw [List.nodup_iff_pairwise_ne, List.pairwise_map]
    refine List.Pairwise.imp_of_mem (fun {a b} ha hb hab => ?_) (List.nodup_iff_pairwise_ne.mp (ded_nodup ys))
    intro q
    obtain ⟨k, k1, k2, k3⟩ := fs a ha
    obtain ⟨m, m1, m2, m3⟩ := fs b hb
    have := r k m (by rw [k3, m3, q]) (by omega) (by omega)
    rw [k2, m2] at this
    exact hab (Option.some.inj this)
  exact ⟨f, fs, nodup_sub nd fun x hx => by
    obtain ⟨y, hy, rfl⟩ := List.mem_map.mp hx
    obtain ⟨k, _, _, k3⟩ := fs y hy
    exact ded_mem.mpr (List.mem_of_getElem? k3)⟩
theorem ref_cnt {xs ys : List Int} (hl : xs.length = ys.length) (r : Ref xs ys) : cnt ys ≤ cnt xs := by
  obtain ⟨f, _, rest, p⟩ := ref_inj hl r
  have := p.length_eq
  rw [List.length_append, List.length_map] at this
  unfold cnt
  omega
/-- where a finer list has no more numbers, it parts alike -/
theorem ref_back {xs ys : List Int} (hl : xs.length = ys.length) (r : Ref xs ys) (hc : cnt xs ≤ cnt ys) : Ref ys xs := by
  intro i j e hi hj
  obtain ⟨f, fs, rest, p⟩ := ref_inj hl r
  have re : rest = [] := by
    have := p.length_eq
    rw [List.length_append, List.length_map] at this
    unfold cnt at hc
    exact List.length_eq_zero_iff.mp (by omega)
  subst re
  rw [List.append_nil] at p
  have key : ∀ (i : Nat), i < ys.length → ∀ y, ys[i]? = some y → xs[i]? = some (f y) := fun i hi y hy => by
    have hix : i < xs.length := by omega
    have m : xs[i] ∈ (ded ys).map f := p.mem_iff.mp (ded_mem.mpr (List.getElem_mem hix))
    obtain ⟨z, hz, ez⟩ := List.mem_map.mp m
    obtain ⟨k, k1, k2, k3⟩ := fs z hz
    have q := r k i (by rw [k3, ez, List.getElem?_eq_getElem hix]) (by omega) hix
    rw [k2, hy] at q
    cases q
    rw [List.getElem?_eq_getElem hix, ez]
  have e1 : ys[i]? = some ys[i] := List.getElem?_eq_getElem hi
  rw [e1] at e
  rw [key i hi _ e1, key j hj _ e.symm]
/-! ### marks of places -/
/-- a place's number at the nums -/
noncomputable def at_ (ns : List Int) (i : Int) : Int := ns.getD i.toNat 0
/-- what a throw's ways weigh together, by number -/
noncomputable def wOf (ws : List (Int × Int)) (ns : List Int) (x : Int) : Int := (ws.map fun p => if at_ ns p.2 = x then p.1 else 0).sum
noncomputable def keysT (ws : List (Int × Int)) (ns : List Int) : List Int := ded (ws.map fun p => at_ ns p.2)
noncomputable def gcdT (ws : List (Int × Int)) (ns : List Int) : Int := (keysT ws ns).foldl (fun a x => Nm.g a (wOf ws ns x)) 0
noncomputable def tmk (ws : List (Int × Int)) (ns : List Int) : List (Int × Int) := (Nm.srt (keysT ws ns)).map fun x => (x, wOf ws ns x / gcdT ws ns)
noncomputable def tailD (ns : List Int) : Pl → Dat
  | .fin _ => .tup []
  | .thr _ ws => .tup ((tmk ws ns).map wrowD)
  | .pck _ to => .tup ((Nm.srt (ded (to.map (at_ ns)))).map Dat.int)
noncomputable def mkD (ns : List Int) (q : Pl) (n : Int) : Dat := .tup [.int n, tailD ns q]
noncomputable def mk0 : Pl → Dat
  | .fin g => .tup [.str (Str.ofString "end"), wrowD g]
  | .thr g _ => .tup [.str (Str.ofString "throw"), wrowD g]
  | .pck who _ => .tup [.str (Str.ofString "pick"), .int who]
noncomputable def marks (b : List Pl) (ns : List Int) : List Dat := List.zipWith (fun q n => mkD ns q n) b ns
/-- a round's marks of two boards -/
noncomputable def both (b c : List Pl) (ns : List Int) : List Dat := marks b (ns.take b.length) ++ marks c (ns.drop b.length)
noncomputable def Rq (b c : List Pl) : Nat → List Int
  | 0 => numb (((b ++ c).map mk0).map toP)
  | k + 1 => numb ((both b c (Rq b c k)).map toP)
noncomputable def gls : Pl → List Int
  | .fin _ => []
  | .thr _ ws => ws.map (·.2)
  | .pck _ to => to
theorem marks_len {b : List Pl} {ns : List Int} (h : ns.length = b.length) : (marks b ns).length = b.length := by
  unfold marks
  rw [List.length_zipWith]
  omega
theorem both_len {b c : List Pl} {ns : List Int} (h : ns.length = b.length + c.length) : (both b c ns).length = b.length + c.length := by
  unfold both
  rw [List.length_append, marks_len (by rw [List.length_take]; omega), marks_len (by rw [List.length_drop]; omega)]
theorem Rq_len (b c : List Pl) : ∀ k, (Rq b c k).length = b.length + c.length
  | 0 => by rw [Rq, numb_len]; simp
  | k + 1 => by rw [Rq, numb_len, List.length_map, both_len (Rq_len b c k)]
theorem marks_at {b : List Pl} {ns : List Int} {i : Nat} {q : Pl} {n : Int} (hb : b[i]? = some q) (hn : ns[i]? = some n) : (marks b ns)[i]? = some (mkD ns q n) := by
  unfold marks
  rw [List.getElem?_zipWith, hb, hn]
theorem both_l {b c : List Pl} {ns : List Int} (h : ns.length = b.length + c.length) {i : Nat} {q : Pl} {n : Int} (hb : b[i]? = some q) (hn : ns[i]? = some n) : (both b c ns)[i]? = some (mkD (ns.take b.length) q n) := by
  have hi := (List.getElem?_eq_some_iff.mp hb).1
  unfold both
  rw [List.getElem?_append_left (by rw [marks_len (by rw [List.length_take]; omega)]; exact hi)]
  exact marks_at hb (by rw [List.getElem?_take, if_pos hi]; exact hn)
theorem both_r {b c : List Pl} {ns : List Int} (h : ns.length = b.length + c.length) {i : Nat} {q : Pl} {n : Int} (hc : c[i]? = some q) (hn : ns[b.length + i]? = some n) : (both b c ns)[b.length + i]? = some (mkD (ns.drop b.length) q n) := by
  unfold both
  have e := marks_len (b := b) (ns := ns.take b.length) (by rw [List.length_take]; omega)
  rw [List.getElem?_append_right (by omega), e, Nat.add_sub_cancel_left]
  exact marks_at hc (by rw [List.getElem?_drop]; exact hn)
/-- the head of a mark is the number before -/
theorem mkD_inj {ns ms : List Int} {q r : Pl} {n m : Int} (h : mkD ns q n = mkD ms r m) : n = m ∧ tailD ns q = tailD ms r := by
  unfold mkD at h
  injection h with h
  injection h with h1 h2
  injection h1 with h1
  injection h2 with h2
  exact ⟨h1, h2⟩
/-- a round parts what the round before it parts -/
theorem both_head {b c : List Pl} {ns : List Int} (h : ns.length = b.length + c.length) {i : Nat} {d : Dat} (e : (both b c ns)[i]? = some d) : ∃ n t, ns[i]? = some n ∧ d = .tup [.int n, t] := by
  have hi := (List.getElem?_eq_some_iff.mp e).1
  rw [both_len h] at hi
  have en : ns[i]? = some ns[i] := List.getElem?_eq_getElem (by omega)
  by_cases c1 : i < b.length
  · rw [both_l h (List.getElem?_eq_getElem c1) en] at e
    cases e
    exact ⟨_, _, en, rfl⟩
  · obtain ⟨j, rfl⟩ : ∃ j, i = b.length + j := ⟨i - b.length, by omega⟩
    rw [both_r h (List.getElem?_eq_getElem (show j < c.length by omega)) en] at e
    cases e
    exact ⟨_, _, en, rfl⟩
theorem next_ref {b c : List Pl} {ns : List Int} (h : ns.length = b.length + c.length) : Ref (numb ((both b c ns).map toP)) ns := by
  intro i j e hi hj
  rw [numb_len, List.length_map] at hi hj
  have ei : (both b c ns)[i]? = some (both b c ns)[i] := List.getElem?_eq_getElem hi
  have ej : (both b c ns)[j]? = some (both b c ns)[j] := List.getElem?_eq_getElem hj
  have q := (numb_eq (ks := (both b c ns).map toP) (by rw [List.getElem?_map, ei]; rfl) (by rw [List.getElem?_map, ej]; rfl)).mp e
  have q := toP_inj _ _ q
  obtain ⟨n, t, n1, n2⟩ := both_head h ei
  obtain ⟨m, u, m1, m2⟩ := both_head h ej
  rw [n2, m2] at q
  injection q with q
  injection q with q1 q2
  injection q1 with q1
  rw [n1, m1, q1]
theorem Rq_ref (b c : List Pl) (k : Nat) : Ref (Rq b c (k + 1)) (Rq b c k) := next_ref (Rq_len b c k)
theorem Ref.trans {xs ys zs : List Int} (h1 : Ref xs ys) (h2 : Ref ys zs) (l : xs.length = ys.length) : Ref xs zs := fun i j e hi hj => h2 i j (h1 i j e hi hj) (by omega) (by omega)
theorem Rq_ref0 (b c : List Pl) : ∀ k, Ref (Rq b c k) (Rq b c 0)
  | 0 => fun _ _ e _ _ => e
  | k + 1 => (Rq_ref b c k).trans (Rq_ref0 b c k) (by rw [Rq_len, Rq_len])
theorem Rq_cnt (b c : List Pl) (k : Nat) : cnt (Rq b c k) ≤ cnt (Rq b c (k + 1)) := ref_cnt (by rw [Rq_len, Rq_len]) (Rq_ref b c k)
/-- the last round -/
noncomputable def Last (b c : List Pl) (m : Nat) : Prop := cnt (Rq b c (m + 1)) = cnt (Rq b c m)
/-- in the last round, alike numbers have alike marks -/
theorem last_stable {b c : List Pl} {m : Nat} (h : Last b c m) {i j : Nat} {d e : Dat} (q : (Rq b c m)[i]? = (Rq b c m)[j]?) (hd : (both b c (Rq b c m))[i]? = some d) (he : (both b c (Rq b c m))[j]? = some e) : d = e := by
  have r := ref_back (xs := Rq b c (m + 1)) (ys := Rq b c m) (by rw [Rq_len, Rq_len]) (Rq_ref b c m) (by unfold Last at h; omega)
  have hi := (List.getElem?_eq_some_iff.mp hd).1
  have hj := (List.getElem?_eq_some_iff.mp he).1
  rw [both_len (Rq_len b c m)] at hi hj
  have z := r i j q (by rw [Rq_len]; exact hi) (by rw [Rq_len]; exact hj)
  rw [Rq] at z
  exact toP_inj _ _ ((numb_eq (by rw [List.getElem?_map, hd]; rfl) (by rw [List.getElem?_map, he]; rfl)).mp z)
/-- alike marks of one place: it leads to the same numbers -/
theorem tail_keys {ns ms : List Int} {q : Pl} (h : tailD ns q = tailD ms q) {g : Int} (hg : g ∈ gls q) : ∃ g' ∈ gls q, at_ ns g' = at_ ms g := by
  cases q with
  | fin w => simp [gls] at hg
  | thr w ws =>
    have h : Dat.tup ((tmk ws ns).map wrowD) = Dat.tup ((tmk ws ms).map wrowD) := h
    injection h with h
    have e : (tmk ws ns).map (·.1) = (tmk ws ms).map (·.1) := by
      have key : ∀ (xs ys : List (Int × Int)), xs.map wrowD = ys.map wrowD → xs.map (·.1) = ys.map (·.1) := by
        intro xs
        induction xs with
        | nil => intro ys e; cases ys with | nil => rfl | cons _ _ => simp at e
        | cons x xs ih =>
          intro ys e
          cases ys with
          | nil => simp at e
          | cons y ys =>
            rw [List.map_cons, List.map_cons] at e
            injection e with e1 e2
            rw [List.map_cons, List.map_cons, ih ys e2]
            unfold wrowD at e1
            injection e1 with e1
            injection e1 with e1 _
            injection e1 with e1
            rw [e1]
      exact key _ _ h
    unfold tmk at e
    rw [List.map_map, List.map_map] at e
    have e : Nm.srt (keysT ws ns) = Nm.srt (keysT ws ms) := by simpa [Function.comp_def] using e
    obtain ⟨p, hp, rfl⟩ := List.mem_map.mp hg
    have m : at_ ms p.2 ∈ Nm.srt (keysT ws ms) := (Nm.srt_perm _).mem_iff.mpr (ded_mem.mpr (List.mem_map.mpr ⟨p, hp, rfl⟩))
    rw [← e] at m
    obtain ⟨p', hp', e'⟩ := List.mem_map.mp (ded_mem.mp ((Nm.srt_perm _).mem_iff.mp m))
    exact ⟨p'.2, List.mem_map.mpr ⟨p', hp', rfl⟩, e'⟩
  | pck who to =>
    have h : Dat.tup ((Nm.srt (ded (to.map (at_ ns)))).map Dat.int) = Dat.tup ((Nm.srt (ded (to.map (at_ ms)))).map Dat.int) := h
    injection h with h
    have e : Nm.srt (ded (to.map (at_ ns))) = Nm.srt (ded (to.map (at_ ms))) := by
      have key : ∀ (xs ys : List Int), xs.map Dat.int = ys.map Dat.int → xs = ys := by
        intro xs
        induction xs with
        | nil => intro ys e; cases ys with | nil => rfl | cons _ _ => simp at e
        | cons x xs ih =>
          intro ys e
          cases ys with
          | nil => simp at e
          | cons y ys =>
            rw [List.map_cons, List.map_cons] at e
            injection e with e1 e2
            injection e1 with e1
            rw [e1, ih ys e2]
      exact key _ _ h
    have m : at_ ms g ∈ Nm.srt (ded (to.map (at_ ms))) := (Nm.srt_perm _).mem_iff.mpr (ded_mem.mpr (List.mem_map.mpr ⟨g, hg, rfl⟩))
    rw [← e] at m
    obtain ⟨g', hg', e'⟩ := List.mem_map.mp (ded_mem.mp ((Nm.srt_perm _).mem_iff.mp m))
    exact ⟨g', hg', e'⟩
end Ak
/-! the dict of weights by numbers -/
namespace Ak
open PySem L2
theorem ded_snoc (ns : List Int) (x : Int) : ded (ns ++ [x]) = if x ∈ ded ns then ded ns else ded ns ++ [x] := by
  rw [ded_eq, ded_eq, List.foldl_append]
  show PyProof.Rows.step_dedup _ x = _
  generalize ns.foldl PyProof.Rows.step_dedup [] = a
  unfold PyProof.Rows.step_dedup
  by_cases c : x ∈ a
  · rw [if_pos c, if_pos (List.any_eq_true.mpr ⟨x, c, by simp⟩)]
  · rw [if_neg c, if_neg (fun h => by
      obtain ⟨y, hy, e⟩ := List.any_eq_true.mp h
      have e : y = x := by simpa using e
      subst e
      exact c hy)]
theorem val_map (f : Int → V) : ∀ (l : List Int) (x : Int), valV (l.map fun y => ((Sum.inl y : Key), f y)) (Sum.inl x) = if x ∈ l then some (f x) else none
  | [], x => rfl
  | y :: l, x => by
    rw [List.map_cons]
    by_cases c : y = x
    · subst c
      rw [valV_pos rfl, if_pos List.mem_cons_self]
    · rw [valV_neg (fun e => c (by injection e)), val_map f l x]
      by_cases d : x ∈ l
      · rw [if_pos d, if_pos (List.mem_cons_of_mem _ d)]
      · rw [if_neg d, if_neg (fun h => by rcases List.mem_cons.mp h with e | e; exact c e.symm; exact d e)]
theorem put_map (f : Int → V) (l : List Int) (x : Int) (v : V) : putK (l.map fun y => ((Sum.inl y : Key), f y)) (Sum.inl x) v = if x ∈ l then (l.map fun y => ((Sum.inl y : Key), if y = x then v else f y)) else (l.map fun y => ((Sum.inl y : Key), f y)) ++ [(Sum.inl x, v)] := by
  unfold putK
  rw [valV_any, val_map]
  by_cases c : x ∈ l
  · rw [if_pos c, if_pos c, if_pos (show (some (f x)).isSome = true from rfl), List.map_map]
    refine List.map_congr_left fun y _ => ?_
    show (if (Sum.inl y : Key) = Sum.inl x then ((Sum.inl y : Key), v) else (Sum.inl y, f y)) = _
    by_cases d : y = x
    · rw [if_pos d, if_pos (by rw [d])]
    · rw [if_neg d, if_neg (fun e => d (by injection e))]
  · rw [if_neg c, if_neg c, if_neg (by simp)]
noncomputable def kvT (ws : List (Int × Int)) (ns : List Int) : List (Key × V) := (keysT ws ns).map fun x => ((Sum.inl x : Key), V.int (wOf ws ns x))
theorem wOf_snoc (ws : List (Int × Int)) (ns : List Int) (p : Int × Int) (x : Int) : wOf (ws ++ [p]) ns x = wOf ws ns x + (if at_ ns p.2 = x then p.1 else 0) := by
  unfold wOf
  rw [List.map_append, List.sum_append]
  simp
theorem wOf_none {ws : List (Int × Int)} {ns : List Int} {x : Int} (h : x ∉ keysT ws ns) : wOf ws ns x = 0 := by
  unfold wOf
  have : ∀ p ∈ ws, (if at_ ns p.2 = x then p.1 else 0) = 0 := fun p hp => if_neg fun e => h (ded_mem.mpr (List.mem_map.mpr ⟨p, hp, e⟩))
  rw [List.map_congr_left this]
  clear this h
  induction ws with
  | nil => rfl
  | cons _ ws ih => rw [List.map_cons, List.sum_cons, ih]; rfl
theorem kv_step (ws : List (Int × Int)) (ns : List Int) (p : Int × Int) : putK (kvT ws ns) (Sum.inl (at_ ns p.2)) (V.int (wOf ws ns (at_ ns p.2) + p.1)) = kvT (ws ++ [p]) ns := by
  unfold kvT
  have ks : keysT (ws ++ [p]) ns = if at_ ns p.2 ∈ keysT ws ns then keysT ws ns else keysT ws ns ++ [at_ ns p.2] := by
    unfold keysT
    rw [List.map_append]
    exact ded_snoc _ _
  rw [put_map (f := fun x => V.int (wOf ws ns x)), ks]
  by_cases c : at_ ns p.2 ∈ keysT ws ns
  · rw [if_pos c, if_pos c]
    refine List.map_congr_left fun y _ => ?_
    rw [wOf_snoc]
    by_cases d : y = at_ ns p.2
    · rw [if_pos d, if_pos d.symm, d]
    · rw [if_neg d, if_neg (Ne.symm d), Int.add_zero]
  · rw [if_neg c, if_neg c, List.map_append]
    congr 1
    · refine List.map_congr_left fun y hy => ?_
      rw [wOf_snoc, if_neg (fun e => c (by rw [e]; exact hy)), Int.add_zero]
    · show _ = [((Sum.inl (at_ ns p.2) : Key), V.int (wOf (ws ++ [p]) ns (at_ ns p.2)))]
      rw [wOf_snoc, if_pos rfl]
theorem kv_val (ws : List (Int × Int)) (ns : List Int) (x : Int) : ((valV (kvT ws ns) (Sum.inl x)).getD (V.int 0)) = V.int (wOf ws ns x) := by
  unfold kvT
  rw [val_map (f := fun x => V.int (wOf ws ns x))]
  by_cases c : x ∈ keysT ws ns
  · rw [if_pos c]
    rfl
  · rw [if_neg c, wOf_none c]
    rfl
theorem kvT_keys (ws : List (Int × Int)) (ns : List Int) : keysI (kvT ws ns) = keysT ws ns := by
  unfold keysI kvT
  rw [List.map_map]
  exact List.map_id _
theorem kvT_allI (ws : List (Int × Int)) (ns : List Int) : allI (kvT ws ns) := fun p hp => by
  obtain ⟨x, _, rfl⟩ := List.mem_map.mp hp
  exact ⟨x, rfl⟩
theorem kvT_len (ws : List (Int × Int)) (ns : List Int) : (kvT ws ns).length ≤ ws.length := by
  unfold kvT keysT
  rw [List.length_map]
  have := ded_len_le (ws.map fun p => at_ ns p.2)
  rwa [List.length_map] at this
theorem wOf_bd {ws : List (Int × Int)} (ns : List Int) (h : ∀ p ∈ ws, 1 ≤ p.1 ∧ p.1 ≤ 1000000) (x : Int) : 0 ≤ wOf ws ns x ∧ wOf ws ns x ≤ 1000000 * (ws.length : Int) := by
  unfold wOf
  induction ws with
  | nil => simp
  | cons p ws ih =>
    have := ih fun q hq => h q (List.mem_cons_of_mem _ hq)
    have hp := h p List.mem_cons_self
    rw [List.map_cons, List.sum_cons, List.length_cons]
    split <;> omega
theorem wOf_pos {ws : List (Int × Int)} {ns : List Int} (h : ∀ p ∈ ws, 1 ≤ p.1 ∧ p.1 ≤ 1000000) {x : Int} (hx : x ∈ keysT ws ns) : 0 < wOf ws ns x := by
  obtain ⟨p, hp, rfl⟩ := List.mem_map.mp (ded_mem.mp hx)
  clear hx
  induction ws with
  | nil => simp at hp
  | cons q ws ih =>
    have hq := h q List.mem_cons_self
    have bd := (wOf_bd (ws := ws) ns (fun r hr => h r (List.mem_cons_of_mem _ hr)) (at_ ns p.2)).1
    have e : wOf (q :: ws) ns (at_ ns p.2) = (if at_ ns q.2 = at_ ns p.2 then q.1 else 0) + wOf ws ns (at_ ns p.2) := by
      unfold wOf
      rw [List.map_cons, List.sum_cons]
    rw [e]
    rcases List.mem_cons.mp hp with rfl | hp
    · rw [if_pos rfl]
      omega
    · have := ih (fun r hr => h r (List.mem_cons_of_mem _ hr)) hp
      split <;> omega
theorem gfold {ws : List (Int × Int)} {ns : List Int} : ∀ (ks : List Int) (a : Int), 0 < a → 0 < ks.foldl (fun a x => Nm.g a (wOf ws ns x)) a ∧ ks.foldl (fun a x => Nm.g a (wOf ws ns x)) a ≤ a
  | [], a, h => ⟨h, Int.le_refl _⟩
  | k :: ks, a, h => by
    have g0 : 0 < Nm.g a (wOf ws ns k) := by
      have := Nm.g_dvd_l a (wOf ws ns k)
      have n0 : (0 : Int) ≤ Nm.g a (wOf ws ns k) := by unfold Nm.g; omega
      rcases Int.lt_or_eq_of_le n0 with q | q
      · exact q
      · rw [← q] at this
        exact absurd (Int.zero_dvd.mp this) (by omega)
    have g1 : Nm.g a (wOf ws ns k) ≤ a := Int.le_of_dvd h (Nm.g_dvd_l _ _)
    obtain ⟨h1, h2⟩ := gfold (ws := ws) (ns := ns) ks _ g0
    exact ⟨h1, Int.le_trans h2 g1⟩
theorem gcd_bd {ws : List (Int × Int)} {ns : List Int} (h : ∀ p ∈ ws, 1 ≤ p.1 ∧ p.1 ≤ 1000000) (l0 : 0 < ws.length) (l1 : ws.length ≤ 100) : 0 < gcdT ws ns ∧ gcdT ws ns ≤ 100000000 := by
  unfold gcdT
  cases hk : keysT ws ns with
  | nil =>
    cases ws with
    | nil => simp at l0
    | cons p ws =>
      have : at_ ns p.2 ∈ keysT (p :: ws) ns := ded_mem.mpr (List.mem_map.mpr ⟨p, List.mem_cons_self, rfl⟩)
      rw [hk] at this
      simp at this
  | cons k ks =>
    rw [List.foldl_cons]
    have w0 := wOf_pos (ns := ns) h (x := k) (by rw [hk]; exact List.mem_cons_self)
    have w1 := (wOf_bd ns h k).2
    have e : Nm.g 0 (wOf ws ns k) = wOf ws ns k := by
      unfold Nm.g
      rw [Int.gcd_zero_left]
      omega
    rw [e]
    obtain ⟨h1, h2⟩ := gfold (ws := ws) (ns := ns) ks _ w0
    exact ⟨h1, by omega⟩
end Ak
/-! one end changed -/
namespace Ak
open PySem L2
/-- what can be come to -/
inductive Rch (b : List Pl) (s : Int) : Int → Prop
  | here : Rch b s s
  | step {x g : Int} {q : Pl} : Rch b s x → b[x.toNat]? = some q → g ∈ gls q → Rch b s g
theorem Rch.first {b : List Pl} {s g x : Int} {q : Pl} (e : b[s.toNat]? = some q) (hg : g ∈ gls q) (h : Rch b g x) : Rch b s x := by
  induction h with
  | here => exact .step .here e hg
  | step _ e2 h2 ih => exact .step ih e2 h2
theorem take_at {ns : List Int} {n : Nat} {g : Int} (g0 : 0 ≤ g) (g1 : g < (n : Nat)) (h : n ≤ ns.length) : ns[g.toNat]? = some (at_ (ns.take n) g) := by
  unfold at_
  rw [List.getD_eq_getElem?_getD, List.getElem?_take, if_pos (by omega), List.getElem?_eq_getElem (by omega)]
  rfl
theorem drop_at {ns : List Int} {n m : Nat} {g : Int} (g0 : 0 ≤ g) (g1 : g < (m : Nat)) (h : ns.length = n + m) : ns[n + g.toNat]? = some (at_ (ns.drop n) g) := by
  unfold at_
  rw [List.getD_eq_getElem?_getD, List.getElem?_drop, List.getElem?_eq_getElem (by omega)]
  rfl
/-- no place is alike to an end that no board has -/
theorem new_end {b : List Pl} {a i m : Nat} {t : Int} (hs : ∀ q ∈ b, ∀ g, q = .fin g → g.1 ≤ 1) (ht : 5 ≤ t) (ha : a < b.length) (hi : i < b.length) : (Rq b (b.set a (.fin (t, 1))) m)[i]? ≠ (Rq b (b.set a (.fin (t, 1))) m)[b.length + a]? := fun e => by
  have l : (b.set a (.fin (t, 1))).length = b.length := List.length_set
  have z := Rq_ref0 b (b.set a (.fin (t, 1))) m i (b.length + a) e (by rw [Rq_len, l]; omega) (by rw [Rq_len, l]; omega)
  have ei : b[i]? = some b[i] := List.getElem?_eq_getElem hi
  have e1 : (((b ++ b.set a (.fin (t, 1))).map mk0).map toP)[i]? = some (toP (mk0 b[i])) := by
    rw [List.getElem?_map, List.getElem?_map, List.getElem?_append_left hi, ei]
    rfl
  have e2 : (((b ++ b.set a (.fin (t, 1))).map mk0).map toP)[b.length + a]? = some (toP (mk0 (.fin (t, 1)))) := by
    rw [List.getElem?_map, List.getElem?_map, List.getElem?_append_right (by omega), Nat.add_sub_cancel_left, List.getElem?_set_self ha]
    rfl
  rw [Rq] at z
  have q := toP_inj _ _ ((numb_eq e1 e2).mp z)
  have mb : b[i] ∈ b := List.getElem_mem hi
  cases hq : b[i] with
  | fin g =>
    rw [hq] at q
    have := hs _ mb g hq
    unfold mk0 wrowD at q
    injection q with q
    injection q with _ q
    injection q with q
    injection q with q
    injection q with q _
    injection q with q
    have q : g.1 = t := q
    omega
  | thr g ws =>
    rw [hq] at q
    unfold mk0 at q
    injection q with q
    injection q with q
    injection q with q
    exact absurd q (by decide +kernel)
  | pck w to =>
    rw [hq] at q
    unfold mk0 at q
    injection q with q
    injection q with q
    injection q with q
    exact absurd q (by decide +kernel)
/-- a place that leads to the changed end is changed -/
theorem leads {b : List Pl} {a i m : Nat} {t : Int} {q : Pl} (hs : ∀ q ∈ b, ∀ g, q = .fin g → g.1 ≤ 1) (gr : ∀ q ∈ b, ∀ g ∈ gls q, 0 ≤ g ∧ g < (b.length : Nat)) (ht : 5 ≤ t) (ha : a < b.length) (hq : b[i]? = some q) (hne : i ≠ a) (hg : (a : Int) ∈ gls q)
    (hl : Last b (b.set a (.fin (t, 1))) m) : (Rq b (b.set a (.fin (t, 1))) m)[i]? ≠ (Rq b (b.set a (.fin (t, 1))) m)[b.length + i]? := fun e => by
  have l : (b.set a (.fin (t, 1))).length = b.length := List.length_set
  have hi := (List.getElem?_eq_some_iff.mp hq).1
  have rl := Rq_len b (b.set a (.fin (t, 1))) m
  have hq2 : (b.set a (.fin (t, 1)))[i]? = some q := by rw [List.getElem?_set_ne (Ne.symm hne)]; exact hq
  have e1 : (Rq b (b.set a (.fin (t, 1))) m)[i]? = some ((Rq b (b.set a (.fin (t, 1))) m)[i]'(by omega)) := List.getElem?_eq_getElem (by omega)
  have st := last_stable hl e (both_l rl hq e1) (both_r rl hq2 (e ▸ e1))
  obtain ⟨g', h1, h2⟩ := tail_keys (mkD_inj st).2 hg
  have g1 := gr q (List.mem_of_getElem? hq) g' h1
  have t1 := take_at (ns := Rq b (b.set a (.fin (t, 1))) m) (n := b.length) g1.1 g1.2 (by omega)
  have t2 := drop_at (ns := Rq b (b.set a (.fin (t, 1))) m) (n := b.length) (m := (b.set a (.fin (t, 1))).length) (g := (a : Int)) (by omega) (by omega) rl
  rw [Int.toNat_natCast, ← h2, ← t1] at t2
  exact new_end hs ht ha (show g'.toNat < b.length by omega) t2.symm
end Ak
/-! numbers lumped together: what is alike by any stable numbering is alike -/
namespace Ak
open PySem L2
theorem at_map {ns : List Int} {φ : Int → Int} {g : Int} (g0 : 0 ≤ g) (g1 : g < (ns.length : Nat)) : at_ (ns.map φ) g = φ (at_ ns g) := by
  unfold at_
  rw [List.getD_eq_getElem?_getD, List.getD_eq_getElem?_getD, List.getElem?_map, List.getElem?_eq_getElem (show g.toNat < ns.length by omega)]
  rfl
theorem g_mul {k a b : Int} (h : 0 ≤ k) : Nm.g (k * a) (k * b) = k * Nm.g a b := by
  unfold Nm.g
  rw [Int.gcd_mul_left, Int.natCast_mul]
  congr 1
  omega
theorem gf_mul {k : Int} (h : 0 ≤ k) (F : Int → Int) : ∀ (l : List Int) (a : Int), l.foldl (fun a x => Nm.g a (k * F x)) (k * a) = k * l.foldl (fun a x => Nm.g a (F x)) a
  | [], a => rfl
  | x :: l, a => by
    rw [List.foldl_cons, List.foldl_cons, g_mul h]
    exact gf_mul h F l _
theorem g_rc (a x y : Int) : Nm.g (Nm.g a x) y = Nm.g (Nm.g a y) x := by
  unfold Nm.g
  rw [Int.gcd_assoc, Int.gcd_comm x y, ← Int.gcd_assoc]
theorem gf_perm {F : Int → Int} {l m : List Int} (p : l.Perm m) : ∀ a, l.foldl (fun a x => Nm.g a (F x)) a = m.foldl (fun a x => Nm.g a (F x)) a := by
  induction p with
  | nil => intro a; rfl
  | cons x _ ih => intro a; rw [List.foldl_cons, List.foldl_cons]; exact ih _
  | swap x y l => intro a; rw [List.foldl_cons, List.foldl_cons, List.foldl_cons, List.foldl_cons, g_rc]
  | trans _ _ h1 h2 => intro a; rw [h1, h2]
/-- the fold of gcds divides what it folds -/
theorem gf_dvd {F : Int → Int} : ∀ (l : List Int) (a : Int), l.foldl (fun a x => Nm.g a (F x)) a ∣ a ∧ ∀ x ∈ l, l.foldl (fun a x => Nm.g a (F x)) a ∣ F x
  | [], a => ⟨Int.dvd_refl _, by simp⟩
  | x :: l, a => by
    obtain ⟨h1, h2⟩ := gf_dvd (F := F) l (Nm.g a (F x))
    rw [List.foldl_cons]
    refine ⟨Int.dvd_trans h1 (Nm.g_dvd_l _ _), fun y hy => ?_⟩
    rcases List.mem_cons.mp hy with rfl | hy
    · exact Int.dvd_trans h1 (Nm.g_dvd_r _ _)
    · exact h2 y hy
/-- the weight of a lump is the sum of the weights of its numbers -/
theorem wOf_lump {ws : List (Int × Int)} {ns : List Int} {φ : Int → Int} (h : ∀ p ∈ ws, 0 ≤ p.2 ∧ p.2 < (ns.length : Nat)) (y : Int) : ∀ (K : List Int), K.Nodup → (∀ p ∈ ws, at_ ns p.2 ∈ K) → wOf ws (ns.map φ) y = (K.map fun x => if φ x = y then wOf ws ns x else 0).sum := by
  induction ws with
  | nil =>
    intro K _ _
    have : ∀ K : List Int, (K.map fun x => if φ x = y then wOf [] ns x else 0).sum = 0 := by
      intro K
      induction K with
      | nil => rfl
      | cons x K ih =>
        rw [List.map_cons, List.sum_cons, ih]
        split <;> rfl
    rw [this]
    rfl
  | cons p ws ih =>
    intro K nd hK
    have ih := ih (fun q hq => h q (List.mem_cons_of_mem _ hq)) K nd fun q hq => hK q (List.mem_cons_of_mem _ hq)
    have hp := h p List.mem_cons_self
    have pK := hK p List.mem_cons_self
    have e1 : wOf (p :: ws) (ns.map φ) y = (if φ (at_ ns p.2) = y then p.1 else 0) + wOf ws (ns.map φ) y := by
      unfold wOf
      rw [List.map_cons, List.sum_cons, at_map hp.1 hp.2]
    have e2 : ∀ x, wOf (p :: ws) ns x = (if at_ ns p.2 = x then p.1 else 0) + wOf ws ns x := fun x => by
      unfold wOf
      rw [List.map_cons, List.sum_cons]
    rw [e1, ih]
    clear ih e1 hK h
    induction K with
    | nil => simp at pK
    | cons x K ihK =>
      obtain ⟨hx, nd'⟩ := List.nodup_cons.mp nd
      rw [List.map_cons, List.map_cons, List.sum_cons, List.sum_cons]
      by_cases c : at_ ns p.2 = x
      · subst c
        have rest : (K.map fun x => if φ x = y then wOf (p :: ws) ns x else 0) = K.map fun x => if φ x = y then wOf ws ns x else 0 := by
          refine List.map_congr_left fun z hz => ?_
          have ez : wOf (p :: ws) ns z = wOf ws ns z := by rw [e2 z, if_neg (fun e => hx (by rw [e]; exact hz)), Int.zero_add]
          rw [ez]
        rw [rest, e2, if_pos rfl]
        split <;> omega
      · have mK : at_ ns p.2 ∈ K := by
          rcases List.mem_cons.mp pK with e | e
          · exact absurd e c
          · exact e
        have := ihK nd' mK
        rw [e2 x, if_neg c, Int.zero_add]
        omega
theorem sum_mul (k : Int) (f : Int → Int) : ∀ (K : List Int) (P : Int → Prop) [DecidablePred P], (K.map fun x => if P x then k * f x else 0).sum = k * (K.map fun x => if P x then f x else 0).sum
  | [], _, _ => by simp
  | x :: K, P, _ => by
    rw [List.map_cons, List.map_cons, List.sum_cons, List.sum_cons, sum_mul k f K P, Int.mul_add]
    split
    · rfl
    · rw [Int.mul_zero]
/-- what a throw's mark says -/
theorem tmk_eq {ws vs : List (Int × Int)} {ns ms : List Int} (h : tmk ws ns = tmk vs ms) : (keysT ws ns).Perm (keysT vs ms) ∧ ∃ c : Int → Int, ∀ x ∈ keysT ws ns, wOf ws ns x = gcdT ws ns * c x ∧ wOf vs ms x = gcdT vs ms * c x := by
  have key : ∀ (l m : List Int) (f g : Int → Int), (l.map fun x => (x, f x)) = (m.map fun x => (x, g x)) → l = m ∧ ∀ x ∈ l, f x = g x := by
    intro l
    induction l with
    | nil => intro m f g e; cases m with | nil => exact ⟨rfl, by simp⟩ | cons _ _ => simp at e
    | cons x l ih =>
      intro m f g e
      cases m with
      | nil => simp at e
      | cons y m =>
        rw [List.map_cons, List.map_cons] at e
        injection e with e1 e2
        injection e1 with e1 e3
        subst e1
        obtain ⟨h1, h2⟩ := ih m f g e2
        refine ⟨by rw [h1], fun z hz => ?_⟩
        rcases List.mem_cons.mp hz with rfl | hz
        · exact e3
        · exact h2 z hz
  unfold tmk at h
  obtain ⟨h1, h2⟩ := key _ _ _ _ h
  have pm : (keysT ws ns).Perm (keysT vs ms) := (Nm.srt_perm _).symm.trans ((by rw [h1] : (Nm.srt (keysT ws ns)).Perm (Nm.srt (keysT vs ms))).trans (Nm.srt_perm _))
  refine ⟨pm, fun x => wOf ws ns x / gcdT ws ns, fun x hx => ⟨?_, ?_⟩⟩
  · exact (Int.mul_ediv_cancel' ((gf_dvd (F := wOf ws ns) (keysT ws ns) 0).2 x hx)).symm
  · show _ = gcdT vs ms * (wOf ws ns x / gcdT ws ns)
    rw [h2 x (Nm.srt_mem.mpr hx)]
    exact (Int.mul_ediv_cancel' ((gf_dvd (F := wOf vs ms) (keysT vs ms) 0).2 x (pm.mem_iff.mp hx))).symm
theorem rows_inj : ∀ {xs ys : List (Int × Int)}, xs.map wrowD = ys.map wrowD → xs = ys
  | [], [], _ => rfl
  | [], _ :: _, e => by simp at e
  | _ :: _, [], e => by simp at e
  | x :: xs, y :: ys, e => by
    rw [List.map_cons, List.map_cons] at e
    injection e with e1 e2
    unfold wrowD at e1
    injection e1 with e1
    injection e1 with e1 e3
    injection e1 with e1
    injection e3 with e3
    injection e3 with e3
    rw [rows_inj e2, Prod.ext e1 e3]
theorem ints_inj : ∀ {xs ys : List Int}, xs.map Dat.int = ys.map Dat.int → xs = ys
  | [], [], _ => rfl
  | [], _ :: _, e => by simp at e
  | _ :: _, [], e => by simp at e
  | x :: xs, y :: ys, e => by
    rw [List.map_cons, List.map_cons] at e
    injection e with e1 e2
    injection e1 with e1
    rw [ints_inj e2, e1]
theorem nodup_perm {l m : List Int} (h1 : l.Nodup) (h2 : m.Nodup) (h : ∀ x, x ∈ l ↔ x ∈ m) : l.Perm m := by
  obtain ⟨r, p⟩ := nodup_sub h1 fun x hx => (h x).mp hx
  obtain ⟨r', p'⟩ := nodup_sub h2 fun x hx => (h x).mpr hx
  have a := p.length_eq
  have b := p'.length_eq
  rw [List.length_append] at a b
  have : r = [] := List.length_eq_zero_iff.mp (by omega)
  subst this
  rw [List.append_nil] at p
  exact p.symm
theorem keys_lump {ws : List (Int × Int)} {ns : List Int} {φ : Int → Int} (h : ∀ p ∈ ws, 0 ≤ p.2 ∧ p.2 < (ns.length : Nat)) (y : Int) : y ∈ keysT ws (ns.map φ) ↔ ∃ x ∈ keysT ws ns, φ x = y := by
  constructor
  · intro hy
    obtain ⟨p, hp, e⟩ := List.mem_map.mp (ded_mem.mp hy)
    rw [at_map (h p hp).1 (h p hp).2] at e
    exact ⟨_, ded_mem.mpr (List.mem_map.mpr ⟨p, hp, rfl⟩), e⟩
  · rintro ⟨x, hx, rfl⟩
    obtain ⟨p, hp, e⟩ := List.mem_map.mp (ded_mem.mp hx)
    refine ded_mem.mpr (List.mem_map.mpr ⟨p, hp, ?_⟩)
    rw [at_map (h p hp).1 (h p hp).2, e]
theorem tmk_lump {ws vs : List (Int × Int)} {ns ms : List Int} {φ : Int → Int} (hq : ∀ p ∈ ws, 0 ≤ p.2 ∧ p.2 < (ns.length : Nat)) (hr : ∀ p ∈ vs, 0 ≤ p.2 ∧ p.2 < (ms.length : Nat)) (h : tmk ws ns = tmk vs ms) (g1 : 0 < gcdT ws ns) (g2 : 0 < gcdT vs ms) : tmk ws (ns.map φ) = tmk vs (ms.map φ) := by
  obtain ⟨pm, c, hc⟩ := tmk_eq h
  have nd : (keysT ws ns).Nodup := ded_nodup _
  have w1 : ∀ y, wOf ws (ns.map φ) y = gcdT ws ns * ((keysT ws ns).map fun x => if φ x = y then c x else 0).sum := fun y => by
    rw [wOf_lump hq y (keysT ws ns) nd fun p hp => ded_mem.mpr (List.mem_map.mpr ⟨p, hp, rfl⟩), ← sum_mul (gcdT ws ns) c (keysT ws ns) (fun x => φ x = y)]
    congr 1
    exact List.map_congr_left fun x hx => by rw [(hc x hx).1]
  have w2 : ∀ y, wOf vs (ms.map φ) y = gcdT vs ms * ((keysT ws ns).map fun x => if φ x = y then c x else 0).sum := fun y => by
    rw [wOf_lump hr y (keysT ws ns) nd fun p hp => pm.mem_iff.mpr (ded_mem.mpr (List.mem_map.mpr ⟨p, hp, rfl⟩)), ← sum_mul (gcdT vs ms) c (keysT ws ns) (fun x => φ x = y)]
    congr 1
    exact List.map_congr_left fun x hx => by rw [(hc x hx).2]
  generalize hC : (fun y => ((keysT ws ns).map fun x => if φ x = y then c x else 0).sum) = C at *
  have w1 : ∀ y, wOf ws (ns.map φ) y = gcdT ws ns * C y := fun y => by rw [w1, ← hC]
  have w2 : ∀ y, wOf vs (ms.map φ) y = gcdT vs ms * C y := fun y => by rw [w2, ← hC]
  have pk : (keysT ws (ns.map φ)).Perm (keysT vs (ms.map φ)) := nodup_perm (ded_nodup _) (ded_nodup _) fun y => by
    rw [keys_lump hq, keys_lump hr]
    constructor
    · rintro ⟨x, hx, e⟩
      exact ⟨x, pm.mem_iff.mp hx, e⟩
    · rintro ⟨x, hx, e⟩
      exact ⟨x, pm.mem_iff.mpr hx, e⟩
  have d1 : gcdT ws (ns.map φ) = gcdT ws ns * (keysT ws (ns.map φ)).foldl (fun a x => Nm.g a (C x)) 0 := by
    rw [← gf_mul (Int.le_of_lt g1) C, Int.mul_zero]
    unfold gcdT
    simp only [w1]
    rfl
  have d2 : gcdT vs (ms.map φ) = gcdT vs ms * (keysT ws (ns.map φ)).foldl (fun a x => Nm.g a (C x)) 0 := by
    rw [gf_perm pk, ← gf_mul (Int.le_of_lt g2) C, Int.mul_zero]
    unfold gcdT
    simp only [w2]
    rfl
  unfold tmk
  rw [Nm.srt_congr pk]
  refine List.map_congr_left fun y _ => ?_
  rw [w1, w2, d1, d2, Int.mul_ediv_mul_of_pos _ _ g1, Int.mul_ediv_mul_of_pos _ _ g2]
/-- marks that are alike stay alike when numbers are lumped together -/
theorem lump {ns ms : List Int} {q r : Pl} {φ : Int → Int} (hq : ∀ g ∈ gls q, 0 ≤ g ∧ g < (ns.length : Nat)) (hr : ∀ g ∈ gls r, 0 ≤ g ∧ g < (ms.length : Nat)) (k0 : mk0 q = mk0 r) (h : tailD ns q = tailD ms r)
    (gq : ∀ w ws, q = .thr w ws → 0 < gcdT ws ns) (gr : ∀ w ws, r = .thr w ws → 0 < gcdT ws ms) : tailD (ns.map φ) q = tailD (ms.map φ) r := by
  have kinds : ∀ {a b : Str} {x y : Dat}, Dat.tup [.str a, x] = Dat.tup [.str b, y] → a = b := fun e => by
    injection e with e
    injection e with e
    injection e
  cases q with
  | fin g =>
    cases r with
    | fin g' => rfl
    | thr g' vs => exact absurd (kinds k0) (by decide +kernel)
    | pck w to => exact absurd (kinds k0) (by decide +kernel)
  | thr g ws =>
    cases r with
    | fin g' => exact absurd (kinds k0) (by decide +kernel)
    | thr g' vs =>
      have h : Dat.tup ((tmk ws ns).map wrowD) = Dat.tup ((tmk vs ms).map wrowD) := h
      injection h with h
      show Dat.tup ((tmk ws (ns.map φ)).map wrowD) = Dat.tup ((tmk vs (ms.map φ)).map wrowD)
      rw [tmk_lump (fun p hp => hq p.2 (List.mem_map.mpr ⟨p, hp, rfl⟩)) (fun p hp => hr p.2 (List.mem_map.mpr ⟨p, hp, rfl⟩)) (rows_inj h) (gq _ _ rfl) (gr _ _ rfl)]
    | pck w to => exact absurd (kinds k0) (by decide +kernel)
  | pck w to =>
    cases r with
    | fin g' => exact absurd (kinds k0) (by decide +kernel)
    | thr g' vs => exact absurd (kinds k0) (by decide +kernel)
    | pck w' to' =>
      have h : Dat.tup ((Nm.srt (ded (to.map (at_ ns)))).map Dat.int) = Dat.tup ((Nm.srt (ded (to'.map (at_ ms)))).map Dat.int) := h
      injection h with h
      have h := ints_inj h
      have mem : ∀ x, x ∈ to.map (at_ ns) ↔ x ∈ to'.map (at_ ms) := fun x => by
        rw [← ded_mem (ns := to.map (at_ ns)), ← ded_mem (ns := to'.map (at_ ms)), ← Nm.srt_mem (l := ded (to.map (at_ ns))), h, Nm.srt_mem]
      show Dat.tup ((Nm.srt (ded (to.map (at_ (ns.map φ))))).map Dat.int) = Dat.tup ((Nm.srt (ded (to'.map (at_ (ms.map φ))))).map Dat.int)
      have e1 : to.map (at_ (ns.map φ)) = (to.map (at_ ns)).map φ := by
        rw [List.map_map]
        exact List.map_congr_left fun g hg => at_map (hq g hg).1 (hq g hg).2
      have e2 : to'.map (at_ (ms.map φ)) = (to'.map (at_ ms)).map φ := by
        rw [List.map_map]
        exact List.map_congr_left fun g hg => at_map (hr g hg).1 (hr g hg).2
      rw [e1, e2, Nm.srt_congr (nodup_perm (ded_nodup _) (ded_nodup _) fun y => ?_)]
      rw [ded_mem, ded_mem, List.mem_map, List.mem_map]
      constructor
      · rintro ⟨x, hx, e⟩
        exact ⟨x, (mem x).mp hx, e⟩
      · rintro ⟨x, hx, e⟩
        exact ⟨x, (mem x).mpr hx, e⟩
/-- a numbering under which alike numbers have alike marks -/
noncomputable def Stb (b c : List Pl) (N : List Int) : Prop := N.length = b.length + c.length ∧ ∀ i j : Nat, i < N.length → j < N.length → N[i]? = N[j]? → ((b ++ c).map mk0)[i]? = ((b ++ c).map mk0)[j]? ∧ (both b c N)[i]? = (both b c N)[j]?
/-- boards whose ways lie on them -/
noncomputable def Brd (b : List Pl) : Prop := ∀ q ∈ b, (∀ g ∈ gls q, 0 ≤ g ∧ g < (b.length : Nat)) ∧ ∀ w ws, q = .thr w ws → 0 < ws.length ∧ ws.length ≤ 100 ∧ ∀ p ∈ ws, 1 ≤ p.1 ∧ p.1 ≤ 1000000
theorem Brd.gcd {b : List Pl} (h : Brd b) {q : Pl} (hq : q ∈ b) (ns : List Int) : ∀ w ws, q = .thr w ws → 0 < gcdT ws ns := fun w ws e => (gcd_bd ((h q hq).2 w ws e).2.2 ((h q hq).2 w ws e).1 ((h q hq).2 w ws e).2.1).1
/-- the numbers that a place of two boards looks at -/
noncomputable def sel (b : List Pl) (i : Nat) (N : List Int) : List Int := if i < b.length then N.take b.length else N.drop b.length
end Ak
/-! alike within one board, and between two -/
namespace Ak
open PySem L2
/-- what a throw weighs in all -/
noncomputable def tot (ws : List (Int × Int)) : Int := (ws.map (·.1)).sum
end Ak
/-! a round told place by place: one board behind the other -/
namespace Ak
open PySem L2
noncomputable def shf (m : Int) : Pl → Pl
  | .fin g => .fin g
  | .thr g ws => .thr g (ws.map fun p => (p.1, p.2 + m))
  | .pck w to => .pck w (to.map fun g => g + m)
/-- all places, one board behind the other -/
noncomputable def beh (b c : List Pl) : List Pl := b ++ c.map (shf (b.length : Int))
/-- numbers by the order of first meeting, one by one -/
theorem lk_app : ∀ {D E : List PyData} {k : PyData} {n : Int}, k ∈ D → lk (D ++ E) k n = lk D k n
  | [], _, _, _, h => by simp at h
  | d :: D, E, k, n, h => by
    rw [List.cons_append, lk, lk]
    by_cases c : d = k
    · rw [if_pos c, if_pos c]
    · rw [if_neg c, if_neg c]
      rcases List.mem_cons.mp h with rfl | h
      · exact absurd rfl c
      · exact lk_app h
theorem lk_last : ∀ {D : List PyData} {k : PyData} {n : Int}, k ∉ D → lk (D ++ [k]) k n = some (n + (D.length : Int))
  | [], k, n, _ => by rw [List.nil_append, lk, if_pos rfl]; simp
  | d :: D, k, n, h => by
    rw [List.cons_append, lk, if_neg (fun z => h (by rw [z]; exact List.mem_cons_self)), lk_last (fun z => h (List.mem_cons_of_mem _ z)), List.length_cons]
    congr 1
    omega
theorem dd_app (a ks es : List PyData) : ∃ E, dd a (ks ++ es) = dd a ks ++ E := by
  induction es generalizing ks with
  | nil => exact ⟨[], by rw [List.append_nil, List.append_nil]⟩
  | cons e es ih =>
    obtain ⟨E, hE⟩ := ih (ks ++ [e])
    rw [List.append_assoc, List.singleton_append] at hE
    rw [hE, dd_snoc]
    split
    · exact ⟨E, rfl⟩
    · exact ⟨[e] ++ E, by rw [List.append_assoc]⟩
/-- what the next one is numbered -/
theorem numb_next {ks : List PyData} {i : Nat} {k : PyData} (h : ks[i]? = some k) : (numb ks)[i]? = some (if k ∈ dd [] (ks.take i) then (lk (dd [] (ks.take i)) k 0).getD 0 else ((dd [] (ks.take i)).length : Int)) := by
  have tk : ks.take (i + 1) = ks.take i ++ [k] := by rw [List.take_add_one, h]; rfl
  have sp : ks = ks.take (i + 1) ++ ks.drop (i + 1) := (List.take_append_drop _ _).symm
  obtain ⟨E, hE⟩ := dd_app [] (ks.take (i + 1)) (ks.drop (i + 1))
  rw [← sp] at hE
  obtain ⟨x, h1, h2, h3⟩ := numb_at h
  rw [h1]
  have mem : k ∈ dd [] (ks.take (i + 1)) := by
    rw [dd_mem, tk]
    exact .inr (List.mem_append_right _ List.mem_cons_self)
  rw [hE, lk_app mem] at h2
  rw [tk, dd_snoc] at h2
  by_cases c : k ∈ dd [] (ks.take i)
  · rw [if_pos c] at h2
    rw [if_pos c, h2]
    rfl
  · rw [if_neg c, lk_last c, Int.zero_add] at h2
    rw [if_neg c]
    exact h2.symm
end Ak
namespace K70
open PySem PySem.Spec PyProof.Rows L2
set_option maxHeartbeats 4000000
local macro_rules | `(tactic| simp_all only [$ls,*]) => `(tactic| simp only [L2.start, Pr, tRev, tLR, tMaxD, tSortR, tD1, tDPop1, tSl, tNoPart, tPart, rSlL, tDIn, tDNotIn, gSub, rSetL, tLst, tDNewK, tComp, L2.stC, tFor_eq, iList, iTup, iRng1, iRng2, iZip, iEnum, iDict, iStr, tChain, tSumV, tBM, rJoin, tJoined, jNil, jLit, jInt, jStr, tRaise, tDGet, tDGet2, tDGet1, sDPut, Option.join_some, List.getElem?_nil,  tSeq, tRet, tRetN, tIfS, tTest, tB, tOp, tUn, tVar, tC, tCB, tCons, tNil, tCall, tTupS, tAsg, gName, gNil, gCons, tPar, tNext, tDrop, tAnd, tOr, tNot, tAndV, tOrV, tNotV, tIf, rI, rI0, rU, rIxTH, rIxLH, rEqT, rNeT, rInT, rEq, rNe, scal, CPow, at0, at1, at2, List.map_cons, List.map_nil, List.length_cons, List.length_nil, Nat.reduceSub, Nat.reduceAdd, Nat.zero_add, List.replicate_zero, List.reduceReplicate, List.append_nil, List.nil_append, List.cons_append, List.getElem?_cons_zero, List.getElem?_cons_succ, List.set_cons_zero, List.set_cons_succ, Option.some.injEq, exists_eq_left', exists_eq_left, V.ref.injEq, V.int.injEq, V.bl.injEq, V.str.injEq, V.ty.injEq, HO.tup.injEq, HO.lst.injEq, List.cons.injEq, and_true, true_and, and_assoc, exists_and_left, decide_eq_true_eq, Bool.not_eq_true', decide_eq_false_iff_not, ite_true, ite_false, if_true, if_false, Int.reduceToNat, eq_self_iff_true, $ls,*])
seal L2.PE L2.PT L2.PW L2.PA L2.PS L2.PSs L2.PG L2.PGs L2.PI L2.PTs L2.PO L2.OpR L2.UnR L2.CallR L2.IxR L2.SlR L2.MtR L2.MtM
theorem strictP {P : Program} {w : World} : Strict (CX1 P w) := strict1 P w
noncomputable def top (i : Nat) : Stmt := PySem.Challenge.pw_pressluck_k70_round_nought.main.body.getD i (.Pass ⟨0, 0, 0, 0⟩)
structure Txt (K : PySem.W.Frag) (mg : Str → Option Value) : Prop where
  z_abs : mg "abs" = none
  z_bool : mg "bool" = none
  z_int : mg "int" = none
  z_isinstance : mg "isinstance" = none
  z_len : mg "len" = none
  z_list : mg "list" = none
  z_range : mg "range" = none
  z_set : mg "set" = none
  z_sorted : mg "sorted" = none
  z_tuple : mg "tuple" = none
  z_zip : mg "zip" = none
  d_common_divisor : Dn K mg "common_divisor" (top 1)
  d_numbered : Dn K mg "numbered" (top 3)
  d_throw_mark : Dn K mg "throw_mark" (top 4)
  d_mark_of : Dn K mg "mark_of" (top 5)
  d_marks_of : Dn K mg "marks_of" (top 6)
  d_next_round : Dn K mg "next_round" (top 7)
  d_rounds : Dn K mg "rounds" (top 8)
  d__law_cell : Dn K mg "_law_cell" (top 10)
  d__law_mixed : Dn K mg "_law_mixed" (top 11)
  d__law_divisor : Dn K mg "_law_divisor" (top 12)
  d__law_share : Dn K mg "_law_share" (top 13)
  d__law_place : Dn K mg "_law_place" (top 14)
  d__law_board : Dn K mg "_law_board" (top 15)
  d__law_copy : Dn K mg "_law_copy" (top 16)
  d__law_numbers : Dn K mg "_law_numbers" (top 17)
  d__law_due : Dn K mg "_law_due" (top 18)
/-! ### what the defs of alike promise -/
/-- a place whose ways lie on a board of n -/
noncomputable def PkN (n : Int) : Pl → Prop
  | .fin _ => True
  | .thr _ ws => 0 < ws.length ∧ ws.length ≤ 100 ∧ ∀ p ∈ ws, 1 ≤ p.1 ∧ p.1 ≤ 1000000 ∧ 0 ≤ p.2 ∧ p.2 < n
  | .pck _ to => to.length ≤ 100 ∧ ∀ g ∈ to, 0 ≤ g ∧ g < n
theorem PkN.gls {n : Int} {q : Pl} (h : PkN n q) : ∀ g ∈ Ak.gls q, 0 ≤ g ∧ g < n := fun g hg => by
  cases q with
  | fin w => simp [Ak.gls] at hg
  | thr w ws =>
    obtain ⟨p, hp, rfl⟩ := List.mem_map.mp hg
    exact (h.2.2 p hp).2.2
  | pck w to => exact h.2 g hg
/-- a key -/
noncomputable def Hk (d : Dat) : Prop := hsh (toP d) = true ∧ (toP d).depth ≤ 8 ∧ ∃ l, d = .tup l
theorem hk_mk0 (q : Pl) : Hk (Ak.mk0 q) := by
  cases q with
  | fin g => exact ⟨by simp [Ak.mk0, wrowD, toP, toPL, hsh, hshL]; rw [PyData.canLay0]; decide +kernel, by simp [Ak.mk0, wrowD, toP, toPL, PyData.depth, PyData.depthAll], _, rfl⟩
  | thr g ws => exact ⟨by simp [Ak.mk0, wrowD, toP, toPL, hsh, hshL]; rw [PyData.canLay0]; decide +kernel, by simp [Ak.mk0, wrowD, toP, toPL, PyData.depth, PyData.depthAll], _, rfl⟩
  | pck w to => exact ⟨by simp [Ak.mk0, toP, toPL, hsh, hshL]; rw [PyData.canLay0]; decide +kernel, by simp [Ak.mk0, toP, toPL, PyData.depth, PyData.depthAll], _, rfl⟩
theorem hk_rows : ∀ (xs : List (Int × Int)), hshL (toPL (xs.map wrowD)) = true ∧ PyData.depthAll (toPL (xs.map wrowD)) ≤ 1
  | [] => ⟨by simp [toPL, hshL], by simp [toPL, PyData.depthAll]⟩
  | x :: xs => by
    obtain ⟨h1, h2⟩ := hk_rows xs
    refine ⟨?_, ?_⟩
    · rw [List.map_cons, toPL, hshL, h1]
      simp [wrowD, toP, toPL, hsh, hshL]
    · rw [List.map_cons, toPL, PyData.depthAll]
      have : (toP (wrowD x)).depth = 1 := by simp [wrowD, toP, toPL, PyData.depth, PyData.depthAll]
      omega
theorem hk_ints : ∀ (xs : List Int), hshL (toPL (xs.map Dat.int)) = true ∧ PyData.depthAll (toPL (xs.map Dat.int)) ≤ 1
  | [] => ⟨by simp [toPL, hshL], by simp [toPL, PyData.depthAll]⟩
  | x :: xs => by
    obtain ⟨h1, h2⟩ := hk_ints xs
    refine ⟨?_, ?_⟩
    · rw [List.map_cons, toPL, hshL, h1]
      simp [toP, hsh]
    · rw [List.map_cons, toPL, PyData.depthAll]
      have : (toP (Dat.int x)).depth = 0 := by simp [toP, PyData.depth]
      omega
theorem hk_mk (ns : List Int) (q : Pl) (n : Int) : Hk (Ak.mkD ns q n) := by
  have key : ∀ l : List Dat, hshL (toPL l) = true → PyData.depthAll (toPL l) ≤ 1 → Hk (.tup [.int n, .tup l]) := fun l h1 h2 => by
    refine ⟨?_, ?_, _, rfl⟩
    · simp [toP, toPL, hsh, hshL, h1]
    · simp [toP, toPL, PyData.depth, PyData.depthAll]
      omega
  cases q with
  | fin g => exact key [] (by simp [toPL, hshL]) (by simp [toPL, PyData.depthAll])
  | thr g ws => exact key _ (hk_rows _).1 (hk_rows _).2
  | pck w to => exact key _ (hk_ints _).1 (hk_ints _).2
/-- the rows of numbers: the keys in their order, numbered -/
noncomputable def RowsAre : Rows → List PyData → Int → Prop
  | [], [], _ => True
  | e :: ks, k :: D, n => toP e.1 = k ∧ e.2.2 = n ∧ RowsAre ks D (n + 1)
  | _, _, _ => False
theorem RowsAre.look : ∀ {ks : Rows} {D : List PyData} {n : Int} {k : PyData}, RowsAre ks D n → lookN ks k = Ak.lk D k n
  | [], [], _, _, _ => rfl
  | e :: ks, d :: D, n, k, ⟨h1, h2, h3⟩ => by
    have ih := RowsAre.look (k := k) h3
    unfold lookN at ih ⊢
    rw [List.find?_cons, Ak.lk]
    by_cases c : d = k
    · rw [if_pos c, decide_eq_true (h1.trans c), ← h2]
      rfl
    · rw [if_neg c, decide_eq_false (fun z => c (h1.symm.trans z)), ← ih]
theorem RowsAre.len : ∀ {ks : Rows} {D : List PyData} {n : Int}, RowsAre ks D n → ks.length = D.length
  | [], [], _, _ => rfl
  | _ :: ks, _ :: D, n, ⟨_, _, h⟩ => by rw [List.length_cons, List.length_cons, RowsAre.len h]
theorem RowsAre.snoc : ∀ {ks : Rows} {D : List PyData} {n : Int} {d : Dat} {b : Addr}, RowsAre ks D n → RowsAre (ks ++ [(d, b, n + (ks.length : Int))]) (D ++ [toP d]) n
  | [], [], n, d, b, _ => ⟨rfl, by simp, trivial⟩
  | e :: ks, k :: D, n, d, b, ⟨h1, h2, h3⟩ => by
    refine ⟨h1, h2, ?_⟩
    have := RowsAre.snoc (d := d) (b := b) h3
    rw [show n + ((e :: ks).length : Int) = n + 1 + (ks.length : Int) by rw [List.length_cons]; omega]
    exact this
theorem repW_at {H : Hp} {ws : List (Int × Int)} {xs : List V} {i : Nat} {a : Int × Int} (r : RepL H (ws.map wrowD) xs) (e : ws[i]? = some a) : ∃ p, xs[i]? = some (.ref p) ∧ H p = some (.tup [.int a.1, .int a.2]) := by
  obtain ⟨x, ex, rx⟩ := r.at (d := wrowD a) (i := i) (by rw [List.getElem?_map, e]; rfl)
  obtain ⟨p, rfl, hp⟩ := rep_wrow.mp rx
  exact ⟨p, ex, hp⟩
theorem getD_is {ts : List Int} {i : Int} (h0 : 0 ≤ i) (h1 : i < (ts.length : Nat)) : ts[i.toNat]? = some (ts.getD i.toNat 0) := by
  rw [List.getD_eq_getElem?_getD, List.getElem?_eq_getElem (show i.toNat < ts.length by omega)]
  rfl
theorem at_int {ts : List Int} {i : Int} (h0 : 0 ≤ i) (h1 : i < (ts.length : Nat)) : atI (ts.map V.int) i = some (V.int (ts.getD i.toNat 0)) := by
  have := atI_pl (f := V.int) (getD_is h0 h1)
  rwa [Int.toNat_of_nonneg h0] at this
theorem repL_int (H : Hp) : ∀ zs : List Int, RepL H (zs.map Dat.int) (zs.map V.int)
  | [] => by simp [RepL]
  | z :: zs => ⟨_, _, rfl, (by rw [Rep]), repL_int H zs⟩
theorem cut_drop {xs : List V} {k : Int} (h : 0 ≤ k) : cutV xs (some k) none = xs.drop k.toNat := by
  unfold cutV
  obtain ⟨n, rfl⟩ := Int.eq_ofNat_of_zero_le h
  rw [HT.sIx_none, HT.sIx_nat, Int.toNat_natCast]
  by_cases c : n ≤ xs.length
  · rw [Nat.min_eq_left c, List.take_of_length_le (by rw [List.length_drop]; omega)]
  · rw [Nat.min_eq_right (by omega), List.drop_of_length_le (Nat.le_refl _), List.drop_of_length_le (by omega), List.take_nil]
theorem hid_put {H : Hp} {p : Addr} {o : HO} : Same (hid H p) (hid (upd H p o) p) := fun a u e => by
  unfold hid at *
  by_cases h : a = p
  · rw [if_pos h] at e
    cases e
  · rw [if_neg h] at e ⊢
    rw [upd_ne h]
    exact e
noncomputable def spCd : Sp := fun vs H Q _ => ∃ a b, vs = [.int a, .int b] ∧ Q (.int (Nm.g a b)) H
noncomputable def spNum : Sp := fun vs H Q _ => ∃ (a : Addr) (ds : List Dat), vs = [.ref a] ∧ Rep H (.lst ds) (.ref a) ∧ (∀ d ∈ ds, Hk d) ∧ ds.length ≤ 1000 ∧ ∀ l H', Same H H' → H l = none → H' l = some (.lst ((Ak.numb (ds.map toP)).map V.int)) → Q (.ref l) H'
noncomputable def spTm : Sp := fun vs H Q _ => ∃ (a c : Addr) (ws : List (Int × Int)) (ns : List Int), vs = [.ref a, .ref c] ∧ Rep H (.lst (ws.map wrowD)) (.ref a) ∧ H c = some (.lst (ns.map V.int)) ∧ 0 < ws.length ∧ ws.length ≤ 100 ∧ (∀ p ∈ ws, 1 ≤ p.1 ∧ p.1 ≤ 1000000 ∧ 0 ≤ p.2 ∧ p.2 < (ns.length : Nat)) ∧
  ∀ r H', Same H H' → Rep H' (.tup ((Ak.tmk ws ns).map wrowD)) (.ref r) → Q (.ref r) H'
noncomputable def spMk : Sp := fun vs H Q _ => ∃ (v : V) (c : Addr) (q : Pl) (n : Int) (ns : List Int), vs = [v, .int n, .ref c] ∧ Rep H (plD q) v ∧ H c = some (.lst (ns.map V.int)) ∧ PkN ns.length q ∧ ∀ r H', Same H H' → Rep H' (Ak.mkD ns q n) (.ref r) → Q (.ref r) H'
noncomputable def spMks : Sp := fun vs H Q _ => ∃ (a c : Addr) (b : List Pl) (ns : List Int), vs = [.ref a, .ref c] ∧ Rep H (brD b) (.ref a) ∧ H c = some (.lst (ns.map V.int)) ∧ ns.length = b.length ∧ b.length ≤ 200 ∧ (∀ q ∈ b, PkN b.length q) ∧
  ∀ l H', Same H H' → H l = none → Rep H' (.lst (Ak.marks b ns)) (.ref l) → Q (.ref l) H'
noncomputable def spNx (K : PySem.W.Frag) : Sp := fun vs H Q _ => ∃ (a e c : Addr) (b d : List Pl) (ns : List Int), vs = [.ref a, .ref e, .ref c] ∧ Rep H (brD b) (.ref a) ∧ Rep H (brD d) (.ref e) ∧ H c = some (.lst (ns.map V.int)) ∧ ns.length = b.length + d.length ∧ b.length ≤ 200 ∧ d.length ≤ 200 ∧ (∀ q ∈ b, PkN b.length q) ∧ (∀ q ∈ d, PkN d.length q) ∧
  ∀ l H', Same H H' → H l = none → H' l = some (.lst ((Ak.numb ((Ak.both b d ns).map toP)).map V.int)) → Q (.ref l) H'
/-- the rounds that were told -/
noncomputable def Told (H : Hp) (b d : List Pl) (m : Nat) (xs : List V) : Prop := xs.length = m + 1 ∧ ∀ k x, xs[k]? = some x → ∃ l, x = .ref l ∧ H l = some (.lst ((Ak.Rq b d k).map V.int))
noncomputable def spRd (K : PySem.W.Frag) : Sp := fun vs H Q _ => ∃ (a e : Addr) (b d : List Pl), vs = [.ref a, .ref e] ∧ Rep H (brD b) (.ref a) ∧ Rep H (brD d) (.ref e) ∧ b.length ≤ 200 ∧ d.length ≤ 200 ∧ (∀ q ∈ b, PkN b.length q) ∧ (∀ q ∈ d, PkN d.length q) ∧
  ∀ l H' m xs, Same H H' → H l = none → H' l = some (.lst xs) → Told (hid H' l) b d m xs → Ak.Last b d m → (∀ k, k < m → ¬ Ak.Last b d k) → Q (.ref l) H'
noncomputable def spAl (K : PySem.W.Frag) : Sp := fun vs H Q _ => ∃ (a e : Addr) (b d : List Pl) (i j : Nat), vs = [.ref a, .int i, .ref e, .int j] ∧ Rep H (brD b) (.ref a) ∧ Rep H (brD d) (.ref e) ∧ b.length ≤ 200 ∧ d.length ≤ 200 ∧ (∀ q ∈ b, PkN b.length q) ∧ (∀ q ∈ d, PkN d.length q) ∧ i < b.length ∧ j < d.length ∧
  ∀ H' m, Same H H' → Ak.Last b d m → (∀ k, k < m → ¬ Ak.Last b d k) → Q (.bl (decide ((Ak.Rq b d m).getD i 0 = (Ak.Rq b d m).getD (b.length + j) 0))) H'
theorem ex_repL {α : Type} {H : Hp} {f : α → Dat} {P : α → Prop} : ∀ {xs : List V}, (∀ x ∈ xs, ∃ a, Rep H (f a) x ∧ P a) → ∃ as : List α, RepL H (as.map f) xs ∧ as.length = xs.length ∧ ∀ a ∈ as, P a
  | [], _ => ⟨[], by simp [RepL], rfl, by simp⟩
  | x :: xs, h => by
    obtain ⟨a, ra, pa⟩ := h x List.mem_cons_self
    obtain ⟨as, r, l, p⟩ := ex_repL (xs := xs) fun y hy => h y (List.mem_cons_of_mem _ hy)
    refine ⟨a :: as, ?_, by simp [l], fun y hy => ?_⟩
    · simp only [List.map_cons, RepL]
      exact ⟨_, _, rfl, ra, r⟩
    · rcases List.mem_cons.mp hy with rfl | hy
      · exact pa
      · exact p y hy
noncomputable def spC (K : PySem.W.Frag) : Sp := fun vs H Q _ => ∃ a ns k, vs = [.ref a, .int k] ∧ SqL K H a (List.map V.int ns) ∧ 0 ≤ k ∧ k < 1000 ∧ ∀ n, Q (.int n) H
noncomputable def spMix : Sp := fun vs H Q _ => ∃ c m, vs = [.int c, .int m] ∧ 0 < m ∧ ∀ r, 0 ≤ r → r < m → Q (.int r) H
noncomputable def Told2 (H0 H : Hp) (b d : List Pl) (m : Nat) (xs : List V) : Prop := xs.length = m + 1 ∧ ∀ k x, xs[k]? = some x → ∃ l, x = .ref l ∧ H l = some (.lst ((Ak.Rq b d k).map V.int)) ∧ H0 l = none
noncomputable def spRd2 : Sp := fun vs H Q _ => ∃ (a e : Addr) (b d : List Pl), vs = [.ref a, .ref e] ∧ Rep H (brD b) (.ref a) ∧ Rep H (brD d) (.ref e) ∧ b.length ≤ 200 ∧ d.length ≤ 200 ∧ (∀ q ∈ b, PkN b.length q) ∧ (∀ q ∈ d, PkN d.length q) ∧
  ∀ l H' m xs, Same H H' → H l = none → H' l = some (.lst xs) → Told2 H (hid H' l) b d m xs → Ak.Last b d m → (∀ k, k < m → ¬ Ak.Last b d k) → Q (.ref l) H'
theorem lk_first : ∀ {D : List PyData} {k : PyData} {n x : Int}, Ak.lk D k n = some x → ∃ j : Nat, x = n + (j : Int) ∧ D[j]? = some k ∧ ∀ j', j' < j → D[j']? ≠ some k
  | [], _, _, _, h => by rw [Ak.lk] at h; cases h
  | d :: D, k, n, x, h => by
    rw [Ak.lk] at h
    by_cases c : d = k
    · rw [if_pos c] at h
      cases h
      exact ⟨0, by simp, by rw [c]; rfl, fun j' hj => by omega⟩
    · rw [if_neg c] at h
      obtain ⟨j, h1, h2, h3⟩ := lk_first h
      refine ⟨j + 1, by omega, by simpa using h2, fun j' hj => ?_⟩
      cases j' with
      | zero => intro z; exact c (Option.some.inj z)
      | succ j' => intro z; exact h3 j' (by omega) (by simpa using z)
noncomputable def rowsR (b c : List Pl) (m : Nat) : Dat := .lst ((List.range (m + 1)).map fun k => .lst ((Ak.Rq b c k).map Dat.int))
theorem rows_rep {H : Hp} {b c : List Pl} {m : Nat} {l : Addr} {zs : List V} (hl : H l = some (.lst zs)) (lz : zs.length = m + 1) (tz : ∀ (k : Nat) x, zs[k]? = some x → ∃ lr, x = .ref lr ∧ H lr = some (.lst ((Ak.Rq b c k).map V.int))) : Rep H (rowsR b c m) (.ref l) := by
  refine rep_lst.mpr ⟨l, zs, rfl, hl, RepL.of (by rw [List.length_map, List.length_range, lz]) fun i d v e1 e2 => ?_⟩
  rw [List.getElem?_map] at e1
  obtain ⟨k, ek, rfl⟩ := Option.map_eq_some_iff.mp e1
  have : k = i := by
    obtain ⟨h1, h2⟩ := List.getElem?_eq_some_iff.mp ek
    rw [List.getElem_range] at h2
    exact h2.symm
  subst this
  obtain ⟨lr, rfl, hr⟩ := tz k v e2
  exact rep_lst.mpr ⟨lr, _, rfl, hr, repL_int _ _⟩
theorem depth_rows2 (b c : List Pl) (m : Nat) : depth (rowsR b c m) ≤ 40 := by
  have := depth_flat (ds := (List.range (m + 1)).map fun k => Dat.lst ((Ak.Rq b c k).map Dat.int)) (n := 1) fun d hd => by
    obtain ⟨k, _, rfl⟩ := List.mem_map.mp hd
    have := depth_flat (ds := (Ak.Rq b c k).map Dat.int) (n := 0) fun d hd => by obtain ⟨x, _, rfl⟩ := List.mem_map.mp hd; simp [depth]
    rw [depth]
    omega
  unfold rowsR
  rw [depth]
  omega
theorem rounds_le {b c : List Pl} {m : Nat} (nl : ∀ k, k < m → ¬ Ak.Last b c k) : m ≤ b.length + c.length := by
  have gr : ∀ j, j ≤ m → j ≤ Ak.cnt (Ak.Rq b c j) := by
    intro j
    induction j with
    | zero => intro _; omega
    | succ j ih =>
      intro hj
      have h1 := Ak.Rq_cnt b c j
      have h2 : Ak.cnt (Ak.Rq b c (j + 1)) ≠ Ak.cnt (Ak.Rq b c j) := fun e => nl j (by omega) e
      have := ih (by omega)
      omega
  have := gr m (Nat.le_refl _)
  have h2 := Ak.cnt_le (Ak.Rq b c m)
  rw [Ak.Rq_len] at h2
  omega
theorem numb_two (k : PyData) : Ak.numb [k, k] = [0, 0] := by simp [Ak.numb, Ak.dd, Ak.lk]
theorem two_ends (g : Int × Int) : Ak.Rq [.fin g] [.fin g] 0 = [0, 0] ∧ Ak.Last [.fin g] [.fin g] 0 := by
  have h0 : Ak.Rq [.fin g] [.fin g] 0 = [0, 0] := numb_two _
  refine ⟨h0, ?_⟩
  have h1 : Ak.Rq [.fin g] [.fin g] 1 = [0, 0] := by
    show Ak.numb ((Ak.both [.fin g] [.fin g] (Ak.Rq [.fin g] [.fin g] 0)).map toP) = _
    rw [h0]
    exact numb_two _
  unfold Ak.Last
  rw [h0, h1]
noncomputable def spDv : Sp := fun vs H Q _ => ∃ a b, vs = [.int a, .int b] ∧ 0 ≤ a ∧ 0 < b ∧ b ≤ 1000000 ∧ ∀ g, 0 < g → g ≤ 1000000 → Q (.int g) H
noncomputable def spSh : Sp := fun vs H Q _ => ∃ c f, vs = [.int c, .bl f] ∧ ∀ p H' x y, Same H H' → H' p = some (.tup [.int x, .int y]) → Q (.ref p) H'
noncomputable def spPl : Sp := fun vs H Q _ => ∃ c n f, vs = [.int c, .int n, .bl f] ∧ 0 < n ∧ n ≤ 60 ∧ ∀ v H' q, Same H H' → Rep H' (plD q) v → PkN n q → Q v H'
noncomputable def spBd (K : PySem.W.Frag) : Sp := fun vs H Q _ => ∃ a ns k f, vs = [.ref a, .int k, .bl f] ∧ SqL K H a (List.map V.int ns) ∧ 0 ≤ k ∧ k ≤ 1 ∧ ∀ p H' b, Same H H' → Rep H' (brD b) (.ref p) → 0 < b.length → b.length ≤ 60 → (∀ q ∈ b, PkN b.length q) → Q (.ref p) H'
noncomputable def spCopy : Sp := fun vs H Q _ => ∃ a b, vs = [.ref a] ∧ Rep H (brD b) (.ref a) ∧ b.length ≤ 1000 ∧ ∀ l H', Same H H' → H l = none → Rep H' (brD b) (.ref l) → Q (.ref l) H'
noncomputable def spNb : Sp := fun vs H Q _ => ∃ l n m xs, ∃ L : Nat → List Int, vs = [.ref l, .int ((n : Nat) : Int)] ∧ H l = some (.lst xs) ∧ xs.length = m + 1 ∧ (∀ (k : Nat) x, xs[k]? = some x → ∃ lk, x = .ref lk ∧ H lk = some (.lst ((L k).map V.int))) ∧ (∀ k, (L k).length = n) ∧ Q (.bl true) H
noncomputable def spDu : Sp := fun vs H Q _ => ∃ a b, vs = [.ref a] ∧ Rep H (brD b) (.ref a) ∧ b.length ≤ 400 ∧ ∀ l H', Same H H' → H l = none → H' l = some (.lst ((Ak.numb ((b.map Ak.mk0).map toP)).map V.int)) → Q (.ref l) H'
noncomputable def spLaw (K : PySem.W.Frag) : Sp := fun vs H Q _ => ∃ (a : Addr) (ns : List Int), vs = [.ref a] ∧ SqL K H a (ns.map V.int) ∧ ns.length ≤ 63 ∧ ∀ H', Q (.bl true) H'
theorem depth_br4 (b : List Pl) : depth (brD b) ≤ 4 := by
  have := depth_flat (ds := b.map plD) (n := 3) fun d hd => by obtain ⟨p, _, rfl⟩ := List.mem_map.mp hd; exact depth_pl p
  unfold brD
  rw [depth]
  omega
section
variable {P : Program} {w : World} {K : PySem.W.Frag} {mg : Str → Option Value} {base : Heap}

theorem sc_common_divisor : FnScope ["one", "other", "rest"] ["one", "other"] (defScope (top 1)) := ⟨rfl, rfl, rfl, by decide +kernel, rfl, by decide +kernel, by decide +kernel⟩
theorem ok_cd (T : Txt K mg) : Cal P w K mg base (CX1 P w) 1 "common_divisor" ["one", "other"] spCd := by
  refine T.d_common_divisor.cal (fun _ _ _ _ _ _ us hl => match us, hl with | [_, _], _ => rfl) fun f fd F => F.okC sc_common_divisor (fun vs H Q E h => ?_) (fun cdv A outer s H vs Q E hr h => ?_)
  · obtain ⟨_, _, rfl, _⟩ := h; rfl
  · obtain ⟨a, b, rfl, k⟩ := h
    have nd := sc_common_divisor.nd
    refine ⟨_, (pss_cons (ps_set (i := 0) nd rfl (Or.inl rfl) (pe_callB call_abs (by rfl) T.z_abs rfl (pa_cons (pv 0) pa_nil (se rfl)) (he := se rfl) (hpl := na rfl)))
    (pss_cons (ps_set (i := 1) nd rfl (Or.inl rfl) (pe_callB call_abs (by rfl) T.z_abs rfl (pa_cons (pv 1) pa_nil (se rfl)) (he := se rfl) (hpl := na rfl)))
    (pss_cons (ps_while PassesOwn.never (pt_cmpR op_ne (pv 1) pe_int (nomark _)) (pss_cons (ps_set (i := 2) nd rfl (Or.inl rfl) (pe_op op_modB (pv 0) (pv 1)))
    (pss_cons (ps_set (i := 0) nd rfl (Or.inl rfl) (pv 1))
    (pss_one (ps_set (i := 1) nd rfl (Or.inl rfl) (pv 2))))))
    (pss_one (ps_ret (pv 0)))))), ?_⟩
    simp_all only []
    refine while_by (fun σ H1 => H1 = H ∧ ∃ (x y : Int) (z : Option V), σ = [some (.int x), some (.int y), z] ∧ 0 ≤ x ∧ 0 ≤ y ∧ Nm.g x y = Nm.g a b) (fun σ _ => match σ with | [_, some (.int y), _] => y.toNat | _ => 0) ?_ ?_ ?_
    · refine ⟨rfl, _, _, _, rfl, ?_, ?_, ?_⟩
      · split <;> omega
      · split <;> omega
      · rw [show (if a < 0 then -a else a) = (a.natAbs : Int) by split <;> omega, show (if b < 0 then -b else b) = (b.natAbs : Int) by split <;> omega, Nm.g_abs, Nm.g_abs_r]
    · rintro σ H1 ⟨rfl, x, y, z, rfl, x0, y0, e⟩
      simp_all only []
      refine ite2 (fun c => ?_) (fun c => ?_)
      · refine ⟨by omega, y0, Int.emod_nonneg _ (by omega), by rw [Nm.g_step x0 (by omega), e], ?_⟩
        have := Int.emod_lt_of_pos x (show 0 < y by omega)
        have := Int.emod_nonneg x (show y ≠ 0 by omega)
        omega
      · have z : y = 0 := by omega
        subst z
        rw [Nm.g_zero x0] at e
        rw [e]
        exact k
    · intro σ H1 Q1 Q2 hq hc
      simp only [L2.start, Pr, tRev, tLR, tMaxD, tSortR, tD1, tDPop1, tSl, tNoPart, tPart, rSlL, tDIn, tDNotIn, gSub, rSetL, tLst, tDNewK, tComp, L2.stC, tFor_eq, iList, iTup, iRng1, iRng2, iZip, iEnum, iDict, iStr, tChain, tSumV, tBM, rJoin, tJoined, jNil, jLit, jInt, jStr, tRaise, tDGet, tDGet2, tDGet1, sDPut, Option.join_some, List.getElem?_nil,  tSeq, tRet, tRetN, tIfS, tTest, tB, tOp, tUn, tVar, tC, tCB, tCons, tNil, tCall, tTupS, tAsg, gName, gNil, gCons, tPar, tNext, tDrop, tAnd, tOr, tNot, tAndV, tOrV, tNotV, tIf, rI, rI0, rU, rIxTH, rIxLH, rEqT, rNeT, rInT, rEq, rNe, scal, CPow, at0, at1, at2, List.map_cons, List.map_nil, List.length_cons, List.length_nil, Nat.reduceSub, Nat.reduceAdd, Nat.zero_add, List.replicate_zero, List.reduceReplicate, List.append_nil, List.nil_append, List.cons_append, List.getElem?_cons_zero, List.getElem?_cons_succ, List.set_cons_zero, List.set_cons_succ, Option.some.injEq, exists_eq_left', exists_eq_left, V.ref.injEq, V.int.injEq, V.bl.injEq, V.str.injEq, V.ty.injEq, HO.tup.injEq, HO.lst.injEq, List.cons.injEq, and_true, true_and, and_assoc, exists_and_left, decide_eq_true_eq, Bool.not_eq_true', decide_eq_false_iff_not, ite_true, ite_false, if_true, if_false, Int.reduceToNat, eq_self_iff_true] at hc ⊢
      obtain ⟨v, e1, e2, q⟩ := hc
      exact ⟨v, e1, e2, hq _ _ q⟩
theorem sc_numbered : FnScope ["marks", "numbers", "mark"] ["marks"] (defScope (top 3)) := ⟨rfl, rfl, rfl, by decide +kernel, rfl, by decide +kernel, by decide +kernel⟩
theorem ok_num (T : Txt K mg) : Cal P w K mg base (CX1 P w) 1 "numbered" ["marks"] spNum := by
  refine T.d_numbered.cal (fun _ _ _ _ _ _ us hl => match us, hl with | [_], _ => rfl) fun f fd F => F.okC sc_numbered (fun vs H Q E h => ?_) (fun cdv A outer s H vs Q E hr h => ?_)
  · obtain ⟨_, _, rfl, _⟩ := h; rfl
  · obtain ⟨a, ds, rfl, rd, hk, ld, kk⟩ := h
    have nd := sc_numbered.nd
    refine ⟨_, (pss_cons (ps_set (i := 1) nd rfl (Or.inr rfl) (pe_dnewN (P := P) (w := w)))
    (pss_cons (ps_for PassesOwn.never rfl (pi_listK (K := K) (pv 0)) (pg_name (i := 2) nd rfl (Or.inl rfl)) (pss_one (ps_if (pt_cmp (pc_nnotin (P := P) (w := w) hr.units (pv 2) (pv 1))) (pss_one (ps_nput (P := P) (w := w) hr.units (pv 1) (pv 2) (pe_callB (call_lenN (P := P) (w := w)) (by rfl) T.z_len PySem.boot_len (pa_cons (pv 1) pa_nil (se rfl)) (he := se rfl) (hpl := na rfl)) rfl))
      pss_nil)))
    (pss_one (ps_ret (pe_comp rfl (N := ["marks", "numbers", "mark"]) (so := defScope (top 3)) (N' := ["mark", "numbers"]) (k := 1) (fr := [1]) rfl rfl ⟨rfl, by decide +kernel, by decide +kernel, by decide +kernel, rfl, by decide +kernel, by decide +kernel⟩ (pi_listK (K := K) (pv 0)) (fun _ _ _ _ _ => (pg_name (i := 0) (show (["mark", "numbers"] : List Str).Nodup by decide +kernel) rfl (Or.inl rfl))) (fun _ _ _ _ _ => pts_nil)
      (fun _ _ _ _ _ => (pe_nget (P := P) (w := w) hr.units (pv 1) (pv 0) (fun _ _ => rfl)))))))), ?_⟩
    obtain ⟨_, xs, e, ha, rl⟩ := rep_lst.mp rd
    cases e
    have lx := rl.length
    have key : ∀ (i : Nat) x, xs[i]? = some x → ∃ d b, ds[i]? = some d ∧ x = .ref b ∧ KeyN H d b := fun i x ex => by
      obtain ⟨d, ed, rd'⟩ := rl.get ex
      obtain ⟨h1, h2, l, rfl⟩ := hk d (List.mem_of_getElem? ed)
      have rd2 := rd'
      rw [Rep] at rd2
      obtain ⟨b, _, rfl, _⟩ := rd2
      exact ⟨_, b, ed, rfl, h1, h2, rd'⟩
    simp_all only [tDNewN]
    intro p np
    have s0 := same_upd (o := dnO P w p []) np
    refine ⟨⟨_, SqL.of (s0 _ _ ha)⟩, ?_⟩
    refine for_src (src_list (Ok := Same H) (fun H2 s2 => SqL.of (s2 _ _ ha))) (fun i σ H1 => Same H H1 ∧ ∃ ks z, H1 p = some (dnO P w p ks) ∧ AllN H ks ∧ RowsAre ks (Ak.dd [] ((ds.take i).map toP)) 0 ∧ σ = [some (V.ref a), some (V.ref p), z]) ⟨s0, [], _, upd_same, fun _ h => by simp at h, by simp [Ak.dd, RowsAre], rfl⟩ (fun _ _ _ _ h => h.1) ?_ ?_
    · rintro i x σ H1 H2 hi ⟨s1, ks, z, hp, al, ra, rfl⟩ ⟨rfl, ex⟩
      obtain ⟨d, b, ed, rfl, kn⟩ := key i x ex
      have hi' : i < ds.length := by omega
      have tk : (ds.take (i + 1)).map toP = (ds.take i).map toP ++ [toP d] := by rw [List.take_add_one, ed, List.map_append]; rfl
      have lk := ra.look (k := toP d)
      have ln : ks.length ≤ 1000 := by
        rw [ra.len]
        have := Ak.dd_len (a := []) (ks := (ds.take i).map toP)
        simp only [List.length_nil, List.length_map, List.length_take] at this
        omega
      simp_all only [tNNotIn, sNPut, NGet]
      refine ⟨_, ⟨d, ks, hp, al.mono s1, kn.mono s1, rfl⟩, ?_⟩
      rw [tk, Ak.dd_snoc]
      by_cases c : toP d ∈ Ak.dd [] ((ds.take i).map toP)
      · obtain ⟨j, ej⟩ := Ak.lk_mem (n := 0) c
        rw [lk, ej, if_neg (by simp), if_pos c]
        exact ⟨s1, ks, hp, al, ra, _, rfl⟩
      · have ej := Ak.lk_none (n := 0) c
        rw [lk, ej, if_pos (show (none : Option Int).isSome = false from rfl), if_neg c]
        refine ⟨ks, hp, al.mono s1, d, ks, hp, al.mono s1, kn.mono s1, lk.trans ej, by rw [sizeLine_eq]; omega, same_upd_of s1 np, _, upd_same, fun e he => ?_, ?_, _, rfl⟩
        · rcases List.mem_append.mp he with he | he
          · exact al e he
          · rw [List.mem_singleton.mp he]
            exact kn
        · have := ra.snoc (d := d) (b := b)
          rwa [Int.zero_add] at this
    · rintro σ H1 ⟨s1, ks, z, hp, al, ra, rfl⟩
      rw [List.take_of_length_le (by omega)] at ra
      simp_all only []
      have S : Src (Itl K a) (Same H1) ds.length (fun i x H H3 => H3 = H ∧ xs[i]? = some x) := by rw [lx]; exact src_list (fun H' s' => SqL.of (s' _ _ (s1 _ _ ha)))
      refine ⟨⟨_, SqL.of (s1 _ _ ha)⟩, comp_ints ds (fun d => some ((Ak.lk (Ak.dd [] (ds.map toP)) (toP d) 0).getD 0)) S (fun _ _ _ _ h => h.1) (by rw [sizeLine_eq]; omega) ?_ ?_⟩
      · rintro i d x ed ⟨_, ex⟩ Y N y1 _
        obtain ⟨d', b, ed', rfl, kn⟩ := key i x ex
        rw [ed] at ed'
        cases ed'
        obtain ⟨j, ej⟩ := Ak.lk_mem (n := 0) (Ak.dd_mem.mpr (.inr (List.mem_map.mpr ⟨d, List.mem_of_getElem? ed, rfl⟩)) : toP d ∈ Ak.dd [] (ds.map toP))
        simp_all only [tYes, tNGet, NGet]
        exact ⟨j, ⟨d, ks, hp, al.mono s1, kn.mono s1, by rw [ra.look, ej]⟩, y1 _ (by rw [ej]; rfl)⟩
      · intro D n1 n2
        rw [fm_some]
        refine kk D _ (s1.trans (same_upd n2)) (none_of s1 n2) ?_
        rw [upd_same]
        unfold Ak.numb
        rw [List.map_map (f := toP)]
        rfl
theorem sc_throw_mark : FnScope ["ways", "numbers", "weights", "weight", "to", "divisor"] ["ways", "numbers"] (defScope (top 4)) := ⟨rfl, rfl, rfl, by decide +kernel, rfl, by decide +kernel, by decide +kernel⟩
theorem ok_tm (T : Txt K mg) : Cal P w K mg base (CX1 P w) 2 "throw_mark" ["ways", "numbers"] spTm := by
  have c_common_divisor : Cal P w K mg base (CX1 P w) 1 "common_divisor" ["one", "other"] spCd := ok_cd T
  refine T.d_throw_mark.cal (fun _ _ _ _ _ _ us hl => match us, hl with | [_, _], _ => rfl) fun f fd F => F.okC sc_throw_mark (fun vs H Q E h => ?_) (fun cdv A outer s H vs Q E hr h => ?_)
  · obtain ⟨_, _, _, _, rfl, _⟩ := h; rfl
  · obtain ⟨a, c, ws, ns, rfl, rw_, hc, l0, l1, gw, kk⟩ := h
    have nd := sc_throw_mark.nd
    refine ⟨_, (pss_cons (ps_set (i := 2) nd rfl (Or.inr rfl) pe_dnewK)
    (pss_cons (ps_for PassesOwn.never rfl (pi_listK (K := K) (pv 0)) (pg_tupK (K := K) (n := 2) rfl (pgs_cons (pg_name (i := 3) nd rfl (Or.inl rfl)) (pgs_cons (pg_name (i := 4) nd rfl (Or.inl rfl)) pgs_nil))) (pss_one (ps_dput (hu_of hr) (pv 2) (pe_ix ix_listH (pv 1) (pv 4) (fun _ _ => rfl)) (pe_op op_add (pe_dget2 (hu_of hr) (pv 2) (pe_ix ix_listH (pv 1) (pv 4) (fun _ _ => rfl)) pe_int (by first | exact ⟨rfl, rfl, rfl⟩ | constructor <;> rfl)) (pv 3)) rfl)))
    (pss_cons (ps_set (i := 5) nd rfl (Or.inr rfl) pe_int)
    (pss_cons (ps_thaw (ps_for PassesOwn.never rfl (pi_vals (pv 2)) (pg_name (i := 3) nd rfl (Or.inl rfl)) (pss_one (ps_set (i := 5) nd rfl (Or.inr rfl) (pe_cal c_common_divisor (hr.mono (by decide)) rfl strictP.pass (pa_cons (pv 5) (pa_cons (pv 3) pa_nil (se rfl)) (se rfl)) (he := se rfl) (hpl := na rfl))))))
    (pss_one (ps_ret (pe_callTy (call_tuple_ofK (K := K)) (by rfl) T.z_tuple rfl (pa_cons (pe_comp rfl (N := ["ways", "numbers", "weights", "weight", "to", "divisor"]) (so := defScope (top 4)) (N' := ["number", "weights", "divisor"]) (k := 1) (fr := [2, 5]) rfl rfl ⟨rfl, by decide +kernel, by decide +kernel, by decide +kernel, rfl, by decide +kernel, by decide +kernel⟩ (pi_listK (K := K) (pe_callB call_sorted_dNK (by rfl) T.z_sorted rfl (pa_cons (pv 2) pa_nil (se rfl)) (he := se rfl) (hpl := na rfl))) (fun _ _ _ _ _ => (pg_name (i := 0) (show (["number", "weights", "divisor"] : List Str).Nodup by decide +kernel) rfl (Or.inl rfl))) (fun _ _ _ _ _ => pts_nil)
      (fun _ _ _ _ _ => (pe_tupS (pa_cons (pv 0) (pa_cons (pe_op op_fdivB (pe_dget (hu_of hr) (pv 1) (pv 0) (fun _ _ => rfl)) (pv 2)) pa_nil (se rfl)) (se rfl))))) pa_nil (se rfl)) (he := se rfl) (hpl := na rfl)))))))), ?_⟩
    obtain ⟨_, xs, e, ha, rl⟩ := rep_lst.mp rw_
    cases e
    have lx := rl.length
    rw [List.length_map] at lx
    have g1 : ∀ p ∈ ws, 1 ≤ p.1 ∧ p.1 ≤ 1000000 := fun p hp => ⟨(gw p hp).1, (gw p hp).2.1⟩
    change tSeq _ _ _ [some (.ref a), some (.ref c), none, none, none, none] H
    refine seq_gen (fun σ' H1 => Same H H1 ∧ ∃ p, H p = none ∧ H1 p = some (.dK []) ∧ σ' = [some (.ref a), some (.ref c), some (.ref p), none, none, none]) ?_ (fun N hN => ?_)
    case refine_2 =>
      simp_all only []
      exact fun p np => hN _ _ ⟨same_upd np, p, np, upd_same, rfl⟩
    rintro _ H1 ⟨s1, p, np, hp, rfl⟩
    change tSeq _ _ _ [some (.ref a), some (.ref c), some (.ref p), none, none, none] H1
    refine seq_gen (fun σ' H2 => Same H H2 ∧ H2 p = some (.dK (Ak.kvT ws ns)) ∧ ∃ z1 z2, σ' = [some (.ref a), some (.ref c), some (.ref p), z1, z2, none]) ?_ (fun N hN => ?_)
    case refine_2 =>
      simp_all only []
      refine ⟨⟨_, SqL.of (s1 _ _ ha)⟩, ?_⟩
      refine for_src (src_list (Ok := Same H) (fun H2 s2 => SqL.of (s2 _ _ ha))) (fun i σ H2 => Same H H2 ∧ H2 p = some (.dK (Ak.kvT (ws.take i) ns)) ∧ ∃ z1 z2, σ = [some (V.ref a), some (V.ref c), some (V.ref p), z1, z2, none]) ⟨s1, hp, _, _, rfl⟩ (fun _ _ _ _ h => h.1) ?_ ?_
      · rintro i x σ H2 H3 hi ⟨s2, hp2, z1, z2, rfl⟩ ⟨rfl, ex⟩
        have hi' : i < ws.length := by omega
        have ew : ws[i]? = some ws[i] := List.getElem?_eq_getElem hi'
        obtain ⟨t, et, ht⟩ := repW_at rl ew
        rw [ex] at et
        cases et
        have gp := gw _ (List.getElem_mem hi')
        have ac : atI (List.map V.int ns) ws[i].2 = some (V.int (Ak.at_ ns ws[i].2)) := at_int gp.2.2.1 gp.2.2.2
        have tk : ws.take (i + 1) = ws.take i ++ [ws[i]] := by rw [List.take_add_one, ew]; rfl
        refine ⟨t, _, rfl, SqT.of (s2 _ _ ht), rfl, ?_⟩
        simp_all only [s2 _ _ hc, ac]
        refine ⟨.inl ⟨_, .inl hp2⟩, _, DGet.k (k := .inl (Ak.at_ ns ws[i].2)) hp2, _, Ak.kv_val _ _ _, _, DPut.k (k := .inl (Ak.at_ ns ws[i].2)) hp2 ?_, same_upd_of s2 np, ?_, _, rfl⟩
        · have := Ak.kvT_len (ws.take i) ns
          rw [List.length_take] at this
          rw [sizeLine_eq]
          omega
        · rw [upd_same, tk, Ak.kv_step]
      · rintro σ H2 ⟨s2, hp2, z1, z2, rfl⟩
        rw [List.take_of_length_le (by omega)] at hp2
        exact hN _ _ ⟨s2, hp2, _, _, rfl⟩
    rintro _ H2 ⟨s2, hp2, z1, z2, rfl⟩
    simp_all only [spCd, iVals]
    refine ⟨_, hp2, fun o => ?_⟩
    have lk : (Ak.kvT ws ns).length = (Ak.keysT ws ns).length := by unfold Ak.kvT; rw [List.length_map]
    refine for_src (src_vals (Ok := fun H' => H' = upd H2 p (.frz o (.dK (Ak.kvT ws ns)))) (fun H' e => by rw [e]; exact upd_same)) (fun i σ H' => H' = upd H2 p (.frz o (.dK (Ak.kvT ws ns))) ∧ ∃ z1, σ = [some (V.ref a), some (V.ref c), some (V.ref p), z1, z2, some (V.int (((Ak.keysT ws ns).take i).foldl (fun a x => Nm.g a (Ak.wOf ws ns x)) 0))]) ⟨rfl, _, rfl⟩ (fun _ _ _ _ h => h.1) ?_ ?_
    · rintro i x σ H3 H4 hi ⟨rfl, z3, rfl⟩ ⟨rfl, q, eq, rfl⟩
      have hi' : i < (Ak.keysT ws ns).length := by omega
      have ek : (Ak.keysT ws ns)[i]? = some (Ak.keysT ws ns)[i] := List.getElem?_eq_getElem hi'
      have eq2 : (Ak.kvT ws ns)[i]? = some ((Sum.inl (Ak.keysT ws ns)[i] : Key), V.int (Ak.wOf ws ns (Ak.keysT ws ns)[i])) := by unfold Ak.kvT; rw [List.getElem?_map, ek]; rfl
      rw [eq2] at eq
      cases eq
      have tk : (Ak.keysT ws ns).take (i + 1) = (Ak.keysT ws ns).take i ++ [(Ak.keysT ws ns)[i]] := by rw [List.take_add_one, ek]; rfl
      simp_all only [spCd]
      rw [tk, List.foldl_append]
      rfl
    · rintro σ H3 ⟨rfl, z3, rfl⟩
      rw [List.take_of_length_le (by omega)]
      have gb := Ak.gcd_bd (ns := ns) g1 l0 l1
      have eg : (Ak.keysT ws ns).foldl (fun a x => Nm.g a (Ak.wOf ws ns x)) 0 = Ak.gcdT ws ns := rfl
      rw [eg]
      refine ⟨p, o, _, upd_same, fun a b z => (by rw [show (H p = some (.frz a b)) from z] at np; cases np), ?_⟩
      rw [upd_upd]
      have s3 : Same H (upd H2 p (.dK (Ak.kvT ws ns))) := same_upd_of s2 np
      have hp3 : upd H2 p (.dK (Ak.kvT ws ns)) p = some (.dK (Ak.kvT ws ns)) := upd_same
      generalize upd H2 p (.dK (Ak.kvT ws ns)) = H3 at *
      simp_all only []
      have kl := Ak.kvT_len ws ns
      refine ⟨_, .inl hp3, Ak.kvT_allI _ _, by rw [Ak.kvT_keys]; exact ded_nodup _, by omega, fun l nl => ⟨⟨_, SqL.of upd_same⟩, ?_⟩⟩
      rw [Ak.kvT_keys]
      have s4 := same_upd (o := .lst (List.map V.int (Nm.srt (Ak.keysT ws ns)))) nl
      have hl4 : upd H3 l (.lst (List.map V.int (Nm.srt (Ak.keysT ws ns)))) l = some (.lst (List.map V.int (Nm.srt (Ak.keysT ws ns)))) := upd_same
      have hp4 := s4 _ _ hp3
      generalize upd H3 l (.lst (List.map V.int (Nm.srt (Ak.keysT ws ns)))) = H4 at *
      have ls : (List.map V.int (Nm.srt (Ak.keysT ws ns))).length ≤ 100 := by rw [List.length_map, Nm.srt_length]; omega
      refine comp_map (src_list (Ok := Same H4) (fun H' s' => SqL.of (s' _ _ hl4))) (fun _ _ _ _ h => by rw [h.1]; exact Same.refl _) (by rw [sizeLine_eq]; omega) (fun i y H5 => ∃ x, (Nm.srt (Ak.keysT ws ns))[i]? = some x ∧ Rep H5 (wrowD (x, Ak.wOf ws ns x / Ak.gcdT ws ns)) y) (fun i y H5 H6 s6 ⟨x, e, r⟩ => ⟨x, e, r.mono s6⟩) ?_ ?_
      · rintro i x w0 H6 H7 Q7 hi s6 ⟨rfl, ex⟩ kq
        rw [List.getElem?_map] at ex
        obtain ⟨x', ex1, rfl⟩ := Option.map_eq_some_iff.mp ex
        have mx : x' ∈ Ak.keysT ws ns := Nm.srt_mem.mp (List.mem_of_getElem? ex1)
        have dg : DGet H7 p (V.int x') (some (V.int (Ak.wOf ws ns x'))) := by
          have := DGet.k (k := .inl x') (s6 _ _ hp4)
          unfold Ak.kvT at this
          rw [Ak.val_map (f := fun x => V.int (Ak.wOf ws ns x)), if_pos mx] at this
          exact this
        simp_all only [tTupS]
        exact ⟨_, dg, _, rfl, CDivB.of (n := 30) gb.1 (Bt.of 100000000 (by omega) (by omega)), by decide, fun p2 H8 s8 n8 e8 => kq _ _ s8 ⟨x', ex1, rep_wrow.mpr ⟨p2, rfl, e8⟩⟩⟩
      · intro ys H6 s6 ly hy D n8 n9
        rw [List.length_map] at ly
        refine ⟨ys, .inl ⟨SqL.of upd_same, fun l2 nl2 => ?_⟩⟩
        have s7 := (same_upd (o := .lst ys) n9).trans (same_upd (o := .tup ys) nl2)
        refine kk l2 _ (s3.trans (s4.trans (s6.trans s7))) ?_
        rw [Rep]
        refine ⟨l2, ys, rfl, upd_same, repL_map (by unfold Ak.tmk; rw [List.length_map]; omega) fun i y ey a ea => ?_⟩
        obtain ⟨x, e1, r1⟩ := hy i y ey
        unfold Ak.tmk at ea
        rw [List.getElem?_map, e1] at ea
        cases ea
        exact r1.mono s7
theorem sc_mark_of : FnScope ["place", "number", "numbers"] ["place", "number", "numbers"] (defScope (top 5)) := ⟨rfl, rfl, rfl, by decide +kernel, rfl, by decide +kernel, by decide +kernel⟩
theorem ok_mk (T : Txt K mg) : Cal P w K mg base (CX1 P w) 3 "mark_of" ["place", "number", "numbers"] spMk := by
  have c_throw_mark : Cal P w K mg base (CX1 P w) 2 "throw_mark" ["ways", "numbers"] spTm := ok_tm T
  refine T.d_mark_of.cal (fun _ _ _ _ _ _ us hl => match us, hl with | [_, _, _], _ => rfl) fun f fd F => F.okC sc_mark_of (fun vs H Q E h => ?_) (fun cdv A outer s H vs Q E hr h => ?_)
  · obtain ⟨_, _, _, _, _, rfl, _⟩ := h; rfl
  · obtain ⟨v, c, q, n, ns, rfl, rq, hc, gq, kk⟩ := h
    have nd := sc_mark_of.nd
    refine ⟨_, (pss_cons (ps_if (pt_cmpR op_eq (pe_ix ix_tupH (pv 0) pe_int (fun _ _ => rfl)) pe_str (nomark _)) (pss_one (ps_ret (pe_tupS (pa_cons (pv 1) (pa_cons (pe_cal c_throw_mark (hr.mono (by decide)) rfl strictP.pass (pa_cons (pe_ix ix_tupH (pv 0) pe_int (fun _ _ => rfl)) (pa_cons (pv 2) pa_nil (se rfl)) (se rfl)) (he := se rfl) (hpl := na rfl)) pa_nil (se rfl)) (se rfl)))))
      pss_nil)
    (pss_cons (ps_if (pt_cmpR op_eq (pe_ix ix_tupH (pv 0) pe_int (fun _ _ => rfl)) pe_str (nomark _)) (pss_one (ps_ret (pe_tupS (pa_cons (pv 1) (pa_cons (pe_callTy (call_tuple_ofK (K := K)) (by rfl) T.z_tuple rfl (pa_cons (pe_callB (call_sorted_stK (P := P) (w := w)) (by rfl) T.z_sorted rfl (pa_cons (pe_callTy (call_setK (K := K) (P := P) (w := w)) (by rfl) T.z_set rfl (pa_cons (pe_comp rfl (N := ["place", "number", "numbers"]) (so := defScope (top 5)) (N' := ["to", "numbers"]) (k := 1) (fr := [2]) rfl rfl ⟨rfl, by decide +kernel, by decide +kernel, by decide +kernel, rfl, by decide +kernel, by decide +kernel⟩ (pi_listK (K := K) (pe_ix ix_tupH (pv 0) pe_int (fun _ _ => rfl))) (fun _ _ _ _ _ => (pg_name (i := 0) (show (["to", "numbers"] : List Str).Nodup by decide +kernel) rfl (Or.inl rfl))) (fun _ _ _ _ _ => pts_nil)
      (fun _ _ _ _ _ => (pe_ix ix_listH (pv 1) (pv 0) (fun _ _ => rfl)))) pa_nil (se rfl)) (he := se rfl) (hpl := na rfl)) pa_nil (se rfl)) (he := se rfl) (hpl := na rfl)) pa_nil (se rfl)) (he := se rfl) (hpl := na rfl)) pa_nil (se rfl)) (se rfl)))))
      pss_nil)
    (pss_one (ps_ret (pe_tupS (pa_cons (pv 1) (pa_cons (pe_tupS pa_nil) pa_nil (se rfl)) (se rfl))))))), ?_⟩
    have mk : ∀ (x : Addr) (H1 : Hp) (p : Addr) (H2 : Hp), Same H H1 → Rep H1 (Ak.tailD ns q) (.ref x) → Same H1 H2 → H2 p = some (.tup [.int n, .ref x]) → Q (.ref p) H2 := fun x H1 p H2 s1 r1 s2 e2 => by
      refine kk p H2 (s1.trans s2) ?_
      unfold Ak.mkD
      rw [Rep]
      exact ⟨p, _, rfl, e2, ⟨_, _, rfl, (by rw [Rep]), _, _, rfl, r1.mono s2, rfl⟩⟩
    cases q with
    | fin g =>
      obtain ⟨t, r, rfl, ht, hr'⟩ := rep_fin.mp rq
      simp_all only [ht]
      rw [if_neg (by decide +kernel), if_neg (by decide +kernel)]
      exact ⟨Nat.zero_le _, fun x H1 s1 n1 e1 => ⟨by decide, fun p H2 s2 n2 e2 => mk x H1 p H2 s1 (by show Rep _ (.tup []) _; rw [Rep]; exact ⟨x, [], rfl, e1, (by rw [RepL])⟩) s2 e2⟩⟩
    | thr g ws =>
      obtain ⟨t, r, m, zs, rfl, ht, hr', hm, rz⟩ := rep_thr.mp rq
      simp_all only [ht, spTm]
      refine ⟨ws, rep_lst.mpr ⟨m, zs, rfl, hm, rz⟩, ns, hc, gq.1, gq.2.1, gq.2.2, fun r1 H1 s1 rr => ⟨by decide, fun p H2 s2 n2 e2 => ?_⟩⟩
      exact mk r1 H1 p H2 s1 rr s2 e2
    | pck who to =>
      obtain ⟨t, m, rfl, ht, hm⟩ := rep_pck.mp rq
      simp_all only [ht, hm]
      rw [if_neg (by decide +kernel)]
      refine ⟨⟨_, SqL.of hm⟩, ?_⟩
      have S : Src (Itl K m) (Same H) to.length (fun i x H H3 => H3 = H ∧ (List.map V.int to)[i]? = some x) := by
        rw [show to.length = (List.map V.int to).length by rw [List.length_map]]
        exact src_list (fun H' s' => SqL.of (s' _ _ hm))
      refine comp_ints to (fun g => some (Ak.at_ ns g)) S (fun _ _ _ _ h => h.1) (by rw [sizeLine_eq]; have := gq.1; omega) ?_ ?_
      · rintro i g x eg ⟨_, ex⟩ Y N y1 _
        rw [List.getElem?_map, eg] at ex
        cases ex
        have gg := gq.2 g (List.mem_of_getElem? eg)
        simp_all only [tYes, hc, at_int gg.1 gg.2]
        exact y1 _ rfl
      · intro D n1 n2
        rw [fm_some]
        have l4 : (to.map (Ak.at_ ns)).length ≤ 4000 := by rw [List.length_map]; have := gq.1; omega
        refine ⟨_, SqL.of upd_same, l4, fun l nl => ⟨_, upd_same, fun l1 nl1 => ⟨_, .inl ⟨SqL.of upd_same, fun l2 nl2 => ⟨by decide, fun p H2 s2 n2' e2 => ?_⟩⟩⟩⟩⟩
        have s1 := (same_upd (o := .lst (List.map V.int (to.map (Ak.at_ ns)))) n2).trans ((same_upd (o := stO P w l (to.map (Ak.at_ ns))) nl).trans ((same_upd (o := .lst (List.map V.int (Nm.srt (ded (to.map (Ak.at_ ns)))))) nl1).trans (same_upd (o := .tup (List.map V.int (Nm.srt (ded (to.map (Ak.at_ ns)))))) nl2)))
        refine mk l2 _ p H2 s1 ?_ s2 e2
        show Rep _ (.tup ((Nm.srt (ded (to.map (Ak.at_ ns)))).map Dat.int)) _
        rw [Rep]
        exact ⟨l2, _, rfl, upd_same, repL_int _ _⟩
theorem sc_marks_of : FnScope ["board", "numbers"] ["board", "numbers"] (defScope (top 6)) := ⟨rfl, rfl, rfl, by decide +kernel, rfl, by decide +kernel, by decide +kernel⟩
theorem ok_mks (T : Txt K mg) : Cal P w K mg base (CX1 P w) 4 "marks_of" ["board", "numbers"] spMks := by
  have c_mark_of : Cal P w K mg base (CX1 P w) 3 "mark_of" ["place", "number", "numbers"] spMk := ok_mk T
  refine T.d_marks_of.cal (fun _ _ _ _ _ _ us hl => match us, hl with | [_, _], _ => rfl) fun f fd F => F.okC sc_marks_of (fun vs H Q E h => ?_) (fun cdv A outer s H vs Q E hr h => ?_)
  · obtain ⟨_, _, _, _, rfl, _⟩ := h; rfl
  · obtain ⟨a, c, b, ns, rfl, rb, hc, lb, l2, gb, kk⟩ := h
    have nd := sc_marks_of.nd
    refine ⟨_, (pss_one (ps_ret (pe_comp rfl (N := ["board", "numbers"]) (so := defScope (top 6)) (N' := ["place", "number", "numbers"]) (k := 2) (fr := [1]) rfl rfl ⟨rfl, by decide +kernel, by decide +kernel, by decide +kernel, rfl, by decide +kernel, by decide +kernel⟩ (pi_zipK (K := K) rfl T.z_zip (pa_cons (pv 0) (pa_cons (pv 1) pa_nil (se rfl)) (se rfl))) (fun _ _ _ _ _ => (pg_tupK (K := K) (n := 2) rfl (pgs_cons (pg_name (i := 0) (show (["place", "number", "numbers"] : List Str).Nodup by decide +kernel) rfl (Or.inl rfl)) (pgs_cons (pg_name (i := 1) (show (["place", "number", "numbers"] : List Str).Nodup by decide +kernel) rfl (Or.inl rfl)) pgs_nil)))) (fun _ _ _ _ _ => pts_nil)
      (fun _ _ _ _ _ => (pe_cal c_mark_of (hr.mono (by decide)) rfl strictP.pass (pa_cons (pv 0) (pa_cons (pv 1) (pa_cons (pv 2) pa_nil (se rfl)) (se rfl)) (se rfl)) (he := se rfl) (hpl := na rfl)))))), ?_⟩
    obtain ⟨_, xs, e, ha, rl⟩ := rep_lst.mp rb
    cases e
    have lx := rl.length
    rw [List.length_map] at lx
    simp_all only []
    refine ⟨⟨_, SqL.of ha⟩, ⟨_, SqL.of hc⟩, ?_⟩
    refine comp_map2 (K := K) (src_zip (Ok := Same H) (fun H' s' => SqL.of (s' _ _ ha)) (fun H' s' => SqL.of (s' _ _ hc))) (fun i u v H3 => ∃ q n, b[i]? = some q ∧ ns[i]? = some n ∧ Rep H3 (plD q) u ∧ v = .int n) (fun i x H7 H8 hi s7 it => ?_) (by rw [sizeLine_eq, List.length_map]; omega) (fun i y H7 => ∃ q n, b[i]? = some q ∧ ns[i]? = some n ∧ Rep H7 (Ak.mkD ns q n) y) (fun i y H7 H8 s8 ⟨q, n, e1, e2, r⟩ => ⟨q, n, e1, e2, r.mono s8⟩) ?_ ?_
    · obtain ⟨p, x1, y1, n7, rfl, ex, ey, rfl⟩ := it
      obtain ⟨q, eq, rq⟩ := rep_br_get rl ex
      rw [List.getElem?_map] at ey
      obtain ⟨n, en, rfl⟩ := Option.map_eq_some_iff.mp ey
      exact ⟨same_upd n7, p, _, _, rfl, SqT.of upd_same, q, n, eq, en, (rq.mono s7).mono (same_upd n7), rfl⟩
    · rintro j u v H7 Q7 hj s7 ⟨q, n, eq, en, rq, rfl⟩ kq
      simp_all only [spMk]
      exact ⟨q, rq, ns, s7 _ _ hc, by rw [lb]; exact gb q (List.mem_of_getElem? eq), fun r H8 s8 r8 => kq _ _ s8 ⟨q, n, eq, en, r8⟩⟩
    · intro us H7 s7 lu hu D n3 n4
      rw [List.length_map] at lu
      refine kk D _ (s7.trans (same_upd n4)) (none_of s7 n4) (rep_lst.mpr ⟨D, us, rfl, upd_same, ?_⟩)
      refine RepL.of (by rw [Ak.marks_len lb]; omega) fun i d y ed ey => ?_
      obtain ⟨q, n, e1, e2, r⟩ := hu i y ey
      rw [Ak.marks_at e1 e2] at ed
      cases ed
      exact r.mono (same_upd n4)
theorem sc_next_round : FnScope ["one", "other", "last", "size"] ["one", "other", "last"] (defScope (top 7)) := ⟨rfl, rfl, rfl, by decide +kernel, rfl, by decide +kernel, by decide +kernel⟩
theorem ok_nx (T : Txt K mg) : Cal P w K mg base (CX1 P w) 5 "next_round" ["one", "other", "last"] (spNx K) := by
  have c_marks_of : Cal P w K mg base (CX1 P w) 4 "marks_of" ["board", "numbers"] spMks := ok_mks T
  have c_numbered : Cal P w K mg base (CX1 P w) 1 "numbered" ["marks"] spNum := ok_num T
  refine T.d_next_round.cal (fun _ _ _ _ _ _ us hl => match us, hl with | [_, _, _], _ => rfl) fun f fd F => F.okC sc_next_round (fun vs H Q E h => ?_) (fun cdv A outer s H vs Q E hr h => ?_)
  · obtain ⟨_, _, _, _, _, _, rfl, _⟩ := h; rfl
  · obtain ⟨a, e, c, b, d, ns, rfl, rb, rd, hc, ln, lb, ld, gb, gd, kk⟩ := h
    have nd := sc_next_round.nd
    refine ⟨_, (pss_cons (ps_set (i := 3) nd rfl (Or.inl rfl) (pe_callB call_lenL (by rfl) T.z_len PySem.boot_len (pa_cons (pv 0) pa_nil (se rfl)) (he := se rfl) (hpl := na rfl)))
    (pss_one (ps_ret (pe_cal c_numbered (hr.mono (by decide)) rfl strictP.pass (pa_cons (pe_op op_cat (pe_cal c_marks_of (hr.mono (by decide)) rfl strictP.pass (pa_cons (pv 0) (pa_cons (pe_slice (sl_listK (K := K)) (pv 2) po_none (po_some (pv 3))) pa_nil (se rfl)) (se rfl)) (he := se rfl) (hpl := na rfl)) (pe_cal c_marks_of (hr.mono (by decide)) rfl strictP.pass (pa_cons (pv 1) (pa_cons (pe_slice (sl_listK (K := K)) (pv 2) (po_some (pv 3)) po_none) pa_nil (se rfl)) (se rfl)) (he := se rfl) (hpl := na rfl))) pa_nil (se rfl)) (he := se rfl) (hpl := na rfl))))), ?_⟩
    obtain ⟨_, xs, e', ha, rl⟩ := rep_lst.mp rb
    cases e'
    have lx := rl.length
    rw [List.length_map] at lx
    simp_all only [rCat, ha, spMks, spNum]
    refine ⟨_, SqL.of hc, fun p np => ?_⟩
    rw [cut_take (by omega), Int.toNat_natCast, ← List.map_take, ← lx]
    have s1 := same_upd (o := .lst (List.map V.int (ns.take b.length))) np
    refine ⟨b, rb.mono s1, ns.take b.length, upd_same, by rw [List.length_take]; omega, lb, gb, fun l H2 s2 n2 r2 => ?_⟩
    have s12 := s1.trans s2
    refine ⟨_, SqL.of (s12 _ _ hc), fun p2 np2 => ?_⟩
    rw [cut_drop (by omega), Int.toNat_natCast, ← List.map_drop]
    have s3 := same_upd (o := .lst (List.map V.int (ns.drop b.length))) np2
    refine ⟨d, rd.mono (s12.trans s3), ns.drop b.length, upd_same, by rw [List.length_drop]; omega, ld, gd, fun l2 H3 s4 n4 r4 => ?_⟩
    obtain ⟨_, us, e', hl, ru⟩ := rep_lst.mp (r2.mono (s3.trans s4))
    cases e'
    obtain ⟨_, vs, e', hl2, rv⟩ := rep_lst.mp r4
    cases e'
    have lu := ru.length
    rw [Ak.marks_len (by rw [List.length_take]; omega)] at lu
    have lv := rv.length
    rw [Ak.marks_len (by rw [List.length_drop]; omega)] at lv
    refine ⟨us, hl, vs, hl2, by rw [sizeLine_eq]; omega, fun p3 np3 => ?_⟩
    have s5 := same_upd (o := .lst (us ++ vs)) np3
    have hkd : ∀ x ∈ Ak.both b d ns, Hk x := fun x hx => by
      have mm : ∀ (b : List Pl) (ns : List Int), ∀ x ∈ Ak.marks b ns, Hk x := fun b ns x hx => by
        obtain ⟨i, hi⟩ := List.getElem?_of_mem hx
        unfold Ak.marks at hi
        rw [List.getElem?_zipWith] at hi
        split at hi
        · cases hi
          exact hk_mk _ _ _
        · cases hi
      rcases List.mem_append.mp hx with hx | hx
      · exact mm _ _ x hx
      · exact mm _ _ x hx
    exact ⟨Ak.both b d ns, rep_lst.mpr ⟨p3, _, rfl, upd_same, (ru.append rv).mono s5⟩, hkd, by rw [Ak.both_len ln]; omega, fun l3 H4 s6 n6 e6 => kk l3 H4 (s12.trans (s3.trans (s4.trans (s5.trans s6)))) (none_of (s12.trans (s3.trans (s4.trans s5))) n6) e6⟩
theorem sc_rounds : FnScope ["one", "other", "told", "coming"] ["one", "other"] (defScope (top 8)) := ⟨rfl, rfl, rfl, by decide +kernel, rfl, by decide +kernel, by decide +kernel⟩
theorem ok_rd (T : Txt K mg) : Cal P w K mg base (CX1 P w) 6 "rounds" ["one", "other"] spRd2 := by
  have c_next_round : Cal P w K mg base (CX1 P w) 5 "next_round" ["one", "other", "last"] (spNx K) := ok_nx T
  have c_numbered : Cal P w K mg base (CX1 P w) 1 "numbered" ["marks"] spNum := ok_num T
  refine T.d_rounds.cal (fun _ _ _ _ _ _ us hl => match us, hl with | [_, _], _ => rfl) fun f fd F => F.okC sc_rounds (fun vs H Q E h => ?_) (fun cdv A outer s H vs Q E hr h => ?_)
  · obtain ⟨_, _, _, _, rfl, _⟩ := h; rfl
  · obtain ⟨a, e, b, d, rfl, rb, rd, lb, ld, gb, gd, kk⟩ := h
    have nd := sc_rounds.nd
    refine ⟨_, (pss_cons (ps_set (i := 2) nd rfl (Or.inl rfl) (pe_lst (pa_cons (pe_cal c_numbered (hr.mono (by decide)) rfl strictP.pass (pa_cons (pe_comp rfl (N := ["one", "other", "told", "coming"]) (so := defScope (top 8)) (N' := ["place"]) (k := 1) (fr := []) rfl rfl ⟨rfl, by decide +kernel, by decide +kernel, by decide +kernel, rfl, by decide +kernel, by decide +kernel⟩ (pi_listK (K := K) (pe_op op_cat (pv 0) (pv 1))) (fun _ _ _ _ _ => (pg_name (i := 0) (show (["place"] : List Str).Nodup by decide +kernel) rfl (Or.inl rfl))) (fun _ _ _ _ _ => pts_nil)
      (fun _ _ _ _ _ => (pe_slice (sl_tupA (K := K)) (pv 0) po_none (po_some pe_int)))) pa_nil (se rfl)) (he := se rfl) (hpl := na rfl)) pa_nil (se rfl))))
    (pss_one (ps_while PassesOwn.never (pt_val pe_bl) (pss_cons (ps_set (i := 3) nd rfl (Or.inl rfl) (pe_cal c_next_round (hr.mono (by decide)) rfl strictP.pass (pa_cons (pv 0) (pa_cons (pv 1) (pa_cons (pe_ix ix_listH (pv 2) (pe_un un_neg pe_int) (fun _ _ => rfl)) pa_nil (se rfl)) (se rfl)) (se rfl)) (he := se rfl) (hpl := na rfl)))
    (pss_cons (ps_if (pt_cmpR op_eq (pe_callB (call_len_stK (P := P) (w := w)) (by rfl) T.z_len PySem.boot_len (pa_cons (pe_callTy (call_setK (K := K) (P := P) (w := w)) (by rfl) T.z_set rfl (pa_cons (pv 3) pa_nil (se rfl)) (he := se rfl) (hpl := na rfl)) pa_nil (se rfl)) (he := se rfl) (hpl := na rfl)) (pe_callB (call_len_stK (P := P) (w := w)) (by rfl) T.z_len PySem.boot_len (pa_cons (pe_callTy (call_setK (K := K) (P := P) (w := w)) (by rfl) T.z_set rfl (pa_cons (pe_ix ix_listH (pv 2) (pe_un un_neg pe_int) (fun _ _ => rfl)) pa_nil (se rfl)) (he := se rfl) (hpl := na rfl)) pa_nil (se rfl)) (he := se rfl) (hpl := na rfl)) (nomark _)) (pss_one (ps_ret (pv 2)))
      pss_nil)
    (pss_one (ps_expr (pe_bm PySem.F.plainAttrs_list PySem.F.slot_list_append PySem.F.type_list_append mt_append.r (pv 2) (pa_cons (pv 3) pa_nil (se rfl)))))))))), ?_⟩
    obtain ⟨_, xs, e', ha, rl⟩ := rep_lst.mp rb
    cases e'
    obtain ⟨_, ys, e', he, ry⟩ := rep_lst.mp rd
    cases e'
    have lx := rl.length
    rw [List.length_map] at lx
    have ly := ry.length
    rw [List.length_map] at ly
    change tSeq _ _ _ [some (.ref a), some (.ref e), none, none] H
    refine seq_gen (fun σ' H1 => Same H H1 ∧ ∃ p l, H p = none ∧ H1 p = some (.lst [.ref l]) ∧ H1 l = some (.lst ((Ak.Rq b d 0).map V.int)) ∧ H l = none ∧ σ' = [some (.ref a), some (.ref e), some (.ref p), none]) ?_ (fun N hN => ?_)
    case refine_2 =>
      simp_all only [rCat, ha, he, spNum]
      refine ⟨by rw [sizeLine_eq]; omega, fun p np => ⟨⟨_, SqL.of upd_same⟩, ?_⟩⟩
      have s1 := same_upd (o := .lst (xs ++ ys)) np
      have hp1 : upd H p (.lst (xs ++ ys)) p = some (.lst (xs ++ ys)) := upd_same
      have rr := (rl.append ry).mono s1
      rw [← List.map_append] at rr
      generalize upd H p (.lst (xs ++ ys)) = H1 at *
      refine comp_map (src_list (Ok := Same H1) (fun H' s' => SqL.of (s' _ _ hp1))) (fun _ _ _ _ h => by rw [h.1]; exact Same.refl _) (by rw [sizeLine_eq, List.length_append]; omega) (fun i y H4 => ∃ q, (b ++ d)[i]? = some q ∧ Rep H4 (Ak.mk0 q) y) (fun i y H4 H5 s5 ⟨q, e, r⟩ => ⟨q, e, r.mono s5⟩) ?_ ?_
      · rintro i x w0 H6 H7 Q7 hi s6 ⟨rfl, ex⟩ kq
        obtain ⟨q, eq, rq⟩ := rep_br_get rr ex
        have rq := rq.mono s6
        cases q with
        | fin g =>
          obtain ⟨t, r, rfl, ht, hr'⟩ := rep_fin.mp rq
          simp_all only [rSlA]
          exact ⟨_, SqT.of ht, fun _ => kq _ _ (Same.refl _) ⟨_, eq, rq⟩, fun n => absurd ⟨rfl, (show HT.sIx 2 2 (some 2) = 2 by decide)⟩ n⟩
        | thr g ws =>
          obtain ⟨t, r, m, zs, rfl, ht, hr', hm, rz⟩ := rep_thr.mp rq
          simp_all only [rSlA]
          refine ⟨_, SqT.of ht, fun n => absurd n.2 (show ¬ HT.sIx 3 3 (some 2) = 3 by decide), fun _ p2 np2 => kq _ _ (same_upd np2) ⟨_, eq, ?_⟩⟩
          show Rep _ (.tup [.str (Str.ofString "throw"), wrowD g]) _
          rw [Rep]
          exact ⟨p2, _, rfl, upd_same, ⟨_, _, rfl, (by rw [Rep]), _, _, rfl, rep_wrow.mpr ⟨r, rfl, same_upd np2 _ _ hr'⟩, rfl⟩⟩
        | pck who to =>
          obtain ⟨t, m, rfl, ht, hm⟩ := rep_pck.mp rq
          simp_all only [rSlA]
          refine ⟨_, SqT.of ht, fun n => absurd n.2 (show ¬ HT.sIx 3 3 (some 2) = 3 by decide), fun _ p2 np2 => kq _ _ (same_upd np2) ⟨_, eq, ?_⟩⟩
          show Rep _ (.tup [.str (Str.ofString "pick"), .int who]) _
          rw [Rep]
          exact ⟨p2, _, rfl, upd_same, ⟨_, _, rfl, (by rw [Rep]), _, _, rfl, (by rw [Rep]), rfl⟩⟩
      · intro us H6 s6 lu hu D n8 n9
        rw [List.length_append] at lu
        refine ⟨(b ++ d).map Ak.mk0, rep_lst.mpr ⟨D, us, rfl, upd_same, ?_⟩, fun x hx => ?_, by rw [List.length_map, List.length_append]; omega, fun l H' s' n' e' => ⟨by decide, fun p2 np2 => hN _ _ ⟨?_, p2, l, ?_, upd_same, ?_, none_of (s1.trans (s6.trans (same_upd n9))) n', rfl⟩⟩⟩
        · refine repL_map (by rw [List.length_append]; omega) fun i y ey q eq => ?_
          obtain ⟨q', e1, r1⟩ := hu i y ey
          rw [eq] at e1
          cases e1
          exact r1.mono (same_upd n9)
        · obtain ⟨q, _, rfl⟩ := List.mem_map.mp hx
          exact hk_mk0 q
        · exact s1.trans (s6.trans ((same_upd n9).trans (s'.trans (same_upd np2))))
        · exact none_of (s1.trans (s6.trans ((same_upd n9).trans s'))) np2
        · rw [upd_ne (fun z => by rw [z, np2] at e'; cases e')]
          exact e'
    rintro _ H1 ⟨s1, p, l, np, hp, hl, nl0, rfl⟩
    have lp : l ≠ p := fun z => by
      rw [z, hp] at hl
      injection hl with hl
      injection hl with hl
      have := congrArg List.length hl
      rw [List.length_map, Ak.Rq_len] at this
      cases h0 : Ak.Rq b d 0 with
      | nil => rw [h0] at hl; cases hl
      | cons x xs => rw [h0] at hl; cases hl
    have fresh0 : Told2 H (hid H1 p) b d 0 [.ref l] := ⟨rfl, fun k x ex => by
      cases k with
      | zero => cases ex; exact ⟨l, rfl, by rw [hid_ne lp]; exact hl, nl0⟩
      | succ k => cases ex⟩
    simp_all only []
    refine while_by (fun σ H2 => Same H H2 ∧ ∃ m xs z, H2 p = some (.lst xs) ∧ Told2 H (hid H2 p) b d m xs ∧ (∀ k, k < m → ¬ Ak.Last b d k) ∧ m ≤ Ak.cnt (Ak.Rq b d m) ∧ σ = [some (V.ref a), some (V.ref e), some (V.ref p), z]) (fun _ H2 => match H2 p with | some (.lst xs) => b.length + d.length + 2 - xs.length | _ => 0) ?_ ?_ ?_
    · exact ⟨s1, 0, _, _, hp, fresh0, fun k hk => by omega, Nat.zero_le _, rfl⟩
    · rintro σ H2 ⟨s2, m, zs, z, hp2, ⟨lz, tz⟩, nl, mc, rfl⟩
      have ex : zs[m]? = some zs[m] := List.getElem?_eq_getElem (by omega)
      obtain ⟨lm, em, hm, _⟩ := tz m _ ex
      rw [em] at ex
      have ez : zs = zs.take m ++ [V.ref lm] := by
        have := List.take_add_one (l := zs) (i := m)
        rw [ex, List.take_of_length_le (by omega)] at this
        exact this
      have al : atI zs (-1) = some (V.ref lm) := by
        rw [ez]
        exact atI_last _ _
      have hm2 : H2 lm = some (.lst ((Ak.Rq b d m).map V.int)) := hid_sub _ _ hm
      simp_all only [spNx, hp2, al, rAppend]
      have rl4 : ∀ k, (Ak.Rq b d k).length ≤ 4000 := fun k => by rw [Ak.Rq_len]; omega
      refine ⟨b, rb.mono s2, d, rd.mono s2, _, hm2, Ak.Rq_len b d m, lb, ld, gb, gd, fun l3 H3 s3 n3 e3 => ?_⟩
      have e3 : H3 l3 = some (.lst ((Ak.Rq b d (m + 1)).map V.int)) := e3
      refine ⟨Ak.Rq b d (m + 1), SqL.of e3, rl4 _, fun t1 nt1 => ⟨_, upd_same, ?_⟩⟩
      have s4 := same_upd (o := stO P w t1 (Ak.Rq b d (m + 1))) nt1
      refine ⟨zs, s4 _ _ (s3 _ _ hp2), _, al, lm, rfl, Ak.Rq b d m, SqL.of (s4 _ _ (s3 _ _ hm2)), rl4 _, fun t2 nt2 => ⟨_, upd_same, ?_⟩⟩
      have s5 := same_upd (o := stO P w t2 (Ak.Rq b d m)) nt2
      have s35 := s3.trans (s4.trans s5)
      have hp5 := s35 _ _ hp2
      have e5 := s5 _ _ (s4 _ _ e3)
      have pl3 : l3 ≠ p := fun z => by rw [z, hp2] at n3; cases n3
      generalize upd (upd H3 t1 (stO P w t1 (Ak.Rq b d (m + 1)))) t2 (stO P w t2 (Ak.Rq b d m)) = H5 at *
      have t5 : Told2 H (hid H5 p) b d m zs := ⟨lz, fun k x ex => by
        obtain ⟨lk, ek, hk, fk⟩ := tz k x ex
        exact ⟨lk, ek, hid_mono s35 _ _ hk, fk⟩⟩
      refine ite2 (fun c => ?_) (fun c => ?_)
      · exact kk p H5 m zs (s2.trans s35) np hp5 t5 (by unfold Ak.Last Ak.cnt; omega) nl
      · have cg := Ak.Rq_cnt b d m
        have cc : Ak.cnt (Ak.Rq b d (m + 1)) ≠ Ak.cnt (Ak.Rq b d m) := fun z => c (by unfold Ak.cnt at z; omega)
        have cn := Ak.cnt_le (Ak.Rq b d m)
        rw [Ak.Rq_len] at cn
        refine ⟨.inl ⟨rfl, _, SqL.of hp5⟩, zs, hp5, by rw [sizeLine_eq]; omega, same_upd_of (s2.trans s35) np, ⟨m + 1, _, upd_same, ⟨?_, fun k x ex => ?_⟩, fun k hk => ?_, by omega, _, rfl⟩, ?_⟩
        · rw [List.length_append, lz]
          rfl
        · by_cases ck : k < zs.length
          · rw [List.getElem?_append_left ck] at ex
            obtain ⟨lk, ek, hk, fk⟩ := t5.2 k x ex
            exact ⟨lk, ek, hid_put _ _ hk, fk⟩
          · have ck2 : k = m + 1 := by
              have := (List.getElem?_eq_some_iff.mp ex).1
              rw [List.length_append] at this
              simp at this
              omega
            subst ck2
            rw [List.getElem?_append_right (by omega), lz, Nat.sub_self] at ex
            cases ex
            exact ⟨l3, rfl, by rw [hid_ne pl3, upd_ne pl3]; exact e5, none_of s2 n3⟩
        · by_cases ck : k < m
          · exact nl k ck
          · have : k = m := by omega
            subst this
            exact fun z => cc z
        · rw [upd_same]
          show b.length + d.length + 2 - (zs ++ [V.ref l3]).length < _
          rw [List.length_append]
          simp
          omega
    · intro σ H1 Q1 Q2 hq hc
      simp only [L2.start, Pr, tRev, tLR, tMaxD, tSortR, tD1, tDPop1, tSl, tNoPart, tPart, rSlL, tDIn, tDNotIn, gSub, rSetL, tLst, tDNewK, tComp, L2.stC, tFor_eq, iList, iTup, iRng1, iRng2, iZip, iEnum, iDict, iStr, tChain, tSumV, tBM, rJoin, tJoined, jNil, jLit, jInt, jStr, tRaise, tDGet, tDGet2, tDGet1, sDPut, Option.join_some, List.getElem?_nil,  tSeq, tRet, tRetN, tIfS, tTest, tB, tOp, tUn, tVar, tC, tCB, tCons, tNil, tCall, tTupS, tAsg, gName, gNil, gCons, tPar, tNext, tDrop, tAnd, tOr, tNot, tAndV, tOrV, tNotV, tIf, rI, rI0, rU, rIxTH, rIxLH, rEqT, rNeT, rInT, rEq, rNe, scal, CPow, at0, at1, at2, List.map_cons, List.map_nil, List.length_cons, List.length_nil, Nat.reduceSub, Nat.reduceAdd, Nat.zero_add, List.replicate_zero, List.reduceReplicate, List.append_nil, List.nil_append, List.cons_append, List.getElem?_cons_zero, List.getElem?_cons_succ, List.set_cons_zero, List.set_cons_succ, Option.some.injEq, exists_eq_left', exists_eq_left, V.ref.injEq, V.int.injEq, V.bl.injEq, V.str.injEq, V.ty.injEq, HO.tup.injEq, HO.lst.injEq, List.cons.injEq, and_true, true_and, and_assoc, exists_and_left, decide_eq_true_eq, Bool.not_eq_true', decide_eq_false_iff_not, ite_true, ite_false, if_true, if_false, Int.reduceToNat, eq_self_iff_true] at hc ⊢
      exact hq _ _ hc
theorem sc__law_cell : FnScope ["_law_script", "_law_k", "_law_number"] ["_law_script", "_law_k"] (defScope (top 10)) := ⟨rfl, rfl, rfl, by decide +kernel, rfl, by decide +kernel, by decide +kernel⟩
theorem ok_cell (T : Txt K mg) : Cal P w K mg base (CX1 P w) 1 "_law_cell" ["_law_script", "_law_k"] (spC K) := by
  refine T.d__law_cell.cal (fun _ _ _ _ _ _ us hl => match us, hl with | [_, _], _ => rfl) fun f fd F => F.okC sc__law_cell (fun vs H Q E h => ?_) (fun cdv A outer s H vs Q E hr h => ?_)
  · obtain ⟨_, _, _, rfl, _⟩ := h; rfl
  · obtain ⟨a, ns, k, rfl, hS, k0, k1, kk⟩ := h
    have nd := sc__law_cell.nd
    refine ⟨_, (pss_cons (ps_if (pt_cmpR op_lt (pv 1) (pe_callB (call_lenQK (K := K)) (by rfl) T.z_len PySem.boot_len (pa_cons (pv 0) pa_nil (se rfl)) (he := se rfl) (hpl := na rfl)) (nomark _)) (pss_one (ps_ret (pe_ix (ix_listSK (K := K)) (pv 0) (pv 1) (fun _ _ => rfl))))
      pss_nil)
    (pss_cons (ps_set (i := 2) nd rfl (Or.inl rfl) (pe_op op_add (pe_op op_mulB (pv 1) pe_int) pe_int))
    (pss_cons (ps_if (pt_cmpR op_gt (pe_callB (call_lenQK (K := K)) (by rfl) T.z_len PySem.boot_len (pa_cons (pv 0) pa_nil (se rfl)) (he := se rfl) (hpl := na rfl)) pe_int (nomark _)) (pss_one (ps_set (i := 2) nd rfl (Or.inl rfl) (pe_op op_add (pe_op op_mulB (pe_op op_modB (pe_ix (ix_listSK (K := K)) (pv 0) (pe_op op_modB (pe_op op_mulB (pv 1) pe_int) (pe_callB (call_lenQK (K := K)) (by rfl) T.z_len PySem.boot_len (pa_cons (pv 0) pa_nil (se rfl)) (he := se rfl) (hpl := na rfl))) (fun _ _ => rfl)) pe_int) pe_int) (pe_op op_mulB (pv 1) pe_int))))
      pss_nil)
    (pss_one (ps_ret (pe_op op_modB (pe_op op_mulB (pv 2) (pv 2)) pe_int)))))), ?_⟩
    simp_all only [rIxQ]
    refine ⟨ns, hS, ite2 (fun c => ⟨ns, hS, k0, c, kk _⟩) (fun c => ⟨mulOkL (by omega) (by omega), ns, hS, ite2 (fun z => ?_) (fun z => ?_)⟩)⟩
    · have m1 := Int.emod_nonneg (ns.getD (k * 7 % (ns.length : Int)).toNat 0) (show (2147483647 : Int) ≠ 0 by decide)
      have m2 := Int.emod_lt_of_pos (ns.getD (k * 7 % (ns.length : Int)).toNat 0) (show (0 : Int) < 2147483647 by decide)
      exact ⟨mulOkL (by omega) (by omega), ns, hS, z, ns, hS, Int.emod_nonneg _ (by omega), Int.emod_lt_of_pos _ z, by decide, mulOkR, mulOkL (by omega) (by omega), mulOkL (by omega) (by omega), by decide, kk _⟩
    · exact ⟨mulOkL (by omega) (by omega), by decide, kk _⟩
theorem sc__law_mixed : FnScope ["_law_cell_here", "_law_many"] ["_law_cell_here", "_law_many"] (defScope (top 11)) := ⟨rfl, rfl, rfl, by decide +kernel, rfl, by decide +kernel, by decide +kernel⟩
theorem ok_mix (T : Txt K mg) : Cal P w K mg base (CX1 P w) 1 "_law_mixed" ["_law_cell_here", "_law_many"] spMix := by
  refine T.d__law_mixed.cal (fun _ _ _ _ _ _ us hl => match us, hl with | [_, _], _ => rfl) fun f fd F => F.okC sc__law_mixed (fun vs H Q E h => ?_) (fun cdv A outer s H vs Q E hr h => ?_)
  · obtain ⟨_, _, rfl, _⟩ := h; rfl
  · obtain ⟨c, m, rfl, m0, kk⟩ := h
    have nd := sc__law_mixed.nd
    refine ⟨_, (pss_one (ps_ret (pe_op op_modB (pe_op op_fdivB (pe_op op_modB (pe_op op_mulB (pe_op op_modB (pv 0) (pe_op op_pow pe_int pe_int)) pe_int) (pe_op op_pow pe_int pe_int)) (pe_op op_pow pe_int pe_int)) (pv 1)))), ?_⟩
    simp_all only []
    have h1 := Int.emod_nonneg c (show ((2 : Int) ^ 64) ≠ 0 by decide)
    have h2 := Int.emod_lt_of_pos c (show (0 : Int) < 2 ^ 64 by decide)
    exact ⟨by decide, by decide, by decide, by decide, mulOkL (by omega) (by omega), by decide, by decide, by decide, by decide, by decide, by decide, by decide, CDivB.lit, m0, kk _ (Int.emod_nonneg _ (by omega)) (Int.emod_lt_of_pos _ m0)⟩
theorem sc__law_divisor : FnScope ["_law_one", "_law_other", "_law_rest"] ["_law_one", "_law_other"] (defScope (top 12)) := ⟨rfl, rfl, rfl, by decide +kernel, rfl, by decide +kernel, by decide +kernel⟩
theorem ok_dv (T : Txt K mg) : Cal P w K mg base (CX1 P w) 1 "_law_divisor" ["_law_one", "_law_other"] spDv := by
  refine T.d__law_divisor.cal (fun _ _ _ _ _ _ us hl => match us, hl with | [_, _], _ => rfl) fun f fd F => F.okC sc__law_divisor (fun vs H Q E h => ?_) (fun cdv A outer s H vs Q E hr h => ?_)
  · obtain ⟨_, _, rfl, _⟩ := h; rfl
  · obtain ⟨a, b, rfl, a0, b0, b1, kk⟩ := h
    have nd := sc__law_divisor.nd
    refine ⟨_, (pss_cons (ps_while PassesOwn.never (pt_cmpR op_gt (pv 1) pe_int (nomark _)) (pss_cons (ps_set (i := 2) nd rfl (Or.inl rfl) (pe_op op_modB (pv 0) (pv 1)))
    (pss_cons (ps_set (i := 0) nd rfl (Or.inl rfl) (pv 1))
    (pss_one (ps_set (i := 1) nd rfl (Or.inl rfl) (pv 2))))))
    (pss_one (ps_ret (pv 0)))), ?_⟩
    simp_all only []
    refine while_by (fun σ H1 => H1 = H ∧ ∃ x y : Int, ∃ z, σ = [some (.int x), some (.int y), z] ∧ 0 ≤ x ∧ 0 ≤ y ∧ y ≤ 1000000 ∧ (y = 0 → 0 < x ∧ x ≤ 1000000)) (fun σ _ => match σ with | [_, some (.int y), _] => y.toNat | _ => 0) ?_ ?_ ?_
    · exact ⟨rfl, _, _, _, rfl, a0, by omega, b1, fun z => by omega⟩
    · rintro σ H1 ⟨rfl, x, y, z, rfl, x0, y0, y1, yz⟩
      simp_all only []
      refine ite2 (fun c => ?_) (fun c => kk x (yz (by omega)).1 (yz (by omega)).2)
      have r0 := Int.emod_nonneg x (show y ≠ 0 by omega)
      have r1 := Int.emod_lt_of_pos x c
      exact ⟨c, by omega, r0, by omega, fun _ => ⟨c, y1⟩, by omega⟩
    · intro σ H1 Q1 Q2 hq hc
      simp only [L2.start, Pr, tRev, tLR, tMaxD, tSortR, tD1, tDPop1, tSl, tNoPart, tPart, rSlL, tDIn, tDNotIn, gSub, rSetL, tLst, tDNewK, tComp, L2.stC, tFor_eq, iList, iTup, iRng1, iRng2, iZip, iEnum, iDict, iStr, tChain, tSumV, tBM, rJoin, tJoined, jNil, jLit, jInt, jStr, tRaise, tDGet, tDGet2, tDGet1, sDPut, Option.join_some, List.getElem?_nil,  tSeq, tRet, tRetN, tIfS, tTest, tB, tOp, tUn, tVar, tC, tCB, tCons, tNil, tCall, tTupS, tAsg, gName, gNil, gCons, tPar, tNext, tDrop, tAnd, tOr, tNot, tAndV, tOrV, tNotV, tIf, rI, rI0, rU, rIxTH, rIxLH, rEqT, rNeT, rInT, rEq, rNe, scal, CPow, at0, at1, at2, List.map_cons, List.map_nil, List.length_cons, List.length_nil, Nat.reduceSub, Nat.reduceAdd, Nat.zero_add, List.replicate_zero, List.reduceReplicate, List.append_nil, List.nil_append, List.cons_append, List.getElem?_cons_zero, List.getElem?_cons_succ, List.set_cons_zero, List.set_cons_succ, Option.some.injEq, exists_eq_left', exists_eq_left, V.ref.injEq, V.int.injEq, V.bl.injEq, V.str.injEq, V.ty.injEq, HO.tup.injEq, HO.lst.injEq, List.cons.injEq, and_true, true_and, and_assoc, exists_and_left, decide_eq_true_eq, Bool.not_eq_true', decide_eq_false_iff_not, ite_true, ite_false, if_true, if_false, Int.reduceToNat, eq_self_iff_true] at hc ⊢
      obtain ⟨v, e1, i, e2, h⟩ := hc
      exact ⟨v, e1, i, e2, hq _ _ h⟩
theorem sc__law_share : FnScope ["_law_cell_here", "_law_few", "_law_bottom", "_law_top", "_law_by"] ["_law_cell_here", "_law_few"] (defScope (top 13)) := ⟨rfl, rfl, rfl, by decide +kernel, rfl, by decide +kernel, by decide +kernel⟩
theorem ok_sh (T : Txt K mg) : Cal P w K mg base (CX1 P w) 2 "_law_share" ["_law_cell_here", "_law_few"] spSh := by
  have c__law_divisor : Cal P w K mg base (CX1 P w) 1 "_law_divisor" ["_law_one", "_law_other"] spDv := ok_dv T
  refine T.d__law_share.cal (fun _ _ _ _ _ _ us hl => match us, hl with | [_, _], _ => rfl) fun f fd F => F.okC sc__law_share (fun vs H Q E h => ?_) (fun cdv A outer s H vs Q E hr h => ?_)
  · obtain ⟨_, _, rfl, _⟩ := h; rfl
  · obtain ⟨c, f, rfl, kk⟩ := h
    have nd := sc__law_share.nd
    refine ⟨_, (pss_cons (ps_if (pt_val (pv 1)) (pss_one (ps_ret (pe_ix ix_listH (pe_lst (pa_cons (pe_tupS (pa_cons pe_int (pa_cons pe_int pa_nil (se rfl)) (se rfl))) (pa_cons (pe_tupS (pa_cons pe_int (pa_cons pe_int pa_nil (se rfl)) (se rfl))) (pa_cons (pe_tupS (pa_cons (pe_un un_neg pe_int) (pa_cons pe_int pa_nil (se rfl)) (se rfl))) (pa_cons (pe_tupS (pa_cons pe_int (pa_cons pe_int pa_nil (se rfl)) (se rfl))) pa_nil (se rfl)) (se rfl)) (se rfl)) (se rfl))) (pe_op op_modB (pv 0) pe_int) (fun _ _ => rfl))))
      pss_nil)
    (pss_cons (ps_set (i := 2) nd rfl (Or.inl rfl) (pe_ix ix_listH (pe_lst (pa_cons pe_int (pa_cons pe_int (pa_cons pe_int (pa_cons pe_int (pa_cons (pe_op op_pow pe_int pe_int) pa_nil (se rfl)) (se rfl)) (se rfl)) (se rfl)) (se rfl))) (pe_op op_modB (pv 0) pe_int) (fun _ _ => rfl)))
    (pss_cons (ps_set (i := 3) nd rfl (Or.inl rfl) (pe_op op_sub (pe_op op_modB (pe_op op_mulB (pe_op op_fdivB (pv 0) pe_int) pe_int) (pe_op op_sub (pe_op op_mulB pe_int (pe_op op_pow pe_int pe_int)) pe_int)) (pe_op op_sub (pe_op op_pow pe_int pe_int) pe_int)))
    (pss_cons (ps_set (i := 4) nd rfl (Or.inl rfl) (pe_cal c__law_divisor (hr.mono (by decide)) rfl strictP.pass (pa_cons (pe_callB call_abs (by rfl) T.z_abs rfl (pa_cons (pv 3) pa_nil (se rfl)) (he := se rfl) (hpl := na rfl)) (pa_cons (pv 2) pa_nil (se rfl)) (se rfl)) (he := se rfl) (hpl := na rfl)))
    (pss_one (ps_ret (pe_tupS (pa_cons (pe_op op_fdivB (pv 3) (pv 4)) (pa_cons (pe_op op_fdivB (pv 2) (pv 4)) pa_nil (se rfl)) (se rfl))))))))), ?_⟩
    change tSeq _ _ _ [some (.int c), some (.bl f), none, none, none] H
    refine seq_gen (fun σ' H1 => H = H1 ∧ σ' = [some (.int c), some (.bl f), none, none, none]) ?_ (fun N hN => ?_)
    case refine_2 =>
      simp_all only [tTupS]
      refine ite2 (fun _ => ⟨by decide, fun p1 H1 s1 n1 e1 => ⟨by decide, fun p2 H2 s2 n2 e2 => ⟨by decide, fun p3 H3 s3 n3 e3 => ⟨by decide, fun p4 H4 s4 n4 e4 => ⟨by decide, fun p np => ⟨by decide, _, upd_same, ?_⟩⟩⟩⟩⟩⟩) (fun _ => hN _ _ ⟨rfl, rfl⟩)
      have s5 := same_upd (o := .lst [V.ref p1, V.ref p2, V.ref p3, V.ref p4]) np
      have s15 := s1.trans (s2.trans (s3.trans (s4.trans s5)))
      rcases (show c % 4 = 0 ∨ c % 4 = 1 ∨ c % 4 = 2 ∨ c % 4 = 3 by omega) with e | e | e | e <;> rw [e]
      · exact ⟨_, at0, kk _ _ _ _ s15 (s5 _ _ (s4 _ _ (s3 _ _ (s2 _ _ e1))))⟩
      · exact ⟨_, at1, kk _ _ _ _ s15 (s5 _ _ (s4 _ _ (s3 _ _ e2)))⟩
      · exact ⟨_, at2, kk _ _ _ _ s15 (s5 _ _ (s4 _ _ e3))⟩
      · exact ⟨_, atI_nat (j := 3) rfl, kk _ _ _ _ s15 (s5 _ _ e4)⟩
    rintro _ _ ⟨rfl, rfl⟩
    have fin : ∃ x : Int, atI [V.int 1, V.int 2, V.int 3, V.int 999983, V.int (10 ^ 6)] (c % 5) = some (.int x) ∧ 0 < x ∧ x ≤ 1000000 := by
      rcases (show c % 5 = 0 ∨ c % 5 = 1 ∨ c % 5 = 2 ∨ c % 5 = 3 ∨ c % 5 = 4 by omega) with e | e | e | e | e <;> rw [e]
      · exact ⟨_, at0, by decide, by decide⟩
      · exact ⟨_, at1, by decide, by decide⟩
      · exact ⟨_, at2, by decide, by decide⟩
      · exact ⟨_, atI_nat (j := 3) rfl, by decide, by decide⟩
      · exact ⟨_, atI_nat (j := 4) rfl, by decide, by decide⟩
    obtain ⟨bo, ebo, b0, b1⟩ := fin
    simp_all only [tTupS, spDv]
    refine ⟨by decide, by decide, by decide, by decide, fun p np => ⟨by decide, _, upd_same, _, ebo, CDivB.lit, mulOkR, by decide, by decide, by decide, mulOkL, by decide, by decide, by decide, by decide, _, rfl, ?_, b0, b1, fun g g0 g1 => ?_⟩⟩
    · split <;> omega
    · have cd : ∀ z : Int, CDivB z g := fun z => CDivB.of (n := 20) g0 (Bt.of 1000000 (by omega) (by omega))
      exact ⟨cd _, _, rfl, cd _, by decide, fun p1 H2 s2 n2 e2 => kk _ _ _ _ ((same_upd np).trans s2) e2⟩
theorem sc__law_place : FnScope ["_law_cell_here", "_law_n", "_law_few", "_law_bits", "_law_many", "_law_goals", "_law_weights"] ["_law_cell_here", "_law_n", "_law_few"] (defScope (top 14)) := ⟨rfl, rfl, rfl, by decide +kernel, rfl, by decide +kernel, by decide +kernel⟩
theorem ok_place (T : Txt K mg) : Cal P w K mg base (CX1 P w) 3 "_law_place" ["_law_cell_here", "_law_n", "_law_few"] spPl := by
  have c__law_mixed : Cal P w K mg base (CX1 P w) 1 "_law_mixed" ["_law_cell_here", "_law_many"] spMix := ok_mix T
  have c__law_share : Cal P w K mg base (CX1 P w) 2 "_law_share" ["_law_cell_here", "_law_few"] spSh := ok_sh T
  refine T.d__law_place.cal (fun _ _ _ _ _ _ us hl => match us, hl with | [_, _, _], _ => rfl) fun f fd F => F.okC sc__law_place (fun vs H Q E h => ?_) (fun cdv A outer s H vs Q E hr h => ?_)
  · obtain ⟨_, _, _, rfl, _⟩ := h; rfl
  · obtain ⟨c, n, fw, rfl, n0, n1, kk⟩ := h
    have nd := sc__law_place.nd
    refine ⟨_, (pss_cons (ps_set (i := 3) nd rfl (Or.inr rfl) (pe_cal c__law_mixed (hr.mono (by decide)) rfl strictP.pass (pa_cons (pv 0) (pa_cons (pe_op op_pow pe_int pe_int) pa_nil (se rfl)) (se rfl)) (he := se rfl) (hpl := na rfl)))
    (pss_cons (ps_if (pt_cmpR op_lt (pe_op op_modB (pv 3) pe_int) pe_int (nomark _)) (pss_one (ps_ret (pe_tupS (pa_cons pe_str (pa_cons (pe_cal c__law_share (hr.mono (by decide)) rfl strictP.pass (pa_cons (pe_op op_fdivB (pv 3) pe_int) (pa_cons (pv 2) pa_nil (se rfl)) (se rfl)) (he := se rfl) (hpl := na rfl)) pa_nil (se rfl)) (se rfl)))))
      pss_nil)
    (pss_cons (ps_set (i := 4) nd rfl (Or.inl rfl) (pe_op op_add pe_int (pe_op op_modB (pe_op op_fdivB (pv 3) pe_int) pe_int)))
    (pss_cons (ps_if (pt_cmpR op_lt (pe_op op_modB (pv 3) pe_int) pe_int (nomark _)) (pss_cons (ps_set (i := 4) nd rfl (Or.inl rfl) (pe_op op_add pe_int (pe_op op_modB (pe_op op_fdivB (pv 3) pe_int) pe_int)))
    (pss_one (ps_if (pt_cmpR op_eq (pe_op op_modB (pe_op op_fdivB (pv 3) pe_int) pe_int) pe_int (nomark _)) (pss_one (ps_set (i := 4) nd rfl (Or.inl rfl) (pe_op op_add pe_int (pe_op op_modB (pe_op op_fdivB (pv 3) pe_int) pe_int))))
      pss_nil)))
      pss_nil)
    (pss_cons (ps_set (i := 5) nd rfl (Or.inr rfl) (pe_comp rfl (N := ["_law_cell_here", "_law_n", "_law_few", "_law_bits", "_law_many", "_law_goals", "_law_weights"]) (so := defScope (top 14)) (N' := ["_law_j", "_law_cell_here", "_law_n"]) (k := 1) (fr := [0, 1]) rfl rfl ⟨rfl, by decide +kernel, by decide +kernel, by decide +kernel, rfl, by decide +kernel, by decide +kernel⟩ (pi_range1 rfl T.z_range (pa_cons (pv 4) pa_nil (se rfl))) (fun _ _ _ _ _ => (pg_name (i := 0) (show (["_law_j", "_law_cell_here", "_law_n"] : List Str).Nodup by decide +kernel) rfl (Or.inl rfl))) (fun _ _ _ _ _ => pts_nil)
      (fun _ _ _ _ _ => (pe_op op_modB (pe_cal c__law_mixed (hr.mono (by decide)) rfl strictP.pass (pa_cons (pe_op op_add (pe_op op_mulB (pv 1) (pe_op op_add (pe_op op_mulB (pv 0) (pv 0)) pe_int)) (pv 0)) (pa_cons (pe_op op_pow pe_int pe_int) pa_nil (se rfl)) (se rfl)) (he := se rfl) (hpl := na rfl)) (pv 2)))))
    (pss_cons (ps_if (pt_cmpR op_gt (pe_op op_modB (pv 3) pe_int) pe_int (nomark _)) (pss_one (ps_ret (pe_tupS (pa_cons pe_str (pa_cons (pe_op op_add pe_int (pe_op op_modB (pe_op op_fdivB (pv 3) pe_int) pe_int)) (pa_cons (pv 5) pa_nil (se rfl)) (se rfl)) (se rfl)))))
      pss_nil)
    (pss_cons (ps_set (i := 6) nd rfl (Or.inr rfl) (pe_comp rfl (N := ["_law_cell_here", "_law_n", "_law_few", "_law_bits", "_law_many", "_law_goals", "_law_weights"]) (so := defScope (top 14)) (N' := ["_law_j", "_law_bits"]) (k := 1) (fr := [3]) rfl rfl ⟨rfl, by decide +kernel, by decide +kernel, by decide +kernel, rfl, by decide +kernel, by decide +kernel⟩ (pi_range1 rfl T.z_range (pa_cons (pv 4) pa_nil (se rfl))) (fun _ _ _ _ _ => (pg_name (i := 0) (show (["_law_j", "_law_bits"] : List Str).Nodup by decide +kernel) rfl (Or.inl rfl))) (fun _ _ _ _ _ => pts_nil)
      (fun _ _ _ _ _ => (pe_op op_add pe_int (pe_op op_modB (pe_op op_fdivB (pv 1) (pe_op op_add pe_int (pv 0))) (pe_ix ix_listH (pe_lst (pa_cons pe_int (pa_cons pe_int pa_nil (se rfl)) (se rfl))) (pe_op op_modB (pe_op op_fdivB (pv 1) pe_int) pe_int) (fun _ _ => rfl)))))))
    (pss_one (ps_ret (pe_tupS (pa_cons pe_str (pa_cons (pe_cal c__law_share (hr.mono (by decide)) rfl strictP.pass (pa_cons (pe_op op_fdivB (pv 3) pe_int) (pa_cons (pv 2) pa_nil (se rfl)) (se rfl)) (he := se rfl) (hpl := na rfl)) (pa_cons (pe_comp rfl (N := ["_law_cell_here", "_law_n", "_law_few", "_law_bits", "_law_many", "_law_goals", "_law_weights"]) (so := defScope (top 14)) (N' := ["_law_j", "_law_goals", "_law_weights"]) (k := 1) (fr := [5, 6]) rfl rfl ⟨rfl, by decide +kernel, by decide +kernel, by decide +kernel, rfl, by decide +kernel, by decide +kernel⟩ (pi_range1 rfl T.z_range (pa_cons (pv 4) pa_nil (se rfl))) (fun _ _ _ _ _ => (pg_name (i := 0) (show (["_law_j", "_law_goals", "_law_weights"] : List Str).Nodup by decide +kernel) rfl (Or.inl rfl))) (fun _ _ _ _ _ => pts_nil)
      (fun _ _ _ _ _ => (pe_tupS (pa_cons (pe_ix ix_listH (pv 2) (pv 0) (fun _ _ => rfl)) (pa_cons (pe_ix ix_listH (pv 1) (pv 0) (fun _ _ => rfl)) pa_nil (se rfl)) (se rfl))))) pa_nil (se rfl)) (se rfl)) (se rfl)))))))))))), ?_⟩
    change tSeq _ _ _ [some (.int c), some (.int n), some (.bl fw), none, none, none, none] H
    refine seq_gen (fun σ' H1 => H = H1 ∧ ∃ d, 0 ≤ d ∧ d < 2 ^ 50 ∧ σ' = [some (.int c), some (.int n), some (.bl fw), some (.int d), none, none, none]) ?_ (fun N hN => ?_)
    case refine_2 =>
      simp_all only [spMix]
      exact ⟨by decide, by decide, by decide, by decide, fun r r0 r1 => hN _ _ ⟨rfl, _, r0, r1, rfl⟩⟩
    rintro _ _ ⟨rfl, d, d0, d1, rfl⟩
    refine seq_gen (fun σ' H1 => H = H1 ∧ σ' = [some (.int c), some (.int n), some (.bl fw), some (.int d), none, none, none]) ?_ (fun N hN => ?_)
    case refine_2 =>
      simp_all only [tTupS, spSh]
      refine ⟨by decide, ite2 (fun _ => ?_) (fun _ => hN _ _ ⟨rfl, rfl⟩)⟩
      exact ⟨CDivB.lit, fun p H2 x y s2 e2 => ⟨by decide, fun q H3 s3 n3 e3 => kk _ _ (.fin (x, y)) (s2.trans s3) (rep_fin.mpr ⟨q, p, rfl, e3, s3 _ _ e2⟩) trivial⟩⟩
    rintro _ _ ⟨rfl, rfl⟩
    refine seq_gen (fun σ' H1 => H = H1 ∧ ∃ m, 1 ≤ m ∧ m ≤ 4 ∧ σ' = [some (.int c), some (.int n), some (.bl fw), some (.int d), some (.int m), none, none]) ?_ (fun N hN => ?_)
    case refine_2 =>
      simp_all only []
      exact ⟨CDivB.lit, by decide, hN _ _ ⟨rfl, _, by omega, by omega, rfl⟩⟩
    rintro _ _ ⟨rfl, m, m0, m1, rfl⟩
    refine seq_gen (fun σ' H1 => H = H1 ∧ ∃ m, 1 ≤ m ∧ m ≤ 100 ∧ σ' = [some (.int c), some (.int n), some (.bl fw), some (.int d), some (.int m), none, none]) ?_ (fun N hN => ?_)
    case refine_2 =>
      simp_all only []
      refine ⟨by decide, ite2 (fun l5 => ⟨CDivB.lit, by decide, CDivB.lit, by decide, ite2 (fun _ => ⟨CDivB.lit, by decide, ?_⟩) (fun _ => ?_)⟩) (fun _ => ?_)⟩
      · exact hN _ _ ⟨rfl, _, by omega, by omega, rfl⟩
      · exact hN _ _ ⟨rfl, _, by omega, by omega, rfl⟩
      · exact hN _ _ ⟨rfl, _, by omega, by omega, rfl⟩
    rintro _ _ ⟨rfl, m, m0, m1, rfl⟩
    refine seq_gen (fun σ' H1 => Same H H1 ∧ ∃ l gs, H1 l = some (.lst (List.map V.int gs)) ∧ gs.length = m.toNat ∧ (∀ g ∈ gs, 0 ≤ g ∧ g < n) ∧ σ' = [some (.int c), some (.int n), some (.bl fw), some (.int d), some (.int m), some (.ref l), none]) ?_ (fun N hN => ?_)
    case refine_2 =>
      simp_all only []
      refine ⟨by omega, by omega, ?_⟩
      refine comp_map src_range (fun _ _ _ _ h => by rw [h.1]; exact Same.refl _) (by rw [sizeLine_eq]; omega) (fun i y H4 => ∃ g, y = .int g ∧ 0 ≤ g ∧ g < n) (fun i y H4 H5 s5 h => h) ?_ ?_
      · rintro i x w0 H4 H5 Q2 hi s4 ⟨rfl, rfl⟩ kq
        simp_all only [spMix]
        have j0 : (0 : Int) ≤ 0 + (i : Int) := by omega
        have j1 : (0 : Int) + (i : Int) < 200 := by omega
        generalize (0 : Int) + (i : Int) = j at *
        have jq : IntMulOk j j := mulOkL (by omega) (by omega)
        have j2 : j * j ≤ 40000 := Int.le_trans (Int.mul_le_mul (show j ≤ 200 by omega) (show j ≤ 200 by omega) j0 (by decide)) (by decide)
        have j3 : 0 ≤ j * j := Int.mul_nonneg j0 j0
        exact ⟨jq, mulOkR (by omega) (by omega), by decide, by decide, by decide, by decide, fun r r0 r1 => ⟨n0, kq _ _ (Same.refl _) ⟨_, rfl, Int.emod_nonneg _ (by omega), Int.emod_lt_of_pos _ n0⟩⟩⟩
      · intro ys H4 s4 ly hy D n1 n2
        have : ∃ gs : List Int, ys = List.map V.int gs ∧ ∀ g ∈ gs, 0 ≤ g ∧ g < n := by
          clear ly n1 n2
          induction ys with
          | nil => exact ⟨[], rfl, by simp⟩
          | cons y ys ih =>
            obtain ⟨gs, e, h⟩ := ih fun i y e => hy (i + 1) y (by simpa using e)
            obtain ⟨g, rfl, g0, g1⟩ := hy 0 y rfl
            refine ⟨g :: gs, by rw [e]; rfl, fun x hx => ?_⟩
            rcases List.mem_cons.mp hx with rfl | hx
            · exact ⟨g0, g1⟩
            · exact h x hx
        obtain ⟨gs, rfl, hgs⟩ := this
        rw [List.length_map] at ly
        exact hN _ _ ⟨s4.trans (same_upd n2), D, gs, upd_same, ly, hgs, rfl⟩
    rintro _ H1 ⟨s1, l, gs, hl, lg, gg, rfl⟩
    change tSeq _ _ _ [some (.int c), some (.int n), some (.bl fw), some (.int d), some (.int m), some (.ref l), none] H1
    refine seq_gen (fun σ' H2 => H1 = H2 ∧ σ' = [some (.int c), some (.int n), some (.bl fw), some (.int d), some (.int m), some (.ref l), none]) ?_ (fun N hN => ?_)
    case refine_2 =>
      simp_all only [tTupS]
      exact ⟨by decide, ite2 (fun _ => ⟨CDivB.lit, by decide, by decide, fun p H2 s2 n2 e2 => kk _ _ (.pck (1 + d / 64 % 2) gs) (s1.trans s2) (rep_pck.mpr ⟨p, l, rfl, e2, s2 _ _ hl⟩) ⟨by omega, gg⟩⟩) (fun _ => hN _ _ ⟨rfl, rfl⟩)⟩
    rintro _ _ ⟨rfl, rfl⟩
    change tSeq _ _ _ [some (.int c), some (.int n), some (.bl fw), some (.int d), some (.int m), some (.ref l), none] H1
    refine seq_gen (fun σ' H2 => Same H1 H2 ∧ ∃ l2 us, H2 l2 = some (.lst (List.map V.int us)) ∧ us.length = m.toNat ∧ (∀ u ∈ us, 1 ≤ u ∧ u ≤ 1000000) ∧ σ' = [some (.int c), some (.int n), some (.bl fw), some (.int d), some (.int m), some (.ref l), some (.ref l2)]) ?_ (fun N hN => ?_)
    case refine_2 =>
      simp_all only []
      refine ⟨by omega, by omega, ?_⟩
      have fin : ∃ x : Int, atI [V.int 3, V.int 10000] (d / 32 % 2) = some (.int x) ∧ 1 ≤ x ∧ x ≤ 10000 := by
        rcases (show d / 32 % 2 = 0 ∨ d / 32 % 2 = 1 by omega) with e | e <;> rw [e]
        · exact ⟨3, at0, by decide, by decide⟩
        · exact ⟨10000, at1, by decide, by decide⟩
      obtain ⟨x0, ex, x1, x2⟩ := fin
      refine comp_map src_range (fun _ _ _ _ h => by rw [h.1]; exact Same.refl _) (by rw [sizeLine_eq]; omega) (fun i y H4 => ∃ g, y = .int g ∧ 1 ≤ g ∧ g ≤ 1000000) (fun i y H4 H5 s5 h => h) ?_ ?_
      · rintro i x w0 H4 H5 Q2 hi s4 ⟨rfl, rfl⟩ kq
        simp_all only []
        refine ⟨CDivB.of (n := 10) (by omega) (Bt.of 500 (by omega) (by omega)), by decide, fun q nq => ⟨CDivB.lit, by decide, _, upd_same, _, ex, _, rfl, by omega, kq _ _ (same_upd nq) ⟨_, rfl, ?_, ?_⟩⟩⟩
        · have := Int.emod_nonneg (d / (7 + (0 + (i : Int)))) (show x0 ≠ 0 by omega)
          omega
        · have := Int.emod_lt_of_pos (d / (7 + (0 + (i : Int)))) (show 0 < x0 by omega)
          omega
      · intro ys H4 s4 ly hy D n1 n2
        have : ∃ gs : List Int, ys = List.map V.int gs ∧ ∀ g ∈ gs, 1 ≤ g ∧ g ≤ 1000000 := by
          clear ly n1 n2
          induction ys with
          | nil => exact ⟨[], rfl, by simp⟩
          | cons y ys ih =>
            obtain ⟨gs, e, h⟩ := ih fun i y e => hy (i + 1) y (by simpa using e)
            obtain ⟨g, rfl, g0, g1⟩ := hy 0 y rfl
            refine ⟨g :: gs, by rw [e]; rfl, fun x hx => ?_⟩
            rcases List.mem_cons.mp hx with rfl | hx
            · exact ⟨g0, g1⟩
            · exact h x hx
        obtain ⟨gs, rfl, hgs⟩ := this
        rw [List.length_map] at ly
        exact hN _ _ ⟨s4.trans (same_upd n2), D, gs, upd_same, ly, hgs, rfl⟩
    rintro _ H2 ⟨s2, l2, us, hl2, lu, gu, rfl⟩
    simp_all only [tTupS, spSh]
    refine ⟨CDivB.lit, fun p1 H3 x y s23 e3 => ⟨by omega, by omega, ?_⟩⟩
    refine comp_map src_range (fun _ _ _ _ h => by rw [h.1]; exact Same.refl _) (by rw [sizeLine_eq]; omega) (fun i y H4 => ∃ r : Int × Int, Rep H4 (wrowD r) y ∧ 1 ≤ r.1 ∧ r.1 ≤ 1000000 ∧ 0 ≤ r.2 ∧ r.2 < n) (fun i y H4 H5 s5 ⟨r, h1, h2⟩ => ⟨r, h1.mono s5, h2⟩) ?_ ?_
    · rintro i y w0 H4 H5 Q2 hi s4 ⟨rfl, rfl⟩ kq
      have a1 := at_int (ts := us) (i := (0 : Int) + (i : Int)) (by omega) (by omega)
      have a2 := at_int (ts := gs) (i := (0 : Int) + (i : Int)) (by omega) (by omega)
      have m1 : us.getD ((0 : Int) + (i : Int)).toNat 0 ∈ us := List.mem_of_getElem? (getD_is (ts := us) (by omega) (by omega))
      have m2 : gs.getD ((0 : Int) + (i : Int)).toNat 0 ∈ gs := List.mem_of_getElem? (getD_is (ts := gs) (by omega) (by omega))
      simp_all only [tTupS, s4 _ _ (s23 _ _ hl2), s4 _ _ (s23 _ _ (s2 _ _ hl)), a1, a2]
      exact ⟨by decide, fun q H6 s6 n6 e6 => kq _ _ s6 ⟨(_, _), rep_wrow.mpr ⟨q, rfl, e6⟩, gu _ m1 |>.1, gu _ m1 |>.2, gg _ m2⟩⟩
    · intro ys H4 s4 ly hy D n1 n2
      obtain ⟨ws, rw8, lw, hws⟩ := ex_repL (f := wrowD) (P := fun p : Int × Int => 1 ≤ p.1 ∧ p.1 ≤ 1000000 ∧ 0 ≤ p.2 ∧ p.2 < n) (H := H4) (xs := ys) fun y h => by
        obtain ⟨j, ej⟩ := List.getElem?_of_mem h
        exact hy j y ej
      refine ⟨by decide, fun p5 H9 s9 n9 e9 => kk _ _ (.thr (x, y) ws) (s1.trans (s2.trans (s23.trans (s4.trans ((same_upd n2).trans s9))))) (rep_thr.mpr ⟨p5, p1, D, ys, rfl, e9, s9 _ _ (same_upd n2 _ _ (s4 _ _ e3)), s9 _ _ upd_same, rw8.mono ((same_upd n2).trans s9)⟩) ⟨by omega, by omega, hws⟩⟩
theorem sc__law_board : FnScope ["_law_script", "_law_at", "_law_few", "_law_n"] ["_law_script", "_law_at", "_law_few"] (defScope (top 15)) := ⟨rfl, rfl, rfl, by decide +kernel, rfl, by decide +kernel, by decide +kernel⟩
theorem ok_board (T : Txt K mg) : Cal P w K mg base (CX1 P w) 4 "_law_board" ["_law_script", "_law_at", "_law_few"] (spBd K) := by
  have c__law_cell : Cal P w K mg base (CX1 P w) 1 "_law_cell" ["_law_script", "_law_k"] (spC K) := ok_cell T
  have c__law_place : Cal P w K mg base (CX1 P w) 3 "_law_place" ["_law_cell_here", "_law_n", "_law_few"] spPl := ok_place T
  refine T.d__law_board.cal (fun _ _ _ _ _ _ us hl => match us, hl with | [_, _, _], _ => rfl) fun f fd F => F.okC sc__law_board (fun vs H Q E h => ?_) (fun cdv A outer s H vs Q E hr h => ?_)
  · obtain ⟨_, _, _, _, rfl, _⟩ := h; rfl
  · obtain ⟨a, ns, k, fw, rfl, hS, k0, k1, kk⟩ := h
    have nd := sc__law_board.nd
    refine ⟨_, (pss_cons (ps_set (i := 3) nd rfl (Or.inr rfl) (pe_op op_add pe_int (pe_op op_modB (pe_cal c__law_cell (hr.mono (by decide)) rfl strictP.pass (pa_cons (pv 0) (pa_cons (pv 1) pa_nil (se rfl)) (se rfl)) (he := se rfl) (hpl := na rfl)) pe_int)))
    (pss_cons (ps_if (pt_cmpR op_eq (pe_op op_modB (pe_op op_fdivB (pe_cal c__law_cell (hr.mono (by decide)) rfl strictP.pass (pa_cons (pv 0) (pa_cons (pv 1) pa_nil (se rfl)) (se rfl)) (he := se rfl) (hpl := na rfl)) pe_int) pe_int) pe_int (nomark _)) (pss_one (ps_set (i := 3) nd rfl (Or.inr rfl) (pe_op op_add pe_int (pe_op op_modB (pe_op op_fdivB (pe_cal c__law_cell (hr.mono (by decide)) rfl strictP.pass (pa_cons (pv 0) (pa_cons (pv 1) pa_nil (se rfl)) (se rfl)) (he := se rfl) (hpl := na rfl)) pe_int) pe_int))))
      pss_nil)
    (pss_one (ps_ret (pe_comp rfl (N := ["_law_script", "_law_at", "_law_few", "_law_n"]) (so := defScope (top 15)) (N' := ["_law_k", "_law_script", "_law_at", "_law_few", "_law_n"]) (k := 1) (fr := [0, 1, 2, 3]) rfl rfl ⟨rfl, by decide +kernel, by decide +kernel, by decide +kernel, rfl, by decide +kernel, by decide +kernel⟩ (pi_range1 rfl T.z_range (pa_cons (pv 3) pa_nil (se rfl))) (fun _ _ _ _ _ => (pg_name (i := 0) (show (["_law_k", "_law_script", "_law_at", "_law_few", "_law_n"] : List Str).Nodup by decide +kernel) rfl (Or.inl rfl))) (fun _ _ _ _ _ => pts_nil)
      (fun _ _ _ _ _ => (pe_cal c__law_place (hr.mono (by decide)) rfl strictP.pass (pa_cons (pe_op op_add (pe_op op_mulB (pe_cal c__law_cell (hr.mono (by decide)) rfl strictP.pass (pa_cons (pv 1) (pa_cons (pe_op op_add (pe_op op_add pe_int (pv 0)) (pe_op op_mulB pe_int (pv 2))) pa_nil (se rfl)) (se rfl)) (he := se rfl) (hpl := na rfl)) (pe_op op_add (pe_op op_mulB (pv 0) (pv 0)) pe_int)) (pv 0)) (pa_cons (pv 4) (pa_cons (pv 3) pa_nil (se rfl)) (se rfl)) (se rfl)) (he := se rfl) (hpl := na rfl)))))))), ?_⟩
    change tSeq _ _ _ [some (.ref a), some (.int k), some (.bl fw), none] H
    refine seq_gen (fun σ' H1 => H = H1 ∧ ∃ n, 1 ≤ n ∧ n ≤ 10 ∧ σ' = [some (.ref a), some (.int k), some (.bl fw), some (.int n)]) ?_ (fun N hN => ?_)
    case refine_2 =>
      simp_all only [spC]
      exact ⟨ns, hS, k0, by omega, fun c => ⟨by decide, hN _ _ ⟨rfl, _, by omega, by omega, rfl⟩⟩⟩
    rintro _ _ ⟨rfl, n, n0, n1, rfl⟩
    refine seq_gen (fun σ' H1 => H = H1 ∧ ∃ n, 1 ≤ n ∧ n ≤ 60 ∧ σ' = [some (.ref a), some (.int k), some (.bl fw), some (.int n)]) ?_ (fun N hN => ?_)
    case refine_2 =>
      simp_all only [spC]
      exact ⟨ns, hS, k0, by omega, fun c => ⟨CDivB.lit, by decide, ite2 (fun _ => ⟨ns, hS, k0, by omega, fun c2 => ⟨CDivB.lit, by decide, hN _ _ ⟨rfl, _, by omega, by omega, rfl⟩⟩⟩) (fun _ => hN _ _ ⟨rfl, _, n0, by omega, rfl⟩)⟩⟩
    clear n1 n0
    rintro _ _ ⟨rfl, n, n0, n1, rfl⟩
    simp_all only []
    refine ⟨by omega, by omega, ?_⟩
    refine comp_map src_range (fun _ _ _ _ h => by rw [h.1]; exact Same.refl _) (by rw [sizeLine_eq]; omega) (fun i y H4 => ∃ q, Rep H4 (plD q) y ∧ PkN n q) (fun i y H4 H5 s5 ⟨q, r, g⟩ => ⟨q, r.mono s5, g⟩) ?_ ?_
    · rintro i x w0 H4 H5 Q2 hi s4 ⟨rfl, rfl⟩ kq
      have j0 : (0 : Int) ≤ 0 + (i : Int) := by omega
      have j1 : (0 : Int) + (i : Int) < n := by omega
      simp_all only [spPl, spC]
      generalize (0 : Int) + (i : Int) = j at *
      have jq : IntMulOk j j := mulOkL (by omega) (by omega)
      have j2 : j * j ≤ 3600 := Int.le_trans (Int.mul_le_mul (show j ≤ 60 by omega) (show j ≤ 60 by omega) j0 (by decide)) (by decide)
      have j3 : 0 ≤ j * j := Int.mul_nonneg j0 j0
      exact ⟨mulOkL, ns, s4.seq hS, by omega, by omega, fun c => ⟨jq, mulOkR (by omega) (by omega), by omega, by omega, fun v H6 q s6 r6 g6 => kq _ _ s6 ⟨q, r6, g6⟩⟩⟩
    · intro ys H4 s4 ly hy D n2 n3
      obtain ⟨b, r, lb, g⟩ := ex_repL (f := plD) (P := PkN n) (H := H4) (xs := ys) fun y h => by
        obtain ⟨j, ej⟩ := List.getElem?_of_mem h
        exact hy j y ej
      have eb : (b.length : Int) = n := by omega
      refine kk D _ b (s4.trans (same_upd n3)) (rep_lst.mpr ⟨D, ys, rfl, upd_same, r.mono (same_upd n3)⟩) (by omega) (by omega) ?_
      rw [eb]
      exact g
theorem sc__law_copy : FnScope ["_law_board_here"] ["_law_board_here"] (defScope (top 16)) := ⟨rfl, rfl, rfl, by decide +kernel, rfl, by decide +kernel, by decide +kernel⟩
theorem ok_copy (T : Txt K mg) : Cal P w K mg base (CX1 P w) 1 "_law_copy" ["_law_board_here"] spCopy := by
  refine T.d__law_copy.cal (fun _ _ _ _ _ _ us hl => match us, hl with | [_], _ => rfl) fun f fd F => F.okC sc__law_copy (fun vs H Q E h => ?_) (fun cdv A outer s H vs Q E hr h => ?_)
  · obtain ⟨_, _, rfl, _⟩ := h; rfl
  · obtain ⟨a, b, rfl, rb, lb, kk⟩ := h
    have nd := sc__law_copy.nd
    refine ⟨_, (pss_one (ps_ret (pe_comp rfl (N := ["_law_board_here"]) (so := defScope (top 16)) (N' := ["_law_place_here"]) (k := 1) (fr := []) rfl rfl ⟨rfl, by decide +kernel, by decide +kernel, by decide +kernel, rfl, by decide +kernel, by decide +kernel⟩ (pi_listK (K := K) (pv 0)) (fun _ _ _ _ _ => (pg_name (i := 0) (show (["_law_place_here"] : List Str).Nodup by decide +kernel) rfl (Or.inr rfl))) (fun _ _ _ _ _ => pts_nil)
      (fun _ _ _ _ _ => (pe_op (op_catTK (K := K)) (pe_tupS (pa_cons (pe_ix ix_tupH (pv 0) pe_int (fun _ _ => rfl)) (pa_cons (pe_ix ix_tupH (pv 0) pe_int (fun _ _ => rfl)) pa_nil (se rfl)) (se rfl))) (pe_callTy (call_tuple_ofK (K := K)) (by rfl) T.z_tuple rfl (pa_cons (pe_compN rfl (N := ["_law_place_here"]) (N' := ["_law_k", "_law_place_here"]) (k := 1) (fr := [0]) rfl rfl ⟨rfl, by decide +kernel, by decide +kernel, by decide +kernel, rfl, by decide +kernel, by decide +kernel⟩ (pi_range1 rfl T.z_range (pa_cons (pe_op op_sub (pe_callB call_lenT (by rfl) T.z_len PySem.boot_len (pa_cons (pv 0) pa_nil (se rfl)) (he := se rfl) (hpl := na rfl)) pe_int) pa_nil (se rfl))) (fun _ _ _ _ _ => (pg_name (i := 0) (show (["_law_k", "_law_place_here"] : List Str).Nodup by decide +kernel) rfl (Or.inl rfl))) (fun _ _ _ _ _ => pts_nil)
      (fun _ _ _ _ _ => (pe_callTy (call_list_ofK (K := K)) (by rfl) T.z_list rfl (pa_cons (pe_ix ix_tupH (pv 1) pe_int (fun _ _ => rfl)) pa_nil (se rfl)) (he := se rfl) (hpl := na rfl)))) pa_nil (se rfl)) (he := se rfl) (hpl := na rfl))))))), ?_⟩
    obtain ⟨_, xs, e, ha, rl⟩ := rep_lst.mp rb
    cases e
    have lx := rl.length
    rw [List.length_map] at lx
    simp_all only []
    refine ⟨⟨_, SqL.of ha⟩, ?_⟩
    refine comp_map (src_list (fun H2 s2 => SqL.of (s2 _ _ ha))) (fun _ _ _ _ h => by rw [h.1]; exact Same.refl _) (by rw [sizeLine_eq]; omega) (fun i y H2 => ∀ q, b[i]? = some q → Rep H2 (plD q) y) (fun i y H2 H3 s3 h q e => (h q e).mono s3) ?_ ?_
    · rintro i x w0 H2 H3 Q2 hi s2 ⟨rfl, hx⟩ kq
      obtain ⟨q, eq, rq⟩ := rep_br_get rl hx
      have rq := rq.mono s2
      have fin : ∀ y H6, Same H3 H6 → Rep H6 (plD q) y → Q2 y H6 := fun y H6 s6 r6 => kq y H6 s6 fun q' eq' => by
        rw [eq] at eq'
        cases eq'
        exact r6
      cases q with
      | fin w1 =>
        obtain ⟨p, r, rfl, hp, hr'⟩ := rep_fin.mp rq
        simp_all only [hp]
        refine ⟨by decide, fun t H4 s4 nt et => ⟨_, s4 _ _ hp, by simp, by simp, ?_⟩⟩
        refine comp_map src_range (fun _ _ _ _ h => by rw [h.1]; exact Same.refl _) (by simp [sizeLine_eq]) (fun _ _ _ => True) (fun _ _ _ _ _ h => h) ?_ ?_
        · rintro i x w0 H5 H6 Q3 hi
          simp at hi
        · intro ys H5 s5 ly _ D n1 n2
          have : ys = [] := by
            have ly : ys.length = 0 := by simpa using ly
            exact List.length_eq_zero_iff.mp ly
          subst this
          refine ⟨_, .inl ⟨SqL.of upd_same, fun l2 nl2 => ?_⟩⟩
          have sD := same_upd (o := .lst []) n2
          have sl := same_upd (o := .tup []) nl2
          have s46 := s5.trans (sD.trans sl)
          exact ⟨t, l2, _, _, rfl, rfl, SqT.of (s46 _ _ et), SqT.of upd_same, by simp, by rw [sizeLine_eq]; simp, fun _ => fin _ _ (s4.trans s46) (rep_fin.mpr ⟨t, r, rfl, s46 _ _ et, (s4.trans s46) _ _ hr'⟩), fun z => absurd rfl z⟩
      | thr w1 ws =>
        obtain ⟨p, r, l, zs, rfl, hp, hr', hl, rz⟩ := rep_thr.mp rq
        simp_all only [hp]
        refine ⟨by decide, fun t H4 s4 nt et => ⟨_, s4 _ _ hp, by simp, by simp, ?_⟩⟩
        have hl4 := s4 _ _ hl
        have hp4 := s4 _ _ hp
        refine comp_map src_range (fun _ _ _ _ h => by rw [h.1]; exact Same.refl _) (by simp [sizeLine_eq]) (fun i y H5 => ∃ m, y = .ref m ∧ H5 m = some (.lst zs)) (fun i y H5 H6 s6 ⟨m, e, hm⟩ => ⟨m, e, s6 _ _ hm⟩) ?_ ?_
        · rintro i x w0 H5 H6 Q3 hi s5 ⟨rfl, rfl⟩ kq
          have hp5 := s5 _ _ hp4
          have hl5 := s5 _ _ hl4
          simp_all only [hp5]
          exact ⟨_, .inl (SqL.of hl5), fun m nm => kq _ _ (same_upd nm) ⟨m, rfl, upd_same⟩⟩
        · intro ys H5 s5 ly hy D n1 n2
          have : ∃ y, ys = [y] := by
            have ly : ys.length = 1 := by simpa using ly
            match ys, ly with
            | [y], _ => exact ⟨y, rfl⟩
          obtain ⟨y, rfl⟩ := this
          obtain ⟨m, rfl, hm⟩ := hy 0 y rfl
          have sD := same_upd (o := .lst [V.ref m]) n2
          refine ⟨_, .inl ⟨SqL.of upd_same, fun l2 nl2 => ?_⟩⟩
          have sl := same_upd (o := .tup [V.ref m]) nl2
          have s46 := s5.trans (sD.trans sl)
          refine ⟨t, l2, _, _, rfl, rfl, SqT.of (s46 _ _ et), SqT.of upd_same, by simp, by rw [sizeLine_eq]; simp, fun z => by simp at z, fun _ p2 np2 => ?_⟩
          have s7 := s4.trans (s46.trans (same_upd (o := .tup ([V.str (Str.ofString "throw"), V.ref r] ++ [V.ref m])) np2))
          have hm7 := same_upd (o := .tup ([V.str (Str.ofString "throw"), V.ref r] ++ [V.ref m])) np2 _ _ (sl _ _ (sD _ _ hm))
          exact fin _ _ s7 (rep_thr.mpr ⟨p2, r, m, zs, rfl, upd_same, s7 _ _ hr', hm7, rz.mono s7⟩)
      | pck w1 to =>
        obtain ⟨p, l, rfl, hp, hl⟩ := rep_pck.mp rq
        simp_all only [hp]
        refine ⟨by decide, fun t H4 s4 nt et => ⟨_, s4 _ _ hp, by simp, by simp, ?_⟩⟩
        have hl4 := s4 _ _ hl
        have hp4 := s4 _ _ hp
        refine comp_map src_range (fun _ _ _ _ h => by rw [h.1]; exact Same.refl _) (by simp [sizeLine_eq]) (fun i y H5 => ∃ m, y = .ref m ∧ H5 m = some (.lst (List.map V.int to))) (fun i y H5 H6 s6 ⟨m, e, hm⟩ => ⟨m, e, s6 _ _ hm⟩) ?_ ?_
        · rintro i x w0 H5 H6 Q3 hi s5 ⟨rfl, rfl⟩ kq
          have hp5 := s5 _ _ hp4
          have hl5 := s5 _ _ hl4
          simp_all only [hp5]
          exact ⟨_, .inl (SqL.of hl5), fun m nm => kq _ _ (same_upd nm) ⟨m, rfl, upd_same⟩⟩
        · intro ys H5 s5 ly hy D n1 n2
          have : ∃ y, ys = [y] := by
            have ly : ys.length = 1 := by simpa using ly
            match ys, ly with
            | [y], _ => exact ⟨y, rfl⟩
          obtain ⟨y, rfl⟩ := this
          obtain ⟨m, rfl, hm⟩ := hy 0 y rfl
          have sD := same_upd (o := .lst [V.ref m]) n2
          refine ⟨_, .inl ⟨SqL.of upd_same, fun l2 nl2 => ?_⟩⟩
          have sl := same_upd (o := .tup [V.ref m]) nl2
          have s46 := s5.trans (sD.trans sl)
          refine ⟨t, l2, _, _, rfl, rfl, SqT.of (s46 _ _ et), SqT.of upd_same, by simp, by rw [sizeLine_eq]; simp, fun z => by simp at z, fun _ p2 np2 => ?_⟩
          have s7 := s4.trans (s46.trans (same_upd (o := .tup ([V.str (Str.ofString "pick"), V.int w1] ++ [V.ref m])) np2))
          have hm7 := same_upd (o := .tup ([V.str (Str.ofString "pick"), V.int w1] ++ [V.ref m])) np2 _ _ (sl _ _ (sD _ _ hm))
          exact fin _ _ s7 (rep_pck.mpr ⟨p2, m, rfl, upd_same, hm7⟩)
    · intro ys H2 s2 ly hy D n1 n2
      exact kk D _ (s2.trans (same_upd n2)) (none_of s2 n2) (rep_lst.mpr ⟨D, ys, rfl, upd_same, repL_map (by omega) fun i y ey q eq => (hy i y ey q eq).mono (same_upd n2)⟩)
theorem sc__law_numbers : FnScope ["_law_found", "_law_many", "_law_row", "_law_number"] ["_law_found", "_law_many"] (defScope (top 17)) := ⟨rfl, rfl, rfl, by decide +kernel, rfl, by decide +kernel, by decide +kernel⟩
theorem ok_nb (T : Txt K mg) : Cal P w K mg base (CX1 P w) 1 "_law_numbers" ["_law_found", "_law_many"] spNb := by
  refine T.d__law_numbers.cal (fun _ _ _ _ _ _ us hl => match us, hl with | [_, _], _ => rfl) fun f fd F => F.okC sc__law_numbers (fun vs H Q E h => ?_) (fun cdv A outer s H vs Q E hr h => ?_)
  · obtain ⟨_, _, _, _, _, rfl, _⟩ := h; rfl
  · obtain ⟨l, n, m, xs, L, rfl, hl, lx, tx, ll, kk⟩ := h
    have nd := sc__law_numbers.nd
    refine ⟨_, (pss_cons (ps_if (PW.pt (pw_or (pt_not (pt_val (pe_callB (call_isTK (K := K)) (by rfl) T.z_isinstance rfl (pa_cons (pv 0) (pa_cons (pe_bltn (v := V.ty "list") rfl T.z_list rfl rfl) pa_nil (se rfl)) (se rfl)) (he := se rfl) (hpl := na rfl)))) (pw_or1 (pt_cmpR op_eq (pe_callB call_lenL (by rfl) T.z_len PySem.boot_len (pa_cons (pv 0) pa_nil (se rfl)) (he := se rfl) (hpl := na rfl)) pe_int (nomark _))))) (pss_one (ps_ret pe_bl))
      pss_nil)
    (pss_cons (ps_for PassesOwn.never rfl (pi_listK (K := K) (pv 0)) (pg_name (i := 2) nd rfl (Or.inl rfl)) (pss_cons (ps_if (PW.pt (pw_or (pt_not (pt_val (pe_callB (call_isTK (K := K)) (by rfl) T.z_isinstance rfl (pa_cons (pv 2) (pa_cons (pe_bltn (v := V.ty "list") rfl T.z_list rfl rfl) pa_nil (se rfl)) (se rfl)) (he := se rfl) (hpl := na rfl)))) (pw_or1 (pt_cmpR op_ne (pe_callB call_lenL (by rfl) T.z_len PySem.boot_len (pa_cons (pv 2) pa_nil (se rfl)) (he := se rfl) (hpl := na rfl)) (pv 1) (nomark _))))) (pss_one (ps_ret pe_bl))
      pss_nil)
    (pss_one (ps_for PassesOwn.never rfl (pi_listK (K := K) (pv 2)) (pg_name (i := 3) nd rfl (Or.inl rfl)) (pss_one (ps_if (PW.pt (pw_or (pt_not (pt_val (pe_callB (call_isTK (K := K)) (by rfl) T.z_isinstance rfl (pa_cons (pv 3) (pa_cons (pe_bltn (v := V.ty "int") rfl T.z_int rfl rfl) pa_nil (se rfl)) (se rfl)) (he := se rfl) (hpl := na rfl)))) (pw_or1 (pt_val (pe_callB (call_isTK (K := K)) (by rfl) T.z_isinstance rfl (pa_cons (pv 3) (pa_cons (pe_bltn (v := V.ty "bool") rfl T.z_bool rfl rfl) pa_nil (se rfl)) (se rfl)) (he := se rfl) (hpl := na rfl)))))) (pss_one (ps_ret pe_bl))
      pss_nil))))))
    (pss_one (ps_ret pe_bl)))), ?_⟩
    change tSeq _ _ _ [some (.ref l), some (.int (n : Int)), none, none] H
    refine seq_gen (fun σ' H1 => H = H1 ∧ σ' = [some (.ref l), some (.int (n : Int)), none, none]) ?_ (fun N hN => ?_)
    case refine_2 =>
      simp_all only [hl]
      refine ⟨_, TyOf.lst hl, _, kit_ll, ?_⟩
      rw [if_neg (by decide), if_neg (by omega)]
      exact hN _ _ ⟨rfl, rfl⟩
    rintro _ _ ⟨rfl, rfl⟩
    simp_all only []
    refine ⟨⟨_, SqL.of hl⟩, for_src (src_list (Ok := fun H' => H' = H) (fun H' e => by rw [e]; exact SqL.of hl)) (fun i σ H' => H' = H ∧ ∃ z1 z2, σ = [some (.ref l), some (.int (n : Int)), z1, z2]) ⟨rfl, _, _, rfl⟩ (fun _ _ _ _ h => h.1) ?_ ?_⟩
    · rintro i x σ H5 H6 hi ⟨e5, z1, z2, rfl⟩ ⟨e6, ex⟩
      rw [e5] at e6
      subst e6
      obtain ⟨lk, rfl, hk⟩ := tx i x ex
      simp_all only [hk]
      refine ⟨_, TyOf.lst hk, _, kit_ll, ?_⟩
      rw [if_neg (by decide), if_neg (by rw [List.length_map, ll]; simp)]
      refine ⟨⟨_, SqL.of hk⟩, for_src (src_list (Ok := fun H' => H' = H6) (fun H' e => by rw [e]; exact SqL.of hk)) (fun j σ H' => H' = H6 ∧ ∃ z2, σ = [some (.ref l), some (.int (n : Int)), some (.ref lk), z2]) ⟨rfl, _, rfl⟩ (fun _ _ _ _ h => h.1) ?_ ?_⟩
      · rintro j y σ H7 H8 hj ⟨rfl, z3, rfl⟩ ⟨rfl, ey⟩
        rw [List.getElem?_map] at ey
        obtain ⟨v, ev, rfl⟩ := Option.map_eq_some_iff.mp ey
        simp_all only []
        refine ⟨_, TyOf.int _, _, kit_ii, ?_⟩
        rw [if_neg (by decide)]
        refine ⟨_, TyOf.int _, _, kit_ib, ?_⟩
        rw [if_neg (by decide)]
        exact ⟨_, rfl⟩
      · rintro σ H7 ⟨rfl, z3, rfl⟩
        exact ⟨rfl, _, _, rfl⟩
    · rintro σ H5 ⟨rfl, z1, z2, rfl⟩
      simp_all only []
      exact kk
theorem sc__law_due : FnScope ["_law_places", "_law_met", "_law_due_here", "_law_place_here", "_law_mark"] ["_law_places"] (defScope (top 18)) := ⟨rfl, rfl, rfl, by decide +kernel, rfl, by decide +kernel, by decide +kernel⟩
theorem ok_du (T : Txt K mg) : Cal P w K mg base (CX1 P w) 1 "_law_due" ["_law_places"] spDu := by
  refine T.d__law_due.cal (fun _ _ _ _ _ _ us hl => match us, hl with | [_], _ => rfl) fun f fd F => F.okC sc__law_due (fun vs H Q E h => ?_) (fun cdv A outer s H vs Q E hr h => ?_)
  · obtain ⟨_, _, rfl, _⟩ := h; rfl
  · obtain ⟨a, b, rfl, rb, lb, kk⟩ := h
    have nd := sc__law_due.nd
    refine ⟨_, (pss_cons (ps_set (i := 1) nd rfl (Or.inl rfl) (pe_lst pa_nil))
    (pss_cons (ps_set (i := 2) nd rfl (Or.inl rfl) (pe_lst pa_nil))
    (pss_cons (ps_for PassesOwn.never rfl (pi_listK (K := K) (pv 0)) (pg_name (i := 3) nd rfl (Or.inl rfl)) (pss_cons (ps_set (i := 4) nd rfl (Or.inl rfl) (pe_tupS (pa_cons (pe_ix ix_tupH (pv 3) pe_int (fun _ _ => rfl)) (pa_cons (pe_ix ix_tupH (pv 3) pe_int (fun _ _ => rfl)) pa_nil (se rfl)) (se rfl))))
    (pss_cons (ps_if (pt_cmpR (op_notinN hr.units) (pv 4) (pv 1) rfl) (pss_one (ps_expr (pe_bm PySem.F.plainAttrs_list PySem.F.slot_list_append PySem.F.type_list_append mt_append.r (pv 1) (pa_cons (pv 4) pa_nil (se rfl)))))
      pss_nil)
    (pss_one (ps_expr (pe_bm PySem.F.plainAttrs_list PySem.F.slot_list_append PySem.F.type_list_append mt_append.r (pv 2) (pa_cons (pe_bm PySem.F.plainAttrs_list PySem.F.slot_list_index PySem.F.type_list_index (mt_nindex hr.units) (pv 1) (pa_cons (pv 4) pa_nil (se rfl))) pa_nil (se rfl))))))))
    (pss_one (ps_ret (pv 2)))))), ?_⟩
    obtain ⟨_, xs, e1, ha, rx⟩ := rep_lst.mp rb
    cases e1
    have lx := rx.length
    rw [List.length_map] at lx
    obtain ⟨ks, hks⟩ : ∃ ks, ks = (b.map Ak.mk0).map toP := ⟨_, rfl⟩
    rw [← hks] at kk
    have lks : ks.length = b.length := by rw [hks, List.length_map, List.length_map]
    change tSeq _ _ _ [some (.ref a), none, none, none, none] H
    refine seq_gen (fun σ' H1 => Same H H1 ∧ ∃ m1, H m1 = none ∧ H1 m1 = some (.lst []) ∧ σ' = [some (.ref a), some (.ref m1), none, none, none]) ?_ (fun N hN => ?_)
    case refine_2 =>
      simp_all only []
      exact ⟨Nat.zero_le _, fun l nl => hN _ _ ⟨same_upd nl, l, nl, upd_same, rfl⟩⟩
    rintro _ H1 ⟨s1, m1, nm1, hm1, rfl⟩
    change tSeq _ _ _ [some (.ref a), some (.ref m1), none, none, none] H1
    refine seq_gen (fun σ' H2 => Same H1 H2 ∧ ∃ m2, H1 m2 = none ∧ H2 m2 = some (.lst []) ∧ σ' = [some (.ref a), some (.ref m1), some (.ref m2), none, none]) ?_ (fun N hN => ?_)
    case refine_2 =>
      simp_all only []
      exact ⟨Nat.zero_le _, fun l nl => hN _ _ ⟨same_upd nl, l, nl, upd_same, rfl⟩⟩
    rintro _ H2 ⟨s2, m2, nm2', hm2, rfl⟩
    have m12 : m2 ≠ m1 := fun z => by rw [z, hm1] at nm2'; cases nm2'
    have nm2 := none_of s1 nm2'
    have s12 := s1.trans s2
    simp_all only []
    refine ⟨⟨_, SqL.of (s12 _ _ ha)⟩, ?_⟩
    refine for_src (src_list (Ok := Same H) (fun H' s' => SqL.of (s' _ _ ha))) (fun i σ H' => Same H H' ∧ ∃ ys z1 z2, ∃ ds : List Dat, H' m1 = some (.lst ys) ∧ RepL (hid (hid H' m1) m2) ds ys ∧ (∀ d ∈ ds, ∃ q, d = Ak.mk0 q) ∧ ds.map toP = Ak.dd [] (ks.take i) ∧ ds.length ≤ i ∧ H' m2 = some (.lst (((Ak.numb ks).take i).map V.int)) ∧ σ = [some (.ref a), some (.ref m1), some (.ref m2), z1, z2]) ⟨s12, [], _, _, [], s2 _ _ hm1, by simp [RepL], by simp, rfl, Nat.le_refl _, hm2, rfl⟩ (fun _ _ _ _ h => h.1) ?_ ?_
    · rintro i x σ H3 H4 hi ⟨s3, ys, z1, z2, ds, h1, rd, dq, md, ml, h2, rfl⟩ ⟨rfl, ex⟩
      obtain ⟨q, eq, rq⟩ := rep_br_get rx ex
      have ek : ks[i]? = some (toP (Ak.mk0 q)) := by rw [hks, List.getElem?_map, List.getElem?_map, eq]; rfl
      obtain ⟨kk0, hkk0⟩ : ∃ k, k = toP (Ak.mk0 q) := ⟨_, rfl⟩
      rw [← hkk0] at ek
      have nx := Ak.numb_next ek
      have tk : ks.take (i + 1) = ks.take i ++ [kk0] := by rw [List.take_add_one, ek]; rfl
      have tn : (Ak.numb ks).take (i + 1) = (Ak.numb ks).take i ++ [if kk0 ∈ Ak.dd [] (ks.take i) then (Ak.lk (Ak.dd [] (ks.take i)) kk0 0).getD 0 else ((Ak.dd [] (ks.take i)).length : Int)] := by rw [List.take_add_one, nx]; rfl
      have lds := rd.length
      have lnb : ((Ak.numb ks).take i).length ≤ 400 := by rw [List.length_take]; omega
      change tSeq _ _ _ [some (.ref a), some (.ref m1), some (.ref m2), some x, z2] H4
      refine seq_gen (fun σ' H5 => Same H4 H5 ∧ ∃ tm, H4 tm = none ∧ Rep (hid (hid H5 m1) m2) (Ak.mk0 q) (.ref tm) ∧ σ' = [some (.ref a), some (.ref m1), some (.ref m2), some x, some (.ref tm)]) ?_ (fun N hN => ?_)
      case refine_2 =>
        have ne1 : ∀ {t : Addr}, H4 t = none → t ≠ m1 ∧ t ≠ m2 := fun {t} nt => ⟨fun z => (by rw [z, h1] at nt; cases nt), fun z => (by rw [z, h2] at nt; cases nt)⟩
        have hh : ∀ {H5 : Hp}, Same H4 H5 → Same H (hid (hid H5 m1) m2) := fun s5 => same_hid (same_hid (s3.trans s5) nm1) nm2
        have look : ∀ {H5 : Hp} {t : Addr} {o : HO}, H4 t = none → H5 t = some o → hid (hid H5 m1) m2 t = some o := fun nt e => by rw [hid_ne (ne1 nt).2, hid_ne (ne1 nt).1]; exact e
        cases q with
        | fin g =>
          obtain ⟨t, r, rfl, ht, hr'⟩ := rep_fin.mp rq
          simp_all only [tTupS, s3 _ _ ht]
          refine ⟨by decide, fun tm H5 s5 n5 e5 => hN _ _ ⟨s5, tm, n5, ?_, rfl⟩⟩
          show Rep _ (.tup [.str (Str.ofString "end"), wrowD g]) _
          rw [Rep]
          exact ⟨tm, _, rfl, look n5 e5, ⟨_, _, rfl, (by rw [Rep]), _, _, rfl, rep_wrow.mpr ⟨r, rfl, hh s5 _ _ hr'⟩, rfl⟩⟩
        | thr g ws =>
          obtain ⟨t, r, l1, zs, rfl, ht, hr', _⟩ := rep_thr.mp rq
          simp_all only [tTupS, s3 _ _ ht]
          refine ⟨by decide, fun tm H5 s5 n5 e5 => hN _ _ ⟨s5, tm, n5, ?_, rfl⟩⟩
          show Rep _ (.tup [.str (Str.ofString "throw"), wrowD g]) _
          rw [Rep]
          exact ⟨tm, _, rfl, look n5 e5, ⟨_, _, rfl, (by rw [Rep]), _, _, rfl, rep_wrow.mpr ⟨r, rfl, hh s5 _ _ hr'⟩, rfl⟩⟩
        | pck w1 to =>
          obtain ⟨t, l1, rfl, ht, _⟩ := rep_pck.mp rq
          simp_all only [tTupS, s3 _ _ ht]
          refine ⟨by decide, fun tm H5 s5 n5 e5 => hN _ _ ⟨s5, tm, n5, ?_, rfl⟩⟩
          show Rep _ (.tup [.str (Str.ofString "pick"), .int w1]) _
          rw [Rep]
          exact ⟨tm, _, rfl, look n5 e5, ⟨_, _, rfl, (by rw [Rep]), _, _, rfl, (by rw [Rep]), rfl⟩⟩
      rintro _ H5 ⟨s5, tm, ntm, rtm, rfl⟩
      have h1 := s5 _ _ h1
      have h2 := s5 _ _ h2
      have rd := rd.mono (hid_mono (hid_mono s5))
      have s35 := s3.trans s5
      have kd : ∀ d ∈ ds, Kd d := fun d hd => by obtain ⟨q', rfl⟩ := dq d hd; exact ⟨(hk_mk0 q').1, (hk_mk0 q').2.1⟩
      have kq : Kd (Ak.mk0 q) := ⟨(hk_mk0 q).1, (hk_mk0 q).2.1⟩
      have hsub : ∀ {H6 : Hp}, Same (hid (hid H6 m1) m2) H6 := hid_sub.trans hid_sub
      change tSeq _ _ _ [some (.ref a), some (.ref m1), some (.ref m2), some x, some (.ref tm)] H5
      refine seq_gen (fun σ' H6 => Same H H6 ∧ ∃ ys', ∃ ds' : List Dat, ∃ j : Nat, H6 m1 = some (.lst ys') ∧ RepL (hid (hid H6 m1) m2) ds' ys' ∧ (∀ d ∈ ds', ∃ q, d = Ak.mk0 q) ∧ ds'.map toP = Ak.dd [] (ks.take (i + 1)) ∧ ds'.length ≤ i + 1 ∧ H6 m2 = some (.lst (((Ak.numb ks).take i).map V.int)) ∧ Rep (hid (hid H6 m1) m2) (Ak.mk0 q) (.ref tm) ∧ (ds'.map toP)[j]? = some kk0 ∧ (∀ j', j' < j → (ds'.map toP)[j']? ≠ some kk0) ∧ (Ak.numb ks).take (i + 1) = (Ak.numb ks).take i ++ [(j : Int)] ∧ σ' = [some (.ref a), some (.ref m1), some (.ref m2), some x, some (.ref tm)]) ?_ (fun N hN => ?_)
      case refine_2 =>
        simp_all only [rAppend, rNotInN]
        refine ⟨ys, h1, ds, rd.mono hsub, kd, Ak.mk0 q, rtm.mono hsub, kq, ?_⟩
        rw [← hkk0, md]
        by_cases cm : kk0 ∈ Ak.dd [] (ks.take i)
        · rw [if_neg (fun z => z cm)]
          obtain ⟨x0, hx⟩ := Ak.lk_mem (n := 0) cm
          obtain ⟨j, j1, j2, j3⟩ := lk_first hx
          rw [if_pos cm, hx] at tn
          refine hN _ _ ⟨s35, ys, ds, j, h1, rd, dq, by rw [tk, Ak.dd_snoc, if_pos cm]; exact md, by omega, h2, rtm, by rw [md]; exact j2, by rw [md]; exact j3, ?_, rfl⟩
          rw [tn, j1, Int.zero_add]
          rfl
        · rw [if_pos cm]
          rw [if_neg cm, ← md, List.length_map] at tn
          refine ⟨.inl ⟨rfl, _, SqL.of h1⟩, ys, h1, by rw [sizeLine_eq]; omega, ?_⟩
          have hm : ∀ {H6 : Hp} {o : HO}, Same (hid (hid H6 m1) m2) (hid (hid (upd H6 m1 o) m1) m2) := fun {H6 o} => hid_mono hid_put
          refine hN _ _ ⟨same_upd_of s35 nm1, ys ++ [.ref tm], ds ++ [Ak.mk0 q], ds.length, upd_same, (rd.mono hm).append ⟨_, _, rfl, rtm.mono hm, rfl⟩, fun d hd => ?_, ?_, ?_, by rw [upd_ne m12]; exact h2, rtm.mono hm, ?_, fun j' hj => ?_, tn, rfl⟩
          · rcases List.mem_append.mp hd with hd | hd
            · exact dq d hd
            · exact ⟨q, List.mem_singleton.mp hd⟩
          · rw [List.map_append, md, tk, Ak.dd_snoc, if_neg cm, hkk0]
            rfl
          · rw [List.length_append]
            exact Nat.succ_le_succ ml
          · rw [List.map_append, List.getElem?_append_right (by rw [List.length_map]; exact Nat.le_refl _), List.length_map, Nat.sub_self, hkk0]
            rfl
          · rw [List.map_append, List.getElem?_append_left (by rw [List.length_map]; exact hj)]
            intro z
            exact cm (by rw [← md]; exact List.mem_of_getElem? z)
      rintro _ H6 ⟨s6, ys', ds', j, g1, rd', dq', md', ml', g2, rtm', j1, j2, tn', rfl⟩
      have kd' : ∀ d ∈ ds', Kd d := fun d hd => by obtain ⟨q', rfl⟩ := dq' d hd; exact ⟨(hk_mk0 q').1, (hk_mk0 q').2.1⟩
      have hj : j < 100000 := by
        have := (List.getElem?_eq_some_iff.mp j1).1
        rw [List.length_map] at this
        omega
      simp_all only [rAppend, rNix]
      refine ⟨.inl ⟨rfl, _, SqL.of g2⟩, .inl ⟨rfl, _, SqL.of g1⟩, ys', g1, ds', rd'.mono hsub, kd', Ak.mk0 q, rtm'.mono hsub, kq, j, by rw [← hkk0]; exact j1, by rw [← hkk0]; exact j2, hj, _, g2, by rw [List.length_map, sizeLine_eq]; omega, ?_⟩
      have hm2 : ∀ {H6 : Hp} {o : HO}, Same (hid (hid H6 m1) m2) (hid (hid (upd H6 m2 o) m1) m2) := fun {H6 o} => by
        intro a' u e'
        unfold hid at *
        by_cases z2 : a' = m2
        · rw [if_pos z2] at e'
          cases e'
        · rw [if_neg z2] at e' ⊢
          by_cases z1 : a' = m1
          · rw [if_pos z1] at e'
            cases e'
          · rw [if_neg z1] at e' ⊢
            rw [upd_ne z2]
            exact e'
      refine ⟨same_upd_of s6 nm2, ys', ?_, _, _, ds', rd'.mono hm2, dq', md', ml', ?_, rfl, rfl⟩
      · rw [upd_ne m12.symm]
        exact g1
      · rw [upd_same, tn', List.map_append]
        rfl
    · rintro σ H3 ⟨s3, ys, z1, z2, ds, h1, rd, dq, md, ml, h2, rfl⟩
      simp_all only []
      refine kk m2 H3 s3 nm2 ?_
      rw [h2, List.take_of_length_le]
      rw [Ak.numb_len]
      omega
theorem sc_law : FnScope ["_law_script", "_law_few", "_law_one", "_law_other", "_law_handed", "_law_found", "_law_due_here", "_law_kept", "_law_row"] ["_law_script"] (defScope (top 19)) := ⟨rfl, rfl, rfl, by decide +kernel, rfl, by decide +kernel, by decide +kernel⟩
theorem ok_law (T : Txt K mg) {f : Addr} {fd : FuncData} (F : Fun K "law" "law" (top 19) f fd) : FnOk P w K mg base (CX1 P w) 8 f fd ["_law_script"] (spLaw K) := by
  have c__law_cell : Cal P w K mg base (CX1 P w) 1 "_law_cell" ["_law_script", "_law_k"] (spC K) := ok_cell T
  have c__law_board : Cal P w K mg base (CX1 P w) 4 "_law_board" ["_law_script", "_law_at", "_law_few"] (spBd K) := ok_board T
  have c__law_copy : Cal P w K mg base (CX1 P w) 1 "_law_copy" ["_law_board_here"] spCopy := ok_copy T
  have c__law_numbers : Cal P w K mg base (CX1 P w) 1 "_law_numbers" ["_law_found", "_law_many"] spNb := ok_nb T
  have c__law_due : Cal P w K mg base (CX1 P w) 1 "_law_due" ["_law_places"] spDu := ok_du T
  have c_rounds : Cal P w K mg base (CX1 P w) 6 "rounds" ["one", "other"] spRd2 := ok_rd T
  refine F.okC sc_law (fun vs H Q E h => ?_) (fun cdv A outer s H vs Q E hr h => ?_)
  · obtain ⟨_, _, rfl, _⟩ := h; rfl
  · obtain ⟨sa, ns, rfl, hS, ln, kk⟩ := h
    have nd := sc_law.nd
    refine ⟨_, (pss_cons (ps_set (i := 1) nd rfl (Or.inl rfl) (pe_cmpR op_gt (pe_op op_modB (pe_cal c__law_cell (hr.mono (by decide)) rfl strictP.pass (pa_cons (pv 0) (pa_cons pe_int pa_nil (se rfl)) (se rfl)) (he := se rfl) (hpl := na rfl)) pe_int) pe_int (nomark _)))
    (pss_cons (ps_set (i := 2) nd rfl (Or.inl rfl) (pe_cal c__law_board (hr.mono (by decide)) rfl strictP.pass (pa_cons (pv 0) (pa_cons pe_int (pa_cons (pv 1) pa_nil (se rfl)) (se rfl)) (se rfl)) (he := se rfl) (hpl := na rfl)))
    (pss_cons (ps_set (i := 3) nd rfl (Or.inl rfl) (pe_cal c__law_board (hr.mono (by decide)) rfl strictP.pass (pa_cons (pv 0) (pa_cons pe_int (pa_cons (pv 1) pa_nil (se rfl)) (se rfl)) (se rfl)) (he := se rfl) (hpl := na rfl)))
    (pss_cons (ps_set (i := 4) nd rfl (Or.inl rfl) (pe_lst (pa_cons (pe_cal c__law_copy (hr.mono (by decide)) rfl strictP.pass (pa_cons (pv 2) pa_nil (se rfl)) (he := se rfl) (hpl := na rfl)) (pa_cons (pe_cal c__law_copy (hr.mono (by decide)) rfl strictP.pass (pa_cons (pv 3) pa_nil (se rfl)) (he := se rfl) (hpl := na rfl)) pa_nil (se rfl)) (se rfl))))
    (pss_cons (ps_set (i := 5) nd rfl (Or.inl rfl) (pe_cal c_rounds (hr.mono (by decide)) rfl strictP.pass (pa_cons (pe_ix ix_listH (pv 4) pe_int (fun _ _ => rfl)) (pa_cons (pe_ix ix_listH (pv 4) pe_int (fun _ _ => rfl)) pa_nil (se rfl)) (se rfl)) (he := se rfl) (hpl := na rfl)))
    (pss_cons (ps_if (PW.pt (pw_or (pt_not (pt_val (pe_cal c__law_numbers (hr.mono (by decide)) rfl strictP.pass (pa_cons (pv 5) (pa_cons (pe_op op_add (pe_callB call_lenL (by rfl) T.z_len PySem.boot_len (pa_cons (pv 2) pa_nil (se rfl)) (he := se rfl) (hpl := na rfl)) (pe_callB call_lenL (by rfl) T.z_len PySem.boot_len (pa_cons (pv 3) pa_nil (se rfl)) (he := se rfl) (hpl := na rfl))) pa_nil (se rfl)) (se rfl)) (he := se rfl) (hpl := na rfl)))) (pw_or1 (pt_cmpR (op_neD hr.units) (pv 4) (pe_lst (pa_cons (pv 2) (pa_cons (pv 3) pa_nil (se rfl)) (se rfl))) (nomark _))))) (pss_one (ps_ret pe_bl))
      pss_nil)
    (pss_cons (ps_set (i := 6) nd rfl (Or.inl rfl) (pe_cal c__law_due (hr.mono (by decide)) rfl strictP.pass (pa_cons (pe_op op_cat (pv 2) (pv 3)) pa_nil (se rfl)) (he := se rfl) (hpl := na rfl)))
    (pss_cons (ps_setC (i := 7) rfl nd rfl rfl (N := ["_law_script", "_law_few", "_law_one", "_law_other", "_law_handed", "_law_found", "_law_due_here", "_law_kept", "_law_row"]) (so := defScope (top 19)) (N' := ["_law_row"]) (k := 1) (fr := []) rfl rfl ⟨rfl, by decide +kernel, by decide +kernel, by decide +kernel, rfl, by decide +kernel, by decide +kernel⟩ (pi_listK (K := K) (pv 5)) (fun _ _ _ _ _ => (pg_name (i := 0) (show (["_law_row"] : List Str).Nodup by decide +kernel) rfl (Or.inl rfl))) (fun _ _ _ _ _ => pts_nil)
      (fun _ _ _ _ _ => (pe_callTy (call_list_ofK (K := K)) (by rfl) T.z_list rfl (pa_cons (pv 0) pa_nil (se rfl)) (he := se rfl) (hpl := na rfl))))
    (pss_cons (ps_asg (pe_tupS (pa_cons pe_str (pa_cons (pe_tupS (pa_cons pe_int (pa_cons pe_int pa_nil (se rfl)) (se rfl))) pa_nil (se rfl)) (se rfl))) (pg_sub (pe_ix ix_listH (pv 4) pe_int (fun _ _ => rfl)) pe_int set_list))
    (pss_cons (ps_if (PW.pt (pw_or (pt_cmpR (op_neD hr.units) (pe_cal c_rounds (hr.mono (by decide)) rfl strictP.pass (pa_cons (pe_lst (pa_cons (pe_tupS (pa_cons pe_str (pa_cons (pe_tupS (pa_cons pe_int (pa_cons pe_int pa_nil (se rfl)) (se rfl))) pa_nil (se rfl)) (se rfl))) pa_nil (se rfl))) (pa_cons (pe_lst (pa_cons (pe_tupS (pa_cons pe_str (pa_cons (pe_tupS (pa_cons pe_int (pa_cons pe_int pa_nil (se rfl)) (se rfl))) pa_nil (se rfl)) (se rfl))) pa_nil (se rfl))) pa_nil (se rfl)) (se rfl)) (he := se rfl) (hpl := na rfl)) (pe_lst (pa_cons (pe_lst (pa_cons pe_int (pa_cons pe_int pa_nil (se rfl)) (se rfl))) pa_nil (se rfl))) (nomark _)) (pw_or (pt_cmpR (op_neD hr.units) (pe_ix ix_listH (pv 5) pe_int (fun _ _ => rfl)) (pv 6) (nomark _)) (pw_or1 (pt_cmpR (op_neD hr.units) (pv 5) (pv 7) (nomark _)))))) (pss_one (ps_ret pe_bl))
      pss_nil)
    (pss_cons (ps_for PassesOwn.never rfl (pi_listK (K := K) (pv 5)) (pg_name (i := 8) nd rfl (Or.inl rfl)) (pss_one (ps_expr (pe_bm PySem.F.plainAttrs_list PySem.F.slot_list_append PySem.F.type_list_append mt_append.r (pv 8) (pa_cons pe_int pa_nil (se rfl))))))
    (pss_one (ps_ret (pe_cmpR (op_eqD hr.units) (pe_cal c_rounds (hr.mono (by decide)) rfl strictP.pass (pa_cons (pe_cal c__law_copy (hr.mono (by decide)) rfl strictP.pass (pa_cons (pv 2) pa_nil (se rfl)) (he := se rfl) (hpl := na rfl)) (pa_cons (pe_cal c__law_copy (hr.mono (by decide)) rfl strictP.pass (pa_cons (pv 3) pa_nil (se rfl)) (he := se rfl) (hpl := na rfl)) pa_nil (se rfl)) (se rfl)) (he := se rfl) (hpl := na rfl)) (pv 7) (nomark _))))))))))))))), ?_⟩
    change tSeq _ _ _ [some (.ref sa), none, none, none, none, none, none, none, none] H
    refine seq_gen (fun σ' H1 => H = H1 ∧ ∃ fw, σ' = [some (.ref sa), some (.bl fw), none, none, none, none, none, none, none]) ?_ (fun N hN => ?_)
    case refine_2 =>
      simp_all only [spC]
      exact ⟨ns, hS, by decide, by decide, fun c => ⟨by decide, hN _ _ ⟨rfl, _, rfl⟩⟩⟩
    rintro _ _ ⟨rfl, fw, rfl⟩
    change tSeq _ _ _ [some (.ref sa), some (.bl fw), none, none, none, none, none, none, none] H
    refine seq_gen (fun σ' H1 => Same H H1 ∧ ∃ p b, Rep H1 (brD b) (.ref p) ∧ 0 < b.length ∧ b.length ≤ 60 ∧ (∀ q ∈ b, PkN b.length q) ∧ σ' = [some (.ref sa), some (.bl fw), some (.ref p), none, none, none, none, none, none]) ?_ (fun N hN => ?_)
    case refine_2 =>
      simp_all only [spBd]
      exact ⟨ns, hS, by decide, by decide, fun p H1 b s1 r1 b0 b40 g1 => hN _ _ ⟨s1, p, b, r1, b0, b40, g1, rfl⟩⟩
    rintro _ H1 ⟨s1, p, b, rb, b0, b60, gb, rfl⟩
    have hS := s1.seq hS
    change tSeq _ _ _ [some (.ref sa), some (.bl fw), some (.ref p), none, none, none, none, none, none] H1
    refine seq_gen (fun σ' H2 => Same H1 H2 ∧ ∃ p2 c, Rep H2 (brD c) (.ref p2) ∧ 0 < c.length ∧ c.length ≤ 60 ∧ (∀ q ∈ c, PkN c.length q) ∧ σ' = [some (.ref sa), some (.bl fw), some (.ref p), some (.ref p2), none, none, none, none, none]) ?_ (fun N hN => ?_)
    case refine_2 =>
      simp_all only [spBd]
      exact ⟨ns, hS, by decide, by decide, fun p H1 b s1 r1 b0 b40 g1 => hN _ _ ⟨s1, p, b, r1, b0, b40, g1, rfl⟩⟩
    rintro _ H2 ⟨s2, p2, c, rc, c0, c60, gc, rfl⟩
    have rb := rb.mono s2
    obtain ⟨_, xs, e1, ha, rx⟩ := rep_lst.mp rb
    cases e1
    obtain ⟨_, ys, e1, he, ry⟩ := rep_lst.mp rc
    cases e1
    have lx := rx.length
    rw [List.length_map] at lx
    have ly := ry.length
    rw [List.length_map] at ly
    change tSeq _ _ _ [some (.ref sa), some (.bl fw), some (.ref p), some (.ref p2), none, none, none, none, none] H2
    refine seq_gen (fun σ' H3 => Same H2 H3 ∧ ∃ h h1 h2, H3 h = some (.lst [.ref h1, .ref h2]) ∧ H2 h1 = none ∧ Rep H3 (brD b) (.ref h1) ∧ Rep H3 (brD c) (.ref h2) ∧ σ' = [some (.ref sa), some (.bl fw), some (.ref p), some (.ref p2), some (.ref h), none, none, none, none]) ?_ (fun N hN => ?_)
    case refine_2 =>
      simp_all only [spCopy]
      exact ⟨b, rb, by omega, fun l1 H4 s4 n4 r4 => ⟨c, rc.mono s4, by omega, fun l2 H5 s5 n5 r5 => ⟨by decide, fun h nh => hN _ _ ⟨s4.trans (s5.trans (same_upd nh)), h, l1, l2, upd_same, n4, (r4.mono s5).mono (same_upd nh), r5.mono (same_upd nh), rfl⟩⟩⟩⟩
    rintro _ H3 ⟨s3, h, h1, h2, hh, nh1, r1, r2, rfl⟩
    obtain ⟨_, xs1, e1, hh1, rx1⟩ := rep_lst.mp r1
    cases e1
    have lx1 := rx1.length
    rw [List.length_map] at lx1
    change tSeq _ _ _ [some (.ref sa), some (.bl fw), some (.ref p), some (.ref p2), some (.ref h), none, none, none, none] H3
    refine seq_gen (fun σ' H4 => Same H3 H4 ∧ ∃ l m zs, H3 l = none ∧ H4 l = some (.lst zs) ∧ Told2 H3 (hid H4 l) b c m zs ∧ Ak.Last b c m ∧ (∀ k, k < m → ¬ Ak.Last b c k) ∧ σ' = [some (.ref sa), some (.bl fw), some (.ref p), some (.ref p2), some (.ref h), some (.ref l), none, none, none]) ?_ (fun N hN => ?_)
    case refine_2 =>
      simp_all only [spRd2, hh]
      exact ⟨b, r1, c, r2, by omega, by omega, gb, gc, fun l H5 m zs s5 n5 h5 t5 la nl => hN _ _ ⟨s5, l, m, zs, n5, h5, t5, la, nl, rfl⟩⟩
    rintro _ H4 ⟨s4, l, m, zs, nl3, hl, ⟨lz, tz⟩, la, nl, rfl⟩
    have s24 := s3.trans s4
    have tz : ∀ (k : Nat) x, zs[k]? = some x → ∃ lr, x = .ref lr ∧ H4 lr = some (.lst ((Ak.Rq b c k).map V.int)) ∧ H3 lr = none ∧ lr ≠ l := fun k x ex => by
      obtain ⟨lr, e1, e2, e3⟩ := tz k x ex
      exact ⟨lr, e1, hid_sub _ _ e2, e3, fun z => by rw [z] at e2; unfold hid at e2; rw [if_pos rfl] at e2; cases e2⟩
    change tSeq _ _ _ [some (.ref sa), some (.bl fw), some (.ref p), some (.ref p2), some (.ref h), some (.ref l), none, none, none] H4
    refine seq_gen (fun σ' H5 => Same H4 H5 ∧ σ' = [some (.ref sa), some (.bl fw), some (.ref p), some (.ref p2), some (.ref h), some (.ref l), none, none, none]) ?_ (fun N hN => ?_)
    case refine_2 =>
      simp_all only [spNb, s24 _ _ ha, s24 _ _ he, rEqD]
      refine ⟨xs.length + ys.length, by rw [Int.natCast_add], m, zs, hl, lz, fun k => Ak.Rq b c k, fun k x ex => by obtain ⟨lr, e1, e2, _⟩ := tz k x ex; exact ⟨lr, e1, e2⟩, fun k => by rw [Ak.Rq_len]; omega, by decide, fun q1 n1 => ?_⟩
      have s7 := s4.trans (same_upd (o := .lst [V.ref p, V.ref p2]) n1)
      refine ⟨.lst [brD b, brD c], rep_lst.mpr ⟨h, _, rfl, s7 _ _ hh, by rw [RepL]; exact ⟨_, _, rfl, r1.mono s7, by rw [RepL]; exact ⟨_, _, rfl, r2.mono s7, by rw [RepL]⟩⟩⟩, rep_lst.mpr ⟨q1, _, rfl, upd_same, by rw [RepL]; exact ⟨_, _, rfl, rb.mono (s3.trans s7), by rw [RepL]; exact ⟨_, _, rfl, rc.mono (s3.trans s7), by rw [RepL]⟩⟩⟩, ⟨_, rfl⟩, by
        have e1 := depth_br4 b
        have e2 := depth_br4 c
        rw [depth, depth.dL, depth.dL, depth.dL]
        omega, ?_⟩
      rw [if_neg (by decide)]
      exact hN _ _ ⟨same_upd n1, rfl⟩
    rintro _ H5 ⟨s5, rfl⟩
    have s25 := s24.trans s5
    change tSeq _ _ _ [some (.ref sa), some (.bl fw), some (.ref p), some (.ref p2), some (.ref h), some (.ref l), none, none, none] H5
    refine seq_gen (fun σ' H6 => Same H5 H6 ∧ ∃ ld, H5 ld = none ∧ H6 ld = some (.lst ((Ak.Rq b c 0).map V.int)) ∧ σ' = [some (.ref sa), some (.bl fw), some (.ref p), some (.ref p2), some (.ref h), some (.ref l), some (.ref ld), none, none]) ?_ (fun N hN => ?_)
    case refine_2 =>
      simp_all only [spDu, rCat, s25 _ _ ha, s25 _ _ he]
      refine ⟨by rw [sizeLine_eq]; omega, fun q1 n1 => ⟨b ++ c, rep_lst.mpr ⟨q1, _, rfl, upd_same, ?_⟩, by rw [List.length_append]; omega, fun ld H6 s6 n6 h6 => hN _ _ ⟨(same_upd n1).trans s6, ld, none_of (same_upd n1) n6, h6, rfl⟩⟩⟩
      rw [List.map_append]
      exact ((rx.append ry).mono s25).mono (same_upd n1)
    rintro _ H6 ⟨s6, ld, nld, hld, rfl⟩
    have s36 := s4.trans (s5.trans s6)
    have nld3 : H3 ld = none := none_of (s4.trans s5) nld
    change tSeq _ _ _ [some (.ref sa), some (.bl fw), some (.ref p), some (.ref p2), some (.ref h), some (.ref l), some (.ref ld), none, none] H6
    refine seq_gen (fun σ' H7 => Same H6 H7 ∧ ∃ lk us, H6 lk = none ∧ H7 lk = some (.lst us) ∧ us.length = zs.length ∧ (∀ (k : Nat) u, us[k]? = some u → ∃ lu, u = .ref lu ∧ H7 lu = some (.lst ((Ak.Rq b c k).map V.int)) ∧ H6 lu = none) ∧ σ' = [some (.ref sa), some (.bl fw), some (.ref p), some (.ref p2), some (.ref h), some (.ref l), some (.ref ld), some (.ref lk), none]) ?_ (fun N hN => ?_)
    case refine_2 =>
      have hl6 := (s5.trans s6) _ _ hl
      simp_all only []
      refine ⟨⟨_, SqL.of hl6⟩, ?_⟩
      have ml := lz
      refine comp_map (src_list (fun H' s' => SqL.of (s' _ _ hl6))) (fun _ _ _ _ h => by rw [h.1]; exact Same.refl _) (by have := rounds_le nl; rw [sizeLine_eq]; omega) (fun i y H7 => ∃ lu, y = .ref lu ∧ H7 lu = some (.lst ((Ak.Rq b c i).map V.int)) ∧ H6 lu = none) (fun i y H7 H8 s8 ⟨lu, e1, e2, e3⟩ => ⟨lu, e1, s8 _ _ e2, e3⟩) ?_ ?_
      · rintro i x w0 H7 H8 Q2 hi s7 ⟨rfl, hx⟩ kq
        obtain ⟨lr, rfl, e2, _⟩ := tz i x hx
        simp_all only []
        exact ⟨_, .inl (SqL.of (((s5.trans s6).trans s7) _ _ e2)), fun lu nu => kq _ _ (same_upd nu) ⟨lu, rfl, upd_same, none_of s7 nu⟩⟩
      · intro us H7 s7 lu hu D n1 n2
        exact hN _ _ ⟨s7.trans (same_upd n2), D, us, n1, upd_same, lu, fun k u eu => by obtain ⟨lu, e1, e2, e3⟩ := hu k u eu; exact ⟨lu, e1, same_upd n2 _ _ e2, e3⟩, rfl⟩
    rintro _ H7 ⟨s7, lk, us, nlk, hlk, lus, ux, rfl⟩
    have s37 := s36.trans s7
    change tSeq _ _ _ [some (.ref sa), some (.bl fw), some (.ref p), some (.ref p2), some (.ref h), some (.ref l), some (.ref ld), some (.ref lk), none] H7
    refine seq_gen (fun σ' H8 => Same H2 H8 ∧ (∀ a o, H3 a = none → H7 a = some o → H8 a = some o) ∧ σ' = [some (.ref sa), some (.bl fw), some (.ref p), some (.ref p2), some (.ref h), some (.ref l), some (.ref ld), some (.ref lk), none]) ?_ (fun N hN => ?_)
    case refine_2 =>
      simp_all only [tTupS, rSetL]
      refine ⟨by decide, fun q1 Ha sA nA eA => ⟨by decide, fun q2 Hb sB nB eB => ⟨_, (s37.trans (sA.trans sB)) _ _ hh, _, at0, h1, rfl, xs1, (s37.trans (sA.trans sB)) _ _ hh1, 0, ?_, hN _ _ ⟨same_upd_of (s3.trans (s37.trans (sA.trans sB))) nh1, fun a' o' n3' e7 => ?_, rfl⟩⟩⟩⟩
      · unfold ixN
        rw [if_pos (by decide), if_pos (by omega)]
        rfl
      · rw [upd_ne (fun z => by rw [z, hh1] at n3'; cases n3')]
        exact (sA.trans sB) _ _ e7
    rintro _ H8 ⟨s8, keep, rfl⟩
    have hl8 := keep _ _ nl3 ((s5.trans (s6.trans s7)) _ _ hl)
    have hld8 := keep _ _ nld3 (s7 _ _ hld)
    have hlk8 := keep _ _ (none_of s36 nlk) hlk
    have tz8 : ∀ (k : Nat) x, zs[k]? = some x → ∃ lr, x = .ref lr ∧ H8 lr = some (.lst ((Ak.Rq b c k).map V.int)) ∧ H3 lr = none ∧ lr ≠ l := fun k x ex => by
      obtain ⟨lr, e1, e2, e3, e4⟩ := tz k x ex
      exact ⟨lr, e1, keep _ _ e3 ((s5.trans (s6.trans s7)) _ _ e2), e3, e4⟩
    have ux8 : ∀ (k : Nat) u, us[k]? = some u → ∃ lu, u = .ref lu ∧ H8 lu = some (.lst ((Ak.Rq b c k).map V.int)) ∧ H6 lu = none := fun k u eu => by
      obtain ⟨lu, e1, e2, e3⟩ := ux k u eu
      exact ⟨lu, e1, keep _ _ (none_of s36 e3) e2, e3⟩
    change tSeq _ _ _ [some (.ref sa), some (.bl fw), some (.ref p), some (.ref p2), some (.ref h), some (.ref l), some (.ref ld), some (.ref lk), none] H8
    refine seq_gen (fun σ' H9 => Same H8 H9 ∧ σ' = [some (.ref sa), some (.bl fw), some (.ref p), some (.ref p2), some (.ref h), some (.ref l), some (.ref ld), some (.ref lk), none]) ?_ (fun N hN => ?_)
    case refine_2 =>
      simp_all only [tTupS, spRd2, rEqD]
      refine ⟨by decide, fun q1 Ha sA nA eA => ⟨by decide, fun q2 Hb sB nB eB => ⟨by decide, fun q3 n3 => ⟨by decide, fun q4 Hc sC nC eC => ⟨by decide, fun q5 Hd sD nD eD => ⟨by decide, fun q6 n6 => ?_⟩⟩⟩⟩⟩⟩
      have t3 := same_upd (o := .lst [V.ref q2]) n3
      have t6 := same_upd (o := .lst [V.ref q5]) n6
      have sAll := sA.trans (sB.trans (t3.trans (sC.trans (sD.trans t6))))
      have r3 : Rep (upd Hd q6 (.lst [V.ref q5])) (brD [.fin (1, 1)]) (.ref q3) := rep_lst.mpr ⟨q3, _, rfl, (sC.trans (sD.trans t6)) _ _ upd_same, ⟨_, _, rfl, rep_fin.mpr ⟨q2, q1, rfl, (t3.trans (sC.trans (sD.trans t6))) _ _ eB, (sB.trans (t3.trans (sC.trans (sD.trans t6)))) _ _ eA⟩, rfl⟩⟩
      have r6 : Rep (upd Hd q6 (.lst [V.ref q5])) (brD [.fin (1, 1)]) (.ref q6) := rep_lst.mpr ⟨q6, _, rfl, upd_same, ⟨_, _, rfl, rep_fin.mpr ⟨q5, q4, rfl, t6 _ _ eD, (sD.trans t6) _ _ eC⟩, rfl⟩⟩
      generalize upd Hd q6 (.lst [V.ref q5]) = He at *
      refine ⟨_, r3, _, r6, by simp, by simp, fun q hq => by rw [List.mem_singleton.mp hq]; trivial, fun q hq => by rw [List.mem_singleton.mp hq]; trivial, fun l1 Hf m1 zs1 sF nF hF tF la1 nl1 => ?_⟩
      have m0 : m1 = 0 := Classical.byContradiction fun z => nl1 0 (by omega) (two_ends _).2
      subst m0
      refine ⟨by decide, fun q7 n7 => ⟨by decide, fun q8 n8 => ?_⟩⟩
      have t7 := same_upd (o := .lst [V.int 0, V.int 0]) n7
      have t8 := same_upd (o := .lst [V.ref q7]) n8
      have t78 := t7.trans t8
      have hq7 := t8 _ _ (upd_same (H := Hf) (a := q7) (o := .lst [V.int 0, V.int 0]))
      have hq8 := upd_same (H := upd Hf q7 (.lst [V.int 0, V.int 0])) (a := q8) (o := .lst [V.ref q7])
      generalize upd (upd Hf q7 (.lst [V.int 0, V.int 0])) q8 (.lst [V.ref q7]) = Hg at *
      have s8G : Same H8 Hg := sAll.trans (sF.trans t78)
      refine ⟨rowsR [.fin (1, 1)] [.fin (1, 1)] 0, rows_rep (t78 _ _ hF) tF.1 (fun k x ex => by obtain ⟨lr, e1, e2, _⟩ := tF.2 k x ex; exact ⟨lr, e1, t78 _ _ (hid_sub _ _ e2)⟩), rows_rep hq8 rfl (fun k x ex => ?_), ⟨_, rfl⟩, depth_rows2 _ _ _, ?_⟩
      · cases k with
        | zero =>
          cases ex
          exact ⟨q7, rfl, by rw [(two_ends _).1]; exact hq7⟩
        | succ k => cases ex
      rw [if_neg (by decide)]
      have ez := List.getElem?_eq_getElem (show 0 < zs.length by omega)
      obtain ⟨lr0, e0, g0, _⟩ := tz8 0 _ ez
      rw [e0] at ez
      refine ⟨zs, s8G _ _ hl8, .ref lr0, atI_nat (j := 0) ez, .lst ((Ak.Rq b c 0).map Dat.int), rep_lst.mpr ⟨lr0, _, rfl, s8G _ _ g0, repL_int _ _⟩, rep_lst.mpr ⟨ld, _, rfl, s8G _ _ hld8, repL_int _ _⟩, ⟨_, rfl⟩, ?_, ?_⟩
      · have := depth_flat (ds := (Ak.Rq b c 0).map Dat.int) (n := 0) fun d hd => by obtain ⟨x, _, rfl⟩ := List.mem_map.mp hd; simp [depth]
        rw [depth]
        omega
      rw [if_neg (by decide)]
      refine ⟨rowsR b c m, rows_rep (s8G _ _ hl8) lz (fun k x ex => by obtain ⟨lr, e1, e2, _⟩ := tz8 k x ex; exact ⟨lr, e1, s8G _ _ e2⟩), rows_rep (s8G _ _ hlk8) (by omega) (fun k x ex => by obtain ⟨lr, e1, e2, _⟩ := ux8 k x ex; exact ⟨lr, e1, s8G _ _ e2⟩), ⟨_, rfl⟩, depth_rows2 _ _ _, ?_⟩
      rw [if_neg (by decide)]
      exact hN _ _ ⟨s8G, rfl⟩
    rintro _ H9 ⟨s9, rfl⟩
    have hl9 := s9 _ _ hl8
    change tSeq _ _ _ [some (.ref sa), some (.bl fw), some (.ref p), some (.ref p2), some (.ref h), some (.ref l), some (.ref ld), some (.ref lk), none] H9
    refine seq_gen (fun σ' H10 => (∀ a o, (∀ k : Nat, zs[k]? ≠ some (V.ref a)) → H9 a = some o → H10 a = some o) ∧ ∃ z1, σ' = [some (.ref sa), some (.bl fw), some (.ref p), some (.ref p2), some (.ref h), some (.ref l), some (.ref ld), some (.ref lk), z1]) ?_ (fun N hN => ?_)
    case refine_2 =>
      have mle := rounds_le nl
      have notl : ∀ k : Nat, zs[k]? ≠ some (V.ref l) := fun k z => by
        obtain ⟨lr, e1, _, _, e4⟩ := tz8 k _ z
        cases e1
        exact e4 rfl
      simp_all only []
      refine ⟨⟨_, SqL.of hl9⟩, for_src (src_list (Ok := fun H' => H' l = some (.lst zs)) (fun H' e => SqL.of e)) (fun i σ H' => (∀ a o, (∀ k : Nat, zs[k]? ≠ some (V.ref a)) → H9 a = some o → H' a = some o) ∧ (∀ (k : Nat) lr, zs[k]? = some (V.ref lr) → ∃ vs, H' lr = some (.lst vs) ∧ vs.length ≤ 1000 + i) ∧ ∃ z1, σ = [some (.ref sa), some (.bl fw), some (.ref p), some (.ref p2), some (.ref h), some (.ref l), some (.ref ld), some (.ref lk), z1]) ⟨fun a o _ e => e, fun k lr e => ?_, _, rfl⟩ (fun i σ H' _ h => h.1 l _ notl hl9) ?_ ?_⟩
      · obtain ⟨lr', e1, e2, _⟩ := tz8 k _ e
        cases e1
        exact ⟨_, s9 _ _ e2, by rw [List.length_map, Ak.Rq_len]; omega⟩
      · rintro i x σ H11 H12 hi ⟨kp, rw11, z1, rfl⟩ ⟨rfl, ex⟩
        obtain ⟨lr, rfl, _⟩ := tz8 i x ex
        obtain ⟨vs, hv, lv⟩ := rw11 i lr ex
        simp_all only [rAppend]
        refine ⟨.inl ⟨rfl, _, SqL.of hv⟩, vs, hv, by rw [sizeLine_eq]; omega, fun a' o' nr e' => ?_, fun k lr' e' => ?_, _, rfl⟩
        · rw [upd_ne (fun z => nr i (by rw [z]; exact ex))]
          exact kp a' o' nr e'
        · by_cases cz : lr' = lr
          · rw [cz, upd_same]
            exact ⟨_, rfl, by rw [List.length_append]; simp only [List.length_cons, List.length_nil]; omega⟩
          · rw [upd_ne cz]
            obtain ⟨vs', hv', lv'⟩ := rw11 k lr' e'
            exact ⟨vs', hv', by omega⟩
      · rintro σ H11 ⟨kp, _, z1, rfl⟩
        exact hN _ _ ⟨kp, z1, rfl⟩
    rintro _ H10 ⟨keep2, z1, rfl⟩
    have s210 : Same H2 H10 := fun a' o' e' => keep2 a' o' (fun k z => by
      obtain ⟨lr, e1, _, e3, _⟩ := tz8 k _ z
      cases e1
      have := none_of s3 e3
      rw [e'] at this
      cases this) ((s8.trans s9) _ _ e')
    have row6 : ∀ {a' : Addr}, H6 a' = none → ∀ k : Nat, zs[k]? ≠ some (V.ref a') := fun {a'} n' k z => by
      obtain ⟨lr, e1, e2, _⟩ := tz k _ z
      cases e1
      rw [(s5.trans s6) _ _ e2] at n'
      cases n'
    have kept10 : Rep H10 (rowsR b c m) (.ref lk) := rows_rep (keep2 _ _ (row6 nlk) (s9 _ _ hlk8)) (by omega) fun k u eu => by
      obtain ⟨lu, e1, e2, e3⟩ := ux8 k u eu
      exact ⟨lu, e1, keep2 _ _ (row6 e3) (s9 _ _ e2)⟩
    simp_all only [spCopy, spRd2, rEqD]
    refine ⟨b, rb.mono s210, by omega, fun l1 Ha sA nA rA => ⟨c, (rc.mono s210).mono sA, by omega, fun l2 Hb sB nB rB => ⟨b, rA.mono sB, c, rB, by omega, by omega, gb, gc, fun lf Hf m2 zs2 sF nF hF tF la2 nl2 => ?_⟩⟩⟩
    have em : m2 = m := by
      rcases Nat.lt_trichotomy m2 m with hlt | heq | hgt
      · exact absurd la2 (nl m2 hlt)
      · exact heq
      · exact absurd la (nl2 m hgt)
    subst em
    exact ⟨rowsR b c m2, rows_rep hF tF.1 (fun k x ex => by obtain ⟨lr, e1, e2, _⟩ := tF.2 k x ex; exact ⟨lr, e1, hid_sub _ _ e2⟩), ((kept10.mono sA).mono sB).mono sF, ⟨_, rfl⟩, depth_rows2 _ _ _, kk _⟩
end
theorem all_mk {l : PySem.W.OpenLaw} {w : World} {K : PySem.W.Frag} {h : Heap} {mg : Str → Option Value} {fa : Addr} (X : K.In h) (G : h.Ns mainGlobals mg) (hfa : mg "law" = some (.ref fa))
    {f0 : Addr} {od0 an0 : Option Addr} {sl0 : Array (Option Value)} {oc0 kV0 dc0 pm0 cd0 ct0 : Value} {f1 : Addr} {od1 an1 : Option Addr} {sl1 : Array (Option Value)} {oc1 kV1 dc1 pm1 cd1 ct1 : Value} {f2 : Addr} {od2 an2 : Option Addr} {sl2 : Array (Option Value)} {oc2 kV2 dc2 pm2 cd2 ct2 : Value} {f3 : Addr} {od3 an3 : Option Addr} {sl3 : Array (Option Value)} {oc3 kV3 dc3 pm3 cd3 ct3 : Value} {f4 : Addr} {od4 an4 : Option Addr} {sl4 : Array (Option Value)} {oc4 kV4 dc4 pm4 cd4 ct4 : Value} {f5 : Addr} {od5 an5 : Option Addr} {sl5 : Array (Option Value)} {oc5 kV5 dc5 pm5 cd5 ct5 : Value} {f6 : Addr} {od6 an6 : Option Addr} {sl6 : Array (Option Value)} {oc6 kV6 dc6 pm6 cd6 ct6 : Value} {f7 : Addr} {od7 an7 : Option Addr} {sl7 : Array (Option Value)} {oc7 kV7 dc7 pm7 cd7 ct7 : Value} {f8 : Addr} {od8 an8 : Option Addr} {sl8 : Array (Option Value)} {oc8 kV8 dc8 pm8 cd8 ct8 : Value} {f9 : Addr} {od9 an9 : Option Addr} {sl9 : Array (Option Value)} {oc9 kV9 dc9 pm9 cd9 ct9 : Value} {f10 : Addr} {od10 an10 : Option Addr} {sl10 : Array (Option Value)} {oc10 kV10 dc10 pm10 cd10 ct10 : Value} {f11 : Addr} {od11 an11 : Option Addr} {sl11 : Array (Option Value)} {oc11 kV11 dc11 pm11 cd11 ct11 : Value} {f12 : Addr} {od12 an12 : Option Addr} {sl12 : Array (Option Value)} {oc12 kV12 dc12 pm12 cd12 ct12 : Value} {f13 : Addr} {od13 an13 : Option Addr} {sl13 : Array (Option Value)} {oc13 kV13 dc13 pm13 cd13 ct13 : Value} {f14 : Addr} {od14 an14 : Option Addr} {sl14 : Array (Option Value)} {oc14 kV14 dc14 pm14 cd14 ct14 : Value} {f15 : Addr} {od15 an15 : Option Addr} {sl15 : Array (Option Value)} {oc15 kV15 dc15 pm15 cd15 ct15 : Value} {f16 : Addr} {od16 an16 : Option Addr} {sl16 : Array (Option Value)} {oc16 kV16 dc16 pm16 cd16 ct16 : Value}
    (a0 : PySem.W.nsIn K mainGlobals "common_divisor" = some (some (.ref f0))) (l0 : K.lookup f0 = some ⟨oc0, od0, .func (PySem.W.fnOf "common_divisor" "common_divisor" (defArgs (top 1)) (defBody (top 1)) (defScope (top 1)) .none kV0 dc0 pm0 an0 cd0 ct0), sl0⟩) (e0 : PySem.W.codeIn K cd0 "common_divisor" = true) (k0 : PySem.W.keepIn K (.ref f0) = true)
    (a1 : PySem.W.nsIn K mainGlobals "numbered" = some (some (.ref f1))) (l1 : K.lookup f1 = some ⟨oc1, od1, .func (PySem.W.fnOf "numbered" "numbered" (defArgs (top 3)) (defBody (top 3)) (defScope (top 3)) .none kV1 dc1 pm1 an1 cd1 ct1), sl1⟩) (e1 : PySem.W.codeIn K cd1 "numbered" = true) (k1 : PySem.W.keepIn K (.ref f1) = true)
    (a2 : PySem.W.nsIn K mainGlobals "throw_mark" = some (some (.ref f2))) (l2 : K.lookup f2 = some ⟨oc2, od2, .func (PySem.W.fnOf "throw_mark" "throw_mark" (defArgs (top 4)) (defBody (top 4)) (defScope (top 4)) .none kV2 dc2 pm2 an2 cd2 ct2), sl2⟩) (e2 : PySem.W.codeIn K cd2 "throw_mark" = true) (k2 : PySem.W.keepIn K (.ref f2) = true)
    (a3 : PySem.W.nsIn K mainGlobals "mark_of" = some (some (.ref f3))) (l3 : K.lookup f3 = some ⟨oc3, od3, .func (PySem.W.fnOf "mark_of" "mark_of" (defArgs (top 5)) (defBody (top 5)) (defScope (top 5)) .none kV3 dc3 pm3 an3 cd3 ct3), sl3⟩) (e3 : PySem.W.codeIn K cd3 "mark_of" = true) (k3 : PySem.W.keepIn K (.ref f3) = true)
    (a4 : PySem.W.nsIn K mainGlobals "marks_of" = some (some (.ref f4))) (l4 : K.lookup f4 = some ⟨oc4, od4, .func (PySem.W.fnOf "marks_of" "marks_of" (defArgs (top 6)) (defBody (top 6)) (defScope (top 6)) .none kV4 dc4 pm4 an4 cd4 ct4), sl4⟩) (e4 : PySem.W.codeIn K cd4 "marks_of" = true) (k4 : PySem.W.keepIn K (.ref f4) = true)
    (a5 : PySem.W.nsIn K mainGlobals "next_round" = some (some (.ref f5))) (l5 : K.lookup f5 = some ⟨oc5, od5, .func (PySem.W.fnOf "next_round" "next_round" (defArgs (top 7)) (defBody (top 7)) (defScope (top 7)) .none kV5 dc5 pm5 an5 cd5 ct5), sl5⟩) (e5 : PySem.W.codeIn K cd5 "next_round" = true) (k5 : PySem.W.keepIn K (.ref f5) = true)
    (a6 : PySem.W.nsIn K mainGlobals "rounds" = some (some (.ref f6))) (l6 : K.lookup f6 = some ⟨oc6, od6, .func (PySem.W.fnOf "rounds" "rounds" (defArgs (top 8)) (defBody (top 8)) (defScope (top 8)) .none kV6 dc6 pm6 an6 cd6 ct6), sl6⟩) (e6 : PySem.W.codeIn K cd6 "rounds" = true) (k6 : PySem.W.keepIn K (.ref f6) = true)
    (a7 : PySem.W.nsIn K mainGlobals "_law_cell" = some (some (.ref f7))) (l7 : K.lookup f7 = some ⟨oc7, od7, .func (PySem.W.fnOf "_law_cell" "_law_cell" (defArgs (top 10)) (defBody (top 10)) (defScope (top 10)) .none kV7 dc7 pm7 an7 cd7 ct7), sl7⟩) (e7 : PySem.W.codeIn K cd7 "_law_cell" = true) (k7 : PySem.W.keepIn K (.ref f7) = true)
    (a8 : PySem.W.nsIn K mainGlobals "_law_mixed" = some (some (.ref f8))) (l8 : K.lookup f8 = some ⟨oc8, od8, .func (PySem.W.fnOf "_law_mixed" "_law_mixed" (defArgs (top 11)) (defBody (top 11)) (defScope (top 11)) .none kV8 dc8 pm8 an8 cd8 ct8), sl8⟩) (e8 : PySem.W.codeIn K cd8 "_law_mixed" = true) (k8 : PySem.W.keepIn K (.ref f8) = true)
    (a9 : PySem.W.nsIn K mainGlobals "_law_divisor" = some (some (.ref f9))) (l9 : K.lookup f9 = some ⟨oc9, od9, .func (PySem.W.fnOf "_law_divisor" "_law_divisor" (defArgs (top 12)) (defBody (top 12)) (defScope (top 12)) .none kV9 dc9 pm9 an9 cd9 ct9), sl9⟩) (e9 : PySem.W.codeIn K cd9 "_law_divisor" = true) (k9 : PySem.W.keepIn K (.ref f9) = true)
    (a10 : PySem.W.nsIn K mainGlobals "_law_share" = some (some (.ref f10))) (l10 : K.lookup f10 = some ⟨oc10, od10, .func (PySem.W.fnOf "_law_share" "_law_share" (defArgs (top 13)) (defBody (top 13)) (defScope (top 13)) .none kV10 dc10 pm10 an10 cd10 ct10), sl10⟩) (e10 : PySem.W.codeIn K cd10 "_law_share" = true) (k10 : PySem.W.keepIn K (.ref f10) = true)
    (a11 : PySem.W.nsIn K mainGlobals "_law_place" = some (some (.ref f11))) (l11 : K.lookup f11 = some ⟨oc11, od11, .func (PySem.W.fnOf "_law_place" "_law_place" (defArgs (top 14)) (defBody (top 14)) (defScope (top 14)) .none kV11 dc11 pm11 an11 cd11 ct11), sl11⟩) (e11 : PySem.W.codeIn K cd11 "_law_place" = true) (k11 : PySem.W.keepIn K (.ref f11) = true)
    (a12 : PySem.W.nsIn K mainGlobals "_law_board" = some (some (.ref f12))) (l12 : K.lookup f12 = some ⟨oc12, od12, .func (PySem.W.fnOf "_law_board" "_law_board" (defArgs (top 15)) (defBody (top 15)) (defScope (top 15)) .none kV12 dc12 pm12 an12 cd12 ct12), sl12⟩) (e12 : PySem.W.codeIn K cd12 "_law_board" = true) (k12 : PySem.W.keepIn K (.ref f12) = true)
    (a13 : PySem.W.nsIn K mainGlobals "_law_copy" = some (some (.ref f13))) (l13 : K.lookup f13 = some ⟨oc13, od13, .func (PySem.W.fnOf "_law_copy" "_law_copy" (defArgs (top 16)) (defBody (top 16)) (defScope (top 16)) .none kV13 dc13 pm13 an13 cd13 ct13), sl13⟩) (e13 : PySem.W.codeIn K cd13 "_law_copy" = true) (k13 : PySem.W.keepIn K (.ref f13) = true)
    (a14 : PySem.W.nsIn K mainGlobals "_law_numbers" = some (some (.ref f14))) (l14 : K.lookup f14 = some ⟨oc14, od14, .func (PySem.W.fnOf "_law_numbers" "_law_numbers" (defArgs (top 17)) (defBody (top 17)) (defScope (top 17)) .none kV14 dc14 pm14 an14 cd14 ct14), sl14⟩) (e14 : PySem.W.codeIn K cd14 "_law_numbers" = true) (k14 : PySem.W.keepIn K (.ref f14) = true)
    (a15 : PySem.W.nsIn K mainGlobals "_law_due" = some (some (.ref f15))) (l15 : K.lookup f15 = some ⟨oc15, od15, .func (PySem.W.fnOf "_law_due" "_law_due" (defArgs (top 18)) (defBody (top 18)) (defScope (top 18)) .none kV15 dc15 pm15 an15 cd15 ct15), sl15⟩) (e15 : PySem.W.codeIn K cd15 "_law_due" = true) (k15 : PySem.W.keepIn K (.ref f15) = true)
    (a16 : PySem.W.nsIn K mainGlobals "law" = some (some (.ref f16))) (l16 : K.lookup f16 = some ⟨oc16, od16, .func (PySem.W.fnOf "law" "law" (defArgs (top 19)) (defBody (top 19)) (defScope (top 19)) .none kV16 dc16 pm16 an16 cd16 ct16), sl16⟩) (e16 : PySem.W.codeIn K cd16 "law" = true) (k16 : PySem.W.keepIn K (.ref f16) = true)
    (z_abs : PySem.W.nsIn K mainGlobals "abs" = some none)
    (z_bool : PySem.W.nsIn K mainGlobals "bool" = some none)
    (z_int : PySem.W.nsIn K mainGlobals "int" = some none)
    (z_isinstance : PySem.W.nsIn K mainGlobals "isinstance" = some none)
    (z_len : PySem.W.nsIn K mainGlobals "len" = some none)
    (z_list : PySem.W.nsIn K mainGlobals "list" = some none)
    (z_range : PySem.W.nsIn K mainGlobals "range" = some none)
    (z_set : PySem.W.nsIn K mainGlobals "set" = some none)
    (z_sorted : PySem.W.nsIn K mainGlobals "sorted" = some none)
    (z_tuple : PySem.W.nsIn K mainGlobals "tuple" = some none)
    (z_zip : PySem.W.nsIn K mainGlobals "zip" = some none)
    : ∃ fd : FuncData, (∀ (s : Shared) (v : Value), BindsTo s fd ⟨[v], []⟩ [("_law_script", v)]) ∧ ∀ base : Heap, K.In base → base.Ns mainGlobals mg → FnOk l.prog w K mg base (CX1 l.prog w) 30 fa fd ["_law_script"] (spLaw K) := by
  have e := hfa.symm.trans (PySem.W.mg_of X G a16)
  cases e
  have T : Txt K mg := ⟨PySem.W.mg_none_of X G z_abs, PySem.W.mg_none_of X G z_bool, PySem.W.mg_none_of X G z_int, PySem.W.mg_none_of X G z_isinstance, PySem.W.mg_none_of X G z_len, PySem.W.mg_none_of X G z_list, PySem.W.mg_none_of X G z_range, PySem.W.mg_none_of X G z_set, PySem.W.mg_none_of X G z_sorted, PySem.W.mg_none_of X G z_tuple, PySem.W.mg_none_of X G z_zip, ⟨_, _, fun_mk l0 e0 k0, PySem.W.mg_of X G a0⟩, ⟨_, _, fun_mk l1 e1 k1, PySem.W.mg_of X G a1⟩, ⟨_, _, fun_mk l2 e2 k2, PySem.W.mg_of X G a2⟩, ⟨_, _, fun_mk l3 e3 k3, PySem.W.mg_of X G a3⟩, ⟨_, _, fun_mk l4 e4 k4, PySem.W.mg_of X G a4⟩, ⟨_, _, fun_mk l5 e5 k5, PySem.W.mg_of X G a5⟩, ⟨_, _, fun_mk l6 e6 k6, PySem.W.mg_of X G a6⟩, ⟨_, _, fun_mk l7 e7 k7, PySem.W.mg_of X G a7⟩, ⟨_, _, fun_mk l8 e8 k8, PySem.W.mg_of X G a8⟩, ⟨_, _, fun_mk l9 e9 k9, PySem.W.mg_of X G a9⟩, ⟨_, _, fun_mk l10 e10 k10, PySem.W.mg_of X G a10⟩, ⟨_, _, fun_mk l11 e11 k11, PySem.W.mg_of X G a11⟩, ⟨_, _, fun_mk l12 e12 k12, PySem.W.mg_of X G a12⟩, ⟨_, _, fun_mk l13 e13 k13, PySem.W.mg_of X G a13⟩, ⟨_, _, fun_mk l14 e14 k14, PySem.W.mg_of X G a14⟩, ⟨_, _, fun_mk l15 e15 k15, PySem.W.mg_of X G a15⟩⟩
  exact ⟨_, fun s v => .of_eq rfl, fun base _ _ => (ok_law T (fun_mk l16 e16 k16)).mono (by decide)⟩
theorem walk {l : PySem.W.OpenLaw} {q : Program} {loose : List Str} {XP : (Str → Option Value) → Heap → Prop} {YP : World → Heap → Prop} {d : DefRec} {K : Params → PySem.W.Frag} (hn : l.most = some 63) (hdf : d.params.defaults = [])
    (hY : ∀ (w : World) (h : Heap), YP w h → (K w.params).In h)
    (F : ∀ (w : World) (mg : Str → Option Value) (fa : Addr) (h : Heap), (K w.params).In h → h.Ns mainGlobals mg → mg d.name = some (.ref fa) →
      ∃ fd : FuncData, (∀ (s : Shared) (u : Value), BindsTo s fd ⟨[u], []⟩ [("_law_script", u)]) ∧ ∀ base : Heap, (K w.params).In base → base.Ns mainGlobals mg → FnOk l.prog w (K w.params) mg base (CX1 l.prog w) 30 fa fd ["_law_script"] (spLaw (K w.params))) :
    PySem.W.WalkO q loose XP YP l.row.toRowW d [] (fun f vs => PySem.call f vs) :=
  L2.walk_of (n := 63) (k := 30) (x := "_law_script") (CX := fun w => CX1 l.prog w) (sp := fun w => spLaw (K w.params)) hn (by decide) hdf ⟨rfl, by decide, by decide⟩ hY F (fun _ _ a ns hl _ hS => ⟨a, ns, rfl, hS, hl, fun _ => rfl⟩) fun _ _ _ _ _ z => (strict1 _ _) _ _ _ _ _ z
end K70
open PySem PySem.W PyProof.Rows
set_option maxRecDepth 100000 in
set_option maxHeartbeats 0 in
theorem PySem.Challenge.cw_pressluck_k70_round_nought_holds : PySem.Challenge.rw_pressluck_k70_round_nought.Holds := by
  w_on; o_law; k_head; (case hw => w_witness2)
  k_fill
  refine K70.walk (l := PySem.Challenge.rw_pressluck_k70_round_nought) rfl rfl (fun w h Y => PySem.W.kIn_of Y) ?F
  case F =>
    intro w mg fa h KX G hmg
    refine' K70.all_mk KX G hmg ?a0 ?l0 ?e0 ?k0 ?a1 ?l1 ?e1 ?k1 ?a2 ?l2 ?e2 ?k2 ?a3 ?l3 ?e3 ?k3 ?a4 ?l4 ?e4 ?k4 ?a5 ?l5 ?e5 ?k5 ?a6 ?l6 ?e6 ?k6 ?a7 ?l7 ?e7 ?k7 ?a8 ?l8 ?e8 ?k8 ?a9 ?l9 ?e9 ?k9 ?a10 ?l10 ?e10 ?k10 ?a11 ?l11 ?e11 ?k11 ?a12 ?l12 ?e12 ?k12 ?a13 ?l13 ?e13 ?k13 ?a14 ?l14 ?e14 ?k14 ?a15 ?l15 ?e15 ?k15 ?a16 ?l16 ?e16 ?k16 ?z_abs ?z_bool ?z_int ?z_isinstance ?z_len ?z_list ?z_range ?z_set ?z_sorted ?z_tuple ?z_zip
    (case a0 => k_is)
    (case l0 => k_is)
    (case e0 => k_is)
    (case k0 => k_is)
    (case a1 => k_is)
    (case l1 => k_is)
    (case e1 => k_is)
    (case k1 => k_is)
    (case a2 => k_is)
    (case l2 => k_is)
    (case e2 => k_is)
    (case k2 => k_is)
    (case a3 => k_is)
    (case l3 => k_is)
    (case e3 => k_is)
    (case k3 => k_is)
    (case a4 => k_is)
    (case l4 => k_is)
    (case e4 => k_is)
    (case k4 => k_is)
    (case a5 => k_is)
    (case l5 => k_is)
    (case e5 => k_is)
    (case k5 => k_is)
    (case a6 => k_is)
    (case l6 => k_is)
    (case e6 => k_is)
    (case k6 => k_is)
    (case a7 => k_is)
    (case l7 => k_is)
    (case e7 => k_is)
    (case k7 => k_is)
    (case a8 => k_is)
    (case l8 => k_is)
    (case e8 => k_is)
    (case k8 => k_is)
    (case a9 => k_is)
    (case l9 => k_is)
    (case e9 => k_is)
    (case k9 => k_is)
    (case a10 => k_is)
    (case l10 => k_is)
    (case e10 => k_is)
    (case k10 => k_is)
    (case a11 => k_is)
    (case l11 => k_is)
    (case e11 => k_is)
    (case k11 => k_is)
    (case a12 => k_is)
    (case l12 => k_is)
    (case e12 => k_is)
    (case k12 => k_is)
    (case a13 => k_is)
    (case l13 => k_is)
    (case e13 => k_is)
    (case k13 => k_is)
    (case a14 => k_is)
    (case l14 => k_is)
    (case e14 => k_is)
    (case k14 => k_is)
    (case a15 => k_is)
    (case l15 => k_is)
    (case e15 => k_is)
    (case k15 => k_is)
    (case a16 => k_is)
    (case l16 => k_is)
    (case e16 => k_is)
    (case k16 => k_is)
    (case z_abs => k_is)
    (case z_bool => k_is)
    (case z_int => k_is)
    (case z_isinstance => k_is)
    (case z_len => k_is)
    (case z_list => k_is)
    (case z_range => k_is)
    (case z_set => k_is)
    (case z_sorted => k_is)
    (case z_tuple => k_is)
    (case z_zip => k_is)