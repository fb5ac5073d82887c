import PyProof.Rows.All
import Wide.All
import OpenK.AllK
import Wide.FinOn
import Lean
import PyProof.EqAt
import PyProof.EqKinds
import PyProof.TupleCall
import PyProof.NeKinds
import PySem.Challenge.RW_pressluck_k39_misfits
set_option Elab.async false
set_option linter.all false
set_option maxRecDepth 100000
local macro_rules | `(tactic| omega) => `(tactic| lia)
/-! THE HAND LAYER, for ints, bools, texts, own classes, LISTS and tuples (index, slices, in, append, pop ..), calls, loops. Paste it whole ahead of your own text; what your proof does not reach may be deleted. -/
namespace L2
open PySem PySem.Spec PyProof.Rows

/-- a key: an int or a str -/
abbrev Key := Sum Int Str
noncomputable def keyIs : Key → Value → Bool
  | .inl k, v => Value.isInt k v
  | .inr x, v => Value.isStrOf x v
noncomputable def keyH (w : World) : Key → Int
  | .inl k => hashInt k
  | .inr x => hashStr w x
theorem keyIs_shape : ∀ {k : Key} {v : Value}, keyIs k v = true → (∃ i t, k = Sum.inl i ∧ v = Value.int i t) ∨ (∃ x t, k = Sum.inr x ∧ v = Value.str x t)
  | .inl i, v, h => by
    obtain ⟨t, e⟩ := Value.isInt_shape (k := i) (v := v) h
    exact .inl ⟨i, t, rfl, e⟩
  | .inr x, v, h => by
    obtain ⟨t, e⟩ := Value.isStrOf_shape (x := x) (v := v) h
    exact .inr ⟨x, t, rfl, e⟩
theorem key_ll (a b : Int) : decide ((Sum.inl a : Key) = Sum.inl b) = (a == b) := by
  by_cases e : a = b
  · subst e; simp
  · have h : ¬ (Sum.inl a : Key) = Sum.inl b := fun q => e (Sum.inl.inj q)
    rw [decide_eq_false h]
    exact (beq_eq_false_iff_ne.mpr e).symm
theorem key_rr (a b : Str) : decide ((Sum.inr a : Key) = Sum.inr b) = decide (a = b) := by
  by_cases e : a = b
  · subst e; simp
  · have h : ¬ (Sum.inr a : Key) = Sum.inr b := fun q => e (Sum.inr.inj q)
    rw [decide_eq_false h, decide_eq_false e]
theorem key_lr (a : Int) (b : Str) : decide ((Sum.inl a : Key) = Sum.inr b) = false := decide_eq_false (fun q => nomatch q)
theorem key_rl (a : Str) (b : Int) : decide ((Sum.inr a : Key) = Sum.inl b) = false := decide_eq_false (fun q => nomatch q)

noncomputable def mixKind (prog : Program) (w : World) : PySem.KeyKind prog w Key where
  is := keyIs
  hash := keyH w
  inj := fun v a b ha hb => by
    rcases keyIs_shape ha with ⟨i, t, rfl, rfl⟩ | ⟨x, t, rfl, rfl⟩
    · rcases keyIs_shape hb with ⟨j, u, rfl, e⟩ | ⟨y, u, rfl, e⟩
      · injection e with e1 _; rw [e1]
      · exact nomatch e
    · rcases keyIs_shape hb with ⟨j, u, rfl, e⟩ | ⟨y, u, rfl, e⟩
      · exact nomatch e
      · injection e with e1 _; rw [e1]
  byValue := fun k v h => by
    rcases keyIs_shape h with ⟨i, t, rfl, rfl⟩ | ⟨x, t, rfl, rfl⟩ <;> rfl
  pyHash := fun hv h => by
    rcases keyIs_shape hv with ⟨i, t, rfl, rfl⟩ | ⟨x, t, rfl, rfl⟩
    · exact wpAny_pyHash_int h
    · exact wpAny_pyHash_str h
  eqBool := fun hu hv h => by
    rcases keyIs_shape hu with ⟨i, t, rfl, rfl⟩ | ⟨x, t, rfl, rfl⟩
    · rcases keyIs_shape hv with ⟨j, u, rfl, rfl⟩ | ⟨y, u, rfl, rfl⟩
      · rw [key_ll] at h; exact wpAny_eqBool_int h
      · rw [key_lr] at h; exact SeqAt.EqAt.int_str i t y u _ _ _ _ h
    · rcases keyIs_shape hv with ⟨j, u, rfl, rfl⟩ | ⟨y, u, rfl, rfl⟩
      · rw [key_rl] at h; exact SeqAt.EqAt.str_int x t j u _ _ _ _ h
      · rw [key_rr] at h; exact wpAny_eqBool_str h
  «strs» := fun k x t v h => by
    rcases keyIs_shape h with ⟨i, u, rfl, e⟩ | ⟨y, u, rfl, e⟩
    · exact nomatch e
    · injection e with e1 _
      subst e1
      cases v <;> rfl

end L2

namespace L2
open PySem PySem.Spec PyProof.Rows

/-- a value, without the heap -/
inductive V where
  | non | bl (b : Bool) | int (i : Int) | str (x : Str) | byt (b : Array UInt8) | flt (b : UInt64) | ref (a : Addr) | ty (n : String)
  deriving DecidableEq

noncomputable def RelV : V → Value → Prop
  | .non, u => u = Value.none
  | .bl b, u => u = Value.bool b
  | .int i, u => ∃ t, u = Value.int i t
  | .str x, u => ∃ t, u = Value.str x t
  | .byt b, u => ∃ t, u = Value.bytes b t
  | .flt b, u => ∃ t, u = Value.float b t
  | .ref a, u => u = Value.ref a
  | .ty n, u => u = Value.type n

abbrev Vals : List V → List Value → Prop := Paired RelV
theorem Vals.length {xs : List V} {us : List Value} (r : Vals xs us) : xs.length = us.length := Paired.length r
theorem Vals.get : ∀ {xs : List V} {us : List Value} {i : Nat} {x : V}, Vals xs us → xs[i]? = some x → ∃ u, us[i]? = some u ∧ RelV x u
  | _, _, _, _, .nil, e => by simp at e
  | _, _, 0, _, .cons r _, e => by simp at e; subst e; exact ⟨_, rfl, r⟩
  | _, _, i + 1, x, .cons _ t, e => by
    obtain ⟨u, h1, h2⟩ := Vals.get (i := i) (x := x) t (by simpa using e)
    exact ⟨u, by simpa using h1, h2⟩
theorem Vals.set {x : V} {u : Value} (r : RelV x u) : ∀ {xs : List V} {us : List Value} (i : Nat), Vals xs us → Vals (xs.set i x) (us.set i u)
  | _, _, _, .nil => .nil
  | _, _, 0, .cons _ t => .cons r t
  | _, _, i + 1, .cons q t => .cons q (Vals.set r i t)
theorem Vals.append : ∀ {xs ys : List V} {us ws : List Value}, Vals xs us → Vals ys ws → Vals (xs ++ ys) (us ++ ws)
  | _, _, _, _, .nil, s => s
  | _, _, _, _, .cons r t, s => .cons r (Vals.append t s)
theorem Vals.take : ∀ {xs : List V} {us : List Value} (n : Nat), Vals xs us → Vals (xs.take n) (us.take n)
  | _, _, 0, _ => .nil
  | _, _, _ + 1, .nil => .nil
  | _, _, n + 1, .cons r t => .cons r (Vals.take n t)
theorem Vals.drop : ∀ {xs : List V} {us : List Value} (n : Nat), Vals xs us → Vals (xs.drop n) (us.drop n)
  | _, _, 0, r => r
  | _, _, _ + 1, .nil => .nil
  | _, _, n + 1, .cons _ t => Vals.drop n t
theorem Vals.none_of : ∀ {xs : List V} {us : List Value} {i : Nat}, Vals xs us → xs[i]? = none → us[i]? = none := fun {xs us i} r e => by
  have h1 := r.length
  have h2 : xs.length ≤ i := List.getElem?_eq_none_iff.mp e
  exact List.getElem?_eq_none_iff.mpr (by omega)

noncomputable def RelO : Option V → Option Value → Prop
  | some v, some u => RelV v u
  | none, none => True
  | _, _ => False
noncomputable def KV {κ : Type} : List (κ × V) → List (κ × Value) → Prop := Paired fun (p : κ × V) (q : κ × Value) => p.1 = q.1 ∧ RelV p.2 q.2

/-- a key of a dict (00_mix): an int or a text -/
noncomputable def kV : Key → V
  | .inl i => .int i
  | .inr x => .str x

/-- what stands at a tracked address -/
inductive HO where
  /-- a list -/
  | lst (xs : List V)
  /-- a tuple (never changes) -/
  | tup (xs : List V)
  /-- a dict whose keys are ints and texts; one whose keys are tuples of ints and texts (the empty one is both) -/
  | dK (kvs : List (Key × V)) | dT (kvs : List (List Key × V))
  /-- a set of ints: its members, its size -/
  | set (S : Int → Bool) (n : Nat)
  /-- an instance of the class at C, its dict at dx, its attributes -/
  | ins (C dx : Addr) (fs : List (Str × V))
  /-- the dict of the instance at x -/
  | own (x : Addr)
  /-- the dict of an exception -/
  | xd (fs : List (Str × V))
  /-- a bound method, f of x -/
  | met (f x : Addr)
  /-- a range object lo, lo + 1, .. below hi -/
  | rng (lo hi : Int)
  /-- a thing that is known to the object (the script; a dict while a loop walks it): read, never written while it is so -/
  | frz (o : Obj) (u : HO)
  /-- a code object's table -/
  | tbl (ps : Array Value)
  /-- any other thing, by what is true of its one object (a def of one's own: SetO a S n := HO.ext fun h => ..) -/
  | ext (φ : Heap → Prop)

abbrev Hp := Addr → Option HO
noncomputable def upd (H : Hp) (a : Addr) (o : HO) : Hp := fun b => if b = a then some o else H b
theorem upd_same {H : Hp} {a : Addr} {o : HO} : upd H a o a = some o := by unfold upd; rw [if_pos rfl]
theorem upd_ne {H : Hp} {a b : Addr} {o : HO} (h : b ≠ a) : upd H a o b = H b := by unfold upd; rw [if_neg h]
theorem ne_of_none {H : Hp} {a b : Addr} {o : HO} (h : H a = some o) (h' : H b = none) : a ≠ b := by
  intro e; subst e; rw [h] at h'; cases h'

section
variable (P : Program) (w : World)
noncomputable def ObjOk (H : Hp) (h : Heap) (a : Addr) : HO → Prop
  | .lst xs => xs.length ≤ sizeLine ∧ ∃ (its : List Value) (n : Nat), Vals xs its ∧ h.get? a = some { cls := .type "list", data := .seq its.toArray n }
  | .tup xs => xs.length ≤ sizeLine ∧ ∃ its : List Value, Vals xs its ∧ IsTup h a its.toArray
  | .dK kvs => kvs.length ≤ sizeLine ∧ (a == sysModules) = false ∧ ∃ vs, KV kvs vs ∧ h.DictOf (mixKind P w) a vs
  | .dT kvs => kvs.length ≤ sizeLine ∧ (a == sysModules) = false ∧ ∃ xs : List (List Key × Addr × Value),
      Paired (fun (p : List Key × V) (q : List Key × Addr × Value) => p.1 = q.1 ∧ H q.2.1 = some (.tup (p.1.map kV)) ∧ RelV p.2 q.2.2) kvs xs ∧
      ∃ o es ep, h.get? a = some o ∧ o.ExactDict ∧ o.data = .dict es ep ∧ es.toList = xs.map (entryOfKey (tupleKind (mixKind P w))) ∧ (xs.map (·.1)).Nodup
  | .set S n => h.SetOf (intKind P w) a S n
  | .ins C dx fs => H dx = some (.own a) ∧ fs.length ≤ 1000 ∧ dx ≠ a ∧ h.get? a = some (PySem.W.instObj C dx) ∧
      ∃ mA, h.Ns1 dx mA ∧ (∀ f, RelO (fs.lookup f) (mA f)) ∧ PySem.Within mA (fs.map (·.1))
  | .own _ => ∃ o, h.get? a = some o
  | .xd fs => ∃ mA, h.Ns1 a mA ∧ ∀ f, RelO (fs.lookup f) (mA f)
  | .rng lo hi => ∃ t u v, h.get? a = some { cls := .type "range", data := .fields #[.int lo t, .int hi u, .int 1 v] }
  | .frz o u => h.get? a = some o ∧ ObjOk H h a u
  | .tbl ps => h.get? a = some { cls := .none, data := .fields ps }
  | .met f x => h.get? a = some (PySem.W.methodObj (.ref f) (.ref x))
  | .ext φ => φ h ∧ (∃ o, h.get? a = some o) ∧ ∀ h1 h2 : Heap, φ h1 → (∀ o, h1.get? a = some o → h2.get? a = some o) → φ h2
/-- the abstract heap is held -/
noncomputable def HOk (H : Hp) (h : Heap) : Prop := ∀ a o, H a = some o → ObjOk P w H h a o
end

section
variable {P : Program} {w : World} {H H' : Hp} {h h' : Heap} {a : Addr} {o : HO}
theorem ObjOk.lt (x : ObjOk P w H h a o) : a < h.objs.size := by
  cases o with
  | lst xs => obtain ⟨_, _, _, _, e⟩ := x; exact Heap.lt_size e
  | tup xs => obtain ⟨_, _, _, p⟩ := x; exact p.lt
  | dK kvs => obtain ⟨_, _, _, _, o, _, _, e, _⟩ := x; exact Heap.lt_size e
  | dT kvs => obtain ⟨_, _, _, _, o, _, _, e, _⟩ := x; exact Heap.lt_size e
  | set S n => obtain ⟨o, _, _, _, e, _⟩ := x; exact Heap.lt_size e
  | ins C dx fs => obtain ⟨_, _, _, e, _⟩ := x; exact Heap.lt_size e
  | own y => obtain ⟨_, e⟩ := x; exact Heap.lt_size e
  | xd fs => obtain ⟨_, ⟨_, _, _, e, _⟩, _⟩ := x; exact Heap.lt_size e
  | rng lo hi => obtain ⟨_, _, _, e⟩ := x; exact Heap.lt_size e
  | frz ob u => obtain ⟨e, _⟩ := x; exact Heap.lt_size e
  | tbl ps => exact Heap.lt_size (show h.get? a = some _ from x)
  | met f y => exact Heap.lt_size (show h.get? a = some _ from x)
  | ext φ => obtain ⟨_, ⟨_, e⟩, _⟩ := x; exact Heap.lt_size e
theorem Paired.mapP {α β : Type} {F G : α → β → Prop} : ∀ {l₁ : List α} {l₂ : List β}, Paired F l₁ l₂ → (∀ a b, F a b → G a b) → Paired G l₁ l₂
  | _, _, .nil, _ => .nil
  | _, _, .cons r t, f => .cons (f _ _ r) (Paired.mapP t f)
/-- what an object's description leans on: its own object, its own dict, the tuples -/
theorem ObjOk.stay (x : ObjOk P w H h a o) (k : ∀ b u, (b = a ∨ H b = some (.own a)) → h.get? b = some u → h'.get? b = some u)
    (ho : ∀ b, H b = some (.own a) → H' b = some (.own a)) (ht : ∀ b xs, H b = some (.tup xs) → H' b = some (.tup xs)) : ObjOk P w H' h' a o := by
  induction o with
  | lst xs => obtain ⟨z, its, n, r, e⟩ := x; exact ⟨z, its, n, r, k _ _ (.inl rfl) e⟩
  | tup xs => obtain ⟨z, its, r, ob, e, c⟩ := x; exact ⟨z, its, r, ob, k _ _ (.inl rfl) e, c⟩
  | dK kvs => obtain ⟨z, y, vs, r, ob, es, ep, e, c⟩ := x; exact ⟨z, y, vs, r, ob, es, ep, k _ _ (.inl rfl) e, c⟩
  | dT kvs =>
    obtain ⟨z, y, xs, r, ob, es, ep, e, c⟩ := x
    exact ⟨z, y, xs, Paired.mapP r fun p q z => ⟨z.1, ht _ _ z.2.1, z.2.2⟩, ob, es, ep, k _ _ (.inl rfl) e, c⟩
  | set S n => obtain ⟨ob, es, ep, t, e, c⟩ := x; exact ⟨ob, es, ep, t, k _ _ (.inl rfl) e, c⟩
  | ins C dx fs =>
    obtain ⟨d, z, ne, e, mA, ⟨od, es, ep, e2, c⟩, r⟩ := x
    exact ⟨ho _ d, z, ne, k _ _ (.inl rfl) e, mA, ⟨od, es, ep, k _ _ (.inr d) e2, c⟩, r⟩
  | own y => obtain ⟨ob, e⟩ := x; exact ⟨ob, k _ _ (.inl rfl) e⟩
  | xd fs => obtain ⟨mA, ⟨od, es, ep, e, c⟩, r⟩ := x; exact ⟨mA, ⟨od, es, ep, k _ _ (.inl rfl) e, c⟩, r⟩
  | rng lo hi => obtain ⟨t, u, v, e⟩ := x; exact ⟨t, u, v, k _ _ (.inl rfl) e⟩
  | frz ob u ih => obtain ⟨e, q⟩ := x; exact ⟨k _ _ (.inl rfl) e, ih q⟩
  | tbl ps =>
    have e : h.get? a = some { cls := .none, data := .fields ps } := x
    show h'.get? a = some { cls := .none, data := .fields ps }
    exact k a _ (.inl rfl) e
  | met f y =>
    have e : h.get? a = some (PySem.W.methodObj (.ref f) (.ref y)) := x
    show h'.get? a = some (PySem.W.methodObj (.ref f) (.ref y))
    exact k a _ (.inl rfl) e
  | ext φ => obtain ⟨p, ⟨o, e⟩, st⟩ := x; exact ⟨st _ _ p fun o q => k _ _ (.inl rfl) q, ⟨o, k _ _ (.inl rfl) e⟩, st⟩
theorem HOk.lt (x : HOk P w H h) (e : H a = some o) : a < h.objs.size := (x a o e).lt
theorem HOk.fresh (x : HOk P w H h) (e : h.objs.size ≤ a) : H a = none := by
  cases q : H a with
  | none => rfl
  | some u => exact absurd (Nat.lt_of_lt_of_le (x.lt q) e) (Nat.lt_irrefl _)
/-- every object of the heap is kept -/
theorem HOk.kept (x : HOk P w H h) (k : ∀ b u, h.get? b = some u → h'.get? b = some u) : HOk P w H h' := fun a o e =>
  (x a o e).stay (fun b u _ q => k b u q) (fun _ q => q) fun _ _ q => q
/-- a new object is laid and tracked -/
theorem HOk.laid (x : HOk P w H h) (k : ∀ b u, h.get? b = some u → h'.get? b = some u) (hp : h.objs.size ≤ a) (new : ObjOk P w (upd H a o) h' a o) : HOk P w (upd H a o) h' := fun b u e => by
  have hn := x.fresh hp
  by_cases hb : b = a
  · subst hb; rw [upd_same] at e; cases e; exact new
  · rw [upd_ne hb] at e
    exact (x b u e).stay (fun c v _ q => k c v q) (fun c q => by rw [upd_ne (ne_of_none q hn)]; exact q) fun c xs q => by rw [upd_ne (ne_of_none q hn)]; exact q
end

/-- what may be read as u: it is u, or a known u -/
noncomputable def Rd (H : Hp) (a : Addr) (u : HO) : Prop := H a = some u ∨ ∃ o, H a = some (.frz o u)
theorem Rd.of {H : Hp} {a : Addr} {u : HO} (h : H a = some u) : Rd H a u := .inl h
theorem Rd.ok {P : Program} {w : World} {H : Hp} {h : Heap} {a : Addr} {u : HO} (r : Rd H a u) (x : HOk P w H h) : ObjOk P w H h a u := by
  rcases r with r | ⟨o, r⟩
  · exact x a u r
  · obtain ⟨_, q⟩ := x a _ r
    exact q
/-- what may be written -/
noncomputable def Mut : Option HO → Prop
  | some (.lst _) => True
  | some (.dK _) => True
  | some (.dT _) => True
  | some (.set _ _) => True
  | some (.ins _ _ _) => True
  | some (.ext _) => True
  | _ => False
section
variable {P : Program} {w : World} {H : Hp} {h h' : Heap} {x e : Addr} {o' : HO}
/-- the object at e is changed: x itself, or the dict of the instance x -/
theorem HOk.write (ok : HOk P w H h) (mu : Mut (H x)) (he : e = x ∨ H e = some (.own x)) (k : ∀ b u, b ≠ e → h.get? b = some u → h'.get? b = some u) (heo : ∃ u, h'.get? e = some u)
    (new : ObjOk P w (upd H x o') h' x o') : HOk P w (upd H x o') h' := fun b u q => by
  have nown : ∀ c y, H c = some (.own y) → c ≠ x := fun c y r z => by subst z; rw [r] at mu; exact mu
  have ntup : ∀ c xs, H c = some (.tup xs) → c ≠ x := fun c xs r z => by subst z; rw [r] at mu; exact mu
  by_cases hb : b = x
  · subst hb; rw [upd_same] at q; cases q; exact new
  · rw [upd_ne hb] at q
    by_cases hbe : b = e
    · have q' : H b = some (.own x) := by
        rcases he with z | z
        · exact absurd (hbe.trans z) hb
        · rw [hbe]; exact z
      rw [q] at q'; cases q'
      obtain ⟨v, hv⟩ := heo
      exact ⟨v, by rw [hbe]; exact hv⟩
    · refine (ok b u q).stay (fun c v hc r => k c v ?_ r) (fun c r => by rw [upd_ne (nown c b r)]; exact r) fun c xs r => by rw [upd_ne (ntup c xs r)]; exact r
      rcases hc with rfl | hc
      · exact hbe
      · rintro rfl
        rcases he with z | z
        · exact nown c b hc z
        · rw [hc] at z; cases z; exact hb rfl
end

/-! ### kept unless tracked; of the frames at fs (the callers') the slots may change (an exception that passes writes there); of the records at ex (iterators) nothing is said -/
structure Un (fs ex : List Addr) (H H' : Hp) (h h' : Heap) : Prop where
  keep : ∀ b o, h.get? b = some o → H b = none → b ∉ fs → b ∉ ex → h'.get? b = some o
  slot : ∀ b o, h.get? b = some o → H b = none → b ∈ fs → b ∉ ex → ∃ sl, h'.get? b = some { o with slots := sl }
  free : ∀ b o, h.get? b = some o → H b = none → b ∉ ex → H' b = none
  there : ∀ b o, h.get? b = some o → b ∉ ex → ∃ o', h'.get? b = some o'
  tups : ∀ b xs, H b = some (.tup xs) → H' b = some (.tup xs)
  frzs : ∀ b o u, H b = some (.frz o u) → H' b = some (.frz o u)
  tbls : ∀ b ps, H b = some (.tbl ps) → ∃ more, H' b = some (.tbl (ps ++ more))
section
variable {fs fs' ex ex' : List Addr} {H H1 H2 : Hp} {h h1 h2 h' : Heap} {a x e : Addr} {o : HO}
theorem Un.any (u : Un fs ex H H1 h h1) {b : Addr} {ob : Obj} (q : h.get? b = some ob) (n : H b = none) (hx : b ∉ ex) : ∃ sl, h1.get? b = some { ob with slots := sl } := by
  by_cases hb : b ∈ fs
  · exact u.slot b ob q n hb hx
  · exact ⟨ob.slots, u.keep b ob q n hb hx⟩
theorem Un.trans (a : Un fs ex H H1 h h1) (b : Un fs ex H1 H2 h1 h2) : Un fs ex H H2 h h2 where
  keep := fun c ob q n hc hx => b.keep c ob (a.keep c ob q n hc hx) (a.free c ob q n hx) hc hx
  slot := fun c ob q n hc hx => by
    obtain ⟨sl, e1⟩ := a.slot c ob q n hc hx
    obtain ⟨sl', e2⟩ := b.slot c _ e1 (a.free c ob q n hx) hc hx
    exact ⟨sl', e2⟩
  free := fun c ob q n hx => by
    obtain ⟨o', e1⟩ := a.there c ob q hx
    exact b.free c o' e1 (a.free c ob q n hx) hx
  there := fun c ob q hx => by
    obtain ⟨o', e1⟩ := a.there c ob q hx
    exact b.there c o' e1 hx
  tups := fun c xs q => b.tups c xs (a.tups c xs q)
  frzs := fun c ob xs q => b.frzs c ob xs (a.frzs c ob xs q)
  tbls := fun c ps q => by
    obtain ⟨m1, e1⟩ := a.tbls c ps q
    obtain ⟨m2, e2⟩ := b.tbls c _ e1
    exact ⟨m1 ++ m2, by rw [e2, Array.append_assoc]⟩
theorem Un.kept (k : ∀ b u, h.get? b = some u → h'.get? b = some u) : Un fs ex H H h h' :=
  ⟨fun b ob q _ _ _ => k b ob q, fun b ob q _ _ _ => ⟨ob.slots, k b ob q⟩, fun _ _ _ n _ => n, fun b ob q _ => ⟨ob, k b ob q⟩, fun _ _ q => q, fun _ _ _ q => q, fun _ ps q => ⟨#[], by rw [q]; simp⟩⟩
theorem Un.refl : Un fs ex H H h h := Un.kept fun _ _ q => q
theorem Un.laid (k : ∀ b u, h.get? b = some u → h'.get? b = some u) (hp : h.objs.size ≤ a) (hn : H a = none) : Un fs ex H (upd H a o) h h' where
  keep := fun b u q _ _ _ => k b u q
  slot := fun b u q _ _ _ => ⟨u.slots, k b u q⟩
  free := fun b u q n _ => by rw [upd_ne (Nat.ne_of_lt (Nat.lt_of_lt_of_le (Heap.lt_size q) hp))]; exact n
  there := fun b u q _ => ⟨u, k b u q⟩
  tups := fun b xs q => by rw [upd_ne (ne_of_none q hn)]; exact q
  frzs := fun b u xs q => by rw [upd_ne (ne_of_none q hn)]; exact q
  tbls := fun b ps q => ⟨#[], by rw [upd_ne (ne_of_none q hn), q]; simp⟩
theorem Un.write (mu : Mut (H x)) (he : e = x ∨ H e = some (.own x)) (k : ∀ b u, b ≠ e → h.get? b = some u → h'.get? b = some u) (heo : ∃ u, h'.get? e = some u) : Un fs ex H (upd H x o) h h' := by
  have hx : ∀ b, H b = none → b ≠ x := fun b n z => by subst z; rw [n] at mu; exact mu
  have hb : ∀ b, H b = none → b ≠ e := fun b n z => by
    subst z
    rcases he with r | r
    · exact hx b n r
    · rw [n] at r; cases r
  have hm : ∀ b u, H b = some u → ¬ Mut (some u) → b ≠ x := fun b u q nm z => by subst z; rw [q] at mu; exact nm mu
  refine ⟨fun b u q n _ _ => k b u (hb b n) q, fun b u q n _ _ => ⟨u.slots, k b u (hb b n) q⟩, fun b u q n _ => by rw [upd_ne (hx b n)]; exact n, fun b u q _ => ?_,
    fun b xs q => by rw [upd_ne (hm b _ q fun z => z)]; exact q, fun b u xs q => by rw [upd_ne (hm b _ q fun z => z)]; exact q, fun b ps q => ⟨#[], by rw [upd_ne (hm b _ q fun z => z), q]; simp⟩⟩
  by_cases hbe : b = e
  · subst hbe; exact heo
  · exact ⟨u, k b u hbe q⟩
theorem Un.mono (u : Un fs ex H H1 h h1) (hs : ∀ b ∈ fs, b ∈ fs') (hx : ∀ b ∈ ex, b ∈ ex') : Un fs' ex' H H1 h h1 :=
  ⟨fun b ob q n hb he => u.keep b ob q n (fun z => hb (hs b z)) fun z => he (hx b z), fun _ _ q n _ he => u.any q n fun z => he (hx _ z), fun b ob q n he => u.free b ob q n fun z => he (hx b z), fun b ob q he => u.there b ob q fun z => he (hx b z), u.tups, u.frzs, u.tbls⟩
end

/-! ### the heap without what is tracked -/
noncomputable def trk (h : Heap) (H : Hp) : List Addr := (List.range h.objs.size).filter fun a => (H a).isSome
noncomputable def hidT (h : Heap) (H : Hp) : Heap := PySem.W.hideAll h (trk h H)
theorem hidT_size (h : Heap) (H : Hp) : (hidT h H).objs.size = h.objs.size := PySem.W.hideAll_size _ _
theorem hidT_get {h : Heap} {H : Hp} {b : Addr} {o : Obj} (e : h.get? b = some o) (n : H b = none) : (hidT h H).get? b = some o :=
  PySem.W.hideAll_get _ e fun hm => by
    have q : (H b).isSome = true := (List.mem_filter.mp hm).2
    rw [n] at q; simp at q
theorem of_hidT {h : Heap} {H : Hp} {b : Addr} {o : Obj} (e : (hidT h H).get? b = some o) : h.get? b = some o ∧ H b = none := by
  have e' : h.get? b = some o := PySem.W.of_hideAll (trk h H) e
  refine ⟨e', ?_⟩
  cases q : H b with
  | none => rfl
  | some x =>
    have hm : b ∈ trk h H := List.mem_filter.mpr ⟨List.mem_range.mpr (Heap.lt_size e'), by simp [q]⟩
    have z : (hidT h H).get? b = none := PySem.W.hideAll_none (trk h H) hm
    rw [z] at e; cases e

/-! ### OpenK's ledger, filled with every new object but one -/
noncomputable def allNews (g h : Heap) (L : Addr) : List (Addr × Obj) := (List.range h.objs.size).filterMap fun a => if a = L ∨ (g.get? a).isSome = true then none else (h.get? a).map fun o => (a, o)
noncomputable def rest (g h : Heap) (L d : Addr) : List (Addr × Obj) := (allNews g h L).filter fun p => decide (p.1 ≠ d)
end L2

namespace L2
open PySem PySem.Spec PyProof.Rows

/-- the module's facts, over the base: the heap at the law's entry without what is tracked there -/
structure Mod (K : PySem.W.Frag) (mg : Str → Option Value) (base : Heap) : Prop where
  kin : K.In base
  glob : base.Ns mainGlobals mg
  blt : ∃ mb, base.Ns builtinsNs mb ∧ ∀ x : Str, x ≠ "__name__" → mb x = bootBuiltins x
  nolimit : base.NoLimit

/-- the context: a def's body (or a comprehension's block) running. base: fixed through the whole law; s₀, H₀: the entry; outer: the frames whose slots others may change (a def's callers); stack: all frames that run;
   ex: iterators that were made ahead of the entry and are walked here (a comprehension's); fn: the names whose cells were made at the entry (a def: all; a comprehension's block: its own); calm: not within an except suite; pn: pins that every state bears; xe: what is wanted of an exception that leaves the code -/
structure Cx where
  prog : Program
  w : World
  K : PySem.W.Frag
  mg : Str → Option Value
  base : Heap
  A : Around
  N : List Str
  s₀ : Shared
  H₀ : Hp
  env : Env
  outer : List Env
  stack : List Env
  ex : List Addr
  fn : Str → Bool
  calm : Bool
  pn : List (Addr × Obj)
  xe : Value → Shared → Prop
/-- the callers' frames -/
def frs (l : List Env) : List Addr := l.filterMap (·.frame)
abbrev Cx.fs (X : Cx) : List Addr := frs X.outer

noncomputable def Vis (sc : Scope) (x : Str) : Prop := sc.names.lookup x = some .local ∨ sc.names.lookup x = some .cell ∨ sc.names.lookup x = some .free
noncomputable def Loc (sc : Scope) (x : Str) : Prop := sc.names.lookup x = some .local ∨ sc.names.lookup x = some .cell
noncomputable def Look (env : Env) (h : Heap) (m : Str → Option Value) (x : Str) (u : Value) : Prop :=
  (env.kindOf x = some .local ∧ m x = some u) ∨ ((env.kindOf x = some .cell ∨ env.kindOf x = some .free) ∧ ∃ c, env.cells.lookup x = some c ∧ h.IsCell c (some u))

structure Cx.Ok (X : Cx) : Prop where
  mod : Mod X.K X.mg X.base
  kind : X.env.scope.kind = .function
  glob : X.env.globals = mainGlobals
  blt : X.env.builtins = builtinsNs
  above : X.s₀.heap.objs.size ≤ X.env.locals
  inj : ∀ x y c, X.env.cells.lookup x = some c → X.env.cells.lookup y = some c → x = y
  has : ∀ x, (X.env.kindOf x = some .cell ∨ X.env.kindOf x = some .free) → ∃ c, X.env.cells.lookup x = some c
  cab : ∀ x c, X.fn x = true → X.env.cells.lookup x = some c → X.s₀.heap.objs.size ≤ c
  hd : X.calm = true → X.A.handled = none
  frames : X.A.frames = some X.stack
  stk : X.stack = X.outer ∨ (X.stack = X.env :: X.outer ∧ X.env.frame = some X.env.locals)
  exf : ∀ b ∈ X.ex, b ≠ X.env.locals ∧ ∀ x c, X.env.cells.lookup x = some c → c ≠ b
  bs : ∀ b o, X.base.get? b = some o → X.s₀.heap.get? b = some o ∧ X.H₀ b = none
  bsz : X.base.objs.size ≤ X.s₀.heap.objs.size
  noex : ∀ b o, X.base.get? b = some o → b ∉ X.ex
  exfs : ∀ b ∈ X.ex, b ∉ X.fs
  funs : X.s₀.heap.FunFrames X.base X.outer
  frf : ∀ b ∈ X.fs, X.H₀ b = none

structure Inv (X : Cx) (pins : List (Addr × Obj)) (σ : List (Option V)) (H : Hp) (s : Shared) : Prop where
  ok : X.Ok
  os : s.os = X.s₀.os
  bare : AllBare s.gens
  base : Un X.fs X.ex X.H₀ H X.s₀.heap s.heap
  loc : ∃ m, s.heap.Ns X.env.locals m ∧ ∀ (i : Nat) (x : Str) (v : V), X.N[i]? = some x → σ[i]? = some (some v) → Vis X.env.scope x → ∃ u, RelV v u ∧ Look X.env s.heap m x u
  cell : ∀ x c, X.env.cells.lookup x = some c → ∃ v, s.heap.IsCell c v
  free : H X.env.locals = none
  freeC : ∀ x c, X.env.cells.lookup x = some c → H c = none
  pin : ∀ p ∈ X.pn ++ pins, s.heap.get? p.1 = some p.2 ∧ H p.1 = none ∧ p.1 ≠ X.env.locals ∧ p.1 ∉ X.fs ∧ ∀ v, p.2.data ≠ .cell v
  hok : HOk X.prog X.w H s.heap
  len : σ.length = X.N.length

section
variable {X : Cx} {pins : List (Addr × Obj)} {σ : List (Option V)} {H H' : Hp} {s : Shared} {h' : Heap}

theorem Cx.Ok.nofr (ok : X.Ok) {b : Addr} {o : Obj} (e : X.base.get? b = some o) : b ∉ X.fs := fun hb => by
  have := (ok.funs.mem hb).1
  rw [e] at this; cases this
theorem Inv.bs (I : Inv X pins σ H s) : ∀ b o, X.base.get? b = some o → s.heap.get? b = some o ∧ H b = none := fun b o e =>
  ⟨I.base.keep b o (I.ok.bs b o e).1 (I.ok.bs b o e).2 (I.ok.nofr e) (I.ok.noex b o e), I.base.free b o (I.ok.bs b o e).1 (I.ok.bs b o e).2 (I.ok.noex b o e)⟩
theorem Inv.bk (I : Inv X pins σ H s) : ∀ b o, X.base.get? b = some o → s.heap.get? b = some o := fun b o e => (I.bs b o e).1
theorem Inv.mod (I : Inv X pins σ H s) : Mod X.K X.mg X.base := I.ok.mod
theorem Inv.kIn (I : Inv X pins σ H s) : X.K.In s.heap := I.ok.mod.kin.keeps I.bk
theorem Inv.nolimit (I : Inv X pins σ H s) : s.heap.NoLimit := I.ok.mod.nolimit.keeps I.bk
/-- the frame over the base: for OpenK's rules (K.In X.base is I.mod.kin) -/
theorem Inv.fr (I : Inv X pins σ H s) : ∃ m, Fr X.base X.env.locals s.heap m :=
  let ⟨m, hn, _⟩ := I.loc
  ⟨m, hn, I.bk, Nat.le_trans I.ok.bsz I.ok.above⟩
theorem Inv.lt (I : Inv X pins σ H s) : X.env.locals < s.heap.objs.size := let ⟨_, hn, _⟩ := I.loc; hn.lt
theorem Inv.sz (I : Inv X pins σ H s) : X.s₀.heap.objs.size ≤ s.heap.objs.size := Nat.le_trans I.ok.above (Nat.le_of_lt I.lt)
theorem Inv.nofs (I : Inv X pins σ H s) {a : Addr} (h : s.heap.objs.size ≤ a) : a ∉ X.fs := fun hb => by
  obtain ⟨_, o, ho, _⟩ := I.ok.funs.mem hb
  exact absurd (Nat.lt_of_lt_of_le (Heap.lt_size ho) (Nat.le_trans I.sz h)) (Nat.lt_irrefl _)
theorem Inv.cne (I : Inv X pins σ H s) : ∀ x c, X.env.cells.lookup x = some c → c ≠ X.env.locals := fun x c e z => by
  obtain ⟨v, o, ho, hd⟩ := I.cell x c e
  obtain ⟨m, ⟨o', es, ep, ho', hd', _⟩, _⟩ := I.loc
  rw [z, ho'] at ho; cases ho; rw [hd'] at hd; cases hd
theorem Inv.funs (I : Inv X pins σ H s) : s.heap.FunFrames X.base X.outer := by
  have all : ∀ (l : List Env), (∀ b ∈ frs l, b ∈ X.fs) → X.s₀.heap.FunFrames X.base l → s.heap.FunFrames X.base l := by
    intro l
    induction l with
    | nil => intro _ _; trivial
    | cons env r ih =>
      intro hs hl
      obtain ⟨hk, ⟨L, o, hf, hn, ho, hd⟩, hr⟩ := hl
      have hL : L ∈ X.fs := hs L (by unfold frs; rw [List.filterMap_cons, hf]; exact List.mem_cons_self)
      obtain ⟨sl, e⟩ := I.base.slot L o ho (I.ok.frf L hL) hL fun z => I.ok.exfs L z hL
      exact ⟨hk, ⟨L, _, hf, hn, e, hd⟩, ih (fun b hb => hs b (by unfold frs; rw [List.filterMap_cons, hf]; exact List.mem_cons_of_mem _ hb)) hr⟩
  exact all X.outer (fun _ hb => hb) I.ok.funs

/-- the frames that run, for a call -/
theorem Inv.stack (I : Inv X pins σ H s) : s.heap.FunFrames X.base X.stack := by
  rcases I.ok.stk with e | ⟨e, hf⟩
  · rw [e]; exact I.funs
  · rw [e]
    obtain ⟨m, hn, _⟩ := I.loc
    refine .cons (by rw [I.ok.kind]; decide) hf hn ?_ I.funs
    exact Heap.get?_none_of_le (Nat.le_trans I.ok.bsz I.ok.above)
theorem Inv.stkSub (I : Inv X pins σ H s) : ∀ b ∈ frs X.stack, b ∈ X.env.locals :: X.fs := fun b hb => by
  rcases I.ok.stk with e | ⟨e, hf⟩
  · rw [e] at hb; exact List.mem_cons_of_mem _ hb
  · rw [e] at hb
    unfold frs at hb
    rw [List.filterMap_cons, hf] at hb
    exact hb
theorem Inv.stkFree (I : Inv X pins σ H s) : ∀ b ∈ frs X.stack, H b = none := fun b hb => by
  rcases List.mem_cons.mp (I.stkSub b hb) with e | hb
  · rw [e]; exact I.free
  · obtain ⟨_, o, ho, _⟩ := I.ok.funs.mem hb
    exact I.base.free b o ho (I.ok.frf b hb) fun z => I.ok.exfs b z hb

/-- THE STEP: the untracked objects but the frame and the records at ch are kept (the callers' frames up to slots), the frame's map is kept, the new abstract heap is held -/
theorem Inv.step {g' : Array GenState} {t' : Nat} {d' : Drawn} {ch : List Addr} (I : Inv X pins σ H s)
    (hch : ∀ b ∈ ch, (b ∈ X.ex ∨ X.s₀.heap.objs.size ≤ b) ∧ b ≠ X.env.locals ∧ (∀ x c, X.env.cells.lookup x = some c → c ≠ b) ∧ ∀ p ∈ X.pn ++ pins, p.1 ≠ b)
    (keep : ∀ b o, b ≠ X.env.locals → b ∉ X.fs → b ∉ ch → s.heap.get? b = some o → H b = none → h'.get? b = some o)
    (slot : ∀ b o, b ≠ X.env.locals → b ∈ X.fs → b ∉ ch → s.heap.get? b = some o → H b = none → ∃ sl, h'.get? b = some { o with slots := sl }) (free : ∀ b o, b ∉ ch → s.heap.get? b = some o → H b = none → H' b = none)
    (there : ∀ b o, b ∉ ch → s.heap.get? b = some o → ∃ o', h'.get? b = some o')
    (tups : ∀ b xs, H b = some (.tup xs) → H' b = some (.tup xs)) (frzs : ∀ b o u, H b = some (.frz o u) → H' b = some (.frz o u)) (tbls : ∀ b ps, H b = some (.tbl ps) → ∃ more, H' b = some (.tbl (ps ++ more)))
    (ns : ∀ m, s.heap.Ns X.env.locals m → h'.Ns X.env.locals m) (hok : HOk X.prog X.w H' h') (hg : AllBare g') :
    Inv X pins σ H' { s with heap := h', gens := g', drawn := d', toks := t' } := by
  have neL : ∀ b o, X.s₀.heap.get? b = some o → b ≠ X.env.locals := fun b o e => Nat.ne_of_lt (Nat.lt_of_lt_of_le (Heap.lt_size e) I.ok.above)
  have neC : ∀ b o, X.s₀.heap.get? b = some o → b ∉ X.ex → b ∉ ch := fun b o e hx hb => by
    rcases (hch b hb).1 with z | z
    · exact hx z
    · exact absurd (Nat.lt_of_lt_of_le (Heap.lt_size e) z) (Nat.lt_irrefl _)
  have cellK : ∀ x c, X.env.cells.lookup x = some c → ∀ v, s.heap.IsCell c v → h'.IsCell c v := fun x c e v ⟨o, ho, hd⟩ => by
    have nch : c ∉ ch := fun z => (hch c z).2.2.1 x c e rfl
    by_cases hc : c ∈ X.fs
    · obtain ⟨sl, q⟩ := slot c o (I.cne x c e) hc nch ho (I.freeC x c e)
      exact ⟨_, q, hd⟩
    · exact ⟨o, keep c o (I.cne x c e) hc nch ho (I.freeC x c e), hd⟩
  refine ⟨I.ok, I.os, hg, ⟨fun b o e n hb hx => ?_, fun b o e n hb hx => ?_, fun b o e n hx => ?_, fun b o e hx => ?_, fun b xs e => tups b xs (I.base.tups b xs e), fun b o xs e => frzs b o xs (I.base.frzs b o xs e), fun b ps e => ?_⟩, ?_, fun x c e => ?_, ?_, fun x c e => ?_, fun p hp => ?_, hok, I.len⟩
  · exact keep b o (neL b o e) hb (neC b o e hx) (I.base.keep b o e n hb hx) (I.base.free b o e n hx)
  · obtain ⟨sl, e1⟩ := I.base.slot b o e n hb hx
    obtain ⟨sl', e2⟩ := slot b _ (neL b o e) hb (neC b o e hx) e1 (I.base.free b o e n hx)
    exact ⟨sl', e2⟩
  · obtain ⟨o', e1⟩ := I.base.there b o e hx
    exact free b o' (neC b o e hx) e1 (I.base.free b o e n hx)
  · obtain ⟨o', e1⟩ := I.base.there b o e hx
    exact there b o' (neC b o e hx) e1
  · obtain ⟨m1, e1⟩ := I.base.tbls b ps e
    obtain ⟨m2, e2⟩ := tbls b _ e1
    exact ⟨m1 ++ m2, by rw [e2, Array.append_assoc]⟩
  · obtain ⟨m, hn, hl⟩ := I.loc
    refine ⟨m, ns m hn, fun i x v e1 e2 e3 => ?_⟩
    obtain ⟨u, r, l⟩ := hl i x v e1 e2 e3
    refine ⟨u, r, ?_⟩
    rcases l with l | ⟨k, c, e, z⟩
    · exact .inl l
    · exact .inr ⟨k, c, e, cellK x c e _ z⟩
  · obtain ⟨v, z⟩ := I.cell x c e
    exact ⟨v, cellK x c e v z⟩
  · obtain ⟨m, ⟨o, _, _, ho, _⟩, _⟩ := I.loc
    exact free _ o (fun z => (hch _ z).2.1 rfl) ho I.free
  · obtain ⟨v, o, ho, hd⟩ := I.cell x c e
    exact free c o (fun z => (hch c z).2.2.1 x c e rfl) ho (I.freeC x c e)
  · obtain ⟨e, n, ne, nf, d⟩ := I.pin p hp
    have nch : p.1 ∉ ch := fun z => (hch p.1 z).2.2.2 p hp rfl
    exact ⟨keep p.1 p.2 ne nf nch e n, free p.1 p.2 nch e n, ne, nf, d⟩
/-- .. where the frame's own object is kept too -/
theorem Inv.un {t' : Nat} (I : Inv X pins σ H s) (u : Un X.fs [] H H' s.heap h') (hok : HOk X.prog X.w H' h') : Inv X pins σ H' { s with heap := h', toks := t' } := by
  obtain ⟨m, ⟨o, es, ep, ho, r⟩, _⟩ := id I.loc
  obtain ⟨sl, hL⟩ := u.any ho I.free (by simp)
  exact I.step (g' := s.gens) (d' := s.drawn) (ch := []) (fun _ z => nomatch z) (fun b o _ hb _ e n => u.keep b o e n hb (by simp)) (fun b o _ hb _ e n => u.slot b o e n hb (by simp)) (fun b o _ e n => u.free b o e n (by simp)) (fun b o _ e => u.there b o e (by simp)) u.tups u.frzs u.tbls (fun m' hm => by
    obtain ⟨o', es', ep', ho', r'⟩ := hm
    rw [ho] at ho'; cases ho'
    exact ⟨_, es', ep', hL, r'⟩) hok I.bare
/-- behind a call (or a comprehension's block): the slots of this frame may have changed too, the records at ch may have turned -/
theorem Inv.call {g' : Array GenState} {t' : Nat} {d' : Drawn} {ch : List Addr} (I : Inv X pins σ H s) (u : Un (frs X.stack) ch H H' s.heap h') (hok : HOk X.prog X.w H' h') (hg : AllBare g')
    (hch : ∀ b ∈ ch, (b ∈ X.ex ∨ X.s₀.heap.objs.size ≤ b) ∧ b ≠ X.env.locals ∧ (∀ x c, X.env.cells.lookup x = some c → c ≠ b) ∧ ∀ p ∈ X.pn ++ pins, p.1 ≠ b) :
    Inv X pins σ H' { s with heap := h', gens := g', drawn := d', toks := t' } := by
  obtain ⟨m, ⟨o, es, ep, ho, r⟩, _⟩ := id I.loc
  obtain ⟨sl, hL⟩ := u.any ho I.free fun z => (hch _ z).2.1 rfl
  exact I.step (ch := ch) hch (fun b o hL hb hc e n => u.keep b o e n (fun z => (List.mem_cons.mp (I.stkSub b z)).elim hL hb) hc) (fun b o _ _ hc e n => u.any e n hc) (fun b o hc e n => u.free b o e n hc) (fun b o hc e => u.there b o e hc) u.tups u.frzs u.tbls (fun m' hm => by
    obtain ⟨o', es', ep', ho', r'⟩ := hm
    rw [ho] at ho'; cases ho'
    exact ⟨_, es', ep', hL, r'⟩) hok hg
/-- an untracked record of ours (an iterator) has turned -/
theorem Inv.turned {t' : Nat} {it : Addr} (I : Inv X pins σ H s) (k : ∀ b o, b ≠ it → s.heap.get? b = some o → h'.get? b = some o) (hn : H it = none) (hL : it ≠ X.env.locals)
    (h1 : it ∈ X.ex ∨ X.s₀.heap.objs.size ≤ it) (h2 : ∀ x c, X.env.cells.lookup x = some c → c ≠ it) (h3 : ∀ p ∈ X.pn ++ pins, p.1 ≠ it) : Inv X pins σ H { s with heap := h', toks := t' } := by
  have nit : ∀ b u, H b = some u → b ≠ it := fun b u e z => by rw [z, hn] at e; cases e
  refine I.step (g' := s.gens) (d' := s.drawn) (ch := [it]) (fun b hb => ?_) (fun b o _ _ hc e _ => k b o (fun z => hc (by simp [z])) e) (fun b o _ _ hc e _ => ⟨o.slots, k b o (fun z => hc (by simp [z])) e⟩) (fun _ _ _ _ n => n)
    (fun b o hc e => ⟨o, k b o (fun z => hc (by simp [z])) e⟩) (fun _ _ e => e) (fun _ _ _ e => e) (fun b ps e => ⟨#[], by rw [e]; simp⟩) (fun m hm => ?_) (fun b u e => ?_) I.bare
  · have e : b = it := by simpa using hb
    subst e
    exact ⟨h1, hL, h2, h3⟩
  · obtain ⟨o, es, ep, ho, r⟩ := hm
    exact ⟨o, es, ep, k _ o (Ne.symm hL) ho, r⟩
  · refine (I.hok b u e).stay (fun c v hc q => k c v ?_ q) (fun _ q => q) fun _ _ q => q
    rcases hc with z | z
    · rw [z]; exact nit b u e
    · exact nit c _ z
theorem Inv.tok (I : Inv X pins σ H s) (t : Nat) : Inv X pins σ H { s with toks := t } := I.un (h' := s.heap) (t' := t) Un.refl I.hok
/-- all objects kept -/
theorem Inv.kept {t' : Nat} (I : Inv X pins σ H s) (k : ∀ b u, s.heap.get? b = some u → h'.get? b = some u) : Inv X pins σ H { s with heap := h', toks := t' } := I.un (Un.kept k) (I.hok.kept k)
/-- a new object laid and tracked -/
theorem Inv.laid {a : Addr} {o : HO} {t' : Nat} (I : Inv X pins σ H s) (k : ∀ b u, s.heap.get? b = some u → h'.get? b = some u) (hp : s.heap.objs.size ≤ a) (new : ObjOk X.prog X.w (upd H a o) h' a o) :
    Inv X pins σ (upd H a o) { s with heap := h', toks := t' } := I.un (Un.laid k hp (I.hok.fresh hp)) (I.hok.laid k hp new)
/-- an object written -/
theorem Inv.write {x e : Addr} {o : HO} {t' : Nat} (I : Inv X pins σ H s) (mu : Mut (H x)) (he : e = x ∨ H e = some (.own x)) (k : ∀ b u, b ≠ e → s.heap.get? b = some u → h'.get? b = some u) (heo : ∃ u, h'.get? e = some u)
    (new : ObjOk X.prog X.w (upd H x o) h' x o) : Inv X pins σ (upd H x o) { s with heap := h', toks := t' } := I.un (Un.write mu he k heo) (I.hok.write mu he k heo new)
theorem Inv.pins_of {pins' : List (Addr × Obj)} (I : Inv X pins σ H s) (h : ∀ p ∈ pins', s.heap.get? p.1 = some p.2 ∧ H p.1 = none ∧ p.1 ≠ X.env.locals ∧ p.1 ∉ X.fs ∧ ∀ v, p.2.data ≠ .cell v) : Inv X pins' σ H s :=
  ⟨I.ok, I.os, I.bare, I.base, I.loc, I.cell, I.free, I.freeC, fun p hp => (List.mem_append.mp hp).elim (fun z => I.pin p (List.mem_append_left _ z)) (h p), I.hok, I.len⟩

theorem nodup_ix {N : List Str} (hN : N.Nodup) {i j : Nat} {x : Str} (a : N[i]? = some x) (b : N[j]? = some x) : i = j := by
  obtain ⟨h1, e1⟩ := List.getElem?_eq_some_iff.mp a
  obtain ⟨h2, e2⟩ := List.getElem?_eq_some_iff.mp b
  exact (List.getElem_inj hN).mp (e1.trans e2.symm)

/-- a name is stored; what changed -/
theorem store_ok2 {M : Model} {A : Around} {E : Value → Shared → Prop} {i : Nat} {x : Str} {v : V} {u : Value} {Q : Unit → Shared → Prop} (I : Inv X pins σ H s) (hN : X.N.Nodup) (hi : X.N[i]? = some x) (hx : Loc X.env.scope x) (r : RelV v u)
    (h : ∀ s', Inv X pins (σ.set i (some v)) H s' → (∃ a, Heap.SameBut a s.heap s'.heap ∧ (a = X.env.locals ∨ X.env.cells.lookup x = some a)) → Q () s') (hf : X.fn x = true ∨ X.env.scope.names.lookup x = some .local := by first | exact .inl rfl | exact .inr rfl | assumption) : wpAny M A (storeName X.env x u) Q E s := by
  obtain ⟨m, hn, hl⟩ := id I.loc
  have hcls : (X.env.scope.kind == .class || (X.env.scope.kind == .module && X.env.locals != X.env.globals)) = false := by rw [I.ok.kind]; rfl
  have hiσ : i < σ.length := by rw [I.len]; exact (List.getElem?_eq_some_iff.mp hi).1
  have cne := I.cne
  have tracked : ∀ {a : Addr} {h' : Heap}, (∃ o, s.heap.get? a = some o ∧ H a = none) → Heap.SameBut a s.heap h' → HOk X.prog X.w H h' := fun {a h'} ha hs b ob e => by
    obtain ⟨_, _, hfree⟩ := ha
    refine (I.hok b ob e).stay (fun c w' hc q => (hs.2 c ?_).trans q) (fun _ q => q) fun _ _ q => q
    rintro rfl
    rcases hc with rfl | hc
    · rw [hfree] at e; cases e
    · rw [hfree] at hc; cases hc
  rcases hx with hk | hk
  · refine wpAny_storeName_local hk hn (fun h' hn' hs => ?_) hcls
    obtain ⟨oL, _, _, hoL, _⟩ := id hn
    refine h _ ⟨I.ok, I.os, I.bare, ⟨fun b o e n hb hx => ?_, fun b o e n hb hx => ?_, I.base.free, fun b o e hx => ?_, I.base.tups, I.base.frzs, I.base.tbls⟩, ⟨_, hn', fun j y v' e1 e2 e3 => ?_⟩, fun y c e => ?_, I.free, I.freeC, fun p hp => ?_, tracked ⟨oL, hoL, I.free⟩ hs, by simpa using I.len⟩ ⟨_, hs, .inl rfl⟩
    · exact (hs.2 b (Nat.ne_of_lt (Nat.lt_of_lt_of_le (Heap.lt_size e) I.ok.above))).trans (I.base.keep b o e n hb hx)
    · obtain ⟨sl, e1⟩ := I.base.slot b o e n hb hx
      exact ⟨sl, (hs.2 b (Nat.ne_of_lt (Nat.lt_of_lt_of_le (Heap.lt_size e) I.ok.above))).trans e1⟩
    · obtain ⟨o', e1⟩ := I.base.there b o e hx
      exact ⟨o', (hs.2 b (Nat.ne_of_lt (Nat.lt_of_lt_of_le (Heap.lt_size e) I.ok.above))).trans e1⟩
    · by_cases hj : j = i
      · subst hj
        rw [hi] at e1; cases e1
        rw [List.getElem?_set_self hiσ] at e2
        cases e2
        exact ⟨u, r, .inl ⟨hk, by simp⟩⟩
      · rw [List.getElem?_set_ne (Ne.symm hj)] at e2
        obtain ⟨u', r', q⟩ := hl j y v' e1 e2 e3
        refine ⟨u', r', ?_⟩
        rcases q with ⟨k, e⟩ | ⟨k, c, e, z⟩
        · refine .inl ⟨k, ?_⟩
          have : y ≠ x := fun e => hj (nodup_ix hN e1 (e ▸ hi))
          simp [this, e]
        · exact .inr ⟨k, c, e, z.sameBut hs (cne y c e)⟩
    · obtain ⟨w', z⟩ := I.cell y c e
      exact ⟨w', z.sameBut hs (cne y c e)⟩
    · obtain ⟨e, n, ne, nf, d⟩ := I.pin p hp
      exact ⟨(hs.2 p.1 ne).trans e, n, ne, nf, d⟩
  · have hfn : X.fn x = true := by
      rcases hf with z | z
      · exact z
      · rw [z] at hk; cases hk
    obtain ⟨c, hc⟩ := I.ok.has x (.inl hk)
    obtain ⟨w', z⟩ := I.cell x c hc
    refine wpAny_storeName_cell I.ok.kind hk hc z (fun h' hc' hs => ?_)
    obtain ⟨oc, hoc, hocd⟩ := id z
    refine h { s with heap := h' } ⟨I.ok, I.os, I.bare, ⟨fun b o e n hb hx => ?_, fun b o e n hb hx => ?_, I.base.free, fun b o e hx => ?_, I.base.tups, I.base.frzs, I.base.tbls⟩, ⟨m, hn.sameBut hs (Ne.symm (cne x c hc)), fun j y v' e1 e2 e3 => ?_⟩, fun y c' e => ?_, I.free, I.freeC, fun p hp => ?_, tracked ⟨oc, hoc, I.freeC x c hc⟩ hs, by simpa using I.len⟩ ⟨c, hs, .inr hc⟩
    · exact (hs.2 b (Nat.ne_of_lt (Nat.lt_of_lt_of_le (Heap.lt_size e) (I.ok.cab x c hfn hc)))).trans (I.base.keep b o e n hb hx)
    · obtain ⟨sl, e1⟩ := I.base.slot b o e n hb hx
      exact ⟨sl, (hs.2 b (Nat.ne_of_lt (Nat.lt_of_lt_of_le (Heap.lt_size e) (I.ok.cab x c hfn hc)))).trans e1⟩
    · obtain ⟨o', e1⟩ := I.base.there b o e hx
      exact ⟨o', (hs.2 b (Nat.ne_of_lt (Nat.lt_of_lt_of_le (Heap.lt_size e) (I.ok.cab x c hfn hc)))).trans e1⟩
    · by_cases hj : j = i
      · subst hj
        rw [hi] at e1; cases e1
        rw [List.getElem?_set_self hiσ] at e2
        cases e2
        exact ⟨u, r, .inr ⟨.inl hk, c, hc, hc'⟩⟩
      · rw [List.getElem?_set_ne (Ne.symm hj)] at e2
        obtain ⟨u', r', q⟩ := hl j y v' e1 e2 e3
        refine ⟨u', r', ?_⟩
        rcases q with q | ⟨k, c', e, z'⟩
        · exact .inl q
        · refine .inr ⟨k, c', e, z'.sameBut hs ?_⟩
          rintro rfl
          exact hj (nodup_ix hN e1 (I.ok.inj _ _ _ e hc ▸ hi))
    · by_cases hcc : c' = c
      · subst hcc; exact ⟨_, hc'⟩
      · obtain ⟨w2, z2⟩ := I.cell y c' e
        exact ⟨w2, z2.sameBut hs hcc⟩
    · obtain ⟨e, n, ne, nf, d⟩ := I.pin p hp
      refine ⟨(hs.2 p.1 ?_).trans e, n, ne, nf, d⟩
      intro q
      rw [q, hoc] at e
      have q' : oc = p.2 := Option.some.inj e
      exact d w' (by rw [← q']; exact hocd)
theorem store_ok {M : Model} {A : Around} {E : Value → Shared → Prop} {i : Nat} {x : Str} {v : V} {u : Value} {Q : Unit → Shared → Prop} (I : Inv X pins σ H s) (hN : X.N.Nodup) (hi : X.N[i]? = some x) (hx : Loc X.env.scope x) (r : RelV v u)
    (h : ∀ s', Inv X pins (σ.set i (some v)) H s' → Q () s') (hf : X.fn x = true ∨ X.env.scope.names.lookup x = some .local := by first | exact .inl rfl | exact .inr rfl | assumption) : wpAny M A (storeName X.env x u) Q E s :=
  store_ok2 I hN hi hx r (fun s' I' _ => h s' I') hf
/-- behind a call or a block, the state as it is -/
theorem Inv.call' {s' : Shared} {ch : List Addr} (I : Inv X pins σ H s) (ho : s'.os = s.os) (u : Un (frs X.stack) ch H H' s.heap s'.heap) (hok : HOk X.prog X.w H' s'.heap) (hg : AllBare s'.gens)
    (hch : ∀ b ∈ ch, (b ∈ X.ex ∨ X.s₀.heap.objs.size ≤ b) ∧ b ≠ X.env.locals ∧ (∀ x c, X.env.cells.lookup x = some c → c ≠ b) ∧ ∀ p ∈ X.pn ++ pins, p.1 ≠ b) : Inv X pins σ H' s' := by
  obtain ⟨h', g', d', t', o'⟩ := s'
  have e : o' = s.os := ho
  subst e
  exact I.call (g' := g') (t' := t') (d' := d') u hok hg hch
end

/-! ### the judgements -/
/-- an exception: its class, its own dict's address (where it has one), the abstract heap behind it -/
abbrev XK := Value → Option Addr → Hp → Prop
abbrev St := List (Option V)
abbrev VK := V → Hp → Prop
/-- an expression's reading; a test's; an argument list's -/
abbrev TE := St → Hp → VK → Prop
abbrev TT := St → Hp → (Bool → Hp → Prop) → Prop
abbrev TA := St → Hp → (List V → Hp → Prop) → Prop
/-- what is wanted behind a statement -/
structure Ends where
  nx : St → Hp → Prop
  rt : VK
  bk : St → Hp → Prop := fun _ _ => False
  ct : St → Hp → Prop := fun _ _ => False
abbrev TS := Ends → St → Hp → Prop

noncomputable def EP (X : Cx) (pins : List (Addr × Obj)) (σ : St) (Q : VK) (u : Value) (s' : Shared) : Prop := ∃ v H', Inv X pins σ H' s' ∧ RelV v u ∧ Q v H'
noncomputable def TP (X : Cx) (pins : List (Addr × Obj)) (σ : St) (Q : Bool → Hp → Prop) (b : Bool) (s' : Shared) : Prop := ∃ H', Inv X pins σ H' s' ∧ Q b H'
noncomputable def AP (X : Cx) (pins : List (Addr × Obj)) (σ : St) (Q : List V → Hp → Prop) (us : List Value) (s' : Shared) : Prop := ∃ vs H', Inv X pins σ H' s' ∧ Vals vs us ∧ Q vs H'
noncomputable def SP (X : Cx) (pins : List (Addr × Obj)) (D : Ends) (f : Flow) (s' : Shared) : Prop :=
  match f with
  | .next => ∃ σ' H', Inv X pins σ' H' s' ∧ D.nx σ' H'
  | .brk => ∃ σ' H', Inv X pins σ' H' s' ∧ D.bk σ' H'
  | .cont => ∃ σ' H', Inv X pins σ' H' s' ∧ D.ct σ' H'
  | .ret u => ∃ v σ' H', Inv X pins σ' H' s' ∧ RelV v u ∧ D.rt v H'

noncomputable def PE (X : Cx) (e : Expr) (t : TE) : Prop :=
  ∀ (pins : List (Addr × Obj)) (s : Shared) (σ : St) (H : Hp) (Q : VK), Inv X pins σ H s → t σ H Q → wpAny (model X.prog X.w) X.A (eval e X.env) (EP X pins σ Q) X.xe s
noncomputable def PT (X : Cx) (e : Expr) (t : TT) : Prop :=
  ∀ (pins : List (Addr × Obj)) (s : Shared) (σ : St) (H : Hp) (Q : Bool → Hp → Prop), Inv X pins σ H s → t σ H Q → wpAny (model X.prog X.w) X.A (isTrue e X.env (eval e X.env)) (TP X pins σ Q) X.xe s
/-- a test whatever its 'whole' is (and, or) -/
noncomputable def PW (X : Cx) (e : Expr) (t : TT) : Prop :=
  ∀ (whole : Sem Value) (pins : List (Addr × Obj)) (s : Shared) (σ : St) (H : Hp) (Q : Bool → Hp → Prop), Inv X pins σ H s → t σ H Q → wpAny (model X.prog X.w) X.A (isTrue e X.env whole) (TP X pins σ Q) X.xe s
theorem PW.pt {X : Cx} {e : Expr} {t : TT} (h : PW X e t) : PT X e t := h _
/-- an argument list (no star), from the left -/
noncomputable def PA (X : Cx) (es : List Expr) (t : TA) : Prop :=
  ∀ (pos : Pos) (pins : List (Addr × Obj)) (s : Shared) (σ : St) (H : Hp) (Q : List V → Hp → Prop), Inv X pins σ H s → t σ H Q → wpAny (model X.prog X.w) X.A (spliced (backTo pos (starEach es X.env))) (AP X pins σ Q) X.xe s
noncomputable def PS (X : Cx) (st : Stmt) (t : TS) : Prop :=
  ∀ (pins : List (Addr × Obj)) (s : Shared) (σ : St) (H : Hp) (D : Ends), Inv X pins σ H s → t D σ H → wpAny (model X.prog X.w) X.A (exec st X.env) (SP X pins D) X.xe s
noncomputable def PSs (X : Cx) (st : List Stmt) (t : TS) : Prop :=
  ∀ (pins : List (Addr × Obj)) (s : Shared) (σ : St) (H : Hp) (D : Ends), Inv X pins σ H s → t D σ H → wpAny (model X.prog X.w) X.A (execs st X.env) (SP X pins D) X.xe s
/-- weaken the end -/
theorem thn {α : Type} {t : Sem α} {Q Q' : α → Shared → Prop} {M : Model} {A : Around} {E : Value → Shared → Prop} {s : Shared} (h : wpAny M A t Q E s) (hQ : ∀ a s, Q a s → Q' a s) : wpAny M A t Q' E s := wpAny_mono h hQ fun _ _ x => x
end L2

namespace L2
open PySem PySem.Spec PyProof.Rows
section
variable {X : Cx}

/-! ### names and constants -/
noncomputable def tVar (i : Nat) : TE := fun σ H Q => ∃ v, σ[i]? = some (some v) ∧ Q v H
noncomputable def tC (v : V) : TE := fun _ H Q => Q v H
theorem pe_var {i : Nat} {x : Str} {pos : Pos} (hN : X.N[i]? = some x) (hv : Vis X.env.scope x) (hd : (x == ("__debug__" : Str)) = false := by decide) (hcd : (x == ("__classdict__" : Str)) = false := by decide) : PE X (.Name x pos) (tVar i) := by
  intro pins s σ H Q I h
  obtain ⟨v, e, h⟩ := h
  obtain ⟨m, hn, hl⟩ := I.loc
  obtain ⟨u, r, l⟩ := hl i x v hN e hv
  have fin : EP X pins σ Q u s := ⟨v, H, I, r, h⟩
  rcases l with ⟨hk, hm⟩ | ⟨hk, c, hc, hcell⟩
  · exact wpAny_Name (wpAny_loadName_local I.ok.kind hk hn hm fin) hd
  · rcases hk with hk | hk
    · exact wpAny_Name (wpAny_loadName_cell I.ok.kind hk hc hcell fin) hd
    · exact wpAny_Name (wpAny_loadName_free I.ok.kind hk hc hcell fin hcd) hd
theorem pe_int {i j pos} : PE X (.Constant (.int i) j pos) (tC (.int i)) := fun _ _ _ H _ I h => wpAny_Constant_int ⟨.int i, H, I.tok _, ⟨_, rfl⟩, h⟩
theorem pe_bl {b j pos} : PE X (.Constant (.bool b) j pos) (tC (.bl b)) := fun _ _ _ H _ I h => Constant_bool ⟨.bl b, H, I, rfl, h⟩
theorem pe_non {j pos} : PE X (.Constant .none j pos) (tC .non) := fun _ _ _ H _ I h => Constant_none ⟨.non, H, I, rfl, h⟩
theorem pe_str {x j pos} : PE X (.Constant (.str x) j pos) (tC (.str x)) := fun _ _ _ H _ I h => Calls.Constant_str ⟨.str x, H, I.tok _, ⟨_, rfl⟩, h⟩

/-- a global name of the def -/
noncomputable def Gl (X : Cx) (x : Str) : Prop := X.env.kindOf x = some .globalImplicit
theorem ld_glob {E : Value → Shared → Prop} {pins : List (Addr × Obj)} {s : Shared} {σ : St} {H : Hp} {x : Str} {u : Value} {pos : Pos} {Q : Value → Shared → Prop} (I : Inv X pins σ H s) (hg : Gl X x) (hm : X.mg x = some u) (h : Q u s)
    (hd : (x == ("__debug__" : Str)) = false := by decide) : wpAny (model X.prog X.w) X.A (eval (.Name x pos) X.env) Q E s :=
  Calls.Name_function_global I.ok.kind hg (Calls.loadGlobal_global (by rw [I.ok.glob]; exact I.mod.glob.keeps I.bk) hm h) hd
theorem ld_blt {E : Value → Shared → Prop} {pins : List (Addr × Obj)} {s : Shared} {σ : St} {H : Hp} {x : Str} {u : Value} {pos : Pos} {Q : Value → Shared → Prop} (I : Inv X pins σ H s) (hg : Gl X x) (hm : X.mg x = none) (hv : bootBuiltins x = some u) (h : Q u s)
    (hn : x ≠ "__name__" := by decide) (hd : (x == ("__debug__" : Str)) = false := by decide) : wpAny (model X.prog X.w) X.A (eval (.Name x pos) X.env) Q E s := by
  obtain ⟨mb, h1, h2⟩ := I.mod.blt
  exact Calls.Name_function_global I.ok.kind hg (Calls.loadGlobal_builtin (by rw [I.ok.glob]; exact I.mod.glob.keeps I.bk) hm (by rw [I.ok.blt]; exact h1.keeps I.bk) ((h2 x hn).trans hv) h) hd
theorem pe_bltn {x : Str} {v : V} {u : Value} {pos : Pos} (hg : Gl X x) (hm : X.mg x = none) (hv : bootBuiltins x = some u) (r : RelV v u) (hn : x ≠ "__name__" := by decide) (hd : (x == ("__debug__" : Str)) = false := by decide) : PE X (.Name x pos) (tC v) :=
  fun _ _ _ H _ I h => ld_blt I hg hm hv ⟨v, H, I, r, h⟩ hn hd

/-! ### arithmetic -/
/-- two ints -/
noncomputable def t2I (ta tb : TE) (k : Int → Int → Hp → Prop) : St → Hp → Prop := fun σ H => ta σ H fun x H1 => tb σ H1 fun y H2 => ∃ i j, x = .int i ∧ y = .int j ∧ k i j H2
noncomputable def tAdd (ta tb : TE) : TE := fun σ H Q => t2I ta tb (fun i j H2 => Q (.int (i + j)) H2) σ H
noncomputable def tSub (ta tb : TE) : TE := fun σ H Q => t2I ta tb (fun i j H2 => Q (.int (i - j)) H2) σ H
/-- the left factor below 2^64 -/
noncomputable def tMul (ta tb : TE) : TE := fun σ H Q => t2I ta tb (fun i j H2 => (-(2 ^ 64) < i ∧ i < 2 ^ 64) ∧ Q (.int (i * j)) H2) σ H
variable {a b : Expr} {ta tb : TE} {pos : Pos}
/-! ### comparisons -/
noncomputable def PC (X : Cx) (op : CmpOp) (a b : Expr) (t : TE) : Prop :=
  ∀ (pins : List (Addr × Obj)) (s : Shared) (σ : St) (H : Hp) (Q : VK), Inv X pins σ H s → t σ H Q →
    wpAny (model X.prog X.w) X.A (eval a X.env) (fun v s₁ => wpAny (model X.prog X.w) X.A (eval b X.env) (fun u s₂ => wpAny (model X.prog X.w) X.A (compareOp op v u) (EP X pins σ Q) X.xe s₂) X.xe s₁) X.xe s
noncomputable def tCmp (p : Int → Int → Bool) (ta tb : TE) : TE := fun σ H Q => t2I ta tb (fun i j H2 => Q (.bl (p i j)) H2) σ H
abbrev tLt : TE → TE → TE := tCmp fun i j => decide (i < j)
abbrev tLe : TE → TE → TE := tCmp fun i j => decide (i ≤ j)
abbrev tGt : TE → TE → TE := tCmp fun i j => decide (j < i)
abbrev tGe : TE → TE → TE := tCmp fun i j => decide (j ≤ i)
abbrev tEqI : TE → TE → TE := tCmp fun i j => decide (i = j)
abbrev tNeI : TE → TE → TE := tCmp fun i j => !decide (i = j)
/-- is None -/
noncomputable def tIsN (ta : TE) : TE := fun σ H Q => ta σ H fun x H1 => Q (.bl (decide (x = .non))) H1
noncomputable def tNotN (ta : TE) : TE := fun σ H Q => ta σ H fun x H1 => Q (.bl (!decide (x = .non))) H1
/-- a comparison as a value, as a test -/
noncomputable def tB (t : TE) : TT := fun σ H Q => t σ H fun x H1 => ∃ c, x = .bl c ∧ Q c H1
/-- an expression whose value is a bool, as a test -/
theorem pt_val {e : Expr} {t : TE} (h : PE X e t) (he : ∀ whole, isTrue e X.env whole = (do let v ← whole; standAt e.pos; holding [v] (truthy v)) := by intro _; rfl) : PT X e (tB t) := by
  intro pins s σ H Q I hw
  refine isTrue_plain (thn (h pins s σ H _ I hw) fun v s1 ⟨x, H1, I1, r1, q1⟩ => ?_) (he _)
  obtain ⟨d, rfl, q⟩ := q1
  cases r1
  exact wpAny_truthy_bool ⟨H1, I1, q⟩

/-! ### and, or, not -/
variable {tA tB' : TT} {rest : List Expr}
noncomputable def tAnd (t u : TT) : TT := fun σ H Q => t σ H fun c H1 => if c = true then u σ H1 Q else Q false H1
noncomputable def tOr (t u : TT) : TT := fun σ H Q => t σ H fun c H1 => if c = true then Q true H1 else u σ H1 Q
noncomputable def tNot (t : TT) : TT := fun σ H Q => t σ H fun c H1 => Q (!c) H1
theorem pw_and1 (ha : PT X a tA) : PW X (.BoolOp .And [a] pos) tA := by
  intro wh pins s σ H Q I h
  refine isTrue_and (thn (ha pins s σ H Q I h) fun c s1 e => ?_)
  cases c with
  | true => exact isTrue_and_nil e
  | false => exact e
theorem pw_or1 (ha : PT X a tA) : PW X (.BoolOp .Or [a] pos) tA := by
  intro wh pins s σ H Q I h
  refine isTrue_or (thn (ha pins s σ H Q I h) fun c s1 e => ?_)
  cases c with
  | false => exact isTrue_or_nil e
  | true => exact e
theorem pw_and (ha : PT X a tA) (hb : PW X (.BoolOp .And (b :: rest) pos) tB') : PW X (.BoolOp .And (a :: b :: rest) pos) (tAnd tA tB') := by
  intro wh pins s σ H Q I h
  refine isTrue_and (thn (ha pins s σ H _ I h) fun c s1 ⟨H1, I1, q1⟩ => ?_)
  cases c with
  | true => exact hb wh pins s1 σ H1 Q I1 q1
  | false => exact ⟨H1, I1, q1⟩
theorem pw_or (ha : PT X a tA) (hb : PW X (.BoolOp .Or (b :: rest) pos) tB') : PW X (.BoolOp .Or (a :: b :: rest) pos) (tOr tA tB') := by
  intro wh pins s σ H Q I h
  refine isTrue_or (thn (ha pins s σ H _ I h) fun c s1 ⟨H1, I1, q1⟩ => ?_)
  cases c with
  | true => exact ⟨H1, I1, q1⟩
  | false => exact hb wh pins s1 σ H1 Q I1 q1
theorem pt_not (ha : PT X a tA) : PT X (.UnaryOp .Not a pos) (tNot tA) := by
  intro pins s σ H Q I h
  exact isTrue_not (ha pins s σ H (fun c H1 => Q (!c) H1) I h)
/-- .. as values (bools) -/
noncomputable def tAndV (ta tb : TE) : TE := fun σ H Q => ta σ H fun x H1 => ∃ c, x = .bl c ∧ if c = true then tb σ H1 Q else Q (.bl false) H1
noncomputable def tOrV (ta tb : TE) : TE := fun σ H Q => ta σ H fun x H1 => ∃ c, x = .bl c ∧ if c = true then Q (.bl true) H1 else tb σ H1 Q
noncomputable def tNotV (ta : TE) : TE := fun σ H Q => ta σ H fun x H1 => ∃ c, x = .bl c ∧ Q (.bl (!c)) H1
/-- a if t else b -/
noncomputable def tIf (t : TT) (ta tb : TE) : TE := fun σ H Q => t σ H fun c H1 => if c = true then ta σ H1 Q else tb σ H1 Q
theorem pe_ifExp {c : Expr} (hc : PT X c tA) (ha : PE X a ta) (hb : PE X b tb) : PE X (.IfExp c a b pos) (tIf tA ta tb) := by
  intro pins s σ H Q I h
  refine wpAny_IfExp (thn (hc pins s σ H _ I h) fun d s1 ⟨H1, I1, q1⟩ => ?_)
  cases d with
  | true => exact ha pins s1 σ H1 Q I1 q1
  | false => exact hb pins s1 σ H1 Q I1 q1
end
end L2

namespace L2
open PySem PySem.Spec PyProof.Rows

/-! ### a list, a tuple that is read: tracked, frozen, or an object of the module -/
noncomputable def SqL (K : PySem.W.Frag) (H : Hp) (a : Addr) (xs : List V) : Prop :=
  Rd H a (.lst xs) ∨
    ∃ (o : Obj) (its : Array Value) (n : Nat), K.lookup a = some o ∧ o.cls = .type "list" ∧ o.dict = none ∧ o.data = .seq its n ∧ its.size ≤ sizeLine ∧ Vals xs its.toList
noncomputable def SqT (K : PySem.W.Frag) (H : Hp) (a : Addr) (xs : List V) : Prop :=
  Rd H a (.tup xs) ∨
    ∃ (o : Obj) (its : Array Value) (n : Nat), K.lookup a = some o ∧ o.cls = .type "tuple" ∧ o.data = .seq its n ∧ its.size ≤ sizeLine ∧ Vals xs its.toList
noncomputable def absV : Value → Option V
  | .none => some .non
  | .bool b => some (.bl b)
  | .int i _ => some (.int i)
  | .str x _ => some (.str x)
  | .bytes b _ => some (.byt b)
  | .float b _ => some (.flt b)
  | .ref a => some (.ref a)
  | .type n => some (.ty n)
  | _ => none
theorem RelV.abs {x : V} {u : Value} (r : RelV x u) : absV u = some x := by
  cases x with
  | non => cases r; rfl
  | bl _ => cases r; rfl
  | int _ => obtain ⟨t, rfl⟩ := r; rfl
  | str _ => obtain ⟨t, rfl⟩ := r; rfl
  | byt _ => obtain ⟨t, rfl⟩ := r; rfl
  | flt _ => obtain ⟨t, rfl⟩ := r; rfl
  | ref _ => cases r; rfl
  | ty _ => cases r; rfl
theorem RelV.inj {x y : V} {u : Value} (r : RelV x u) (q : RelV y u) : x = y := Option.some.inj (r.abs.symm.trans q.abs)
theorem Vals.inj : ∀ {xs ys : List V} {us : List Value}, Vals xs us → Vals ys us → xs = ys
  | _, _, _, .nil, .nil => rfl
  | _, _, _, .cons r t, .cons r' t' => by rw [r.inj r', Vals.inj t t']
section
variable {X : Cx} {pins : List (Addr × Obj)} {σ : St} {H : Hp} {s : Shared} {a : Addr} {xs ys : List V}
theorem SqL.of {K : PySem.W.Frag} (h : H a = some (.lst xs)) : SqL K H a xs := .inl (.inl h)
theorem SqT.of {K : PySem.W.Frag} (h : H a = some (.tup xs)) : SqT K H a xs := .inl (.inl h)
theorem Inv.list (I : Inv X pins σ H s) (h : SqL X.K H a xs) : ∃ its : List Value, Vals xs its ∧ PlainL s.heap a its.toArray ∧ xs.length ≤ sizeLine := by
  rcases h with h | ⟨o, its, n, hk, hc, hd, hs, hz, r⟩
  · obtain ⟨z, its, n, r, e⟩ := h.ok I.hok
    exact ⟨its, r, ⟨_, n, e, rfl, rfl, rfl⟩, z⟩
  · refine ⟨its.toList, r, ⟨o, n, I.kIn a o hk, hc, hd, by simpa using hs⟩, ?_⟩
    have e := r.length
    simp only [Array.length_toList] at e
    omega
theorem Inv.tuple (I : Inv X pins σ H s) (h : SqT X.K H a xs) : ∃ its : List Value, Vals xs its ∧ IsTup s.heap a its.toArray ∧ xs.length ≤ sizeLine := by
  rcases h with h | ⟨o, its, n, hk, hc, hs, hz, r⟩
  · obtain ⟨z, its, r, p⟩ := h.ok I.hok
    exact ⟨its, r, p, z⟩
  · refine ⟨its.toList, r, ⟨o, I.kIn a o hk, hc, n, by simpa using hs⟩, ?_⟩
    have e := r.length
    simp only [Array.length_toList] at e
    omega
theorem Inv.list_inj (I : Inv X pins σ H s) (h : SqL X.K H a xs) (h' : SqL X.K H a ys) : xs = ys := by
  obtain ⟨its, r, ⟨o, n, e, _, _, d⟩, _⟩ := I.list h
  obtain ⟨its', r', ⟨o', n', e', _, _, d'⟩, _⟩ := I.list h'
  rw [e] at e'; cases e'
  rw [d] at d'
  injection d' with d1 _
  have : its = its' := by simpa using congrArg Array.toList d1
  subst this
  exact r.inj r'
end

/-! ### another wish about exceptions -/
abbrev Cx.wish (X : Cx) (E : Value → Shared → Prop) : Cx := { X with xe := E }
/-- no exception leaves -/
abbrev Cx.nox (X : Cx) : Cx := X.wish fun _ _ => False
theorem Cx.Ok.wish {X : Cx} (ok : X.Ok) (E : Value → Shared → Prop) : (X.wish E).Ok :=
  ⟨ok.mod, ok.kind, ok.glob, ok.blt, ok.above, ok.inj, ok.has, ok.cab, ok.hd, ok.frames, ok.stk, ok.exf, ok.bs, ok.bsz, ok.noex, ok.exfs, ok.funs, ok.frf⟩
theorem Cx.Ok.unwish {X : Cx} {E : Value → Shared → Prop} (ok : (X.wish E).Ok) : X.Ok :=
  ⟨ok.mod, ok.kind, ok.glob, ok.blt, ok.above, ok.inj, ok.has, ok.cab, ok.hd, ok.frames, ok.stk, ok.exf, ok.bs, ok.bsz, ok.noex, ok.exfs, ok.funs, ok.frf⟩
section
variable {X : Cx} {pins : List (Addr × Obj)} {σ : St} {H : Hp} {s : Shared} {E : Value → Shared → Prop}
theorem Inv.wish (I : Inv X pins σ H s) (E : Value → Shared → Prop) : Inv (X.wish E) pins σ H s := ⟨I.ok.wish E, I.os, I.bare, I.base, I.loc, I.cell, I.free, I.freeC, I.pin, I.hok, I.len⟩
theorem Inv.unwish (I : Inv (X.wish E) pins σ H s) : Inv X pins σ H s := ⟨I.ok.unwish, I.os, I.bare, I.base, I.loc, I.cell, I.free, I.freeC, I.pin, I.hok, I.len⟩
theorem SP.unwish {D : Ends} {f : Flow} {s' : Shared} (h : SP (X.wish E) pins D f s') : SP X pins D f s' := by
  cases f with
  | next => obtain ⟨σ', H', I, q⟩ := h; exact ⟨σ', H', I.unwish, q⟩
  | brk => obtain ⟨σ', H', I, q⟩ := h; exact ⟨σ', H', I.unwish, q⟩
  | cont => obtain ⟨σ', H', I, q⟩ := h; exact ⟨σ', H', I.unwish, q⟩
  | ret u => obtain ⟨v, σ', H', I, r, q⟩ := h; exact ⟨v, σ', H', I.unwish, r, q⟩
theorem PE.nox {e : Expr} {t : TE} (h : PE X.nox e t) : PE X e t := fun pins s σ H Q I hw =>
  wpAny_mono (h pins s σ H Q (I.wish _) hw) (fun _ _ ⟨v, H', I', r, q⟩ => ⟨v, H', I'.unwish, r, q⟩) fun _ _ z => False.elim z
theorem PT.nox {e : Expr} {t : TT} (h : PT X.nox e t) : PT X e t := fun pins s σ H Q I hw =>
  wpAny_mono (h pins s σ H Q (I.wish _) hw) (fun _ _ ⟨H', I', q⟩ => ⟨H', I'.unwish, q⟩) fun _ _ z => False.elim z
theorem PSs.nox {st : List Stmt} {t : TS} (h : PSs X.nox st t) : PSs X st t := fun pins s σ H D I hw =>
  wpAny_mono (h pins s σ H D (I.wish _) hw) (fun _ _ q => q.unwish) fun _ _ z => False.elim z
end

/-! ### blocks and small statements -/
section
variable {X : Cx} {st : Stmt} {rest : List Stmt} {t u : TS} {e : Expr} {te : TE} {pos : Pos}
noncomputable def tNext : TS := fun D σ H => D.nx σ H
noncomputable def tSeq (t u : TS) : TS := fun D σ H => t { D with nx := u D } σ H
theorem pss_nil : PSs X [] tNext := fun _ _ σ H _ I h => wpAny_execs_nil ⟨σ, H, I, h⟩
theorem pss_cons (h1 : PS X st t) (h2 : PSs X rest u) : PSs X (st :: rest) (tSeq t u) := by
  intro pins s σ H D I h
  refine wpAny_execs_cons (thn (h1 pins s σ H { D with nx := u D } I h) fun f s1 q => ?_)
  cases f with
  | next =>
    obtain ⟨σ', H', I', q⟩ := q
    exact h2 pins s1 σ' H' D I' q
  | ret v => exact q
  | brk => exact q
  | cont => exact q
theorem pss_one (h1 : PS X st t) : PSs X [st] t := by
  intro pins s σ H D I h
  refine wpAny_execs_cons (thn (h1 pins s σ H D I h) fun f s1 q => ?_)
  cases f with
  | next => exact wpAny_execs_nil q
  | ret v => exact q
  | brk => exact q
  | cont => exact q
noncomputable def tBreak : TS := fun D σ H => D.bk σ H
noncomputable def tCont : TS := fun D σ H => D.ct σ H
/-- in a def's body nothing is shown -/
theorem Inv.quiet {pins : List (Addr × Obj)} {σ : St} {H : Hp} {s : Shared} (I : Inv X pins σ H s) : interactive X.env = false := by simp [interactive, I.ok.kind]
/-- an expression whose value is dropped -/
noncomputable def tDrop (te : TE) : TS := fun D σ H => te σ H fun _ H1 => D.nx σ H1
theorem ps_expr (he : PE X e te) (hs : swapsWith e none pos.line X.env = pure false := by rfl) : PS X (.Expr e pos) (tDrop te) := by
  intro pins s σ H D I h
  exact wpAny_Expr_any (thn (he pins s σ H _ I h) fun v s1 ⟨x, H1, I1, r1, q1⟩ => ⟨σ, H1, I1, q1⟩) I.quiet hs
noncomputable def tRet (te : TE) : TS := fun D σ H => te σ H D.rt
theorem ps_ret (he : PE X e te) : PS X (.Return (some e) pos) (tRet te) := by
  intro pins s σ H D I h
  exact wpAny_Return_some (thn (he pins s σ H _ I h) fun v s1 ⟨x, H1, I1, r1, q1⟩ => ⟨x, σ, H1, I1, r1, q1⟩)
noncomputable def tRetN : TS := fun D _ H => D.rt .non H
noncomputable def tIfS (c : TT) (t u : TS) : TS := fun D σ H => c σ H fun b H1 => if b = true then t D σ H1 else u D σ H1
theorem ps_if {c : Expr} {a b : List Stmt} {tc : TT} (hc : PT X c tc) (ha : PSs X a t) (hb : PSs X b u) : PS X (.If c a b pos) (tIfS tc t u) := by
  intro pins s σ H D I h
  refine wpAny_If (thn (hc pins s σ H _ I h) fun d s1 ⟨H1, I1, q1⟩ => ?_)
  cases d with
  | true => exact ha pins s1 σ H1 D I1 q1
  | false => exact hb pins s1 σ H1 D I1 q1
/-- code that the proof never comes to -/
noncomputable def tNever : TS := fun _ _ _ => False
end

/-! ### targets -/
abbrev TG := V → St → Hp → (St → Hp → Prop) → Prop
abbrev TGs := List V → St → Hp → (St → Hp → Prop) → Prop
noncomputable def PG (X : Cx) (target : Expr) (t : TG) : Prop :=
  ∀ (pins : List (Addr × Obj)) (s : Shared) (σ : St) (H : Hp) (v : V) (u : Value) (Q : St → Hp → Prop), Inv X pins σ H s → RelV v u → t v σ H Q →
    wpAny (model X.prog X.w) X.A (assign target X.env u) (fun _ s' => ∃ σ' H', Inv X pins σ' H' s' ∧ Q σ' H') X.xe s
/-- several targets, one after another -/
noncomputable def PGs (X : Cx) (ts : List Expr) (t : TGs) : Prop :=
  ∀ (pins : List (Addr × Obj)) (s : Shared) (σ : St) (H : Hp) (vs : List V) (us : List Value) (Q : St → Hp → Prop), Inv X pins σ H s → Vals vs us → t vs σ H Q →
    wpAny (model X.prog X.w) X.A (assignInOrder ((assignEach ts X.env).map (·.2)) us) (fun _ s' => ∃ σ' H', Inv X pins σ' H' s' ∧ Q σ' H') X.xe s
/-- o[i] = v, by values -/
abbrev TSet := V → V → V → Hp → (Hp → Prop) → Prop
noncomputable def PSet (X : Cx) (t : TSet) : Prop :=
  ∀ (pins : List (Addr × Obj)) (s : Shared) (σ : St) (H : Hp) (o i v : V) (ov iv u : Value) (Q : Hp → Prop), Inv X pins σ H s → RelV o ov → RelV i iv → RelV v u → t o i v H Q →
    wpAny (model X.prog X.w) X.A (setItem ov iv u) (fun _ s' => ∃ H', Inv X pins σ H' s' ∧ Q H') X.xe s
/-- a op= b, by values -/
abbrev TIp := V → V → Hp → VK → Prop
noncomputable def PIp (X : Cx) (op : Operator) (t : TIp) : Prop :=
  ∀ (pins : List (Addr × Obj)) (s : Shared) (σ : St) (H : Hp) (x y : V) (v u : Value) (Q : VK), Inv X pins σ H s → RelV x v → RelV y u → t x y H Q →
    wpAny (model X.prog X.w) X.A (inplaceOp op v u) (EP X pins σ Q) X.xe s
section
variable {X : Cx} {pos : Pos}
noncomputable def gName (i : Nat) : TG := fun v σ H Q => Q (σ.set i (some v)) H
theorem pg_name {i : Nat} {x : Str} (hN : X.N.Nodup) (hi : X.N[i]? = some x) (hx : Loc X.env.scope x) (hf : X.fn x = true ∨ X.env.scope.names.lookup x = some .local := by first | exact .inl rfl | exact .inr rfl | assumption) : PG X (.Name x pos) (gName i) := by
  intro pins s σ H v u Q I r h
  exact wpAny_assign_Name (store_ok I hN hi hx r (fun s' I' => ⟨_, H, I', h⟩) hf)
noncomputable def gNil : TGs := fun vs σ H Q => vs = [] ∧ Q σ H
noncomputable def gCons (t : TG) (u : TGs) : TGs := fun vs σ H Q => ∃ v r, vs = v :: r ∧ t v σ H fun σ' H' => u r σ' H' Q
theorem pgs_nil : PGs X [] gNil := by
  intro pins s σ H vs us Q I r h
  obtain ⟨e, h⟩ := h
  subst e
  cases r
  exact assignInOrder_nil ⟨σ, H, I, h⟩
theorem pgs_cons {e : Expr} {es : List Expr} {t : TG} {u : TGs} (h1 : PG X e t) (h2 : PGs X es u)
    (hs : (assignEach (e :: es) X.env).map (·.2) = assign e X.env :: (assignEach es X.env).map (·.2) := by rfl) : PGs X (e :: es) (gCons t u) := by
  intro pins s σ H vs us Q I r h
  obtain ⟨v, vr, e1, h⟩ := h
  subst e1
  cases r with
  | cons r rr =>
    rw [hs]
    refine assignInOrder_cons (thn (h1 pins s σ H _ _ _ I r h) fun _ s1 ⟨σ1, H1, I1, q1⟩ => ?_)
    exact h2 pins s1 σ1 H1 _ _ Q I1 rr q1
/-- (a, b, ..) = a tuple of that length -/
noncomputable def gTup (K : PySem.W.Frag) (n : Nat) (t : TGs) : TG := fun v σ H Q => ∃ a xs, v = .ref a ∧ SqT K H a xs ∧ xs.length = n ∧ t xs σ H Q
theorem pg_tup {es : List Expr} {k : Nat} {t : TGs} {n : Nat} (hc : X.calm = true) (h : PGs X es t)
    (hn : (assignEach es X.env).length = n := by rfl) (hst : (assignEach es X.env).findIdx? (·.1) = none := by rfl) : PG X (.Tuple es k pos) (gTup X.K n t) := by
  intro pins s σ H v u Q I r hw
  obtain ⟨a, xs, e1, hq, hl, hw⟩ := hw
  subst e1
  cases r
  obtain ⟨its, rv, ht, hz⟩ := I.tuple hq
  refine assign_Tuple_tuple (I.ok.hd hc) ht (by simp [hn, ← hl, rv.length]) hst fun h' hx => ?_
  have I1 : Inv X pins σ H { s with heap := h' } := I.kept (t' := s.toks) fun b o e => hx b o (Nat.ne_of_lt (Heap.lt_size e)) e
  exact h pins _ σ H xs _ Q I1 (by simpa using rv) hw
/-- o[i] = .. -/
noncomputable def gSub (to ti : TE) (t : TSet) : TG := fun v σ H Q => to σ H fun o H1 => ti σ H1 fun i H2 => t o i v H2 fun H3 => Q σ H3
theorem pg_sub {o i : Expr} {to ti : TE} {t : TSet} (ho : PE X o to) (hi : PE X i ti) (hs : PSet X t)
    (ha : ∀ v, assign (.Subscript o i pos) X.env v = (do
      let ov ← holding [v] (eval o X.env)
      let iv ← holding [v, ov] (eval i X.env)
      standAt pos
      holding [v, ov, iv] (setItem ov iv v)
      release [v, ov, iv] []) := by intro _; rfl) : PG X (.Subscript o i pos) (gSub to ti t) := by
  intro pins s σ H v u Q I r h
  rw [ha]
  refine wpAny_bind (wpAny_holding (thn (ho pins s σ H _ I h) fun ov s1 ⟨x, H1, I1, r1, q1⟩ => ?_))
  refine wpAny_bind (wpAny_holding (thn (hi pins s1 σ H1 _ I1 q1) fun iv s2 ⟨y, H2, I2, r2, q2⟩ => ?_))
  refine wpAny_bind (wpAny_standAt (wpAny_bind (wpAny_holding (thn (hs pins s2 σ H2 x y v ov iv u _ I2 r1 r2 r q2) fun _ s3 ⟨H3, I3, q3⟩ => ?_))))
  exact wpAny_release ⟨σ, H3, I3, q3⟩
/-- target = value -/
noncomputable def tAsg (te : TE) (g : TG) : TS := fun D σ H => te σ H fun x H1 => g x σ H1 D.nx
theorem ps_asg {tg e : Expr} {te : TE} {g : TG} (he : PE X e te) (hg : PG X tg g) (hs : swapsWithSole [tg] e pos.line X.env = pure false := by rfl) (hw : swappedStores [tg] e X.env = pure none := by rfl)
    (h1 : (assignEach [tg] X.env).map (·.2) = [assign tg X.env] := by rfl) : PS X (.Assign [tg] e pos) (tAsg te g) := by
  intro pins s σ H D I h
  refine wpAny_Assign_stores (thn (he pins s σ H _ I h) fun v s1 ⟨x, H1, I1, r1, q1⟩ => ?_) hs hw
  rw [h1]
  exact thn (hg pins s1 σ H1 x v _ I1 r1 q1) fun _ s2 q => q
/-- name = value -/
theorem ps_set {i : Nat} {x : Str} {e : Expr} {te : TE} {pos' : Pos} (hN : X.N.Nodup) (hi : X.N[i]? = some x) (hx : Loc X.env.scope x) (he : PE X e te) (hs : swapsWith e (some (.Name x pos')) pos.line X.env = pure false := by rfl) (hf : X.fn x = true ∨ X.env.scope.names.lookup x = some .local := by first | exact .inl rfl | exact .inr rfl | assumption) :
    PS X (.Assign [.Name x pos'] e pos) (tAsg te (gName i)) := by
  intro pins s σ H D I h
  refine wpAny_Assign_Name (thn (he pins s σ H _ I h) fun v s1 ⟨y, H1, I1, r1, q1⟩ => ?_) hs
  exact store_ok I1 hN hi hx r1 (fun s2 I2 => ⟨_, H1, I2, q1⟩) hf
/-- a, b = x, y with plain local names: stored from the right; the pair itself is not tracked (the opening rows as in PyProof/Rows/TupAssign.lean:23) -/
noncomputable def tPar (i j : Nat) (ta : TA) : TS := fun D σ H => ta σ H fun vs H1 => ∃ v w, vs = [v, w] ∧ D.nx ((σ.set i (some v)).set j (some w)) H1
theorem ps_par {i j : Nat} {x y : Str} {a b : Expr} {ta : TA} {px py pt : Pos} {kt k2 pt2} (hc : X.calm = true) (hN : X.N.Nodup) (hi : X.N[i]? = some x) (hj : X.N[j]? = some y) (hij : i ≠ j)
    (hx : X.env.scope.names.lookup x = some .local) (hy : X.env.scope.names.lookup y = some .local) (ha : PA X [a, b] ta)
    (hw : swappedStores [.Tuple [.Name x px, .Name y py] kt pt] (.Tuple [a, b] k2 pt2) X.env = pure (some [x, y]))
    (hs : swapsWithSole [.Tuple [.Name x px, .Name y py] kt pt] (.Tuple [a, b] k2 pt2) pos.line X.env = pure false := by rfl) :
    PS X (.Assign [.Tuple [.Name x px, .Name y py] kt pt] (.Tuple [a, b] k2 pt2) pos) (tPar i j ta) := by
  intro pins s σ H D I h
  rw [exec_Assign_arm]
  refine wpAny_bind (wpAny_standAt ?_)
  rw [hs]
  refine wpAny_bind (wpAny_pure ?_)
  rw [if_neg (by decide)]
  refine wpAny_bind (Tuple_ (thn (ha _ pins s σ H _ I h) fun us s1 ⟨vs, H1, I1, r1, q1⟩ => ?_))
  obtain ⟨v, w, e1, q1⟩ := q1
  subst e1
  obtain ⟨u1, u2, rfl, rv, rw'⟩ : ∃ u1 u2, us = [u1, u2] ∧ RelV v u1 ∧ RelV w u2 := by
    cases r1 with
    | cons p q =>
      cases q with
      | cons p' q' =>
        cases q'
        exact ⟨_, _, rfl, p, p'⟩
  refine wpAny_newObj_type ?_ (by show 2 ≤ sizeLine; decide)
  have I2 : Inv X pins σ H1 { s1 with heap := s1.heap.push { cls := .type "tuple", data := .seq [u1, u2].toArray } } := I1.kept (t' := s1.toks) fun b o e => Heap.get?_push_of_some _ e
  rw [hw]
  refine wpAny_bind (wpAny_pure ?_)
  show wpAny (model X.prog X.w) X.A (do rule "assign.swapped-stores"; let items ← unpackItems (.ref s1.heap.objs.size) 2 none; assignInOrder [fun v => bindName X.env y v, fun v => bindName X.env x v] items.reverse; pure Flow.next) _ _ _
  refine wpAny_bind (wpAny_rule (wpAny_bind (unpackItems_tuple (items := #[u1, u2]) (I.ok.hd hc) (IsTup.new s1.heap _) fun h' hx' => ?_)))
  have I3 := I2.kept (h' := h') (t' := s1.toks) fun b o e => hx' b o (Nat.ne_of_lt (Heap.lt_size e)) e
  show wpAny _ _ (assignInOrder [fun v => bindName X.env y v, fun v => bindName X.env x v] [u2, u1] >>= fun _ => pure Flow.next) _ _ _
  refine wpAny_bind (assignInOrder_cons (wpAny_bindName (store_ok I3 hN hj (.inl hy) rw' (fun s2 I4 => ?_) (.inr hy))))
  refine assignInOrder_cons (wpAny_bindName (store_ok I4 hN hi (.inl hx) rv (fun s3 I5 => assignInOrder_nil (wpAny_pure ?_)) (.inr hx)))
  rw [List.set_comm _ _ (Ne.symm hij)] at I5
  exact ⟨_, H1, I5, q1⟩
/-- name op= e -/
noncomputable def tAug (i : Nat) (te : TE) (ti : TIp) : TS := fun D σ H => ∃ x, σ[i]? = some (some x) ∧ te σ H fun y H1 => ti x y H1 fun z H2 => D.nx (σ.set i (some z)) H2
/-- o[i] op= e -/
noncomputable def tAugS (to ti te : TE) (tget : V → V → Hp → VK → Prop) (tip : TIp) (tset : TSet) : TS := fun D σ H => to σ H fun o H1 => ti σ H1 fun i H2 => tget o i H2 fun x H3 => te σ H3 fun y H4 => tip x y H4 fun z H5 => tset o i z H5 fun H6 => D.nx σ H6
/-- o[i], by values -/
noncomputable def PGet (X : Cx) (t : V → V → Hp → VK → Prop) : Prop :=
  ∀ (pins : List (Addr × Obj)) (s : Shared) (σ : St) (H : Hp) (o i : V) (ov iv : Value) (Q : VK), Inv X pins σ H s → RelV o ov → RelV i iv → t o i H Q →
    wpAny (model X.prog X.w) X.A (getItem ov iv) (EP X pins σ Q) X.xe s
/-- ints -/
noncomputable def ipI (f : Int → Int → Int) : TIp := fun x y H Q => ∃ i j, x = .int i ∧ y = .int j ∧ Q (.int (f i j)) H
end

/-! ### while -/
section
variable {X : Cx} {pos : Pos}
/-- the invariant W with its measure -/
noncomputable def tWhile (c : TT) (tb : TS) : TS := fun D σ H => ∃ W : Nat → St → Hp → Prop, (∃ m, W m σ H) ∧ ∀ m σ H, W m σ H →
  c σ H fun b H1 => if b = true then ∃ N : St → Hp → Prop, (∀ σ' H', N σ' H' → ∃ m', m' < m ∧ W m' σ' H') ∧ tb { D with nx := N, ct := N, bk := D.nx } σ H1 else D.nx σ H1
theorem ps_while {c : Expr} {body : List Stmt} {tc : TT} {tb : TS} (hp : PassesOwn (model X.prog X.w) X.A X.env X.xe) (hc : PT X c tc) (hb : PSs X body tb) : PS X (.While c body [] pos) (tWhile tc tb) := by
  intro pins s σ H D I h
  obtain ⟨W, ⟨m0, w0⟩, turn⟩ := h
  refine wpAny_While (codeAny_whileLoop (fun n s' => ∃ σ' H', Inv X pins σ' H' s' ∧ W n σ' H') ?_ m0 ⟨σ, H, I, w0⟩)
  rintro n s1 ⟨σ1, H1, I1, w1⟩
  refine wpAny_passesOwn hp (thn (hc pins s1 σ1 H1 _ I1 (turn n σ1 H1 w1)) fun b s2 ⟨H2, I2, q2⟩ => ?_)
  cases b with
  | true =>
    obtain ⟨N, hN, q2⟩ := q2
    rw [if_pos rfl]
    refine wpAny_passesOwn hp (thn (hb pins s2 σ1 H2 _ I2 q2) fun f s3 q3 => ?_)
    cases f with
    | next =>
      obtain ⟨σ3, H3, I3, n3⟩ := q3
      obtain ⟨m', hm, w3⟩ := hN σ3 H3 n3
      exact ⟨m', hm, σ3, H3, I3, w3⟩
    | cont =>
      obtain ⟨σ3, H3, I3, n3⟩ := q3
      obtain ⟨m', hm, w3⟩ := hN σ3 H3 n3
      exact ⟨m', hm, σ3, H3, I3, w3⟩
    | brk => exact q3
    | ret v => exact q3
  | false =>
    rw [if_neg Bool.false_ne_true]
    exact wpAny_execs_nil ⟨σ1, H2, I2, q2⟩
end

/-! ### what a loop or a comprehension walks -/
/-- at turn i: it yields x (the heap may grow), or it stops -/
structure It where
  go : Nat → Hp → Prop
  yld : Nat → Hp → V → Hp → Prop
  stop : Nat → Hp → Prop
/-- the iterator's own objects may turn: they are not the frame's, not pinned, younger than the entry (or a comprehension's own) -/
noncomputable def FpOk (X : Cx) (pins : List (Addr × Obj)) (H : Hp) (b : Addr) : Prop :=
  H b = none ∧ b ≠ X.env.locals ∧ b ∉ X.fs ∧ (b ∈ X.ex ∨ X.s₀.heap.objs.size ≤ b) ∧ (∀ x c, X.env.cells.lookup x = some c → c ≠ b) ∧ ∀ p ∈ X.pn ++ pins, p.1 ≠ b
theorem Inv.fpOk {X : Cx} {pins : List (Addr × Obj)} {σ : St} {H H' : Hp} {s : Shared} {b : Addr} (I : Inv X pins σ H s) (hb : s.heap.objs.size ≤ b) (hn : H' b = none) : FpOk X pins H' b := by
  refine ⟨hn, Nat.ne_of_gt (Nat.lt_of_lt_of_le I.lt hb), I.nofs hb, .inr (Nat.le_trans I.sz hb), fun x c e z => ?_, fun p hp z => ?_⟩
  · obtain ⟨v, q⟩ := I.cell x c e
    exact absurd (Nat.lt_of_lt_of_le q.lt (by rw [z]; exact hb)) (Nat.lt_irrefl _)
  · exact absurd (Nat.lt_of_lt_of_le (Heap.lt_size (I.pin p hp).1) (by rw [z]; exact hb)) (Nat.lt_irrefl _)
structure Turn (P : Program) (w : World) (K : PySem.W.Frag) (tg : Expr) (J : It) (fp : List Addr) (it : Addr) (tn : Nat → Heap → Prop) : Prop where
  mem : it ∈ fp
  obj : ∀ i h, tn i h → ∀ b ∈ fp, ∃ o, h.get? b = some o ∧ ∀ v, o.data ≠ .cell v
  keep : ∀ i h h', tn i h → (∀ b ∈ fp, ∀ o, h.get? b = some o → h'.get? b = some o) → tn i h'
  item : ∀ (X : Cx), X.prog = P → X.w = w → X.K = K → X.calm = true → ∀ (i : Nat) (pins : List (Addr × Obj)) (s : Shared) (σ : St) (H : Hp) (E : Value → Shared → Prop), Inv X pins σ H s → (∀ b ∈ fp, FpOk X pins H b) → tn i s.heap → J.go i H →
    wpAny (model P w) X.A (pyNext (.ref it)) (fun r s1 => ∃ u, r = some u ∧
      wpAny (model P w) X.A (letOwnedTupleGo tg (.ref it) u) (fun _ s2 => ∃ x H', Inv X pins σ H' s2 ∧ RelV x u ∧ J.yld i H x H' ∧ tn (i + 1) s2.heap ∧ ∀ b ∈ fp, H' b = none) E s1) E s
  done : ∀ (X : Cx), X.prog = P → X.w = w → X.K = K → X.calm = true → ∀ (i : Nat) (pins : List (Addr × Obj)) (s : Shared) (σ : St) (H : Hp) (E : Value → Shared → Prop), Inv X pins σ H s → (∀ b ∈ fp, FpOk X pins H b) → tn i s.heap → J.stop i H →
    wpAny (model P w) X.A (pyNext (.ref it)) (fun r s1 => r = none ∧ Inv X pins σ H s1) E s
  self : ∀ (A : Around) (i : Nat) (s : Shared) (Q : Value → Shared → Prop) (E : Value → Shared → Prop), tn i s.heap → Q (.ref it) s → wpAny (model P w) A (pyIter (.ref it)) Q E s
abbrev TI := St → Hp → (It → Hp → Prop) → Prop
/-- an iterator has come -/
noncomputable def PIE (X : Cx) (pins : List (Addr × Obj)) (σ : St) (tg : Expr) (R : It → Hp → Prop) (itv : Value) (s2 : Shared) : Prop :=
  ∃ (it : Addr) (fp : List Addr) (tn : Nat → Heap → Prop) (J : It) (H' : Hp), itv = .ref it ∧ Inv X pins σ H' s2 ∧ Turn X.prog X.w X.K tg J fp it tn ∧ tn 0 s2.heap ∧ (∀ b ∈ fp, FpOk X pins H' b) ∧ R J H'
noncomputable def PI (X : Cx) (tg iter : Expr) (wi : TI) : Prop :=
  ∀ (pins : List (Addr × Obj)) (s : Shared) (σ : St) (H : Hp) (R : It → Hp → Prop), Inv X pins σ H s → wi σ H R →
    wpAny (model X.prog X.w) X.A (eval iter X.env) (fun v s1 => wpAny (model X.prog X.w) X.A (pyIter v) (PIE X pins σ tg R) X.xe s1) X.xe s

/-- the step ahead of the store is nothing for an iterator that keeps no tuple -/
theorem go_of {M : Model} {A : Around} {E : Value → Shared → Prop} {s : Shared} {tg : Expr} {it : Addr} {u : Value} {o : Obj} {n : String} {vs : Array Value} {Q : Unit → Shared → Prop} (ho : s.heap.get? it = some o) (hc : o.cls = .type n) (hd : o.data = .fields vs)
    (hn : ["enumerate", "zip", "dict_itemiterator", "dict_reverseitemiterator", "odict_iterator", "itertools.zip_longest", "itertools.pairwise"].contains n = false) (hQ : Q () s) : wpAny M A (letOwnedTupleGo tg (.ref it) u) Q E s := by
  unfold letOwnedTupleGo
  cases tg <;> first
    | exact wpAny_pure hQ
    | (cases u <;> first
        | exact wpAny_pure hQ
        | (refine wpAny_bind (wpAny_load ho ?_)
           rw [hc, hd]
           show wpAny M A (if (["enumerate", "zip", "dict_itemiterator", "dict_reverseitemiterator", "odict_iterator", "itertools.zip_longest", "itertools.pairwise"].contains n && vs[0]? == some (rawInt _)) = true then _ else _) Q E s
           rw [if_neg (by intro h; rw [hn, Bool.false_and] at h; cases h)]
           exact wpAny_pure hQ))

/-- the list at a, as it stands at each turn (a loop may append to it) -/
noncomputable def Itl (K : PySem.W.Frag) (a : Addr) : It :=
  ⟨fun i H => ∃ xs x, SqL K H a xs ∧ xs[i]? = some x, fun i H x H' => H' = H ∧ ∀ xs, SqL K H a xs → xs[i]? = some x, fun i H => ∃ xs, SqL K H a xs ∧ xs.length ≤ i⟩
noncomputable def Itt (K : PySem.W.Frag) (a : Addr) : It :=
  ⟨fun i H => ∃ xs x, SqT K H a xs ∧ xs[i]? = some x, fun i H x H' => H' = H ∧ ∀ xs, SqT K H a xs → xs[i]? = some x, fun i H => ∃ xs, SqT K H a xs ∧ xs.length ≤ i⟩
/-- lo, lo + 1, .. (n of them) -/
noncomputable def Itr (lo : Int) (n : Nat) : It := ⟨fun i _ => i < n, fun i H x H' => H' = H ∧ x = .int (lo + i), fun i _ => n ≤ i⟩
theorem turn_list {P : Program} {w : World} {K : PySem.W.Frag} {tg : Expr} (a it : Addr) : Turn P w K tg (Itl K a) [it] it (fun i h => h.IsListIter it a i) where
  mem := by simp
  obj := fun i h st b hb => by
    have e : b = it := by simpa using hb
    subst e
    obtain ⟨o, e, c, d⟩ := st
    exact ⟨o, e, fun v z => by rw [d] at z; cases z⟩
  keep := fun i h h' st k => st.at fun o e => k it (by simp) o e
  item := by
    intro X hP hw hK hc i pins s σ H E I hf st hg
    subst hP hw hK
    obtain ⟨xs, x, hq, hx⟩ := hg
    obtain ⟨its, rv, p, hz⟩ := I.list hq
    obtain ⟨u, hu, ru⟩ := rv.get hx
    obtain ⟨f0, f1, f2, f3, f4, f5⟩ := hf it (by simp)
    refine wpAny_pyNext_list_item st p.isList (x := u) (by simpa using hu) fun h' st' sb => ?_
    have I1 : Inv X pins σ H { s with heap := h' } := I.turned (t' := s.toks) (fun b o hb e => (sb.2 b hb).trans e) f0 f1 f3 f4 f5
    obtain ⟨o, e, c, d⟩ := id st'
    exact ⟨u, rfl, go_of (s := { s with heap := h' }) e c d (by decide) ⟨x, H, I1, ru, ⟨rfl, fun ys hy => by rw [I.list_inj hy hq]; exact hx⟩, st', fun b hb => (hf b hb).1⟩⟩
  done := by
    intro X hP hw hK hc i pins s σ H E I hf st hg
    subst hP hw hK
    obtain ⟨xs, hq, hx⟩ := hg
    obtain ⟨its, rv, p, hz⟩ := I.list hq
    obtain ⟨f0, f1, f2, f3, f4, f5⟩ := hf it (by simp)
    have hl := rv.length
    exact wpAny_pyNext_list_end (I.ok.hd hc) st p.isList (by simp; omega) fun h' eb => ⟨rfl, I.turned (t' := s.toks) (fun b o hb e => eb b o hb e) f0 f1 f3 f4 f5⟩
  self := fun _ _ _ _ _ st h => wpAny_pyIter_listiter st h
theorem turn_range {P : Program} {w : World} {K : PySem.W.Frag} {tg : Expr} (it : Addr) (lo : Int) (n : Nat) : Turn P w K tg (Itr lo n) [it] it (fun i h => IsRangeIter h it (lo + (i : Nat) * 1) ((n : Int) - (i : Nat)) 1) where
  mem := by simp
  obj := fun i h st b hb => by
    have e : b = it := by simpa using hb
    subst e
    exact ⟨_, st, fun v z => by
      have z' : Data.fields _ = Data.cell v := z
      cases z'⟩
  keep := fun i h h' st k => k it (by simp) _ st
  item := by
    intro X hP hw hK hc i pins s σ H E I hf st hg
    subst hP hw hK
    obtain ⟨f0, f1, f2, f3, f4, f5⟩ := hf it (by simp)
    have W := Walks.range (prog := X.prog) (w := X.w) (I.ok.hd hc) it lo 1 n
    refine W.item i s _ _ hg st fun v h' tk hv st' kk => ?_
    obtain ⟨t, rfl⟩ := hv
    have I1 : Inv X pins σ H { s with heap := h', toks := tk } := I.turned (fun b o hb e => kk b o (by simpa using hb) e) f0 f1 f3 f4 f5
    refine ⟨_, rfl, go_of (s := { s with heap := h', toks := tk }) (n := "range_iterator") st' rfl rfl (by decide) ⟨.int (lo + i), H, I1, ⟨t, ?_⟩, ⟨rfl, rfl⟩, st', fun b hb => (hf b hb).1⟩⟩
    rw [Int.mul_one]
  done := by
    intro X hP hw hK hc i pins s σ H E I hf st hg
    subst hP hw hK
    obtain ⟨f0, f1, f2, f3, f4, f5⟩ := hf it (by simp)
    exact wpAny_pyNext_range_end (I.ok.hd hc) st (by have : n ≤ i := hg; omega) fun h' eb => ⟨rfl, I.turned (t' := s.toks) (fun b o hb e => eb b o hb e) f0 f1 f3 f4 f5⟩
  self := fun _ _ _ _ _ st h => wpAny_pyIter_rangeiter st h
end L2

namespace L2
open PySem PySem.Spec PyProof.Rows
section
variable {X : Cx} {tg : Expr}
noncomputable def iList (K : PySem.W.Frag) (tl : TE) : TI := fun σ H R => tl σ H fun x H1 => ∃ a, x = .ref a ∧ (∃ xs, SqL K H1 a xs) ∧ R (Itl K a) H1
noncomputable def iTup (K : PySem.W.Frag) (tl : TE) : TI := fun σ H R => tl σ H fun x H1 => ∃ a, x = .ref a ∧ (∃ xs, SqT K H1 a xs) ∧ R (Itt K a) H1
theorem pi_list {l : Expr} {tl : TE} (hl : PE X l tl) : PI X tg l (iList X.K tl) := by
  intro pins s σ H R I h
  refine thn (hl pins s σ H _ I h) fun v s1 ⟨x, H1, I1, r1, q1⟩ => ?_
  obtain ⟨a, e, ⟨xs, hq⟩, q⟩ := q1
  subst e
  cases r1
  obtain ⟨its, rv, p, hz⟩ := I1.list hq
  refine wpAny_pyIter_list p.isList ?_
  refine ⟨s1.heap.objs.size, [s1.heap.objs.size], _, _, H1, rfl, I1.kept (t' := s1.toks) fun b o e => Heap.get?_push_of_some _ e, turn_list a _, ⟨_, Heap.get?_push_size _ rfl, rfl, rfl⟩, fun b hb => ?_, q⟩
  have e : b = s1.heap.objs.size := by simpa using hb
  subst e
  exact I1.fpOk (Nat.le_refl _) (I1.hok.fresh (Nat.le_refl _))
/-- a range object just made, walked -/
theorem range_it {pins : List (Addr × Obj)} {σ : St} {H : Hp} {s : Shared} {R : It → Hp → Prop} {E : Value → Shared → Prop} {lo hi : Int} {t u v : Tok} {tk : Nat} (I : Inv X pins σ H s) (h1 : -(2 ^ 62) ≤ lo) (h2 : lo < 2 ^ 62) (h3 : -(2 ^ 62) ≤ hi) (h4 : hi < 2 ^ 62)
    (q : R (Itr lo (hi - lo).toNat) H) : wpAny (model X.prog X.w) X.A (pyIter (.ref s.heap.objs.size)) (PIE X pins σ tg R) E { s with heap := s.heap.push { cls := .type "range", data := .fields #[.int lo t, .int hi u, .int 1 v] }, toks := tk } := by
  refine wpAny_pyIter_range (IsRange.new ..) (small_one h1 h2 h3 h4) ?_
  have I1 : Inv X pins σ H { s with heap := s.heap.push { cls := .type "range", data := .fields #[.int lo t, .int hi u, .int 1 v] }, toks := tk } := I.kept fun b o e => Heap.get?_push_of_some _ e
  refine ⟨(s.heap.push { cls := .type "range", data := .fields #[.int lo t, .int hi u, .int 1 v] }).objs.size, [(s.heap.push { cls := .type "range", data := .fields #[.int lo t, .int hi u, .int 1 v] }).objs.size], _, _, H, rfl,
    I1.kept (t' := tk) fun b o e => Heap.get?_push_of_some _ e, turn_range _ lo (hi - lo).toNat, ?_, fun b hb => ?_, q⟩
  · have e1 : lo + ((0 : Nat) : Int) * 1 = lo := by simp
    have e2 : (((hi - lo).toNat : Nat) : Int) - ((0 : Nat) : Int) = Builtin.Range.rangeSize lo hi 1 := by rw [rangeSize_one]; split <;> omega
    show IsRangeIter _ _ (lo + ((0 : Nat) : Int) * 1) ((((hi - lo).toNat : Nat) : Int) - ((0 : Nat) : Int)) 1
    rw [e1, e2]
    exact Heap.get?_push_size _ rfl
  · have e : b = (s.heap.push { cls := .type "range", data := .fields #[.int lo t, .int hi u, .int 1 v] }).objs.size := by simpa using hb
    subst e
    exact I1.fpOk (Nat.le_refl _) (I1.hok.fresh (Nat.le_refl _))
noncomputable def iRng1 (ta : TA) : TI := fun σ H R => ta σ H fun vs H1 => ∃ j : Int, vs = [.int j] ∧ -(2 ^ 62) ≤ j ∧ j < 2 ^ 62 ∧ R (Itr 0 j.toNat) H1
noncomputable def iRng2 (ta : TA) : TI := fun σ H R => ta σ H fun vs H1 => ∃ i j : Int, vs = [.int i, .int j] ∧ (-(2 ^ 62) ≤ i ∧ i < 2 ^ 62 ∧ -(2 ^ 62) ≤ j ∧ j < 2 ^ 62) ∧ R (Itr i (j - i).toNat) H1
theorem pi_range1 {a : Expr} {ta : TA} {p pos : Pos} (hg : Gl X "range") (hm : X.mg "range" = none) (ha : PA X [a] ta) (hs : starEach [a] X.env = [(false, eval a X.env)] := by rfl) : PI X tg (.Call (.Name "range" p) [a] [] pos) (iRng1 ta) := by
  intro pins s σ H R I h
  refine Call_ (ld_blt I hg hm boot_range (PyProof.Rows.callWith_type1 (thn (ha pos pins s σ H _ I h) fun us s1 ⟨vs, H1, I1, r1, q1⟩ => ?_) hs rfl))
  obtain ⟨j, e, q1, q2, q⟩ := q1
  subst e
  cases r1 with
  | cons r rr =>
    cases rr
    obtain ⟨t, rfl⟩ := r
    exact call_range_1 (range_it I1 (by omega) (by omega) q1 q2 (by simpa using q))
/-! ### for -/
/-- W: the invariant by the turn and a measure; N: what the body is to reach -/
noncomputable def tFor (wi : TI) (g : TG) (tb : TS) : TS := fun D σ H => wi σ H fun J H1 => ∃ W : Nat → Nat → St → Hp → Prop, (∃ m, W 0 m σ H1) ∧ ∀ i m σ H, W i m σ H →
  (J.stop i H ∧ D.nx σ H) ∨ (J.go i H ∧ ∃ N : St → Hp → Prop, (∀ σ' H', N σ' H' → ∃ m', m' < m ∧ W (i + 1) m' σ' H') ∧ ∀ x H', J.yld i H x H' → g x σ H' fun σ2 H2 => tb { D with nx := N, ct := N, bk := D.nx } σ2 H2)
/-- the records at fp as they stand -/
noncomputable def pinsAt (fp : List Addr) (h : Heap) : List (Addr × Obj) := fp.filterMap fun b => (h.get? b).map fun o => (b, o)
theorem mem_pinsAt {fp : List Addr} {h : Heap} {b : Addr} {o : Obj} (hb : b ∈ fp) (e : h.get? b = some o) : (b, o) ∈ pinsAt fp h := List.mem_filterMap.mpr ⟨b, hb, by rw [e]; rfl⟩
theorem of_pinsAt {fp : List Addr} {h : Heap} {p : Addr × Obj} (hp : p ∈ pinsAt fp h) : p.1 ∈ fp ∧ h.get? p.1 = some p.2 := by
  obtain ⟨b, hb, e⟩ := List.mem_filterMap.mp hp
  cases q : h.get? b with
  | none => rw [q] at e; cases e
  | some o =>
    rw [q] at e
    have e' : (b, o) = p := Option.some.inj e
    subst e'
    exact ⟨hb, q⟩
theorem Inv.pinned {pins : List (Addr × Obj)} {σ : St} {H : Hp} {s : Shared} {fp : List Addr} (I : Inv X pins σ H s) (hf : ∀ b ∈ fp, FpOk X pins H b) (ho : ∀ b ∈ fp, ∃ o, s.heap.get? b = some o ∧ ∀ v, o.data ≠ .cell v) : Inv X (pins ++ pinsAt fp s.heap) σ H s :=
  I.pins_of fun p hp => (List.mem_append.mp hp).elim (fun z => I.pin p (List.mem_append_right _ z)) fun z => by
    obtain ⟨hb, e⟩ := of_pinsAt z
    obtain ⟨f0, f1, f2, _⟩ := hf p.1 hb
    obtain ⟨o, e', d⟩ := ho p.1 hb
    rw [e] at e'; cases e'
    exact ⟨e, f0, f1, f2, d⟩
theorem Inv.unpinned {pins pl : List (Addr × Obj)} {σ : St} {H : Hp} {s : Shared} (I : Inv X (pins ++ pl) σ H s) : Inv X pins σ H s := I.pins_of fun p hp => I.pin p (List.mem_append_right _ (List.mem_append_left _ hp))
theorem ps_for {iter : Expr} {body : List Stmt} {wi : TI} {g : TG} {tb : TS} {pos : Pos} (hp : PassesOwn (model X.prog X.w) X.A X.env X.xe) (hc : X.calm = true) (hi : PI X tg iter wi) (hg : PG X tg g) (hb : PSs X body tb)
    (hs : ∀ x, foldedSetIterable iter X.env x = pure x := by intro _; rfl) : PS X (.For tg iter body [] pos) (tFor wi g tb) := by
  intro pins s σ H D I h
  refine wpAny_For (thn (hi pins s σ H _ I h) fun v s1 h1 => thn h1 fun itv s2 h2 => ?_) hs
  obtain ⟨it, fp, tn, J, H2, e, I2, T, st2, f2, W, ⟨m0, w0⟩, turn⟩ := h2
  subst e
  -- what stays true of the iterator's objects through the loop
  have stat : ∀ {H' : Hp}, (∀ b ∈ fp, H' b = none) → ∀ b ∈ fp, FpOk X pins H' b := fun hn b hb => ⟨hn b hb, (f2 b hb).2⟩
  refine codeAny_forLoop_any (fun n s' => ∃ i σ' H', Inv X pins σ' H' s' ∧ tn i s'.heap ∧ (∀ b ∈ fp, H' b = none) ∧ W i n σ' H') ?_ m0 ⟨0, σ, H2, I2, st2, fun b hb => (f2 b hb).1, w0⟩
  rintro n s3 ⟨i, σ3, H3, I3, st3, fr3, w3⟩
  rcases turn i n σ3 H3 w3 with ⟨stop, qn⟩ | ⟨go, N, hN, step⟩
  · refine wpAny_passesOwn hp (thn (T.done X rfl rfl rfl hc i pins s3 σ3 H3 X.xe I3 (stat fr3) st3 stop) fun r s4 ⟨hr, I4⟩ => ?_)
    subst hr
    exact wpAny_execs_nil ⟨σ3, H3, I4, qn⟩
  · refine wpAny_passesOwn hp (thn (T.item X rfl rfl rfl hc i pins s3 σ3 H3 X.xe I3 (stat fr3) st3 go) fun r s4 ⟨u, hr, h4⟩ => ?_)
    subst hr
    refine wpAny_passesOwn hp (thn h4 fun _ s5 ⟨x, H5, I5, r5, y5, st5, fr5⟩ => ?_)
    have I5' := I5.pinned (stat fr5) (T.obj _ _ st5)
    refine wpAny_passesOwn hp (thn (hg _ s5 σ3 H5 x u _ I5' r5 (step x H5 y5)) fun _ s6 ⟨σ6, H6, I6, q6⟩ => ?_)
    refine wpAny_passesOwn hp (thn (hb _ s6 σ6 H6 _ I6 q6) fun f s7 q7 => ?_)
    have again : ∀ {σ7 : St} {H7 : Hp}, Inv X (pins ++ pinsAt fp s5.heap) σ7 H7 s7 → N σ7 H7 → ∃ m, m < n ∧ ∃ i σ' H', Inv X pins σ' H' s7 ∧ tn i s7.heap ∧ (∀ b ∈ fp, H' b = none) ∧ W i m σ' H' := fun {σ7 H7} I7 n7 => by
      obtain ⟨m', hm, w7⟩ := hN σ7 H7 n7
      refine ⟨m', hm, i + 1, σ7, H7, I7.unpinned, T.keep _ _ _ st5 fun b hb o e => (I7.pin (b, o) (List.mem_append_right _ (List.mem_append_right _ (mem_pinsAt hb e)))).1, fun b hb => ?_, w7⟩
      obtain ⟨o, e, d⟩ := T.obj _ _ st5 b hb
      exact (I7.pin (b, o) (List.mem_append_right _ (List.mem_append_right _ (mem_pinsAt hb e)))).2.1
    cases f with
    | next => obtain ⟨σ7, H7, I7, n7⟩ := q7; exact again I7 n7
    | cont => obtain ⟨σ7, H7, I7, n7⟩ := q7; exact again I7 n7
    | brk => obtain ⟨σ7, H7, I7, q7⟩ := q7; exact ⟨σ7, H7, I7.unpinned, q7⟩
    | ret v => obtain ⟨x7, σ7, H7, I7, r7, q7⟩ := q7; exact ⟨x7, σ7, H7, I7.unpinned, r7, q7⟩
end

/-! ### the forms one uses -/
/-- while, by a word and a measure of the state -/
theorem while_by {c : TT} {tb : TS} {D : Ends} {σ : St} {H : Hp} (Pv : St → Hp → Prop) (μ : St → Hp → Nat) (h0 : Pv σ H)
    (hs : ∀ σ H, Pv σ H → c σ H fun b H1 => if b = true then tb { D with nx := fun σ' H' => Pv σ' H' ∧ μ σ' H' < μ σ H, ct := fun σ' H' => Pv σ' H' ∧ μ σ' H' < μ σ H, bk := D.nx } σ H1 else D.nx σ H1)
    (mono : ∀ σ H Q Q', (∀ b H1, Q b H1 → Q' b H1) → c σ H Q → c σ H Q') : tWhile c tb D σ H := by
  refine ⟨fun m σ H => m = μ σ H ∧ Pv σ H, ⟨_, rfl, h0⟩, ?_⟩
  rintro m σ H ⟨rfl, p⟩
  refine mono σ H _ _ (fun b H1 q => ?_) (hs σ H p)
  cases b with
  | true => exact ⟨_, fun σ' H' ⟨p', l⟩ => ⟨_, l, rfl, p'⟩, q⟩
  | false => exact q
end L2

namespace L2
open PySem PySem.Spec PyProof.Rows

abbrev R2 := V → V → Hp → VK → Prop
/-- a two-place operation on values: f is binaryOp op, inplaceOp op or compareOp op -/
noncomputable def OpR (X : Cx) (f : Value → Value → Sem Value) (r : R2) : Prop :=
  ∀ (pins : List (Addr × Obj)) (s : Shared) (σ : St) (H : Hp) (x y : V) (v u : Value) (Q : VK), Inv X pins σ H s → RelV x v → RelV y u → r x y H Q →
    wpAny (model X.prog X.w) X.A (f v u) (EP X pins σ Q) X.xe s
/-- a one-place operation -/
noncomputable def UnR (X : Cx) (f : Value → Sem Value) (r : V → Hp → VK → Prop) : Prop :=
  ∀ (pins : List (Addr × Obj)) (s : Shared) (σ : St) (H : Hp) (x : V) (v : Value) (Q : VK), Inv X pins σ H s → RelV x v → r x H Q →
    wpAny (model X.prog X.w) X.A (f v) (EP X pins σ Q) X.xe s
/-- a call of a value that is known (a builtin, a type) with values -/
noncomputable def CallR (X : Cx) (f : Value) (r : List V → Hp → VK → Prop) : Prop :=
  ∀ (pins : List (Addr × Obj)) (s : Shared) (σ : St) (H : Hp) (xs : List V) (us : List Value) (Q : VK), Inv X pins σ H s → Vals xs us → r xs H Q →
    wpAny (model X.prog X.w) X.A (call f us) (EP X pins σ Q) X.xe s
/-- a value's truth -/
noncomputable def TruR (X : Cx) (r : V → Hp → (Bool → Hp → Prop) → Prop) : Prop :=
  ∀ (pins : List (Addr × Obj)) (s : Shared) (σ : St) (H : Hp) (x : V) (v : Value) (Q : Bool → Hp → Prop), Inv X pins σ H s → RelV x v → r x H Q →
    wpAny (model X.prog X.w) X.A (truthy v) (TP X pins σ Q) X.xe s

noncomputable def tOp (r : R2) (ta tb : TE) : TE := fun σ H Q => ta σ H fun x H1 => tb σ H1 fun y H2 => r x y H2 Q
noncomputable def tUn (r : V → Hp → VK → Prop) (ta : TE) : TE := fun σ H Q => ta σ H fun x H1 => r x H1 Q
/-- ints in, under C, and a value out -/
noncomputable def rI (C : Int → Int → Prop) (g : Int → Int → V) : R2 := fun x y H Q => ∃ i j, x = .int i ∧ y = .int j ∧ C i j ∧ Q (g i j) H
noncomputable def rI0 (g : Int → Int → V) : R2 := fun x y H Q => ∃ i j, x = .int i ∧ y = .int j ∧ Q (g i j) H
noncomputable def rU (g : Int → V) : V → Hp → VK → Prop := fun x H Q => ∃ i, x = .int i ∧ Q (g i) H

section
variable {X : Cx} {a b c : Expr} {ta tb tc : TE} {pos : Pos}

theorem binT (ha : PE X a ta) (hb : PE X b tb) {pins : List (Addr × Obj)} {s : Shared} {σ : St} {H : Hp} {R : V → V → Hp → Prop} (I : Inv X pins σ H s)
    (h : ta σ H fun x H1 => tb σ H1 fun y H2 => R x y H2) {Q : Value → Shared → Prop} {f : Value → Value → Sem Value}
    (hf : ∀ v u s2 x y H2, Inv X pins σ H2 s2 → RelV x v → RelV y u → R x y H2 → wpAny (model X.prog X.w) X.A (f v u) Q X.xe s2) :
    wpAny (model X.prog X.w) X.A (eval a X.env) (fun v s₁ => wpAny (model X.prog X.w) X.A (eval b X.env) (fun u s₂ => wpAny (model X.prog X.w) X.A (f v u) Q X.xe s₂) X.xe s₁) X.xe s := by
  refine thn (ha pins s σ H _ I h) fun v s1 ⟨x, H1, I1, r1, q1⟩ => ?_
  refine thn (hb pins s1 σ H1 _ I1 q1) fun u s2 ⟨y, H2, I2, r2, q2⟩ => ?_
  exact hf v u s2 x y H2 I2 r1 r2 q2

theorem pe_op {op : Operator} {r : R2} (ho : OpR X (binaryOp op) r) (ha : PE X a ta) (hb : PE X b tb) : PE X (.BinOp a op b pos) (tOp r ta tb) := by
  intro pins s σ H Q I h
  exact wpAny_BinOp (binT ha hb I h fun v u s2 x y H2 I2 rx ry q => ho pins s2 σ H2 x y v u Q I2 rx ry q)
/-! ### ints -/
theorem opI {f : Value → Value → Sem Value} {C : Int → Int → Prop} {g : Int → Int → Int}
    (rule : ∀ (i j : Int) (t u : Tok) (s : Shared) (Q : Value → Shared → Prop) (E : Value → Shared → Prop), C i j → Q (.int (g i j) s.toks) { s with toks := s.toks + 1 } → wpAny (model X.prog X.w) X.A (f (.int i t) (.int j u)) Q E s) :
    OpR X f (rI C fun i j => .int (g i j)) := by
  intro pins s σ H x y v u Q I rx ry h
  obtain ⟨i, j, rfl, rfl, hc, q⟩ := h
  obtain ⟨t, rfl⟩ := rx
  obtain ⟨t', rfl⟩ := ry
  exact rule i j t t' s _ _ hc ⟨.int (g i j), H, I.tok _, ⟨_, rfl⟩, q⟩
theorem opI0 {f : Value → Value → Sem Value} {g : Int → Int → Int}
    (rule : ∀ (i j : Int) (t u : Tok) (s : Shared) (Q : Value → Shared → Prop) (E : Value → Shared → Prop), Q (.int (g i j) s.toks) { s with toks := s.toks + 1 } → wpAny (model X.prog X.w) X.A (f (.int i t) (.int j u)) Q E s) :
    OpR X f (rI0 fun i j => .int (g i j)) := by
  intro pins s σ H x y v u Q I rx ry h
  obtain ⟨i, j, rfl, rfl, q⟩ := h
  obtain ⟨t, rfl⟩ := rx
  obtain ⟨t', rfl⟩ := ry
  exact rule i j t t' s _ _ ⟨.int (g i j), H, I.tok _, ⟨_, rfl⟩, q⟩
theorem opB0 {f : Value → Value → Sem Value} {g : Int → Int → Bool}
    (rule : ∀ (i j : Int) (t u : Tok) (s : Shared) (Q : Value → Shared → Prop) (E : Value → Shared → Prop), Q (.bool (g i j)) s → wpAny (model X.prog X.w) X.A (f (.int i t) (.int j u)) Q E s) :
    OpR X f (rI0 fun i j => .bl (g i j)) := by
  intro pins s σ H x y v u Q I rx ry h
  obtain ⟨i, j, rfl, rfl, q⟩ := h
  obtain ⟨t, rfl⟩ := rx
  obtain ⟨t', rfl⟩ := ry
  exact rule i j t t' s _ _ ⟨.bl (g i j), H, I, rfl, q⟩

noncomputable def CDiv (i j : Int) : Prop := 0 < j ∧ j < 1073741824
noncomputable def CDivN (i j : Int) : Prop := j ≠ 0 ∧ j.natAbs < 1073741824
noncomputable def CPow (i j : Int) : Prop := 0 ≤ j ∧ j ≤ 1000000 ∧ i.natAbs < 2 ^ 64
noncomputable def CMul (i j : Int) : Prop := (-(2 ^ 64) < i ∧ i < 2 ^ 64) ∨ (-(2 ^ 64) < j ∧ j < 2 ^ 64)
theorem CMul.ok {i j : Int} (h : CMul i j) : IntMulOk i j := by
  rcases h with ⟨h1, h2⟩ | ⟨h1, h2⟩
  · exact .of_left (intBits_le_64 h1 h2)
  · exact .of_right (intBits_le_64 h1 h2)
theorem op_add : OpR X (binaryOp .Add) (rI0 fun i j => .int (i + j)) := opI0 fun _ _ _ _ _ _ _ q => add_int q
theorem op_sub : OpR X (binaryOp .Sub) (rI0 fun i j => .int (i - j)) := opI0 fun _ _ _ _ _ _ _ q => sub_int q
/-- % by a positive divisor of any size -/
theorem op_mod : OpR X (binaryOp .Mod) (rI (fun _ j => 0 < j) fun i j => .int (i % j)) := opI fun i j _ _ _ _ _ hc q => by
  have h1 : (0 : Int) < j := hc
  exact mod_int' (by omega) (by rw [Int.fmod_eq_emod_of_nonneg i (by omega)]; exact q)
theorem op_pow : OpR X (binaryOp .Pow) (rI CPow fun i j => .int (i ^ j.toNat)) := opI fun _ _ _ _ _ _ _ hc q => pow_int_small hc.1 hc.2.1 hc.2.2 q
/-! ### bools among ints: n += (a < b) -/
end

/-! ### comparisons -/
/-- the scalars that == tells apart as data does -/
noncomputable def scal : V → V → Bool
  | .non, .non => true | .non, .int _ => true | .int _, .non => true | .non, .bl _ => true | .bl _, .non => true | .non, .str _ => true | .str _, .non => true
  | .int _, .int _ => true | .bl _, .bl _ => true | .str _, .str _ => true | .byt _, .byt _ => true
  | .int _, .str _ => true | .str _, .int _ => true | .bl _, .str _ => true | .str _, .bl _ => true
  | _, _ => false
noncomputable def rEq : R2 := fun x y H Q => scal x y = true ∧ Q (.bl (decide (x = y))) H
noncomputable def rNe : R2 := fun x y H Q => scal x y = true ∧ Q (.bl (!decide (x = y))) H

theorem dec_int {i j : Int} : decide (V.int i = V.int j) = (i == j) := by
  rw [Bool.eq_iff_iff]
  simp
theorem dec_bl {i j : Bool} : decide (V.bl i = V.bl j) = (i == j) := by
  rw [Bool.eq_iff_iff]
  simp
theorem dec_str {i j : Str} : decide (V.str i = V.str j) = (i == j) := by
  rw [Bool.eq_iff_iff]
  simp
theorem dec_byt {i j : Array UInt8} : decide (V.byt i = V.byt j) = (i.toList == j.toList) := by
  rw [Bool.eq_iff_iff]
  cases i
  cases j
  simp

section
variable {X : Cx} {a b c : Expr} {ta tb tc : TE} {pos : Pos}
theorem fin_bl {pins : List (Addr × Obj)} {σ : St} {H : Hp} {s : Shared} {Q : VK} {k k' : Bool} (I : Inv X pins σ H s) (q : Q (.bl k) H) (e : k = k') : EP X pins σ Q (.bool k') s := by
  subst e
  exact ⟨.bl k, H, I, rfl, q⟩
theorem op_eq : OpR X (compareOp .Eq) rEq := by
  intro pins s σ H x y v u Q I rx ry h
  obtain ⟨hs, q⟩ := h
  cases x with
  | non =>
    cases rx
    cases y with
    | non => cases ry; exact PySem.EqNone.eq_none_none (fin_bl I q (by simp))
    | bl j => cases ry; exact PySem.EqNone.eq_none_bool (fin_bl I q (by simp))
    | int j => obtain ⟨t', rfl⟩ := ry; exact PySem.EqNone.eq_none_int (fin_bl I q (by simp))
    | str j => obtain ⟨t', rfl⟩ := ry; exact PySem.EqNone.eq_none_str (fin_bl I q (by simp))
    | _ => exact absurd (show false = true from hs) Bool.false_ne_true
  | bl i =>
    cases rx
    cases y with
    | non => cases ry; exact PySem.EqNone.eq_bool_none (fin_bl I q (by simp))
    | bl j => cases ry; exact eq_bool (fin_bl I q dec_bl)
    | str j => obtain ⟨t', rfl⟩ := ry; exact PySem.EqMixed.eq_bool_str (fin_bl I q (by simp))
    | _ => exact absurd (show false = true from hs) Bool.false_ne_true
  | int i =>
    obtain ⟨t, rfl⟩ := rx
    cases y with
    | non => cases ry; exact PySem.EqNone.eq_int_none (fin_bl I q (by simp))
    | int j => obtain ⟨t', rfl⟩ := ry; exact eq_int (fin_bl I q dec_int)
    | str j => obtain ⟨t', rfl⟩ := ry; exact PySem.EqMixed.eq_int_str (fin_bl I q (by simp))
    | _ => exact absurd (show false = true from hs) Bool.false_ne_true
  | str i =>
    obtain ⟨t, rfl⟩ := rx
    cases y with
    | non => cases ry; exact PySem.EqNone.eq_str_none (fin_bl I q (by simp))
    | bl j => cases ry; exact PySem.EqMixed.eq_str_bool (fin_bl I q (by simp))
    | int j => obtain ⟨t', rfl⟩ := ry; exact PySem.EqMixed.eq_str_int (fin_bl I q (by simp))
    | str j => obtain ⟨t', rfl⟩ := ry; exact eq_str (fin_bl I q dec_str)
    | _ => exact absurd (show false = true from hs) Bool.false_ne_true
  | byt i =>
    obtain ⟨t, rfl⟩ := rx
    cases y with
    | byt j => obtain ⟨t', rfl⟩ := ry; exact PySem.W.eq_bytes (fin_bl I q dec_byt)
    | _ => exact absurd (show false = true from hs) Bool.false_ne_true
  | _ => cases y <;> exact absurd (show false = true from hs) Bool.false_ne_true
theorem op_ne : OpR X (compareOp .NotEq) rNe := by
  intro pins s σ H x y v u Q I rx ry h
  obtain ⟨hs, q⟩ := h
  cases x with
  | non =>
    cases rx
    cases y with
    | non => cases ry; exact PySem.EqNone.ne_none_none (fin_bl I q (by simp))
    | bl j => cases ry; exact PySem.EqNone.ne_none_bool (fin_bl I q (by simp))
    | int j => obtain ⟨t', rfl⟩ := ry; exact PySem.EqNone.ne_none_int (fin_bl I q (by simp))
    | str j => obtain ⟨t', rfl⟩ := ry; exact PySem.EqNone.ne_none_str (fin_bl I q (by simp))
    | _ => exact absurd (show false = true from hs) Bool.false_ne_true
  | bl i =>
    cases rx
    cases y with
    | non => cases ry; exact PySem.EqNone.ne_bool_none (fin_bl I q (by simp))
    | bl j => cases ry; exact ne_bool (fin_bl I q (congrArg not dec_bl))
    | str j => obtain ⟨t', rfl⟩ := ry; exact PySem.EqMixed.ne_bool_str (fin_bl I q (by simp))
    | _ => exact absurd (show false = true from hs) Bool.false_ne_true
  | int i =>
    obtain ⟨t, rfl⟩ := rx
    cases y with
    | non => cases ry; exact PySem.EqNone.ne_int_none (fin_bl I q (by simp))
    | int j => obtain ⟨t', rfl⟩ := ry; exact ne_int (fin_bl I q (congrArg not dec_int))
    | str j => obtain ⟨t', rfl⟩ := ry; exact PySem.EqMixed.ne_int_str (fin_bl I q (by simp))
    | _ => exact absurd (show false = true from hs) Bool.false_ne_true
  | str i =>
    obtain ⟨t, rfl⟩ := rx
    cases y with
    | non => cases ry; exact PySem.EqNone.ne_str_none (fin_bl I q (by simp))
    | bl j => cases ry; exact PySem.EqMixed.ne_str_bool (fin_bl I q (by simp))
    | int j => obtain ⟨t', rfl⟩ := ry; exact PySem.EqMixed.ne_str_int (fin_bl I q (by simp))
    | str j => obtain ⟨t', rfl⟩ := ry; exact ne_str (fin_bl I q (congrArg not dec_str))
    | _ => exact absurd (show false = true from hs) Bool.false_ne_true
  | byt i =>
    obtain ⟨t, rfl⟩ := rx
    cases y with
    | byt j => obtain ⟨t', rfl⟩ := ry; exact PySem.W.ne_bytes (fin_bl I q (congrArg not dec_byt))
    | _ => exact absurd (show false = true from hs) Bool.false_ne_true
  | _ => cases y <;> exact absurd (show false = true from hs) Bool.false_ne_true

theorem op_lt : OpR X (compareOp .Lt) (rI0 fun i j => .bl (decide (i < j))) := opB0 fun _ _ _ _ _ _ _ q => lt_int q
theorem op_gt : OpR X (compareOp .Gt) (rI0 fun i j => .bl (decide (j < i))) := opB0 fun _ _ _ _ _ _ _ q => gt_int q
/-- is, is not of two objects that are tracked lists or instances -/
noncomputable def isObj : HO → Bool
  | .lst _ => true
  | .ins _ _ _ => true
  | _ => false
/-- two rules for one operation: by cases -/
theorem OpR.or {f : Value → Value → Sem Value} {r r' : R2} (h : OpR X f r) (h' : OpR X f r') : OpR X f (fun x y H Q => r x y H Q ∨ r' x y H Q) := by
  intro pins s σ H x y v u Q I rx ry q
  rcases q with q | q
  · exact h pins s σ H x y v u Q I rx ry q
  · exact h' pins s σ H x y v u Q I rx ry q

theorem nomark (b : Expr) {op : CmpOp} (h : op ≠ .In := by decide) (h2 : op ≠ .NotIn := by decide) : behindInMarks op b = false := by
  have e1 : (op == CmpOp.In) = false := by cases op <;> first | rfl | exact absurd rfl h
  have e2 : (op == CmpOp.NotIn) = false := by cases op <;> first | rfl | exact absurd rfl h2
  cases b <;> simp [behindInMarks, e1, e2]
/-- a comparison as a value; hm: nomark b, or (for in, not in) by with_unfolding_all rfl -/
theorem pe_cmpR {op : CmpOp} {r : R2} (ho : OpR X (compareOp op) r) (ha : PE X a ta) (hb : PE X b tb) (hm : behindInMarks op b = false) : PE X (.Compare a [op] [b] pos) (tOp r ta tb) := by
  intro pins s σ H Q I h
  exact wpAny_Compare1 (binT ha hb I h fun v u s2 x y H2 I2 rx ry q => ho pins s2 σ H2 x y v u Q I2 rx ry q) hm
/-- a reading of a value as a test -/
noncomputable def tTest (t : TE) : TT := fun σ H Q => t σ H fun x H' => ∃ k, x = .bl k ∧ Q k H'
theorem pt_cmpR {op : CmpOp} {r : R2} (ho : OpR X (compareOp op) r) (ha : PE X a ta) (hb : PE X b tb) (hm : behindInMarks op b = false) : PT X (.Compare a [op] [b] pos) (tTest (tOp r ta tb)) := by
  intro pins s σ H Q I h
  refine wpAny_isTrue_Compare1 (thn (ha pins s σ H _ I h) fun v s1 ⟨x, H1, I1, r1, q1⟩ => thn (hb pins s1 σ H1 _ I1 q1) fun u s2 ⟨y, H2, I2, r2, q2⟩ =>
    thn (ho pins s2 σ H2 x y v u _ I2 r1 r2 q2) fun c s3 ⟨z, H3, I3, r3, k, e, q3⟩ => ?_) hm
  subst e
  cases r3
  exact wpAny_truthy_bool ⟨H3, I3, q3⟩
/-- a op1 b op2 c -/
noncomputable def tChain (r r' : R2) (ta tb tc : TE) : TE := fun σ H Q => ta σ H fun x H1 => tb σ H1 fun y H2 => r x y H2 fun z H3 => ∃ k, z = .bl k ∧
  (if k = true then tc σ H3 fun w' H4 => r' y w' H4 Q else Q (.bl false) H3)
/-! ### truth -/
/-- a value's truth by the abstract heap -/
noncomputable def TruV (K : PySem.W.Frag) (x : V) (H : Hp) (k : Bool) : Prop :=
  match x with
  | .non => k = false
  | .bl b => k = b
  | .int i => k = (i != 0)
  | .str y => y.length ≤ sizeLine ∧ k = ((y.length : Int) != 0)
  | .byt y => y.size ≤ sizeLine ∧ k = ((y.size : Int) != 0)
  | .ref p => (∃ xs, SqL K H p xs ∧ k = !xs.isEmpty) ∨ (∃ xs, SqT K H p xs ∧ k = !xs.isEmpty) ∨ ∃ kvs, H p = some (.dK kvs) ∧ k = !kvs.isEmpty
  | _ => False
theorem line63 : (sizeLine : Nat) < 2 ^ 63 := by rw [sizeLine_eq]; decide
/-! ### strs and bytes -/
noncomputable def PlainIxT (b : Expr) : Prop := ∀ o i, subscripted b false o i = operate [o, i] (getItem o i)
/-! ### scalar builtins, by CallR -/
theorem vals1 {x : V} {us : List Value} (r : Vals [x] us) : ∃ u, us = [u] ∧ RelV x u := by
  cases r with
  | cons r1 r2 => cases r2; exact ⟨_, rfl, r1⟩
theorem vals2 {x y : V} {us : List Value} (r : Vals [x, y] us) : ∃ u w', us = [u, w'] ∧ RelV x u ∧ RelV y w' := by
  cases r with
  | cons r1 r2 =>
    cases r2 with
    | cons r3 r4 => cases r4; exact ⟨_, _, rfl, r1, r3⟩
theorem call_abs : CallR X (.builtin "abs") (fun xs H Q => ∃ i, xs = [.int i] ∧ Q (.int (if i < 0 then -i else i)) H) := by
  intro pins s σ H xs us Q I r h
  obtain ⟨i, rfl, q⟩ := h
  obtain ⟨u, rfl, t, rfl⟩ := vals1 r
  exact call_abs_int fun u tk => ⟨.int (if i < 0 then -i else i), H, I.tok _, ⟨_, rfl⟩, q⟩
/-- len of a str, a bytes, a list, a tuple -/
noncomputable def LenV (K : PySem.W.Frag) (x : V) (H : Hp) (n : Nat) : Prop :=
  match x with
  | .str y => y.length ≤ sizeLine ∧ n = y.length
  | .byt y => y.size ≤ sizeLine ∧ n = y.size
  | .ref p => (∃ xs, SqL K H p xs ∧ n = xs.length) ∨ ∃ xs, SqT K H p xs ∧ n = xs.length
  | _ => False
end
end L2

namespace L2
open PySem PySem.Spec PyProof.Rows

/-! ### an instance, its attributes a map -/
structure ObjM (h : Heap) (x dx C : Addr) (mA : Str → Option Value) : Prop where
  obj : h.get? x = some (PySem.W.instObj C dx)
  ns : h.Ns1 dx mA
  ne : dx ≠ x

theorem lookIn_ns {h : Heap} {dx : Addr} {mA : Str → Option Value} (n : h.Ns1 dx mA) : ∃ od, h.get? dx = some od ∧ ∀ name, PySem.W.lookIn name od = some (mA name) := by
  obtain ⟨o, es, ep, ho, hd, hk, _, hm⟩ := n
  refine ⟨o, ho, fun name => ?_⟩
  have e := hm name
  unfold nsFind findBy at e
  rw [← Array.find?_toList] at e
  unfold PySem.W.lookIn
  rw [hd]
  dsimp only
  split
  · rename_i y q
    rw [q] at e
    exact congrArg some e
  · rename_i q
    rw [q] at e
    have a : es.toList.any (·.refKey) = false := by
      rw [List.any_eq_false]
      intro y hy
      obtain ⟨z, t, hkey⟩ := hk y (Array.mem_toList_iff.mp hy)
      simp [DictEntry.refKey, hkey]
    have a' : ¬ es.toList.any (·.refKey) = true := by rw [a]; exact Bool.false_ne_true
    rw [if_neg a']
    exact congrArg some e

theorem ObjM.look {h : Heap} {x dx C : Addr} {mA : Str → Option Value} (I : ObjM h x dx C mA) : ∃ od, PySem.W.InstAt h x (PySem.W.instObj C dx) C (some od) ∧ ∀ name, PySem.W.lookIn name od = some (mA name) :=
  let ⟨od, ho, hl⟩ := lookIn_ns I.ns
  ⟨od, ⟨I.obj, rfl, rfl, ho⟩, hl⟩

section
variable {prog : Program} {w : World} {A : Around} {E : Value → Shared → Prop} {s : Shared} {K : PySem.W.Frag} {x dx C f : Addr} {mA : Str → Option Value} {name : Str} {v : Value}

theorem get_map {expr : Bool} {Q : Value → Shared → Prop} (X : K.In s.heap) (I : ObjM s.heap x dx C mA) (hg : PySem.W.plainGet K C name = true) (hh : PySem.W.hasDictIn K C = true)
    (ha : PySem.W.findIn K (.ref C) name = some none) (hv : mA name = some v) (hv' : PySem.W.handedIn v = true) (h : Q v { s with toks := s.toks + 1 }) :
    wpAny (model prog w) A (getAttr (.ref x) name expr) Q E s := by
  obtain ⟨od, J, hl⟩ := I.look
  exact PySem.W.get_value X J (PySem.W.plainGet_of hg).1 (PySem.W.findObj_own hh ha rfl (by rw [hl, hv])) hv' h

theorem set_map {ns : List Str} {Q : Unit → Shared → Prop} (X : K.In s.heap) (I : ObjM s.heap x dx C mA)
    (hs : PySem.W.findIn K (.ref C) "__setattr__" = some (some (.builtin "object.__setattr__"))) (hp : PySem.W.plainOver K C = true) (ht : PySem.W.takerIn K C name = some none) (hh : PySem.W.hasDictIn K C = true)
    (hw : PySem.Within mA ns) (hsz : ns.length ≤ sizeLine)
    (h : ∀ h', ObjM h' x dx C (fun y => if y = name then some v else mA y) → Heap.SameBut dx s.heap h' → Q () { s with heap := h', toks := s.toks + 2 }) :
    wpAny (model prog w) A (setAttr (.ref x) name v) Q E s := by
  obtain ⟨od, J, hl⟩ := I.look
  refine PySem.W.set_plain X J hs (PySem.W.osa_open (s := { s with toks := s.toks + 1 }) (r := none) X J hp ht fun b => ?_)
  obtain ⟨cd, hc, hd'⟩ := PySem.W.any_some hh
  have hx : s.heap.get? x = some ⟨.ref C, some dx, .plain, #[]⟩ := I.obj
  refine wpAny_bind (wpAny_pure (wpAny_bind (wpAny_bind (wpAny_loadPart hx (wpAny_bind (PySem.W.Looks.here (s := { s with toks := s.toks + 1 }) (PySem.W.looks_clsIn X hc) ?_))))))
  rw [hd']
  refine wpAny_pure (a := some dx) (wpAny_bind (wpAny_pure (wpAny_bind ?_)))
  refine wpAny_nsSet1 (s := { s with toks := s.toks + 1 }) I.ns fun h' hn2 hs2 => ?_
  obtain ⟨oD, esD, epD, hoD, hdD, hcD⟩ := hn2.count (PySem.Within.cons name v hw)
  refine wpAny_bind (wpAny_lookBehind hoD (by rw [hdD]; exact pastItsLine_dict (Nat.le_trans hcD (by rw [List.length_cons]; omega))) ?_)
  exact wpAny_pure (h _ ⟨(hs2.2 _ (Ne.symm I.ne)).trans I.obj, hn2, I.ne⟩ hs2)

/-- C(..): the dict at the heap's end, the instance behind it; then its __init__ -/
theorem make_map {R : Result → Shared → Prop} {vs : List Value} {kw : List (Str × Value)} (X : K.In s.heap) (hm : PySem.W.makesIn K C = true)
    (hi : PySem.W.findIn K (.ref C) "__init__" = some (some (.ref f))) (hf : PySem.W.typeIn K (.ref f) = some (.type "function"))
    (h : codeAny (model prog w) (A.under (.builtin "type.__call__" ⟨.ref C :: vs, kw⟩)) (.call (.ref f) ⟨.ref (s.heap.objs.size + 1) :: vs, kw⟩) (PySem.W.InitBack (s.heap.objs.size + 1) R)
      { s with heap := (s.heap.push PySem.W.emptyDict).push (PySem.W.instObj C s.heap.objs.size) }) :
    codeAny (model prog w) A (.call (.ref C) ⟨vs, kw⟩) R s := by
  obtain ⟨hh, g, d, t, os⟩ := s
  exact PySem.W.make_core (PySem.W.makes_of X hm) (PySem.W.looks_findIn X hi) (fun self => PySem.W.bind_fn X self hf) (.inl rfl) h
end

/-! ### the attributes as a list of pairs -/
noncomputable def putF (f : Str) (v : V) : List (Str × V) → List (Str × V)
  | [] => [(f, v)]
  | (g, x) :: r => if g = f then (g, v) :: r else (g, x) :: putF f v r
theorem lookup_putF (f g : Str) (v : V) : ∀ fs : List (Str × V), (putF f v fs).lookup g = if g = f then some v else fs.lookup g
  | [] => by
    show List.lookup g [(f, v)] = _
    by_cases h : g = f
    · have hb : (g == f) = true := beq_iff_eq.mpr h
      simp only [List.lookup, hb, if_pos h]
    · have hb : (g == f) = false := beq_eq_false_iff_ne.mpr h
      simp only [List.lookup, hb, if_neg h]
  | (k, x) :: r => by
    have ih := lookup_putF f g v r
    rw [show putF f v ((k, x) :: r) = (if k = f then (k, v) :: r else (k, x) :: putF f v r) from rfl]
    by_cases hk : k = f
    · rw [if_pos hk]
      by_cases h : g = k
      · have hb : (g == k) = true := beq_iff_eq.mpr h
        simp only [List.lookup, hb, if_pos (h.trans hk)]
      · have hb : (g == k) = false := beq_eq_false_iff_ne.mpr h
        simp only [List.lookup, hb, if_neg (fun e : g = f => h (e.trans hk.symm))]
    · rw [if_neg hk]
      by_cases h : g = k
      · have hb : (g == k) = true := beq_iff_eq.mpr h
        simp only [List.lookup, hb, if_neg (fun e : g = f => hk (h.symm.trans e))]
      · have hb : (g == k) = false := beq_eq_false_iff_ne.mpr h
        simp only [List.lookup, hb]
        exact ih
theorem keys_putF (f : Str) (v : V) : ∀ fs : List (Str × V), f ∈ (putF f v fs).map (·.1) ∧ ∀ g, g ∈ fs.map (·.1) → g ∈ (putF f v fs).map (·.1)
  | [] => ⟨by simp [putF], fun g h => by simp at h⟩
  | (k, x) :: r => by
    obtain ⟨i1, i2⟩ := keys_putF f v r
    rw [show putF f v ((k, x) :: r) = (if k = f then (k, v) :: r else (k, x) :: putF f v r) from rfl]
    by_cases hk : k = f
    · rw [if_pos hk]
      subst hk
      exact ⟨by simp, fun g h => by simpa using h⟩
    · rw [if_neg hk]
      refine ⟨?_, fun g h => ?_⟩
      · rw [List.map_cons]
        exact List.mem_cons_of_mem _ i1
      · rw [List.map_cons] at h ⊢
        rcases List.mem_cons.mp h with e | e
        · exact List.mem_cons.mpr (.inl e)
        · exact List.mem_cons_of_mem _ (i2 g e)
theorem length_putF (f : Str) (v : V) : ∀ fs : List (Str × V), (putF f v fs).length ≤ fs.length + 1
  | [] => by simp [putF]
  | (k, x) :: r => by
    have ih := length_putF f v r
    rw [show putF f v ((k, x) :: r) = (if k = f then (k, v) :: r else (k, x) :: putF f v r) from rfl]
    by_cases hk : k = f
    · rw [if_pos hk, List.length_cons, List.length_cons]; omega
    · rw [if_neg hk, List.length_cons, List.length_cons]; omega

theorem RelO.some_of {v : V} {o : Option Value} (r : RelO (some v) o) : ∃ u, o = some u ∧ RelV v u := by
  cases o with
  | none => exact (show False from r).elim
  | some u => exact ⟨u, rfl, r⟩
theorem RelO.none_of {o : Option Value} (r : RelO none o) : o = none := by
  cases o with
  | none => rfl
  | some u => exact (show False from r).elim
theorem handed_of {v : V} {u : Value} (r : RelV v u) : PySem.W.handedIn u = true := by
  cases v with
  | non => cases (show u = Value.none from r); rfl
  | bl b => cases (show u = Value.bool b from r); rfl
  | int i => obtain ⟨t, e⟩ := (show ∃ t, u = Value.int i t from r); cases e; rfl
  | str x => obtain ⟨t, e⟩ := (show ∃ t, u = Value.str x t from r); cases e; rfl
  | byt b => obtain ⟨t, e⟩ := (show ∃ t, u = Value.bytes b t from r); cases e; rfl
  | flt b => obtain ⟨t, e⟩ := (show ∃ t, u = Value.float b t from r); cases e; rfl
  | ref a => cases (show u = Value.ref a from r); rfl
  | ty n => cases (show u = Value.type n from r); rfl

section
variable {P : Program} {w : World} {H H' : Hp} {h h' : Heap} {a C dx : Addr} {fs fs' : List (Str × V)}
theorem ins_get (hok : HOk P w H h) (e : H a = some (.ins C dx fs)) : ∃ mA, ObjM h a dx C mA ∧ (∀ f, RelO (fs.lookup f) (mA f)) ∧ PySem.Within mA (fs.map (·.1)) ∧ fs.length ≤ 1000 ∧ H dx = some (.own a) := by
  obtain ⟨d, z, ne, ob, mA, n, r, q⟩ := (show ObjOk P w H h a (.ins C dx fs) from hok a _ e)
  exact ⟨mA, ⟨ob, n, ne⟩, r, q, z, d⟩
end

/-! ### what of the text a class must have -/
structure Cls (K : PySem.W.Frag) (C : Addr) : Prop where
  pg : PySem.W.plainGet K C Str.empty = true
  hd : PySem.W.hasDictIn K C = true
  po : PySem.W.plainOver K C = true
  sa : PySem.W.findIn K (.ref C) "__setattr__" = some (some (.builtin "object.__setattr__"))
theorem Cls.get {K : PySem.W.Frag} {C : Addr} (c : Cls K C) (f : Str) : PySem.W.plainGet K C f = true := c.pg
/-- no class of it has the name -/
noncomputable def NoAttr (K : PySem.W.Frag) (C : Addr) (f : Str) : Prop := PySem.W.findIn K (.ref C) f = some none
theorem NoAttr.taker {K : PySem.W.Frag} {C : Addr} {f : Str} (n : NoAttr K C f) : PySem.W.takerIn K C f = some none := by
  unfold PySem.W.takerIn
  rw [show PySem.W.findIn K (.ref C) f = some none from n]
  rfl
/-- a constant of the class -/
structure Con (K : PySem.W.Frag) (C : Addr) (f : Str) (v : V) (u : Value) : Prop where
  at_ : PySem.W.findIn K (.ref C) f = some (some u)
  rel : RelV v u
  get : PySem.W.specialIn K u "__get__" = some none
  cp : PySem.W.copiedNames.contains f = false
/-- a method: a plain def of the class or of one above it -/
structure Meth (K : PySem.W.Frag) (C : Addr) (m : Str) (f : Addr) : Prop where
  at_ : PySem.W.findIn K (.ref C) m = some (some (.ref f))
  fn : PySem.W.isFn K (.ref f) = true
  kp : PySem.W.keepIn K (.ref f) = true

section
variable {X : Cx} {pins : List (Addr × Obj)} {σ : St} {H : Hp} {s : Shared} {a C dx : Addr} {fs : List (Str × V)} {f : Str} {v : V} {A : Around} {E : Value → Shared → Prop}

theorem getattr_ok {b : Bool} {Q : Value → Shared → Prop} (I : Inv X pins σ H s) (e : H a = some (.ins C dx fs)) (c : Cls X.K C) (n : NoAttr X.K C f) (l : fs.lookup f = some v)
    (h : ∀ u s', Inv X pins σ H s' → RelV v u → Q u s') : wpAny (model X.prog X.w) A (getAttr (.ref a) f b) Q E s := by
  obtain ⟨mA, O, r, _, _, _⟩ := ins_get I.hok e
  obtain ⟨u, hu, ru⟩ := RelO.some_of (v := v) (o := mA f) (by rw [← l]; exact r f)
  exact get_map I.kIn O (c.get f) c.hd n hu (handed_of ru) (h u _ (I.tok _) ru)

theorem setattr_ok {y : V} {u : Value} {Q : Unit → Shared → Prop} (I : Inv X pins σ H s) (e : H a = some (.ins C dx fs)) (c : Cls X.K C) (n : NoAttr X.K C f) (hl : fs.length < 1000) (ry : RelV y u)
    (h : ∀ s', Inv X pins σ (upd H a (.ins C dx (putF f y fs))) s' → Q () s') : wpAny (model X.prog X.w) A (setAttr (.ref a) f u) Q E s := by
  obtain ⟨mA, O, r, wi, _, ho⟩ := ins_get I.hok e
  have hz : (fs.map (·.1)).length ≤ sizeLine := by rw [List.length_map, sizeLine_eq]; omega
  refine set_map I.kIn O c.sa c.po n.taker c.hd wi hz fun h' O' sb => h _ ?_
  have hd : ∃ o, h'.get? dx = some o := let ⟨o, _, _, e', _⟩ := O'.ns; ⟨o, e'⟩
  refine I.write (x := a) (e := dx) (by rw [e]; exact True.intro) (.inr ho) (fun b q hb z => (sb.2 b hb).trans z) hd ?_
  refine ⟨by rw [upd_ne O.ne]; exact ho, ?_, O.ne, O'.obj, _, O'.ns, fun g => ?_, fun g hg => ?_⟩
  · have := length_putF f y fs; omega
  · show RelO ((putF f y fs).lookup g) (if g = f then some u else mA g)
    rw [lookup_putF]
    by_cases q : g = f
    · rw [if_pos q, if_pos q]; exact ry
    · rw [if_neg q, if_neg q]; exact r g
  · by_cases q : g = f
    · rw [q]; exact (keys_putF f y fs).1
    · refine (keys_putF f y fs).2 g (wi g fun z => hg ?_)
      show (if g = f then some u else mA g) = none
      rw [if_neg q]; exact z

/-- a new instance, tracked, without attributes -/
theorem Inv.made (I : Inv X pins σ H s) : Inv X pins σ (upd (upd H s.heap.objs.size (.own (s.heap.objs.size + 1))) (s.heap.objs.size + 1) (.ins C s.heap.objs.size []))
    { s with heap := (s.heap.push PySem.W.emptyDict).push (PySem.W.instObj C s.heap.objs.size) } := by
  have e1 : (s.heap.push PySem.W.emptyDict).get? s.heap.objs.size = some PySem.W.emptyDict := Heap.get?_push_size s.heap rfl
  have e2 : ((s.heap.push PySem.W.emptyDict).push (PySem.W.instObj C s.heap.objs.size)).get? (s.heap.objs.size + 1) = some (PySem.W.instObj C s.heap.objs.size) := by
    have := Heap.get?_push_size (s.heap.push PySem.W.emptyDict) (o := PySem.W.instObj C s.heap.objs.size) rfl
    rwa [Heap.size_push] at this
  have e3 : (s.heap.push PySem.W.emptyDict).Ns s.heap.objs.size (fun _ => none) := ⟨PySem.W.emptyDict, #[], _, e1, rfl, (fun e he => absurd he (by simp)), fun _ => rfl⟩
  have I1 := I.laid (a := s.heap.objs.size) (o := .own (s.heap.objs.size + 1)) (h' := s.heap.push PySem.W.emptyDict) (t' := s.toks) (fun b u q => Heap.get?_push_of_some _ q) (Nat.le_refl _) ⟨_, e1⟩
  refine I1.laid (a := s.heap.objs.size + 1) (o := .ins C s.heap.objs.size []) (t' := s.toks) (fun b u q => Heap.get?_push_of_some _ q) (Nat.le_of_eq (Heap.size_push _ _)) ?_
  have ne : s.heap.objs.size ≠ s.heap.objs.size + 1 := Nat.ne_of_lt (Nat.lt_succ_self _)
  refine ⟨by rw [upd_ne ne, upd_same], Nat.zero_le _, ne, e2, fun _ => none, (Heap.Ns1.of_empty e3).at fun o q => Heap.get?_push_of_some _ q, fun _ => True.intro, fun y hy => absurd rfl hy⟩

/-- e.f where nothing but the object is asked: through attributeBase (super) and the last hold -/
theorem attr_of {prog : Program} {w : World} {env : Env} {e : Expr} {f : Str} {pos : Pos} {s : Shared} {Q : Value → Shared → Prop} (hb : attributeBase e f env (eval e env) = eval e env)
    (h : wpAny (model prog w) A (eval e env) (fun o s₁ => wpAny (model prog w) A (getAttr o f true) Q E s₁) E s) : wpAny (model prog w) A (eval (.Attribute e f pos) env) Q E s :=
  Attribute_any_ h (by rw [arm_eval_Attribute, hb])
end

/-! ### readings and rules -/
/-- e.f, an attribute of the instance -/
noncomputable def tFld (K : PySem.W.Frag) (ta : TE) (f : Str) : TE := fun σ H Q => ta σ H fun x H1 => ∃ a C dx fs v, x = .ref a ∧ H1 a = some (.ins C dx fs) ∧ Cls K C ∧ NoAttr K C f ∧ fs.lookup f = some v ∧ Q v H1
/-- e.f, a constant of the class -/
noncomputable def tCon (K : PySem.W.Frag) (ta : TE) (f : Str) : TE := fun σ H Q => ta σ H fun x H1 => ∃ a C dx fs v u, x = .ref a ∧ H1 a = some (.ins C dx fs) ∧ Cls K C ∧ Con K C f v u ∧ fs.lookup f = none ∧ Q v H1
/-- e.f = value -/
noncomputable def sFld (K : PySem.W.Frag) (ta tv : TE) (f : Str) : TS := fun D σ H => tv σ H fun y H1 => ta σ H1 fun x H2 => ∃ a C dx fs, x = .ref a ∧ H2 a = some (.ins C dx fs) ∧ Cls K C ∧ NoAttr K C f ∧ fs.length < 1000 ∧
  D.nx σ (upd H2 a (.ins C dx (putF f y fs)))
/-- an augmented operator on two values -/
noncomputable def InOp (X : Cx) (op : Operator) (rd : V → V → Hp → VK → Prop) : Prop :=
  ∀ (pins : List (Addr × Obj)) (s : Shared) (σ : St) (H : Hp) (x y : V) (u v : Value) (Q : VK), Inv X pins σ H s → RelV x u → RelV y v → rd x y H Q → wpAny (model X.prog X.w) X.A (inplaceOp op u v) (EP X pins σ Q) X.xe s
/-- e.f op= value -/
noncomputable def sFldAug (K : PySem.W.Frag) (ta tv : TE) (rd : V → V → Hp → VK → Prop) (f : Str) : TS := fun D σ H => ta σ H fun x H1 => ∃ a C dx fs v, x = .ref a ∧ H1 a = some (.ins C dx fs) ∧ Cls K C ∧ NoAttr K C f ∧ fs.lookup f = some v ∧
  tv σ H1 fun y H2 => rd v y H2 fun z H3 => ∃ dx' fs', H3 a = some (.ins C dx' fs') ∧ fs'.length < 1000 ∧ D.nx σ (upd H3 a (.ins C dx' (putF f z fs')))

section
variable {X : Cx} {o e value : Expr} {f : Str} {pos pos' tpos : Pos} {ta tv : TE}
theorem pe_fld (he : PE X e ta) (hb : attributeBase e f X.env (eval e X.env) = eval e X.env) : PE X (.Attribute e f pos) (tFld X.K ta f) := by
  intro pins s σ H Q I h
  refine attr_of hb (thn (he pins s σ H _ I h) fun u s1 ⟨x, H1, I1, rx, a, C, dx, fs, v, ex, ea, c, n, l, q⟩ => ?_)
  subst ex
  obtain rfl : u = Value.ref a := rx
  exact getattr_ok I1 ea c n l fun u' s2 I2 ru => ⟨v, H1, I2, ru, q⟩
theorem ps_fld (ha : PE X o ta) (hv : PE X value tv) (hs : swapsWith value (some (.Attribute o f pos')) pos.line X.env = pure false) : PS X (.Assign [.Attribute o f pos'] value pos) (sFld X.K ta tv f) := by
  intro pins s σ H D I h
  refine plainObj_wpAny_Assign_Attribute (thn (hv pins s σ H _ I h) fun u s1 ⟨y, H1, I1, ry, q⟩ => thn (ha pins s1 σ H1 _ I1 q) fun ov s2 ⟨x, H2, I2, rx, a, C, dx, fs, ex, ea, c, n, l, q2⟩ => ?_) hs
  subst ex
  obtain rfl : ov = Value.ref a := rx
  exact setattr_ok I2 ea c n l ry fun s3 I3 => ⟨σ, _, I3, q2⟩
noncomputable def rAdd : V → V → Hp → VK → Prop := fun x y H Q => ∃ i j, x = .int i ∧ y = .int j ∧ Q (.int (i + j)) H
noncomputable def rSub : V → V → Hp → VK → Prop := fun x y H Q => ∃ i j, x = .int i ∧ y = .int j ∧ Q (.int (i - j)) H
end

/-! ### isinstance -/
section
variable {X : Cx} {pins : List (Addr × Obj)} {σ : St} {H : Hp} {s : Shared} {A : Around} {E : Value → Shared → Prop} {Q : Value → Shared → Prop} {c : Value} {b : Bool}
/-- the type of a value, as the fragment's deciders take it; for an instance its class -/
inductive TyOf (K : PySem.W.Frag) (H : Hp) : V → Value → Prop where
  | non : TyOf K H .non (.type "NoneType")
  | bl (x : Bool) : TyOf K H (.bl x) (.type "bool")
  | int (i : Int) : TyOf K H (.int i) (.type "int")
  | str (x : Str) : TyOf K H (.str x) (.type "str")
  | flt (x : UInt64) : TyOf K H (.flt x) (.type "float")
  | lst {a : Addr} {xs : List V} (e : H a = some (.lst xs)) : TyOf K H (.ref a) (.type "list")
  | frz {a : Addr} {o : Obj} {xs : List V} (e : H a = some (.frz o (.lst xs))) : TyOf K H (.ref a) (.type "list")
  | tup {a : Addr} {xs : List V} (e : H a = some (.tup xs)) : TyOf K H (.ref a) (.type "tuple")
  | dK {a : Addr} {kvs : List (Key × V)} (e : H a = some (.dK kvs)) : TyOf K H (.ref a) (.type "dict")
  | dT {a : Addr} {kvs : List (List Key × V)} (e : H a = some (.dT kvs)) : TyOf K H (.ref a) (.type "dict")
  | ins {a C dx : Addr} {fs : List (Str × V)} (e : H a = some (.ins C dx fs)) (cl : Cls K C) (ha : PySem.W.findIn K (.ref C) "__class__" = some (some (.builtin "object.__class__")))
      (hn : PySem.W.specialIn K (.builtin "object.__class__") "__get__" = some (some (.builtin "getset_descriptor.__get__"))) (htk : PySem.W.takesIn K (.builtin "object.__class__") = some true)
      (hm : PySem.W.mroIn K C (.type "object") = some true) : TyOf K H (.ref a) (.ref C)
/-- isinstance(x, c) for one class c, a built-in or an own one: kitOne's answer -/
theorem isinst_ok {x : V} {u t : Value} (I : Inv X pins σ H s) (rx : RelV x u) (ty : TyOf X.K H x t) (e : PySem.W.kitOne X.K t c = some b) (h : ∀ tk, Q (.bool b) { s with toks := tk }) :
    wpAny (model X.prog X.w) A (call (.builtin "isinstance") [u, c]) Q E s := by
  cases ty with
  | non => cases (show u = Value.none from rx); exact PySem.W.kia_one PySem.W.kitx_none I.kIn True.intro e (fun z => nomatch z) h
  | bl y => cases (show u = Value.bool y from rx); exact PySem.W.kia_one PySem.W.kitx_bool I.kIn True.intro e (fun z => nomatch z) h
  | int i => obtain ⟨t, q⟩ := (show ∃ t, u = Value.int i t from rx); cases q; exact PySem.W.kia_one PySem.W.kitx_int I.kIn True.intro e (fun z => nomatch z) h
  | str y => obtain ⟨t, q⟩ := (show ∃ t, u = Value.str y t from rx); cases q; exact PySem.W.kia_one PySem.W.kitx_str I.kIn True.intro e (fun z => nomatch z) h
  | flt y => obtain ⟨t, q⟩ := (show ∃ t, u = Value.float y t from rx); cases q; exact PySem.W.kia_one PySem.W.kitx_float I.kIn True.intro e (fun z => nomatch z) h
  | @lst a xs ea =>
    cases (show u = Value.ref a from rx)
    obtain ⟨_, _, n, _, h1⟩ := (show ObjOk X.prog X.w H s.heap a (.lst xs) from I.hok a _ ea)
    exact PySem.W.kia_one PySem.W.kitx_list I.kIn ⟨_, h1, rfl⟩ e (fun z => nomatch z) h
  | @frz a ob xs ea =>
    cases (show u = Value.ref a from rx)
    obtain ⟨_, _, _, n, _, h1⟩ := (show ObjOk X.prog X.w H s.heap a (.frz ob (.lst xs)) from I.hok a _ ea)
    exact PySem.W.kia_one PySem.W.kitx_list I.kIn ⟨_, h1, rfl⟩ e (fun z => nomatch z) h
  | @tup a xs ea =>
    cases (show u = Value.ref a from rx)
    obtain ⟨_, _, _, p⟩ := (show ObjOk X.prog X.w H s.heap a (.tup xs) from I.hok a _ ea)
    obtain ⟨o, h1, h2, _⟩ := p
    exact PySem.W.kia_one PySem.W.kitx_tuple I.kIn ⟨o, h1, h2⟩ e (fun z => nomatch z) h
  | @dK a kvs ea =>
    cases (show u = Value.ref a from rx)
    obtain ⟨_, _, vs, _, p⟩ := (show ObjOk X.prog X.w H s.heap a (.dK kvs) from I.hok a _ ea)
    obtain ⟨o, es, ep, h1, h2, _⟩ := p
    exact PySem.W.kia_one PySem.W.kitx_dict I.kIn ⟨o, h1, h2.1⟩ e (fun z => nomatch z) h
  | @dT a kvs ea =>
    cases (show u = Value.ref a from rx)
    obtain ⟨_, _, xs, _, o, es, ep, h1, h2, _⟩ := (show ObjOk X.prog X.w H s.heap a (.dT kvs) from I.hok a _ ea)
    exact PySem.W.kia_one PySem.W.kitx_dict I.kIn ⟨o, h1, h2.1⟩ e (fun z => nomatch z) h
  | @ins a C dx fs ea cl ha hn htk hm =>
    cases (show u = Value.ref a from rx)
    obtain ⟨mA, O, _⟩ := ins_get I.hok ea
    obtain ⟨od, J, _⟩ := O.look
    exact PySem.W.kia_one (PySem.W.kitx_own (cl.get _) cl.hd ha hn htk hm) I.kIn J e (fun z => nomatch z) h
end
end L2

namespace L2
open PySem PySem.Spec PyProof.Rows

/-! ### room -/
structure Room (k : Nat) (A : Around) : Prop where
  hd : A.handled = none
  dp : A.depth + 3 * k + 5 < recursionLimit
  un : A.units + 16 * k + 200 < cLine
theorem Room.mono {j k : Nat} {A : Around} (r : Room k A) (h : j ≤ k) : Room j A := ⟨r.hd, by have := r.dp; omega, by have := r.un; omega⟩
theorem Room.deeper {k : Nat} {A : Around} (r : Room (k + 1) A) (env : Env) : Room k (A.deeper env) :=
  ⟨r.hd, by have := r.dp; show A.depth + 1 + 3 * k + 5 < _; omega, by have := r.un; show A.units + 3 + 16 * k + 200 < _; omega⟩
theorem Room.in1 {k : Nat} {A : Around} (r : Room (k + 1) A) : Room k A.in1 :=
  ⟨r.hd, by have := r.dp; show A.depth + 3 * k + 5 < _; omega, by have := r.un; show A.units + 1 + 16 * k + 200 < _; omega⟩
theorem make_depth {A : Around} {C : Addr} {us : List Value} {kw : List (Str × Value)} : (A.under (.builtin "type.__call__" ⟨.ref C :: us, kw⟩)).depth = A.depth + 1 := by
  first | rfl | simp [Around.under, Code.weight, Code.isCreation, Code.isGuard, Code.isCaller, Code.frames, Code.isFrame, guardIds]
theorem make_units {A : Around} {C : Addr} {us : List Value} {kw : List (Str × Value)} : (A.under (.builtin "type.__call__" ⟨.ref C :: us, kw⟩)).units = A.units + 1 := by
  first | rfl | simp [Around.under, Code.cUnits, Code.frames, Code.isFrame]
theorem Room.make {k : Nat} {A : Around} (r : Room (k + 1) A) (C : Addr) (us : List Value) (kw : List (Str × Value)) : Room k (A.under (.builtin "type.__call__" ⟨.ref C :: us, kw⟩)) :=
  ⟨r.hd, by have := r.dp; rw [make_depth]; omega, by have := r.un; rw [make_units]; omega⟩
theorem Room.depth {k : Nat} {A : Around} (r : Room k A) : A.depth < recursionLimit := by have := r.dp; omega
theorem Room.units {k : Nat} {A : Around} (r : Room k A) : A.units + 64 < cLine := by have := r.un; omega
theorem Room.units0 {k : Nat} {A : Around} (r : Room k A) : A.units < cLine := by have := r.un; omega

/-! ### argument lists and displays -/
noncomputable def tNil : TA := fun _ H Q => Q [] H
noncomputable def tCons (ta : TE) (tr : TA) : TA := fun σ H Q => ta σ H fun x H1 => tr σ H1 fun xs H2 => Q (x :: xs) H2
section
variable {X : Cx} {e : Expr} {es : List Expr} {te : TE} {t : TA} {pos : Pos}
theorem pa_nil : PA X [] tNil := fun _ _ _ _ H Q I h => Calls.spliced_nil ⟨[], H, I, .nil, h⟩
theorem pa_cons (ha : PE X e te) (hr : PA X es t) (hs : starEach (e :: es) X.env = (false, eval e X.env) :: starEach es X.env := by rfl) : PA X (e :: es) (tCons te t) := by
  intro pos pins s σ H Q I h
  rw [hs]
  show wpAny _ _ (spliced ((false, eval e X.env) :: backTo pos (starEach es X.env))) _ _ s
  refine Calls.spliced_cons (thn (ha pins s σ H _ I h) fun u s1 ⟨x, H1, I1, r1, q1⟩ => ?_)
  exact thn (hr pos pins s1 σ H1 _ I1 q1) fun us s2 ⟨xs, H2, I2, r2, q2⟩ => ⟨x :: xs, H2, I2, .cons r1 r2, q2⟩

/-- a tuple, a list of written items -/
noncomputable def tTup (t : TA) : TE := fun σ H Q => t σ H fun xs H1 => xs.length ≤ sizeLine ∧ ∀ p, H1 p = none → Q (.ref p) (upd H1 p (.tup xs))
noncomputable def tLst (t : TA) : TE := fun σ H Q => t σ H fun xs H1 => xs.length ≤ sizeLine ∧ ∀ p, H1 p = none → Q (.ref p) (upd H1 p (.lst xs))
theorem pe_lst (h : PA X es t) : PE X (.List es pos) (tLst t) := by
  intro pins s σ H Q I hq
  refine wpAny_List_spliced (thn (h pos pins s σ H _ I hq) fun us s1 ⟨xs, H1, I1, r, z, q⟩ => ⟨by rw [← r.length]; exact z, ?_⟩)
  have hf : H1 s1.heap.objs.size = none := I1.hok.fresh (Nat.le_refl _)
  refine ⟨.ref s1.heap.objs.size, upd H1 s1.heap.objs.size (.lst xs), I1.laid (t' := s1.toks) (fun b u e => Heap.get?_push_of_some _ e) (Nat.le_refl _) ?_, rfl, q _ hf⟩
  exact ⟨z, us, 0, r, Heap.get?_push_size _ rfl⟩
end

/-! ### what a def promises -/
/-- a def's promise: the bound arguments in the parameters' order, the heap, the wanted end, the wanted exception -/
abbrev Sp := List V → Hp → VK → XK → Prop
/-- how an exception lies behind a call (file 08 gives it): the callers' frames, abstract heap and state ahead of the call, the wish, the exception, the state -/
abbrev CXT := List Env → Hp → Shared → XK → Value → Shared → Prop

/-- the state at a call -/
structure Env0 (P : Program) (w : World) (K : PySem.W.Frag) (mg : Str → Option Value) (base : Heap) (A : Around) (outer : List Env) (s : Shared) (H : Hp) : Prop where
  frames : A.frames = some outer
  mod : Mod K mg base
  bs : ∀ b o, base.get? b = some o → s.heap.get? b = some o ∧ H b = none
  bsz : base.objs.size ≤ s.heap.objs.size
  funs : s.heap.FunFrames base outer
  frf : ∀ b ∈ frs outer, H b = none
  hok : HOk P w H s.heap
  bare : AllBare s.gens
/-- a call's end -/
noncomputable def CE (outer : List Env) (P : Program) (w : World) (H : Hp) (s : Shared) (Q : VK) (u : Value) (s' : Shared) : Prop :=
  ∃ v H', s'.os = s.os ∧ AllBare s'.gens ∧ Un (frs outer) [] H H' s.heap s'.heap ∧ HOk P w H' s'.heap ∧ RelV v u ∧ Q v H'
noncomputable def CR (CX : CXT) (outer : List Env) (P : Program) (w : World) (H : Hp) (s : Shared) (Q : VK) (E : XK) (r : Result) (s' : Shared) : Prop :=
  match r with
  | .ok (.ret u) => CE outer P w H s Q u s'
  | .ok _ => False
  | .error e => CX outer H s E e s'
structure FnOk (P : Program) (w : World) (K : PySem.W.Frag) (mg : Str → Option Value) (base : Heap) (CX : CXT) (k : Nat) (f : Addr) (fd : FuncData) (ps : List Str) (sp : Sp) : Prop where
  len : ∀ vs H Q E, sp vs H Q E → vs.length = ps.length
  run : ∀ (A : Around) (outer : List Env) (s : Shared) (H : Hp) (args : Args) (us : List Value) (vs : List V) (Q : VK) (E : XK), Room k A → Env0 P w K mg base A outer s H → BindsTo s fd args (ps.zip us) → Vals vs us → sp vs H Q E →
    codeAny (model P w) A (.call (.ref f) args) (CR CX outer P w H s Q E) s
theorem FnOk.mono {P : Program} {w : World} {K : PySem.W.Frag} {mg : Str → Option Value} {base : Heap} {CX : CXT} {j k : Nat} {f : Addr} {fd : FuncData} {ps : List Str} {sp : Sp} (F : FnOk P w K mg base CX j f fd ps sp) (h : j ≤ k) :
    FnOk P w K mg base CX k f fd ps sp := ⟨F.len, fun A outer s H args us vs Q E hr => F.run A outer s H args us vs Q E (hr.mono h)⟩
/-- a weaker promise -/
theorem FnOk.imp {P : Program} {w : World} {K : PySem.W.Frag} {mg : Str → Option Value} {base : Heap} {CX : CXT} {k : Nat} {f : Addr} {fd : FuncData} {ps : List Str} {sp sp' : Sp} (F : FnOk P w K mg base CX k f fd ps sp)
    (h : ∀ vs H Q E, sp' vs H Q E → sp vs H Q E) : FnOk P w K mg base CX k f fd ps sp' :=
  ⟨fun vs H Q E q => F.len vs H Q E (h _ _ _ _ q), fun A outer s H args us vs Q E hr he hb hv hs => F.run A outer s H args us vs Q E hr he hb hv (h _ _ _ _ hs)⟩

theorem Env0.make {P : Program} {w : World} {K : PySem.W.Frag} {mg : Str → Option Value} {base : Heap} {A : Around} {outer : List Env} {s : Shared} {H : Hp} (e : Env0 P w K mg base A outer s H) (C : Addr) (us : List Value) (kw : List (Str × Value)) :
    Env0 P w K mg base (A.under (.builtin "type.__call__" ⟨.ref C :: us, kw⟩)) outer s H := ⟨by first | exact e.frames | (simpa [Around.under, Code.envs, Code.isFrame, pushEnvs] using e.frames), e.mod, e.bs, e.bsz, e.funs, e.frf, e.hok, e.bare⟩
theorem Env0.in1 {P : Program} {w : World} {K : PySem.W.Frag} {mg : Str → Option Value} {base : Heap} {A : Around} {outer : List Env} {s : Shared} {H : Hp} (e : Env0 P w K mg base A outer s H) :
    Env0 P w K mg base A.in1 outer s H := ⟨e.frames, e.mod, e.bs, e.bsz, e.funs, e.frf, e.hok, e.bare⟩

section
variable {X : Cx} {pins : List (Addr × Obj)} {σ : St} {H : Hp} {s s' : Shared}
/-- from a body: what a callee wants -/
theorem Inv.env0 (I : Inv X pins σ H s) : Env0 X.prog X.w X.K X.mg X.base X.A X.stack s H :=
  ⟨I.ok.frames, I.ok.mod, I.bs, Nat.le_trans I.ok.bsz I.sz, I.stack, I.stkFree, I.hok, I.bare⟩
/-- behind a call -/
theorem Inv.after {Q : VK} {u : Value} (I : Inv X pins σ H s) (h : CE X.stack X.prog X.w H s Q u s') : EP X pins σ Q u s' := by
  obtain ⟨v, H', os, bare, un, hok, r, q⟩ := h
  obtain ⟨hh, g, d, t, os'⟩ := s'
  obtain rfl : os' = s.os := os
  exact ⟨v, H', I.call (h' := hh) (g' := g) (d' := d) (t' := t) (ch := []) un hok bare (fun b z => absurd z (by simp)), r, q⟩
end

/-! ### calls -/
/-- f(..): the written arguments, then the defaults dvs; E: what is wanted of an exception -/
noncomputable def tCall (sp : Sp) (dvs : List V) (E : XK) (t : TA) : TE := fun σ H Q => t σ H fun vs H1 => sp (vs ++ dvs) H1 Q E
/-- o.m(..) of an instance of the class at C -/
noncomputable def tMeth (C : Addr) (m : Str) (sp : Sp) (dvs : List V) (E : XK) (ta : TE) (t : TA) : TE := fun σ H Q => ta σ H fun x H1 => ∃ a dx fs, x = .ref a ∧ H1 a = some (.ins C dx fs) ∧ fs.lookup m = none ∧
  t σ H1 fun vs H2 => sp (x :: (vs ++ dvs)) H2 Q E
/-- C(..): a new instance and its dict, then __init__ -/
noncomputable def tMake (C : Addr) (sp : Sp) (dvs : List V) (E : XK) (t : TA) : TE := fun σ H Q => t σ H fun vs H1 => ∀ x dx, H1 x = none → H1 dx = none → dx ≠ x →
  sp (.ref x :: (vs ++ dvs)) (upd (upd H1 dx (.own x)) x (.ins C dx [])) (fun v H2 => v = .non ∧ Q (.ref x) H2) E

/-- how the parameters are bound: us the positional arguments, kw the keywords' values by name, ds the defaults that fill up -/
noncomputable def Binds (K : PySem.W.Frag) (fd : FuncData) (ps : List Str) (ds : List Value) : Prop :=
  ∀ (s : Shared) (us : List Value), K.In s.heap → (us ++ ds).length = ps.length → BindsTo s fd ⟨us, []⟩ (ps.zip (us ++ ds))
/-- every parameter is given -/
theorem Binds.all {K : PySem.W.Frag} {fd : FuncData} {ps : List Str} (h : ∀ us : List Value, us.length = ps.length → bindArgs fd ⟨us, []⟩ = pure (ps.zip us)) : Binds K fd ps [] := fun s us _ hl => by
  rw [List.append_nil] at hl ⊢
  exact .of_eq (h us hl)

/-- an exception of a callee reaches what this body wants of exceptions -/
noncomputable def Passes (CX : CXT) (X : Cx) (E : XK) : Prop := ∀ (pins : List (Addr × Obj)) (σ : St) (H : Hp) (s : Shared) (e : Value) (s' : Shared), Inv X pins σ H s → CX X.stack H s E e s' → X.xe e s'

section
variable {X : Cx} {CX : CXT} {k : Nat} {f C : Addr} {fd : FuncData} {ps : List Str} {sp : Sp} {dvs : List V} {ds : List Value} {E : XK} {x m : Str} {p pos apos : Pos} {e o : Expr} {es : List Expr} {ta : TE} {t : TA}

/-- the callee runs -/
theorem run_fn {pins : List (Addr × Obj)} {σ : St} {H : Hp} {s : Shared} {Q : VK} {us : List Value} {vs : List V} (F : FnOk X.prog X.w X.K X.mg X.base CX k f fd ps sp) (hr : Room k X.A) (hb : Binds X.K fd ps ds) (hd : Vals dvs ds) (hx : Passes CX X E)
    (I : Inv X pins σ H s) (r : Vals vs us) (h : sp (vs ++ dvs) H Q E) : wpAny (model X.prog X.w) X.A (call (.ref f) us) (EP X pins σ Q) X.xe s := by
  have r2 : Vals (vs ++ dvs) (us ++ ds) := r.append hd
  have hl : (us ++ ds).length = ps.length := by rw [← r2.length]; exact F.len _ _ _ _ h
  refine wpAny_call (codeAny_mono (F.run X.A X.stack s H ⟨us, []⟩ (us ++ ds) (vs ++ dvs) Q E hr I.env0 (hb s us I.kIn hl) r2 h) fun r s' hq => ?_)
  cases r with
  | error e => exact hx pins σ H s e s' I hq
  | ok fl =>
    cases fl with
    | ret u => exact I.after hq
    | next => exact False.elim hq
    | brk => exact False.elim hq
    | cont => exact False.elim hq

theorem pe_call (F : FnOk X.prog X.w X.K X.mg X.base CX k f fd ps sp) (hr : Room k X.A) (hg : Gl X x) (hm : X.mg x = some (.ref f)) (hk : PySem.W.keepIn X.K (.ref f) = true) (hb : Binds X.K fd ps ds) (hd : Vals dvs ds) (hx : Passes CX X E)
    (ha : PA X (e :: es) t) (hdb : (x == ("__debug__" : Str)) = false := by decide) (he : starEach (e :: es) X.env = (false, eval e X.env) :: starEach es X.env := by rfl) (hpl : (backTo pos (starEach es X.env)).any (·.1) = false := by rfl) :
    PE X (.Call (.Name x p) (e :: es) [] pos) (tCall sp dvs E t) := by
  intro pins s σ H Q I h
  refine wpAny_Call_Name_kw (ld_glob I hg hm ?_ hdb)
  refine PySem.W.callWith_K (h₀ := X.base) I.ok.mod.kin hk (thn (ha pos pins s σ H _ I h) fun us s1 ⟨vs, H1, I1, r, q⟩ => ⟨I1.kIn, ?_⟩) he hpl
  exact run_fn F hr hb hd hx I1 r q
/-- what a class must have to be made -/
structure Mk (K : PySem.W.Frag) (C f : Addr) : Prop where
  makes : PySem.W.makesIn K C = true
  init : PySem.W.findIn K (.ref C) "__init__" = some (some (.ref f))
  fn : PySem.W.isFn K (.ref f) = true
  kp : PySem.W.keepIn K (.ref C) = true

theorem run_make {pins : List (Addr × Obj)} {σ : St} {H : Hp} {s : Shared} {Q : VK} {us : List Value} {vs : List V} (M : Mk X.K C f) (F : FnOk X.prog X.w X.K X.mg X.base CX k f fd ps sp) (hr : Room (k + 1) X.A) (hb : Binds X.K fd ps ds) (hd : Vals dvs ds)
    (hx : Passes CX X E) (I : Inv X pins σ H s) (r : Vals vs us)
    (h : ∀ x dx, H x = none → H dx = none → dx ≠ x → sp (.ref x :: (vs ++ dvs)) (upd (upd H dx (.own x)) x (.ins C dx [])) (fun v H2 => v = .non ∧ Q (.ref x) H2) E) :
    wpAny (model X.prog X.w) X.A (call (.ref C) us) (EP X pins σ Q) X.xe s := by
  have hq := h (s.heap.objs.size + 1) s.heap.objs.size (I.hok.fresh (Nat.le_succ _)) (I.hok.fresh (Nat.le_refl _)) (Nat.ne_of_lt (Nat.lt_succ_self _))
  have I2 := Inv.made (C := C) I
  have r2 : Vals (V.ref (s.heap.objs.size + 1) :: (vs ++ dvs)) (Value.ref (s.heap.objs.size + 1) :: (us ++ ds)) := .cons rfl (r.append hd)
  have hl : (Value.ref (s.heap.objs.size + 1) :: us ++ ds).length = ps.length := by
    have e := r2.length
    rw [F.len _ _ _ _ hq] at e
    exact e.symm
  refine wpAny_call (make_map (f := f) I.kIn M.makes M.init (beq_iff_eq.mp M.fn) (codeAny_mono (F.run _ X.stack _ _ ⟨Value.ref (s.heap.objs.size + 1) :: us, []⟩ (Value.ref (s.heap.objs.size + 1) :: (us ++ ds)) _ _ E (hr.make C us [])
    (I2.env0.make C us []) (hb _ (Value.ref (s.heap.objs.size + 1) :: us) I2.kIn hl) r2 hq) fun r s' hq' => ?_))
  cases r with
  | error e => exact hx pins σ _ _ e s' I2 hq'
  | ok fl =>
    cases fl with
    | ret u =>
      obtain ⟨v, H', I3, rv, ev, q3⟩ := I2.after hq'
      subst ev
      exact ⟨rv, ⟨V.ref (s.heap.objs.size + 1), H', I3, rfl, q3⟩⟩
    | next => exact False.elim hq'
    | brk => exact False.elim hq'
    | cont => exact False.elim hq'
theorem pe_make (M : Mk X.K C f) (F : FnOk X.prog X.w X.K X.mg X.base CX k f fd ps sp) (hr : Room (k + 1) X.A) (hg : Gl X x) (hm : X.mg x = some (.ref C)) (hb : Binds X.K fd ps ds) (hd : Vals dvs ds) (hx : Passes CX X E)
    (ha : PA X (e :: es) t) (hdb : (x == ("__debug__" : Str)) = false := by decide) (he : starEach (e :: es) X.env = (false, eval e X.env) :: starEach es X.env := by rfl) (hpl : (backTo pos (starEach es X.env)).any (·.1) = false := by rfl) :
    PE X (.Call (.Name x p) (e :: es) [] pos) (tMake C sp dvs E t) := by
  intro pins s σ H Q I h
  refine wpAny_Call_Name_kw (ld_glob I hg hm ?_ hdb)
  refine PySem.W.callWith_K (h₀ := X.base) I.ok.mod.kin M.kp (thn (ha pos pins s σ H _ I h) fun us s1 ⟨vs, H1, I1, r, q⟩ => ⟨I1.kIn, ?_⟩) he hpl
  exact run_make M F hr hb hd hx I1 r q
end

/-! ### keywords -/
/-- the values of the keywords, from the left -/
noncomputable def PK (X : Cx) (kws : List Keyword) (t : TA) : Prop :=
  ∀ (pos : Pos) (pins : List (Addr × Obj)) (s : Shared) (σ : St) (H : Hp) (Q : List V → Hp → Prop), Inv X pins σ H s → t σ H Q → wpAny (model X.prog X.w) X.A (evalAll ((backToKw pos (keywordEach kws X.env)).map (·.2))) (AP X pins σ Q) X.xe s
section
variable {X : Cx} {CX : CXT} {k : Nat} {f C : Addr} {fd : FuncData} {ps ks : List Str} {sp : Sp} {E : XK} {x m : Str} {p pos apos kpos : Pos} {e o : Expr} {es : List Expr} {kws : List Keyword} {te ta : TE} {t tk : TA} {nm : Option Str}
/-- how a call with keywords binds: g puts the positional values us and the keywords' values ws (names ks) in the parameters' order, defaults among them -/
structure KBinds (K : PySem.W.Frag) (fd : FuncData) (ps ks : List Str) (g : List Value → List Value → List Value) (gV : List V → List V → List V) : Prop where
  to : ∀ (s : Shared) (us ws : List Value), K.In s.heap → (g us ws).length = ps.length → BindsTo s fd ⟨us, ks.zip ws⟩ (ps.zip (g us ws))
  rel : ∀ {vs : List V} {us : List Value} {zs : List V} {ws : List Value}, Vals vs us → Vals zs ws → Vals (gV vs zs) (g us ws)
noncomputable def tCallK (sp : Sp) (gV : List V → List V → List V) (E : XK) (t tk : TA) : TE := fun σ H Q => t σ H fun vs H1 => tk σ H1 fun zs H2 => sp (gV vs zs) H2 Q E
variable {g : List Value → List Value → List Value} {gV : List V → List V → List V}
end

/-! ### a def's body keeps its promise -/
/-- names: the parameters first -/
structure FnScope (N P : List Str) (sc : Scope) : Prop where
  kind : sc.kind = .function
  co : sc.isCoroutine = false
  gen : sc.isGenerator = false
  nd : N.Nodup
  pre : N.take P.length = P
  par : ∀ x ∈ P, sc.names.lookup x = some .local ∨ sc.names.lookup x = some .cell
  nofree : ∀ y ∈ sc.names, y.2 ≠ .free

theorem bindL_out {kindOf : Str → Option NameKind} {x : Str} : ∀ {binds : List (Str × Value)} {m : Str → Option Value}, (∀ v, (x, v) ∉ binds) → bindL kindOf binds m x = m x
  | [], _, _ => rfl
  | (n, v) :: r, m, h => by
    unfold bindL
    rw [bindL_out fun w hw => h w (List.mem_cons_of_mem _ hw)]
    split
    · have : x ≠ n := by rintro rfl; exact h v List.mem_cons_self
      simp [this]
    · rfl
theorem bindC_out {kindOf : Str → Option NameKind} {x : Str} : ∀ {binds : List (Str × Value)} {m : Str → Option Value}, (∀ v, (x, v) ∉ binds) → bindC kindOf binds m x = m x
  | [], _, _ => rfl
  | (n, v) :: r, m, h => by
    unfold bindC
    rw [bindC_out fun w hw => h w (List.mem_cons_of_mem _ hw)]
    split
    · rfl
    · have : x ≠ n := by rintro rfl; exact h v List.mem_cons_self
      simp [this]
theorem bindL_get {kindOf : Str → Option NameKind} {x : Str} {v : Value} : ∀ {P : List Str} {vs : List Value} {i : Nat} {m : Str → Option Value}, P.Nodup → P[i]? = some x → vs[i]? = some v → kindOf x = some .local →
    bindL kindOf (P.zip vs) m x = some v
  | [], _, _, _, _, h, _, _ => by simp at h
  | _ :: _, [], _, _, _, _, h, _ => by simp at h
  | p :: P, w :: vs, 0, m, nd, h1, h2, hk => by
    simp at h1 h2; subst h1; subst h2
    show bindL kindOf ((p, w) :: P.zip vs) m p = _
    unfold bindL
    rw [bindL_out fun v hv => (List.nodup_cons.mp nd).1 (List.of_mem_zip hv).1, if_pos hk]
    simp
  | p :: P, w :: vs, i + 1, m, nd, h1, h2, hk => by
    show bindL kindOf ((p, w) :: P.zip vs) m x = _
    unfold bindL
    exact bindL_get (i := i) (List.nodup_cons.mp nd).2 (by simpa using h1) (by simpa using h2) hk
theorem bindC_get {kindOf : Str → Option NameKind} {x : Str} {v : Value} : ∀ {P : List Str} {vs : List Value} {i : Nat} {m : Str → Option Value}, P.Nodup → P[i]? = some x → vs[i]? = some v → kindOf x ≠ some .local →
    bindC kindOf (P.zip vs) m x = some v
  | [], _, _, _, _, h, _, _ => by simp at h
  | _ :: _, [], _, _, _, _, h, _ => by simp at h
  | p :: P, w :: vs, 0, m, nd, h1, h2, hk => by
    simp at h1 h2; subst h1; subst h2
    show bindC kindOf ((p, w) :: P.zip vs) m p = _
    unfold bindC
    rw [bindC_out fun v hv => (List.nodup_cons.mp nd).1 (List.of_mem_zip hv).1, if_neg hk]
    simp
  | p :: P, w :: vs, i + 1, m, nd, h1, h2, hk => by
    show bindC kindOf ((p, w) :: P.zip vs) m x = _
    unfold bindC
    exact bindC_get (i := i) (List.nodup_cons.mp nd).2 (by simpa using h1) (by simpa using h2) hk

/-- the names' values at the entry -/
noncomputable def start (N : List Str) (vs : List V) : St := vs.map some ++ List.replicate (N.length - vs.length) none

/-- the context of a def's body, at its entry; an exception leaves the frame, then lies as CX says -/
noncomputable def cxOf (CX : CXT) (P : Program) (w : World) (K : PySem.W.Frag) (mg : Str → Option Value) (base : Heap) (N : List Str) (qual : Str) (scope : Scope) (f : Addr) (cd : Value) (A : Around) (outer : List Env) (s : Shared) (H : Hp) (E : XK) : Cx where
  prog := P
  w := w
  K := K
  mg := mg
  base := base
  A := A.deeper (envOfC qual scope s.heap.objs.size f cd)
  N := N
  s₀ := s
  H₀ := H
  env := envOfC qual scope s.heap.objs.size f cd
  outer := outer
  stack := envOfC qual scope s.heap.objs.size f cd :: outer
  ex := []
  calm := true
  fn := fun _ => true
  pn := []
  xe := fun e s' => wpAny (model P w) (A.deeper (envOfC qual scope s.heap.objs.size f cd)) (leaving (envOfC qual scope s.heap.objs.size f cd) e) (fun _ s'' => CX outer H s E e s'') (fun e' s'' => CX outer H s E e' s'') s'

theorem cell_has {sc : Scope} {n : Nat} {x : Str} (h : sc.names.lookup x = some .cell) : ∃ c, (cellsFrom n sc.names []).lookup x = some c := by
  have q := PySem.W.cellsFrom_some sc.names n [] (.inl h)
  exact Option.isSome_iff_exists.mp q

theorem inv_start {CX : CXT} {P : Program} {w : World} {K : PySem.W.Frag} {mg : Str → Option Value} {base : Heap} {N ps : List Str} {qual : Str} {scope : Scope} {f : Addr} {cd : Value} {A : Around} {outer : List Env} {s s1 : Shared} {H : Hp} {E : XK} {us : List Value} {vs : List V}
    (S : FnScope N ps scope) (hd : A.handled = none) (e0 : Env0 P w K mg base A outer s H) (hl : vs.length = ps.length) (r : Vals vs us)
    (x : InCallC s s.heap.objs.size (bindL (envOfC qual scope s.heap.objs.size f cd).kindOf (ps.zip us) fun _ => none) (cellsFrom (s.heap.objs.size + 1) scope.names []) (bindC (envOfC qual scope s.heap.objs.size f cd).kindOf (ps.zip us) fun _ => none) s1) :
    Inv (cxOf CX P w K mg base N qual scope f cd A outer s H E) [] (start N vs) H s1 := by
  have hpl : ps.length ≤ N.length := by have := congrArg List.length S.pre; rw [List.length_take] at this; omega
  obtain ⟨h1, tk, rfl, hk⟩ := x.done
  have noA : ∀ b : Addr, b ∉ (cxOf CX P w K mg base N qual scope f cd A outer s H E).ex := fun b z => absurd (show b ∈ ([] : List Addr) from z) (by simp)
  refine ⟨⟨e0.mod, S.kind, rfl, rfl, Nat.le_refl _, fun y z c h1 h2 => ?_, fun y hy => ?_, fun y c _ h => ?_, fun _ => hd, Around.frames_deeper e0.frames, .inr ⟨rfl, rfl⟩, fun b z => absurd z (noA b), e0.bs, e0.bsz, fun b _ _ => noA b, fun b z => absurd z (noA b), e0.funs, e0.frf⟩,
    rfl, e0.bare, Un.kept hk, ⟨_, x.toInCall.ns, fun i y v h1 h2 h3 => ?_⟩, fun y c h => ⟨_, x.cell y c h⟩, e0.hok.fresh (Nat.le_refl _), fun y c h => ?_, fun p hp => absurd (show p ∈ ([] : List (Addr × Obj)) from hp) (by simp), e0.hok.kept hk, ?_⟩
  · exact name_of_addr x.apart (PySem.mem_of_lookup h1) (PySem.mem_of_lookup h2)
  · have hy : scope.names.lookup y = some .cell ∨ scope.names.lookup y = some .free := hy
    rcases hy with hy | hy
    · exact cell_has hy
    · exact absurd rfl (S.nofree _ (PySem.mem_of_lookup hy))
  · exact Nat.le_of_lt (x.above y c (PySem.mem_of_lookup h))
  · have hi : i < vs.length := by
      unfold start at h2
      by_cases hi : i < vs.length
      · exact hi
      · rw [List.getElem?_append_right (by simpa using hi)] at h2
        rw [List.getElem?_replicate] at h2
        split at h2 <;> cases h2
    have ha : vs[i]? = some v := by
      unfold start at h2
      rw [List.getElem?_append_left (by simpa using hi), List.getElem?_map] at h2
      cases e : vs[i]? with
      | none => rw [e] at h2; cases h2
      | some a => rw [e] at h2; cases h2; rfl
    obtain ⟨u, hu, rv⟩ := r.get ha
    have hp : ps[i]? = some y := by
      rw [← S.pre, List.getElem?_take_of_lt (by omega)]; exact h1
    have ndP : ps.Nodup := by rw [← S.pre]; exact S.nd.sublist (List.take_sublist _ _)
    refine ⟨u, rv, ?_⟩
    rcases S.par y (List.mem_of_getElem? hp) with k | k
    · exact .inl ⟨k, bindL_get ndP hp hu k⟩
    · obtain ⟨c, e⟩ := cell_has (n := s.heap.objs.size + 1) k
      refine .inr ⟨.inl k, c, e, ?_⟩
      have q := x.cell y c e
      rw [bindC_get ndP hp hu (by show scope.names.lookup y ≠ _; rw [k]; decide)] at q
      exact q
  · exact e0.hok.fresh (Nat.le_of_lt (x.above y c (PySem.mem_of_lookup h)))
  · unfold start
    show _ = N.length
    rw [List.length_append, List.length_map, List.length_replicate]
    omega

/-- THE RULE: a def (or a method) of the text, by its body. The body's reading t is chosen for each entry; it is run at the parameters' values -/
theorem fn_of {CX : CXT} {P : Program} {w : World} {K : PySem.W.Frag} {mg : Str → Option Value} {base : Heap} {k : Nat} {f : Addr} {name qual : Str} {params : Arguments} {body : List Stmt} {scope : Scope} {dV kV doc pm cdv ct oc : Value} {an od : Option Addr}
    {osl : Array (Option Value)} {N ps : List Str} {sp : Sp} (lk : K.lookup f = some ⟨oc, od, .func (PySem.W.fnOf name qual params body scope dV kV doc pm an cdv ct), osl⟩) (hcd : PySem.W.codeIn K cdv qual = true) (S : FnScope N ps scope)
    (len : ∀ vs H Q E, sp vs H Q E → vs.length = ps.length)
    (hbody : ∀ (A : Around) (outer : List Env) (s : Shared) (H : Hp) (vs : List V) (Q : VK) (E : XK), Room k (A.deeper (envOfC qual scope s.heap.objs.size f cdv)) → sp vs H Q E →
      ∃ t, PSs (cxOf CX P w K mg base N qual scope f cdv A outer s H E) body t ∧ t { nx := fun _ H' => Q .non H', rt := Q } (start N vs) H) :
    FnOk P w K mg base CX (k + 1) f (PySem.W.fnOf name qual params body scope dV kV doc pm an cdv ct) ps sp := by
  refine ⟨len, fun A outer s H args us vs Q E hr e0 hb r hsp => ?_⟩
  have hl := len _ _ _ _ hsp
  have KX : K.In s.heap := e0.mod.kin.keeps fun b o e => (e0.bs b o e).1
  have lim : s.heap.NoLimit := e0.mod.nolimit.keeps fun b o e => (e0.bs b o e).1
  have hkind : ∀ y ∈ ps.zip us, scope.names.lookup y.1 = some .local ∨ (scope.names.lookup y.1 = some .cell ∧ ((cellsFrom (s.heap.objs.size + 1) scope.names []).lookup y.1).isSome = true) := fun ⟨n, v⟩ hy => by
    rcases S.par n (List.of_mem_zip hy).1 with q | q
    · exact .inl q
    · exact .inr ⟨q, PySem.W.cellsFrom_some _ _ _ (.inl q)⟩
  refine codeAny_call_function hr.depth (KX _ _ lk) rfl S.co S.gen rfl (PySem.W.codeRec_of KX hcd) (hb _ _ _ _ ?_)
  refine wpAny_newFunctionEnv_cells S.kind hkind fun env he s1 x => ?_
  subst he
  refine ⟨lim.keeps x.toInCall.keep, codeAny_func ?_⟩
  obtain ⟨t, ht, hq⟩ := hbody A outer s H vs Q E (hr.deeper _) hsp
  have I : Inv (cxOf CX P w K mg base N qual scope f cdv A outer s H E) [] (start N vs) H s1 := inv_start S hr.hd e0 hl r x
  refine wpAny_mono (ht [] s1 (start N vs) H _ I hq) (fun fl s' hs => ?_) fun e s' hs => hs
  have fin : ∀ {σ' : St} {H' : Hp} {v : V} {u : Value}, Inv (cxOf CX P w K mg base N qual scope f cdv A outer s H E) [] σ' H' s' → RelV v u → Q v H' → CE outer P w H s Q u s' :=
    fun {σ' H' v u} J rv q => ⟨v, H', J.os, J.bare, J.base, J.hok, rv, q⟩
  cases fl with
  | ret u =>
    obtain ⟨v, σ', H', J, rv, q⟩ := hs
    exact fin J rv q
  | next =>
    obtain ⟨σ', H', J, q⟩ := hs
    exact fin (v := V.non) (u := Value.none) J rfl q
  | brk =>
    obtain ⟨_, _, _, q⟩ := hs
    exact False.elim q
  | cont =>
    obtain ⟨_, _, _, q⟩ := hs
    exact False.elim q
end L2

namespace L2
open PySem PySem.Spec PyProof.Rows
section
variable {X : Cx} {x : Str} {p pos : Pos} {e : Expr} {es : List Expr} {t : TA} {id T : String} {r : List V → Hp → VK → Prop}

noncomputable def tCB (r : List V → Hp → VK → Prop) (t : TA) : TE := fun σ H Q => t σ H fun vs H1 => r vs H1 Q
/-- f(e, ..), f a built-in function -/
theorem pe_callB (hc : CallR X (.builtin id) r) (hg : Gl X x) (hm : X.mg x = none) (hv : bootBuiltins x = some (.builtin id)) (ha : PA X (e :: es) t) (hn : x ≠ "__name__" := by decide) (hdb : (x == ("__debug__" : Str)) = false := by decide)
    (he : starEach (e :: es) X.env = (false, eval e X.env) :: starEach es X.env := by rfl) (hpl : (backTo pos (starEach es X.env)).any (·.1) = false := by rfl) : PE X (.Call (.Name x p) (e :: es) [] pos) (tCB r t) := by
  intro pins s σ H Q I h
  refine wpAny_Call_Name_kw (ld_blt I hg hm hv ?_ hn hdb)
  exact PyProof.Rows.callWith_builtin1 (thn (ha pos pins s σ H _ I h) fun us s1 ⟨vs, H1, I1, r1, q1⟩ => hc pins s1 σ H1 vs us Q I1 r1 q1) he hpl
/-- T(e, ..), T a built-in type -/
theorem pe_callTy (hc : CallR X (.type T) r) (hg : Gl X x) (hm : X.mg x = none) (hv : bootBuiltins x = some (.type T)) (ha : PA X (e :: es) t) (hn : x ≠ "__name__" := by decide) (hdb : (x == ("__debug__" : Str)) = false := by decide)
    (he : starEach (e :: es) X.env = (false, eval e X.env) :: starEach es X.env := by rfl) (hpl : (backTo pos (starEach es X.env)).any (·.1) = false := by rfl) : PE X (.Call (.Name x p) (e :: es) [] pos) (tCB r t) := by
  intro pins s σ H Q I h
  refine wpAny_Call_Name_kw (ld_blt I hg hm hv ?_ hn hdb)
  exact PyProof.Rows.callWith_type1 (thn (ha pos pins s σ H _ I h) fun us s1 ⟨vs, H1, I1, r1, q1⟩ => hc pins s1 σ H1 vs us Q I1 r1 q1) he hpl
end
end L2

namespace HT
open PySem PyProof.Rows

/-- t < u of tuples of ints -/
noncomputable def lexLt : List Int → List Int → Bool
  | [], [] => false
  | [], _ :: _ => true
  | _ :: _, [] => false
  | x :: xs, y :: ys => if x = y then lexLt xs ys else decide (x < y)
section
open PySem.SeqAt
open PySem.AutoSeq1 (wpAny_loadPart')
open PySem.MeetsSeq PySem.MeetsSeq2 PySem.MeetsSeq3

end

section
variable {prog : Program} {w : World} {A : Around} {E : Value → Shared → Prop} {s : Shared}

/-! ### t[a:b], not the whole -/
/-- a slice's bound as a place among n (d where it is left out) -/
noncomputable def sIx (n d : Nat) : Option Int → Nat
  | none => d
  | some v => if v < 0 then (v + (n : Int)).toNat else min v.toNat n
theorem sIx_none (n d : Nat) : sIx n d none = d := rfl
theorem sIx_nat (n d k : Nat) : sIx n d (some (k : Int)) = min k n := by
  show (if (k : Int) < 0 then ((k : Int) + (n : Int)).toNat else min (k : Int).toNat n) = min k n
  rw [if_neg (by omega), Int.toNat_natCast]
end
end HT

namespace L2
open PySem PySem.Spec PyProof.Rows

/-! ### the parts of a slice -/
abbrev TO := St → Hp → (Option Int → Hp → Prop) → Prop
/-- a slice's part (left out, or an int) -/
noncomputable def PO (X : Cx) (e : Option Expr) (t : TO) : Prop :=
  ∀ (pins : List (Addr × Obj)) (s : Shared) (σ : St) (H : Hp) (Q : Option Int → Hp → Prop), Inv X pins σ H s → t σ H Q →
    wpAny (model X.prog X.w) X.A (evalPart e X.env) (fun u s' => ∃ o H', Inv X pins σ H' s' ∧ IsPart u o ∧ Q o H') X.xe s
noncomputable def tNoPart : TO := fun _ H Q => Q none H
noncomputable def tPart (t : TE) : TO := fun σ H Q => t σ H fun x H1 => ∃ i, x = .int i ∧ Q (some i) H1

theorem intsAre_of {ns : List Int} : ∀ {us : List Value}, Vals (ns.map V.int) us → IntsAre us ns := by
  induction ns with
  | nil => intro us r; rw [List.map_nil] at r; cases r; exact .nil
  | cons n ns ih =>
    intro us r
    rw [List.map_cons] at r
    cases r with
    | cons r1 r2 =>
      obtain ⟨t, e⟩ := r1
      subst e
      exact .cons n t (ih r2)

section
variable {X : Cx} {e : Expr} {te : TE} {lo hi : Option Expr} {tl th : TO} {pos p2 : Pos}

theorem po_none : PO X none tNoPart := by
  intro pins s σ H Q I h
  rw [evalPart_none]
  exact wpAny_pure ⟨none, H, I, .none, h⟩
theorem po_some (h : PE X e te) : PO X (some e) (tPart te) := by
  intro pins s σ H Q I hw
  rw [evalPart_some]
  refine thn (h pins s σ H _ I hw) fun u s1 ⟨x, H1, I1, r1, q1⟩ => ?_
  obtain ⟨i, rfl, q⟩ := q1
  obtain ⟨t, rfl⟩ := r1
  exact ⟨some i, H1, I1, .int i t, q⟩

/-- what a slice of a value is, by values: the slice object stands at sl -/
noncomputable def SlR (X : Cx) (r : V → Option Int → Option Int → Hp → VK → Prop) : Prop :=
  ∀ (pins : List (Addr × Obj)) (s : Shared) (σ : St) (H : Hp) (x : V) (v vl vu : Value) (lo hi : Option Int) (sl : Addr) (Q : VK), Inv X pins σ H s → RelV x v → s.heap.IsSliceOf sl vl vu .none → IsPart vl lo → IsPart vu hi → r x lo hi H Q →
    ∃ T id, typeLookup (.type T) "__getitem__" = pure (some (.builtin id)) ∧ s.TypeIs v T ∧ wpAny (model X.prog X.w) X.A (getItem v (.ref sl)) (EP X pins σ Q) X.xe s
theorem SlR.or {r r' : V → Option Int → Option Int → Hp → VK → Prop} (h : SlR X r) (h' : SlR X r') : SlR X (fun x lo hi H Q => r x lo hi H Q ∨ r' x lo hi H Q) := by
  intro pins s σ H x v vl vu lo hi sl Q I rx hs pl pu q
  rcases q with q | q
  · exact h pins s σ H x v vl vu lo hi sl Q I rx hs pl pu q
  · exact h' pins s σ H x v vl vu lo hi sl Q I rx hs pl pu q
noncomputable def tSl (r : V → Option Int → Option Int → Hp → VK → Prop) (te : TE) (tl th : TO) : TE := fun σ H Q => te σ H fun x H1 => tl σ H1 fun l H2 => th σ H2 fun u H3 => r x l u H3 Q
/-- a[lo:hi], any a -/
theorem pe_slice {r : V → Option Int → Option Int → Hp → VK → Prop} (hr : SlR X r) (he : PE X e te) (hl : PO X lo tl) (hu : PO X hi th) : PE X (.Subscript e (.Slice lo hi none p2) pos) (tSl r te tl th) := by
  intro pins s σ H Q I h
  refine Subscript_ (thn (he pins s σ H _ I h) fun v s1 ⟨x, H1, I1, r1, q1⟩ => ?_)
  refine wpAny_Slice (thn (hl pins s1 σ H1 _ I1 q1) fun vl s2 ⟨l, H2, I2, pl, q2⟩ => thn (hu pins s2 σ H2 _ I2 q2) fun vu s3 ⟨u, H3, I3, pu, q3⟩ => ?_)
  rw [evalPart_none]
  refine wpAny_pure ?_
  have I4 : Inv X pins σ H3 { s3 with heap := s3.heap.push { cls := .type "slice", data := .fields #[vl, vu, .none] } } := I3.kept (t' := s3.toks) fun b ob q => Heap.get?_push_of_some _ q
  obtain ⟨T, id, hT, ht, hg⟩ := hr pins { s3 with heap := s3.heap.push { cls := .type "slice", data := .fields #[vl, vu, .none] } } σ H3 x v vl vu l u s3.heap.objs.size Q I4 r1 (Heap.IsSliceOf.new ..) pl pu q3
  show wpAny (model X.prog X.w) X.A (subscriptTail e (.Slice lo hi none p2) v (.ref s3.heap.objs.size)) (EP X pins σ Q) X.xe { s3 with heap := s3.heap.push { cls := .type "slice", data := .fields #[vl, vu, .none] } }
  exact tail_any (ops := [.ref s3.heap.objs.size, v]) ht hT hg (by with_unfolding_all rfl)

/-- the items of xs[lo:hi] -/
noncomputable def cutV (xs : List V) (lo hi : Option Int) : List V := (xs.drop (HT.sIx xs.length 0 lo)).take (HT.sIx xs.length xs.length hi - HT.sIx xs.length 0 lo)
theorem cutV_length (xs : List V) (lo hi : Option Int) : (cutV xs lo hi).length ≤ xs.length := by
  unfold cutV
  rw [List.length_take, List.length_drop]
  omega
/-- t[lo:hi], not the whole of it (the whole would be t itself) -/
noncomputable def rSlT (K : PySem.W.Frag) : V → Option Int → Option Int → Hp → VK → Prop := fun x lo hi H Q => ∃ a xs, x = .ref a ∧ SqT K H a xs ∧
  ¬ (HT.sIx xs.length 0 lo = 0 ∧ HT.sIx xs.length xs.length hi = xs.length) ∧ ∀ p, H p = none → Q (.ref p) (upd H p (.tup (cutV xs lo hi)))
/-! ### t < u, t + u -/
noncomputable def rLtT (K : PySem.W.Frag) : R2 := fun x y H Q => ∃ a b ns ms, x = .ref a ∧ y = .ref b ∧ SqT K H a (ns.map V.int) ∧ SqT K H b (ms.map V.int) ∧ Q (.bl (HT.lexLt ns ms)) H
/-- t + u, t not empty: u empty gives t itself -/
noncomputable def rCatT (K : PySem.W.Frag) : R2 := fun x y H Q => ∃ a b xs ys, x = .ref a ∧ y = .ref b ∧ SqT K H a xs ∧ SqT K H b ys ∧ xs ≠ [] ∧ xs.length + ys.length ≤ sizeLine ∧
  (ys = [] → Q (.ref a) H) ∧ (ys ≠ [] → ∀ p, H p = none → Q (.ref p) (upd H p (.tup (xs ++ ys))))
end
end L2

namespace L2
open PySem PySem.Spec PyProof.Rows

/-! ### places -/
/-- the place that an index of any sign means -/
noncomputable def ixN (n : Nat) (i : Int) : Option Nat := if 0 ≤ i then (if i < n then some i.toNat else none) else if -(n : Int) ≤ i then some (i + n).toNat else none
noncomputable def atI {α : Type} (xs : List α) (i : Int) : Option α := (ixN xs.length i).bind fun j => xs[j]?
theorem ixN_seq {n : Nat} {i : Int} {j : Nat} (h : ixN n i = some j) : seqIndex? i n = some j ∧ j < n ∧ -(n : Int) ≤ i ∧ i < n := by
  unfold ixN at h
  by_cases h0 : 0 ≤ i
  · rw [if_pos h0] at h
    by_cases h1 : i < n
    · rw [if_pos h1] at h
      have e : i.toNat = j := Option.some.inj h
      exact ⟨by rw [seqIndex_of h0 h1, e], by omega, by omega, h1⟩
    · rw [if_neg h1] at h; cases h
  · rw [if_neg h0] at h
    by_cases h1 : -(n : Int) ≤ i
    · rw [if_pos h1] at h
      have e : (i + n).toNat = j := Option.some.inj h
      exact ⟨by rw [seqIndex_neg (by omega) h1, e], by omega, h1, by omega⟩
    · rw [if_neg h1] at h; cases h
theorem atI_get {α : Type} {xs : List α} {i : Int} {v : α} (h : atI xs i = some v) : ∃ j, seqIndex? i xs.length = some j ∧ xs[j]? = some v ∧ j < xs.length ∧ -(xs.length : Int) ≤ i ∧ i < xs.length := by
  unfold atI at h
  cases e : ixN xs.length i with
  | none => rw [e] at h; cases h
  | some j =>
    rw [e] at h
    obtain ⟨h1, h2, h3, h4⟩ := ixN_seq e
    exact ⟨j, h1, h, h2, h3, h4⟩
theorem atI_nat {α : Type} {xs : List α} {j : Nat} {v : α} (h : xs[j]? = some v) : atI xs (j : Int) = some v := by
  have hj : j < xs.length := (List.getElem?_eq_some_iff.mp h).1
  have e : ixN xs.length (j : Int) = some j := by
    unfold ixN
    rw [if_pos (by omega), if_pos (by omega)]; simp
  unfold atI; rw [e]; exact h
/-! ### what may be subscripted -/
/-- what stands as an index of a plain subscript -/
noncomputable def PlainIx (b : Expr) : Prop := ∀ o i, subscripted b false o i = operate [o, i] (getItem o i)
/-- a subscript by values -/
noncomputable def IxR (X : Cx) (r : R2) : Prop :=
  ∀ (value slice : Expr) (pins : List (Addr × Obj)) (s : Shared) (σ : St) (H : Hp) (x y : V) (v u : Value) (Q : VK), Inv X pins σ H s → RelV x v → RelV y u → r x y H Q →
    subscripted slice false v u = operate [v, u] (getItem v u) → wpAny (model X.prog X.w) X.A (subscriptTail value slice v u) (EP X pins σ Q) X.xe s
/-- a call of a builtin's method by values: the receiver, the arguments -/
noncomputable def MtR (X : Cx) (id : String) (r : V → List V → Hp → VK → Prop) : Prop :=
  ∀ (pins : List (Addr × Obj)) (s : Shared) (σ : St) (H : Hp) (x : V) (xs : List V) (v : Value) (us : List Value) (Q : VK), Inv X pins σ H s → RelV x v → Vals xs us → r x xs H Q →
    wpAny (model X.prog X.w) X.A (call (.builtin id) (v :: us)) (EP X pins σ Q) X.xe s
section
variable {X : Cx} {a b : Expr} {ta tb : TE} {pos : Pos}
theorem IxR.or {r r' : R2} (h : IxR X r) (h' : IxR X r') : IxR X (fun x y H Q => r x y H Q ∨ r' x y H Q) := by
  intro value slice pins s σ H x y v u Q I rx ry q hs
  rcases q with q | q
  · exact h value slice pins s σ H x y v u Q I rx ry q hs
  · exact h' value slice pins s σ H x y v u Q I rx ry q hs
theorem MtR.or {id : String} {r r' : V → List V → Hp → VK → Prop} (h : MtR X id r) (h' : MtR X id r') : MtR X id (fun x xs H Q => r x xs H Q ∨ r' x xs H Q) := by
  intro pins s σ H x xs v us Q I rx rs q
  rcases q with q | q
  · exact h pins s σ H x xs v us Q I rx rs q
  · exact h' pins s σ H x xs v us Q I rx rs q
/-- a[b] -/
theorem pe_ix {r : R2} (hr : IxR X r) (ha : PE X a ta) (hb : PE X b tb) (hs : PlainIx b) : PE X (.Subscript a b pos) (tOp r ta tb) := by
  intro pins s σ H Q I h
  exact Subscript_ (binT ha hb I h fun v u s2 x y H2 I2 rx ry q => hr a b pins s2 σ H2 x y v u Q I2 rx ry q (hs _ _))

noncomputable def rIxL (K : PySem.W.Frag) : R2 := fun x y H Q => ∃ p xs i v, x = .ref p ∧ y = .int i ∧ SqL K H p xs ∧ atI xs i = some v ∧ Q v H
noncomputable def rIxT (K : PySem.W.Frag) : R2 := fun x y H Q => ∃ p xs i v, x = .ref p ∧ y = .int i ∧ SqT K H p xs ∧ atI xs i = some v ∧ Q v H
noncomputable def rIxS : R2 := fun x y H Q => ∃ z i c, x = .str z ∧ y = .int i ∧ z.length ≤ sizeLine ∧ atI z.cps.toList i = some c ∧ Q (.str ⟨#[c]⟩) H
theorem ix_list : IxR X (rIxL X.K) := by
  intro value slice pins s σ H x y v u Q I rx ry h hs
  obtain ⟨p, xs, i, z, rfl, rfl, hq, he, q⟩ := h
  cases rx
  obtain ⟨t, rfl⟩ := ry
  obtain ⟨its, r, pl, hz⟩ := I.list hq
  obtain ⟨j, h1, h2, h3, h4, h5⟩ := atI_get he
  obtain ⟨w, ew, rw'⟩ := r.get h2
  have hl := r.length
  have hn := line63
  have fin : EP X pins σ Q w s := ⟨z, H, I, rw', q⟩
  by_cases h0 : 0 ≤ i
  · have hj : i.toNat = j := by
      rw [seqIndex_of h0 h5] at h1
      exact Option.some.inj h1
    exact item_listR pl.isList h0 (by omega) (by rw [hj]; simpa using ew) fin hs
  · have hj : (i + (its.toArray.size : Int)).toNat = j := by
      rw [seqIndex_neg (by omega) h4] at h1
      rw [List.size_toArray, ← hl]
      exact Option.some.inj h1
    exact subscriptTail_builtinR (x := w) pl.isList.typeIs slot_list_getitem.lookup
      (wpAny_getItem_list_neg (Q := fun r s' => r = w ∧ EP X pins σ Q r s') pl.isList (by omega) (by rw [List.size_toArray] <;> omega) (by omega) (by rw [hj]; simpa using ew) ⟨rfl, fin⟩) hs
theorem ix_tup : IxR X (rIxT X.K) := by
  intro value slice pins s σ H x y v u Q I rx ry h hs
  obtain ⟨p, xs, i, z, rfl, rfl, hq, he, q⟩ := h
  cases rx
  obtain ⟨t, rfl⟩ := ry
  obtain ⟨its, r, pl, hz⟩ := I.tuple hq
  obtain ⟨j, h1, h2, h3, h4, h5⟩ := atI_get he
  obtain ⟨w, ew, rw'⟩ := r.get h2
  have hl := r.length
  have hn := line63
  have fin : EP X pins σ Q w s := ⟨z, H, I, rw', q⟩
  exact subscriptTail_builtinR (x := w) pl.typeIs slot_tuple_getitem.lookup
    (getItem_tuple (j := j) (Q := fun r s' => r = w ∧ EP X pins σ Q r s') pl (by omega) (by omega) (by rw [List.size_toArray, ← hl]; exact h1) (by simpa using ew) ⟨rfl, fin⟩) hs
/-- list, tuple or str -/
noncomputable def rIx (K : PySem.W.Frag) : R2 := fun x y H Q => rIxL K x y H Q ∨ rIxT K x y H Q ∨ rIxS x y H Q
/-! ### xs[i] = v, any sign -/
/-- the list's object behind a store -/
theorem mapSeq_set (its : List Value) (n j : Nat) (u : Value) : Obj.mapSeq (·.setIfInBounds j u) { cls := .type "list", data := .seq its.toArray n } = { cls := .type "list", data := .seq (its.set j u).toArray n } := by
  simp [Obj.mapSeq]
theorem Inv.lst {pins : List (Addr × Obj)} {σ : St} {H : Hp} {s : Shared} {p : Addr} {xs : List V} (I : Inv X pins σ H s) (h : H p = some (.lst xs)) :
    ∃ (its : List Value) (n : Nat), Vals xs its ∧ s.heap.get? p = some { cls := .type "list", data := .seq its.toArray n } ∧ xs.length ≤ sizeLine := by
  obtain ⟨z, its, n, r, e⟩ := I.hok p _ h
  exact ⟨its, n, r, e, z⟩
/-- the list at p is written by an update of its object -/
theorem Inv.lstUpd {pins : List (Addr × Obj)} {σ : St} {H : Hp} {s : Shared} {p : Addr} {xs ys : List V} {its its' : List Value} {n n' : Nat} {f : Obj → Obj} (I : Inv X pins σ H s) (h : H p = some (.lst xs))
    (ho : s.heap.get? p = some { cls := .type "list", data := .seq its.toArray n }) (hf : f { cls := .type "list", data := .seq its.toArray n } = { cls := .type "list", data := .seq its'.toArray n' }) (r : Vals ys its') (hz : ys.length ≤ sizeLine) (t : Nat) :
    Inv X pins σ (upd H p (.lst ys)) { s with heap := s.heap.update p f, toks := t } := by
  have e : (s.heap.update p f).get? p = some { cls := .type "list", data := .seq its'.toArray n' } := by
    rw [Heap.get?_update_self f ho (by rw [hf] <;> rfl), hf]
  refine I.write (x := p) (e := p) (by rw [h]; trivial) (.inl rfl) (fun b u hb q => (Heap.get?_update_other _ _ (Ne.symm hb)).trans q) ⟨_, e⟩ ?_
  exact ⟨hz, its', n', r, e⟩
noncomputable def rSetL : V → V → V → Hp → (Hp → Prop) → Prop := fun o i v H Q => ∃ p xs k j, o = .ref p ∧ i = .int k ∧ H p = some (.lst xs) ∧ ixN xs.length k = some j ∧ Q (upd H p (.lst (xs.set j v)))
theorem set_list : PSet X rSetL := by
  intro pins s σ H o i v ov iv u Q I ro ri rv h
  obtain ⟨p, xs, k, j, rfl, rfl, hp, hj, q⟩ := h
  cases ro
  obtain ⟨t, rfl⟩ := ri
  obtain ⟨its, n, r, ho, hz⟩ := I.lst hp
  obtain ⟨h1, h2, h3, h4⟩ := ixN_seq hj
  have hl := r.length
  have hn := line63
  have I' : Inv X pins σ (upd H p (.lst (xs.set j v))) { s with heap := s.heap.update p (Obj.mapSeq (·.setIfInBounds j u)) } :=
    I.lstUpd hp ho (mapSeq_set its n j u) (r.set rv j) (by rw [List.length_set]; exact hz) s.toks
  by_cases h0 : 0 ≤ k
  · have hk : k.toNat = j := by
      rw [seqIndex_of h0 h4] at h1
      exact Option.some.inj h1
    exact PySem.W.ki_setAt ho h0 (by omega) (by rw [List.size_toArray, ← hl]; exact h4) (by rw [hk]; exact ⟨_, I', q⟩)
  · have hk : (k + (its.toArray.size : Int)).toNat = j := by
      rw [seqIndex_neg (by omega) h3] at h1
      rw [List.size_toArray, ← hl]
      exact Option.some.inj h1
    exact PySem.W.ki_setBack ho (by omega) (by rw [List.size_toArray, ← hl]; exact h3) (by omega) (by rw [hk]; exact ⟨_, I', q⟩)

/-! ### slices -/
theorem slice_bounds (lo hi : Option Int) (n : Nat) : (sliceBounds lo hi none n).1 = ((HT.sIx n 0 lo : Nat) : Int) ∧ (sliceBounds lo hi none n).2.1 = ((HT.sIx n n hi : Nat) : Int) ∧ (sliceBounds lo hi none n).2.2 = 1 := by
  refine ⟨?_, ?_, rfl⟩
  · cases lo with
    | none => simp [sliceBounds, HT.sIx]
    | some i =>
      simp only [sliceBounds, HT.sIx, Option.getD_none, show (1 : Int) > 0 by decide, if_true]
      by_cases h : i < 0
      · simp only [h, if_true] <;> omega
      · simp only [h, if_false] <;> omega
  · cases hi with
    | none => simp [sliceBounds, HT.sIx]
    | some i =>
      simp only [sliceBounds, HT.sIx, Option.getD_none, show (1 : Int) > 0 by decide, if_true]
      by_cases h : i < 0
      · simp only [h, if_true] <;> omega
      · simp only [h, if_false] <;> omega
theorem slicePick_cut (its : List Value) (lo hi : Option Int) : slicePick its.toArray lo hi none = ((its.drop (HT.sIx its.length 0 lo)).take (HT.sIx its.length its.length hi - HT.sIx its.length 0 lo)).toArray := by
  obtain ⟨h1, h2, h3⟩ := slice_bounds lo hi its.toArray.size
  unfold slicePick
  rw [h1, h2, h3]
  simp only [sliceRange_one, pick_run, List.size_toArray] <;> rfl
/-- xs[lo:hi] of a list: a new list -/
noncomputable def rSlL (K : PySem.W.Frag) : V → Option Int → Option Int → Hp → VK → Prop := fun x lo hi H Q => ∃ a xs, x = .ref a ∧ SqL K H a xs ∧ ∀ p, H p = none → Q (.ref p) (upd H p (.lst (cutV xs lo hi)))
theorem sl_list : SlR X (rSlL X.K) := by
  intro pins s σ H x v vl vu lo hi sl Q I rx hs pl pu h
  obtain ⟨a, xs, rfl, hx, q⟩ := h
  cases rx
  obtain ⟨its, r, ht, hz⟩ := I.list hx
  have hlen := r.length
  refine ⟨"list", _, slot_list_getitem.lookup, ht.isList.typeIs, ?_⟩
  refine wpAny_getItem_list_slice ht.isList hs pl pu .none (by simp) ?_ (by rw [List.size_toArray] <;> omega)
  rw [slicePick_cut, ← hlen]
  refine ⟨.ref s.heap.objs.size, _, I.laid (t' := s.toks) (o := .lst (cutV xs lo hi)) (fun b ob q => Heap.get?_push_of_some _ q) (Nat.le_refl _) ?_, rfl, q _ (I.hok.fresh (Nat.le_refl _))⟩
  exact ⟨Nat.le_trans (cutV_length xs lo hi) hz, _, 0, (r.drop (HT.sIx xs.length 0 lo)).take (HT.sIx xs.length xs.length hi - HT.sIx xs.length 0 lo), Heap.get?_push_size _ rfl⟩

/-! ### in, not in: flat items -/
noncomputable def flatV : V → Bool
  | .non => true
  | .bl _ => true
  | .int _ => true
  | .str _ => true
  | _ => false
/-- == of flat values -/
noncomputable def eqV : V → V → Bool
  | .non, .non => true
  | .bl a, .bl b => a == b
  | .bl a, .int b => (if a then 1 else 0) == b
  | .int a, .bl b => a == (if b then 1 else 0)
  | .int a, .int b => a == b
  | .str a, .str b => a == b
  | _, _ => false
theorem eqAt_V {A : Around} {s : Shared} {y x : V} {u v : Value} (ry : RelV y u) (rx : RelV x v) (fy : flatV y = true) (fx : flatV x = true) : SeqAt.EqAt A s u v (eqV y x) := by
  cases y with
  | non =>
    cases ry
    cases x with
    | non => cases rx; exact SeqAt.EqAt.same _
    | bl b => cases rx; exact SeqAt.EqAt.none_bool b
    | int b => obtain ⟨t, rfl⟩ := rx; exact SeqAt.EqAt.none_int b t
    | str b => obtain ⟨t, rfl⟩ := rx; exact SeqAt.EqAt.none_str b t
    | _ => exact absurd (show false = true from fx) Bool.false_ne_true
  | bl a =>
    cases ry
    cases x with
    | non => cases rx; exact SeqAt.EqAt.bool_none a
    | bl b => cases rx; exact SeqAt.EqAt.bool_bool a b
    | int b => obtain ⟨t, rfl⟩ := rx; exact SeqAt.EqAt.bool_int a b t
    | str b => obtain ⟨t, rfl⟩ := rx; exact SeqAt.EqAt.bool_str a b t
    | _ => exact absurd (show false = true from fx) Bool.false_ne_true
  | int a =>
    obtain ⟨t', rfl⟩ := ry
    cases x with
    | non => cases rx; exact SeqAt.EqAt.int_none a t'
    | bl b => cases rx; exact SeqAt.EqAt.int_bool a t' b
    | int b => obtain ⟨t, rfl⟩ := rx; exact SeqAt.EqAt.int_int a t' b t
    | str b => obtain ⟨t, rfl⟩ := rx; exact SeqAt.EqAt.int_str a t' b t
    | _ => exact absurd (show false = true from fx) Bool.false_ne_true
  | str a =>
    obtain ⟨t', rfl⟩ := ry
    cases x with
    | non => cases rx; exact SeqAt.EqAt.str_none a t'
    | bl b => cases rx; exact SeqAt.EqAt.str_bool a t' b
    | int b => obtain ⟨t, rfl⟩ := rx; exact SeqAt.EqAt.str_int a t' b t
    | str b => obtain ⟨t, rfl⟩ := rx; exact SeqAt.EqAt.str_str a t' b t
    | _ => exact absurd (show false = true from fx) Bool.false_ne_true
  | _ => exact absurd (show false = true from fy) Bool.false_ne_true
/-- the items' answers, read off the values (a value's own answer does not lean on its token) -/
noncomputable def eqU (x : V) (u : Value) : Bool := match u with
  | .none => eqV .non x
  | .bool b => eqV (.bl b) x
  | .int i _ => eqV (.int i) x
  | .str z _ => eqV (.str z) x
  | _ => false
noncomputable def inV (x : V) (xs : List V) : Bool := xs.any fun y => eqV y x
/-- x in a list or tuple of flat items -/
noncomputable def rIn (K : PySem.W.Frag) (neg : Bool) : R2 := fun x y H Q => ∃ p xs, y = .ref p ∧ (SqL K H p xs ∨ SqT K H p xs) ∧ flatV x = true ∧ xs.all flatV = true ∧ Q (.bl (if neg then !inV x xs else inV x xs)) H
/-! ### len, list(x), tuple(x) of any list or tuple that is read -/
theorem call_len_seq : CallR X (.builtin "len") (fun xs H Q => ∃ p ys, xs = [.ref p] ∧ (SqL X.K H p ys ∨ SqT X.K H p ys) ∧ Q (.int ys.length) H) := by
  intro pins s σ H xs us Q I r h
  obtain ⟨p, ys, rfl, hq, q⟩ := h
  obtain ⟨u, rfl, rx⟩ := vals1 r
  cases rx
  have hn := line63
  rcases hq with hq | hq
  · obtain ⟨its, r', pl, hz⟩ := I.list hq
    have hlen := r'.length
    exact Calls.call_len_list pl.isList (by simp only [List.size_toArray] <;> omega) ⟨.int ys.length, H, I.tok _, ⟨s.toks + 1, by rw [List.size_toArray, hlen]⟩, q⟩
  · obtain ⟨its, r', pl, hz⟩ := I.tuple hq
    have hlen := r'.length
    exact len_tuple pl (by simp only [List.size_toArray] <;> omega) ⟨.int ys.length, H, I.tok _, ⟨s.toks + 1, by rw [List.size_toArray, hlen]⟩, q⟩
theorem CallR.or {f : Value} {r r' : List V → Hp → VK → Prop} (h : CallR X f r) (h' : CallR X f r') : CallR X f (fun xs H Q => r xs H Q ∨ r' xs H Q) := by
  intro pins s σ H xs us Q I rs q
  rcases q with q | q
  · exact h pins s σ H xs us Q I rs q
  · exact h' pins s σ H xs us Q I rs q
theorem call_list_of : CallR X (.type "list") (fun xs H Q => ∃ p ys, xs = [.ref p] ∧ (SqL X.K H p ys ∨ SqT X.K H p ys) ∧ ∀ l, H l = none → Q (.ref l) (upd H l (.lst ys))) := by
  intro pins s σ H xs us Q I r h
  obtain ⟨p, ys, rfl, hq, q⟩ := h
  obtain ⟨u, rfl, rx⟩ := vals1 r
  cases rx
  have fin : ∀ (its : List Value), Vals ys its → ys.length ≤ sizeLine → ∀ (h' : Heap) (c' : Nat), (∀ b o', s.heap.get? b = some o' → h'.get? b = some o') →
      h'.get? s.heap.objs.size = some { cls := .type "list", dict := none, data := .seq its.toArray c', slots := #[] } → EP X pins σ Q (.ref s.heap.objs.size) { s with heap := h' } := fun its r' hz h' c' kp e =>
    ⟨.ref s.heap.objs.size, _, I.laid (t' := s.toks) kp (Nat.le_refl _) (show ObjOk X.prog X.w _ h' _ (.lst ys) from ⟨hz, its, c', r', e⟩), rfl, q _ (I.hok.fresh (Nat.le_refl _))⟩
  rcases hq with hq | hq
  · obtain ⟨its, r', pl, hz⟩ := I.list hq
    have hlen := r'.length
    obtain ⟨o, ho, hc, n, hd⟩ := pl.isList
    exact call_list_seq p (.inl rfl) ho hc hd (fun h' c' kp e => fin its r' hz h' c' kp e) (by simp only [List.size_toArray] <;> omega)
  · obtain ⟨its, r', pl, hz⟩ := I.tuple hq
    have hlen := r'.length
    obtain ⟨o, ho, hc, n, hd⟩ := pl
    exact call_list_seq p (.inr rfl) ho hc hd (fun h' c' kp e => fin its r' hz h' c' kp e) (by simp only [List.size_toArray] <;> omega)
/-! ### the call of a builtin's method: o.m(..) -/
/-- the value is of that builtin type -/
noncomputable def tyV (K : PySem.W.Frag) (T : String) (x : V) (H : Hp) : Prop := match x with
  | .str _ => T = "str"
  | .int _ => T = "int"
  | .ref p => (T = "list" ∧ ∃ xs, SqL K H p xs) ∨ (T = "tuple" ∧ ∃ o, K.lookup p = some o ∧ o.cls = .type "tuple" ∧ o.dict = none) ∨
      (T = "dict" ∧ ((∃ kvs, H p = some (.dK kvs)) ∨ ∃ kvs, H p = some (.dT kvs))) ∨ (T = "set" ∧ ∃ S n, H p = some (.set S n))
  | _ => False
theorem tyV_is {pins : List (Addr × Obj)} {σ : St} {H : Hp} {s : Shared} {T : String} {x : V} {v : Value} (I : Inv X pins σ H s) (r : RelV x v) (ty : tyV X.K T x H) :
    s.TypeIs v T ∧ ∀ a, v = .ref a → ∃ ob, s.heap.get? a = some ob ∧ ob.dict = none := by
  cases x with
  | str z =>
    obtain ⟨t, rfl⟩ := r
    cases (show T = "str" from ty)
    exact ⟨typeIs_str s z t, fun _ e => nomatch e⟩
  | int i =>
    obtain ⟨t, rfl⟩ := r
    cases (show T = "int" from ty)
    exact ⟨typeIs_int s i t, fun _ e => nomatch e⟩
  | ref p =>
    cases r
    rcases ty with ⟨rfl, xs, hq⟩ | ⟨rfl, o, hk, hc, hd⟩ | ⟨rfl, hk⟩ | ⟨rfl, S, n, hk⟩
    · obtain ⟨its, _, pl, _⟩ := I.list hq
      refine ⟨pl.isList.typeIs, fun a e => ?_⟩
      cases e
      obtain ⟨o, n, e, c, hd, _⟩ := pl
      exact ⟨o, e, hd⟩
    · refine ⟨⟨o, I.kIn p o hk, hc⟩, fun a e => ?_⟩
      cases e
      exact ⟨o, I.kIn _ o hk, hd⟩
    · have z : ∃ o, s.heap.get? p = some o ∧ o.ExactDict := by
        rcases hk with ⟨kvs, hk⟩ | ⟨kvs, hk⟩
        · obtain ⟨_, _, _, _, o, _, _, e, ex, _⟩ := I.hok p _ hk
          exact ⟨o, e, ex⟩
        · obtain ⟨_, _, _, _, o, _, _, e, ex, _⟩ := I.hok p _ hk
          exact ⟨o, e, ex⟩
      obtain ⟨o, e, ex⟩ := z
      refine ⟨⟨o, e, ex.1⟩, fun a e2 => ?_⟩
      cases e2
      exact ⟨o, e, ex.2.1⟩
    · obtain ⟨o, _, _, _, e, ex, _⟩ := I.hok p _ hk
      refine ⟨⟨o, e, ex.1⟩, fun a e2 => ?_⟩
      cases e2
      exact ⟨o, e, ex.2.1⟩
  | _ => exact False.elim ty
noncomputable def tBM0 (K : PySem.W.Frag) (T : String) (r : V → List V → Hp → VK → Prop) (to : TE) : TE := fun σ H Q => to σ H fun x H1 => tyV K T x H1 ∧ r x [] H1 Q
noncomputable def tBM (K : PySem.W.Frag) (T : String) (r : V → List V → Hp → VK → Prop) (to : TE) (t : TA) : TE := fun σ H Q => to σ H fun x H1 => tyV K T x H1 ∧ t σ H1 fun xs H2 => r x xs H2 Q
variable {o e : Expr} {es : List Expr} {to : TE} {t : TA} {name : Str} {apos cpos : Pos} {T id : String} {r : V → List V → Hp → VK → Prop}
theorem pe_bm (pa : PlainAttrs T) (slot : Slot T name id) (hty : typeOf (.builtin id) = pure (.type "method_descriptor")) (hm : MtR X id r) (ho : PE X o to) (ha : PA X (e :: es) t)
    (hbase : attributeBase o name X.env (eval o X.env) = eval o X.env := by rfl)
    (hfew : ((backTo cpos (starEach (e :: es) X.env)).all (fun x => !x.1) && (backToKw cpos (keywordEach [] X.env)).all (fun x => x.1.isSome)
      && decide ((e :: es).length + ([] : List Keyword).length + (if ([] : List Keyword).isEmpty then 0 else 1) < 30)) = true := by rfl)
    (hline : (apos.endLine == cpos.line) = true := by rfl) (hs : starEach (e :: es) X.env = (false, eval e X.env) :: starEach es X.env := by rfl) (hplain : (backTo cpos (starEach es X.env)).any (·.1) = false := by rfl) :
    PE X (.Call (.Attribute o name apos) (e :: es) [] cpos) (tBM X.K T r to t) := by
  intro pins s σ H Q I h
  refine wpAny_Call_method_late hbase hfew hline rfl (thn (ho pins s σ H _ I h) fun v s1 ⟨x, H1, I1, r1, ty, q1⟩ => ?_)
  obtain ⟨h1, h2⟩ := tyV_is I1 r1 ty
  refine ⟨T, id, pa, slot, hty, h1, h2, ?_⟩
  have hA := ha cpos pins s1 σ H1 _ I1 q1
  rw [hs] at hA ⊢
  refine Calls.callWith_builtin (by show (false || (backTo cpos (starEach es X.env)).any (·.1)) = false; rw [hplain] <;> rfl) (Calls.evalArgs_plain ?_)
  exact thn hA fun us s2 ⟨vs, H2, I2, r2, q2⟩ => hm pins s2 σ H2 x vs v us Q I2 r1 r2 q2
/- xs.append(e), list.index on a module's tuple .. are MtR facts of 06m -/
end
end L2

namespace L2
open PySem PySem.Spec PyProof.Rows

noncomputable def MtM (X : Cx) (id : String) (r : V → List V → Hp → VK → Prop) : Prop :=
  ∀ (pins : List (Addr × Obj)) (s : Shared) (σ : St) (H : Hp) (x : V) (xs : List V) (v : Value) (us : List Value) (Q : VK), Inv X pins σ H s → RelV x v → Vals xs us → r x xs H Q →
    wpAny (model X.prog X.w) X.A (call (.builtin id) (v :: us)) (EP X pins σ Q) X.xe s

/-! ### lists of values -/
theorem Vals.one : ∀ {x : V} {us : List Value}, Vals [x] us → ∃ u, us = [u] ∧ RelV x u
  | _, _, .cons r .nil => ⟨_, rfl, r⟩
theorem Vals.two : ∀ {x y : V} {us : List Value}, Vals [x, y] us → ∃ u v, us = [u, v] ∧ RelV x u ∧ RelV y v
  | _, _, _, .cons r (.cons q .nil) => ⟨_, _, rfl, r, q⟩
theorem Vals.zero : ∀ {us : List Value}, Vals [] us → us = []
  | _, .nil => rfl
theorem Vals.dropLast {xs : List V} {us : List Value} (h : Vals xs us) : Vals xs.dropLast us.dropLast := by
  induction h with
  | nil => exact .nil
  | cons r t ih =>
    cases t with
    | nil => exact .nil
    | cons q t' => exact .cons r ih
theorem Vals.eraseIdx : ∀ {xs : List V} {us : List Value} (i : Nat), Vals xs us → Vals (xs.eraseIdx i) (us.eraseIdx i)
  | _, _, _, .nil => .nil
  | _, _, 0, .cons _ t => t
  | _, _, i + 1, .cons r t => .cons r (Vals.eraseIdx i t)
theorem Vals.reverse {xs : List V} {us : List Value} (h : Vals xs us) : Vals xs.reverse us.reverse := by
  induction h with
  | nil => exact .nil
  | cons r t ih => rw [List.reverse_cons, List.reverse_cons]; exact Vals.append ih (.cons r .nil)
section
variable {X : Cx} {pins : List (Addr × Obj)} {σ : St} {H : Hp} {s : Shared} {l b : Addr} {xs ys zs : List V}

/-! ### the two steps: a tracked list is rewritten, a new list is laid -/
theorem Inv.lset {its its' : List Value} {n : Nat} {f : Array Value → Array Value} {t' : Nat} (I : Inv X pins σ H s) (hH : H l = some (.lst xs))
    (e : s.heap.get? l = some { cls := .type "list", data := .seq its.toArray n }) (hf : f its.toArray = its'.toArray) (hv : Vals ys its') (hz : ys.length ≤ sizeLine) :
    Inv X pins σ (upd H l (.lst ys)) { s with heap := s.heap.update l (Obj.mapSeq f), toks := t' } := by
  have q := PySem.IsL.update e f
  rw [hf] at q
  refine I.write (x := l) (e := l) (by rw [hH]; exact trivial) (.inl rfl) (fun b' u hb hu => (Heap.get?_update_other s.heap (Obj.mapSeq f) (Ne.symm hb)).trans hu) ⟨_, q⟩ ?_
  exact ⟨hz, its', _, hv, q⟩
theorem Inv.lnew {its : List Value} {t' : Nat} (I : Inv X pins σ H s) (hv : Vals ys its) (hz : ys.length ≤ sizeLine) :
    Inv X pins σ (upd H s.heap.objs.size (.lst ys)) { s with heap := s.heap.push { cls := .type "list", data := .seq its.toArray }, toks := t' } :=
  I.laid (fun _ _ q => Heap.get?_push_of_some _ q) (Nat.le_refl _) ⟨hz, its, 0, hv, Heap.get?_push_size _ rfl⟩
theorem Inv.fresh (I : Inv X pins σ H s) : H s.heap.objs.size = none := I.hok.fresh (Nat.le_refl _)
theorem Inv.lstM (I : Inv X pins σ H s) (hH : H l = some (.lst xs)) : xs.length ≤ sizeLine ∧ ∃ (its : List Value) (n : Nat), Vals xs its ∧ xs.length = its.length ∧ s.heap.get? l = some { cls := .type "list", data := .seq its.toArray n } := by
  obtain ⟨z, its, n, r, e⟩ := I.hok l _ hH
  exact ⟨z, its, n, r, r.length, e⟩

end

section
variable {X : Cx}

/-! ### methods -/
noncomputable def rAppend : V → List V → Hp → VK → Prop := fun x vs H Q => ∃ l xs y, x = .ref l ∧ vs = [y] ∧ H l = some (.lst xs) ∧ xs.length < sizeLine ∧ Q .non (upd H l (.lst (xs ++ [y])))
theorem mt_append : MtM X "list.append" rAppend := by
  intro pins s σ H x vs v us Q I rx rv h
  obtain ⟨l, xs, y, rfl, rfl, hH, hz, q⟩ := h
  cases rx
  obtain ⟨u, rfl, ru⟩ := rv.one
  obtain ⟨z, its, n, r, hl, e⟩ := I.lstM hH
  refine call_meets F.slot_list_append ⟨_, e, rfl⟩ F.entry_list_append (F.args_list_append_2 _ _) (PySem.list_append l its.toArray n u (by rw [List.size_toArray]; omega)) ⟨e, ?_⟩
  refine ⟨.non, _, I.lset (its' := its ++ [u]) hH e (by simp) (r.append (.cons ru .nil)) ?_, rfl, q⟩
  rw [List.length_append, List.length_singleton]
  omega

noncomputable def rExtend : V → List V → Hp → VK → Prop := fun x vs H Q => ∃ l b xs zs, x = .ref l ∧ vs = [.ref b] ∧ H l = some (.lst xs) ∧ H b = some (.lst zs) ∧ xs.length + zs.length ≤ sizeLine ∧ Q .non (upd H l (.lst (xs ++ zs)))
noncomputable def rPop : V → List V → Hp → VK → Prop := fun x vs H Q => ∃ l xs y, x = .ref l ∧ vs = [] ∧ H l = some (.lst xs) ∧ xs[xs.length - 1]? = some y ∧ Q y (upd H l (.lst xs.dropLast))
noncomputable def rPopAt : V → List V → Hp → VK → Prop := fun x vs H Q => ∃ l xs i k y, x = .ref l ∧ vs = [.int i] ∧ H l = some (.lst xs) ∧ -(2 ^ 63) ≤ i ∧ i < 2 ^ 63 ∧ seqIndex? i xs.length = some k ∧ xs[k]? = some y ∧ Q y (upd H l (.lst (xs.eraseIdx k)))
noncomputable def rReverse : V → List V → Hp → VK → Prop := fun x vs H Q => ∃ l xs, x = .ref l ∧ vs = [] ∧ H l = some (.lst xs) ∧ Q .non (upd H l (.lst xs.reverse))
noncomputable def rClear : V → List V → Hp → VK → Prop := fun x vs H Q => ∃ l xs, x = .ref l ∧ vs = [] ∧ H l = some (.lst xs) ∧ Q .non (upd H l (.lst []))
/-! ### list + list, list += list, list * int -/
noncomputable def rCat : R2 := fun x y H Q => ∃ l b xs zs, x = .ref l ∧ y = .ref b ∧ H l = some (.lst xs) ∧ H b = some (.lst zs) ∧ xs.length + zs.length ≤ sizeLine ∧ ∀ p, H p = none → Q (.ref p) (upd H p (.lst (xs ++ zs)))
theorem op_cat : OpR X (binaryOp .Add) rCat := by
  intro pins s σ H x y v u Q I rx ry h
  obtain ⟨l, b, xs, zs, rfl, rfl, hH, hB, hz, q⟩ := h
  cases rx
  cases ry
  obtain ⟨z, its, n, r, hl, e⟩ := I.lstM hH
  obtain ⟨z2, its2, n2, r2, hl2, e2⟩ := I.lstM hB
  refine PySem.P.add_list e e2 ?_ (by rw [List.size_toArray, List.size_toArray]; omega)
  have ea : its.toArray ++ its2.toArray = (its ++ its2).toArray := by simp
  rw [ea]
  exact ⟨.ref _, _, I.lnew (t' := s.toks) (r.append r2) (by rw [List.length_append]; omega), rfl, q _ I.fresh⟩
/-- a list times an int (a negative one is nothing) -/
noncomputable def rRep : R2 := fun x y H Q => ∃ l k xs, x = .ref l ∧ y = .int k ∧ H l = some (.lst xs) ∧ -(2 ^ 63) ≤ k ∧ k < 2 ^ 63 ∧ xs.length * k.toNat ≤ sizeLine ∧
  ∀ p, H p = none → Q (.ref p) (upd H p (.lst (List.replicate k.toNat xs).flatten))
/-! ### del xs[i] -/
end

/-! ### xs[a:b] = ys -/
section
variable {prog : Program} {w : World} {A : Around} {E : Value → Shared → Prop} {s : Shared}
end

section
variable {X : Cx}
end
end L2

namespace L2
open PySem PySem.Spec PyProof.Rows

/-! ### lists of pairs as tables -/
section
variable {κ : Type} [DecidableEq κ]
noncomputable def valV (kvs : List (κ × V)) (k : κ) : Option V := (kvs.find? fun kv => decide (kv.1 = k)).map (·.2)
/-- in its place, or at the end -/
noncomputable def putK (kvs : List (κ × V)) (k : κ) (v : V) : List (κ × V) :=
  if (kvs.any fun kv => decide (kv.1 = k)) = true then kvs.map (fun kv => if kv.1 = k then (kv.1, v) else kv) else kvs ++ [(k, v)]
noncomputable def dropK (kvs : List (κ × V)) (k : κ) : List (κ × V) := kvs.filter fun kv => decide (kv.1 ≠ k)

theorem valV_pos {p : κ × V} {r : List (κ × V)} {k : κ} (e : p.1 = k) : valV (p :: r) k = some p.2 := by simp [valV, List.find?_cons, e]
theorem valV_neg {p : κ × V} {r : List (κ × V)} {k : κ} (e : ¬ p.1 = k) : valV (p :: r) k = valV r k := by simp [valV, List.find?_cons, e]
theorem valV_any (k : κ) : ∀ kvs : List (κ × V), (kvs.any fun kv => decide (kv.1 = k)) = (valV kvs k).isSome
  | [] => rfl
  | p :: r => by
    rw [List.any_cons]
    by_cases e : p.1 = k
    · simp only [valV_pos e, decide_eq_true e, Bool.true_or, Option.isSome_some]
    · rw [valV_neg e, decide_eq_false e, Bool.false_or]; exact valV_any k r
theorem RelO.isSome_eq {o : Option V} {u : Option Value} (r : RelO o u) : o.isSome = u.isSome := by
  cases o with
  | none => cases u with
    | none => rfl
    | some _ => exact (show False from r).elim
  | some _ => cases u with
    | none => exact (show False from r).elim
    | some _ => rfl
theorem RelO.getD {o : Option V} {u : Option Value} {d : V} {d' : Value} (r : RelO o u) (rd : RelV d d') : RelV (o.getD d) (u.getD d') := by
  cases o with
  | none => cases u with
    | none => exact rd
    | some _ => exact (show False from r).elim
  | some _ => cases u with
    | none => exact (show False from r).elim
    | some _ => exact r

/-- raw tables of the same keys -/
theorem KV.val {kvs : List (κ × V)} {vs : List (κ × Value)} (r : KV kvs vs) (k : κ) : RelO (valV kvs k) (valueAt vs k) := by
  unfold KV at r
  induction r with
  | nil => exact True.intro
  | @cons p q ps qs h t ih =>
    obtain ⟨h1, h2⟩ := h
    by_cases e : p.1 = k
    · have e' : q.1 = k := h1.symm.trans e
      have b : valueAt (q :: qs) k = some q.2 := by simp [valueAt, List.find?_cons, e']
      rw [valV_pos e, b]; exact h2
    · have e' : ¬ q.1 = k := fun z => e (h1.trans z)
      have b : valueAt (q :: qs) k = valueAt qs k := by simp [valueAt, List.find?_cons, e']
      rw [valV_neg e, b]; exact ih
theorem KV.any {kvs : List (κ × V)} {vs : List (κ × Value)} (r : KV kvs vs) (k : κ) : (kvs.any fun kv => decide (kv.1 = k)) = vs.any fun kv => decide (kv.1 = k) := by
  unfold KV at r
  induction r with
  | nil => rfl
  | cons h t ih => rw [List.any_cons, List.any_cons, ih, h.1]
theorem KV.repl {kvs : List (κ × V)} {vs : List (κ × Value)} (r : KV kvs vs) (k : κ) {y : V} {u : Value} (ry : RelV y u) :
    KV (kvs.map fun kv => if kv.1 = k then (kv.1, y) else kv) (vs.map fun kv => if kv.1 = k then (kv.1, u) else kv) := by
  unfold KV at r ⊢
  induction r with
  | nil => exact .nil
  | @cons p q ps qs h t ih =>
    rw [List.map_cons, List.map_cons]
    refine .cons ?_ ih
    obtain ⟨h1, h2⟩ := h
    by_cases e : p.1 = k
    · rw [if_pos e, if_pos (h1.symm.trans e)]; exact ⟨h1, ry⟩
    · rw [if_neg e, if_neg (fun z => e (h1.trans z))]; exact ⟨h1, h2⟩
theorem KV.put {kvs : List (κ × V)} {vs : List (κ × Value)} (r : KV kvs vs) (k : κ) {y : V} {u : Value} (ry : RelV y u) : KV (putK kvs k y) (stored vs k u) := by
  unfold putK stored
  rw [r.any k]
  by_cases e : (vs.any fun kv => decide (kv.1 = k)) = true
  · rw [if_pos e, if_pos e]; exact r.repl k ry
  · rw [if_neg e, if_neg e]; exact Paired.snoc r ⟨rfl, ry⟩
theorem KV.drop {kvs : List (κ × V)} {vs : List (κ × Value)} (r : KV kvs vs) (k : κ) : KV (dropK kvs k) (without vs k) := by
  unfold KV at r ⊢
  unfold dropK without
  induction r with
  | nil => exact .nil
  | @cons p q ps qs h t ih =>
    obtain ⟨h1, h2⟩ := h
    rw [List.filter_cons, List.filter_cons]
    by_cases e : p.1 = k
    · have a : ¬ decide (p.1 ≠ k) = true := by simp [e]
      have b : ¬ decide (q.1 ≠ k) = true := by simp [h1.symm.trans e]
      rw [if_neg a, if_neg b]; exact ih
    · have e' : ¬ q.1 = k := fun z => e (h1.trans z)
      have a : decide (p.1 ≠ k) = true := by simp [e]
      have b : decide (q.1 ≠ k) = true := by simp [e']
      rw [if_pos a, if_pos b]; exact .cons ⟨h1, h2⟩ ih
theorem KV.keys {kvs : List (κ × V)} {vs : List (κ × Value)} (r : KV kvs vs) : kvs.map (·.1) = vs.map (·.1) := by
  unfold KV at r
  induction r with
  | nil => rfl
  | cons h t ih => rw [List.map_cons, List.map_cons, ih, h.1]
theorem KV.length {kvs : List (κ × V)} {vs : List (κ × Value)} (r : KV kvs vs) : kvs.length = vs.length := Paired.length r
end


/-! ### a tracked dict, its keys ints and texts or tuples of these -/
/-- raw entries of a dict with tuple keys -/
abbrev KT (H : Hp) : List (List Key × V) → List (List Key × Addr × Value) → Prop := Paired fun p q => p.1 = q.1 ∧ H q.2.1 = some (.tup (p.1.map kV)) ∧ RelV p.2 q.2.2
theorem KT.val {H : Hp} {kvs : List (List Key × V)} {xs : List (List Key × Addr × Value)} (r : KT H kvs xs) (k : List Key) : RelO (valV kvs k) ((atKey xs k).map (·.2)) := by
  induction r with
  | nil => exact True.intro
  | @cons p q ps qs h t ih =>
    obtain ⟨h1, _, h2⟩ := h
    by_cases e : p.1 = k
    · have e' : q.1 = k := h1.symm.trans e
      have b : atKey (q :: qs) k = some q.2 := by simp [atKey, List.find?_cons, e']
      rw [valV_pos e, b]; exact h2
    · have e' : ¬ q.1 = k := fun z => e (h1.trans z)
      have b : atKey (q :: qs) k = atKey qs k := by simp [atKey, List.find?_cons, e']
      rw [valV_neg e, b]; exact ih
theorem KT.repl {H : Hp} {kvs : List (List Key × V)} {xs : List (List Key × Addr × Value)} (r : KT H kvs xs) (k : List Key) {y : V} {u : Value} (ry : RelV y u) :
    KT H (kvs.map fun kv => if kv.1 = k then (kv.1, y) else kv) (xs.map (putAt k u)) := by
  induction r with
  | nil => exact .nil
  | @cons p q ps qs h t ih =>
    rw [List.map_cons, List.map_cons]
    refine .cons ?_ ih
    obtain ⟨h1, h2, h3⟩ := h
    unfold putAt
    by_cases e : p.1 = k
    · rw [if_pos e, if_pos (h1.symm.trans e)]; exact ⟨h1, h2, ry⟩
    · rw [if_neg e, if_neg (fun z => e (h1.trans z))]; exact ⟨h1, h2, h3⟩
theorem KT.put {H : Hp} {kvs : List (List Key × V)} {xs : List (List Key × Addr × Value)} (r : KT H kvs xs) (k : List Key) {b : Addr} {y : V} {u : Value} (hb : H b = some (.tup (k.map kV))) (ry : RelV y u) :
    KT H (putK kvs k y) (storedH xs k b u) := by
  have e : (kvs.any fun kv => decide (kv.1 = k)) = (atKey xs k).isSome := by
    rw [valV_any, (r.val k).isSome_eq, Option.isSome_map]
  unfold putK storedH
  rw [e]
  by_cases q : (atKey xs k).isSome = true
  · rw [if_pos q, if_pos q]; exact r.repl k ry
  · rw [if_neg q, if_neg q]; exact Paired.snoc r ⟨rfl, hb, ry⟩
theorem KT.keeps {H H' : Hp} {kvs : List (List Key × V)} {xs : List (List Key × Addr × Value)} (r : KT H kvs xs) (ht : ∀ b ys, H b = some (.tup ys) → H' b = some (.tup ys)) : KT H' kvs xs :=
  Paired.mapP r fun _ _ z => ⟨z.1, ht _ _ z.2.1, z.2.2⟩

section
variable {P : Program} {w : World} {H : Hp} {h : Heap} {a : Addr}
end

/-- what the dict at a holds at the key y -/
noncomputable def DGet (H : Hp) (a : Addr) (y : V) (r : Option V) : Prop :=
  (∃ kvs k, Rd H a (.dK kvs) ∧ y = kV k ∧ r = valV kvs k) ∨ ∃ kvs k b, Rd H a (.dT kvs) ∧ y = .ref b ∧ H b = some (.tup (k.map kV)) ∧ r = valV kvs k
/-- the heap behind a[y] = v -/
noncomputable def DPut (H : Hp) (a : Addr) (y v : V) (H' : Hp) : Prop :=
  (∃ kvs k, H a = some (.dK kvs) ∧ y = kV k ∧ kvs.length < sizeLine ∧ H' = upd H a (.dK (putK kvs k v))) ∨
  ∃ kvs k b, H a = some (.dT kvs) ∧ y = .ref b ∧ H b = some (.tup (k.map kV)) ∧ kvs.length < sizeLine ∧ H' = upd H a (.dT (putK kvs k v))
theorem DGet.k {H : Hp} {a : Addr} {kvs : List (Key × V)} {k : Key} (e : H a = some (.dK kvs)) : DGet H a (kV k) (valV kvs k) := .inl ⟨kvs, k, .inl e, rfl, rfl⟩
theorem DGet.t {H : Hp} {a b : Addr} {kvs : List (List Key × V)} {k : List Key} (e : H a = some (.dT kvs)) (eb : H b = some (.tup (k.map kV))) : DGet H a (.ref b) (valV kvs k) := .inr ⟨kvs, k, b, .inl e, rfl, eb, rfl⟩
theorem DPut.k {H : Hp} {a : Addr} {kvs : List (Key × V)} {k : Key} {v : V} (e : H a = some (.dK kvs)) (hl : kvs.length < sizeLine) : DPut H a (kV k) v (upd H a (.dK (putK kvs k v))) := .inl ⟨kvs, k, e, rfl, hl, rfl⟩
theorem DPut.t {H : Hp} {a b : Addr} {kvs : List (List Key × V)} {k : List Key} {v : V} (e : H a = some (.dT kvs)) (eb : H b = some (.tup (k.map kV))) (hl : kvs.length < sizeLine) :
    DPut H a (.ref b) v (upd H a (.dT (putK kvs k v))) := .inr ⟨kvs, k, b, e, rfl, eb, hl, rfl⟩


section
variable {X : Cx} {pins : List (Addr × Obj)} {σ : St} {H : Hp} {s : Shared} {a : Addr} {y v : V} {u r : Value} {o : Option V} {A : Around} {E : Value → Shared → Prop}

theorem Inv.big (I : Inv X pins σ H s) : sysModules < s.heap.objs.size := by
  have h : mainGlobals < s.heap.objs.size := (I.mod.glob.keeps I.bk).lt
  exact Nat.lt_trans (by decide) h

end

section
variable {X : Cx} {pins : List (Addr × Obj)} {σ : St} {H : Hp} {s : Shared} {a : Addr} {kvs : List (Key × V)} {k : Key} {u : Value} {A : Around} {E : Value → Shared → Prop}
end


/-! ### readings and rules -/
/-- the element of a subscription, not a slice -/
noncomputable def NoSl (i : Expr) : Prop := ∀ ov iv, subscripted i false ov iv = operate [ov, iv] (getItem ov iv)
/-- d[y] -/
noncomputable def tDGet (td ty : TE) : TE := fun σ H Q => td σ H fun x H1 => ty σ H1 fun y H2 => ∃ a v, x = .ref a ∧ DGet H2 a y (some v) ∧ Q v H2
/-- y in d, y not in d -/
noncomputable def tDIn (ty td : TE) : TE := fun σ H Q => ty σ H fun y H1 => td σ H1 fun x H2 => ∃ a o, x = .ref a ∧ DGet H2 a y o ∧ Q (.bl o.isSome) H2
noncomputable def tDNotIn (ty td : TE) : TE := fun σ H Q => ty σ H fun y H1 => td σ H1 fun x H2 => ∃ a o, x = .ref a ∧ DGet H2 a y o ∧ Q (.bl (!o.isSome)) H2
/-- d[y] = v -/
noncomputable def sDPut (td ty tv : TE) : TS := fun D σ H => tv σ H fun v H1 => td σ H1 fun x H2 => ty σ H2 fun y H3 => ∃ a H4, x = .ref a ∧ DPut H3 a y v H4 ∧ D.nx σ H4
/-- d[y] op= v -/
noncomputable def sDAug (td ty tv : TE) (rd : V → V → Hp → VK → Prop) : TS := fun D σ H => td σ H fun x H1 => ty σ H1 fun y H2 => ∃ a v, x = .ref a ∧ DGet H2 a y (some v) ∧
  tv σ H2 fun y2 H3 => rd v y2 H3 fun z H4 => ∃ H5, DPut H4 a y z H5 ∧ D.nx σ H5
/-- del d[y] -/
noncomputable def sDDel (td ty : TE) : TS := fun D σ H => td σ H fun x H1 => ty σ H1 fun y H2 => ∃ a kvs k, x = .ref a ∧ H2 a = some (.dK kvs) ∧ y = kV k ∧ (valV kvs k).isSome = true ∧ D.nx σ (upd H2 a (.dK (dropK kvs k)))

section
variable {X : Cx} {o i e value : Expr} {pos pos' tpos : Pos} {td ty tv : TE}
end


/-! ### displays -/
/-- {}, to be a dict of the kind that is wanted -/
noncomputable def tDNewK : TE := fun _ H Q => ∀ p, H p = none → Q (.ref p) (upd H p (.dK []))
noncomputable def tDNewT : TE := fun _ H Q => ∀ p, H p = none → Q (.ref p) (upd H p (.dT []))
section
variable {X : Cx} {pos : Pos}
end

/-- the pairs of a display, from the left -/
noncomputable def tPairs : List (TE × TE) → St → Hp → (List (V × V) → Hp → Prop) → Prop
  | [], _, H, Q => Q [] H
  | (tk, tv) :: r, σ, H, Q => tk σ H fun x H1 => tv σ H1 fun y H2 => tPairs r σ H2 fun ps H3 => Q ((x, y) :: ps) H3
abbrev VV : List (V × V) → List (Value × Value) → Prop := Paired fun p q => RelV p.1 q.1 ∧ RelV p.2 q.2
noncomputable def PPs (X : Cx) (pos : Pos) (keys : List (Option Expr)) (values : List Expr) (trs : List (TE × TE)) : Prop :=
  ∀ (pins : List (Addr × Obj)) (s : Shared) (σ : St) (H : Hp) (Q : List (V × V) → Hp → Prop), Inv X pins σ H s → tPairs trs σ H Q →
    wpAny (model X.prog X.w) X.A (evalPairs (pairTrees keys values X.env pos)) (fun vs s' => ∃ ps H', Inv X pins σ H' s' ∧ VV ps vs ∧ Q ps H') X.xe s
noncomputable def mergeK (kvs more : List (Key × V)) : List (Key × V) := more.foldl (fun acc kv => putK acc kv.1 kv.2) kvs
theorem KV.merge : ∀ {more : List (Key × V)} {rs : List (Key × Value)} {kvs : List (Key × V)} {vs : List (Key × Value)}, KV more rs → KV kvs vs → KV (mergeK kvs more) (merged vs rs) := by
  intro more rs kvs vs r
  unfold KV at r
  induction r generalizing kvs vs with
  | nil => intro q; exact q
  | @cons p q ps qs h t ih =>
    intro r0
    have e : KV (putK kvs p.1 p.2) (stored vs q.1 q.2) := by
      have := r0.put p.1 h.2
      rw [← h.1]; exact this
    exact ih e
/-- {k: v, ..} with keys ints and texts; the new dict stands empty while the pairs are made -/
noncomputable def tDisp (trs : List (TE × TE)) : TE := fun σ H Q => ∀ p, H p = none → tPairs trs σ (upd H p (.dK [])) fun ps H2 => H2 p = some (.dK []) ∧ ∃ kvs : List (Key × V), ps = kvs.map (fun kv => (kV kv.1, kv.2)) ∧ kvs.length ≤ 15 ∧ Q (.ref p) (upd H2 p (.dK (mergeK [] kvs)))
/-! ### methods -/
/-- a method call o.m(e) of a built-in, with one argument: what must be seen of the text -/
structure M1 (X : Cx) (o : Expr) (m : Str) (apos : Pos) (e : Expr) (cpos : Pos) : Prop where
  base : attributeBase o m X.env (eval o X.env) = eval o X.env
  few : ((backTo cpos (starEach [e] X.env)).all (fun x => !x.1) && (backToKw cpos (keywordEach [] X.env)).all (fun x => x.1.isSome)
    && decide (([e] : List Expr).length + ([] : List Keyword).length + (if ([] : List Keyword).isEmpty then 0 else 1) < 30)) = true
  line : (apos.endLine == cpos.line) = true
  trees : backTo cpos (starEach [e] X.env) = [(false, eval e X.env)]
structure M2 (X : Cx) (o : Expr) (m : Str) (apos : Pos) (e f : Expr) (cpos : Pos) : Prop where
  base : attributeBase o m X.env (eval o X.env) = eval o X.env
  few : ((backTo cpos (starEach [e, f] X.env)).all (fun x => !x.1) && (backToKw cpos (keywordEach [] X.env)).all (fun x => x.1.isSome)
    && decide (([e, f] : List Expr).length + ([] : List Keyword).length + (if ([] : List Keyword).isEmpty then 0 else 1) < 30)) = true
  line : (apos.endLine == cpos.line) = true
  trees : backTo cpos (starEach [e, f] X.env) = [(false, eval e X.env), (false, eval f X.env)]

/-- a is a dict, whatever its keys -/
noncomputable def IsD (H : Hp) (a : Addr) : Prop := (∃ kvs, Rd H a (.dK kvs)) ∨ ∃ kvs, Rd H a (.dT kvs)
section
variable {X : Cx} {pins : List (Addr × Obj)} {σ : St} {H : Hp} {s : Shared} {a : Addr} {y d : V} {u r : Value} {o : Option V} {A : Around} {E : Value → Shared → Prop}
end

noncomputable def tDGet1 (td ty : TE) : TE := fun σ H Q => td σ H fun x H1 => ∃ a, x = .ref a ∧ IsD H1 a ∧ ty σ H1 fun y H2 => ∃ o, DGet H2 a y o ∧ Q (o.getD .non) H2
noncomputable def tDGet2 (td ty tx : TE) : TE := fun σ H Q => td σ H fun x H1 => ∃ a, x = .ref a ∧ IsD H1 a ∧ ty σ H1 fun y H2 => tx σ H2 fun z H3 => ∃ o, DGet H3 a y o ∧ Q (o.getD z) H3
/-- d.pop(k): there; d.pop(k, x): there or not -/
noncomputable def tDPop1 (td ty : TE) : TE := fun σ H Q => td σ H fun x H1 => ∃ a, x = .ref a ∧ IsD H1 a ∧ ty σ H1 fun y H2 => ∃ kvs k v, H2 a = some (.dK kvs) ∧ y = kV k ∧ valV kvs k = some v ∧ Q v (upd H2 a (.dK (dropK kvs k)))
noncomputable def tDPop2 (td ty tx : TE) : TE := fun σ H Q => td σ H fun x H1 => ∃ a, x = .ref a ∧ IsD H1 a ∧ ty σ H1 fun y H2 => tx σ H2 fun z H3 => ∃ kvs k, H3 a = some (.dK kvs) ∧ y = kV k ∧
  (∀ v, valV kvs k = some v → Q v (upd H3 a (.dK (dropK kvs k)))) ∧ (valV kvs k = none → Q z H3)
section
variable {X : Cx} {o e f : Expr} {apos cpos : Pos} {td ty tx : TE}
end

/-! ### dict(d): a copy -/
section
variable {X : Cx} {pins : List (Addr × Obj)} {σ : St} {H : Hp} {s : Shared} {a : Addr} {kvs : List (Key × V)} {A : Around} {E : Value → Shared → Prop}
end


section
variable {X : Cx} {pins : List (Addr × Obj)} {σ : St} {H : Hp} {s : Shared} {a : Addr} {y : V} {u : Value} {A : Around} {E : Value → Shared → Prop}
end
end L2

namespace Att
open PySem PySem.W PySem.Calls PyProof.Rows

/-! ### the script -/
theorem ints_of_wellAll {P : Params} {h : Heap} : ∀ (ns : List Int) (vs : List Value), WellAll P h vs (ns.map WData.int) → IntsAre vs ns := by
  intro ns
  induction ns with
  | nil =>
    intro vs w
    rw [List.map_nil] at w
    cases w
    exact .nil
  | cons n ns ih =>
    intro vs w
    rw [List.map_cons] at w
    cases w with
    | cons a b =>
      cases a
      exact .cons _ _ (ih _ b)

theorem script_of {l : OpenLaw} {n : Nat} (hn : l.most = some n) {P : Params} {h : Heap} {args : List WData} {vals : List Value}
    (hpre : l.row.toRowW.claim.pre args = true) (hwl : WellAll P h vals args) :
    ∃ a vs ns, vals = [Value.ref a] ∧ args = [WData.list (ns.map WData.int)] ∧ h.get? a = some { cls := .type "list", data := .seq vs.toArray } ∧ IntsAre vs ns ∧ ns.length ≤ n := by
  have hsh : WShape.hasAll [] args [.list .int] = true := (pre_splitW hpre).1
  have hc : l.pre.holds [] { args := args } = true := (pre_splitW hpre).2
  obtain ⟨d, r, rfl, h1, h2⟩ := hasAllW_cons hsh
  obtain rfl := hasAllW_nil h2
  obtain ⟨xs, rfl, h3⟩ := hasW_list h1
  obtain ⟨ns, rfl⟩ := items_int h3
  have hlen : ns.length ≤ n := by
    unfold OpenLaw.pre at hc
    have h4 : (WTm.not (.lt (.lit (.int (n : Int))) (.len (.arg 0)))).holds [] { args := [.list (ns.map .int)] } = true := by
      have h4 := (holds_andW hc).1
      rw [hn] at h4
      exact h4
    have h5 := condW_of h4 (w_not (w_lt w_lit (w_len_list (w_arg rfl))))
    rw [List.length_map] at h5
    refine Nat.le_of_not_lt fun q => ?_
    have q' : (n : Int) < ((ns.length : Nat) : Int) := by omega
    first
      | (rw [decide_eq_true q'] at h5; exact absurd h5 (by decide))
      | (simp at h5; omega)
  cases hwl with
  | cons w1 w2 =>
    cases w2
    cases w1 with
    | list ho hall => exact ⟨_, _, ns, rfl, rfl, ho, ints_of_wellAll ns _ hall, hlen⟩

theorem post_true (l : OpenLaw) (args : List WData) : l.row.toRowW.claim.post args (.bool true) args = true :=
  postW_of (r := l.row.toRowW) (X := (true == true))
    (show WShape.has [] (.bool true) .bool = true by first | rfl | decide | simp [WShape.has, WShape.arms, WShape.armsAll])
    (show (WTm.eq .res (.lit (.bool true))).value [] { args := args, res := some (.bool true), after := args } = some (.bool (true == true)) from w_eq_bool (w_res rfl) w_lit) rfl

/-! ### the attachment: holds_open's last premise (the goal 'hc' behind k_head) from a wpAny of the law's body -/
/-- the same from a codeAny of the CALL (for a layer whose function contracts speak of calls) -/
theorem attach_call {l : OpenLaw} {n : Nat} {q : Program} {loose : List Str} {XP : (Str → Option Value) → Heap → Prop} {YP : World → Heap → Prop} {d : DefRec}
    (hn : l.most = some n) (hdf : d.params.defaults = [])
    (call : ∀ (w : World) (s₀ s₁ : Shared) (mg mb : Str → Option Value) (fa : Addr) (o : Obj) (pm cd doc : Value) (a : Addr) (vs : List Value) (ns : List Int),
      Ground q loose [] XP w s₀ mg mb s₁.heap → YP w s₁.heap →
      s₁.heap.get? fa = some o → o.data = .func (docDef d.name d.params d.body d.scope pm cd doc) → s₁.heap.CodeRec cd d.name → mg d.name = some (.ref fa) →
      s₁.heap.get? a = some { cls := .type "list", data := .seq vs.toArray } → IntsAre vs ns → ns.length ≤ n → s₁.gens = #[] →
      codeAny (model l.prog w) callerA (.call (.ref fa) ⟨[.ref a], []⟩) (fun r s' => r = .ok (.ret (.bool true)) ∧ OldK s₁.heap s'.heap ∧ s'.os = s₁.os ∧ AllBare s'.gens) s₁) :
    WalkO q loose XP YP l.row.toRowW d [] (fun f vs => PySem.call f vs) := by
  intro w s₀ s₁ mg mb G Y fa o pm cd doc dV kV ho hd hcd hD hmg hg args vals as hpre hlay hrd hwl hlo
  obtain rfl : dV = .none := Dflts.none hD hdf
  obtain rfl : kV = .none := Dflts.noKw hD
  obtain ⟨a, vs, ns, rfl, rfl, hobj, hints, hlen⟩ := script_of hn hpre hwl
  refine enter_call (codeAny_mono (call w s₀ s₁ mg mb fa o pm cd doc a vs ns G Y ho (fd_plain hd) hcd hmg hobj hints hlen hg) fun r s' hq => ?_)
  obtain ⟨rfl, h2, h3, h4⟩ := hq
  exact ⟨.inl ⟨.bool true, .bool true, [], rfl, fun _ => rfl, .bool true, post_true l _, fun _ => ⟨List.Pairwise.nil, fun _ hm => (nomatch hm)⟩⟩, h2, h3, h4⟩

/-! ### rules over ANY heap (no ledger) from facts about the written part K: the library's own take a ledger (News) for what they write -/
section
variable {prog : Program} {w : World} {A : Around} {E : Value → Shared → Prop} {s : Shared} {K : Frag}

/-! the whole heap as the ledger: makes every rule that writes through a ledger a rule over any heap -/
noncomputable def noObjs (h : Heap) : Heap := { h with objs := #[] }
noncomputable def ledger (h : Heap) (L d : Addr) : List (Addr × Obj) := (List.range h.objs.size).filterMap fun a => if a = L ∨ a = d then none else (h.get? a).map fun o => (a, o)
end
end Att

namespace L2
open PySem PySem.Spec PyProof.Rows

theorem vals_ints : ∀ {vs : List Value} {ns : List Int}, IntsAre vs ns → Vals (ns.map V.int) vs
  | _, _, .nil => .nil
  | _, _, .cons n t h => .cons ⟨t, rfl⟩ (vals_ints h)

/-- nothing is tracked but the script, known to the object (or it is an object of the module) -/
noncomputable def Only (H : Hp) : Prop := ∀ b, H b = none ∨ ∃ o xs, H b = some (.frz o (.lst xs))

/-- THE HEAD: the law's promise, at the heap behind the top. F, the promise of the law's def, may use that base is part of the heap (so K.In base, base.Ns mainGlobals mg stand in Mod) -/
theorem law_call {P : Program} {w : World} {K : PySem.W.Frag} {mg mb : Str → Option Value} {CX : CXT} {k : Nat} {fa a : Addr} {fd : FuncData} {x : Str} {sp : Sp} {s₁ : Shared} {vs : List Value} {ns : List Int}
    (KX : K.In s₁.heap) (hns : s₁.heap.Ns mainGlobals mg) (hb : s₁.heap.Ns builtinsNs mb) (hbb : ∀ x : Str, x ≠ "__name__" → mb x = bootBuiltins x) (hlim : s₁.heap.NoLimit) (hg : s₁.gens = #[])
    (ha : s₁.heap.get? a = some { cls := .type "list", data := .seq vs.toArray }) (hi : IntsAre vs ns) (hl : ns.length ≤ sizeLine) (hr : Room k callerA)
    (F : ∀ base : Heap, K.In base → base.Ns mainGlobals mg → FnOk P w K mg base CX k fa fd [x] sp) (hbind : ∀ (s : Shared) (u : Value), BindsTo s fd ⟨[u], []⟩ [(x, u)])
    (hsp : ∀ H : Hp, Only H → SqL K H a (ns.map V.int) → sp [.ref a] H (fun v _ => v = .bl true) fun _ _ _ => False)
    (hCX : ∀ H e s', CX [] H s₁ (fun _ _ _ => False) e s' → False) :
    codeAny (model P w) callerA (.call (.ref fa) ⟨[.ref a], []⟩) (fun r s' => r = .ok (.ret (.bool true)) ∧ OldK s₁.heap s'.heap ∧ s'.os = s₁.os ∧ AllBare s'.gens) s₁ := by
  have rv := vals_ints hi
  have lenV := hi.length
  -- from an abstract heap in which nothing but the script may be tracked
  have core : ∀ H : Hp, Only H → SqL K H a (ns.map V.int) → HOk P w H s₁.heap → (∀ b, H b ≠ none → b = a) → (H a ≠ none → K.lookup a = none) →
      codeAny (model P w) callerA (.call (.ref fa) ⟨[.ref a], []⟩) (fun r s' => r = .ok (.ret (.bool true)) ∧ OldK s₁.heap s'.heap ∧ s'.os = s₁.os ∧ AllBare s'.gens) s₁ := by
    intro H hO hS hok hA hK
    have base_of : ∀ {b : Addr} {o : Obj}, s₁.heap.get? b = some o → H b = none → (hidT s₁.heap H).get? b = some o := fun e n => hidT_get e n
    have noA : ∀ {b : Addr} {o : Obj} {es : Array DictEntry} {ep : Nat}, s₁.heap.get? b = some o → o.data = .dict es ep → H b = none := fun {b o es ep} e d => by
      cases q : H b with
      | none => rfl
      | some u =>
        have e' : b = a := hA b (by rw [q]; simp)
        subst e'
        rw [ha] at e; cases e
        have d' : Data.seq vs.toArray _ = Data.dict es ep := d
        cases d'
    have nsK : ∀ {b : Addr} {m : Str → Option Value}, s₁.heap.Ns b m → (hidT s₁.heap H).Ns b m := fun {b m} ⟨o, es, ep, e, d, r⟩ => ⟨o, es, ep, base_of e (noA e d), d, r⟩
    have hKb : K.In (hidT s₁.heap H) := fun b o e => base_of (KX b o e) (by
      cases q : H b with
      | none => rfl
      | some u =>
        have e' : b = a := hA b (by rw [q]; simp)
        subst e'
        rw [hK (by rw [q]; simp)] at e; cases e)
    have hM : Mod K mg (hidT s₁.heap H) := ⟨hKb, nsK hns, ⟨mb, nsK hb, hbb⟩, let ⟨mc, h1, h2⟩ := hlim; ⟨mc, nsK h1, h2⟩⟩
    have e0 : Env0 P w K mg (hidT s₁.heap H) callerA [] s₁ H := ⟨rfl, hM, fun b o e => of_hidT e, Nat.le_of_eq (hidT_size _ _), trivial, fun b hb => absurd (show b ∈ ([] : List Addr) from hb) (by simp), hok, .of_eq hg⟩
    refine codeAny_mono ((F _ hKb (nsK hns)).run callerA [] s₁ H ⟨[.ref a], []⟩ [.ref a] [.ref a] _ _ hr e0 (hbind s₁ (.ref a)) (.cons rfl .nil) (hsp H hO hS)) fun r s' h => ?_
    cases r with
    | error e => exact (hCX H e s' h).elim
    | ok fl =>
      cases fl with
      | next => exact False.elim h
      | brk => exact False.elim h
      | cont => exact False.elim h
      | ret u =>
        obtain ⟨v, H', os, bare, un, hok', r', q⟩ := h
        have q' : v = .bl true := q
        subst q'
        obtain rfl : u = Value.bool true := r'
        refine ⟨rfl, OldK.of_keep fun b o e => ?_, os, bare⟩
        cases q : H b with
        | none => exact un.keep b o e q (by intro z; exact absurd (show b ∈ ([] : List Addr) from z) (by simp)) (by simp)
        | some u =>
          rcases hO b with z | ⟨ob, xs, z⟩
          · rw [q] at z; cases z
          · have z2 := un.frzs b ob _ z
            obtain ⟨e1, _⟩ := hok b _ z
            obtain ⟨e2, _⟩ := hok' b _ z2
            rw [e] at e1; cases e1
            exact e2
  cases hk : K.lookup a with
  | some o =>
    -- the script is one of the module's own objects
    have e := KX a o hk
    rw [ha] at e
    cases e
    refine core (fun _ => none) (fun _ => .inl rfl) (.inr ⟨_, vs.toArray, _, hk, rfl, rfl, rfl, by rw [List.size_toArray, lenV]; exact hl, by simpa using rv⟩) (fun b u z => by have z' : (none : Option HO) = some u := z; cases z') (fun b z => absurd rfl z) fun z => absurd rfl z
  | none =>
    refine core (fun b => if b = a then some (.frz { cls := .type "list", data := .seq vs.toArray } (.lst (ns.map V.int))) else none) (fun b => ?_) (.inl (.inr ⟨{ cls := .type "list", data := .seq vs.toArray }, if_pos rfl⟩)) (fun b u z => ?_) (fun b z => ?_) fun _ => hk
    · by_cases hb : b = a
      · exact .inr ⟨_, _, if_pos hb⟩
      · exact .inl (if_neg hb)
    · by_cases hb : b = a
      · have z' := (if_pos hb).symm.trans z
        cases z'
        subst hb
        exact ⟨ha, by rw [List.length_map]; exact hl, vs, _, rv, ha⟩
      · have z' := (if_neg hb).symm.trans z
        cases z'
    · by_cases hb : b = a
      · exact hb
      · exact absurd (if_neg hb) z
end L2

namespace L2
open PySem PySem.Spec PyProof.Rows

abbrev KOf {K : PySem.W.Frag} {h : Heap} (_ : K.In h) : PySem.W.Frag := K

/-- the goal that k_head leaves (case hc), from the law's promise. F gives the function object fd (K's own) once, then the promise over every base -/
theorem walk_of {l : PySem.W.OpenLaw} {n k : Nat} {q : Program} {loose : List Str} {XP : (Str → Option Value) → Heap → Prop} {YP : World → Heap → Prop} {d : DefRec} {K : Params → PySem.W.Frag} {CX : World → CXT} {sp : World → Sp} {x : Str}
    (hn : l.most = some n) (hn2 : n ≤ sizeLine) (hdf : d.params.defaults = []) (hr : Room k callerA)
    (hY : ∀ (w : World) (h : Heap), YP w h → (K w.params).In h)
    (F : ∀ (w : World) (mg : Str → Option Value) (fa : Addr) (h : Heap), (K w.params).In h → h.Ns mainGlobals mg → mg d.name = some (.ref fa) →
      ∃ fd : FuncData, (∀ (s : Shared) (u : Value), BindsTo s fd ⟨[u], []⟩ [(x, u)]) ∧
        ∀ base : Heap, (K w.params).In base → base.Ns mainGlobals mg → FnOk l.prog w (K w.params) mg base (CX w) k fa fd [x] (sp w))
    (hsp : ∀ (w : World) (H : Hp) (a : Addr) (ns : List Int), ns.length ≤ n → Only H → SqL (K w.params) H a (ns.map V.int) → sp w [.ref a] H (fun v _ => v = .bl true) fun _ _ _ => False)
    (hCX : ∀ (w : World) (H : Hp) (s : Shared) (e : Value) (s' : Shared), CX w [] H s (fun _ _ _ => False) e s' → False) :
    PySem.W.WalkO q loose XP YP l.row.toRowW d [] (fun f vs => PySem.call f vs) := by
  refine Att.attach_call hn hdf fun w s₀ s₁ mg mb fa o pm cd doc a vs ns G Y ho hd hcd hmg hobj hints hlen hg => ?_
  have KX := hY w _ Y
  obtain ⟨fd, hb, hF⟩ := F w mg fa _ KX G.T.g hmg
  exact law_call KX G.T.g G.T.b G.T.builtins G.T.nolimit hg hobj hints (Nat.le_trans hlen hn2) hr hF hb (fun H hO hS => hsp w H a ns hlen hO hS) fun H e s' => hCX w H s₁ e s'
end L2

/- THE LAST THEOREM (shape; LID, My.* are yours):
   My.Adr: a structure of the addresses that your layer names (classes, functions); My.Txt K t: a structure (Prop) of the equations over K;
   My.txt_mk : {K} {implicit addresses ..} (e1 : nsIn K mainGlobals "law" = some (some (.ref f))) (e2 : K.lookup f = some ⟨oc, od, .func (fnOf "law" "law" params body scope dV kV doc pm an cdv ct), sl⟩) (e3 : codeIn K cdv "law" = true) .. : ∃ t, My.Txt K t

set_option maxRecDepth 100000 in
set_option maxHeartbeats 0 in
theorem PySem.Challenge.cw_LID_holds : PySem.Challenge.rw_LID.Holds := by
  w_on; o_law; k_head; (case hw => w_witness2)
  k_fill
  refine L2.walk_of (l := PySem.Challenge.rw_LID) (n := 63) (k := 40) (x := "script") (CX := fun w => ..) (sp := fun _ => My.sp_law) rfl (by decide) rfl ⟨rfl, by decide, by decide⟩ (fun w h Y => PySem.W.kIn_of Y) ?F ?S ?C
  case F =>
    intro w mg fa h KX G hmg
    have T : ∃ t, My.Txt (L2.KOf KX) t := by
      dsimp only [L2.KOf]                          -- K must stand as «<heap const> w.params» for k_is
      refine' My.txt_mk ?e1 ?e2 ?e3 ..
      (case e1 => PySem.W.k_is)                    -- in the order: a name -> its address -> its object -> its parts
      (case e2 => PySem.W.k_is)
      ..
    obtain ⟨t, T⟩ := T
    have e0 := hmg.symm.trans (PySem.W.mg_of KX G T.law)
    cases e0                                       -- fa is the law's own address
    exact ⟨_, fun s u => .of_eq rfl, fun base kb nb => My.law_fn T kb nb⟩     -- if «.of_eq rfl» comes too early: refine' ⟨_, ?b, fun base kb nb => My.law_fn T kb nb⟩; exact fun s u => .of_eq rfl
  case S => exact fun w H a ns hl hO hS => ..
  case C => exact ..
(the tactic k_is has no namespace: write k_is) -/

/-! SHORT WORDS over the layer: a def of the text, its body, what a loop and a test want. -/
namespace L2
open PySem PySem.Spec PyProof.Rows

/-! ### the text by places -/
/-- the j-th statement of a class's body -/
noncomputable def inClass (s : Stmt) (j : Nat) : Stmt := match s with
  | .ClassDef _ _ _ body _ _ _ _ _ _ _ => body.getD j (.Pass ⟨0, 0, 0, 0⟩)
  | _ => .Pass ⟨0, 0, 0, 0⟩
noncomputable def defArgs (s : Stmt) : Arguments := match s with
  | .FunctionDef _ a _ _ _ _ _ _ _ _ => a
  | _ => { posonlyargs := [], args := [], vararg := none, kwonlyargs := [], kw_defaults := [], kwarg := none, defaults := [] }
noncomputable def defBody (s : Stmt) : List Stmt := match s with
  | .FunctionDef _ _ b _ _ _ _ _ _ _ => b
  | _ => []
noncomputable def defScope (s : Stmt) : Scope := match s with
  | .FunctionDef _ _ _ _ _ _ sc _ _ _ => sc
  | _ => { kind := .function, names := [], isGenerator := false, isCoroutine := false }

/-! ### no exception leaves a def -/
abbrev CX0 : CXT := fun _ _ _ _ _ _ => False
abbrev E0 : XK := fun _ _ _ => False
/-! ### a def (or method) of the text as it stands behind the top -/
structure Fun (K : PySem.W.Frag) (x qual : Str) (st : Stmt) (f : Addr) (fd : FuncData) : Prop where
  ex : ∃ (oc : Value) (od : Option Addr) (kV doc pm : Value) (an : Option Addr) (cdv ct : Value) (osl : Array (Option Value)),
    fd = PySem.W.fnOf x qual (defArgs st) (defBody st) (defScope st) .none kV doc pm an cdv ct ∧ K.lookup f = some ⟨oc, od, .func fd, osl⟩ ∧ PySem.W.codeIn K cdv qual = true
  kp : PySem.W.keepIn K (.ref f) = true
section
variable {P : Program} {w : World} {K : PySem.W.Frag} {mg : Str → Option Value} {base : Heap}
/-- THE RULE for a def: its body as a term of rules, and the reading of that term -/
theorem Fun.ok {x qual : Str} {st : Stmt} {f : Addr} {fd : FuncData} {N ps : List Str} {k : Nat} {sp : Sp} (F : Fun K x qual st f fd) (S : FnScope N ps (defScope st)) (len : ∀ vs H Q E, sp vs H Q E → vs.length = ps.length)
    (hbody : ∀ (cdv : Value) (A : Around) (outer : List Env) (s : Shared) (H : Hp) (vs : List V) (Q : VK) (E : XK), Room k (A.deeper (envOfC qual (defScope st) s.heap.objs.size f cdv)) → sp vs H Q E →
      ∃ t, PSs (cxOf CX0 P w K mg base N qual (defScope st) f cdv A outer s H E).nox (defBody st) t ∧ t { nx := fun _ H' => Q .non H', rt := Q } (start N vs) H) : FnOk P w K mg base CX0 (k + 1) f fd ps sp := by
  obtain ⟨oc, od, kV, doc, pm, an, cdv, ct, osl, rfl, lk, hcd⟩ := F.ex
  refine fn_of lk hcd S len fun A outer s H vs Q E hr hsp => ?_
  obtain ⟨t, h, q⟩ := hbody cdv A outer s H vs Q E hr hsp
  exact ⟨t, h.nox, q⟩
/-- how its arguments bind (no defaults): h is «fun _ _ _ _ _ _ us hl => match us, hl with | [_, _], _ => rfl», one _ a parameter -/
theorem Fun.binds {x qual : Str} {st : Stmt} {f : Addr} {fd : FuncData} {ps : List Str} (F : Fun K x qual st f fd)
    (h : ∀ (kV doc pm : Value) (an : Option Addr) (cdv ct : Value) (us : List Value), us.length = ps.length → bindArgs (PySem.W.fnOf x qual (defArgs st) (defBody st) (defScope st) .none kV doc pm an cdv ct) ⟨us, []⟩ = pure (ps.zip us)) : Binds K fd ps [] := by
  obtain ⟨oc, od, kV, doc, pm, an, cdv, ct, osl, rfl, lk, hcd⟩ := F.ex
  exact .all (h kV doc pm an cdv ct)
theorem fun_mk {x qual : Str} {st : Stmt} {f : Addr} {oc : Value} {od an : Option Addr} {osl : Array (Option Value)} {kV doc pm cdv ct : Value} (l : K.lookup f = some ⟨oc, od, .func (PySem.W.fnOf x qual (defArgs st) (defBody st) (defScope st) .none kV doc pm an cdv ct), osl⟩)
    (c : PySem.W.codeIn K cdv qual = true) (k : PySem.W.keepIn K (.ref f) = true) : Fun K x qual st f (PySem.W.fnOf x qual (defArgs st) (defBody st) (defScope st) .none kV doc pm an cdv ct) := ⟨⟨oc, od, kV, doc, pm, an, cdv, ct, osl, rfl, l, c⟩, k⟩
end
/-! ### expressions in short: the name that stands in the i-th slot -/
section
variable {X : Cx}
theorem pv (i : Nat) {x : Str} {pos : Pos} (hN : X.N[i]? = some x := by rfl) (hv : Vis X.env.scope x := by first | exact Or.inl rfl | exact Or.inr (Or.inl rfl) | exact Or.inr (Or.inr rfl)) (hd : (x == ("__debug__" : Str)) = false := by decide)
    (hcd : (x == ("__classdict__" : Str)) = false := by decide) : PE X (.Name x pos) (tVar i) := pe_var hN hv hd hcd
end

/-! ### tests -/
theorem iteT {A B : Prop} (h : A) : if true = true then A else B := by
  rw [if_pos rfl]
  exact h
theorem ite2 {c A B : Prop} [Decidable c] (h1 : c → A) (h2 : ¬ c → B) : if c then A else B := by
  by_cases h : c
  · rw [if_pos h]
    exact h1 h
  · rw [if_neg h]
    exact h2 h
/-! ### heaps -/
/-- all that was tracked is as it was -/
noncomputable def Same (H H' : Hp) : Prop := ∀ b o, H b = some o → H' b = some o
theorem Same.refl (H : Hp) : Same H H := fun _ _ h => h
theorem Same.trans {H H1 H2 : Hp} (a : Same H H1) (b : Same H1 H2) : Same H H2 := fun c o h => b c o (a c o h)
theorem Same.free {H H' : Hp} (e : Same H H') {l : Addr} (h : H' l = Option.none) : H l = Option.none := by
  cases q : H l with
  | none => rfl
  | some o =>
    rw [e l o q] at h
    cases h
theorem Same.seq {K : PySem.W.Frag} {H H' : Hp} {a : Addr} {xs : List V} (e : Same H H') (h : SqL K H a xs) : SqL K H' a xs := by
  rcases h with (h | ⟨o, h⟩) | h
  · exact .inl (.inl (e _ _ h))
  · exact .inl (.inr ⟨o, e _ _ h⟩)
  · exact .inr h

end L2

namespace L2
open PySem PySem.Spec PyProof.Rows
section
variable {X : Cx}
end
/-! ### a dict's pairs: keys that differ -/
section
variable {κ : Type} [DecidableEq κ]
end
end L2

/-! OWN RULES over the layer. -/
namespace L2
open PySem PySem.Spec PyProof.Rows

/-! ### sizes of ints -/
noncomputable def Bt (n : Nat) (i : Int) : Prop := i.natAbs < 2 ^ n
theorem Bt.mono {m n : Nat} {i : Int} (h : Bt m i) (q : m ≤ n) : Bt n i := Nat.lt_of_lt_of_le h (Nat.pow_le_pow_right (by decide) q)
theorem Bt.bits {n : Nat} {i : Int} (h : Bt n i) : Builtin.Int.intBits i ≤ n := PyProof.Rows.intBits_le h
theorem Bt.mul {m n : Nat} {i j : Int} (h1 : Bt m i) (h2 : Bt n j) : Bt (m + n) (i * j) := by
  unfold Bt at *
  rw [Int.natAbs_mul, Nat.pow_add]
  exact Nat.mul_lt_mul_of_lt_of_lt h1 h2
theorem Bt.add {n : Nat} {i j : Int} (h1 : Bt n i) (h2 : Bt n j) : Bt (n + 1) (i + j) := by
  unfold Bt at *
  rw [Nat.pow_succ]
  generalize 2 ^ n = p at *
  omega
theorem Bt.neg {n : Nat} {i : Int} (h1 : Bt n i) : Bt n (-i) := by
  unfold Bt at *
  omega
theorem Bt.sub {n : Nat} {i j : Int} (h1 : Bt n i) (h2 : Bt n j) : Bt (n + 1) (i - j) := by
  have h := Bt.add h1 h2.neg
  rw [← Int.sub_eq_add_neg] at h
  exact h
theorem Bt.le {n : Nat} {i j : Int} (h : Bt n j) (q : i.natAbs ≤ j.natAbs) : Bt n i := Nat.lt_of_le_of_lt q h
theorem Bt.of {n : Nat} {i : Int} (b : Nat) (h1 : -(b : Int) ≤ i) (h2 : i ≤ (b : Int)) (h : b < 2 ^ n := by decide +kernel) : Bt n i := by
  unfold Bt
  exact Nat.lt_of_le_of_lt (by omega) h
theorem Bt.log {n : Nat} {i : Int} (h : Bt n i) (q : n ≤ 9000 := by decide) : i.natAbs.log2 < 9000 := by
  by_cases z : i.natAbs = 0
  · rw [z]; decide
  · exact Nat.lt_of_lt_of_le ((Nat.log2_lt z).mpr h) q
theorem Bt.mulOk {m n : Nat} {i j : Int} (h1 : Bt m i) (h2 : Bt n j) (q : m + n ≤ 134217728 := by decide) : IntMulOk i j := mulOk_of_bits h1.bits h2.bits q
theorem mulOkL {i j : Int} (h1 : -(2 ^ 64) < i := by decide) (h2 : i < 2 ^ 64 := by decide) : IntMulOk i j := .of_left (intBits_le_64 h1 h2)
theorem mulOkR {i j : Int} (h1 : -(2 ^ 64) < j := by decide) (h2 : j < 2 ^ 64 := by decide) : IntMulOk i j := .of_right (intBits_le_64 h1 h2)

section
variable {X : Cx}
theorem op_mulB : OpR X (binaryOp .Mult) (rI IntMulOk fun i j => .int (i * j)) := opI fun _ _ _ _ _ _ _ hc q => mul_int q hc
noncomputable def CDivB (_ j : Int) : Prop := 0 < j ∧ j.natAbs.log2 < 9000
theorem CDivB.of {i j : Int} {n : Nat} (h : 0 < j) (b : Bt n j) (q : n ≤ 9000 := by decide) : CDivB i j := ⟨h, b.log q⟩
theorem CDivB.lit {i j : Int} (h : 0 < j := by decide) (q : j.natAbs.log2 < 9000 := by decide) : CDivB i j := ⟨h, q⟩
theorem op_fdivB : OpR X (binaryOp .FloorDiv) (rI CDivB fun i j => .int (i / j)) := opI fun i j _ _ _ _ _ hc q => by
  have h1 : (0 : Int) < j := hc.1
  exact floordiv_int (by omega) (by rw [Int.fdiv_eq_ediv_of_nonneg i (by omega)]; exact q) (.inl (PyProof.noPylong_of_log2 hc.2))
noncomputable def CDivS (_ j : Int) : Prop := j ≠ 0 ∧ j.natAbs.log2 < 9000
theorem CDivS.of {i j : Int} {n : Nat} (h : j ≠ 0) (b : Bt n j) (q : n ≤ 9000 := by decide) : CDivS i j := ⟨h, b.log q⟩
theorem op_modB : OpR X (binaryOp .Mod) (rI (fun _ j => 0 < j) fun i j => .int (i % j)) := op_mod

/-! ### tuples: tracked ones; a new one among others -/
noncomputable def rIxTH : R2 := fun x y H Q => ∃ p xs i v, x = .ref p ∧ y = .int i ∧ H p = some (.tup xs) ∧ atI xs i = some v ∧ Q v H
theorem ix_tupH : IxR X rIxTH := fun value slice pins s σ H x y v u Q I rx ry ⟨p, xs, i, z, e1, e2, e3, e4, q⟩ hs =>
  ix_tup value slice pins s σ H x y v u Q I rx ry ⟨p, xs, i, z, e1, e2, SqT.of e3, e4, q⟩ hs
noncomputable def rIxLH : R2 := fun x y H Q => ∃ p xs i v, x = .ref p ∧ y = .int i ∧ H p = some (.lst xs) ∧ atI xs i = some v ∧ Q v H
theorem ix_listH : IxR X rIxLH := fun value slice pins s σ H x y v u Q I rx ry ⟨p, xs, i, z, e1, e2, e3, e4, q⟩ hs =>
  ix_list value slice pins s σ H x y v u Q I rx ry ⟨p, xs, i, z, e1, e2, SqL.of e3, e4, q⟩ hs
noncomputable def tTupS (t : TA) : TE := fun σ H Q => t σ H fun xs H1 => xs.length ≤ sizeLine ∧ ∀ p H2, Same H1 H2 → H1 p = none → H2 p = some (.tup xs) → Q (.ref p) H2
theorem same_upd {H : Hp} {p : Addr} {o : HO} (h : H p = none) : Same H (upd H p o) := fun b u e => by
  rw [upd_ne (ne_of_none e h)]
  exact e
theorem pe_tupS {es : List Expr} {t : TA} {x1} {pos : Pos} (h : PA X es t) : PE X (.Tuple es x1 pos) (tTupS t) := fun pins s σ H Q I hq =>
  thn (h := wpAny_Tuple_spliced (thn (h pos pins s σ H _ I hq) fun us s1 ⟨xs, H1, I1, r, z, q⟩ => ⟨by rw [← r.length]; exact z, by
    have hf : H1 s1.heap.objs.size = none := I1.hok.fresh (Nat.le_refl _)
    refine ⟨.ref s1.heap.objs.size, upd H1 s1.heap.objs.size (.tup xs), I1.laid (t' := s1.toks) (fun b u e => Heap.get?_push_of_some _ e) (Nat.le_refl _) ?_, rfl, q _ _ (same_upd hf) hf upd_same⟩
    exact ⟨z, us, r, ⟨_, Heap.get?_push_size _ rfl, rfl, _, rfl⟩⟩⟩)) fun _ _ z => z
theorem call_lenL : CallR X (.builtin "len") (fun xs H Q => ∃ p ys, xs = [.ref p] ∧ H p = some (.lst ys) ∧ Q (.int ys.length) H) := fun pins s σ H xs us Q I r ⟨p, ys, e, h, q⟩ =>
  call_len_seq pins s σ H xs us Q I r ⟨p, ys, e, .inl (SqL.of h), q⟩
/-- the script: len, an item -/
theorem call_lenQ : CallR X (.builtin "len") (fun xs H Q => ∃ p ns, xs = [.ref p] ∧ SqL X.K H p (List.map V.int ns) ∧ Q (.int (List.length ns : Nat)) H) := fun pins s σ H xs us Q I r ⟨p, ns, e, h, q⟩ =>
  call_len_seq pins s σ H xs us Q I r ⟨p, _, e, .inl h, by rw [List.length_map]; exact q⟩
noncomputable def rIxQ (K : PySem.W.Frag) : R2 := fun x y H Q => ∃ p ns i, x = .ref p ∧ y = .int i ∧ SqL K H p (List.map V.int ns) ∧ 0 ≤ i ∧ i < (List.length ns : Nat) ∧ Q (.int (ns.getD i.toNat 0)) H
theorem atI_ints {ns : List Int} {i : Int} (h0 : 0 ≤ i) (h1 : i < (ns.length : Nat)) : atI (ns.map V.int) i = some (.int (ns.getD i.toNat 0)) := by
  obtain ⟨j, rfl⟩ := Int.eq_ofNat_of_zero_le h0
  refine atI_nat ?_
  have hj : j < ns.length := by omega
  rw [List.getElem?_map, List.getElem?_eq_getElem hj]
  simp [List.getD_eq_getElem?_getD, List.getElem?_eq_getElem hj]
theorem ix_listS : IxR X (rIxQ X.K) := fun value slice pins s σ H x y v u Q I rx ry ⟨p, ns, i, e1, e2, e3, h0, h1, q⟩ hs =>
  ix_list value slice pins s σ H x y v u Q I rx ry ⟨p, _, i, _, e1, e2, e3, atI_ints h0 h1, q⟩ hs

/-! ### calls of the text's defs -/
structure Cal (P : Program) (w : World) (K : PySem.W.Frag) (mg : Str → Option Value) (base : Heap) (CX : CXT) (k : Nat) (x : Str) (ps : List Str) (sp : Sp) : Prop where
  ex : ∃ f fd, FnOk P w K mg base CX k f fd ps sp ∧ mg x = some (.ref f) ∧ PySem.W.keepIn K (.ref f) = true ∧ Binds K fd ps []
theorem pe_cal {CX : CXT} {k : Nat} {x : Str} {ps : List Str} {sp : Sp} {E : XK} {e : Expr} {es : List Expr} {t : TA} {p pos : Pos} (C : Cal X.prog X.w X.K X.mg X.base CX k x ps sp) (hr : Room k X.A) (hg : Gl X x) (hx : Passes CX X E) (ha : PA X (e :: es) t)
    (hdb : (x == ("__debug__" : Str)) = false := by decide) (he : starEach (e :: es) X.env = (false, eval e X.env) :: starEach es X.env := by rfl) (hpl : (backTo pos (starEach es X.env)).any (·.1) = false := by rfl) :
    PE X (.Call (.Name x p) (e :: es) [] pos) (tCall sp [] E t) := by
  obtain ⟨f, fd, F, hm, hk, hb⟩ := C.ex
  exact pe_call F hr hg hm hk hb .nil hx ha hdb he hpl
end

/-- no exception is wished: none comes -/
noncomputable def Strict (CX : CXT) : Prop := ∀ outer H s e s', ¬ CX outer H s (fun _ _ _ => False) e s'
theorem Strict.pass {CX : CXT} (h : Strict CX) {X : Cx} : Passes CX X E0 := fun _ _ H s e s' _ z => (h _ H s e s' z).elim

section
variable {P : Program} {w : World} {K : PySem.W.Frag} {mg : Str → Option Value} {base : Heap} {CX : CXT}
theorem Fun.okC {x qual : Str} {st : Stmt} {f : Addr} {fd : FuncData} {N ps : List Str} {k : Nat} {sp : Sp} (F : Fun K x qual st f fd) (S : FnScope N ps (defScope st)) (len : ∀ vs H Q E, sp vs H Q E → vs.length = ps.length)
    (hbody : ∀ (cdv : Value) (A : Around) (outer : List Env) (s : Shared) (H : Hp) (vs : List V) (Q : VK) (E : XK), Room k (A.deeper (envOfC qual (defScope st) s.heap.objs.size f cdv)) → sp vs H Q E →
      ∃ t, PSs (cxOf CX P w K mg base N qual (defScope st) f cdv A outer s H E).nox (defBody st) t ∧ t { nx := fun _ H' => Q .non H', rt := Q } (start N vs) H) : FnOk P w K mg base CX (k + 1) f fd ps sp := by
  obtain ⟨oc, od, kV, doc, pm, an, cdv, ct, osl, rfl, lk, hcd⟩ := F.ex
  refine fn_of lk hcd S len fun A outer s H vs Q E hr hsp => ?_
  obtain ⟨t, h, q⟩ := hbody cdv A outer s H vs Q E hr hsp
  exact ⟨t, h.nox, q⟩
/-- a def of the text, at its name -/
structure Dn (K : PySem.W.Frag) (mg : Str → Option Value) (x : Str) (st : Stmt) : Prop where
  ex : ∃ f fd, Fun K x x st f fd ∧ mg x = some (.ref f)
theorem Dn.cal {x : Str} {st : Stmt} {ps : List Str} {k : Nat} {sp : Sp} (D : Dn K mg x st)
    (hb : ∀ (kV doc pm : Value) (an : Option Addr) (cdv ct : Value) (us : List Value), us.length = ps.length → bindArgs (PySem.W.fnOf x x (defArgs st) (defBody st) (defScope st) .none kV doc pm an cdv ct) ⟨us, []⟩ = pure (ps.zip us))
    (h : ∀ f fd, Fun K x x st f fd → FnOk P w K mg base CX k f fd ps sp) : Cal P w K mg base CX k x ps sp := by
  obtain ⟨f, fd, F, hm⟩ := D.ex
  exact ⟨f, fd, h f fd F, hm, F.kp, F.binds hb⟩
end

/-! ### == of tuples of flat values; in a written tuple; isinstance of a built-in type -/
section
variable {X : Cx}
noncomputable def eqL (xs ys : List V) : Bool := (List.range (min xs.length ys.length)).all (fun j => eqV (xs.getD j .non) (ys.getD j .non)) && xs.length == ys.length
theorem flat_at {xs : List V} (h : xs.all flatV = true) {j : Nat} (hj : j < xs.length) : flatV (xs.getD j .non) = true := by
  rw [List.getD_eq_getElem?_getD, List.getElem?_eq_getElem hj]
  exact List.all_eq_true.mp h _ (List.getElem_mem hj)
theorem rel_at {xs : List V} {us : List Value} (r : Vals xs us) {j : Nat} (hj : j < us.length) : RelV (xs.getD j .non) us[j] := by
  have hl := r.length
  have hx : j < xs.length := by omega
  obtain ⟨u, e1, e2⟩ := r.get (List.getElem?_eq_getElem hx)
  rw [List.getElem?_eq_getElem hj] at e1
  cases e1
  rw [List.getD_eq_getElem?_getD, List.getElem?_eq_getElem hx]
  exact e2
noncomputable def rEqT : R2 := fun x y H Q => ∃ p q xs ys, x = .ref p ∧ y = .ref q ∧ H p = some (.tup xs) ∧ H q = some (.tup ys) ∧ xs.all flatV = true ∧ ys.all flatV = true ∧ Q (.bl (eqL xs ys)) H
noncomputable def rInT : R2 := fun x y H Q => ∃ p xs, y = .ref p ∧ H p = some (.tup xs) ∧ flatV x = true ∧ xs.all flatV = true ∧ Q (.bl (inV x xs)) H
theorem call_isT : CallR X (.builtin "isinstance") (fun xs H Q => ∃ x c t b, xs = [x, .ty c] ∧ TyOf X.K H x t ∧ PySem.W.kitOne X.K t (.type c) = some b ∧ Q (.bl b) H) := by
  intro pins s σ H xs us Q I r h
  obtain ⟨x, c, t, b, rfl, ty, e, q⟩ := h
  obtain ⟨u, u', rfl, rx, rc⟩ := vals2 r
  cases rc
  exact isinst_ok I rx ty e fun tk => ⟨.bl b, H, I.tok tk, rfl, q⟩
end
theorem at0 {α : Type} {x : α} {l : List α} : atI (x :: l) 0 = some x := atI_nat (j := 0) rfl
theorem at1 {α : Type} {x y : α} {l : List α} : atI (x :: y :: l) 1 = some y := atI_nat (j := 1) rfl
theorem at2 {α : Type} {x y z : α} {l : List α} : atI (x :: y :: z :: l) 2 = some z := atI_nat (j := 2) rfl
noncomputable def Pr (a b : Int) : List V := [.int a, .int b]
theorem kit_ii {K : PySem.W.Frag} : PySem.W.kitOne K (.type "int") (.type "int") = some true := by unfold PySem.W.kitOne; rw [if_pos (by decide +kernel)]
theorem kit_ll {K : PySem.W.Frag} : PySem.W.kitOne K (.type "list") (.type "list") = some true := by unfold PySem.W.kitOne; rw [if_pos (by decide +kernel)]
theorem kit_off {K : PySem.W.Frag} {t c : String} {b : Bool} (h1 : (Value.type t == Value.type c) = false := by decide +kernel) (h2 : PySem.W.kitMeta c = true := by decide +kernel) (h3 : (PySem.fastBuiltinMro t).map (·.contains (Value.type c)) = some b := by decide +kernel) :
    PySem.W.kitOne K (.type t) (.type c) = some b := by
  unfold PySem.W.kitOne PySem.W.kitCls PySem.W.subIn
  rw [if_neg (by rw [h1]; decide)]
  dsimp only
  rw [if_pos h2]
  exact h3
theorem kit_ib {K : PySem.W.Frag} : PySem.W.kitOne K (.type "int") (.type "bool") = some false := kit_off
theorem eqL_pr (a b c d : Int) : eqL [.int a, .int b] [.int c, .int d] = (a == c && b == d) := by
  show (([0, 1] : List Nat).all (fun j => eqV (([.int a, .int b] : List V).getD j .non) (([.int c, .int d] : List V).getD j .non)) && true) = _
  simp [eqV]
end L2
/-! Numbers: the greatest common divisor, lowest terms. -/
namespace Nm
noncomputable def g (a b : Int) : Int := (Int.gcd a b : Nat)
theorem g_nn (a b : Int) : 0 ≤ g a b := Int.natCast_nonneg _
theorem g_pos {a b : Int} (h : b ≠ 0) : 0 < g a b := by
  have := Int.gcd_pos_of_ne_zero_right a h
  unfold g
  omega
theorem g_dvd_l (a b : Int) : g a b ∣ a := Int.gcd_dvd_left ..
theorem g_dvd_r (a b : Int) : g a b ∣ b := Int.gcd_dvd_right ..
theorem g_comm (a b : Int) : g a b = g b a := by unfold g; rw [Int.gcd_comm]
theorem g_le {a b : Int} (h : 0 < b) : g a b ≤ b := Int.le_of_dvd h (g_dvd_r a b)
theorem g_abs (a b : Int) : g (a.natAbs : Int) b = g a b := by
  unfold g Int.gcd
  rw [Int.natAbs_natCast]
theorem g_abs_r (a b : Int) : g a (b.natAbs : Int) = g a b := by
  rw [g_comm, g_abs, g_comm]
theorem g_neg (a b : Int) : g (-a) b = g a b := by
  unfold g Int.gcd
  rw [Int.natAbs_neg]
theorem g_step {a b : Int} (ha : 0 ≤ a) (_hb : 0 < b) : g b (a % b) = g a b := by
  unfold g Int.gcd
  rw [Int.natAbs_emod_of_nonneg ha, Nat.gcd_comm b.natAbs, ← Nat.gcd_rec, Nat.gcd_comm]
theorem g_zero {a : Int} (ha : 0 ≤ a) : g a 0 = a := by
  unfold g
  rw [Int.gcd_zero_right]
  omega
/-- lowest terms -/
theorem low_gcd {a b : Int} (h : b ≠ 0) : g (a / g a b) (b / g a b) = 1 := by
  have p : 0 < Int.gcd a b := Int.gcd_pos_of_ne_zero_right a h
  unfold g
  rw [Int.gcd_ediv_gcd_ediv_gcd p]
  rfl
theorem low_pos {a b : Int} (h : 0 < b) : 0 < b / g a b := Int.ediv_pos_of_pos_of_dvd h (g_nn a b) (g_dvd_r a b)
theorem low_cross (a b : Int) : (a / g a b) * b = a * (b / g a b) := by
  rw [← Int.mul_ediv_assoc _ (g_dvd_r a b), Int.mul_comm a b, Int.mul_ediv_assoc _ (g_dvd_l a b), Int.mul_comm]
theorem cop_dvd {q a b : Int} (h : q ∣ a * b) (c : Int.gcd a q = 1) : q ∣ b := by
  have h1 := (Int.dvd_gcd_mul_iff_dvd_mul (k := q) (n := a) (m := b)).mpr h
  rw [Int.gcd_comm, c] at h1
  simpa using h1
/-- a share's one form -/
theorem low_one {p q p' q' : Int} (h : 0 < q) (h' : 0 < q') (e : g p q = 1) (e' : g p' q' = 1) (c : p * q' = p' * q) : p = p' ∧ q = q' := by
  have c1 : Int.gcd p q = 1 := by unfold g at e; omega
  have c2 : Int.gcd p' q' = 1 := by unfold g at e'; omega
  have d1 : q ∣ q' := by
    have : q ∣ p * q' := ⟨p', by rw [c, Int.mul_comm]⟩
    exact cop_dvd this c1
  have d2 : q' ∣ q := by
    have : q' ∣ p' * q := ⟨p, by rw [← c, Int.mul_comm]⟩
    exact cop_dvd this c2
  have eq : q = q' := by
    have := Int.le_of_dvd h' d1
    have := Int.le_of_dvd h d2
    omega
  subst eq
  exact ⟨Int.eq_of_mul_eq_mul_right (by omega) c, rfl⟩
theorem quot_abs {a g : Int} (_h : 0 < g) (d : g ∣ a) : (a / g).natAbs ≤ a.natAbs := by
  rw [Int.natAbs_ediv_of_dvd d]
  exact Nat.div_le_self _ _
theorem back {a b c d p q x y : Int} (hq : 0 < q) (hd : 0 < d) (e : p * (b * d) = (a * d - c * b) * q) (f : x * (q * d) = (p * d + c * q) * y) : x * b = a * y := by
  have h : (x * b) * (q * d) = (a * y) * (q * d) := by grind
  exact Int.eq_of_mul_eq_mul_right (by have := Int.mul_pos hq hd; omega) h
end Nm
/-! EXCEPTIONS of own classes: raised, passed on, caught by name. -/
namespace L2
open PySem PySem.Spec PyProof.Rows PySem.W

theorem ObjOk.get {P : Program} {w : World} {H : Hp} {h : Heap} {a : Addr} : ∀ {o : HO}, ObjOk P w H h a o → ∃ ob, h.get? a = some ob
  | .lst _, x => let ⟨_, _, _, _, e⟩ := x; ⟨_, e⟩
  | .tup _, x => let ⟨_, _, _, o, e, _⟩ := x; ⟨o, e⟩
  | .dK _, x => let ⟨_, _, _, _, o, _, _, e, _⟩ := x; ⟨o, e⟩
  | .dT _, x => let ⟨_, _, _, _, o, _, _, e, _⟩ := x; ⟨o, e⟩
  | .set _ _, x => by
    obtain ⟨o, es, ep, t, e, _⟩ := x
    exact ⟨o, e⟩
  | .ins _ _ _, x => let ⟨_, _, _, e, _⟩ := x; ⟨_, e⟩
  | .own _, x => x
  | .xd _, x => by
    obtain ⟨mA, ⟨o, es, ep, e, _⟩, _⟩ := x
    exact ⟨o, e⟩
  | .rng _ _, x => let ⟨_, _, _, e⟩ := x; ⟨_, e⟩
  | .frz _ _, x => ⟨_, x.1⟩
  | .tbl _, x => ⟨_, x⟩
  | .met _ _, x => ⟨_, x⟩
  | .ext _, x => x.2.1
theorem HOk.inB {P : Program} {w : World} {H : Hp} {h h' B : Heap} (ok : HOk P w H h) (hB : ∀ b u o, H b = some u → h.get? b = some o → B.get? b = some o) (st : B.StaysIn h') : HOk P w H h' := fun a o e =>
  (ok a o e).stay (fun b u hb q => st b u (by
    rcases hb with rfl | hb
    · exact hB _ _ _ e q
    · exact hB _ _ _ hb q)) (fun _ r => r) fun _ _ r => r

/-- an exception flies: the frames l it will come to, the abstract heap and the state ahead of the call, the abstract heap behind it -/
structure Fly (P : Program) (w : World) (l : List Env) (H : Hp) (s : Shared) (H' : Hp) (ad : Addr) (cls : Value) (s' : Shared) : Prop where
  os : s'.os = s.os
  bare : AllBare s'.gens
  un : Un (frs l) [] H H' s.heap s'.heap
  hok : HOk P w H' s'.heap
  fl : ∃ B a0, Heap.FlyingW B l ad cls a0 s'.heap ∧ (∀ b o, s.heap.get? b = some o → H b = none → b ∉ frs l → B.get? b = some o) ∧ (∀ b o, s.heap.get? b = some o → b ∉ frs l → ∃ o', B.get? b = some o') ∧
    (∀ b u o, H' b = some u → s'.heap.get? b = some o → B.get? b = some o)
noncomputable def CX1 (P : Program) (w : World) : CXT := fun l H s E e s' => ∃ ad cls H', e = .ref ad ∧ Fly P w l H s H' ad cls s' ∧ E cls none H'
theorem strict1 (P : Program) (w : World) : Strict (CX1 P w) := fun _ _ _ _ _ ⟨_, _, _, _, _, h⟩ => h

section
variable {P : Program} {w : World} {K : PySem.W.Frag} {mg : Str → Option Value} {base : Heap} {N : List Str} {qual : Str} {scope : Scope} {f : Addr} {cdv : Value} {A : Around} {outer : List Env} {s0 : Shared} {H0 : Hp} {E : XK}
end
end L2
/-! raise of an own class; try with one call in it. -/
namespace L2
open PySem PySem.Spec PyProof.Rows PySem.W

abbrev bmVE : List Value := [.type "ValueError", .type "Exception", .type "BaseException", .type "object"]
abbrev newVE : String := "ValueError.__new__"
noncomputable def tRaise (C : Addr) (E : XK) (t : TA) : TS := fun _ σ H => t σ H fun vs H1 => vs.length ≤ sizeLine ∧ E (.ref C) none H1
section
variable {P : Program} {w : World} {K : PySem.W.Frag} {mg : Str → Option Value} {base : Heap} {N : List Str} {qual : Str} {scope : Scope} {f : Addr} {cdv : Value} {A : Around} {outer : List Env} {s0 : Shared} {H0 : Hp} {E : XK}
end

/-! ### catching -/
section
variable {X : Cx} {pins : List (Addr × Obj)} {σ : St} {H H' : Hp} {s s' : Shared}
/-- within an except suite -/
abbrev Cx.mark (X : Cx) (ad : Addr) : Cx := { X with A := X.A.mark (some (.ref ad)), calm := false, xe := fun _ _ => False }
theorem Inv.mark (I : Inv X pins σ H s) (ad : Addr) : Inv (X.mark ad) pins σ H s :=
  ⟨⟨I.ok.mod, I.ok.kind, I.ok.glob, I.ok.blt, I.ok.above, I.ok.inj, I.ok.has, I.ok.cab, fun z => (Bool.false_ne_true z).elim, I.ok.frames, I.ok.stk, I.ok.exf, I.ok.bs, I.ok.bsz, I.ok.noex, I.ok.exfs, I.ok.funs, I.ok.frf⟩,
    I.os, I.bare, I.base, I.loc, I.cell, I.free, I.freeC, I.pin, I.hok, I.len⟩
theorem Inv.unmark {ad : Addr} (ok : X.Ok) (I : Inv (X.mark ad) pins σ H s) : Inv X pins σ H s := ⟨ok, I.os, I.bare, I.base, I.loc, I.cell, I.free, I.freeC, I.pin, I.hok, I.len⟩
theorem name_goes {M : Model} {A : Around} {E : Value → Shared → Prop} {i : Nat} {n : Str} {pos : Pos} {Q : Unit → Shared → Prop} (I : Inv X pins σ H s) (hN : X.N.Nodup) (hi : X.N[i]? = some n) (hl : X.env.scope.names.lookup n = some .local)
    (h : ∀ s', Inv X pins (σ.set i none) H s' → Q () s') : wpAny M A (do bindName X.env n .none; unbindBehindTheSuite X.env n pos) Q E s := by
  have hiσ : i < σ.length := by rw [I.len]; exact (List.getElem?_eq_some_iff.mp hi).1
  refine wpAny_bind (wpAny_bindName (store_ok (v := .non) I hN hi (.inl hl) rfl (fun s1 I1 => ?_) (.inr hl)))
  obtain ⟨m, hn, hlk⟩ := id I1.loc
  have hmn : ∃ u, m n = some u := by
    obtain ⟨u, _, z⟩ := hlk i n .non hi (by rw [List.getElem?_set_self hiσ]) (.inl hl)
    rcases z with ⟨_, z⟩ | ⟨z, _⟩
    · exact ⟨u, z⟩
    · have hk : X.env.kindOf n = some .local := hl
      rw [hk] at z
      rcases z with z | z <;> cases z
  obtain ⟨u0, hu0⟩ := hmn
  unfold unbindBehindTheSuite
  refine wpAny_onRaise ?_
  unfold unbindName
  refine wpAny_bind (wpAny_point (wpAny_bind ?_))
  unfold deleteName
  have hk : X.env.kindOf n = some .local := hl
  have hcls : (X.env.scope.kind == .class || (X.env.scope.kind == .module && X.env.locals != X.env.globals)) = false := by rw [I.ok.kind]; rfl
  simp only [hk, hcls]
  rw [if_neg (by decide)]
  refine wpAny_bind (wpAny_nsDel_keeps hn fun h₂ v hn₂ hs₂ => ?_)
  rw [hu0]
  simp only [if_true, Option.isSome_some, Bool.not_true, Bool.false_eq_true, if_false]
  refine wpAny_pure (wpAny_point (h _ ?_))
  have hs : Heap.SameBut X.env.locals s1.heap h₂ := hs₂
  refine ⟨I1.ok, I1.os, I1.bare, ⟨fun b o e nn hb hx => ?_, fun b o e nn hb hx => ?_, I1.base.free, fun b o e hx => ?_, I1.base.tups, I1.base.frzs, I1.base.tbls⟩, ⟨_, hn₂, fun j y v' e1 e2 e3 => ?_⟩, fun y c e => ?_, I1.free, I1.freeC, fun p hp => ?_, fun b ob e => ?_, ?_⟩
  · exact (hs.2 b (Nat.ne_of_lt (Nat.lt_of_lt_of_le (Heap.lt_size e) I1.ok.above))).trans (I1.base.keep b o e nn hb hx)
  · obtain ⟨sl, e1⟩ := I1.base.slot b o e nn hb hx
    exact ⟨sl, (hs.2 b (Nat.ne_of_lt (Nat.lt_of_lt_of_le (Heap.lt_size e) I1.ok.above))).trans e1⟩
  · obtain ⟨o', e1⟩ := I1.base.there b o e hx
    exact ⟨o', (hs.2 b (Nat.ne_of_lt (Nat.lt_of_lt_of_le (Heap.lt_size e) I1.ok.above))).trans e1⟩
  · by_cases hj : j = i
    · subst hj
      rw [List.getElem?_set_self hiσ] at e2
      cases e2
    · rw [List.getElem?_set_ne (Ne.symm hj)] at e2
      obtain ⟨u', r', q⟩ := hlk j y v' e1 (by rw [List.getElem?_set_ne (Ne.symm hj)]; exact e2) e3
      refine ⟨u', r', ?_⟩
      rcases q with ⟨k, e⟩ | ⟨k, c, e, z⟩
      · refine .inl ⟨k, ?_⟩
        have : y ≠ n := fun e => hj (nodup_ix hN e1 (e ▸ hi))
        simp [this, e]
      · exact .inr ⟨k, c, e, z.sameBut hs (I1.cne y c e)⟩
  · obtain ⟨w', z⟩ := I1.cell y c e
    exact ⟨w', z.sameBut hs (I1.cne y c e)⟩
  · obtain ⟨e, nn, ne, nf, d⟩ := I1.pin p hp
    exact ⟨(hs.2 p.1 ne).trans e, nn, ne, nf, d⟩
  · refine (I1.hok b ob e).stay (fun c w' hc q => (hs.2 c ?_).trans q) (fun _ q => q) fun _ _ q => q
    rintro rfl
    have fr := I1.free
    rcases hc with rfl | hc
    · rw [fr] at e; cases e
    · rw [fr] at hc; cases hc
  · rw [List.length_set]
    exact I.len
/-- the caught exception's object -/
noncomputable def ExO (ad : Addr) (cls : Value) : HO := .ext fun h => ∃ o vs, h.get? ad = some o ∧ o.cls = cls ∧ o.data = .fields vs
theorem Fly.new {P : Program} {w : World} {l : List Env} {ad : Addr} {cls : Value} (F : Fly P w l H s H' ad cls s') : s.heap.get? ad = none := by
  obtain ⟨B, a0, fl, c0, c2, c1⟩ := F.fl
  cases q : s.heap.get? ad with
  | none => rfl
  | some o =>
    by_cases hb : ad ∈ frs l
    · obtain ⟨_, o1, q1, nf⟩ := fl.2.2.1.mem hb
      obtain ⟨oe, vs, he, _, hd, _⟩ := fl.first
      rw [q1] at he
      cases he
      exact absurd hd (nf _)
    · obtain ⟨o', q'⟩ := c2 ad o q hb
      rw [fl.2.1] at q'
      cases q'
theorem Fly.tracked {P : Program} {w : World} {l : List Env} {ad : Addr} {cls : Value} (F : Fly P w l H s H' ad cls s') : H' ad = none := by
  obtain ⟨B, a0, fl, c0, c2, c1⟩ := F.fl
  cases q : H' ad with
  | none => rfl
  | some u =>
    obtain ⟨o, e⟩ := (F.hok ad u q).get
    have := c1 ad u o q e
    rw [fl.2.1] at this
    cases this
/-- the exception has landed here -/
theorem Fly.inv {ad : Addr} {cls : Value} (F : Fly X.prog X.w X.stack H s H' ad cls s') (I : Inv X pins σ H s) {B h6 : Heap} {a0 : Value} (fl : Heap.FlyingW B X.stack ad cls a0 s'.heap)
    (c0 : ∀ b o, s.heap.get? b = some o → H b = none → b ∉ frs X.stack → B.get? b = some o) (c2 : ∀ b o, s.heap.get? b = some o → b ∉ frs X.stack → ∃ o', B.get? b = some o')
    (c1 : ∀ b u o, H' b = some u → s'.heap.get? b = some o → B.get? b = some o) (st : B.StaysIn h6) (up : s'.heap.UpToSlots h6) : Inv X pins σ H' { s' with heap := h6 } := by
  have fr : ∀ b ∈ frs X.stack, ∀ o, s'.heap.get? b = some o → ∃ sl, h6.get? b = some { o with slots := sl } := fun b hb o q => by
    obtain ⟨_, o1, q1, nf⟩ := fl.2.2.1.mem hb
    rw [q] at q1
    cases q1
    exact up b o q nf
  refine I.call' (s' := { s' with heap := h6 }) (ch := []) F.os ⟨fun b o q n hb _ => st b o (c0 b o q n hb), fun b o q n hb hx => ?_, F.un.free, fun b o q hx => ?_, F.un.tups, F.un.frzs, F.un.tbls⟩ (F.hok.inB c1 st) F.bare (fun b hb => absurd hb (by simp))
  · obtain ⟨sl, q1⟩ := F.un.slot b o q n hb hx
    obtain ⟨sl2, q2⟩ := fr b hb _ q1
    exact ⟨sl2, q2⟩
  · by_cases hb : b ∈ frs X.stack
    · obtain ⟨o2, q2⟩ := F.un.there b o q hx
      obtain ⟨sl2, q3⟩ := fr b hb _ q2
      exact ⟨_, q3⟩
    · obtain ⟨o2, q2⟩ := c2 b o q hb
      exact ⟨o2, st b o2 q2⟩
theorem Inv.adopt {ad : Addr} {φ : Heap → Prop} (I : Inv X pins σ H' s') (I0 : Inv X pins σ H s) (new : s.heap.get? ad = none) (hn : H' ad = none) (ho : ∃ o, s'.heap.get? ad = some o) (p : φ s'.heap)
    (hst : ∀ h1 h2 : Heap, φ h1 → (∀ o, h1.get? ad = some o → h2.get? ad = some o) → φ h2) : Inv X pins σ (upd H' ad (.ext φ)) s' := by
  have ne : ∀ b o, s.heap.get? b = some o → b ≠ ad := fun b o e z => by rw [z, new] at e; cases e
  have tk : ∀ b u, H' b = some u → b ≠ ad := fun b u e z => by rw [z, hn] at e; cases e
  have ne0 : ∀ b o, b ∉ X.ex → X.s₀.heap.get? b = some o → b ≠ ad := fun b o hx e => by
    obtain ⟨o', e'⟩ := I0.base.there b o e hx
    exact ne b o' e'
  refine ⟨I.ok, I.os, I.bare, ⟨I.base.keep, I.base.slot, fun b o e n hx => ?_, I.base.there, fun b xs e => ?_, fun b o u e => ?_, fun b ps e => ?_⟩, I.loc, I.cell, ?_, fun y c e => ?_, fun q hq => ?_, fun b u e => ?_, I.len⟩
  · rw [upd_ne (ne0 b o hx e)]
    exact I.base.free b o e n hx
  · rw [upd_ne (tk _ _ (I.base.tups b xs e))]
    exact I.base.tups b xs e
  · rw [upd_ne (tk _ _ (I.base.frzs b o u e))]
    exact I.base.frzs b o u e
  · obtain ⟨m, e1⟩ := I.base.tbls b ps e
    exact ⟨m, by rw [upd_ne (tk _ _ e1)]; exact e1⟩
  · obtain ⟨m, ⟨o, es, ep, hl, _⟩, _⟩ := I0.loc
    rw [upd_ne (ne _ _ hl)]
    exact I.free
  · obtain ⟨v, o, hc, _⟩ := I0.cell y c e
    rw [upd_ne (ne _ _ hc)]
    exact I.freeC y c e
  · obtain ⟨e, n, r⟩ := I.pin q hq
    refine ⟨e, ?_, r⟩
    rw [upd_ne (ne _ _ (I0.pin q hq).1)]
    exact n
  · by_cases hb : b = ad
    · subst hb
      rw [upd_same] at e
      cases e
      exact ⟨p, ho, hst⟩
    · rw [upd_ne hb] at e
      exact (I.hok b u e).stay (fun _ _ _ q => q) (fun c r => by rw [upd_ne (tk _ _ r)]; exact r) fun c xs r => by rw [upd_ne (tk _ _ r)]; exact r
theorem caught {ad : Addr} {cls : Value} {cx n : Str} {np hpos : Pos} {b₀ : Stmt} {suite : List Stmt} {i : Nat} {ts : TS} {C2 : Addr} {D : Ends} (I : Inv X pins σ H s) (F : Fly X.prog X.w X.stack H s H' ad cls s')
    (hst : X.stack = X.env :: X.outer) (hf : X.env.frame = some X.env.locals) (hg : Gl X cx) (hm : X.mg cx = some (.ref C2)) (hx : exmOne X.K cls (.ref C2) = some true) (hN : X.N.Nodup) (hi : X.N[i]? = some n)
    (hl : X.env.scope.names.lookup n = some .local) (hs : PSs (X.mark ad) (b₀ :: suite) ts)
    (h : ts { nx := fun σ' H2 => D.nx (σ'.set i none) H2, rt := D.rt, bk := fun σ' H2 => D.bk (σ'.set i none) H2, ct := fun σ' H2 => D.ct (σ'.set i none) H2 } (σ.set i (some (.ref ad))) (upd H' ad (ExO ad cls)))
    (hdb : (cx == ("__debug__" : Str)) = false := by decide) :
    wpAny (model X.prog X.w) X.A (noteFrame (.ref ad) X.env) (fun _ s₂ => wpAny (model X.prog X.w) X.A (setFlight (.ref ad) none)
      (fun _ s₃ => wpAny (model X.prog X.w) X.A (handleBy (.ref ad) X.env [.ExceptHandler (some (.Name cx np)) (some n) (b₀ :: suite) hpos]) (SP X pins D) X.xe s₃) X.xe s₂) X.xe s' := by
  obtain ⟨B, a0, fl, c0, c2, c1⟩ := F.fl
  have fl' := fl
  rw [hst] at fl'
  refine wpAny_looks_onW (I.ok.frames.trans (by rw [hst])) hf fl' fun h4 held4 up4 => ?_
  refine wpAny_landsW held4 fun h5 fl5 up5 => ?_
  have U5 : s'.heap.UpToSlots h5 := up4.trans up5
  have I5 : Inv X pins σ H' { s' with heap := h5 } := F.inv I fl c0 c2 c1 fl5.1 U5
  obtain ⟨ob, hob, hobc⟩ := fl5.there
  refine wpAny_handleBy_cons (codeAny_handlers_test (ld_glob (X := X.mark ad) (I5.mark ad) hg hm ?_ hdb)) (by intro q; cases q)
  have LT : Looks (model X.prog X.w) h5 (typeOf (.ref ad)) cls := by
    subst hobc
    exact (Looks.ld hob).andThen .now
  refine (exm_one I5.kIn LT hx).here ?_
  refine codeAny_handlers_suite_as ?_
  refine lands_againW fl5 fun h6 fl6 up6 => ?_
  have I6 : Inv X pins σ H' { s' with heap := h6 } := F.inv I fl c0 c2 c1 fl6.1 (U5.trans up6)
  obtain ⟨oe, vs, he, hec, hed, _⟩ := fl6.first
  have I7 : Inv X pins σ (upd H' ad (ExO ad cls)) { s' with heap := h6 } := I6.adopt I F.new F.tracked ⟨oe, he⟩ ⟨oe, vs, he, hec, hed⟩ fun h1 h2 ⟨o, ws, e1, e2, e3⟩ k => ⟨o, ws, k o e1, e2, e3⟩
  refine store_ok (X := X.mark ad) (I7.mark ad) hN hi (.inl hl) (v := .ref ad) rfl (fun s7 I8 => ?_) (.inr hl)
  refine wpAny_mono (hs pins s7 _ _ _ I8 h) (fun fw s8 hq => ?_) fun _ _ z => z.elim
  cases fw with
  | next =>
    obtain ⟨σ8, H8, I9, q8⟩ := hq
    exact name_goes (I9.unmark I.ok) hN hi hl fun s9 I10 => ⟨_, _, I10, q8⟩
  | brk =>
    obtain ⟨σ8, H8, I9, q8⟩ := hq
    exact name_goes (I9.unmark I.ok) hN hi hl fun s9 I10 => ⟨_, _, I10, q8⟩
  | cont =>
    obtain ⟨σ8, H8, I9, q8⟩ := hq
    exact name_goes (I9.unmark I.ok) hN hi hl fun s9 I10 => ⟨_, _, I10, q8⟩
  | ret u =>
    obtain ⟨v8, σ8, H8, I9, r8, q8⟩ := hq
    exact name_goes (I9.unmark I.ok) hN hi hl fun s9 I10 => ⟨v8, _, _, I10, r8, q8⟩
end

/-! ### one call within try -/
section
variable {X : Cx} {CX : CXT} {k : Nat} {x : Str} {ps : List Str} {sp : Sp} {E : XK} {e : Expr} {es : List Expr} {t : TA} {p pos : Pos}
/-- what is wanted of the exception: its class is caught, and the suite's reading -/
noncomputable def xTry (K : PySem.W.Frag) (C2 : Addr) (i : Nat) (ts : TS) (D : Ends) (σ : St) : XK := fun cls _ H2 => exmOne K cls (.ref C2) = some true ∧ ∀ ad, H2 ad = none →
  ts { nx := fun σ' H3 => D.nx (σ'.set i none) H3, rt := D.rt, bk := fun σ' H3 => D.bk (σ'.set i none) H3, ct := fun σ' H3 => D.ct (σ'.set i none) H3 } (σ.set i (some (.ref ad))) (upd H2 ad (ExO ad cls))
noncomputable def tTryE (K : PySem.W.Frag) (sp : Sp) (t : TA) (C2 : Addr) (i : Nat) (ts : TS) : TS := fun D σ H => t σ H fun vs H1 => sp vs H1 (fun _ H2 => D.nx σ H2) (xTry K C2 i ts D σ)
noncomputable def tTryA (K : PySem.W.Frag) (sp : Sp) (t : TA) (j : Nat) (C2 : Addr) (i : Nat) (ts : TS) : TS := fun D σ H => t σ H fun vs H1 => sp vs H1 (fun v H2 => D.nx (σ.set j (some v)) H2) (xTry K C2 i ts D σ)
variable {cx n : Str} {np hpos epos tpos : Pos} {b₀ : Stmt} {suite : List Stmt} {i : Nat} {ts : TS} {C2 : Addr}
end
end L2
/-! Numbers, further: a share of any bottom. -/
namespace Nm
noncomputable def st (a b : Int) : Int := if b < 0 then -(a / g a b) else a / g a b
noncomputable def sb (a b : Int) : Int := if b < 0 then -(b / g a b) else b / g a b
theorem sb_pos {a b : Int} (h : b ≠ 0) : 0 < sb a b := by
  have g0 := g_pos (a := a) h
  unfold sb
  split
  · rename_i hb
    have h1 : 0 < (-b) / g a b := Int.ediv_pos_of_pos_of_dvd (by omega) (g_nn a b) (Int.dvd_neg.mpr (g_dvd_r a b))
    rw [Int.neg_ediv_of_dvd (g_dvd_r a b)] at h1
    exact h1
  · exact low_pos (by omega)
theorem g_neg_r (a b : Int) : g a (-b) = g a b := by rw [g_comm, g_neg, g_comm]
theorem st_low {a b : Int} (h : b ≠ 0) : g (st a b) (sb a b) = 1 := by
  have e := low_gcd (a := a) h
  unfold st sb
  split
  · rw [g_neg, g_neg_r]; exact e
  · exact e
theorem st_cross (a b : Int) : st a b * b = a * sb a b := by
  have e := low_cross a b
  unfold st sb
  split
  · rw [Int.neg_mul, e, Int.mul_neg]
  · exact e
theorem st_abs {a b : Int} (h : b ≠ 0) : (st a b).natAbs ≤ a.natAbs := by
  have := quot_abs (g_pos (a := a) h) (g_dvd_l a b)
  unfold st
  split <;> omega
theorem sb_abs {a b : Int} (h : b ≠ 0) : (sb a b).natAbs ≤ b.natAbs := by
  have := quot_abs (g_pos (a := a) h) (g_dvd_r a b)
  unfold sb
  split <;> omega
theorem st_pos {a b : Int} (h : 0 < b) : st a b = a / g a b ∧ sb a b = b / g a b := by
  unfold st sb
  rw [if_neg (by omega), if_neg (by omega)]
  exact ⟨rfl, rfl⟩
end Nm
/-! a def that may raise. -/
namespace L2
open PySem PySem.Spec PyProof.Rows
section
variable {P : Program} {w : World} {K : PySem.W.Frag} {mg : Str → Option Value} {base : Heap} {CX : CXT}
end
/-! ### argument lists without stars, by one lemma -/
noncomputable def noStar : Expr → Bool
  | .Starred _ _ => false
  | _ => true
theorem se {e : Expr} {es : List Expr} {env : Env} (h : noStar e = true) : starEach (e :: es) env = (false, eval e env) :: starEach es env := by
  cases e <;> first | rfl | exact absurd h Bool.false_ne_true
theorem na {env : Env} {pos : Pos} : ∀ {es : List Expr}, es.all noStar = true → (backTo pos (starEach es env)).any (·.1) = false
  | [], _ => rfl
  | e :: es, h => by
    rw [List.all_cons, Bool.and_eq_true] at h
    rw [se h.1]
    show (false || (backTo pos (starEach es env)).any (·.1)) = false
    rw [na h.2]
    rfl
end L2
/-! isinstance of a caught exception of an own class. -/
namespace L2
open PySem PySem.Spec PyProof.Rows PySem.W

/-- an own exception class, as isinstance asks it -/
structure ExcCls (K : PySem.W.Frag) (C : Addr) : Prop where
  cls : (clsIn K C).isSome = true
  ga : findIn K (.ref C) "__getattribute__" = some (some (.builtin "BaseException.__getattribute__"))
  gt : findIn K (.ref C) "__getattr__" = some none
  cl : findIn K (.ref C) "__class__" = some (some (.builtin "object.__class__"))
  be : mroIn K C (.type "BaseException") = some true
  ob : mroIn K C (.type "object") = some true

section
variable {prog : Program} {w : World} {A : Around} {E : Value → Shared → Prop} {K : PySem.W.Frag} {h : Heap} {g : Array GenState} {d : Drawn} {t : Nat} {os : OsState} {a C : Addr} {o : Obj}
end
noncomputable def ExcAt (a C : Addr) (h : Heap) : Prop := ∃ o, h.get? a = some o ∧ o.cls = .ref C
section
variable {X : Cx}
/-- a class as a value -/
noncomputable def clV : V → Option Value
  | .ref C => some (.ref C)
  | .ty T => some (.type T)
  | _ => none
end
end L2
/-! LIST COMPREHENSIONS (own text, over the layer's contexts). -/
namespace L2
open PySem PySem.Spec PyProof.Rows

/-! ### the closure -/
theorem closure_of {env : Env} : ∀ (names : List (Str × NameKind)) (cs : List (Str × Addr)), (∀ n, (n, NameKind.free) ∈ names → ∃ c, env.cells.lookup n = some c) → (∀ x c, cs.lookup x = some c → env.cells.lookup x = some c) →
    ∃ cl, (forIn names cs fun (x : Str × NameKind) (r : List (Str × Addr)) => (if (x.2 == NameKind.free) = true then do let c ← cellOf env x.1; pure (ForInStep.yield ((x.1, c) :: r)) else pure (ForInStep.yield r) : Sem (ForInStep (List (Str × Addr))))) = pure cl ∧
      (∀ x c, cl.lookup x = some c → env.cells.lookup x = some c) ∧ (∀ n, ((n, NameKind.free) ∈ names ∨ (cs.lookup n).isSome = true) → ∃ c, cl.lookup n = some c) ∧ (∀ x c, (x, c) ∈ cl → (env.cells.lookup x = some c ∧ (x, NameKind.free) ∈ names) ∨ (x, c) ∈ cs)
  | [], cs, _, h => ⟨cs, rfl, h, (fun n hn => by
      rcases hn with hn | hn
      · exact absurd hn (by simp)
      · exact Option.isSome_iff_exists.mp hn), fun x c m => .inr m⟩
  | (n, k) :: r, cs, hf, h => by
    by_cases hk : k = .free
    · subst hk
      obtain ⟨c, hc⟩ := hf n List.mem_cons_self
      obtain ⟨cl, e, h1, h2, h3⟩ := closure_of r ((n, c) :: cs) (fun m hm => hf m (List.mem_cons_of_mem _ hm)) (fun x c' hx => by
        rw [List.lookup_cons] at hx
        cases q : x == n with
        | true =>
          rw [q] at hx
          have e1 : x = n := by simpa using q
          cases hx
          rw [e1]; exact hc
        | false => rw [q] at hx; exact h x c' hx)
      refine ⟨cl, ?_, h1, fun m hm => h2 m ?_, fun x c' m => ?_⟩
      rotate_left 2
      · rcases h3 x c' m with ⟨q1, q2⟩ | m
        · exact .inl ⟨q1, List.mem_cons_of_mem _ q2⟩
        · rcases List.mem_cons.mp m with e | m
          · cases e
            exact .inl ⟨hc, List.mem_cons_self⟩
          · exact .inr m
      · rw [List.forIn_cons]
        have hco : cellOf env n = pure c := by unfold cellOf; rw [hc]
        simp only [beq_self_eq_true, if_true, hco, pure_bind]
        exact e
      · rcases hm with hm | hm
        · rcases List.mem_cons.mp hm with z | z
          · cases z
            right
            rw [List.lookup_cons]
            simp
          · exact .inl z
        · right
          rw [List.lookup_cons]
          cases q : m == n with
          | true => rfl
          | false => exact hm
    · obtain ⟨cl, e, h1, h2, h3⟩ := closure_of r cs (fun m hm => hf m (List.mem_cons_of_mem _ hm)) h
      refine ⟨cl, ?_, h1, fun m hm => h2 m ?_, fun x c' m => (h3 x c' m).imp (fun q => ⟨q.1, List.mem_cons_of_mem _ q.2⟩) id⟩
      · rw [List.forIn_cons]
        have : (k == NameKind.free) = false := by simpa using hk
        simp only [this, Bool.false_eq_true, if_false, pure_bind]
        exact e
      · rcases hm with hm | hm
        · rcases List.mem_cons.mp hm with z | z
          · cases z; exact absurd rfl hk
          · exact .inl z
        · exact .inr hm
theorem closureFor_of {env : Env} {scope : Scope} (hf : ∀ n, (n, NameKind.free) ∈ scope.names → ∃ c, env.cells.lookup n = some c) :
    ∃ cl, closureFor scope env = pure cl ∧ (∀ x c, cl.lookup x = some c → env.cells.lookup x = some c) ∧ (∀ n, (n, NameKind.free) ∈ scope.names → ∃ c, cl.lookup n = some c) ∧ (∀ x c, (x, c) ∈ cl → env.cells.lookup x = some c ∧ (x, NameKind.free) ∈ scope.names) := by
  obtain ⟨cl, e, h1, h2, h3⟩ := closure_of (env := env) scope.names [] hf (fun x c h => by simp at h)
  refine ⟨cl, ?_, h1, fun n hn => h2 n (.inl hn), fun x c m => (h3 x c m).elim id fun z => absurd z (by simp)⟩
  unfold closureFor
  simp only [bind_pure]
  exact e

/-! ### the names -/
/-- the outer names N with their scope; the block's names N' (k own ones first, then those from around at the places fr) with its scope -/
structure CompScope (N : List Str) (so : Scope) (N' : List Str) (scope : Scope) (k : Nat) (fr : List Nat) : Prop where
  kind : scope.kind = .function
  cels : ∀ y ∈ scope.names, y.2 = .cell → scope.names.lookup y.1 = some .cell ∧ (y.1, NameKind.free) ∉ scope.names
  locs : ∀ y ∈ scope.names, y.2 = .local → scope.names.lookup y.1 = some .local
  outer : ∀ y ∈ scope.names, y.2 = .free → (so.names.lookup y.1 = some .cell ∨ so.names.lookup y.1 = some .free)
  len : N'.length = k + fr.length
  at_ : ∀ t, t < fr.length → (fr[t]?).bind (fun j => N[j]?) = N'[k + t]?
  fre : ∀ x ∈ N'.drop k, scope.names.lookup x = some .free
noncomputable def stC (k : Nat) (fr : List Nat) (σ : St) : St := List.replicate k none ++ fr.map fun j => (σ[j]?).join

/-- the block's context -/
noncomputable def cxC (X : Cx) (N : List Str) (scope : Scope) (cl : List (Str × Addr)) (C : Addr) (s : Shared) (H : Hp) (ex : List Addr) : Cx where
  prog := X.prog
  w := X.w
  K := X.K
  mg := X.mg
  base := X.base
  A := X.A
  N := N
  s₀ := s
  H₀ := H
  env := compEnvC scope cl C X.env
  outer := X.stack
  stack := X.stack
  ex := ex
  calm := X.calm
  fn := fun x => scope.names.lookup x == some .cell
  pn := []
  xe := fun _ _ => False

theorem lookup_relabel_free {env : Env} : ∀ {names : List (Str × NameKind)} {x : Str}, names.lookup x = some .free →
    (names.map fun (n, k) => if (k == NameKind.free && env.scope.kind == .function && env.kindOf n == some .cell) then (n, NameKind.cell) else (n, k)).lookup x = some .cell ∨
    (names.map fun (n, k) => if (k == NameKind.free && env.scope.kind == .function && env.kindOf n == some .cell) then (n, NameKind.cell) else (n, k)).lookup x = some .free
  | [], _, h => by simp at h
  | (n, k) :: r, x, h => by
    have ih := @lookup_relabel_free env r x
    show List.lookup x ((if (k == NameKind.free && env.scope.kind == .function && env.kindOf n == some .cell) = true then (n, NameKind.cell) else (n, k)) :: _) = _ ∨ List.lookup x ((if (k == NameKind.free && env.scope.kind == .function && env.kindOf n == some .cell) = true then (n, NameKind.cell) else (n, k)) :: _) = _
    cases hx : x == n with
    | true =>
      simp only [List.lookup_cons, hx] at h
      cases h
      by_cases hc : (NameKind.free == NameKind.free && env.scope.kind == .function && env.kindOf n == some .cell) = true
      · rw [if_pos hc]; left; simp [List.lookup_cons, hx]
      · rw [if_neg hc]; right; simp [List.lookup_cons, hx]
    | false =>
      simp only [List.lookup_cons, hx] at h
      by_cases hc : (k == NameKind.free && env.scope.kind == .function && env.kindOf n == some .cell) = true
      · rw [if_pos hc]; simp only [List.lookup_cons, hx]; exact ih h
      · rw [if_neg hc]; simp only [List.lookup_cons, hx]; exact ih h
theorem relabel_back {env : Env} : ∀ {names : List (Str × NameKind)} {x : Str},
    ((names.map fun (n, k) => if (k == NameKind.free && env.scope.kind == .function && env.kindOf n == some .cell) then (n, NameKind.cell) else (n, k)).lookup x = some .cell ∨
    (names.map fun (n, k) => if (k == NameKind.free && env.scope.kind == .function && env.kindOf n == some .cell) then (n, NameKind.cell) else (n, k)).lookup x = some .free) → (x, NameKind.free) ∈ names ∨ (x, NameKind.cell) ∈ names
  | [], _, h => by simp at h
  | (n, k) :: r, x, h => by
    have ih := @relabel_back env r x
    have up : ((x, NameKind.free) ∈ r ∨ (x, NameKind.cell) ∈ r) → ((x, NameKind.free) ∈ (n, k) :: r ∨ (x, NameKind.cell) ∈ (n, k) :: r) := fun z => z.imp (List.mem_cons_of_mem _) (List.mem_cons_of_mem _)
    have h : List.lookup x ((if (k == NameKind.free && env.scope.kind == .function && env.kindOf n == some .cell) = true then (n, NameKind.cell) else (n, k)) :: _) = _ ∨ List.lookup x ((if (k == NameKind.free && env.scope.kind == .function && env.kindOf n == some .cell) = true then (n, NameKind.cell) else (n, k)) :: _) = _ := h
    cases hx : x == n with
    | true =>
      have e1 : x = n := by simpa using hx
      subst e1
      by_cases hc : (k == NameKind.free && env.scope.kind == .function && env.kindOf x == some .cell) = true
      · have : k = .free := by
          simp only [Bool.and_eq_true] at hc
          simpa using hc.1.1
        subst this
        exact .inl List.mem_cons_self
      · rw [if_neg hc] at h
        simp only [List.lookup_cons, hx] at h
        rcases h with h | h
        · cases h; exact .inr List.mem_cons_self
        · cases h; exact .inl List.mem_cons_self
    | false =>
      by_cases hc : (k == NameKind.free && env.scope.kind == .function && env.kindOf n == some .cell) = true
      · rw [if_pos hc] at h; simp only [List.lookup_cons, hx] at h; exact up (ih h)
      · rw [if_neg hc] at h; simp only [List.lookup_cons, hx] at h; exact up (ih h)
/-! ### cells of a block's own names -/
theorem cells_own : ∀ (names : List (Str × NameKind)) (h : Heap) (acc : List (Str × Addr)) (x : Str) (c : Addr), (x, c) ∈ cellsFrom h.objs.size names acc →
    (x, c) ∈ acc ∨ (h.objs.size ≤ c ∧ (pushCells h names).IsCell c none ∧ (x, NameKind.cell) ∈ names)
  | [], h, acc, x, c, m => .inl m
  | (n, k) :: r, h, acc, x, c, m => by
    unfold cellsFrom at m
    unfold pushCells
    by_cases hk : (k == NameKind.cell) = true
    · rw [if_pos hk] at m ⊢
      have ih := cells_own r (h.push { cls := .type "cell", data := .cell none }) ((n, h.objs.size) :: acc) x c
      rw [Heap.size_push] at ih
      rcases ih m with m | ⟨q1, q2, q3⟩
      · rcases List.mem_cons.mp m with e | m
        · cases e
          have hk : k = .cell := by simpa using hk
          subst hk
          refine .inr ⟨Nat.le_refl _, ?_, List.mem_cons_self⟩
          have q : (h.push { cls := .type "cell", data := .cell none }).IsCell h.objs.size none := ⟨_, Heap.get?_push_size _ rfl, rfl⟩
          exact q.keeps fun b o e => pushCells_keeps r _ b o e
        · exact .inl m
      · exact .inr ⟨by omega, q2, List.mem_cons_of_mem _ q3⟩
    · rw [if_neg hk] at m ⊢
      rcases cells_own r h acc x c m with m | ⟨q1, q2, q3⟩
      · exact .inl m
      · exact .inr ⟨q1, q2, List.mem_cons_of_mem _ q3⟩
theorem cells_inj : ∀ (names : List (Str × NameKind)) (n lo : Nat) (acc : List (Str × Addr)), (∀ x c, (x, c) ∈ acc → c < n) → (∀ x y c, lo ≤ c → (x, c) ∈ acc → (y, c) ∈ acc → x = y) →
    ∀ x y c, lo ≤ c → (x, c) ∈ cellsFrom n names acc → (y, c) ∈ cellsFrom n names acc → x = y
  | [], n, lo, acc, h1, h2, x, y, c, hl, m1, m2 => h2 x y c hl m1 m2
  | (z, k) :: r, n, lo, acc, h1, h2, x, y, c, hl, m1, m2 => by
    unfold cellsFrom at m1 m2
    by_cases hk : (k == NameKind.cell) = true
    · rw [if_pos hk] at m1 m2
      refine cells_inj r (n + 1) lo _ (fun x c m => ?_) (fun x y c hl m1 m2 => ?_) x y c hl m1 m2
      · rcases List.mem_cons.mp m with e | m
        · cases e; exact Nat.lt_succ_self _
        · exact Nat.lt_succ_of_lt (h1 x c m)
      · rcases List.mem_cons.mp m1 with e1 | m1 <;> rcases List.mem_cons.mp m2 with e2 | m2
        · cases e1; cases e2; rfl
        · cases e1; exact absurd (h1 _ _ m2) (Nat.lt_irrefl _)
        · cases e2; exact absurd (h1 _ _ m1) (Nat.lt_irrefl _)
        · exact h2 x y c hl m1 m2
    · rw [if_neg hk] at m1 m2
      exact cells_inj r n lo acc h1 h2 x y c hl m1 m2
theorem cells_skip : ∀ (names : List (Str × NameKind)) (n : Nat) (acc : List (Str × Addr)) (x : Str), (x, NameKind.cell) ∉ names → (cellsFrom n names acc).lookup x = acc.lookup x
  | [], n, acc, x, _ => rfl
  | (z, k) :: r, n, acc, x, h => by
    have hr : (x, NameKind.cell) ∉ r := fun m => h (List.mem_cons_of_mem _ m)
    unfold cellsFrom
    by_cases hk : (k == NameKind.cell) = true
    · rw [if_pos hk, cells_skip r _ _ x hr, List.lookup_cons]
      have hk : k = .cell := by simpa using hk
      subst hk
      have : (x == z) = false := by
        cases q : x == z with
        | false => rfl
        | true =>
          have e : x = z := by simpa using q
          subst e
          exact absurd List.mem_cons_self h
      rw [this]
    · rw [if_neg hk]
      exact cells_skip r n acc x hr
theorem cells_has : ∀ (names : List (Str × NameKind)) (n : Nat) (acc : List (Str × Addr)) (x : Str), ((x, NameKind.cell) ∈ names ∨ (acc.lookup x).isSome = true) → ((cellsFrom n names acc).lookup x).isSome = true
  | [], n, acc, x, h => by
    rcases h with h | h
    · simp at h
    · exact h
  | (z, k) :: r, n, acc, x, h => by
    unfold cellsFrom
    by_cases hk : (k == NameKind.cell) = true
    · rw [if_pos hk]
      refine cells_has r _ _ x ?_
      rcases h with h | h
      · rcases List.mem_cons.mp h with e | h
        · cases e
          right
          rw [List.lookup_cons]
          simp
        · exact .inl h
      · right
        rw [List.lookup_cons]
        cases q : x == z with
        | true => rfl
        | false => exact h
    · rw [if_neg hk]
      refine cells_has r _ _ x ?_
      rcases h with h | h
      · rcases List.mem_cons.mp h with e | h
        · cases e; exact absurd rfl hk
        · exact .inl h
      · exact .inr h
section
variable {M : Model} {A : Around} {E : Value → Shared → Prop} {s : Shared}
theorem wpAny_newEnv_comp {scope : Scope} {globals : Addr} {closure : List (Str × Addr)} {qual : Str} {func : Option Addr} {code : Value} {outer : Env} {Q : Env → Shared → Prop}
    (hQ : Q (newEnv scope s.heap.objs.size globals (cellsFrom (s.heap.objs.size + 1) scope.names closure) qual func code (some outer) builtinsNs)
      { s with heap := pushCells (s.heap.push { cls := .type "dict", data := .dict #[] }) scope.names }) :
    wpAny M A (newFunctionEnv scope globals closure [] qual func code (some outer)) Q E s := by
  simp only [newFunctionEnv, Option.isSome_some, if_true]
  refine wpAny_bind (wpAny_alloc ?_)
  refine wpAny_bind (wpAny_layCells _ (fun name kind cells => by cases hkc : kind == NameKind.cell <;> simp [hkc]) _ _ _ _ ?_)
  rw [show ({ s with heap := s.heap.push { cls := .type "dict", data := .dict #[] } } : Shared).heap.objs.size = s.heap.objs.size + 1 from Heap.size_push ..]
  refine wpAny_bind ?_
  rw [List.forIn_nil]
  exact wpAny_pure (wpAny_pure hQ)
end
/-- the cells that a block sees: those from around, and its own, which are new -/
structure BlkC (X : Cx) (scope : Scope) (cl : List (Str × Addr)) (lo : Nat) (C : Addr) (h1 : Heap) : Prop where
  old : ∀ x c, cl.lookup x = some c → X.env.cells.lookup x = some c ∨ (lo ≤ c ∧ C < c ∧ h1.IsCell c none)
  inj : ∀ x y c, C < c → cl.lookup x = some c → cl.lookup y = some c → x = y
  has : ∀ n, (n, NameKind.free) ∈ scope.names ∨ (n, NameKind.cell) ∈ scope.names → ∃ c, cl.lookup n = some c
  fre : ∀ n, scope.names.lookup n = some .free → ∀ c, cl.lookup n = some c → X.env.cells.lookup n = some c
  own : ∀ x c, scope.names.lookup x = some .cell → cl.lookup x = some c → lo ≤ c
section
variable {X : Cx} {pins : List (Addr × Obj)} {σ : St} {H : Hp} {s : Shared} {N' : List Str} {scope : Scope} {k : Nat} {fr : List Nat} {cl : List (Str × Addr)}
theorem compOk {C : Addr} {fp : List Addr} {h1 : Heap} (I : Inv X pins σ H s) (S : CompScope X.N X.env.scope N' scope k fr) (B : BlkC X scope cl s.heap.objs.size C h1)
    (hC : s.heap.objs.size ≤ C) (f2 : ∀ b ∈ fp, FpOk X pins H b) (lt : ∀ b ∈ fp, b < s.heap.objs.size) : (cxC X N' scope cl C s H fp).Ok where
  mod := I.ok.mod
  kind := S.kind
  glob := I.ok.glob
  blt := I.ok.blt
  above := hC
  inj := fun x y c h1 h2 => by
    rcases B.old _ _ h1 with o1 | o1 <;> rcases B.old _ _ h2 with o2 | o2
    · exact I.ok.inj x y c o1 o2
    · exact B.inj x y c o2.2.1 h1 h2
    · exact B.inj x y c o1.2.1 h1 h2
    · exact B.inj x y c o1.2.1 h1 h2
  has := fun x hx => B.has x (relabel_back hx)
  cab := fun x c z e => B.own x c (by
    have z : (scope.names.lookup x == some NameKind.cell) = true := z
    simpa using z) e
  hd := I.ok.hd
  frames := I.ok.frames
  stk := .inl rfl
  exf := fun b hb => ⟨Nat.ne_of_lt (Nat.lt_of_lt_of_le (lt b hb) hC), fun x c e => (B.old _ _ e).elim (fun o => (f2 b hb).2.2.2.2.1 x c o) fun o => Nat.ne_of_gt (Nat.lt_of_lt_of_le (lt b hb) o.1)⟩
  bs := I.bs
  bsz := Nat.le_trans I.ok.bsz I.sz
  noex := fun b o e hb => by
    rcases (f2 b hb).2.2.2.1 with z | z
    · exact I.ok.noex b o e z
    · exact absurd (Nat.lt_of_lt_of_le (Heap.lt_size e) (Nat.le_trans I.ok.bsz z)) (Nat.lt_irrefl _)
  exfs := fun b hb z => by
    rcases List.mem_cons.mp (I.stkSub b z) with q | q
    · exact (f2 b hb).2.1 q
    · exact (f2 b hb).2.2.1 q
  funs := I.stack
  frf := I.stkFree
theorem compInv {C : Addr} {fp : List Addr} {h1 : Heap} {tk : Nat} {m : Str → Option Value} (I : Inv X pins σ H s) (S : CompScope X.N X.env.scope N' scope k fr) (B : BlkC X scope cl s.heap.objs.size C h1)
    (hC : s.heap.objs.size ≤ C) (f2 : ∀ b ∈ fp, FpOk X pins H b) (lt : ∀ b ∈ fp, b < s.heap.objs.size) (old : ∀ b o, s.heap.get? b = some o → h1.get? b = some o) (hn : h1.Ns C m) :
    Inv (cxC X N' scope cl C s H fp) [] (stC k fr σ) H { s with heap := h1, toks := tk } := by
  refine ⟨compOk I S B hC f2 lt, rfl, I.bare, Un.kept old, ⟨m, hn, fun i x v e1 e2 e3 => ?_⟩, fun x c e => ?_, I.hok.fresh hC, fun x c e => (B.old _ _ e).elim (fun o => I.freeC x c o) fun o => I.hok.fresh o.1, fun p hp => absurd (show p ∈ ([] : List (Addr × Obj)) from hp) (by simp), I.hok.kept old, ?_⟩
  · have e1 : N'[i]? = some x := e1
    unfold stC at e2
    by_cases hi : i < k
    · rw [List.getElem?_append_left (by simpa using hi), List.getElem?_replicate, if_pos hi] at e2
      cases e2
    · rw [List.getElem?_append_right (by simpa using hi), List.length_replicate, List.getElem?_map] at e2
      cases q : fr[i - k]? with
      | none => rw [q] at e2; cases e2
      | some j =>
        rw [q] at e2
        have e2 : (σ[j]?).join = some v := Option.some.inj e2
        have ej : σ[j]? = some (some v) := by
          cases z : σ[j]? with
          | none => rw [z] at e2; cases e2
          | some o => rw [z] at e2; exact congrArg some e2
        have hlt : i - k < fr.length := (List.getElem?_eq_some_iff.mp q).1
        have hat := S.at_ (i - k) hlt
        rw [q, show k + (i - k) = i by omega, e1] at hat
        have hat : X.N[j]? = some x := hat
        have hxm : x ∈ N'.drop k := List.mem_iff_getElem?.mpr ⟨i - k, by rw [List.getElem?_drop, show k + (i - k) = i by omega]; exact e1⟩
        have hfr := S.fre x hxm
        have hmem : (x, NameKind.free) ∈ scope.names := PySem.mem_of_lookup hfr
        have hout := S.outer _ hmem rfl
        obtain ⟨m0, hn0, hl0⟩ := I.loc
        obtain ⟨u, r, l⟩ := hl0 j x v hat ej (.inr hout)
        refine ⟨u, r, .inr ⟨lookup_relabel_free hfr, ?_⟩⟩
        rcases l with ⟨kk, _⟩ | ⟨_, c, e, z⟩
        · have kk : X.env.scope.names.lookup x = some .local := kk
          rcases hout with q1 | q1
          · rw [kk] at q1; cases q1
          · rw [kk] at q1; cases q1
        · obtain ⟨c', e'⟩ := B.has x (.inl hmem)
          have ec := B.fre x hfr _ e'
          rw [e] at ec
          cases ec
          obtain ⟨ob, ho, hd⟩ := z
          exact ⟨c, e', ob, old _ _ ho, hd⟩
  · rcases B.old _ _ e with o | o
    · obtain ⟨v, ob, ho, hd⟩ := I.cell x c o
      exact ⟨v, ob, old _ _ ho, hd⟩
    · exact ⟨none, o.2.2⟩
  · unfold stC
    rw [List.length_append, List.length_replicate, List.length_map]
    exact S.len.symm
end

/-! ### one turn, with the step ahead of the store -/
section
variable {prog : Program} {w : World} {A : Around} {E : Value → Shared → Prop} {R : Result → Shared → Prop} {s : Shared}
theorem codeAny_compLoop_any {elt target iter : Expr} {ifs : List Expr} {scope : Scope} {pos : Pos} {it acc : Value} {env : Env} (I : Nat → Shared → Prop)
    (turn : ∀ n s, I n s → wpAny (model prog w) A (pyNext it) (fun r s₁ => match r with
      | none => R (.ok .next) s₁
      | some v => wpAny (model prog w) A (letOwnedTupleGo target it v) (fun _ s₁' => wpAny (model prog w) A (assign target env v) (fun _ s₂ =>
          wpAny (model prog w) A (forIn ifs true fun c r => if r = true then do let ok ← isTrue c env (eval c env); pure (ForInStep.yield ok) else pure (ForInStep.yield r)) (fun ok s₃ =>
            if ok = true then wpAny (model prog w) A (eval elt env) (fun x s₄ =>
              wpAny (model prog w) A (call (.builtin "list.append") [acc, x]) (fun _ s₅ => ∃ m, m < n ∧ I m s₅) (fun _ _ => False) s₄) (notedBy (model prog w) A env fun x s' => R (.error x) s') s₃
            else ∃ m, m < n ∧ I m s₃) (fun _ _ => False) s₂) (fun _ _ => False) s₁') (fun _ _ => False) s₁) (fun _ _ => False) s)
    (n : Nat) (h : I n s) :
    codeAny (model prog w) A (.compLoop (.ListComp elt [⟨target, iter, ifs, 0⟩] scope pos) 0 it acc env) R s := by
  refine codeAny_loop rfl I (fun n s hI => ?_) n h
  show wpAny _ A ((compTurn (.ListComp elt [⟨target, iter, ifs, 0⟩] scope pos) 0 it acc env).onRaise (fun x => do noteFrame x env; theTreesLotGoes x)) _ _ s
  refine wpAny_noted ?_
  rw [compTurn_list]
  refine wpAny_bind (wpAny_standAt (wpAny_bind (wpAny_mono (turn n s hI) (fun r s₁ h₁ => ?_) fun _ _ h' => h'.elim)))
  cases r with
  | none => exact wpAny_pure h₁
  | some v =>
    refine wpAny_bind (wpAny_mono h₁ (fun _ s₁' h₁' => ?_) fun _ _ h' => h'.elim)
    refine wpAny_bind (wpAny_mono h₁' (fun _ s₂ h₂ => wpAny_bind (wpAny_mono h₂ (fun ok s₃ h₃ => ?_) fun _ _ h' => h'.elim)) fun _ _ h' => h'.elim)
    cases ok with
    | false => exact wpAny_pure ⟨rfl, h₃⟩
    | true =>
      exact wpAny_bind (wpAny_bind (wpAny_mono h₃ (fun x s₄ h₄ => wpAny_bind (wpAny_mono h₄ (fun _ s₅ h₅ => wpAny_pure (wpAny_pure ⟨rfl, h₅⟩)) fun _ _ h' => h'.elim)) fun _ _ h' => h'))
end

/-! ### the tests of a clause -/
noncomputable def PTs (X : Cx) (ifs : List Expr) (t : TT) : Prop :=
  ∀ (pins : List (Addr × Obj)) (s : Shared) (σ : St) (H : Hp) (Q : Bool → Hp → Prop), Inv X pins σ H s → t σ H Q →
    wpAny (model X.prog X.w) X.A (forIn ifs true fun c r => if r = true then do let ok ← isTrue c X.env (eval c X.env); pure (ForInStep.yield ok) else pure (ForInStep.yield r)) (TP X pins σ Q) X.xe s
noncomputable def tYes : TT := fun _ H Q => Q true H
theorem pts_nil {X : Cx} : PTs X [] tYes := fun _ _ _ H _ I h => wpAny_tests_nil ⟨H, I, h⟩
theorem pts_one {X : Cx} {c : Expr} {t : TT} (h : PT X c t) : PTs X [c] t := fun pins s σ H Q I hq => wpAny_tests_one (h pins s σ H Q I hq)

/-! ### the block -/
section
variable {X : Cx}
/-- W: the invariant by the turn, a measure, the items so far, the block's names, the heap (the new list is not yet in it) -/
noncomputable def tBlock (J : It) (g : TG) (tc : TT) (te : TE) (σ0 : St) (H1 : Hp) (fin : List V → Hp → Prop) : Prop :=
  ∃ W : Nat → Nat → List V → St → Hp → Prop, (∃ m, W 0 m [] σ0 H1) ∧ ∀ i m ys σ2 H2, W i m ys σ2 H2 →
    (J.stop i H2 ∧ fin ys H2) ∨
    (J.go i H2 ∧ ∀ x H3, J.yld i H2 x H3 → g x σ2 H3 fun σ3 H4 => tc σ3 H4 fun b H5 => if b = true then te σ3 H5 fun y H6 => ys.length < sizeLine ∧ ∃ m', m' < m ∧ W (i + 1) m' (ys ++ [y]) σ3 H6 else ∃ m', m' < m ∧ W (i + 1) m' ys σ3 H5)
noncomputable def lstObj (its : List Value) (n : Nat) : Obj := { cls := .type "list", data := .seq its.toArray n }
theorem block_in {elt target iter : Expr} {ifs : List Expr} {scope : Scope} {pos : Pos} {g : TG} {tc : TT} {te : TE} {k : Nat} {fr : List Nat} {N' : List Str} {cl : List (Str × Addr)} {pins : List (Addr × Obj)} {σ : St} {H2 : Hp} {s2 : Shared}
    {it : Addr} {fp : List Addr} {tn : Nat → Heap → Prop} {J : It} {fin : List V → Hp → Prop} {R0 : Result → Shared → Prop} {XE : List (Str × Addr) → Addr → Shared → Hp → List Addr → Value → Shared → Prop}
    (hc : X.calm = true) (S : CompScope X.N X.env.scope N' scope k fr) (c1 : ∀ x c, cl.lookup x = some c → X.env.cells.lookup x = some c) (c2 : ∀ n, (n, NameKind.free) ∈ scope.names → ∃ c, cl.lookup n = some c) (cin : ∀ x c, (x, c) ∈ cl → ∃ y, X.env.cells.lookup y = some c) (cno : ∀ x, (x, NameKind.cell) ∈ scope.names → ∀ c, (x, c) ∉ cl)
    (hg : ∀ cl C s H ex, PG (cxC X N' scope cl C s H ex) target g) (ht : ∀ cl C s H ex, PTs (cxC X N' scope cl C s H ex) ifs tc) (he : ∀ cl C s H ex, PE ((cxC X N' scope cl C s H ex).wish (XE cl C s H ex)) elt te)
    (I2 : Inv X pins σ H2 s2) (T : Turn X.prog X.w X.K target J fp it tn) (st2 : tn 0 s2.heap) (f2 : ∀ b ∈ fp, FpOk X pins H2 b) (hb : tBlock J g tc te (stC k fr σ) H2 fin)
    (hR : ∀ (C : Addr), C = (s2.heap.push { cls := .type "list", dict := none, data := .seq ([] : List Value).toArray }).objs.size → ∀ (s' : Shared) (m : Str → Option Value) (ys : List V) (its : List Value) (n : Nat) (H' : Hp), s2.heap.objs.size < C → s'.heap.Ns C m → Vals ys its → ys.length ≤ sizeLine → s'.heap.get? s2.heap.objs.size = some (lstObj its n) → H' s2.heap.objs.size = none → H' C = none → fin ys H' →
      s'.os = s2.os → AllBare s'.gens → Un (frs X.stack) fp H2 H' s2.heap s'.heap → HOk X.prog X.w H' s'.heap → R0 (.ok .next) s')
    (hE : ∀ cl C x s', C = (s2.heap.push { cls := .type "list", dict := none, data := .seq ([] : List Value).toArray }).objs.size → s2.heap.objs.size < C → XE cl C s2 H2 fp x s' → notedBy (model X.prog X.w) X.A (compEnvC scope cl C X.env) (fun y s'' => R0 (.error y) s'') x s') :
    codeAny (model X.prog X.w) X.A (.compStart (.ListComp elt [⟨target, iter, ifs, 0⟩] scope pos) 0 (.ref it) (.ref s2.heap.objs.size) (compEnvC scope (cellsFrom ((s2.heap.push { cls := .type "list", dict := none, data := .seq ([] : List Value).toArray }).objs.size + 1) scope.names cl) (s2.heap.push { cls := .type "list", dict := none, data := .seq ([] : List Value).toArray }).objs.size X.env)) R0 { s2 with heap := pushCells ((s2.heap.push { cls := .type "list", dict := none, data := .seq ([] : List Value).toArray }).push { cls := .type "dict", data := .dict #[] }) scope.names } := by
  obtain ⟨W, ⟨m0, w0⟩, turn⟩ := hb
  have lt : ∀ b ∈ fp, b < s2.heap.objs.size := fun b hb => by
    obtain ⟨o, e, _⟩ := T.obj _ _ st2 b hb
    exact Heap.lt_size e
  generalize hH2 : s2.heap.push { cls := .type "list", dict := none, data := .seq ([] : List Value).toArray } = G2 at hR hE ⊢
  have hCs : G2.objs.size = s2.heap.objs.size + 1 := by rw [← hH2, Heap.size_push]
  have hDC : s2.heap.objs.size ≠ G2.objs.size := by rw [hCs]; exact Nat.ne_of_lt (Nat.lt_succ_self _)
  have hC : s2.heap.objs.size ≤ G2.objs.size := by rw [hCs]; exact Nat.le_succ _
  have old : ∀ b o, s2.heap.get? b = some o → (pushCells (G2.push { cls := .type "dict", data := .dict #[] }) scope.names).get? b = some o := fun b o e => by
    refine pushCells_keeps _ _ b o (Heap.get?_push_of_some _ ?_)
    rw [← hH2]
    exact Heap.get?_push_of_some _ e
  have hacc : (pushCells (G2.push { cls := .type "dict", data := .dict #[] }) scope.names).get? s2.heap.objs.size = some (lstObj [] 0) := by
    refine pushCells_keeps _ _ _ _ (Heap.get?_push_of_some _ ?_)
    rw [← hH2]
    exact Heap.get?_push_size _ rfl
  have hns₁ : (pushCells (G2.push { cls := .type "dict", data := .dict #[] }) scope.names).Ns G2.objs.size fun _ => none := (Heap.Ns.new G2 (.type "dict")).keeps (pushCells_keeps _ _)
  have cl0 : ∀ x c, (x, c) ∈ cl → c < G2.objs.size + 1 := fun x c m => by
    obtain ⟨y, hy⟩ := cin x c m
    obtain ⟨v, q⟩ := I2.cell y c hy
    rw [hCs]
    exact Nat.lt_succ_of_lt (Nat.lt_succ_of_lt q.lt)
  have B : BlkC X scope (cellsFrom (G2.objs.size + 1) scope.names cl) s2.heap.objs.size G2.objs.size (pushCells (G2.push { cls := .type "dict", data := .dict #[] }) scope.names) := by
    have own := cells_own scope.names (G2.push { cls := .type "dict", data := .dict #[] }) cl
    rw [Heap.size_push] at own
    refine ⟨fun x c e => ?_, fun x y c hc h1 h2 => ?_, fun n hn => ?_, fun n hn c e => ?_, fun x c hx e => ?_⟩
    · by_cases hx : (x, NameKind.cell) ∈ scope.names
      · rcases own x c (PySem.mem_of_lookup e) with m | ⟨q1, q2, _⟩
        · -- an outer name's cell cannot stand under a name of the block's own
          exfalso
          exact cno x hx c m
        · exact .inr ⟨Nat.le_trans hC (Nat.le_of_succ_le q1), q1, q2⟩
      · rw [cells_skip _ _ _ _ hx] at e
        exact .inl (c1 x c e)
    · exact cells_inj scope.names (G2.objs.size + 1) (G2.objs.size + 1) cl cl0 (fun x y c hl m1 _ => absurd (cl0 x c m1) (Nat.not_lt.mpr hl)) x y c hc (PySem.mem_of_lookup h1) (PySem.mem_of_lookup h2)
    · refine Option.isSome_iff_exists.mp (cells_has _ _ _ n ?_)
      rcases hn with hn | hn
      · obtain ⟨c, e⟩ := c2 n hn
        exact .inr (by rw [e]; rfl)
      · exact .inl hn
    · have hx : (n, NameKind.cell) ∉ scope.names := fun m => by
        have := (S.cels _ m rfl).1
        rw [hn] at this
        cases this
      rw [cells_skip _ _ _ _ hx] at e
      exact c1 n c e
    · have hx := PySem.mem_of_lookup hx
      rcases own x c (PySem.mem_of_lookup e) with m | ⟨q1, q2, _⟩
      · exact absurd m (cno x hx c)
      · exact Nat.le_trans hC (Nat.le_of_succ_le q1)
  generalize pushCells (G2.push { cls := .type "dict", data := .dict #[] }) scope.names = h₁ at *
  generalize cellsFrom (G2.objs.size + 1) scope.names cl = cl2 at *
  generalize hDd : s2.heap.objs.size = D at *
  generalize hCc : G2.objs.size = C at *
  have fD : H2 D = none := by rw [← hDd]; exact I2.hok.fresh (Nat.le_refl _)
  have cells : ∀ x c, cl2.lookup x = some c → c ≠ D := fun x c e => by
    rcases B.old _ _ e with o | o
    · obtain ⟨v, q⟩ := I2.cell x c o
      rw [← hDd]
      exact Nat.ne_of_lt q.lt
    · exact Nat.ne_of_gt (Nat.lt_trans (by rw [hCs]; exact Nat.lt_succ_self _) o.2.1)
  -- the loop's invariant
  have loop : ∀ (itv : Addr) (s3 : Shared), itv = it → (∃ tk, s3 = { s2 with heap := h₁, toks := tk }) →
      codeAny (model X.prog X.w) X.A (.compLoop (.ListComp elt [⟨target, iter, ifs, 0⟩] scope pos) 0 (.ref itv) (.ref D) (compEnvC scope cl2 C X.env)) R0 s3 := by
    rintro itv s3 rfl ⟨tk, rfl⟩
    have I3 : Inv (cxC X N' scope cl2 C s2 H2 fp) [] (stC k fr σ) H2 { s2 with heap := h₁, toks := tk } := compInv I2 S (by rw [hDd]; exact B) (by rw [hDd]; exact hC) f2 (by rw [hDd]; exact lt) old hns₁
    have stat : ∀ {H' : Hp} {o : Obj}, (∀ b ∈ fp, H' b = none) → ∀ b ∈ fp, FpOk (cxC X N' scope cl2 C s2 H2 fp) [(D, o)] H' b := fun {H' o} hn b hb =>
      ⟨hn b hb, Nat.ne_of_lt (Nat.lt_of_lt_of_le (lt b hb) hC), fun z => by
        rcases List.mem_cons.mp (I2.stkSub b z) with q | q
        · exact (f2 b hb).2.1 q
        · exact (f2 b hb).2.2.1 q, .inl hb, fun x c e => (B.old _ _ e).elim (fun o => (f2 b hb).2.2.2.2.1 x c o) (fun o => Nat.ne_of_gt (Nat.lt_of_lt_of_le (lt b hb) o.1)), fun p hp => by
        have e : p = (D, o) := by simpa [cxC] using hp
        rw [e]
        exact Nat.ne_of_gt (lt b hb)⟩
    have addD : ∀ {σ' : St} {H' : Hp} {s' : Shared} {o : Obj}, Inv (cxC X N' scope cl2 C s2 H2 fp) [] σ' H' s' → s'.heap.get? D = some o → H' D = none → (∀ v, o.data ≠ .cell v) → Inv (cxC X N' scope cl2 C s2 H2 fp) [(D, o)] σ' H' s' := fun {σ' H' s' o} I' e n hd =>
      I'.pins_of fun p hp => by
        have q : p = (D, o) := by simpa using hp
        subst q
        refine ⟨e, n, hDC, fun z => ?_, hd⟩
        obtain ⟨_, ob, ho, _⟩ := I2.stack.mem z
        exact absurd (Heap.lt_size ho) (by rw [hDd]; exact Nat.lt_irrefl _)
    have ndL : ∀ {its : List Value} {n : Nat} (v : Option Value), (lstObj its n).data ≠ .cell v := fun v z => by
      have z : Data.seq _ _ = Data.cell v := z
      cases z
    refine codeAny_compLoop_any (fun n s' => ∃ i ys σ' H' its cap, Inv (cxC X N' scope cl2 C s2 H2 fp) [] σ' H' s' ∧ tn i s'.heap ∧ (∀ b ∈ fp, H' b = none) ∧ s'.heap.get? D = some (lstObj its cap) ∧ H' D = none ∧ Vals ys its ∧ ys.length ≤ sizeLine ∧ W i n ys σ' H') ?_ m0
      ⟨0, [], _, H2, [], 0, I3, T.keep _ _ _ st2 (fun b _ o e => old b o e), fun b hb => (f2 b hb).1, hacc, fD, .nil, Nat.zero_le _, w0⟩
    rintro n s4 ⟨i, ys, σ4, H4, its, cap, I4, st4, fr4, hD4, nD4, vl4, sz4, w4⟩
    have I4' := addD I4 hD4 nD4 ndL
    rcases turn i n ys σ4 H4 w4 with ⟨stop, qf⟩ | ⟨go, step⟩
    · refine thn (T.done (cxC X N' scope cl2 C s2 H2 fp) rfl rfl rfl hc i _ s4 σ4 H4 _ I4' (stat fr4) st4 stop) fun r s5 ⟨hr, I5⟩ => ?_
      subst hr
      obtain ⟨m5, hn5, _⟩ := I5.loc
      exact hR C rfl s5 m5 ys its cap H4 (by rw [hCs]; exact Nat.lt_succ_self _) hn5 vl4 sz4 (I5.pin (D, lstObj its cap) (List.mem_append_right _ List.mem_cons_self)).1 nD4 I5.free qf I5.os I5.bare I5.base I5.hok
    · refine thn (T.item (cxC X N' scope cl2 C s2 H2 fp) rfl rfl rfl hc i _ s4 σ4 H4 _ I4' (stat fr4) st4 go) fun r s5 ⟨u, hr, h5⟩ => ?_
      subst hr
      refine thn h5 fun _ s6 ⟨x, H6, I6, r6, y6, st6, fr6⟩ => ?_
      have I6' := I6.pinned (stat fr6) (T.obj _ _ st6)
      refine thn (hg cl2 C s2 H2 fp _ s6 σ4 H6 x u _ I6' r6 (step x H6 y6)) fun _ s7 ⟨σ7, H7, I7, q7⟩ => ?_
      refine thn (ht cl2 C s2 H2 fp _ s7 σ7 H7 _ I7 q7) fun ok s8 ⟨H8, I8, q8⟩ => ?_
      -- what a pinned state tells of the iterator and of the list
      have back : ∀ {σ' : St} {H' : Hp} {s' : Shared}, Inv (cxC X N' scope cl2 C s2 H2 fp) ([(D, lstObj its cap)] ++ pinsAt fp s6.heap) σ' H' s' → tn (i + 1) s'.heap ∧ (∀ b ∈ fp, H' b = none) ∧ s'.heap.get? D = some (lstObj its cap) ∧ H' D = none := fun {σ' H' s'} I' => by
        have pD := I'.pin (D, lstObj its cap) (List.mem_append_right _ (List.mem_append_left _ (by simp)))
        refine ⟨T.keep _ _ _ st6 fun b hb o e => (I'.pin (b, o) (List.mem_append_right _ (List.mem_append_right _ (mem_pinsAt hb e)))).1, fun b hb => ?_, pD.1, pD.2.1⟩
        obtain ⟨o, e, d⟩ := T.obj _ _ st6 b hb
        exact (I'.pin (b, o) (List.mem_append_right _ (List.mem_append_right _ (mem_pinsAt hb e)))).2.1
      cases ok with
      | false =>
        rw [if_neg Bool.false_ne_true]
        rw [if_neg Bool.false_ne_true] at q8
        obtain ⟨m', hm, w8⟩ := q8
        obtain ⟨b1, b2, b3, b4⟩ := back I8
        exact ⟨m', hm, i + 1, ys, σ7, H8, its, cap, I8.pins_of (fun p hp => absurd hp (by simp)), b1, b2, b3, b4, vl4, sz4, w8⟩
      | true =>
        rw [if_pos rfl]
        rw [if_pos rfl] at q8
        refine wpAny_mono (he cl2 C s2 H2 fp _ s8 σ7 H8 _ (I8.wish _) q8) (fun y s9 ⟨z, H9, I9, r9, hlt, m', hm, w9⟩ => ?_) fun x s' hx => hE cl2 C x s' rfl (by rw [hCs]; exact Nat.lt_succ_self _) hx
        have I9 := I9.unwish
        obtain ⟨b1, b2, b3, b4⟩ := back I9
        have hl := vl4.length
        refine call_meets F.slot_list_append ⟨_, b3, rfl⟩ F.entry_list_append (F.args_list_append_2 _ _) (PySem.list_append D its.toArray cap y (by rw [List.size_toArray]; omega)) ⟨b3, ?_⟩
        obtain ⟨c', q⟩ : ∃ c', (s9.heap.update D (Obj.mapSeq fun x => x.push y)).get? D = some (lstObj (its ++ [y]) c') := by
          have q := PySem.IsL.update b3 (fun x => x.push y)
          rw [show its.toArray.push y = (its ++ [y]).toArray by simp] at q
          exact ⟨_, q⟩
        have I9' : Inv (cxC X N' scope cl2 C s2 H2 fp) [] σ7 H9 s9 := I9.pins_of (fun p hp => absurd hp (by simp))
        have kp : ∀ b o, b ≠ D → s9.heap.get? b = some o → (s9.heap.update D (Obj.mapSeq fun x => x.push y)).get? b = some o := fun b o hb e => (Heap.get?_update_other s9.heap (Obj.mapSeq fun x => x.push y) (Ne.symm hb)).trans e
        have I10 := I9'.turned (t' := s9.toks) (it := D) (h' := s9.heap.update D (Obj.mapSeq fun x => x.push y)) kp b4 hDC (.inr (by show s2.heap.objs.size ≤ D; rw [hDd]; exact Nat.le_refl _)) (fun x c e => cells x c e) (fun p hp => absurd hp (by simp [cxC]))
        refine ⟨m', hm, i + 1, ys ++ [z], σ7, H9, its ++ [y], c', I10, T.keep _ _ _ b1 (fun b hb o e => kp b o (Nat.ne_of_lt (lt b hb)) e), b2, q, b4, vl4.append (.cons r9 .nil), ?_, w9⟩
        · rw [List.length_append, List.length_singleton]
          omega
  exact codeAny_compStart_list (loop it _ rfl ⟨_, rfl⟩) (T.self _ 0 _ _ _ (T.keep _ _ _ st2 (fun b _ o e => old b o e)) (loop it _ rfl ⟨_, rfl⟩))

theorem block_run {elt target iter : Expr} {ifs : List Expr} {scope : Scope} {pos : Pos} {g : TG} {tc : TT} {te : TE} {k : Nat} {fr : List Nat} {N' : List Str} {cl : List (Str × Addr)} {pins : List (Addr × Obj)} {σ : St} {H2 : Hp} {s2 : Shared}
    {it : Addr} {fp : List Addr} {tn : Nat → Heap → Prop} {J : It} {E : Value → Shared → Prop} {fin : List V → Hp → Prop} {RR : Value → Addr → Result → Shared → Prop} {XE : List (Str × Addr) → Addr → Shared → Hp → List Addr → Value → Shared → Prop}
    (hc : X.calm = true) (S : CompScope X.N X.env.scope N' scope k fr) (c1 : ∀ x c, cl.lookup x = some c → X.env.cells.lookup x = some c) (c2 : ∀ n, (n, NameKind.free) ∈ scope.names → ∃ c, cl.lookup n = some c) (cin : ∀ x c, (x, c) ∈ cl → ∃ y, X.env.cells.lookup y = some c) (cno : ∀ x, (x, NameKind.cell) ∈ scope.names → ∀ c, (x, c) ∉ cl)
    (hg : ∀ cl C s H ex, PG (cxC X N' scope cl C s H ex) target g) (ht : ∀ cl C s H ex, PTs (cxC X N' scope cl C s H ex) ifs tc) (he : ∀ cl C s H ex, PE ((cxC X N' scope cl C s H ex).wish (XE cl C s H ex)) elt te)
    (I2 : Inv X pins σ H2 s2) (T : Turn X.prog X.w X.K target J fp it tn) (st2 : tn 0 s2.heap) (f2 : ∀ b ∈ fp, FpOk X pins H2 b) (hb : tBlock J g tc te (stC k fr σ) H2 fin)
    (hR : ∀ (C : Addr) (s' : Shared) (m : Str → Option Value) (ys : List V) (its : List Value) (n : Nat) (H' : Hp), s2.heap.objs.size < C → s'.heap.Ns C m → Vals ys its → ys.length ≤ sizeLine → s'.heap.get? s2.heap.objs.size = some (lstObj its n) → H' s2.heap.objs.size = none → H' C = none → fin ys H' →
      s'.os = s2.os → AllBare s'.gens → Un (frs X.stack) fp H2 H' s2.heap s'.heap → HOk X.prog X.w H' s'.heap → RR (.ref s2.heap.objs.size) C (.ok .next) s')
    (hE : ∀ cl C x s', s2.heap.objs.size < C → XE cl C s2 H2 fp x s' → notedBy (model X.prog X.w) X.A (compEnvC scope cl C X.env) (fun y s'' => RR (.ref s2.heap.objs.size) C (.error y) s'') x s') :
    wpAny (model X.prog X.w) X.A (newList []) (fun acc s₃ => wpAny (model X.prog X.w) X.A (newFunctionEnv scope X.env.globals cl [] X.env.qual none .none (some X.env)) (fun cenv s₄ =>
      codeAny (model X.prog X.w) X.A (.compStart (.ListComp elt [⟨target, iter, ifs, 0⟩] scope pos) 0 (.ref it) acc { cenv with scope := relabel scope X.env }) (RR acc cenv.locals) s₄) E s₃) E s2 := by
  refine wpAny_newObj_type (wpAny_newEnv_comp ?_)
  exact block_in (R0 := RR _ _) hc S c1 c2 cin cno hg ht he I2 T st2 f2 hb (fun C e => by subst e; exact hR _) (fun cl C x s' e => by subst e; exact hE cl _ x s')

/-- behind the block: the list is tracked -/
theorem comp_back {fp : List Addr} {pins : List (Addr × Obj)} {σ : St} {H2 H' : Hp} {s2 s' : Shared} {C : Addr} {ys : List V} {its : List Value} {n : Nat} {h' : Heap} (I2 : Inv X pins σ H2 s2) (f2 : ∀ b ∈ fp, FpOk X pins H2 b) (hC : s2.heap.objs.size < C)
    (vl : Vals ys its) (sz : ys.length ≤ sizeLine) (hD : s'.heap.get? s2.heap.objs.size = some (lstObj its n)) (nD : H' s2.heap.objs.size = none) (nC : H' C = none)
    (os : s'.os = s2.os) (bare : AllBare s'.gens) (un : Un (frs X.stack) fp H2 H' s2.heap s'.heap) (hok : HOk X.prog X.w H' s'.heap) (hs : Heap.SameBut C s'.heap h') :
    Inv X pins σ (upd H' s2.heap.objs.size (.lst ys)) { s' with heap := h' } := by
  have ltC : ∀ b o, s2.heap.get? b = some o → b ≠ C := fun b o e => Nat.ne_of_lt (Nat.lt_trans (Heap.lt_size e) hC)
  have ltD : ∀ b o, s2.heap.get? b = some o → b ≠ s2.heap.objs.size := fun b o e => Nat.ne_of_lt (Heap.lt_size e)
  have tk : ∀ b u, H' b = some u → b ≠ s2.heap.objs.size := fun b u e z => by rw [z, nD] at e; cases e
  have tC : ∀ b u, H' b = some u → b ≠ C := fun b u e z => by rw [z, nC] at e; cases e
  have fD : H2 s2.heap.objs.size = none := I2.hok.fresh (Nat.le_refl _)
  have t2 : ∀ b u, H2 b = some u → b ≠ s2.heap.objs.size := fun b u e z => by rw [z, fD] at e; cases e
  refine I2.call' (s' := { s' with heap := h' }) (ch := fp) os ⟨fun b o e m hb hx => ?_, fun b o e m hb hx => ?_, fun b o e m hx => ?_, fun b o e hx => ?_, fun b xs e => ?_, fun b o u e => ?_, fun b ps e => ?_⟩ (fun b u e => ?_) bare fun b hb => ?_
  · exact (hs.2 b (ltC b o e)).trans (un.keep b o e m hb hx)
  · obtain ⟨sl, q⟩ := un.slot b o e m hb hx
    exact ⟨sl, (hs.2 b (ltC b o e)).trans q⟩
  · rw [upd_ne (ltD b o e)]
    exact un.free b o e m hx
  · obtain ⟨o', q⟩ := un.there b o e hx
    exact ⟨o', (hs.2 b (ltC b o e)).trans q⟩
  · rw [upd_ne (t2 b _ e)]
    exact un.tups b xs e
  · rw [upd_ne (t2 b _ e)]
    exact un.frzs b o u e
  · obtain ⟨mo, q⟩ := un.tbls b ps e
    exact ⟨mo, by rw [upd_ne (t2 b _ e)]; exact q⟩
  · by_cases hb : b = s2.heap.objs.size
    · subst hb
      rw [upd_same] at e
      cases e
      exact ⟨sz, its, n, vl, (hs.2 _ (Nat.ne_of_lt hC)).trans hD⟩
    · rw [upd_ne hb] at e
      exact (hok b u e).stay (fun c v hc q => (hs.2 c (by
        rcases hc with rfl | hc
        · exact tC _ _ e
        · exact tC _ _ hc)).trans q) (fun c r => by rw [upd_ne (tk _ _ r)]; exact r) fun c xs r => by rw [upd_ne (tk _ _ r)]; exact r
  · exact ⟨(f2 b hb).2.2.2.1, (f2 b hb).2.1, (f2 b hb).2.2.2.2.1, (f2 b hb).2.2.2.2.2⟩

noncomputable def tComp (wi : TI) (g : TG) (tc : TT) (te : TE) (k : Nat) (fr : List Nat) : TE := fun σ H Q => wi σ H fun J H1 => tBlock J g tc te (stC k fr σ) H1 fun ys H2 => ∀ D, H1 D = none → H2 D = none → Q (.ref D) (upd H2 D (.lst ys))
theorem pe_comp {elt target iter : Expr} {ifs : List Expr} {scope so : Scope} {pos : Pos} {wi : TI} {g : TG} {tc : TT} {te : TE} {k : Nat} {fr : List Nat} {N N' : List Str} (hc : X.calm = true) (hN : X.N = N) (hso : X.env.scope = so) (S : CompScope N so N' scope k fr)
    (hi : PI X target iter wi) (hg : ∀ cl C s H ex, PG (cxC X N' scope cl C s H ex) target g) (ht : ∀ cl C s H ex, PTs (cxC X N' scope cl C s H ex) ifs tc) (he : ∀ cl C s H ex, PE (cxC X N' scope cl C s H ex) elt te)
    (hs : ∀ x, foldedSetIterable iter X.env x = pure x := by intro _; rfl) : PE X (.ListComp elt [⟨target, iter, ifs, 0⟩] scope pos) (tComp wi g tc te k fr) := by
  subst hN hso
  intro pins s σ H Q I h
  rw [eval_ListComp]
  obtain ⟨cl, hcl, c1, c2, c3⟩ := closureFor_of (env := X.env) (scope := scope) fun n hn => I.ok.has n (S.outer _ hn rfl)
  refine wpAny_comprehension_free (use := none) (cl := cl) rfl hs hcl S.kind S.locs ?_
  refine thn (hi pins s σ H _ I h) fun v s1 h1 => thn h1 fun itv s2 h2 => ?_
  obtain ⟨it, fp, tn, J, H2, rfl, I2, T, st2, f2, hb⟩ := h2
  refine block_run (RR := fun acc C => compPost (model X.prog X.w) X.A X.xe none (EP X pins σ Q) acc C) hc S c1 c2 (fun x c m => ⟨x, (c3 x c m).1⟩) (fun x hx c m => (S.cels _ hx rfl).2 (c3 x c m).2) (XE := fun _ _ _ _ _ _ _ => False) hg ht he I2 T st2 f2 hb ?_ (fun _ _ _ _ _ z => False.elim z)
  intro C s' m ys its n H' hC hn vl sz hD nD nC fin os bare un hok
  exact ⟨m, hn, fun h' hs' => ⟨.ref _, _, comp_back I2 f2 hC vl sz hD nD nC os bare un hok hs', rfl, fin _ (I2.hok.fresh (Nat.le_refl _)) nD⟩⟩
/-- name = [ .. ]: the store comes ahead of the names' going -/
theorem ps_setC {elt target iter : Expr} {ifs : List Expr} {scope so : Scope} {pos spos py : Pos} {wi : TI} {g : TG} {tc : TT} {te : TE} {k : Nat} {fr : List Nat} {N N' : List Str} {y : Str} {i : Nat} (hc : X.calm = true) (hN : X.N.Nodup) (hy : X.N[i]? = some y) (hl : X.env.scope.names.lookup y = some .local)
    (hNN : X.N = N) (hso : X.env.scope = so) (S : CompScope N so N' scope k fr)
    (hi : PI X target iter wi) (hg : ∀ cl C s H ex, PG (cxC X N' scope cl C s H ex) target g) (ht : ∀ cl C s H ex, PTs (cxC X N' scope cl C s H ex) ifs tc) (he : ∀ cl C s H ex, PE (cxC X N' scope cl C s H ex) elt te)
    (hsw : swapsWith (.ListComp elt [⟨target, iter, ifs, 0⟩] scope pos) (some (.Name y py)) spos.line X.env = pure true := by rfl)
    (hs : ∀ x, foldedSetIterable iter X.env x = pure x := by intro _; rfl) : PS X (.Assign [.Name y py] (.ListComp elt [⟨target, iter, ifs, 0⟩] scope pos) spos) (tAsg (tComp wi g tc te k fr) (gName i)) := by
  subst hNN hso
  intro pins s σ H D I h
  rw [exec_Assign_Name_used _ _ _ _ hsw]
  obtain ⟨cl, hcl, c1, c2, c3⟩ := closureFor_of (env := X.env) (scope := scope) fun n hn => I.ok.has n (S.outer _ hn rfl)
  refine wpAny_bind (wpAny_standAt (wpAny_bind ?_))
  show wpAny _ X.A (do let _ ← comprehension (.ListComp elt [⟨target, iter, ifs, 0⟩] scope pos) scope X.env _ (newList []) false (eval iter X.env) (some (assign (.Name y py) X.env))) _ _ s
  refine wpAny_bind (wpAny_mono (wpAny_comprehension_free (use := some (assign (.Name y py) X.env)) (Q := fun _ s' => SP X pins D .next s') (cl := cl) rfl hs hcl S.kind S.locs ?_) (fun _ s' hq => wpAny_pure (wpAny_pure hq)) fun _ _ e => e)
  refine thn (hi pins s σ H _ I h) fun v s1 h1 => thn h1 fun itv s2 h2 => ?_
  obtain ⟨it, fp, tn, J, H2, rfl, I2, T, st2, f2, hb⟩ := h2
  refine block_run (RR := fun acc C => compPost (model X.prog X.w) X.A X.xe (some (assign (.Name y py) X.env)) (fun _ s' => SP X pins D .next s') acc C) hc S c1 c2 (fun x c m => ⟨x, (c3 x c m).1⟩) (fun x hx c m => (S.cels _ hx rfl).2 (c3 x c m).2) (XE := fun _ _ _ _ _ _ _ => False) hg ht he I2 T st2 f2 hb ?_ (fun _ _ _ _ _ z => False.elim z)
  intro C s' m ys its n H' hC hn vl sz hD nD nC fin os bare un hok
  have I3 : Inv X pins σ (upd H' s2.heap.objs.size (.lst ys)) s' := comp_back (h' := s'.heap) I2 f2 hC vl sz hD nD nC os bare un hok (.refl ..)
  refine wpAny_assign_Name (store_ok2 (v := .ref s2.heap.objs.size) I3 hN hy (.inl hl) rfl (fun s4 I4 ch => ?_) (.inr hl))
  have ltL : X.env.locals < s2.heap.objs.size := I2.lt
  obtain ⟨a, hsa, ha⟩ := ch
  have aC : a ≠ C := by
    rcases ha with rfl | ha
    · exact Nat.ne_of_lt (Nat.lt_trans ltL hC)
    · obtain ⟨v, q⟩ := I2.cell _ _ ha
      exact Nat.ne_of_lt (Nat.lt_trans q.lt hC)
  refine ⟨m, hn.sameBut hsa (Ne.symm aC), fun h' hs' => ⟨_, _, ?_, fin _ (I2.hok.fresh (Nat.le_refl _)) nD⟩⟩
  -- the block's names go
  have nC4 : (upd H' s2.heap.objs.size (.lst ys)) C = none := by rw [upd_ne (Nat.ne_of_gt hC)]; exact nC
  exact I4.turned (t' := s4.toks) (it := C) (h' := h') (fun b o hb e => (hs'.2 b hb).trans e) nC4 (Nat.ne_of_gt (Nat.lt_trans ltL hC)) (.inr (Nat.le_trans I2.sz (Nat.le_of_lt hC))) (fun x c e z => by
    obtain ⟨v, q⟩ := I2.cell x c e
    exact absurd (Nat.lt_trans q.lt hC) (by rw [z]; exact Nat.lt_irrefl _)) (fun p hp z => by
    have := Heap.lt_size (I2.pin p hp).1
    rw [z] at this
    exact absurd (Nat.lt_trans this hC) (Nat.lt_irrefl _))
end

/-! ### the forms one uses -/
/-- J walks n items, as long as Ok holds of the heap -/
structure Src (J : It) (Ok : Hp → Prop) (n : Nat) (Item : Nat → V → Hp → Hp → Prop) : Prop where
  go : ∀ i H, i < n → Ok H → J.go i H
  yld : ∀ i H x H3, i < n → Ok H → J.yld i H x H3 → Item i x H H3
  stop : ∀ H, Ok H → J.stop n H
theorem src_list {K : PySem.W.Frag} {a : Addr} {xs : List V} {Ok : Hp → Prop} (h : ∀ H, Ok H → SqL K H a xs) : Src (Itl K a) Ok xs.length (fun i x H H3 => H3 = H ∧ xs[i]? = some x) where
  go := fun i H hi ok => ⟨xs, xs[i], h H ok, by simp [hi]⟩
  yld := fun i H x H3 hi ok ⟨e, y⟩ => ⟨e, y xs (h H ok)⟩
  stop := fun H ok => ⟨xs, h H ok, Nat.le_refl _⟩
theorem src_range {lo : Int} {n : Nat} {Ok : Hp → Prop} : Src (Itr lo n) Ok n (fun i x H H3 => H3 = H ∧ x = .int (lo + i)) where
  go := fun _ _ hi _ => hi
  yld := fun _ _ _ _ _ _ y => y
  stop := fun _ _ => Nat.le_refl _
theorem block_src {J : It} {g : TG} {tc : TT} {te : TE} {σ0 : St} {H1 : Hp} {fin : List V → Hp → Prop} {n : Nat} {Item : Nat → V → Hp → Hp → Prop} (S : Src J (Same H1) n Item) (Own : St → Prop) (h0 : Own σ0) (P : Nat → List V → Hp → Prop) (p0 : P 0 [] H1) (hz : n ≤ sizeLine)
    (hs : ∀ i x σ H ys H3 (Q : St → V → Hp → Prop) (N : St → Hp → Prop), i < n → Same H1 H → P i ys H → ys.length ≤ i → Own σ → Item i x H H3 →
      (∀ σ3 y H6, Own σ3 → Same H1 H6 → P (i + 1) (ys ++ [y]) H6 → Q σ3 y H6) → (∀ σ3 H5, Own σ3 → Same H1 H5 → P (i + 1) ys H5 → N σ3 H5) →
      g x σ H3 fun σ3 H4 => tc σ3 H4 fun b H5 => if b = true then te σ3 H5 fun y H6 => Q σ3 y H6 else N σ3 H5)
    (hfin : ∀ ys H, Same H1 H → P n ys H → ys.length ≤ n → fin ys H) : tBlock J g tc te σ0 H1 fin := by
  refine ⟨fun i m ys σ H => m = n - i ∧ i ≤ n ∧ ys.length ≤ i ∧ Own σ ∧ Same H1 H ∧ P i ys H, ⟨n, by simp, Nat.zero_le _, Nat.le_refl _, h0, Same.refl _, p0⟩, ?_⟩
  rintro i m ys σ H ⟨rfl, hi, hl, ow, sm, p⟩
  by_cases hlt : i < n
  · refine .inr ⟨S.go i H hlt sm, fun x H3 y => hs i x σ H ys H3 (fun σ3 y H6 => ys.length < sizeLine ∧ ∃ m', m' < n - i ∧ m' = n - (i + 1) ∧ i + 1 ≤ n ∧ (ys ++ [y]).length ≤ i + 1 ∧ Own σ3 ∧ Same H1 H6 ∧ P (i + 1) (ys ++ [y]) H6)
      (fun σ3 H5 => ∃ m', m' < n - i ∧ m' = n - (i + 1) ∧ i + 1 ≤ n ∧ ys.length ≤ i + 1 ∧ Own σ3 ∧ Same H1 H5 ∧ P (i + 1) ys H5) hlt sm p hl ow (S.yld i H x H3 hlt sm y) (fun σ3 y H6 o s6 q => ?_) (fun σ3 H5 o s5 q => ?_)⟩
    · exact ⟨by omega, n - (i + 1), by omega, rfl, hlt, by rw [List.length_append, List.length_singleton]; omega, o, s6, q⟩
    · exact ⟨n - (i + 1), by omega, rfl, hlt, by omega, o, s5, q⟩
  · have e : i = n := by omega
    subst e
    exact .inl ⟨S.stop H sm, hfin ys H sm p hl⟩
/-- a plain map, one name: each item by itself -/
theorem comp_map {J : It} {te : TE} {tl : St} {H1 : Hp} {fin : List V → Hp → Prop} {n : Nat} {Item : Nat → V → Hp → Hp → Prop} (S : Src J (Same H1) n Item) (sub : ∀ i x H H3, Item i x H H3 → Same H H3) (hz : n ≤ sizeLine)
    (R : Nat → V → Hp → Prop) (mono : ∀ i y H H', Same H H' → R i y H → R i y H')
    (hs : ∀ i x w H H3 (Q : VK), i < n → Same H1 H → Item i x H H3 → (∀ y H6, Same H3 H6 → R i y H6 → Q y H6) → te ((w :: tl).set 0 (some x)) H3 Q)
    (hfin : ∀ ys H, Same H1 H → ys.length = n → (∀ i y, ys[i]? = some y → R i y H) → fin ys H) : tBlock J (gName 0) tYes te (none :: tl) H1 fin := by
  refine ⟨fun i m ys σ H => m = n - i ∧ i ≤ n ∧ ys.length = i ∧ (∃ w, σ = w :: tl) ∧ Same H1 H ∧ ∀ j y, ys[j]? = some y → R j y H, ⟨n, by simp, Nat.zero_le _, rfl, ⟨_, rfl⟩, Same.refl _, fun j y e => by simp at e⟩, ?_⟩
  rintro i m ys σ H ⟨rfl, hi, hl, ⟨w, rfl⟩, sm, p⟩
  by_cases hlt : i < n
  · refine .inr ⟨S.go i H hlt sm, fun x H3 y => ?_⟩
    have it := S.yld i H x H3 hlt sm y
    have s3 := sub i x H H3 it
    unfold gName tYes
    refine iteT ?_
    refine hs i x w H H3 _ hlt sm it fun y H6 s6 r => ⟨by omega, n - (i + 1), by omega, rfl, hlt, by rw [List.length_append, List.length_singleton]; omega, ⟨_, rfl⟩, sm.trans (s3.trans s6), fun j z e => ?_⟩
    by_cases hj : j < i
    · rw [List.getElem?_append_left (by omega)] at e
      exact mono j z _ _ (s3.trans s6) (p j z e)
    · rw [List.getElem?_append_right (by omega)] at e
      have e2 : j - ys.length = 0 := by
        by_cases q : j - ys.length = 0
        · exact q
        · rw [List.getElem?_eq_none (by simp; omega)] at e; cases e
      rw [e2] at e
      simp at e
      subst e
      have : j = i := by omega
      subst this
      exact r
  · have e : i = n := by omega
    subst e
    exact .inl ⟨S.stop H sm, hfin ys H sm hl p⟩
/-- a loop's body over what J walks -/
noncomputable def tForB (J : It) (g : TG) (tb : TS) (D : Ends) (σ : St) (H : Hp) : Prop :=
  ∃ W : Nat → Nat → St → Hp → Prop, (∃ m, W 0 m σ H) ∧ ∀ i m σ H, W i m σ H →
    (J.stop i H ∧ D.nx σ H) ∨ (J.go i H ∧ ∃ N : St → Hp → Prop, (∀ σ' H', N σ' H' → ∃ m', m' < m ∧ W (i + 1) m' σ' H') ∧ ∀ x H', J.yld i H x H' → g x σ H' fun σ2 H2 => tb { D with nx := N, ct := N, bk := D.nx } σ2 H2)
theorem tFor_eq {wi : TI} {g : TG} {tb : TS} {D : Ends} {σ : St} {H : Hp} : tFor wi g tb D σ H = wi σ H fun J H1 => tForB J g tb D σ H1 := rfl
theorem for_src {J : It} {g : TG} {tb : TS} {D : Ends} {σ : St} {H : Hp} {n : Nat} {Item : Nat → V → Hp → Hp → Prop} {Ok : Hp → Prop} (S : Src J Ok n Item) (Pv : Nat → St → Hp → Prop) (h0 : Pv 0 σ H) (hok : ∀ i σ H, i ≤ n → Pv i σ H → Ok H)
    (hs : ∀ i x σ H H3, i < n → Pv i σ H → Item i x H H3 → g x σ H3 fun σ2 H2 => tb { D with nx := Pv (i + 1), ct := Pv (i + 1), bk := D.nx } σ2 H2) (hd : ∀ σ H, Pv n σ H → D.nx σ H) : tForB J g tb D σ H := by
  refine ⟨fun i m σ H => m = n - i ∧ i ≤ n ∧ Pv i σ H, ⟨n, by simp, Nat.zero_le _, h0⟩, ?_⟩
  rintro i m σ H ⟨rfl, hi, p⟩
  by_cases hlt : i < n
  · exact .inr ⟨S.go i H hlt (hok i σ H hi p), Pv (i + 1), fun σ' H' p' => ⟨n - (i + 1), by omega, rfl, hlt, p'⟩, fun x H' y => hs i x σ H H' hlt p (S.yld i H x H' hlt (hok i σ H hi p) y)⟩
  · have e : i = n := by omega
    subst e
    exact .inl ⟨S.stop H (hok i σ H hi p), hd σ H p⟩
/-- a plain map over pairs, two names -/
theorem comp_map2 {K : PySem.W.Frag} {J : It} {te : TE} {tl : St} {H1 : Hp} {fin : List V → Hp → Prop} {n : Nat} {Item : Nat → V → Hp → Hp → Prop} (S : Src J (Same H1) n Item) (It2 : Nat → V → V → Hp → Prop)
    (tp : ∀ i x H H3, i < n → Same H1 H → Item i x H H3 → Same H H3 ∧ ∃ p a b, x = .ref p ∧ SqT K H3 p [a, b] ∧ It2 i a b H3) (hz : n ≤ sizeLine)
    (R : Nat → V → Hp → Prop) (mono : ∀ i y H H', Same H H' → R i y H → R i y H')
    (hs : ∀ i a b H3 (Q : VK), i < n → Same H1 H3 → It2 i a b H3 → (∀ y H6, Same H3 H6 → R i y H6 → Q y H6) → te (some a :: some b :: tl) H3 Q)
    (hfin : ∀ ys H, Same H1 H → ys.length = n → (∀ (i : Nat) y, ys[i]? = some y → R i y H) → fin ys H) : tBlock J (gTup K 2 (gCons (gName 0) (gCons (gName 1) gNil))) tYes te (none :: none :: tl) H1 fin := by
  refine ⟨fun i m ys σ H => m = n - i ∧ i ≤ n ∧ ys.length = i ∧ (∃ w w', σ = w :: w' :: tl) ∧ Same H1 H ∧ ∀ (j : Nat) y, ys[j]? = some y → R j y H, ⟨n, by simp, Nat.zero_le _, rfl, ⟨_, _, rfl⟩, Same.refl _, fun j y e => by simp at e⟩, ?_⟩
  rintro i m ys σ H ⟨rfl, hi, hl, ⟨w, w', rfl⟩, sm, p⟩
  by_cases hlt : i < n
  · refine .inr ⟨S.go i H hlt sm, fun x H3 y => ?_⟩
    obtain ⟨s3, q, a, b, rfl, sq, it⟩ := tp i x H H3 hlt sm (S.yld i H x H3 hlt sm y)
    refine ⟨q, _, rfl, sq, rfl, _, _, rfl, _, _, rfl, rfl, ?_⟩
    unfold tYes
    refine iteT ?_
    refine hs i a b H3 _ hlt (sm.trans s3) it fun y H6 s6 r => ⟨by omega, n - (i + 1), by omega, rfl, hlt, by rw [List.length_append, List.length_singleton]; omega, ⟨_, _, rfl⟩, sm.trans (s3.trans s6), fun j z e => ?_⟩
    by_cases hj : j < i
    · rw [List.getElem?_append_left (by omega)] at e
      exact mono j z _ _ (s3.trans s6) (p j z e)
    · rw [List.getElem?_append_right (by omega)] at e
      have e2 : j - ys.length = 0 := by
        by_cases q : j - ys.length = 0
        · exact q
        · rw [List.getElem?_eq_none (by simp; omega)] at e; cases e
      rw [e2] at e
      simp at e
      subst e
      have : j = i := by omega
      subst this
      exact r
  · have e : i = n := by omega
    subst e
    exact .inl ⟨S.stop H sm, hfin ys H sm hl p⟩
end L2
/-! WHAT ELSE IS WALKED: zip, enumerate; an untracked object is tracked; several records turn. -/
namespace L2
open PySem PySem.Spec PyProof.Rows

section
variable {X : Cx} {pins : List (Addr × Obj)} {σ : St} {H : Hp} {s : Shared}
/-- records of ours at ch have turned -/
theorem Inv.moved {h' : Heap} {t' : Nat} {ch : List Addr} (I : Inv X pins σ H s) (f : ∀ b ∈ ch, FpOk X pins H b) (k : ∀ b o, b ∉ ch → s.heap.get? b = some o → h'.get? b = some o) : Inv X pins σ H { s with heap := h', toks := t' } := by
  have nch : ∀ b u, H b = some u → b ∉ ch := fun b u e z => by rw [(f b z).1] at e; cases e
  refine I.step (g' := s.gens) (d' := s.drawn) (ch := ch) (fun b hb => ⟨(f b hb).2.2.2.1, (f b hb).2.1, (f b hb).2.2.2.2.1, (f b hb).2.2.2.2.2⟩) (fun b o _ _ hc e _ => k b o hc e) (fun b o _ _ hc e _ => ⟨o.slots, k b o hc e⟩) (fun _ _ _ _ n => n)
    (fun b o hc e => ⟨o, k b o hc e⟩) (fun _ _ e => e) (fun _ _ _ e => e) (fun b ps e => ⟨#[], by rw [e]; simp⟩) (fun m hm => ?_) (fun b u e => ?_) I.bare
  · obtain ⟨o, es, ep, ho, r⟩ := hm
    exact ⟨o, es, ep, k _ o (fun z => (f _ z).2.1 rfl) ho, r⟩
  · refine (I.hok b u e).stay (fun c v hc q => k c v ?_ q) (fun _ q => q) fun _ _ q => q
    rcases hc with z | z
    · rw [z]; exact nch b u e
    · exact nch c _ z
/-- an object that nobody tracks is tracked from now on -/
theorem Inv.take {ad : Addr} {o : HO} (I : Inv X pins σ H s) (f : FpOk X pins H ad) (new : X.s₀.heap.objs.size ≤ ad) (ok : ObjOk X.prog X.w (upd H ad o) s.heap ad o) : Inv X pins σ (upd H ad o) s := by
  obtain ⟨hn, nL, nf, _, nc, np⟩ := f
  have tk : ∀ b u, H b = some u → b ≠ ad := fun b u e z => by rw [z, hn] at e; cases e
  refine ⟨I.ok, I.os, I.bare, ⟨I.base.keep, I.base.slot, fun b ob e m hx => ?_, I.base.there, fun b xs e => ?_, fun b ob u e => ?_, fun b ps e => ?_⟩, I.loc, I.cell, ?_, fun x c e => ?_, fun p hp => ?_, fun b u e => ?_, I.len⟩
  · rw [upd_ne (Nat.ne_of_lt (Nat.lt_of_lt_of_le (Heap.lt_size e) new))]
    exact I.base.free b ob e m hx
  · have q := I.base.tups b xs e
    rw [upd_ne (tk b _ q)]; exact q
  · have q := I.base.frzs b ob u e
    rw [upd_ne (tk b _ q)]; exact q
  · obtain ⟨mo, q⟩ := I.base.tbls b ps e
    exact ⟨mo, by rw [upd_ne (tk b _ q)]; exact q⟩
  · rw [upd_ne (Ne.symm nL)]; exact I.free
  · rw [upd_ne (nc x c e)]; exact I.freeC x c e
  · obtain ⟨a, b, c⟩ := I.pin p hp
    exact ⟨a, by rw [upd_ne (np p hp)]; exact b, c⟩
  · by_cases hb : b = ad
    · subst hb
      rw [upd_same] at e
      cases e
      exact ok
    · rw [upd_ne hb] at e
      exact (I.hok b u e).stay (fun _ _ _ q => q) (fun c r => by rw [upd_ne (tk _ _ r)]; exact r) fun c xs r => by rw [upd_ne (tk _ _ r)]; exact r
end

/-! ### zip of two lists, in a loop whose target is a tuple -/
noncomputable def Itz (K : PySem.W.Frag) (a b : Addr) : It :=
  ⟨fun i H => ∃ xs ys x y, SqL K H a xs ∧ SqL K H b ys ∧ xs[i]? = some x ∧ ys[i]? = some y,
   fun i H v H' => ∃ p, H p = none ∧ v = .ref p ∧ ∃ x y, (∀ xs, SqL K H a xs → xs[i]? = some x) ∧ (∀ ys, SqL K H b ys → ys[i]? = some y) ∧ H' = upd H p (.tup [x, y]),
   fun i H => ∃ xs ys, SqL K H a xs ∧ SqL K H b ys ∧ (i = min xs.length ys.length)⟩
/-! ### enumerate of a list -/
noncomputable def Ite (K : PySem.W.Frag) (a : Addr) : It :=
  ⟨fun i H => ∃ xs x, SqL K H a xs ∧ xs[i]? = some x,
   fun i H v H' => ∃ p, H p = none ∧ v = .ref p ∧ ∃ x, (∀ xs, SqL K H a xs → xs[i]? = some x) ∧ H' = upd H p (.tup [.int i, x]),
   fun i H => ∃ xs, SqL K H a xs ∧ xs.length = i⟩
theorem turn_enum {P : Program} {w : World} {K : PySem.W.Frag} {elts : List Expr} {k : Nat} {pos : Pos} (e it a : Addr) (hei : e ≠ it) (hle : a ≠ e) (hli : a ≠ it) :
    Turn P w K (.Tuple elts k pos) (Ite K a) [e, it] e (fun i h => (∃ old, IsEnum h e it i old) ∧ h.IsListIter it a i) where
  mem := by simp
  obj := fun i h st c hc => by
    obtain ⟨⟨old, he⟩, ⟨o1, e1, _, d1⟩⟩ := st
    simp only [List.mem_cons, List.not_mem_nil, or_false] at hc
    rcases hc with rfl | rfl
    · exact ⟨_, he, fun v q => by cases q⟩
    · exact ⟨_, e1, fun v q => by rw [d1] at q; cases q⟩
  keep := fun i h h' st kp => by
    obtain ⟨⟨old, he⟩, h1⟩ := st
    exact ⟨⟨old, kp e (by simp) _ he⟩, h1.at fun o q => kp it (by simp) o q⟩
  item := by
    intro X hP hw hK hc i pins s σ H E I hf st hg
    subst hP hw hK
    obtain ⟨xs, x, hq1, hx⟩ := hg
    obtain ⟨its1, r1, p1, z1⟩ := I.list hq1
    obtain ⟨u, eu, ru⟩ := r1.get hx
    obtain ⟨he, h1⟩ := st
    have W := WalksT.enumerate (prog := X.prog) (w := X.w) (I.ok.hd hc) e it a hei hle hli its1.toArray
    have li : i < its1.toArray.size := by
      have a1 := (List.getElem?_eq_some_iff.mp eu).1
      simp only [List.size_toArray]
      omega
    refine W.item i s _ _ li ⟨he, h1, p1.isList⟩ fun T vals h' tk hpt hT hI hm kk => ?_
    have I1 : Inv X pins σ H { s with heap := h', toks := tk } := I.moved (ch := [e, it]) hf kk
    have fT : FpOk X pins H T := I.fpOk hT (I.hok.fresh hT)
    refine ⟨_, rfl, W.go elts k pos i T _ _ _ hm fun h2' st2 kk2 => ?_⟩
    have I2 : Inv X pins σ H { s with heap := h2', toks := tk } := I1.moved (s := { s with heap := h', toks := tk }) (t' := tk) (ch := [e, it]) hf kk2
    obtain ⟨t, x', ex, rfl⟩ := hpt
    have ex' : its1[i]? = some x' := by simpa using ex
    rw [eu] at ex'; cases ex'
    have apT := W.apart _ _ _ hm
    obtain ⟨oT, eT, cT, nT, dT⟩ := hI
    have hI2 : IsTup h2' T #[.int i t, u] := ⟨oT, kk2 _ _ apT eT, cT, nT, dT⟩
    have I3 : Inv X pins σ (upd H T (.tup [.int i, x])) { s with heap := h2', toks := tk } :=
      I2.take fT (Nat.le_trans I.sz hT) ⟨by show 2 ≤ sizeLine; decide, [.int i t, u], .cons ⟨t, rfl⟩ (.cons ru .nil), hI2⟩
    obtain ⟨b1, b2, _⟩ := st2
    refine ⟨.ref T, _, I3, rfl, ⟨T, fT.1, rfl, x, fun xs' q => ?_, rfl⟩, ⟨b1, b2⟩, fun c hc => ?_⟩
    · rw [I.list_inj q hq1]; exact hx
    · rw [upd_ne (fun q => ?_)]
      · exact (hf c hc).1
      · subst q
        obtain ⟨o, e, _⟩ : ∃ o, s.heap.get? c = some o ∧ True := by
          simp only [List.mem_cons, List.not_mem_nil, or_false] at hc
          obtain ⟨old, he⟩ := he
          obtain ⟨o1, e1, _⟩ := h1
          rcases hc with rfl | rfl
          · exact ⟨_, he, trivial⟩
          · exact ⟨_, e1, trivial⟩
        exact absurd (Heap.lt_size e) (Nat.not_lt.mpr hT)
  done := by
    intro X hP hw hK hc i pins s σ H E I hf st hg
    subst hP hw hK
    obtain ⟨xs, hq1, hi⟩ := hg
    obtain ⟨its1, r1, p1, z1⟩ := I.list hq1
    obtain ⟨he, h1⟩ := st
    have W := WalksT.enumerate (prog := X.prog) (w := X.w) (I.ok.hd hc) e it a hei hle hli its1.toArray
    have l1 := r1.length
    have e : i = its1.toArray.size := by simp only [List.size_toArray]; omega
    subst e
    exact W.done s _ _ ⟨he, h1, p1.isList⟩ fun h' tk kk => ⟨rfl, I.moved (ch := [_, it]) hf kk⟩
  self := fun _ _ _ _ _ st h => by
    obtain ⟨⟨old, he⟩, _⟩ := st
    exact wpAny_pyIter_enum he h

section
variable {X : Cx} {elts : List Expr} {kk : Nat} {tpos : Pos}
noncomputable def iZip (K : PySem.W.Frag) (ta : TA) : TI := fun σ H R => ta σ H fun vs H1 => ∃ a b, vs = [.ref a, .ref b] ∧ (∃ xs, SqL K H1 a xs) ∧ (∃ ys, SqL K H1 b ys) ∧ R (Itz K a b) H1
noncomputable def iEnum (K : PySem.W.Frag) (ta : TA) : TI := fun σ H R => ta σ H fun vs H1 => ∃ a, vs = [.ref a] ∧ (∃ xs, SqL K H1 a xs) ∧ R (Ite K a) H1
theorem pi_enumerate {a : Expr} {ta : TA} {p pos : Pos} (hg : Gl X "enumerate") (hm : X.mg "enumerate" = none) (ha : PA X [a] ta) (hs : starEach [a] X.env = [(false, eval a X.env)] := by rfl) :
    PI X (.Tuple elts kk tpos) (.Call (.Name "enumerate" p) [a] [] pos) (iEnum X.K ta) := by
  intro pins s σ H R I h
  refine Call_ (ld_blt I hg hm rfl (PyProof.Rows.callWith_type1 (thn (ha pos pins s σ H _ I h) fun us s1 ⟨vs, H1, I1, r1, q1⟩ => ?_) hs rfl))
  obtain ⟨a, e, ⟨xs, q1⟩, q⟩ := q1
  subst e
  obtain ⟨u, rfl, ra⟩ := vals1 r1
  cases ra
  obtain ⟨its1, v1, p1, z1⟩ := I1.list q1
  refine call_enumerate_list p1.isList fun h' b1 b2 b3 kp => ?_
  refine wpAny_pyIter_enum b1 ?_
  have I2 : Inv X pins σ H1 { s1 with heap := h' } := I1.kept (t' := s1.toks) kp
  have la : a < s1.heap.objs.size := by obtain ⟨o, e, _⟩ := p1.isList; exact Heap.lt_size e
  refine ⟨s1.heap.objs.size + 1, [s1.heap.objs.size + 1, s1.heap.objs.size], _, _, H1, rfl, I2,
    turn_enum (s1.heap.objs.size + 1) s1.heap.objs.size a (Nat.ne_of_gt (Nat.lt_succ_self _)) (Nat.ne_of_lt (Nat.lt_succ_of_lt la)) (Nat.ne_of_lt la), ⟨⟨_, b1⟩, b2⟩, fun c hc => ?_, q⟩
  have hge : s1.heap.objs.size ≤ c := by
    simp only [List.mem_cons, List.not_mem_nil, or_false] at hc
    rcases hc with rfl | rfl <;> omega
  exact I1.fpOk hge (I1.hok.fresh hge)
end
theorem src_enum {K : PySem.W.Frag} {a : Addr} {xs : List V} {Ok : Hp → Prop} (h1 : ∀ H, Ok H → SqL K H a xs) :
    Src (Ite K a) Ok xs.length (fun i v H H3 => ∃ p x, H p = none ∧ v = .ref p ∧ xs[i]? = some x ∧ H3 = upd H p (.tup [.int i, x])) where
  go := fun i H hi ok => ⟨xs, xs[i], h1 H ok, by simp [hi]⟩
  yld := fun i H x H3 hi ok ⟨p, n, e, u, e1, e3⟩ => ⟨p, u, n, e, e1 xs (h1 H ok), e3⟩
  stop := fun H ok => ⟨xs, h1 H ok, rfl⟩
end L2
/-! DATA: what a value stands for, through tuples and lists; == and != of things that stand for one datum. -/
namespace L2
open PySem PySem.Spec PyProof.Rows

inductive Dat where
  | non | bl (b : Bool) | int (i : Int) | str (x : Str) | tup (l : List Dat) | lst (l : List Dat)

mutual
noncomputable def Rep (H : Hp) : Dat → V → Prop
  | .non, v => v = .non
  | .bl b, v => v = .bl b
  | .int i, v => v = .int i
  | .str x, v => v = .str x
  | .tup ds, v => ∃ p vs, v = .ref p ∧ H p = some (.tup vs) ∧ RepL H ds vs
  | .lst ds, v => ∃ p vs, v = .ref p ∧ H p = some (.lst vs) ∧ RepL H ds vs
noncomputable def RepL (H : Hp) : List Dat → List V → Prop
  | [], vs => vs = []
  | d :: ds, vs => ∃ v r, vs = v :: r ∧ Rep H d v ∧ RepL H ds r
end
mutual
theorem Rep.mono {H H' : Hp} (s : Same H H') : ∀ {d : Dat} {v : V}, Rep H d v → Rep H' d v
  | .non, _, h => by rw [Rep] at *; exact h
  | .bl _, _, h => by rw [Rep] at *; exact h
  | .int _, _, h => by rw [Rep] at *; exact h
  | .str _, _, h => by rw [Rep] at *; exact h
  | .tup _, _, h => by
    rw [Rep] at *
    obtain ⟨p, vs, e, hp, r⟩ := h
    exact ⟨p, vs, e, s _ _ hp, RepL.mono s r⟩
  | .lst _, _, h => by
    rw [Rep] at *
    obtain ⟨p, vs, e, hp, r⟩ := h
    exact ⟨p, vs, e, s _ _ hp, RepL.mono s r⟩
theorem RepL.mono {H H' : Hp} (s : Same H H') : ∀ {ds : List Dat} {vs : List V}, RepL H ds vs → RepL H' ds vs
  | [], _, h => by rw [RepL] at *; exact h
  | _ :: _, _, h => by
    rw [RepL] at *
    obtain ⟨v, r, e, h1, h2⟩ := h
    exact ⟨v, r, e, Rep.mono s h1, RepL.mono s h2⟩
end
theorem RepL.length {H : Hp} : ∀ {ds : List Dat} {vs : List V}, RepL H ds vs → ds.length = vs.length
  | [], _, h => by rw [RepL] at h; subst h; rfl
  | _ :: _, _, h => by
    rw [RepL] at h
    obtain ⟨v, r, rfl, _, h2⟩ := h
    simp [h2.length]
theorem RepL.get {H : Hp} : ∀ {ds : List Dat} {vs : List V} {i : Nat} {v : V}, RepL H ds vs → vs[i]? = some v → ∃ d, ds[i]? = some d ∧ Rep H d v
  | [], _, i, v, h, e => by rw [RepL] at h; subst h; simp at e
  | d :: ds, _, i, v, h, e => by
    rw [RepL] at h
    obtain ⟨v', r, rfl, h1, h2⟩ := h
    cases i with
    | zero => simp at e; subst e; exact ⟨d, rfl, h1⟩
    | succ i => simp at e; obtain ⟨d', e', r'⟩ := h2.get e; exact ⟨d', by simpa using e', r'⟩
theorem RepL.at {H : Hp} : ∀ {ds : List Dat} {vs : List V} {i : Nat} {d : Dat}, RepL H ds vs → ds[i]? = some d → ∃ v, vs[i]? = some v ∧ Rep H d v
  | [], _, i, v, h, e => by simp at e
  | d :: ds, _, i, d', h, e => by
    rw [RepL] at h
    obtain ⟨v', r, rfl, h1, h2⟩ := h
    cases i with
    | zero => simp at e; subst e; exact ⟨v', rfl, h1⟩
    | succ i => simp at e; obtain ⟨v, e', r'⟩ := h2.at e; exact ⟨v, by simpa using e', r'⟩
theorem RepL.of {H : Hp} : ∀ {ds : List Dat} {vs : List V}, ds.length = vs.length → (∀ (i : Nat) d v, ds[i]? = some d → vs[i]? = some v → Rep H d v) → RepL H ds vs
  | [], [], _, _ => by rw [RepL]
  | [], _ :: _, h, _ => by simp at h
  | _ :: _, [], h, _ => by simp at h
  | d :: ds, v :: vs, h, k => by
    rw [RepL]
    exact ⟨v, vs, rfl, k 0 d v rfl rfl, RepL.of (by simpa using h) fun i d' v' e1 e2 => k (i + 1) d' v' (by simpa using e1) (by simpa using e2)⟩
theorem RepL.append {H : Hp} : ∀ {as bs : List Dat} {us vs : List V}, RepL H as us → RepL H bs vs → RepL H (as ++ bs) (us ++ vs)
  | [], _, _, _, h, k => by rw [RepL] at h; subst h; exact k
  | _ :: _, _, _, _, h, k => by
    rw [RepL] at h
    obtain ⟨v, r, rfl, h1, h2⟩ := h
    show RepL H (_ :: (_ ++ _)) (_ :: (_ ++ _))
    rw [RepL]
    exact ⟨_, _, rfl, h1, h2.append k⟩
theorem RepL.ints {H : Hp} : ∀ (ns : List Int), RepL H (ns.map Dat.int) (ns.map V.int)
  | [] => by simp only [List.map_nil]; rw [RepL]
  | n :: ns => by
    simp only [List.map_cons]
    rw [RepL]
    exact ⟨_, _, rfl, by rw [Rep], RepL.ints ns⟩
/-- two things of one datum are equal -/
noncomputable def depth : Dat → Nat
  | .tup l => 1 + dL l
  | .lst l => 1 + dL l
  | _ => 0
where dL : List Dat → Nat
  | [] => 0
  | d :: ds => max (depth d) (dL ds)
theorem depth_mem {d : Dat} : ∀ {ds : List Dat}, d ∈ ds → depth d ≤ depth.dL ds
  | e :: ds, h => by
    rw [depth.dL]
    rcases List.mem_cons.mp h with rfl | h
    · exact Nat.le_max_left _ _
    · exact Nat.le_trans (depth_mem h) (Nat.le_max_right _ _)
section
variable {X : Cx} {pins : List (Addr × Obj)} {σ : St} {H : Hp} {s : Shared}
theorem all_true (n : Nat) : ((List.range n).all fun _ => true) = true := by simp
theorem eqAt_D (I : Inv X pins σ H s) : ∀ (n : Nat) (d : Dat), depth d ≤ n → ∀ (v v' : V) (u u' : Value) (A : Around), Rep H d v → Rep H d v' → RelV v u → RelV v' u' → A.units + n < cLine → SeqAt.EqAt A s u u' true := by
  intro n
  induction n with
  | zero =>
    intro d hd v v' u u' A h h' r r' hu
    cases d with
    | non => rw [Rep] at h h'; subst h h'; cases r; cases r'; exact SeqAt.EqAt.same _
    | bl b => rw [Rep] at h h'; subst h h'; cases r; cases r'; exact SeqAt.EqAt.same _
    | int i => rw [Rep] at h h'; subst h h'; obtain ⟨t, rfl⟩ := r; obtain ⟨t', rfl⟩ := r'; have := SeqAt.EqAt.int_int (A := A) (s := s) i t i t'; simpa using this
    | str x => rw [Rep] at h h'; subst h h'; obtain ⟨t, rfl⟩ := r; obtain ⟨t', rfl⟩ := r'; have := SeqAt.EqAt.str_str (A := A) (s := s) x t x t'; simpa using this
    | tup l => rw [depth] at hd; omega
    | lst l => rw [depth] at hd; omega
  | succ n ih =>
    intro d hd v v' u u' A h h' r r' hu
    cases d with
    | non => rw [Rep] at h h'; subst h h'; cases r; cases r'; exact SeqAt.EqAt.same _
    | bl b => rw [Rep] at h h'; subst h h'; cases r; cases r'; exact SeqAt.EqAt.same _
    | int i => rw [Rep] at h h'; subst h h'; obtain ⟨t, rfl⟩ := r; obtain ⟨t', rfl⟩ := r'; have := SeqAt.EqAt.int_int (A := A) (s := s) i t i t'; simpa using this
    | str x => rw [Rep] at h h'; subst h h'; obtain ⟨t, rfl⟩ := r; obtain ⟨t', rfl⟩ := r'; have := SeqAt.EqAt.str_str (A := A) (s := s) x t x t'; simpa using this
    | tup l =>
      rw [Rep] at h h'
      obtain ⟨p, vs, rfl, hp, rl⟩ := h
      obtain ⟨p', vs', rfl, hp', rl'⟩ := h'
      cases r
      cases r'
      rw [depth] at hd
      by_cases hpp : p = p'
      · subst hpp; exact SeqAt.EqAt.same _
      obtain ⟨its, rv, pl, hz⟩ := I.tuple (SqT.of hp)
      obtain ⟨its', rv', pl', hz'⟩ := I.tuple (SqT.of hp')
      have e1 := rl.length
      have e2 := rl'.length
      have l1 := rv.length
      have l2 := rv'.length
      have R := SeqAt.RcAt.tuples (A := A) (e := fun _ => true) pl pl' (by omega) (fun j h1 h2 => ?_)
      · simp only [List.size_toArray, all_true, Bool.true_and] at R
        rw [show (its.length == its'.length) = true by simp; omega] at R
        exact .of_refs hpp R
      · rw [List.size_toArray] at h1 h2
        obtain ⟨d, ed⟩ : ∃ d, l[j]? = some d := ⟨l[j]'(by omega), by simp⟩
        obtain ⟨v1, f1, q1⟩ := rl.at ed
        obtain ⟨v2, f2, q2⟩ := rl'.at ed
        obtain ⟨u1, g1, w1⟩ := rv.get f1
        obtain ⟨u2, g2, w2⟩ := rv'.get f2
        have a1 : its.toArray[j] = u1 := by simpa [List.getElem?_eq_getElem h1] using g1
        have a2 : its'.toArray[j] = u2 := by simpa [List.getElem?_eq_getElem h2] using g2
        rw [a1, a2]
        have := depth_mem (List.mem_of_getElem? ed)
        exact ih d (by omega) v1 v2 u1 u2 A.in1 q1 q2 w1 w2 (by show A.units + 1 + n < cLine; omega)
    | lst l =>
      rw [Rep] at h h'
      obtain ⟨p, vs, rfl, hp, rl⟩ := h
      obtain ⟨p', vs', rfl, hp', rl'⟩ := h'
      cases r
      cases r'
      rw [depth] at hd
      by_cases hpp : p = p'
      · subst hpp; exact SeqAt.EqAt.same _
      obtain ⟨its, rv, pl, hz⟩ := I.list (SqL.of hp)
      obtain ⟨its', rv', pl', hz'⟩ := I.list (SqL.of hp')
      have e1 := rl.length
      have e2 := rl'.length
      have l1 := rv.length
      have l2 := rv'.length
      have R := SeqAt.RcAt.lists (A := A) (e := fun _ => true) pl.isList pl'.isList (by simp only [List.size_toArray]; omega) (by omega) (fun j h1 h2 => ?_)
      · rw [all_true] at R
        exact .of_refs hpp R
      · rw [List.size_toArray] at h1 h2
        obtain ⟨d, ed⟩ : ∃ d, l[j]? = some d := ⟨l[j]'(by omega), by simp⟩
        obtain ⟨v1, f1, q1⟩ := rl.at ed
        obtain ⟨v2, f2, q2⟩ := rl'.at ed
        obtain ⟨u1, g1, w1⟩ := rv.get f1
        obtain ⟨u2, g2, w2⟩ := rv'.get f2
        have a1 : its.toArray[j] = u1 := by simpa [List.getElem?_eq_getElem h1] using g1
        have a2 : its'.toArray[j] = u2 := by simpa [List.getElem?_eq_getElem h2] using g2
        rw [a1, a2]
        have := depth_mem (List.mem_of_getElem? ed)
        exact ih d (by omega) v1 v2 u1 u2 A.in1 q1 q2 w1 w2 (by show A.units + 1 + n < cLine; omega)
end
section
variable {X : Cx}
/-- x == y, where both stand for the tuple or list d -/
noncomputable def rEqD (b : Bool) : R2 := fun x y H Q => ∃ d, Rep H d x ∧ Rep H d y ∧ (∃ p, x = .ref p) ∧ depth d ≤ 40 ∧ Q (.bl b) H
theorem seqs_D {pins : List (Addr × Obj)} {σ : St} {H : Hp} {s : Shared} {d : Dat} {p p' : Addr} (I : Inv X pins σ H s) (hu : X.A.units + 64 < cLine) (h : Rep H d (.ref p)) (h' : Rep H d (.ref p')) (hd : depth d ≤ 40) :
    (∃ its its' : List Value, IsTup s.heap p its.toArray ∧ IsTup s.heap p' its'.toArray ∧ its.length = its'.length ∧ ∀ j (h1 : j < its.toArray.size) (h2 : j < its'.toArray.size), SeqAt.EqAt X.A.in1 s its.toArray[j] its'.toArray[j] true) ∨
    (∃ its its' : List Value, s.heap.IsList p its.toArray ∧ s.heap.IsList p' its'.toArray ∧ its.length = its'.length ∧ ∀ j (h1 : j < its.toArray.size) (h2 : j < its'.toArray.size), SeqAt.EqAt X.A.in1 s its.toArray[j] its'.toArray[j] true) := by
  cases d with
  | non => rw [Rep] at h; cases h
  | bl b => rw [Rep] at h; cases h
  | int i => rw [Rep] at h; cases h
  | str x => rw [Rep] at h; cases h
  | tup l =>
    left
    rw [Rep] at h h'
    obtain ⟨_, vs, e, hp, rl⟩ := h
    cases e
    obtain ⟨_, vs', e, hp', rl'⟩ := h'
    cases e
    rw [depth] at hd
    obtain ⟨its, rv, pl, hz⟩ := I.tuple (SqT.of hp)
    obtain ⟨its', rv', pl', hz'⟩ := I.tuple (SqT.of hp')
    have e1 := rl.length
    have e2 := rl'.length
    have l1 := rv.length
    have l2 := rv'.length
    refine ⟨its, its', pl, pl', by omega, fun j h1 h2 => ?_⟩
    rw [List.size_toArray] at h1 h2
    obtain ⟨d, ed⟩ : ∃ d, l[j]? = some d := ⟨l[j]'(by omega), by simp⟩
    obtain ⟨v1, f1, q1⟩ := rl.at ed
    obtain ⟨v2, f2, q2⟩ := rl'.at ed
    obtain ⟨u1, g1, w1⟩ := rv.get f1
    obtain ⟨u2, g2, w2⟩ := rv'.get f2
    have a1 : its.toArray[j] = u1 := by simpa [List.getElem?_eq_getElem h1] using g1
    have a2 : its'.toArray[j] = u2 := by simpa [List.getElem?_eq_getElem h2] using g2
    rw [a1, a2]
    have := depth_mem (List.mem_of_getElem? ed)
    exact eqAt_D I 40 d (by omega) v1 v2 u1 u2 X.A.in1 q1 q2 w1 w2 (by show X.A.units + 1 + 40 < cLine; omega)
  | lst l =>
    right
    rw [Rep] at h h'
    obtain ⟨_, vs, e, hp, rl⟩ := h
    cases e
    obtain ⟨_, vs', e, hp', rl'⟩ := h'
    cases e
    rw [depth] at hd
    obtain ⟨its, rv, pl, hz⟩ := I.list (SqL.of hp)
    obtain ⟨its', rv', pl', hz'⟩ := I.list (SqL.of hp')
    have e1 := rl.length
    have e2 := rl'.length
    have l1 := rv.length
    have l2 := rv'.length
    refine ⟨its, its', pl.isList, pl'.isList, by omega, fun j h1 h2 => ?_⟩
    rw [List.size_toArray] at h1 h2
    obtain ⟨d, ed⟩ : ∃ d, l[j]? = some d := ⟨l[j]'(by omega), by simp⟩
    obtain ⟨v1, f1, q1⟩ := rl.at ed
    obtain ⟨v2, f2, q2⟩ := rl'.at ed
    obtain ⟨u1, g1, w1⟩ := rv.get f1
    obtain ⟨u2, g2, w2⟩ := rv'.get f2
    have a1 : its.toArray[j] = u1 := by simpa [List.getElem?_eq_getElem h1] using g1
    have a2 : its'.toArray[j] = u2 := by simpa [List.getElem?_eq_getElem h2] using g2
    rw [a1, a2]
    have := depth_mem (List.mem_of_getElem? ed)
    exact eqAt_D I 40 d (by omega) v1 v2 u1 u2 X.A.in1 q1 q2 w1 w2 (by show X.A.units + 1 + 40 < cLine; omega)
theorem op_neD (hu : X.A.units + 64 < cLine) : OpR X (compareOp .NotEq) (rEqD false) := by
  intro pins s σ H x y v u Q I rx ry h
  obtain ⟨d, h1, h2, ⟨p, rfl⟩, hd, q⟩ := h
  obtain ⟨p', rfl⟩ : ∃ p', y = .ref p' := by
    cases d with
    | non => rw [Rep] at h1; cases h1
    | bl b => rw [Rep] at h1; cases h1
    | int i => rw [Rep] at h1; cases h1
    | str x => rw [Rep] at h1; cases h1
    | tup l => rw [Rep] at h2; obtain ⟨p', _, e, _⟩ := h2; exact ⟨p', e⟩
    | lst l => rw [Rep] at h2; obtain ⟨p', _, e, _⟩ := h2; exact ⟨p', e⟩
  cases rx
  cases ry
  rcases seqs_D I hu h1 h2 hd with ⟨its, its', a, b, e, k⟩ | ⟨its, its', a, b, e, k⟩
  · refine SeqAt.RcNeAt.tuples (A := X.A) (e := fun _ => true) a b (by omega) k X.prog X.w X.xe _ ⟨.bl false, H, I, ?_, q⟩
    show Value.bool _ = Value.bool false
    rw [all_true, List.size_toArray, List.size_toArray, e]
    simp
  · refine SeqAt.RcNeAt.lists (A := X.A) (e := fun _ => true) a b (by simp only [List.size_toArray]; exact e) (by omega) k X.prog X.w X.xe _ ⟨.bl false, H, I, ?_, q⟩
    show Value.bool _ = Value.bool false
    rw [all_true]
    rfl
/-- != of two tuples of flat values -/
noncomputable def rNeT : R2 := fun x y H Q => ∃ p q xs ys, x = .ref p ∧ y = .ref q ∧ H p = some (.tup xs) ∧ H q = some (.tup ys) ∧ xs.all flatV = true ∧ ys.all flatV = true ∧ Q (.bl (!eqL xs ys)) H
theorem op_ne_tup (hu : X.A.units < cLine) : OpR X (compareOp .NotEq) rNeT := by
  intro pins s σ H x y v u Q I rx ry h
  obtain ⟨p, q, xs, ys, rfl, rfl, hp, hq, fx, fy, k⟩ := h
  cases rx
  cases ry
  obtain ⟨its, r, pl, hz⟩ := I.tuple (SqT.of hp)
  obtain ⟨its2, r2, pl2, hz2⟩ := I.tuple (SqT.of hq)
  have l1 := r.length
  have l2 := r2.length
  refine SeqAt.RcNeAt.tuples (A := X.A) (e := fun j => eqV (xs.getD j .non) (ys.getD j .non)) pl pl2 hu (fun j h1 h2 => ?_) X.prog X.w X.xe _ ⟨.bl _, H, I, rfl, ?_⟩
  · rw [List.size_toArray] at h1 h2
    exact eqAt_V (rel_at r h1) (rel_at r2 h2) (flat_at fx (by omega)) (flat_at fy (by omega))
  · rw [List.size_toArray, List.size_toArray, ← l1, ← l2]
    exact k
end
end L2
/-! Lists of ints in order. -/
namespace Nm
noncomputable def ins (x : Int) : List Int → List Int
  | [] => [x]
  | y :: r => if x ≤ y then x :: y :: r else y :: ins x r
noncomputable def srt : List Int → List Int
  | [] => []
  | x :: r => ins x (srt r)
end Nm
/-! sum, sorted; a dict's keys walked. -/
namespace L2
open PySem PySem.Spec PyProof.Rows PySem.W
section
variable {X : Cx}
theorem ints_items {us : List Value} {ns : List Int} (h : IntsAre us ns) : ∃ xs, us.toArray = intItems xs ∧ preSum (numAt xs) xs.size = ns.sum := by
  obtain ⟨xs, hx⟩ := h.allInts.items
  refine ⟨xs, hx, ?_⟩
  have e1 : ns = xs.toList.map (·.1) := by
    rw [← nums_intItems, ← hx]
    exact h.numsOf.symm
  rw [preSum_eq, List.take_of_length_le (by simp), e1]
theorem call_sum_l (hc : X.calm = true) : CallR X (.builtin "sum") (fun xs H Q => ∃ p ns, xs = [.ref p] ∧ SqL X.K H p (List.map V.int ns) ∧ Q (.int ns.sum) H) := by
  intro pins s σ H xs us Q I r h
  obtain ⟨p, ns, rfl, hq, q⟩ := h
  obtain ⟨u, rfl, rx⟩ := vals1 r
  cases rx
  obtain ⟨its, rv, pl, hz⟩ := I.list hq
  obtain ⟨ys, e1, e2⟩ := ints_items (intsAre_of rv)
  have hl := pl.isList
  rw [e1] at hl
  refine sum_intListG (I.ok.hd hc) hl fun h' tk t' hk => ⟨.int ns.sum, H, I.kept (t' := tk) hk, ⟨t', ?_⟩, q⟩
  rw [e2]
/-- the keys of a dict, all ints -/
noncomputable def keysI (kvs : List (Key × V)) : List Int := kvs.map fun p => match p.1 with | .inl i => i | .inr _ => 0
noncomputable def allI (kvs : List (Key × V)) : Prop := ∀ p ∈ kvs, ∃ i, p.1 = Sum.inl i
end

/-! ### a dict held still, and let go -/
section
variable {X : Cx} {pins : List (Addr × Obj)} {σ : St} {H : Hp} {s : Shared}
/-- let go -/
noncomputable def Thaw (H₀ : Hp) (q : Hp → Prop) (H : Hp) : Prop := ∃ d o kvs, H d = some (.frz o (.dK kvs)) ∧ (∀ a b, H₀ d ≠ some (.frz a b)) ∧ q (upd H d (.dK kvs))
end
noncomputable def Itd (d : Addr) (o : Obj) (kvs : List (Key × V)) : It :=
  ⟨fun i H => H d = some (.frz o (.dK kvs)) ∧ i < kvs.length, fun i H x H' => H' = H ∧ ∃ p, kvs[i]? = some p ∧ x = kV p.1, fun i H => H d = some (.frz o (.dK kvs)) ∧ i = kvs.length⟩
section
variable {X : Cx} {x : Str} {xpos : Pos}
noncomputable def iDict (tl : TE) : TI := fun σ H R => tl σ H fun v H1 => ∃ d kvs, v = .ref d ∧ H1 d = some (.dK kvs) ∧ ∀ o, R (Itd d o kvs) (upd H1 d (.frz o (.dK kvs)))
end
end L2
/-! THE SAME RULES, the fragment named apart (within a block or a suite the context is not a letter). -/
namespace L2
open PySem PySem.Spec PyProof.Rows PySem.W
section
variable {X : Cx} {K : PySem.W.Frag}
theorem pi_listK {tg l : Expr} {tl : TE} (hl : PE X l tl) (hK : X.K = K := by rfl) : PI X tg l (iList K tl) := by subst hK; exact pi_list hl
theorem pi_enumerateK {elts : List Expr} {kk : Nat} {tpos : Pos} {a : Expr} {ta : TA} {p pos : Pos} (hg : Gl X "enumerate") (hm : X.mg "enumerate" = none) (ha : PA X [a] ta) (n1 : noStar a = true := by rfl) (hK : X.K = K := by rfl) :
    PI X (.Tuple elts kk tpos) (.Call (.Name "enumerate" p) [a] [] pos) (iEnum K ta) := by subst hK; exact pi_enumerate hg hm ha (by rw [se n1]; rfl)
theorem pg_tupK {es : List Expr} {k : Nat} {t : TGs} {n : Nat} {pos : Pos} (hc : X.calm = true) (h : PGs X es t) (hn : (assignEach es X.env).length = n := by rfl) (hst : (assignEach es X.env).findIdx? (·.1) = none := by rfl) (hK : X.K = K := by rfl) : PG X (.Tuple es k pos) (gTup K n t) := by
  subst hK; exact pg_tup hc h hn hst
theorem ix_listSK (hK : X.K = K := by rfl) : IxR X (rIxQ K) := by subst hK; exact ix_listS
theorem call_lenQK (hK : X.K = K := by rfl) : CallR X (.builtin "len") (fun xs H Q => ∃ p ns, xs = [.ref p] ∧ SqL K H p (List.map V.int ns) ∧ Q (.int (List.length ns : Nat)) H) := by subst hK; exact call_lenQ
theorem call_list_ofK (hK : X.K = K := by rfl) : CallR X (.type "list") (fun xs H Q => ∃ p ys, xs = [.ref p] ∧ (SqL K H p ys ∨ SqT K H p ys) ∧ ∀ l, H l = none → Q (.ref l) (upd H l (.lst ys))) := by subst hK; exact call_list_of
theorem call_isTK (hK : X.K = K := by rfl) : CallR X (.builtin "isinstance") (fun xs H Q => ∃ x c t b, xs = [x, .ty c] ∧ TyOf K H x t ∧ PySem.W.kitOne K t (.type c) = some b ∧ Q (.bl b) H) := by subst hK; exact call_isT
theorem call_sum_lK (hc : X.calm = true := by rfl) (hK : X.K = K := by rfl) : CallR X (.builtin "sum") (fun xs H Q => ∃ p ns, xs = [.ref p] ∧ SqL K H p (List.map V.int ns) ∧ Q (.int ns.sum) H) := by subst hK; exact call_sum_l hc
theorem sl_listK (hK : X.K = K := by rfl) : SlR X (rSlL K) := by subst hK; exact sl_list
theorem MtM.r {id : String} {r : V → List V → Hp → VK → Prop} (h : MtM X id r) : MtR X id r := h
end
end L2
/-! Numbers by keys: sums of weights. -/
namespace Nm
abbrev Ws := List (Int × Int)
noncomputable def keys (ws : Ws) : List Int := ws.map (·.1)
noncomputable def look : Ws → Int → Int
  | [], _ => 0
  | p :: r, k => if p.1 = k then p.2 else look r k
noncomputable def put : Ws → Int → Int → Ws
  | [], k, v => [(k, v)]
  | p :: r, k, v => if p.1 = k then (k, v) :: r else p :: put r k v
noncomputable def tot (ws : Ws) : Int := (ws.map (·.2)).sum
noncomputable def addk (ws : Ws) (k x : Int) : Ws := put ws k (look ws k + x)
noncomputable def addAll (ws ps : Ws) : Ws := ps.foldl (fun acc p => addk acc p.1 p.2) ws
noncomputable def prs (as bs : Ws) : Ws := as.flatMap fun a => bs.map fun b => (a.1 + b.1, a.2 * b.2)
noncomputable def bothW (as bs : Ws) : Ws := addAll [] (prs as bs)
noncomputable def cnt (ps : Ws) (s : Int) : Int := (ps.map fun p => if p.1 = s then p.2 else 0).sum

/-- one list of weights, over another bottom: the same keys in any order, the weights times T are the others times B -/
structure Over (as ws : Ws) (B T : Int) : Prop where
  nd : (keys ws).Nodup
  perm : (keys as).Perm (keys ws)
  val : ∀ k ∈ keys ws, look as k * T = look ws k * B
/-- the rows of a table: each value's share of the bottom -/
noncomputable def rowsOf (ws : Ws) (B : Int) : List (Int × Int × Int) := (srt (keys ws)).map fun v => (v, st (look ws v) B, sb (look ws v) B)
theorem Over.refl {ws : Ws} (h : (keys ws).Nodup) (B : Int) : Over ws ws B B := ⟨h, .refl _, fun _ _ => rfl⟩
/-- the weights that a table's rows stand for, over a bottom that all theirs divide -/
noncomputable def weigh (rows : List (Int × Int × Int)) (B : Int) : Ws := rows.map fun r => (r.1, r.2.1 * (B / r.2.2))
end Nm
/-! Weights by keys as a dict; rows of a table as data. -/
namespace L2
open PySem PySem.Spec PyProof.Rows
noncomputable def enc (ws : Nm.Ws) : List (Key × V) := ws.map fun p => (Sum.inl p.1, V.int p.2)
/-- rows (value, top, bottom) as tuples of a value and a share -/
noncomputable def rowD (r : Int × Int × Int) : Dat := .tup [.int r.1, .tup [.int r.2.1, .int r.2.2]]
noncomputable def rowsD (rows : List (Int × Int × Int)) : Dat := .lst (rows.map rowD)
noncomputable def wrowD (p : Int × Int) : Dat := .tup [.int p.1, .int p.2]
noncomputable def wrowsD (ws : Nm.Ws) : Dat := .lst (ws.map wrowD)
theorem rep_wrow {H : Hp} {r : Int × Int} {v : V} : Rep H (wrowD r) v ↔ ∃ p, v = .ref p ∧ H p = some (.tup [.int r.1, .int r.2]) := by
  unfold wrowD
  simp only [Rep, RepL]
  constructor
  · rintro ⟨p, vs, rfl, hp, a, b, rfl, rfl, c, d, rfl, rfl, rfl⟩
    exact ⟨p, rfl, hp⟩
  · rintro ⟨p, rfl, hp⟩
    exact ⟨p, _, rfl, hp, _, _, rfl, rfl, _, _, rfl, rfl, rfl⟩
theorem rep_lst {H : Hp} {ds : List Dat} {v : V} : Rep H (.lst ds) v ↔ ∃ p vs, v = .ref p ∧ H p = some (.lst vs) ∧ RepL H ds vs := by rw [Rep]
/-- lists and tuples stay -/
noncomputable def Sqs (H H' : Hp) : Prop := ∀ p xs, (H p = some (.tup xs) → H' p = some (.tup xs)) ∧ (H p = some (.lst xs) → H' p = some (.lst xs))
mutual
theorem Rep.sqs {H H' : Hp} (s : Sqs H H') : ∀ {d : Dat} {v : V}, Rep H d v → Rep H' d v
  | .non, _, h => by rw [Rep] at *; exact h
  | .bl _, _, h => by rw [Rep] at *; exact h
  | .int _, _, h => by rw [Rep] at *; exact h
  | .str _, _, h => by rw [Rep] at *; exact h
  | .tup _, _, h => by
    rw [Rep] at *
    obtain ⟨p, vs, e, hp, r⟩ := h
    exact ⟨p, vs, e, (s _ _).1 hp, RepL.sqs s r⟩
  | .lst _, _, h => by
    rw [Rep] at *
    obtain ⟨p, vs, e, hp, r⟩ := h
    exact ⟨p, vs, e, (s _ _).2 hp, RepL.sqs s r⟩
theorem RepL.sqs {H H' : Hp} (s : Sqs H H') : ∀ {ds : List Dat} {vs : List V}, RepL H ds vs → RepL H' ds vs
  | [], _, h => by rw [RepL] at *; exact h
  | _ :: _, _, h => by
    rw [RepL] at *
    obtain ⟨v, r, e, h1, h2⟩ := h
    exact ⟨v, r, e, Rep.sqs s h1, RepL.sqs s h2⟩
end
theorem none_of {H H' : Hp} (s : Same H H') {p : Addr} (h : H' p = none) : H p = none := by
  cases e : H p with
  | none => rfl
  | some o => rw [s p o e] at h; cases h
end L2
/-! Means and parts of weights; comprehensions that yield numbers and leave the heap. -/
namespace Nm
noncomputable def mom (ws : Ws) : Int := (ws.map fun p => p.1 * p.2).sum
noncomputable def abv (n : Int) (ws : Ws) : Int := (ws.map fun p => if n ≤ p.1 then p.2 else 0).sum
end Nm
namespace L2
open PySem PySem.Spec PyProof.Rows
/-- numbers, one name -/
theorem comp_ints {α : Type} {J : It} {tc : TT} {te : TE} {tl : St} {H1 : Hp} {fin : List V → Hp → Prop} {Item : Nat → V → Hp → Hp → Prop} (as : List α) (f : α → Option Int) (S : Src J (Same H1) as.length Item) (sub : ∀ i x H H3, Item i x H H3 → H3 = H) (hz : as.length ≤ sizeLine)
    (hs : ∀ i a x, as[i]? = some a → Item i x H1 H1 → ∀ (Y : VK) (N : Hp → Prop), (∀ z, f a = some z → Y (.int z) H1) → (f a = none → N H1) → tc (some x :: tl) H1 fun b H5 => if b = true then te (some x :: tl) H5 Y else N H5)
    (hfin : fin (List.map V.int (as.filterMap f)) H1) : tBlock J (gName 0) tc te (none :: tl) H1 fin := by
  refine block_src S (fun σ => ∃ w0, σ = w0 :: tl) ⟨_, rfl⟩ (fun i ys H => H = H1 ∧ ys = List.map V.int ((as.take i).filterMap f)) ⟨rfl, by simp⟩ hz ?_ ?_
  · rintro i x σ H ys H3 Q N hi sm ⟨rfl, rfl⟩ hl ⟨w0, rfl⟩ it kq kn
    obtain rfl := sub _ _ _ _ it
    have ea : as[i]? = some as[i] := List.getElem?_eq_getElem hi
    refine hs i _ x ea it _ _ (fun z e => kq _ _ _ ⟨_, rfl⟩ sm ⟨rfl, ?_⟩) (fun e => kn _ _ ⟨_, rfl⟩ sm ⟨rfl, ?_⟩)
    · rw [List.take_add_one, ea, List.filterMap_append, List.map_append]
      simp [e]
    · rw [List.take_add_one, ea, List.filterMap_append, List.map_append]
      simp [e]
  · rintro ys H sm ⟨rfl, rfl⟩ hl
    rw [List.take_of_length_le (Nat.le_refl _)]
    exact hfin
/-- numbers, of pairs -/
theorem comp_ints2 {K : PySem.W.Frag} {α : Type} {J : It} {tc : TT} {te : TE} {tl : St} {H1 : Hp} {fin : List V → Hp → Prop} {Item : Nat → V → Hp → Hp → Prop} (as : List α) (f : α → Option Int) (S : Src J (Same H1) as.length Item) (sub : ∀ i x H H3, Item i x H H3 → H3 = H) (hz : as.length ≤ sizeLine)
    (hs : ∀ i a x, as[i]? = some a → Item i x H1 H1 → ∃ p u v, x = .ref p ∧ SqT K H1 p [u, v] ∧ ∀ (Y : VK) (N : Hp → Prop), (∀ z, f a = some z → Y (.int z) H1) → (f a = none → N H1) → tc (some u :: some v :: tl) H1 fun b H5 => if b = true then te (some u :: some v :: tl) H5 Y else N H5)
    (hfin : fin (List.map V.int (as.filterMap f)) H1) : tBlock J (gTup K 2 (gCons (gName 0) (gCons (gName 1) gNil))) tc te (none :: none :: tl) H1 fin := by
  refine block_src S (fun σ => ∃ w0 w1, σ = w0 :: w1 :: tl) ⟨_, _, rfl⟩ (fun i ys H => H = H1 ∧ ys = List.map V.int ((as.take i).filterMap f)) ⟨rfl, by simp⟩ hz ?_ ?_
  · rintro i x σ H ys H3 Q N hi sm ⟨rfl, rfl⟩ hl ⟨w0, w1, rfl⟩ it kq kn
    obtain rfl := sub _ _ _ _ it
    have ea : as[i]? = some as[i] := List.getElem?_eq_getElem hi
    obtain ⟨p, u, v, rfl, sq, k⟩ := hs i _ x ea it
    refine ⟨p, _, rfl, sq, rfl, _, _, rfl, _, _, rfl, rfl, ?_⟩
    refine k _ _ (fun z e => kq _ _ _ ⟨_, _, rfl⟩ sm ⟨rfl, ?_⟩) (fun e => kn _ _ ⟨_, _, rfl⟩ sm ⟨rfl, ?_⟩)
    · rw [List.take_add_one, ea, List.filterMap_append, List.map_append]
      simp [e]
    · rw [List.take_add_one, ea, List.filterMap_append, List.map_append]
      simp [e]
  · rintro ys H sm ⟨rfl, rfl⟩ hl
    rw [List.take_of_length_le (Nat.le_refl _)]
    exact hfin
theorem fm_some {α β : Type} (f : α → β) (l : List α) : l.filterMap (fun a => some (f a)) = l.map f := by
  rw [← List.filterMap_eq_map]; rfl
end L2
/-! sum of a dict's values; all, any of truths. -/
namespace L2
open PySem PySem.Spec PyProof.Rows PySem.W
section
variable {X : Cx} {K : PySem.W.Frag}
/-! ### sum(d.values()) -/
noncomputable def tSumV (to : TE) : TE := fun σ H Q => to σ H fun v H1 => ∃ d kvs ns, v = .ref d ∧ H1 d = some (.dK kvs) ∧ kvs.map (·.2) = List.map V.int ns ∧ Q (.int ns.sum) H1
/-- one statement, then the rest, the rest kept apart -/
theorem seq_gen {a b : TS} {D : Ends} {σ : St} {H : Hp} (C : St → Hp → Prop) (hb : ∀ σ' H', C σ' H' → b D σ' H') (ha : ∀ N : St → Hp → Prop, (∀ σ' H', C σ' H' → N σ' H') → a { D with nx := N } σ H) : tSeq a b D σ H := ha _ hb
end
end L2
namespace Nm
/-- the rows of some weight, and the weights by values that they come to -/
noncomputable def pos (ps : Ws) : Ws := ps.filter fun p => decide (0 < p.2)
noncomputable def wof (ps : Ws) : Ws := addAll [] (pos ps)
noncomputable def bad (ps : Ws) : Prop := (∃ p ∈ ps, p.2 < 0) ∨ pos ps = []
end Nm
/-! Texts: join, startswith, find, split, f-strings; in a module's dict. -/
namespace L2
open PySem PySem.Spec PyProof.Rows PySem.W
section
variable {X : Cx} {K : PySem.W.Frag}
noncomputable def rJoin (K : PySem.W.Frag) : V → List V → Hp → VK → Prop := fun x xs H Q => ∃ sep p ts, x = .str sep ∧ xs = [.ref p] ∧ SqL K H p (List.map V.str ts) ∧ JoinOk sep ts = true ∧ Q (.str (Txt.join sep ts)) H
/-! ### f-strings -/
abbrev TJ := Str → TE
noncomputable def PJ (X : Cx) (es : List Expr) (t : TJ) : Prop :=
  ∀ (pins : List (Addr × Obj)) (s : Shared) (σ : St) (H : Hp) (acc : Str) (Q : VK), Inv X pins σ H s → acc.length ≤ sizeLine → t acc σ H Q → wpAny (model X.prog X.w) X.A (joinParts acc (evalEach es X.env)) (EP X pins σ Q) X.xe s
noncomputable def jNil : TJ := fun acc _ H Q => Q (.str acc) H
noncomputable def jLit (x : Str) (t : TJ) : TJ := fun acc σ H Q => (acc ++ x).length ≤ sizeLine ∧ t (acc ++ x) σ H Q
noncomputable def jInt (te : TE) (t : TJ) : TJ := fun acc σ H Q => te σ H fun v H1 => ∃ i, v = .int i ∧ i.natAbs.log2 < 1920 ∧ (acc ++ toString i).length ≤ sizeLine ∧ t (acc ++ toString i) σ H1 Q
noncomputable def jStr (te : TE) (t : TJ) : TJ := fun acc σ H Q => te σ H fun v H1 => ∃ z, v = .str z ∧ z.length ≤ sizeLine ∧ (acc ++ z).length ≤ sizeLine ∧ t (acc ++ z) σ H1 Q
noncomputable def tJoined (t : TJ) : TE := fun σ H Q => t Str.empty σ H Q
/-! ### in a module's dict of texts -/
noncomputable def rInMod (K : PySem.W.Frag) (P : Params) : R2 := fun x y H Q => ∃ z a es n, x = .str z ∧ y = .ref a ∧ K.lookup a = some ⟨.type "dict", none, .dict es n, #[]⟩ ∧ KeysLit P es.toList ∧ (a == sysModules) = false ∧ Q (.bl (findBy Value.isStrOf es z).isSome) H
noncomputable def keyS (e : DictEntry) : Str := match e.key with | .str x _ => x | _ => Str.empty
/-- a module's dict with these texts as keys -/
noncomputable def MDict (K : PySem.W.Frag) (P : Params) (a : Addr) (ks : List Str) : Prop := ∃ es n, K.lookup a = some ⟨.type "dict", none, .dict es n, #[]⟩ ∧ KeysLit P es.toList ∧ (a == sysModules) = false ∧ es.toList.map keyS = ks
theorem keys_find {P : Params} (z : Str) : ∀ {l : List DictEntry}, KeysLit P l → (l.find? fun d => Value.isStrOf z d.key).isSome = (l.map keyS).any fun k => decide (k = z)
  | [], _ => rfl
  | e :: r, ⟨⟨x, t, e1, _⟩, h⟩ => by
    rw [List.find?_cons, List.map_cons, List.any_cons, ← keys_find z h]
    have k : keyS e = x := by unfold keyS; rw [e1]
    have i : Value.isStrOf z e.key = decide (keyS e = z) := by
      rw [k, e1]
      show (x == z) = decide (x = z)
      by_cases c : x = z
      · simp [c]
      · simp [c]
    rw [i]
    by_cases c : keyS e = z
    · simp [c]
    · simp [c]
theorem MDict.rd {P : Params} {a : Addr} {ks : List Str} (h : MDict K P a ks) {z : Str} {H : Hp} {Q : VK} (q : Q (.bl (ks.any fun k => decide (k = z))) H) : rInMod K P (.str z) (.ref a) H Q := by
  obtain ⟨es, n, hl, hk, lo, e⟩ := h
  refine ⟨z, a, es, n, rfl, rfl, hl, hk, lo, ?_⟩
  have f : (findBy Value.isStrOf es z).isSome = ks.any fun k => decide (k = z) := by
    rw [← e, ← keys_find z hk]
    unfold findBy
    obtain ⟨l⟩ := es
    rw [List.find?_toArray]
    cases l.find? fun d => Value.isStrOf z d.key <;> rfl
  rw [f]
  exact q
end
end L2
/-! BOARDS: places as data; what lies apart from a list that grows; slices of lists. -/
namespace L2
open PySem PySem.Spec PyProof.Rows PySem.W
inductive Pl where
  | fin (w : Int × Int) | thr (w : Int × Int) (ws : List (Int × Int)) | pck (who : Int) (to : List Int)
noncomputable def plD : Pl → Dat
  | .fin w => .tup [.str (Str.ofString "end"), wrowD w]
  | .thr w ws => .tup [.str (Str.ofString "throw"), wrowD w, .lst (ws.map wrowD)]
  | .pck who to => .tup [.str (Str.ofString "pick"), .int who, .lst (to.map .int)]
noncomputable def brD (b : List Pl) : Dat := .lst (b.map plD)
theorem repL_ints {H : Hp} : ∀ {ns : List Int} {vs : List V}, RepL H (ns.map Dat.int) vs ↔ vs = ns.map V.int
  | [], vs => by simp only [List.map_nil, RepL]
  | n :: ns, vs => by
    simp only [List.map_cons, RepL, Rep]
    constructor
    · rintro ⟨v, r, rfl, rfl, h⟩
      rw [repL_ints.mp h]
    · rintro rfl
      exact ⟨_, _, rfl, rfl, repL_ints.mpr rfl⟩
theorem rep_fin {H : Hp} {w : Int × Int} {v : V} : Rep H (plD (.fin w)) v ↔ ∃ p q, v = .ref p ∧ H p = some (.tup [.str (Str.ofString "end"), .ref q]) ∧ H q = some (.tup [.int w.1, .int w.2]) := by
  show Rep H (.tup [.str (Str.ofString "end"), wrowD w]) v ↔ _
  rw [Rep]
  simp only [RepL, rep_wrow]
  constructor
  · rintro ⟨p, vs, rfl, hp, _, _, rfl, e, _, _, rfl, ⟨q, rfl, hq⟩, rfl⟩
    rw [Rep] at e
    subst e
    exact ⟨p, q, rfl, hp, hq⟩
  · rintro ⟨p, q, rfl, hp, hq⟩
    exact ⟨p, _, rfl, hp, _, _, rfl, by rw [Rep], _, _, rfl, ⟨q, rfl, hq⟩, rfl⟩
theorem rep_thr {H : Hp} {w : Int × Int} {ws : List (Int × Int)} {v : V} : Rep H (plD (.thr w ws)) v ↔ ∃ p q l xs, v = .ref p ∧ H p = some (.tup [.str (Str.ofString "throw"), .ref q, .ref l]) ∧ H q = some (.tup [.int w.1, .int w.2]) ∧ H l = some (.lst xs) ∧ RepL H (ws.map wrowD) xs := by
  show Rep H (.tup [.str (Str.ofString "throw"), wrowD w, .lst (ws.map wrowD)]) v ↔ _
  rw [Rep]
  simp only [RepL, rep_wrow]
  constructor
  · rintro ⟨p, vs, rfl, hp, _, _, rfl, e, _, _, rfl, ⟨q, rfl, hq⟩, _, _, rfl, k, rfl⟩
    rw [Rep] at e
    subst e
    obtain ⟨l, xs, rfl, hl, r⟩ := rep_lst.mp k
    exact ⟨p, q, l, xs, rfl, hp, hq, hl, r⟩
  · rintro ⟨p, q, l, xs, rfl, hp, hq, hl, r⟩
    exact ⟨p, _, rfl, hp, _, _, rfl, by rw [Rep], _, _, rfl, ⟨q, rfl, hq⟩, _, _, rfl, rep_lst.mpr ⟨l, xs, rfl, hl, r⟩, rfl⟩
theorem rep_pck {H : Hp} {who : Int} {to : List Int} {v : V} : Rep H (plD (.pck who to)) v ↔ ∃ p l, v = .ref p ∧ H p = some (.tup [.str (Str.ofString "pick"), .int who, .ref l]) ∧ H l = some (.lst (to.map V.int)) := by
  show Rep H (.tup [.str (Str.ofString "pick"), .int who, .lst (to.map .int)]) v ↔ _
  rw [Rep]
  simp only [RepL]
  constructor
  · rintro ⟨p, vs, rfl, hp, _, _, rfl, e, _, _, rfl, e2, _, _, rfl, k, rfl⟩
    rw [Rep] at e
    rw [Rep] at e2
    subst e e2
    obtain ⟨l, xs, rfl, hl, r⟩ := rep_lst.mp k
    rw [repL_ints] at r
    subst r
    exact ⟨p, l, rfl, hp, hl⟩
  · rintro ⟨p, l, rfl, hp, hl⟩
    exact ⟨p, _, rfl, hp, _, _, rfl, by rw [Rep], _, _, rfl, by rw [Rep], _, _, rfl, rep_lst.mpr ⟨l, _, rfl, hl, repL_ints.mpr rfl⟩, rfl⟩
theorem depth_flat {ds : List Dat} {n : Nat} (h : ∀ d ∈ ds, depth d ≤ n) : depth.dL ds ≤ n := by
  induction ds with
  | nil => rw [depth.dL]; omega
  | cons d ds ih =>
    rw [depth.dL]
    have := h d List.mem_cons_self
    have := ih fun e he => h e (List.mem_cons_of_mem _ he)
    omega
theorem depth_wrow (p : Int × Int) : depth (wrowD p) = 1 := by simp [wrowD, depth, depth.dL]
theorem depth_pl (q : Pl) : depth (plD q) ≤ 3 := by
  cases q with
  | fin w => simp [plD, depth, depth.dL, depth_wrow]
  | thr w ws =>
    have := depth_flat (ds := ws.map wrowD) (n := 1) fun d hd => by obtain ⟨p, _, rfl⟩ := List.mem_map.mp hd; rw [depth_wrow]; exact Nat.le_refl _
    simp only [plD, depth, depth.dL, depth_wrow]
    omega
  | pck who to =>
    have := depth_flat (ds := to.map Dat.int) (n := 0) fun d hd => by obtain ⟨p, _, rfl⟩ := List.mem_map.mp hd; simp [depth]
    simp only [plD, depth, depth.dL]
    omega
theorem depth_br (b : List Pl) : depth (brD b) ≤ 40 := by
  have := depth_flat (ds := b.map plD) (n := 3) fun d hd => by obtain ⟨p, _, rfl⟩ := List.mem_map.mp hd; exact depth_pl p
  unfold brD
  rw [depth]
  omega
theorem rep_br_get {H : Hp} {b : List Pl} {xs : List V} {i : Nat} {x : V} (h : RepL H (b.map plD) xs) (e : xs[i]? = some x) : ∃ q, b[i]? = some q ∧ Rep H (plD q) x := by
  obtain ⟨d, ed, rd⟩ := h.get e
  rw [List.getElem?_map] at ed
  obtain ⟨q, eq, rfl⟩ := Option.map_eq_some_iff.mp ed
  exact ⟨q, eq, rd⟩
theorem rep_br_at {H : Hp} {b : List Pl} {xs : List V} {i : Nat} {q : Pl} (h : RepL H (b.map plD) xs) (e : b[i]? = some q) : ∃ x, xs[i]? = some x ∧ Rep H (plD q) x :=
  h.at (by rw [List.getElem?_map, e]; rfl)
theorem repL_map {α : Type} {H : Hp} {f : α → Dat} {as : List α} {ys : List V} (hl : ys.length = as.length) (h : ∀ (i : Nat) y, ys[i]? = some y → ∀ a, as[i]? = some a → Rep H (f a) y) : RepL H (as.map f) ys :=
  RepL.of (by rw [List.length_map, hl]) fun i d v e1 e2 => by
    rw [List.getElem?_map] at e1
    obtain ⟨a, ea, rfl⟩ := Option.map_eq_some_iff.mp e1
    exact h i v e2 a ea
/-- the heap without one object -/
noncomputable def hid (H : Hp) (p : Addr) : Hp := fun a => if a = p then none else H a
theorem hid_ne {H : Hp} {p a : Addr} (h : a ≠ p) : hid H p a = H a := if_neg h
theorem hid_upd {H : Hp} {p : Addr} {o : HO} : Same (hid H p) (upd H p o) := fun a u e => by
  unfold hid at e
  by_cases h : a = p
  · rw [if_pos h] at e; cases e
  · rw [if_neg h] at e; rw [upd_ne h]; exact e
theorem hid_sub {H : Hp} {p : Addr} : Same (hid H p) H := fun a u e => by
  unfold hid at e
  by_cases h : a = p
  · rw [if_pos h] at e; cases e
  · rw [if_neg h] at e; exact e
theorem same_hid {H0 H : Hp} {p : Addr} (s : Same H0 H) (n : H0 p = none) : Same H0 (hid H p) := fun a u e => by
  rw [hid_ne (fun z => by rw [z, n] at e; cases e)]
  exact s _ _ e
theorem hid_mono {H H' : Hp} {p : Addr} (s : Same H H') : Same (hid H p) (hid H' p) := fun a u e => by
  unfold hid at *
  by_cases h : a = p
  · rw [if_pos h] at e; cases e
  · rw [if_neg h] at e ⊢; exact s _ _ e
theorem same_upd_of {H0 H : Hp} {p : Addr} {o : HO} (s : Same H0 H) (n : H0 p = none) : Same H0 (upd H p o) := (same_hid s n).trans hid_upd
/-- an item put behind a list that grows -/
theorem rep_push {H : Hp} {p : Addr} {ds : List Dat} {xs : List V} {d : Dat} {v : V} (h : RepL (hid H p) ds xs) (k : Rep (hid H p) d v) : RepL (hid (upd H p (.lst (xs ++ [v]))) p) (ds ++ [d]) (xs ++ [v]) := by
  have s : Same (hid H p) (hid (upd H p (.lst (xs ++ [v]))) p) := same_hid hid_upd (if_pos rfl)
  refine (h.mono s).append ?_
  rw [RepL]
  exact ⟨v, [], rfl, k.mono s, by rw [RepL]⟩
theorem atI_pl {α β : Type} {f : α → β} {as : List α} {i : Nat} {a : α} (h : as[i]? = some a) : atI (as.map f) (i : Int) = some (f a) := atI_nat (by rw [List.getElem?_map, h]; rfl)
/-! ### while, by states; comprehensions whose blocks lay objects -/
theorem comp_sel1 {α : Type} {J : It} {tc : TT} {te : TE} {tl : St} {H1 : Hp} {fin : List V → Hp → Prop} {Item : Nat → V → Hp → Hp → Prop} (as : List α) (f : α → Option V) (S : Src J (Same H1) as.length Item) (sub : ∀ i x H H3, Item i x H H3 → Same H H3) (hz : as.length ≤ sizeLine)
    (hs : ∀ i a x H H3, as[i]? = some a → Same H1 H → Item i x H H3 → ∀ (Y : VK) (N : Hp → Prop), (∀ z H6, f a = some z → Same H3 H6 → Y z H6) → (∀ H6, f a = none → Same H3 H6 → N H6) → tc (some x :: tl) H3 fun b H5 => if b = true then te (some x :: tl) H5 Y else N H5)
    (hfin : ∀ H2, Same H1 H2 → fin (as.filterMap f) H2) : tBlock J (gName 0) tc te (none :: tl) H1 fin := by
  refine block_src S (fun σ => ∃ w0, σ = w0 :: tl) ⟨_, rfl⟩ (fun i ys _ => ys = (as.take i).filterMap f) (by simp) hz ?_ ?_
  · rintro i x σ H ys H3 Q N hi sm rfl hl ⟨w0, rfl⟩ it kq kn
    have s3 := sub _ _ _ _ it
    have ea : as[i]? = some as[i] := List.getElem?_eq_getElem hi
    refine hs i _ x H H3 ea sm it _ _ (fun z H6 e s6 => kq _ _ _ ⟨_, rfl⟩ (sm.trans (s3.trans s6)) ?_) (fun H6 e s6 => kn _ _ ⟨_, rfl⟩ (sm.trans (s3.trans s6)) ?_)
    · rw [List.take_add_one, ea, List.filterMap_append]
      simp [e]
    · rw [List.take_add_one, ea, List.filterMap_append]
      simp [e]
  · rintro ys H sm rfl hl
    rw [List.take_of_length_le (Nat.le_refl _)]
    exact hfin H sm
theorem comp_sel2 {K : PySem.W.Frag} {α : Type} {J : It} {tc : TT} {te : TE} {tl : St} {H1 : Hp} {fin : List V → Hp → Prop} {Item : Nat → V → Hp → Hp → Prop} (as : List α) (f : α → Option V) (S : Src J (Same H1) as.length Item) (It2 : Nat → V → V → Hp → Prop)
    (tp : ∀ i x H H3, i < as.length → Same H1 H → Item i x H H3 → Same H H3 ∧ ∃ p a b, x = .ref p ∧ SqT K H3 p [a, b] ∧ It2 i a b H3) (hz : as.length ≤ sizeLine)
    (hs : ∀ i a u v H3, as[i]? = some a → Same H1 H3 → It2 i u v H3 → ∀ (Y : VK) (N : Hp → Prop), (∀ z H6, f a = some z → Same H3 H6 → Y z H6) → (∀ H6, f a = none → Same H3 H6 → N H6) → tc (some u :: some v :: tl) H3 fun b H5 => if b = true then te (some u :: some v :: tl) H5 Y else N H5)
    (hfin : ∀ H2, Same H1 H2 → fin (as.filterMap f) H2) : tBlock J (gTup K 2 (gCons (gName 0) (gCons (gName 1) gNil))) tc te (none :: none :: tl) H1 fin := by
  refine block_src S (fun σ => ∃ w0 w1, σ = w0 :: w1 :: tl) ⟨_, _, rfl⟩ (fun i ys _ => ys = (as.take i).filterMap f) (by simp) hz ?_ ?_
  · rintro i x σ H ys H3 Q N hi sm rfl hl ⟨w0, w1, rfl⟩ it kq kn
    obtain ⟨s3, p, u, v, rfl, sq, i2⟩ := tp i x H H3 hi sm it
    have ea : as[i]? = some as[i] := List.getElem?_eq_getElem hi
    refine ⟨p, _, rfl, sq, rfl, _, _, rfl, _, _, rfl, rfl, ?_⟩
    refine hs i _ u v H3 ea (sm.trans s3) i2 _ _ (fun z H6 e s6 => kq _ _ _ ⟨_, _, rfl⟩ (sm.trans (s3.trans s6)) ?_) (fun H6 e s6 => kn _ _ ⟨_, _, rfl⟩ (sm.trans (s3.trans s6)) ?_)
    · rw [List.take_add_one, ea, List.filterMap_append]
      simp [e]
    · rw [List.take_add_one, ea, List.filterMap_append]
      simp [e]
  · rintro ys H sm rfl hl
    rw [List.take_of_length_le (Nat.le_refl _)]
    exact hfin H sm
/-! ### min, max of a list; lists of plain values compared -/
section
variable {X : Cx} {K : PySem.W.Frag}
theorem call_min_l (hc : X.calm = true) : CallR X (.builtin "min") (fun xs H Q => ∃ p ns, xs = [.ref p] ∧ SqL X.K H p (List.map V.int ns) ∧ 0 < ns.length ∧ ∀ M, M ∈ ns → (∀ a ∈ ns, M ≤ a) → Q (.int M) H) := by
  intro pins s σ H xs us Q I r h
  obtain ⟨p, ns, rfl, hq, hne, q⟩ := h
  obtain ⟨u, rfl, rx⟩ := vals1 r
  cases rx
  obtain ⟨its, rv, pl, hz⟩ := I.list hq
  have hi := intsAre_of rv
  have hl := pl.isList
  obtain ⟨xs, e⟩ := hi.allInts.items
  have hns : ns = xs.toList.map (·.1) := by rw [← hi.numsOf, ← nums_intItems, ← e]
  have hsz : 0 < xs.size := by
    have h3 := hne; rw [hns, List.length_map, Array.length_toList] at h3; exact h3
  rw [e] at hl
  refine min_intList (I.ok.hd hc) hl hsz fun v h' tk hv hk => ?_
  obtain ⟨t, rfl⟩ := intItems_at hv
  obtain ⟨h1, h2⟩ := argBest_lt (numAt xs) (xs.size - 1)
  refine ⟨.int _, H, I.kept (t' := tk) hk, ⟨t, rfl⟩, q _ ?_ fun a ha => ?_⟩
  · rw [hns, numAt_eq]; exact getD_mem (by rw [List.length_map, Array.length_toList]; omega)
  · rw [hns] at ha
    obtain ⟨j, hj, rfl⟩ := mem_getD ha
    rw [List.length_map, Array.length_toList] at hj
    rw [← numAt_eq]; exact h2 j (by omega)
theorem call_max_l (hc : X.calm = true) : CallR X (.builtin "max") (fun xs H Q => ∃ p ns, xs = [.ref p] ∧ SqL X.K H p (List.map V.int ns) ∧ 0 < ns.length ∧ ∀ M, M ∈ ns → (∀ a ∈ ns, a ≤ M) → Q (.int M) H) := by
  intro pins s σ H xs us Q I r h
  obtain ⟨p, ns, rfl, hq, hne, q⟩ := h
  obtain ⟨u, rfl, rx⟩ := vals1 r
  cases rx
  obtain ⟨its, rv, pl, hz⟩ := I.list hq
  have hi := intsAre_of rv
  have hl := pl.isList
  obtain ⟨xs, e⟩ := hi.allInts.items
  have hns : ns = xs.toList.map (·.1) := by rw [← hi.numsOf, ← nums_intItems, ← e]
  have hsz : 0 < xs.size := by
    have h3 := hne; rw [hns, List.length_map, Array.length_toList] at h3; exact h3
  rw [e] at hl
  refine max_intList (I.ok.hd hc) hl hsz fun v h' tk hv hk => ?_
  obtain ⟨t, rfl⟩ := intItems_at hv
  obtain ⟨h1, h2⟩ := argBest_gt (numAt xs) (xs.size - 1)
  refine ⟨.int _, H, I.kept (t' := tk) hk, ⟨t, rfl⟩, q _ ?_ fun a ha => ?_⟩
  · rw [hns, numAt_eq]; exact getD_mem (by rw [List.length_map, Array.length_toList]; omega)
  · rw [hns] at ha
    obtain ⟨j, hj, rfl⟩ := mem_getD ha
    rw [List.length_map, Array.length_toList] at hj
    rw [← numAt_eq]; exact h2 j (by omega)
theorem call_min_lK (hc : X.calm = true := by rfl) (hK : X.K = K := by rfl) : CallR X (.builtin "min") (fun xs H Q => ∃ p ns, xs = [.ref p] ∧ SqL K H p (List.map V.int ns) ∧ 0 < ns.length ∧ ∀ M, M ∈ ns → (∀ a ∈ ns, M ≤ a) → Q (.int M) H) := by subst hK; exact call_min_l hc
theorem call_max_lK (hc : X.calm = true := by rfl) (hK : X.K = K := by rfl) : CallR X (.builtin "max") (fun xs H Q => ∃ p ns, xs = [.ref p] ∧ SqL K H p (List.map V.int ns) ∧ 0 < ns.length ∧ ∀ M, M ∈ ns → (∀ a ∈ ns, a ≤ M) → Q (.int M) H) := by subst hK; exact call_max_l hc
noncomputable def rEqF : R2 := fun x y H Q => ∃ p q xs ys, x = .ref p ∧ y = .ref q ∧ H p = some (.lst xs) ∧ H q = some (.lst ys) ∧ xs.all flatV = true ∧ ys.all flatV = true ∧ Q (.bl (eqL xs ys)) H
end
end L2
/-! LEVELS of a board, round by round. -/
namespace Lv
open L2
abbrev Fs := List (Option Int)
noncomputable def gls : Pl → List Int
  | .fin _ => []
  | .thr _ ws => ws.map (·.2)
  | .pck _ to => to
noncomputable def lk (fs : Fs) (g : Int) : Option Int := fs.getD g.toNat none
noncomputable def rdy (fs : Fs) (q : Pl) : Bool :=
  match q with
  | .thr _ ws => (ws.map (·.2)).any fun g => (lk fs g).isSome
  | .fin _ => true
  | .pck _ to => to.all fun g => (lk fs g).isSome
noncomputable def isRdy (b : List Pl) (fs : Fs) (i : Nat) : Bool := (fs.getD i none).isNone && (match b[i]? with | some q => rdy fs q | none => false)
noncomputable def fresh (b : List Pl) (fs : Fs) : List Nat := (List.range b.length).filter (isRdy b fs)
noncomputable def setAll (fs : Fs) (is : List Nat) (L : Int) : Fs := is.foldl (fun acc i => acc.set i (some L)) fs
noncomputable def run (b : List Pl) : Nat → Fs → Int → Fs
  | 0, fs, _ => fs
  | m + 1, fs, L => if fresh b fs = [] then fs else run b m (setAll fs (fresh b fs) L) (L + 1)
noncomputable def lv0 : Pl → Option Int
  | .fin _ => some 0
  | _ => none
noncomputable def fs0 (b : List Pl) : Fs := b.map lv0
noncomputable def lvs (b : List Pl) : Fs := run b b.length (fs0 b) 1
noncomputable def nones (fs : Fs) : Nat := fs.countP (·.isNone)
theorem set_len (fs : Fs) : ∀ (is : List Nat) (L : Int), (setAll fs is L).length = fs.length
  | is, L => by
    induction is generalizing fs with
    | nil => rfl
    | cons i is ih =>
      show (setAll (fs.set i (some L)) is L).length = _
      rw [ih, List.length_set]
theorem set_get (L : Int) : ∀ (is : List Nat) (fs : Fs) (k : Nat), (setAll fs is L)[k]? = if k ∈ is ∧ k < fs.length then some (some L) else fs[k]?
  | [], fs, k => by simp [setAll]
  | i :: is, fs, k => by
    show (setAll (fs.set i (some L)) is L)[k]? = _
    rw [set_get L is, List.length_set]
    by_cases h : k < fs.length
    · by_cases h1 : k ∈ is
      · rw [if_pos ⟨h1, h⟩, if_pos ⟨List.mem_cons_of_mem _ h1, h⟩]
      · rw [if_neg (fun z => h1 z.1)]
        by_cases h2 : k = i
        · subst h2
          rw [if_pos ⟨List.mem_cons_self, h⟩, List.getElem?_set_self h]
        · rw [if_neg (fun z => (List.mem_cons.mp z.1).elim h2 h1), List.getElem?_set_ne (Ne.symm h2)]
    · rw [if_neg (fun z => h z.2), if_neg (fun z => h z.2), List.getElem?_eq_none (by rw [List.length_set]; omega), List.getElem?_eq_none (by omega)]
theorem fresh_mem {b : List Pl} {fs : Fs} {i : Nat} : i ∈ fresh b fs ↔ i < b.length ∧ isRdy b fs i = true := by
  unfold fresh
  rw [List.mem_filter, List.mem_range]
theorem fresh_none {b : List Pl} {fs : Fs} (hl : fs.length = b.length) {i : Nat} (h : i ∈ fresh b fs) : fs[i]? = some none := by
  obtain ⟨h1, h2⟩ := fresh_mem.mp h
  unfold isRdy at h2
  rw [Bool.and_eq_true] at h2
  have e : fs[i]? = some fs[i] := List.getElem?_eq_getElem (by omega)
  rw [List.getD_eq_getElem?_getD, e] at h2
  rw [e]
  cases h : fs[i] with
  | none => rfl
  | some v => rw [h] at h2; simp at h2
/-- what a place's level is while rounds go on -/
noncomputable def At (fs : Fs) (L : Int) (i : Nat) : Pl → Prop
  | .fin _ => fs[i]? = some (some 0)
  | .thr _ ws => (fs[i]? = some none ∧ ∀ g ∈ ws.map (·.2), ∀ u, lk fs g = some u → u = L - 1) ∨
      ∃ v, fs[i]? = some (some v) ∧ 1 ≤ v ∧ (∃ g ∈ ws.map (·.2), lk fs g = some (v - 1)) ∧ ∀ g ∈ ws.map (·.2), ∀ u, lk fs g = some u → v - 1 ≤ u
  | .pck _ to => (fs[i]? = some none ∧ ((∀ g ∈ to, (lk fs g).isSome = true) → ∃ g ∈ to, lk fs g = some (L - 1))) ∨
      ∃ v, fs[i]? = some (some v) ∧ 1 ≤ v ∧ (∀ g ∈ to, ∃ u, lk fs g = some u ∧ u ≤ v - 1) ∧ ∃ g ∈ to, lk fs g = some (v - 1)
structure Good (b : List Pl) : Prop where
  rng : ∀ q ∈ b, ∀ g ∈ gls q, 0 ≤ g ∧ g < b.length
  pck : ∀ q ∈ b, ∀ w to, q = .pck w to → to ≠ []
structure Inv (b : List Pl) (fs : Fs) (L : Int) : Prop where
  len : fs.length = b.length
  lt : ∀ (i : Nat) (v : Int), fs[i]? = some (some v) → 0 ≤ v ∧ v < L
  at_ : ∀ (i : Nat) q, b[i]? = some q → At fs L i q
theorem inv0 {b : List Pl} (g : Good b) : Inv b (fs0 b) 1 := by
  have h0 : ∀ (i : Nat) (v : Int), (fs0 b)[i]? = some (some v) → v = 0 := fun i v e => by
    unfold fs0 at e
    rw [List.getElem?_map] at e
    obtain ⟨q, _, e⟩ := Option.map_eq_some_iff.mp e
    cases q <;> simp [lv0] at e
    exact e.symm
  have hk : ∀ (g u : Int), lk (fs0 b) g = some u → u = 0 := fun g u e => by
    unfold lk at e
    rw [List.getD_eq_getElem?_getD] at e
    cases h : (fs0 b)[g.toNat]? with
    | none => rw [h] at e; simp at e
    | some o => rw [h] at e; simp at e; subst e; exact h0 _ _ h
  refine ⟨by simp [fs0], fun i v e => by have := h0 i v e; omega, fun i q e => ?_⟩
  have e2 : (fs0 b)[i]? = some (lv0 q) := by unfold fs0; rw [List.getElem?_map, e]; rfl
  cases q with
  | fin w => exact e2
  | thr w ws => exact .inl ⟨e2, fun g _ u h => hk g u h⟩
  | pck w to =>
    refine .inl ⟨e2, fun h => ?_⟩
    cases to with
    | nil => exact absurd rfl (g.pck _ (List.mem_of_getElem? e) _ _ rfl)
    | cons x r =>
      refine ⟨x, List.mem_cons_self, ?_⟩
      have := h x List.mem_cons_self
      obtain ⟨u, hu⟩ := Option.isSome_iff_exists.mp this
      have := hk x u hu
      rw [hu, this]
      rfl
theorem lk_of {fs : Fs} {g : Int} {u : Int} : lk fs g = some u ↔ fs[g.toNat]? = some (some u) := by
  unfold lk
  rw [List.getD_eq_getElem?_getD]
  cases h : fs[g.toNat]? with
  | none => simp
  | some o => simp
theorem step {b : List Pl} (gb : Good b) {fs : Fs} {L : Int} (I : Inv b fs L) (L1 : 1 ≤ L) : Inv b (setAll fs (fresh b fs) L) (L + 1) := by
  have hl := I.len
  have get : ∀ (k : Nat), (setAll fs (fresh b fs) L)[k]? = if k ∈ fresh b fs ∧ k < fs.length then some (some L) else fs[k]? := set_get L _ _
  have old : ∀ (k : Nat) (v : Int), fs[k]? = some (some v) → (setAll fs (fresh b fs) L)[k]? = some (some v) := fun k v e => by
    rw [get, if_neg, e]
    intro z
    rw [fresh_none hl z.1] at e
    cases e
  have lold : ∀ (g u : Int), lk fs g = some u → lk (setAll fs (fresh b fs) L) g = some u := fun g u h => lk_of.mpr (old _ _ (lk_of.mp h))
  have lnew : ∀ (g u : Int), lk (setAll fs (fresh b fs) L) g = some u → lk fs g = some u ∨ u = L := fun g u h => by
    have h := lk_of.mp h
    rw [get] at h
    split at h
    · right; simpa using h.symm
    · exact .inl (lk_of.mpr h)
  refine ⟨by rw [set_len]; exact hl, fun i v e => ?_, fun i q e => ?_⟩
  · rw [get] at e
    split at e
    · simp at e; omega
    · have := I.lt i v e; omega
  · have hi : i < b.length := (List.getElem?_eq_some_iff.mp e).1
    have A := I.at_ i q e
    have rd : ∀ (q : Pl), b[i]? = some q → fs[i]? = some none → (i ∈ fresh b fs ↔ rdy fs q = true) := fun q e e2 => by
      rw [fresh_mem]
      unfold isRdy
      rw [List.getD_eq_getElem?_getD, e2, e]
      simp [hi]
    cases q with
    | fin w => exact old _ _ A
    | thr w ws =>
      rcases A with ⟨a1, a2⟩ | ⟨v, a1, a2, ⟨x, hx, a3⟩, a4⟩
      · by_cases c : i ∈ fresh b fs
        · right
          refine ⟨L, by rw [get, if_pos ⟨c, by omega⟩], L1, ?_, fun g hg u h => ?_⟩
          · have := (rd _ e a1).mp c
            have : (ws.map (·.2)).any (fun g => (lk fs g).isSome) = true := this
            obtain ⟨x, hx, h⟩ := List.any_eq_true.mp this
            obtain ⟨u, hu⟩ := Option.isSome_iff_exists.mp h
            have := a2 x hx u hu
            subst this
            exact ⟨x, hx, lold _ _ hu⟩
          · rcases lnew _ _ h with h | h
            · have := a2 g hg u h; omega
            · omega
        · left
          refine ⟨by rw [get, if_neg (fun z => c z.1)]; exact a1, fun g hg u h => ?_⟩
          rcases lnew _ _ h with h | h
          · exfalso
            refine c ((rd _ e a1).mpr ?_)
            show (ws.map (·.2)).any (fun g => (lk fs g).isSome) = true
            exact List.any_eq_true.mpr ⟨g, hg, by rw [h]; rfl⟩
          · omega
      · right
        refine ⟨v, old _ _ a1, a2, ⟨x, hx, lold _ _ a3⟩, fun g hg u h => ?_⟩
        rcases lnew _ _ h with h | h
        · exact a4 g hg u h
        · have := I.lt i v a1; omega
    | pck w to =>
      rcases A with ⟨a1, a2⟩ | ⟨v, a1, a2, a3, x, hx, a4⟩
      · by_cases c : i ∈ fresh b fs
        · right
          have r := (rd _ e a1).mp c
          have r : to.all (fun g => (lk fs g).isSome) = true := r
          have r := List.all_eq_true.mp r
          obtain ⟨x, hx, h⟩ := a2 r
          refine ⟨L, by rw [get, if_pos ⟨c, by omega⟩], L1, fun g hg => ?_, x, hx, lold _ _ h⟩
          obtain ⟨u, hu⟩ := Option.isSome_iff_exists.mp (r g hg)
          exact ⟨u, lold _ _ hu, by have := I.lt _ _ (lk_of.mp hu); omega⟩
        · left
          refine ⟨by rw [get, if_neg (fun z => c z.1)]; exact a1, fun h => ?_⟩
          have : ¬ ∀ g ∈ to, (lk fs g).isSome = true := fun z => c ((rd _ e a1).mpr (show to.all (fun g => (lk fs g).isSome) = true from List.all_eq_true.mpr z))
          have : ∃ g ∈ to, lk fs g = none := by
            apply Classical.byContradiction
            intro n
            apply this
            intro g hg
            cases h : lk fs g with
            | none => exact absurd ⟨g, hg, h⟩ n
            | some u => rfl
          obtain ⟨g, hg, hn⟩ := this
          obtain ⟨u, hu⟩ := Option.isSome_iff_exists.mp (h g hg)
          refine ⟨g, hg, ?_⟩
          rcases lnew _ _ hu with h | h
          · rw [hn] at h; cases h
          · rw [hu, h]; congr 1; omega
      · right
        refine ⟨v, old _ _ a1, a2, fun g hg => ?_, x, hx, lold _ _ a4⟩
        obtain ⟨u, h1, h2⟩ := a3 g hg
        exact ⟨u, lold _ _ h1, h2⟩
/-- what the levels are in the end -/
noncomputable def Ends (fs : Fs) (i : Nat) : Pl → Prop
  | .fin _ => fs[i]? = some (some 0)
  | .thr _ ws => (fs[i]? = some none ∧ ∀ g ∈ ws.map (·.2), lk fs g = none) ∨
      ∃ v, fs[i]? = some (some v) ∧ 1 ≤ v ∧ (∃ g ∈ ws.map (·.2), lk fs g = some (v - 1)) ∧ ∀ g ∈ ws.map (·.2), ∀ u, lk fs g = some u → v - 1 ≤ u
  | .pck _ to => (fs[i]? = some none ∧ ∃ g ∈ to, lk fs g = none) ∨
      ∃ v, fs[i]? = some (some v) ∧ 1 ≤ v ∧ (∀ g ∈ to, ∃ u, lk fs g = some u ∧ u ≤ v - 1) ∧ ∃ g ∈ to, lk fs g = some (v - 1)
end Lv
/-! PLACES REACHED, turn by turn: each with where it was found from and the way gone. -/
namespace Bf
open L2 Lv
abbrev En := Int × Option (Int × Nat) × List Nat
noncomputable def keys (es : List En) : List Int := es.map (·.1)
noncomputable def gAt (b : List Pl) (k : Int) : List Int := match b[k.toNat]? with | some q => gls q | none => []
noncomputable def addG (here : Int) (path : List Nat) : Nat → List Int → List En → List En
  | _, [], es => es
  | w, g :: gs, es => addG here path (w + 1) gs (if g ∈ keys es then es else es ++ [(g, some (here, w), path ++ [w])])
noncomputable def bfs (b : List Pl) : Nat → Nat → List En → List En
  | 0, _, es => es
  | m + 1, t, es => match es[t]? with | none => es | some e => bfs b m (t + 1) (addG e.1 e.2.2 0 (gAt b e.1) es)
noncomputable def steps (b : List Pl) (start : Int) : List En := bfs b (b.length + 1) 0 [(start, none, [])]
structure Core (b : List Pl) (start : Int) (es : List En) : Prop where
  nd : (keys es).Nodup
  rng : ∀ e ∈ es, 0 ≤ e.1 ∧ e.1 < b.length
  hd : es[0]? = some (start, none, [])
  par : ∀ (i : Nat) e, es[i]? = some e → 0 < i → ∃ (j : Nat) (ej : En) (w : Nat), j < i ∧ es[j]? = some ej ∧ e.2.1 = some (ej.1, w) ∧ (gAt b ej.1)[w]? = some e.1 ∧ e.2.2 = ej.2.2 ++ [w]
  mono : ∀ (i j : Nat) ei ej, i ≤ j → es[i]? = some ei → es[j]? = some ej → ei.2.2.length ≤ ej.2.2.length
/-- the turn's own goals, as far as they are gone through -/
structure Mid (b : List Pl) (start : Int) (t : Nat) (e : En) (k : Nat) (es : List En) : Prop extends Core b start es where
  at_ : es[t]? = some e
  top : ∀ (i : Nat) ei, es[i]? = some ei → ei.2.2.length ≤ e.2.2.length + 1
  old : ∀ (j : Nat) ej, j < t → es[j]? = some ej → ∀ g ∈ gAt b ej.1, ∃ (i : Nat) (ei : En), es[i]? = some ei ∧ ei.1 = g ∧ ei.2.2.length ≤ ej.2.2.length + 1
  now : ∀ g ∈ (gAt b e.1).take k, ∃ (i : Nat) (ei : En), es[i]? = some ei ∧ ei.1 = g ∧ ei.2.2.length ≤ e.2.2.length + 1
structure Inv (b : List Pl) (start : Int) (t : Nat) (es : List En) : Prop extends Core b start es where
  top : ∀ (i : Nat) ei et, es[i]? = some ei → es[t]? = some et → ei.2.2.length ≤ et.2.2.length + 1
  old : ∀ (j : Nat) ej, j < t → es[j]? = some ej → ∀ g ∈ gAt b ej.1, ∃ (i : Nat) (ei : En), es[i]? = some ei ∧ ei.1 = g ∧ ei.2.2.length ≤ ej.2.2.length + 1
theorem get_snoc {α : Type} {l : List α} {x y : α} {i : Nat} (h : (l ++ [x])[i]? = some y) : l[i]? = some y ∨ (i = l.length ∧ y = x) := by
  by_cases c : i < l.length
  · rw [List.getElem?_append_left c] at h
    exact .inl h
  · rw [List.getElem?_append_right (by omega)] at h
    have : i - l.length = 0 := by
      by_cases q : i - l.length = 0
      · exact q
      · rw [List.getElem?_eq_none (by simp; omega)] at h; cases h
    rw [this] at h
    simp at h
    exact .inr ⟨by omega, h.symm⟩
theorem up {α : Type} {l : List α} {x y : α} {i : Nat} (h : l[i]? = some y) : (l ++ [x])[i]? = some y := by
  rw [List.getElem?_append_left (List.getElem?_eq_some_iff.mp h).1]
  exact h
theorem one {b : List Pl} (gb : Good b) {start : Int} {t : Nat} {e : En} {k : Nat} {es : List En} {g : Int} (M : Mid b start t e k es) (hg : (gAt b e.1)[k]? = some g) :
    Mid b start t e (k + 1) (if g ∈ keys es then es else es ++ [(g, some (e.1, k), e.2.2 ++ [k])]) := by
  have tk : (gAt b e.1).take (k + 1) = (gAt b e.1).take k ++ [g] := by rw [List.take_add_one, hg]; rfl
  by_cases c : g ∈ keys es
  · rw [if_pos c]
    refine { M with now := fun x hx => ?_ }
    rw [tk] at hx
    rcases List.mem_append.mp hx with hx | hx
    · exact M.now x hx
    · have : x = g := by simpa using hx
      subst this
      obtain ⟨ei, hei, rfl⟩ := List.mem_map.mp c
      obtain ⟨i, hi⟩ := List.getElem?_of_mem hei
      exact ⟨i, ei, hi, rfl, M.top i ei hi⟩
  · rw [if_neg c]
    have rg : 0 ≤ g ∧ g < b.length := by
      unfold gAt at hg
      cases hb : b[e.1.toNat]? with
      | none => rw [hb] at hg; simp at hg
      | some q =>
        rw [hb] at hg
        exact gb.rng q (List.mem_of_getElem? hb) g (List.mem_of_getElem? hg)
    have tl : t < es.length := (List.getElem?_eq_some_iff.mp M.at_).1
    refine ⟨⟨?_, fun x hx => ?_, up M.hd, fun i x hx i0 => ?_, fun i j ei ej hij hi hj => ?_⟩, up M.at_, fun i ei hi => ?_, fun j ej hj hej x hx => ?_, fun x hx => ?_⟩
    · unfold keys at *
      rw [List.map_append]
      refine List.nodup_append.mpr ⟨M.nd, by simp, fun a ha b' hb' => ?_⟩
      have : b' = g := by simpa using hb'
      subst this
      intro z
      exact c (z ▸ ha)
    · rcases List.mem_append.mp hx with hx | hx
      · exact M.rng x hx
      · have : x = (g, some (e.1, k), e.2.2 ++ [k]) := by simpa using hx
        subst this
        exact rg
    · rcases get_snoc hx with hx | ⟨rfl, rfl⟩
      · obtain ⟨j, ej, w, a1, a2, a3⟩ := M.par i x hx i0
        exact ⟨j, ej, w, a1, up a2, a3⟩
      · exact ⟨t, e, k, tl, up M.at_, rfl, hg, rfl⟩
    · rcases get_snoc hi with hi | ⟨rfl, rfl⟩
      · rcases get_snoc hj with hj | ⟨rfl, rfl⟩
        · exact M.mono i j ei ej hij hi hj
        · have := M.top i ei hi
          simpa using this
      · rcases get_snoc hj with hj | ⟨rfl, rfl⟩
        · have := (List.getElem?_eq_some_iff.mp hj).1
          omega
        · exact Nat.le_refl _
    · rcases get_snoc hi with hi | ⟨rfl, rfl⟩
      · exact M.top i ei hi
      · simp
    · rcases get_snoc hej with hej | ⟨rfl, rfl⟩
      · obtain ⟨i, ei, a1, a2⟩ := M.old j ej hj hej x hx
        exact ⟨i, ei, up a1, a2⟩
      · omega
    · rw [tk] at hx
      rcases List.mem_append.mp hx with hx | hx
      · obtain ⟨i, ei, a1, a2⟩ := M.now x hx
        exact ⟨i, ei, up a1, a2⟩
      · have : x = g := by simpa using hx
        subst this
        exact ⟨es.length, (x, some (e.1, k), e.2.2 ++ [k]), by rw [List.getElem?_append_right (Nat.le_refl _)]; simp, rfl, by simp⟩
theorem addG_mid {b : List Pl} (gb : Good b) {start : Int} {t : Nat} {e : En} : ∀ (gs : List Int) (k : Nat) (es : List En), Mid b start t e k es → (∀ (i : Nat) g, gs[i]? = some g → (gAt b e.1)[k + i]? = some g) → Mid b start t e (k + gs.length) (addG e.1 e.2.2 k gs es)
  | [], k, es, M, _ => M
  | g :: gs, k, es, M, h => by
    have := addG_mid gb gs (k + 1) _ (one gb M (h 0 g rfl)) fun i x hx => by
      have := h (i + 1) x (by simpa using hx)
      rwa [show k + 1 + i = k + (i + 1) by omega]
    rw [List.length_cons, show k + (gs.length + 1) = k + 1 + gs.length by omega]
    exact this
theorem mid_of {b : List Pl} {start : Int} {t : Nat} {e : En} {es : List En} (I : Inv b start t es) (h : es[t]? = some e) : Mid b start t e 0 es :=
  { I with at_ := h, top := fun i ei hi => I.top i ei e hi h, now := fun g hg => by simp at hg }
theorem inv_of {b : List Pl} {start : Int} {t : Nat} {e : En} {es : List En} (M : Mid b start t e (gAt b e.1).length es) : Inv b start (t + 1) es := by
  refine { M with top := fun i ei et hi ht => ?_, old := fun j ej hj hej g hg => ?_ }
  · have h1 := M.top i ei hi
    have h2 := M.mono t (t + 1) e et (by omega) M.at_ ht
    omega
  · by_cases c : j < t
    · exact M.old j ej c hej g hg
    · have : j = t := by omega
      subst this
      rw [M.at_] at hej
      cases hej
      exact M.now g (by rw [List.take_of_length_le (Nat.le_refl _)]; exact hg)
theorem turn {b : List Pl} (gb : Good b) {start : Int} {t : Nat} {e : En} {es : List En} (I : Inv b start t es) (h : es[t]? = some e) : Inv b start (t + 1) (addG e.1 e.2.2 0 (gAt b e.1) es) := by
  have := addG_mid gb (gAt b e.1) 0 es (mid_of I h) fun i g hg => by rw [Nat.zero_add]; exact hg
  rw [Nat.zero_add] at this
  exact inv_of this
theorem inv0 {b : List Pl} {start : Int} (h0 : 0 ≤ start) (h1 : start < b.length) : Inv b start 0 [(start, none, [])] := by
  refine ⟨⟨by simp [keys], fun e he => ?_, rfl, fun i e he hi => ?_, fun i j ei ej _ hi hj => ?_⟩, fun i ei et hi ht => ?_, fun j ej hj => by omega⟩
  · have : e = (start, none, []) := by simpa using he
    subst this
    exact ⟨h0, h1⟩
  · rw [List.getElem?_eq_none (by simp; omega)] at he
    cases he
  · cases i with
    | zero => simp at hi; subst hi; simp
    | succ i => rw [List.getElem?_eq_none (by simp)] at hi; cases hi
  · cases i with
    | zero => simp at hi; subst hi; simp
    | succ i => rw [List.getElem?_eq_none (by simp)] at hi; cases hi
theorem few_nat : ∀ (n : Nat) (l : List Nat), l.Nodup → (∀ x ∈ l, x < n) → l.length ≤ n
  | 0, l, _, h => by
    cases l with
    | nil => exact Nat.le_refl _
    | cons x r => have := h x List.mem_cons_self; omega
  | n + 1, l, nd, h => by
    have := few_nat n (l.erase n) (nd.erase n) fun x hx => by
      have h1 := (nd.mem_erase_iff).mp hx
      have := h x h1.2
      have := h1.1
      omega
    have := List.length_erase (a := n) (l := l)
    split at this <;> omega
theorem few_of {n : Nat} {l : List Int} (nd : l.Nodup) (h : ∀ x ∈ l, 0 ≤ x ∧ x < (n : Int)) : l.length ≤ n := by
  have := few_nat n (l.map Int.toNat) (by
    unfold List.Nodup at *
    rw [List.pairwise_map]
    refine nd.imp_of_mem ?_
    intro a b ha hb hab z
    have := h a ha
    have := h b hb
    omega) fun x hx => by
      obtain ⟨y, hy, rfl⟩ := List.mem_map.mp hx
      have := h y hy
      omega
  rwa [List.length_map] at this
theorem Core.few {b : List Pl} {start : Int} {es : List En} (C : Core b start es) : es.length ≤ b.length := by
  have := few_of (n := b.length) C.nd fun x hx => by
    obtain ⟨e, he, rfl⟩ := List.mem_map.mp hx
    exact C.rng e he
  unfold keys at this
  rwa [List.length_map] at this
/-- going along a list of ways -/
noncomputable def go (b : List Pl) : Int → List Nat → Option Int
  | k, [] => some k
  | k, w :: ws => match (gAt b k)[w]? with | some g => go b g ws | none => none
end Bf
/-! list(reversed(x)), {k: v}, list of a dict. -/
namespace PySem
section
variable {prog : Program} {w : World} {A : Around} {E : Value → Shared → Prop} {s : Shared}
end
end PySem
namespace L2
open PySem PySem.Spec PyProof.Rows PySem.W
section
variable {X : Cx} {K : PySem.W.Frag}
noncomputable def tRev (K : PySem.W.Frag) (te : TE) : TE := fun σ H Q => te σ H fun v H1 => ∃ p xs, v = .ref p ∧ SqL K H1 p xs ∧ ∀ l, H1 l = none → Q (.ref l) (upd H1 l (.lst xs.reverse))
/-- {k: v} -/
noncomputable def tD1 (tk tv : TE) : TE := fun σ H Q => ∀ d, H d = none → tk σ (upd H d (.dK [])) fun x H1 => tv σ H1 fun v H2 => ∃ k, x = kV k ∧ H2 d = some (.dK []) ∧ Q (.ref d) (upd H2 d (.dK [(k, v)]))
end
end L2
/-! list of a dict: its keys. -/
namespace PySem
section
variable {prog : Program} {w : World} {A : Around} {E : Value → Shared → Prop} {s : Shared}
variable {κ : Type} [DecidableEq κ] {knd : KeyKind prog w κ}
end
end PySem
namespace L2
open PySem PySem.Spec PyProof.Rows PySem.W
section
variable {X : Cx}
end
end L2
/-! max of a list with a default, list of a range. -/
namespace PySem
section
variable {prog : Program} {w : World} {A : Around} {R : Result → Shared → Prop} {I : Addr} {fp wr : List Addr} {n : Nat} {P : Nat → Value → Prop} {St : Nat → Heap → Prop} {kw : List (Str × Value)}
end
section
variable {prog : Program} {w : World} {A : Around} {E : Value → Shared → Prop} {s : Shared}
end
end PySem
namespace L2
open PySem PySem.Spec PyProof.Rows PySem.W
section
variable {X : Cx} {K : PySem.W.Frag}
noncomputable def tMaxD (K : PySem.W.Frag) (te td : TE) : TE := fun σ H Q => te σ H fun v H1 => td σ H1 fun dv H2 => ∃ p ns, v = .ref p ∧ SqL K H2 p (List.map V.int ns) ∧ (ns = [] → Q dv H2) ∧ ∀ M, M ∈ ns → (∀ a ∈ ns, a ≤ M) → Q (.int M) H2
/-- list(range(n)) -/
noncomputable def tLR (te : TE) : TE := fun σ H Q => te σ H fun v H1 => ∃ n : Nat, v = .int (n : Int) ∧ n ≤ 1000000 ∧ ∀ l, H1 l = none → Q (.ref l) (upd H1 l (.lst ((List.range n).map fun i : Nat => V.int (i : Int))))
end
end L2
/-! SORTING by any answers: what is told is what was handed in, in another order. -/
namespace KS
open PySem PySem.W PyProof.Rows
/-- all asks are of places below n; what is told in the end is post -/
noncomputable def Bd {α : Type} (lt : Nat → Nat → Bool) (n : Nat) (post : α → Prop) : KasT α → Prop
  | .ret a => post a
  | .ask i j k => i < n ∧ j < n ∧ Bd lt n post (k (lt i j))
theorem Bd.bind {α β : Type} {lt : Nat → Nat → Bool} {n : Nat} {post : β → Prop} {f : α → KasT β} : ∀ {t : KasT α}, Bd lt n (fun a => Bd lt n post (f a)) t → Bd lt n post (t.bind f)
  | .ret _, h => h
  | .ask _ _ _, ⟨h1, h2, h3⟩ => ⟨h1, h2, Bd.bind h3⟩
theorem Bd.mono {α : Type} {lt : Nat → Nat → Bool} {n : Nat} {p q : α → Prop} (hpq : ∀ a, p a → q a) : ∀ {t : KasT α}, Bd lt n p t → Bd lt n q t
  | .ret _, h => hpq _ h
  | .ask _ _ _, ⟨h1, h2, h3⟩ => ⟨h1, h2, Bd.mono hpq h3⟩
theorem Bd.wp {α : Type} {lt : Nat → Nat → Bool} {n : Nat} {post : α → Prop} {cmp : Nat → Nat → (Bool → Shared → Prop) → Shared → Prop} {Q : α → Shared → Prop} {s : Shared}
    (hc : ∀ i j C, i < n → j < n → C (lt i j) s → cmp i j C s) (hq : ∀ a, post a → Q a s) : ∀ {t : KasT α}, Bd lt n post t → t.kasWp cmp Q s
  | .ret _, h => hq _ h
  | .ask i j k, ⟨h1, h2, h3⟩ => hc i j _ h1 h2 (Bd.wp hc hq h3)
noncomputable def Pm (n : Nat) (p : Array Nat) : Prop := p.Perm (List.range n).toArray
theorem Pm.lt {n : Nat} {p : Array Nat} (h : Pm n p) (hn : 0 < n) (i : Nat) : p.getD i 0 < n := by
  by_cases hi : i < p.size
  · have : p.getD i 0 = p[i] := by simp [Array.getD, hi]
    rw [this]
    have hm : p[i] ∈ p := Array.getElem_mem hi
    have := (Array.Perm.mem_iff h).mp hm
    simpa using this
  · have : p.getD i 0 = 0 := by simp [Array.getD, hi]
    omega
theorem Pm.rev {n : Nat} {p : Array Nat} (h : Pm n p) (i j : Nat) : Pm n (kas_rev p i j) := (mirror_perm _ _ _ _).trans h
theorem Pm.bub {n : Nat} {p : Array Nat} (h : Pm n p) (i j : Nat) : Pm n (bubble p i j) := (bubble_perm _ _ _).trans h
variable {lt : Nat → Nat → Bool} {n : Nat}
theorem asc_bd {p : Array Nat} (h : Pm n p) (hn : 0 < n) : ∀ f k, Bd lt n (fun _ => True) (kas_asc p f k)
  | 0, _ => trivial
  | f + 1, k => by
    refine ⟨h.lt hn _, h.lt hn _, ?_⟩
    dsimp only
    split
    · trivial
    · exact asc_bd h hn f (k + 1)
theorem desc_bd (hn : 0 < n) : ∀ f (p : Array Nat) k q, Pm n p → Bd lt n (fun r => Pm n r.1) (kas_desc f p k q)
  | 0, p, k, q, h => h
  | f + 1, p, k, q, h => by
    refine ⟨h.lt hn _, h.lt hn _, ?_⟩
    dsimp only
    split
    · split
      · exact desc_bd hn f _ _ _ (h.rev _ _)
      · exact desc_bd hn f _ _ _ h
    · refine ⟨h.lt hn _, h.lt hn _, ?_⟩
      dsimp only
      split
      · exact h
      · exact desc_bd hn f _ _ _ h
theorem tail3_bd (hn : 0 < n) {p : Array Nat} (h : Pm n p) (m r : Nat) : Bd lt n (fun r => Pm n r.2) (kas_tail3 m r p) :=
  Bd.bind ((asc_bd (h.rev _ _) hn _ _).mono fun _ _ => h.rev _ _)
theorem descPart_bd (hn : 0 < n) {p : Array Nat} (h : Pm n p) (m r : Nat) : Bd lt n (fun r => Pm n r.2) (kas_descPart m r p) := by
  refine Bd.bind ((desc_bd hn _ _ _ _ h).mono fun x hx => ?_)
  split
  · exact tail3_bd hn (hx.rev _ _) _ _
  · exact tail3_bd hn hx _ _
theorem count_bd (hn : 0 < n) {p : Array Nat} (h : Pm n p) (r : Nat) : Bd lt n (fun r => Pm n r.2) (kas_count r p) := by
  refine Bd.bind ((asc_bd h hn _ _).mono fun m _ => ?_)
  split
  · exact h
  · split
    · refine ⟨h.lt hn _, h.lt hn _, ?_⟩
      dsimp only
      split
      · exact h
      · exact descPart_bd hn (h.rev _ _) _ _
    · exact descPart_bd hn h _ _
theorem place_bd (hn : 0 < n) {p : Array Nat} (h : Pm n p) (k : Nat) : ∀ f l r, Bd lt n (fun _ => True) (kas_place p k f l r)
  | 0, _, _ => trivial
  | f + 1, l, r => by
    unfold kas_place
    split
    · trivial
    · refine ⟨h.lt hn _, h.lt hn _, ?_⟩
      dsimp only
      split
      · exact place_bd hn h k f _ _
      · exact place_bd hn h k f _ _
theorem bin_bd (hn : 0 < n) : ∀ f (p : Array Nat) k, Pm n p → Bd lt n (Pm n) (kas_bin f p k)
  | 0, p, k, h => h
  | f + 1, p, k, h => Bd.bind ((place_bd hn h k _ _ _).mono fun l _ => bin_bd hn f _ _ (h.bub _ _))
theorem sort_bd (hn : 0 < n) : Bd lt n (Pm n) (kas_sort n) := by
  refine Bd.bind ((count_bd hn (Array.Perm.refl _) n).mono fun r hr => ?_)
  split
  · exact bin_bd hn _ _ _ hr
  · exact hr
section
variable {prog : Program} {w : World} {A : Around} {E : Value → Shared → Prop} {s : Shared} {vs : List Value} {κ : SortKind}
theorem list_sort_asks {a : Addr} {m : Nat} {P : PySem.Fin → Shared → Prop} (ho : s.heap.get? a = some (seqObj "list" vs.toArray m)) (h64 : vs.length < 64)
    (hkind : 2 ≤ vs.length → ∀ h' Q', (∀ b o, b ≠ a → s.heap.get? b = some o → h'.get? b = some o) → Q' κ { s with heap := h' } → wpAny (model prog w) A (keyKind' vs.toArray) Q' (fun _ _ => False) { s with heap := h' })
    (hcmp : ∀ i j h' C, i < vs.length → j < vs.length → (∀ b o, b ≠ a → s.heap.get? b = some o → h'.get? b = some o) → C (lt i j) { s with heap := h' } → kas_ask prog w A κ vs i j C { s with heap := h' })
    (h : ∀ p : List Nat, p.Perm (List.range vs.length) → P (.done (.ret .none)) { s with heap := sortedHeap s.heap a vs (p.map fun i => vs.getD i Value.none).toArray }) :
    wpAny (model prog w) A (Builtin.«list.sort» ⟨[.ref a], []⟩) P E s := by
  rw [list_sort_plain]
  have ha : a < s.heap.objs.size := Heap.lt_size ho
  refine wpAny_bind (listItems_at ho rfl ?_)
  refine wpAny_bind (listUpdate_at ho rfl ?_ (by rw [List.size_toArray, sizeLine_eq]; omega) (Nat.zero_le _))
  obtain ⟨e1, ho1⟩ : ∃ e1, (s.heap.update a (Obj.mapSeq fun _ => #[])).get? a = some (seqObj "list" #[] e1) := ⟨_, get?_update_seq ho (fun _ => #[])⟩
  refine wpAny_bind (seqEpoch_at ho1 rfl ?_)
  refine wpAny_bind (wpAny_newTuple ?_ (by show vs.length ≤ _; rw [sizeLine_eq]; omega))
  refine wpAny_bind (wpAny_newList ?_ (Nat.zero_le _))
  refine wpAny_holding ?_
  have ho6 : (((s.heap.update a (Obj.mapSeq fun _ => #[])).push (seqObj "tuple" vs.toArray 0)).push (seqObj "list" #[] 0)).get? a = some (seqObj "list" #[] e1) := by
    rw [Heap.get?_push_ne _ _ _ (by rw [size_push', Heap.size_update]; exact Nat.ne_of_lt (Nat.lt_succ_of_lt ha)), Heap.get?_push_ne _ _ _ (by rw [Heap.size_update]; exact Nat.ne_of_lt ha)]
    exact ho1
  have keep : ∀ b o, b ≠ a → s.heap.get? b = some o → (((s.heap.update a (Obj.mapSeq fun _ => #[])).push (seqObj "tuple" vs.toArray 0)).push (seqObj "list" #[] 0)).get? b = some o := fun b o hb q =>
    Heap.get?_push_of_some _ (Heap.get?_push_of_some _ ((Heap.get?_update_other _ _ (Ne.symm hb)).trans q))
  show wpAny (model prog w) A _ P E { s with heap := ((s.heap.update a (Obj.mapSeq fun _ => #[])).push (seqObj "tuple" vs.toArray 0)).push (seqObj "list" #[] 0) }
  dsimp only
  have hsz : vs.toArray.size = vs.length := by simp
  have gd : ∀ (l : List Value), (List.range l.length).map (fun i => l.getD i Value.none) = l := fun l => by
    apply List.ext_getElem?
    intro i
    rw [List.getElem?_map]
    by_cases hi : i < l.length
    · rw [List.getElem?_range hi, List.getElem?_eq_getElem hi]
      simp [hi]
    · rw [List.getElem?_eq_none (by rw [List.length_range]; omega), List.getElem?_eq_none (by omega)]
      rfl
  by_cases h2 : vs.toArray.size < 2
  · rw [if_pos h2, if_pos h2]
    refine wpAny_bind (wpAny_pure ?_)
    rw [StateT.run_pure]
    refine wpAny_bind (wpAny_pure ?_)
    dsimp only
    refine wpAny_bind (seqEpoch_at ho6 rfl ?_)
    refine wpAny_bind (listUpdate_at ho6 rfl ?_ (hsz2 := by rw [Array.size_map]; show (pairsOf vs).size ≤ _; rw [pairsOf_size, sizeLine_eq]; omega))
    simp only [bne_self_eq_false, Bool.false_eq_true, if_false]
    have e : (vs.toArray.zip vs.toArray).map (fun (x : Keyed) => x.2) = ((List.range vs.length).map fun i => vs.getD i Value.none).toArray := by
      rw [gd]
      apply Array.toList_inj.mp
      rw [Array.toList_map]
      simp [List.map_snd_zip]
    refine wpAny_pure ?_
    have := h (List.range vs.length) (List.Perm.refl _)
    rw [← e] at this
    exact this
  · have h2' : 2 ≤ vs.length := by omega
    rw [if_neg h2, if_neg h2]
    refine wpAny_bind (wpAny_mono (hkind h2' _ (fun κ' s' => κ' = κ ∧ s' = { s with heap := ((s.heap.update a (Obj.mapSeq fun _ => #[])).push (seqObj "tuple" vs.toArray 0)).push (seqObj "list" #[] 0) }) keep ⟨rfl, rfl⟩) ?_ fun _ _ x => x.elim)
    rintro κ' s' ⟨rfl, rfl⟩
    refine wpAny_bind (wpAny_mono (kat_run (ks := vs) (vs := vs) (Q := fun st' s' => s' = { s with heap := ((s.heap.update a (Obj.mapSeq fun _ => #[])).push (seqObj "tuple" vs.toArray 0)).push (seqObj "list" #[] 0) } ∧ ∃ p : Array Nat, p.size = vs.length ∧ arrOf st' = p.map (kas_item (vs.toArray.zip vs.toArray)) ∧ failedOf st' = none ∧ Pm vs.length p)
      (G := fun p s' => s' = { s with heap := ((s.heap.update a (Obj.mapSeq fun _ => #[])).push (seqObj "tuple" vs.toArray 0)).push (seqObj "list" #[] 0) } ∧ Pm vs.length p) rfl h2' h64 (fun p st' s' a1 a2 a3 a4 => ⟨a4.1, p, a1, a2, a3, a4.2⟩) ?_) ?_ fun _ _ e => e)
    · exact Bd.wp (lt := lt) (n := vs.length) (fun i j C hi hj hC => hcmp i j _ C hi hj keep hC) (fun p hp => ⟨rfl, hp⟩) (sort_bd (by omega))
    rintro ⟨⟨⟩, st'⟩ s' ⟨rfl, p, hp, har, hf, pm⟩
    dsimp only
    have hout := kat_snds (ks := vs) (vs := vs) rfl har
    rw [hout]
    refine wpAny_bind (seqEpoch_at ho6 rfl ?_)
    refine wpAny_bind (listUpdate_at ho6 rfl ?_ (Nat.zero_le _) (by rw [List.size_toArray, List.length_map, Array.length_toList, hp, sizeLine_eq]; omega))
    rw [hf]
    simp only [bne_self_eq_false, Bool.false_eq_true, if_false]
    exact wpAny_pure (h p.toList (by have := pm.toList; simpa using this))
theorem sorted_asks {l : Addr} {Q : Value → Shared → Prop} (hl : s.heap.IsList l vs.toArray) (h64 : vs.length < 64)
    (hkind : 2 ≤ vs.length → ∀ h' Q', (∀ b o, s.heap.get? b = some o → h'.get? b = some o) → Q' κ { s with heap := h' } → wpAny (model prog w) A.in1.in1 (keyKind' vs.toArray) Q' (fun _ _ => False) { s with heap := h' })
    (hcmp : ∀ i j h' C, i < vs.length → j < vs.length → (∀ b o, s.heap.get? b = some o → h'.get? b = some o) → C (lt i j) { s with heap := h' } → kas_ask prog w A.in1.in1 κ vs i j C { s with heap := h' })
    (h : ∀ p : List Nat, p.Perm (List.range vs.length) → Q (.ref (s.heap.objs.size + 1)) { s with heap := sortedAll s.heap vs (p.map fun i => vs.getD i Value.none).toArray }) :
    wpAny (model prog w) A (call (.builtin "sorted") [.ref l]) Q E s := by
  refine Calls.call_function_entry kind_sorted plain_sorted entry_sorted (args_sorted1 _) ?_
  unfold Builtin.«sorted»
  refine wpAny_bind (m := checkCount "sorted" 1 1 _) (wpAny_pure ?_)
  refine wpAny_bind (collect_list hl ?_ (by rw [sizeLine_eq]; omega))
  refine wpAny_bind (wpAny_newList ?_ (by rw [sizeLine_eq]; omega))
  have hsz : ((s.heap.push (seqObj "list" #[] 0)).update s.heap.objs.size (Obj.mapSeq (· ++ vs.toArray))).objs.size = s.heap.objs.size + 1 := by
    rw [Heap.size_update, size_push']
  have hoL : (((s.heap.push (seqObj "list" #[] 0)).update s.heap.objs.size (Obj.mapSeq (· ++ vs.toArray))).push (seqObj "list" vs.toArray 0)).get? (s.heap.objs.size + 1) = some (seqObj "list" vs.toArray 0) := by
    rw [← hsz]; exact Heap.get?_push_size _ rfl
  have keep : ∀ b o, s.heap.get? b = some o → b ≠ s.heap.objs.size + 1 ∧ (((s.heap.push (seqObj "list" #[] 0)).update s.heap.objs.size (Obj.mapSeq (· ++ vs.toArray))).push (seqObj "list" vs.toArray 0)).get? b = some o := fun b o q => by
    have hlt : b < s.heap.objs.size := Heap.lt_size q
    refine ⟨Nat.ne_of_lt (Nat.lt_succ_of_lt hlt), ?_⟩
    rw [Heap.get?_push_ne _ _ _ (by rw [hsz]; exact Nat.ne_of_lt (Nat.lt_succ_of_lt hlt)), Heap.get?_update_ne _ _ _ _ (Nat.ne_of_lt hlt), Heap.get?_push_ne _ _ _ (Nat.ne_of_lt hlt)]
    exact q
  show wpAny _ _ _ _ _ { s with heap := ((s.heap.push (seqObj "list" #[] 0)).update s.heap.objs.size (Obj.mapSeq (· ++ vs.toArray))).push (seqObj "list" vs.toArray 0) }
  rw [hsz]
  refine wpAny_bind (wpAny_holding (wpAny_call_entry slot_list_sort ⟨_, hoL, rfl⟩ entry_list_sort (list_sort_asks (lt := lt) (κ := κ) hoL h64 (fun h2 h' Q' hk hq => hkind h2 h' Q' (fun b o q => hk b o (keep b o q).1 (keep b o q).2) hq)
    (fun i j h' C hi hj hk hC => hcmp i j h' C hi hj (fun b o q => hk b o (keep b o q).1 (keep b o q).2) hC) fun p hp => ⟨_, rfl, ?_⟩) (args_list_sort _)))
  exact wpAny_pure ⟨_, rfl, h p hp⟩
/-- pairs of ints: the first ones, then the second ones -/
noncomputable def ltP (x y : Int × Int) : Bool := if x.1 = y.1 then decide (x.2 < y.2) else decide (x.1 < y.1)
theorem pair_lt {x y : Addr} {ox oy : Obj} {a b c d : Int} {t1 t2 t3 t4 : Tok} {n k : Nat} {C : Bool → Shared → Prop} (hx : s.heap.get? x = some ox) (dx : ox.data = .seq #[.int a t1, .int b t2] n) (hy : s.heap.get? y = some oy) (dy : oy.data = .seq #[.int c t3, .int d t4] k)
    (h : C (ltP (a, b) (c, d)) s) : wpAny (model prog w) A (keyLt' (tuples' true) (.ref x) (.ref y)) C E s := by
  refine kat_lt hx dx hy dy (kat_cons (wpAny_eqBool_int ?_))
  unfold ltP at h
  dsimp only at h
  by_cases e : a = c
  · rw [if_pos e] at h
    subst e
    rw [show (a == a) = true by simp]
    refine kat_yes (kat_cons (wpAny_eqBool_int ?_))
    by_cases e2 : b = d
    · subst e2
      rw [show (b == b) = true by simp]
      refine kat_yes (kat_nil ?_)
      simpa using h
    · rw [show (b == d) = false by simpa using e2]
      refine kat_no (kat_one _ _ ?_)
      exact CmpOf.ints_lt (P := fun i v => ∃ t, v = Value.int (if i = 0 then b else d) t) (fun i => if i = 0 then b else d) (fun i v h => h) 0 1 _ _ s _ _ ⟨t2, rfl⟩ ⟨t4, rfl⟩ h
  · rw [if_neg e] at h
    rw [show (a == c) = false by simpa using e]
    exact kat_no (oneLt_int h)
end
end KS
namespace L2
open PySem PySem.Spec PyProof.Rows PySem.W
section
variable {X : Cx} {K : PySem.W.Frag}
theorem perm_vals {xs : List V} {us : List Value} (r : Vals xs us) (p : List Nat) (hp : p.Perm (List.range us.length)) : ∃ ys, ys.Perm xs ∧ Vals ys (p.map fun i => us.getD i Value.none) := by
  have hl := r.length
  have get : ∀ i, i < us.length → ∃ x u, xs[i]? = some x ∧ us[i]? = some u ∧ RelV x u := by
    clear hp hl
    induction r with
    | nil => intro i hi; simp at hi
    | cons r1 r2 ih =>
      intro i hi
      cases i with
      | zero => exact ⟨_, _, rfl, rfl, r1⟩
      | succ i =>
        obtain ⟨x, u, a1, a2, a3⟩ := ih i (by simpa using hi)
        exact ⟨x, u, by simpa using a1, by simpa using a2, a3⟩
  refine ⟨p.map fun i => xs.getD i .non, ?_, ?_⟩
  · refine (hp.map _).trans ?_
    rw [← hl]
    have : (List.range xs.length).map (fun i => xs.getD i V.non) = xs := by
      apply List.ext_getElem?
      intro i
      rw [List.getElem?_map]
      by_cases hi : i < xs.length
      · rw [List.getElem?_range hi, List.getElem?_eq_getElem hi]
        simp [hi]
      · rw [List.getElem?_eq_none (by rw [List.length_range]; omega), List.getElem?_eq_none (by omega)]
        rfl
    rw [this]
  · have hb : ∀ i ∈ p, i < us.length := fun i hi => List.mem_range.mp (hp.mem_iff.mp hi)
    clear hp
    induction p with
    | nil => exact .nil
    | cons i p ih =>
      obtain ⟨x, u, a1, a2, a3⟩ := get i (hb i List.mem_cons_self)
      refine .cons ?_ (ih fun j hj => hb j (List.mem_cons_of_mem _ hj))
      show RelV (xs.getD i V.non) (us.getD i Value.none)
      rw [List.getD_eq_getElem?_getD, List.getD_eq_getElem?_getD, a1, a2]
      exact a3
/-- a list of pairs of ints -/
noncomputable def PairsL (H : Hp) (xs : List V) : Prop := ∀ x ∈ xs, ∃ t a b, x = .ref t ∧ H t = some (.tup [.int a, .int b])
theorem call_sorted_p : CallR X (.builtin "sorted") (fun xs H Q => ∃ p ys, xs = [.ref p] ∧ SqL X.K H p ys ∧ ys.length < 64 ∧ PairsL H ys ∧ ∀ l zs, H l = none → zs.Perm ys → Q (.ref l) (upd H l (.lst zs))) := by
  intro pins s σ H xs us Q I r h
  obtain ⟨p, ys, rfl, hq, hn, hP, q⟩ := h
  obtain ⟨u, rfl, rx⟩ := vals1 r
  cases rx
  obtain ⟨its, rv, pl, hz⟩ := I.list hq
  have hl := rv.length
  have each : ∀ v ∈ its, ∃ t o a b t1 t2 n, v = .ref t ∧ s.heap.get? t = some o ∧ o.cls = .type "tuple" ∧ o.data = .seq #[.int a t1, .int b t2] n := by
    clear hq hl q pl hz hn
    induction rv with
    | nil => intro v hv; simp at hv
    | cons r1 r2 ih =>
      intro v hv
      rcases List.mem_cons.mp hv with rfl | hv
      · obtain ⟨t, a, b, rfl, ht⟩ := hP _ List.mem_cons_self
        cases r1
        obtain ⟨is2, v2, tp, _⟩ := I.tuple (SqT.of ht)
        obtain ⟨o, ho, hc, n, hd⟩ := tp
        cases v2 with
        | cons q1 q2 =>
          cases q2 with
          | cons q3 q4 =>
            cases q4
            obtain ⟨t1, rfl⟩ := q1
            obtain ⟨t2, rfl⟩ := q3
            exact ⟨t, o, a, b, t1, t2, n, rfl, ho, hc, by simpa using hd⟩
      · exact ih (fun x hx => hP x (List.mem_cons_of_mem _ hx)) v hv
  have each' : ∀ i : Nat, ∃ pr : Int × Int, ∀ v, its[i]? = some v → ∃ t o t1 t2 n, v = .ref t ∧ s.heap.get? t = some o ∧ o.cls = .type "tuple" ∧ o.data = .seq #[.int pr.1 t1, .int pr.2 t2] n := fun i => by
    cases hi : its[i]? with
    | none => exact ⟨(0, 0), fun v hv => by cases hv⟩
    | some v =>
      obtain ⟨t, o, a, b, t1, t2, n, e1, e2, e3, e4⟩ := each v (List.mem_of_getElem? hi)
      exact ⟨(a, b), fun v' hv => by cases hv; exact ⟨t, o, t1, t2, n, e1, e2, e3, e4⟩⟩
  obtain ⟨f, hf⟩ := Classical.skolem.mp each'
  refine KS.sorted_asks (lt := fun i j => KS.ltP (f i) (f j)) (κ := tuples' true) pl.isList (by omega) (fun h2 h' Q' hk hq => ?_) (fun i j h' C hi hj hk hC => ?_) fun p hp => ?_
  · have tups : ∀ (l : List Value), (∀ v ∈ l, v ∈ its) → ∃ fs, KatTups h' l fs ∧ fs.length = l.length ∧ ∀ v ∈ fs, ∃ a t, v = Value.int a t := by
      intro l
      induction l with
      | nil => intro _; exact ⟨[], trivial, rfl, fun v hv => by simp at hv⟩
      | cons v l ih =>
        intro hm
        obtain ⟨fs, k1, k2, k3⟩ := ih fun x hx => hm x (List.mem_cons_of_mem _ hx)
        obtain ⟨t, o, a, b, t1, t2, n, rfl, e2, e3, e4⟩ := each v (hm v List.mem_cons_self)
        refine ⟨.int a t1 :: fs, KatTups.cons (hk _ _ e2) e3 e4 rfl k1, by simp [k2], fun x hx => ?_⟩
        rcases List.mem_cons.mp hx with rfl | hx
        · exact ⟨a, t1, rfl⟩
        · exact k3 x hx
    obtain ⟨fs, k1, k2, k3⟩ := tups its fun v hv => hv
    exact kat_kind (T := .type "int") (s := { s with heap := h' }) k1 (by omega) (fun v hv => by obtain ⟨a, t, rfl⟩ := k3 v hv; exact .now) (by decide) hq
  · obtain ⟨t, o, t1, t2, n, e1, e2, e3, e4⟩ := hf i _ (List.getElem?_eq_getElem hi)
    obtain ⟨t', o', t3, t4, n', e1', e2', e3', e4'⟩ := hf j _ (List.getElem?_eq_getElem hj)
    unfold kas_ask
    rw [List.getD_eq_getElem?_getD, List.getD_eq_getElem?_getD, List.getElem?_eq_getElem hi, List.getElem?_eq_getElem hj, e1, e1']
    exact KS.pair_lt (s := { s with heap := h' }) (hk _ _ e2) e4 (hk _ _ e2') e4' hC
  · obtain ⟨zs, pz, vz⟩ := perm_vals rv p hp
    obtain ⟨e, he⟩ := sortedAll_at s.heap its (p.map fun i => its.getD i Value.none).toArray
    have fr := I.hok.fresh (a := s.heap.objs.size + 1) (Nat.le_succ _)
    refine ⟨.ref (s.heap.objs.size + 1), _, I.laid (t' := s.toks) (fun _ _ => sortedAll_old) (Nat.le_succ _) (o := .lst zs) ⟨?_, _, e, vz, ?_⟩, rfl, q _ _ fr pz⟩
    · rw [pz.length_eq, sizeLine_eq]; omega
    · exact he
theorem call_sorted_pK (hK : X.K = K := by rfl) : CallR X (.builtin "sorted") (fun xs H Q => ∃ p ys, xs = [.ref p] ∧ SqL K H p ys ∧ ys.length < 64 ∧ PairsL H ys ∧ ∀ l zs, H l = none → zs.Perm ys → Q (.ref l) (upd H l (.lst zs))) := by subst hK; exact call_sorted_p
end
end L2
/-! LEVELS: that the ends' rows say all; boards changed, boards numbered anew. -/
namespace Lv
open L2
noncomputable def EndsAll (b : List Pl) (fs : Fs) : Prop := fs.length = b.length ∧ ∀ (i : Nat) q, b[i]? = some q → Ends fs i q
theorem EndsAll.nn {b : List Pl} {fs : Fs} (E : EndsAll b fs) {i : Nat} {v : Int} (h : fs[i]? = some (some v)) : 0 ≤ v := by
  have hi : i < b.length := by rw [← E.1]; exact (List.getElem?_eq_some_iff.mp h).1
  have := E.2 i _ (List.getElem?_eq_getElem hi)
  cases hq : b[i] with
  | fin w =>
    rw [hq] at this
    have this : fs[i]? = some (some 0) := this
    rw [h] at this
    cases this
    decide
  | thr w ws =>
    rw [hq] at this
    rcases this with ⟨a, _⟩ | ⟨v', a, b1, _⟩
    · rw [h] at a; cases a
    · rw [h] at a; cases a; omega
  | pck w to =>
    rw [hq] at this
    rcases this with ⟨a, _⟩ | ⟨v', a, b1, _⟩
    · rw [h] at a; cases a
    · rw [h] at a; cases a; omega
/-- a place that is no harder to come to an end from -/
noncomputable def Ez (q : Pl) : Pl → Prop
  | .fin _ => True
  | .thr w' ws' => ∃ w ws, q = .thr w ws ∧ ∀ g ∈ gls q, g ∈ gls (.thr w' ws')
  | .pck _ to' => ∃ w to, q = .pck w to ∧ ∀ g ∈ to', g ∈ to
theorem Ez.refl (q : Pl) : Ez q q := by
  cases q with
  | fin w => trivial
  | thr w ws => exact ⟨w, ws, rfl, fun g hg => hg⟩
  | pck w to => exact ⟨w, to, rfl, fun g hg => hg⟩
/-- numbered anew -/
noncomputable def nm (s : List Nat) (g : Int) : Int := ((s.getD g.toNat 0 : Nat) : Int)
noncomputable def ren (s : List Nat) : Pl → Pl
  | .fin w => .fin w
  | .thr w ws => .thr w (ws.map fun p => (p.1, nm s p.2))
  | .pck w to => .pck w (to.map (nm s))
noncomputable def turn (s : List Nat) (b : List Pl) : List Pl := (List.range b.length).map fun j => ren s (b.getD (s.idxOf j) (.fin (0, 1)))
section
variable {s : List Nat} {n : Nat} (p : s.Perm (List.range n))
include p
end
end Lv
/-! TEXTS cut apart, gone through sign by sign, read as numbers. -/
namespace PySem
open Builtin Builtin.Str
section
variable {prog : Program} {w : World} {A : Around} {E : Value → Shared → Prop} {s : Shared} {x y : Str} {t u : Tok} {Q : Value → Shared → Prop}
end
end PySem
namespace L2
open PySem PySem.Spec PyProof.Rows PySem.W
section
variable {X : Cx} {K : PySem.W.Frag}
/-- the signs of a text -/
noncomputable def Its (z : Str) : It := ⟨fun i _ => i < z.cps.size, fun i H x H' => H' = H ∧ ∃ c, z.cps[i]? = some c ∧ x = .str ⟨#[c]⟩, fun i _ => z.cps.size ≤ i⟩
noncomputable def iStr (tl : TE) : TI := fun σ H R => tl σ H fun x H1 => ∃ z, x = .str z ∧ z.cps.all (· < 128) = true ∧ R (Its z) H1
/-- z[lo:hi] of a text -/
noncomputable def rSlS : V → Option Int → Option Int → Hp → VK → Prop := fun x lo hi H Q => ∃ z, x = .str z ∧ z.length ≤ sizeLine ∧ Q (.str (Txt.slice z lo hi)) H
end
end L2
namespace PySem
end PySem
/-! TEXTS cut apart by " + "; a module's dict of tuples read by []; tuples put together. -/
namespace PySem
open Builtin Builtin.Str StrLaws
abbrev PLUS : Str := ⟨#[32, 43, 32]⟩
end PySem
namespace L2
open PySem PySem.Spec PyProof.Rows PySem.W
section
variable {X : Cx} {K : PySem.W.Frag}
/-- D[z], D a module's dict, z one of its texts -/
noncomputable def tMGet (K : PySem.W.Frag) (P : Params) (td ty : TE) : TE := fun σ H Q => td σ H fun x H1 => ty σ H1 fun y H2 => ∃ z a p es n, x = .ref a ∧ y = .str z ∧ K.lookup a = some ⟨.type "dict", none, .dict es n, #[]⟩ ∧ KeysLit P es.toList ∧ PySem.W.nsIn K a z = some (some (.ref p)) ∧ Q (.ref p) H2
noncomputable def rNotMod (K : PySem.W.Frag) (P : Params) : R2 := fun x y H Q => ∃ z a es n, x = .str z ∧ y = .ref a ∧ K.lookup a = some ⟨.type "dict", none, .dict es n, #[]⟩ ∧ KeysLit P es.toList ∧ (a == sysModules) = false ∧ Q (.bl (!(findBy Value.isStrOf es z).isSome)) H
/-- one row of a module's dict of tuples of two numbers -/
noncomputable def MRow (K : PySem.W.Frag) (a : Addr) (z : Str) (i j : Int) : Prop := ∃ p, PySem.W.nsIn K a z = some (some (.ref p)) ∧ ∃ dd n sl t u, K.lookup p = some ⟨.type "tuple", dd, .seq #[.int i t, .int j u] n, sl⟩
theorem MRow.rd {P : Params} {a : Addr} {ks : List Str} {z : Str} {i j : Int} (r : MRow K a z i j) (h : MDict K P a ks) : ∃ p es n, K.lookup a = some ⟨.type "dict", none, .dict es n, #[]⟩ ∧ KeysLit P es.toList ∧ PySem.W.nsIn K a z = some (some (.ref p)) ∧ ∀ H, SqT K H p [.int i, .int j] := by
  obtain ⟨p, e, dd, n1, sl, t, u, hp⟩ := r
  obtain ⟨es, n, hl, hk, _, _⟩ := h
  exact ⟨p, es, n, hl, hk, e, fun H => .inr ⟨_, _, n1, hp, rfl, rfl, (show 2 ≤ sizeLine by decide), .cons ⟨t, rfl⟩ (.cons ⟨u, rfl⟩ .nil)⟩⟩
end
end L2
/-! EXCEPTIONS that come out of a comprehension's block. -/
namespace PySem
section
variable {M : Model} {A : Around} {E : Value → Shared → Prop} {s : Shared} {env : Env}
end
end PySem
namespace L2
open PySem PySem.Spec PyProof.Rows PySem.W
section
variable {M : Model} {A : Around} {E : Value → Shared → Prop} {s : Shared} {B : Heap} {l : List Env} {ad L : Addr} {cls a0 : Value}
end
section
variable {P : Program} {w : World} {K : PySem.W.Frag} {mg : Str → Option Value} {base : Heap} {N : List Str} {qual : Str} {scope : Scope} {f : Addr} {cdv : Value} {A : Around} {outer : List Env} {s0 : Shared} {H0 : Hp} {E : XK}
/-- what may leave the block: an exception of a call within it -/
noncomputable def xeC (X : Cx) (N' : List Str) (scp : Scope) (E : XK) : List (Str × Addr) → Addr → Shared → Hp → List Addr → Value → Shared → Prop := fun cl C s H ex e s' =>
  ∃ pins σ H4 s4, Inv (cxC X N' scp cl C s H ex) pins σ H4 s4 ∧ CX1 X.prog X.w X.stack H4 s4 E e s'
end
end L2
/-! ### list.insert -/
namespace L2
open PySem PySem.Spec PyProof.Rows PySem.W
section
variable {X : Cx}
noncomputable def rIns : V → List V → Hp → VK → Prop := fun x vs H Q => ∃ l xs i y, x = .ref l ∧ vs = [.int i, y] ∧ H l = some (.lst xs) ∧ 0 ≤ i ∧ i ≤ (xs.length : Nat) ∧ xs.length < sizeLine ∧ Q .non (upd H l (.lst (xs.take i.toNat ++ y :: xs.drop i.toNat)))
theorem mt_insert : MtM X "list.insert" rIns := by
  intro pins s σ H x vs v us Q I rx rv h
  obtain ⟨l, xs, i, y, rfl, rfl, hH, h0, h1, hz, q⟩ := h
  cases rx
  obtain ⟨u1, u2, rfl, ⟨t, rfl⟩, ru⟩ := vals2 rv
  obtain ⟨z, its, n, r, hl, e⟩ := I.lstM hH
  have sl := sizeLine_eq
  refine call_meets PySem.F.slot_list_insert ⟨_, e, rfl⟩ PySem.F.entry_list_insert (PySem.F.args_list_insert_3 _ _ _) (AutoSeq1.list_insert_list_int_val_1 l its.toArray n i t u2 (by rw [fitsIndex_both (by omega) (by omega)]; decide) (by rw [List.size_toArray]; omega)) ⟨e, ?_⟩
  have k2 : (if i < 0 then (i + (its.toArray.size : Int)).toNat else min i.toNat its.toArray.size) = i.toNat := by
    rw [if_neg (by omega), List.size_toArray]
    omega
  refine ⟨.non, _, I.lset (its' := its.take i.toNat ++ u2 :: its.drop i.toNat) hH e ?_ ?_ ?_, rfl, q⟩
  · show (its.toArray.extract 0 (if i < 0 then (i + (its.toArray.size : Int)).toNat else min i.toNat its.toArray.size)).push u2 ++ its.toArray.extract (if i < 0 then (i + (its.toArray.size : Int)).toNat else min i.toNat its.toArray.size) = _
    rw [k2]
    apply Array.toList_inj.mp
    simp [List.take_of_length_le]
  · exact (r.take _).append (.cons ru (r.drop _))
  · simp
    omega
end
end L2
/-! ZIP OF THREE LISTS, all equally long. -/
namespace L2
open PySem PySem.Spec PyProof.Rows PySem.W
abbrev IsTri (h : Heap) (T : Addr) (a b c : Value) : Prop := h.get? T = some { cls := .type "tuple", data := .seq #[a, b, c] }
/-- the zip's own objects and the lists lie apart -/
structure Ap3 (z TI TO i1 i2 i3 a b c : Addr) : Prop where
  TIz : TI ≠ z
  TOz : TO ≠ z
  i1z : i1 ≠ z
  i2z : i2 ≠ z
  i3z : i3 ≠ z
  TITO : TI ≠ TO
  TI1 : TI ≠ i1
  TI2 : TI ≠ i2
  TI3 : TI ≠ i3
  TO1 : TO ≠ i1
  TO2 : TO ≠ i2
  TO3 : TO ≠ i3
  i12 : i1 ≠ i2
  i13 : i1 ≠ i3
  i23 : i2 ≠ i3
  az : a ≠ z
  bz : b ≠ z
  cz : c ≠ z
  bTO : b ≠ TO
  cTO : c ≠ TO
  b1 : b ≠ i1
  c1 : c ≠ i1
  c2 : c ≠ i2
section
variable {prog : Program} {w : World} {A : Around} {E : Value → Shared → Prop} {s : Shared}
end
abbrev z3a (h : Heap) (la : Addr) : Heap := h.push { cls := .type "list_iterator", data := .fields #[.ref la, .int 0 0] }
abbrev z3b (h : Heap) (la lb : Addr) : Heap := (z3a h la).push { cls := .type "list_iterator", data := .fields #[.ref lb, .int 0 0] }
abbrev z3c (h : Heap) (la lb lc : Addr) : Heap := (z3b h la lb).push { cls := .type "list_iterator", data := .fields #[.ref lc, .int 0 0] }
abbrev z3d (h : Heap) (la lb lc : Addr) : Heap := (z3c h la lb lc).push { cls := .type "tuple", data := .seq #[.ref h.objs.size, .ref (z3a h la).objs.size, .ref (z3b h la lb).objs.size] }
abbrev z3e (h : Heap) (la lb lc : Addr) : Heap := (z3d h la lb lc).push { cls := .type "tuple", data := .seq #[.none, .none, .none] }
abbrev z3f (h : Heap) (la lb lc : Addr) : Heap := (z3e h la lb lc).push { cls := .type "zip", data := .fields #[.none, .bool false, .bool false, .ref (z3c h la lb lc).objs.size, .ref (z3d h la lb lc).objs.size] }
section
variable {prog : Program} {w : World} {A : Around} {E : Value → Shared → Prop} {s : Shared}
end
noncomputable def It3 (K : PySem.W.Frag) (a b c : Addr) : It :=
  ⟨fun i H => ∃ xs ys zs x y z, SqL K H a xs ∧ SqL K H b ys ∧ SqL K H c zs ∧ xs[i]? = some x ∧ ys[i]? = some y ∧ zs[i]? = some z,
   fun i H v H' => ∃ p, H p = none ∧ v = .ref p ∧ ∃ x y z, (∀ xs, SqL K H a xs → xs[i]? = some x) ∧ (∀ ys, SqL K H b ys → ys[i]? = some y) ∧ (∀ zs, SqL K H c zs → zs[i]? = some z) ∧ H' = upd H p (.tup [x, y, z]),
   fun i H => ∃ xs, SqL K H a xs ∧ xs.length = i⟩
section
variable {X : Cx} {elts : List Expr} {kk : Nat} {tpos : Pos} {K : PySem.W.Frag}
noncomputable def iZip3 (K : PySem.W.Frag) (ta : TA) : TI := fun σ H R => ta σ H fun vs H1 => ∃ a b c, vs = [.ref a, .ref b, .ref c] ∧ (∃ xs, SqL K H1 a xs) ∧ (∃ ys, SqL K H1 b ys) ∧ (∃ zs, SqL K H1 c zs) ∧ R (It3 K a b c) H1
end
end L2
/-! CALLS WITHIN AN EXCEPT SUITE; a text's count, partition and index. -/
namespace L2
open PySem PySem.Spec PyProof.Rows PySem.W
/-- a def's promise, kept also while an exception is handled -/
structure FnOkM (P : Program) (w : World) (K : PySem.W.Frag) (mg : Str → Option Value) (base : Heap) (CX : CXT) (k : Nat) (f : Addr) (fd : FuncData) (ps : List Str) (sp : Sp) : Prop where
  len : ∀ vs H Q E, sp vs H Q E → vs.length = ps.length
  run : ∀ (A : Around) (ad : Addr) (outer : List Env) (s : Shared) (H : Hp) (args : Args) (us : List Value) (vs : List V) (Q : VK) (E : XK), Room k A → Env0 P w K mg base A outer s H → BindsTo s fd args (ps.zip us) → Vals vs us → sp vs H Q E →
    codeAny (model P w) (A.mark (some (.ref ad))) (.call (.ref f) args) (CR CX outer P w H s Q E) s
structure CalM (P : Program) (w : World) (K : PySem.W.Frag) (mg : Str → Option Value) (base : Heap) (CX : CXT) (k : Nat) (x : Str) (ps : List Str) (sp : Sp) : Prop where
  ex : ∃ f fd, FnOkM P w K mg base CX k f fd ps sp ∧ mg x = some (.ref f) ∧ PySem.W.keepIn K (.ref f) = true ∧ Binds K fd ps []
section
variable {P : Program} {w : World} {K : PySem.W.Frag} {mg : Str → Option Value} {base : Heap} {CX : CXT}
end
section
variable {X : Cx} {K : PySem.W.Frag}
end
end L2
namespace PySem
open Builtin Builtin.Str StrLaws
end PySem
/-! str() of a text or a number. -/
namespace L2
open PySem PySem.Spec PyProof.Rows PySem.W
/-- what str() makes of a text or a number -/
noncomputable def txV : V → Option Str
  | .str z => some z
  | .int i => if i.natAbs.log2 < 1920 then some (Str.ofString (toString i)) else none
  | _ => none
section
variable {X : Cx} {K : PySem.W.Frag}
end
end L2
/-! sorted(x, reverse=True) of ints; one >= other of lists of ints. -/
namespace L2
open PySem PySem.Spec PyProof.Rows PySem.W
section
variable {X : Cx} {K : PySem.W.Frag}
noncomputable def tSortR (K : PySem.W.Frag) (te : TE) : TE := fun σ H Q => te σ H fun v H1 => ∃ p ns, v = .ref p ∧ SqL K H1 p (List.map V.int ns) ∧ ns.length < 64 ∧ ∀ l, H1 l = none → Q (.ref l) (upd H1 l (.lst (List.map V.int (Nm.srt ns).reverse)))
end
end L2
namespace PySem.SeqAt
open AutoSeq1 (wpAny_loadPart')
open MeetsSeq MeetsSeq2 MeetsSeq3
noncomputable def RcGeAt (A : Around) (s : Shared) (y x : Value) (b : Bool) : Prop :=
  ∀ (prog : Program) (w : World) (E : Value → Shared → Prop) (Q : Value → Shared → Prop), Q (.bool b) s → wpAny (model prog w) A (richCompare .GtE y x) Q E s
noncomputable def geFrom (e g : Nat → Bool) (fin : Bool) : Nat → Nat → Bool
  | 0, _ => fin
  | k + 1, i => if e i = true then geFrom e g fin k (i + 1) else g i
end PySem.SeqAt
namespace L2
open PySem PySem.Spec PyProof.Rows PySem.W
noncomputable def lexGe : List Int → List Int → Bool
  | [], [] => true
  | [], _ :: _ => false
  | _ :: _, [] => true
  | a :: r, b :: q => if a = b then lexGe r q else decide (b ≤ a)
section
variable {X : Cx} {K : PySem.W.Frag}
noncomputable def rGeL : R2 := fun x y H Q => ∃ p q ns ms, x = .ref p ∧ y = .ref q ∧ H p = some (.lst (List.map V.int ns)) ∧ H q = some (.lst (List.map V.int ms)) ∧ Q (.bl (lexGe ns ms)) H
end
end L2
/-! a, b = [x, y]; x[::-1] of lists. -/
namespace PySem.UL
section
variable {prog : Program} {w : World} {A : Around} {E : Value → Shared → Prop} {s : Shared}
end
end PySem.UL
namespace L2
open PySem PySem.Spec PyProof.Rows PySem.W
section
variable {X : Cx} {K : PySem.W.Frag}
noncomputable def gLst (K : PySem.W.Frag) (n : Nat) (t : TGs) : TG := fun v σ H Q => ∃ a xs, v = .ref a ∧ SqL K H a xs ∧ xs.length = n ∧ t xs σ H Q
noncomputable def tSlR (K : PySem.W.Frag) (te ts : TE) : TE := fun σ H Q => te σ H fun x H1 => ts σ H1 fun y H2 => ∃ a xs, x = .ref a ∧ y = .int (-1) ∧ SqL K H2 a xs ∧ ∀ p, H2 p = none → Q (.ref p) (upd H2 p (.lst xs.reverse))
end
end L2
/-! sorting 64 and more numbers: gallop, merges, runs. -/
namespace PySem.Tim
open PySem PyProof.Rows
noncomputable def IsI (x : Keyed) : Prop := ∃ n t, x.1 = .int n t
abbrev kn (x : Keyed) : Int := numOf x.1
noncomputable def gallop' : Bool → Keyed → Array Keyed → Nat → Nat → Nat → StateT SortSt Sem (Option Nat) := sortPriv% PySem.Builtin.gallop
noncomputable def byd (left : Bool) (key : Keyed) (arr : Array Keyed) (base i : Nat) : StateT SortSt Sem (Option Bool) := do
  let x ← elem' arr (base + i)
  if left then lt' x key else return (← lt' key x).map (!·)
noncomputable def gbin (left : Bool) (key : Keyed) (arr : Array Keyed) (base n lo0 hi0 : Nat) : StateT SortSt Sem (Option Nat) := do
  let mut lo := lo0
  let mut hi := hi0
  for _ in [0:n] do
    if lo ≥ hi then break
    let m := lo + (hi - lo) / 2
    let some more ← byd left key arr base m | return none
    if more then lo := m + 1 else hi := m
  return some hi
section
variable {prog : Program} {w : World} {A : Around} {E : Value → Shared → Prop} {s : Shared}
/-- what gallop asks -/
noncomputable def B (left : Bool) (key : Keyed) (arr : Array Keyed) (base i : Nat) : Bool := if left then decide (K arr (base + i) < kn key) else decide (K arr (base + i) ≤ kn key)
noncomputable def setG' (g : Nat) : StateT SortSt Sem Unit := (sortPriv% PySem.Builtin.setMinGallop) g
noncomputable def mergeLo' : Array Keyed → Array Keyed → StateT SortSt Sem (Array Keyed) := sortPriv% PySem.Builtin.mergeLo
noncomputable def dn (a b out : Array Keyed) (ia ib : Nat) : Array Keyed := out ++ a.extract ia a.size ++ b.extract ib b.size
noncomputable def lA (a b out : Array Keyed) (ia ib : Nat) : Array Keyed := out ++ b.extract ib b.size ++ a.extract ia a.size
/-! ### what a merge keeps -/
noncomputable def Le (x y : Keyed) : Prop := kn x ≤ kn y
structure MI (a b out : List Keyed) (ia ib : Nat) : Prop where
  perm : out.Perm (a.take ia ++ b.take ib)
  srt : out.Pairwise Le
  le : ∀ x ∈ out, ∀ y, (y ∈ a.drop ia ∨ y ∈ b.drop ib) → kn x ≤ kn y
theorem take_one {l : List Keyed} {i : Nat} {x : Keyed} (e : l[i]? = some x) : l.take (i + 1) = l.take i ++ [x] := by rw [List.take_add_one, e]; rfl
theorem drop_one {l : List Keyed} {i : Nat} {x : Keyed} (e : l[i]? = some x) : l.drop i = x :: l.drop (i + 1) := by
  obtain ⟨h, rfl⟩ := List.getElem?_eq_some_iff.mp e
  exact List.drop_eq_getElem_cons h
theorem srt_drop {l : List Keyed} {i : Nat} {x : Keyed} (h : l.Pairwise Le) (e : l[i]? = some x) : ∀ y ∈ l.drop i, kn x ≤ kn y := by
  have := List.Pairwise.drop (i := i) h
  rw [drop_one e] at this ⊢
  intro y hy
  rcases List.mem_cons.mp hy with rfl | hy
  · exact Int.le_refl _
  · exact (List.pairwise_cons.mp this).1 y hy
theorem MI.pushB {a b out : List Keyed} {ia ib : Nat} {x : Keyed} (m : MI a b out ia ib) (hb : b.Pairwise Le) (e : b[ib]? = some x) (h : ∀ y ∈ a.drop ia, kn x ≤ kn y) : MI a b (out ++ [x]) ia (ib + 1) := by
  have xb : x ∈ b.drop ib := by rw [drop_one e]; simp
  have sub : ∀ y ∈ b.drop (ib + 1), y ∈ b.drop ib := fun y hy => by rw [drop_one e]; exact List.mem_cons_of_mem _ hy
  refine ⟨?_, ?_, ?_⟩
  · rw [take_one e, ← List.append_assoc]
    exact m.perm.append_right _
  · rw [List.pairwise_append]
    exact ⟨m.srt, by simp, fun u hu v hv => by rw [List.mem_singleton.mp hv]; exact m.le u hu x (.inr xb)⟩
  · intro u hu y hy
    rcases List.mem_append.mp hu with hu | hu
    · rcases hy with hy | hy
      · exact m.le u hu y (.inl hy)
      · exact m.le u hu y (.inr (sub y hy))
    · rw [List.mem_singleton.mp hu]
      rcases hy with hy | hy
      · exact h y hy
      · exact srt_drop hb e y (sub y hy)
theorem MI.pushA {a b out : List Keyed} {ia ib : Nat} {x : Keyed} (m : MI a b out ia ib) (ha : a.Pairwise Le) (e : a[ia]? = some x) (h : ∀ y ∈ b.drop ib, kn x ≤ kn y) : MI a b (out ++ [x]) (ia + 1) ib := by
  have xb : x ∈ a.drop ia := by rw [drop_one e]; simp
  have sub : ∀ y ∈ a.drop (ia + 1), y ∈ a.drop ia := fun y hy => by rw [drop_one e]; exact List.mem_cons_of_mem _ hy
  refine ⟨?_, ?_, ?_⟩
  · rw [take_one e, List.append_assoc]
    refine (m.perm.append_right [x]).trans ?_
    rw [List.append_assoc]
    exact List.perm_append_comm.append_left _
  · rw [List.pairwise_append]
    exact ⟨m.srt, by simp, fun u hu v hv => by rw [List.mem_singleton.mp hv]; exact m.le u hu x (.inl xb)⟩
  · intro u hu y hy
    rcases List.mem_append.mp hu with hu | hu
    · rcases hy with hy | hy
      · exact m.le u hu y (.inl (sub y hy))
      · exact m.le u hu y (.inr hy)
    · rw [List.mem_singleton.mp hu]
      rcases hy with hy | hy
      · exact srt_drop ha e y (sub y hy)
      · exact h y hy
theorem MI.appA {a b out : List Keyed} {ia ib : Nat} (m : MI a b out ia ib) (ha : a.Pairwise Le) : ∀ k, ia + k ≤ a.length → (∀ i x, i < k → a[ia + i]? = some x → ∀ y ∈ b.drop ib, kn x ≤ kn y) → MI a b (out ++ (a.drop ia).take k) (ia + k) ib
  | 0, _, _ => by simpa using m
  | k + 1, hk, h => by
    have e : a[ia + k]? = some (a[ia + k]'(by omega)) := List.getElem?_eq_getElem (by omega)
    have m1 := (m.appA ha k (by omega) fun i x hi => h i x (by omega)).pushA ha e (h k _ (by omega) e)
    have e2 : (a.drop ia).take (k + 1) = (a.drop ia).take k ++ [a[ia + k]'(by omega)] := take_one (by rw [List.getElem?_drop]; exact e)
    rw [e2, ← List.append_assoc]
    exact m1
theorem MI.appB {a b out : List Keyed} {ia ib : Nat} (m : MI a b out ia ib) (hb : b.Pairwise Le) : ∀ k, ib + k ≤ b.length → (∀ i x, i < k → b[ib + i]? = some x → ∀ y ∈ a.drop ia, kn x ≤ kn y) → MI a b (out ++ (b.drop ib).take k) ia (ib + k)
  | 0, _, _ => by simpa using m
  | k + 1, hk, h => by
    have e : b[ib + k]? = some (b[ib + k]'(by omega)) := List.getElem?_eq_getElem (by omega)
    have m1 := (m.appB hb k (by omega) fun i x hi => h i x (by omega)).pushB hb e (h k _ (by omega) e)
    have e2 : (b.drop ib).take (k + 1) = (b.drop ib).take k ++ [b[ib + k]'(by omega)] := take_one (by rw [List.getElem?_drop]; exact e)
    rw [e2, ← List.append_assoc]
    exact m1
noncomputable def Res (a b r : List Keyed) : Prop := r.Perm (a ++ b) ∧ r.Pairwise Le
theorem MI.doneB {a b out : List Keyed} {ia ib : Nat} (m : MI a b out ia ib) (ha : a.Pairwise Le) (h : b.length ≤ ib) : Res a b (out ++ a.drop ia ++ b.drop ib) := by
  have e : b.drop ib = [] := List.drop_of_length_le h
  have e2 : b.take ib = b := List.take_of_length_le h
  rw [e, List.append_nil]
  refine ⟨?_, ?_⟩
  · have := m.perm.append_right (a.drop ia)
    rw [e2, List.append_assoc] at this
    refine this.trans ((List.perm_append_comm (l₁ := b) (l₂ := a.drop ia)).append_left (a.take ia) |>.trans ?_)
    rw [← List.append_assoc, List.take_append_drop]
  · rw [List.pairwise_append]
    exact ⟨m.srt, ha.drop, fun u hu v hv => m.le u hu v (.inl hv)⟩
theorem MI.doneA {a b out : List Keyed} {ia ib : Nat} (m : MI a b out ia ib) (hb : b.Pairwise Le) (h : a.length ≤ ia) : Res a b (out ++ a.drop ia ++ b.drop ib) := by
  have e : a.drop ia = [] := List.drop_of_length_le h
  have e2 : a.take ia = a := List.take_of_length_le h
  rw [e, List.append_nil]
  refine ⟨?_, ?_⟩
  · have := m.perm.append_right (b.drop ib)
    rw [e2, List.append_assoc, List.take_append_drop] at this
    exact this
  · rw [List.pairwise_append]
    exact ⟨m.srt, hb.drop, fun u hu v hv => m.le u hu v (.inr hv)⟩
theorem dn_list (a b out : Array Keyed) (ia ib : Nat) : (dn a b out ia ib).toList = out.toList ++ a.toList.drop ia ++ b.toList.drop ib := by
  unfold dn
  simp only [Array.toList_append, Array.toList_extract]
  simp
  rw [List.take_of_length_le (by simp), List.take_of_length_le (by simp)]
noncomputable def SG (st st' : SortSt) : Prop := kindOf st' = kindOf st ∧ arrOf st' = arrOf st ∧ pendingOf st' = pendingOf st ∧ failedOf st' = failedOf st
theorem SG.refl (st : SortSt) : SG st st := ⟨rfl, rfl, rfl, rfl⟩
theorem K_get {a : Array Keyed} {i : Nat} {x : Keyed} (e : a.toList[i]? = some x) : K a i = kn x := by
  unfold K
  rw [← Array.getElem?_toList, e]
theorem arr_get {a : Array Keyed} {i : Nat} (h : i < a.size) : ∃ x, a.toList[i]? = some x ∧ a[i]? = some x := ⟨a[i], by rw [List.getElem?_eq_getElem (by simpa using h)]; rfl, by simp [h]⟩
abbrev LoT := Option (Array Keyed) × Array Keyed × Nat × Nat × Nat × Nat × Nat
noncomputable def loC (a b out : Array Keyed) (ia ib mg ac bc : Nat) : StateT SortSt Sem (ForInStep LoT) := do
  let v ← elem' a ia
  if ia + 1 + 1 == a.size then pure (.done (some (lA a b (out.push v) (ia + 1) ib), out.push v, ia + 1, ib, mg, ac, bc))
  else if ac < 7 && bc < 7 then pure (.done (none, out.push v, ia + 1, ib, mg, ac, bc)) else pure (.yield (none, out.push v, ia + 1, ib, mg, ac, bc))
noncomputable def loB (a b out : Array Keyed) (ia ib mg ac bc : Nat) : StateT SortSt Sem (ForInStep LoT) := do
  let u ← elem' b ib
  if ib + 1 == b.size then pure (.done (some (dn a b (out.push u) ia (ib + 1)), out.push u, ia, ib + 1, mg, ac, bc))
  else
    let v ← elem' a ia
    let x ← gallop' true v b (ib + 1) (b.size - (ib + 1)) 0
    match x with
    | some k =>
      if k > 0 then
        if ib + 1 + k == b.size then pure (.done (some (dn a b (out.push u ++ b.extract (ib + 1) (ib + 1 + k)) ia (ib + 1 + k)), out.push u ++ b.extract (ib + 1) (ib + 1 + k), ia, ib + 1 + k, mg, ac, k))
        else loC a b (out.push u ++ b.extract (ib + 1) (ib + 1 + k)) ia (ib + 1 + k) mg ac k
      else loC a b (out.push u) ia (ib + 1) mg ac k
    | _ => pure (.done (some (dn a b (out.push u) ia (ib + 1)), out.push u, ia, ib + 1, mg, ac, bc))
/-- what both halves of a merge start from -/
structure MC (st : SortSt) (a b : Array Keyed) : Prop where
  hk : kindOf st = oneType'
  iA : ∀ x ∈ a.toList, IsI x
  iB : ∀ x ∈ b.toList, IsI x
  sA : a.toList.Pairwise Le
  sB : b.toList.Pairwise Le
  hl : ∀ x, a.toList[a.size - 1]? = some x → ∀ y ∈ b.toList, kn y ≤ kn x
theorem MC.rB {st : SortSt} {a b out : Array Keyed} {ia ib : Nat} (c : MC st a b) (m : MI a.toList b.toList out.toList ia ib) (e : ib = b.size) : Res a.toList b.toList (dn a b out ia ib).toList := by rw [dn_list]; exact m.doneB c.sA (by simp; omega)
theorem MC.rA {st : SortSt} {a b out : Array Keyed} {ia ib : Nat} (c : MC st a b) (m : MI a.toList b.toList out.toList ia ib) (e : ia = a.size) : Res a.toList b.toList (dn a b out ia ib).toList := by rw [dn_list]; exact m.doneA c.sB (by simp; omega)
/-! ### merging from the end -/
structure HI (a b o : List Keyed) (na nb : Nat) : Prop where
  perm : o.Perm (a.drop na ++ b.drop nb)
  srt : o.Pairwise Le
  le : ∀ x ∈ o, ∀ y, (y ∈ a.take na ∨ y ∈ b.take nb) → kn y ≤ kn x
theorem srt_take {l : List Keyed} {i : Nat} {x : Keyed} (h : l.Pairwise Le) (e : l[i]? = some x) : ∀ y ∈ l.take (i + 1), kn y ≤ kn x := by
  intro y hy
  have := List.Pairwise.take (i := i + 1) h
  rw [take_one e] at this hy
  rcases List.mem_append.mp hy with hy | hy
  · exact (List.pairwise_append.mp this).2.2 y hy x (by simp)
  · rw [List.mem_singleton.mp hy]; exact Int.le_refl _
theorem HI.pushA {a b o : List Keyed} {na nb : Nat} {x : Keyed} (m : HI a b o (na + 1) nb) (ha : a.Pairwise Le) (e : a[na]? = some x) (h : ∀ y ∈ b.take nb, kn y ≤ kn x) : HI a b (x :: o) na nb := by
  have xa : x ∈ a.take (na + 1) := by rw [take_one e]; simp
  have sub : ∀ y ∈ a.take na, y ∈ a.take (na + 1) := fun y hy => by rw [take_one e]; exact List.mem_append_left _ hy
  refine ⟨?_, ?_, ?_⟩
  · rw [drop_one e]
    exact m.perm.cons x
  · exact List.pairwise_cons.mpr ⟨fun u hu => m.le u hu x (.inl xa), m.srt⟩
  · intro u hu y hy
    rcases List.mem_cons.mp hu with rfl | hu
    · rcases hy with hy | hy
      · exact srt_take ha e y (sub y hy)
      · exact h y hy
    · rcases hy with hy | hy
      · exact m.le u hu y (.inl (sub y hy))
      · exact m.le u hu y (.inr hy)
theorem HI.pushB {a b o : List Keyed} {na nb : Nat} {x : Keyed} (m : HI a b o na (nb + 1)) (hb : b.Pairwise Le) (e : b[nb]? = some x) (h : ∀ y ∈ a.take na, kn y ≤ kn x) : HI a b (x :: o) na nb := by
  have xb : x ∈ b.take (nb + 1) := by rw [take_one e]; simp
  have sub : ∀ y ∈ b.take nb, y ∈ b.take (nb + 1) := fun y hy => by rw [take_one e]; exact List.mem_append_left _ hy
  refine ⟨?_, ?_, ?_⟩
  · rw [drop_one e]
    exact (m.perm.cons x).trans List.perm_middle.symm
  · exact List.pairwise_cons.mpr ⟨fun u hu => m.le u hu x (.inr xb), m.srt⟩
  · intro u hu y hy
    rcases List.mem_cons.mp hu with rfl | hu
    · rcases hy with hy | hy
      · exact h y hy
      · exact srt_take hb e y (sub y hy)
    · rcases hy with hy | hy
      · exact m.le u hu y (.inl hy)
      · exact m.le u hu y (.inr (sub y hy))
theorem HI.appA {a b o : List Keyed} {na nb : Nat} (m : HI a b o na nb) (ha : a.Pairwise Le) (hn : na ≤ a.length) : ∀ k, k ≤ na → (∀ i x, na - k ≤ i → i < na → a[i]? = some x → ∀ y ∈ b.take nb, kn y ≤ kn x) → HI a b ((a.drop (na - k)).take k ++ o) (na - k) nb
  | 0, _, _ => by simpa using m
  | k + 1, hk, h => by
    have e : a[na - (k + 1)]? = some (a[na - (k + 1)]'(by omega)) := List.getElem?_eq_getElem (by omega)
    have m0 := m.appA ha hn k (by omega) fun i x h1 h2 => h i x (by omega) h2
    rw [show na - k = na - (k + 1) + 1 by omega] at m0
    have m1 := m0.pushA ha e (h _ _ (Nat.le_refl _) (by omega) e)
    rw [drop_one e, List.take_succ_cons]
    exact m1
theorem HI.appB {a b o : List Keyed} {na nb : Nat} (m : HI a b o na nb) (hb : b.Pairwise Le) (hn : nb ≤ b.length) : ∀ k, k ≤ nb → (∀ i x, nb - k ≤ i → i < nb → b[i]? = some x → ∀ y ∈ a.take na, kn y ≤ kn x) → HI a b ((b.drop (nb - k)).take k ++ o) na (nb - k)
  | 0, _, _ => by simpa using m
  | k + 1, hk, h => by
    have e : b[nb - (k + 1)]? = some (b[nb - (k + 1)]'(by omega)) := List.getElem?_eq_getElem (by omega)
    have m0 := m.appB hb hn k (by omega) fun i x h1 h2 => h i x (by omega) h2
    rw [show nb - k = nb - (k + 1) + 1 by omega] at m0
    have m1 := m0.pushB hb e (h _ _ (Nat.le_refl _) (by omega) e)
    rw [drop_one e, List.take_succ_cons]
    exact m1
theorem HI.doneA {a b o : List Keyed} {nb : Nat} (m : HI a b o 0 nb) (hb : b.Pairwise Le) : Res a b (a.take 0 ++ b.take nb ++ o) := by
  rw [List.take_zero, List.nil_append]
  refine ⟨?_, ?_⟩
  · have := m.perm.append_left (b.take nb)
    rw [List.drop_zero, ← List.append_assoc] at this
    refine this.trans ((List.perm_append_comm (l₁ := b.take nb) (l₂ := a)).append_right (b.drop nb) |>.trans ?_)
    rw [List.append_assoc, List.take_append_drop]
  · rw [List.pairwise_append]
    exact ⟨hb.take, m.srt, fun u hu v hv => m.le v hv u (.inr hu)⟩
theorem HI.doneB {a b o : List Keyed} {na : Nat} (m : HI a b o na 0) (ha : a.Pairwise Le) : Res a b (a.take na ++ b.take 0 ++ o) := by
  rw [List.take_zero, List.append_nil]
  refine ⟨?_, ?_⟩
  · have := m.perm.append_left (a.take na)
    rw [List.drop_zero, ← List.append_assoc, List.take_append_drop] at this
    exact this
  · rw [List.pairwise_append]
    exact ⟨ha.take, m.srt, fun u hu v hv => m.le v hv u (.inl hu)⟩
noncomputable def mergeHi' : Array Keyed → Array Keyed → StateT SortSt Sem (Array Keyed) := sortPriv% PySem.Builtin.mergeHi
noncomputable def dh (a b out : Array Keyed) (na nb : Nat) : Array Keyed := a.extract 0 na ++ b.extract 0 nb ++ out.reverse
noncomputable def fB (a b out : Array Keyed) (na nb : Nat) : Array Keyed := b.extract 0 nb ++ a.extract 0 na ++ out.reverse
theorem dh_list (a b out : Array Keyed) (na nb : Nat) : (dh a b out na nb).toList = a.toList.take na ++ b.toList.take nb ++ out.toList.reverse := by
  unfold dh
  simp [Array.toList_extract]
abbrev HiT := Option (Array Keyed) × Nat × Nat × Array Keyed × Nat × Nat × Nat
noncomputable def hiC (a b : Array Keyed) (na nb : Nat) (out : Array Keyed) (mg ac bc : Nat) : StateT SortSt Sem (ForInStep HiT) := do
  let v ← elem' a (na - 1)
  if na - 1 == 0 then pure (.done (some (dh a b (out.push v) (na - 1) nb), na - 1, nb, out.push v, mg, ac, bc))
  else if ac < 7 && bc < 7 then pure (.done (none, na - 1, nb, out.push v, mg, ac, bc)) else pure (.yield (none, na - 1, nb, out.push v, mg, ac, bc))
noncomputable def hiB (a b : Array Keyed) (na nb : Nat) (out : Array Keyed) (mg ac bc : Nat) : StateT SortSt Sem (ForInStep HiT) := do
  let u ← elem' b (nb - 1)
  if nb - 1 == 1 then pure (.done (some (fB a b (out.push u) na (nb - 1)), na, nb - 1, out.push u, mg, ac, bc))
  else
    let v ← elem' a (na - 1)
    let x ← gallop' true v b 0 (nb - 1) (nb - 1 - 1)
    match x with
    | some at_ =>
      if nb - 1 - at_ > 0 then
        if at_ == 1 then pure (.done (some (fB a b (out.push u ++ (b.extract at_ (nb - 1)).reverse) na at_), na, at_, out.push u ++ (b.extract at_ (nb - 1)).reverse, mg, ac, nb - 1 - at_))
        else if at_ == 0 then pure (.done (some (dh a b (out.push u ++ (b.extract at_ (nb - 1)).reverse) na at_), na, at_, out.push u ++ (b.extract at_ (nb - 1)).reverse, mg, ac, nb - 1 - at_))
        else hiC a b na at_ (out.push u ++ (b.extract at_ (nb - 1)).reverse) mg ac (nb - 1 - at_)
      else hiC a b na (nb - 1) (out.push u) mg ac (nb - 1 - at_)
    | _ => pure (.done (some (dh a b (out.push u) na (nb - 1)), na, nb - 1, out.push u, mg, ac, bc))
/-- what both halves of a merge from the end start from -/
structure HC (st : SortSt) (a b : Array Keyed) : Prop where
  hk : kindOf st = oneType'
  iA : ∀ x ∈ a.toList, IsI x
  iB : ∀ x ∈ b.toList, IsI x
  sA : a.toList.Pairwise Le
  sB : b.toList.Pairwise Le
  hf : ∀ x, b.toList[0]? = some x → ∀ y ∈ a.toList, kn x ≤ kn y
theorem HC.rA {st : SortSt} {a b out : Array Keyed} {na nb : Nat} (c : HC st a b) (m : HI a.toList b.toList out.toList.reverse na nb) (e : na = 0) : Res a.toList b.toList (dh a b out na nb).toList := by subst e; rw [dh_list]; exact m.doneA c.sB
theorem HC.rB {st : SortSt} {a b out : Array Keyed} {na nb : Nat} (c : HC st a b) (m : HI a.toList b.toList out.toList.reverse na nb) (e : nb = 0) : Res a.toList b.toList (dh a b out na nb).toList := by subst e; rw [dh_list]; exact m.doneB c.sA
/-! ### two runs merged in place -/
noncomputable def wr (sa : Nat) (arr : Array Keyed) (l : List (Keyed × Nat)) : Array Keyed := l.foldl (fun a p => a.setIfInBounds (sa + p.2) p.1) arr
noncomputable def SegS (arr : Array Keyed) (lo n : Nat) : Prop := ∀ i j, lo ≤ i → i ≤ j → j < lo + n → K arr i ≤ K arr j
noncomputable def AllI (arr : Array Keyed) : Prop := ∀ x ∈ arr.toList, IsI x
end
end PySem.Tim
/-! sorting 64 and more numbers: the runs. -/
namespace PySem.Tim
open PySem PyProof.Rows
section
variable {prog : Program} {w : World} {A : Around} {E : Value → Shared → Prop} {s : Shared}
/-! ### runs from any place on -/
structure TB (a₀ : Array Keyed) (st : SortSt) : Prop where
  perm : (arrOf st).Perm a₀
  kind : kindOf st = oneType'
  failed : failedOf st = none
theorem TB.size {a₀ : Array Keyed} {st : SortSt} (h : TB a₀ st) : (arrOf st).size = a₀.size := h.perm.size_eq
theorem TB.all {a₀ : Array Keyed} {st : SortSt} (h : TB a₀ st) (h0 : AllI a₀) : AllI (arrOf st) := fun x hx => h0 x ((Array.perm_iff_toList_perm.mp h.perm).mem_iff.mp hx)
noncomputable def Dst (a₀ : Array Keyed) : Prop := (a₀.toList.map kn).Nodup
theorem TB.ne {a₀ : Array Keyed} {st : SortSt} (h : TB a₀ st) (hd : Dst a₀) {i j : Nat} (hij : i < j) (hj : j < a₀.size) : K (arrOf st) i ≠ K (arrOf st) j := by
  have hz := h.size
  obtain ⟨x, ex, _⟩ := arr_get (a := arrOf st) (i := i) (by omega)
  obtain ⟨y, ey, _⟩ := arr_get (a := arrOf st) (i := j) (by omega)
  have nd : ((arrOf st).toList.map kn).Nodup := (((Array.perm_iff_toList_perm.mp h.perm).map kn).nodup_iff).mpr hd
  rw [K_get ex, K_get ey]
  intro e
  rw [List.nodup_iff_pairwise_ne, List.pairwise_map] at nd
  obtain ⟨hx, rfl⟩ := List.getElem?_eq_some_iff.mp ex
  obtain ⟨hy, rfl⟩ := List.getElem?_eq_some_iff.mp ey
  exact List.pairwise_iff_getElem.mp nd i j hx hy hij e
/-- the array changed from lo on -/
noncomputable def From (lo : Nat) (st st' : SortSt) : Prop := pendingOf st' = pendingOf st ∧ ∀ t, t < lo → (arrOf st')[t]? = (arrOf st)[t]?
theorem From.refl (lo : Nat) (st : SortSt) : From lo st st := ⟨rfl, fun _ _ => rfl⟩
theorem From.trans {lo : Nat} {a b c : SortSt} (h : From lo a b) (k : From lo b c) : From lo a c := ⟨k.1.trans h.1, fun t ht => (k.2 t ht).trans (h.2 t ht)⟩
/-! ### all runs -/
noncomputable def Runs (arr : Array Keyed) : Nat → List (Nat × Nat × Nat) → Nat → Prop
  | s, [], e => s = e
  | s, (a, n, _) :: r, e => a = s ∧ 1 ≤ n ∧ SegS arr s n ∧ Runs arr (s + n) r e
theorem seg_congr {arr arr' : Array Keyed} {lo n : Nat} (h : ∀ t, lo ≤ t → t < lo + n → arr'[t]? = arr[t]?) (k : SegS arr lo n) : SegS arr' lo n := fun i j h1 h2 h3 => by
  rw [K_congr (h i h1 (by omega)), K_congr (h j (by omega) h3)]
  exact k i j h1 h2 h3
theorem Runs.le {arr : Array Keyed} : ∀ {P : List (Nat × Nat × Nat)} {s e : Nat}, Runs arr s P e → s + P.length ≤ e
  | [], s, e, h => by have : s = e := h; simp; omega
  | (a, n, p) :: r, s, e, h => by
    have := Runs.le h.2.2.2
    have := h.2.1
    simp
    omega
theorem Runs.congr {arr arr' : Array Keyed} : ∀ {P : List (Nat × Nat × Nat)} {s e : Nat}, (∀ t, s ≤ t → t < e → arr'[t]? = arr[t]?) → Runs arr s P e → Runs arr' s P e
  | [], s, e, _, h => h
  | (a, n, p) :: r, s, e, k, h => by
    have := Runs.le h.2.2.2
    exact ⟨h.1, h.2.1, seg_congr (fun t h1 h2 => k t h1 (by omega)) h.2.2.1, Runs.congr (fun t h1 h2 => k t (by omega) h2) h.2.2.2⟩
theorem Runs.push {arr : Array Keyed} {n : Nat} (n1 : 1 ≤ n) : ∀ {P : List (Nat × Nat × Nat)} {s e : Nat}, Runs arr s P e → SegS arr e n → Runs arr s (P ++ [(e, n, 0)]) (e + n)
  | [], s, e, h, k => by
    have : s = e := h
    subst this
    exact ⟨rfl, n1, k, rfl⟩
  | (a, m, p) :: r, s, e, h, k => ⟨h.1, h.2.1, h.2.2.1, Runs.push n1 h.2.2.2 k⟩
theorem Runs.at {arr : Array Keyed} : ∀ {P : List (Nat × Nat × Nat)} {s e i sa na pw sb nb pw2 : Nat}, Runs arr s P e → P[i]? = some (sa, na, pw) → P[i + 1]? = some (sb, nb, pw2) →
    s ≤ sa ∧ sb = sa + na ∧ 1 ≤ na ∧ 1 ≤ nb ∧ SegS arr sa na ∧ SegS arr sb nb ∧ sa + na + nb ≤ e ∧
      ∀ arr', (∀ t, t < sa ∨ sa + na + nb ≤ t → arr'[t]? = arr[t]?) → SegS arr' sa (na + nb) → Runs arr' s ((P.set i (sa, na + nb, pw)).eraseIdx (i + 1)) e
  | [], s, e, i, sa, na, pw, sb, nb, pw2, h, e1, e2 => by simp at e1
  | (a, n, p) :: r, s, e, 0, sa, na, pw, sb, nb, pw2, h, e1, e2 => by
    simp at e1
    obtain ⟨rfl, rfl, rfl⟩ := e1
    cases r with
    | nil => simp at e2
    | cons q r =>
      obtain ⟨b, m, p'⟩ := q
      simp at e2
      obtain ⟨rfl, rfl, rfl⟩ := e2
      obtain ⟨rfl, n1, s1, rfl, m1, s2, rest⟩ := h
      have := Runs.le rest
      refine ⟨Nat.le_refl _, rfl, n1, m1, s1, s2, by omega, fun arr' k sg => ?_⟩
      exact ⟨rfl, by omega, sg, by rw [← Nat.add_assoc]; exact Runs.congr (fun t h1 h2 => k t (.inr (by omega))) rest⟩
  | (a, n, p) :: r, s, e, i + 1, sa, na, pw, sb, nb, pw2, h, e1, e2 => by
    simp at e1 e2
    obtain ⟨rfl, n1, s1, rest⟩ := h
    obtain ⟨q1, q2, q3, q4, q5, q6, q7, q8⟩ := Runs.at rest e1 e2
    refine ⟨by omega, q2, q3, q4, q5, q6, q7, fun arr' k sg => ?_⟩
    exact ⟨rfl, n1, seg_congr (fun t h1 h2 => k t (.inl (by omega))) s1, q8 arr' k sg⟩
end
end PySem.Tim
/-! sorted() of a dict's keys, as many as there are. -/
namespace PySem.Tim
open PySem PyProof.Rows
section
variable {prog : Program} {w : World} {A : Around} {E : Value → Shared → Prop} {s : Shared}
end
end PySem.Tim
namespace L2
open PySem PySem.Spec PyProof.Rows PySem.W
section
variable {X : Cx} {K : PySem.W.Frag}
end
end L2
/-! ### try: if .. one call, else another -/
namespace L2
open PySem PySem.Spec PyProof.Rows
section
variable {X : Cx} {k k2 : Nat} {x x2 : Str} {ps ps2 : List Str} {sp sp2 : Sp} {e e2 : Expr} {es es2 : List Expr} {t t2 : TA} {p pos p2 pos2 : Pos} {cx n : Str} {np hpos epos epos2 tpos ipos : Pos} {b₀ : Stmt} {suite : List Stmt} {i : Nat} {ts : TS} {C2 : Addr} {c : Expr} {tc : TT}
noncomputable def tTryI (K : PySem.W.Frag) (tc : TT) (sp : Sp) (t : TA) (sp2 : Sp) (t2 : TA) (j : Nat) (C2 : Addr) (i : Nat) (ts : TS) : TS := fun D σ H => tc σ H fun d H1 => if d = true then tTryA K sp t j C2 i ts D σ H1 else tTryA K sp2 t2 j C2 i ts D σ H1
end
end L2
/-! ### instances of a class of the text -/
namespace L2
open PySem PySem.Spec PyProof.Rows
structure MkCal (P : Program) (w : World) (K : PySem.W.Frag) (mg : Str → Option Value) (base : Heap) (CX : CXT) (k : Nat) (x : Str) (C : Addr) (ps : List Str) (sp : Sp) : Prop where
  ex : ∃ f fd, Mk K C f ∧ FnOk P w K mg base CX k f fd ps sp ∧ mg x = some (.ref C) ∧ Binds K fd ps []
section
variable {X : Cx}
theorem pe_mk {CX : CXT} {k : Nat} {x : Str} {C : Addr} {ps : List Str} {sp : Sp} {E : XK} {e : Expr} {es : List Expr} {t : TA} {p pos : Pos} (M : MkCal X.prog X.w X.K X.mg X.base CX k x C ps sp) (hr : Room (k + 1) X.A) (hg : Gl X x) (hx : Passes CX X E) (ha : PA X (e :: es) t)
    (hdb : (x == ("__debug__" : Str)) = false := by decide) (he : starEach (e :: es) X.env = (false, eval e X.env) :: starEach es X.env := by rfl) (hpl : (backTo pos (starEach es X.env)).any (·.1) = false := by rfl) :
    PE X (.Call (.Name x p) (e :: es) [] pos) (tMake C sp [] E t) := by
  obtain ⟨f, fd, m, F, hm, hb⟩ := M.ex
  exact pe_make m F hr hg hm hb .nil hx ha hdb he hpl
end
structure DnI (K : PySem.W.Frag) (mg : Str → Option Value) (x qual : Str) (st : Stmt) (C : Addr) : Prop where
  ex : ∃ f fd, Fun K "__init__" qual st f fd ∧ Mk K C f ∧ mg x = some (.ref C)
theorem DnI.cal {P : Program} {w : World} {K : PySem.W.Frag} {mg : Str → Option Value} {base : Heap} {CX : CXT} {x qual : Str} {st : Stmt} {C : Addr} {ps : List Str} {k : Nat} {sp : Sp} (D : DnI K mg x qual st C)
    (hb : ∀ (kV doc pm : Value) (an : Option Addr) (cdv ct : Value) (us : List Value), us.length = ps.length → bindArgs (PySem.W.fnOf "__init__" qual (defArgs st) (defBody st) (defScope st) .none kV doc pm an cdv ct) ⟨us, []⟩ = pure (ps.zip us))
    (h : ∀ f fd, Fun K "__init__" qual st f fd → FnOk P w K mg base CX k f fd ps sp) : MkCal P w K mg base CX k x C ps sp := by
  obtain ⟨f, fd, F, m, hm⟩ := D.ex
  exact ⟨f, fd, m, h f fd F, hm, F.binds hb⟩
end L2
namespace Wq
abbrev Sh := Int × Int
noncomputable def Lw (x : Sh) : Prop := 0 < x.2 ∧ Nm.g x.1 x.2 = 1
noncomputable def sc (L : Int) (x : Sh) : Int := x.1 * (L / x.2)
theorem sc_bot {L : Int} {x : Sh} (h : x.2 ∣ L) : sc L x * x.2 = x.1 * L := by
  unfold sc
  rw [Int.mul_assoc, Int.ediv_mul_cancel h]
/-- a share is over L what its numbers say -/
theorem of_cross {L s : Int} {x : Sh} (h : Lw x) (L0 : 0 < L) (e : x.1 * L = s * x.2) : x.2 ∣ L ∧ sc L x = s := by
  have c : Int.gcd x.1 x.2 = 1 := by have := h.2; unfold Nm.g at this; omega
  have d : x.2 ∣ L := Nm.cop_dvd (q := x.2) (a := x.1) ⟨s, by rw [e, Int.mul_comm]⟩ c
  refine ⟨d, ?_⟩
  have := sc_bot d
  rw [e] at this
  exact Int.eq_of_mul_eq_mul_right (by have := h.1; omega) this
theorem sc_eq {L : Int} {x y : Sh} (hx : Lw x) (hy : Lw y) (L0 : 0 < L) (dx : x.2 ∣ L) (dy : y.2 ∣ L) : sc L x = sc L y ↔ x = y := by
  constructor
  · intro e
    have e1 := sc_bot dx
    have e2 := sc_bot dy
    have c : x.1 * y.2 = y.1 * x.2 := by
      refine Int.eq_of_mul_eq_mul_right (show L ≠ 0 by omega) ?_
      calc x.1 * y.2 * L = (x.1 * L) * y.2 := Int.mul_right_comm ..
        _ = sc L x * x.2 * y.2 := by rw [e1]
        _ = (sc L y * y.2) * x.2 := by rw [e, Int.mul_right_comm]
        _ = y.1 * L * x.2 := by rw [e2]
        _ = y.1 * x.2 * L := Int.mul_right_comm ..
    obtain ⟨a, b⟩ := Nm.low_one hx.1 hy.1 hx.2 hy.2 c
    exact Prod.ext a b
  · intro e; rw [e]
theorem sc_mul {L k : Int} {x : Sh} (hx : 0 < x.2) (d : x.2 ∣ L) : sc (L * k) x = sc L x * k := by
  unfold sc
  rw [Int.mul_comm L k, Int.mul_ediv_assoc _ d, Int.mul_assoc, Int.mul_comm k]
noncomputable def low (a b : Int) : Sh := (Nm.st a b, Nm.sb a b)
theorem low_lw {a b : Int} (h : 0 < b) : Lw (low a b) := ⟨Nm.sb_pos (by omega), Nm.st_low (by omega)⟩
/-- what a fraction is over L -/
theorem low_sc {a b L s : Int} (h : 0 < b) (L0 : 0 < L) (e : a * L = s * b) : (low a b).2 ∣ L ∧ sc L (low a b) = s := by
  refine of_cross (low_lw h) L0 ?_
  have c := Nm.st_cross a b
  show Nm.st a b * L = s * Nm.sb a b
  refine Int.eq_of_mul_eq_mul_right (show b ≠ 0 by omega) ?_
  calc Nm.st a b * L * b = (Nm.st a b * b) * L := Int.mul_right_comm ..
    _ = a * Nm.sb a b * L := by rw [c]
    _ = (a * L) * Nm.sb a b := Int.mul_right_comm ..
    _ = s * b * Nm.sb a b := by rw [e]
    _ = s * Nm.sb a b * b := Int.mul_right_comm ..
noncomputable def pl (x y : Sh) : Sh := low (x.1 * y.2 + y.1 * x.2) (x.2 * y.2)
noncomputable def tm (x y : Sh) : Sh := low (x.1 * y.1) (x.2 * y.2)
theorem pl_sc {L : Int} {x y : Sh} (hx : 0 < x.2) (hy : 0 < y.2) (L0 : 0 < L) (dx : x.2 ∣ L) (dy : y.2 ∣ L) : Lw (pl x y) ∧ (pl x y).2 ∣ L ∧ sc L (pl x y) = sc L x + sc L y := by
  have e1 := sc_bot dx
  have e2 := sc_bot dy
  refine ⟨low_lw (Int.mul_pos hx hy), low_sc (Int.mul_pos hx hy) L0 ?_⟩
  calc (x.1 * y.2 + y.1 * x.2) * L = (x.1 * L) * y.2 + (y.1 * L) * x.2 := by rw [Int.add_mul, Int.mul_right_comm, Int.mul_right_comm y.1]
    _ = sc L x * x.2 * y.2 + sc L y * y.2 * x.2 := by rw [e1, e2]
    _ = (sc L x + sc L y) * (x.2 * y.2) := by rw [Int.add_mul, Int.mul_assoc, Int.mul_assoc, Int.mul_comm y.2 x.2]
/-- a part of a whole, times a share -/
theorem tm_sc {L W w : Int} {y : Sh} (hy : 0 < y.2) (L0 : 0 < L) (W0 : 0 < W) (dy : y.2 ∣ L) : Lw (tm (low w W) y) ∧ (tm (low w W) y).2 ∣ L * W ∧ sc (L * W) (tm (low w W) y) = w * sc L y := by
  have lw := low_lw (a := w) W0
  have e2 := sc_bot dy
  have c : Nm.st w W * W = w * Nm.sb w W := Nm.st_cross w W
  refine ⟨low_lw (Int.mul_pos lw.1 hy), low_sc (Int.mul_pos lw.1 hy) (Int.mul_pos L0 W0) ?_⟩
  show Nm.st w W * y.1 * (L * W) = w * sc L y * (Nm.sb w W * y.2)
  have r : ∀ a b c d : Int, a * b * (c * d) = (a * d) * (b * c) := by
    intro a b c d
    rw [Int.mul_comm c d, Int.mul_assoc a b, ← Int.mul_assoc b d, Int.mul_comm b d, Int.mul_assoc d b, ← Int.mul_assoc a d]
  calc Nm.st w W * y.1 * (L * W) = (Nm.st w W * W) * (y.1 * L) := r ..
    _ = (w * Nm.sb w W) * (sc L y * y.2) := by rw [c, e2]
    _ = w * sc L y * (Nm.sb w W * y.2) := by rw [Int.mul_comm (sc L y) y.2, r w (Nm.sb w W) y.2 (sc L y)]
/-- the sum of a throw -/
noncomputable def wsum (L : Int) (ws : List (Int × Int)) (v : Int → Sh) : Int := (ws.map fun p => p.1 * sc L (v p.2)).sum
noncomputable def tsum (W : Int) (v : Int → Sh) : Sh → List (Int × Int) → Sh
  | a, [] => a
  | a, p :: ws => tsum W v (pl a (tm (low p.1 W) (v p.2))) ws
theorem tsum_sc {L W : Int} {v : Int → Sh} (L0 : 0 < L) (W0 : 0 < W) : ∀ {ws : List (Int × Int)} {a : Sh}, (∀ p ∈ ws, 0 < (v p.2).2 ∧ (v p.2).2 ∣ L) → Lw a → a.2 ∣ L * W → Lw (tsum W v a ws) ∧ (tsum W v a ws).2 ∣ L * W ∧ sc (L * W) (tsum W v a ws) = sc (L * W) a + wsum L ws v
  | [], a, _, la, da => ⟨la, da, by show sc (L * W) a = sc (L * W) a + 0; omega⟩
  | p :: ws, a, h, la, da => by
    have hp := h p (List.mem_cons_self ..)
    obtain ⟨t1, t2, t3⟩ := tm_sc (w := p.1) hp.1 L0 W0 hp.2
    obtain ⟨q1, q2, q3⟩ := pl_sc la.1 t1.1 (Int.mul_pos L0 W0) da t2
    obtain ⟨r1, r2, r3⟩ := tsum_sc (v := v) L0 W0 (ws := ws) (fun q hq => h q (List.mem_cons_of_mem _ hq)) q1 q2
    refine ⟨r1, r2, ?_⟩
    show sc (L * W) (tsum W v (pl a (tm (low p.1 W) (v p.2))) ws) = _
    rw [r3, q3, t3]
    show _ = sc (L * W) a + (p.1 * sc L (v p.2) + wsum L ws v)
    omega
end Wq
/-! What a place is worth by its ways, and the reckoning over a common bottom. -/
namespace Wq
open L2
noncomputable def lessP (a b : Sh) : Bool := decide (a.1 * b.2 < b.1 * a.2)
noncomputable def atW (ws : List Sh) (i : Int) : Sh := ws.getD i.toNat (0, 1)
/-- the law's own choice among ways -/
noncomputable def bestP (who : Int) (ws : List Sh) : Sh → List Int → Sh
  | a, [] => a
  | a, t :: to => bestP who ws (if (who = 1 ∧ lessP a (atW ws t) = true) ∨ (who = 2 ∧ lessP (atW ws t) a = true) then atW ws t else a) to
noncomputable def totW (ways : List (Int × Int)) : Int := (ways.map (·.1)).sum
noncomputable def byP (ws : List Sh) : Pl → Sh
  | .fin g => g
  | .thr g ways => tsum (totW ways) (atW ws) g ways
  | .pck who to => bestP who ws (atW ws (to.getD 0 0)) to
theorem less_sc {L : Int} {a b : Sh} (ha : 0 < a.2) (hb : 0 < b.2) (L0 : 0 < L) (da : a.2 ∣ L) (db : b.2 ∣ L) : lessP a b = true ↔ sc L a < sc L b := by
  have e1 := sc_bot da
  have e2 := sc_bot db
  have p1 : 0 < a.2 * b.2 := Int.mul_pos ha hb
  have k1 : a.1 * b.2 * L = sc L a * (a.2 * b.2) := by
    calc a.1 * b.2 * L = (a.1 * L) * b.2 := Int.mul_right_comm ..
      _ = sc L a * a.2 * b.2 := by rw [e1]
      _ = _ := Int.mul_assoc ..
  have k2 : b.1 * a.2 * L = sc L b * (a.2 * b.2) := by
    calc b.1 * a.2 * L = (b.1 * L) * a.2 := Int.mul_right_comm ..
      _ = sc L b * b.2 * a.2 := by rw [e2]
      _ = sc L b * (b.2 * a.2) := Int.mul_assoc ..
      _ = _ := by rw [Int.mul_comm b.2 a.2]
  unfold lessP
  rw [decide_eq_true_iff, ← Int.mul_lt_mul_right L0, k1, k2, Int.mul_lt_mul_right p1]
/-- the greatest (or the least) of numbers, from one on -/
noncomputable def topI (who : Int) : Int → List Int → Int
  | a, [] => a
  | a, x :: xs => topI who (if who = 1 then max a x else min a x) xs
theorem best_sc {L who : Int} {ws : List Sh} (L0 : 0 < L) (hw : who = 1 ∨ who = 2) : ∀ {to : List Int} {a : Sh}, (∀ t ∈ to, Lw (atW ws t) ∧ (atW ws t).2 ∣ L) → Lw a → a.2 ∣ L → Lw (bestP who ws a to) ∧ (bestP who ws a to).2 ∣ L ∧ sc L (bestP who ws a to) = topI who (sc L a) (to.map fun t => sc L (atW ws t))
  | [], a, _, la, da => ⟨la, da, rfl⟩
  | t :: to, a, h, la, da => by
    obtain ⟨lt, dt⟩ := h t (List.mem_cons_self ..)
    have q1 := less_sc la.1 lt.1 L0 da dt
    have q2 := less_sc lt.1 la.1 L0 dt da
    have hh : ∀ u ∈ to, Lw (atW ws u) ∧ (atW ws u).2 ∣ L := fun u hu => h u (List.mem_cons_of_mem _ hu)
    show Lw (bestP who ws (if _ then atW ws t else a) to) ∧ _ ∧ sc L (bestP who ws (if _ then atW ws t else a) to) = topI who (if who = 1 then max (sc L a) (sc L (atW ws t)) else min (sc L a) (sc L (atW ws t))) (to.map fun t => sc L (atW ws t))
    by_cases c : (who = 1 ∧ lessP a (atW ws t) = true) ∨ (who = 2 ∧ lessP (atW ws t) a = true)
    · obtain ⟨r1, r2, r3⟩ := best_sc L0 hw hh lt dt
      have e : (if who = 1 then max (sc L a) (sc L (atW ws t)) else min (sc L a) (sc L (atW ws t))) = sc L (atW ws t) := by
        rw [q1, q2] at c
        rcases hw with rfl | rfl
        · rw [if_pos rfl]; omega
        · rw [if_neg (by decide)]; omega
      rw [if_pos c, e]
      exact ⟨r1, by show (bestP who ws (if _ then atW ws t else a) to).2 ∣ L; rw [if_pos c]; exact r2, r3⟩
    · obtain ⟨r1, r2, r3⟩ := best_sc L0 hw hh la da
      have e : (if who = 1 then max (sc L a) (sc L (atW ws t)) else min (sc L a) (sc L (atW ws t))) = sc L a := by
        rw [q1, q2] at c
        rcases hw with rfl | rfl
        · rw [if_pos rfl]; omega
        · rw [if_neg (by decide)]; omega
      rw [if_neg c, e]
      exact ⟨r1, by show (bestP who ws (if _ then atW ws t else a) to).2 ∣ L; rw [if_neg c]; exact r2, r3⟩
/-- what the program asks of a place, in numbers over L -/
noncomputable def fitP (L : Int) (ws : List Sh) (w : Sh) : Pl → Bool
  | .fin g => decide (sc L w = sc L g)
  | .thr g ways => decide ((sc L w - sc L g) * totW ways = wsum L ways (atW ws))
  | .pck who to => decide (sc L w = topI who (sc L (atW ws (to.getD 0 0))) (to.map fun t => sc L (atW ws t)))
noncomputable def Dv (L : Int) (x : Sh) : Prop := Lw x ∧ x.2 ∣ L
noncomputable def Fine (L : Int) (ws : List Sh) : Pl → Prop
  | .fin g => Dv L g
  | .thr g ways => Dv L g ∧ 0 < totW ways ∧ ∀ p ∈ ways, Dv L (atW ws p.2)
  | .pck who to => (who = 1 ∨ who = 2) ∧ 0 < to.length ∧ ∀ t ∈ to, Dv L (atW ws t)
theorem fit_by {L : Int} {ws : List Sh} {w : Sh} {q : Pl} (L0 : 0 < L) (hw : Dv L w) (h : Fine L ws q) : fitP L ws w q = decide (byP ws q = w) := by
  cases q with
  | fin g =>
    unfold fitP byP
    exact decide_eq_decide.mpr ((sc_eq hw.1 h.1 L0 hw.2 h.2).trans eq_comm)
  | thr g ways =>
    obtain ⟨hg, W0, hs⟩ := h
    have LW : 0 < L * totW ways := Int.mul_pos L0 W0
    have dg : g.2 ∣ L * totW ways := Int.dvd_trans hg.2 (Int.dvd_mul_right ..)
    have dw : w.2 ∣ L * totW ways := Int.dvd_trans hw.2 (Int.dvd_mul_right ..)
    obtain ⟨t1, t2, t3⟩ := tsum_sc (v := atW ws) L0 W0 (ws := ways) (fun p hp => ⟨(hs p hp).1.1, (hs p hp).2⟩) hg.1 dg
    have e := sc_eq t1 hw.1 LW t2 dw
    rw [t3, sc_mul hg.1.1 hg.2, sc_mul hw.1.1 hw.2] at e
    unfold fitP byP
    refine decide_eq_decide.mpr (Iff.trans ?_ e)
    rw [Int.sub_mul]
    omega
  | pck who to =>
    obtain ⟨hq, l0, hs⟩ := h
    have m : to.getD 0 0 ∈ to := by
      cases to with
      | nil => simp at l0
      | cons a b => simp
    obtain ⟨b1, b2, b3⟩ := best_sc L0 hq hs (hs _ m).1 (hs _ m).2
    have e := sc_eq b1 hw.1 L0 b2 hw.2
    unfold fitP byP
    rw [b3] at e
    exact decide_eq_decide.mpr (eq_comm.trans e)
end Wq
/-! The greatest and the least, a common bottom, how large worths grow. -/
namespace Wq
open L2
theorem topI_mem {who : Int} : ∀ {xs : List Int} {a : Int}, topI who a xs = a ∨ topI who a xs ∈ xs
  | [], _ => .inl rfl
  | x :: xs, a => by
    show topI who (if who = 1 then max a x else min a x) xs = a ∨ topI who (if who = 1 then max a x else min a x) xs ∈ x :: xs
    rcases topI_mem (who := who) (xs := xs) (a := if who = 1 then max a x else min a x) with h | h
    · have : (if who = 1 then max a x else min a x) = a ∨ (if who = 1 then max a x else min a x) = x := by split <;> omega
      rcases this with e | e
      · rw [h, e]; exact .inl rfl
      · rw [h, e]; exact .inr (List.mem_cons_self ..)
    · exact .inr (List.mem_cons_of_mem _ h)
theorem topI_max : ∀ {xs : List Int} {a : Int}, a ≤ topI 1 a xs ∧ ∀ x ∈ xs, x ≤ topI 1 a xs
  | [], a => ⟨Int.le_refl a, by simp⟩
  | x :: xs, a => by
    have e : topI 1 a (x :: xs) = topI 1 (max a x) xs := rfl
    obtain ⟨h1, h2⟩ := topI_max (xs := xs) (a := max a x)
    rw [e]
    refine ⟨by omega, fun y hy => ?_⟩
    rcases List.mem_cons.mp hy with rfl | hy
    · omega
    · exact h2 y hy
theorem topI_min : ∀ {xs : List Int} {a : Int}, topI 2 a xs ≤ a ∧ ∀ x ∈ xs, topI 2 a xs ≤ x
  | [], a => ⟨Int.le_refl a, by simp⟩
  | x :: xs, a => by
    have e : topI 2 a (x :: xs) = topI 2 (min a x) xs := rfl
    obtain ⟨h1, h2⟩ := topI_min (xs := xs) (a := min a x)
    rw [e]
    refine ⟨by omega, fun y hy => ?_⟩
    rcases List.mem_cons.mp hy with rfl | hy
    · omega
    · exact h2 y hy
theorem top_is_max {xs : List Int} {a M : Int} (ha : a ∈ xs) (hM : M ∈ xs) (h : ∀ x ∈ xs, x ≤ M) : topI 1 a xs = M := by
  have h1 := topI_max (xs := xs) (a := a)
  have h2 := h1.2 M hM
  have h3 : topI 1 a xs ∈ xs := by rcases topI_mem (who := 1) (xs := xs) (a := a) with e | e
                                   · rw [e]; exact ha
                                   · exact e
  have := h _ h3
  omega
theorem top_is_min {xs : List Int} {a M : Int} (ha : a ∈ xs) (hM : M ∈ xs) (h : ∀ x ∈ xs, M ≤ x) : topI 2 a xs = M := by
  have h1 := topI_min (xs := xs) (a := a)
  have h2 := h1.2 M hM
  have h3 : topI 2 a xs ∈ xs := by rcases topI_mem (who := 2) (xs := xs) (a := a) with e | e
                                   · rw [e]; exact ha
                                   · exact e
  have := h _ h3
  omega
/-- a common bottom, as the program reckons it -/
noncomputable def lcmS (c b : Int) : Int := c / Nm.g c b * b
noncomputable def lcmL : Int → List Sh → Int
  | c, [] => c
  | c, x :: xs => lcmL (lcmS c x.2) xs
theorem lcmS_ok {c b : Int} (hc : 0 < c) (hb : 0 < b) : 0 < lcmS c b ∧ c ∣ lcmS c b ∧ b ∣ lcmS c b ∧ ∀ {Z : Int}, c ∣ Z → b ∣ Z → lcmS c b ∣ Z := by
  have g0 := Nm.g_pos (a := c) (b := b) (by omega)
  have gl := Nm.g_dvd_l c b
  have gr := Nm.g_dvd_r c b
  obtain ⟨u, hu⟩ := gl
  obtain ⟨v, hv⟩ := gr
  have e1 : c / Nm.g c b = u := by
    calc c / Nm.g c b = Nm.g c b * u / Nm.g c b := by rw [← hu]
      _ = u := Int.mul_ediv_cancel_left _ (by omega)
  have u0 : 0 < u := by rw [← e1]; exact Int.ediv_pos_of_pos_of_dvd hc (Nm.g_nn c b) ⟨u, hu⟩
  unfold lcmS
  rw [e1]
  refine ⟨Int.mul_pos u0 hb, ⟨v, ?_⟩, Int.dvd_mul_left .., fun {Z} h1 h2 => ?_⟩
  · calc u * b = u * (Nm.g c b * v) := by rw [← hv]
      _ = (Nm.g c b * u) * v := by rw [← Int.mul_assoc, Int.mul_comm u]
      _ = c * v := by rw [← hu]
  · obtain ⟨z, hz⟩ := h2
    -- u ∣ z, as u and v have no common part
    have cp : Int.gcd v u = 1 := by
      have h := Int.gcd_ediv_gcd_ediv_gcd (i := c) (j := b) (by unfold Nm.g at g0; omega)
      have e2 : b / Nm.g c b = v := by
        calc b / Nm.g c b = Nm.g c b * v / Nm.g c b := by rw [← hv]
          _ = v := Int.mul_ediv_cancel_left _ (by omega)
      have h' : Int.gcd (c / Nm.g c b) (b / Nm.g c b) = 1 := h
      rw [e1, e2, Int.gcd_comm] at h'
      exact h'
    obtain ⟨k, hk⟩ := h1
    have m : u * k = v * z := by
      refine Int.eq_of_mul_eq_mul_left (show Nm.g c b ≠ 0 by omega) ?_
      calc Nm.g c b * (u * k) = (Nm.g c b * u) * k := (Int.mul_assoc ..).symm
        _ = c * k := by rw [← hu]
        _ = Z := hk.symm
        _ = b * z := hz
        _ = (Nm.g c b * v) * z := by rw [← hv]
        _ = _ := Int.mul_assoc ..
    obtain ⟨j, hj⟩ := Nm.cop_dvd (q := u) (a := v) (b := z) ⟨k, m.symm⟩ cp
    exact ⟨j, by rw [hz, hj, ← Int.mul_assoc, Int.mul_comm b u]⟩
theorem lcmL_ok : ∀ {xs : List Sh} {c : Int}, 0 < c → (∀ x ∈ xs, 0 < x.2) → 0 < lcmL c xs ∧ c ∣ lcmL c xs ∧ (∀ x ∈ xs, x.2 ∣ lcmL c xs) ∧ ∀ {Z : Int}, c ∣ Z → (∀ x ∈ xs, x.2 ∣ Z) → lcmL c xs ∣ Z
  | [], c, hc, _ => ⟨hc, Int.dvd_refl c, by simp, fun h _ => h⟩
  | x :: xs, c, hc, h => by
    obtain ⟨a1, a2, a3, a4⟩ := lcmS_ok hc (h x (List.mem_cons_self ..))
    obtain ⟨b1, b2, b3, b4⟩ := lcmL_ok (xs := xs) a1 fun y hy => h y (List.mem_cons_of_mem _ hy)
    refine ⟨b1, Int.dvd_trans a2 b2, fun y hy => ?_, fun {Z} h1 h2 => b4 (a4 h1 (h2 x (List.mem_cons_self ..))) fun y hy => h2 y (List.mem_cons_of_mem _ hy)⟩
    rcases List.mem_cons.mp hy with rfl | hy
    · exact Int.dvd_trans a3 b2
    · exact b3 y hy
/-- a worth's size: its number is at most M -/
noncomputable def Vb (M : Int) (x : Sh) : Prop := -(M * x.2) ≤ x.1 ∧ x.1 ≤ M * x.2
theorem vb_sc {L M : Int} {x : Sh} (hx : 0 < x.2) (L0 : 0 < L) (d : x.2 ∣ L) : Vb M x ↔ -(M * L) ≤ sc L x ∧ sc L x ≤ M * L := by
  have e := sc_bot d
  have k : M * L * x.2 = M * x.2 * L := Int.mul_right_comm ..
  have i1 : ∀ p q : Int, p ≤ q ↔ p * L ≤ q * L := fun p q => ⟨fun h => Int.mul_le_mul_of_nonneg_right h (by omega), fun h => Int.le_of_mul_le_mul_right h L0⟩
  have i2 : ∀ p q : Int, p ≤ q ↔ p * x.2 ≤ q * x.2 := fun p q => ⟨fun h => Int.mul_le_mul_of_nonneg_right h (by omega), fun h => Int.le_of_mul_le_mul_right h hx⟩
  unfold Vb
  rw [i1 (-(M * x.2)), i1 x.1, i2 (-(M * L)), i2 (sc L x), e, Int.neg_mul, Int.neg_mul, k]
theorem wsum_vb {L M : Int} {v : Int → Sh} (L0 : 0 < L) (M0 : 0 ≤ M) : ∀ {ws : List (Int × Int)}, (∀ p ∈ ws, 0 ≤ p.1 ∧ 0 < (v p.2).2 ∧ (v p.2).2 ∣ L ∧ Vb M (v p.2)) → -(totW ws * (M * L)) ≤ wsum L ws v ∧ wsum L ws v ≤ totW ws * (M * L)
  | [], _ => by show -(0 * (M * L)) ≤ 0 ∧ (0 : Int) ≤ 0 * (M * L); omega
  | p :: ws, h => by
    obtain ⟨p0, q0, d, vb⟩ := h p (List.mem_cons_self ..)
    obtain ⟨a, b⟩ := wsum_vb (v := v) L0 M0 (ws := ws) fun q hq => h q (List.mem_cons_of_mem _ hq)
    obtain ⟨c1, c2⟩ := (vb_sc q0 L0 d).mp vb
    have m1 := Int.mul_le_mul_of_nonneg_left c1 p0
    have m2 := Int.mul_le_mul_of_nonneg_left c2 p0
    show -((p.1 + totW ws) * (M * L)) ≤ p.1 * sc L (v p.2) + wsum L ws v ∧ p.1 * sc L (v p.2) + wsum L ws v ≤ (p.1 + totW ws) * (M * L)
    rw [Int.add_mul]
    rw [Int.mul_neg] at m1
    omega
/-- a throw's worth is no larger than its gain and the largest worth behind it -/
theorem tsum_vb {L W M N : Int} {v : Int → Sh} (L0 : 0 < L) (W0 : 0 < W) (M0 : 0 ≤ M) {ws : List (Int × Int)} {g : Sh} (h : ∀ p ∈ ws, 0 ≤ p.1 ∧ 0 < (v p.2).2 ∧ (v p.2).2 ∣ L ∧ Vb M (v p.2)) (hW : totW ws ≤ W) (lg : Lw g) (dg : g.2 ∣ L) (vg : Vb N g) : Vb (N + M) (tsum W v g ws) := by
  obtain ⟨t1, t2, t3⟩ := tsum_sc (v := v) L0 W0 (ws := ws) (fun p hp => ⟨(h p hp).2.1, (h p hp).2.2.1⟩) lg (Int.dvd_trans dg (Int.dvd_mul_right L W))
  obtain ⟨a, b⟩ := wsum_vb (v := v) L0 M0 h
  have LW := Int.mul_pos L0 W0
  obtain ⟨c1, c2⟩ := (vb_sc (L := L * W) lg.1 LW (Int.dvd_trans dg (Int.dvd_mul_right L W))).mp vg
  refine (vb_sc t1.1 LW t2).mpr ?_
  have ml : 0 ≤ M * L := Int.mul_nonneg M0 (by omega)
  have k := Int.mul_le_mul_of_nonneg_right hW ml
  have e : (N + M) * (L * W) = N * (L * W) + W * (M * L) := by rw [Int.add_mul, ← Int.mul_assoc M, Int.mul_comm (M * L) W]
  rw [t3, e]
  omega
end Wq
namespace Wq
theorem lcmL_snoc : ∀ {xs : List Sh} {c : Int} {x : Sh}, lcmL c (xs ++ [x]) = lcmS (lcmL c xs) x.2
  | [], _, _ => rfl
  | y :: xs, c, x => lcmL_snoc (xs := xs) (c := lcmS c y.2) (x := x)
noncomputable def gainP : L2.Pl → Sh
  | .fin g => g
  | .thr g _ => g
  | .pck _ _ => (0, 1)
end Wq
namespace Wq
/-- what the program asks of a place, over its numbers -/
noncomputable def fitN (ts : List Int) (t g : Int) : L2.Pl → Bool
  | .fin _ => decide (t = g)
  | .thr _ ways => decide ((t - g) * totW ways = (ways.map fun p => p.1 * ts.getD p.2.toNat 0).sum)
  | .pck who to => decide (t = topI who (ts.getD (to.getD 0 0).toNat 0) (to.map fun x => ts.getD x.toNat 0))
end Wq
namespace Wq
theorem totW_bd : ∀ {ws : List (Int × Int)}, (∀ p ∈ ws, 1 ≤ p.1 ∧ p.1 ≤ 200000) → (ws.length : Int) ≤ totW ws ∧ totW ws ≤ 200000 * (ws.length : Int)
  | [], _ => by show (0 : Int) ≤ 0 ∧ (0 : Int) ≤ 200000 * 0; omega
  | p :: ws, h => by
    have hp := h p (List.mem_cons_self ..)
    have ih := totW_bd (ws := ws) fun q hq => h q (List.mem_cons_of_mem _ hq)
    show ((ws.length + 1 : Nat) : Int) ≤ p.1 + totW ws ∧ p.1 + totW ws ≤ 200000 * ((ws.length + 1 : Nat) : Int)
    omega
end Wq
namespace Wq
theorem tsum_snoc {W : Int} {v : Int → Sh} : ∀ {ws : List (Int × Int)} {a : Sh} {p : Int × Int}, tsum W v a (ws ++ [p]) = pl (tsum W v a ws) (tm (low p.1 W) (v p.2))
  | [], _, _ => rfl
  | q :: ws, a, p => tsum_snoc (ws := ws) (a := pl a (tm (low q.1 W) (v q.2))) (p := p)
theorem best_snoc {who : Int} {ws : List Sh} : ∀ {to : List Int} {a : Sh} {t : Int}, bestP who ws a (to ++ [t]) = if (who = 1 ∧ lessP (bestP who ws a to) (atW ws t) = true) ∨ (who = 2 ∧ lessP (atW ws t) (bestP who ws a to) = true) then atW ws t else bestP who ws a to
  | [], _, _ => rfl
  | q :: to, a, t => best_snoc (to := to) (t := t)
theorem totW_take {ways : List (Int × Int)} (h : ∀ p ∈ ways, 1 ≤ p.1 ∧ p.1 ≤ 200000) (j : Nat) : totW (ways.take j) ≤ totW ways := by
  have e : totW ways = totW (ways.take j) + totW (ways.drop j) := by
    unfold totW
    rw [← List.sum_append, ← List.map_append, List.take_append_drop]
  have := (totW_bd (ws := ways.drop j) fun p hp => h p (List.mem_of_mem_drop hp)).1
  omega
end Wq
namespace Wq
theorem best_all {P : Sh → Prop} {who : Int} {ws : List Sh} : ∀ {to : List Int} {a : Sh}, P a → (∀ t ∈ to, P (atW ws t)) → P (bestP who ws a to)
  | [], _, h, _ => h
  | t :: to, a, h, hs => by
    show P (bestP who ws (if _ then atW ws t else a) to)
    refine best_all ?_ fun u hu => hs u (List.mem_cons_of_mem _ hu)
    split
    · exact hs t (List.mem_cons_self ..)
    · exact h
end Wq
namespace K39
open PySem PySem.Spec PyProof.Rows L2
set_option maxHeartbeats 4000000
local macro_rules | `(tactic| simp_all only [$ls,*]) => `(tactic| simp only [L2.start, Pr, tRev, tLR, tMaxD, tSortR, tD1, tDPop1, tSl, tNoPart, tPart, rSlL, tDIn, tDNotIn, gSub, rSetL, tLst, tDNewK, tComp, L2.stC, tFor_eq, iList, iTup, iRng1, iRng2, iZip, iEnum, iDict, iStr, tChain, tSumV, tBM, rJoin, tJoined, jNil, jLit, jInt, jStr, tRaise, tDGet, tDGet2, tDGet1, sDPut, Option.join_some, List.getElem?_nil,  tSeq, tRet, tRetN, tIfS, tTest, tB, tOp, tUn, tVar, tC, tCB, tCons, tNil, tCall, tTupS, tAsg, gName, gNil, gCons, tPar, tNext, tDrop, tAnd, tOr, tNot, tAndV, tOrV, tNotV, tIf, rI, rI0, rU, rIxTH, rIxLH, rEqT, rNeT, rInT, rEq, rNe, scal, CPow, at0, at1, at2, List.map_cons, List.map_nil, List.length_cons, List.length_nil, Nat.reduceSub, Nat.reduceAdd, Nat.zero_add, List.replicate_zero, List.reduceReplicate, List.append_nil, List.nil_append, List.cons_append, List.getElem?_cons_zero, List.getElem?_cons_succ, List.set_cons_zero, List.set_cons_succ, Option.some.injEq, exists_eq_left', exists_eq_left, V.ref.injEq, V.int.injEq, V.bl.injEq, V.str.injEq, V.ty.injEq, HO.tup.injEq, HO.lst.injEq, List.cons.injEq, and_true, true_and, and_assoc, exists_and_left, decide_eq_true_eq, Bool.not_eq_true', decide_eq_false_iff_not, ite_true, ite_false, if_true, if_false, Int.reduceToNat, eq_self_iff_true, $ls,*])
seal L2.PE L2.PT L2.PW L2.PA L2.PS L2.PSs L2.PG L2.PGs L2.PI L2.PTs L2.PO L2.OpR L2.UnR L2.CallR L2.IxR L2.SlR L2.MtR L2.MtM
theorem strictP {P : Program} {w : World} : Strict (CX1 P w) := strict1 P w
noncomputable def top (i : Nat) : Stmt := PySem.Challenge.pw_pressluck_k39_misfits.main.body.getD i (.Pass ⟨0, 0, 0, 0⟩)
structure Txt (K : PySem.W.Frag) (mg : Str → Option Value) (q_Book : Addr) : Prop where
  z_abs : mg "abs" = none
  z_bool : mg "bool" = none
  z_enumerate : mg "enumerate" = none
  z_int : mg "int" = none
  z_isinstance : mg "isinstance" = none
  z_len : mg "len" = none
  z_list : mg "list" = none
  z_max : mg "max" = none
  z_min : mg "min" = none
  z_range : mg "range" = none
  z_sorted : mg "sorted" = none
  z_sum : mg "sum" = none
  d_common_divisor : Dn K mg "common_divisor" (top 2)
  d_common_bottom : Dn K mg "common_bottom" (top 3)
  d_total_weight : Dn K mg "total_weight" (top 5)
  d_gain_of : Dn K mg "gain_of" (top 7)
  d_book_of : Dn K mg "book_of" (top 8)
  d_fits : Dn K mg "fits" (top 10)
  d_misfits : Dn K mg "misfits" (top 11)
  d__law_cell : Dn K mg "_law_cell" (top 13)
  d__law_mixed : Dn K mg "_law_mixed" (top 14)
  d__law_low : Dn K mg "_law_low" (top 15)
  d__law_plus : Dn K mg "_law_plus" (top 16)
  d__law_times : Dn K mg "_law_times" (top 17)
  d__law_share : Dn K mg "_law_share" (top 18)
  d__law_turned : Dn K mg "_law_turned" (top 19)
  d__law_throw : Dn K mg "_law_throw" (top 20)
  d__law_board : Dn K mg "_law_board" (top 21)
  d__law_copy : Dn K mg "_law_copy" (top 23)
  d__law_ways : Dn K mg "_law_ways" (top 24)
  d__law_less : Dn K mg "_law_less" (top 26)
  d__law_by : Dn K mg "_law_by" (top 27)
  d__law_are_places : Dn K mg "_law_are_places" (top 28)
  d__law_worths : Dn K mg "_law_worths" (top 29)
  k_Book : mg "Book" = some (.ref q_Book)
  cl_Book : Cls K q_Book
  na_Book_bottom : PySem.W.findIn K (.ref q_Book) "bottom" = some none
  na_Book_tops : PySem.W.findIn K (.ref q_Book) "tops" = some none
  di_Book : DnI K mg "Book" "Book.__init__" (inClass (top 6) 0) q_Book
/-! ### what the defs reckon, the promises -/
noncomputable def natV (i : Nat) : V := .int i
/-- a share as the law draws it -/
noncomputable def GS (p : Int × Int) : Prop := Bt 40 p.1 ∧ Bt 20 p.2 ∧ Wq.Lw p
/-- a place whose ways lie on the board -/
noncomputable def PkG (n : Int) : Pl → Prop
  | .fin g => GS g
  | .thr g ws => GS g ∧ 0 < ws.length ∧ ws.length ≤ 5 ∧ ∀ p ∈ ws, 1 ≤ p.1 ∧ p.1 ≤ 200000 ∧ 0 ≤ p.2 ∧ p.2 < n
  | .pck who to => (who = 1 ∨ who = 2) ∧ 0 < to.length ∧ to.length ≤ 5 ∧ ∀ g ∈ to, 0 ≤ g ∧ g < n
/-- a pair of numbers: a weight, a place -/
noncomputable def WT (H : Hp) (n : Int) (x : V) : Prop := ∃ q w t, x = .ref q ∧ H q = some (.tup [.int w, .int t]) ∧ (1 ≤ w ∧ w ≤ 200000) ∧ 0 ≤ t ∧ t < n
theorem WT.mono {H H' : Hp} {n : Int} {x : V} (s : Same H H') (h : WT H n x) : WT H' n x := by
  obtain ⟨q, w, t, e, hq, r⟩ := h
  exact ⟨q, w, t, e, s _ _ hq, r⟩
theorem WT.put {H : Hp} {n : Int} {x : V} {p : Addr} {xs : List V} {o : HO} (hp : H p = some (.lst xs)) (h : WT H n x) : WT (upd H p o) n x := by
  obtain ⟨q, w, t, e, hq, r⟩ := h
  refine ⟨q, w, t, e, ?_, r⟩
  rw [upd_ne (fun z => by rw [z, hp] at hq; cases hq)]
  exact hq
theorem ex_repL {α : Type} {H : Hp} {f : α → Dat} {P : α → Prop} : ∀ {xs : List V}, (∀ x ∈ xs, ∃ a, Rep H (f a) x ∧ P a) → ∃ as : List α, RepL H (as.map f) xs ∧ as.length = xs.length ∧ ∀ a ∈ as, P a
  | [], _ => ⟨[], by simp [RepL], rfl, by simp⟩
  | x :: xs, h => by
    obtain ⟨a, ra, pa⟩ := h x List.mem_cons_self
    obtain ⟨as, r, l, p⟩ := ex_repL (xs := xs) fun y hy => h y (List.mem_cons_of_mem _ hy)
    refine ⟨a :: as, ?_, by simp [l], fun y hy => ?_⟩
    · simp only [List.map_cons, RepL]
      exact ⟨_, _, rfl, ra, r⟩
    · rcases List.mem_cons.mp hy with rfl | hy
      · exact pa
      · exact p y hy
theorem repW_at {H : Hp} {ws : List (Int × Int)} {xs : List V} {i : Nat} {a : Int × Int} (r : RepL H (ws.map wrowD) xs) (e : ws[i]? = some a) : ∃ p, xs[i]? = some (.ref p) ∧ H p = some (.tup [.int a.1, .int a.2]) := by
  obtain ⟨x, ex, rx⟩ := r.at (d := wrowD a) (i := i) (by rw [List.getElem?_map, e]; rfl)
  obtain ⟨p, rfl, hp⟩ := rep_wrow.mp rx
  exact ⟨p, ex, hp⟩
theorem depth_ws (ws : List (Int × Int)) : depth (.lst (ws.map wrowD)) ≤ 40 := by
  have := depth_flat (ds := ws.map wrowD) (n := 1) fun d hd => by obtain ⟨p, _, rfl⟩ := List.mem_map.mp hd; rw [depth_wrow]; exact Nat.le_refl _
  rw [depth]
  omega
theorem set_rep {H : Hp} {b : List Pl} {xs : List V} {k : Nat} {q' : Pl} {v : V} (rl : RepL H (b.map plD) xs) (rv : Rep H (plD q') v) : RepL H ((b.set k q').map plD) (xs.set k v) := by
  have lx := rl.length
  rw [List.length_map] at lx
  refine repL_map (by rw [List.length_set, List.length_set, lx]) fun i y ey q eq => ?_
  by_cases c : i = k
  · subst c
    have hi : i < xs.length := by
      have := (List.getElem?_eq_some_iff.mp ey).1
      rwa [List.length_set] at this
    rw [List.getElem?_set_self hi] at ey
    rw [List.getElem?_set_self (by omega)] at eq
    cases ey
    cases eq
    exact rv
  · rw [List.getElem?_set_ne (Ne.symm c)] at ey eq
    obtain ⟨x, ex, rx⟩ := rep_br_at rl eq
    rw [ey] at ex
    cases ex
    exact rx
theorem getD_is {ts : List Int} {i : Int} (h0 : 0 ≤ i) (h1 : i < (ts.length : Nat)) : ts[i.toNat]? = some (ts.getD i.toNat 0) := by
  rw [List.getD_eq_getElem?_getD, List.getElem?_eq_getElem (show i.toNat < ts.length by omega)]
  rfl
theorem at_int {ts : List Int} {i : Int} (h0 : 0 ≤ i) (h1 : i < (ts.length : Nat)) : atI (ts.map V.int) i = some (V.int (ts.getD i.toNat 0)) := by
  have := atI_pl (f := V.int) (getD_is h0 h1)
  rwa [Int.toNat_of_nonneg h0] at this
theorem getD_in {ts : List Int} {i : Int} (h0 : 0 ≤ i) (h1 : i < (ts.length : Nat)) : ts.getD i.toNat 0 ∈ ts := List.mem_of_getElem? (getD_is h0 h1)
noncomputable def spC (K : PySem.W.Frag) : Sp := fun vs H Q _ => ∃ a ns k, vs = [.ref a, .int k] ∧ SqL K H a (List.map V.int ns) ∧ 0 ≤ k ∧ k < 1000 ∧ ∀ n, Q (.int n) H
noncomputable def spMix : Sp := fun vs H Q _ => ∃ c m, vs = [.int c, .int m] ∧ 0 < m ∧ ∀ r, 0 ≤ r → r < m → Q (.int r) H
noncomputable def spLow : Sp := fun vs H Q _ => ∃ a b, vs = [.int a, .int b] ∧ 0 < b ∧ Bt 8900 b ∧ ∀ p H', Same H H' → H p = none → H' p = some (.tup (Pr (Nm.st a b) (Nm.sb a b))) → Q (.ref p) H'
/-- how large a number may be in a sum or a product of shares -/
noncomputable def Rm (a : Wq.Sh) : Prop := Bt 4000 a.1 ∧ Bt 4000 a.2 ∧ 0 < a.2
noncomputable def spPls : Sp := fun vs H Q _ => ∃ p q a b, vs = [.ref p, .ref q] ∧ H p = some (.tup (Pr a.1 a.2)) ∧ H q = some (.tup (Pr b.1 b.2)) ∧ Rm a ∧ Rm b ∧
  ∀ r H', Same H H' → H r = none → H' r = some (.tup (Pr (Wq.pl a b).1 (Wq.pl a b).2)) → Q (.ref r) H'
noncomputable def spTms : Sp := fun vs H Q _ => ∃ p q a b, vs = [.ref p, .ref q] ∧ H p = some (.tup (Pr a.1 a.2)) ∧ H q = some (.tup (Pr b.1 b.2)) ∧ Rm a ∧ Rm b ∧
  ∀ r H', Same H H' → H r = none → H' r = some (.tup (Pr (Wq.tm a b).1 (Wq.tm a b).2)) → Q (.ref r) H'
noncomputable def spLes : Sp := fun vs H Q _ => ∃ p q a b, vs = [.ref p, .ref q] ∧ H p = some (.tup (Pr a.1 a.2)) ∧ H q = some (.tup (Pr b.1 b.2)) ∧ Rm a ∧ Rm b ∧ Q (.bl (Wq.lessP a b)) H
noncomputable def spShr : Sp := fun vs H Q _ => ∃ c k, vs = [.int c, .int k] ∧ 0 ≤ k ∧ k < 1000 ∧ ∀ p H' a, Same H H' → H p = none → H' p = some (.tup (Pr a.1 a.2)) → GS a → Q (.ref p) H'
noncomputable def spTrn : Sp := fun vs H Q _ => ∃ c n, vs = [.int c, .int n] ∧ 0 < n ∧ n ≤ 60 ∧ ∀ l H' s, Same H H' → H l = none → H' l = some (.lst (List.map natV s)) → s.Perm (List.range n.toNat) → Q (.ref l) H'
noncomputable def spThr : Sp := fun vs H Q _ => ∃ c k n, vs = [.int c, .int k, .int n] ∧ 0 < k ∧ k < n ∧ ∀ l H' xs, Same H H' → H' l = some (.lst xs) → (∀ x ∈ xs, WT H' n x) → 0 < xs.length → xs.length ≤ 5 → Q (.ref l) H'
noncomputable def spBrd (K : PySem.W.Frag) : Sp := fun vs H Q _ => ∃ a ns n, vs = [.ref a, .int 2, .int n] ∧ SqL K H a (List.map V.int ns) ∧ 0 < n ∧ n ≤ 9 ∧ ∀ l H' xs (b : List Pl), Same H H' → H l = none → H' l = some (.lst xs) → RepL (hid H' l) (b.map plD) xs → b.length = n.toNat → (∀ q ∈ b, PkG n q) → Q (.ref l) H'
noncomputable def spCpy : Sp := fun vs H Q _ => ∃ a b, vs = [.ref a] ∧ Rep H (brD b) (.ref a) ∧ b.length ≤ 9 ∧ ∀ l H', Same H H' → H l = none → Rep H' (brD b) (.ref l) → Q (.ref l) H'
noncomputable def spCd : Sp := fun vs H Q _ => ∃ a b, vs = [.int a, .int b] ∧ Q (.int (Nm.g a b)) H
noncomputable def spCb : Sp := fun vs H Q _ => ∃ (a : Addr) (ws : List Wq.Sh) (Z : Int), vs = [.ref a] ∧ Rep H (.lst (ws.map wrowD)) (.ref a) ∧ ws.length ≤ 60 ∧ (∀ x ∈ ws, 0 < x.2 ∧ x.2 ∣ Z) ∧ 0 < Z ∧ Bt 2000 Z ∧ Q (.int (Wq.lcmL 1 ws)) H
noncomputable def spTw : Sp := fun vs H Q _ => ∃ (a : Addr) (ws : List (Int × Int)), vs = [.ref a] ∧ Rep H (.lst (ws.map wrowD)) (.ref a) ∧ 0 < ws.length ∧ ws.length ≤ 5 ∧ (∀ p ∈ ws, 1 ≤ p.1 ∧ p.1 ≤ 200000) ∧ ∀ H', Same H H' → Q (.int (Wq.totW ws)) H'
noncomputable def spGn : Sp := fun vs H Q _ => ∃ (a : V) (q : Pl), vs = [a] ∧ Rep H (plD q) a ∧ ∀ r H', Same H H' → H' r = some (.tup (Pr (Wq.gainP q).1 (Wq.gainP q).2)) → Q (.ref r) H'
noncomputable def spIn (C : Addr) : Sp := fun vs H Q _ => ∃ (x dx l : Addr) (ts : List Int) (b : Int), vs = [.ref x, .ref l, .int b] ∧ H x = some (.ins C dx []) ∧ H l = some (.lst (ts.map V.int)) ∧
  ∀ m H', H m = none → H' m = some (.lst (ts.map V.int)) → H' x = some (.ins C dx [("tops", .ref m), ("bottom", .int b)]) → (∀ y o, y ≠ x → H y = some o → H' y = some o) → Q .non H'
noncomputable def spBo (C : Addr) : Sp := fun vs H Q _ => ∃ (a : Addr) (ws : List Wq.Sh) (Z : Int), vs = [.ref a] ∧ Rep H (.lst (ws.map wrowD)) (.ref a) ∧ ws.length ≤ 60 ∧ (∀ x ∈ ws, 0 < x.2 ∧ x.2 ∣ Z ∧ Bt 4000 x.1) ∧ 0 < Z ∧ Bt 2000 Z ∧
  ∀ x dx m H', Same H H' → H' x = some (.ins C dx [("tops", .ref m), ("bottom", .int (Wq.lcmL 1 ws))]) → H' m = some (.lst ((ws.map (Wq.sc (Wq.lcmL 1 ws))).map V.int)) → Q (.ref x) H'
noncomputable def spFt : Sp := fun vs H Q _ => ∃ (a : V) (q : Pl) (t g : Int) (l : Addr) (ts : List Int), vs = [a, .int t, .int g, .ref l] ∧ Rep H (plD q) a ∧ H l = some (.lst (ts.map V.int)) ∧ PkG ts.length q ∧ Bt 7000 t ∧ Bt 7000 g ∧ (∀ x ∈ ts, Bt 7000 x) ∧ ∀ H', Same H H' → Q (.bl (Wq.fitN ts t g q)) H'
theorem cut_drop {xs : List V} {k : Int} (h : 0 ≤ k) : cutV xs (some k) none = xs.drop k.toNat := by
  unfold cutV
  obtain ⟨n, rfl⟩ := Int.eq_ofNat_of_zero_le h
  rw [HT.sIx_none, HT.sIx_nat, Int.toNat_natCast]
  by_cases c : n ≤ xs.length
  · rw [Nat.min_eq_left c, List.take_of_length_le (by rw [List.length_drop]; omega)]
  · rw [Nat.min_eq_right (by omega), List.drop_of_length_le (Nat.le_refl _), List.drop_of_length_le (by omega), List.take_nil]
theorem PkG.up {m n : Int} {q : Pl} (h : PkG m q) (l : m ≤ n) : PkG n q := by
  cases q with
  | fin g => exact h
  | thr g ws => exact ⟨h.1, h.2.1, h.2.2.1, fun p hp => have z := h.2.2.2 p hp; ⟨z.1, z.2.1, z.2.2.1, by have := z.2.2.2; omega⟩⟩
  | pck w to => exact ⟨h.1, h.2.1, h.2.2.1, fun p hp => have z := h.2.2.2 p hp; ⟨z.1, by have := z.2; omega⟩⟩
theorem gain_gs {n : Int} {q : Pl} (h : PkG n q) : GS (Wq.gainP q) := by
  cases q with
  | fin g => exact h
  | thr g ws => exact h.1
  | pck w to => exact ⟨by show Bt 40 0; exact Bt.of 1 (by decide) (by decide), by show Bt 20 1; exact Bt.of 1 (by decide) (by decide), by show (0 : Int) < 1; decide, by show Nm.g 0 1 = 1; decide⟩
theorem atW_is {ws : List Wq.Sh} {i : Int} (h0 : 0 ≤ i) (h1 : i < (ws.length : Nat)) : ws[i.toNat]? = some (Wq.atW ws i) := by
  unfold Wq.atW
  rw [List.getD_eq_getElem?_getD, List.getElem?_eq_getElem (show i.toNat < ws.length by omega)]
  rfl
theorem tops_at {L : Int} {ws gs : List Wq.Sh} {i : Int} (h0 : 0 ≤ i) (h1 : i < (ws.length : Nat)) : ((ws ++ gs).map (Wq.sc L)).getD i.toNat 0 = Wq.sc L (Wq.atW ws i) := by
  rw [List.getD_eq_getElem?_getD, List.getElem?_map, List.getElem?_append_left (by omega), atW_is h0 h1]
  rfl
theorem fitN_P {L : Int} {ws gs : List Wq.Sh} {w : Wq.Sh} {q : Pl} (h : PkG ws.length q) : Wq.fitN ((ws ++ gs).map (Wq.sc L)) (Wq.sc L w) (Wq.sc L (Wq.gainP q)) q = Wq.fitP L ws w q := by
  cases q with
  | fin g => rfl
  | thr g ways =>
    have e : (ways.map fun p => p.1 * ((ws ++ gs).map (Wq.sc L)).getD p.2.toNat 0) = ways.map fun p => p.1 * Wq.sc L (Wq.atW ws p.2) := List.map_congr_left fun p hp => by
      have z := h.2.2.2 p hp
      rw [tops_at z.2.2.1 z.2.2.2]
    show decide ((Wq.sc L w - Wq.sc L g) * Wq.totW ways = (ways.map fun p => p.1 * ((ws ++ gs).map (Wq.sc L)).getD p.2.toNat 0).sum) = decide ((Wq.sc L w - Wq.sc L g) * Wq.totW ways = (ways.map fun p => p.1 * Wq.sc L (Wq.atW ws p.2)).sum)
    rw [e]
  | pck who to =>
    have e : (to.map fun x => ((ws ++ gs).map (Wq.sc L)).getD x.toNat 0) = to.map fun x => Wq.sc L (Wq.atW ws x) := List.map_congr_left fun p hp => by
      have z := h.2.2.2 p hp
      rw [tops_at z.1 z.2]
    have m0 : to.getD 0 0 ∈ to := by
      have := h.2.1
      cases to with
      | nil => simp at this
      | cons x y => simp
    have z := h.2.2.2 _ m0
    show decide (Wq.sc L w = Wq.topI who (((ws ++ gs).map (Wq.sc L)).getD (to.getD 0 0).toNat 0) (to.map fun x => ((ws ++ gs).map (Wq.sc L)).getD x.toNat 0)) = decide (Wq.sc L w = Wq.topI who (Wq.sc L (Wq.atW ws (to.getD 0 0))) (to.map fun t => Wq.sc L (Wq.atW ws t)))
    rw [e, tops_at z.1 z.2]
theorem fine_of {L : Int} {ws : List Wq.Sh} {q : Pl} (h : PkG ws.length q) (hg : (Wq.gainP q).2 ∣ L) (hw : ∀ x ∈ ws, Wq.Dv L x) : Wq.Fine L ws q := by
  have at_ : ∀ i : Int, 0 ≤ i → i < (ws.length : Nat) → Wq.Dv L (Wq.atW ws i) := fun i h0 h1 => hw _ (List.mem_of_getElem? (atW_is h0 h1))
  cases q with
  | fin g => exact ⟨h.2.2, hg⟩
  | thr g ways =>
    have tb := Wq.totW_bd (ws := ways) fun p hp => ⟨(h.2.2.2 p hp).1, (h.2.2.2 p hp).2.1⟩
    have := h.2.1
    exact ⟨⟨h.1.2.2, hg⟩, by omega, fun p hp => at_ _ (h.2.2.2 p hp).2.2.1 (h.2.2.2 p hp).2.2.2⟩
  | pck who to => exact ⟨h.1, h.2.1, fun p hp => at_ _ (h.2.2.2 p hp).1 (h.2.2.2 p hp).2⟩
noncomputable def misP (b : List Pl) (ws : List Wq.Sh) : List Int := (List.range b.length).filterMap fun i => if Wq.byP ws (b.getD i (.fin (0, 1))) = ws.getD i (0, 1) then none else some (i : Int)
theorem misP_map (b : List Pl) (ws : List Wq.Sh) : (misP b ws).map V.int = (List.range b.length).filterMap fun i => if Wq.byP ws (b.getD i (.fin (0, 1))) = ws.getD i (0, 1) then none else some (V.int (i : Int)) := by
  unfold misP
  rw [List.map_filterMap]
  congr 1
  funext i
  split <;> rfl
noncomputable def spMs (K : PySem.W.Frag) : Sp := fun vs H Q _ => ∃ (a c : Addr) (b : List Pl) (ws : List Wq.Sh) (Z : Int), vs = [.ref a, .ref c] ∧ Rep H (brD b) (.ref a) ∧ Rep H (.lst (ws.map wrowD)) (.ref c) ∧ 0 < b.length ∧ b.length ≤ 9 ∧ ws.length = b.length ∧ (∀ q ∈ b, PkG b.length q ∧ (Wq.gainP q).2 ∣ Z) ∧ (∀ x ∈ ws, Wq.Lw x ∧ x.2 ∣ Z ∧ Bt 4000 x.1) ∧ 0 < Z ∧ Bt 2000 Z ∧
  ∀ l H', Same H H' → H l = none → H' l = some (.lst ((misP b ws).map V.int)) → Q (.ref l) H'
noncomputable def spAp : Sp := fun vs H Q _ => ∃ (a c : Addr) (ns : List Int), vs = [.ref a, .ref c] ∧ H a = some (.lst (ns.map V.int)) ∧ H c = some (.lst (ns.map V.int)) ∧ ns.length ≤ 9 ∧ Q (.bl true) H
/-- a part of a throw: its share of the whole, where it leads -/
noncomputable def PtR (H : Hp) (W : Int) (p : Int × Int) (x : V) : Prop := ∃ t r, x = .ref t ∧ H t = some (.tup [.ref r, .int p.2]) ∧ H r = some (.tup (Pr (Wq.low p.1 W).1 (Wq.low p.1 W).2))
theorem PtR.mono {H H' : Hp} {W : Int} {p : Int × Int} {x : V} (h : PtR H W p x) (s : Same H H') : PtR H' W p x := by
  obtain ⟨t, r, e, h1, h2⟩ := h
  exact ⟨t, r, e, s _ _ h1, s _ _ h2⟩
theorem rm_of {Y M : Int} {x : Wq.Sh} (lx : 0 < x.2) (d : x.2 ∣ Y) (Y0 : 0 < Y) (bY : Bt 1900 Y) (v : Wq.Vb M x) (M0 : 0 ≤ M) (bM : Bt 60 M) : Rm x := by
  have b2 : Bt 1900 x.2 := bY.le (by have := Int.le_of_dvd Y0 d; omega)
  have b1 : Bt 1960 (M * x.2) := bM.mul b2
  exact ⟨Bt.mono (b1.le (by obtain ⟨v1, v2⟩ := v; omega)) (by decide), b2.mono (by decide), lx⟩
theorem tm_vb {L W M w : Int} {y : Wq.Sh} (hy : 0 < y.2) (L0 : 0 < L) (W0 : 0 < W) (dy : y.2 ∣ L) (w0 : 0 ≤ w) (w1 : w ≤ W) (M0 : 0 ≤ M) (v : Wq.Vb M y) : Wq.Vb M (Wq.tm (Wq.low w W) y) := by
  obtain ⟨t1, t2, t3⟩ := Wq.tm_sc (w := w) hy L0 W0 dy
  refine (Wq.vb_sc t1.1 (Int.mul_pos L0 W0) t2).mpr ?_
  obtain ⟨c1, c2⟩ := (Wq.vb_sc hy L0 dy).mp v
  have ml : 0 ≤ M * L := Int.mul_nonneg M0 (by omega)
  have m1 := Int.mul_le_mul_of_nonneg_left c1 w0
  have m2 := Int.mul_le_mul_of_nonneg_left c2 w0
  have m3 := Int.mul_le_mul_of_nonneg_right w1 ml
  rw [Int.mul_neg] at m1
  have e : M * (L * W) = W * (M * L) := by rw [← Int.mul_assoc, Int.mul_comm (M * L) W]
  rw [t3, e]
  omega
noncomputable def WsOk (Z M : Int) (ws : List Wq.Sh) : Prop := ∀ x ∈ ws, Wq.Lw x ∧ x.2 ∣ Z ∧ Wq.Vb M x
noncomputable def spBy : Sp := fun vs H Q _ => ∃ (a c : Addr) (i : Nat) (b : List Pl) (ws : List Wq.Sh) (q : Pl) (Z M : Int), vs = [.ref a, .ref c, .int (i : Int)] ∧ Rep H (brD b) (.ref a) ∧ Rep H (.lst (ws.map wrowD)) (.ref c) ∧ b[i]? = some q ∧ PkG ws.length q ∧ (Wq.gainP q).2 ∣ Z ∧ WsOk Z M ws ∧ 0 < Z ∧ Bt 1870 Z ∧ 0 ≤ M ∧ Bt 58 M ∧
  ∀ r H', Same H H' → H' r = some (.tup (Pr (Wq.byP ws q).1 (Wq.byP ws q).2)) → Q (.ref r) H'
noncomputable def spWy : Sp := fun vs H Q _ => ∃ (a c : Addr) (i : Nat) (b : List Pl) (n : Int) (g : Int × Int) (ways : List (Int × Int)), vs = [.ref a, .ref c, .int (i : Int)] ∧ Rep H (brD b) (.ref a) ∧ b[i]? = some (.thr g ways) ∧ PkG n (.thr g ways) ∧
  ∀ l us H', Same H H' → H' l = some (.lst us) → us.length = ways.length → (∀ (j : Nat) p x, ways[j]? = some p → us[j]? = some x → PtR H' (Wq.totW ways) p x) → Q (.ref l) H'
theorem vb_up {M N : Int} {x : Wq.Sh} (h : Wq.Vb M x) (l : M ≤ N) (x0 : 0 < x.2) : Wq.Vb N x := by
  have := Int.mul_le_mul_of_nonneg_right l (show 0 ≤ x.2 by omega)
  unfold Wq.Vb at h ⊢
  omega
theorem vb_gs {g : Int × Int} (gw : GS g) : Wq.Vb (2 ^ 40) g := by
  have h1 := gw.1
  have h2 := gw.2.2.1
  unfold Bt at h1
  have : (2 : Int) ^ 40 * 1 ≤ 2 ^ 40 * g.2 := Int.mul_le_mul_of_nonneg_left (by omega) (by decide)
  unfold Wq.Vb
  omega
/-- what a place is worth by its ways is again a share, of a bottom and a size that are known -/
theorem by_ok {Z M : Int} {ws : List Wq.Sh} {q : Pl} (gq : PkG ws.length q) (dg : (Wq.gainP q).2 ∣ Z) (wo : WsOk Z M ws) (Z0 : 0 < Z) (M0 : 0 ≤ M) : ∃ W : Int, 0 < W ∧ W ≤ 1000000 ∧ Wq.Lw (Wq.byP ws q) ∧ (Wq.byP ws q).2 ∣ Z * W ∧ Wq.Vb (2 ^ 40 + M) (Wq.byP ws q) := by
  have at_ : ∀ i : Int, 0 ≤ i → i < (ws.length : Nat) → Wq.Lw (Wq.atW ws i) ∧ (Wq.atW ws i).2 ∣ Z ∧ Wq.Vb M (Wq.atW ws i) := fun i h0 h1 => wo _ (List.mem_of_getElem? (atW_is h0 h1))
  cases q with
  | fin g => exact ⟨1, by decide, by decide, gq.2.2, by rw [Int.mul_one]; exact dg, vb_up (vb_gs gq) (by omega) gq.2.2.1⟩
  | thr g ways =>
    obtain ⟨gw, l0, l5, gs⟩ := gq
    have tb := Wq.totW_bd (ws := ways) fun p hp => ⟨(gs p hp).1, (gs p hp).2.1⟩
    have W0 : 0 < Wq.totW ways := by omega
    have hws : ∀ p ∈ ways, 0 ≤ p.1 ∧ 0 < (Wq.atW ws p.2).2 ∧ (Wq.atW ws p.2).2 ∣ Z ∧ Wq.Vb M (Wq.atW ws p.2) := fun p hp => by
      have z := gs p hp
      obtain ⟨a1, a2, a3⟩ := at_ p.2 z.2.2.1 z.2.2.2
      exact ⟨by omega, a1.1, a2, a3⟩
    have dgZ : g.2 ∣ Z := dg
    obtain ⟨u1, u2, u3⟩ := Wq.tsum_sc (v := Wq.atW ws) Z0 W0 (ws := ways) (fun p hp => ⟨(hws p hp).2.1, (hws p hp).2.2.1⟩) gw.2.2 (Int.dvd_trans dgZ (Int.dvd_mul_right Z (Wq.totW ways)))
    exact ⟨Wq.totW ways, W0, by omega, u1, u2, Wq.tsum_vb Z0 W0 M0 hws (Int.le_refl _) gw.2.2 dgZ (vb_gs gw)⟩
  | pck who to =>
    obtain ⟨hw, l0, l5, gs⟩ := gq
    have m0 : to.getD 0 0 ∈ to := by
      cases to with
      | nil => simp at l0
      | cons x y => simp
    obtain ⟨a1, a2, a3⟩ := Wq.best_all (P := fun x => Wq.Lw x ∧ x.2 ∣ Z ∧ Wq.Vb M x) (who := who) (ws := ws) (to := to) (at_ _ (gs _ m0).1 (gs _ m0).2) fun t ht => at_ _ (gs t ht).1 (gs t ht).2
    exact ⟨1, by decide, by decide, a1, by rw [Int.mul_one]; exact a2, vb_up a3 (by omega) a1.1⟩
/-- the product of bottoms -/
noncomputable def pB (xs : List Wq.Sh) : Int := xs.foldr (fun x y => x.2 * y) 1
theorem pB_ok : ∀ {xs : List Wq.Sh}, (∀ x ∈ xs, GS x) → 0 < pB xs ∧ Bt (20 * xs.length + 1) (pB xs) ∧ ∀ x ∈ xs, x.2 ∣ pB xs
  | [], _ => ⟨by decide, Bt.of 1 (by decide) (by decide), by simp⟩
  | x :: xs, h => by
    obtain ⟨h1, h2, h3⟩ := pB_ok (xs := xs) fun y hy => h y (List.mem_cons_of_mem _ hy)
    have g := h x List.mem_cons_self
    refine ⟨Int.mul_pos g.2.2.1 h1, ?_, fun y hy => ?_⟩
    · have := g.2.1.mul h2
      rw [show 20 * (x :: xs).length + 1 = 20 + (20 * xs.length + 1) by rw [List.length_cons]; omega]
      exact this
    · rcases List.mem_cons.mp hy with rfl | hy
      · exact Int.dvd_mul_right _ _
      · exact Int.dvd_trans (h3 y hy) (Int.dvd_mul_left _ _)
/-- worths behind m updates -/
noncomputable def Wk (b : List Pl) (m : Nat) (ws : List Wq.Sh) : Prop := ws.length = b.length ∧ ∃ Z M : Int, (∀ q ∈ b, (Wq.gainP q).2 ∣ Z) ∧ WsOk Z M ws ∧ 0 < Z ∧ Bt (400 + 20 * m) Z ∧ 0 ≤ M ∧ M ≤ (m + 1) * 2 ^ 40
theorem Wk.start {b : List Pl} {ws : List Wq.Sh} (lw : ws.length = b.length) (lb : b.length ≤ 9) (gb : ∀ q ∈ b, PkG b.length q) (gw : ∀ x ∈ ws, GS x) : Wk b 0 ws := by
  have ga : ∀ x ∈ ws ++ b.map Wq.gainP, GS x := fun x hx => by
    rcases List.mem_append.mp hx with hx | hx
    · exact gw x hx
    · obtain ⟨q, hq, rfl⟩ := List.mem_map.mp hx
      exact gain_gs (gb q hq)
  obtain ⟨h1, h2, h3⟩ := pB_ok ga
  refine ⟨lw, pB (ws ++ b.map Wq.gainP), 2 ^ 40, fun q hq => h3 _ (List.mem_append_right _ (List.mem_map.mpr ⟨q, hq, rfl⟩)), fun x hx => ⟨(gw x hx).2.2, h3 _ (List.mem_append_left _ hx), vb_gs (gw x hx)⟩, h1, h2.mono ?_, by decide, by decide⟩
  rw [List.length_append, List.length_map]
  omega
theorem Wk.up {b : List Pl} {ws : List Wq.Sh} {m m' : Nat} (h : Wk b m ws) (l : m ≤ m') : Wk b m' ws := by
  obtain ⟨h0, Z, M, h1, h2, h3, h4, h5, h6⟩ := h
  refine ⟨h0, Z, M, h1, h2, h3, h4.mono (by omega), h5, ?_⟩
  have : ((m : Int) + 1) * 2 ^ 40 ≤ (m' + 1) * 2 ^ 40 := Int.mul_le_mul_of_nonneg_right (by omega) (by decide)
  omega
theorem Wk.set {b : List Pl} {ws : List Wq.Sh} {m i : Nat} {q : Pl} (h : Wk b m ws) (hq : q ∈ b) (gq : PkG b.length q) : Wk b (m + 1) (ws.set i (Wq.byP ws q)) := by
  obtain ⟨h0, Z, M, h1, h2, h3, h4, h5, h6⟩ := h
  obtain ⟨W, w0, w1, a1, a2, a3⟩ := by_ok (by rw [h0]; exact gq) (h1 q hq) h2 h3 h5
  refine ⟨by rw [List.length_set]; exact h0, Z * W, 2 ^ 40 + M, fun q hq => Int.dvd_trans (h1 q hq) (Int.dvd_mul_right _ _), fun x hx => ?_, Int.mul_pos h3 w0, ?_, by omega, ?_⟩
  · rcases List.mem_or_eq_of_mem_set hx with hx | rfl
    · obtain ⟨c1, c2, c3⟩ := h2 x hx
      exact ⟨c1, Int.dvd_trans c2 (Int.dvd_mul_right _ _), vb_up c3 (by omega) c1.1⟩
    · exact ⟨a1, a2, a3⟩
  · have : Bt 20 W := Bt.of 1000000 (by omega) (by omega)
    have := h4.mul this
    rw [show 400 + 20 * (m + 1) = 400 + 20 * m + 20 by omega]
    exact this
  · rw [show (((m + 1 : Nat) : Int) + 1) * 2 ^ 40 = (m + 1) * 2 ^ 40 + 2 ^ 40 by omega]
    omega
theorem setW_rep {H : Hp} {ws : List Wq.Sh} {xs : List V} {k : Nat} {q' : Wq.Sh} {l r : Addr} (hl : H l = some (.lst xs)) (rl : RepL H (ws.map wrowD) xs) (rv : H r = some (.tup (Pr q'.1 q'.2))) : Rep (upd H l (.lst (xs.set k (.ref r)))) (.lst ((ws.set k q').map wrowD)) (.ref l) := by
  have lx := rl.length
  rw [List.length_map] at lx
  refine rep_lst.mpr ⟨l, _, rfl, upd_same, repL_map (by rw [List.length_set, List.length_set, lx]) fun i y ey q eq => ?_⟩
  by_cases c : i = k
  · subst c
    have hi : i < xs.length := by
      have := (List.getElem?_eq_some_iff.mp ey).1
      rwa [List.length_set] at this
    rw [List.getElem?_set_self hi] at ey
    rw [List.getElem?_set_self (by omega)] at eq
    cases ey
    cases eq
    exact rep_wrow.mpr ⟨r, rfl, by rw [upd_ne (fun z => by rw [z, hl] at rv; cases rv)]; exact rv⟩
  · rw [List.getElem?_set_ne (Ne.symm c)] at ey eq
    obtain ⟨p, ep, hp⟩ := repW_at rl eq
    rw [ey] at ep
    cases ep
    exact rep_wrow.mpr ⟨p, rfl, by rw [upd_ne (fun z => by rw [z, hl] at hp; cases hp)]; exact hp⟩
noncomputable def spWs (K : PySem.W.Frag) : Sp := fun vs H Q _ => ∃ (a c : Addr) (ns : List Int) (b : List Pl), vs = [.ref a, .ref c] ∧ SqL K H a (ns.map V.int) ∧ Rep H (brD b) (.ref c) ∧ 0 < b.length ∧ b.length ≤ 9 ∧ (∀ q ∈ b, PkG b.length q) ∧
  ∀ l H' ws, Same H H' → H l = none → Rep H' (.lst (ws.map wrowD)) (.ref l) → Wk b 27 ws → Q (.ref l) H'
/-- worths that can be held against the board -/
noncomputable def Fn (b : List Pl) (ws : List Wq.Sh) : Prop := ws.length = b.length ∧ ∃ Z M : Int, (∀ q ∈ b, (Wq.gainP q).2 ∣ Z) ∧ WsOk Z M ws ∧ 0 < Z ∧ Bt 1800 Z ∧ 0 ≤ M ∧ Bt 57 M
theorem Wk.fn {b : List Pl} {ws : List Wq.Sh} (h : Wk b 27 ws) : Fn b ws := by
  obtain ⟨h0, Z, M, h1, h2, h3, h4, h5, h6⟩ := h
  exact ⟨h0, Z, M, h1, h2, h3, h4.mono (by decide), h5, Bt.of (28 * 2 ^ 40) (by omega) (by omega)⟩
/-- a half more -/
theorem Wk.half {b : List Pl} {ws : List Wq.Sh} {x : Wq.Sh} {i : Nat} (h : Wk b 27 ws) (hx : x ∈ ws) : Rm x ∧ Fn b (ws.set i (Wq.pl x (1, 2))) := by
  obtain ⟨h0, Z, M, h1, h2, h3, h4, h5, h6⟩ := h
  obtain ⟨lx, dx, vx⟩ := h2 x hx
  have Z2 : 0 < Z * 2 := by omega
  have d2 : x.2 ∣ Z * 2 := Int.dvd_trans dx (Int.dvd_mul_right _ _)
  have bM : Bt 57 (M + 1) := Bt.of (28 * 2 ^ 40 + 1) (by omega) (by omega)
  obtain ⟨p1, p2, p3⟩ := Wq.pl_sc (y := (1, 2)) lx.1 (by decide) Z2 d2 (Int.dvd_mul_left _ _)
  refine ⟨rm_of lx.1 dx h3 (h4.mono (by decide)) vx h5 (Bt.of (28 * 2 ^ 40) (by omega) (by omega)), by rw [List.length_set]; exact h0, Z * 2, M + 1, fun q hq => Int.dvd_trans (h1 q hq) (Int.dvd_mul_right _ _), fun y hy => ?_, Z2, ?_, by omega, bM⟩
  · rcases List.mem_or_eq_of_mem_set hy with hy | rfl
    · obtain ⟨c1, c2, c3⟩ := h2 y hy
      exact ⟨c1, Int.dvd_trans c2 (Int.dvd_mul_right _ _), vb_up c3 (by omega) c1.1⟩
    · refine ⟨p1, p2, (Wq.vb_sc p1.1 Z2 p2).mpr ?_⟩
      have v := (Wq.vb_sc lx.1 Z2 d2).mp vx
      rw [p3]
      have e : Wq.sc (Z * 2) (1, 2) = Z := by
        show 1 * (Z * 2 / 2) = Z
        omega
      rw [e, Int.add_mul]
      omega
  · have : Bt 20 2 := Bt.of 2 (by decide) (by decide)
    exact Bt.mono (h4.mul this) (by decide)
theorem eq_pr (x y : Wq.Sh) : eqL (Pr x.1 x.2) (Pr y.1 y.2) = decide (x = y) := by
  rw [Pr, Pr, eqL_pr]
  by_cases c : x = y
  · subst c
    simp
  · rw [decide_eq_false c]
    cases h : (x.1 == y.1 && x.2 == y.2) with
    | false => rfl
    | true =>
      simp at h
      exact absurd (Prod.ext h.1 h.2) c
noncomputable def spLaw (K : PySem.W.Frag) : Sp := fun vs H Q _ => ∃ (a : Addr) (ns : List Int), vs = [.ref a] ∧ SqL K H a (ns.map V.int) ∧ ns.length ≤ 63 ∧ ∀ H', Q (.bl true) H'
section
variable {P : Program} {w : World} {K : PySem.W.Frag} {mg : Str → Option Value} {base : Heap}
variable {q_Book : Addr}
theorem sc_common_divisor : FnScope ["one", "other", "rest"] ["one", "other"] (defScope (top 2)) := ⟨rfl, rfl, rfl, by decide +kernel, rfl, by decide +kernel, by decide +kernel⟩
theorem ok_cd (T : Txt K mg q_Book) : Cal P w K mg base (CX1 P w) 1 "common_divisor" ["one", "other"] spCd := by
  refine T.d_common_divisor.cal (fun _ _ _ _ _ _ us hl => match us, hl with | [_, _], _ => rfl) fun f fd F => F.okC sc_common_divisor (fun vs H Q E h => ?_) (fun cdv A outer s H vs Q E hr h => ?_)
  · obtain ⟨_, _, rfl, _⟩ := h; rfl
  · obtain ⟨a, b, rfl, k⟩ := h
    have nd := sc_common_divisor.nd
    refine ⟨_, (pss_cons (ps_set (i := 0) nd rfl (Or.inl rfl) (pe_callB call_abs (by rfl) T.z_abs rfl (pa_cons (pv 0) pa_nil (se rfl)) (he := se rfl) (hpl := na rfl)))
    (pss_cons (ps_set (i := 1) nd rfl (Or.inl rfl) (pe_callB call_abs (by rfl) T.z_abs rfl (pa_cons (pv 1) pa_nil (se rfl)) (he := se rfl) (hpl := na rfl)))
    (pss_cons (ps_while PassesOwn.never (pt_cmpR op_ne (pv 1) pe_int (nomark _)) (pss_cons (ps_set (i := 2) nd rfl (Or.inl rfl) (pe_op op_modB (pv 0) (pv 1)))
    (pss_cons (ps_set (i := 0) nd rfl (Or.inl rfl) (pv 1))
    (pss_one (ps_set (i := 1) nd rfl (Or.inl rfl) (pv 2))))))
    (pss_one (ps_ret (pv 0)))))), ?_⟩
    simp_all only []
    refine while_by (fun σ H1 => H1 = H ∧ ∃ (x y : Int) (z : Option V), σ = [some (.int x), some (.int y), z] ∧ 0 ≤ x ∧ 0 ≤ y ∧ Nm.g x y = Nm.g a b) (fun σ _ => match σ with | [_, some (.int y), _] => y.toNat | _ => 0) ?_ ?_ ?_
    · refine ⟨rfl, _, _, _, rfl, ?_, ?_, ?_⟩
      · split <;> omega
      · split <;> omega
      · rw [show (if a < 0 then -a else a) = (a.natAbs : Int) by split <;> omega, show (if b < 0 then -b else b) = (b.natAbs : Int) by split <;> omega, Nm.g_abs, Nm.g_abs_r]
    · rintro σ H1 ⟨rfl, x, y, z, rfl, x0, y0, e⟩
      simp_all only []
      refine ite2 (fun c => ?_) (fun c => ?_)
      · refine ⟨by omega, y0, Int.emod_nonneg _ (by omega), by rw [Nm.g_step x0 (by omega), e], ?_⟩
        have := Int.emod_lt_of_pos x (show 0 < y by omega)
        have := Int.emod_nonneg x (show y ≠ 0 by omega)
        omega
      · have z : y = 0 := by omega
        subst z
        rw [Nm.g_zero x0] at e
        rw [e]
        exact k
    · intro σ H1 Q1 Q2 hq hc
      simp only [L2.start, Pr, tRev, tLR, tMaxD, tSortR, tD1, tDPop1, tSl, tNoPart, tPart, rSlL, tDIn, tDNotIn, gSub, rSetL, tLst, tDNewK, tComp, L2.stC, tFor_eq, iList, iTup, iRng1, iRng2, iZip, iEnum, iDict, iStr, tChain, tSumV, tBM, rJoin, tJoined, jNil, jLit, jInt, jStr, tRaise, tDGet, tDGet2, tDGet1, sDPut, Option.join_some, List.getElem?_nil,  tSeq, tRet, tRetN, tIfS, tTest, tB, tOp, tUn, tVar, tC, tCB, tCons, tNil, tCall, tTupS, tAsg, gName, gNil, gCons, tPar, tNext, tDrop, tAnd, tOr, tNot, tAndV, tOrV, tNotV, tIf, rI, rI0, rU, rIxTH, rIxLH, rEqT, rNeT, rInT, rEq, rNe, scal, CPow, at0, at1, at2, List.map_cons, List.map_nil, List.length_cons, List.length_nil, Nat.reduceSub, Nat.reduceAdd, Nat.zero_add, List.replicate_zero, List.reduceReplicate, List.append_nil, List.nil_append, List.cons_append, List.getElem?_cons_zero, List.getElem?_cons_succ, List.set_cons_zero, List.set_cons_succ, Option.some.injEq, exists_eq_left', exists_eq_left, V.ref.injEq, V.int.injEq, V.bl.injEq, V.str.injEq, V.ty.injEq, HO.tup.injEq, HO.lst.injEq, List.cons.injEq, and_true, true_and, and_assoc, exists_and_left, decide_eq_true_eq, Bool.not_eq_true', decide_eq_false_iff_not, ite_true, ite_false, if_true, if_false, Int.reduceToNat, eq_self_iff_true] at hc ⊢
      obtain ⟨v, e1, e2, q⟩ := hc
      exact ⟨v, e1, e2, hq _ _ q⟩
theorem sc_common_bottom : FnScope ["several", "common", "one"] ["several"] (defScope (top 3)) := ⟨rfl, rfl, rfl, by decide +kernel, rfl, by decide +kernel, by decide +kernel⟩
theorem ok_cb (T : Txt K mg q_Book) : Cal P w K mg base (CX1 P w) 2 "common_bottom" ["several"] spCb := by
  have c_common_divisor : Cal P w K mg base (CX1 P w) 1 "common_divisor" ["one", "other"] spCd := ok_cd T
  refine T.d_common_bottom.cal (fun _ _ _ _ _ _ us hl => match us, hl with | [_], _ => rfl) fun f fd F => F.okC sc_common_bottom (fun vs H Q E h => ?_) (fun cdv A outer s H vs Q E hr h => ?_)
  · obtain ⟨_, _, _, rfl, _⟩ := h; rfl
  · obtain ⟨a, ws, Z, rfl, rf, lw, dv, Z0, bZ, kk⟩ := h
    have nd := sc_common_bottom.nd
    refine ⟨_, (pss_cons (ps_set (i := 1) nd rfl (Or.inl rfl) pe_int)
    (pss_cons (ps_for PassesOwn.never rfl (pi_listK (K := K) (pv 0)) (pg_name (i := 2) nd rfl (Or.inl rfl)) (pss_one (ps_set (i := 1) nd rfl (Or.inl rfl) (pe_op op_mulB (pe_op op_fdivB (pv 1) (pe_cal c_common_divisor (hr.mono (by decide)) rfl strictP.pass (pa_cons (pv 1) (pa_cons (pe_ix ix_tupH (pv 2) pe_int (fun _ _ => rfl)) pa_nil (se rfl)) (se rfl)) (he := se rfl) (hpl := na rfl))) (pe_ix ix_tupH (pv 2) pe_int (fun _ _ => rfl))))))
    (pss_one (ps_ret (pv 1))))), ?_⟩
    obtain ⟨_, xs, e, ha, rl⟩ := rep_lst.mp rf
    cases e
    have lx := rl.length
    rw [List.length_map] at lx
    simp_all only [spCd]
    refine ⟨⟨_, SqL.of ha⟩, for_src (src_list (Ok := fun H' => H' = H) (fun H2 s2 => by rw [s2]; exact SqL.of ha)) (fun i σ H' => H' = H ∧ ∃ z, σ = [some (V.ref a), some (V.int (Wq.lcmL 1 (ws.take i))), z]) ⟨rfl, _, rfl⟩ (fun _ _ _ _ h => h.1) ?_ ?_⟩
    · rintro i v σ H1 H2 hi ⟨rfl, z, rfl⟩ ⟨rfl, ex⟩
      have hi' : i < ws.length := by omega
      have ew : ws[i]? = some ws[i] := List.getElem?_eq_getElem hi'
      obtain ⟨p, ep, hp⟩ := repW_at rl ew
      rw [ex] at ep
      cases ep
      have tk : ws.take (i + 1) = ws.take i ++ [ws[i]] := by rw [List.take_add_one, ew]; rfl
      obtain ⟨l1, l2, l3, l4⟩ := Wq.lcmL_ok (xs := ws.take i) (c := 1) (by decide) fun x hx => (dv x (List.mem_of_mem_take hx)).1
      have lz := l4 (Z := Z) ⟨Z, by omega⟩ fun x hx => (dv x (List.mem_of_mem_take hx)).2
      have dw := dv _ (List.getElem_mem hi')
      have b1 : Bt 2000 (Wq.lcmL 1 (ws.take i)) := bZ.le (by have := Int.le_of_dvd Z0 lz; omega)
      have b2 : Bt 2000 (ws[i]).2 := bZ.le (by have := Int.le_of_dvd Z0 dw.2; omega)
      have g0 : 0 < Nm.g (Wq.lcmL 1 (ws.take i)) (ws[i]).2 := Nm.g_pos (by omega)
      have bg : Bt 2000 (Nm.g (Wq.lcmL 1 (ws.take i)) (ws[i]).2) := b2.le (by have := Nm.g_le (a := Wq.lcmL 1 (ws.take i)) dw.1; omega)
      simp_all only [spCd, hp]
      exact ⟨CDivB.of g0 bg, Bt.mulOk (b1.le (Nm.quot_abs g0 (Nm.g_dvd_l _ _))) b2, by rw [tk, Wq.lcmL_snoc]; rfl, _, rfl⟩
    · rintro σ H1 ⟨rfl, z, rfl⟩
      simp_all only []
      rw [List.take_of_length_le (by omega)]
      exact kk
theorem sc_total_weight : FnScope ["ways"] ["ways"] (defScope (top 5)) := ⟨rfl, rfl, rfl, by decide +kernel, rfl, by decide +kernel, by decide +kernel⟩
theorem ok_tw (T : Txt K mg q_Book) : Cal P w K mg base (CX1 P w) 1 "total_weight" ["ways"] spTw := by
  refine T.d_total_weight.cal (fun _ _ _ _ _ _ us hl => match us, hl with | [_], _ => rfl) fun f fd F => F.okC sc_total_weight (fun vs H Q E h => ?_) (fun cdv A outer s H vs Q E hr h => ?_)
  · obtain ⟨_, _, rfl, _⟩ := h; rfl
  · obtain ⟨a, ws, rfl, rf, l0, l5, gw, kk⟩ := h
    have nd := sc_total_weight.nd
    refine ⟨_, (pss_one (ps_ret (pe_ifExp (pt_cmpR op_gt (pe_callB call_lenL (by rfl) T.z_len PySem.boot_len (pa_cons (pv 0) pa_nil (se rfl)) (he := se rfl) (hpl := na rfl)) pe_int (nomark _)) (pe_callB (call_sum_lK (K := K)) (by rfl) T.z_sum rfl (pa_cons (pe_comp rfl (N := ["ways"]) (so := defScope (top 5)) (N' := ["weight", "to"]) (k := 2) (fr := []) rfl rfl ⟨rfl, by decide +kernel, by decide +kernel, by decide +kernel, rfl, by decide +kernel, by decide +kernel⟩ (pi_listK (K := K) (pv 0)) (fun _ _ _ _ _ => (pg_tupK (K := K) (n := 2) rfl (pgs_cons (pg_name (i := 0) (show (["weight", "to"] : List Str).Nodup by decide +kernel) rfl (Or.inl rfl)) (pgs_cons (pg_name (i := 1) (show (["weight", "to"] : List Str).Nodup by decide +kernel) rfl (Or.inl rfl)) pgs_nil)))) (fun _ _ _ _ _ => pts_nil)
      (fun _ _ _ _ _ => (pv 0))) pa_nil (se rfl)) (he := se rfl) (hpl := na rfl)) pe_int))), ?_⟩
    obtain ⟨_, xs, e, ha, rl⟩ := rep_lst.mp rf
    cases e
    have lx := rl.length
    rw [List.length_map] at lx
    simp_all only []
    refine ⟨xs, ha, ?_⟩
    rw [if_pos (by omega)]
    refine ⟨⟨_, SqL.of ha⟩, ?_⟩
    have S : Src (Itl K a) (Same H) ws.length (fun i x H H3 => H3 = H ∧ xs[i]? = some x) := by rw [lx]; exact src_list (fun H' s' => SqL.of (s' _ _ ha))
    refine comp_ints2 ws (fun p => some p.1) S (fun _ _ _ _ h => h.1) (by rw [sizeLine_eq]; omega) ?_ ?_
    · rintro i p x ep ⟨_, ex⟩
      obtain ⟨t, et, ht⟩ := repW_at rl ep
      rw [ex] at et
      cases et
      refine ⟨t, _, _, rfl, SqT.of ht, fun Y N y1 _ => ?_⟩
      simp_all only [tYes]
      exact y1 _ rfl
    · intro D n1 n2
      rw [fm_some]
      exact ⟨_, SqL.of upd_same, kk _ (same_upd n2)⟩
theorem sc_gain_of : FnScope ["place"] ["place"] (defScope (top 7)) := ⟨rfl, rfl, rfl, by decide +kernel, rfl, by decide +kernel, by decide +kernel⟩
theorem ok_gn (T : Txt K mg q_Book) : Cal P w K mg base (CX1 P w) 1 "gain_of" ["place"] spGn := by
  refine T.d_gain_of.cal (fun _ _ _ _ _ _ us hl => match us, hl with | [_], _ => rfl) fun f fd F => F.okC sc_gain_of (fun vs H Q E h => ?_) (fun cdv A outer s H vs Q E hr h => ?_)
  · obtain ⟨_, _, rfl, _⟩ := h; rfl
  · obtain ⟨a, q, rfl, rq, kk⟩ := h
    have nd := sc_gain_of.nd
    refine ⟨_, (pss_one (ps_ret (pe_ifExp (pt_cmpR op_eq (pe_ix ix_tupH (pv 0) pe_int (fun _ _ => rfl)) pe_str (nomark _)) (pe_tupS (pa_cons pe_int (pa_cons pe_int pa_nil (se rfl)) (se rfl))) (pe_ix ix_tupH (pv 0) pe_int (fun _ _ => rfl))))), ?_⟩
    cases q with
    | fin g =>
      obtain ⟨t', r, e, ht', hr'⟩ := rep_fin.mp rq
      cases e
      simp_all only [ht']
      rw [if_neg (by decide +kernel)]
      exact kk _ _ (Same.refl _) hr'
    | thr g ws =>
      obtain ⟨t', r, l, zs, e, ht', hr', hl', rz⟩ := rep_thr.mp rq
      cases e
      simp_all only [ht']
      rw [if_neg (by decide +kernel)]
      exact kk _ _ (Same.refl _) hr'
    | pck w to =>
      obtain ⟨t', l, e, ht', hl'⟩ := rep_pck.mp rq
      cases e
      simp_all only [ht']
      exact ⟨by decide, fun p H2 s2 _ e2 => kk _ _ s2 e2⟩
theorem sc_Book___init__ : FnScope ["self", "tops", "bottom"] ["self", "tops", "bottom"] (defScope (inClass (top 6) 0)) := ⟨rfl, rfl, rfl, by decide +kernel, rfl, by decide +kernel, by decide +kernel⟩
theorem ok_bk (T : Txt K mg q_Book) : MkCal P w K mg base (CX1 P w) 1 "Book" q_Book ["self", "tops", "bottom"] (spIn q_Book) := by
  refine T.di_Book.cal (fun _ _ _ _ _ _ us hl => match us, hl with | [_, _, _], _ => rfl) fun f fd F => F.okC sc_Book___init__ (fun vs H Q E h => ?_) (fun cdv A outer s H vs Q E hr h => ?_)
  · obtain ⟨_, _, _, _, _, rfl, _⟩ := h; rfl
  · obtain ⟨x, dx, l, ts, b, rfl, hx, hl, kk⟩ := h
    have nd := sc_Book___init__.nd
    refine ⟨_, (pss_cons (ps_fld (pv 0) (pe_callTy (call_list_ofK (K := K)) (by rfl) T.z_list rfl (pa_cons (pv 1) pa_nil (se rfl)) (he := se rfl) (hpl := na rfl)) rfl)
    (pss_one (ps_fld (pv 0) (pv 2) rfl))), ?_⟩
    simp_all only [sFld]
    refine ⟨_, .inl (SqL.of hl), fun m nm => ?_⟩
    have mx : m ≠ x := fun z => by rw [z, hx] at nm; cases nm
    have hx1 : upd H m (.lst (ts.map V.int)) x = some (.ins q_Book dx []) := by rw [upd_ne (Ne.symm mx)]; exact hx
    refine ⟨_, _, _, hx1, T.cl_Book, T.na_Book_tops, by decide, _, _, _, upd_same, T.cl_Book, T.na_Book_bottom, by show (1 : Nat) < 1000; decide, ?_⟩
    refine kk m _ nm ?_ ?_ ?_
    · rw [upd_ne mx, upd_ne mx, upd_same]
    · rw [upd_same]
      show some (HO.ins q_Book dx (if Str.ofString "tops" = Str.ofString "bottom" then _ else _)) = _
      rw [if_neg (by decide +kernel)]
      rfl
    · intro y o ny hy
      have ym : y ≠ m := fun z => by rw [z, nm] at hy; cases hy
      rw [upd_ne ny, upd_ne ny, upd_ne ym]
      exact hy
theorem sc_book_of : FnScope ["several", "bottom"] ["several"] (defScope (top 8)) := ⟨rfl, rfl, rfl, by decide +kernel, rfl, by decide +kernel, by decide +kernel⟩
theorem ok_bo (T : Txt K mg q_Book) : Cal P w K mg base (CX1 P w) 3 "book_of" ["several"] (spBo q_Book) := by
  have c_common_bottom : Cal P w K mg base (CX1 P w) 2 "common_bottom" ["several"] spCb := ok_cb T
  have m_Book : MkCal P w K mg base (CX1 P w) 1 "Book" q_Book ["self", "tops", "bottom"] (spIn q_Book) := ok_bk T
  refine T.d_book_of.cal (fun _ _ _ _ _ _ us hl => match us, hl with | [_], _ => rfl) fun f fd F => F.okC sc_book_of (fun vs H Q E h => ?_) (fun cdv A outer s H vs Q E hr h => ?_)
  · obtain ⟨_, _, _, rfl, _⟩ := h; rfl
  · obtain ⟨a, ws, Z, rfl, rf, lw, dv, Z0, bZ, kk⟩ := h
    have nd := sc_book_of.nd
    refine ⟨_, (pss_cons (ps_set (i := 1) nd rfl (Or.inr rfl) (pe_cal c_common_bottom (hr.mono (by decide)) rfl strictP.pass (pa_cons (pv 0) pa_nil (se rfl)) (he := se rfl) (hpl := na rfl)))
    (pss_one (ps_ret (pe_mk m_Book (hr.mono (by decide)) rfl strictP.pass (pa_cons (pe_comp rfl (N := ["several", "bottom"]) (so := defScope (top 8)) (N' := ["one", "bottom"]) (k := 1) (fr := [1]) rfl rfl ⟨rfl, by decide +kernel, by decide +kernel, by decide +kernel, rfl, by decide +kernel, by decide +kernel⟩ (pi_listK (K := K) (pv 0)) (fun _ _ _ _ _ => (pg_name (i := 0) (show (["one", "bottom"] : List Str).Nodup by decide +kernel) rfl (Or.inl rfl))) (fun _ _ _ _ _ => pts_nil)
      (fun _ _ _ _ _ => (pe_op op_mulB (pe_ix ix_tupH (pv 0) pe_int (fun _ _ => rfl)) (pe_op op_fdivB (pv 1) (pe_ix ix_tupH (pv 0) pe_int (fun _ _ => rfl)))))) (pa_cons (pv 1) pa_nil (se rfl)) (se rfl)) (he := se rfl) (hpl := na rfl))))), ?_⟩
    simp_all only [spCb, tMake]
    refine ⟨ws, rf, lw, Z, fun x hx => ⟨(dv x hx).1, (dv x hx).2.1⟩, Z0, bZ, ?_⟩
    obtain ⟨_, xs, e, ha, rl⟩ := rep_lst.mp rf
    cases e
    have lx := rl.length
    rw [List.length_map] at lx
    refine ⟨⟨_, SqL.of ha⟩, ?_⟩
    obtain ⟨l1, l2, l3, l4⟩ := Wq.lcmL_ok (xs := ws) (c := 1) (by decide) fun x hx => (dv x hx).1
    have lz := l4 (Z := Z) ⟨Z, by omega⟩ fun x hx => (dv x hx).2.1
    have b1 : Bt 2000 (Wq.lcmL 1 ws) := bZ.le (by have := Int.le_of_dvd Z0 lz; omega)
    have S : Src (Itl K a) (Same H) ws.length (fun i x H H3 => H3 = H ∧ xs[i]? = some x) := by rw [lx]; exact src_list (fun H' s' => SqL.of (s' _ _ ha))
    refine comp_ints ws (fun x => some (Wq.sc (Wq.lcmL 1 ws) x)) S (fun _ _ _ _ h => h.1) (by rw [sizeLine_eq]; omega) ?_ ?_
    · rintro i x v ep ⟨_, ex⟩ Y N y1 _
      obtain ⟨t, et, ht⟩ := repW_at rl ep
      rw [ex] at et
      cases et
      have dx := dv x (List.mem_of_getElem? ep)
      have b2 : Bt 2000 x.2 := bZ.le (by have := Int.le_of_dvd Z0 dx.2.1; omega)
      simp_all only [tYes, ht]
      exact ⟨CDivB.of dx.1 b2, Bt.mulOk dx.2.2 (b1.le (Nm.quot_abs dx.1 (l3 x (List.mem_of_getElem? ep)))), y1 _ rfl⟩
    · intro D n1 n2 x dx nx ndx ne
      rw [fm_some] at nx ndx ⊢
      have s1 := same_upd (H := H) (o := .lst (List.map V.int (ws.map (Wq.sc (Wq.lcmL 1 ws))))) n2
      have hD : upd H D (.lst (List.map V.int (ws.map (Wq.sc (Wq.lcmL 1 ws))))) D = some _ := upd_same
      have s2 := s1.trans (same_upd (o := .own x) ndx)
      have hD2 := same_upd (o := .own x) ndx _ _ hD
      generalize upd H D (.lst (List.map V.int (ws.map (Wq.sc (Wq.lcmL 1 ws))))) = H1 at *
      have xD : D ≠ x := fun z => by rw [z, nx] at hD; cases hD
      refine ⟨x, dx, D, _, _, rfl, upd_same, by rw [upd_ne xD]; exact hD2, fun m H' nm hm hx' ky => ⟨rfl, kk x dx m H' (fun y o hy => ?_) hx' hm⟩⟩
      have yx : y ≠ x := fun z => by have := s1 _ _ hy; rw [z, nx] at this; cases this
      exact ky y o yx (by rw [upd_ne yx]; exact s2 _ _ hy)
theorem sc_fits : FnScope ["place", "top", "gain", "tops", "leads"] ["place", "top", "gain", "tops"] (defScope (top 10)) := ⟨rfl, rfl, rfl, by decide +kernel, rfl, by decide +kernel, by decide +kernel⟩
theorem ok_ft (T : Txt K mg q_Book) : Cal P w K mg base (CX1 P w) 2 "fits" ["place", "top", "gain", "tops"] spFt := by
  have c_total_weight : Cal P w K mg base (CX1 P w) 1 "total_weight" ["ways"] spTw := ok_tw T
  refine T.d_fits.cal (fun _ _ _ _ _ _ us hl => match us, hl with | [_, _, _, _], _ => rfl) fun f fd F => F.okC sc_fits (fun vs H Q E h => ?_) (fun cdv A outer s H vs Q E hr h => ?_)
  · obtain ⟨_, _, _, _, _, _, rfl, _⟩ := h; rfl
  · obtain ⟨a, q, t, g, l, ts, rfl, rq, hl, gq, bt, bg, bts, kk⟩ := h
    have nd := sc_fits.nd
    refine ⟨_, (pss_cons (ps_if (pt_cmpR op_eq (pe_ix ix_tupH (pv 0) pe_int (fun _ _ => rfl)) pe_str (nomark _)) (pss_one (ps_ret (pe_cmpR op_eq (pv 1) (pv 2) (nomark _))))
      pss_nil)
    (pss_cons (ps_if (pt_cmpR op_eq (pe_ix ix_tupH (pv 0) pe_int (fun _ _ => rfl)) pe_str (nomark _)) (pss_one (ps_ret (pe_cmpR op_eq (pe_op op_mulB (pe_op op_sub (pv 1) (pv 2)) (pe_cal c_total_weight (hr.mono (by decide)) rfl strictP.pass (pa_cons (pe_ix ix_tupH (pv 0) pe_int (fun _ _ => rfl)) pa_nil (se rfl)) (he := se rfl) (hpl := na rfl))) (pe_callB (call_sum_lK (K := K)) (by rfl) T.z_sum rfl (pa_cons (pe_comp rfl (N := ["place", "top", "gain", "tops", "leads"]) (so := defScope (top 10)) (N' := ["weight", "to", "tops"]) (k := 2) (fr := [3]) rfl rfl ⟨rfl, by decide +kernel, by decide +kernel, by decide +kernel, rfl, by decide +kernel, by decide +kernel⟩ (pi_listK (K := K) (pe_ix ix_tupH (pv 0) pe_int (fun _ _ => rfl))) (fun _ _ _ _ _ => (pg_tupK (K := K) (n := 2) rfl (pgs_cons (pg_name (i := 0) (show (["weight", "to", "tops"] : List Str).Nodup by decide +kernel) rfl (Or.inl rfl)) (pgs_cons (pg_name (i := 1) (show (["weight", "to", "tops"] : List Str).Nodup by decide +kernel) rfl (Or.inl rfl)) pgs_nil)))) (fun _ _ _ _ _ => pts_nil)
      (fun _ _ _ _ _ => (pe_op op_mulB (pv 0) (pe_ix ix_listH (pv 2) (pv 1) (fun _ _ => rfl))))) pa_nil (se rfl)) (he := se rfl) (hpl := na rfl)) (nomark _))))
      pss_nil)
    (pss_cons (ps_setC (i := 4) rfl nd rfl rfl (N := ["place", "top", "gain", "tops", "leads"]) (so := defScope (top 10)) (N' := ["to", "tops"]) (k := 1) (fr := [3]) rfl rfl ⟨rfl, by decide +kernel, by decide +kernel, by decide +kernel, rfl, by decide +kernel, by decide +kernel⟩ (pi_listK (K := K) (pe_ix ix_tupH (pv 0) pe_int (fun _ _ => rfl))) (fun _ _ _ _ _ => (pg_name (i := 0) (show (["to", "tops"] : List Str).Nodup by decide +kernel) rfl (Or.inl rfl))) (fun _ _ _ _ _ => pts_nil)
      (fun _ _ _ _ _ => (pe_ix ix_listH (pv 1) (pv 0) (fun _ _ => rfl))))
    (pss_one (ps_ret (pe_cmpR op_eq (pv 1) (pe_ifExp (pt_cmpR op_eq (pe_ix ix_tupH (pv 0) pe_int (fun _ _ => rfl)) pe_int (nomark _)) (pe_callB (call_max_lK (K := K)) (by rfl) T.z_max rfl (pa_cons (pv 4) pa_nil (se rfl)) (he := se rfl) (hpl := na rfl)) (pe_callB (call_min_lK (K := K)) (by rfl) T.z_min rfl (pa_cons (pv 4) pa_nil (se rfl)) (he := se rfl) (hpl := na rfl))) (nomark _))))))), ?_⟩
    cases q with
    | fin w =>
      obtain ⟨t', r, e, ht', hr'⟩ := rep_fin.mp rq
      cases e
      simp_all only [ht']
      exact kk _ (Same.refl _)
    | thr w ws =>
      obtain ⟨t', r, m, zs, e, ht', hr', hm, rz⟩ := rep_thr.mp rq
      cases e
      simp_all only [ht', spTw]
      rw [if_neg (by decide +kernel)]
      obtain ⟨gw, l0, l5, gs⟩ := gq
      have tb := Wq.totW_bd (ws := ws) fun p hp => ⟨(gs p hp).1, (gs p hp).2.1⟩
      refine ⟨ws, rep_lst.mpr ⟨m, zs, rfl, hm, rz⟩, l0, l5, fun p hp => ⟨(gs p hp).1, (gs p hp).2.1⟩, fun H1 s1 => ⟨Bt.mulOk (n := 20) (bt.sub bg) (Bt.of 1000000 (by omega) (by omega)), _, s1 _ _ ht', _, rfl, _, rfl, ⟨_, SqL.of (s1 _ _ hm)⟩, ?_⟩⟩
      have lx := rz.length
      rw [List.length_map] at lx
      have S : Src (Itl K m) (Same H1) ws.length (fun i x H H3 => H3 = H ∧ zs[i]? = some x) := by rw [lx]; exact src_list (fun H' s' => SqL.of (s' _ _ (s1 _ _ hm)))
      refine comp_ints2 ws (fun p => some (p.1 * ts.getD p.2.toNat 0)) S (fun _ _ _ _ h => h.1) (by rw [sizeLine_eq]; omega) ?_ ?_
      · rintro i p x ep ⟨_, ex⟩
        obtain ⟨tt, et, htt⟩ := repW_at rz ep
        rw [ex] at et
        cases et
        have gp := gs p (List.mem_of_getElem? ep)
        refine ⟨tt, _, _, rfl, SqT.of (s1 _ _ htt), fun Y N y1 _ => ?_⟩
        simp_all only [tYes, s1 _ _ hl, at_int gp.2.2.1 gp.2.2.2]
        exact ⟨Bt.mulOk (m := 20) (Bt.of 200000 (by omega) (by omega)) (bts _ (getD_in gp.2.2.1 gp.2.2.2)), y1 _ rfl⟩
      · intro D n1 n2
        rw [fm_some]
        exact ⟨_, SqL.of upd_same, kk _ (s1.trans (same_upd n2))⟩
    | pck who to =>
      obtain ⟨t', m, e, ht', hm⟩ := rep_pck.mp rq
      cases e
      simp_all only [ht']
      rw [if_neg (by decide +kernel), if_neg (by decide +kernel)]
      obtain ⟨hw, l0, l5, gs⟩ := gq
      refine ⟨⟨_, SqL.of hm⟩, ?_⟩
      have S : Src (Itl K m) (Same H) to.length (fun i x H H3 => H3 = H ∧ (to.map V.int)[i]? = some x) := by
        have := src_list (K := K) (a := m) (xs := to.map V.int) (Ok := Same H) (fun H' s' => SqL.of (s' _ _ hm))
        rw [List.length_map] at this
        exact this
      refine comp_ints to (fun x => some (ts.getD x.toNat 0)) S (fun _ _ _ _ h => h.1) (by rw [sizeLine_eq]; omega) ?_ ?_
      · rintro i x v ep ⟨_, ex⟩ Y N y1 _
        rw [List.getElem?_map, ep] at ex
        cases ex
        have gp := gs x (List.mem_of_getElem? ep)
        simp_all only [tYes, hl, at_int gp.1 gp.2]
        exact y1 _ rfl
      · intro D n1 n2
        rw [fm_some]
        have m0 : to.getD 0 0 ∈ to := by
          cases to with
          | nil => simp at l0
          | cons x y => simp
        have mm : ts.getD (to.getD 0 0).toNat 0 ∈ to.map fun x => ts.getD x.toNat 0 := List.mem_map.mpr ⟨_, m0, rfl⟩
        have k1 := kk _ (same_upd (o := .lst (List.map V.int (to.map fun x => ts.getD x.toNat 0))) n2)
        refine ⟨_, same_upd n2 _ _ ht', _, rfl, rfl, ?_⟩
        rcases hw with rfl | rfl
        · rw [if_pos rfl]
          refine ⟨_, SqL.of upd_same, by rw [List.length_map]; exact l0, fun M hM hx => ?_⟩
          simp only [Wq.fitN, Wq.top_is_max mm hM hx] at k1
          exact k1
        · rw [if_neg (by simp)]
          refine ⟨_, SqL.of upd_same, by rw [List.length_map]; exact l0, fun M hM hx => ?_⟩
          simp only [Wq.fitN, Wq.top_is_min mm hM hx] at k1
          exact k1
theorem sc_misfits : FnScope ["board", "worths", "tops", "gains"] ["board", "worths"] (defScope (top 11)) := ⟨rfl, rfl, rfl, by decide +kernel, rfl, by decide +kernel, by decide +kernel⟩
theorem ok_ms (T : Txt K mg q_Book) : Cal P w K mg base (CX1 P w) 4 "misfits" ["board", "worths"] (spMs K) := by
  have c_book_of : Cal P w K mg base (CX1 P w) 3 "book_of" ["several"] (spBo q_Book) := ok_bo T
  have c_gain_of : Cal P w K mg base (CX1 P w) 1 "gain_of" ["place"] spGn := ok_gn T
  have c_fits : Cal P w K mg base (CX1 P w) 2 "fits" ["place", "top", "gain", "tops"] spFt := ok_ft T
  refine T.d_misfits.cal (fun _ _ _ _ _ _ us hl => match us, hl with | [_, _], _ => rfl) fun f fd F => F.okC sc_misfits (fun vs H Q E h => ?_) (fun cdv A outer s H vs Q E hr h => ?_)
  · obtain ⟨_, _, _, _, _, rfl, _⟩ := h; rfl
  · obtain ⟨a, c, b, ws, Z, rfl, rb, rw_, b0, lb, lw, gb, dv, Z0, bZ, kk⟩ := h
    have nd := sc_misfits.nd
    refine ⟨_, (pss_cons (ps_set (i := 2) nd rfl (Or.inr rfl) (pe_fld (pe_cal c_book_of (hr.mono (by decide)) rfl strictP.pass (pa_cons (pe_op op_cat (pv 1) (pe_comp rfl (N := ["board", "worths", "tops", "gains"]) (so := defScope (top 11)) (N' := ["place"]) (k := 1) (fr := []) rfl rfl ⟨rfl, by decide +kernel, by decide +kernel, by decide +kernel, rfl, by decide +kernel, by decide +kernel⟩ (pi_listK (K := K) (pv 0)) (fun _ _ _ _ _ => (pg_name (i := 0) (show (["place"] : List Str).Nodup by decide +kernel) rfl (Or.inl rfl))) (fun _ _ _ _ _ => pts_nil)
      (fun _ _ _ _ _ => (pe_cal c_gain_of (hr.mono (by decide)) rfl strictP.pass (pa_cons (pv 0) pa_nil (se rfl)) (he := se rfl) (hpl := na rfl))))) pa_nil (se rfl)) (he := se rfl) (hpl := na rfl)) rfl))
    (pss_cons (ps_set (i := 3) nd rfl (Or.inr rfl) (pe_slice (sl_listK (K := K)) (pv 2) (po_some (pe_callB call_lenL (by rfl) T.z_len PySem.boot_len (pa_cons (pv 1) pa_nil (se rfl)) (he := se rfl) (hpl := na rfl))) po_none))
    (pss_one (ps_ret (pe_comp rfl (N := ["board", "worths", "tops", "gains"]) (so := defScope (top 11)) (N' := ["number", "place", "tops", "gains"]) (k := 2) (fr := [2, 3]) rfl rfl ⟨rfl, by decide +kernel, by decide +kernel, by decide +kernel, rfl, by decide +kernel, by decide +kernel⟩ (pi_enumerateK (K := K) rfl T.z_enumerate (pa_cons (pv 0) pa_nil (se rfl))) (fun _ _ _ _ _ => (pg_tupK (K := K) (n := 2) rfl (pgs_cons (pg_name (i := 0) (show (["number", "place", "tops", "gains"] : List Str).Nodup by decide +kernel) rfl (Or.inl rfl)) (pgs_cons (pg_name (i := 1) (show (["number", "place", "tops", "gains"] : List Str).Nodup by decide +kernel) rfl (Or.inl rfl)) pgs_nil)))) (fun _ _ _ _ _ => (pts_one (pt_not (pt_val (pe_cal c_fits (hr.mono (by decide)) rfl strictP.pass (pa_cons (pv 1) (pa_cons (pe_ix ix_listH (pv 2) (pv 0) (fun _ _ => rfl)) (pa_cons (pe_ix ix_listH (pv 3) (pv 0) (fun _ _ => rfl)) (pa_cons (pv 2) pa_nil (se rfl)) (se rfl)) (se rfl)) (se rfl)) (he := se rfl) (hpl := na rfl))))))
      (fun _ _ _ _ _ => (pv 0))))))), ?_⟩
    obtain ⟨_, xs, e, ha, rl⟩ := rep_lst.mp rb
    cases e
    obtain ⟨_, ys, e, hc, rc⟩ := rep_lst.mp rw_
    cases e
    have lx := rl.length
    rw [List.length_map] at lx
    have ly := rc.length
    rw [List.length_map] at ly
    simp_all only [tFld, rCat, ha, hc, spGn, spBo]
    refine ⟨⟨_, SqL.of ha⟩, ?_⟩
    refine comp_map (src_list (Ok := Same H) (fun H' s' => SqL.of (s' _ _ ha))) (fun _ _ _ _ h => by rw [h.1]; exact Same.refl _) (by rw [sizeLine_eq]; omega) (fun i y H4 => ∃ q, b[i]? = some q ∧ Rep H4 (wrowD (Wq.gainP q)) y) (fun i y H4 H5 s5 ⟨q, e, r⟩ => ⟨q, e, r.mono s5⟩) ?_ ?_
    · rintro i x w0 H4 H5 Q2 hi s4 ⟨rfl, ex⟩ kq
      obtain ⟨q, eq, rq⟩ := rep_br_get rl ex
      simp_all only [spGn]
      exact ⟨q, rq.mono s4, fun r H6 s6 hr6 => kq _ _ s6 ⟨q, eq, rep_wrow.mpr ⟨r, rfl, hr6⟩⟩⟩
    intro us H2 s2 lu hu D n1 n2
    have s3 := s2.trans (same_upd (o := .lst us) n2)
    have nD : H D = none := none_of s2 n2
    have hD : upd H2 D (.lst us) D = some (.lst us) := upd_same
    have ru : RepL (upd H2 D (.lst us)) ((b.map Wq.gainP).map wrowD) us := by
      refine repL_map (by rw [List.length_map]; omega) fun i y ey g eg => ?_
      obtain ⟨q', e', r'⟩ := hu i y ey
      rw [List.getElem?_map, e'] at eg
      cases eg
      exact r'.mono (same_upd n2)
    have hc3 := s3 _ _ hc
    have rc3 := rc.mono s3
    generalize upd H2 D (.lst us) = H3 at *
    refine ⟨_, hc3, _, hD, by rw [sizeLine_eq]; omega, fun p np => ?_⟩
    have sp := same_upd (o := .lst (ys ++ us)) np
    have gg : ∀ x ∈ ws ++ b.map Wq.gainP, Wq.Lw x ∧ x.2 ∣ Z ∧ Bt 4000 x.1 := fun x hx => by
      rcases List.mem_append.mp hx with hx | hx
      · exact dv x hx
      · obtain ⟨q, hq, rfl⟩ := List.mem_map.mp hx
        have g1 := gain_gs (gb q hq).1
        exact ⟨g1.2.2, (gb q hq).2, g1.1.mono (by decide)⟩
    refine ⟨ws ++ b.map Wq.gainP, rep_lst.mpr ⟨p, _, rfl, upd_same, ?_⟩, by rw [List.length_append, List.length_map]; omega, Z, fun x hx => ⟨(gg x hx).1.1, (gg x hx).2⟩, Z0, bZ, fun x dx m H4 s4 hx hm => ?_⟩
    · rw [List.map_append]
      exact (rc3.append ru).mono sp
    obtain ⟨l1, l2, l3, l4⟩ := Wq.lcmL_ok (xs := ws ++ b.map Wq.gainP) (c := 1) (by decide) fun x hx => (gg x hx).1.1
    have lz := l4 (Z := Z) ⟨Z, by omega⟩ fun x hx => (gg x hx).2.1
    have bL : Bt 2000 (Wq.lcmL 1 (ws ++ b.map Wq.gainP)) := bZ.le (by have := Int.le_of_dvd Z0 lz; omega)
    have bts : ∀ x ∈ ws ++ b.map Wq.gainP, Bt 7000 (Wq.sc (Wq.lcmL 1 (ws ++ b.map Wq.gainP)) x) := fun x hx => by
      have := (gg x hx).2.2.mul (bL.le (Nm.quot_abs (gg x hx).1.1 (l3 x hx)))
      exact Bt.mono this (by decide)
    have sH : Same H H4 := s3.trans (sp.trans s4)
    generalize Wq.lcmL 1 (ws ++ b.map Wq.gainP) = L at *
    refine ⟨_, _, _, hx, T.cl_Book, T.na_Book_tops, _, List.lookup_cons_self, _, sH _ _ hc, _, rfl, _, SqL.of hm, fun r nr => ?_⟩
    have ec : cutV (List.map V.int (List.map (Wq.sc L) (ws ++ b.map Wq.gainP))) (some (ys.length : Int)) none = List.map V.int ((b.map Wq.gainP).map (Wq.sc L)) := by
      rw [cut_drop (by omega), Int.toNat_natCast, ← ly, ← List.map_drop, ← List.map_drop, List.drop_left]
    rw [ec]
    have s5 := same_upd (o := .lst (List.map V.int ((b.map Wq.gainP).map (Wq.sc L)))) nr
    have hr5 : upd H4 r (.lst (List.map V.int ((b.map Wq.gainP).map (Wq.sc L)))) r = some _ := upd_same
    have hm5 := s5 _ _ hm
    have s05 := sH.trans s5
    have ha5 := s05 _ _ ha
    generalize upd H4 r (.lst (List.map V.int ((b.map Wq.gainP).map (Wq.sc L)))) = H5 at *
    refine ⟨⟨_, SqL.of ha5⟩, ?_⟩
    have S : Src (Ite K a) (Same H5) (List.range b.length).length (fun i v H H3 => ∃ p x, H p = none ∧ v = .ref p ∧ xs[i]? = some x ∧ H3 = upd H p (.tup [.int i, x])) := by rw [List.length_range, lx]; exact src_enum (fun H' s' => SqL.of (s' _ _ ha5))
    refine comp_sel2 (K := K) (List.range b.length) (fun i => if Wq.byP ws (b.getD i (.fin (0, 1))) = ws.getD i (0, 1) then none else some (V.int (i : Int))) S (fun i u v H3 => u = .int i ∧ xs[i]? = some v) ?_ (by rw [List.length_range, sizeLine_eq]; omega) ?_ ?_
    · rintro i x H6 H7 hi s6 ⟨p', v, n6, rfl, ev, rfl⟩
      exact ⟨same_upd n6, p', _, _, rfl, SqT.of upd_same, rfl, ev⟩
    · rintro i j u v H6 ej s6 ⟨rfl, ev⟩ Y N y1 no1
      have hj : j = i ∧ i < b.length := by
        obtain ⟨h1, h2⟩ := List.getElem?_eq_some_iff.mp ej
        rw [List.length_range] at h1
        rw [List.getElem_range] at h2
        exact ⟨h2.symm, h1⟩
      obtain ⟨rfl, hj⟩ := hj
      obtain ⟨q, eq, rq⟩ := rep_br_get rl ev
      have hq := List.mem_of_getElem? eq
      have gq : PkG ws.length q := by rw [lw]; exact (gb q hq).1
      have ew : ws[j]? = some ws[j] := List.getElem?_eq_getElem (by omega)
      have mw : ws[j] ∈ ws := List.getElem_mem _
      have at1 : atI (List.map V.int (List.map (Wq.sc L) (ws ++ b.map Wq.gainP))) (j : Int) = some (V.int (Wq.sc L ws[j])) := atI_pl (f := V.int) (by rw [List.getElem?_map, List.getElem?_append_left (by omega), ew]; rfl)
      have at2 : atI (List.map V.int ((b.map Wq.gainP).map (Wq.sc L))) (j : Int) = some (V.int (Wq.sc L (Wq.gainP q))) := atI_pl (f := V.int) (by rw [List.getElem?_map, List.getElem?_map, eq]; rfl)
      have mg : Wq.gainP q ∈ ws ++ b.map Wq.gainP := List.mem_append_right _ (List.mem_map.mpr ⟨q, hq, rfl⟩)
      have fe : Wq.fitN ((ws ++ b.map Wq.gainP).map (Wq.sc L)) (Wq.sc L ws[j]) (Wq.sc L (Wq.gainP q)) q = decide (Wq.byP ws q = ws[j]) :=
        (fitN_P gq).trans (Wq.fit_by l1 ⟨(dv _ mw).1, l3 _ (List.mem_append_left _ mw)⟩ (fine_of gq (l3 _ mg) fun x hx => ⟨(dv x hx).1, l3 _ (List.mem_append_left _ hx)⟩))
      have eb : b.getD j (.fin (0, 1)) = q := by rw [List.getD_eq_getElem?_getD, eq]; rfl
      have ews : ws.getD j (0, 1) = ws[j] := by rw [List.getD_eq_getElem?_getD, ew]; rfl
      rw [eb, ews] at y1 no1
      simp_all only [s6 _ _ hm5, s6 _ _ hr5, at1, at2, spFt]
      refine ⟨q, rq.mono (s05.trans s6), _, rfl, gq.up (by rw [List.length_map, List.length_append]; omega), bts _ (List.mem_append_left _ mw), bts _ mg, fun x hx => by obtain ⟨y, hy, rfl⟩ := List.mem_map.mp hx; exact bts y hy, fun H7 s7 => ?_⟩
      rw [fe]
      by_cases c : Wq.byP ws q = ws[j]
      · rw [if_pos c] at no1
        rw [if_neg (by simp [c])]
        exact no1 _ rfl s7
      · rw [if_neg c] at y1
        rw [if_pos (by simp [c])]
        exact y1 _ _ rfl s7
    · intro H6 s6 D6 n7 n8
      rw [← misP_map]
      exact kk D6 _ (s05.trans (s6.trans (same_upd n8))) (none_of (s05.trans s6) n8) upd_same
theorem sc__law_cell : FnScope ["_law_script", "_law_k", "_law_number"] ["_law_script", "_law_k"] (defScope (top 13)) := ⟨rfl, rfl, rfl, by decide +kernel, rfl, by decide +kernel, by decide +kernel⟩
theorem ok_cell (T : Txt K mg q_Book) : Cal P w K mg base (CX1 P w) 1 "_law_cell" ["_law_script", "_law_k"] (spC K) := by
  refine T.d__law_cell.cal (fun _ _ _ _ _ _ us hl => match us, hl with | [_, _], _ => rfl) fun f fd F => F.okC sc__law_cell (fun vs H Q E h => ?_) (fun cdv A outer s H vs Q E hr h => ?_)
  · obtain ⟨_, _, _, rfl, _⟩ := h; rfl
  · obtain ⟨a, ns, k, rfl, hS, k0, k1, kk⟩ := h
    have nd := sc__law_cell.nd
    refine ⟨_, (pss_cons (ps_if (pt_cmpR op_lt (pv 1) (pe_callB (call_lenQK (K := K)) (by rfl) T.z_len PySem.boot_len (pa_cons (pv 0) pa_nil (se rfl)) (he := se rfl) (hpl := na rfl)) (nomark _)) (pss_one (ps_ret (pe_ix (ix_listSK (K := K)) (pv 0) (pv 1) (fun _ _ => rfl))))
      pss_nil)
    (pss_cons (ps_set (i := 2) nd rfl (Or.inl rfl) (pe_op op_add (pe_op op_mulB (pv 1) pe_int) pe_int))
    (pss_cons (ps_if (pt_cmpR op_gt (pe_callB (call_lenQK (K := K)) (by rfl) T.z_len PySem.boot_len (pa_cons (pv 0) pa_nil (se rfl)) (he := se rfl) (hpl := na rfl)) pe_int (nomark _)) (pss_one (ps_set (i := 2) nd rfl (Or.inl rfl) (pe_op op_add (pe_op op_mulB (pe_op op_modB (pe_ix (ix_listSK (K := K)) (pv 0) (pe_op op_modB (pe_op op_mulB (pv 1) pe_int) (pe_callB (call_lenQK (K := K)) (by rfl) T.z_len PySem.boot_len (pa_cons (pv 0) pa_nil (se rfl)) (he := se rfl) (hpl := na rfl))) (fun _ _ => rfl)) pe_int) pe_int) (pe_op op_mulB (pe_op op_mulB (pv 1) (pv 1)) pe_int))))
      pss_nil)
    (pss_one (ps_ret (pe_op op_modB (pe_op op_mulB (pv 2) (pv 2)) pe_int)))))), ?_⟩
    simp_all only [rIxQ]
    have j2 : k * k ≤ 1000000 := Int.le_trans (Int.mul_le_mul (show k ≤ 1000 by omega) (show k ≤ 1000 by omega) k0 (by decide)) (by decide)
    have j3 : 0 ≤ k * k := Int.mul_nonneg k0 k0
    refine ⟨ns, hS, ite2 (fun c => ⟨ns, hS, k0, c, kk _⟩) (fun c => ⟨mulOkL (by omega) (by omega), ns, hS, ite2 (fun z => ?_) (fun z => ?_)⟩)⟩
    · have m1 := Int.emod_nonneg (ns.getD (k * 5 % (ns.length : Int)).toNat 0) (show (2147483647 : Int) ≠ 0 by decide)
      have m2 := Int.emod_lt_of_pos (ns.getD (k * 5 % (ns.length : Int)).toNat 0) (show (0 : Int) < 2147483647 by decide)
      exact ⟨mulOkL (by omega) (by omega), ns, hS, z, ns, hS, Int.emod_nonneg _ (by omega), Int.emod_lt_of_pos _ z, by decide, mulOkR, mulOkL (by omega) (by omega), mulOkL (by omega) (by omega), mulOkL (by omega) (by omega), by decide, kk _⟩
    · exact ⟨mulOkL (by omega) (by omega), by decide, kk _⟩
theorem sc__law_mixed : FnScope ["_law_cell_here", "_law_many"] ["_law_cell_here", "_law_many"] (defScope (top 14)) := ⟨rfl, rfl, rfl, by decide +kernel, rfl, by decide +kernel, by decide +kernel⟩
theorem ok_mix (T : Txt K mg q_Book) : Cal P w K mg base (CX1 P w) 1 "_law_mixed" ["_law_cell_here", "_law_many"] spMix := by
  refine T.d__law_mixed.cal (fun _ _ _ _ _ _ us hl => match us, hl with | [_, _], _ => rfl) fun f fd F => F.okC sc__law_mixed (fun vs H Q E h => ?_) (fun cdv A outer s H vs Q E hr h => ?_)
  · obtain ⟨_, _, rfl, _⟩ := h; rfl
  · obtain ⟨c, m, rfl, m0, kk⟩ := h
    have nd := sc__law_mixed.nd
    refine ⟨_, (pss_one (ps_ret (pe_op op_modB (pe_op op_fdivB (pe_op op_modB (pe_op op_mulB (pe_op op_modB (pv 0) (pe_op op_pow pe_int pe_int)) pe_int) (pe_op op_pow pe_int pe_int)) (pe_op op_pow pe_int pe_int)) (pv 1)))), ?_⟩
    simp_all only []
    have h1 := Int.emod_nonneg c (show ((2 : Int) ^ 64) ≠ 0 by decide)
    have h2 := Int.emod_lt_of_pos c (show (0 : Int) < 2 ^ 64 by decide)
    exact ⟨by decide, by decide, by decide, by decide, mulOkL (by omega) (by omega), by decide, by decide, by decide, by decide, by decide, by decide, by decide, CDivB.lit, m0, kk _ (Int.emod_nonneg _ (by omega)) (Int.emod_lt_of_pos _ m0)⟩
theorem sc__law_low : FnScope ["_law_top", "_law_bottom", "_law_one", "_law_other"] ["_law_top", "_law_bottom"] (defScope (top 15)) := ⟨rfl, rfl, rfl, by decide +kernel, rfl, by decide +kernel, by decide +kernel⟩
theorem ok_low (T : Txt K mg q_Book) : Cal P w K mg base (CX1 P w) 1 "_law_low" ["_law_top", "_law_bottom"] spLow := by
  refine T.d__law_low.cal (fun _ _ _ _ _ _ us hl => match us, hl with | [_, _], _ => rfl) fun f fd F => F.okC sc__law_low (fun vs H Q E h => ?_) (fun cdv A outer s H vs Q E hr h => ?_)
  · obtain ⟨_, _, rfl, _⟩ := h; rfl
  · obtain ⟨a, b, rfl, b0, bb, k⟩ := h
    have nd := sc__law_low.nd
    refine ⟨_, (pss_cons (ps_set (i := 2) nd rfl (Or.inl rfl) (pe_callB call_abs (by rfl) T.z_abs rfl (pa_cons (pv 0) pa_nil (se rfl)) (he := se rfl) (hpl := na rfl)))
    (pss_cons (ps_set (i := 3) nd rfl (Or.inl rfl) (pv 1))
    (pss_cons (ps_while PassesOwn.never (pt_cmpR op_gt (pv 3) pe_int (nomark _)) (pss_one (ps_par (i := 2) (j := 3) rfl nd rfl rfl (by decide) rfl rfl (pa_cons (pv 3) (pa_cons (pe_op op_modB (pv 2) (pv 3)) pa_nil (se rfl)) (se rfl)) rfl)))
    (pss_one (ps_ret (pe_tupS (pa_cons (pe_op op_fdivB (pv 0) (pv 2)) (pa_cons (pe_op op_fdivB (pv 1) (pv 2)) pa_nil (se rfl)) (se rfl)))))))), ?_⟩
    simp_all only []
    refine while_by (fun σ H1 => H1 = H ∧ ∃ x y : Int, σ = [some (.int a), some (.int b), some (.int x), some (.int y)] ∧ 0 ≤ x ∧ 0 ≤ y ∧ Nm.g x y = Nm.g a b) (fun σ _ => match σ with | [_, _, _, some (.int y)] => y.toNat | _ => 0) ?_ ?_ ?_
    · refine ⟨rfl, _, _, rfl, ?_, by omega, ?_⟩
      · split <;> omega
      · rw [show (if a < 0 then -a else a) = (a.natAbs : Int) by split <;> omega, Nm.g_abs]
    · rintro σ H1 ⟨rfl, x, y, rfl, x0, y0, e⟩
      simp_all only []
      refine ite2 (fun c => ?_) (fun c => ?_)
      · refine ⟨c, y0, Int.emod_nonneg _ (by omega), by rw [Nm.g_step x0 c, e], ?_⟩
        have := Int.emod_lt_of_pos x c
        have := Int.emod_nonneg x (show y ≠ 0 by omega)
        omega
      · have z : y = 0 := by omega
        subst z
        rw [Nm.g_zero x0] at e
        rw [e]
        have g0 : 0 < Nm.g a b := Nm.g_pos (by omega)
        have gb : Bt 8900 (Nm.g a b) := bb.le (by have := Nm.g_le (a := a) b0; omega)
        obtain ⟨e1, e2⟩ := Nm.st_pos (a := a) b0
        rw [e1, e2] at k
        exact ⟨CDivB.of g0 gb, CDivB.of g0 gb, by decide, fun p H2 s1 n1 e => k p H2 s1 n1 e⟩
    · intro σ H1 Q1 Q2 hq hc
      simp only [L2.start, Pr, tRev, tLR, tMaxD, tSortR, tD1, tDPop1, tSl, tNoPart, tPart, rSlL, tDIn, tDNotIn, gSub, rSetL, tLst, tDNewK, tComp, L2.stC, tFor_eq, iList, iTup, iRng1, iRng2, iZip, iEnum, iDict, iStr, tChain, tSumV, tBM, rJoin, tJoined, jNil, jLit, jInt, jStr, tRaise, tDGet, tDGet2, tDGet1, sDPut, Option.join_some, List.getElem?_nil,  tSeq, tRet, tRetN, tIfS, tTest, tB, tOp, tUn, tVar, tC, tCB, tCons, tNil, tCall, tTupS, tAsg, gName, gNil, gCons, tPar, tNext, tDrop, tAnd, tOr, tNot, tAndV, tOrV, tNotV, tIf, rI, rI0, rU, rIxTH, rIxLH, rEqT, rNeT, rInT, rEq, rNe, scal, CPow, at0, at1, at2, List.map_cons, List.map_nil, List.length_cons, List.length_nil, Nat.reduceSub, Nat.reduceAdd, Nat.zero_add, List.replicate_zero, List.reduceReplicate, List.append_nil, List.nil_append, List.cons_append, List.getElem?_cons_zero, List.getElem?_cons_succ, List.set_cons_zero, List.set_cons_succ, Option.some.injEq, exists_eq_left', exists_eq_left, V.ref.injEq, V.int.injEq, V.bl.injEq, V.str.injEq, V.ty.injEq, HO.tup.injEq, HO.lst.injEq, List.cons.injEq, and_true, true_and, and_assoc, exists_and_left, decide_eq_true_eq, Bool.not_eq_true', decide_eq_false_iff_not, ite_true, ite_false, if_true, if_false, Int.reduceToNat, eq_self_iff_true] at hc ⊢
      obtain ⟨v, e1, i, e2, q⟩ := hc
      exact ⟨v, e1, i, e2, hq _ _ q⟩
theorem sc__law_plus : FnScope ["_law_one", "_law_other"] ["_law_one", "_law_other"] (defScope (top 16)) := ⟨rfl, rfl, rfl, by decide +kernel, rfl, by decide +kernel, by decide +kernel⟩
theorem ok_pls (T : Txt K mg q_Book) : Cal P w K mg base (CX1 P w) 2 "_law_plus" ["_law_one", "_law_other"] spPls := by
  have c__law_low : Cal P w K mg base (CX1 P w) 1 "_law_low" ["_law_top", "_law_bottom"] spLow := ok_low T
  refine T.d__law_plus.cal (fun _ _ _ _ _ _ us hl => match us, hl with | [_, _], _ => rfl) fun f fd F => F.okC sc__law_plus (fun vs H Q E h => ?_) (fun cdv A outer s H vs Q E hr h => ?_)
  · obtain ⟨_, _, _, _, rfl, _⟩ := h; rfl
  · obtain ⟨p, q, a, b, rfl, hp, hq, ga, gb, k⟩ := h
    have nd := sc__law_plus.nd
    refine ⟨_, (pss_one (ps_ret (pe_cal c__law_low (hr.mono (by decide)) rfl strictP.pass (pa_cons (pe_op op_add (pe_op op_mulB (pe_ix ix_tupH (pv 0) pe_int (fun _ _ => rfl)) (pe_ix ix_tupH (pv 1) pe_int (fun _ _ => rfl))) (pe_op op_mulB (pe_ix ix_tupH (pv 1) pe_int (fun _ _ => rfl)) (pe_ix ix_tupH (pv 0) pe_int (fun _ _ => rfl)))) (pa_cons (pe_op op_mulB (pe_ix ix_tupH (pv 0) pe_int (fun _ _ => rfl)) (pe_ix ix_tupH (pv 1) pe_int (fun _ _ => rfl))) pa_nil (se rfl)) (se rfl)) (he := se rfl) (hpl := na rfl)))), ?_⟩
    simp only [Pr] at hp hq
    simp_all only [spLow, hp, hq]
    refine ⟨ga.1.mulOk gb.2.1, gb.1.mulOk ga.2.1, ga.2.1.mulOk gb.2.1, ?_⟩
    exact ⟨Int.mul_pos ga.2.2 gb.2.2, (ga.2.1.mul gb.2.1).mono (by decide), fun r H' s' n' e => k r H' s' n' e⟩
theorem sc__law_times : FnScope ["_law_one", "_law_other"] ["_law_one", "_law_other"] (defScope (top 17)) := ⟨rfl, rfl, rfl, by decide +kernel, rfl, by decide +kernel, by decide +kernel⟩
theorem ok_tms (T : Txt K mg q_Book) : Cal P w K mg base (CX1 P w) 2 "_law_times" ["_law_one", "_law_other"] spTms := by
  have c__law_low : Cal P w K mg base (CX1 P w) 1 "_law_low" ["_law_top", "_law_bottom"] spLow := ok_low T
  refine T.d__law_times.cal (fun _ _ _ _ _ _ us hl => match us, hl with | [_, _], _ => rfl) fun f fd F => F.okC sc__law_times (fun vs H Q E h => ?_) (fun cdv A outer s H vs Q E hr h => ?_)
  · obtain ⟨_, _, _, _, rfl, _⟩ := h; rfl
  · obtain ⟨p, q, a, b, rfl, hp, hq, ga, gb, k⟩ := h
    have nd := sc__law_times.nd
    refine ⟨_, (pss_one (ps_ret (pe_cal c__law_low (hr.mono (by decide)) rfl strictP.pass (pa_cons (pe_op op_mulB (pe_ix ix_tupH (pv 0) pe_int (fun _ _ => rfl)) (pe_ix ix_tupH (pv 1) pe_int (fun _ _ => rfl))) (pa_cons (pe_op op_mulB (pe_ix ix_tupH (pv 0) pe_int (fun _ _ => rfl)) (pe_ix ix_tupH (pv 1) pe_int (fun _ _ => rfl))) pa_nil (se rfl)) (se rfl)) (he := se rfl) (hpl := na rfl)))), ?_⟩
    simp only [Pr] at hp hq
    simp_all only [spLow, hp, hq]
    refine ⟨ga.1.mulOk gb.1, ga.2.1.mulOk gb.2.1, ?_⟩
    exact ⟨Int.mul_pos ga.2.2 gb.2.2, (ga.2.1.mul gb.2.1).mono (by decide), fun r H' s' n' e => k r H' s' n' e⟩
theorem sc__law_less : FnScope ["_law_one", "_law_other"] ["_law_one", "_law_other"] (defScope (top 26)) := ⟨rfl, rfl, rfl, by decide +kernel, rfl, by decide +kernel, by decide +kernel⟩
theorem ok_les (T : Txt K mg q_Book) : Cal P w K mg base (CX1 P w) 1 "_law_less" ["_law_one", "_law_other"] spLes := by
  refine T.d__law_less.cal (fun _ _ _ _ _ _ us hl => match us, hl with | [_, _], _ => rfl) fun f fd F => F.okC sc__law_less (fun vs H Q E h => ?_) (fun cdv A outer s H vs Q E hr h => ?_)
  · obtain ⟨_, _, _, _, rfl, _⟩ := h; rfl
  · obtain ⟨p, q, a, b, rfl, hp, hq, ga, gb, k⟩ := h
    have nd := sc__law_less.nd
    refine ⟨_, (pss_one (ps_ret (pe_cmpR op_lt (pe_op op_mulB (pe_ix ix_tupH (pv 0) pe_int (fun _ _ => rfl)) (pe_ix ix_tupH (pv 1) pe_int (fun _ _ => rfl))) (pe_op op_mulB (pe_ix ix_tupH (pv 1) pe_int (fun _ _ => rfl)) (pe_ix ix_tupH (pv 0) pe_int (fun _ _ => rfl))) (nomark _)))), ?_⟩
    simp only [Pr] at hp hq
    simp_all only [hp, hq]
    exact ⟨ga.1.mulOk gb.2.1, gb.1.mulOk ga.2.1, k⟩
theorem sc__law_share : FnScope ["_law_cell_here", "_law_k", "_law_way", "_law_top", "_law_bottom"] ["_law_cell_here", "_law_k"] (defScope (top 18)) := ⟨rfl, rfl, rfl, by decide +kernel, rfl, by decide +kernel, by decide +kernel⟩
theorem ok_shr (T : Txt K mg q_Book) : Cal P w K mg base (CX1 P w) 2 "_law_share" ["_law_cell_here", "_law_k"] spShr := by
  have c__law_low : Cal P w K mg base (CX1 P w) 1 "_law_low" ["_law_top", "_law_bottom"] spLow := ok_low T
  have c__law_mixed : Cal P w K mg base (CX1 P w) 1 "_law_mixed" ["_law_cell_here", "_law_many"] spMix := ok_mix T
  refine T.d__law_share.cal (fun _ _ _ _ _ _ us hl => match us, hl with | [_, _], _ => rfl) fun f fd F => F.okC sc__law_share (fun vs H Q E h => ?_) (fun cdv A outer s H vs Q E hr h => ?_)
  · obtain ⟨_, _, rfl, _⟩ := h; rfl
  · obtain ⟨c, k, rfl, k0, k1, kk⟩ := h
    have nd := sc__law_share.nd
    refine ⟨_, (pss_cons (ps_set (i := 2) nd rfl (Or.inl rfl) (pe_cal c__law_mixed (hr.mono (by decide)) rfl strictP.pass (pa_cons (pe_op op_add (pv 0) (pe_op op_mulB pe_int (pv 1))) (pa_cons pe_int pa_nil (se rfl)) (se rfl)) (he := se rfl) (hpl := na rfl)))
    (pss_cons (ps_set (i := 3) nd rfl (Or.inl rfl) (pe_op op_sub (pe_cal c__law_mixed (hr.mono (by decide)) rfl strictP.pass (pa_cons (pe_op op_add (pe_op op_add (pv 0) (pe_op op_mulB pe_int (pv 1))) pe_int) (pa_cons pe_int pa_nil (se rfl)) (se rfl)) (he := se rfl) (hpl := na rfl)) pe_int))
    (pss_cons (ps_set (i := 4) nd rfl (Or.inl rfl) pe_int)
    (pss_cons (ps_if (pt_cmpR op_lt (pv 2) pe_int (nomark _)) (pss_one (ps_set (i := 4) nd rfl (Or.inl rfl) (pe_op op_add pe_int (pe_cal c__law_mixed (hr.mono (by decide)) rfl strictP.pass (pa_cons (pe_op op_add (pe_op op_add (pv 0) (pe_op op_mulB pe_int (pv 1))) pe_int) (pa_cons pe_int pa_nil (se rfl)) (se rfl)) (he := se rfl) (hpl := na rfl)))))
      pss_nil)
    (pss_cons (ps_if (pt_cmpR op_eq (pv 2) pe_int (nomark _)) (pss_cons (ps_set (i := 3) nd rfl (Or.inl rfl) (pe_op op_sub (pe_op op_modB (pe_op op_mulB (pe_op op_add (pv 0) pe_int) (pe_op op_add (pe_op op_mulB (pv 1) (pv 1)) pe_int)) (pe_op op_sub (pe_op op_mulB pe_int (pe_op op_pow pe_int pe_int)) pe_int)) (pe_op op_sub (pe_op op_pow pe_int pe_int) pe_int)))
    (pss_one (ps_set (i := 4) nd rfl (Or.inl rfl) (pe_op op_add pe_int (pe_op op_modB (pe_op op_mulB (pe_op op_add (pv 0) pe_int) (pe_op op_add (pe_op op_mulB (pv 1) (pv 1)) pe_int)) (pe_op op_pow pe_int pe_int))))))
      pss_nil)
    (pss_one (ps_ret (pe_cal c__law_low (hr.mono (by decide)) rfl strictP.pass (pa_cons (pv 3) (pa_cons (pv 4) pa_nil (se rfl)) (se rfl)) (he := se rfl) (hpl := na rfl))))))))), ?_⟩
    have j2 : k * k ≤ 1000000 := Int.le_trans (Int.mul_le_mul (show k ≤ 1000 by omega) (show k ≤ 1000 by omega) k0 (by decide)) (by decide)
    have j3 : 0 ≤ k * k := Int.mul_nonneg k0 k0
    have fin : ∀ x y : Int, Bt 40 x → Bt 20 y → 0 < y → 0 < y ∧ Bt 8900 y ∧ ∀ p H', Same H H' → H p = none → H' p = some (.tup [V.int (Nm.st x y), V.int (Nm.sb x y)]) → Q (.ref p) H' := fun x y bx by' y0 =>
      ⟨y0, by'.mono (by decide), fun p H' s' n' e => kk p H' (Nm.st x y, Nm.sb x y) s' n' e ⟨bx.le (Nm.st_abs (by omega)), by'.le (Nm.sb_abs (by omega)), Nm.sb_pos (by omega), Nm.st_low (by omega)⟩⟩
    have big : ∀ c1 c2 : Int, Bt 40 (c1 % (2 * 10 ^ 12 - 1) - (10 ^ 12 - 1)) ∧ Bt 20 (1 + c2 % 10 ^ 6) ∧ 0 < 1 + c2 % 10 ^ 6 := fun c1 c2 => by
      have h1 := Int.emod_nonneg c1 (show (2 * 10 ^ 12 - 1 : Int) ≠ 0 by decide)
      have h2 := Int.emod_lt_of_pos c1 (show (0 : Int) < 2 * 10 ^ 12 - 1 by decide)
      have h3 := Int.emod_nonneg c2 (show (10 ^ 6 : Int) ≠ 0 by decide)
      have h4 := Int.emod_lt_of_pos c2 (show (0 : Int) < 10 ^ 6 by decide)
      exact ⟨Bt.of (10 ^ 12) (by omega) (by omega), Bt.of (10 ^ 6) (by omega) (by omega), by omega⟩
    simp_all only [spLow, spMix]
    have bs : ∀ {t r : Int}, 0 ≤ t → t < 19 → 0 ≤ r → r < 12 → Bt 40 (t - 9) ∧ Bt 20 (1 + r) := fun a b c d => ⟨Bt.of 60 (by omega) (by omega), Bt.of 60 (by omega) (by omega)⟩
    refine ⟨mulOkL, by decide, fun wy w0 w1 => ⟨mulOkL, by decide, fun t t0 t1 => ite2 (fun c1 => ⟨mulOkL, by decide, fun r r0 r1 => ite2 (fun c2 => ?_) (fun c2 => ?_)⟩) (fun c1 => ite2 (fun c2 => ?_) (fun c2 => ?_))⟩⟩
    · exfalso
      omega
    · exact fin (t - 9) (1 + r) (bs t0 t1 r0 r1).1 (bs t0 t1 r0 r1).2 (by omega)
    · have bg := big ((c + 1) * (k * k + 71)) ((c + 3) * (k * k + 5))
      exact ⟨mulOkL (by omega) (by omega), mulOkR (by omega) (by omega), by decide, by decide, by decide, mulOkL, by decide, by decide, by decide, by decide, mulOkL (by omega) (by omega), mulOkR (by omega) (by omega), by decide, by decide, by decide, by decide, fin _ _ bg.1 bg.2.1 bg.2.2⟩
    · exact fin (t - 9) 1 (bs t0 t1 (Int.le_refl 0) (by decide)).1 (Bt.of 60 (by omega) (by omega)) (by decide)
theorem sc__law_turned : FnScope ["_law_cell_here", "_law_n", "_law_first", "_law_keyed"] ["_law_cell_here", "_law_n"] (defScope (top 19)) := ⟨rfl, rfl, rfl, by decide +kernel, rfl, by decide +kernel, by decide +kernel⟩
theorem ok_trn (T : Txt K mg q_Book) : Cal P w K mg base (CX1 P w) 2 "_law_turned" ["_law_cell_here", "_law_n"] spTrn := by
  have c__law_mixed : Cal P w K mg base (CX1 P w) 1 "_law_mixed" ["_law_cell_here", "_law_many"] spMix := ok_mix T
  refine T.d__law_turned.cal (fun _ _ _ _ _ _ us hl => match us, hl with | [_, _], _ => rfl) fun f fd F => F.okC sc__law_turned (fun vs H Q E h => ?_) (fun cdv A outer s H vs Q E hr h => ?_)
  · obtain ⟨_, _, rfl, _⟩ := h; rfl
  · obtain ⟨c, n, rfl, n0, n1, kk⟩ := h
    have nd := sc__law_turned.nd
    refine ⟨_, (pss_cons (ps_set (i := 2) nd rfl (Or.inr rfl) (pe_op op_modB (pv 0) pe_int))
    (pss_cons (ps_set (i := 3) nd rfl (Or.inl rfl) (pe_callB (call_sorted_pK (K := K)) (by rfl) T.z_sorted rfl (pa_cons (pe_comp rfl (N := ["_law_cell_here", "_law_n", "_law_first", "_law_keyed"]) (so := defScope (top 19)) (N' := ["_law_k", "_law_first"]) (k := 1) (fr := [2]) rfl rfl ⟨rfl, by decide +kernel, by decide +kernel, by decide +kernel, rfl, by decide +kernel, by decide +kernel⟩ (pi_range1 rfl T.z_range (pa_cons (pv 1) pa_nil (se rfl))) (fun _ _ _ _ _ => (pg_name (i := 0) (show (["_law_k", "_law_first"] : List Str).Nodup by decide +kernel) rfl (Or.inl rfl))) (fun _ _ _ _ _ => pts_nil)
      (fun _ _ _ _ _ => (pe_tupS (pa_cons (pe_cal c__law_mixed (hr.mono (by decide)) rfl strictP.pass (pa_cons (pe_op op_add (pe_op op_mulB (pv 1) (pe_op op_add (pe_op op_mulB (pv 0) (pv 0)) pe_int)) (pv 0)) (pa_cons (pe_op op_pow pe_int pe_int) pa_nil (se rfl)) (se rfl)) (he := se rfl) (hpl := na rfl)) (pa_cons (pv 0) pa_nil (se rfl)) (se rfl))))) pa_nil (se rfl)) (he := se rfl) (hpl := na rfl)))
    (pss_one (ps_ret (pe_comp rfl (N := ["_law_cell_here", "_law_n", "_law_first", "_law_keyed"]) (so := defScope (top 19)) (N' := ["_law_pair"]) (k := 1) (fr := []) rfl rfl ⟨rfl, by decide +kernel, by decide +kernel, by decide +kernel, rfl, by decide +kernel, by decide +kernel⟩ (pi_listK (K := K) (pv 3)) (fun _ _ _ _ _ => (pg_name (i := 0) (show (["_law_pair"] : List Str).Nodup by decide +kernel) rfl (Or.inl rfl))) (fun _ _ _ _ _ => pts_nil)
      (fun _ _ _ _ _ => (pe_ix ix_tupH (pv 0) pe_int (fun _ _ => rfl)))))))), ?_⟩
    simp_all only []
    obtain ⟨N, rfl⟩ := Int.eq_ofNat_of_zero_le (Int.le_of_lt n0)
    rw [Int.toNat_natCast] at kk
    refine ⟨by decide, by omega, by omega, ?_⟩
    refine comp_map src_range (fun _ _ _ _ h => by rw [h.1]; exact Same.refl _) (by rw [sizeLine_eq]; omega) (fun i y H4 => ∃ tt a, y = .ref tt ∧ H4 tt = some (.tup [.int a, .int ((i : Nat) : Int)])) (fun i y H4 H5 s5 ⟨tt, a, e, h⟩ => ⟨tt, a, e, s5 _ _ h⟩) ?_ ?_
    · rintro i x w0 H9 H10 Q2 hi s9 ⟨rfl, rfl⟩ kq
      simp_all only [spMix]
      have ii : (0 : Int) + (i : Int) = (i : Int) := Int.zero_add _
      rw [ii]
      have j0 : (0 : Int) ≤ (i : Int) := by omega
      have jq : IntMulOk (i : Int) (i : Int) := mulOkL (by omega) (by omega)
      have j2 : (i : Int) * (i : Int) ≤ 40000 := Int.le_trans (Int.mul_le_mul (show (i : Int) ≤ 200 by omega) (show (i : Int) ≤ 200 by omega) j0 (by decide)) (by decide)
      have j3 : 0 ≤ (i : Int) * (i : Int) := Int.mul_nonneg j0 j0
      exact ⟨jq, mulOkR (by omega) (by omega), by decide, by decide, by decide, by decide, fun r r0 r1 => ⟨by decide, fun q5 H11 s11 n11 e11 => kq _ _ s11 ⟨q5, r, rfl, e11⟩⟩⟩
    intro ys H9 s9 ly hy D9 n10 n11
    have s9' := s9.trans (same_upd (o := .lst ys) n11)
    have hD9 : (upd H9 D9 (.lst ys)) D9 = some (.lst ys) := upd_same
    have hy' : ∀ (i : Nat) y, ys[i]? = some y → ∃ tt a, y = .ref tt ∧ (upd H9 D9 (.lst ys)) tt = some (.tup [.int a, .int ((i : Nat) : Int)]) := fun i y e => by
      obtain ⟨tt, a, e1, e2⟩ := hy i y e
      exact ⟨tt, a, e1, same_upd n11 _ _ e2⟩
    generalize upd H9 D9 (.lst ys) = H10 at *
    have each : ∀ y ∈ ys, ∃ tt a b', y = .ref tt ∧ H10 tt = some (.tup [.int a, .int b']) := fun y hy2 => by
      obtain ⟨i, ei⟩ := List.getElem?_of_mem hy2
      obtain ⟨tt, a, e1, e2⟩ := hy' i y ei
      exact ⟨tt, a, _, e1, e2⟩
    have ly : ys.length = N := by simpa using ly
    refine ⟨ys, SqL.of hD9, by omega, each, fun l11 zs n12 pz => ?_⟩
    have hg : ∃ g : V → Nat, g = fun v => match v with | .ref tt => (match H10 tt with | some (.tup [_, .int i]) => i.toNat | _ => 0) | _ => 0 := ⟨_, rfl⟩
    obtain ⟨g, hg⟩ := hg
    have gy : ∀ (i : Nat) y, ys[i]? = some y → g y = i := fun i y e => by
      obtain ⟨tt, a, rfl, e2⟩ := hy' i y e
      rw [hg]
      simp only [e2, Int.toNat_natCast]
    have mg : ys.map g = List.range N := by
      apply List.ext_getElem?
      intro i
      rw [List.getElem?_map]
      by_cases hi : i < N
      · rw [List.getElem?_range hi, List.getElem?_eq_getElem (show i < ys.length by omega)]
        show some (g _) = _
        rw [gy i _ (List.getElem?_eq_getElem (by omega))]
      · rw [List.getElem?_eq_none (show (List.range N).length ≤ i by rw [List.length_range]; omega), List.getElem?_eq_none (show ys.length ≤ i by omega)]
        rfl
    have pm : (zs.map g).Perm (List.range N) := by rw [← mg]; exact pz.map g
    have zl : zs.length = N := by rw [pz.length_eq]; omega
    have ez : ∀ z ∈ zs, ∃ tt a, z = .ref tt ∧ H10 tt = some (.tup [.int a, .int ((g z : Nat) : Int)]) := fun z hz => by
      obtain ⟨i, ei⟩ := List.getElem?_of_mem (pz.mem_iff.mp hz)
      obtain ⟨tt, a, e1, e2⟩ := hy' i z ei
      exact ⟨tt, a, e1, by rw [gy i z ei]; exact e2⟩
    have s11 := same_upd (o := .lst zs) n12
    have h11 : (upd H10 l11 (.lst zs)) l11 = some (.lst zs) := upd_same
    generalize upd H10 l11 (.lst zs) = H11 at *
    refine ⟨⟨_, SqL.of h11⟩, ?_⟩
    refine comp_ints zs (fun z => some ((g z : Nat) : Int)) (src_list (K := K) (fun H' s' => SqL.of (s' _ _ h11))) (fun _ _ _ _ h => h.1) (by rw [sizeLine_eq]; omega) ?_ ?_
    · rintro i1 z x eg ⟨_, ex⟩ Y N1 y1 n1
      rw [eg] at ex
      cases ex
      obtain ⟨tt, a, rfl, e2⟩ := ez z (List.mem_of_getElem? eg)
      simp_all only [tYes, s11 _ _ e2]
      exact y1 _ rfl
    intro D12 n13 n14
    rw [fm_some]
    have e12 : List.map V.int (zs.map fun z => ((g z : Nat) : Int)) = List.map natV (zs.map g) := by rw [List.map_map, List.map_map]; rfl
    rw [e12]
    have s19 := s9'.trans s11
    exact kk _ _ _ (s19.trans (same_upd n14)) (none_of s19 n14) upd_same pm
theorem sc__law_throw : FnScope ["_law_cell_here", "_law_k", "_law_n", "_law_ways_here", "_law_j", "_law_weight", "_law_sure"] ["_law_cell_here", "_law_k", "_law_n"] (defScope (top 20)) := ⟨rfl, rfl, rfl, by decide +kernel, rfl, by decide +kernel, by decide +kernel⟩
theorem ok_thr (T : Txt K mg q_Book) : Cal P w K mg base (CX1 P w) 2 "_law_throw" ["_law_cell_here", "_law_k", "_law_n"] spThr := by
  have c__law_mixed : Cal P w K mg base (CX1 P w) 1 "_law_mixed" ["_law_cell_here", "_law_many"] spMix := ok_mix T
  refine T.d__law_throw.cal (fun _ _ _ _ _ _ us hl => match us, hl with | [_, _, _], _ => rfl) fun f fd F => F.okC sc__law_throw (fun vs H Q E h => ?_) (fun cdv A outer s H vs Q E hr h => ?_)
  · obtain ⟨_, _, _, rfl, _⟩ := h; rfl
  · obtain ⟨c, k, n, rfl, k0, kn, kk⟩ := h
    have nd := sc__law_throw.nd
    refine ⟨_, (pss_cons (ps_set (i := 3) nd rfl (Or.inl rfl) (pe_lst pa_nil))
    (pss_cons (ps_for PassesOwn.never rfl (pi_range1 rfl T.z_range (pa_cons (pe_cal c__law_mixed (hr.mono (by decide)) rfl strictP.pass (pa_cons (pe_op op_add (pv 0) pe_int) (pa_cons pe_int pa_nil (se rfl)) (se rfl)) (he := se rfl) (hpl := na rfl)) pa_nil (se rfl))) (pg_name (i := 4) nd rfl (Or.inl rfl)) (pss_cons (ps_set (i := 5) nd rfl (Or.inl rfl) (pe_op op_add pe_int (pe_cal c__law_mixed (hr.mono (by decide)) rfl strictP.pass (pa_cons (pe_op op_add (pv 0) (pe_op op_mulB pe_int (pv 4))) (pa_cons pe_int pa_nil (se rfl)) (se rfl)) (he := se rfl) (hpl := na rfl))))
    (pss_cons (ps_if (pt_cmpR op_eq (pe_cal c__law_mixed (hr.mono (by decide)) rfl strictP.pass (pa_cons (pe_op op_add (pv 0) pe_int) (pa_cons pe_int pa_nil (se rfl)) (se rfl)) (he := se rfl) (hpl := na rfl)) pe_int (nomark _)) (pss_one (ps_set (i := 5) nd rfl (Or.inl rfl) (pe_op op_add pe_int (pe_cal c__law_mixed (hr.mono (by decide)) rfl strictP.pass (pa_cons (pe_op op_add (pv 0) (pe_op op_mulB pe_int (pv 4))) (pa_cons pe_int pa_nil (se rfl)) (se rfl)) (he := se rfl) (hpl := na rfl)))))
      pss_nil)
    (pss_one (ps_expr (pe_bm PySem.F.plainAttrs_list PySem.F.slot_list_append PySem.F.type_list_append mt_append.r (pv 3) (pa_cons (pe_tupS (pa_cons (pv 5) (pa_cons (pe_cal c__law_mixed (hr.mono (by decide)) rfl strictP.pass (pa_cons (pe_op op_add (pe_op op_add (pv 0) (pe_op op_mulB pe_int (pv 4))) pe_int) (pa_cons (pv 2) pa_nil (se rfl)) (se rfl)) (he := se rfl) (hpl := na rfl)) pa_nil (se rfl)) (se rfl))) pa_nil (se rfl))))))))
    (pss_cons (ps_set (i := 6) nd rfl (Or.inl rfl) (pe_tupS (pa_cons (pe_op op_add pe_int (pe_cal c__law_mixed (hr.mono (by decide)) rfl strictP.pass (pa_cons (pe_op op_add (pv 0) pe_int) (pa_cons pe_int pa_nil (se rfl)) (se rfl)) (he := se rfl) (hpl := na rfl))) (pa_cons (pe_cal c__law_mixed (hr.mono (by decide)) rfl strictP.pass (pa_cons (pe_op op_add (pv 0) pe_int) (pa_cons (pv 1) pa_nil (se rfl)) (se rfl)) (he := se rfl) (hpl := na rfl)) pa_nil (se rfl)) (se rfl))))
    (pss_cons (ps_expr (pe_bm PySem.F.plainAttrs_list PySem.F.slot_list_insert PySem.F.type_list_insert mt_insert.r (pv 3) (pa_cons (pe_cal c__law_mixed (hr.mono (by decide)) rfl strictP.pass (pa_cons (pe_op op_add (pv 0) pe_int) (pa_cons (pe_op op_add (pe_callB call_lenL (by rfl) T.z_len PySem.boot_len (pa_cons (pv 3) pa_nil (se rfl)) (he := se rfl) (hpl := na rfl)) pe_int) pa_nil (se rfl)) (se rfl)) (he := se rfl) (hpl := na rfl)) (pa_cons (pv 6) pa_nil (se rfl)) (se rfl))))
    (pss_one (ps_ret (pv 3))))))), ?_⟩
    simp_all only [spMix]
    refine ⟨Nat.zero_le _, fun p np => ⟨by decide, fun r r0 r1 => ⟨by omega, by omega, ?_⟩⟩⟩
    refine for_src (src_range (Ok := fun _ => True)) (fun i σ H' => Same H H' ∧ ∃ xs z4 z5, H' p = some (.lst xs) ∧ xs.length = i ∧ (∀ x ∈ xs, WT H' n x) ∧ σ = [some (.int c), some (.int k), some (.int n), some (V.ref p), z4, z5, none])
      ⟨same_upd np, [], _, _, upd_same, rfl, by simp, rfl⟩ (fun _ _ _ _ _ => trivial) ?_ ?_
    · rintro i x σ H1 H2 hi ⟨sm, xs, z4, z5, hp, lx, wx, rfl⟩ ⟨rfl, rfl⟩
      simp_all only [spMix]
      have sz : xs.length < sizeLine := by rw [sizeLine_eq]; omega
      have fin : ∀ w t p1 H3, Same H2 H3 → H2 p1 = none → H3 p1 = some (.tup [.int w, .int t]) → (1 ≤ w ∧ w ≤ 200000) → 0 ≤ t → t < n → Same H (upd H3 p (.lst (xs ++ [V.ref p1]))) ∧ ∃ xs', upd H3 p (.lst (xs ++ [V.ref p1])) p = some (.lst xs') ∧ xs'.length = i + 1 ∧ (∀ x ∈ xs', WT (upd H3 p (.lst (xs ++ [V.ref p1]))) n x) := fun w t p1 H3 s3 n3 e3 w0 t0 t1 => by
        refine ⟨same_upd_of (sm.trans s3) np, _, upd_same, by simp [lx], fun x hx => ?_⟩
        have hp3 := s3 _ _ hp
        rcases List.mem_append.mp hx with hx | hx
        · exact ((wx x hx).mono s3).put hp3
        · rw [List.mem_singleton.mp hx]
          exact WT.put hp3 ⟨p1, w, t, rfl, e3, w0, t0, t1⟩
      have go : ∀ w : Int, (1 ≤ w ∧ w ≤ 200000) → tyV K "list" (V.ref p) H2 ∧ IntMulOk 29 (0 + (i : Int)) ∧ 0 < n ∧ ∀ t, 0 ≤ t → t < n → 2 ≤ sizeLine ∧ ∀ p1 H3, Same H2 H3 → H2 p1 = none → H3 p1 = some (.tup [.int w, .int t]) → rAppend (V.ref p) [V.ref p1] H3 fun _ H' => Same H H' ∧ ∃ xs', H' p = some (.lst xs') ∧ xs'.length = i + 1 ∧ (∀ x ∈ xs', WT H' n x) ∧ ∃ x, some (V.int w) = x := fun w w0 =>
        ⟨.inl ⟨rfl, _, SqL.of hp⟩, mulOkL, by omega, fun t t0 t1 => ⟨by decide, fun p1 H3 s3 n3 e3 => ⟨p, xs, _, rfl, rfl, s3 _ _ hp, sz, let ⟨a, xs', b, c, d⟩ := fin w t p1 H3 s3 n3 e3 w0 t0 t1; ⟨a, xs', b, c, d, _, rfl⟩⟩⟩⟩
      refine ⟨mulOkL, by decide, fun r r0 r1 => ⟨by decide, fun r2 _ _ => ite2 (fun _ => ⟨mulOkL, by decide, fun r3 r30 r31 => ?_⟩) (fun _ => ?_)⟩⟩
      · exact go _ ⟨by omega, by omega⟩
      · exact go _ ⟨by omega, by omega⟩
    · rintro σ H1 ⟨sm, xs, z4, z5, hp, lx, wx, rfl⟩
      simp_all only [spMix, rIns, tBM]
      have sz : xs.length < sizeLine := by rw [sizeLine_eq]; omega
      refine ⟨by decide, fun w w0 w1 => ⟨k0, fun t t0 t1 => ⟨by decide, fun p1 H2 s2 n2 e2 => ?_⟩⟩⟩
      have hp2 := s2 _ _ hp
      refine ⟨.inl ⟨rfl, _, SqL.of hp2⟩, xs, hp2, by omega, fun r r0 r1 => ⟨xs, hp2, r0, by omega, sz, kk p _ _ (same_upd_of (sm.trans s2) np) upd_same (fun x hx => ?_) (by rw [List.length_append, List.length_cons]; omega) (by simp; omega)⟩⟩
      rcases List.mem_append.mp hx with hx | hx
      · exact ((wx x (List.mem_of_mem_take hx)).mono s2).put hp2
      · rcases List.mem_cons.mp hx with rfl | hx
        · exact WT.put hp2 ⟨p1, _, t, rfl, e2, ⟨by omega, by omega⟩, t0, by omega⟩
        · exact ((wx x (List.mem_of_mem_drop hx)).mono s2).put hp2
theorem sc__law_copy : FnScope ["_law_board_here", "_law_found", "_law_what"] ["_law_board_here"] (defScope (top 23)) := ⟨rfl, rfl, rfl, by decide +kernel, rfl, by decide +kernel, by decide +kernel⟩
theorem ok_cpy (T : Txt K mg q_Book) : Cal P w K mg base (CX1 P w) 1 "_law_copy" ["_law_board_here"] spCpy := by
  refine T.d__law_copy.cal (fun _ _ _ _ _ _ us hl => match us, hl with | [_], _ => rfl) fun f fd F => F.okC sc__law_copy (fun vs H Q E h => ?_) (fun cdv A outer s H vs Q E hr h => ?_)
  · obtain ⟨_, _, rfl, _⟩ := h; rfl
  · obtain ⟨a, b, rfl, rb, bl, kk⟩ := h
    have nd := sc__law_copy.nd
    refine ⟨_, (pss_cons (ps_set (i := 1) nd rfl (Or.inl rfl) (pe_lst pa_nil))
    (pss_cons (ps_for PassesOwn.never rfl (pi_listK (K := K) (pv 0)) (pg_name (i := 2) nd rfl (Or.inl rfl)) (pss_one (ps_if (pt_cmpR op_eq (pe_ix ix_tupH (pv 2) pe_int (fun _ _ => rfl)) pe_str (nomark _)) (pss_one (ps_expr (pe_bm PySem.F.plainAttrs_list PySem.F.slot_list_append PySem.F.type_list_append mt_append.r (pv 1) (pa_cons (pv 2) pa_nil (se rfl)))))
      (pss_one (ps_expr (pe_bm PySem.F.plainAttrs_list PySem.F.slot_list_append PySem.F.type_list_append mt_append.r (pv 1) (pa_cons (pe_tupS (pa_cons (pe_ix ix_tupH (pv 2) pe_int (fun _ _ => rfl)) (pa_cons (pe_ix ix_tupH (pv 2) pe_int (fun _ _ => rfl)) (pa_cons (pe_callTy (call_list_ofK (K := K)) (by rfl) T.z_list rfl (pa_cons (pe_ix ix_tupH (pv 2) pe_int (fun _ _ => rfl)) pa_nil (se rfl)) (he := se rfl) (hpl := na rfl)) pa_nil (se rfl)) (se rfl)) (se rfl))) pa_nil (se rfl))))))))
    (pss_one (ps_ret (pv 1))))), ?_⟩
    obtain ⟨_, xs, e, ha, rl⟩ := rep_lst.mp rb
    cases e
    have lx := rl.length
    rw [List.length_map] at lx
    simp_all only []
    refine ⟨Nat.zero_le _, fun p np => ?_⟩
    have s0 := same_upd (o := .lst []) np
    refine ⟨⟨_, SqL.of (s0 _ _ ha)⟩, for_src (src_list (Ok := Same H) (fun H2 s2 => SqL.of (s2 _ _ ha)))
      (fun i σ H' => Same H H' ∧ ∃ ys z2, H' p = some (.lst ys) ∧ RepL (hid H' p) ((b.take i).map plD) ys ∧ σ = [some (V.ref a), some (V.ref p), z2])
      ⟨s0, [], _, upd_same, by simp [RepL], rfl⟩ (fun _ _ _ _ h => h.1) ?_ ?_⟩
    · rintro i v σ H1 H2 hi ⟨sm, ys, z2, hp, ry, rfl⟩ ⟨rfl, ex⟩
      obtain ⟨q, eq, rq⟩ := rep_br_get rl ex
      have ly := ry.length
      rw [List.length_map, List.length_take] at ly
      have tk : b.take (i + 1) = b.take i ++ [q] := by rw [List.take_add_one, eq]; rfl
      have sz : ys.length < sizeLine := by rw [sizeLine_eq]; omega
      have fin : ∀ H3 v', Same H2 H3 → Rep (hid H3 p) (plD q) v' → Same H (upd H3 p (.lst (ys ++ [v']))) ∧ ∃ ys', upd H3 p (.lst (ys ++ [v'])) p = some (.lst ys') ∧ RepL (hid (upd H3 p (.lst (ys ++ [v']))) p) ((b.take (i + 1)).map plD) ys' ∧ ∃ x, some v = x := fun H3 v' s3 r3 => by
        refine ⟨same_upd_of (sm.trans s3) np, _, upd_same, ?_, _, rfl⟩
        rw [tk, List.map_append, List.map_cons, List.map_nil]
        exact rep_push (ry.mono (hid_mono s3)) r3
      have rx := rq.mono sm
      cases q with
      | fin w =>
        obtain ⟨t', r, rfl, ht', _⟩ := rep_fin.mp rx
        simp_all only [ht', rAppend, tBM]
        exact ⟨.inl ⟨rfl, _, SqL.of hp⟩, _, hp, sz, fin H2 _ (Same.refl _) (rq.mono (same_hid sm np))⟩
      | thr w ws =>
        obtain ⟨t', r, l, zs, rfl, ht0, hr', hl0, rz⟩ := rep_thr.mp rq
        have ht' := sm _ _ ht0
        have hl' := sm _ _ hl0
        simp_all only [ht']
        rw [if_neg (by decide +kernel)]
        simp_all only [rAppend, tBM, ht']
        refine ⟨.inl ⟨rfl, _, SqL.of hp⟩, _, .inl (SqL.of hl'), fun m nm => ⟨by decide, fun u H4 s4 nu eu => ?_⟩⟩
        have s3 := (same_upd (o := .lst zs) nm).trans s4
        have np3 : m ≠ p := fun z => by rw [z, hp] at nm; cases nm
        have np4 : u ≠ p := fun z => by rw [z, same_upd (o := .lst zs) nm _ _ hp] at nu; cases nu
        have sh := same_hid (sm.trans s3) np
        exact ⟨_, s3 _ _ hp, sz, fin H4 _ s3 (rep_thr.mpr ⟨u, r, m, zs, rfl, by rw [hid_ne np4]; exact eu, sh _ _ hr', by rw [hid_ne np3]; exact s4 _ _ upd_same, rz.mono sh⟩)⟩
      | pck w to =>
        obtain ⟨t', l, rfl, ht', hl'⟩ := rep_pck.mp rx
        simp_all only [ht']
        rw [if_neg (by decide +kernel)]
        simp_all only [rAppend, tBM, ht']
        refine ⟨.inl ⟨rfl, _, SqL.of hp⟩, _, .inl (SqL.of hl'), fun m nm => ⟨by decide, fun u H4 s4 nu eu => ?_⟩⟩
        have s3 := (same_upd (o := .lst (List.map V.int to)) nm).trans s4
        have np3 : m ≠ p := fun z => by rw [z, hp] at nm; cases nm
        have np4 : u ≠ p := fun z => by rw [z, same_upd (o := .lst (List.map V.int to)) nm _ _ hp] at nu; cases nu
        exact ⟨_, s3 _ _ hp, sz, fin H4 _ s3 (rep_pck.mpr ⟨u, m, rfl, by rw [hid_ne np4]; exact eu, by rw [hid_ne np3]; exact s4 _ _ upd_same⟩)⟩
    · rintro σ H1 ⟨sm, ys, z2, hp, ry, rfl⟩
      simp_all only []
      refine kk p H1 sm np (rep_lst.mpr ⟨p, ys, rfl, hp, ?_⟩)
      have := ry.mono hid_sub
      rw [List.take_of_length_le (by omega)] at this
      exact this
theorem sc__law_board : FnScope ["_law_script", "_law_at", "_law_n", "_law_turned_here", "_law_board_here", "_law_k", "_law_cell_here", "_law_kind", "_law_ways_here"] ["_law_script", "_law_at", "_law_n"] (defScope (top 21)) := ⟨rfl, rfl, rfl, by decide +kernel, rfl, by decide +kernel, by decide +kernel⟩
theorem ok_brd (T : Txt K mg q_Book) : Cal P w K mg base (CX1 P w) 3 "_law_board" ["_law_script", "_law_at", "_law_n"] (spBrd K) := by
  have c__law_cell : Cal P w K mg base (CX1 P w) 1 "_law_cell" ["_law_script", "_law_k"] (spC K) := ok_cell T
  have c__law_mixed : Cal P w K mg base (CX1 P w) 1 "_law_mixed" ["_law_cell_here", "_law_many"] spMix := ok_mix T
  have c__law_share : Cal P w K mg base (CX1 P w) 2 "_law_share" ["_law_cell_here", "_law_k"] spShr := ok_shr T
  have c__law_turned : Cal P w K mg base (CX1 P w) 2 "_law_turned" ["_law_cell_here", "_law_n"] spTrn := ok_trn T
  have c__law_throw : Cal P w K mg base (CX1 P w) 2 "_law_throw" ["_law_cell_here", "_law_k", "_law_n"] spThr := ok_thr T
  refine T.d__law_board.cal (fun _ _ _ _ _ _ us hl => match us, hl with | [_, _, _], _ => rfl) fun f fd F => F.okC sc__law_board (fun vs H Q E h => ?_) (fun cdv A outer s H vs Q E hr h => ?_)
  · obtain ⟨_, _, _, rfl, _⟩ := h; rfl
  · obtain ⟨a, ns, n, rfl, hS, n0, n9, kk⟩ := h
    have nd := sc__law_board.nd
    refine ⟨_, (pss_cons (ps_set (i := 3) nd rfl (Or.inr rfl) (pe_cal c__law_turned (hr.mono (by decide)) rfl strictP.pass (pa_cons (pe_cal c__law_cell (hr.mono (by decide)) rfl strictP.pass (pa_cons (pv 0) (pa_cons (pv 1) pa_nil (se rfl)) (se rfl)) (he := se rfl) (hpl := na rfl)) (pa_cons (pv 2) pa_nil (se rfl)) (se rfl)) (he := se rfl) (hpl := na rfl)))
    (pss_cons (ps_setC (i := 4) rfl nd rfl rfl (N := ["_law_script", "_law_at", "_law_n", "_law_turned_here", "_law_board_here", "_law_k", "_law_cell_here", "_law_kind", "_law_ways_here"]) (so := defScope (top 21)) (N' := ["_law_place"]) (k := 1) (fr := []) rfl rfl ⟨rfl, by decide +kernel, by decide +kernel, by decide +kernel, rfl, by decide +kernel, by decide +kernel⟩ (pi_listK (K := K) (pv 3)) (fun _ _ _ _ _ => (pg_name (i := 0) (show (["_law_place"] : List Str).Nodup by decide +kernel) rfl (Or.inl rfl))) (fun _ _ _ _ _ => pts_nil)
      (fun _ _ _ _ _ => pe_non))
    (pss_cons (ps_for PassesOwn.never rfl (pi_range1 rfl T.z_range (pa_cons (pv 2) pa_nil (se rfl))) (pg_name (i := 5) nd rfl (Or.inr rfl)) (pss_cons (ps_set (i := 6) nd rfl (Or.inr rfl) (pe_cal c__law_cell (hr.mono (by decide)) rfl strictP.pass (pa_cons (pv 0) (pa_cons (pe_op op_add (pe_op op_add (pv 1) pe_int) (pv 5)) pa_nil (se rfl)) (se rfl)) (he := se rfl) (hpl := na rfl)))
    (pss_cons (ps_set (i := 7) nd rfl (Or.inl rfl) (pe_cal c__law_mixed (hr.mono (by decide)) rfl strictP.pass (pa_cons (pe_op op_add (pv 6) pe_int) (pa_cons pe_int pa_nil (se rfl)) (se rfl)) (he := se rfl) (hpl := na rfl)))
    (pss_one (ps_if (PW.pt (pw_or (pt_cmpR op_eq (pv 5) pe_int (nomark _)) (pw_or1 (pt_cmpR op_eq (pv 7) pe_int (nomark _))))) (pss_one (ps_asg (pe_tupS (pa_cons pe_str (pa_cons (pe_cal c__law_share (hr.mono (by decide)) rfl strictP.pass (pa_cons (pv 6) (pa_cons (pv 5) pa_nil (se rfl)) (se rfl)) (he := se rfl) (hpl := na rfl)) pa_nil (se rfl)) (se rfl))) (pg_sub (pv 4) (pe_ix ix_listH (pv 3) (pv 5) (fun _ _ => rfl)) set_list)))
      (pss_one (ps_if (pt_cmpR op_lt (pv 7) pe_int (nomark _)) (pss_cons (ps_setC (i := 8) rfl nd rfl rfl (N := ["_law_script", "_law_at", "_law_n", "_law_turned_here", "_law_board_here", "_law_k", "_law_cell_here", "_law_kind", "_law_ways_here"]) (so := defScope (top 21)) (N' := ["_law_weight", "_law_to", "_law_turned_here"]) (k := 2) (fr := [3]) rfl rfl ⟨rfl, by decide +kernel, by decide +kernel, by decide +kernel, rfl, by decide +kernel, by decide +kernel⟩ (pi_listK (K := K) (pe_cal c__law_throw (hr.mono (by decide)) rfl strictP.pass (pa_cons (pv 6) (pa_cons (pv 5) (pa_cons (pv 2) pa_nil (se rfl)) (se rfl)) (se rfl)) (he := se rfl) (hpl := na rfl))) (fun _ _ _ _ _ => (pg_tupK (K := K) (n := 2) rfl (pgs_cons (pg_name (i := 0) (show (["_law_weight", "_law_to", "_law_turned_here"] : List Str).Nodup by decide +kernel) rfl (Or.inl rfl)) (pgs_cons (pg_name (i := 1) (show (["_law_weight", "_law_to", "_law_turned_here"] : List Str).Nodup by decide +kernel) rfl (Or.inl rfl)) pgs_nil)))) (fun _ _ _ _ _ => pts_nil)
      (fun _ _ _ _ _ => (pe_tupS (pa_cons (pv 0) (pa_cons (pe_ix ix_listH (pv 2) (pv 1) (fun _ _ => rfl)) pa_nil (se rfl)) (se rfl)))))
    (pss_one (ps_asg (pe_tupS (pa_cons pe_str (pa_cons (pe_cal c__law_share (hr.mono (by decide)) rfl strictP.pass (pa_cons (pv 6) (pa_cons (pv 5) pa_nil (se rfl)) (se rfl)) (he := se rfl) (hpl := na rfl)) (pa_cons (pv 8) pa_nil (se rfl)) (se rfl)) (se rfl))) (pg_sub (pv 4) (pe_ix ix_listH (pv 3) (pv 5) (fun _ _ => rfl)) set_list))))
      (pss_cons (ps_setC (i := 8) rfl nd rfl rfl (N := ["_law_script", "_law_at", "_law_n", "_law_turned_here", "_law_board_here", "_law_k", "_law_cell_here", "_law_kind", "_law_ways_here"]) (so := defScope (top 21)) (N' := ["_law_j", "_law_turned_here", "_law_k", "_law_cell_here"]) (k := 1) (fr := [3, 5, 6]) rfl rfl ⟨rfl, by decide +kernel, by decide +kernel, by decide +kernel, rfl, by decide +kernel, by decide +kernel⟩ (pi_range1 rfl T.z_range (pa_cons (pe_op op_add pe_int (pe_cal c__law_mixed (hr.mono (by decide)) rfl strictP.pass (pa_cons (pe_op op_add (pv 6) pe_int) (pa_cons pe_int pa_nil (se rfl)) (se rfl)) (he := se rfl) (hpl := na rfl))) pa_nil (se rfl))) (fun _ _ _ _ _ => (pg_name (i := 0) (show (["_law_j", "_law_turned_here", "_law_k", "_law_cell_here"] : List Str).Nodup by decide +kernel) rfl (Or.inl rfl))) (fun _ _ _ _ _ => pts_nil)
      (fun _ _ _ _ _ => (pe_ix ix_listH (pv 1) (pe_cal c__law_mixed (hr.mono (by decide)) rfl strictP.pass (pa_cons (pe_op op_add (pv 3) (pe_op op_mulB pe_int (pv 0))) (pa_cons (pv 2) pa_nil (se rfl)) (se rfl)) (he := se rfl) (hpl := na rfl)) (fun _ _ => rfl))))
    (pss_one (ps_asg (pe_tupS (pa_cons pe_str (pa_cons (pe_op op_add pe_int (pe_cal c__law_mixed (hr.mono (by decide)) rfl strictP.pass (pa_cons (pe_op op_add (pv 6) pe_int) (pa_cons pe_int pa_nil (se rfl)) (se rfl)) (he := se rfl) (hpl := na rfl))) (pa_cons (pv 8) pa_nil (se rfl)) (se rfl)) (se rfl))) (pg_sub (pv 4) (pe_ix ix_listH (pv 3) (pv 5) (fun _ _ => rfl)) set_list)))))))))))
    (pss_one (ps_ret (pv 4)))))), ?_⟩
    simp_all only [spC, spTrn]
    refine ⟨ns, hS, by decide, by decide, fun c => ⟨n0, by omega, fun l H1 sg s1 nl hl pm => ⟨⟨_, SqL.of hl⟩, ?_⟩⟩⟩
    have sl : sg.length = n.toNat := by rw [pm.length_eq, List.length_range]
    refine comp_map (src_list (Ok := Same H1) (fun H' s' => SqL.of (s' _ _ hl))) (fun _ _ _ _ h => by rw [h.1]; exact Same.refl _) (by rw [sizeLine_eq, List.length_map]; omega) (fun i y H4 => y = .non) (fun i y H4 H5 s5 h => h) ?_ ?_
    · rintro i x w0 H4 H5 Q2 hi s4 ⟨rfl, ex⟩ kq
      simp_all only []
      exact kq _ _ (Same.refl _) rfl
    intro ys H2 s2 ly hy m n1 n2
    rw [List.length_map] at ly
    have s3 : Same H1 (upd H2 m (.lst ys)) := s2.trans (same_upd n2)
    have nm : H m = none := none_of (s1.trans s2) n2
    have hm3 : (upd H2 m (.lst ys)) m = some (.lst ys) := upd_same
    have hl3 := s3 _ _ hl
    have lm : l ≠ m := fun z => by rw [z, none_of s2 n2] at hl; cases hl
    generalize upd H2 m (.lst ys) = H3 at *
    refine ⟨by omega, by omega, for_src (src_range (Ok := fun _ => True)) (fun i σ H' => Same H1 H' ∧ ∃ xs z5 z6 z7 z8, H' m = some (.lst xs) ∧ xs.length = n.toNat ∧ (∀ j k, j < i → sg[j]? = some k → ∃ v, xs[k]? = some v ∧ ∃ q, Rep (hid H' m) (plD q) v ∧ PkG n q) ∧ σ = [some (V.ref a), some (V.int 2), some (V.int n), some (V.ref l), some (V.ref m), z5, z6, z7, z8])
      ⟨s3, ys, _, _, _, _, hm3, by omega, fun j k hj => absurd hj (by omega), rfl⟩ (fun _ _ _ _ _ => trivial) ?_ ?_⟩
    · rintro i x σ H4 H5 hi ⟨s4, xs, z5, z6, z7, z8, hm, lx, gx, rfl⟩ ⟨rfl, rfl⟩
      have hi : i < n.toNat := hi
      obtain ⟨k, hk⟩ : ∃ k, sg[i]? = some k := ⟨_, List.getElem?_eq_getElem (by omega)⟩
      have kn : k < n.toNat := List.mem_range.mp (pm.mem_iff.mp (List.mem_of_getElem? hk))
      have at_ : ∀ (H' : Hp) (t : Int), Same H1 H' → 0 ≤ t → t < n → ∃ k' : Nat, k' < n.toNat ∧ atI (List.map natV sg) t = some (V.int (k' : Int)) := fun H' t s' t0 t1 => by
        obtain ⟨j, rfl⟩ := Int.eq_ofNat_of_zero_le t0
        obtain ⟨k', hk'⟩ : ∃ k', sg[j]? = some k' := ⟨_, List.getElem?_eq_getElem (by omega)⟩
        exact ⟨k', List.mem_range.mp (pm.mem_iff.mp (List.mem_of_getElem? hk')), atI_pl (f := natV) hk'⟩
      have ak : atI (List.map natV sg) ((0 : Int) + (i : Int)) = some (V.int (k : Int)) := by rw [Int.zero_add]; exact atI_pl (f := natV) hk
      have kx : ixN xs.length (k : Int) = some k := by
        unfold ixN
        rw [if_pos (by omega), if_pos (by omega)]
        simp
      have hl4 := s4 _ _ hl
      have fin : ∀ H6 v q, Same H5 H6 → Rep (hid H6 m) (plD q) v → PkG n q → Same H1 (upd H6 m (.lst (xs.set k v))) ∧ ∃ xs', upd H6 m (.lst (xs.set k v)) m = some (.lst xs') ∧ xs'.length = n.toNat ∧ (∀ j k', j < i + 1 → sg[j]? = some k' → ∃ v', xs'[k']? = some v' ∧ ∃ q, Rep (hid (upd H6 m (.lst (xs.set k v))) m) (plD q) v' ∧ PkG n q) := fun H6 v q s6 r6 g6 => by
        have sh : Same (hid H6 m) (hid (upd H6 m (.lst (xs.set k v))) m) := same_hid hid_upd (if_pos rfl)
        refine ⟨same_upd_of (s4.trans s6) (none_of s2 n2), _, upd_same, by rw [List.length_set]; exact lx, fun j k' hj hk' => ?_⟩
        by_cases ck : k' = k
        · subst ck
          exact ⟨v, by rw [List.getElem?_set_self (by omega)], q, r6.mono sh, g6⟩
        · have : j < i := by
            by_cases cj : j = i
            · subst cj
              rw [hk] at hk'
              cases hk'
              exact absurd rfl ck
            · omega
          obtain ⟨v', e', q', r', g'⟩ := gx j k' this hk'
          exact ⟨v', by rw [List.getElem?_set_ne (Ne.symm ck)]; exact e', q', (r'.mono (hid_mono s6)).mono sh, g'⟩
      have nmp : ∀ {H6 : Hp} {p : Addr}, Same H5 H6 → H6 p = none → p ≠ m := fun s6 np z => by rw [z, s6 _ _ hm] at np; cases np
      simp_all only [spC, spMix, spShr, spThr]
      refine ⟨ns, (s1.trans s4).seq hS, by omega, by omega, fun cc => ⟨by decide, fun kd kd0 kd1 => ?_⟩⟩
      have hi' : (0 : Int) + (i : Int) < n := by omega
      have fe : ∀ (p : Addr) (H' : Hp) (a : Int × Int), Same H5 H' → H5 p = none → H' p = some (HO.tup [V.int a.fst, V.int a.snd]) → GS a → ∀ (p1 : Addr) (H6 : Hp), Same H' H6 → H' p1 = none → H6 p1 = some (HO.tup [V.str (Str.ofString "end"), V.ref p]) → Rep (hid H6 m) (plD (.fin a)) (.ref p1) := fun p H' a s' n' e' _ p1 H6 s6 n6 e6 => by
        refine rep_fin.mpr ⟨p1, p, rfl, ?_, ?_⟩
        · rw [hid_ne (nmp s' n6)]; exact e6
        · rw [hid_ne (nmp (Same.refl _) n')]; exact s6 _ _ e'
      refine ite2 (fun _ => ?_) (fun c0 => ite2 (fun _ => ?_) (fun _ => ite2 (fun _ => ?_) (fun _ => ?_)))
      · refine ⟨by omega, by omega, fun p H6 w s6 n6 e6 g6 => ⟨by decide, fun p1 H7 s7 n7 e7 => ?_⟩⟩
        obtain ⟨x1, x2, x3, x4, x5⟩ := fin H7 (.ref p1) (.fin w) (s6.trans s7) (fe p H6 w s6 n6 e6 g6 p1 H7 s7 n7 e7) g6
        exact ⟨_, (s6.trans s7) _ _ hl4, _, ak, _, _, rfl, (s6.trans s7) _ _ hm, k, kx, x1, x2, x3, x4, x5, _, rfl⟩
      · refine ⟨by omega, by omega, fun p H6 w s6 n6 e6 g6 => ⟨by decide, fun p1 H7 s7 n7 e7 => ?_⟩⟩
        obtain ⟨x1, x2, x3, x4, x5⟩ := fin H7 (.ref p1) (.fin w) (s6.trans s7) (fe p H6 w s6 n6 e6 g6 p1 H7 s7 n7 e7) g6
        exact ⟨_, (s6.trans s7) _ _ hl4, _, ak, _, _, rfl, (s6.trans s7) _ _ hm, k, kx, x1, x2, x3, x4, x5, _, rfl⟩
      · refine ⟨by omega, hi', fun t H6 ts s6 e6 w6 l0 l6 => ⟨⟨_, SqL.of e6⟩, ?_⟩⟩
        have hl6 := s6 _ _ hl4
        refine comp_map2 (K := K) (src_list (Ok := Same H6) (fun H' s' => SqL.of (s' _ _ e6))) (fun i a b H3 => ∃ w t, a = .int w ∧ b = .int t ∧ (1 ≤ w ∧ w ≤ 200000) ∧ 0 ≤ t ∧ t < n) (fun i x H7 H8 hi s7 ⟨e, ex⟩ => ?_) (by rw [sizeLine_eq]; omega) (fun i y H7 => ∃ q : Int × Int, Rep H7 (wrowD q) y ∧ (1 ≤ q.1 ∧ q.1 ≤ 200000 ∧ 0 ≤ q.2 ∧ q.2 < n)) (fun i y H7 H8 s8 ⟨q, r, z⟩ => ⟨q, r.mono s8, z⟩) ?_ ?_
        · subst e
          obtain ⟨q, w, t', rfl, hq, w0, t0, t1⟩ := w6 x (List.mem_of_getElem? ex)
          exact ⟨Same.refl _, q, _, _, rfl, SqT.of (s7 _ _ hq), w, t', rfl, rfl, w0, t0, t1⟩
        · rintro j a b H7 Q7 hj s7 ⟨w, t', rfl, rfl, w0, t0, t1⟩ kq
          obtain ⟨k', k1', ek'⟩ := at_ H7 t' (s4.trans (s6.trans s7)) t0 t1
          simp_all only [s7 _ _ hl6, ek']
          exact ⟨by decide, fun q H8 s8 n8 e8 => kq _ _ s8 ⟨(w, (k' : Int)), rep_wrow.mpr ⟨q, rfl, e8⟩, w0.1, w0.2, by show (0 : Int) ≤ (k' : Int); omega, by show (k' : Int) < n; omega⟩⟩
        · intro us H7 s7 lu hu D n8 n9
          obtain ⟨ws, rw', lw, gws⟩ := ex_repL (f := wrowD) (P := fun q : Int × Int => 1 ≤ q.1 ∧ q.1 ≤ 200000 ∧ 0 ≤ q.2 ∧ q.2 < n) (H := H7) (xs := us) fun x hx => by
            obtain ⟨j, ej⟩ := List.getElem?_of_mem hx
            exact hu j x ej
          refine ⟨by omega, by omega, fun p H9 w s9 n10 e9 g9 => ⟨by decide, fun p1 H10 s10 n11 e10 => ?_⟩⟩
          have s59 := s6.trans (s7.trans ((same_upd (o := .lst us) n9).trans s9))
          have s510 := s59.trans s10
          have mD : D ≠ m := nmp (s6.trans s7) n9
          have mp : p ≠ m := nmp (s6.trans (s7.trans (same_upd (o := .lst us) n9))) n10
          have mp1 : p1 ≠ m := nmp s59 n11
          have rm : RepL (hid H10 m) (ws.map wrowD) us := by
            refine repL_map lw.symm fun j y ey q eq => ?_
            obtain ⟨d, ed, rd⟩ := rw'.get ey
            rw [List.getElem?_map, eq] at ed
            cases ed
            obtain ⟨tt, rfl, htt⟩ := rep_wrow.mp rd
            refine rep_wrow.mpr ⟨tt, rfl, ?_⟩
            have h1 := (s6.trans s7) _ _ hm
            rw [hid_ne (fun z => by rw [z, h1] at htt; cases htt)]
            exact s10 _ _ (s9 _ _ (same_upd n9 _ _ htt))
          obtain ⟨x1, x2, x3, x4, x5⟩ := fin H10 (.ref p1) (.thr w ws) s510 (rep_thr.mpr ⟨p1, p, D, us, rfl, by rw [hid_ne mp1]; exact e10, by rw [hid_ne mp]; exact s10 _ _ e9, by rw [hid_ne mD]; exact s10 _ _ (s9 _ _ upd_same), rm⟩) ⟨g9, by omega, by omega, gws⟩
          exact ⟨_, s510 _ _ hl4, _, ak, _, _, rfl, s510 _ _ hm, k, kx, x1, x2, x3, x4, x5, _, rfl⟩
      · refine ⟨by decide, fun r r0 r1 => ⟨by omega, by omega, ?_⟩⟩
        refine comp_map src_range (fun _ _ _ _ h => by rw [h.1]; exact Same.refl _) (by rw [sizeLine_eq]; omega) (fun i y H4 => ∃ t, y = .int t ∧ 0 ≤ t ∧ t < n) (fun i y H4 H5 s5 h => h) ?_ ?_
        · rintro j x w0 H6 H7 Q7 hj s6 ⟨rfl, rfl⟩ kq
          simp_all only [spMix, s6 _ _ hl4]
          refine ⟨mulOkL, by omega, fun t t0 t1 => ?_⟩
          obtain ⟨k', k1, ek'⟩ := at_ H7 t (s4.trans s6) t0 (by omega)
          exact ⟨_, ek', kq _ _ (Same.refl _) ⟨_, rfl, by omega, by omega⟩⟩
        · intro us H6 s6 lu hu D n8 n9
          obtain ⟨to, rfl⟩ : ∃ to : List Int, us = to.map V.int := by
            refine ⟨us.map fun v => match v with | .int t => t | _ => 0, ?_⟩
            rw [List.map_map]
            apply List.ext_getElem?
            intro j
            rw [List.getElem?_map]
            cases ej : us[j]? with
            | none => rfl
            | some y =>
              obtain ⟨t, rfl, _⟩ := hu j y ej
              rfl
          refine ⟨by decide, fun r' r0' r1' => ⟨by decide, fun p1 H7 s7 n10 e7 => ?_⟩⟩
          have s57 := s6.trans ((same_upd (o := .lst (List.map V.int to)) n9).trans s7)
          have mD : D ≠ m := nmp s6 n9
          have mp1 : p1 ≠ m := nmp (s6.trans (same_upd (o := .lst (List.map V.int to)) n9)) n10
          rw [List.length_map] at lu
          have gt : ∀ g ∈ to, 0 ≤ g ∧ g < n := fun g hg => by
            obtain ⟨j, ej⟩ := List.getElem?_of_mem hg
            obtain ⟨t, e, t0, t1⟩ := hu j (.int g) (by rw [List.getElem?_map, ej]; rfl)
            cases e
            exact ⟨t0, t1⟩
          obtain ⟨x1, x2, x3, x4, x5⟩ := fin H7 (.ref p1) (.pck (1 + r') to) s57 (rep_pck.mpr ⟨p1, D, rfl, by rw [hid_ne mp1]; exact e7, by rw [hid_ne mD]; exact s7 _ _ upd_same⟩) ⟨by omega, by omega, by omega, gt⟩
          exact ⟨_, s57 _ _ hl4, _, ak, _, _, rfl, s57 _ _ hm, k, kx, x1, x2, x3, x4, x5, _, rfl⟩
    · rintro σ H4 ⟨s4, xs, z5, z6, z7, z8, hm, lx, gx, rfl⟩
      simp_all only []
      have : ∀ x ∈ xs, ∃ q, Rep (hid H4 m) (plD q) x ∧ PkG n q := fun x hx => by
        obtain ⟨k, hk⟩ := List.getElem?_of_mem hx
        have kn := (List.getElem?_eq_some_iff.mp hk).1
        obtain ⟨j, hj⟩ := List.getElem?_of_mem (pm.mem_iff.mpr (List.mem_range.mpr (show k < n.toNat by omega)))
        obtain ⟨v, e, q, r, g⟩ := gx j k (by have := (List.getElem?_eq_some_iff.mp hj).1; simpa [sl] using this) hj
        rw [hk] at e
        cases e
        exact ⟨q, r, g⟩
      obtain ⟨b, rb, lb, gb⟩ := ex_repL this
      exact kk m H4 xs b (s1.trans s4) nm hm rb (by omega) gb
theorem sc__law_are_places : FnScope ["_law_found", "_law_due", "_law_k"] ["_law_found", "_law_due"] (defScope (top 28)) := ⟨rfl, rfl, rfl, by decide +kernel, rfl, by decide +kernel, by decide +kernel⟩
theorem ok_ap (T : Txt K mg q_Book) : Cal P w K mg base (CX1 P w) 1 "_law_are_places" ["_law_found", "_law_due"] spAp := by
  refine T.d__law_are_places.cal (fun _ _ _ _ _ _ us hl => match us, hl with | [_, _], _ => rfl) fun f fd F => F.okC sc__law_are_places (fun vs H Q E h => ?_) (fun cdv A outer s H vs Q E hr h => ?_)
  · obtain ⟨_, _, _, rfl, _⟩ := h; rfl
  · obtain ⟨a, c, ns, rfl, ha, hc, ln, kk⟩ := h
    have nd := sc__law_are_places.nd
    refine ⟨_, (pss_cons (ps_if (PW.pt (pw_or (pt_not (pt_val (pe_callB (call_isTK (K := K)) (by rfl) T.z_isinstance rfl (pa_cons (pv 0) (pa_cons (pe_bltn (v := V.ty "list") rfl T.z_list rfl rfl) pa_nil (se rfl)) (se rfl)) (he := se rfl) (hpl := na rfl)))) (pw_or1 (pt_cmpR op_ne (pe_callB call_lenL (by rfl) T.z_len PySem.boot_len (pa_cons (pv 0) pa_nil (se rfl)) (he := se rfl) (hpl := na rfl)) (pe_callB call_lenL (by rfl) T.z_len PySem.boot_len (pa_cons (pv 1) pa_nil (se rfl)) (he := se rfl) (hpl := na rfl)) (nomark _))))) (pss_one (ps_ret pe_bl))
      pss_nil)
    (pss_cons (ps_for PassesOwn.never rfl (pi_range1 rfl T.z_range (pa_cons (pe_callB call_lenL (by rfl) T.z_len PySem.boot_len (pa_cons (pv 1) pa_nil (se rfl)) (he := se rfl) (hpl := na rfl)) pa_nil (se rfl))) (pg_name (i := 2) nd rfl (Or.inl rfl)) (pss_one (ps_if (PW.pt (pw_or (pt_not (pt_val (pe_callB (call_isTK (K := K)) (by rfl) T.z_isinstance rfl (pa_cons (pe_ix ix_listH (pv 0) (pv 2) (fun _ _ => rfl)) (pa_cons (pe_bltn (v := V.ty "int") rfl T.z_int rfl rfl) pa_nil (se rfl)) (se rfl)) (he := se rfl) (hpl := na rfl)))) (pw_or (pt_val (pe_callB (call_isTK (K := K)) (by rfl) T.z_isinstance rfl (pa_cons (pe_ix ix_listH (pv 0) (pv 2) (fun _ _ => rfl)) (pa_cons (pe_bltn (v := V.ty "bool") rfl T.z_bool rfl rfl) pa_nil (se rfl)) (se rfl)) (he := se rfl) (hpl := na rfl))) (pw_or1 (pt_cmpR op_ne (pe_ix ix_listH (pv 0) (pv 2) (fun _ _ => rfl)) (pe_ix ix_listH (pv 1) (pv 2) (fun _ _ => rfl)) (nomark _)))))) (pss_one (ps_ret pe_bl))
      pss_nil)))
    (pss_one (ps_ret pe_bl)))), ?_⟩
    simp_all only [ha, hc]
    refine ⟨_, TyOf.lst ha, _, kit_ll, ?_⟩
    rw [if_neg (by decide), if_neg (by simp)]
    rw [List.length_map]
    refine ⟨by omega, by omega, for_src (src_range (Ok := fun _ => True)) (fun i σ H' => H' = H ∧ ∃ z, σ = [some (V.ref a), some (V.ref c), z]) ⟨rfl, _, rfl⟩ (fun _ _ _ _ _ => trivial) ?_ ?_⟩
    · rintro i x σ H1 H2 hi ⟨rfl, z, rfl⟩ ⟨rfl, rfl⟩
      have hi' : i < ns.length := by omega
      have at1 : atI (List.map V.int ns) (0 + (i : Int)) = some (V.int ns[i]) := by rw [Int.zero_add]; exact atI_pl (f := V.int) (List.getElem?_eq_getElem hi')
      simp_all only [ha, hc, at1]
      refine ⟨_, TyOf.int _, _, kit_ii, ?_⟩
      rw [if_neg (by decide)]
      refine ⟨_, TyOf.int _, _, kit_ib, ?_⟩
      rw [if_neg (by decide), if_neg (by simp)]
      exact ⟨_, rfl⟩
    · rintro σ H1 ⟨rfl, z, rfl⟩
      simp_all only []
      exact kk
theorem sc__law_ways : FnScope ["_law_board_here", "_law_picks_here", "_law_place", "_law_what", "_law_total"] ["_law_board_here", "_law_picks_here", "_law_place"] (defScope (top 24)) := ⟨rfl, rfl, rfl, by decide +kernel, rfl, by decide +kernel, by decide +kernel⟩
theorem ok_wy (T : Txt K mg q_Book) : Cal P w K mg base (CX1 P w) 2 "_law_ways" ["_law_board_here", "_law_picks_here", "_law_place"] spWy := by
  have c__law_low : Cal P w K mg base (CX1 P w) 1 "_law_low" ["_law_top", "_law_bottom"] spLow := ok_low T
  refine T.d__law_ways.cal (fun _ _ _ _ _ _ us hl => match us, hl with | [_, _, _], _ => rfl) fun f fd F => F.okC sc__law_ways (fun vs H Q E h => ?_) (fun cdv A outer s H vs Q E hr h => ?_)
  · obtain ⟨_, _, _, _, _, _, _, rfl, _⟩ := h; rfl
  · obtain ⟨a, c, i, b, n, g, ways, rfl, rb, eb, gq, kk⟩ := h
    have nd := sc__law_ways.nd
    refine ⟨_, (pss_cons (ps_set (i := 3) nd rfl (Or.inl rfl) (pe_ix ix_listH (pv 0) (pv 2) (fun _ _ => rfl)))
    (pss_cons (ps_if (pt_cmpR op_eq (pe_ix ix_tupH (pv 3) pe_int (fun _ _ => rfl)) pe_str (nomark _)) (pss_cons (ps_set (i := 4) nd rfl (Or.inr rfl) (pe_callB (call_sum_lK (K := K)) (by rfl) T.z_sum rfl (pa_cons (pe_comp rfl (N := ["_law_board_here", "_law_picks_here", "_law_place", "_law_what", "_law_total"]) (so := defScope (top 24)) (N' := ["_law_weight", "_law_to"]) (k := 2) (fr := []) rfl rfl ⟨rfl, by decide +kernel, by decide +kernel, by decide +kernel, rfl, by decide +kernel, by decide +kernel⟩ (pi_listK (K := K) (pe_ix ix_tupH (pv 3) pe_int (fun _ _ => rfl))) (fun _ _ _ _ _ => (pg_tupK (K := K) (n := 2) rfl (pgs_cons (pg_name (i := 0) (show (["_law_weight", "_law_to"] : List Str).Nodup by decide +kernel) rfl (Or.inl rfl)) (pgs_cons (pg_name (i := 1) (show (["_law_weight", "_law_to"] : List Str).Nodup by decide +kernel) rfl (Or.inl rfl)) pgs_nil)))) (fun _ _ _ _ _ => pts_nil)
      (fun _ _ _ _ _ => (pv 0))) pa_nil (se rfl)) (he := se rfl) (hpl := na rfl)))
    (pss_one (ps_ret (pe_comp rfl (N := ["_law_board_here", "_law_picks_here", "_law_place", "_law_what", "_law_total"]) (so := defScope (top 24)) (N' := ["_law_weight", "_law_to", "_law_total"]) (k := 2) (fr := [4]) rfl rfl ⟨rfl, by decide +kernel, by decide +kernel, by decide +kernel, rfl, by decide +kernel, by decide +kernel⟩ (pi_listK (K := K) (pe_ix ix_tupH (pv 3) pe_int (fun _ _ => rfl))) (fun _ _ _ _ _ => (pg_tupK (K := K) (n := 2) rfl (pgs_cons (pg_name (i := 0) (show (["_law_weight", "_law_to", "_law_total"] : List Str).Nodup by decide +kernel) rfl (Or.inl rfl)) (pgs_cons (pg_name (i := 1) (show (["_law_weight", "_law_to", "_law_total"] : List Str).Nodup by decide +kernel) rfl (Or.inl rfl)) pgs_nil)))) (fun _ _ _ _ _ => pts_nil)
      (fun _ _ _ _ _ => (pe_tupS (pa_cons (pe_cal c__law_low (hr.mono (by decide)) rfl strictP.pass (pa_cons (pv 0) (pa_cons (pv 2) pa_nil (se rfl)) (se rfl)) (he := se rfl) (hpl := na rfl)) (pa_cons (pv 1) pa_nil (se rfl)) (se rfl))))))))
      pss_nil)
    (pss_cons (ps_if (pt_cmpR op_eq (pe_ix ix_tupH (pv 3) pe_int (fun _ _ => rfl)) pe_str (nomark _)) (pss_one (ps_ret (pe_lst (pa_cons (pe_tupS (pa_cons (pe_tupS (pa_cons pe_int (pa_cons pe_int pa_nil (se rfl)) (se rfl))) (pa_cons (pe_ix ix_listH (pe_ix ix_tupH (pv 3) pe_int (fun _ _ => rfl)) (pe_ix ix_listH (pv 1) (pv 2) (fun _ _ => rfl)) (fun _ _ => rfl)) pa_nil (se rfl)) (se rfl))) pa_nil (se rfl)))))
      pss_nil)
    (pss_one (ps_ret (pe_lst pa_nil)))))), ?_⟩
    obtain ⟨_, xs, e, ha, rl⟩ := rep_lst.mp rb
    cases e
    obtain ⟨v, ev, rv⟩ := rep_br_at rl eb
    obtain ⟨t', r, m, zs, e, ht', hr', hm, rz⟩ := rep_thr.mp rv
    cases e
    have av : atI xs (i : Int) = some (V.ref t') := atI_nat ev
    simp_all only [ha, av, ht', hm]
    obtain ⟨gw, l0, l5, gs⟩ := gq
    have tb := Wq.totW_bd (ws := ways) fun p hp => ⟨(gs p hp).1, (gs p hp).2.1⟩
    have lx := rz.length
    rw [List.length_map] at lx
    refine ⟨⟨_, SqL.of hm⟩, ?_⟩
    have S : Src (Itl K m) (Same H) ways.length (fun i x H H3 => H3 = H ∧ zs[i]? = some x) := by rw [lx]; exact src_list (fun H' s' => SqL.of (s' _ _ hm))
    refine comp_ints2 ways (fun p => some p.1) S (fun _ _ _ _ h => h.1) (by rw [sizeLine_eq]; omega) ?_ ?_
    · rintro i p x ep ⟨_, ex⟩
      obtain ⟨tt, et, htt⟩ := repW_at rz ep
      rw [ex] at et
      cases et
      refine ⟨tt, _, _, rfl, SqT.of htt, fun Y N y1 _ => ?_⟩
      simp_all only [tYes]
      exact y1 _ rfl
    intro D n1 n2
    rw [fm_some]
    refine ⟨_, SqL.of upd_same, _, same_upd n2 _ _ ht', _, rfl, _, rfl, ⟨_, SqL.of (same_upd n2 _ _ hm)⟩, ?_⟩
    have s1 := same_upd (o := .lst (List.map V.int (ways.map (·.1)))) n2
    have hm1 := s1 _ _ hm
    generalize upd H D (.lst (List.map V.int (ways.map (·.1)))) = H1 at *
    refine comp_map2 (K := K) (src_list (Ok := Same H1) (fun H' s' => SqL.of (s' _ _ hm1))) (fun i u v H3 => ∃ p : Int × Int, ways[i]? = some p ∧ u = .int p.1 ∧ v = .int p.2) (fun i x H7 H8 hi s7 ⟨e, ex⟩ => ?_) (by rw [sizeLine_eq]; omega) (fun i y H7 => ∃ p, ways[i]? = some p ∧ PtR H7 (Wq.totW ways) p y) (fun i y H7 H8 s8 ⟨p, e, r⟩ => ⟨p, e, r.mono s8⟩) ?_ ?_
    · subst e
      have hi' : i < ways.length := by have := (List.getElem?_eq_some_iff.mp ex).1; omega
      obtain ⟨tt, et, htt⟩ := repW_at rz (List.getElem?_eq_getElem hi')
      rw [ex] at et
      cases et
      exact ⟨Same.refl _, tt, _, _, rfl, SqT.of (s7 _ _ (s1 _ _ htt)), _, List.getElem?_eq_getElem hi', rfl, rfl⟩
    · rintro j u v H7 Q7 hj s7 ⟨p, ep, rfl, rfl⟩ kq
      simp_all only [tTupS, spLow]
      have W0 : 0 < (List.map Prod.fst ways).sum := by show 0 < Wq.totW ways; omega
      have W1 : (List.map Prod.fst ways).sum ≤ 1000000 := by show Wq.totW ways ≤ 1000000; omega
      exact ⟨W0, Bt.mono (m := 20) (Bt.of 1000000 (by omega) (by omega)) (by decide), fun p1 H8 s8 n8 e8 => ⟨by decide, fun p2 H9 s9 n9 e9 => kq _ _ (s8.trans s9) ⟨p, ep, p2, p1, rfl, e9, s9 _ _ e8⟩⟩⟩
    · intro us H7 s7 lu hu D2 n3 n4
      refine kk D2 us _ (s1.trans (s7.trans (same_upd n4))) upd_same (by omega) fun j p x ep ex => ?_
      obtain ⟨p', e', r'⟩ := hu j x ex
      rw [ep] at e'
      cases e'
      exact r'.mono (same_upd n4)
theorem sc__law_by : FnScope ["_law_board_here", "_law_worths_here", "_law_place", "_law_what", "_law_best_one", "_law_to", "_law_total", "_law_part"] ["_law_board_here", "_law_worths_here", "_law_place"] (defScope (top 27)) := ⟨rfl, rfl, rfl, by decide +kernel, rfl, by decide +kernel, by decide +kernel⟩
theorem ok_by (T : Txt K mg q_Book) : Cal P w K mg base (CX1 P w) 3 "_law_by" ["_law_board_here", "_law_worths_here", "_law_place"] spBy := by
  have c__law_less : Cal P w K mg base (CX1 P w) 1 "_law_less" ["_law_one", "_law_other"] spLes := ok_les T
  have c__law_ways : Cal P w K mg base (CX1 P w) 2 "_law_ways" ["_law_board_here", "_law_picks_here", "_law_place"] spWy := ok_wy T
  have c__law_plus : Cal P w K mg base (CX1 P w) 2 "_law_plus" ["_law_one", "_law_other"] spPls := ok_pls T
  have c__law_times : Cal P w K mg base (CX1 P w) 2 "_law_times" ["_law_one", "_law_other"] spTms := ok_tms T
  refine T.d__law_by.cal (fun _ _ _ _ _ _ us hl => match us, hl with | [_, _, _], _ => rfl) fun f fd F => F.okC sc__law_by (fun vs H Q E h => ?_) (fun cdv A outer s H vs Q E hr h => ?_)
  · obtain ⟨_, _, _, _, _, _, _, _, rfl, _⟩ := h; rfl
  · obtain ⟨a, c, i, b, ws, q, Z, M, rfl, rb, rw_, eb, gq, dg, wo, Z0, bZ, M0, bM, kk⟩ := h
    have nd := sc__law_by.nd
    refine ⟨_, (pss_cons (ps_set (i := 3) nd rfl (Or.inl rfl) (pe_ix ix_listH (pv 0) (pv 2) (fun _ _ => rfl)))
    (pss_cons (ps_if (pt_cmpR op_eq (pe_ix ix_tupH (pv 3) pe_int (fun _ _ => rfl)) pe_str (nomark _)) (pss_one (ps_ret (pe_ix ix_tupH (pv 3) pe_int (fun _ _ => rfl))))
      pss_nil)
    (pss_cons (ps_if (pt_cmpR op_eq (pe_ix ix_tupH (pv 3) pe_int (fun _ _ => rfl)) pe_str (nomark _)) (pss_cons (ps_set (i := 4) nd rfl (Or.inl rfl) (pe_ix ix_listH (pv 1) (pe_ix ix_listH (pe_ix ix_tupH (pv 3) pe_int (fun _ _ => rfl)) pe_int (fun _ _ => rfl)) (fun _ _ => rfl)))
    (pss_cons (ps_for PassesOwn.never rfl (pi_listK (K := K) (pe_ix ix_tupH (pv 3) pe_int (fun _ _ => rfl))) (pg_name (i := 5) nd rfl (Or.inl rfl)) (pss_one (ps_if (PW.pt (pw_or (PW.pt (pw_and (pt_cmpR op_eq (pe_ix ix_tupH (pv 3) pe_int (fun _ _ => rfl)) pe_int (nomark _)) (pw_and1 (pt_val (pe_cal c__law_less (hr.mono (by decide)) rfl strictP.pass (pa_cons (pv 4) (pa_cons (pe_ix ix_listH (pv 1) (pv 5) (fun _ _ => rfl)) pa_nil (se rfl)) (se rfl)) (he := se rfl) (hpl := na rfl)))))) (pw_or1 (PW.pt (pw_and (pt_cmpR op_eq (pe_ix ix_tupH (pv 3) pe_int (fun _ _ => rfl)) pe_int (nomark _)) (pw_and1 (pt_val (pe_cal c__law_less (hr.mono (by decide)) rfl strictP.pass (pa_cons (pe_ix ix_listH (pv 1) (pv 5) (fun _ _ => rfl)) (pa_cons (pv 4) pa_nil (se rfl)) (se rfl)) (he := se rfl) (hpl := na rfl))))))))) (pss_one (ps_set (i := 4) nd rfl (Or.inl rfl) (pe_ix ix_listH (pv 1) (pv 5) (fun _ _ => rfl))))
      pss_nil)))
    (pss_one (ps_ret (pv 4)))))
      pss_nil)
    (pss_cons (ps_set (i := 6) nd rfl (Or.inl rfl) (pe_ix ix_tupH (pv 3) pe_int (fun _ _ => rfl)))
    (pss_cons (ps_for PassesOwn.never rfl (pi_listK (K := K) (pe_cal c__law_ways (hr.mono (by decide)) rfl strictP.pass (pa_cons (pv 0) (pa_cons (pe_lst pa_nil) (pa_cons (pv 2) pa_nil (se rfl)) (se rfl)) (se rfl)) (he := se rfl) (hpl := na rfl))) (pg_tupK (K := K) (n := 2) rfl (pgs_cons (pg_name (i := 7) nd rfl (Or.inl rfl)) (pgs_cons (pg_name (i := 5) nd rfl (Or.inl rfl)) pgs_nil))) (pss_one (ps_set (i := 6) nd rfl (Or.inl rfl) (pe_cal c__law_plus (hr.mono (by decide)) rfl strictP.pass (pa_cons (pv 6) (pa_cons (pe_cal c__law_times (hr.mono (by decide)) rfl strictP.pass (pa_cons (pv 7) (pa_cons (pe_ix ix_listH (pv 1) (pv 5) (fun _ _ => rfl)) pa_nil (se rfl)) (se rfl)) (he := se rfl) (hpl := na rfl)) pa_nil (se rfl)) (se rfl)) (he := se rfl) (hpl := na rfl)))))
    (pss_one (ps_ret (pv 6)))))))), ?_⟩
    have rb' := rb
    obtain ⟨_, xs, e, ha, rl⟩ := rep_lst.mp rb
    cases e
    obtain ⟨_, ys, e, hc, rc⟩ := rep_lst.mp rw_
    cases e
    have ly := rc.length
    rw [List.length_map] at ly
    obtain ⟨v, ev, rv⟩ := rep_br_at rl eb
    have av : atI xs (i : Int) = some v := atI_nat ev
    have at_ : ∀ x : Int, 0 ≤ x → x < (ws.length : Nat) → ∃ p, atI ys x = some (V.ref p) ∧ H p = some (.tup (Pr (Wq.atW ws x).1 (Wq.atW ws x).2)) ∧ Wq.Lw (Wq.atW ws x) ∧ (Wq.atW ws x).2 ∣ Z ∧ Wq.Vb M (Wq.atW ws x) := fun x x0 x1 => by
      have e := atW_is x0 x1
      obtain ⟨p, ep, hp⟩ := repW_at rc e
      have := atI_nat ep
      rw [Int.toNat_of_nonneg x0] at this
      exact ⟨p, this, hp, wo _ (List.mem_of_getElem? e)⟩
    cases q with
    | fin g =>
      obtain ⟨t', r, e, ht', hr'⟩ := rep_fin.mp rv
      cases e
      simp_all only [ha, av, ht']
      exact kk _ _ (Same.refl _) hr'
    | thr g ways =>
      obtain ⟨t', r, m, zs, e, ht', hr', hm, rz⟩ := rep_thr.mp rv
      cases e
      simp_all only [ha, av, ht', hc, spWy]
      rw [if_neg (by decide +kernel), if_neg (by decide +kernel)]
      have gq0 := gq
      obtain ⟨gw, l0, l5, gs⟩ := gq
      have gs1 : ∀ p ∈ ways, 1 ≤ p.1 ∧ p.1 ≤ 200000 := fun p hp => ⟨(gs p hp).1, (gs p hp).2.1⟩
      have tb := Wq.totW_bd (ws := ways) gs1
      refine ⟨Nat.zero_le _, fun p np => ⟨i, rfl, b, rb'.mono (same_upd np), _, g, ways, eb, gq0, fun l us H1 s1 hl lu pu => ⟨⟨_, SqL.of hl⟩, ?_⟩⟩⟩
      have s01 := (same_upd (o := .lst []) np).trans s1
      have W0 : 0 < Wq.totW ways := by omega
      have bW : Bt 20 (Wq.totW ways) := Bt.of 1000000 (by omega) (by omega)
      have ZW := Int.mul_pos Z0 W0
      have bZW : Bt 1900 (Z * Wq.totW ways) := Bt.mono (bZ.mul bW) (by decide)
      have vg : Wq.Vb (2 ^ 40) g := by
        have h1 := gw.1
        have h2 := gw.2.2.1
        unfold Bt at h1
        have : (2 : Int) ^ 40 * 1 ≤ 2 ^ 40 * g.2 := Int.mul_le_mul_of_nonneg_left (by omega) (by decide)
        unfold Wq.Vb
        omega
      have M40 : Bt 60 (2 ^ 40 + M) := by
        unfold Bt at bM ⊢
        omega
      have dgZ : g.2 ∣ Z := dg
      refine for_src (src_list (Ok := Same H1) (fun H2 s2 => SqL.of (s2 _ _ hl))) (fun j σ H2 => Same H1 H2 ∧ ∃ r' z5 z7, H2 r' = some (.tup (Pr (Wq.tsum (Wq.totW ways) (Wq.atW ws) g (ways.take j)).1 (Wq.tsum (Wq.totW ways) (Wq.atW ws) g (ways.take j)).2)) ∧ σ = [some (V.ref a), some (V.ref c), some (V.int (i : Int)), some (V.ref t'), none, z5, some (V.ref r'), z7]) ⟨Same.refl _, r, _, _, s01 _ _ hr', rfl⟩ (fun _ _ _ _ h => h.1) ?_ ?_
      · rintro j v σ H2 H3 hj ⟨s2, r', z5, z7, hr2, rfl⟩ ⟨rfl, ex⟩
        have hj' : j < ways.length := by omega
        have ep : ways[j]? = some ways[j] := List.getElem?_eq_getElem hj'
        obtain ⟨tt, rr, rfl, htt, hrr⟩ := pu j _ v ep ex
        have gp := gs _ (List.getElem_mem hj')
        obtain ⟨p', ap, hp', lw', dw', vw'⟩ := at_ ways[j].2 gp.2.2.1 gp.2.2.2
        have tk : ways.take (j + 1) = ways.take j ++ [ways[j]] := by rw [List.take_add_one, ep]; rfl
        have hws : ∀ q ∈ ways.take j, 0 ≤ q.1 ∧ 0 < (Wq.atW ws q.2).2 ∧ (Wq.atW ws q.2).2 ∣ Z ∧ Wq.Vb M (Wq.atW ws q.2) := fun q hq => by
          have z := gs q (List.mem_of_mem_take hq)
          obtain ⟨_, _, _, a1, a2, a3⟩ := at_ q.2 z.2.2.1 z.2.2.2
          exact ⟨by omega, a1.1, a2, a3⟩
        obtain ⟨u1, u2, u3⟩ := Wq.tsum_sc (v := Wq.atW ws) Z0 W0 (ws := ways.take j) (fun q hq => ⟨(hws q hq).2.1, (hws q hq).2.2.1⟩) gw.2.2 (Int.dvd_trans dgZ (Int.dvd_mul_right Z (Wq.totW ways)))
        have uv := Wq.tsum_vb Z0 W0 M0 hws (Wq.totW_take gs1 j) gw.2.2 dgZ vg
        obtain ⟨m1, m2, m3⟩ := Wq.tm_sc (w := ways[j].1) lw'.1 Z0 W0 dw'
        have wj : ways[j].1 ≤ Wq.totW ways := by
          have := Wq.totW_take gs1 (j + 1)
          have e2 : Wq.totW (ways.take (j + 1)) = Wq.totW (ways.take j) + ways[j].1 := by rw [tk]; unfold Wq.totW; rw [List.map_append, List.sum_append]; simp
          have := (Wq.totW_bd (ws := ways.take j) fun q hq => gs1 q (List.mem_of_mem_take hq)).1
          omega
        have mv := tm_vb lw'.1 Z0 W0 dw' (show 0 ≤ ways[j].1 by omega) wj M0 vw'
        have r1 : Rm (Wq.low ways[j].1 (Wq.totW ways)) := ⟨Bt.mono (m := 20) (Bt.le (Bt.of 200000 (by omega) (by omega)) (Nm.st_abs (by omega))) (by decide), Bt.mono (bW.le (Nm.sb_abs (by omega))) (by decide), Nm.sb_pos (by omega)⟩
        have r2 := rm_of lw'.1 dw' Z0 (bZ.mono (by decide)) vw' M0 (bM.mono (by decide))
        have r3 := rm_of u1.1 u2 ZW bZW uv (by omega) M40
        have r4 := rm_of m1.1 m2 ZW bZW mv M0 (bM.mono (by decide))
        refine ⟨tt, _, rfl, SqT.of (s2 _ _ htt), rfl, ?_⟩
        simp_all only [spPls, spTms, s2 _ _ (s01 _ _ hc), ap]
        rw [tk, Wq.tsum_snoc]
        exact ⟨Wq.low ways[j].1 (Wq.totW ways), s2 _ _ hrr, Wq.atW ws ways[j].2, s2 _ _ (s01 _ _ hp'), r1, r2, fun r6 H4 s4 n4 e4 => ⟨Wq.tsum (Wq.totW ways) (Wq.atW ws) g (ways.take j), s4 _ _ hr2, Wq.tm (Wq.low ways[j].1 (Wq.totW ways)) (Wq.atW ws ways[j].2), e4, r3, r4, fun r7 H5 s5 n5 e5 => ⟨s2.trans (s4.trans s5), r7, e5, by simp⟩⟩⟩
      · rintro σ H2 ⟨s2, r', z5, z7, hr2, rfl⟩
        simp_all only []
        rw [List.take_of_length_le (by omega)] at hr2
        exact kk _ _ (s01.trans s2) hr2
    | pck who to =>
      obtain ⟨t', m, e, ht', hm⟩ := rep_pck.mp rv
      cases e
      simp_all only [ha, av, ht', hc, hm]
      rw [if_neg (by decide +kernel)]
      obtain ⟨hw, l0, l5, gs⟩ := gq
      have m0 : to.getD 0 0 ∈ to := by
        cases to with
        | nil => simp at l0
        | cons x y => simp
      have a0 : atI (to.map V.int) 0 = some (V.int (to.getD 0 0)) := at_int (i := 0) (by decide) (by omega)
      obtain ⟨p0, ap0, hp0, _⟩ := at_ (to.getD 0 0) (gs _ m0).1 (gs _ m0).2
      refine ⟨_, a0, _, _, rfl, rfl, _, ap0, ⟨_, SqL.of hm⟩, ?_⟩
      refine for_src (src_list (Ok := fun H' => H' = H) (fun H2 s2 => by rw [s2]; exact SqL.of hm)) (fun j σ H' => H' = H ∧ ∃ r' z, H r' = some (.tup (Pr (Wq.bestP who ws (Wq.atW ws (to.getD 0 0)) (to.take j)).1 (Wq.bestP who ws (Wq.atW ws (to.getD 0 0)) (to.take j)).2)) ∧ σ = [some (V.ref a), some (V.ref c), some (V.int (i : Int)), some (V.ref t'), some (V.ref r'), z, none, none]) ⟨rfl, p0, _, hp0, rfl⟩ (fun _ _ _ _ h => h.1) ?_ ?_
      · rintro j v σ H1 H2 hj ⟨rfl, r', z, hr2, rfl⟩ ⟨rfl, ex⟩
        rw [List.getElem?_map] at ex
        obtain ⟨x, ex1, rfl⟩ := Option.map_eq_some_iff.mp ex
        have gx := gs x (List.mem_of_getElem? ex1)
        obtain ⟨p', ap, hp', lw', dw', vw'⟩ := at_ x gx.1 gx.2
        simp_all only [spLes, ht', hc, ap]
        have tk : to.take (j + 1) = to.take j ++ [x] := by rw [List.take_add_one, ex1]; rfl
        have rmx : ∀ t ∈ to, Rm (Wq.atW ws t) := fun t ht => by
          obtain ⟨_, _, _, a1, a2, a3⟩ := at_ t (gs t ht).1 (gs t ht).2
          exact rm_of a1.1 a2 Z0 (bZ.mono (by decide)) a3 M0 (bM.mono (by decide))
        have rB : Rm (Wq.bestP who ws (Wq.atW ws (to.getD 0 0)) (to.take j)) := Wq.best_all (rmx _ m0) fun t ht => rmx t (List.mem_of_mem_take ht)
        have rX := rmx x (List.mem_of_getElem? ex1)
        rw [tk, Wq.best_snoc]
        rcases hw with rfl | rfl
        · rw [if_pos rfl]
          refine ⟨_, hr2, _, hp', rB, rX, ?_⟩
          by_cases cc : Wq.lessP (Wq.bestP 1 ws (Wq.atW ws (to.getD 0 0)) (to.take j)) (Wq.atW ws x) = true
          · rw [if_pos cc, if_pos (.inl ⟨rfl, cc⟩)]
            exact ⟨p', hp', rfl, _, rfl⟩
          · have n12 : ¬ ((1 : Int) = 2) := by decide
            have nb : ¬ (((1 : Int) = 1 ∧ Wq.lessP (Wq.bestP 1 ws (Wq.atW ws (to.getD 0 0)) (to.take j)) (Wq.atW ws x) = true) ∨ ((1 : Int) = 2 ∧ Wq.lessP (Wq.atW ws x) (Wq.bestP 1 ws (Wq.atW ws (to.getD 0 0)) (to.take j)) = true)) := fun h => h.elim (fun z => cc z.2) fun z => n12 z.1
            rw [if_neg cc, if_neg n12, if_neg nb]
            exact ⟨r', hr2, rfl, _, rfl⟩
        · rw [if_neg (by decide), if_pos rfl]
          refine ⟨_, hp', _, hr2, rX, rB, ?_⟩
          by_cases cc : Wq.lessP (Wq.atW ws x) (Wq.bestP 2 ws (Wq.atW ws (to.getD 0 0)) (to.take j)) = true
          · rw [if_pos cc, if_pos (.inr ⟨rfl, cc⟩)]
            exact ⟨p', hp', rfl, _, rfl⟩
          · rw [if_neg cc, if_neg (by rintro (⟨z, _⟩ | ⟨_, z⟩); exact absurd z (by decide); exact cc z)]
            exact ⟨r', hr2, rfl, _, rfl⟩
      · rintro σ H2 ⟨rfl, r', z, hr2, rfl⟩
        simp_all only []
        rw [List.take_of_length_le (by rw [List.length_map]; omega)] at hr2
        exact kk _ _ (Same.refl _) hr2

theorem sc__law_worths : FnScope ["_law_script", "_law_board_here", "_law_cell_here", "_law_worths_here", "_law_turn", "_law_place"] ["_law_script", "_law_board_here"] (defScope (top 29)) := ⟨rfl, rfl, rfl, by decide +kernel, rfl, by decide +kernel, by decide +kernel⟩
theorem ixN_nat {n i : Nat} (h : i < n) : ixN n (i : Int) = some i := by
  unfold ixN
  rw [if_pos (by omega), if_pos (by omega)]
  rfl
theorem ok_ws (T : Txt K mg q_Book) : Cal P w K mg base (CX1 P w) 4 "_law_worths" ["_law_script", "_law_board_here"] (spWs K) := by
  have c__law_cell : Cal P w K mg base (CX1 P w) 1 "_law_cell" ["_law_script", "_law_k"] (spC K) := ok_cell T
  have c__law_share : Cal P w K mg base (CX1 P w) 2 "_law_share" ["_law_cell_here", "_law_k"] spShr := ok_shr T
  have c__law_mixed : Cal P w K mg base (CX1 P w) 1 "_law_mixed" ["_law_cell_here", "_law_many"] spMix := ok_mix T
  have c__law_by : Cal P w K mg base (CX1 P w) 3 "_law_by" ["_law_board_here", "_law_worths_here", "_law_place"] spBy := ok_by T
  refine T.d__law_worths.cal (fun _ _ _ _ _ _ us hl => match us, hl with | [_, _], _ => rfl) fun f fd F => F.okC sc__law_worths (fun vs H Q E h => ?_) (fun cdv A outer s H vs Q E hr h => ?_)
  · obtain ⟨_, _, _, _, rfl, _⟩ := h; rfl
  · obtain ⟨a, c, ns, b, rfl, hS, rb, b0, b9, gb, kk⟩ := h
    have nd := sc__law_worths.nd
    refine ⟨_, (pss_cons (ps_set (i := 2) nd rfl (Or.inr rfl) (pe_cal c__law_cell (hr.mono (by decide)) rfl strictP.pass (pa_cons (pv 0) (pa_cons pe_int pa_nil (se rfl)) (se rfl)) (he := se rfl) (hpl := na rfl)))
    (pss_cons (ps_set (i := 3) nd rfl (Or.inr rfl) (pe_comp rfl (N := ["_law_script", "_law_board_here", "_law_cell_here", "_law_worths_here", "_law_turn", "_law_place"]) (so := defScope (top 29)) (N' := ["_law_place", "_law_cell_here"]) (k := 1) (fr := [2]) rfl rfl ⟨rfl, by decide +kernel, by decide +kernel, by decide +kernel, rfl, by decide +kernel, by decide +kernel⟩ (pi_range1 rfl T.z_range (pa_cons (pe_callB call_lenL (by rfl) T.z_len PySem.boot_len (pa_cons (pv 1) pa_nil (se rfl)) (he := se rfl) (hpl := na rfl)) pa_nil (se rfl))) (fun _ _ _ _ _ => (pg_name (i := 0) (show (["_law_place", "_law_cell_here"] : List Str).Nodup by decide +kernel) rfl (Or.inl rfl))) (fun _ _ _ _ _ => pts_nil)
      (fun _ _ _ _ _ => (pe_cal c__law_share (hr.mono (by decide)) rfl strictP.pass (pa_cons (pv 1) (pa_cons (pe_op op_mulB pe_int (pv 0)) pa_nil (se rfl)) (se rfl)) (he := se rfl) (hpl := na rfl)))))
    (pss_cons (ps_if (pt_cmpR op_eq (pe_op op_modB (pv 2) pe_int) pe_int (nomark _)) (pss_one (ps_set (i := 3) nd rfl (Or.inr rfl) (pe_comp rfl (N := ["_law_script", "_law_board_here", "_law_cell_here", "_law_worths_here", "_law_turn", "_law_place"]) (so := defScope (top 29)) (N' := ["_law_place", "_law_worths_here"]) (k := 1) (fr := [3]) rfl rfl ⟨rfl, by decide +kernel, by decide +kernel, by decide +kernel, rfl, by decide +kernel, by decide +kernel⟩ (pi_range1 rfl T.z_range (pa_cons (pe_callB call_lenL (by rfl) T.z_len PySem.boot_len (pa_cons (pv 1) pa_nil (se rfl)) (he := se rfl) (hpl := na rfl)) pa_nil (se rfl))) (fun _ _ _ _ _ => (pg_name (i := 0) (show (["_law_place", "_law_worths_here"] : List Str).Nodup by decide +kernel) rfl (Or.inl rfl))) (fun _ _ _ _ _ => pts_nil)
      (fun _ _ _ _ _ => (pe_ix ix_listH (pv 1) (pe_op op_fdivB (pv 0) pe_int) (fun _ _ => rfl))))))
      pss_nil)
    (pss_cons (ps_for PassesOwn.never rfl (pi_range1 rfl T.z_range (pa_cons (pe_op op_modB (pe_cal c__law_cell (hr.mono (by decide)) rfl strictP.pass (pa_cons (pv 0) (pa_cons pe_int pa_nil (se rfl)) (se rfl)) (he := se rfl) (hpl := na rfl)) pe_int) pa_nil (se rfl))) (pg_name (i := 4) nd rfl (Or.inl rfl)) (pss_one (ps_for PassesOwn.never rfl (pi_range1 rfl T.z_range (pa_cons (pe_callB call_lenL (by rfl) T.z_len PySem.boot_len (pa_cons (pv 1) pa_nil (se rfl)) (he := se rfl) (hpl := na rfl)) pa_nil (se rfl))) (pg_name (i := 5) nd rfl (Or.inl rfl)) (pss_one (ps_if (pt_cmpR op_gt (pe_cal c__law_mixed (hr.mono (by decide)) rfl strictP.pass (pa_cons (pe_op op_add (pe_op op_add (pv 2) (pv 4)) (pv 5)) (pa_cons pe_int pa_nil (se rfl)) (se rfl)) (he := se rfl) (hpl := na rfl)) pe_int (nomark _)) (pss_one (ps_asg (pe_cal c__law_by (hr.mono (by decide)) rfl strictP.pass (pa_cons (pv 1) (pa_cons (pv 3) (pa_cons (pv 5) pa_nil (se rfl)) (se rfl)) (se rfl)) (he := se rfl) (hpl := na rfl)) (pg_sub (pv 3) (pv 5) set_list)))
      pss_nil)))))
    (pss_one (ps_ret (pv 3))))))), ?_⟩
    obtain ⟨_, xs, e, hc, rl⟩ := rep_lst.mp rb
    cases e
    have lx := rl.length
    rw [List.length_map] at lx
    change tSeq _ _ _ [some (.ref a), some (.ref c), none, none, none, none] H
    refine seq_gen (fun σ' H1 => H = H1 ∧ ∃ n : Int, σ' = [some (.ref a), some (.ref c), some (.int n), none, none, none]) ?_ (fun N hN => ?_)
    case refine_2 =>
      simp_all only [spC]
      exact ⟨ns, hS, by decide, by decide, fun c => hN _ _ ⟨rfl, _, rfl⟩⟩
    rintro _ _ ⟨rfl, n, rfl⟩
    change tSeq _ _ _ [some (.ref a), some (.ref c), some (.int n), none, none, none] H
    refine seq_gen (fun σ' H1 => Same H H1 ∧ ∃ (l : Addr) (ws : List Wq.Sh), H l = none ∧ Rep H1 (.lst (ws.map wrowD)) (.ref l) ∧ ws.length = b.length ∧ (∀ x ∈ ws, GS x) ∧ σ' = [some (.ref a), some (.ref c), some (.int n), some (.ref l), none, none]) ?_ (fun N hN => ?_)
    case refine_2 =>
      simp_all only [hc]
      refine ⟨by omega, by omega, ?_⟩
      refine comp_map src_range (fun _ _ _ _ h => by rw [h.1]; exact Same.refl _) (by rw [sizeLine_eq]; omega) (fun i y H4 => ∃ w, Rep H4 (wrowD w) y ∧ GS w) (fun i y H4 H5 s5 ⟨w, r, g⟩ => ⟨w, r.mono s5, g⟩) ?_ ?_
      · rintro j x w0 H6 H7 Q7 hj s6 ⟨rfl, rfl⟩ kq
        simp_all only [spShr]
        exact ⟨mulOkL, by omega, by omega, fun p H8 a s8 n8 e8 g8 => kq _ _ s8 ⟨a, rep_wrow.mpr ⟨p, rfl, e8⟩, g8⟩⟩
      · intro us H6 s6 lu hu D n8 n9
        obtain ⟨ws, rw', lw, gw⟩ := ex_repL (f := wrowD) (P := GS) (H := H6) (xs := us) fun x hx => by
          obtain ⟨j, ej⟩ := List.getElem?_of_mem hx
          exact hu j x ej
        exact hN _ _ ⟨s6.trans (same_upd n9), D, ws, none_of s6 n9, rep_lst.mpr ⟨D, us, rfl, upd_same, rw'.mono (same_upd n9)⟩, by omega, gw, rfl⟩
    rintro _ H1 ⟨s1, l, ws, nl, rw1, lw, gw, rfl⟩
    change tSeq _ _ _ [some (.ref a), some (.ref c), some (.int n), some (.ref l), none, none] H1
    refine seq_gen (fun σ' H1 => Same H H1 ∧ ∃ (l : Addr) (ws : List Wq.Sh), H l = none ∧ Rep H1 (.lst (ws.map wrowD)) (.ref l) ∧ ws.length = b.length ∧ (∀ x ∈ ws, GS x) ∧ σ' = [some (.ref a), some (.ref c), some (.int n), some (.ref l), none, none]) ?_ (fun N hN => ?_)
    case refine_2 =>
      simp_all only [s1 _ _ hc]
      refine ⟨by decide, ite2 (fun _ => ?_) (fun _ => hN _ _ ⟨s1, l, ws, nl, rw1, lw, gw, rfl⟩)⟩
      obtain ⟨_, ys, e, hl, ry⟩ := rep_lst.mp rw1
      cases e
      have ly := ry.length
      rw [List.length_map] at ly
      refine ⟨by omega, by omega, ?_⟩
      refine comp_map src_range (fun _ _ _ _ h => by rw [h.1]; exact Same.refl _) (by rw [sizeLine_eq]; omega) (fun i y H4 => ∃ w, Rep H4 (wrowD w) y ∧ GS w) (fun i y H4 H5 s5 ⟨w, r, g⟩ => ⟨w, r.mono s5, g⟩) ?_ ?_
      · rintro j x w0 H6 H7 Q7 hj s6 ⟨rfl, rfl⟩ kq
        have hj' : ((0 : Int) + (j : Int)) / 3 < (ws.length : Nat) := by omega
        have e := atW_is (ws := ws) (i := ((0 : Int) + (j : Int)) / 3) (by omega) hj'
        obtain ⟨p, ep, hp⟩ := repW_at ry e
        have at1 := atI_nat ep
        rw [Int.toNat_of_nonneg (by omega)] at at1
        simp_all only [s6 _ _ hl, at1]
        exact ⟨CDivB.of (by decide) (Bt.of (n := 20) 3 (by decide) (by decide)), kq _ _ (Same.refl _) ⟨_, rep_wrow.mpr ⟨p, rfl, s6 _ _ hp⟩, gw _ (List.mem_of_getElem? e)⟩⟩
      · intro us H6 s6 lu hu D n8 n9
        obtain ⟨ws, rw', lw, gw⟩ := ex_repL (f := wrowD) (P := GS) (H := H6) (xs := us) fun x hx => by
          obtain ⟨j, ej⟩ := List.getElem?_of_mem hx
          exact hu j x ej
        exact hN _ _ ⟨s1.trans (s6.trans (same_upd n9)), D, ws, none_of (s1.trans s6) n9, rep_lst.mpr ⟨D, us, rfl, upd_same, rw'.mono (same_upd n9)⟩, by omega, gw, rfl⟩
    clear gw lw rw1 nl ws l s1 H1
    rintro _ H1 ⟨s1, l, ws, nl, rw1, lw, gw, rfl⟩
    have wk0 := Wk.start lw b9 gb gw
    simp_all only [spC]
    refine ⟨ns, s1.seq hS, by decide, by decide, fun c14 => ⟨by decide, by omega, by omega, ?_⟩⟩
    refine for_src (src_range (Ok := fun _ => True)) (fun i σ H' => Same H H' ∧ ∃ (ws : List Wq.Sh) (z5 z6 : Option V), Rep H' (.lst (ws.map wrowD)) (.ref l) ∧ Wk b (9 * i) ws ∧ σ = [some (V.ref a), some (V.ref c), some (V.int n), some (V.ref l), z5, z6]) ⟨s1, ws, _, _, rw1, wk0, rfl⟩ (fun _ _ _ _ _ => trivial) ?_ ?_
    · rintro i x σ H2 H3 hi ⟨s2, ws, z5, z6, rw2, wk, rfl⟩ ⟨rfl, rfl⟩
      simp_all only [s2 _ _ hc]
      refine ⟨by omega, by omega, ?_⟩
      refine for_src (src_range (Ok := fun _ => True)) (fun j σ H' => Same H H' ∧ ∃ (ws : List Wq.Sh) (z6 : Option V), Rep H' (.lst (ws.map wrowD)) (.ref l) ∧ Wk b (9 * i + j) ws ∧ σ = [some (V.ref a), some (V.ref c), some (V.int n), some (V.ref l), some (V.int (0 + (i : Int))), z6]) ⟨s2, ws, _, rw2, wk, rfl⟩ (fun _ _ _ _ _ => trivial) ?_ ?_
      · clear rw2 wk ws
        rintro j x σ H4 H5 hj ⟨s4, ws, z6, rw4, wk, rfl⟩ ⟨rfl, rfl⟩
        simp_all only [spMix, spBy]
        refine ⟨by decide, fun r r0 r4 => ite2 (fun _ => ?_) (fun _ => ⟨s4, ws, rw4, wk.up (by omega), _, rfl⟩)⟩
        have hj' : j < b.length := by omega
        have eb : b[j]? = some b[j] := List.getElem?_eq_getElem hj'
        have gq := gb _ (List.getElem_mem hj')
        obtain ⟨w0, Z, M, w1, w2, w3, w4, w5, w6⟩ := id wk
        have i4 : i < 4 := by omega
        have bM : Bt 58 M := Bt.of (100 * 2 ^ 40) (by omega) (by
          have : ((9 * i + j : Nat) + 1 : Int) * 2 ^ 40 ≤ 100 * 2 ^ 40 := Int.mul_le_mul_of_nonneg_right (by omega) (by decide)
          omega)
        refine ⟨j, by omega, b, rb.mono s4, ws, rw4, b[j], eb, by rw [w0]; exact gq, Z, w1 _ (List.getElem_mem hj'), M, w2, w3, w4.mono (by omega), w5, bM, fun r H6 s6 hr6 => ?_⟩
        obtain ⟨_, ys, e, hl, ry⟩ := rep_lst.mp (rw4.mono s6)
        cases e
        have ly := ry.length
        rw [List.length_map] at ly
        exact ⟨ys, hl, j, by rw [Int.zero_add]; exact ixN_nat (by omega), same_upd_of (s4.trans s6) nl, _, setW_rep hl ry hr6, wk.set (List.getElem_mem hj') gq, _, rfl⟩
      · rintro σ H4 ⟨s4, ws, z6, rw4, wk, rfl⟩
        exact ⟨s4, ws, rw4, wk.up (by omega), _, _, rfl⟩
    · rintro σ H2 ⟨s2, ws, z5, z6, rw2, wk, rfl⟩
      simp_all only []
      exact kk _ _ _ s2 nl rw2 (wk.up (by omega))
theorem sc_law : FnScope ["_law_script", "_law_n", "_law_board_here", "_law_worths_here", "_law_due", "_law_handed", "_law_asked", "_law_found", "_law_at", "_law_more"] ["_law_script"] (defScope (top 30)) := ⟨rfl, rfl, rfl, by decide +kernel, rfl, by decide +kernel, by decide +kernel⟩
theorem hid_put {H : Hp} {p : Addr} {o : HO} : Same (hid H p) (hid (upd H p o) p) := fun a u e => by
  unfold hid at *
  by_cases h : a = p
  · rw [if_pos h] at e
    cases e
  · rw [if_neg h] at e ⊢
    rw [upd_ne h]
    exact e
theorem due_blk {n l c : Addr} {H : Hp} {b : List Pl} {ws : List Wq.Sh} {fin : List V → Hp → Prop} (rb : Rep H (brD b) (.ref l)) (rc : Rep H (.lst (ws.map wrowD)) (.ref c)) (fn : Fn b ws) (gb : ∀ q ∈ b, PkG b.length q) (lb : b.length = n) (b9 : b.length ≤ 9)
    (hf : ∀ H3, Same H H3 → fin ((misP b ws).map V.int) H3) : tBlock (Itr 0 n) (gName 0) (tTest (tOp rNeT (tCall spBy [] E0 (tCons (tVar 1) (tCons (tVar 2) (tCons (tVar 0) tNil)))) (tOp rIxLH (tVar 2) (tVar 0)))) (tVar 0) [none, some (.ref l), some (.ref c)] H fin := by
  subst lb
  obtain ⟨w0, Z, M, w1, w2, w3, w4, w5, w6⟩ := fn
  obtain ⟨_, ys, e, hc, ry⟩ := rep_lst.mp rc
  cases e
  have ly := ry.length
  rw [List.length_map] at ly
  have S : Src (Itr 0 b.length) (Same H) (List.range b.length).length (fun i x H H3 => H3 = H ∧ x = .int (0 + i)) := by rw [List.length_range]; exact src_range
  refine comp_sel1 (List.range b.length) (fun i => if Wq.byP ws (b.getD i (.fin (0, 1))) = ws.getD i (0, 1) then none else some (V.int (i : Int))) S (fun _ _ _ _ h => by rw [h.1]; exact Same.refl _) (by rw [List.length_range, sizeLine_eq]; omega) ?_ ?_
  · rintro i j x H6 H7 ej s6 ⟨rfl, rfl⟩ Y N y1 no1
    have hj : j = i ∧ i < b.length := by
      obtain ⟨h1, h2⟩ := List.getElem?_eq_some_iff.mp ej
      rw [List.length_range] at h1
      rw [List.getElem_range] at h2
      exact ⟨h2.symm, h1⟩
    obtain ⟨rfl, hj⟩ := hj
    have eb : b[j]? = some b[j] := List.getElem?_eq_getElem hj
    have ew : ws[j]? = some ws[j] := List.getElem?_eq_getElem (by omega)
    have mb : b[j] ∈ b := List.getElem_mem hj
    obtain ⟨p, ep, hp⟩ := repW_at ry ew
    have at1 := atI_nat ep
    have gb' : b.getD j (.fin (0, 1)) = b[j] := by rw [List.getD_eq_getElem?_getD, eb]; rfl
    have gw' : ws.getD j (0, 1) = ws[j] := by rw [List.getD_eq_getElem?_getD, ew]; rfl
    rw [gb', gw'] at y1 no1
    rw [Int.zero_add]
    simp_all only [spBy, rNeT]
    refine ⟨j, rfl, b, rb.mono s6, ws, rc.mono s6, b[j], eb, by rw [w0]; exact gb _ mb, Z, w1 _ mb, M, w2, w3, w4.mono (by decide), w5, w6.mono (by decide), fun r H8 s8 hr8 => ?_⟩
    refine ⟨_, s8 _ _ (s6 _ _ hc), _, at1, p, rfl, _, hr8, _, s8 _ _ (s6 _ _ hp), rfl, rfl, ?_⟩
    rw [show eqL [V.int (Wq.byP ws b[j]).fst, V.int (Wq.byP ws b[j]).snd] [V.int ws[j].fst, V.int ws[j].snd] = decide (Wq.byP ws b[j] = ws[j]) from eq_pr _ _]
    by_cases cc : Wq.byP ws b[j] = ws[j]
    · rw [if_pos cc] at no1
      rw [if_neg (by simp [cc])]
      exact no1 _ rfl s8
    · rw [if_neg cc] at y1
      rw [if_pos (by simp [cc])]
      exact y1 _ _ rfl s8
  · intro H6 s6
    rw [← misP_map]
    exact hf _ s6
theorem ok_law (T : Txt K mg q_Book) {f : Addr} {fd : FuncData} (F : Fun K "law" "law" (top 30) f fd) : FnOk P w K mg base (CX1 P w) 5 f fd ["_law_script"] (spLaw K) := by
  have c__law_cell : Cal P w K mg base (CX1 P w) 1 "_law_cell" ["_law_script", "_law_k"] (spC K) := ok_cell T
  have c__law_board : Cal P w K mg base (CX1 P w) 3 "_law_board" ["_law_script", "_law_at", "_law_n"] (spBrd K) := ok_brd T
  have c__law_worths : Cal P w K mg base (CX1 P w) 4 "_law_worths" ["_law_script", "_law_board_here"] (spWs K) := ok_ws T
  have c__law_by : Cal P w K mg base (CX1 P w) 3 "_law_by" ["_law_board_here", "_law_worths_here", "_law_place"] spBy := ok_by T
  have c__law_copy : Cal P w K mg base (CX1 P w) 1 "_law_copy" ["_law_board_here"] spCpy := ok_cpy T
  have c_misfits : Cal P w K mg base (CX1 P w) 4 "misfits" ["board", "worths"] (spMs K) := ok_ms T
  have c__law_are_places : Cal P w K mg base (CX1 P w) 1 "_law_are_places" ["_law_found", "_law_due"] spAp := ok_ap T
  have c__law_plus : Cal P w K mg base (CX1 P w) 2 "_law_plus" ["_law_one", "_law_other"] spPls := ok_pls T
  refine F.okC sc_law (fun vs H Q E h => ?_) (fun cdv A outer s H vs Q E hr h => ?_)
  · obtain ⟨_, _, rfl, _⟩ := h; rfl
  · obtain ⟨sa, ns, rfl, hS, hlen, kk⟩ := h
    have nd := sc_law.nd
    refine ⟨_, (pss_cons (ps_set (i := 1) nd rfl (Or.inl rfl) (pe_op op_add pe_int (pe_op op_modB (pe_cal c__law_cell (hr.mono (by decide)) rfl strictP.pass (pa_cons (pv 0) (pa_cons pe_int pa_nil (se rfl)) (se rfl)) (he := se rfl) (hpl := na rfl)) pe_int)))
    (pss_cons (ps_set (i := 2) nd rfl (Or.inr rfl) (pe_cal c__law_board (hr.mono (by decide)) rfl strictP.pass (pa_cons (pv 0) (pa_cons pe_int (pa_cons (pv 1) pa_nil (se rfl)) (se rfl)) (se rfl)) (he := se rfl) (hpl := na rfl)))
    (pss_cons (ps_if (pt_cmpR op_eq (pe_op op_modB (pe_cal c__law_cell (hr.mono (by decide)) rfl strictP.pass (pa_cons (pv 0) (pa_cons pe_int pa_nil (se rfl)) (se rfl)) (he := se rfl) (hpl := na rfl)) pe_int) pe_int (nomark _)) (pss_cons (ps_asg (pe_tupS (pa_cons pe_str (pa_cons pe_int (pa_cons (pe_lst (pa_cons (pe_op op_sub (pv 1) pe_int) (pa_cons pe_int pa_nil (se rfl)) (se rfl))) pa_nil (se rfl)) (se rfl)) (se rfl))) (pg_sub (pv 2) pe_int set_list))
    (pss_one (ps_asg (pe_tupS (pa_cons pe_str (pa_cons (pe_tupS (pa_cons pe_int (pa_cons pe_int pa_nil (se rfl)) (se rfl))) (pa_cons (pe_lst (pa_cons (pe_tupS (pa_cons pe_int (pa_cons (pe_op op_sub (pv 1) pe_int) pa_nil (se rfl)) (se rfl))) (pa_cons (pe_tupS (pa_cons pe_int (pa_cons pe_int pa_nil (se rfl)) (se rfl))) pa_nil (se rfl)) (se rfl))) pa_nil (se rfl)) (se rfl)) (se rfl))) (pg_sub (pv 2) (pe_op op_sub (pv 1) pe_int) set_list))))
      pss_nil)
    (pss_cons (ps_set (i := 3) nd rfl (Or.inr rfl) (pe_cal c__law_worths (hr.mono (by decide)) rfl strictP.pass (pa_cons (pv 0) (pa_cons (pv 2) pa_nil (se rfl)) (se rfl)) (he := se rfl) (hpl := na rfl)))
    (pss_cons (ps_setC (i := 4) rfl nd rfl rfl (N := ["_law_script", "_law_n", "_law_board_here", "_law_worths_here", "_law_due", "_law_handed", "_law_asked", "_law_found", "_law_at", "_law_more"]) (so := defScope (top 30)) (N' := ["_law_place", "_law_board_here", "_law_worths_here"]) (k := 1) (fr := [2, 3]) rfl rfl ⟨rfl, by decide +kernel, by decide +kernel, by decide +kernel, rfl, by decide +kernel, by decide +kernel⟩ (pi_range1 rfl T.z_range (pa_cons (pv 1) pa_nil (se rfl))) (fun _ _ _ _ _ => (pg_name (i := 0) (show (["_law_place", "_law_board_here", "_law_worths_here"] : List Str).Nodup by decide +kernel) rfl (Or.inl rfl))) (fun _ _ _ _ _ => (pts_one (pt_cmpR (op_ne_tup hr.units0) (pe_cal c__law_by (hr.mono (by decide)) rfl strictP.pass (pa_cons (pv 1) (pa_cons (pv 2) (pa_cons (pv 0) pa_nil (se rfl)) (se rfl)) (se rfl)) (he := se rfl) (hpl := na rfl)) (pe_ix ix_listH (pv 2) (pv 0) (fun _ _ => rfl)) (nomark _))))
      (fun _ _ _ _ _ => (pv 0)))
    (pss_cons (ps_set (i := 5) nd rfl (Or.inl rfl) (pe_cal c__law_copy (hr.mono (by decide)) rfl strictP.pass (pa_cons (pv 2) pa_nil (se rfl)) (he := se rfl) (hpl := na rfl)))
    (pss_cons (ps_set (i := 6) nd rfl (Or.inr rfl) (pe_callTy (call_list_ofK (K := K)) (by rfl) T.z_list rfl (pa_cons (pv 3) pa_nil (se rfl)) (he := se rfl) (hpl := na rfl)))
    (pss_cons (ps_set (i := 7) nd rfl (Or.inl rfl) (pe_cal c_misfits (hr.mono (by decide)) rfl strictP.pass (pa_cons (pv 5) (pa_cons (pv 6) pa_nil (se rfl)) (se rfl)) (he := se rfl) (hpl := na rfl)))
    (pss_cons (ps_if (PW.pt (pw_or (pt_not (pt_val (pe_cal c__law_are_places (hr.mono (by decide)) rfl strictP.pass (pa_cons (pv 7) (pa_cons (pv 4) pa_nil (se rfl)) (se rfl)) (he := se rfl) (hpl := na rfl)))) (pw_or (pt_cmpR (op_neD hr.units) (pv 5) (pv 2) (nomark _)) (pw_or1 (pt_cmpR (op_neD hr.units) (pv 6) (pv 3) (nomark _)))))) (pss_one (ps_ret pe_bl))
      pss_nil)
    (pss_cons (ps_set (i := 8) nd rfl (Or.inl rfl) (pe_op op_modB (pe_cal c__law_cell (hr.mono (by decide)) rfl strictP.pass (pa_cons (pv 0) (pa_cons pe_int pa_nil (se rfl)) (se rfl)) (he := se rfl) (hpl := na rfl)) (pv 1)))
    (pss_cons (ps_asg (pe_cal c__law_plus (hr.mono (by decide)) rfl strictP.pass (pa_cons (pe_ix ix_listH (pv 6) (pv 8) (fun _ _ => rfl)) (pa_cons (pe_tupS (pa_cons pe_int (pa_cons pe_int pa_nil (se rfl)) (se rfl))) pa_nil (se rfl)) (se rfl)) (he := se rfl) (hpl := na rfl)) (pg_sub (pv 6) (pv 8) set_list))
    (pss_cons (ps_setC (i := 9) rfl nd rfl rfl (N := ["_law_script", "_law_n", "_law_board_here", "_law_worths_here", "_law_due", "_law_handed", "_law_asked", "_law_found", "_law_at", "_law_more"]) (so := defScope (top 30)) (N' := ["_law_place", "_law_board_here", "_law_asked"]) (k := 1) (fr := [2, 6]) rfl rfl ⟨rfl, by decide +kernel, by decide +kernel, by decide +kernel, rfl, by decide +kernel, by decide +kernel⟩ (pi_range1 rfl T.z_range (pa_cons (pv 1) pa_nil (se rfl))) (fun _ _ _ _ _ => (pg_name (i := 0) (show (["_law_place", "_law_board_here", "_law_asked"] : List Str).Nodup by decide +kernel) rfl (Or.inl rfl))) (fun _ _ _ _ _ => (pts_one (pt_cmpR (op_ne_tup hr.units0) (pe_cal c__law_by (hr.mono (by decide)) rfl strictP.pass (pa_cons (pv 1) (pa_cons (pv 2) (pa_cons (pv 0) pa_nil (se rfl)) (se rfl)) (se rfl)) (he := se rfl) (hpl := na rfl)) (pe_ix ix_listH (pv 2) (pv 0) (fun _ _ => rfl)) (nomark _))))
      (fun _ _ _ _ _ => (pv 0)))
    (pss_cons (ps_if (pt_not (pt_val (pe_cal c__law_are_places (hr.mono (by decide)) rfl strictP.pass (pa_cons (pe_cal c_misfits (hr.mono (by decide)) rfl strictP.pass (pa_cons (pv 5) (pa_cons (pv 6) pa_nil (se rfl)) (se rfl)) (he := se rfl) (hpl := na rfl)) (pa_cons (pv 9) pa_nil (se rfl)) (se rfl)) (he := se rfl) (hpl := na rfl)))) (pss_one (ps_ret pe_bl))
      pss_nil)
    (pss_one (ps_ret (pe_cal c__law_are_places (hr.mono (by decide)) rfl strictP.pass (pa_cons (pv 7) (pa_cons (pv 4) pa_nil (se rfl)) (se rfl)) (he := se rfl) (hpl := na rfl))))))))))))))))), ?_⟩
    change tSeq _ _ _ [some (.ref sa), none, none, none, none, none, none, none, none, none] H
    refine seq_gen (fun σ' H1 => H = H1 ∧ ∃ n : Int, 0 < n ∧ n ≤ 9 ∧ σ' = [some (.ref sa), some (.int n), none, none, none, none, none, none, none, none]) ?_ (fun N hN => ?_)
    case refine_2 =>
      simp_all only [spC]
      exact ⟨ns, hS, by decide, by decide, fun c => ⟨by decide, hN _ _ ⟨rfl, _, by omega, by omega, rfl⟩⟩⟩
    rintro _ _ ⟨rfl, n, n0, n9, rfl⟩
    change tSeq _ _ _ [some (.ref sa), some (.int n), none, none, none, none, none, none, none, none] H
    refine seq_gen (fun σ' H1 => ∃ l xs b, Same H H1 ∧ H l = none ∧ H1 l = some (.lst xs) ∧ RepL (hid H1 l) (List.map plD b) xs ∧ b.length = n.toNat ∧ (∀ q ∈ b, PkG n q) ∧ σ' = [some (.ref sa), some (.int n), some (.ref l), none, none, none, none, none, none, none]) ?_ (fun N hN => ?_)
    case refine_2 =>
      simp_all only [spBrd]
      exact ⟨ns, hS, n0, n9, fun l H1 xs b s1 nl hl rl lb gb => hN _ _ ⟨l, xs, b, s1, nl, hl, rl, lb, gb, rfl⟩⟩
    rintro _ H1 ⟨l, xs, b, s1, nl, hl, rl, lb, gb, rfl⟩
    change tSeq _ _ _ [some (.ref sa), some (.int n), some (.ref l), none, none, none, none, none, none, none] H1
    refine seq_gen (fun σ' H2 => ∃ b, Same H H2 ∧ Rep H2 (brD b) (.ref l) ∧ b.length = n.toNat ∧ (∀ q ∈ b, PkG b.length q) ∧ σ' = [some (.ref sa), some (.int n), some (.ref l), none, none, none, none, none, none, none]) ?_ (fun N hN => ?_)
    case refine_2 =>
      simp_all only [tTupS, spC]
      have nb : (b.length : Int) = n := by omega
      refine ⟨ns, s1.seq hS, by decide, by decide, fun c => ⟨by decide, ite2 (fun _ => ?_) (fun _ => hN _ _ ⟨b, s1, rep_lst.mpr ⟨l, xs, rfl, hl, rl.mono hid_sub⟩, lb, by rw [nb]; exact gb, rfl⟩)⟩⟩
      have lx := rl.length
      rw [List.length_map] at lx
      have ix0 : ixN xs.length (0 : Int) = some 0 := ixN_nat (i := 0) (by omega)
      refine ⟨by decide, fun p np => ⟨by decide, fun p1 H2 s2 n2 e2 => ?_⟩⟩
      have s12 : Same H1 H2 := (same_upd np).trans s2
      have pl : p ≠ l := fun z => by rw [z, hl] at np; cases np
      have pl1 : p1 ≠ l := fun z => by rw [z, same_upd np _ _ hl] at n2; cases n2
      refine ⟨xs, s12 _ _ hl, 0, ix0, ?_⟩
      have rA : RepL (hid (upd H2 l (.lst (xs.set 0 (.ref p1)))) l) ((b.set 0 (.pck 1 [n - 1, 0])).map plD) (xs.set 0 (.ref p1)) := set_rep ((rl.mono (hid_mono s12)).mono hid_put) (rep_pck.mpr ⟨p1, p, rfl, by rw [hid_ne pl1, upd_ne pl1]; exact e2, by rw [hid_ne pl, upd_ne pl]; exact s2 _ _ upd_same⟩)
      have hA : upd H2 l (.lst (xs.set 0 (.ref p1))) l = some (.lst (xs.set 0 (.ref p1))) := upd_same
      have sA : Same H (upd H2 l (.lst (xs.set 0 (.ref p1)))) := same_upd_of (s1.trans s12) nl
      generalize upd H2 l (.lst (xs.set 0 (.ref p1))) = HA at *
      refine ⟨by decide, fun p3 H3 s3 n3 e3 => ⟨by decide, fun p4 H4 s4 n4 e4 => ⟨by decide, fun p5 H5 s5 n5 e5 => ⟨by decide, fun p6 n6 => ⟨by decide, fun p7 H7 s7 n7 e7 => ?_⟩⟩⟩⟩⟩
      have s6 := same_upd (o := .lst [V.ref p4, V.ref p5]) n6
      have s67 := s6.trans s7
      have s47 := s5.trans s67
      have s37 := s4.trans s47
      have sA7 := s3.trans s37
      have fr : ∀ {G : Hp} {a : Addr}, Same HA G → G a = none → a ≠ l := fun sg na z => by rw [z, sg _ _ hA] at na; cases na
      have l3 := fr (Same.refl _) n3
      have l4 := fr s3 n4
      have l5 := fr (s3.trans s4) n5
      have l6 := fr (s3.trans (s4.trans s5)) n6
      have l7 := fr (s3.trans (s4.trans (s5.trans s6))) n7
      have rB : Rep (hid H7 l) (plD (.thr (1, 3) [(2, n - 1), (1, 0)])) (.ref p7) := rep_thr.mpr ⟨p7, p3, p6, [V.ref p4, V.ref p5], rfl, by rw [hid_ne l7]; exact e7, by rw [hid_ne l3]; exact s37 _ _ e3, by rw [hid_ne l6]; exact s7 _ _ upd_same,
        ⟨_, _, rfl, rep_wrow.mpr ⟨p4, rfl, by rw [hid_ne l4]; exact s47 _ _ e4⟩, _, _, rfl, rep_wrow.mpr ⟨p5, rfl, by rw [hid_ne l5]; exact s67 _ _ e5⟩, rfl⟩⟩
      have ix1 : ixN (xs.set 0 (V.ref p1)).length (n - 1) = some (b.length - 1) := by
        have := ixN_nat (n := (xs.set 0 (V.ref p1)).length) (i := b.length - 1) (by rw [List.length_set]; omega)
        rwa [show ((b.length - 1 : Nat) : Int) = n - 1 by omega] at this
      refine ⟨_, sA7 _ _ hA, b.length - 1, ix1, hN _ _ ⟨(b.set 0 (.pck 1 [n - 1, 0])).set (b.length - 1) (.thr (1, 3) [(2, n - 1), (1, 0)]), same_upd_of (sA.trans sA7) nl, rep_lst.mpr ⟨l, _, rfl, upd_same, (set_rep (rA.mono (hid_mono sA7)) rB).mono hid_upd⟩, by rw [List.length_set, List.length_set]; exact lb, fun q hq => ?_, rfl⟩⟩
      rw [List.length_set, List.length_set, nb]
      rcases List.mem_or_eq_of_mem_set hq with hq | rfl
      · rcases List.mem_or_eq_of_mem_set hq with hq | rfl
        · exact gb q hq
        · refine ⟨.inl rfl, by simp, by simp, fun g hg => ?_⟩
          simp only [List.mem_cons, List.not_mem_nil, or_false] at hg
          rcases hg with rfl | rfl <;> omega
      · refine ⟨⟨Bt.of 1 (by decide) (by decide), Bt.of 3 (by decide) (by decide), by decide, by decide⟩, by simp, by simp, fun g hg => ?_⟩
        simp only [List.mem_cons, List.not_mem_nil, or_false] at hg
        rcases hg with rfl | rfl
        · exact ⟨by show (1 : Int) ≤ 2; decide, by show (2 : Int) ≤ 200000; decide, by show 0 ≤ n - 1; omega, by show n - 1 < n; omega⟩
        · exact ⟨by show (1 : Int) ≤ 1; decide, by show (1 : Int) ≤ 200000; decide, by show (0 : Int) ≤ 0; decide, by show 0 < n; omega⟩
    clear gb lb rl hl s1 xs b H1
    rintro _ H1 ⟨b, s1, rb, lb, gb, rfl⟩
    change tSeq _ _ _ [some (.ref sa), some (.int n), some (.ref l), none, none, none, none, none, none, none] H1
    refine seq_gen (fun σ' H2 => ∃ (c : Addr) (ws : List Wq.Sh), Same H1 H2 ∧ Rep H2 (.lst (List.map wrowD ws)) (.ref c) ∧ Wk b 27 ws ∧ σ' = [some (.ref sa), some (.int n), some (.ref l), some (.ref c), none, none, none, none, none, none]) ?_ (fun N hN => ?_)
    case refine_2 =>
      simp_all only [spWs]
      exact ⟨ns, s1.seq hS, b, rb, by omega, by omega, gb, fun c H2 ws s2 nc r2 wk => hN _ _ ⟨c, ws, s2, r2, wk, rfl⟩⟩
    rintro _ H2 ⟨c, ws, s2, rw2, wk, rfl⟩
    have rb2 := rb.mono s2
    change tSeq _ _ _ [some (.ref sa), some (.int n), some (.ref l), some (.ref c), none, none, none, none, none, none] H2
    refine seq_gen (fun σ' H3 => ∃ d, Same H2 H3 ∧ H3 d = some (.lst ((misP b ws).map V.int)) ∧ σ' = [some (.ref sa), some (.int n), some (.ref l), some (.ref c), some (.ref d), none, none, none, none, none]) ?_ (fun N hN => ?_)
    case refine_2 =>
      simp_all only []
      exact ⟨by omega, by omega, due_blk rb2 rw2 wk.fn gb lb (by omega) fun H3 s3 D n8 n9 => hN _ _ ⟨D, s3.trans (same_upd n9), upd_same, rfl⟩⟩
    rintro _ H3 ⟨d, s3, hd, rfl⟩
    change tSeq _ _ _ [some (.ref sa), some (.int n), some (.ref l), some (.ref c), some (.ref d), none, none, none, none, none] H3
    refine seq_gen (fun σ' H4 => ∃ h, Same H3 H4 ∧ Rep H4 (brD b) (.ref h) ∧ σ' = [some (.ref sa), some (.int n), some (.ref l), some (.ref c), some (.ref d), some (.ref h), none, none, none, none]) ?_ (fun N hN => ?_)
    case refine_2 =>
      simp_all only [spCpy]
      exact ⟨b, rb.mono (s2.trans s3), by omega, fun h H4 s4 n4 r4 => hN _ _ ⟨h, s4, r4, rfl⟩⟩
    rintro _ H4 ⟨h, s4, rh, rfl⟩
    change tSeq _ _ _ [some (.ref sa), some (.int n), some (.ref l), some (.ref c), some (.ref d), some (.ref h), none, none, none, none] H4
    refine seq_gen (fun σ' H5 => ∃ y : Addr, Same H4 H5 ∧ H4 y = none ∧ Rep H5 (.lst (ws.map wrowD)) (.ref y) ∧ σ' = [some (.ref sa), some (.int n), some (.ref l), some (.ref c), some (.ref d), some (.ref h), some (.ref y), none, none, none]) ?_ (fun N hN => ?_)
    case refine_2 =>
      obtain ⟨_, us, e, hc, ru⟩ := rep_lst.mp (rw2.mono (s3.trans s4))
      cases e
      simp_all only []
      exact ⟨us, .inl (SqL.of hc), fun y ny => hN _ _ ⟨y, same_upd ny, ny, rep_lst.mpr ⟨y, us, rfl, upd_same, ru.mono (same_upd ny)⟩, rfl⟩⟩
    rintro _ H5 ⟨y, s5, ny, ry, rfl⟩
    have fn := wk.fn
    have fms : ∀ {ws : List Wq.Sh}, Fn b ws → ws.length = b.length ∧ ∃ Z : Int, (∀ q ∈ b, PkG b.length q ∧ (Wq.gainP q).2 ∣ Z) ∧ (∀ x ∈ ws, Wq.Lw x ∧ x.2 ∣ Z ∧ Bt 4000 x.1) ∧ 0 < Z ∧ Bt 2000 Z := fun ⟨h0, Z, M, h1, h2, h3, h4, h5, h6⟩ =>
      ⟨h0, Z, fun q hq => ⟨gb q hq, h1 q hq⟩, fun x hx => ⟨(h2 x hx).1, (h2 x hx).2.1, (rm_of (h2 x hx).1.1 (h2 x hx).2.1 h3 (h4.mono (by decide)) (h2 x hx).2.2 h5 (h6.mono (by decide))).1⟩, h3, h4.mono (by decide)⟩
    obtain ⟨m0, Z, m1, m2, m3, m4⟩ := fms fn
    change tSeq _ _ _ [some (.ref sa), some (.int n), some (.ref l), some (.ref c), some (.ref d), some (.ref h), some (.ref y), none, none, none] H5
    refine seq_gen (fun σ' H6 => ∃ z : Addr, Same H5 H6 ∧ H5 z = none ∧ H6 z = some (.lst ((misP b ws).map V.int)) ∧ σ' = [some (.ref sa), some (.int n), some (.ref l), some (.ref c), some (.ref d), some (.ref h), some (.ref y), some (.ref z), none, none]) ?_ (fun N hN => ?_)
    case refine_2 =>
      simp_all only [spMs]
      exact ⟨b, rh.mono s5, ws, ry, by omega, by omega, m0, Z, m1, m2, m3, m4, fun z H6 s6 n6 e6 => hN _ _ ⟨z, s6, n6, e6, rfl⟩⟩
    rintro _ H6 ⟨z, s6, nz, hz, rfl⟩
    obtain ⟨_, u5, e, hy5, _⟩ := rep_lst.mp ry
    cases e
    have ml : ∀ ws, (misP b ws).length ≤ 9 := fun ws => by
      have := List.length_filterMap_le (fun i => if Wq.byP ws (b.getD i (.fin (0, 1))) = ws.getD i (0, 1) then none else some (i : Int)) (List.range b.length)
      rw [List.length_range] at this
      unfold misP
      omega
    change tSeq _ _ _ [some (.ref sa), some (.int n), some (.ref l), some (.ref c), some (.ref d), some (.ref h), some (.ref y), some (.ref z), none, none] H6
    refine seq_gen (fun σ' H7 => H7 = H6 ∧ σ' = [some (.ref sa), some (.int n), some (.ref l), some (.ref c), some (.ref d), some (.ref h), some (.ref y), some (.ref z), none, none]) ?_ (fun N hN => ?_)
    case refine_2 =>
      simp_all only [spAp]
      refine ⟨misP b ws, hz, s6 _ _ (s5 _ _ (s4 _ _ hd)), ml _, ?_⟩
      rw [if_neg (by decide)]
      refine ⟨_, rh.mono (s5.trans s6), rb.mono (s2.trans (s3.trans (s4.trans (s5.trans s6)))), ⟨_, rfl⟩, depth_br _, ?_⟩
      refine ⟨_, rfl, ?_⟩
      rw [if_neg (by decide)]
      refine ⟨_, ry.mono s6, rw2.mono (s3.trans (s4.trans (s5.trans s6))), ⟨_, rfl⟩, depth_ws _, _, rfl, ?_⟩
      rw [if_neg (by decide)]
      exact hN _ _ ⟨rfl, rfl⟩
    rintro _ _ ⟨rfl, rfl⟩
    rename_i H6
    change tSeq _ _ _ [some (.ref sa), some (.int n), some (.ref l), some (.ref c), some (.ref d), some (.ref h), some (.ref y), some (.ref z), none, none] H6
    refine seq_gen (fun σ' H7 => H7 = H6 ∧ ∃ i : Nat, i < b.length ∧ σ' = [some (.ref sa), some (.int n), some (.ref l), some (.ref c), some (.ref d), some (.ref h), some (.ref y), some (.ref z), some (.int (i : Int)), none]) ?_ (fun N hN => ?_)
    case refine_2 =>
      simp_all only [spC]
      refine ⟨ns, (s1.trans (s2.trans (s3.trans (s4.trans (s5.trans s6))))).seq hS, by decide, by decide, fun cc => ⟨by omega, hN _ _ ⟨rfl, (cc % n).toNat, ?_, ?_⟩⟩⟩
      · have := Int.emod_lt_of_pos cc n0
        omega
      · rw [Int.toNat_of_nonneg (Int.emod_nonneg _ (by omega))]
    rintro _ _ ⟨rfl, i, hi, rfl⟩
    rename_i H6
    have ew : ws[i]? = some ws[i] := List.getElem?_eq_getElem (by omega)
    obtain ⟨_, us, e, hy, ru⟩ := rep_lst.mp (ry.mono s6)
    cases e
    have lu := ru.length
    rw [List.length_map] at lu
    obtain ⟨p, ep, hp⟩ := repW_at ru ew
    have at1 := atI_nat ep
    obtain ⟨rmx, fn2⟩ := wk.half (i := i) (List.getElem_mem (show i < ws.length by omega))
    change tSeq _ _ _ [some (.ref sa), some (.int n), some (.ref l), some (.ref c), some (.ref d), some (.ref h), some (.ref y), some (.ref z), some (.int (i : Int)), none] H6
    refine seq_gen (fun σ' H7 => Same H4 H7 ∧ H7 z = some (.lst ((misP b ws).map V.int)) ∧ Rep H7 (.lst ((ws.set i (Wq.pl ws[i] (1, 2))).map wrowD)) (.ref y) ∧ σ' = [some (.ref sa), some (.int n), some (.ref l), some (.ref c), some (.ref d), some (.ref h), some (.ref y), some (.ref z), some (.int (i : Int)), none]) ?_ (fun N hN => ?_)
    case refine_2 =>
      simp_all only [tTupS, spPls, hy, at1]
      refine ⟨by decide, fun p1 H8 s8 n8 e8 => ⟨ws[i], s8 _ _ hp, (1, 2), e8, rmx, ⟨Bt.mono (m := 2) (Bt.of 1 (by decide) (by decide)) (by decide), Bt.mono (m := 2) (Bt.of 2 (by decide) (by decide)) (by decide), by decide⟩, fun r H9 s9 n9 e9 => ?_⟩⟩
      have s69 := s8.trans s9
      refine ⟨us, s69 _ _ hy, i, ixN_nat (by omega), hN _ _ ⟨same_upd_of (s5.trans (s6.trans s69)) ny, ?_, setW_rep (s69 _ _ hy) (ru.mono s69) e9, rfl⟩⟩
      rw [upd_ne (fun e => by rw [e, hy5] at nz; cases nz)]
      exact s69 _ _ hz
    rintro _ H7 ⟨s7, hz7, ry7, rfl⟩
    generalize ws.set i (Wq.pl ws[i] (1, 2)) = vs at *
    have rb7 := rb2.mono (s3.trans (s4.trans s7))
    change tSeq _ _ _ [some (.ref sa), some (.int n), some (.ref l), some (.ref c), some (.ref d), some (.ref h), some (.ref y), some (.ref z), some (.int (i : Int)), none] H7
    refine seq_gen (fun σ' H8 => ∃ e, Same H7 H8 ∧ H8 e = some (.lst ((misP b vs).map V.int)) ∧ σ' = [some (.ref sa), some (.int n), some (.ref l), some (.ref c), some (.ref d), some (.ref h), some (.ref y), some (.ref z), some (.int (i : Int)), some (.ref e)]) ?_ (fun N hN => ?_)
    case refine_2 =>
      simp_all only []
      exact ⟨by omega, by omega, due_blk rb7 ry7 fn2 gb lb (by omega) fun H3 s3 D n8 n9 => hN _ _ ⟨D, s3.trans (same_upd n9), upd_same, rfl⟩⟩
    rintro _ H8 ⟨e, s8, he, rfl⟩
    obtain ⟨k0, Z', k1, k2, k3, k4⟩ := fms fn2
    simp_all only [spMs, spAp]
    refine ⟨b, rh.mono (s7.trans s8), vs, ry7.mono s8, by omega, by omega, k0, Z', k1, k2, k3, k4, fun r H9 s9 n9 e9 => ⟨misP b vs, e9, s9 _ _ he, ml _, ?_⟩⟩
    rw [if_neg (by decide)]
    exact ⟨misP b ws, s9 _ _ (s8 _ _ hz7), s9 _ _ (s8 _ _ (s7 _ _ (s4 _ _ hd))), ml _, kk _⟩
end
theorem all_mk {l : PySem.W.OpenLaw} {w : World} {K : PySem.W.Frag} {h : Heap} {mg : Str → Option Value} {fa : Addr} (X : K.In h) (G : h.Ns mainGlobals mg) (hfa : mg "law" = some (.ref fa))
    {f0 : Addr} {od0 an0 : Option Addr} {sl0 : Array (Option Value)} {oc0 kV0 dc0 pm0 cd0 ct0 : Value} {f1 : Addr} {od1 an1 : Option Addr} {sl1 : Array (Option Value)} {oc1 kV1 dc1 pm1 cd1 ct1 : Value} {f2 : Addr} {od2 an2 : Option Addr} {sl2 : Array (Option Value)} {oc2 kV2 dc2 pm2 cd2 ct2 : Value} {f3 : Addr} {od3 an3 : Option Addr} {sl3 : Array (Option Value)} {oc3 kV3 dc3 pm3 cd3 ct3 : Value} {f4 : Addr} {od4 an4 : Option Addr} {sl4 : Array (Option Value)} {oc4 kV4 dc4 pm4 cd4 ct4 : Value} {f5 : Addr} {od5 an5 : Option Addr} {sl5 : Array (Option Value)} {oc5 kV5 dc5 pm5 cd5 ct5 : Value} {f6 : Addr} {od6 an6 : Option Addr} {sl6 : Array (Option Value)} {oc6 kV6 dc6 pm6 cd6 ct6 : Value} {f7 : Addr} {od7 an7 : Option Addr} {sl7 : Array (Option Value)} {oc7 kV7 dc7 pm7 cd7 ct7 : Value} {f8 : Addr} {od8 an8 : Option Addr} {sl8 : Array (Option Value)} {oc8 kV8 dc8 pm8 cd8 ct8 : Value} {f9 : Addr} {od9 an9 : Option Addr} {sl9 : Array (Option Value)} {oc9 kV9 dc9 pm9 cd9 ct9 : Value} {f10 : Addr} {od10 an10 : Option Addr} {sl10 : Array (Option Value)} {oc10 kV10 dc10 pm10 cd10 ct10 : Value} {f11 : Addr} {od11 an11 : Option Addr} {sl11 : Array (Option Value)} {oc11 kV11 dc11 pm11 cd11 ct11 : Value} {f12 : Addr} {od12 an12 : Option Addr} {sl12 : Array (Option Value)} {oc12 kV12 dc12 pm12 cd12 ct12 : Value} {f13 : Addr} {od13 an13 : Option Addr} {sl13 : Array (Option Value)} {oc13 kV13 dc13 pm13 cd13 ct13 : Value} {f14 : Addr} {od14 an14 : Option Addr} {sl14 : Array (Option Value)} {oc14 kV14 dc14 pm14 cd14 ct14 : Value} {f15 : Addr} {od15 an15 : Option Addr} {sl15 : Array (Option Value)} {oc15 kV15 dc15 pm15 cd15 ct15 : Value} {f16 : Addr} {od16 an16 : Option Addr} {sl16 : Array (Option Value)} {oc16 kV16 dc16 pm16 cd16 ct16 : Value} {f17 : Addr} {od17 an17 : Option Addr} {sl17 : Array (Option Value)} {oc17 kV17 dc17 pm17 cd17 ct17 : Value} {f18 : Addr} {od18 an18 : Option Addr} {sl18 : Array (Option Value)} {oc18 kV18 dc18 pm18 cd18 ct18 : Value} {f19 : Addr} {od19 an19 : Option Addr} {sl19 : Array (Option Value)} {oc19 kV19 dc19 pm19 cd19 ct19 : Value} {f20 : Addr} {od20 an20 : Option Addr} {sl20 : Array (Option Value)} {oc20 kV20 dc20 pm20 cd20 ct20 : Value} {f21 : Addr} {od21 an21 : Option Addr} {sl21 : Array (Option Value)} {oc21 kV21 dc21 pm21 cd21 ct21 : Value} {f22 : Addr} {od22 an22 : Option Addr} {sl22 : Array (Option Value)} {oc22 kV22 dc22 pm22 cd22 ct22 : Value} {q_Book : Addr} {fI_Book : Addr} {odI anI : Option Addr} {slI : Array (Option Value)} {ocI kVI dcI pmI cdI ctI : Value}
    (a0 : PySem.W.nsIn K mainGlobals "common_divisor" = some (some (.ref f0))) (l0 : K.lookup f0 = some ⟨oc0, od0, .func (PySem.W.fnOf "common_divisor" "common_divisor" (defArgs (top 2)) (defBody (top 2)) (defScope (top 2)) .none kV0 dc0 pm0 an0 cd0 ct0), sl0⟩) (e0 : PySem.W.codeIn K cd0 "common_divisor" = true) (k0 : PySem.W.keepIn K (.ref f0) = true)
    (a1 : PySem.W.nsIn K mainGlobals "common_bottom" = some (some (.ref f1))) (l1 : K.lookup f1 = some ⟨oc1, od1, .func (PySem.W.fnOf "common_bottom" "common_bottom" (defArgs (top 3)) (defBody (top 3)) (defScope (top 3)) .none kV1 dc1 pm1 an1 cd1 ct1), sl1⟩) (e1 : PySem.W.codeIn K cd1 "common_bottom" = true) (k1 : PySem.W.keepIn K (.ref f1) = true)
    (a2 : PySem.W.nsIn K mainGlobals "total_weight" = some (some (.ref f2))) (l2 : K.lookup f2 = some ⟨oc2, od2, .func (PySem.W.fnOf "total_weight" "total_weight" (defArgs (top 5)) (defBody (top 5)) (defScope (top 5)) .none kV2 dc2 pm2 an2 cd2 ct2), sl2⟩) (e2 : PySem.W.codeIn K cd2 "total_weight" = true) (k2 : PySem.W.keepIn K (.ref f2) = true)
    (a3 : PySem.W.nsIn K mainGlobals "gain_of" = some (some (.ref f3))) (l3 : K.lookup f3 = some ⟨oc3, od3, .func (PySem.W.fnOf "gain_of" "gain_of" (defArgs (top 7)) (defBody (top 7)) (defScope (top 7)) .none kV3 dc3 pm3 an3 cd3 ct3), sl3⟩) (e3 : PySem.W.codeIn K cd3 "gain_of" = true) (k3 : PySem.W.keepIn K (.ref f3) = true)
    (a4 : PySem.W.nsIn K mainGlobals "book_of" = some (some (.ref f4))) (l4 : K.lookup f4 = some ⟨oc4, od4, .func (PySem.W.fnOf "book_of" "book_of" (defArgs (top 8)) (defBody (top 8)) (defScope (top 8)) .none kV4 dc4 pm4 an4 cd4 ct4), sl4⟩) (e4 : PySem.W.codeIn K cd4 "book_of" = true) (k4 : PySem.W.keepIn K (.ref f4) = true)
    (a5 : PySem.W.nsIn K mainGlobals "fits" = some (some (.ref f5))) (l5 : K.lookup f5 = some ⟨oc5, od5, .func (PySem.W.fnOf "fits" "fits" (defArgs (top 10)) (defBody (top 10)) (defScope (top 10)) .none kV5 dc5 pm5 an5 cd5 ct5), sl5⟩) (e5 : PySem.W.codeIn K cd5 "fits" = true) (k5 : PySem.W.keepIn K (.ref f5) = true)
    (a6 : PySem.W.nsIn K mainGlobals "misfits" = some (some (.ref f6))) (l6 : K.lookup f6 = some ⟨oc6, od6, .func (PySem.W.fnOf "misfits" "misfits" (defArgs (top 11)) (defBody (top 11)) (defScope (top 11)) .none kV6 dc6 pm6 an6 cd6 ct6), sl6⟩) (e6 : PySem.W.codeIn K cd6 "misfits" = true) (k6 : PySem.W.keepIn K (.ref f6) = true)
    (a7 : PySem.W.nsIn K mainGlobals "_law_cell" = some (some (.ref f7))) (l7 : K.lookup f7 = some ⟨oc7, od7, .func (PySem.W.fnOf "_law_cell" "_law_cell" (defArgs (top 13)) (defBody (top 13)) (defScope (top 13)) .none kV7 dc7 pm7 an7 cd7 ct7), sl7⟩) (e7 : PySem.W.codeIn K cd7 "_law_cell" = true) (k7 : PySem.W.keepIn K (.ref f7) = true)
    (a8 : PySem.W.nsIn K mainGlobals "_law_mixed" = some (some (.ref f8))) (l8 : K.lookup f8 = some ⟨oc8, od8, .func (PySem.W.fnOf "_law_mixed" "_law_mixed" (defArgs (top 14)) (defBody (top 14)) (defScope (top 14)) .none kV8 dc8 pm8 an8 cd8 ct8), sl8⟩) (e8 : PySem.W.codeIn K cd8 "_law_mixed" = true) (k8 : PySem.W.keepIn K (.ref f8) = true)
    (a9 : PySem.W.nsIn K mainGlobals "_law_low" = some (some (.ref f9))) (l9 : K.lookup f9 = some ⟨oc9, od9, .func (PySem.W.fnOf "_law_low" "_law_low" (defArgs (top 15)) (defBody (top 15)) (defScope (top 15)) .none kV9 dc9 pm9 an9 cd9 ct9), sl9⟩) (e9 : PySem.W.codeIn K cd9 "_law_low" = true) (k9 : PySem.W.keepIn K (.ref f9) = true)
    (a10 : PySem.W.nsIn K mainGlobals "_law_plus" = some (some (.ref f10))) (l10 : K.lookup f10 = some ⟨oc10, od10, .func (PySem.W.fnOf "_law_plus" "_law_plus" (defArgs (top 16)) (defBody (top 16)) (defScope (top 16)) .none kV10 dc10 pm10 an10 cd10 ct10), sl10⟩) (e10 : PySem.W.codeIn K cd10 "_law_plus" = true) (k10 : PySem.W.keepIn K (.ref f10) = true)
    (a11 : PySem.W.nsIn K mainGlobals "_law_times" = some (some (.ref f11))) (l11 : K.lookup f11 = some ⟨oc11, od11, .func (PySem.W.fnOf "_law_times" "_law_times" (defArgs (top 17)) (defBody (top 17)) (defScope (top 17)) .none kV11 dc11 pm11 an11 cd11 ct11), sl11⟩) (e11 : PySem.W.codeIn K cd11 "_law_times" = true) (k11 : PySem.W.keepIn K (.ref f11) = true)
    (a12 : PySem.W.nsIn K mainGlobals "_law_share" = some (some (.ref f12))) (l12 : K.lookup f12 = some ⟨oc12, od12, .func (PySem.W.fnOf "_law_share" "_law_share" (defArgs (top 18)) (defBody (top 18)) (defScope (top 18)) .none kV12 dc12 pm12 an12 cd12 ct12), sl12⟩) (e12 : PySem.W.codeIn K cd12 "_law_share" = true) (k12 : PySem.W.keepIn K (.ref f12) = true)
    (a13 : PySem.W.nsIn K mainGlobals "_law_turned" = some (some (.ref f13))) (l13 : K.lookup f13 = some ⟨oc13, od13, .func (PySem.W.fnOf "_law_turned" "_law_turned" (defArgs (top 19)) (defBody (top 19)) (defScope (top 19)) .none kV13 dc13 pm13 an13 cd13 ct13), sl13⟩) (e13 : PySem.W.codeIn K cd13 "_law_turned" = true) (k13 : PySem.W.keepIn K (.ref f13) = true)
    (a14 : PySem.W.nsIn K mainGlobals "_law_throw" = some (some (.ref f14))) (l14 : K.lookup f14 = some ⟨oc14, od14, .func (PySem.W.fnOf "_law_throw" "_law_throw" (defArgs (top 20)) (defBody (top 20)) (defScope (top 20)) .none kV14 dc14 pm14 an14 cd14 ct14), sl14⟩) (e14 : PySem.W.codeIn K cd14 "_law_throw" = true) (k14 : PySem.W.keepIn K (.ref f14) = true)
    (a15 : PySem.W.nsIn K mainGlobals "_law_board" = some (some (.ref f15))) (l15 : K.lookup f15 = some ⟨oc15, od15, .func (PySem.W.fnOf "_law_board" "_law_board" (defArgs (top 21)) (defBody (top 21)) (defScope (top 21)) .none kV15 dc15 pm15 an15 cd15 ct15), sl15⟩) (e15 : PySem.W.codeIn K cd15 "_law_board" = true) (k15 : PySem.W.keepIn K (.ref f15) = true)
    (a16 : PySem.W.nsIn K mainGlobals "_law_copy" = some (some (.ref f16))) (l16 : K.lookup f16 = some ⟨oc16, od16, .func (PySem.W.fnOf "_law_copy" "_law_copy" (defArgs (top 23)) (defBody (top 23)) (defScope (top 23)) .none kV16 dc16 pm16 an16 cd16 ct16), sl16⟩) (e16 : PySem.W.codeIn K cd16 "_law_copy" = true) (k16 : PySem.W.keepIn K (.ref f16) = true)
    (a17 : PySem.W.nsIn K mainGlobals "_law_ways" = some (some (.ref f17))) (l17 : K.lookup f17 = some ⟨oc17, od17, .func (PySem.W.fnOf "_law_ways" "_law_ways" (defArgs (top 24)) (defBody (top 24)) (defScope (top 24)) .none kV17 dc17 pm17 an17 cd17 ct17), sl17⟩) (e17 : PySem.W.codeIn K cd17 "_law_ways" = true) (k17 : PySem.W.keepIn K (.ref f17) = true)
    (a18 : PySem.W.nsIn K mainGlobals "_law_less" = some (some (.ref f18))) (l18 : K.lookup f18 = some ⟨oc18, od18, .func (PySem.W.fnOf "_law_less" "_law_less" (defArgs (top 26)) (defBody (top 26)) (defScope (top 26)) .none kV18 dc18 pm18 an18 cd18 ct18), sl18⟩) (e18 : PySem.W.codeIn K cd18 "_law_less" = true) (k18 : PySem.W.keepIn K (.ref f18) = true)
    (a19 : PySem.W.nsIn K mainGlobals "_law_by" = some (some (.ref f19))) (l19 : K.lookup f19 = some ⟨oc19, od19, .func (PySem.W.fnOf "_law_by" "_law_by" (defArgs (top 27)) (defBody (top 27)) (defScope (top 27)) .none kV19 dc19 pm19 an19 cd19 ct19), sl19⟩) (e19 : PySem.W.codeIn K cd19 "_law_by" = true) (k19 : PySem.W.keepIn K (.ref f19) = true)
    (a20 : PySem.W.nsIn K mainGlobals "_law_are_places" = some (some (.ref f20))) (l20 : K.lookup f20 = some ⟨oc20, od20, .func (PySem.W.fnOf "_law_are_places" "_law_are_places" (defArgs (top 28)) (defBody (top 28)) (defScope (top 28)) .none kV20 dc20 pm20 an20 cd20 ct20), sl20⟩) (e20 : PySem.W.codeIn K cd20 "_law_are_places" = true) (k20 : PySem.W.keepIn K (.ref f20) = true)
    (a21 : PySem.W.nsIn K mainGlobals "_law_worths" = some (some (.ref f21))) (l21 : K.lookup f21 = some ⟨oc21, od21, .func (PySem.W.fnOf "_law_worths" "_law_worths" (defArgs (top 29)) (defBody (top 29)) (defScope (top 29)) .none kV21 dc21 pm21 an21 cd21 ct21), sl21⟩) (e21 : PySem.W.codeIn K cd21 "_law_worths" = true) (k21 : PySem.W.keepIn K (.ref f21) = true)
    (a22 : PySem.W.nsIn K mainGlobals "law" = some (some (.ref f22))) (l22 : K.lookup f22 = some ⟨oc22, od22, .func (PySem.W.fnOf "law" "law" (defArgs (top 30)) (defBody (top 30)) (defScope (top 30)) .none kV22 dc22 pm22 an22 cd22 ct22), sl22⟩) (e22 : PySem.W.codeIn K cd22 "law" = true) (k22 : PySem.W.keepIn K (.ref f22) = true)
    (z_abs : PySem.W.nsIn K mainGlobals "abs" = some none)
    (z_bool : PySem.W.nsIn K mainGlobals "bool" = some none)
    (z_enumerate : PySem.W.nsIn K mainGlobals "enumerate" = some none)
    (z_int : PySem.W.nsIn K mainGlobals "int" = some none)
    (z_isinstance : PySem.W.nsIn K mainGlobals "isinstance" = some none)
    (z_len : PySem.W.nsIn K mainGlobals "len" = some none)
    (z_list : PySem.W.nsIn K mainGlobals "list" = some none)
    (z_max : PySem.W.nsIn K mainGlobals "max" = some none)
    (z_min : PySem.W.nsIn K mainGlobals "min" = some none)
    (z_range : PySem.W.nsIn K mainGlobals "range" = some none)
    (z_sorted : PySem.W.nsIn K mainGlobals "sorted" = some none)
    (z_sum : PySem.W.nsIn K mainGlobals "sum" = some none)
    (k_Book : PySem.W.nsIn K mainGlobals "Book" = some (some (.ref q_Book)))
    (cl_Bookpg : PySem.W.plainGet K q_Book Str.empty = true)
    (cl_Bookhd : PySem.W.hasDictIn K q_Book = true)
    (cl_Bookpo : PySem.W.plainOver K q_Book = true)
    (cl_Booksa : PySem.W.findIn K (.ref q_Book) "__setattr__" = some (some (.builtin "object.__setattr__")))
    (na_Book_bottom : PySem.W.findIn K (.ref q_Book) "bottom" = some none)
    (na_Book_tops : PySem.W.findIn K (.ref q_Book) "tops" = some none)
    (dia_Book : PySem.W.findIn K (.ref q_Book) "__init__" = some (some (.ref fI_Book)))
    (dii_Book : PySem.W.isFn K (.ref fI_Book) = true)
    (dil_Book : K.lookup fI_Book = some ⟨ocI, odI, .func (PySem.W.fnOf "__init__" "Book.__init__" (defArgs (inClass (top 6) 0)) (defBody (inClass (top 6) 0)) (defScope (inClass (top 6) 0)) .none kVI dcI pmI anI cdI ctI), slI⟩)
    (dic_Book : PySem.W.codeIn K cdI "Book.__init__" = true)
    (dik_Book : PySem.W.keepIn K (.ref fI_Book) = true)
    (dim_Book : PySem.W.makesIn K q_Book = true)
    (diq_Book : PySem.W.keepIn K (.ref q_Book) = true)
    : ∃ fd : FuncData, (∀ (s : Shared) (v : Value), BindsTo s fd ⟨[v], []⟩ [("_law_script", v)]) ∧ ∀ base : Heap, K.In base → base.Ns mainGlobals mg → FnOk l.prog w K mg base (CX1 l.prog w) 30 fa fd ["_law_script"] (spLaw K) := by
  have e := hfa.symm.trans (PySem.W.mg_of X G a22)
  cases e
  have T : Txt K mg q_Book := ⟨PySem.W.mg_none_of X G z_abs, PySem.W.mg_none_of X G z_bool, PySem.W.mg_none_of X G z_enumerate, PySem.W.mg_none_of X G z_int, PySem.W.mg_none_of X G z_isinstance, PySem.W.mg_none_of X G z_len, PySem.W.mg_none_of X G z_list, PySem.W.mg_none_of X G z_max, PySem.W.mg_none_of X G z_min, PySem.W.mg_none_of X G z_range, PySem.W.mg_none_of X G z_sorted, PySem.W.mg_none_of X G z_sum, ⟨_, _, fun_mk l0 e0 k0, PySem.W.mg_of X G a0⟩, ⟨_, _, fun_mk l1 e1 k1, PySem.W.mg_of X G a1⟩, ⟨_, _, fun_mk l2 e2 k2, PySem.W.mg_of X G a2⟩, ⟨_, _, fun_mk l3 e3 k3, PySem.W.mg_of X G a3⟩, ⟨_, _, fun_mk l4 e4 k4, PySem.W.mg_of X G a4⟩, ⟨_, _, fun_mk l5 e5 k5, PySem.W.mg_of X G a5⟩, ⟨_, _, fun_mk l6 e6 k6, PySem.W.mg_of X G a6⟩, ⟨_, _, fun_mk l7 e7 k7, PySem.W.mg_of X G a7⟩, ⟨_, _, fun_mk l8 e8 k8, PySem.W.mg_of X G a8⟩, ⟨_, _, fun_mk l9 e9 k9, PySem.W.mg_of X G a9⟩, ⟨_, _, fun_mk l10 e10 k10, PySem.W.mg_of X G a10⟩, ⟨_, _, fun_mk l11 e11 k11, PySem.W.mg_of X G a11⟩, ⟨_, _, fun_mk l12 e12 k12, PySem.W.mg_of X G a12⟩, ⟨_, _, fun_mk l13 e13 k13, PySem.W.mg_of X G a13⟩, ⟨_, _, fun_mk l14 e14 k14, PySem.W.mg_of X G a14⟩, ⟨_, _, fun_mk l15 e15 k15, PySem.W.mg_of X G a15⟩, ⟨_, _, fun_mk l16 e16 k16, PySem.W.mg_of X G a16⟩, ⟨_, _, fun_mk l17 e17 k17, PySem.W.mg_of X G a17⟩, ⟨_, _, fun_mk l18 e18 k18, PySem.W.mg_of X G a18⟩, ⟨_, _, fun_mk l19 e19 k19, PySem.W.mg_of X G a19⟩, ⟨_, _, fun_mk l20 e20 k20, PySem.W.mg_of X G a20⟩, ⟨_, _, fun_mk l21 e21 k21, PySem.W.mg_of X G a21⟩, PySem.W.mg_of X G k_Book, ⟨cl_Bookpg, cl_Bookhd, cl_Bookpo, cl_Booksa⟩, na_Book_bottom, na_Book_tops, ⟨_, _, fun_mk dil_Book dic_Book dik_Book, ⟨dim_Book, dia_Book, dii_Book, diq_Book⟩, PySem.W.mg_of X G k_Book⟩⟩
  exact ⟨_, fun s v => .of_eq rfl, fun base _ _ => (ok_law T (fun_mk l22 e22 k22)).mono (by decide)⟩
theorem walk {l : PySem.W.OpenLaw} {q : Program} {loose : List Str} {XP : (Str → Option Value) → Heap → Prop} {YP : World → Heap → Prop} {d : DefRec} {K : Params → PySem.W.Frag} (hn : l.most = some 63) (hdf : d.params.defaults = [])
    (hY : ∀ (w : World) (h : Heap), YP w h → (K w.params).In h)
    (F : ∀ (w : World) (mg : Str → Option Value) (fa : Addr) (h : Heap), (K w.params).In h → h.Ns mainGlobals mg → mg d.name = some (.ref fa) →
      ∃ fd : FuncData, (∀ (s : Shared) (u : Value), BindsTo s fd ⟨[u], []⟩ [("_law_script", u)]) ∧ ∀ base : Heap, (K w.params).In base → base.Ns mainGlobals mg → FnOk l.prog w (K w.params) mg base (CX1 l.prog w) 30 fa fd ["_law_script"] (spLaw (K w.params))) :
    PySem.W.WalkO q loose XP YP l.row.toRowW d [] (fun f vs => PySem.call f vs) :=
  L2.walk_of (n := 63) (k := 30) (x := "_law_script") (CX := fun w => CX1 l.prog w) (sp := fun w => spLaw (K w.params)) hn (by decide) hdf ⟨rfl, by decide, by decide⟩ hY F (fun _ _ a ns hl _ hS => ⟨a, ns, rfl, hS, hl, fun _ => rfl⟩) fun _ _ _ _ _ z => (strict1 _ _) _ _ _ _ _ z
end K39
open PySem PySem.W PyProof.Rows
set_option maxRecDepth 100000 in
set_option maxHeartbeats 0 in
theorem PySem.Challenge.cw_pressluck_k39_misfits_holds : PySem.Challenge.rw_pressluck_k39_misfits.Holds := by
  w_on; o_law; k_head; (case hw => w_witness2)
  k_fill
  refine K39.walk (l := PySem.Challenge.rw_pressluck_k39_misfits) rfl rfl (fun w h Y => PySem.W.kIn_of Y) ?F
  case F =>
    intro w mg fa h KX G hmg
    refine' K39.all_mk KX G hmg ?a0 ?l0 ?e0 ?k0 ?a1 ?l1 ?e1 ?k1 ?a2 ?l2 ?e2 ?k2 ?a3 ?l3 ?e3 ?k3 ?a4 ?l4 ?e4 ?k4 ?a5 ?l5 ?e5 ?k5 ?a6 ?l6 ?e6 ?k6 ?a7 ?l7 ?e7 ?k7 ?a8 ?l8 ?e8 ?k8 ?a9 ?l9 ?e9 ?k9 ?a10 ?l10 ?e10 ?k10 ?a11 ?l11 ?e11 ?k11 ?a12 ?l12 ?e12 ?k12 ?a13 ?l13 ?e13 ?k13 ?a14 ?l14 ?e14 ?k14 ?a15 ?l15 ?e15 ?k15 ?a16 ?l16 ?e16 ?k16 ?a17 ?l17 ?e17 ?k17 ?a18 ?l18 ?e18 ?k18 ?a19 ?l19 ?e19 ?k19 ?a20 ?l20 ?e20 ?k20 ?a21 ?l21 ?e21 ?k21 ?a22 ?l22 ?e22 ?k22 ?z_abs ?z_bool ?z_enumerate ?z_int ?z_isinstance ?z_len ?z_list ?z_max ?z_min ?z_range ?z_sorted ?z_sum ?k_Book ?cl_Bookpg ?cl_Bookhd ?cl_Bookpo ?cl_Booksa ?na_Book_bottom ?na_Book_tops ?dia_Book ?dii_Book ?dil_Book ?dic_Book ?dik_Book ?dim_Book ?diq_Book
    (case a0 => k_is)
    (case l0 => k_is)
    (case e0 => k_is)
    (case k0 => k_is)
    (case a1 => k_is)
    (case l1 => k_is)
    (case e1 => k_is)
    (case k1 => k_is)
    (case a2 => k_is)
    (case l2 => k_is)
    (case e2 => k_is)
    (case k2 => k_is)
    (case a3 => k_is)
    (case l3 => k_is)
    (case e3 => k_is)
    (case k3 => k_is)
    (case a4 => k_is)
    (case l4 => k_is)
    (case e4 => k_is)
    (case k4 => k_is)
    (case a5 => k_is)
    (case l5 => k_is)
    (case e5 => k_is)
    (case k5 => k_is)
    (case a6 => k_is)
    (case l6 => k_is)
    (case e6 => k_is)
    (case k6 => k_is)
    (case a7 => k_is)
    (case l7 => k_is)
    (case e7 => k_is)
    (case k7 => k_is)
    (case a8 => k_is)
    (case l8 => k_is)
    (case e8 => k_is)
    (case k8 => k_is)
    (case a9 => k_is)
    (case l9 => k_is)
    (case e9 => k_is)
    (case k9 => k_is)
    (case a10 => k_is)
    (case l10 => k_is)
    (case e10 => k_is)
    (case k10 => k_is)
    (case a11 => k_is)
    (case l11 => k_is)
    (case e11 => k_is)
    (case k11 => k_is)
    (case a12 => k_is)
    (case l12 => k_is)
    (case e12 => k_is)
    (case k12 => k_is)
    (case a13 => k_is)
    (case l13 => k_is)
    (case e13 => k_is)
    (case k13 => k_is)
    (case a14 => k_is)
    (case l14 => k_is)
    (case e14 => k_is)
    (case k14 => k_is)
    (case a15 => k_is)
    (case l15 => k_is)
    (case e15 => k_is)
    (case k15 => k_is)
    (case a16 => k_is)
    (case l16 => k_is)
    (case e16 => k_is)
    (case k16 => k_is)
    (case a17 => k_is)
    (case l17 => k_is)
    (case e17 => k_is)
    (case k17 => k_is)
    (case a18 => k_is)
    (case l18 => k_is)
    (case e18 => k_is)
    (case k18 => k_is)
    (case a19 => k_is)
    (case l19 => k_is)
    (case e19 => k_is)
    (case k19 => k_is)
    (case a20 => k_is)
    (case l20 => k_is)
    (case e20 => k_is)
    (case k20 => k_is)
    (case a21 => k_is)
    (case l21 => k_is)
    (case e21 => k_is)
    (case k21 => k_is)
    (case a22 => k_is)
    (case l22 => k_is)
    (case e22 => k_is)
    (case k22 => k_is)
    (case z_abs => k_is)
    (case z_bool => k_is)
    (case z_enumerate => k_is)
    (case z_int => k_is)
    (case z_isinstance => k_is)
    (case z_len => k_is)
    (case z_list => k_is)
    (case z_max => k_is)
    (case z_min => k_is)
    (case z_range => k_is)
    (case z_sorted => k_is)
    (case z_sum => k_is)
    (case k_Book => k_is)
    (case cl_Bookpg => k_is)
    (case cl_Bookhd => k_is)
    (case cl_Bookpo => k_is)
    (case cl_Booksa => k_is)
    (case na_Book_bottom => k_is)
    (case na_Book_tops => k_is)
    (case dia_Book => k_is)
    (case dii_Book => k_is)
    (case dil_Book => k_is)
    (case dic_Book => k_is)
    (case dik_Book => k_is)
    (case dim_Book => k_is)
    (case diq_Book => k_is)
